import PyProof.Rows.All
import Wide.All
import OpenK.AllK
import Wide.FinOn
import Lean
import PyProof.EqAt
import PyProof.EqKinds
import PyProof.TupleCall
import KE.KRevIter
import PyProof.ListNew
import PyProof.Draws
import PyProof.EnumMake
import PyProof.Rows.EnumRows
import PyProof.ZipIter
import PyProof.ConsumeWalk
import KE.LcSums
import PyProof.AttrMissHeap
import KE.KDictOf
import PyProof.DictWalks
import PyProof.ListMulRoad
import PyProof.FactsAll.tuple
import PyProof.NeKinds
import KE.RegKTryMore
import KE.RegKIsAll
import PyProof.StrWalks
import PyProof.Rows.SetFrom
import PyProof.FString5
import Wide.Txt
import PyProof.Rows.SeqMore
import PyProof.StrOps2
import KE.KEqDict
import PyProof.CollectIter
import PyProof.JoinWalk
import PyProof.CallStr
import PyProof.DictRoadsH
import PyProof.MeetsDictList
import PyProof.DictTruth
import PyProof.StrLawsChain
import PyProof.StrCalls6
import PyProof.ToksMono
import PyProof.StrCalls2
import KE.KWords
import PyProof.MeetsStr2
import PySem.Challenge.RW_boughbook_k19_books_made
set_option Elab.async false
set_option linter.all false
set_option maxRecDepth 100000
namespace L2
open PySem PySem.Spec PyProof.Rows
abbrev Key := Sum Int Str
def keyIs : Key → Value → Bool
  | .inl k, v => Value.isInt k v
  | .inr x, v => Value.isStrOf x v
def keyH (w : World) : Key → Int
  | .inl k => hashInt k
  | .inr x => hashStr w x
theorem keyIs_shape : ∀ {k : Key} {v : Value}, keyIs k v = true → (∃ i t, k = Sum.inl i ∧ v = Value.int i t) ∨ (∃ x t, k = Sum.inr x ∧ v = Value.str x t)
  | .inl i, v, h => by
    obtain ⟨t, e⟩ := Value.isInt_shape (k := i) (v := v) h
    exact .inl ⟨i, t, rfl, e⟩
  | .inr x, v, h => by
    obtain ⟨t, e⟩ := Value.isStrOf_shape (x := x) (v := v) h
    exact .inr ⟨x, t, rfl, e⟩
theorem key_ll (a b : Int) : decide ((Sum.inl a : Key) = Sum.inl b) = (a == b) := by
  by_cases e : a = b
  · subst e; simp
  · have h : ¬ (Sum.inl a : Key) = Sum.inl b := fun q => e (Sum.inl.inj q)
    rw [decide_eq_false h]
    exact (beq_eq_false_iff_ne.mpr e).symm
theorem key_rr (a b : Str) : decide ((Sum.inr a : Key) = Sum.inr b) = decide (a = b) := by
  by_cases e : a = b
  · subst e; simp
  · have h : ¬ (Sum.inr a : Key) = Sum.inr b := fun q => e (Sum.inr.inj q)
    rw [decide_eq_false h, decide_eq_false e]
theorem key_lr (a : Int) (b : Str) : decide ((Sum.inl a : Key) = Sum.inr b) = false := decide_eq_false (fun q => nomatch q)
theorem key_rl (a : Str) (b : Int) : decide ((Sum.inr a : Key) = Sum.inl b) = false := decide_eq_false (fun q => nomatch q)
def mixKind (prog : Program) (w : World) : PySem.KeyKind prog w Key where
  is := keyIs
  hash := keyH w
  inj := fun v a b ha hb => by
    rcases keyIs_shape ha with ⟨i, t, rfl, rfl⟩ | ⟨x, t, rfl, rfl⟩
    · rcases keyIs_shape hb with ⟨j, u, rfl, e⟩ | ⟨y, u, rfl, e⟩
      · injection e with e1 _; rw [e1]
      · exact nomatch e
    · rcases keyIs_shape hb with ⟨j, u, rfl, e⟩ | ⟨y, u, rfl, e⟩
      · exact nomatch e
      · injection e with e1 _; rw [e1]
  byValue := fun k v h => by
    rcases keyIs_shape h with ⟨i, t, rfl, rfl⟩ | ⟨x, t, rfl, rfl⟩ <;> rfl
  pyHash := fun hv h => by
    rcases keyIs_shape hv with ⟨i, t, rfl, rfl⟩ | ⟨x, t, rfl, rfl⟩
    · exact wpAny_pyHash_int h
    · exact wpAny_pyHash_str h
  eqBool := fun hu hv h => by
    rcases keyIs_shape hu with ⟨i, t, rfl, rfl⟩ | ⟨x, t, rfl, rfl⟩
    · rcases keyIs_shape hv with ⟨j, u, rfl, rfl⟩ | ⟨y, u, rfl, rfl⟩
      · rw [key_ll] at h; exact wpAny_eqBool_int h
      · rw [key_lr] at h; exact SeqAt.EqAt.int_str i t y u _ _ _ _ h
    · rcases keyIs_shape hv with ⟨j, u, rfl, rfl⟩ | ⟨y, u, rfl, rfl⟩
      · rw [key_rl] at h; exact SeqAt.EqAt.str_int x t j u _ _ _ _ h
      · rw [key_rr] at h; exact wpAny_eqBool_str h
  «strs» := fun k x t v h => by
    rcases keyIs_shape h with ⟨i, u, rfl, e⟩ | ⟨y, u, rfl, e⟩
    · exact nomatch e
    · injection e with e1 _
      subst e1
      cases v <;> rfl
end L2
namespace L2
open PySem PySem.Spec PyProof.Rows
inductive V where
  | non | bl (b : Bool) | int (i : Int) | str (x : Str) | byt (b : Array UInt8) | flt (b : UInt64) | ref (a : Addr) | ty (n : String)
  deriving DecidableEq
def RelV : V → Value → Prop
  | .non, u => u = Value.none
  | .bl b, u => u = Value.bool b
  | .int i, u => ∃ t, u = Value.int i t
  | .str x, u => ∃ t, u = Value.str x t
  | .byt b, u => ∃ t, u = Value.bytes b t
  | .flt b, u => ∃ t, u = Value.float b t
  | .ref a, u => u = Value.ref a
  | .ty n, u => u = Value.type n
abbrev Vals : List V → List Value → Prop := Paired RelV
theorem Vals.length {xs : List V} {us : List Value} (r : Vals xs us) : xs.length = us.length := Paired.length r
theorem Vals.get : ∀ {xs : List V} {us : List Value} {i : Nat} {x : V}, Vals xs us → xs[i]? = some x → ∃ u, us[i]? = some u ∧ RelV x u
  | _, _, _, _, .nil, e => by simp at e
  | _, _, 0, _, .cons r _, e => by simp at e; subst e; exact ⟨_, rfl, r⟩
  | _, _, i + 1, x, .cons _ t, e => by
    obtain ⟨u, h1, h2⟩ := Vals.get (i := i) (x := x) t (by simpa using e)
    exact ⟨u, by simpa using h1, h2⟩
theorem Vals.set {x : V} {u : Value} (r : RelV x u) : ∀ {xs : List V} {us : List Value} (i : Nat), Vals xs us → Vals (xs.set i x) (us.set i u)
  | _, _, _, .nil => .nil
  | _, _, 0, .cons _ t => .cons r t
  | _, _, i + 1, .cons q t => .cons q (Vals.set r i t)
theorem Vals.append : ∀ {xs ys : List V} {us ws : List Value}, Vals xs us → Vals ys ws → Vals (xs ++ ys) (us ++ ws)
  | _, _, _, _, .nil, s => s
  | _, _, _, _, .cons r t, s => .cons r (Vals.append t s)
theorem Vals.take : ∀ {xs : List V} {us : List Value} (n : Nat), Vals xs us → Vals (xs.take n) (us.take n)
  | _, _, 0, _ => .nil
  | _, _, _ + 1, .nil => .nil
  | _, _, n + 1, .cons r t => .cons r (Vals.take n t)
theorem Vals.drop : ∀ {xs : List V} {us : List Value} (n : Nat), Vals xs us → Vals (xs.drop n) (us.drop n)
  | _, _, 0, r => r
  | _, _, _ + 1, .nil => .nil
  | _, _, n + 1, .cons _ t => Vals.drop n t
def RelO : Option V → Option Value → Prop
  | some v, some u => RelV v u
  | none, none => True
  | _, _ => False
def KV {κ : Type} : List (κ × V) → List (κ × Value) → Prop := Paired fun (p : κ × V) (q : κ × Value) => p.1 = q.1 ∧ RelV p.2 q.2
def kV : Key → V
  | .inl i => .int i
  | .inr x => .str x
inductive HO where
  /-- a list -/
  | lst (xs : List V)
  /-- a tuple (never changes) -/
  | tup (xs : List V)
  /-- a dict whose keys are ints and texts; one whose keys are tuples of ints and texts (the empty one is both) -/
  | dK (kvs : List (Key × V)) | dT (kvs : List (List Key × V))
  /-- a set of ints: its members, its size -/
  | set (S : Int → Bool) (n : Nat)
  /-- an instance of the class at C, its dict at dx, its attributes -/
  | ins (C dx : Addr) (fs : List (Str × V))
  /-- the dict of the instance at x -/
  | own (x : Addr)
  /-- the dict of an exception -/
  | xd (fs : List (Str × V))
  /-- a bound method, f of x -/
  | met (f x : Addr)
  /-- a range object lo, lo + 1, .. below hi -/
  | rng (lo hi : Int)
  /-- a thing that is known to the object (the script; a dict while a loop walks it): read, never written while it is so -/
  | frz (o : Obj) (u : HO)
  /-- a code object's table -/
  | tbl (ps : Array Value)
  /-- any other thing, by what is true of its one object (a def of one's own: SetO a S n := HO.ext fun h => ..) -/
  | ext (φ : Heap → Prop)
abbrev Hp := Addr → Option HO
def upd (H : Hp) (a : Addr) (o : HO) : Hp := fun b => if b = a then some o else H b
theorem upd_same {H : Hp} {a : Addr} {o : HO} : upd H a o a = some o := by unfold upd; rw [if_pos rfl]
theorem upd_ne {H : Hp} {a b : Addr} {o : HO} (h : b ≠ a) : upd H a o b = H b := by unfold upd; rw [if_neg h]
theorem upd_upd {H : Hp} {a : Addr} {o u : HO} : upd (upd H a o) a u = upd H a u := by
  funext b; unfold upd; split <;> rfl
theorem ne_of {H : Hp} {a b : Addr} {o u : HO} (h : H a = some o) (h' : H b = some u) (d : o ≠ u) : a ≠ b := by
  intro e; subst e; rw [h] at h'; exact d (Option.some.inj h')
theorem ne_of_none {H : Hp} {a b : Addr} {o : HO} (h : H a = some o) (h' : H b = none) : a ≠ b := by
  intro e; subst e; rw [h] at h'; cases h'
section
variable (P : Program) (w : World)
def ObjOk (H : Hp) (h : Heap) (a : Addr) : HO → Prop
  | .lst xs => xs.length ≤ sizeLine ∧ ∃ (its : List Value) (n : Nat), Vals xs its ∧ h.get? a = some { cls := .type "list", data := .seq its.toArray n }
  | .tup xs => xs.length ≤ sizeLine ∧ ∃ (its : List Value) (n : Nat), Vals xs its ∧ h.get? a = some { cls := .type "tuple", data := .seq its.toArray n }
  | .dK kvs => kvs.length ≤ sizeLine ∧ (a == sysModules) = false ∧ ∃ vs, KV kvs vs ∧ h.DictOf (mixKind P w) a vs
  | .dT kvs => kvs.length ≤ sizeLine ∧ (a == sysModules) = false ∧ ∃ xs : List (List Key × Addr × Value),
      Paired (fun (p : List Key × V) (q : List Key × Addr × Value) => p.1 = q.1 ∧ H q.2.1 = some (.tup (p.1.map kV)) ∧ RelV p.2 q.2.2) kvs xs ∧
      ∃ o es ep, h.get? a = some o ∧ o.ExactDict ∧ o.data = .dict es ep ∧ es.toList = xs.map (entryOfKey (tupleKind (mixKind P w))) ∧ (xs.map (·.1)).Nodup
  | .set S n => h.SetOf (intKind P w) a S n
  | .ins C dx fs => H dx = some (.own a) ∧ fs.length ≤ 1000 ∧ dx ≠ a ∧ h.get? a = some (PySem.W.instObj C dx) ∧
      ∃ mA, h.Ns1 dx mA ∧ (∀ f, RelO (fs.lookup f) (mA f)) ∧ PySem.Within mA (fs.map (·.1))
  | .own _ => ∃ o, h.get? a = some o
  | .xd fs => ∃ mA, h.Ns1 a mA ∧ ∀ f, RelO (fs.lookup f) (mA f)
  | .rng lo hi => ∃ t u v, h.get? a = some { cls := .type "range", data := .fields #[.int lo t, .int hi u, .int 1 v] }
  | .frz o u => h.get? a = some o ∧ ObjOk H h a u
  | .tbl ps => h.get? a = some { cls := .none, data := .fields ps }
  | .met f x => h.get? a = some (PySem.W.methodObj (.ref f) (.ref x))
  | .ext φ => φ h ∧ (∃ o, h.get? a = some o) ∧ ∀ h1 h2 : Heap, φ h1 → (∀ o, h1.get? a = some o → h2.get? a = some o) → φ h2
def HOk (H : Hp) (h : Heap) : Prop := ∀ a o, H a = some o → ObjOk P w H h a o
end
section
variable {P : Program} {w : World} {H H' : Hp} {h h' : Heap} {a : Addr} {o : HO}
theorem ObjOk.lt (x : ObjOk P w H h a o) : a < h.objs.size := by
  cases o with
  | lst xs => obtain ⟨_, _, _, _, e⟩ := x; exact Heap.lt_size e
  | tup xs => obtain ⟨_, _, _, _, e⟩ := x; exact Heap.lt_size e
  | dK kvs => obtain ⟨_, _, _, _, o, _, _, e, _⟩ := x; exact Heap.lt_size e
  | dT kvs => obtain ⟨_, _, _, _, o, _, _, e, _⟩ := x; exact Heap.lt_size e
  | set S n => obtain ⟨o, _, _, _, e, _⟩ := x; exact Heap.lt_size e
  | ins C dx fs => obtain ⟨_, _, _, e, _⟩ := x; exact Heap.lt_size e
  | own y => obtain ⟨_, e⟩ := x; exact Heap.lt_size e
  | xd fs => obtain ⟨_, ⟨_, _, _, e, _⟩, _⟩ := x; exact Heap.lt_size e
  | rng lo hi => obtain ⟨_, _, _, e⟩ := x; exact Heap.lt_size e
  | frz ob u => obtain ⟨e, _⟩ := x; exact Heap.lt_size e
  | tbl ps => exact Heap.lt_size (show h.get? a = some _ from x)
  | met f y => exact Heap.lt_size (show h.get? a = some _ from x)
  | ext φ => obtain ⟨_, ⟨_, e⟩, _⟩ := x; exact Heap.lt_size e
theorem Paired.mapP {α β : Type} {F G : α → β → Prop} : ∀ {l₁ : List α} {l₂ : List β}, Paired F l₁ l₂ → (∀ a b, F a b → G a b) → Paired G l₁ l₂
  | _, _, .nil, _ => .nil
  | _, _, .cons r t, f => .cons (f _ _ r) (Paired.mapP t f)
theorem ObjOk.stay (x : ObjOk P w H h a o) (k : ∀ b u, (b = a ∨ H b = some (.own a)) → h.get? b = some u → h'.get? b = some u)
    (ho : ∀ b, H b = some (.own a) → H' b = some (.own a)) (ht : ∀ b xs, H b = some (.tup xs) → H' b = some (.tup xs)) : ObjOk P w H' h' a o := by
  induction o with
  | lst xs => obtain ⟨z, its, n, r, e⟩ := x; exact ⟨z, its, n, r, k _ _ (.inl rfl) e⟩
  | tup xs => obtain ⟨z, its, n, r, e⟩ := x; exact ⟨z, its, n, r, k _ _ (.inl rfl) e⟩
  | dK kvs => obtain ⟨z, y, vs, r, ob, es, ep, e, c⟩ := x; exact ⟨z, y, vs, r, ob, es, ep, k _ _ (.inl rfl) e, c⟩
  | dT kvs =>
    obtain ⟨z, y, xs, r, ob, es, ep, e, c⟩ := x
    exact ⟨z, y, xs, Paired.mapP r fun p q z => ⟨z.1, ht _ _ z.2.1, z.2.2⟩, ob, es, ep, k _ _ (.inl rfl) e, c⟩
  | set S n => obtain ⟨ob, es, ep, t, e, c⟩ := x; exact ⟨ob, es, ep, t, k _ _ (.inl rfl) e, c⟩
  | ins C dx fs =>
    obtain ⟨d, z, ne, e, mA, ⟨od, es, ep, e2, c⟩, r⟩ := x
    exact ⟨ho _ d, z, ne, k _ _ (.inl rfl) e, mA, ⟨od, es, ep, k _ _ (.inr d) e2, c⟩, r⟩
  | own y => obtain ⟨ob, e⟩ := x; exact ⟨ob, k _ _ (.inl rfl) e⟩
  | xd fs => obtain ⟨mA, ⟨od, es, ep, e, c⟩, r⟩ := x; exact ⟨mA, ⟨od, es, ep, k _ _ (.inl rfl) e, c⟩, r⟩
  | rng lo hi => obtain ⟨t, u, v, e⟩ := x; exact ⟨t, u, v, k _ _ (.inl rfl) e⟩
  | frz ob u ih => obtain ⟨e, q⟩ := x; exact ⟨k _ _ (.inl rfl) e, ih q⟩
  | tbl ps =>
    have e : h.get? a = some { cls := .none, data := .fields ps } := x
    show h'.get? a = some { cls := .none, data := .fields ps }
    exact k a _ (.inl rfl) e
  | met f y =>
    have e : h.get? a = some (PySem.W.methodObj (.ref f) (.ref y)) := x
    show h'.get? a = some (PySem.W.methodObj (.ref f) (.ref y))
    exact k a _ (.inl rfl) e
  | ext φ => obtain ⟨p, ⟨o, e⟩, st⟩ := x; exact ⟨st _ _ p fun o q => k _ _ (.inl rfl) q, ⟨o, k _ _ (.inl rfl) e⟩, st⟩
theorem HOk.lt (x : HOk P w H h) (e : H a = some o) : a < h.objs.size := (x a o e).lt
theorem HOk.fresh (x : HOk P w H h) (e : h.objs.size ≤ a) : H a = none := by
  cases q : H a with
  | none => rfl
  | some u => exact absurd (Nat.lt_of_lt_of_le (x.lt q) e) (Nat.lt_irrefl _)
theorem HOk.kept (x : HOk P w H h) (k : ∀ b u, h.get? b = some u → h'.get? b = some u) : HOk P w H h' := fun a o e =>
  (x a o e).stay (fun b u _ q => k b u q) (fun _ q => q) fun _ _ q => q
theorem HOk.laid (x : HOk P w H h) (k : ∀ b u, h.get? b = some u → h'.get? b = some u) (hp : h.objs.size ≤ a) (new : ObjOk P w (upd H a o) h' a o) : HOk P w (upd H a o) h' := fun b u e => by
  have hn := x.fresh hp
  by_cases hb : b = a
  · subst hb; rw [upd_same] at e; cases e; exact new
  · rw [upd_ne hb] at e
    exact (x b u e).stay (fun c v _ q => k c v q) (fun c q => by rw [upd_ne (ne_of_none q hn)]; exact q) fun c xs q => by rw [upd_ne (ne_of_none q hn)]; exact q
end
def Rd (H : Hp) (a : Addr) (u : HO) : Prop := H a = some u ∨ ∃ o, H a = some (.frz o u)
theorem Rd.ok {P : Program} {w : World} {H : Hp} {h : Heap} {a : Addr} {u : HO} (r : Rd H a u) (x : HOk P w H h) : ObjOk P w H h a u := by
  rcases r with r | ⟨o, r⟩
  · exact x a u r
  · obtain ⟨_, q⟩ := x a _ r
    exact q
def Mut : Option HO → Prop
  | some (.lst _) => True
  | some (.dK _) => True
  | some (.dT _) => True
  | some (.set _ _) => True
  | some (.ins _ _ _) => True
  | some (.ext _) => True
  | _ => False
section
variable {P : Program} {w : World} {H : Hp} {h h' : Heap} {x e : Addr} {o' : HO}
theorem HOk.write (ok : HOk P w H h) (mu : Mut (H x)) (he : e = x ∨ H e = some (.own x)) (k : ∀ b u, b ≠ e → h.get? b = some u → h'.get? b = some u) (heo : ∃ u, h'.get? e = some u)
    (new : ObjOk P w (upd H x o') h' x o') : HOk P w (upd H x o') h' := fun b u q => by
  have nown : ∀ c y, H c = some (.own y) → c ≠ x := fun c y r z => by subst z; rw [r] at mu; exact mu
  have ntup : ∀ c xs, H c = some (.tup xs) → c ≠ x := fun c xs r z => by subst z; rw [r] at mu; exact mu
  by_cases hb : b = x
  · subst hb; rw [upd_same] at q; cases q; exact new
  · rw [upd_ne hb] at q
    by_cases hbe : b = e
    · have q' : H b = some (.own x) := by
        rcases he with z | z
        · exact absurd (hbe.trans z) hb
        · rw [hbe]; exact z
      rw [q] at q'; cases q'
      obtain ⟨v, hv⟩ := heo
      exact ⟨v, by rw [hbe]; exact hv⟩
    · refine (ok b u q).stay (fun c v hc r => k c v ?_ r) (fun c r => by rw [upd_ne (nown c b r)]; exact r) fun c xs r => by rw [upd_ne (ntup c xs r)]; exact r
      rcases hc with rfl | hc
      · exact hbe
      · rintro rfl
        rcases he with z | z
        · exact nown c b hc z
        · rw [hc] at z; cases z; exact hb rfl
end
structure Un (fs ex : List Addr) (H H' : Hp) (h h' : Heap) : Prop where
  keep : ∀ b o, h.get? b = some o → H b = none → b ∉ fs → b ∉ ex → h'.get? b = some o
  slot : ∀ b o, h.get? b = some o → H b = none → b ∈ fs → b ∉ ex → ∃ sl, h'.get? b = some { o with slots := sl }
  free : ∀ b o, h.get? b = some o → H b = none → b ∉ ex → H' b = none
  there : ∀ b o, h.get? b = some o → b ∉ ex → ∃ o', h'.get? b = some o'
  tups : ∀ b xs, H b = some (.tup xs) → H' b = some (.tup xs)
  frzs : ∀ b o u, H b = some (.frz o u) → H' b = some (.frz o u)
  tbls : ∀ b ps, H b = some (.tbl ps) → ∃ more, H' b = some (.tbl (ps ++ more))
section
variable {fs fs' ex ex' : List Addr} {H H1 H2 : Hp} {h h1 h2 h' : Heap} {a x e : Addr} {o : HO}
theorem Un.any (u : Un fs ex H H1 h h1) {b : Addr} {ob : Obj} (q : h.get? b = some ob) (n : H b = none) (hx : b ∉ ex) : ∃ sl, h1.get? b = some { ob with slots := sl } := by
  by_cases hb : b ∈ fs
  · exact u.slot b ob q n hb hx
  · exact ⟨ob.slots, u.keep b ob q n hb hx⟩
theorem Un.kept (k : ∀ b u, h.get? b = some u → h'.get? b = some u) : Un fs ex H H h h' :=
  ⟨fun b ob q _ _ _ => k b ob q, fun b ob q _ _ _ => ⟨ob.slots, k b ob q⟩, fun _ _ _ n _ => n, fun b ob q _ => ⟨ob, k b ob q⟩, fun _ _ q => q, fun _ _ _ q => q, fun _ ps q => ⟨#[], by rw [q]; simp⟩⟩
theorem Un.refl : Un fs ex H H h h := Un.kept fun _ _ q => q
theorem Un.laid (k : ∀ b u, h.get? b = some u → h'.get? b = some u) (hp : h.objs.size ≤ a) (hn : H a = none) : Un fs ex H (upd H a o) h h' where
  keep := fun b u q _ _ _ => k b u q
  slot := fun b u q _ _ _ => ⟨u.slots, k b u q⟩
  free := fun b u q n _ => by rw [upd_ne (Nat.ne_of_lt (Nat.lt_of_lt_of_le (Heap.lt_size q) hp))]; exact n
  there := fun b u q _ => ⟨u, k b u q⟩
  tups := fun b xs q => by rw [upd_ne (ne_of_none q hn)]; exact q
  frzs := fun b u xs q => by rw [upd_ne (ne_of_none q hn)]; exact q
  tbls := fun b ps q => ⟨#[], by rw [upd_ne (ne_of_none q hn), q]; simp⟩
theorem Un.write (mu : Mut (H x)) (he : e = x ∨ H e = some (.own x)) (k : ∀ b u, b ≠ e → h.get? b = some u → h'.get? b = some u) (heo : ∃ u, h'.get? e = some u) : Un fs ex H (upd H x o) h h' := by
  have hx : ∀ b, H b = none → b ≠ x := fun b n z => by subst z; rw [n] at mu; exact mu
  have hb : ∀ b, H b = none → b ≠ e := fun b n z => by
    subst z
    rcases he with r | r
    · exact hx b n r
    · rw [n] at r; cases r
  have hm : ∀ b u, H b = some u → ¬ Mut (some u) → b ≠ x := fun b u q nm z => by subst z; rw [q] at mu; exact nm mu
  refine ⟨fun b u q n _ _ => k b u (hb b n) q, fun b u q n _ _ => ⟨u.slots, k b u (hb b n) q⟩, fun b u q n _ => by rw [upd_ne (hx b n)]; exact n, fun b u q _ => ?_,
    fun b xs q => by rw [upd_ne (hm b _ q fun z => z)]; exact q, fun b u xs q => by rw [upd_ne (hm b _ q fun z => z)]; exact q, fun b ps q => ⟨#[], by rw [upd_ne (hm b _ q fun z => z), q]; simp⟩⟩
  by_cases hbe : b = e
  · subst hbe; exact heo
  · exact ⟨u, k b u hbe q⟩
end
def trk (h : Heap) (H : Hp) : List Addr := (List.range h.objs.size).filter fun a => (H a).isSome
def hidT (h : Heap) (H : Hp) : Heap := PySem.W.hideAll h (trk h H)
theorem hidT_size (h : Heap) (H : Hp) : (hidT h H).objs.size = h.objs.size := PySem.W.hideAll_size _ _
theorem hidT_get {h : Heap} {H : Hp} {b : Addr} {o : Obj} (e : h.get? b = some o) (n : H b = none) : (hidT h H).get? b = some o :=
  PySem.W.hideAll_get _ e fun hm => by
    have q : (H b).isSome = true := (List.mem_filter.mp hm).2
    rw [n] at q; simp at q
theorem of_hidT {h : Heap} {H : Hp} {b : Addr} {o : Obj} (e : (hidT h H).get? b = some o) : h.get? b = some o ∧ H b = none := by
  have e' : h.get? b = some o := PySem.W.of_hideAll (trk h H) e
  refine ⟨e', ?_⟩
  cases q : H b with
  | none => rfl
  | some x =>
    have hm : b ∈ trk h H := List.mem_filter.mpr ⟨List.mem_range.mpr (Heap.lt_size e'), by simp [q]⟩
    have z : (hidT h H).get? b = none := PySem.W.hideAll_none (trk h H) hm
    rw [z] at e; cases e
end L2
namespace L2
open PySem PySem.Spec PyProof.Rows
structure Mod (K : PySem.W.Frag) (mg : Str → Option Value) (base : Heap) : Prop where
  kin : K.In base
  glob : base.Ns mainGlobals mg
  blt : ∃ mb, base.Ns builtinsNs mb ∧ ∀ x : Str, x ≠ "__name__" → mb x = bootBuiltins x
  nolimit : base.NoLimit
structure Cx where
  prog : Program
  w : World
  K : PySem.W.Frag
  mg : Str → Option Value
  base : Heap
  A : Around
  N : List Str
  s₀ : Shared
  H₀ : Hp
  env : Env
  outer : List Env
  stack : List Env
  ex : List Addr
  fn : Str → Bool
  calm : Bool
  pn : List (Addr × Obj)
  xe : Value → Shared → Prop
def frs (l : List Env) : List Addr := l.filterMap (·.frame)
abbrev Cx.fs (X : Cx) : List Addr := frs X.outer
def Vis (sc : Scope) (x : Str) : Prop := sc.names.lookup x = some .local ∨ sc.names.lookup x = some .cell ∨ sc.names.lookup x = some .free
def Loc (sc : Scope) (x : Str) : Prop := sc.names.lookup x = some .local ∨ sc.names.lookup x = some .cell
def Look (env : Env) (h : Heap) (m : Str → Option Value) (x : Str) (u : Value) : Prop :=
  (env.kindOf x = some .local ∧ m x = some u) ∨ ((env.kindOf x = some .cell ∨ env.kindOf x = some .free) ∧ ∃ c, env.cells.lookup x = some c ∧ h.IsCell c (some u))
structure Cx.Ok (X : Cx) : Prop where
  mod : Mod X.K X.mg X.base
  kind : X.env.scope.kind = .function
  glob : X.env.globals = mainGlobals
  blt : X.env.builtins = builtinsNs
  above : X.s₀.heap.objs.size ≤ X.env.locals
  inj : ∀ x y c, X.env.cells.lookup x = some c → X.env.cells.lookup y = some c → x = y
  has : ∀ x, (X.env.kindOf x = some .cell ∨ X.env.kindOf x = some .free) → ∃ c, X.env.cells.lookup x = some c
  cab : ∀ x c, X.fn x = true → X.env.cells.lookup x = some c → X.s₀.heap.objs.size ≤ c
  hd : X.calm = true → X.A.handled = none
  frames : X.A.frames = some X.stack
  stk : X.stack = X.outer ∨ (X.stack = X.env :: X.outer ∧ X.env.frame = some X.env.locals)
  exf : ∀ b ∈ X.ex, b ≠ X.env.locals ∧ ∀ x c, X.env.cells.lookup x = some c → c ≠ b
  bs : ∀ b o, X.base.get? b = some o → X.s₀.heap.get? b = some o ∧ X.H₀ b = none
  bsz : X.base.objs.size ≤ X.s₀.heap.objs.size
  noex : ∀ b o, X.base.get? b = some o → b ∉ X.ex
  exfs : ∀ b ∈ X.ex, b ∉ X.fs
  funs : X.s₀.heap.FunFrames X.base X.outer
  frf : ∀ b ∈ X.fs, X.H₀ b = none
structure Inv (X : Cx) (pins : List (Addr × Obj)) (σ : List (Option V)) (H : Hp) (s : Shared) : Prop where
  ok : X.Ok
  os : s.os = X.s₀.os
  bare : AllBare s.gens
  base : Un X.fs X.ex X.H₀ H X.s₀.heap s.heap
  loc : ∃ m, s.heap.Ns X.env.locals m ∧ ∀ (i : Nat) (x : Str) (v : V), X.N[i]? = some x → σ[i]? = some (some v) → Vis X.env.scope x → ∃ u, RelV v u ∧ Look X.env s.heap m x u
  cell : ∀ x c, X.env.cells.lookup x = some c → ∃ v, s.heap.IsCell c v
  free : H X.env.locals = none
  freeC : ∀ x c, X.env.cells.lookup x = some c → H c = none
  pin : ∀ p ∈ X.pn ++ pins, s.heap.get? p.1 = some p.2 ∧ H p.1 = none ∧ p.1 ≠ X.env.locals ∧ p.1 ∉ X.fs ∧ ∀ v, p.2.data ≠ .cell v
  hok : HOk X.prog X.w H s.heap
  len : σ.length = X.N.length
section
variable {X : Cx} {pins : List (Addr × Obj)} {σ : List (Option V)} {H H' : Hp} {s : Shared} {h' : Heap}
theorem Cx.Ok.nofr (ok : X.Ok) {b : Addr} {o : Obj} (e : X.base.get? b = some o) : b ∉ X.fs := fun hb => by
  have := (ok.funs.mem hb).1
  rw [e] at this; cases this
theorem Inv.bs (I : Inv X pins σ H s) : ∀ b o, X.base.get? b = some o → s.heap.get? b = some o ∧ H b = none := fun b o e =>
  ⟨I.base.keep b o (I.ok.bs b o e).1 (I.ok.bs b o e).2 (I.ok.nofr e) (I.ok.noex b o e), I.base.free b o (I.ok.bs b o e).1 (I.ok.bs b o e).2 (I.ok.noex b o e)⟩
theorem Inv.bk (I : Inv X pins σ H s) : ∀ b o, X.base.get? b = some o → s.heap.get? b = some o := fun b o e => (I.bs b o e).1
theorem Inv.mod (I : Inv X pins σ H s) : Mod X.K X.mg X.base := I.ok.mod
theorem Inv.kIn (I : Inv X pins σ H s) : X.K.In s.heap := I.ok.mod.kin.keeps I.bk
theorem Inv.lt (I : Inv X pins σ H s) : X.env.locals < s.heap.objs.size := let ⟨_, hn, _⟩ := I.loc; hn.lt
theorem Inv.sz (I : Inv X pins σ H s) : X.s₀.heap.objs.size ≤ s.heap.objs.size := Nat.le_trans I.ok.above (Nat.le_of_lt I.lt)
theorem Inv.nofs (I : Inv X pins σ H s) {a : Addr} (h : s.heap.objs.size ≤ a) : a ∉ X.fs := fun hb => by
  obtain ⟨_, o, ho, _⟩ := I.ok.funs.mem hb
  exact absurd (Nat.lt_of_lt_of_le (Heap.lt_size ho) (Nat.le_trans I.sz h)) (Nat.lt_irrefl _)
theorem Inv.cne (I : Inv X pins σ H s) : ∀ x c, X.env.cells.lookup x = some c → c ≠ X.env.locals := fun x c e z => by
  obtain ⟨v, o, ho, hd⟩ := I.cell x c e
  obtain ⟨m, ⟨o', es, ep, ho', hd', _⟩, _⟩ := I.loc
  rw [z, ho'] at ho; cases ho; rw [hd'] at hd; cases hd
theorem Inv.funs (I : Inv X pins σ H s) : s.heap.FunFrames X.base X.outer := by
  have all : ∀ (l : List Env), (∀ b ∈ frs l, b ∈ X.fs) → X.s₀.heap.FunFrames X.base l → s.heap.FunFrames X.base l := by
    intro l
    induction l with
    | nil => intro _ _; trivial
    | cons env r ih =>
      intro hs hl
      obtain ⟨hk, ⟨L, o, hf, hn, ho, hd⟩, hr⟩ := hl
      have hL : L ∈ X.fs := hs L (by unfold frs; rw [List.filterMap_cons, hf]; exact List.mem_cons_self)
      obtain ⟨sl, e⟩ := I.base.slot L o ho (I.ok.frf L hL) hL fun z => I.ok.exfs L z hL
      exact ⟨hk, ⟨L, _, hf, hn, e, hd⟩, ih (fun b hb => hs b (by unfold frs; rw [List.filterMap_cons, hf]; exact List.mem_cons_of_mem _ hb)) hr⟩
  exact all X.outer (fun _ hb => hb) I.ok.funs
theorem Inv.stack (I : Inv X pins σ H s) : s.heap.FunFrames X.base X.stack := by
  rcases I.ok.stk with e | ⟨e, hf⟩
  · rw [e]; exact I.funs
  · rw [e]
    obtain ⟨m, hn, _⟩ := I.loc
    refine .cons (by rw [I.ok.kind]; decide) hf hn ?_ I.funs
    exact Heap.get?_none_of_le (Nat.le_trans I.ok.bsz I.ok.above)
theorem Inv.stkSub (I : Inv X pins σ H s) : ∀ b ∈ frs X.stack, b ∈ X.env.locals :: X.fs := fun b hb => by
  rcases I.ok.stk with e | ⟨e, hf⟩
  · rw [e] at hb; exact List.mem_cons_of_mem _ hb
  · rw [e] at hb
    unfold frs at hb
    rw [List.filterMap_cons, hf] at hb
    exact hb
theorem Inv.stkFree (I : Inv X pins σ H s) : ∀ b ∈ frs X.stack, H b = none := fun b hb => by
  rcases List.mem_cons.mp (I.stkSub b hb) with e | hb
  · rw [e]; exact I.free
  · obtain ⟨_, o, ho, _⟩ := I.ok.funs.mem hb
    exact I.base.free b o ho (I.ok.frf b hb) fun z => I.ok.exfs b z hb
theorem Inv.step {g' : Array GenState} {t' : Nat} {d' : Drawn} {ch : List Addr} (I : Inv X pins σ H s)
    (hch : ∀ b ∈ ch, (b ∈ X.ex ∨ X.s₀.heap.objs.size ≤ b) ∧ b ≠ X.env.locals ∧ (∀ x c, X.env.cells.lookup x = some c → c ≠ b) ∧ ∀ p ∈ X.pn ++ pins, p.1 ≠ b)
    (keep : ∀ b o, b ≠ X.env.locals → b ∉ X.fs → b ∉ ch → s.heap.get? b = some o → H b = none → h'.get? b = some o)
    (slot : ∀ b o, b ≠ X.env.locals → b ∈ X.fs → b ∉ ch → s.heap.get? b = some o → H b = none → ∃ sl, h'.get? b = some { o with slots := sl }) (free : ∀ b o, b ∉ ch → s.heap.get? b = some o → H b = none → H' b = none)
    (there : ∀ b o, b ∉ ch → s.heap.get? b = some o → ∃ o', h'.get? b = some o')
    (tups : ∀ b xs, H b = some (.tup xs) → H' b = some (.tup xs)) (frzs : ∀ b o u, H b = some (.frz o u) → H' b = some (.frz o u)) (tbls : ∀ b ps, H b = some (.tbl ps) → ∃ more, H' b = some (.tbl (ps ++ more)))
    (ns : ∀ m, s.heap.Ns X.env.locals m → h'.Ns X.env.locals m) (hok : HOk X.prog X.w H' h') (hg : AllBare g') :
    Inv X pins σ H' { s with heap := h', gens := g', drawn := d', toks := t' } := by
  have neL : ∀ b o, X.s₀.heap.get? b = some o → b ≠ X.env.locals := fun b o e => Nat.ne_of_lt (Nat.lt_of_lt_of_le (Heap.lt_size e) I.ok.above)
  have neC : ∀ b o, X.s₀.heap.get? b = some o → b ∉ X.ex → b ∉ ch := fun b o e hx hb => by
    rcases (hch b hb).1 with z | z
    · exact hx z
    · exact absurd (Nat.lt_of_lt_of_le (Heap.lt_size e) z) (Nat.lt_irrefl _)
  have cellK : ∀ x c, X.env.cells.lookup x = some c → ∀ v, s.heap.IsCell c v → h'.IsCell c v := fun x c e v ⟨o, ho, hd⟩ => by
    have nch : c ∉ ch := fun z => (hch c z).2.2.1 x c e rfl
    by_cases hc : c ∈ X.fs
    · obtain ⟨sl, q⟩ := slot c o (I.cne x c e) hc nch ho (I.freeC x c e)
      exact ⟨_, q, hd⟩
    · exact ⟨o, keep c o (I.cne x c e) hc nch ho (I.freeC x c e), hd⟩
  refine ⟨I.ok, I.os, hg, ⟨fun b o e n hb hx => ?_, fun b o e n hb hx => ?_, fun b o e n hx => ?_, fun b o e hx => ?_, fun b xs e => tups b xs (I.base.tups b xs e), fun b o xs e => frzs b o xs (I.base.frzs b o xs e), fun b ps e => ?_⟩, ?_, fun x c e => ?_, ?_, fun x c e => ?_, fun p hp => ?_, hok, I.len⟩
  · exact keep b o (neL b o e) hb (neC b o e hx) (I.base.keep b o e n hb hx) (I.base.free b o e n hx)
  · obtain ⟨sl, e1⟩ := I.base.slot b o e n hb hx
    obtain ⟨sl', e2⟩ := slot b _ (neL b o e) hb (neC b o e hx) e1 (I.base.free b o e n hx)
    exact ⟨sl', e2⟩
  · obtain ⟨o', e1⟩ := I.base.there b o e hx
    exact free b o' (neC b o e hx) e1 (I.base.free b o e n hx)
  · obtain ⟨o', e1⟩ := I.base.there b o e hx
    exact there b o' (neC b o e hx) e1
  · obtain ⟨m1, e1⟩ := I.base.tbls b ps e
    obtain ⟨m2, e2⟩ := tbls b _ e1
    exact ⟨m1 ++ m2, by rw [e2, Array.append_assoc]⟩
  · obtain ⟨m, hn, hl⟩ := I.loc
    refine ⟨m, ns m hn, fun i x v e1 e2 e3 => ?_⟩
    obtain ⟨u, r, l⟩ := hl i x v e1 e2 e3
    refine ⟨u, r, ?_⟩
    rcases l with l | ⟨k, c, e, z⟩
    · exact .inl l
    · exact .inr ⟨k, c, e, cellK x c e _ z⟩
  · obtain ⟨v, z⟩ := I.cell x c e
    exact ⟨v, cellK x c e v z⟩
  · obtain ⟨m, ⟨o, _, _, ho, _⟩, _⟩ := I.loc
    exact free _ o (fun z => (hch _ z).2.1 rfl) ho I.free
  · obtain ⟨v, o, ho, hd⟩ := I.cell x c e
    exact free c o (fun z => (hch c z).2.2.1 x c e rfl) ho (I.freeC x c e)
  · obtain ⟨e, n, ne, nf, d⟩ := I.pin p hp
    have nch : p.1 ∉ ch := fun z => (hch p.1 z).2.2.2 p hp rfl
    exact ⟨keep p.1 p.2 ne nf nch e n, free p.1 p.2 nch e n, ne, nf, d⟩
theorem Inv.un {t' : Nat} (I : Inv X pins σ H s) (u : Un X.fs [] H H' s.heap h') (hok : HOk X.prog X.w H' h') : Inv X pins σ H' { s with heap := h', toks := t' } := by
  obtain ⟨m, ⟨o, es, ep, ho, r⟩, _⟩ := id I.loc
  obtain ⟨sl, hL⟩ := u.any ho I.free (by simp)
  exact I.step (g' := s.gens) (d' := s.drawn) (ch := []) (fun _ z => nomatch z) (fun b o _ hb _ e n => u.keep b o e n hb (by simp)) (fun b o _ hb _ e n => u.slot b o e n hb (by simp)) (fun b o _ e n => u.free b o e n (by simp)) (fun b o _ e => u.there b o e (by simp)) u.tups u.frzs u.tbls (fun m' hm => by
    obtain ⟨o', es', ep', ho', r'⟩ := hm
    rw [ho] at ho'; cases ho'
    exact ⟨_, es', ep', hL, r'⟩) hok I.bare
theorem Inv.call {g' : Array GenState} {t' : Nat} {d' : Drawn} {ch : List Addr} (I : Inv X pins σ H s) (u : Un (frs X.stack) ch H H' s.heap h') (hok : HOk X.prog X.w H' h') (hg : AllBare g')
    (hch : ∀ b ∈ ch, (b ∈ X.ex ∨ X.s₀.heap.objs.size ≤ b) ∧ b ≠ X.env.locals ∧ (∀ x c, X.env.cells.lookup x = some c → c ≠ b) ∧ ∀ p ∈ X.pn ++ pins, p.1 ≠ b) :
    Inv X pins σ H' { s with heap := h', gens := g', drawn := d', toks := t' } := by
  obtain ⟨m, ⟨o, es, ep, ho, r⟩, _⟩ := id I.loc
  obtain ⟨sl, hL⟩ := u.any ho I.free fun z => (hch _ z).2.1 rfl
  exact I.step (ch := ch) hch (fun b o hL hb hc e n => u.keep b o e n (fun z => (List.mem_cons.mp (I.stkSub b z)).elim hL hb) hc) (fun b o _ _ hc e n => u.any e n hc) (fun b o hc e n => u.free b o e n hc) (fun b o hc e => u.there b o e hc) u.tups u.frzs u.tbls (fun m' hm => by
    obtain ⟨o', es', ep', ho', r'⟩ := hm
    rw [ho] at ho'; cases ho'
    exact ⟨_, es', ep', hL, r'⟩) hok hg
theorem Inv.turned {t' : Nat} {it : Addr} (I : Inv X pins σ H s) (k : ∀ b o, b ≠ it → s.heap.get? b = some o → h'.get? b = some o) (hn : H it = none) (hL : it ≠ X.env.locals)
    (h1 : it ∈ X.ex ∨ X.s₀.heap.objs.size ≤ it) (h2 : ∀ x c, X.env.cells.lookup x = some c → c ≠ it) (h3 : ∀ p ∈ X.pn ++ pins, p.1 ≠ it) : Inv X pins σ H { s with heap := h', toks := t' } := by
  have nit : ∀ b u, H b = some u → b ≠ it := fun b u e z => by rw [z, hn] at e; cases e
  refine I.step (g' := s.gens) (d' := s.drawn) (ch := [it]) (fun b hb => ?_) (fun b o _ _ hc e _ => k b o (fun z => hc (by simp [z])) e) (fun b o _ _ hc e _ => ⟨o.slots, k b o (fun z => hc (by simp [z])) e⟩) (fun _ _ _ _ n => n)
    (fun b o hc e => ⟨o, k b o (fun z => hc (by simp [z])) e⟩) (fun _ _ e => e) (fun _ _ _ e => e) (fun b ps e => ⟨#[], by rw [e]; simp⟩) (fun m hm => ?_) (fun b u e => ?_) I.bare
  · have e : b = it := by simpa using hb
    subst e
    exact ⟨h1, hL, h2, h3⟩
  · obtain ⟨o, es, ep, ho, r⟩ := hm
    exact ⟨o, es, ep, k _ o (Ne.symm hL) ho, r⟩
  · refine (I.hok b u e).stay (fun c v hc q => k c v ?_ q) (fun _ q => q) fun _ _ q => q
    rcases hc with z | z
    · rw [z]; exact nit b u e
    · exact nit c _ z
theorem Inv.tok (I : Inv X pins σ H s) (t : Nat) : Inv X pins σ H { s with toks := t } := I.un (h' := s.heap) (t' := t) Un.refl I.hok
theorem Inv.kept {t' : Nat} (I : Inv X pins σ H s) (k : ∀ b u, s.heap.get? b = some u → h'.get? b = some u) : Inv X pins σ H { s with heap := h', toks := t' } := I.un (Un.kept k) (I.hok.kept k)
theorem Inv.laid {a : Addr} {o : HO} {t' : Nat} (I : Inv X pins σ H s) (k : ∀ b u, s.heap.get? b = some u → h'.get? b = some u) (hp : s.heap.objs.size ≤ a) (new : ObjOk X.prog X.w (upd H a o) h' a o) :
    Inv X pins σ (upd H a o) { s with heap := h', toks := t' } := I.un (Un.laid k hp (I.hok.fresh hp)) (I.hok.laid k hp new)
theorem Inv.write {x e : Addr} {o : HO} {t' : Nat} (I : Inv X pins σ H s) (mu : Mut (H x)) (he : e = x ∨ H e = some (.own x)) (k : ∀ b u, b ≠ e → s.heap.get? b = some u → h'.get? b = some u) (heo : ∃ u, h'.get? e = some u)
    (new : ObjOk X.prog X.w (upd H x o) h' x o) : Inv X pins σ (upd H x o) { s with heap := h', toks := t' } := I.un (Un.write mu he k heo) (I.hok.write mu he k heo new)
theorem Inv.weak {σ' : List (Option V)} (I : Inv X pins σ H s) (hl : σ'.length = σ.length) (w : ∀ (i : Nat) v, σ'[i]? = some (some v) → σ[i]? = some (some v)) : Inv X pins σ' H s :=
  ⟨I.ok, I.os, I.bare, I.base, let ⟨m, hn, hl'⟩ := I.loc; ⟨m, hn, fun i x v e1 e2 e3 => hl' i x v e1 (w i v e2) e3⟩, I.cell, I.free, I.freeC, I.pin, I.hok, hl.trans I.len⟩
theorem Inv.pins_of {pins' : List (Addr × Obj)} (I : Inv X pins σ H s) (h : ∀ p ∈ pins', s.heap.get? p.1 = some p.2 ∧ H p.1 = none ∧ p.1 ≠ X.env.locals ∧ p.1 ∉ X.fs ∧ ∀ v, p.2.data ≠ .cell v) : Inv X pins' σ H s :=
  ⟨I.ok, I.os, I.bare, I.base, I.loc, I.cell, I.free, I.freeC, fun p hp => (List.mem_append.mp hp).elim (fun z => I.pin p (List.mem_append_left _ z)) (h p), I.hok, I.len⟩
theorem nodup_ix {N : List Str} (hN : N.Nodup) {i j : Nat} {x : Str} (a : N[i]? = some x) (b : N[j]? = some x) : i = j := by
  obtain ⟨h1, e1⟩ := List.getElem?_eq_some_iff.mp a
  obtain ⟨h2, e2⟩ := List.getElem?_eq_some_iff.mp b
  exact (List.getElem_inj hN).mp (e1.trans e2.symm)
theorem store_ok2 {M : Model} {A : Around} {E : Value → Shared → Prop} {i : Nat} {x : Str} {v : V} {u : Value} {Q : Unit → Shared → Prop} (I : Inv X pins σ H s) (hN : X.N.Nodup) (hi : X.N[i]? = some x) (hx : Loc X.env.scope x) (r : RelV v u)
    (h : ∀ s', Inv X pins (σ.set i (some v)) H s' → (∃ a, Heap.SameBut a s.heap s'.heap ∧ (a = X.env.locals ∨ X.env.cells.lookup x = some a)) → Q () s') (hf : X.fn x = true ∨ X.env.scope.names.lookup x = some .local := by first | exact .inl rfl | exact .inr rfl | assumption) : wpAny M A (storeName X.env x u) Q E s := by
  obtain ⟨m, hn, hl⟩ := id I.loc
  have hcls : (X.env.scope.kind == .class || (X.env.scope.kind == .module && X.env.locals != X.env.globals)) = false := by rw [I.ok.kind]; rfl
  have hiσ : i < σ.length := by rw [I.len]; exact (List.getElem?_eq_some_iff.mp hi).1
  have cne := I.cne
  have tracked : ∀ {a : Addr} {h' : Heap}, (∃ o, s.heap.get? a = some o ∧ H a = none) → Heap.SameBut a s.heap h' → HOk X.prog X.w H h' := fun {a h'} ha hs b ob e => by
    obtain ⟨_, _, hfree⟩ := ha
    refine (I.hok b ob e).stay (fun c w' hc q => (hs.2 c ?_).trans q) (fun _ q => q) fun _ _ q => q
    rintro rfl
    rcases hc with rfl | hc
    · rw [hfree] at e; cases e
    · rw [hfree] at hc; cases hc
  rcases hx with hk | hk
  · refine wpAny_storeName_local hk hn (fun h' hn' hs => ?_) hcls
    obtain ⟨oL, _, _, hoL, _⟩ := id hn
    refine h _ ⟨I.ok, I.os, I.bare, ⟨fun b o e n hb hx => ?_, fun b o e n hb hx => ?_, I.base.free, fun b o e hx => ?_, I.base.tups, I.base.frzs, I.base.tbls⟩, ⟨_, hn', fun j y v' e1 e2 e3 => ?_⟩, fun y c e => ?_, I.free, I.freeC, fun p hp => ?_, tracked ⟨oL, hoL, I.free⟩ hs, by simpa using I.len⟩ ⟨_, hs, .inl rfl⟩
    · exact (hs.2 b (Nat.ne_of_lt (Nat.lt_of_lt_of_le (Heap.lt_size e) I.ok.above))).trans (I.base.keep b o e n hb hx)
    · obtain ⟨sl, e1⟩ := I.base.slot b o e n hb hx
      exact ⟨sl, (hs.2 b (Nat.ne_of_lt (Nat.lt_of_lt_of_le (Heap.lt_size e) I.ok.above))).trans e1⟩
    · obtain ⟨o', e1⟩ := I.base.there b o e hx
      exact ⟨o', (hs.2 b (Nat.ne_of_lt (Nat.lt_of_lt_of_le (Heap.lt_size e) I.ok.above))).trans e1⟩
    · by_cases hj : j = i
      · subst hj
        rw [hi] at e1; cases e1
        rw [List.getElem?_set_self hiσ] at e2
        cases e2
        exact ⟨u, r, .inl ⟨hk, by simp⟩⟩
      · rw [List.getElem?_set_ne (Ne.symm hj)] at e2
        obtain ⟨u', r', q⟩ := hl j y v' e1 e2 e3
        refine ⟨u', r', ?_⟩
        rcases q with ⟨k, e⟩ | ⟨k, c, e, z⟩
        · refine .inl ⟨k, ?_⟩
          have : y ≠ x := fun e => hj (nodup_ix hN e1 (e ▸ hi))
          simp [this, e]
        · exact .inr ⟨k, c, e, z.sameBut hs (cne y c e)⟩
    · obtain ⟨w', z⟩ := I.cell y c e
      exact ⟨w', z.sameBut hs (cne y c e)⟩
    · obtain ⟨e, n, ne, nf, d⟩ := I.pin p hp
      exact ⟨(hs.2 p.1 ne).trans e, n, ne, nf, d⟩
  · have hfn : X.fn x = true := by
      rcases hf with z | z
      · exact z
      · rw [z] at hk; cases hk
    obtain ⟨c, hc⟩ := I.ok.has x (.inl hk)
    obtain ⟨w', z⟩ := I.cell x c hc
    refine wpAny_storeName_cell I.ok.kind hk hc z (fun h' hc' hs => ?_)
    obtain ⟨oc, hoc, hocd⟩ := id z
    refine h { s with heap := h' } ⟨I.ok, I.os, I.bare, ⟨fun b o e n hb hx => ?_, fun b o e n hb hx => ?_, I.base.free, fun b o e hx => ?_, I.base.tups, I.base.frzs, I.base.tbls⟩, ⟨m, hn.sameBut hs (Ne.symm (cne x c hc)), fun j y v' e1 e2 e3 => ?_⟩, fun y c' e => ?_, I.free, I.freeC, fun p hp => ?_, tracked ⟨oc, hoc, I.freeC x c hc⟩ hs, by simpa using I.len⟩ ⟨c, hs, .inr hc⟩
    · exact (hs.2 b (Nat.ne_of_lt (Nat.lt_of_lt_of_le (Heap.lt_size e) (I.ok.cab x c hfn hc)))).trans (I.base.keep b o e n hb hx)
    · obtain ⟨sl, e1⟩ := I.base.slot b o e n hb hx
      exact ⟨sl, (hs.2 b (Nat.ne_of_lt (Nat.lt_of_lt_of_le (Heap.lt_size e) (I.ok.cab x c hfn hc)))).trans e1⟩
    · obtain ⟨o', e1⟩ := I.base.there b o e hx
      exact ⟨o', (hs.2 b (Nat.ne_of_lt (Nat.lt_of_lt_of_le (Heap.lt_size e) (I.ok.cab x c hfn hc)))).trans e1⟩
    · by_cases hj : j = i
      · subst hj
        rw [hi] at e1; cases e1
        rw [List.getElem?_set_self hiσ] at e2
        cases e2
        exact ⟨u, r, .inr ⟨.inl hk, c, hc, hc'⟩⟩
      · rw [List.getElem?_set_ne (Ne.symm hj)] at e2
        obtain ⟨u', r', q⟩ := hl j y v' e1 e2 e3
        refine ⟨u', r', ?_⟩
        rcases q with q | ⟨k, c', e, z'⟩
        · exact .inl q
        · refine .inr ⟨k, c', e, z'.sameBut hs ?_⟩
          rintro rfl
          exact hj (nodup_ix hN e1 (I.ok.inj _ _ _ e hc ▸ hi))
    · by_cases hcc : c' = c
      · subst hcc; exact ⟨_, hc'⟩
      · obtain ⟨w2, z2⟩ := I.cell y c' e
        exact ⟨w2, z2.sameBut hs hcc⟩
    · obtain ⟨e, n, ne, nf, d⟩ := I.pin p hp
      refine ⟨(hs.2 p.1 ?_).trans e, n, ne, nf, d⟩
      intro q
      rw [q, hoc] at e
      have q' : oc = p.2 := Option.some.inj e
      exact d w' (by rw [← q']; exact hocd)
theorem store_ok {M : Model} {A : Around} {E : Value → Shared → Prop} {i : Nat} {x : Str} {v : V} {u : Value} {Q : Unit → Shared → Prop} (I : Inv X pins σ H s) (hN : X.N.Nodup) (hi : X.N[i]? = some x) (hx : Loc X.env.scope x) (r : RelV v u)
    (h : ∀ s', Inv X pins (σ.set i (some v)) H s' → Q () s') (hf : X.fn x = true ∨ X.env.scope.names.lookup x = some .local := by first | exact .inl rfl | exact .inr rfl | assumption) : wpAny M A (storeName X.env x u) Q E s :=
  store_ok2 I hN hi hx r (fun s' I' _ => h s' I') hf
theorem Inv.call' {s' : Shared} {ch : List Addr} (I : Inv X pins σ H s) (ho : s'.os = s.os) (u : Un (frs X.stack) ch H H' s.heap s'.heap) (hok : HOk X.prog X.w H' s'.heap) (hg : AllBare s'.gens)
    (hch : ∀ b ∈ ch, (b ∈ X.ex ∨ X.s₀.heap.objs.size ≤ b) ∧ b ≠ X.env.locals ∧ (∀ x c, X.env.cells.lookup x = some c → c ≠ b) ∧ ∀ p ∈ X.pn ++ pins, p.1 ≠ b) : Inv X pins σ H' s' := by
  obtain ⟨h', g', d', t', o'⟩ := s'
  have e : o' = s.os := ho
  subst e
  exact I.call (g' := g') (t' := t') (d' := d') u hok hg hch
end
abbrev XK := Value → Option Addr → Hp → Prop
abbrev St := List (Option V)
abbrev VK := V → Hp → Prop
abbrev TE := St → Hp → VK → Prop
abbrev TT := St → Hp → (Bool → Hp → Prop) → Prop
abbrev TA := St → Hp → (List V → Hp → Prop) → Prop
structure Ends where
  nx : St → Hp → Prop
  rt : VK
  bk : St → Hp → Prop := fun _ _ => False
  ct : St → Hp → Prop := fun _ _ => False
abbrev TS := Ends → St → Hp → Prop
def EP (X : Cx) (pins : List (Addr × Obj)) (σ : St) (Q : VK) (u : Value) (s' : Shared) : Prop := ∃ v H', Inv X pins σ H' s' ∧ RelV v u ∧ Q v H'
def TP (X : Cx) (pins : List (Addr × Obj)) (σ : St) (Q : Bool → Hp → Prop) (b : Bool) (s' : Shared) : Prop := ∃ H', Inv X pins σ H' s' ∧ Q b H'
def AP (X : Cx) (pins : List (Addr × Obj)) (σ : St) (Q : List V → Hp → Prop) (us : List Value) (s' : Shared) : Prop := ∃ vs H', Inv X pins σ H' s' ∧ Vals vs us ∧ Q vs H'
def SP (X : Cx) (pins : List (Addr × Obj)) (D : Ends) (f : Flow) (s' : Shared) : Prop :=
  match f with
  | .next => ∃ σ' H', Inv X pins σ' H' s' ∧ D.nx σ' H'
  | .brk => ∃ σ' H', Inv X pins σ' H' s' ∧ D.bk σ' H'
  | .cont => ∃ σ' H', Inv X pins σ' H' s' ∧ D.ct σ' H'
  | .ret u => ∃ v σ' H', Inv X pins σ' H' s' ∧ RelV v u ∧ D.rt v H'
def PE (X : Cx) (e : Expr) (t : TE) : Prop :=
  ∀ (pins : List (Addr × Obj)) (s : Shared) (σ : St) (H : Hp) (Q : VK), Inv X pins σ H s → t σ H Q → wpAny (model X.prog X.w) X.A (eval e X.env) (EP X pins σ Q) X.xe s
def PT (X : Cx) (e : Expr) (t : TT) : Prop :=
  ∀ (pins : List (Addr × Obj)) (s : Shared) (σ : St) (H : Hp) (Q : Bool → Hp → Prop), Inv X pins σ H s → t σ H Q → wpAny (model X.prog X.w) X.A (isTrue e X.env (eval e X.env)) (TP X pins σ Q) X.xe s
def PW (X : Cx) (e : Expr) (t : TT) : Prop :=
  ∀ (whole : Sem Value) (pins : List (Addr × Obj)) (s : Shared) (σ : St) (H : Hp) (Q : Bool → Hp → Prop), Inv X pins σ H s → t σ H Q → wpAny (model X.prog X.w) X.A (isTrue e X.env whole) (TP X pins σ Q) X.xe s
theorem PW.pt {X : Cx} {e : Expr} {t : TT} (h : PW X e t) : PT X e t := h _
def PA (X : Cx) (es : List Expr) (t : TA) : Prop :=
  ∀ (pos : Pos) (pins : List (Addr × Obj)) (s : Shared) (σ : St) (H : Hp) (Q : List V → Hp → Prop), Inv X pins σ H s → t σ H Q → wpAny (model X.prog X.w) X.A (spliced (backTo pos (starEach es X.env))) (AP X pins σ Q) X.xe s
def PS (X : Cx) (st : Stmt) (t : TS) : Prop :=
  ∀ (pins : List (Addr × Obj)) (s : Shared) (σ : St) (H : Hp) (D : Ends), Inv X pins σ H s → t D σ H → wpAny (model X.prog X.w) X.A (exec st X.env) (SP X pins D) X.xe s
def PSs (X : Cx) (st : List Stmt) (t : TS) : Prop :=
  ∀ (pins : List (Addr × Obj)) (s : Shared) (σ : St) (H : Hp) (D : Ends), Inv X pins σ H s → t D σ H → wpAny (model X.prog X.w) X.A (execs st X.env) (SP X pins D) X.xe s
theorem thn {α : Type} {t : Sem α} {Q Q' : α → Shared → Prop} {M : Model} {A : Around} {E : Value → Shared → Prop} {s : Shared} (h : wpAny M A t Q E s) (hQ : ∀ a s, Q a s → Q' a s) : wpAny M A t Q' E s := wpAny_mono h hQ fun _ _ x => x
end L2
namespace L2
open PySem PySem.Spec PyProof.Rows
section
variable {X : Cx}
inductive ItVar (i : Nat) (σ : St) (H : Hp) (Q : VK) : Prop
  | mk (v : _) (zz0 : σ[i]? = some (some v)) (zz1 : Q v H) : ItVar i σ H Q
def tVar (i : Nat) : TE := ItVar i
def tC (v : V) : TE := fun _ H Q => Q v H
theorem pe_var {i : Nat} {x : Str} {pos : Pos} (hN : X.N[i]? = some x) (hv : Vis X.env.scope x) (hd : (x == ("__debug__" : Str)) = false := by decide) (hcd : (x == ("__classdict__" : Str)) = false := by decide) : PE X (.Name x pos) (tVar i) := by
  intro pins s σ H Q I h
  obtain ⟨v, e, h⟩ := h
  obtain ⟨m, hn, hl⟩ := I.loc
  obtain ⟨u, r, l⟩ := hl i x v hN e hv
  have fin : EP X pins σ Q u s := ⟨v, H, I, r, h⟩
  rcases l with ⟨hk, hm⟩ | ⟨hk, c, hc, hcell⟩
  · exact wpAny_Name (wpAny_loadName_local I.ok.kind hk hn hm fin) hd
  · rcases hk with hk | hk
    · exact wpAny_Name (wpAny_loadName_cell I.ok.kind hk hc hcell fin) hd
    · exact wpAny_Name (wpAny_loadName_free I.ok.kind hk hc hcell fin hcd) hd
theorem pe_int {i j pos} : PE X (.Constant (.int i) j pos) (tC (.int i)) := fun _ _ _ H _ I h => wpAny_Constant_int ⟨.int i, H, I.tok _, ⟨_, rfl⟩, h⟩
theorem pe_bl {b j pos} : PE X (.Constant (.bool b) j pos) (tC (.bl b)) := fun _ _ _ H _ I h => Constant_bool ⟨.bl b, H, I, rfl, h⟩
theorem pe_non {j pos} : PE X (.Constant .none j pos) (tC .non) := fun _ _ _ H _ I h => Constant_none ⟨.non, H, I, rfl, h⟩
theorem pe_str {x j pos} : PE X (.Constant (.str x) j pos) (tC (.str x)) := fun _ _ _ H _ I h => Calls.Constant_str ⟨.str x, H, I.tok _, ⟨_, rfl⟩, h⟩
def Gl (X : Cx) (x : Str) : Prop := X.env.kindOf x = some .globalImplicit
theorem ld_glob {E : Value → Shared → Prop} {pins : List (Addr × Obj)} {s : Shared} {σ : St} {H : Hp} {x : Str} {u : Value} {pos : Pos} {Q : Value → Shared → Prop} (I : Inv X pins σ H s) (hg : Gl X x) (hm : X.mg x = some u) (h : Q u s)
    (hd : (x == ("__debug__" : Str)) = false := by decide) : wpAny (model X.prog X.w) X.A (eval (.Name x pos) X.env) Q E s :=
  Calls.Name_function_global I.ok.kind hg (Calls.loadGlobal_global (by rw [I.ok.glob]; exact I.mod.glob.keeps I.bk) hm h) hd
theorem ld_blt {E : Value → Shared → Prop} {pins : List (Addr × Obj)} {s : Shared} {σ : St} {H : Hp} {x : Str} {u : Value} {pos : Pos} {Q : Value → Shared → Prop} (I : Inv X pins σ H s) (hg : Gl X x) (hm : X.mg x = none) (hv : bootBuiltins x = some u) (h : Q u s)
    (hn : x ≠ "__name__" := by decide) (hd : (x == ("__debug__" : Str)) = false := by decide) : wpAny (model X.prog X.w) X.A (eval (.Name x pos) X.env) Q E s := by
  obtain ⟨mb, h1, h2⟩ := I.mod.blt
  exact Calls.Name_function_global I.ok.kind hg (Calls.loadGlobal_builtin (by rw [I.ok.glob]; exact I.mod.glob.keeps I.bk) hm (by rw [I.ok.blt]; exact h1.keeps I.bk) ((h2 x hn).trans hv) h) hd
theorem pe_glob {x : Str} {v : V} {u : Value} {pos : Pos} (hg : Gl X x) (hm : X.mg x = some u) (r : RelV v u) (hd : (x == ("__debug__" : Str)) = false := by decide) : PE X (.Name x pos) (tC v) :=
  fun _ _ _ H _ I h => ld_glob I hg hm ⟨v, H, I, r, h⟩ hd
theorem pe_bltn {x : Str} {v : V} {u : Value} {pos : Pos} (hg : Gl X x) (hm : X.mg x = none) (hv : bootBuiltins x = some u) (r : RelV v u) (hn : x ≠ "__name__" := by decide) (hd : (x == ("__debug__" : Str)) = false := by decide) : PE X (.Name x pos) (tC v) :=
  fun _ _ _ H _ I h => ld_blt I hg hm hv ⟨v, H, I, r, h⟩ hn hd
variable {a b : Expr} {ta tb : TE} {pos : Pos}
variable {tA tB' : TT} {rest : List Expr}
def tAnd (t u : TT) : TT := fun σ H Q => t σ H fun c H1 => if c = true then u σ H1 Q else Q false H1
def tOr (t u : TT) : TT := fun σ H Q => t σ H fun c H1 => if c = true then Q true H1 else u σ H1 Q
def tNot (t : TT) : TT := fun σ H Q => t σ H fun c H1 => Q (!c) H1
theorem pw_and1 (ha : PT X a tA) : PW X (.BoolOp .And [a] pos) tA := by
  intro wh pins s σ H Q I h
  refine isTrue_and (thn (ha pins s σ H Q I h) fun c s1 e => ?_)
  cases c with
  | true => exact isTrue_and_nil e
  | false => exact e
theorem pw_or1 (ha : PT X a tA) : PW X (.BoolOp .Or [a] pos) tA := by
  intro wh pins s σ H Q I h
  refine isTrue_or (thn (ha pins s σ H Q I h) fun c s1 e => ?_)
  cases c with
  | false => exact isTrue_or_nil e
  | true => exact e
theorem pw_and (ha : PT X a tA) (hb : PW X (.BoolOp .And (b :: rest) pos) tB') : PW X (.BoolOp .And (a :: b :: rest) pos) (tAnd tA tB') := by
  intro wh pins s σ H Q I h
  refine isTrue_and (thn (ha pins s σ H _ I h) fun c s1 ⟨H1, I1, q1⟩ => ?_)
  cases c with
  | true => exact hb wh pins s1 σ H1 Q I1 q1
  | false => exact ⟨H1, I1, q1⟩
theorem pw_or (ha : PT X a tA) (hb : PW X (.BoolOp .Or (b :: rest) pos) tB') : PW X (.BoolOp .Or (a :: b :: rest) pos) (tOr tA tB') := by
  intro wh pins s σ H Q I h
  refine isTrue_or (thn (ha pins s σ H _ I h) fun c s1 ⟨H1, I1, q1⟩ => ?_)
  cases c with
  | true => exact ⟨H1, I1, q1⟩
  | false => exact hb wh pins s1 σ H1 Q I1 q1
theorem pt_not (ha : PT X a tA) : PT X (.UnaryOp .Not a pos) (tNot tA) := by
  intro pins s σ H Q I h
  exact isTrue_not (ha pins s σ H (fun c H1 => Q (!c) H1) I h)
def tAndV (ta tb : TE) : TE := fun σ H Q => ta σ H fun x H1 => ∃ c, x = .bl c ∧ if c = true then tb σ H1 Q else Q (.bl false) H1
def tNotV (ta : TE) : TE := fun σ H Q => ta σ H fun x H1 => ∃ c, x = .bl c ∧ Q (.bl (!c)) H1
theorem pe_one {op} {t : TE} (h : PE X a t) : PE X (.BoolOp op [a] pos) t := fun pins s σ H Q I hw => BoolOp_one (h pins s σ H Q I hw)
theorem pe_and (ha : PE X a ta) (hb : PE X (.BoolOp .And (b :: rest) pos) tb) : PE X (.BoolOp .And (a :: b :: rest) pos) (tAndV ta tb) := by
  intro pins s σ H Q I h
  refine BoolOp_and (thn (ha pins s σ H _ I h) fun v s1 ⟨x, H1, I1, r1, q1⟩ => ?_)
  obtain ⟨c, rfl, q1⟩ := q1
  cases r1
  refine wpAny_truthy_bool ?_
  cases c with
  | true => exact hb pins s1 σ H1 Q I1 q1
  | false => exact ⟨.bl false, H1, I1, rfl, q1⟩
theorem pe_not (ha : PE X a ta) : PE X (.UnaryOp .Not a pos) (tNotV ta) := by
  intro pins s σ H Q I h
  refine UnaryOp_ (thn (ha pins s σ H _ I h) fun v s1 ⟨x, H1, I1, r1, q1⟩ => ?_)
  obtain ⟨c, rfl, q1⟩ := q1
  cases r1
  exact not_of (wpAny_truthy_bool ⟨.bl (!c), H1, I1, rfl, q1⟩)
end
end L2
namespace L2
open PySem PySem.Spec PyProof.Rows
def SqL (K : PySem.W.Frag) (H : Hp) (a : Addr) (xs : List V) : Prop :=
  Rd H a (.lst xs) ∨
    ∃ (o : Obj) (its : Array Value) (n : Nat), K.lookup a = some o ∧ o.cls = .type "list" ∧ o.dict = none ∧ o.data = .seq its n ∧ its.size ≤ sizeLine ∧ Vals xs its.toList
def SqT (K : PySem.W.Frag) (H : Hp) (a : Addr) (xs : List V) : Prop :=
  Rd H a (.tup xs) ∨
    ∃ (o : Obj) (its : Array Value) (n : Nat), K.lookup a = some o ∧ o.cls = .type "tuple" ∧ o.data = .seq its n ∧ its.size ≤ sizeLine ∧ Vals xs its.toList
def absV : Value → Option V
  | .none => some .non
  | .bool b => some (.bl b)
  | .int i _ => some (.int i)
  | .str x _ => some (.str x)
  | .bytes b _ => some (.byt b)
  | .float b _ => some (.flt b)
  | .ref a => some (.ref a)
  | .type n => some (.ty n)
  | _ => none
theorem RelV.abs {x : V} {u : Value} (r : RelV x u) : absV u = some x := by
  cases x with
  | non => cases r; rfl
  | bl _ => cases r; rfl
  | int _ => obtain ⟨t, rfl⟩ := r; rfl
  | str _ => obtain ⟨t, rfl⟩ := r; rfl
  | byt _ => obtain ⟨t, rfl⟩ := r; rfl
  | flt _ => obtain ⟨t, rfl⟩ := r; rfl
  | ref _ => cases r; rfl
  | ty _ => cases r; rfl
theorem RelV.inj {x y : V} {u : Value} (r : RelV x u) (q : RelV y u) : x = y := Option.some.inj (r.abs.symm.trans q.abs)
theorem Vals.inj : ∀ {xs ys : List V} {us : List Value}, Vals xs us → Vals ys us → xs = ys
  | _, _, _, .nil, .nil => rfl
  | _, _, _, .cons r t, .cons r' t' => by rw [r.inj r', Vals.inj t t']
section
variable {X : Cx} {pins : List (Addr × Obj)} {σ : St} {H : Hp} {s : Shared} {a : Addr} {xs ys : List V}
theorem SqL.of {K : PySem.W.Frag} (h : H a = some (.lst xs)) : SqL K H a xs := .inl (.inl h)
theorem SqT.of {K : PySem.W.Frag} (h : H a = some (.tup xs)) : SqT K H a xs := .inl (.inl h)
theorem Inv.list (I : Inv X pins σ H s) (h : SqL X.K H a xs) : ∃ its : List Value, Vals xs its ∧ PlainL s.heap a its.toArray ∧ xs.length ≤ sizeLine := by
  rcases h with h | ⟨o, its, n, hk, hc, hd, hs, hz, r⟩
  · obtain ⟨z, its, n, r, e⟩ := h.ok I.hok
    exact ⟨its, r, ⟨_, n, e, rfl, rfl, rfl⟩, z⟩
  · refine ⟨its.toList, r, ⟨o, n, I.kIn a o hk, hc, hd, by simpa using hs⟩, ?_⟩
    have e := r.length
    simp only [Array.length_toList] at e
    omega
theorem Inv.tuple (I : Inv X pins σ H s) (h : SqT X.K H a xs) : ∃ its : List Value, Vals xs its ∧ IsTup s.heap a its.toArray ∧ xs.length ≤ sizeLine := by
  rcases h with h | ⟨o, its, n, hk, hc, hs, hz, r⟩
  · obtain ⟨z, its, n, r, p⟩ := h.ok I.hok
    exact ⟨its, r, ⟨_, p, rfl, n, rfl⟩, z⟩
  · refine ⟨its.toList, r, ⟨o, I.kIn a o hk, hc, n, by simpa using hs⟩, ?_⟩
    have e := r.length
    simp only [Array.length_toList] at e
    omega
theorem Inv.list_inj (I : Inv X pins σ H s) (h : SqL X.K H a xs) (h' : SqL X.K H a ys) : xs = ys := by
  obtain ⟨its, r, ⟨o, n, e, _, _, d⟩, _⟩ := I.list h
  obtain ⟨its', r', ⟨o', n', e', _, _, d'⟩, _⟩ := I.list h'
  rw [e] at e'; cases e'
  rw [d] at d'
  injection d' with d1 _
  have : its = its' := by simpa using congrArg Array.toList d1
  subst this
  exact r.inj r'
theorem Inv.tuple_inj (I : Inv X pins σ H s) (h : SqT X.K H a xs) (h' : SqT X.K H a ys) : xs = ys := by
  obtain ⟨its, r, ⟨o, e, _, n, d⟩, _⟩ := I.tuple h
  obtain ⟨its', r', ⟨o', e', _, n', d'⟩, _⟩ := I.tuple h'
  rw [e] at e'; cases e'
  rw [d] at d'
  injection d' with d1 _
  have : its = its' := by simpa using congrArg Array.toList d1
  subst this
  exact r.inj r'
end
abbrev Cx.wish (X : Cx) (E : Value → Shared → Prop) : Cx := { X with xe := E }
abbrev Cx.nox (X : Cx) : Cx := X.wish fun _ _ => False
theorem Cx.Ok.wish {X : Cx} (ok : X.Ok) (E : Value → Shared → Prop) : (X.wish E).Ok :=
  ⟨ok.mod, ok.kind, ok.glob, ok.blt, ok.above, ok.inj, ok.has, ok.cab, ok.hd, ok.frames, ok.stk, ok.exf, ok.bs, ok.bsz, ok.noex, ok.exfs, ok.funs, ok.frf⟩
theorem Cx.Ok.unwish {X : Cx} {E : Value → Shared → Prop} (ok : (X.wish E).Ok) : X.Ok :=
  ⟨ok.mod, ok.kind, ok.glob, ok.blt, ok.above, ok.inj, ok.has, ok.cab, ok.hd, ok.frames, ok.stk, ok.exf, ok.bs, ok.bsz, ok.noex, ok.exfs, ok.funs, ok.frf⟩
section
variable {X : Cx} {pins : List (Addr × Obj)} {σ : St} {H : Hp} {s : Shared} {E : Value → Shared → Prop}
theorem Inv.wish (I : Inv X pins σ H s) (E : Value → Shared → Prop) : Inv (X.wish E) pins σ H s := ⟨I.ok.wish E, I.os, I.bare, I.base, I.loc, I.cell, I.free, I.freeC, I.pin, I.hok, I.len⟩
theorem Inv.unwish (I : Inv (X.wish E) pins σ H s) : Inv X pins σ H s := ⟨I.ok.unwish, I.os, I.bare, I.base, I.loc, I.cell, I.free, I.freeC, I.pin, I.hok, I.len⟩
theorem SP.unwish {D : Ends} {f : Flow} {s' : Shared} (h : SP (X.wish E) pins D f s') : SP X pins D f s' := by
  cases f with
  | next => obtain ⟨σ', H', I, q⟩ := h; exact ⟨σ', H', I.unwish, q⟩
  | brk => obtain ⟨σ', H', I, q⟩ := h; exact ⟨σ', H', I.unwish, q⟩
  | cont => obtain ⟨σ', H', I, q⟩ := h; exact ⟨σ', H', I.unwish, q⟩
  | ret u => obtain ⟨v, σ', H', I, r, q⟩ := h; exact ⟨v, σ', H', I.unwish, r, q⟩
theorem PSs.nox {st : List Stmt} {t : TS} (h : PSs X.nox st t) : PSs X st t := fun pins s σ H D I hw =>
  wpAny_mono (h pins s σ H D (I.wish _) hw) (fun _ _ q => q.unwish) fun _ _ z => False.elim z
end
section
variable {X : Cx} {st : Stmt} {rest : List Stmt} {t u : TS} {e : Expr} {te : TE} {pos : Pos}
def tNext : TS := fun D σ H => D.nx σ H
def tSeq (t u : TS) : TS := fun D σ H => t { D with nx := u D } σ H
theorem pss_nil : PSs X [] tNext := fun _ _ σ H _ I h => wpAny_execs_nil ⟨σ, H, I, h⟩
theorem pss_cons (h1 : PS X st t) (h2 : PSs X rest u) : PSs X (st :: rest) (tSeq t u) := by
  intro pins s σ H D I h
  refine wpAny_execs_cons (thn (h1 pins s σ H { D with nx := u D } I h) fun f s1 q => ?_)
  cases f with
  | next =>
    obtain ⟨σ', H', I', q⟩ := q
    exact h2 pins s1 σ' H' D I' q
  | ret v => exact q
  | brk => exact q
  | cont => exact q
theorem pss_one (h1 : PS X st t) : PSs X [st] t := by
  intro pins s σ H D I h
  refine wpAny_execs_cons (thn (h1 pins s σ H D I h) fun f s1 q => ?_)
  cases f with
  | next => exact wpAny_execs_nil q
  | ret v => exact q
  | brk => exact q
  | cont => exact q
theorem Inv.quiet {pins : List (Addr × Obj)} {σ : St} {H : Hp} {s : Shared} (I : Inv X pins σ H s) : interactive X.env = false := by simp [interactive, I.ok.kind]
def tDrop (te : TE) : TS := fun D σ H => te σ H fun _ H1 => D.nx σ H1
theorem ps_expr (he : PE X e te) (hs : swapsWith e none pos.line X.env = pure false := by rfl) : PS X (.Expr e pos) (tDrop te) := by
  intro pins s σ H D I h
  exact wpAny_Expr_any (thn (he pins s σ H _ I h) fun v s1 ⟨x, H1, I1, r1, q1⟩ => ⟨σ, H1, I1, q1⟩) I.quiet hs
def tRet (te : TE) : TS := fun D σ H => te σ H D.rt
theorem ps_ret (he : PE X e te) : PS X (.Return (some e) pos) (tRet te) := by
  intro pins s σ H D I h
  exact wpAny_Return_some (thn (he pins s σ H _ I h) fun v s1 ⟨x, H1, I1, r1, q1⟩ => ⟨x, σ, H1, I1, r1, q1⟩)
def tIfS (c : TT) (t u : TS) : TS := fun D σ H => c σ H fun b H1 => if b = true then t D σ H1 else u D σ H1
theorem ps_if {c : Expr} {a b : List Stmt} {tc : TT} (hc : PT X c tc) (ha : PSs X a t) (hb : PSs X b u) : PS X (.If c a b pos) (tIfS tc t u) := by
  intro pins s σ H D I h
  refine wpAny_If (thn (hc pins s σ H _ I h) fun d s1 ⟨H1, I1, q1⟩ => ?_)
  cases d with
  | true => exact ha pins s1 σ H1 D I1 q1
  | false => exact hb pins s1 σ H1 D I1 q1
end
abbrev TG := V → St → Hp → (St → Hp → Prop) → Prop
abbrev TGs := List V → St → Hp → (St → Hp → Prop) → Prop
def PG (X : Cx) (target : Expr) (t : TG) : Prop :=
  ∀ (pins : List (Addr × Obj)) (s : Shared) (σ : St) (H : Hp) (v : V) (u : Value) (Q : St → Hp → Prop), Inv X pins σ H s → RelV v u → t v σ H Q →
    wpAny (model X.prog X.w) X.A (assign target X.env u) (fun _ s' => ∃ σ' H', Inv X pins σ' H' s' ∧ Q σ' H') X.xe s
def PGs (X : Cx) (ts : List Expr) (t : TGs) : Prop :=
  ∀ (pins : List (Addr × Obj)) (s : Shared) (σ : St) (H : Hp) (vs : List V) (us : List Value) (Q : St → Hp → Prop), Inv X pins σ H s → Vals vs us → t vs σ H Q →
    wpAny (model X.prog X.w) X.A (assignInOrder ((assignEach ts X.env).map (·.2)) us) (fun _ s' => ∃ σ' H', Inv X pins σ' H' s' ∧ Q σ' H') X.xe s
abbrev TSet := V → V → V → Hp → (Hp → Prop) → Prop
def PSet (X : Cx) (t : TSet) : Prop :=
  ∀ (pins : List (Addr × Obj)) (s : Shared) (σ : St) (H : Hp) (o i v : V) (ov iv u : Value) (Q : Hp → Prop), Inv X pins σ H s → RelV o ov → RelV i iv → RelV v u → t o i v H Q →
    wpAny (model X.prog X.w) X.A (setItem ov iv u) (fun _ s' => ∃ H', Inv X pins σ H' s' ∧ Q H') X.xe s
section
variable {X : Cx} {pos : Pos}
def gName (i : Nat) : TG := fun v σ H Q => Q (σ.set i (some v)) H
theorem pg_name {i : Nat} {x : Str} (hN : X.N.Nodup) (hi : X.N[i]? = some x) (hx : Loc X.env.scope x) (hf : X.fn x = true ∨ X.env.scope.names.lookup x = some .local := by first | exact .inl rfl | exact .inr rfl | assumption) : PG X (.Name x pos) (gName i) := by
  intro pins s σ H v u Q I r h
  exact wpAny_assign_Name (store_ok I hN hi hx r (fun s' I' => ⟨_, H, I', h⟩) hf)
def gNil : TGs := fun vs σ H Q => vs = [] ∧ Q σ H
def gCons (t : TG) (u : TGs) : TGs := fun vs σ H Q => ∃ v r, vs = v :: r ∧ t v σ H fun σ' H' => u r σ' H' Q
theorem pgs_nil : PGs X [] gNil := by
  intro pins s σ H vs us Q I r h
  obtain ⟨e, h⟩ := h
  subst e
  cases r
  exact assignInOrder_nil ⟨σ, H, I, h⟩
theorem pgs_cons {e : Expr} {es : List Expr} {t : TG} {u : TGs} (h1 : PG X e t) (h2 : PGs X es u)
    (hs : (assignEach (e :: es) X.env).map (·.2) = assign e X.env :: (assignEach es X.env).map (·.2) := by rfl) : PGs X (e :: es) (gCons t u) := by
  intro pins s σ H vs us Q I r h
  obtain ⟨v, vr, e1, h⟩ := h
  subst e1
  cases r with
  | cons r rr =>
    rw [hs]
    refine assignInOrder_cons (thn (h1 pins s σ H _ _ _ I r h) fun _ s1 ⟨σ1, H1, I1, q1⟩ => ?_)
    exact h2 pins s1 σ1 H1 _ _ Q I1 rr q1
def gTup (K : PySem.W.Frag) (n : Nat) (t : TGs) : TG := fun v σ H Q => ∃ a xs, v = .ref a ∧ SqT K H a xs ∧ xs.length = n ∧ t xs σ H Q
theorem pg_tup {es : List Expr} {k : Nat} {t : TGs} {n : Nat} (hc : X.calm = true) (h : PGs X es t)
    (hn : (assignEach es X.env).length = n := by rfl) (hst : (assignEach es X.env).findIdx? (·.1) = none := by rfl) : PG X (.Tuple es k pos) (gTup X.K n t) := by
  intro pins s σ H v u Q I r hw
  obtain ⟨a, xs, e1, hq, hl, hw⟩ := hw
  subst e1
  cases r
  obtain ⟨its, rv, ht, hz⟩ := I.tuple hq
  refine assign_Tuple_tuple (I.ok.hd hc) ht (by simp [hn, ← hl, rv.length]) hst fun h' hx => ?_
  have I1 : Inv X pins σ H { s with heap := h' } := I.kept (t' := s.toks) fun b o e => hx b o (Nat.ne_of_lt (Heap.lt_size e)) e
  exact h pins _ σ H xs _ Q I1 (by simpa using rv) hw
def gSub (to ti : TE) (t : TSet) : TG := fun v σ H Q => to σ H fun o H1 => ti σ H1 fun i H2 => t o i v H2 fun H3 => Q σ H3
theorem pg_sub {o i : Expr} {to ti : TE} {t : TSet} (ho : PE X o to) (hi : PE X i ti) (hs : PSet X t)
    (ha : ∀ v, assign (.Subscript o i pos) X.env v = (do
      let ov ← holding [v] (eval o X.env)
      let iv ← holding [v, ov] (eval i X.env)
      standAt pos
      holding [v, ov, iv] (setItem ov iv v)
      release [v, ov, iv] []) := by intro _; rfl) : PG X (.Subscript o i pos) (gSub to ti t) := by
  intro pins s σ H v u Q I r h
  rw [ha]
  refine wpAny_bind (wpAny_holding (thn (ho pins s σ H _ I h) fun ov s1 ⟨x, H1, I1, r1, q1⟩ => ?_))
  refine wpAny_bind (wpAny_holding (thn (hi pins s1 σ H1 _ I1 q1) fun iv s2 ⟨y, H2, I2, r2, q2⟩ => ?_))
  refine wpAny_bind (wpAny_standAt (wpAny_bind (wpAny_holding (thn (hs pins s2 σ H2 x y v ov iv u _ I2 r1 r2 r q2) fun _ s3 ⟨H3, I3, q3⟩ => ?_))))
  exact wpAny_release ⟨σ, H3, I3, q3⟩
def tAsg (te : TE) (g : TG) : TS := fun D σ H => te σ H fun x H1 => g x σ H1 D.nx
theorem ps_asg {tg e : Expr} {te : TE} {g : TG} (he : PE X e te) (hg : PG X tg g) (hs : swapsWithSole [tg] e pos.line X.env = pure false := by rfl) (hw : swappedStores [tg] e X.env = pure none := by rfl)
    (h1 : (assignEach [tg] X.env).map (·.2) = [assign tg X.env] := by rfl) : PS X (.Assign [tg] e pos) (tAsg te g) := by
  intro pins s σ H D I h
  refine wpAny_Assign_stores (thn (he pins s σ H _ I h) fun v s1 ⟨x, H1, I1, r1, q1⟩ => ?_) hs hw
  rw [h1]
  exact thn (hg pins s1 σ H1 x v _ I1 r1 q1) fun _ s2 q => q
theorem ps_set {i : Nat} {x : Str} {e : Expr} {te : TE} {pos' : Pos} (hN : X.N.Nodup) (hi : X.N[i]? = some x) (hx : Loc X.env.scope x) (he : PE X e te) (hs : swapsWith e (some (.Name x pos')) pos.line X.env = pure false := by rfl) (hf : X.fn x = true ∨ X.env.scope.names.lookup x = some .local := by first | exact .inl rfl | exact .inr rfl | assumption) :
    PS X (.Assign [.Name x pos'] e pos) (tAsg te (gName i)) := by
  intro pins s σ H D I h
  refine wpAny_Assign_Name (thn (he pins s σ H _ I h) fun v s1 ⟨y, H1, I1, r1, q1⟩ => ?_) hs
  exact store_ok I1 hN hi hx r1 (fun s2 I2 => ⟨_, H1, I2, q1⟩) hf
end
section
variable {X : Cx} {pos : Pos}
def tWhile (c : TT) (tb : TS) : TS := fun D σ H => ∃ W : Nat → St → Hp → Prop, (∃ m, W m σ H) ∧ ∀ m σ H, W m σ H →
  c σ H fun b H1 => if b = true then ∃ N : St → Hp → Prop, (∀ σ' H', N σ' H' → ∃ m', m' < m ∧ W m' σ' H') ∧ tb { D with nx := N, ct := N, bk := D.nx } σ H1 else D.nx σ H1
theorem ps_while {c : Expr} {body : List Stmt} {tc : TT} {tb : TS} (hp : PassesOwn (model X.prog X.w) X.A X.env X.xe) (hc : PT X c tc) (hb : PSs X body tb) : PS X (.While c body [] pos) (tWhile tc tb) := by
  intro pins s σ H D I h
  obtain ⟨W, ⟨m0, w0⟩, turn⟩ := h
  refine wpAny_While (codeAny_whileLoop (fun n s' => ∃ σ' H', Inv X pins σ' H' s' ∧ W n σ' H') ?_ m0 ⟨σ, H, I, w0⟩)
  rintro n s1 ⟨σ1, H1, I1, w1⟩
  refine wpAny_passesOwn hp (thn (hc pins s1 σ1 H1 _ I1 (turn n σ1 H1 w1)) fun b s2 ⟨H2, I2, q2⟩ => ?_)
  cases b with
  | true =>
    obtain ⟨N, hN, q2⟩ := q2
    rw [if_pos rfl]
    refine wpAny_passesOwn hp (thn (hb pins s2 σ1 H2 _ I2 q2) fun f s3 q3 => ?_)
    cases f with
    | next =>
      obtain ⟨σ3, H3, I3, n3⟩ := q3
      obtain ⟨m', hm, w3⟩ := hN σ3 H3 n3
      exact ⟨m', hm, σ3, H3, I3, w3⟩
    | cont =>
      obtain ⟨σ3, H3, I3, n3⟩ := q3
      obtain ⟨m', hm, w3⟩ := hN σ3 H3 n3
      exact ⟨m', hm, σ3, H3, I3, w3⟩
    | brk => exact q3
    | ret v => exact q3
  | false =>
    rw [if_neg Bool.false_ne_true]
    exact wpAny_execs_nil ⟨σ1, H2, I2, q2⟩
end
structure It where
  go : Nat → Hp → Prop
  yld : Nat → Hp → V → Hp → Prop
  stop : Nat → Hp → Prop
def FpOk (X : Cx) (pins : List (Addr × Obj)) (H : Hp) (b : Addr) : Prop :=
  H b = none ∧ b ≠ X.env.locals ∧ b ∉ X.fs ∧ (b ∈ X.ex ∨ X.s₀.heap.objs.size ≤ b) ∧ (∀ x c, X.env.cells.lookup x = some c → c ≠ b) ∧ ∀ p ∈ X.pn ++ pins, p.1 ≠ b
theorem Inv.fpOk {X : Cx} {pins : List (Addr × Obj)} {σ : St} {H H' : Hp} {s : Shared} {b : Addr} (I : Inv X pins σ H s) (hb : s.heap.objs.size ≤ b) (hn : H' b = none) : FpOk X pins H' b := by
  refine ⟨hn, Nat.ne_of_gt (Nat.lt_of_lt_of_le I.lt hb), I.nofs hb, .inr (Nat.le_trans I.sz hb), fun x c e z => ?_, fun p hp z => ?_⟩
  · obtain ⟨v, q⟩ := I.cell x c e
    exact absurd (Nat.lt_of_lt_of_le q.lt (by rw [z]; exact hb)) (Nat.lt_irrefl _)
  · exact absurd (Nat.lt_of_lt_of_le (Heap.lt_size (I.pin p hp).1) (by rw [z]; exact hb)) (Nat.lt_irrefl _)
structure Turn (P : Program) (w : World) (K : PySem.W.Frag) (tg : Expr) (J : It) (fp : List Addr) (it : Addr) (tn : Nat → Heap → Prop) : Prop where
  mem : it ∈ fp
  obj : ∀ i h, tn i h → ∀ b ∈ fp, ∃ o, h.get? b = some o ∧ ∀ v, o.data ≠ .cell v
  keep : ∀ i h h', tn i h → (∀ b ∈ fp, ∀ o, h.get? b = some o → h'.get? b = some o) → tn i h'
  item : ∀ (X : Cx), X.prog = P → X.w = w → X.K = K → X.calm = true → ∀ (i : Nat) (pins : List (Addr × Obj)) (s : Shared) (σ : St) (H : Hp) (E : Value → Shared → Prop), Inv X pins σ H s → (∀ b ∈ fp, FpOk X pins H b) → tn i s.heap → J.go i H →
    wpAny (model P w) X.A (pyNext (.ref it)) (fun r s1 => ∃ u, r = some u ∧
      wpAny (model P w) X.A (letOwnedTupleGo tg (.ref it) u) (fun _ s2 => ∃ x H', Inv X pins σ H' s2 ∧ RelV x u ∧ J.yld i H x H' ∧ tn (i + 1) s2.heap ∧ ∀ b ∈ fp, H' b = none) E s1) E s
  done : ∀ (X : Cx), X.prog = P → X.w = w → X.K = K → X.calm = true → ∀ (i : Nat) (pins : List (Addr × Obj)) (s : Shared) (σ : St) (H : Hp) (E : Value → Shared → Prop), Inv X pins σ H s → (∀ b ∈ fp, FpOk X pins H b) → tn i s.heap → J.stop i H →
    wpAny (model P w) X.A (pyNext (.ref it)) (fun r s1 => r = none ∧ Inv X pins σ H s1) E s
  self : ∀ (A : Around) (i : Nat) (s : Shared) (Q : Value → Shared → Prop) (E : Value → Shared → Prop), tn i s.heap → Q (.ref it) s → wpAny (model P w) A (pyIter (.ref it)) Q E s
abbrev TI := St → Hp → (It → Hp → Prop) → Prop
def PIE (X : Cx) (pins : List (Addr × Obj)) (σ : St) (tg : Expr) (R : It → Hp → Prop) (itv : Value) (s2 : Shared) : Prop :=
  ∃ (it : Addr) (fp : List Addr) (tn : Nat → Heap → Prop) (J : It) (H' : Hp), itv = .ref it ∧ Inv X pins σ H' s2 ∧ Turn X.prog X.w X.K tg J fp it tn ∧ tn 0 s2.heap ∧ (∀ b ∈ fp, FpOk X pins H' b) ∧ R J H'
def PI (X : Cx) (tg iter : Expr) (wi : TI) : Prop :=
  ∀ (pins : List (Addr × Obj)) (s : Shared) (σ : St) (H : Hp) (R : It → Hp → Prop), Inv X pins σ H s → wi σ H R →
    wpAny (model X.prog X.w) X.A (eval iter X.env) (fun v s1 => wpAny (model X.prog X.w) X.A (pyIter v) (PIE X pins σ tg R) X.xe s1) X.xe s
theorem go_of {M : Model} {A : Around} {E : Value → Shared → Prop} {s : Shared} {tg : Expr} {it : Addr} {u : Value} {o : Obj} {n : String} {vs : Array Value} {Q : Unit → Shared → Prop} (ho : s.heap.get? it = some o) (hc : o.cls = .type n) (hd : o.data = .fields vs)
    (hn : ["enumerate", "zip", "dict_itemiterator", "dict_reverseitemiterator", "odict_iterator", "itertools.zip_longest", "itertools.pairwise"].contains n = false) (hQ : Q () s) : wpAny M A (letOwnedTupleGo tg (.ref it) u) Q E s := by
  unfold letOwnedTupleGo
  cases tg <;> first
    | exact wpAny_pure hQ
    | (cases u <;> first
        | exact wpAny_pure hQ
        | (refine wpAny_bind (wpAny_load ho ?_)
           rw [hc, hd]
           show wpAny M A (if (["enumerate", "zip", "dict_itemiterator", "dict_reverseitemiterator", "odict_iterator", "itertools.zip_longest", "itertools.pairwise"].contains n && vs[0]? == some (rawInt _)) = true then _ else _) Q E s
           rw [if_neg (by intro h; rw [hn, Bool.false_and] at h; cases h)]
           exact wpAny_pure hQ))
def Itl (K : PySem.W.Frag) (a : Addr) : It :=
  ⟨fun i H => ∃ xs x, SqL K H a xs ∧ xs[i]? = some x, fun i H x H' => H' = H ∧ ∀ xs, SqL K H a xs → xs[i]? = some x, fun i H => ∃ xs, SqL K H a xs ∧ xs.length ≤ i⟩
def Itt (K : PySem.W.Frag) (a : Addr) : It :=
  ⟨fun i H => ∃ xs x, SqT K H a xs ∧ xs[i]? = some x, fun i H x H' => H' = H ∧ ∀ xs, SqT K H a xs → xs[i]? = some x, fun i H => ∃ xs, SqT K H a xs ∧ xs.length ≤ i⟩
def Itr (lo : Int) (n : Nat) : It := ⟨fun i _ => i < n, fun i H x H' => H' = H ∧ x = .int (lo + i), fun i _ => n ≤ i⟩
theorem turn_list {P : Program} {w : World} {K : PySem.W.Frag} {tg : Expr} (a it : Addr) : Turn P w K tg (Itl K a) [it] it (fun i h => h.IsListIter it a i) where
  mem := by simp
  obj := fun i h st b hb => by
    have e : b = it := by simpa using hb
    subst e
    obtain ⟨o, e, c, d⟩ := st
    exact ⟨o, e, fun v z => by rw [d] at z; cases z⟩
  keep := fun i h h' st k => st.at fun o e => k it (by simp) o e
  item := by
    intro X hP hw hK hc i pins s σ H E I hf st hg
    subst hP hw hK
    obtain ⟨xs, x, hq, hx⟩ := hg
    obtain ⟨its, rv, p, hz⟩ := I.list hq
    obtain ⟨u, hu, ru⟩ := rv.get hx
    obtain ⟨f0, f1, f2, f3, f4, f5⟩ := hf it (by simp)
    refine wpAny_pyNext_list_item st p.isList (x := u) (by simpa using hu) fun h' st' sb => ?_
    have I1 : Inv X pins σ H { s with heap := h' } := I.turned (t' := s.toks) (fun b o hb e => (sb.2 b hb).trans e) f0 f1 f3 f4 f5
    obtain ⟨o, e, c, d⟩ := id st'
    exact ⟨u, rfl, go_of (s := { s with heap := h' }) e c d (by decide) ⟨x, H, I1, ru, ⟨rfl, fun ys hy => by rw [I.list_inj hy hq]; exact hx⟩, st', fun b hb => (hf b hb).1⟩⟩
  done := by
    intro X hP hw hK hc i pins s σ H E I hf st hg
    subst hP hw hK
    obtain ⟨xs, hq, hx⟩ := hg
    obtain ⟨its, rv, p, hz⟩ := I.list hq
    obtain ⟨f0, f1, f2, f3, f4, f5⟩ := hf it (by simp)
    have hl := rv.length
    exact wpAny_pyNext_list_end (I.ok.hd hc) st p.isList (by simp; omega) fun h' eb => ⟨rfl, I.turned (t' := s.toks) (fun b o hb e => eb b o hb e) f0 f1 f3 f4 f5⟩
  self := fun _ _ _ _ _ st h => wpAny_pyIter_listiter st h
theorem turn_tuple {P : Program} {w : World} {K : PySem.W.Frag} {tg : Expr} (a it : Addr) : Turn P w K tg (Itt K a) [it] it (fun i h => h.IsTupleIter it a i) where
  mem := by simp
  obj := fun i h st b hb => by
    have e : b = it := by simpa using hb
    subst e
    obtain ⟨o, e, c, d⟩ := st
    exact ⟨o, e, fun v z => by rw [d] at z; cases z⟩
  keep := fun i h h' st k => st.at fun o e => k it (by simp) o e
  item := by
    intro X hP hw hK hc i pins s σ H E I hf st hg
    subst hP hw hK
    obtain ⟨xs, x, hq, hx⟩ := hg
    obtain ⟨its, rv, p, hz⟩ := I.tuple hq
    obtain ⟨u, hu, ru⟩ := rv.get hx
    obtain ⟨f0, f1, f2, f3, f4, f5⟩ := hf it (by simp)
    refine wpAny_pyNext_tuple_item st (show s.heap.IsTuple a its.toArray from p) (x := u) (by simpa using hu) fun h' st' sb => ?_
    have I1 : Inv X pins σ H { s with heap := h' } := I.turned (t' := s.toks) (fun b o hb e => (sb.2 b hb).trans e) f0 f1 f3 f4 f5
    obtain ⟨o, e, c, d⟩ := id st'
    exact ⟨u, rfl, go_of (s := { s with heap := h' }) e c d (by decide) ⟨x, H, I1, ru, ⟨rfl, fun ys hy => by rw [I.tuple_inj hy hq]; exact hx⟩, st', fun b hb => (hf b hb).1⟩⟩
  done := by
    intro X hP hw hK hc i pins s σ H E I hf st hg
    subst hP hw hK
    obtain ⟨xs, hq, hx⟩ := hg
    obtain ⟨its, rv, p, hz⟩ := I.tuple hq
    obtain ⟨f0, f1, f2, f3, f4, f5⟩ := hf it (by simp)
    have hl := rv.length
    exact wpAny_pyNext_tuple_end (I.ok.hd hc) st (show s.heap.IsTuple a its.toArray from p) (by simp; omega) fun h' eb => ⟨rfl, I.turned (t' := s.toks) (fun b o hb e => eb b o hb e) f0 f1 f3 f4 f5⟩
  self := fun _ _ _ _ _ st h => wpAny_pyIter_tupleiter st h
theorem turn_range {P : Program} {w : World} {K : PySem.W.Frag} {tg : Expr} (it : Addr) (lo : Int) (n : Nat) : Turn P w K tg (Itr lo n) [it] it (fun i h => IsRangeIter h it (lo + (i : Nat) * 1) ((n : Int) - (i : Nat)) 1) where
  mem := by simp
  obj := fun i h st b hb => by
    have e : b = it := by simpa using hb
    subst e
    exact ⟨_, st, fun v z => by
      have z' : Data.fields _ = Data.cell v := z
      cases z'⟩
  keep := fun i h h' st k => k it (by simp) _ st
  item := by
    intro X hP hw hK hc i pins s σ H E I hf st hg
    subst hP hw hK
    obtain ⟨f0, f1, f2, f3, f4, f5⟩ := hf it (by simp)
    have W := Walks.range (prog := X.prog) (w := X.w) (I.ok.hd hc) it lo 1 n
    refine W.item i s _ _ hg st fun v h' tk hv st' kk => ?_
    obtain ⟨t, rfl⟩ := hv
    have I1 : Inv X pins σ H { s with heap := h', toks := tk } := I.turned (fun b o hb e => kk b o (by simpa using hb) e) f0 f1 f3 f4 f5
    refine ⟨_, rfl, go_of (s := { s with heap := h', toks := tk }) (n := "range_iterator") st' rfl rfl (by decide) ⟨.int (lo + i), H, I1, ⟨t, ?_⟩, ⟨rfl, rfl⟩, st', fun b hb => (hf b hb).1⟩⟩
    rw [Int.mul_one]
  done := by
    intro X hP hw hK hc i pins s σ H E I hf st hg
    subst hP hw hK
    obtain ⟨f0, f1, f2, f3, f4, f5⟩ := hf it (by simp)
    exact wpAny_pyNext_range_end (I.ok.hd hc) st (by have : n ≤ i := hg; omega) fun h' eb => ⟨rfl, I.turned (t' := s.toks) (fun b o hb e => eb b o hb e) f0 f1 f3 f4 f5⟩
  self := fun _ _ _ _ _ st h => wpAny_pyIter_rangeiter st h
end L2
namespace L2
open PySem PySem.Spec PyProof.Rows
section
variable {X : Cx} {tg : Expr}
def iList (K : PySem.W.Frag) (tl : TE) : TI := fun σ H R => tl σ H fun x H1 => ∃ a, x = .ref a ∧ (∃ xs, SqL K H1 a xs) ∧ R (Itl K a) H1
def iTup (K : PySem.W.Frag) (tl : TE) : TI := fun σ H R => tl σ H fun x H1 => ∃ a, x = .ref a ∧ (∃ xs, SqT K H1 a xs) ∧ R (Itt K a) H1
theorem pi_list {l : Expr} {tl : TE} (hl : PE X l tl) : PI X tg l (iList X.K tl) := by
  intro pins s σ H R I h
  refine thn (hl pins s σ H _ I h) fun v s1 ⟨x, H1, I1, r1, q1⟩ => ?_
  obtain ⟨a, e, ⟨xs, hq⟩, q⟩ := q1
  subst e
  cases r1
  obtain ⟨its, rv, p, hz⟩ := I1.list hq
  refine wpAny_pyIter_list p.isList ?_
  refine ⟨s1.heap.objs.size, [s1.heap.objs.size], _, _, H1, rfl, I1.kept (t' := s1.toks) fun b o e => Heap.get?_push_of_some _ e, turn_list a _, ⟨_, Heap.get?_push_size _ rfl, rfl, rfl⟩, fun b hb => ?_, q⟩
  have e : b = s1.heap.objs.size := by simpa using hb
  subst e
  exact I1.fpOk (Nat.le_refl _) (I1.hok.fresh (Nat.le_refl _))
theorem pi_tup {l : Expr} {tl : TE} (hl : PE X l tl) : PI X tg l (iTup X.K tl) := by
  intro pins s σ H R I h
  refine thn (hl pins s σ H _ I h) fun v s1 ⟨x, H1, I1, r1, q1⟩ => ?_
  obtain ⟨a, e, ⟨xs, hq⟩, q⟩ := q1
  subst e
  cases r1
  obtain ⟨its, rv, p, hz⟩ := I1.tuple hq
  refine wpAny_pyIter_tuple (show s1.heap.IsTuple a its.toArray from p) ?_
  refine ⟨s1.heap.objs.size, [s1.heap.objs.size], _, _, H1, rfl, I1.kept (t' := s1.toks) fun b o e => Heap.get?_push_of_some _ e, turn_tuple a _, ⟨_, Heap.get?_push_size _ rfl, rfl, rfl⟩, fun b hb => ?_, q⟩
  have e : b = s1.heap.objs.size := by simpa using hb
  subst e
  exact I1.fpOk (Nat.le_refl _) (I1.hok.fresh (Nat.le_refl _))
theorem range_it {pins : List (Addr × Obj)} {σ : St} {H : Hp} {s : Shared} {R : It → Hp → Prop} {E : Value → Shared → Prop} {lo hi : Int} {t u v : Tok} {tk : Nat} (I : Inv X pins σ H s) (h1 : -(2 ^ 62) ≤ lo) (h2 : lo < 2 ^ 62) (h3 : -(2 ^ 62) ≤ hi) (h4 : hi < 2 ^ 62)
    (q : R (Itr lo (hi - lo).toNat) H) : wpAny (model X.prog X.w) X.A (pyIter (.ref s.heap.objs.size)) (PIE X pins σ tg R) E { s with heap := s.heap.push { cls := .type "range", data := .fields #[.int lo t, .int hi u, .int 1 v] }, toks := tk } := by
  refine wpAny_pyIter_range (IsRange.new ..) (small_one h1 h2 h3 h4) ?_
  have I1 : Inv X pins σ H { s with heap := s.heap.push { cls := .type "range", data := .fields #[.int lo t, .int hi u, .int 1 v] }, toks := tk } := I.kept fun b o e => Heap.get?_push_of_some _ e
  refine ⟨(s.heap.push { cls := .type "range", data := .fields #[.int lo t, .int hi u, .int 1 v] }).objs.size, [(s.heap.push { cls := .type "range", data := .fields #[.int lo t, .int hi u, .int 1 v] }).objs.size], _, _, H, rfl,
    I1.kept (t' := tk) fun b o e => Heap.get?_push_of_some _ e, turn_range _ lo (hi - lo).toNat, ?_, fun b hb => ?_, q⟩
  · have e1 : lo + ((0 : Nat) : Int) * 1 = lo := by simp
    have e2 : (((hi - lo).toNat : Nat) : Int) - ((0 : Nat) : Int) = Builtin.Range.rangeSize lo hi 1 := by rw [rangeSize_one]; split <;> omega
    show IsRangeIter _ _ (lo + ((0 : Nat) : Int) * 1) ((((hi - lo).toNat : Nat) : Int) - ((0 : Nat) : Int)) 1
    rw [e1, e2]
    exact Heap.get?_push_size _ rfl
  · have e : b = (s.heap.push { cls := .type "range", data := .fields #[.int lo t, .int hi u, .int 1 v] }).objs.size := by simpa using hb
    subst e
    exact I1.fpOk (Nat.le_refl _) (I1.hok.fresh (Nat.le_refl _))
def iRng1 (ta : TA) : TI := fun σ H R => ta σ H fun vs H1 => ∃ j : Int, vs = [.int j] ∧ -(2 ^ 62) ≤ j ∧ j < 2 ^ 62 ∧ R (Itr 0 j.toNat) H1
theorem pi_range1 {a : Expr} {ta : TA} {p pos : Pos} (hg : Gl X "range") (hm : X.mg "range" = none) (ha : PA X [a] ta) (hs : starEach [a] X.env = [(false, eval a X.env)] := by rfl) : PI X tg (.Call (.Name "range" p) [a] [] pos) (iRng1 ta) := by
  intro pins s σ H R I h
  refine Call_ (ld_blt I hg hm boot_range (PyProof.Rows.callWith_type1 (thn (ha pos pins s σ H _ I h) fun us s1 ⟨vs, H1, I1, r1, q1⟩ => ?_) hs rfl))
  obtain ⟨j, e, q1, q2, q⟩ := q1
  subst e
  cases r1 with
  | cons r rr =>
    cases rr
    obtain ⟨t, rfl⟩ := r
    exact call_range_1 (range_it I1 (by omega) (by omega) q1 q2 (by simpa using q))
def tFor (wi : TI) (g : TG) (tb : TS) : TS := fun D σ H => wi σ H fun J H1 => ∃ W : Nat → Nat → St → Hp → Prop, (∃ m, W 0 m σ H1) ∧ ∀ i m σ H, W i m σ H →
  (J.stop i H ∧ D.nx σ H) ∨ (J.go i H ∧ ∃ N : St → Hp → Prop, (∀ σ' H', N σ' H' → ∃ m', m' < m ∧ W (i + 1) m' σ' H') ∧ ∀ x H', J.yld i H x H' → g x σ H' fun σ2 H2 => tb { D with nx := N, ct := N, bk := D.nx } σ2 H2)
def pinsAt (fp : List Addr) (h : Heap) : List (Addr × Obj) := fp.filterMap fun b => (h.get? b).map fun o => (b, o)
theorem mem_pinsAt {fp : List Addr} {h : Heap} {b : Addr} {o : Obj} (hb : b ∈ fp) (e : h.get? b = some o) : (b, o) ∈ pinsAt fp h := List.mem_filterMap.mpr ⟨b, hb, by rw [e]; rfl⟩
theorem of_pinsAt {fp : List Addr} {h : Heap} {p : Addr × Obj} (hp : p ∈ pinsAt fp h) : p.1 ∈ fp ∧ h.get? p.1 = some p.2 := by
  obtain ⟨b, hb, e⟩ := List.mem_filterMap.mp hp
  cases q : h.get? b with
  | none => rw [q] at e; cases e
  | some o =>
    rw [q] at e
    have e' : (b, o) = p := Option.some.inj e
    subst e'
    exact ⟨hb, q⟩
theorem Inv.pinned {pins : List (Addr × Obj)} {σ : St} {H : Hp} {s : Shared} {fp : List Addr} (I : Inv X pins σ H s) (hf : ∀ b ∈ fp, FpOk X pins H b) (ho : ∀ b ∈ fp, ∃ o, s.heap.get? b = some o ∧ ∀ v, o.data ≠ .cell v) : Inv X (pins ++ pinsAt fp s.heap) σ H s :=
  I.pins_of fun p hp => (List.mem_append.mp hp).elim (fun z => I.pin p (List.mem_append_right _ z)) fun z => by
    obtain ⟨hb, e⟩ := of_pinsAt z
    obtain ⟨f0, f1, f2, _⟩ := hf p.1 hb
    obtain ⟨o, e', d⟩ := ho p.1 hb
    rw [e] at e'; cases e'
    exact ⟨e, f0, f1, f2, d⟩
theorem Inv.unpinned {pins pl : List (Addr × Obj)} {σ : St} {H : Hp} {s : Shared} (I : Inv X (pins ++ pl) σ H s) : Inv X pins σ H s := I.pins_of fun p hp => I.pin p (List.mem_append_right _ (List.mem_append_left _ hp))
theorem ps_for {iter : Expr} {body : List Stmt} {wi : TI} {g : TG} {tb : TS} {pos : Pos} (hp : PassesOwn (model X.prog X.w) X.A X.env X.xe) (hc : X.calm = true) (hi : PI X tg iter wi) (hg : PG X tg g) (hb : PSs X body tb)
    (hs : ∀ x, foldedSetIterable iter X.env x = pure x := by intro _; rfl) : PS X (.For tg iter body [] pos) (tFor wi g tb) := by
  intro pins s σ H D I h
  refine wpAny_For (thn (hi pins s σ H _ I h) fun v s1 h1 => thn h1 fun itv s2 h2 => ?_) hs
  obtain ⟨it, fp, tn, J, H2, e, I2, T, st2, f2, W, ⟨m0, w0⟩, turn⟩ := h2
  subst e
  -- what stays true of the iterator's objects through the loop
  have stat : ∀ {H' : Hp}, (∀ b ∈ fp, H' b = none) → ∀ b ∈ fp, FpOk X pins H' b := fun hn b hb => ⟨hn b hb, (f2 b hb).2⟩
  refine codeAny_forLoop_any (fun n s' => ∃ i σ' H', Inv X pins σ' H' s' ∧ tn i s'.heap ∧ (∀ b ∈ fp, H' b = none) ∧ W i n σ' H') ?_ m0 ⟨0, σ, H2, I2, st2, fun b hb => (f2 b hb).1, w0⟩
  rintro n s3 ⟨i, σ3, H3, I3, st3, fr3, w3⟩
  rcases turn i n σ3 H3 w3 with ⟨stop, qn⟩ | ⟨go, N, hN, step⟩
  · refine wpAny_passesOwn hp (thn (T.done X rfl rfl rfl hc i pins s3 σ3 H3 X.xe I3 (stat fr3) st3 stop) fun r s4 ⟨hr, I4⟩ => ?_)
    subst hr
    exact wpAny_execs_nil ⟨σ3, H3, I4, qn⟩
  · refine wpAny_passesOwn hp (thn (T.item X rfl rfl rfl hc i pins s3 σ3 H3 X.xe I3 (stat fr3) st3 go) fun r s4 ⟨u, hr, h4⟩ => ?_)
    subst hr
    refine wpAny_passesOwn hp (thn h4 fun _ s5 ⟨x, H5, I5, r5, y5, st5, fr5⟩ => ?_)
    have I5' := I5.pinned (stat fr5) (T.obj _ _ st5)
    refine wpAny_passesOwn hp (thn (hg _ s5 σ3 H5 x u _ I5' r5 (step x H5 y5)) fun _ s6 ⟨σ6, H6, I6, q6⟩ => ?_)
    refine wpAny_passesOwn hp (thn (hb _ s6 σ6 H6 _ I6 q6) fun f s7 q7 => ?_)
    have again : ∀ {σ7 : St} {H7 : Hp}, Inv X (pins ++ pinsAt fp s5.heap) σ7 H7 s7 → N σ7 H7 → ∃ m, m < n ∧ ∃ i σ' H', Inv X pins σ' H' s7 ∧ tn i s7.heap ∧ (∀ b ∈ fp, H' b = none) ∧ W i m σ' H' := fun {σ7 H7} I7 n7 => by
      obtain ⟨m', hm, w7⟩ := hN σ7 H7 n7
      refine ⟨m', hm, i + 1, σ7, H7, I7.unpinned, T.keep _ _ _ st5 fun b hb o e => (I7.pin (b, o) (List.mem_append_right _ (List.mem_append_right _ (mem_pinsAt hb e)))).1, fun b hb => ?_, w7⟩
      obtain ⟨o, e, d⟩ := T.obj _ _ st5 b hb
      exact (I7.pin (b, o) (List.mem_append_right _ (List.mem_append_right _ (mem_pinsAt hb e)))).2.1
    cases f with
    | next => obtain ⟨σ7, H7, I7, n7⟩ := q7; exact again I7 n7
    | cont => obtain ⟨σ7, H7, I7, n7⟩ := q7; exact again I7 n7
    | brk => obtain ⟨σ7, H7, I7, q7⟩ := q7; exact ⟨σ7, H7, I7.unpinned, q7⟩
    | ret v => obtain ⟨x7, σ7, H7, I7, r7, q7⟩ := q7; exact ⟨x7, σ7, H7, I7.unpinned, r7, q7⟩
end
theorem for_list {K : PySem.W.Frag} {a : Addr} {xs : List V} {g : TG} {tb : TS} {D : Ends} {σ : St} {H : Hp} (Pv : Nat → St → Hp → Prop) (h0 : Pv 0 σ H) (hl : ∀ i σ H, i ≤ xs.length → Pv i σ H → SqL K H a xs)
    (hs : ∀ i x σ H, xs[i]? = some x → Pv i σ H → g x σ H fun σ2 H2 => tb { D with nx := Pv (i + 1), ct := Pv (i + 1), bk := D.nx } σ2 H2) (hd : ∀ σ H, Pv xs.length σ H → D.nx σ H) :
    ∃ W : Nat → Nat → St → Hp → Prop, (∃ m, W 0 m σ H) ∧ ∀ i m σ H, W i m σ H →
      ((Itl K a).stop i H ∧ D.nx σ H) ∨ ((Itl K a).go i H ∧ ∃ N : St → Hp → Prop, (∀ σ' H', N σ' H' → ∃ m', m' < m ∧ W (i + 1) m' σ' H') ∧ ∀ x H', (Itl K a).yld i H x H' → g x σ H' fun σ2 H2 => tb { D with nx := N, ct := N, bk := D.nx } σ2 H2) := by
  refine ⟨fun i m σ H => m = xs.length - i ∧ i ≤ xs.length ∧ Pv i σ H, ⟨xs.length, by simp, Nat.zero_le _, h0⟩, ?_⟩
  rintro i m σ H ⟨rfl, hi, p⟩
  have q := hl i σ H hi p
  by_cases hlt : i < xs.length
  · refine .inr ⟨⟨xs, xs[i], q, by simp [hlt]⟩, Pv (i + 1), fun σ' H' p' => ⟨xs.length - (i + 1), by omega, rfl, hlt, p'⟩, fun x H' y => ?_⟩
    obtain ⟨e, y⟩ := y
    subst e
    exact hs i x σ _ (y xs q) p
  · have e : i = xs.length := by omega
    subst e
    exact .inl ⟨⟨xs, q, Nat.le_refl _⟩, hd σ H p⟩
theorem for_tup {K : PySem.W.Frag} {a : Addr} {xs : List V} {g : TG} {tb : TS} {D : Ends} {σ : St} {H : Hp} (Pv : Nat → St → Hp → Prop) (h0 : Pv 0 σ H) (hl : ∀ i σ H, i ≤ xs.length → Pv i σ H → SqT K H a xs)
    (hs : ∀ i x σ H, xs[i]? = some x → Pv i σ H → g x σ H fun σ2 H2 => tb { D with nx := Pv (i + 1), ct := Pv (i + 1), bk := D.nx } σ2 H2) (hd : ∀ σ H, Pv xs.length σ H → D.nx σ H) :
    ∃ W : Nat → Nat → St → Hp → Prop, (∃ m, W 0 m σ H) ∧ ∀ i m σ H, W i m σ H →
      ((Itt K a).stop i H ∧ D.nx σ H) ∨ ((Itt K a).go i H ∧ ∃ N : St → Hp → Prop, (∀ σ' H', N σ' H' → ∃ m', m' < m ∧ W (i + 1) m' σ' H') ∧ ∀ x H', (Itt K a).yld i H x H' → g x σ H' fun σ2 H2 => tb { D with nx := N, ct := N, bk := D.nx } σ2 H2) := by
  refine ⟨fun i m σ H => m = xs.length - i ∧ i ≤ xs.length ∧ Pv i σ H, ⟨xs.length, by simp, Nat.zero_le _, h0⟩, ?_⟩
  rintro i m σ H ⟨rfl, hi, p⟩
  have q := hl i σ H hi p
  by_cases hlt : i < xs.length
  · refine .inr ⟨⟨xs, xs[i], q, by simp [hlt]⟩, Pv (i + 1), fun σ' H' p' => ⟨xs.length - (i + 1), by omega, rfl, hlt, p'⟩, fun x H' y => ?_⟩
    obtain ⟨e, y⟩ := y
    subst e
    exact hs i x σ _ (y xs q) p
  · have e : i = xs.length := by omega
    subst e
    exact .inl ⟨⟨xs, q, Nat.le_refl _⟩, hd σ H p⟩
theorem for_range {lo : Int} {n : Nat} {g : TG} {tb : TS} {D : Ends} {σ : St} {H : Hp} (Pv : Nat → St → Hp → Prop) (h0 : Pv 0 σ H)
    (hs : ∀ i σ H, i < n → Pv i σ H → g (.int (lo + i)) σ H fun σ2 H2 => tb { D with nx := Pv (i + 1), ct := Pv (i + 1), bk := D.nx } σ2 H2) (hd : ∀ σ H, Pv n σ H → D.nx σ H) :
    ∃ W : Nat → Nat → St → Hp → Prop, (∃ m, W 0 m σ H) ∧ ∀ i m σ H, W i m σ H →
      ((Itr lo n).stop i H ∧ D.nx σ H) ∨ ((Itr lo n).go i H ∧ ∃ N : St → Hp → Prop, (∀ σ' H', N σ' H' → ∃ m', m' < m ∧ W (i + 1) m' σ' H') ∧ ∀ x H', (Itr lo n).yld i H x H' → g x σ H' fun σ2 H2 => tb { D with nx := N, ct := N, bk := D.nx } σ2 H2) := by
  refine ⟨fun i m σ H => m = n - i ∧ i ≤ n ∧ Pv i σ H, ⟨n, by simp, Nat.zero_le _, h0⟩, ?_⟩
  rintro i m σ H ⟨rfl, hi, p⟩
  by_cases hlt : i < n
  · refine .inr ⟨hlt, Pv (i + 1), fun σ' H' p' => ⟨n - (i + 1), by omega, rfl, hlt, p'⟩, fun x H' y => ?_⟩
    obtain ⟨e, y⟩ := y
    subst e y
    exact hs i σ _ hlt p
  · have e : i = n := by omega
    subst e
    exact .inl ⟨Nat.le_refl _, hd σ H p⟩
end L2
namespace L2
open PySem PySem.Spec PyProof.Rows
abbrev R2 := V → V → Hp → VK → Prop
def OpR (X : Cx) (f : Value → Value → Sem Value) (r : R2) : Prop :=
  ∀ (pins : List (Addr × Obj)) (s : Shared) (σ : St) (H : Hp) (x y : V) (v u : Value) (Q : VK), Inv X pins σ H s → RelV x v → RelV y u → r x y H Q →
    wpAny (model X.prog X.w) X.A (f v u) (EP X pins σ Q) X.xe s
def UnR (X : Cx) (f : Value → Sem Value) (r : V → Hp → VK → Prop) : Prop :=
  ∀ (pins : List (Addr × Obj)) (s : Shared) (σ : St) (H : Hp) (x : V) (v : Value) (Q : VK), Inv X pins σ H s → RelV x v → r x H Q →
    wpAny (model X.prog X.w) X.A (f v) (EP X pins σ Q) X.xe s
def CallR (X : Cx) (f : Value) (r : List V → Hp → VK → Prop) : Prop :=
  ∀ (pins : List (Addr × Obj)) (s : Shared) (σ : St) (H : Hp) (xs : List V) (us : List Value) (Q : VK), Inv X pins σ H s → Vals xs us → r xs H Q →
    wpAny (model X.prog X.w) X.A (call f us) (EP X pins σ Q) X.xe s
def TruR (X : Cx) (r : V → Hp → (Bool → Hp → Prop) → Prop) : Prop :=
  ∀ (pins : List (Addr × Obj)) (s : Shared) (σ : St) (H : Hp) (x : V) (v : Value) (Q : Bool → Hp → Prop), Inv X pins σ H s → RelV x v → r x H Q →
    wpAny (model X.prog X.w) X.A (truthy v) (TP X pins σ Q) X.xe s
def tOp (r : R2) (ta tb : TE) : TE := fun σ H Q => ta σ H fun x H1 => tb σ H1 fun y H2 => r x y H2 Q
def tUn (r : V → Hp → VK → Prop) (ta : TE) : TE := fun σ H Q => ta σ H fun x H1 => r x H1 Q
inductive IrI (C : Int → Int → Prop) (g : Int → Int → V) (x : V) (y : V) (H : Hp) (Q : VK) : Prop
  | mk (i : _) (j : _) (zz0 : x = .int i) (zz1 : y = .int j) (zz2 : C i j) (zz3 : Q (g i j) H) : IrI C g x y H Q
def rI (C : Int → Int → Prop) (g : Int → Int → V) : R2 := IrI C g
inductive IrI0 (g : Int → Int → V) (x : V) (y : V) (H : Hp) (Q : VK) : Prop
  | mk (i : _) (j : _) (zz0 : x = .int i) (zz1 : y = .int j) (zz2 : Q (g i j) H) : IrI0 g x y H Q
def rI0 (g : Int → Int → V) : R2 := IrI0 g
inductive IrU (g : Int → V) (x : V) (H : Hp) (Q : VK) : Prop
  | mk (i : _) (zz0 : x = .int i) (zz1 : Q (g i) H) : IrU g x H Q
def rU (g : Int → V) : V → Hp → VK → Prop := IrU g
section
variable {X : Cx} {a b c : Expr} {ta tb tc : TE} {pos : Pos}
theorem binT (ha : PE X a ta) (hb : PE X b tb) {pins : List (Addr × Obj)} {s : Shared} {σ : St} {H : Hp} {R : V → V → Hp → Prop} (I : Inv X pins σ H s)
    (h : ta σ H fun x H1 => tb σ H1 fun y H2 => R x y H2) {Q : Value → Shared → Prop} {f : Value → Value → Sem Value}
    (hf : ∀ v u s2 x y H2, Inv X pins σ H2 s2 → RelV x v → RelV y u → R x y H2 → wpAny (model X.prog X.w) X.A (f v u) Q X.xe s2) :
    wpAny (model X.prog X.w) X.A (eval a X.env) (fun v s₁ => wpAny (model X.prog X.w) X.A (eval b X.env) (fun u s₂ => wpAny (model X.prog X.w) X.A (f v u) Q X.xe s₂) X.xe s₁) X.xe s := by
  refine thn (ha pins s σ H _ I h) fun v s1 ⟨x, H1, I1, r1, q1⟩ => ?_
  refine thn (hb pins s1 σ H1 _ I1 q1) fun u s2 ⟨y, H2, I2, r2, q2⟩ => ?_
  exact hf v u s2 x y H2 I2 r1 r2 q2
theorem pe_op {op : Operator} {r : R2} (ho : OpR X (binaryOp op) r) (ha : PE X a ta) (hb : PE X b tb) : PE X (.BinOp a op b pos) (tOp r ta tb) := by
  intro pins s σ H Q I h
  exact wpAny_BinOp (binT ha hb I h fun v u s2 x y H2 I2 rx ry q => ho pins s2 σ H2 x y v u Q I2 rx ry q)
theorem pe_un {op : UnaryOp} {r : V → Hp → VK → Prop} (ho : UnR X (unaryOp op) r) (ha : PE X a ta) : PE X (.UnaryOp op a pos) (tUn r ta) := by
  intro pins s σ H Q I h
  exact UnaryOp_ (thn (ha pins s σ H _ I h) fun v s1 ⟨x, H1, I1, r1, q1⟩ => ho pins s1 σ H1 x v Q I1 r1 q1)
theorem opI {f : Value → Value → Sem Value} {C : Int → Int → Prop} {g : Int → Int → Int}
    (rule : ∀ (i j : Int) (t u : Tok) (s : Shared) (Q : Value → Shared → Prop) (E : Value → Shared → Prop), C i j → Q (.int (g i j) s.toks) { s with toks := s.toks + 1 } → wpAny (model X.prog X.w) X.A (f (.int i t) (.int j u)) Q E s) :
    OpR X f (rI C fun i j => .int (g i j)) := by
  intro pins s σ H x y v u Q I rx ry h
  obtain ⟨i, j, rfl, rfl, hc, q⟩ := h
  obtain ⟨t, rfl⟩ := rx
  obtain ⟨t', rfl⟩ := ry
  exact rule i j t t' s _ _ hc ⟨.int (g i j), H, I.tok _, ⟨_, rfl⟩, q⟩
theorem opI0 {f : Value → Value → Sem Value} {g : Int → Int → Int}
    (rule : ∀ (i j : Int) (t u : Tok) (s : Shared) (Q : Value → Shared → Prop) (E : Value → Shared → Prop), Q (.int (g i j) s.toks) { s with toks := s.toks + 1 } → wpAny (model X.prog X.w) X.A (f (.int i t) (.int j u)) Q E s) :
    OpR X f (rI0 fun i j => .int (g i j)) := by
  intro pins s σ H x y v u Q I rx ry h
  obtain ⟨i, j, rfl, rfl, q⟩ := h
  obtain ⟨t, rfl⟩ := rx
  obtain ⟨t', rfl⟩ := ry
  exact rule i j t t' s _ _ ⟨.int (g i j), H, I.tok _, ⟨_, rfl⟩, q⟩
theorem opB0 {f : Value → Value → Sem Value} {g : Int → Int → Bool}
    (rule : ∀ (i j : Int) (t u : Tok) (s : Shared) (Q : Value → Shared → Prop) (E : Value → Shared → Prop), Q (.bool (g i j)) s → wpAny (model X.prog X.w) X.A (f (.int i t) (.int j u)) Q E s) :
    OpR X f (rI0 fun i j => .bl (g i j)) := by
  intro pins s σ H x y v u Q I rx ry h
  obtain ⟨i, j, rfl, rfl, q⟩ := h
  obtain ⟨t, rfl⟩ := rx
  obtain ⟨t', rfl⟩ := ry
  exact rule i j t t' s _ _ ⟨.bl (g i j), H, I, rfl, q⟩
def CDiv (i j : Int) : Prop := 0 < j ∧ j < 1073741824
def CPow (i j : Int) : Prop := 0 ≤ j ∧ j ≤ 1000000 ∧ i.natAbs < 2 ^ 64
def CMul (i j : Int) : Prop := (-(2 ^ 64) < i ∧ i < 2 ^ 64) ∨ (-(2 ^ 64) < j ∧ j < 2 ^ 64)
theorem CMul.ok {i j : Int} (h : CMul i j) : IntMulOk i j := by
  rcases h with ⟨h1, h2⟩ | ⟨h1, h2⟩
  · exact .of_left (intBits_le_64 h1 h2)
  · exact .of_right (intBits_le_64 h1 h2)
theorem op_add : OpR X (binaryOp .Add) (rI0 fun i j => .int (i + j)) := opI0 fun _ _ _ _ _ _ _ q => add_int q
theorem op_sub : OpR X (binaryOp .Sub) (rI0 fun i j => .int (i - j)) := opI0 fun _ _ _ _ _ _ _ q => sub_int q
theorem op_mul : OpR X (binaryOp .Mult) (rI CMul fun i j => .int (i * j)) := opI fun _ _ _ _ _ _ _ hc q => mul_int q hc.ok
theorem op_fdiv : OpR X (binaryOp .FloorDiv) (rI CDiv fun i j => .int (i / j)) := opI fun i j _ _ _ _ _ hc q => by
  have h1 : (0 : Int) < j := hc.1
  have h2 : j < 1073741824 := hc.2
  exact floordiv_int (by omega) (by rw [Int.fdiv_eq_ediv_of_nonneg i (by omega)]; exact q) (.inl (PyProof.noPylong_small (by omega)))
theorem op_mod : OpR X (binaryOp .Mod) (rI (fun _ j => 0 < j) fun i j => .int (i % j)) := opI fun i j _ _ _ _ _ hc q => by
  have h1 : (0 : Int) < j := hc
  exact mod_int' (by omega) (by rw [Int.fmod_eq_emod_of_nonneg i (by omega)]; exact q)
theorem op_pow : OpR X (binaryOp .Pow) (rI CPow fun i j => .int (i ^ j.toNat)) := opI fun _ _ _ _ _ _ _ hc q => pow_int_small hc.1 hc.2.1 hc.2.2 q
theorem unI {f : Value → Sem Value} {g : Int → Int}
    (rule : ∀ (i : Int) (t : Tok) (s : Shared) (Q : Value → Shared → Prop) (E : Value → Shared → Prop), Q (.int (g i) s.toks) { s with toks := s.toks + 1 } → wpAny (model X.prog X.w) X.A (f (.int i t)) Q E s) :
    UnR X f (rU fun i => .int (g i)) := by
  intro pins s σ H x v Q I rx h
  obtain ⟨i, rfl, q⟩ := h
  obtain ⟨t, rfl⟩ := rx
  exact rule i t s _ _ ⟨.int (g i), H, I.tok _, ⟨_, rfl⟩, q⟩
theorem un_neg : UnR X (unaryOp .USub) (rU fun i => .int (-i)) := unI fun _ _ _ _ _ q => neg_int q
end
def scal : V → V → Bool
  | .non, .non => true | .non, .int _ => true | .int _, .non => true | .non, .bl _ => true | .bl _, .non => true | .non, .str _ => true | .str _, .non => true
  | .int _, .int _ => true | .bl _, .bl _ => true | .str _, .str _ => true | .byt _, .byt _ => true
  | .int _, .str _ => true | .str _, .int _ => true | .bl _, .str _ => true | .str _, .bl _ => true
  | _, _ => false
inductive IrEq (x : V) (y : V) (H : Hp) (Q : VK) : Prop
  | mk  (zz0 : scal x y = true) (zz1 : Q (.bl (decide (x = y))) H) : IrEq  x y H Q
def rEq : R2 := IrEq 
inductive IrNe (x : V) (y : V) (H : Hp) (Q : VK) : Prop
  | mk  (zz0 : scal x y = true) (zz1 : Q (.bl (!decide (x = y))) H) : IrNe  x y H Q
def rNe : R2 := IrNe 
theorem dec_int {i j : Int} : decide (V.int i = V.int j) = (i == j) := by
  rw [Bool.eq_iff_iff]
  simp
theorem dec_bl {i j : Bool} : decide (V.bl i = V.bl j) = (i == j) := by
  rw [Bool.eq_iff_iff]
  simp
theorem dec_str {i j : Str} : decide (V.str i = V.str j) = (i == j) := by
  rw [Bool.eq_iff_iff]
  simp
theorem dec_byt {i j : Array UInt8} : decide (V.byt i = V.byt j) = (i.toList == j.toList) := by
  rw [Bool.eq_iff_iff]
  cases i
  cases j
  simp
section
variable {X : Cx} {a b c : Expr} {ta tb tc : TE} {pos : Pos}
theorem fin_bl {pins : List (Addr × Obj)} {σ : St} {H : Hp} {s : Shared} {Q : VK} {k k' : Bool} (I : Inv X pins σ H s) (q : Q (.bl k) H) (e : k = k') : EP X pins σ Q (.bool k') s := by
  subst e
  exact ⟨.bl k, H, I, rfl, q⟩
theorem op_eq : OpR X (compareOp .Eq) rEq := by
  intro pins s σ H x y v u Q I rx ry h
  obtain ⟨hs, q⟩ := h
  cases x with
  | non =>
    cases rx
    cases y with
    | non => cases ry; exact PySem.EqNone.eq_none_none (fin_bl I q (by simp))
    | bl j => cases ry; exact PySem.EqNone.eq_none_bool (fin_bl I q (by simp))
    | int j => obtain ⟨t', rfl⟩ := ry; exact PySem.EqNone.eq_none_int (fin_bl I q (by simp))
    | str j => obtain ⟨t', rfl⟩ := ry; exact PySem.EqNone.eq_none_str (fin_bl I q (by simp))
    | _ => exact absurd (show false = true from hs) Bool.false_ne_true
  | bl i =>
    cases rx
    cases y with
    | non => cases ry; exact PySem.EqNone.eq_bool_none (fin_bl I q (by simp))
    | bl j => cases ry; exact eq_bool (fin_bl I q dec_bl)
    | str j => obtain ⟨t', rfl⟩ := ry; exact PySem.EqMixed.eq_bool_str (fin_bl I q (by simp))
    | _ => exact absurd (show false = true from hs) Bool.false_ne_true
  | int i =>
    obtain ⟨t, rfl⟩ := rx
    cases y with
    | non => cases ry; exact PySem.EqNone.eq_int_none (fin_bl I q (by simp))
    | int j => obtain ⟨t', rfl⟩ := ry; exact eq_int (fin_bl I q dec_int)
    | str j => obtain ⟨t', rfl⟩ := ry; exact PySem.EqMixed.eq_int_str (fin_bl I q (by simp))
    | _ => exact absurd (show false = true from hs) Bool.false_ne_true
  | str i =>
    obtain ⟨t, rfl⟩ := rx
    cases y with
    | non => cases ry; exact PySem.EqNone.eq_str_none (fin_bl I q (by simp))
    | bl j => cases ry; exact PySem.EqMixed.eq_str_bool (fin_bl I q (by simp))
    | int j => obtain ⟨t', rfl⟩ := ry; exact PySem.EqMixed.eq_str_int (fin_bl I q (by simp))
    | str j => obtain ⟨t', rfl⟩ := ry; exact eq_str (fin_bl I q dec_str)
    | _ => exact absurd (show false = true from hs) Bool.false_ne_true
  | byt i =>
    obtain ⟨t, rfl⟩ := rx
    cases y with
    | byt j => obtain ⟨t', rfl⟩ := ry; exact PySem.W.eq_bytes (fin_bl I q dec_byt)
    | _ => exact absurd (show false = true from hs) Bool.false_ne_true
  | _ => cases y <;> exact absurd (show false = true from hs) Bool.false_ne_true
theorem op_ne : OpR X (compareOp .NotEq) rNe := by
  intro pins s σ H x y v u Q I rx ry h
  obtain ⟨hs, q⟩ := h
  cases x with
  | non =>
    cases rx
    cases y with
    | non => cases ry; exact PySem.EqNone.ne_none_none (fin_bl I q (by simp))
    | bl j => cases ry; exact PySem.EqNone.ne_none_bool (fin_bl I q (by simp))
    | int j => obtain ⟨t', rfl⟩ := ry; exact PySem.EqNone.ne_none_int (fin_bl I q (by simp))
    | str j => obtain ⟨t', rfl⟩ := ry; exact PySem.EqNone.ne_none_str (fin_bl I q (by simp))
    | _ => exact absurd (show false = true from hs) Bool.false_ne_true
  | bl i =>
    cases rx
    cases y with
    | non => cases ry; exact PySem.EqNone.ne_bool_none (fin_bl I q (by simp))
    | bl j => cases ry; exact ne_bool (fin_bl I q (congrArg not dec_bl))
    | str j => obtain ⟨t', rfl⟩ := ry; exact PySem.EqMixed.ne_bool_str (fin_bl I q (by simp))
    | _ => exact absurd (show false = true from hs) Bool.false_ne_true
  | int i =>
    obtain ⟨t, rfl⟩ := rx
    cases y with
    | non => cases ry; exact PySem.EqNone.ne_int_none (fin_bl I q (by simp))
    | int j => obtain ⟨t', rfl⟩ := ry; exact ne_int (fin_bl I q (congrArg not dec_int))
    | str j => obtain ⟨t', rfl⟩ := ry; exact PySem.EqMixed.ne_int_str (fin_bl I q (by simp))
    | _ => exact absurd (show false = true from hs) Bool.false_ne_true
  | str i =>
    obtain ⟨t, rfl⟩ := rx
    cases y with
    | non => cases ry; exact PySem.EqNone.ne_str_none (fin_bl I q (by simp))
    | bl j => cases ry; exact PySem.EqMixed.ne_str_bool (fin_bl I q (by simp))
    | int j => obtain ⟨t', rfl⟩ := ry; exact PySem.EqMixed.ne_str_int (fin_bl I q (by simp))
    | str j => obtain ⟨t', rfl⟩ := ry; exact ne_str (fin_bl I q (congrArg not dec_str))
    | _ => exact absurd (show false = true from hs) Bool.false_ne_true
  | byt i =>
    obtain ⟨t, rfl⟩ := rx
    cases y with
    | byt j => obtain ⟨t', rfl⟩ := ry; exact PySem.W.ne_bytes (fin_bl I q (congrArg not dec_byt))
    | _ => exact absurd (show false = true from hs) Bool.false_ne_true
  | _ => cases y <;> exact absurd (show false = true from hs) Bool.false_ne_true
theorem op_lt : OpR X (compareOp .Lt) (rI0 fun i j => .bl (decide (i < j))) := opB0 fun _ _ _ _ _ _ _ q => lt_int q
theorem op_le : OpR X (compareOp .LtE) (rI0 fun i j => .bl (decide (i ≤ j))) := opB0 fun _ _ _ _ _ _ _ q => le_int q
theorem op_gt : OpR X (compareOp .Gt) (rI0 fun i j => .bl (decide (j < i))) := opB0 fun _ _ _ _ _ _ _ q => gt_int q
theorem op_ge : OpR X (compareOp .GtE) (rI0 fun i j => .bl (decide (j ≤ i))) := opB0 fun _ _ _ _ _ _ _ q => ge_int q
theorem nomark (b : Expr) {op : CmpOp} (h : op ≠ .In := by decide) (h2 : op ≠ .NotIn := by decide) : behindInMarks op b = false := by
  have e1 : (op == CmpOp.In) = false := by cases op <;> first | rfl | exact absurd rfl h
  have e2 : (op == CmpOp.NotIn) = false := by cases op <;> first | rfl | exact absurd rfl h2
  cases b <;> simp [behindInMarks, e1, e2]
theorem pe_cmpR {op : CmpOp} {r : R2} (ho : OpR X (compareOp op) r) (ha : PE X a ta) (hb : PE X b tb) (hm : behindInMarks op b = false) : PE X (.Compare a [op] [b] pos) (tOp r ta tb) := by
  intro pins s σ H Q I h
  exact wpAny_Compare1 (binT ha hb I h fun v u s2 x y H2 I2 rx ry q => ho pins s2 σ H2 x y v u Q I2 rx ry q) hm
inductive ITest (x : V) (Q : Bool → Hp → Prop) (H' : Hp) : Prop
  | mk (k : Bool) (zz0 : x = .bl k) (zz1 : Q k H') : ITest x Q H'
def tTest (t : TE) : TT := fun σ H Q => t σ H fun x H' => ITest x Q H'
theorem pt_cmpR {op : CmpOp} {r : R2} (ho : OpR X (compareOp op) r) (ha : PE X a ta) (hb : PE X b tb) (hm : behindInMarks op b = false) : PT X (.Compare a [op] [b] pos) (tTest (tOp r ta tb)) := by
  intro pins s σ H Q I h
  refine wpAny_isTrue_Compare1 (thn (ha pins s σ H _ I h) fun v s1 ⟨x, H1, I1, r1, q1⟩ => thn (hb pins s1 σ H1 _ I1 q1) fun u s2 ⟨y, H2, I2, r2, q2⟩ =>
    thn (ho pins s2 σ H2 x y v u _ I2 r1 r2 q2) fun c s3 ⟨z, H3, I3, r3, k, e, q3⟩ => ?_) hm
  subst e
  cases r3
  exact wpAny_truthy_bool ⟨H3, I3, q3⟩
def tChain (r r' : R2) (ta tb tc : TE) : TE := fun σ H Q => ta σ H fun x H1 => tb σ H1 fun y H2 => r x y H2 fun z H3 => ∃ k, z = .bl k ∧
  (if k = true then tc σ H3 fun w' H4 => r' y w' H4 Q else Q (.bl false) H3)
theorem pe_chain {op op' : CmpOp} {r r' : R2} (ho : OpR X (compareOp op) r) (ho' : OpR X (compareOp op') r') (ha : PE X a ta) (hb : PE X b tb) (hc : PE X c tc)
    (hm : lastMarks [op, op'] [b, c] = false := by with_unfolding_all rfl) : PE X (.Compare a [op, op'] [b, c] pos) (tChain r r' ta tb tc) := by
  intro pins s σ H Q I h
  refine Compare_chain (thn (ha pins s σ H _ I h) fun v s1 ⟨x, H1, I1, r1, q1⟩ => chain_link (thn (hb pins s1 σ H1 _ I1 q1) fun u s2 ⟨y, H2, I2, r2, q2⟩ =>
    thn (ho pins s2 σ H2 x y v u _ I2 r1 r2 q2) fun d s3 ⟨z, H3, I3, r3, k, e, q3⟩ => ?_)) hm
  subst e
  cases r3
  refine wpAny_truthy_bool ?_
  cases k with
  | false => exact ite_ff ⟨.bl false, H3, I3, rfl, q3⟩
  | true => exact ite_tt (chain_last (thn (hc pins s3 σ H3 _ I3 q3) fun w' s4 ⟨z', H4, I4, r4, q4⟩ => ho' pins s4 σ H4 y z' u w' Q I4 r2 r4 q4))
theorem pt_chain {op op' : CmpOp} {r r' : R2} (ho : OpR X (compareOp op) r) (ho' : OpR X (compareOp op') r') (ha : PE X a ta) (hb : PE X b tb) (hc : PE X c tc)
    (hm : lastMarks [op, op'] [b, c] = false := by with_unfolding_all rfl) : PT X (.Compare a [op, op'] [b, c] pos) (tTest (tChain r r' ta tb tc)) := by
  intro pins s σ H Q I h
  refine isTrue_chain (thn (ha pins s σ H _ I h) fun v s1 ⟨x, H1, I1, r1, q1⟩ => test_link (thn (hb pins s1 σ H1 _ I1 q1) fun u s2 ⟨y, H2, I2, r2, q2⟩ =>
    thn (ho pins s2 σ H2 x y v u _ I2 r1 r2 q2) fun d s3 ⟨z, H3, I3, r3, k, e, q3⟩ => ?_)) hm
  subst e
  cases r3
  refine wpAny_truthy_bool ?_
  cases k with
  | false =>
    obtain ⟨k', e', q'⟩ := q3
    cases e'
    exact ite_ff ⟨H3, I3, q'⟩
  | true =>
    refine ite_tt (test_last (thn (hc pins s3 σ H3 _ I3 q3) fun w' s4 ⟨z', H4, I4, r4, q4⟩ => thn (ho' pins s4 σ H4 y z' u w' _ I4 r2 r4 q4) fun d' s5 ⟨z2, H5, I5, r5, k2, e2, q5⟩ => ?_))
    subst e2
    cases r5
    exact wpAny_truthy_bool ⟨H5, I5, q5⟩
def TruV (K : PySem.W.Frag) (x : V) (H : Hp) (k : Bool) : Prop :=
  match x with
  | .non => k = false
  | .bl b => k = b
  | .int i => k = (i != 0)
  | .str y => y.length ≤ sizeLine ∧ k = ((y.length : Int) != 0)
  | .byt y => y.size ≤ sizeLine ∧ k = ((y.size : Int) != 0)
  | .ref p => (∃ xs, SqL K H p xs ∧ k = !xs.isEmpty) ∨ (∃ xs, SqT K H p xs ∧ k = !xs.isEmpty) ∨ ∃ kvs, H p = some (.dK kvs) ∧ k = !kvs.isEmpty
  | _ => False
theorem isEmpty_kv {κ : Type} {kvs : List (κ × V)} {vs : List (κ × Value)} (r : KV kvs vs) : (!vs.isEmpty) = !kvs.isEmpty := by
  cases r <;> rfl
theorem isEmpty_of {xs : List V} {its : List Value} (r : Vals xs its) : (!its.toArray.isEmpty) = !xs.isEmpty := by
  cases r <;> simp
theorem line63 : (sizeLine : Nat) < 2 ^ 63 := by rw [sizeLine_eq]; decide
theorem tru_ok : TruR X (fun x H Q => ∃ k, TruV X.K x H k ∧ Q k H) := by
  intro pins s σ H x v Q I rx h
  obtain ⟨k, e, q⟩ := h
  have hl := line63
  have hs : sizeLine = 16777216 := sizeLine_eq
  cases x with
  | non =>
    cases rx
    have e' : k = false := e
    subst e'
    exact truthy_none ⟨H, I, q⟩
  | bl b =>
    cases rx
    have e' : k = b := e
    subst e'
    exact wpAny_truthy_bool ⟨H, I, q⟩
  | int i =>
    obtain ⟨t, rfl⟩ := rx
    have e' : k = (i != 0) := e
    subst e'
    exact PySem.P.truthy_int ⟨H, I, q⟩
  | str y =>
    obtain ⟨t, rfl⟩ := rx
    obtain ⟨hy, e'⟩ : y.length ≤ sizeLine ∧ k = ((y.length : Int) != 0) := e
    subst e'
    exact PySem.P.truthy_str (by omega) ⟨H, I.tok _, q⟩
  | byt y =>
    obtain ⟨t, rfl⟩ := rx
    obtain ⟨hy, e'⟩ : y.size ≤ sizeLine ∧ k = ((y.size : Int) != 0) := e
    subst e'
    exact PySem.W.truthy_bytes (by omega) ⟨H, I.tok _, q⟩
  | ref p =>
    cases rx
    have e' : (∃ xs, SqL X.K H p xs ∧ k = !xs.isEmpty) ∨ (∃ xs, SqT X.K H p xs ∧ k = !xs.isEmpty) ∨ ∃ kvs, H p = some (.dK kvs) ∧ k = !kvs.isEmpty := e
    rcases e' with ⟨xs, hx, e'⟩ | ⟨xs, hx, e'⟩ | ⟨kvs, hx, e'⟩
    · subst e'
      obtain ⟨its, r, pl, hz⟩ := I.list hx
      have hlen := r.length
      exact wpAny_truthy_list pl.isList (by simp only [List.size_toArray]; omega) ⟨H, I.tok _, by rw [isEmpty_of r]; exact q⟩
    · subst e'
      obtain ⟨its, r, pl, hz⟩ := I.tuple hx
      have hlen := r.length
      exact truthy_tuple pl (by simp only [List.size_toArray]; omega) ⟨H, I.tok _, by rw [isEmpty_of r]; exact q⟩
    · subst e'
      obtain ⟨hz, hS, vs, r, m⟩ : kvs.length ≤ sizeLine ∧ (p == sysModules) = false ∧ ∃ vs, KV kvs vs ∧ s.heap.DictOf (mixKind X.prog X.w) p vs := I.hok p _ hx
      have hlen : kvs.length = vs.length := Paired.length r
      exact wpAny_truthy_dict hS m (by omega) ⟨H, I.tok _, by rw [isEmpty_kv r]; exact q⟩
  | _ => exact (show False from e).elim
theorem pt_truth (ha : PE X a ta) (he : ∀ whole, isTrue a X.env whole = (do let v ← whole; standAt a.pos; holding [v] (truthy v))) :
    PT X a (fun σ H Q => ta σ H fun x H' => ∃ k, TruV X.K x H' k ∧ Q k H') := by
  intro pins s σ H Q I h
  exact isTrue_plain (thn (ha pins s σ H _ I h) fun v s1 ⟨x, H1, I1, r1, q1⟩ => tru_ok pins s1 σ H1 x v Q I1 r1 q1) (he _)
theorem op_add_str : OpR X (binaryOp .Add) (fun x y H Q => ∃ i j, x = .str i ∧ y = .str j ∧ i.length + j.length ≤ sizeLine ∧ Q (.str (i ++ j)) H) := by
  intro pins s σ H x y v u Q I rx ry h
  obtain ⟨i, j, rfl, rfl, hz, q⟩ := h
  obtain ⟨t, rfl⟩ := rx
  obtain ⟨t', rfl⟩ := ry
  exact add_str (fun t' tk => ⟨.str (i ++ j), H, I.tok _, ⟨_, rfl⟩, q⟩) hz
theorem vals1 {x : V} {us : List Value} (r : Vals [x] us) : ∃ u, us = [u] ∧ RelV x u := by
  cases r with
  | cons r1 r2 => cases r2; exact ⟨_, rfl, r1⟩
theorem vals2 {x y : V} {us : List Value} (r : Vals [x, y] us) : ∃ u w', us = [u, w'] ∧ RelV x u ∧ RelV y w' := by
  cases r with
  | cons r1 r2 =>
    cases r2 with
    | cons r3 r4 => cases r4; exact ⟨_, _, rfl, r1, r3⟩
theorem call_max2 (hc : X.calm = true) : CallR X (.builtin "max") (fun xs H Q => ∃ i j, xs = [.int i, .int j] ∧ Q (.int (if j > i then j else i)) H) := by
  intro pins s σ H xs us Q I r h
  obtain ⟨i, j, rfl, q⟩ := h
  obtain ⟨u, w', rfl, ⟨t, rfl⟩, ⟨t', rfl⟩⟩ := vals2 r
  refine max_two_ints (I.ok.hd hc) fun h' tk k => ⟨_, H, I.kept k, ?_, q⟩
  by_cases hj : j > i
  · rw [if_pos hj, if_pos hj]; exact ⟨_, rfl⟩
  · rw [if_neg hj, if_neg hj]; exact ⟨_, rfl⟩
theorem call_int1 : CallR X (.type "int") (fun xs H Q => (∃ i, xs = [.int i] ∧ Q (.int i) H) ∨ ∃ k, xs = [.bl k] ∧ Q (.int (if k then 1 else 0)) H) := by
  intro pins s σ H xs us Q I r h
  rcases h with ⟨i, rfl, q⟩ | ⟨k, rfl, q⟩
  · obtain ⟨u, rfl, t, rfl⟩ := vals1 r
    exact call_int_int ⟨.int i, H, I, ⟨_, rfl⟩, q⟩
  · obtain ⟨u, rfl, r1⟩ := vals1 r
    cases r1
    exact call_int_bool ⟨.int (if k then 1 else 0), H, I.tok _, ⟨_, rfl⟩, q⟩
end
end L2
namespace L2
open PySem PySem.Spec PyProof.Rows
structure ObjM (h : Heap) (x dx C : Addr) (mA : Str → Option Value) : Prop where
  obj : h.get? x = some (PySem.W.instObj C dx)
  ns : h.Ns1 dx mA
  ne : dx ≠ x
theorem lookIn_ns {h : Heap} {dx : Addr} {mA : Str → Option Value} (n : h.Ns1 dx mA) : ∃ od, h.get? dx = some od ∧ ∀ name, PySem.W.lookIn name od = some (mA name) := by
  obtain ⟨o, es, ep, ho, hd, hk, _, hm⟩ := n
  refine ⟨o, ho, fun name => ?_⟩
  have e := hm name
  unfold nsFind findBy at e
  rw [← Array.find?_toList] at e
  unfold PySem.W.lookIn
  rw [hd]
  dsimp only
  split
  · rename_i y q
    rw [q] at e
    exact congrArg some e
  · rename_i q
    rw [q] at e
    have a : es.toList.any (·.refKey) = false := by
      rw [List.any_eq_false]
      intro y hy
      obtain ⟨z, t, hkey⟩ := hk y (Array.mem_toList_iff.mp hy)
      simp [DictEntry.refKey, hkey]
    have a' : ¬ es.toList.any (·.refKey) = true := by rw [a]; exact Bool.false_ne_true
    rw [if_neg a']
    exact congrArg some e
theorem ObjM.look {h : Heap} {x dx C : Addr} {mA : Str → Option Value} (I : ObjM h x dx C mA) : ∃ od, PySem.W.InstAt h x (PySem.W.instObj C dx) C (some od) ∧ ∀ name, PySem.W.lookIn name od = some (mA name) :=
  let ⟨od, ho, hl⟩ := lookIn_ns I.ns
  ⟨od, ⟨I.obj, rfl, rfl, ho⟩, hl⟩
section
variable {prog : Program} {w : World} {A : Around} {E : Value → Shared → Prop} {s : Shared} {K : PySem.W.Frag} {x dx C f : Addr} {mA : Str → Option Value} {name : Str} {v : Value}
theorem get_map {expr : Bool} {Q : Value → Shared → Prop} (X : K.In s.heap) (I : ObjM s.heap x dx C mA) (hg : PySem.W.plainGet K C name = true) (hh : PySem.W.hasDictIn K C = true)
    (ha : PySem.W.findIn K (.ref C) name = some none) (hv : mA name = some v) (hv' : PySem.W.handedIn v = true) (h : Q v { s with toks := s.toks + 1 }) :
    wpAny (model prog w) A (getAttr (.ref x) name expr) Q E s := by
  obtain ⟨od, J, hl⟩ := I.look
  exact PySem.W.get_value X J (PySem.W.plainGet_of hg).1 (PySem.W.findObj_own hh ha rfl (by rw [hl, hv])) hv' h
theorem get_meth {pl : Sem Bool} {Q : Value × List Value → Shared → Prop} (X : K.In s.heap) (I : ObjM s.heap x dx C mA) (hg : PySem.W.plainGet K C name = true)
    (hf : PySem.W.findIn K (.ref C) name = some (some (.ref f))) (ht : PySem.W.isFn K (.ref f) = true) (hv : mA name = none) (h : Q (.ref f, [.ref x]) s) :
    wpAny (model prog w) A (getMethod (.ref x) name pl) Q E s := by
  obtain ⟨od, J, hl⟩ := I.look
  exact PySem.W.method_fn X J (PySem.W.plainGet_of hg).1 (PySem.W.plainGet_of hg).2 hf (beq_iff_eq.mp ht) (by show (PySem.W.lookIn name od).map (·.isSome) = some false; rw [hl, hv]; rfl) h
theorem set_map {ns : List Str} {Q : Unit → Shared → Prop} (X : K.In s.heap) (I : ObjM s.heap x dx C mA)
    (hs : PySem.W.findIn K (.ref C) "__setattr__" = some (some (.builtin "object.__setattr__"))) (hp : PySem.W.plainOver K C = true) (ht : PySem.W.takerIn K C name = some none) (hh : PySem.W.hasDictIn K C = true)
    (hw : PySem.Within mA ns) (hsz : ns.length ≤ sizeLine)
    (h : ∀ h', ObjM h' x dx C (fun y => if y = name then some v else mA y) → Heap.SameBut dx s.heap h' → Q () { s with heap := h', toks := s.toks + 2 }) :
    wpAny (model prog w) A (setAttr (.ref x) name v) Q E s := by
  obtain ⟨od, J, hl⟩ := I.look
  refine PySem.W.set_plain X J hs (PySem.W.osa_open (s := { s with toks := s.toks + 1 }) (r := none) X J hp ht fun b => ?_)
  obtain ⟨cd, hc, hd'⟩ := PySem.W.any_some hh
  have hx : s.heap.get? x = some ⟨.ref C, some dx, .plain, #[]⟩ := I.obj
  refine wpAny_bind (wpAny_pure (wpAny_bind (wpAny_bind (wpAny_loadPart hx (wpAny_bind (PySem.W.Looks.here (s := { s with toks := s.toks + 1 }) (PySem.W.looks_clsIn X hc) ?_))))))
  rw [hd']
  refine wpAny_pure (a := some dx) (wpAny_bind (wpAny_pure (wpAny_bind ?_)))
  refine wpAny_nsSet1 (s := { s with toks := s.toks + 1 }) I.ns fun h' hn2 hs2 => ?_
  obtain ⟨oD, esD, epD, hoD, hdD, hcD⟩ := hn2.count (PySem.Within.cons name v hw)
  refine wpAny_bind (wpAny_lookBehind hoD (by rw [hdD]; exact pastItsLine_dict (Nat.le_trans hcD (by rw [List.length_cons]; omega))) ?_)
  exact wpAny_pure (h _ ⟨(hs2.2 _ (Ne.symm I.ne)).trans I.obj, hn2, I.ne⟩ hs2)
theorem make_map {R : Result → Shared → Prop} {vs : List Value} {kw : List (Str × Value)} (X : K.In s.heap) (hm : PySem.W.makesIn K C = true)
    (hi : PySem.W.findIn K (.ref C) "__init__" = some (some (.ref f))) (hf : PySem.W.typeIn K (.ref f) = some (.type "function"))
    (h : codeAny (model prog w) (A.under (.builtin "type.__call__" ⟨.ref C :: vs, kw⟩)) (.call (.ref f) ⟨.ref (s.heap.objs.size + 1) :: vs, kw⟩) (PySem.W.InitBack (s.heap.objs.size + 1) R)
      { s with heap := (s.heap.push PySem.W.emptyDict).push (PySem.W.instObj C s.heap.objs.size) }) :
    codeAny (model prog w) A (.call (.ref C) ⟨vs, kw⟩) R s := by
  obtain ⟨hh, g, d, t, os⟩ := s
  exact PySem.W.make_core (PySem.W.makes_of X hm) (PySem.W.looks_findIn X hi) (fun self => PySem.W.bind_fn X self hf) (.inl rfl) h
end
def putF (f : Str) (v : V) : List (Str × V) → List (Str × V)
  | [] => [(f, v)]
  | (g, x) :: r => if g = f then (g, v) :: r else (g, x) :: putF f v r
theorem lookup_putF (f g : Str) (v : V) : ∀ fs : List (Str × V), (putF f v fs).lookup g = if g = f then some v else fs.lookup g
  | [] => by
    show List.lookup g [(f, v)] = _
    by_cases h : g = f
    · have hb : (g == f) = true := beq_iff_eq.mpr h
      simp only [List.lookup, hb, if_pos h]
    · have hb : (g == f) = false := beq_eq_false_iff_ne.mpr h
      simp only [List.lookup, hb, if_neg h]
  | (k, x) :: r => by
    have ih := lookup_putF f g v r
    rw [show putF f v ((k, x) :: r) = (if k = f then (k, v) :: r else (k, x) :: putF f v r) from rfl]
    by_cases hk : k = f
    · rw [if_pos hk]
      by_cases h : g = k
      · have hb : (g == k) = true := beq_iff_eq.mpr h
        simp only [List.lookup, hb, if_pos (h.trans hk)]
      · have hb : (g == k) = false := beq_eq_false_iff_ne.mpr h
        simp only [List.lookup, hb, if_neg (fun e : g = f => h (e.trans hk.symm))]
    · rw [if_neg hk]
      by_cases h : g = k
      · have hb : (g == k) = true := beq_iff_eq.mpr h
        simp only [List.lookup, hb, if_neg (fun e : g = f => hk (h.symm.trans e))]
      · have hb : (g == k) = false := beq_eq_false_iff_ne.mpr h
        simp only [List.lookup, hb]
        exact ih
theorem keys_putF (f : Str) (v : V) : ∀ fs : List (Str × V), f ∈ (putF f v fs).map (·.1) ∧ ∀ g, g ∈ fs.map (·.1) → g ∈ (putF f v fs).map (·.1)
  | [] => ⟨by simp [putF], fun g h => by simp at h⟩
  | (k, x) :: r => by
    obtain ⟨i1, i2⟩ := keys_putF f v r
    rw [show putF f v ((k, x) :: r) = (if k = f then (k, v) :: r else (k, x) :: putF f v r) from rfl]
    by_cases hk : k = f
    · rw [if_pos hk]
      subst hk
      exact ⟨by simp, fun g h => by simpa using h⟩
    · rw [if_neg hk]
      refine ⟨?_, fun g h => ?_⟩
      · rw [List.map_cons]
        exact List.mem_cons_of_mem _ i1
      · rw [List.map_cons] at h ⊢
        rcases List.mem_cons.mp h with e | e
        · exact List.mem_cons.mpr (.inl e)
        · exact List.mem_cons_of_mem _ (i2 g e)
theorem length_putF (f : Str) (v : V) : ∀ fs : List (Str × V), (putF f v fs).length ≤ fs.length + 1
  | [] => by simp [putF]
  | (k, x) :: r => by
    have ih := length_putF f v r
    rw [show putF f v ((k, x) :: r) = (if k = f then (k, v) :: r else (k, x) :: putF f v r) from rfl]
    by_cases hk : k = f
    · rw [if_pos hk, List.length_cons, List.length_cons]; omega
    · rw [if_neg hk, List.length_cons, List.length_cons]; omega
theorem RelO.some_of {v : V} {o : Option Value} (r : RelO (some v) o) : ∃ u, o = some u ∧ RelV v u := by
  cases o with
  | none => exact (show False from r).elim
  | some u => exact ⟨u, rfl, r⟩
theorem RelO.none_of {o : Option Value} (r : RelO none o) : o = none := by
  cases o with
  | none => rfl
  | some u => exact (show False from r).elim
theorem handed_of {v : V} {u : Value} (r : RelV v u) : PySem.W.handedIn u = true := by
  cases v with
  | non => cases (show u = Value.none from r); rfl
  | bl b => cases (show u = Value.bool b from r); rfl
  | int i => obtain ⟨t, e⟩ := (show ∃ t, u = Value.int i t from r); cases e; rfl
  | str x => obtain ⟨t, e⟩ := (show ∃ t, u = Value.str x t from r); cases e; rfl
  | byt b => obtain ⟨t, e⟩ := (show ∃ t, u = Value.bytes b t from r); cases e; rfl
  | flt b => obtain ⟨t, e⟩ := (show ∃ t, u = Value.float b t from r); cases e; rfl
  | ref a => cases (show u = Value.ref a from r); rfl
  | ty n => cases (show u = Value.type n from r); rfl
section
variable {P : Program} {w : World} {H H' : Hp} {h h' : Heap} {a C dx : Addr} {fs fs' : List (Str × V)}
theorem ins_get (hok : HOk P w H h) (e : H a = some (.ins C dx fs)) : ∃ mA, ObjM h a dx C mA ∧ (∀ f, RelO (fs.lookup f) (mA f)) ∧ PySem.Within mA (fs.map (·.1)) ∧ fs.length ≤ 1000 ∧ H dx = some (.own a) := by
  obtain ⟨d, z, ne, ob, mA, n, r, q⟩ := (show ObjOk P w H h a (.ins C dx fs) from hok a _ e)
  exact ⟨mA, ⟨ob, n, ne⟩, r, q, z, d⟩
end
structure Cls (K : PySem.W.Frag) (C : Addr) : Prop where
  pg : PySem.W.plainGet K C Str.empty = true
  hd : PySem.W.hasDictIn K C = true
  po : PySem.W.plainOver K C = true
  sa : PySem.W.findIn K (.ref C) "__setattr__" = some (some (.builtin "object.__setattr__"))
theorem Cls.get {K : PySem.W.Frag} {C : Addr} (c : Cls K C) (f : Str) : PySem.W.plainGet K C f = true := c.pg
def NoAttr (K : PySem.W.Frag) (C : Addr) (f : Str) : Prop := PySem.W.findIn K (.ref C) f = some none
theorem NoAttr.taker {K : PySem.W.Frag} {C : Addr} {f : Str} (n : NoAttr K C f) : PySem.W.takerIn K C f = some none := by
  unfold PySem.W.takerIn
  rw [show PySem.W.findIn K (.ref C) f = some none from n]
  rfl
structure Meth (K : PySem.W.Frag) (C : Addr) (m : Str) (f : Addr) : Prop where
  at_ : PySem.W.findIn K (.ref C) m = some (some (.ref f))
  fn : PySem.W.isFn K (.ref f) = true
  kp : PySem.W.keepIn K (.ref f) = true
section
variable {X : Cx} {pins : List (Addr × Obj)} {σ : St} {H : Hp} {s : Shared} {a C dx : Addr} {fs : List (Str × V)} {f : Str} {v : V} {A : Around} {E : Value → Shared → Prop}
theorem getattr_ok {b : Bool} {Q : Value → Shared → Prop} (I : Inv X pins σ H s) (e : H a = some (.ins C dx fs)) (c : Cls X.K C) (n : NoAttr X.K C f) (l : fs.lookup f = some v)
    (h : ∀ u s', Inv X pins σ H s' → RelV v u → Q u s') : wpAny (model X.prog X.w) A (getAttr (.ref a) f b) Q E s := by
  obtain ⟨mA, O, r, _, _, _⟩ := ins_get I.hok e
  obtain ⟨u, hu, ru⟩ := RelO.some_of (v := v) (o := mA f) (by rw [← l]; exact r f)
  exact get_map I.kIn O (c.get f) c.hd n hu (handed_of ru) (h u _ (I.tok _) ru)
theorem getmeth_ok {m : Str} {g : Addr} {pl : Sem Bool} {Q : Value × List Value → Shared → Prop} (I : Inv X pins σ H s) (e : H a = some (.ins C dx fs)) (c : Cls X.K C) (k : Meth X.K C m g) (l : fs.lookup m = none)
    (h : Q (.ref g, [.ref a]) s) : wpAny (model X.prog X.w) A (getMethod (.ref a) m pl) Q E s := by
  obtain ⟨mA, O, r, _, _, _⟩ := ins_get I.hok e
  have hn : mA m = none := RelO.none_of (by rw [← l]; exact r m)
  exact get_meth I.kIn O (c.get m) k.at_ k.fn hn h
theorem setattr_ok {y : V} {u : Value} {Q : Unit → Shared → Prop} (I : Inv X pins σ H s) (e : H a = some (.ins C dx fs)) (c : Cls X.K C) (n : NoAttr X.K C f) (hl : fs.length < 1000) (ry : RelV y u)
    (h : ∀ s', Inv X pins σ (upd H a (.ins C dx (putF f y fs))) s' → Q () s') : wpAny (model X.prog X.w) A (setAttr (.ref a) f u) Q E s := by
  obtain ⟨mA, O, r, wi, _, ho⟩ := ins_get I.hok e
  have hz : (fs.map (·.1)).length ≤ sizeLine := by rw [List.length_map, sizeLine_eq]; omega
  refine set_map I.kIn O c.sa c.po n.taker c.hd wi hz fun h' O' sb => h _ ?_
  have hd : ∃ o, h'.get? dx = some o := let ⟨o, _, _, e', _⟩ := O'.ns; ⟨o, e'⟩
  refine I.write (x := a) (e := dx) (by rw [e]; exact True.intro) (.inr ho) (fun b q hb z => (sb.2 b hb).trans z) hd ?_
  refine ⟨by rw [upd_ne O.ne]; exact ho, ?_, O.ne, O'.obj, _, O'.ns, fun g => ?_, fun g hg => ?_⟩
  · have := length_putF f y fs; omega
  · show RelO ((putF f y fs).lookup g) (if g = f then some u else mA g)
    rw [lookup_putF]
    by_cases q : g = f
    · rw [if_pos q, if_pos q]; exact ry
    · rw [if_neg q, if_neg q]; exact r g
  · by_cases q : g = f
    · rw [q]; exact (keys_putF f y fs).1
    · refine (keys_putF f y fs).2 g (wi g fun z => hg ?_)
      show (if g = f then some u else mA g) = none
      rw [if_neg q]; exact z
theorem Inv.made (I : Inv X pins σ H s) : Inv X pins σ (upd (upd H s.heap.objs.size (.own (s.heap.objs.size + 1))) (s.heap.objs.size + 1) (.ins C s.heap.objs.size []))
    { s with heap := (s.heap.push PySem.W.emptyDict).push (PySem.W.instObj C s.heap.objs.size) } := by
  have e1 : (s.heap.push PySem.W.emptyDict).get? s.heap.objs.size = some PySem.W.emptyDict := Heap.get?_push_size s.heap rfl
  have e2 : ((s.heap.push PySem.W.emptyDict).push (PySem.W.instObj C s.heap.objs.size)).get? (s.heap.objs.size + 1) = some (PySem.W.instObj C s.heap.objs.size) := by
    have := Heap.get?_push_size (s.heap.push PySem.W.emptyDict) (o := PySem.W.instObj C s.heap.objs.size) rfl
    rwa [Heap.size_push] at this
  have e3 : (s.heap.push PySem.W.emptyDict).Ns s.heap.objs.size (fun _ => none) := ⟨PySem.W.emptyDict, #[], _, e1, rfl, (fun e he => absurd he (by simp)), fun _ => rfl⟩
  have I1 := I.laid (a := s.heap.objs.size) (o := .own (s.heap.objs.size + 1)) (h' := s.heap.push PySem.W.emptyDict) (t' := s.toks) (fun b u q => Heap.get?_push_of_some _ q) (Nat.le_refl _) ⟨_, e1⟩
  refine I1.laid (a := s.heap.objs.size + 1) (o := .ins C s.heap.objs.size []) (t' := s.toks) (fun b u q => Heap.get?_push_of_some _ q) (Nat.le_of_eq (Heap.size_push _ _)) ?_
  have ne : s.heap.objs.size ≠ s.heap.objs.size + 1 := Nat.ne_of_lt (Nat.lt_succ_self _)
  refine ⟨by rw [upd_ne ne, upd_same], Nat.zero_le _, ne, e2, fun _ => none, (Heap.Ns1.of_empty e3).at fun o q => Heap.get?_push_of_some _ q, fun _ => True.intro, fun y hy => absurd rfl hy⟩
theorem attr_of {prog : Program} {w : World} {env : Env} {e : Expr} {f : Str} {pos : Pos} {s : Shared} {Q : Value → Shared → Prop} (hb : attributeBase e f env (eval e env) = eval e env)
    (h : wpAny (model prog w) A (eval e env) (fun o s₁ => wpAny (model prog w) A (getAttr o f true) Q E s₁) E s) : wpAny (model prog w) A (eval (.Attribute e f pos) env) Q E s :=
  Attribute_any_ h (by rw [arm_eval_Attribute, hb])
end
def tFld (K : PySem.W.Frag) (ta : TE) (f : Str) : TE := fun σ H Q => ta σ H fun x H1 => ∃ a C dx fs v, x = .ref a ∧ H1 a = some (.ins C dx fs) ∧ Cls K C ∧ NoAttr K C f ∧ fs.lookup f = some v ∧ Q v H1
def sFld (K : PySem.W.Frag) (ta tv : TE) (f : Str) : TS := fun D σ H => tv σ H fun y H1 => ta σ H1 fun x H2 => ∃ a C dx fs, x = .ref a ∧ H2 a = some (.ins C dx fs) ∧ Cls K C ∧ NoAttr K C f ∧ fs.length < 1000 ∧
  D.nx σ (upd H2 a (.ins C dx (putF f y fs)))
def InOp (X : Cx) (op : Operator) (rd : V → V → Hp → VK → Prop) : Prop :=
  ∀ (pins : List (Addr × Obj)) (s : Shared) (σ : St) (H : Hp) (x y : V) (u v : Value) (Q : VK), Inv X pins σ H s → RelV x u → RelV y v → rd x y H Q → wpAny (model X.prog X.w) X.A (inplaceOp op u v) (EP X pins σ Q) X.xe s
def sFldAug (K : PySem.W.Frag) (ta tv : TE) (rd : V → V → Hp → VK → Prop) (f : Str) : TS := fun D σ H => ta σ H fun x H1 => ∃ a C dx fs v, x = .ref a ∧ H1 a = some (.ins C dx fs) ∧ Cls K C ∧ NoAttr K C f ∧ fs.lookup f = some v ∧
  tv σ H1 fun y H2 => rd v y H2 fun z H3 => ∃ dx' fs', H3 a = some (.ins C dx' fs') ∧ fs'.length < 1000 ∧ D.nx σ (upd H3 a (.ins C dx' (putF f z fs')))
section
variable {X : Cx} {o e value : Expr} {f : Str} {pos pos' tpos : Pos} {ta tv : TE}
theorem pe_fld (he : PE X e ta) (hb : attributeBase e f X.env (eval e X.env) = eval e X.env) : PE X (.Attribute e f pos) (tFld X.K ta f) := by
  intro pins s σ H Q I h
  refine attr_of hb (thn (he pins s σ H _ I h) fun u s1 ⟨x, H1, I1, rx, a, C, dx, fs, v, ex, ea, c, n, l, q⟩ => ?_)
  subst ex
  obtain rfl : u = Value.ref a := rx
  exact getattr_ok I1 ea c n l fun u' s2 I2 ru => ⟨v, H1, I2, ru, q⟩
theorem ps_fld (ha : PE X o ta) (hv : PE X value tv) (hs : swapsWith value (some (.Attribute o f pos')) pos.line X.env = pure false) : PS X (.Assign [.Attribute o f pos'] value pos) (sFld X.K ta tv f) := by
  intro pins s σ H D I h
  refine plainObj_wpAny_Assign_Attribute (thn (hv pins s σ H _ I h) fun u s1 ⟨y, H1, I1, ry, q⟩ => thn (ha pins s1 σ H1 _ I1 q) fun ov s2 ⟨x, H2, I2, rx, a, C, dx, fs, ex, ea, c, n, l, q2⟩ => ?_) hs
  subst ex
  obtain rfl : ov = Value.ref a := rx
  exact setattr_ok I2 ea c n l ry fun s3 I3 => ⟨σ, _, I3, q2⟩
theorem ps_fldaug {op : Operator} {rd : V → V → Hp → VK → Prop} (ha : PE X o ta) (hv : PE X value tv) (hop : InOp X op rd) : PS X (.AugAssign (.Attribute o f tpos) op value pos) (sFldAug X.K ta tv rd f) := by
  intro pins s σ H D I h
  refine wpAny_AugAssign_AttributeAny (thn (ha pins s σ H _ I h) fun ov s1 ⟨x, H1, I1, rx, a, C, dx, fs, v, ex, ea, c, n, l, q⟩ => ?_)
  subst ex
  obtain rfl : ov = Value.ref a := rx
  refine getattr_ok I1 ea c n l fun u s2 I2 ru => thn (hv pins s2 σ H1 _ I2 q) fun w3 s3 ⟨y, H2, I3, ry, q3⟩ => thn (hop pins s3 σ H2 v y u w3 _ I3 ru ry q3) fun w4 s4 ⟨z, H3, I4, rz, dx', fs', ea', l', q4⟩ => ?_
  exact setattr_ok I4 ea' c n l' rz fun s5 I5 => ⟨σ, _, I5, q4⟩
def rAdd : V → V → Hp → VK → Prop := fun x y H Q => ∃ i j, x = .int i ∧ y = .int j ∧ Q (.int (i + j)) H
theorem in_add : InOp X .Add rAdd := by
  rintro pins s σ H x y u v Q I rx ry ⟨i, j, rfl, rfl, q⟩
  obtain ⟨t, rfl⟩ := (show ∃ t, u = Value.int i t from rx)
  obtain ⟨t', rfl⟩ := (show ∃ t', v = Value.int j t' from ry)
  exact PyProof.Rows.iadd_int ⟨.int (i + j), H, I.tok _, ⟨_, rfl⟩, q⟩
end
section
variable {X : Cx} {pins : List (Addr × Obj)} {σ : St} {H : Hp} {s : Shared} {A : Around} {E : Value → Shared → Prop} {Q : Value → Shared → Prop} {c : Value} {b : Bool}
inductive TyOf (K : PySem.W.Frag) (H : Hp) : V → Value → Prop where
  | non : TyOf K H .non (.type "NoneType")
  | bl (x : Bool) : TyOf K H (.bl x) (.type "bool")
  | int (i : Int) : TyOf K H (.int i) (.type "int")
  | str (x : Str) : TyOf K H (.str x) (.type "str")
  | flt (x : UInt64) : TyOf K H (.flt x) (.type "float")
  | lst {a : Addr} {xs : List V} (e : H a = some (.lst xs)) : TyOf K H (.ref a) (.type "list")
  | frz {a : Addr} {o : Obj} {xs : List V} (e : H a = some (.frz o (.lst xs))) : TyOf K H (.ref a) (.type "list")
  | tup {a : Addr} {xs : List V} (e : H a = some (.tup xs)) : TyOf K H (.ref a) (.type "tuple")
  | dK {a : Addr} {kvs : List (Key × V)} (e : H a = some (.dK kvs)) : TyOf K H (.ref a) (.type "dict")
  | dT {a : Addr} {kvs : List (List Key × V)} (e : H a = some (.dT kvs)) : TyOf K H (.ref a) (.type "dict")
  | ins {a C dx : Addr} {fs : List (Str × V)} (e : H a = some (.ins C dx fs)) (cl : Cls K C) (ha : PySem.W.findIn K (.ref C) "__class__" = some (some (.builtin "object.__class__")))
      (hn : PySem.W.specialIn K (.builtin "object.__class__") "__get__" = some (some (.builtin "getset_descriptor.__get__"))) (htk : PySem.W.takesIn K (.builtin "object.__class__") = some true)
      (hm : PySem.W.mroIn K C (.type "object") = some true) : TyOf K H (.ref a) (.ref C)
theorem isinst_ok {x : V} {u t : Value} (I : Inv X pins σ H s) (rx : RelV x u) (ty : TyOf X.K H x t) (e : PySem.W.kitOne X.K t c = some b) (h : ∀ tk, Q (.bool b) { s with toks := tk }) :
    wpAny (model X.prog X.w) A (call (.builtin "isinstance") [u, c]) Q E s := by
  cases ty with
  | non => cases (show u = Value.none from rx); exact PySem.W.kia_one PySem.W.kitx_none I.kIn True.intro e (fun z => nomatch z) h
  | bl y => cases (show u = Value.bool y from rx); exact PySem.W.kia_one PySem.W.kitx_bool I.kIn True.intro e (fun z => nomatch z) h
  | int i => obtain ⟨t, q⟩ := (show ∃ t, u = Value.int i t from rx); cases q; exact PySem.W.kia_one PySem.W.kitx_int I.kIn True.intro e (fun z => nomatch z) h
  | str y => obtain ⟨t, q⟩ := (show ∃ t, u = Value.str y t from rx); cases q; exact PySem.W.kia_one PySem.W.kitx_str I.kIn True.intro e (fun z => nomatch z) h
  | flt y => obtain ⟨t, q⟩ := (show ∃ t, u = Value.float y t from rx); cases q; exact PySem.W.kia_one PySem.W.kitx_float I.kIn True.intro e (fun z => nomatch z) h
  | @lst a xs ea =>
    cases (show u = Value.ref a from rx)
    obtain ⟨_, _, n, _, h1⟩ := (show ObjOk X.prog X.w H s.heap a (.lst xs) from I.hok a _ ea)
    exact PySem.W.kia_one PySem.W.kitx_list I.kIn ⟨_, h1, rfl⟩ e (fun z => nomatch z) h
  | @frz a ob xs ea =>
    cases (show u = Value.ref a from rx)
    obtain ⟨_, _, _, n, _, h1⟩ := (show ObjOk X.prog X.w H s.heap a (.frz ob (.lst xs)) from I.hok a _ ea)
    exact PySem.W.kia_one PySem.W.kitx_list I.kIn ⟨_, h1, rfl⟩ e (fun z => nomatch z) h
  | @tup a xs ea =>
    cases (show u = Value.ref a from rx)
    obtain ⟨_, _, _, _, h1⟩ := (show ObjOk X.prog X.w H s.heap a (.tup xs) from I.hok a _ ea)
    exact PySem.W.kia_one PySem.W.kitx_tuple I.kIn ⟨_, h1, rfl⟩ e (fun z => nomatch z) h
  | @dK a kvs ea =>
    cases (show u = Value.ref a from rx)
    obtain ⟨_, _, vs, _, p⟩ := (show ObjOk X.prog X.w H s.heap a (.dK kvs) from I.hok a _ ea)
    obtain ⟨o, es, ep, h1, h2, _⟩ := p
    exact PySem.W.kia_one PySem.W.kitx_dict I.kIn ⟨o, h1, h2.1⟩ e (fun z => nomatch z) h
  | @dT a kvs ea =>
    cases (show u = Value.ref a from rx)
    obtain ⟨_, _, xs, _, o, es, ep, h1, h2, _⟩ := (show ObjOk X.prog X.w H s.heap a (.dT kvs) from I.hok a _ ea)
    exact PySem.W.kia_one PySem.W.kitx_dict I.kIn ⟨o, h1, h2.1⟩ e (fun z => nomatch z) h
  | @ins a C dx fs ea cl ha hn htk hm =>
    cases (show u = Value.ref a from rx)
    obtain ⟨mA, O, _⟩ := ins_get I.hok ea
    obtain ⟨od, J, _⟩ := O.look
    exact PySem.W.kia_one (PySem.W.kitx_own (cl.get _) cl.hd ha hn htk hm) I.kIn J e (fun z => nomatch z) h
end
end L2
namespace L2
open PySem PySem.Spec PyProof.Rows
structure Room (k : Nat) (A : Around) : Prop where
  hd : A.handled = none
  dp : A.depth + 3 * k + 5 < recursionLimit
  un : A.units + 16 * k + 200 < cLine
theorem Room.mono {j k : Nat} {A : Around} (r : Room k A) (h : j ≤ k) : Room j A := ⟨r.hd, by have := r.dp; omega, by have := r.un; omega⟩
theorem Room.deeper {k : Nat} {A : Around} (r : Room (k + 1) A) (env : Env) : Room k (A.deeper env) :=
  ⟨r.hd, by have := r.dp; show A.depth + 1 + 3 * k + 5 < _; omega, by have := r.un; show A.units + 3 + 16 * k + 200 < _; omega⟩
theorem make_depth {A : Around} {C : Addr} {us : List Value} {kw : List (Str × Value)} : (A.under (.builtin "type.__call__" ⟨.ref C :: us, kw⟩)).depth = A.depth + 1 := by
  first | rfl | simp [Around.under, Code.weight, Code.isCreation, Code.isGuard, Code.isCaller, Code.frames, Code.isFrame, guardIds]
theorem make_units {A : Around} {C : Addr} {us : List Value} {kw : List (Str × Value)} : (A.under (.builtin "type.__call__" ⟨.ref C :: us, kw⟩)).units = A.units + 1 := by
  first | rfl | simp [Around.under, Code.cUnits, Code.frames, Code.isFrame]
theorem Room.make {k : Nat} {A : Around} (r : Room (k + 1) A) (C : Addr) (us : List Value) (kw : List (Str × Value)) : Room k (A.under (.builtin "type.__call__" ⟨.ref C :: us, kw⟩)) :=
  ⟨r.hd, by have := r.dp; rw [make_depth]; omega, by have := r.un; rw [make_units]; omega⟩
theorem Room.depth {k : Nat} {A : Around} (r : Room k A) : A.depth < recursionLimit := by have := r.dp; omega
theorem Room.units {k : Nat} {A : Around} (r : Room k A) : A.units + 64 < cLine := by have := r.un; omega
def tNil : TA := fun _ H Q => Q [] H
def tCons (ta : TE) (tr : TA) : TA := fun σ H Q => ta σ H fun x H1 => tr σ H1 fun xs H2 => Q (x :: xs) H2
section
variable {X : Cx} {e : Expr} {es : List Expr} {te : TE} {t : TA} {pos : Pos}
theorem pa_nil : PA X [] tNil := fun _ _ _ _ H Q I h => Calls.spliced_nil ⟨[], H, I, .nil, h⟩
theorem pa_cons (ha : PE X e te) (hr : PA X es t) (hs : starEach (e :: es) X.env = (false, eval e X.env) :: starEach es X.env := by rfl) : PA X (e :: es) (tCons te t) := by
  intro pos pins s σ H Q I h
  rw [hs]
  show wpAny _ _ (spliced ((false, eval e X.env) :: backTo pos (starEach es X.env))) _ _ s
  refine Calls.spliced_cons (thn (ha pins s σ H _ I h) fun u s1 ⟨x, H1, I1, r1, q1⟩ => ?_)
  exact thn (hr pos pins s1 σ H1 _ I1 q1) fun us s2 ⟨xs, H2, I2, r2, q2⟩ => ⟨x :: xs, H2, I2, .cons r1 r2, q2⟩
def tTup (t : TA) : TE := fun σ H Q => t σ H fun xs H1 => xs.length ≤ sizeLine ∧ ∀ p, H1 p = none → Q (.ref p) (upd H1 p (.tup xs))
def tLst (t : TA) : TE := fun σ H Q => t σ H fun xs H1 => xs.length ≤ sizeLine ∧ ∀ p, H1 p = none → Q (.ref p) (upd H1 p (.lst xs))
theorem pe_tup {x1} (h : PA X es t) : PE X (.Tuple es x1 pos) (tTup t) := by
  intro pins s σ H Q I hq
  refine wpAny_Tuple_spliced (thn (h pos pins s σ H _ I hq) fun us s1 ⟨xs, H1, I1, r, z, q⟩ => ⟨by rw [← r.length]; exact z, ?_⟩)
  have hf : H1 s1.heap.objs.size = none := I1.hok.fresh (Nat.le_refl _)
  refine ⟨.ref s1.heap.objs.size, upd H1 s1.heap.objs.size (.tup xs), I1.laid (t' := s1.toks) (fun b u e => Heap.get?_push_of_some _ e) (Nat.le_refl _) ?_, rfl, q _ hf⟩
  exact ⟨z, us, 0, r, Heap.get?_push_size _ rfl⟩
theorem pe_lst (h : PA X es t) : PE X (.List es pos) (tLst t) := by
  intro pins s σ H Q I hq
  refine wpAny_List_spliced (thn (h pos pins s σ H _ I hq) fun us s1 ⟨xs, H1, I1, r, z, q⟩ => ⟨by rw [← r.length]; exact z, ?_⟩)
  have hf : H1 s1.heap.objs.size = none := I1.hok.fresh (Nat.le_refl _)
  refine ⟨.ref s1.heap.objs.size, upd H1 s1.heap.objs.size (.lst xs), I1.laid (t' := s1.toks) (fun b u e => Heap.get?_push_of_some _ e) (Nat.le_refl _) ?_, rfl, q _ hf⟩
  exact ⟨z, us, 0, r, Heap.get?_push_size _ rfl⟩
end
abbrev Sp := List V → Hp → VK → XK → Prop
abbrev CXT := List Env → Hp → Shared → XK → Value → Shared → Prop
structure Env0 (P : Program) (w : World) (K : PySem.W.Frag) (mg : Str → Option Value) (base : Heap) (A : Around) (outer : List Env) (s : Shared) (H : Hp) : Prop where
  frames : A.frames = some outer
  mod : Mod K mg base
  bs : ∀ b o, base.get? b = some o → s.heap.get? b = some o ∧ H b = none
  bsz : base.objs.size ≤ s.heap.objs.size
  funs : s.heap.FunFrames base outer
  frf : ∀ b ∈ frs outer, H b = none
  hok : HOk P w H s.heap
  bare : AllBare s.gens
def CE (outer : List Env) (P : Program) (w : World) (H : Hp) (s : Shared) (Q : VK) (u : Value) (s' : Shared) : Prop :=
  ∃ v H', s'.os = s.os ∧ AllBare s'.gens ∧ Un (frs outer) [] H H' s.heap s'.heap ∧ HOk P w H' s'.heap ∧ RelV v u ∧ Q v H'
def CR (CX : CXT) (outer : List Env) (P : Program) (w : World) (H : Hp) (s : Shared) (Q : VK) (E : XK) (r : Result) (s' : Shared) : Prop :=
  match r with
  | .ok (.ret u) => CE outer P w H s Q u s'
  | .ok _ => False
  | .error e => CX outer H s E e s'
structure FnOk (P : Program) (w : World) (K : PySem.W.Frag) (mg : Str → Option Value) (base : Heap) (CX : CXT) (k : Nat) (f : Addr) (fd : FuncData) (ps : List Str) (sp : Sp) : Prop where
  len : ∀ vs H Q E, sp vs H Q E → vs.length = ps.length
  run : ∀ (A : Around) (outer : List Env) (s : Shared) (H : Hp) (args : Args) (us : List Value) (vs : List V) (Q : VK) (E : XK), Room k A → Env0 P w K mg base A outer s H → BindsTo s fd args (ps.zip us) → Vals vs us → sp vs H Q E →
    codeAny (model P w) A (.call (.ref f) args) (CR CX outer P w H s Q E) s
theorem Env0.make {P : Program} {w : World} {K : PySem.W.Frag} {mg : Str → Option Value} {base : Heap} {A : Around} {outer : List Env} {s : Shared} {H : Hp} (e : Env0 P w K mg base A outer s H) (C : Addr) (us : List Value) (kw : List (Str × Value)) :
    Env0 P w K mg base (A.under (.builtin "type.__call__" ⟨.ref C :: us, kw⟩)) outer s H := ⟨by first | exact e.frames | (simpa [Around.under, Code.envs, Code.isFrame, pushEnvs] using e.frames), e.mod, e.bs, e.bsz, e.funs, e.frf, e.hok, e.bare⟩
section
variable {X : Cx} {pins : List (Addr × Obj)} {σ : St} {H : Hp} {s s' : Shared}
theorem Inv.env0 (I : Inv X pins σ H s) : Env0 X.prog X.w X.K X.mg X.base X.A X.stack s H :=
  ⟨I.ok.frames, I.ok.mod, I.bs, Nat.le_trans I.ok.bsz I.sz, I.stack, I.stkFree, I.hok, I.bare⟩
theorem Inv.after {Q : VK} {u : Value} (I : Inv X pins σ H s) (h : CE X.stack X.prog X.w H s Q u s') : EP X pins σ Q u s' := by
  obtain ⟨v, H', os, bare, un, hok, r, q⟩ := h
  obtain ⟨hh, g, d, t, os'⟩ := s'
  obtain rfl : os' = s.os := os
  exact ⟨v, H', I.call (h' := hh) (g' := g) (d' := d) (t' := t) (ch := []) un hok bare (fun b z => absurd z (by simp)), r, q⟩
end
def tCall (sp : Sp) (dvs : List V) (E : XK) (t : TA) : TE := fun σ H Q => t σ H fun vs H1 => sp (vs ++ dvs) H1 Q E
def tMeth (C : Addr) (m : Str) (sp : Sp) (dvs : List V) (E : XK) (ta : TE) (t : TA) : TE := fun σ H Q => ta σ H fun x H1 => ∃ a dx fs, x = .ref a ∧ H1 a = some (.ins C dx fs) ∧ fs.lookup m = none ∧
  t σ H1 fun vs H2 => sp (x :: (vs ++ dvs)) H2 Q E
def tMake (C : Addr) (sp : Sp) (dvs : List V) (E : XK) (t : TA) : TE := fun σ H Q => t σ H fun vs H1 => ∀ x dx, H1 x = none → H1 dx = none → dx ≠ x →
  sp (.ref x :: (vs ++ dvs)) (upd (upd H1 dx (.own x)) x (.ins C dx [])) (fun v H2 => v = .non ∧ Q (.ref x) H2) E
def Binds (K : PySem.W.Frag) (fd : FuncData) (ps : List Str) (ds : List Value) : Prop :=
  ∀ (s : Shared) (us : List Value), K.In s.heap → (us ++ ds).length = ps.length → BindsTo s fd ⟨us, []⟩ (ps.zip (us ++ ds))
theorem Binds.all {K : PySem.W.Frag} {fd : FuncData} {ps : List Str} (h : ∀ us : List Value, us.length = ps.length → bindArgs fd ⟨us, []⟩ = pure (ps.zip us)) : Binds K fd ps [] := fun s us _ hl => by
  rw [List.append_nil] at hl ⊢
  exact .of_eq (h us hl)
def Passes (CX : CXT) (X : Cx) (E : XK) : Prop := ∀ (pins : List (Addr × Obj)) (σ : St) (H : Hp) (s : Shared) (e : Value) (s' : Shared), Inv X pins σ H s → CX X.stack H s E e s' → X.xe e s'
section
variable {X : Cx} {CX : CXT} {k : Nat} {f C : Addr} {fd : FuncData} {ps : List Str} {sp : Sp} {dvs : List V} {ds : List Value} {E : XK} {x m : Str} {p pos apos : Pos} {e o : Expr} {es : List Expr} {ta : TE} {t : TA}
theorem run_fn {pins : List (Addr × Obj)} {σ : St} {H : Hp} {s : Shared} {Q : VK} {us : List Value} {vs : List V} (F : FnOk X.prog X.w X.K X.mg X.base CX k f fd ps sp) (hr : Room k X.A) (hb : Binds X.K fd ps ds) (hd : Vals dvs ds) (hx : Passes CX X E)
    (I : Inv X pins σ H s) (r : Vals vs us) (h : sp (vs ++ dvs) H Q E) : wpAny (model X.prog X.w) X.A (call (.ref f) us) (EP X pins σ Q) X.xe s := by
  have r2 : Vals (vs ++ dvs) (us ++ ds) := r.append hd
  have hl : (us ++ ds).length = ps.length := by rw [← r2.length]; exact F.len _ _ _ _ h
  refine wpAny_call (codeAny_mono (F.run X.A X.stack s H ⟨us, []⟩ (us ++ ds) (vs ++ dvs) Q E hr I.env0 (hb s us I.kIn hl) r2 h) fun r s' hq => ?_)
  cases r with
  | error e => exact hx pins σ H s e s' I hq
  | ok fl =>
    cases fl with
    | ret u => exact I.after hq
    | next => exact False.elim hq
    | brk => exact False.elim hq
    | cont => exact False.elim hq
theorem pe_call (F : FnOk X.prog X.w X.K X.mg X.base CX k f fd ps sp) (hr : Room k X.A) (hg : Gl X x) (hm : X.mg x = some (.ref f)) (hk : PySem.W.keepIn X.K (.ref f) = true) (hb : Binds X.K fd ps ds) (hd : Vals dvs ds) (hx : Passes CX X E)
    (ha : PA X (e :: es) t) (hdb : (x == ("__debug__" : Str)) = false := by decide) (he : starEach (e :: es) X.env = (false, eval e X.env) :: starEach es X.env := by rfl) (hpl : (backTo pos (starEach es X.env)).any (·.1) = false := by rfl) :
    PE X (.Call (.Name x p) (e :: es) [] pos) (tCall sp dvs E t) := by
  intro pins s σ H Q I h
  refine wpAny_Call_Name_kw (ld_glob I hg hm ?_ hdb)
  refine PySem.W.callWith_K (h₀ := X.base) I.ok.mod.kin hk (thn (ha pos pins s σ H _ I h) fun us s1 ⟨vs, H1, I1, r, q⟩ => ⟨I1.kIn, ?_⟩) he hpl
  exact run_fn F hr hb hd hx I1 r q
theorem pe_meth {pl : Sem Bool} (he : PE X o ta) (c : Cls X.K C) (hm : Meth X.K C m f) (F : FnOk X.prog X.w X.K X.mg X.base CX k f fd ps sp) (hr : Room k X.A) (hb : Binds X.K fd ps ds) (hd : Vals dvs ds) (hx : Passes CX X E) (ha : PA X (e :: es) t)
    (hst : starEach (e :: es) X.env = (false, eval e X.env) :: starEach es X.env := by rfl) (hpl : (backTo pos (starEach es X.env)).any (·.1) = false := by rfl)
    (ht : eval (.Call (.Attribute o m apos) (e :: es) [] pos) X.env = (do
      let ov ← eval o X.env
      standAt apos.atName
      let (f, first) ← holding [ov] (getMethod ov m pl)
      callWith pos f first (backTo pos (starEach (e :: es) X.env)) (backToKw pos (keywordEach [] X.env))) := by rfl) :
    PE X (.Call (.Attribute o m apos) (e :: es) [] pos) (tMeth C m sp dvs E ta t) := by
  intro pins s σ H Q I h
  refine PySem.W.methodCall_KW (pl := pl) (thn (he pins s σ H _ I h) fun u s1 ⟨x, H1, I1, rx, a, dx, fs, ex, ea, l, q⟩ => ?_) ht
  subst ex
  obtain rfl : u = Value.ref a := rx
  refine getmeth_ok I1 ea c hm l ?_
  refine PySem.W.callWith_K (first := [.ref a]) (h₀ := X.base) I.ok.mod.kin hm.kp (thn (ha pos pins s1 σ H1 _ I1 q) fun us s2 ⟨vs, H2, I2, r, q2⟩ => ⟨I2.kIn, ?_⟩) hst hpl
  exact run_fn (us := .ref a :: us) (vs := .ref a :: vs) F hr hb hd hx I2 (.cons rfl r) q2
structure Mk (K : PySem.W.Frag) (C f : Addr) : Prop where
  makes : PySem.W.makesIn K C = true
  init : PySem.W.findIn K (.ref C) "__init__" = some (some (.ref f))
  fn : PySem.W.isFn K (.ref f) = true
  kp : PySem.W.keepIn K (.ref C) = true
theorem run_make {pins : List (Addr × Obj)} {σ : St} {H : Hp} {s : Shared} {Q : VK} {us : List Value} {vs : List V} (M : Mk X.K C f) (F : FnOk X.prog X.w X.K X.mg X.base CX k f fd ps sp) (hr : Room (k + 1) X.A) (hb : Binds X.K fd ps ds) (hd : Vals dvs ds)
    (hx : Passes CX X E) (I : Inv X pins σ H s) (r : Vals vs us)
    (h : ∀ x dx, H x = none → H dx = none → dx ≠ x → sp (.ref x :: (vs ++ dvs)) (upd (upd H dx (.own x)) x (.ins C dx [])) (fun v H2 => v = .non ∧ Q (.ref x) H2) E) :
    wpAny (model X.prog X.w) X.A (call (.ref C) us) (EP X pins σ Q) X.xe s := by
  have hq := h (s.heap.objs.size + 1) s.heap.objs.size (I.hok.fresh (Nat.le_succ _)) (I.hok.fresh (Nat.le_refl _)) (Nat.ne_of_lt (Nat.lt_succ_self _))
  have I2 := Inv.made (C := C) I
  have r2 : Vals (V.ref (s.heap.objs.size + 1) :: (vs ++ dvs)) (Value.ref (s.heap.objs.size + 1) :: (us ++ ds)) := .cons rfl (r.append hd)
  have hl : (Value.ref (s.heap.objs.size + 1) :: us ++ ds).length = ps.length := by
    have e := r2.length
    rw [F.len _ _ _ _ hq] at e
    exact e.symm
  refine wpAny_call (make_map (f := f) I.kIn M.makes M.init (beq_iff_eq.mp M.fn) (codeAny_mono (F.run _ X.stack _ _ ⟨Value.ref (s.heap.objs.size + 1) :: us, []⟩ (Value.ref (s.heap.objs.size + 1) :: (us ++ ds)) _ _ E (hr.make C us [])
    (I2.env0.make C us []) (hb _ (Value.ref (s.heap.objs.size + 1) :: us) I2.kIn hl) r2 hq) fun r s' hq' => ?_))
  cases r with
  | error e => exact hx pins σ _ _ e s' I2 hq'
  | ok fl =>
    cases fl with
    | ret u =>
      obtain ⟨v, H', I3, rv, ev, q3⟩ := I2.after hq'
      subst ev
      exact ⟨rv, ⟨V.ref (s.heap.objs.size + 1), H', I3, rfl, q3⟩⟩
    | next => exact False.elim hq'
    | brk => exact False.elim hq'
    | cont => exact False.elim hq'
theorem pe_make0 (M : Mk X.K C f) (F : FnOk X.prog X.w X.K X.mg X.base CX k f fd ps sp) (hr : Room (k + 1) X.A) (hg : Gl X x) (hm : X.mg x = some (.ref C)) (hb : Binds X.K fd ps ds) (hd : Vals dvs ds) (hx : Passes CX X E)
    (hdb : (x == ("__debug__" : Str)) = false := by decide) : PE X (.Call (.Name x p) [] [] pos) (tMake C sp dvs E tNil) := by
  intro pins s σ H Q I h
  refine wpAny_Call_Name_kw (ld_glob I hg hm ?_ hdb)
  exact PySem.W.callWith_K0 I.kIn M.kp (run_make (us := []) M F hr hb hd hx I .nil h)
end
section
variable {X : Cx} {CX : CXT} {k : Nat} {f C : Addr} {fd : FuncData} {ps ks : List Str} {sp : Sp} {E : XK} {x m : Str} {p pos apos kpos : Pos} {e o : Expr} {es : List Expr} {kws : List Keyword} {te ta : TE} {t tk : TA} {nm : Option Str}
variable {g : List Value → List Value → List Value} {gV : List V → List V → List V}
end
structure FnScope (N P : List Str) (sc : Scope) : Prop where
  kind : sc.kind = .function
  co : sc.isCoroutine = false
  gen : sc.isGenerator = false
  nd : N.Nodup
  pre : N.take P.length = P
  par : ∀ x ∈ P, sc.names.lookup x = some .local ∨ sc.names.lookup x = some .cell
  nofree : ∀ y ∈ sc.names, y.2 ≠ .free
theorem bindL_out {kindOf : Str → Option NameKind} {x : Str} : ∀ {binds : List (Str × Value)} {m : Str → Option Value}, (∀ v, (x, v) ∉ binds) → bindL kindOf binds m x = m x
  | [], _, _ => rfl
  | (n, v) :: r, m, h => by
    unfold bindL
    rw [bindL_out fun w hw => h w (List.mem_cons_of_mem _ hw)]
    split
    · have : x ≠ n := by rintro rfl; exact h v List.mem_cons_self
      simp [this]
    · rfl
theorem bindC_out {kindOf : Str → Option NameKind} {x : Str} : ∀ {binds : List (Str × Value)} {m : Str → Option Value}, (∀ v, (x, v) ∉ binds) → bindC kindOf binds m x = m x
  | [], _, _ => rfl
  | (n, v) :: r, m, h => by
    unfold bindC
    rw [bindC_out fun w hw => h w (List.mem_cons_of_mem _ hw)]
    split
    · rfl
    · have : x ≠ n := by rintro rfl; exact h v List.mem_cons_self
      simp [this]
theorem bindL_get {kindOf : Str → Option NameKind} {x : Str} {v : Value} : ∀ {P : List Str} {vs : List Value} {i : Nat} {m : Str → Option Value}, P.Nodup → P[i]? = some x → vs[i]? = some v → kindOf x = some .local →
    bindL kindOf (P.zip vs) m x = some v
  | [], _, _, _, _, h, _, _ => by simp at h
  | _ :: _, [], _, _, _, _, h, _ => by simp at h
  | p :: P, w :: vs, 0, m, nd, h1, h2, hk => by
    simp at h1 h2; subst h1; subst h2
    show bindL kindOf ((p, w) :: P.zip vs) m p = _
    unfold bindL
    rw [bindL_out fun v hv => (List.nodup_cons.mp nd).1 (List.of_mem_zip hv).1, if_pos hk]
    simp
  | p :: P, w :: vs, i + 1, m, nd, h1, h2, hk => by
    show bindL kindOf ((p, w) :: P.zip vs) m x = _
    unfold bindL
    exact bindL_get (i := i) (List.nodup_cons.mp nd).2 (by simpa using h1) (by simpa using h2) hk
theorem bindC_get {kindOf : Str → Option NameKind} {x : Str} {v : Value} : ∀ {P : List Str} {vs : List Value} {i : Nat} {m : Str → Option Value}, P.Nodup → P[i]? = some x → vs[i]? = some v → kindOf x ≠ some .local →
    bindC kindOf (P.zip vs) m x = some v
  | [], _, _, _, _, h, _, _ => by simp at h
  | _ :: _, [], _, _, _, _, h, _ => by simp at h
  | p :: P, w :: vs, 0, m, nd, h1, h2, hk => by
    simp at h1 h2; subst h1; subst h2
    show bindC kindOf ((p, w) :: P.zip vs) m p = _
    unfold bindC
    rw [bindC_out fun v hv => (List.nodup_cons.mp nd).1 (List.of_mem_zip hv).1, if_neg hk]
    simp
  | p :: P, w :: vs, i + 1, m, nd, h1, h2, hk => by
    show bindC kindOf ((p, w) :: P.zip vs) m x = _
    unfold bindC
    exact bindC_get (i := i) (List.nodup_cons.mp nd).2 (by simpa using h1) (by simpa using h2) hk
def start (N : List Str) (vs : List V) : St := vs.map some ++ List.replicate (N.length - vs.length) none
def cxOf (CX : CXT) (P : Program) (w : World) (K : PySem.W.Frag) (mg : Str → Option Value) (base : Heap) (N : List Str) (qual : Str) (scope : Scope) (f : Addr) (cd : Value) (A : Around) (outer : List Env) (s : Shared) (H : Hp) (E : XK) : Cx where
  prog := P
  w := w
  K := K
  mg := mg
  base := base
  A := A.deeper (envOfC qual scope s.heap.objs.size f cd)
  N := N
  s₀ := s
  H₀ := H
  env := envOfC qual scope s.heap.objs.size f cd
  outer := outer
  stack := envOfC qual scope s.heap.objs.size f cd :: outer
  ex := []
  calm := true
  fn := fun _ => true
  pn := []
  xe := fun e s' => wpAny (model P w) (A.deeper (envOfC qual scope s.heap.objs.size f cd)) (leaving (envOfC qual scope s.heap.objs.size f cd) e) (fun _ s'' => CX outer H s E e s'') (fun e' s'' => CX outer H s E e' s'') s'
theorem cell_has {sc : Scope} {n : Nat} {x : Str} (h : sc.names.lookup x = some .cell) : ∃ c, (cellsFrom n sc.names []).lookup x = some c := by
  have q := PySem.W.cellsFrom_some sc.names n [] (.inl h)
  exact Option.isSome_iff_exists.mp q
theorem inv_start {CX : CXT} {P : Program} {w : World} {K : PySem.W.Frag} {mg : Str → Option Value} {base : Heap} {N ps : List Str} {qual : Str} {scope : Scope} {f : Addr} {cd : Value} {A : Around} {outer : List Env} {s s1 : Shared} {H : Hp} {E : XK} {us : List Value} {vs : List V}
    (S : FnScope N ps scope) (hd : A.handled = none) (e0 : Env0 P w K mg base A outer s H) (hl : vs.length = ps.length) (r : Vals vs us)
    (x : InCallC s s.heap.objs.size (bindL (envOfC qual scope s.heap.objs.size f cd).kindOf (ps.zip us) fun _ => none) (cellsFrom (s.heap.objs.size + 1) scope.names []) (bindC (envOfC qual scope s.heap.objs.size f cd).kindOf (ps.zip us) fun _ => none) s1) :
    Inv (cxOf CX P w K mg base N qual scope f cd A outer s H E) [] (start N vs) H s1 := by
  have hpl : ps.length ≤ N.length := by have := congrArg List.length S.pre; rw [List.length_take] at this; omega
  obtain ⟨h1, tk, rfl, hk⟩ := x.done
  have noA : ∀ b : Addr, b ∉ (cxOf CX P w K mg base N qual scope f cd A outer s H E).ex := fun b z => absurd (show b ∈ ([] : List Addr) from z) (by simp)
  refine ⟨⟨e0.mod, S.kind, rfl, rfl, Nat.le_refl _, fun y z c h1 h2 => ?_, fun y hy => ?_, fun y c _ h => ?_, fun _ => hd, Around.frames_deeper e0.frames, .inr ⟨rfl, rfl⟩, fun b z => absurd z (noA b), e0.bs, e0.bsz, fun b _ _ => noA b, fun b z => absurd z (noA b), e0.funs, e0.frf⟩,
    rfl, e0.bare, Un.kept hk, ⟨_, x.toInCall.ns, fun i y v h1 h2 h3 => ?_⟩, fun y c h => ⟨_, x.cell y c h⟩, e0.hok.fresh (Nat.le_refl _), fun y c h => ?_, fun p hp => absurd (show p ∈ ([] : List (Addr × Obj)) from hp) (by simp), e0.hok.kept hk, ?_⟩
  · exact name_of_addr x.apart (PySem.mem_of_lookup h1) (PySem.mem_of_lookup h2)
  · have hy : scope.names.lookup y = some .cell ∨ scope.names.lookup y = some .free := hy
    rcases hy with hy | hy
    · exact cell_has hy
    · exact absurd rfl (S.nofree _ (PySem.mem_of_lookup hy))
  · exact Nat.le_of_lt (x.above y c (PySem.mem_of_lookup h))
  · have hi : i < vs.length := by
      unfold start at h2
      by_cases hi : i < vs.length
      · exact hi
      · rw [List.getElem?_append_right (by simpa using hi)] at h2
        rw [List.getElem?_replicate] at h2
        split at h2 <;> cases h2
    have ha : vs[i]? = some v := by
      unfold start at h2
      rw [List.getElem?_append_left (by simpa using hi), List.getElem?_map] at h2
      cases e : vs[i]? with
      | none => rw [e] at h2; cases h2
      | some a => rw [e] at h2; cases h2; rfl
    obtain ⟨u, hu, rv⟩ := r.get ha
    have hp : ps[i]? = some y := by
      rw [← S.pre, List.getElem?_take_of_lt (by omega)]; exact h1
    have ndP : ps.Nodup := by rw [← S.pre]; exact S.nd.sublist (List.take_sublist _ _)
    refine ⟨u, rv, ?_⟩
    rcases S.par y (List.mem_of_getElem? hp) with k | k
    · exact .inl ⟨k, bindL_get ndP hp hu k⟩
    · obtain ⟨c, e⟩ := cell_has (n := s.heap.objs.size + 1) k
      refine .inr ⟨.inl k, c, e, ?_⟩
      have q := x.cell y c e
      rw [bindC_get ndP hp hu (by show scope.names.lookup y ≠ _; rw [k]; decide)] at q
      exact q
  · exact e0.hok.fresh (Nat.le_of_lt (x.above y c (PySem.mem_of_lookup h)))
  · unfold start
    show _ = N.length
    rw [List.length_append, List.length_map, List.length_replicate]
    omega
theorem fn_of {CX : CXT} {P : Program} {w : World} {K : PySem.W.Frag} {mg : Str → Option Value} {base : Heap} {k : Nat} {f : Addr} {name qual : Str} {params : Arguments} {body : List Stmt} {scope : Scope} {dV kV doc pm cdv ct oc : Value} {an od : Option Addr}
    {osl : Array (Option Value)} {N ps : List Str} {sp : Sp} (lk : K.lookup f = some ⟨oc, od, .func (PySem.W.fnOf name qual params body scope dV kV doc pm an cdv ct), osl⟩) (hcd : PySem.W.codeIn K cdv qual = true) (S : FnScope N ps scope)
    (len : ∀ vs H Q E, sp vs H Q E → vs.length = ps.length)
    (hbody : ∀ (A : Around) (outer : List Env) (s : Shared) (H : Hp) (vs : List V) (Q : VK) (E : XK), Room k (A.deeper (envOfC qual scope s.heap.objs.size f cdv)) → sp vs H Q E →
      ∃ t, PSs (cxOf CX P w K mg base N qual scope f cdv A outer s H E) body t ∧ t { nx := fun _ H' => Q .non H', rt := Q } (start N vs) H) :
    FnOk P w K mg base CX (k + 1) f (PySem.W.fnOf name qual params body scope dV kV doc pm an cdv ct) ps sp := by
  refine ⟨len, fun A outer s H args us vs Q E hr e0 hb r hsp => ?_⟩
  have hl := len _ _ _ _ hsp
  have KX : K.In s.heap := e0.mod.kin.keeps fun b o e => (e0.bs b o e).1
  have lim : s.heap.NoLimit := e0.mod.nolimit.keeps fun b o e => (e0.bs b o e).1
  have hkind : ∀ y ∈ ps.zip us, scope.names.lookup y.1 = some .local ∨ (scope.names.lookup y.1 = some .cell ∧ ((cellsFrom (s.heap.objs.size + 1) scope.names []).lookup y.1).isSome = true) := fun ⟨n, v⟩ hy => by
    rcases S.par n (List.of_mem_zip hy).1 with q | q
    · exact .inl q
    · exact .inr ⟨q, PySem.W.cellsFrom_some _ _ _ (.inl q)⟩
  refine codeAny_call_function hr.depth (KX _ _ lk) rfl S.co S.gen rfl (PySem.W.codeRec_of KX hcd) (hb _ _ _ _ ?_)
  refine wpAny_newFunctionEnv_cells S.kind hkind fun env he s1 x => ?_
  subst he
  refine ⟨lim.keeps x.toInCall.keep, codeAny_func ?_⟩
  obtain ⟨t, ht, hq⟩ := hbody A outer s H vs Q E (hr.deeper _) hsp
  have I : Inv (cxOf CX P w K mg base N qual scope f cdv A outer s H E) [] (start N vs) H s1 := inv_start S hr.hd e0 hl r x
  refine wpAny_mono (ht [] s1 (start N vs) H _ I hq) (fun fl s' hs => ?_) fun e s' hs => hs
  have fin : ∀ {σ' : St} {H' : Hp} {v : V} {u : Value}, Inv (cxOf CX P w K mg base N qual scope f cdv A outer s H E) [] σ' H' s' → RelV v u → Q v H' → CE outer P w H s Q u s' :=
    fun {σ' H' v u} J rv q => ⟨v, H', J.os, J.bare, J.base, J.hok, rv, q⟩
  cases fl with
  | ret u =>
    obtain ⟨v, σ', H', J, rv, q⟩ := hs
    exact fin J rv q
  | next =>
    obtain ⟨σ', H', J, q⟩ := hs
    exact fin (v := V.non) (u := Value.none) J rfl q
  | brk =>
    obtain ⟨_, _, _, q⟩ := hs
    exact False.elim q
  | cont =>
    obtain ⟨_, _, _, q⟩ := hs
    exact False.elim q
end L2
namespace L2
open PySem PySem.Spec PyProof.Rows
section
variable {X : Cx} {x : Str} {p pos : Pos} {e : Expr} {es : List Expr} {t : TA} {id T : String} {r : List V → Hp → VK → Prop}
def tCB (r : List V → Hp → VK → Prop) (t : TA) : TE := fun σ H Q => t σ H fun vs H1 => r vs H1 Q
theorem pe_callB (hc : CallR X (.builtin id) r) (hg : Gl X x) (hm : X.mg x = none) (hv : bootBuiltins x = some (.builtin id)) (ha : PA X (e :: es) t) (hn : x ≠ "__name__" := by decide) (hdb : (x == ("__debug__" : Str)) = false := by decide)
    (he : starEach (e :: es) X.env = (false, eval e X.env) :: starEach es X.env := by rfl) (hpl : (backTo pos (starEach es X.env)).any (·.1) = false := by rfl) : PE X (.Call (.Name x p) (e :: es) [] pos) (tCB r t) := by
  intro pins s σ H Q I h
  refine wpAny_Call_Name_kw (ld_blt I hg hm hv ?_ hn hdb)
  exact PyProof.Rows.callWith_builtin1 (thn (ha pos pins s σ H _ I h) fun us s1 ⟨vs, H1, I1, r1, q1⟩ => hc pins s1 σ H1 vs us Q I1 r1 q1) he hpl
theorem pe_callTy (hc : CallR X (.type T) r) (hg : Gl X x) (hm : X.mg x = none) (hv : bootBuiltins x = some (.type T)) (ha : PA X (e :: es) t) (hn : x ≠ "__name__" := by decide) (hdb : (x == ("__debug__" : Str)) = false := by decide)
    (he : starEach (e :: es) X.env = (false, eval e X.env) :: starEach es X.env := by rfl) (hpl : (backTo pos (starEach es X.env)).any (·.1) = false := by rfl) : PE X (.Call (.Name x p) (e :: es) [] pos) (tCB r t) := by
  intro pins s σ H Q I h
  refine wpAny_Call_Name_kw (ld_blt I hg hm hv ?_ hn hdb)
  exact PyProof.Rows.callWith_type1 (thn (ha pos pins s σ H _ I h) fun us s1 ⟨vs, H1, I1, r1, q1⟩ => hc pins s1 σ H1 vs us Q I1 r1 q1) he hpl
end
end L2
namespace HT
open PySem PyProof.Rows
section
open PySem.SeqAt
open PySem.AutoSeq1 (wpAny_loadPart')
open PySem.MeetsSeq PySem.MeetsSeq2 PySem.MeetsSeq3
end
section
variable {prog : Program} {w : World} {A : Around} {E : Value → Shared → Prop} {s : Shared}
theorem cat_tup {t b : Addr} {vs ws : List Value} {Q : Value → Shared → Prop} (ht : IsTup s.heap t vs.toArray) (hb : IsTup s.heap b ws.toArray) (hv : vs ≠ [])
    (h1 : ws = [] → Q (.ref t) s) (h2 : ws ≠ [] → Q (.ref s.heap.objs.size) { s with heap := s.heap.push { cls := .type "tuple", data := .seq (vs ++ ws).toArray } })
    (hsz : vs.length + ws.length ≤ sizeLine) : wpAny (model prog w) A (binaryOp .Add (.ref t) (.ref b)) Q E s := by
  obtain ⟨⟨cls, dd, data, sl⟩, ho, hc, n, hd⟩ := id ht
  obtain ⟨⟨cls2, dd2, data2, sl2⟩, ho2, hc2, n2, hd2⟩ := id hb
  simp only at hc hd hc2 hd2
  subst hc hd hc2 hd2
  have e : vs.toArray ++ ws.toArray = (vs ++ ws).toArray := by simp
  by_cases hw : ws = []
  · exact concat_meets ⟨_, ho, rfl⟩ ⟨_, ho2, rfl⟩ noFill_tuple_add seq_tuple_add PySem.F.slot_tuple_add PySem.F.entry_tuple_add (PySem.F.args_tuple_add_2 _ _)
      (tuple_addW1 t b vs.toArray ws.toArray n n2 dd dd2 sl sl2 (by simpa using hv) (by simp [hw])) ⟨ho, ho2, h1 hw⟩
  · refine concat_meets ⟨_, ho, rfl⟩ ⟨_, ho2, rfl⟩ noFill_tuple_add seq_tuple_add PySem.F.slot_tuple_add PySem.F.entry_tuple_add (PySem.F.args_tuple_add_2 _ _)
      (tuple_addW2 t b vs.toArray ws.toArray n n2 dd dd2 sl sl2 (by simpa using hv) (by simpa using hw) (by rw [List.size_toArray, List.size_toArray]; exact hsz)) ⟨ho, ho2, ?_⟩
    rw [e]
    exact h2 hw
def sIx (n d : Nat) : Option Int → Nat
  | none => d
  | some v => if v < 0 then (v + (n : Int)).toNat else min v.toNat n
theorem sIx_none (n d : Nat) : sIx n d none = d := rfl
theorem sIx_nat (n d k : Nat) : sIx n d (some (k : Int)) = min k n := by
  show (if (k : Int) < 0 then ((k : Int) + (n : Int)).toNat else min (k : Int).toNat n) = min k n
  rw [if_neg (by omega), Int.toNat_natCast]
theorem sIx_le (n d : Nat) (hd : d ≤ n) (o : Option Int) : sIx n d o ≤ n := by
  cases o with
  | none => exact hd
  | some v =>
    show (if v < 0 then (v + (n : Int)).toNat else min v.toNat n) ≤ n
    by_cases hv : v < 0
    · rw [if_pos hv]; omega
    · rw [if_neg hv]; exact Nat.min_le_right _ _
theorem clip_eq (v : Int) (n d : Nat) : (if v < 0 then max (v + (n : Int)) 0 else min v (n : Int)) = ((sIx n d (some v) : Nat) : Int) := by
  show (if v < 0 then max (v + (n : Int)) 0 else min v (n : Int)) = (((if v < 0 then (v + (n : Int)).toNat else min v.toNat n) : Nat) : Int)
  by_cases hv : v < 0
  · simp only [if_pos hv]; omega
  · simp only [if_neg hv]; omega
theorem adjust_gen (lo hi : Option Int) (n : Nat) : Builtin.Slice.sliceAdjust lo hi 1 (n : Int) = (((sIx n 0 lo : Nat) : Int), ((sIx n n hi : Nat) : Int)) := by
  have h1 : ¬ ((1 : Int) < 0) := by omega
  unfold Builtin.Slice.sliceAdjust
  simp only [h1, if_false]
  refine Prod.ext ?_ ?_
  · cases lo with
    | none => rfl
    | some v => exact clip_eq v n 0
  · cases hi with
    | none => rfl
    | some v => exact clip_eq v n n
theorem places_gen (i j : Nat) : Builtin.Slice.slicePlaces (i : Int) (j : Int) 1 = j - i := by
  unfold Builtin.Slice.slicePlaces
  have h1 : (1 : Int) > 0 := by omega
  simp only [h1, if_true, Int.ediv_one]
  split <;> omega
theorem slicePart_ {v : Value} {o : Option Int} {Q : Option Int → Shared → Prop} (p : IsPart v o) (h : Q o s) : wpAny (model prog w) A (Builtin.Slice.slicePartIndex v) Q E s := by
  cases p with
  | none => exact slicePart_none h
  | int i t => exact slicePart_int h
theorem sliceApplied_gen {sl : Addr} {vl vu : Value} {lo hi : Option Int} {n : Nat} {Q : Int × Int × Nat → Shared → Prop} (hs : s.heap.IsSliceOf sl vl vu .none) (pl : IsPart vl lo) (pu : IsPart vu hi)
    (h : Q (((sIx n 0 lo : Nat) : Int), 1, sIx n n hi - sIx n 0 lo) s) : wpAny (model prog w) A (Builtin.Slice.sliceApplied (.ref sl) (pure (n : Int))) Q E s := by
  obtain ⟨os, hos, hcs, hds⟩ := id hs
  unfold Builtin.Slice.sliceApplied Builtin.Slice.sliceFields
  refine wpAny_bind (wpAny_bind (wpAny_field hos hds (x := vl) rfl (wpAny_bind (wpAny_field hos hds (x := vu) rfl (wpAny_bind (wpAny_field hos hds (x := .none) rfl (wpAny_pure ?_)))))))
  refine wpAny_bind (slicePart_none ?_)
  show wpAny _ _ (if ((1 : Int) == 0) = true then _ else _) _ _ s
  rw [if_neg (by decide)]
  refine wpAny_bind (slicePart_ pl (wpAny_bind (slicePart_ pu (wpAny_bind (wpAny_pure ?_)))))
  show wpAny _ _ (match Builtin.Slice.sliceAdjust lo hi 1 (n : Int) with | (lo, hi) => pure (lo, (1 : Int), Builtin.Slice.slicePlaces lo hi 1)) _ _ s
  rw [adjust_gen lo hi n]
  show wpAny _ _ (pure (((sIx n 0 lo : Nat) : Int), (1 : Int), Builtin.Slice.slicePlaces ((sIx n 0 lo : Nat) : Int) ((sIx n n hi : Nat) : Int) 1)) _ _ s
  rw [places_gen]
  exact wpAny_pure h
theorem pick_gen (xs : Array Value) (i k : Nat) : ((List.range k).filterMap fun (m : Nat) => xs[((i : Int) + (m : Int) * 1).toNat]?).toArray = ((xs.toList.drop i).take k).toArray := by
  have e : (fun (m : Nat) => xs[((i : Int) + (m : Int) * 1).toNat]?) = fun m => xs[i + m]? := by
    funext m
    have : ((i : Int) + (m : Int) * 1).toNat = i + m := by omega
    rw [this]
  rw [e]
  have := pick_run xs i k
  rw [List.filterMap_map] at this
  have e2 : ((fun x => xs[x]?) ∘ fun x => i + x) = fun m => xs[i + m]? := rfl
  rw [e2] at this
  rw [this]
theorem getItem_tuple_cut {t sl : Addr} {items : Array Value} {vl vu : Value} {lo hi : Option Int} {Q : Value → Shared → Prop} (ht : IsTup s.heap t items) (hs : s.heap.IsSliceOf sl vl vu .none) (pl : IsPart vl lo) (pu : IsPart vu hi)
    (hw : ¬ (sIx items.size 0 lo = 0 ∧ sIx items.size items.size hi = items.size))
    (h : Q (.ref s.heap.objs.size) { s with heap := s.heap.push { cls := .type "tuple", data := .seq ((items.toList.drop (sIx items.size 0 lo)).take (sIx items.size items.size hi - sIx items.size 0 lo)).toArray } })
    (hsz : items.size ≤ sizeLine) : wpAny (model prog w) A (getItem (.ref t) (.ref sl)) Q E s := by
  have htake : sizeOk (.seq ((items.toList.drop (sIx items.size 0 lo)).take (sIx items.size items.size hi - sIx items.size 0 lo)).toArray) := by
    show ((items.toList.drop (sIx items.size 0 lo)).take (sIx items.size items.size hi - sIx items.size 0 lo)).toArray.size ≤ sizeLine
    rw [List.size_toArray, List.length_take, List.length_drop, Array.length_toList]
    omega
  have hj : sIx items.size items.size hi ≤ items.size := sIx_le _ _ (Nat.le_refl _) hi
  obtain ⟨os, hos, hcs, hds⟩ := id hs
  have hTs : s.TypeIs (.ref sl) "slice" := ⟨os, hos, hcs⟩
  unfold getItem
  try with_reducible refine wpAny_holding ?_
  first | refine wpAny_bind (wpAny_pure ?_) | skip
  refine wpAny_bind (wpAny_sequenceKey ht.typeIs (by decide) ?_)
  refine wpAny_bind (wpAny_callSpecial?_slot (name := Str.ofString "__getitem__") ht.typeIs PyProof.Rows.slot_tuple_getitem
    (wpAny_call_entry PyProof.Rows.slot_tuple_getitem ht.typeIs entry_tuple_getitem ?_ (args_tuple_getitem _ _)))
  show wpAny _ _ (Builtin.Tuple.tupleItemsOf (.ref t) >>= _) _ _ s
  refine wpAny_bind (tupleItemsOf_ ht ?_)
  refine wpAny_bind (wpAny_typeOf hTs ?_)
  rw [if_pos (by decide)]
  refine wpAny_bind (sliceApplied_gen hs pl pu ?_)
  have hno : ¬ ((((sIx items.size 0 lo : Nat) : Int) == 0 && (1 : Int) == 1 && (sIx items.size items.size hi - sIx items.size 0 lo) == items.size) = true) := by
    intro q
    rw [Bool.and_eq_true, Bool.and_eq_true] at q
    have q1 : ((sIx items.size 0 lo : Nat) : Int) = 0 := eq_of_beq q.1.1
    have q2 : sIx items.size items.size hi - sIx items.size 0 lo = items.size := eq_of_beq q.2
    exact hw ⟨by omega, by omega⟩
  show wpAny _ _ (if (((sIx items.size 0 lo : Nat) : Int) == 0 && (1 : Int) == 1 && (sIx items.size items.size hi - sIx items.size 0 lo) == items.size) = true then _ else _) _ _ s
  rw [if_neg hno, pick_gen]
  first
    | exact wpAny_bind (m := Builtin.Tuple.tupleExact _) (wpAny_newObj_type (wpAny_pure ⟨_, rfl, wpAny_pure h⟩) htake)
    | exact wpAny_bind (m := Builtin.Tuple.tupleExact _) (wpAny_newObj_type (wpAny_bind (wpAny_pure (wpAny_pure ⟨_, rfl, wpAny_pure h⟩))) htake)
    | exact wpAny_bind (wpAny_bind (m := Builtin.Tuple.tupleExact _) (wpAny_newObj_type (wpAny_pure (wpAny_pure ⟨_, rfl, wpAny_pure h⟩)) htake))
    | exact wpAny_bind (wpAny_bind (m := Builtin.Tuple.tupleExact _) (wpAny_newObj_type (wpAny_pure ⟨_, rfl, wpAny_pure h⟩) htake))
end
end HT
namespace L2
open PySem PySem.Spec PyProof.Rows
abbrev TO := St → Hp → (Option Int → Hp → Prop) → Prop
def PO (X : Cx) (e : Option Expr) (t : TO) : Prop :=
  ∀ (pins : List (Addr × Obj)) (s : Shared) (σ : St) (H : Hp) (Q : Option Int → Hp → Prop), Inv X pins σ H s → t σ H Q →
    wpAny (model X.prog X.w) X.A (evalPart e X.env) (fun u s' => ∃ o H', Inv X pins σ H' s' ∧ IsPart u o ∧ Q o H') X.xe s
def tNoPart : TO := fun _ H Q => Q none H
inductive IPart (x : V) (Q : Option Int → Hp → Prop) (H1 : Hp) : Prop
  | mk (i : Int) (zz0 : x = .int i) (zz1 : Q (some i) H1) : IPart x Q H1
def tPart (t : TE) : TO := fun σ H Q => t σ H fun x H1 => IPart x Q H1
section
variable {X : Cx} {e : Expr} {te : TE} {lo hi : Option Expr} {tl th : TO} {pos p2 : Pos}
theorem po_none : PO X none tNoPart := by
  intro pins s σ H Q I h
  rw [evalPart_none]
  exact wpAny_pure ⟨none, H, I, .none, h⟩
theorem po_some (h : PE X e te) : PO X (some e) (tPart te) := by
  intro pins s σ H Q I hw
  rw [evalPart_some]
  refine thn (h pins s σ H _ I hw) fun u s1 ⟨x, H1, I1, r1, q1⟩ => ?_
  obtain ⟨i, rfl, q⟩ := q1
  obtain ⟨t, rfl⟩ := r1
  exact ⟨some i, H1, I1, .int i t, q⟩
def SlR (X : Cx) (r : V → Option Int → Option Int → Hp → VK → Prop) : Prop :=
  ∀ (pins : List (Addr × Obj)) (s : Shared) (σ : St) (H : Hp) (x : V) (v vl vu : Value) (lo hi : Option Int) (sl : Addr) (Q : VK), Inv X pins σ H s → RelV x v → s.heap.IsSliceOf sl vl vu .none → IsPart vl lo → IsPart vu hi → r x lo hi H Q →
    ∃ T id, typeLookup (.type T) "__getitem__" = pure (some (.builtin id)) ∧ s.TypeIs v T ∧ wpAny (model X.prog X.w) X.A (getItem v (.ref sl)) (EP X pins σ Q) X.xe s
def tSl (r : V → Option Int → Option Int → Hp → VK → Prop) (te : TE) (tl th : TO) : TE := fun σ H Q => te σ H fun x H1 => tl σ H1 fun l H2 => th σ H2 fun u H3 => r x l u H3 Q
theorem pe_slice {r : V → Option Int → Option Int → Hp → VK → Prop} (hr : SlR X r) (he : PE X e te) (hl : PO X lo tl) (hu : PO X hi th) : PE X (.Subscript e (.Slice lo hi none p2) pos) (tSl r te tl th) := by
  intro pins s σ H Q I h
  refine Subscript_ (thn (he pins s σ H _ I h) fun v s1 ⟨x, H1, I1, r1, q1⟩ => ?_)
  refine wpAny_Slice (thn (hl pins s1 σ H1 _ I1 q1) fun vl s2 ⟨l, H2, I2, pl, q2⟩ => thn (hu pins s2 σ H2 _ I2 q2) fun vu s3 ⟨u, H3, I3, pu, q3⟩ => ?_)
  rw [evalPart_none]
  refine wpAny_pure ?_
  have I4 : Inv X pins σ H3 { s3 with heap := s3.heap.push { cls := .type "slice", data := .fields #[vl, vu, .none] } } := I3.kept (t' := s3.toks) fun b ob q => Heap.get?_push_of_some _ q
  obtain ⟨T, id, hT, ht, hg⟩ := hr pins { s3 with heap := s3.heap.push { cls := .type "slice", data := .fields #[vl, vu, .none] } } σ H3 x v vl vu l u s3.heap.objs.size Q I4 r1 (Heap.IsSliceOf.new ..) pl pu q3
  show wpAny (model X.prog X.w) X.A (subscriptTail e (.Slice lo hi none p2) v (.ref s3.heap.objs.size)) (EP X pins σ Q) X.xe { s3 with heap := s3.heap.push { cls := .type "slice", data := .fields #[vl, vu, .none] } }
  exact tail_any (ops := [.ref s3.heap.objs.size, v]) ht hT hg (by with_unfolding_all rfl)
def cutV (xs : List V) (lo hi : Option Int) : List V := (xs.drop (HT.sIx xs.length 0 lo)).take (HT.sIx xs.length xs.length hi - HT.sIx xs.length 0 lo)
theorem cutV_length (xs : List V) (lo hi : Option Int) : (cutV xs lo hi).length ≤ xs.length := by
  unfold cutV
  rw [List.length_take, List.length_drop]
  omega
inductive IrSlT (K : PySem.W.Frag) (x : V) (lo : Option Int) (hi : Option Int) (H : Hp) (Q : VK) : Prop
  | mk (a : _) (xs : _) (zz0 : x = .ref a) (zz1 : SqT K H a xs) (zz2 : ¬ (HT.sIx xs.length 0 lo = 0 ∧ HT.sIx xs.length xs.length hi = xs.length)) (zz3 : ∀ p, H p = none → Q (.ref p) (upd H p (.tup (cutV xs lo hi)))) : IrSlT K x lo hi H Q
def rSlT (K : PySem.W.Frag) : V → Option Int → Option Int → Hp → VK → Prop := IrSlT K
theorem sl_tup : SlR X (rSlT X.K) := by
  intro pins s σ H x v vl vu lo hi sl Q I rx hs pl pu h
  obtain ⟨a, xs, rfl, hx, hw, q⟩ := h
  cases rx
  obtain ⟨its, r, ht, hz⟩ := I.tuple hx
  have hlen : its.toArray.size = xs.length := by rw [List.size_toArray]; exact r.length.symm
  refine ⟨"tuple", _, PyProof.Rows.slot_tuple_getitem.lookup, ht.typeIs, ?_⟩
  refine HT.getItem_tuple_cut ht hs pl pu (by rw [hlen]; exact hw) ?_ (by rw [hlen]; exact hz)
  rw [hlen]
  refine ⟨.ref s.heap.objs.size, _, I.laid (t' := s.toks) (o := .tup (cutV xs lo hi)) (fun b ob q => Heap.get?_push_of_some _ q) (Nat.le_refl _) ?_, rfl, q _ (I.hok.fresh (Nat.le_refl _))⟩
  exact ⟨Nat.le_trans (cutV_length xs lo hi) hz, _, 0, (r.drop (HT.sIx xs.length 0 lo)).take (HT.sIx xs.length xs.length hi - HT.sIx xs.length 0 lo), Heap.get?_push_size _ rfl⟩
def rCatT (K : PySem.W.Frag) : R2 := fun x y H Q => ∃ a b xs ys, x = .ref a ∧ y = .ref b ∧ SqT K H a xs ∧ SqT K H b ys ∧ xs ≠ [] ∧ xs.length + ys.length ≤ sizeLine ∧
  (ys = [] → Q (.ref a) H) ∧ (ys ≠ [] → ∀ p, H p = none → Q (.ref p) (upd H p (.tup (xs ++ ys))))
theorem Vals.nil_iff {xs : List V} {us : List Value} (r : Vals xs us) : us = [] ↔ xs = [] := by
  cases r with
  | nil => simp
  | cons _ _ => simp
theorem op_catT : OpR X (binaryOp .Add) (rCatT X.K) := by
  intro pins s σ H x y v u Q I rx ry h
  obtain ⟨a, b, xs, ys, rfl, rfl, ha, hb, hx, hz, q1, q2⟩ := h
  cases rx
  cases ry
  obtain ⟨its, r1, p1, _⟩ := I.tuple ha
  obtain ⟨its2, r2, p2, _⟩ := I.tuple hb
  refine HT.cat_tup p1 p2 (fun z => hx (r1.nil_iff.mp z)) (fun z => ⟨.ref a, H, I, rfl, q1 (r2.nil_iff.mp z)⟩) (fun z => ?_) (by rw [← r1.length, ← r2.length]; exact hz)
  refine ⟨.ref s.heap.objs.size, _, I.laid (t' := s.toks) (o := .tup (xs ++ ys)) (fun b ob q => Heap.get?_push_of_some _ q) (Nat.le_refl _) ?_, rfl, q2 (fun w => z (r2.nil_iff.mpr w)) _ (I.hok.fresh (Nat.le_refl _))⟩
  exact ⟨by rw [List.length_append]; exact hz, _, 0, r1.append r2, Heap.get?_push_size _ rfl⟩
end
end L2
namespace L2
open PySem PySem.Spec PyProof.Rows
def ixN (n : Nat) (i : Int) : Option Nat := if 0 ≤ i then (if i < n then some i.toNat else none) else if -(n : Int) ≤ i then some (i + n).toNat else none
def atI {α : Type} (xs : List α) (i : Int) : Option α := (ixN xs.length i).bind fun j => xs[j]?
theorem ixN_seq {n : Nat} {i : Int} {j : Nat} (h : ixN n i = some j) : seqIndex? i n = some j ∧ j < n ∧ -(n : Int) ≤ i ∧ i < n := by
  unfold ixN at h
  by_cases h0 : 0 ≤ i
  · rw [if_pos h0] at h
    by_cases h1 : i < n
    · rw [if_pos h1] at h
      have e : i.toNat = j := Option.some.inj h
      exact ⟨by rw [seqIndex_of h0 h1, e], by omega, by omega, h1⟩
    · rw [if_neg h1] at h; cases h
  · rw [if_neg h0] at h
    by_cases h1 : -(n : Int) ≤ i
    · rw [if_pos h1] at h
      have e : (i + n).toNat = j := Option.some.inj h
      exact ⟨by rw [seqIndex_neg (by omega) h1, e], by omega, h1, by omega⟩
    · rw [if_neg h1] at h; cases h
theorem atI_get {α : Type} {xs : List α} {i : Int} {v : α} (h : atI xs i = some v) : ∃ j, seqIndex? i xs.length = some j ∧ xs[j]? = some v ∧ j < xs.length ∧ -(xs.length : Int) ≤ i ∧ i < xs.length := by
  unfold atI at h
  cases e : ixN xs.length i with
  | none => rw [e] at h; cases h
  | some j =>
    rw [e] at h
    obtain ⟨h1, h2, h3, h4⟩ := ixN_seq e
    exact ⟨j, h1, h, h2, h3, h4⟩
theorem atI_nat {α : Type} {xs : List α} {j : Nat} {v : α} (h : xs[j]? = some v) : atI xs (j : Int) = some v := by
  have hj : j < xs.length := (List.getElem?_eq_some_iff.mp h).1
  have e : ixN xs.length (j : Int) = some j := by
    unfold ixN
    rw [if_pos (by omega), if_pos (by omega)]; simp
  unfold atI; rw [e]; exact h
def PlainIx (b : Expr) : Prop := ∀ o i, subscripted b false o i = operate [o, i] (getItem o i)
def IxR (X : Cx) (r : R2) : Prop :=
  ∀ (value slice : Expr) (pins : List (Addr × Obj)) (s : Shared) (σ : St) (H : Hp) (x y : V) (v u : Value) (Q : VK), Inv X pins σ H s → RelV x v → RelV y u → r x y H Q →
    subscripted slice false v u = operate [v, u] (getItem v u) → wpAny (model X.prog X.w) X.A (subscriptTail value slice v u) (EP X pins σ Q) X.xe s
def MtR (X : Cx) (id : String) (r : V → List V → Hp → VK → Prop) : Prop :=
  ∀ (pins : List (Addr × Obj)) (s : Shared) (σ : St) (H : Hp) (x : V) (xs : List V) (v : Value) (us : List Value) (Q : VK), Inv X pins σ H s → RelV x v → Vals xs us → r x xs H Q →
    wpAny (model X.prog X.w) X.A (call (.builtin id) (v :: us)) (EP X pins σ Q) X.xe s
section
variable {X : Cx} {a b : Expr} {ta tb : TE} {pos : Pos}
theorem pe_ix {r : R2} (hr : IxR X r) (ha : PE X a ta) (hb : PE X b tb) (hs : PlainIx b) : PE X (.Subscript a b pos) (tOp r ta tb) := by
  intro pins s σ H Q I h
  exact Subscript_ (binT ha hb I h fun v u s2 x y H2 I2 rx ry q => hr a b pins s2 σ H2 x y v u Q I2 rx ry q (hs _ _))
inductive IrIxL (K : PySem.W.Frag) (x : V) (y : V) (H : Hp) (Q : VK) : Prop
  | mk (p : _) (xs : _) (i : _) (v : _) (zz0 : x = .ref p) (zz1 : y = .int i) (zz2 : SqL K H p xs) (zz3 : atI xs i = some v) (zz4 : Q v H) : IrIxL K x y H Q
def rIxL (K : PySem.W.Frag) : R2 := IrIxL K
inductive IrIxT (K : PySem.W.Frag) (x : V) (y : V) (H : Hp) (Q : VK) : Prop
  | mk (p : _) (xs : _) (i : _) (v : _) (zz0 : x = .ref p) (zz1 : y = .int i) (zz2 : SqT K H p xs) (zz3 : atI xs i = some v) (zz4 : Q v H) : IrIxT K x y H Q
def rIxT (K : PySem.W.Frag) : R2 := IrIxT K
inductive IrIxS (x : V) (y : V) (H : Hp) (Q : VK) : Prop
  | mk (z : _) (i : _) (c : _) (zz0 : x = .str z) (zz1 : y = .int i) (zz2 : z.length ≤ sizeLine) (zz3 : atI z.cps.toList i = some c) (zz4 : Q (.str ⟨#[c]⟩) H) : IrIxS  x y H Q
def rIxS : R2 := IrIxS 
theorem ix_list : IxR X (rIxL X.K) := by
  intro value slice pins s σ H x y v u Q I rx ry h hs
  obtain ⟨p, xs, i, z, rfl, rfl, hq, he, q⟩ := h
  cases rx
  obtain ⟨t, rfl⟩ := ry
  obtain ⟨its, r, pl, hz⟩ := I.list hq
  obtain ⟨j, h1, h2, h3, h4, h5⟩ := atI_get he
  obtain ⟨w, ew, rw'⟩ := r.get h2
  have hl := r.length
  have hn := line63
  have fin : EP X pins σ Q w s := ⟨z, H, I, rw', q⟩
  by_cases h0 : 0 ≤ i
  · have hj : i.toNat = j := by
      rw [seqIndex_of h0 h5] at h1
      exact Option.some.inj h1
    exact item_listR pl.isList h0 (by omega) (by rw [hj]; simpa using ew) fin hs
  · have hj : (i + (its.toArray.size : Int)).toNat = j := by
      rw [seqIndex_neg (by omega) h4] at h1
      rw [List.size_toArray, ← hl]
      exact Option.some.inj h1
    exact subscriptTail_builtinR (x := w) pl.isList.typeIs slot_list_getitem.lookup
      (wpAny_getItem_list_neg (Q := fun r s' => r = w ∧ EP X pins σ Q r s') pl.isList (by omega) (by rw [List.size_toArray] <;> omega) (by omega) (by rw [hj]; simpa using ew) ⟨rfl, fin⟩) hs
theorem ix_tup : IxR X (rIxT X.K) := by
  intro value slice pins s σ H x y v u Q I rx ry h hs
  obtain ⟨p, xs, i, z, rfl, rfl, hq, he, q⟩ := h
  cases rx
  obtain ⟨t, rfl⟩ := ry
  obtain ⟨its, r, pl, hz⟩ := I.tuple hq
  obtain ⟨j, h1, h2, h3, h4, h5⟩ := atI_get he
  obtain ⟨w, ew, rw'⟩ := r.get h2
  have hl := r.length
  have hn := line63
  have fin : EP X pins σ Q w s := ⟨z, H, I, rw', q⟩
  exact subscriptTail_builtinR (x := w) pl.typeIs slot_tuple_getitem.lookup
    (getItem_tuple (j := j) (Q := fun r s' => r = w ∧ EP X pins σ Q r s') pl (by omega) (by omega) (by rw [List.size_toArray, ← hl]; exact h1) (by simpa using ew) ⟨rfl, fin⟩) hs
theorem ix_str : IxR X rIxS := by
  intro value slice pins s σ H x y v u Q I rx ry h hs
  obtain ⟨z, i, c, rfl, rfl, hz, he, q⟩ := h
  obtain ⟨t, rfl⟩ := rx
  obtain ⟨t', rfl⟩ := ry
  obtain ⟨j, h1, h2, h3, h4, h5⟩ := atI_get he
  have hl : z.cps.toList.length = z.length := by simp [Str.length]
  rw [hl] at h1 h4 h5
  have hn := line63
  exact tail_any (typeIs_str s z t) slot_str_getitem.lookup (getItem_str (c := c) (by
    have e1 : decide (i < -(2 ^ 63 : Int)) = false := decide_eq_false (by omega)
    have e2 : decide (i ≥ 2 ^ 63) = false := decide_eq_false (by omega)
    rw [e1, e2, Bool.or_false]) (by rw [h1]; simpa using h2) ⟨.str ⟨#[c]⟩, H, I.tok _, ⟨_, rfl⟩, q⟩) hs
theorem mapSeq_set (its : List Value) (n j : Nat) (u : Value) : Obj.mapSeq (·.setIfInBounds j u) { cls := .type "list", data := .seq its.toArray n } = { cls := .type "list", data := .seq (its.set j u).toArray n } := by
  simp [Obj.mapSeq]
theorem Inv.lst {pins : List (Addr × Obj)} {σ : St} {H : Hp} {s : Shared} {p : Addr} {xs : List V} (I : Inv X pins σ H s) (h : H p = some (.lst xs)) :
    ∃ (its : List Value) (n : Nat), Vals xs its ∧ s.heap.get? p = some { cls := .type "list", data := .seq its.toArray n } ∧ xs.length ≤ sizeLine := by
  obtain ⟨z, its, n, r, e⟩ := I.hok p _ h
  exact ⟨its, n, r, e, z⟩
theorem Inv.lstUpd {pins : List (Addr × Obj)} {σ : St} {H : Hp} {s : Shared} {p : Addr} {xs ys : List V} {its its' : List Value} {n n' : Nat} {f : Obj → Obj} (I : Inv X pins σ H s) (h : H p = some (.lst xs))
    (ho : s.heap.get? p = some { cls := .type "list", data := .seq its.toArray n }) (hf : f { cls := .type "list", data := .seq its.toArray n } = { cls := .type "list", data := .seq its'.toArray n' }) (r : Vals ys its') (hz : ys.length ≤ sizeLine) (t : Nat) :
    Inv X pins σ (upd H p (.lst ys)) { s with heap := s.heap.update p f, toks := t } := by
  have e : (s.heap.update p f).get? p = some { cls := .type "list", data := .seq its'.toArray n' } := by
    rw [Heap.get?_update_self f ho (by rw [hf] <;> rfl), hf]
  refine I.write (x := p) (e := p) (by rw [h]; trivial) (.inl rfl) (fun b u hb q => (Heap.get?_update_other _ _ (Ne.symm hb)).trans q) ⟨_, e⟩ ?_
  exact ⟨hz, its', n', r, e⟩
def rSetL : V → V → V → Hp → (Hp → Prop) → Prop := fun o i v H Q => ∃ p xs k j, o = .ref p ∧ i = .int k ∧ H p = some (.lst xs) ∧ ixN xs.length k = some j ∧ Q (upd H p (.lst (xs.set j v)))
theorem set_list : PSet X rSetL := by
  intro pins s σ H o i v ov iv u Q I ro ri rv h
  obtain ⟨p, xs, k, j, rfl, rfl, hp, hj, q⟩ := h
  cases ro
  obtain ⟨t, rfl⟩ := ri
  obtain ⟨its, n, r, ho, hz⟩ := I.lst hp
  obtain ⟨h1, h2, h3, h4⟩ := ixN_seq hj
  have hl := r.length
  have hn := line63
  have I' : Inv X pins σ (upd H p (.lst (xs.set j v))) { s with heap := s.heap.update p (Obj.mapSeq (·.setIfInBounds j u)) } :=
    I.lstUpd hp ho (mapSeq_set its n j u) (r.set rv j) (by rw [List.length_set]; exact hz) s.toks
  by_cases h0 : 0 ≤ k
  · have hk : k.toNat = j := by
      rw [seqIndex_of h0 h4] at h1
      exact Option.some.inj h1
    exact PySem.W.ki_setAt ho h0 (by omega) (by rw [List.size_toArray, ← hl]; exact h4) (by rw [hk]; exact ⟨_, I', q⟩)
  · have hk : (k + (its.toArray.size : Int)).toNat = j := by
      rw [seqIndex_neg (by omega) h3] at h1
      rw [List.size_toArray, ← hl]
      exact Option.some.inj h1
    exact PySem.W.ki_setBack ho (by omega) (by rw [List.size_toArray, ← hl]; exact h3) (by omega) (by rw [hk]; exact ⟨_, I', q⟩)
theorem slice_bounds (lo hi : Option Int) (n : Nat) : (sliceBounds lo hi none n).1 = ((HT.sIx n 0 lo : Nat) : Int) ∧ (sliceBounds lo hi none n).2.1 = ((HT.sIx n n hi : Nat) : Int) ∧ (sliceBounds lo hi none n).2.2 = 1 := by
  refine ⟨?_, ?_, rfl⟩
  · cases lo with
    | none => simp [sliceBounds, HT.sIx]
    | some i =>
      simp only [sliceBounds, HT.sIx, Option.getD_none, show (1 : Int) > 0 by decide, if_true]
      by_cases h : i < 0
      · simp only [h, if_true] <;> omega
      · simp only [h, if_false] <;> omega
  · cases hi with
    | none => simp [sliceBounds, HT.sIx]
    | some i =>
      simp only [sliceBounds, HT.sIx, Option.getD_none, show (1 : Int) > 0 by decide, if_true]
      by_cases h : i < 0
      · simp only [h, if_true] <;> omega
      · simp only [h, if_false] <;> omega
theorem slicePick_cut (its : List Value) (lo hi : Option Int) : slicePick its.toArray lo hi none = ((its.drop (HT.sIx its.length 0 lo)).take (HT.sIx its.length its.length hi - HT.sIx its.length 0 lo)).toArray := by
  obtain ⟨h1, h2, h3⟩ := slice_bounds lo hi its.toArray.size
  unfold slicePick
  rw [h1, h2, h3]
  simp only [sliceRange_one, pick_run, List.size_toArray] <;> rfl
inductive IrSlL (K : PySem.W.Frag) (x : V) (lo : Option Int) (hi : Option Int) (H : Hp) (Q : VK) : Prop
  | mk (a : _) (xs : _) (zz0 : x = .ref a) (zz1 : SqL K H a xs) (zz2 : ∀ p, H p = none → Q (.ref p) (upd H p (.lst (cutV xs lo hi)))) : IrSlL K x lo hi H Q
def rSlL (K : PySem.W.Frag) : V → Option Int → Option Int → Hp → VK → Prop := IrSlL K
theorem sl_list : SlR X (rSlL X.K) := by
  intro pins s σ H x v vl vu lo hi sl Q I rx hs pl pu h
  obtain ⟨a, xs, rfl, hx, q⟩ := h
  cases rx
  obtain ⟨its, r, ht, hz⟩ := I.list hx
  have hlen := r.length
  refine ⟨"list", _, slot_list_getitem.lookup, ht.isList.typeIs, ?_⟩
  refine wpAny_getItem_list_slice ht.isList hs pl pu .none (by simp) ?_ (by rw [List.size_toArray] <;> omega)
  rw [slicePick_cut, ← hlen]
  refine ⟨.ref s.heap.objs.size, _, I.laid (t' := s.toks) (o := .lst (cutV xs lo hi)) (fun b ob q => Heap.get?_push_of_some _ q) (Nat.le_refl _) ?_, rfl, q _ (I.hok.fresh (Nat.le_refl _))⟩
  exact ⟨Nat.le_trans (cutV_length xs lo hi) hz, _, 0, (r.drop (HT.sIx xs.length 0 lo)).take (HT.sIx xs.length xs.length hi - HT.sIx xs.length 0 lo), Heap.get?_push_size _ rfl⟩
def flatV : V → Bool
  | .non => true
  | .bl _ => true
  | .int _ => true
  | .str _ => true
  | _ => false
def eqV : V → V → Bool
  | .non, .non => true
  | .bl a, .bl b => a == b
  | .bl a, .int b => (if a then 1 else 0) == b
  | .int a, .bl b => a == (if b then 1 else 0)
  | .int a, .int b => a == b
  | .str a, .str b => a == b
  | _, _ => false
theorem eqAt_V {A : Around} {s : Shared} {y x : V} {u v : Value} (ry : RelV y u) (rx : RelV x v) (fy : flatV y = true) (fx : flatV x = true) : SeqAt.EqAt A s u v (eqV y x) := by
  cases y with
  | non =>
    cases ry
    cases x with
    | non => cases rx; exact SeqAt.EqAt.same _
    | bl b => cases rx; exact SeqAt.EqAt.none_bool b
    | int b => obtain ⟨t, rfl⟩ := rx; exact SeqAt.EqAt.none_int b t
    | str b => obtain ⟨t, rfl⟩ := rx; exact SeqAt.EqAt.none_str b t
    | _ => exact absurd (show false = true from fx) Bool.false_ne_true
  | bl a =>
    cases ry
    cases x with
    | non => cases rx; exact SeqAt.EqAt.bool_none a
    | bl b => cases rx; exact SeqAt.EqAt.bool_bool a b
    | int b => obtain ⟨t, rfl⟩ := rx; exact SeqAt.EqAt.bool_int a b t
    | str b => obtain ⟨t, rfl⟩ := rx; exact SeqAt.EqAt.bool_str a b t
    | _ => exact absurd (show false = true from fx) Bool.false_ne_true
  | int a =>
    obtain ⟨t', rfl⟩ := ry
    cases x with
    | non => cases rx; exact SeqAt.EqAt.int_none a t'
    | bl b => cases rx; exact SeqAt.EqAt.int_bool a t' b
    | int b => obtain ⟨t, rfl⟩ := rx; exact SeqAt.EqAt.int_int a t' b t
    | str b => obtain ⟨t, rfl⟩ := rx; exact SeqAt.EqAt.int_str a t' b t
    | _ => exact absurd (show false = true from fx) Bool.false_ne_true
  | str a =>
    obtain ⟨t', rfl⟩ := ry
    cases x with
    | non => cases rx; exact SeqAt.EqAt.str_none a t'
    | bl b => cases rx; exact SeqAt.EqAt.str_bool a t' b
    | int b => obtain ⟨t, rfl⟩ := rx; exact SeqAt.EqAt.str_int a t' b t
    | str b => obtain ⟨t, rfl⟩ := rx; exact SeqAt.EqAt.str_str a t' b t
    | _ => exact absurd (show false = true from fx) Bool.false_ne_true
  | _ => exact absurd (show false = true from fy) Bool.false_ne_true
def eqU (x : V) (u : Value) : Bool := match u with
  | .none => eqV .non x
  | .bool b => eqV (.bl b) x
  | .int i _ => eqV (.int i) x
  | .str z _ => eqV (.str z) x
  | _ => false
theorem eqU_of {x y : V} {u : Value} (r : RelV y u) (f : flatV y = true) : eqU x u = eqV y x := by
  cases y with
  | non => cases r; rfl
  | bl b => cases r; rfl
  | int i => obtain ⟨t, rfl⟩ := r; rfl
  | str z => obtain ⟨t, rfl⟩ := r; rfl
  | _ => exact absurd (show false = true from f) Bool.false_ne_true
theorem any_eqU {x : V} : ∀ {xs : List V} {us : List Value}, Vals xs us → xs.all flatV = true → us.any (eqU x) = xs.any fun y => eqV y x
  | _, _, .nil, _ => rfl
  | y :: xs, u :: us, .cons r t, f => by
    rw [List.all_cons, Bool.and_eq_true] at f
    rw [List.any_cons, List.any_cons, eqU_of r f.1, any_eqU t f.2]
theorem mem_eqAt {A : Around} {s : Shared} {x : V} {v : Value} (rx : RelV x v) (fx : flatV x = true) : ∀ {xs : List V} {us : List Value}, Vals xs us → xs.all flatV = true → ∀ u ∈ us, SeqAt.EqAt A s u v (eqU x u)
  | _, _, .nil, _ => fun u hu => by cases hu
  | y :: xs, u :: us, .cons r t, f => fun u' hu => by
    rw [List.all_cons, Bool.and_eq_true] at f
    rcases List.mem_cons.mp hu with rfl | hu
    · rw [eqU_of r f.1]; exact eqAt_V r rx f.1 fx
    · exact mem_eqAt rx fx t f.2 u' hu
def inV (x : V) (xs : List V) : Bool := xs.any fun y => eqV y x
def rIn (K : PySem.W.Frag) (neg : Bool) : R2 := fun x y H Q => ∃ p xs, y = .ref p ∧ (SqL K H p xs ∨ SqT K H p xs) ∧ flatV x = true ∧ xs.all flatV = true ∧ Q (.bl (if neg then !inV x xs else inV x xs)) H
theorem op_in_seq : OpR X (compareOp .In) (rIn X.K false) := by
  intro pins s σ H x y v u Q I rx ry h
  obtain ⟨p, xs, rfl, hq, fx, fs, q⟩ := h
  cases ry
  rcases hq with hq | hq
  · obtain ⟨its, r, pl, hz⟩ := I.list hq
    refine SeqAt.in_listAt (eqU x) pl.isList (fun w hw => mem_eqAt rx fx r fs w (by simpa using hw)) ⟨.bl _, H, I, rfl, ?_⟩
    rw [show its.toArray.any (eqU x) = its.any (eqU x) by simp, any_eqU r fs]
    exact q
  · obtain ⟨its, r, pl, hz⟩ := I.tuple hq
    refine SeqAt.in_tupleAt (eqU x) pl (fun w hw => mem_eqAt rx fx r fs w (by simpa using hw)) ⟨.bl _, H, I, rfl, ?_⟩
    rw [show its.toArray.any (eqU x) = its.any (eqU x) by simp, any_eqU r fs]
    exact q
inductive ILenQ (K : PySem.W.Frag) (xs : List V) (H : Hp) (Q : VK) : Prop
  | mk (p : Addr) (ys : List V) (zz0 : xs = [.ref p]) (zz1 : SqL K H p ys ∨ SqT K H p ys) (zz2 : Q (.int ys.length) H) : ILenQ K xs H Q
theorem call_len_seq : CallR X (.builtin "len") (ILenQ X.K) := by
  intro pins s σ H xs us Q I r h
  obtain ⟨p, ys, rfl, hq, q⟩ := h
  obtain ⟨u, rfl, rx⟩ := vals1 r
  cases rx
  have hn := line63
  rcases hq with hq | hq
  · obtain ⟨its, r', pl, hz⟩ := I.list hq
    have hlen := r'.length
    exact Calls.call_len_list pl.isList (by simp only [List.size_toArray] <;> omega) ⟨.int ys.length, H, I.tok _, ⟨s.toks + 1, by rw [List.size_toArray, hlen]⟩, q⟩
  · obtain ⟨its, r', pl, hz⟩ := I.tuple hq
    have hlen := r'.length
    exact len_tuple pl (by simp only [List.size_toArray] <;> omega) ⟨.int ys.length, H, I.tok _, ⟨s.toks + 1, by rw [List.size_toArray, hlen]⟩, q⟩
theorem call_len_str : CallR X (.builtin "len") (fun xs H Q => ∃ z, xs = [.str z] ∧ z.length ≤ sizeLine ∧ Q (.int z.length) H) := by
  intro pins s σ H xs us Q I r h
  obtain ⟨z, rfl, hz, q⟩ := h
  obtain ⟨u, rfl, t, rfl⟩ := vals1 r
  have hn := line63
  exact len_str (by omega) ⟨.int z.length, H, I.tok _, ⟨_, rfl⟩, q⟩
theorem call_list_of : CallR X (.type "list") (fun xs H Q => ∃ p ys, xs = [.ref p] ∧ (SqL X.K H p ys ∨ SqT X.K H p ys) ∧ ∀ l, H l = none → Q (.ref l) (upd H l (.lst ys))) := by
  intro pins s σ H xs us Q I r h
  obtain ⟨p, ys, rfl, hq, q⟩ := h
  obtain ⟨u, rfl, rx⟩ := vals1 r
  cases rx
  have fin : ∀ (its : List Value), Vals ys its → ys.length ≤ sizeLine → ∀ (h' : Heap) (c' : Nat), (∀ b o', s.heap.get? b = some o' → h'.get? b = some o') →
      h'.get? s.heap.objs.size = some { cls := .type "list", dict := none, data := .seq its.toArray c', slots := #[] } → EP X pins σ Q (.ref s.heap.objs.size) { s with heap := h' } := fun its r' hz h' c' kp e =>
    ⟨.ref s.heap.objs.size, _, I.laid (t' := s.toks) kp (Nat.le_refl _) (show ObjOk X.prog X.w _ h' _ (.lst ys) from ⟨hz, its, c', r', e⟩), rfl, q _ (I.hok.fresh (Nat.le_refl _))⟩
  rcases hq with hq | hq
  · obtain ⟨its, r', pl, hz⟩ := I.list hq
    have hlen := r'.length
    obtain ⟨o, ho, hc, n, hd⟩ := pl.isList
    exact call_list_seq p (.inl rfl) ho hc hd (fun h' c' kp e => fin its r' hz h' c' kp e) (by simp only [List.size_toArray] <;> omega)
  · obtain ⟨its, r', pl, hz⟩ := I.tuple hq
    have hlen := r'.length
    obtain ⟨o, ho, hc, n, hd⟩ := pl
    exact call_list_seq p (.inr rfl) ho hc hd (fun h' c' kp e => fin its r' hz h' c' kp e) (by simp only [List.size_toArray] <;> omega)
theorem call_tuple_of : CallR X (.type "tuple") (fun xs H Q => ∃ p ys, xs = [.ref p] ∧ ((SqL X.K H p ys ∧ ∀ l, H l = none → Q (.ref l) (upd H l (.tup ys))) ∨ (SqT X.K H p ys ∧ Q (.ref p) H))) := by
  intro pins s σ H xs us Q I r h
  obtain ⟨p, ys, rfl, h⟩ := h
  obtain ⟨u, rfl, rx⟩ := vals1 r
  cases rx
  rcases h with ⟨hq, q⟩ | ⟨hq, q⟩
  · obtain ⟨its, r', pl, hz⟩ := I.list hq
    have hlen := r'.length
    refine call_tuple_list pl.isList (fun h' kp => ?_) (by simp only [List.size_toArray] <;> omega)
    have I1 : Inv X pins σ H { s with heap := h' } := I.kept (t' := s.toks) kp
    have I2 : Inv X pins σ (upd H h'.objs.size (.tup ys)) { s with heap := h'.push { cls := .type "tuple", data := .seq its.toArray } } :=
      I1.laid (t' := s.toks) (fun b o e => Heap.get?_push_of_some _ e) (Nat.le_refl _) (show ObjOk X.prog X.w _ _ _ (.tup ys) from ⟨hz, its, 0, r', Heap.get?_push_size _ rfl⟩)
    exact ⟨.ref h'.objs.size, _, I2, rfl, q _ (I1.hok.fresh (Nat.le_refl _))⟩
  · obtain ⟨its, r', pl, hz⟩ := I.tuple hq
    exact call_tuple_same pl ⟨.ref p, H, I, rfl, q⟩
def tyV (K : PySem.W.Frag) (T : String) (x : V) (H : Hp) : Prop := match x with
  | .str _ => T = "str"
  | .int _ => T = "int"
  | .ref p => (T = "list" ∧ ∃ xs, SqL K H p xs) ∨ (T = "tuple" ∧ ∃ o, K.lookup p = some o ∧ o.cls = .type "tuple" ∧ o.dict = none) ∨
      (T = "dict" ∧ ((∃ kvs, H p = some (.dK kvs)) ∨ ∃ kvs, H p = some (.dT kvs))) ∨ (T = "set" ∧ ∃ S n, H p = some (.set S n))
  | _ => False
theorem tyV_is {pins : List (Addr × Obj)} {σ : St} {H : Hp} {s : Shared} {T : String} {x : V} {v : Value} (I : Inv X pins σ H s) (r : RelV x v) (ty : tyV X.K T x H) :
    s.TypeIs v T ∧ ∀ a, v = .ref a → ∃ ob, s.heap.get? a = some ob ∧ ob.dict = none := by
  cases x with
  | str z =>
    obtain ⟨t, rfl⟩ := r
    cases (show T = "str" from ty)
    exact ⟨typeIs_str s z t, fun _ e => nomatch e⟩
  | int i =>
    obtain ⟨t, rfl⟩ := r
    cases (show T = "int" from ty)
    exact ⟨typeIs_int s i t, fun _ e => nomatch e⟩
  | ref p =>
    cases r
    rcases ty with ⟨rfl, xs, hq⟩ | ⟨rfl, o, hk, hc, hd⟩ | ⟨rfl, hk⟩ | ⟨rfl, S, n, hk⟩
    · obtain ⟨its, _, pl, _⟩ := I.list hq
      refine ⟨pl.isList.typeIs, fun a e => ?_⟩
      cases e
      obtain ⟨o, n, e, c, hd, _⟩ := pl
      exact ⟨o, e, hd⟩
    · refine ⟨⟨o, I.kIn p o hk, hc⟩, fun a e => ?_⟩
      cases e
      exact ⟨o, I.kIn _ o hk, hd⟩
    · have z : ∃ o, s.heap.get? p = some o ∧ o.ExactDict := by
        rcases hk with ⟨kvs, hk⟩ | ⟨kvs, hk⟩
        · obtain ⟨_, _, _, _, o, _, _, e, ex, _⟩ := I.hok p _ hk
          exact ⟨o, e, ex⟩
        · obtain ⟨_, _, _, _, o, _, _, e, ex, _⟩ := I.hok p _ hk
          exact ⟨o, e, ex⟩
      obtain ⟨o, e, ex⟩ := z
      refine ⟨⟨o, e, ex.1⟩, fun a e2 => ?_⟩
      cases e2
      exact ⟨o, e, ex.2.1⟩
    · obtain ⟨o, _, _, _, e, ex, _⟩ := I.hok p _ hk
      refine ⟨⟨o, e, ex.1⟩, fun a e2 => ?_⟩
      cases e2
      exact ⟨o, e, ex.2.1⟩
  | _ => exact False.elim ty
def tBM0 (K : PySem.W.Frag) (T : String) (r : V → List V → Hp → VK → Prop) (to : TE) : TE := fun σ H Q => to σ H fun x H1 => tyV K T x H1 ∧ r x [] H1 Q
def tBM (K : PySem.W.Frag) (T : String) (r : V → List V → Hp → VK → Prop) (to : TE) (t : TA) : TE := fun σ H Q => to σ H fun x H1 => tyV K T x H1 ∧ t σ H1 fun xs H2 => r x xs H2 Q
variable {o e : Expr} {es : List Expr} {to : TE} {t : TA} {name : Str} {apos cpos : Pos} {T id : String} {r : V → List V → Hp → VK → Prop}
theorem pe_bm0 (pa : PlainAttrs T) (slot : Slot T name id) (hty : typeOf (.builtin id) = pure (.type "method_descriptor")) (hm : MtR X id r) (ho : PE X o to)
    (hbase : attributeBase o name X.env (eval o X.env) = eval o X.env := by rfl) (hline : (apos.endLine == cpos.line) = true := by rfl) : PE X (.Call (.Attribute o name apos) [] [] cpos) (tBM0 X.K T r to) := by
  intro pins s σ H Q I h
  refine wpAny_Call_method0_late hbase hline (thn (ho pins s σ H _ I h) fun v s1 ⟨x, H1, I1, r1, ty, q1⟩ => ?_)
  obtain ⟨h1, h2⟩ := tyV_is I1 r1 ty
  exact ⟨T, id, pa, slot, hty, h1, h2, Calls.callWith_builtin rfl (PySem.evalArgs_none (hm pins s1 σ H1 x [] v [] Q I1 r1 .nil q1))⟩
theorem pe_bm (pa : PlainAttrs T) (slot : Slot T name id) (hty : typeOf (.builtin id) = pure (.type "method_descriptor")) (hm : MtR X id r) (ho : PE X o to) (ha : PA X (e :: es) t)
    (hbase : attributeBase o name X.env (eval o X.env) = eval o X.env := by rfl)
    (hfew : ((backTo cpos (starEach (e :: es) X.env)).all (fun x => !x.1) && (backToKw cpos (keywordEach [] X.env)).all (fun x => x.1.isSome)
      && decide ((e :: es).length + ([] : List Keyword).length + (if ([] : List Keyword).isEmpty then 0 else 1) < 30)) = true := by rfl)
    (hline : (apos.endLine == cpos.line) = true := by rfl) (hs : starEach (e :: es) X.env = (false, eval e X.env) :: starEach es X.env := by rfl) (hplain : (backTo cpos (starEach es X.env)).any (·.1) = false := by rfl) :
    PE X (.Call (.Attribute o name apos) (e :: es) [] cpos) (tBM X.K T r to t) := by
  intro pins s σ H Q I h
  refine wpAny_Call_method_late hbase hfew hline rfl (thn (ho pins s σ H _ I h) fun v s1 ⟨x, H1, I1, r1, ty, q1⟩ => ?_)
  obtain ⟨h1, h2⟩ := tyV_is I1 r1 ty
  refine ⟨T, id, pa, slot, hty, h1, h2, ?_⟩
  have hA := ha cpos pins s1 σ H1 _ I1 q1
  rw [hs] at hA ⊢
  refine Calls.callWith_builtin (by show (false || (backTo cpos (starEach es X.env)).any (·.1)) = false; rw [hplain] <;> rfl) (Calls.evalArgs_plain ?_)
  exact thn hA fun us s2 ⟨vs, H2, I2, r2, q2⟩ => hm pins s2 σ H2 x vs v us Q I2 r1 r2 q2
end
end L2
namespace L2
open PySem PySem.Spec PyProof.Rows
def MtM (X : Cx) (id : String) (r : V → List V → Hp → VK → Prop) : Prop :=
  ∀ (pins : List (Addr × Obj)) (s : Shared) (σ : St) (H : Hp) (x : V) (xs : List V) (v : Value) (us : List Value) (Q : VK), Inv X pins σ H s → RelV x v → Vals xs us → r x xs H Q →
    wpAny (model X.prog X.w) X.A (call (.builtin id) (v :: us)) (EP X pins σ Q) X.xe s
theorem Vals.one : ∀ {x : V} {us : List Value}, Vals [x] us → ∃ u, us = [u] ∧ RelV x u
  | _, _, .cons r .nil => ⟨_, rfl, r⟩
theorem Vals.zero : ∀ {us : List Value}, Vals [] us → us = []
  | _, .nil => rfl
theorem Vals.dropLast {xs : List V} {us : List Value} (h : Vals xs us) : Vals xs.dropLast us.dropLast := by
  induction h with
  | nil => exact .nil
  | cons r t ih =>
    cases t with
    | nil => exact .nil
    | cons q t' => exact .cons r ih
theorem erase_last {α : Type} (l : List α) : l.eraseIdx (l.length - 1) = l.dropLast := by
  induction l with
  | nil => rfl
  | cons a r ih =>
    cases r with
    | nil => rfl
    | cons b r =>
      have e : (a :: b :: r).length - 1 = ((b :: r).length - 1) + 1 := by
        have h1 : (a :: b :: r).length = r.length + 2 := rfl
        have h2 : (b :: r).length = r.length + 1 := rfl
        omega
      rw [e, List.eraseIdx_cons_succ, ih]
      all_goals rfl
section
variable {X : Cx} {pins : List (Addr × Obj)} {σ : St} {H : Hp} {s : Shared} {l b : Addr} {xs ys zs : List V}
theorem Inv.lset {its its' : List Value} {n : Nat} {f : Array Value → Array Value} {t' : Nat} (I : Inv X pins σ H s) (hH : H l = some (.lst xs))
    (e : s.heap.get? l = some { cls := .type "list", data := .seq its.toArray n }) (hf : f its.toArray = its'.toArray) (hv : Vals ys its') (hz : ys.length ≤ sizeLine) :
    Inv X pins σ (upd H l (.lst ys)) { s with heap := s.heap.update l (Obj.mapSeq f), toks := t' } := by
  have q := PySem.IsL.update e f
  rw [hf] at q
  refine I.write (x := l) (e := l) (by rw [hH]; exact trivial) (.inl rfl) (fun b' u hb hu => (Heap.get?_update_other s.heap (Obj.mapSeq f) (Ne.symm hb)).trans hu) ⟨_, q⟩ ?_
  exact ⟨hz, its', _, hv, q⟩
theorem Inv.lnew {its : List Value} {t' : Nat} (I : Inv X pins σ H s) (hv : Vals ys its) (hz : ys.length ≤ sizeLine) :
    Inv X pins σ (upd H s.heap.objs.size (.lst ys)) { s with heap := s.heap.push { cls := .type "list", data := .seq its.toArray }, toks := t' } :=
  I.laid (fun _ _ q => Heap.get?_push_of_some _ q) (Nat.le_refl _) ⟨hz, its, 0, hv, Heap.get?_push_size _ rfl⟩
theorem Inv.fresh (I : Inv X pins σ H s) : H s.heap.objs.size = none := I.hok.fresh (Nat.le_refl _)
theorem Inv.lstM (I : Inv X pins σ H s) (hH : H l = some (.lst xs)) : xs.length ≤ sizeLine ∧ ∃ (its : List Value) (n : Nat), Vals xs its ∧ xs.length = its.length ∧ s.heap.get? l = some { cls := .type "list", data := .seq its.toArray n } := by
  obtain ⟨z, its, n, r, e⟩ := I.hok l _ hH
  exact ⟨z, its, n, r, r.length, e⟩
theorem notLongL {n : Nat} (h : n ≤ sizeLine) : Builtin.List.listTooLong n = false := by
  unfold Builtin.List.listTooLong
  exact decide_eq_false (by omega)
end
section
variable {X : Cx}
inductive IrAppend (x : V) (vs : List V) (H : Hp) (Q : VK) : Prop
  | mk (l : _) (xs : _) (y : _) (zz0 : x = .ref l) (zz1 : vs = [y]) (zz2 : H l = some (.lst xs)) (zz3 : xs.length < sizeLine) (zz4 : Q .non (upd H l (.lst (xs ++ [y])))) : IrAppend  x vs H Q
def rAppend : V → List V → Hp → VK → Prop := IrAppend 
theorem mt_append : MtM X "list.append" rAppend := by
  intro pins s σ H x vs v us Q I rx rv h
  obtain ⟨l, xs, y, rfl, rfl, hH, hz, q⟩ := h
  cases rx
  obtain ⟨u, rfl, ru⟩ := rv.one
  obtain ⟨z, its, n, r, hl, e⟩ := I.lstM hH
  refine call_meets F.slot_list_append ⟨_, e, rfl⟩ F.entry_list_append (F.args_list_append_2 _ _) (PySem.list_append l its.toArray n u (by rw [List.size_toArray]; omega)) ⟨e, ?_⟩
  refine ⟨.non, _, I.lset (its' := its ++ [u]) hH e (by simp) (r.append (.cons ru .nil)) ?_, rfl, q⟩
  rw [List.length_append, List.length_singleton]
  omega
inductive IrExtend (x : V) (vs : List V) (H : Hp) (Q : VK) : Prop
  | mk (l : _) (b : _) (xs : _) (zs : _) (zz0 : x = .ref l) (zz1 : vs = [.ref b]) (zz2 : H l = some (.lst xs)) (zz3 : H b = some (.lst zs)) (zz4 : xs.length + zs.length ≤ sizeLine) (zz5 : Q .non (upd H l (.lst (xs ++ zs)))) : IrExtend  x vs H Q
def rExtend : V → List V → Hp → VK → Prop := IrExtend 
theorem mt_extend : MtM X "list.extend" rExtend := by
  intro pins s σ H x vs v us Q I rx rv h
  obtain ⟨l, b, xs, zs, rfl, rfl, hH, hB, hz, q⟩ := h
  cases rx
  obtain ⟨u, rfl, ru⟩ := rv.one
  cases ru
  obtain ⟨z, its, n, r, hl, e⟩ := I.lstM hH
  obtain ⟨z2, its2, n2, r2, hl2, e2⟩ := I.lstM hB
  have hsz : its.toArray.size + its2.toArray.size ≤ sizeLine := by rw [List.size_toArray, List.size_toArray]; omega
  have hlong : ¬ (!its.toArray.isEmpty && Builtin.List.listTooLong (its.toArray.size + its2.toArray.size)) = true := by
    rw [notLongL hsz, Bool.and_false]
    exact Bool.false_ne_true
  refine call_meets F.slot_list_extend ⟨_, e, rfl⟩ F.entry_list_extend (F.args_list_extend_2 _ _)
    (AutoSeq1.list_extend_list_list_0 l its.toArray n b its2.toArray n2 hlong (by rw [List.size_toArray]; omega) (by omega)) ⟨e, e2, ?_⟩
  refine ⟨.non, _, I.lset (its' := its ++ its2) hH e (by simp) (r.append r2) ?_, rfl, q⟩
  rw [List.length_append]
  omega
inductive IrPop (x : V) (vs : List V) (H : Hp) (Q : VK) : Prop
  | mk (l : _) (xs : _) (y : _) (zz0 : x = .ref l) (zz1 : vs = []) (zz2 : H l = some (.lst xs)) (zz3 : xs[xs.length - 1]? = some y) (zz4 : Q y (upd H l (.lst xs.dropLast))) : IrPop  x vs H Q
def rPop : V → List V → Hp → VK → Prop := IrPop 
theorem mt_pop : MtM X "list.pop" rPop := by
  intro pins s σ H x vs v us Q I rx rv h
  obtain ⟨l, xs, y, rfl, rfl, hH, hy, q⟩ := h
  cases rx
  have hus := rv.zero
  subst hus
  obtain ⟨z, its, n, r, hl, e⟩ := I.lstM hH
  obtain ⟨u, hu, ru⟩ := r.get hy
  have hy' : its.toArray[its.toArray.size - 1]? = some u := by
    show its.toArray[its.length - 1]? = some u
    rw [← Array.getElem?_toList, ← hl]
    exact hu
  refine call_meets F.slot_list_pop ⟨_, e, rfl⟩ F.entry_list_pop (F.args_list_pop_1 _) (MeetsSeq.list_pop_last l its.toArray n u hy' (by rw [List.size_toArray]; omega)) ⟨e, ?_⟩
  refine ⟨y, _, I.lset (its' := its.dropLast) hH e ?_ r.dropLast ?_, ru, q⟩
  · show its.toArray.eraseIdxIfInBounds (its.toArray.size - 1) = its.dropLast.toArray
    rw [List.size_toArray, List.eraseIdxIfInBounds_toArray, erase_last]
  · rw [List.length_dropLast]
    omega
inductive IrCat (x : V) (y : V) (H : Hp) (Q : VK) : Prop
  | mk (l : _) (b : _) (xs : _) (zs : _) (zz0 : x = .ref l) (zz1 : y = .ref b) (zz2 : H l = some (.lst xs)) (zz3 : H b = some (.lst zs)) (zz4 : xs.length + zs.length ≤ sizeLine) (zz5 : ∀ p, H p = none → Q (.ref p) (upd H p (.lst (xs ++ zs)))) : IrCat  x y H Q
def rCat : R2 := IrCat 
theorem op_cat : OpR X (binaryOp .Add) rCat := by
  intro pins s σ H x y v u Q I rx ry h
  obtain ⟨l, b, xs, zs, rfl, rfl, hH, hB, hz, q⟩ := h
  cases rx
  cases ry
  obtain ⟨z, its, n, r, hl, e⟩ := I.lstM hH
  obtain ⟨z2, its2, n2, r2, hl2, e2⟩ := I.lstM hB
  refine PySem.P.add_list e e2 ?_ (by rw [List.size_toArray, List.size_toArray]; omega)
  have ea : its.toArray ++ its2.toArray = (its ++ its2).toArray := by simp
  rw [ea]
  exact ⟨.ref _, _, I.lnew (t' := s.toks) (r.append r2) (by rw [List.length_append]; omega), rfl, q _ I.fresh⟩
end
section
variable {prog : Program} {w : World} {A : Around} {E : Value → Shared → Prop} {s : Shared}
end
section
variable {X : Cx}
end
end L2
namespace Att
open PySem PySem.W PySem.Calls PyProof.Rows
theorem ints_of_wellAll {P : Params} {h : Heap} : ∀ (ns : List Int) (vs : List Value), WellAll P h vs (ns.map WData.int) → IntsAre vs ns := by
  intro ns
  induction ns with
  | nil =>
    intro vs w
    rw [List.map_nil] at w
    cases w
    exact .nil
  | cons n ns ih =>
    intro vs w
    rw [List.map_cons] at w
    cases w with
    | cons a b =>
      cases a
      exact .cons _ _ (ih _ b)
theorem script_of {l : OpenLaw} {n : Nat} (hn : l.most = some n) {P : Params} {h : Heap} {args : List WData} {vals : List Value}
    (hpre : l.row.toRowW.claim.pre args = true) (hwl : WellAll P h vals args) :
    ∃ a vs ns, vals = [Value.ref a] ∧ args = [WData.list (ns.map WData.int)] ∧ h.get? a = some { cls := .type "list", data := .seq vs.toArray } ∧ IntsAre vs ns ∧ ns.length ≤ n := by
  have hsh : WShape.hasAll [] args [.list .int] = true := (pre_splitW hpre).1
  have hc : l.pre.holds [] { args := args } = true := (pre_splitW hpre).2
  obtain ⟨d, r, rfl, h1, h2⟩ := hasAllW_cons hsh
  obtain rfl := hasAllW_nil h2
  obtain ⟨xs, rfl, h3⟩ := hasW_list h1
  obtain ⟨ns, rfl⟩ := items_int h3
  have hlen : ns.length ≤ n := by
    unfold OpenLaw.pre at hc
    have h4 : (WTm.not (.lt (.lit (.int (n : Int))) (.len (.arg 0)))).holds [] { args := [.list (ns.map .int)] } = true := by
      have h4 := (holds_andW hc).1
      rw [hn] at h4
      exact h4
    have h5 := condW_of h4 (w_not (w_lt w_lit (w_len_list (w_arg rfl))))
    rw [List.length_map] at h5
    refine Nat.le_of_not_lt fun q => ?_
    have q' : (n : Int) < ((ns.length : Nat) : Int) := by omega
    first
      | (rw [decide_eq_true q'] at h5; exact absurd h5 (by decide))
      | (simp at h5; omega)
  cases hwl with
  | cons w1 w2 =>
    cases w2
    cases w1 with
    | list ho hall => exact ⟨_, _, ns, rfl, rfl, ho, ints_of_wellAll ns _ hall, hlen⟩
theorem post_true (l : OpenLaw) (args : List WData) : l.row.toRowW.claim.post args (.bool true) args = true :=
  postW_of (r := l.row.toRowW) (X := (true == true))
    (show WShape.has [] (.bool true) .bool = true by first | rfl | decide | simp [WShape.has, WShape.arms, WShape.armsAll])
    (show (WTm.eq .res (.lit (.bool true))).value [] { args := args, res := some (.bool true), after := args } = some (.bool (true == true)) from w_eq_bool (w_res rfl) w_lit) rfl
theorem attach_call {l : OpenLaw} {n : Nat} {q : Program} {loose : List Str} {XP : (Str → Option Value) → Heap → Prop} {YP : World → Heap → Prop} {d : DefRec}
    (hn : l.most = some n) (hdf : d.params.defaults = [])
    (call : ∀ (w : World) (s₀ s₁ : Shared) (mg mb : Str → Option Value) (fa : Addr) (o : Obj) (pm cd doc : Value) (a : Addr) (vs : List Value) (ns : List Int),
      Ground q loose [] XP w s₀ mg mb s₁.heap → YP w s₁.heap →
      s₁.heap.get? fa = some o → o.data = .func (docDef d.name d.params d.body d.scope pm cd doc) → s₁.heap.CodeRec cd d.name → mg d.name = some (.ref fa) →
      s₁.heap.get? a = some { cls := .type "list", data := .seq vs.toArray } → IntsAre vs ns → ns.length ≤ n → s₁.gens = #[] →
      codeAny (model l.prog w) callerA (.call (.ref fa) ⟨[.ref a], []⟩) (fun r s' => r = .ok (.ret (.bool true)) ∧ OldK s₁.heap s'.heap ∧ s'.os = s₁.os ∧ AllBare s'.gens) s₁) :
    WalkO q loose XP YP l.row.toRowW d [] (fun f vs => PySem.call f vs) := by
  intro w s₀ s₁ mg mb G Y fa o pm cd doc dV kV ho hd hcd hD hmg hg args vals as hpre hlay hrd hwl hlo
  obtain rfl : dV = .none := Dflts.none hD hdf
  obtain rfl : kV = .none := Dflts.noKw hD
  obtain ⟨a, vs, ns, rfl, rfl, hobj, hints, hlen⟩ := script_of hn hpre hwl
  refine enter_call (codeAny_mono (call w s₀ s₁ mg mb fa o pm cd doc a vs ns G Y ho (fd_plain hd) hcd hmg hobj hints hlen hg) fun r s' hq => ?_)
  obtain ⟨rfl, h2, h3, h4⟩ := hq
  exact ⟨.inl ⟨.bool true, .bool true, [], rfl, fun _ => rfl, .bool true, post_true l _, fun _ => ⟨List.Pairwise.nil, fun _ hm => (nomatch hm)⟩⟩, h2, h3, h4⟩
section
variable {prog : Program} {w : World} {A : Around} {E : Value → Shared → Prop} {s : Shared} {K : Frag}
end
end Att
namespace L2
open PySem PySem.Spec PyProof.Rows
theorem vals_ints : ∀ {vs : List Value} {ns : List Int}, IntsAre vs ns → Vals (ns.map V.int) vs
  | _, _, .nil => .nil
  | _, _, .cons n t h => .cons ⟨t, rfl⟩ (vals_ints h)
def Only (H : Hp) : Prop := ∀ b, H b = none ∨ ∃ o xs, H b = some (.frz o (.lst xs))
theorem law_call {P : Program} {w : World} {K : PySem.W.Frag} {mg mb : Str → Option Value} {CX : CXT} {k : Nat} {fa a : Addr} {fd : FuncData} {x : Str} {sp : Sp} {s₁ : Shared} {vs : List Value} {ns : List Int}
    (KX : K.In s₁.heap) (hns : s₁.heap.Ns mainGlobals mg) (hb : s₁.heap.Ns builtinsNs mb) (hbb : ∀ x : Str, x ≠ "__name__" → mb x = bootBuiltins x) (hlim : s₁.heap.NoLimit) (hg : s₁.gens = #[])
    (ha : s₁.heap.get? a = some { cls := .type "list", data := .seq vs.toArray }) (hi : IntsAre vs ns) (hl : ns.length ≤ sizeLine) (hr : Room k callerA)
    (F : ∀ base : Heap, K.In base → base.Ns mainGlobals mg → FnOk P w K mg base CX k fa fd [x] sp) (hbind : ∀ (s : Shared) (u : Value), BindsTo s fd ⟨[u], []⟩ [(x, u)])
    (hsp : ∀ H : Hp, Only H → SqL K H a (ns.map V.int) → sp [.ref a] H (fun v _ => v = .bl true) fun _ _ _ => False)
    (hCX : ∀ H e s', CX [] H s₁ (fun _ _ _ => False) e s' → False) :
    codeAny (model P w) callerA (.call (.ref fa) ⟨[.ref a], []⟩) (fun r s' => r = .ok (.ret (.bool true)) ∧ OldK s₁.heap s'.heap ∧ s'.os = s₁.os ∧ AllBare s'.gens) s₁ := by
  have rv := vals_ints hi
  have lenV := hi.length
  -- from an abstract heap in which nothing but the script may be tracked
  have core : ∀ H : Hp, Only H → SqL K H a (ns.map V.int) → HOk P w H s₁.heap → (∀ b, H b ≠ none → b = a) → (H a ≠ none → K.lookup a = none) →
      codeAny (model P w) callerA (.call (.ref fa) ⟨[.ref a], []⟩) (fun r s' => r = .ok (.ret (.bool true)) ∧ OldK s₁.heap s'.heap ∧ s'.os = s₁.os ∧ AllBare s'.gens) s₁ := by
    intro H hO hS hok hA hK
    have base_of : ∀ {b : Addr} {o : Obj}, s₁.heap.get? b = some o → H b = none → (hidT s₁.heap H).get? b = some o := fun e n => hidT_get e n
    have noA : ∀ {b : Addr} {o : Obj} {es : Array DictEntry} {ep : Nat}, s₁.heap.get? b = some o → o.data = .dict es ep → H b = none := fun {b o es ep} e d => by
      cases q : H b with
      | none => rfl
      | some u =>
        have e' : b = a := hA b (by rw [q]; simp)
        subst e'
        rw [ha] at e; cases e
        have d' : Data.seq vs.toArray _ = Data.dict es ep := d
        cases d'
    have nsK : ∀ {b : Addr} {m : Str → Option Value}, s₁.heap.Ns b m → (hidT s₁.heap H).Ns b m := fun {b m} ⟨o, es, ep, e, d, r⟩ => ⟨o, es, ep, base_of e (noA e d), d, r⟩
    have hKb : K.In (hidT s₁.heap H) := fun b o e => base_of (KX b o e) (by
      cases q : H b with
      | none => rfl
      | some u =>
        have e' : b = a := hA b (by rw [q]; simp)
        subst e'
        rw [hK (by rw [q]; simp)] at e; cases e)
    have hM : Mod K mg (hidT s₁.heap H) := ⟨hKb, nsK hns, ⟨mb, nsK hb, hbb⟩, let ⟨mc, h1, h2⟩ := hlim; ⟨mc, nsK h1, h2⟩⟩
    have e0 : Env0 P w K mg (hidT s₁.heap H) callerA [] s₁ H := ⟨rfl, hM, fun b o e => of_hidT e, Nat.le_of_eq (hidT_size _ _), trivial, fun b hb => absurd (show b ∈ ([] : List Addr) from hb) (by simp), hok, .of_eq hg⟩
    refine codeAny_mono ((F _ hKb (nsK hns)).run callerA [] s₁ H ⟨[.ref a], []⟩ [.ref a] [.ref a] _ _ hr e0 (hbind s₁ (.ref a)) (.cons rfl .nil) (hsp H hO hS)) fun r s' h => ?_
    cases r with
    | error e => exact (hCX H e s' h).elim
    | ok fl =>
      cases fl with
      | next => exact False.elim h
      | brk => exact False.elim h
      | cont => exact False.elim h
      | ret u =>
        obtain ⟨v, H', os, bare, un, hok', r', q⟩ := h
        have q' : v = .bl true := q
        subst q'
        obtain rfl : u = Value.bool true := r'
        refine ⟨rfl, OldK.of_keep fun b o e => ?_, os, bare⟩
        cases q : H b with
        | none => exact un.keep b o e q (by intro z; exact absurd (show b ∈ ([] : List Addr) from z) (by simp)) (by simp)
        | some u =>
          rcases hO b with z | ⟨ob, xs, z⟩
          · rw [q] at z; cases z
          · have z2 := un.frzs b ob _ z
            obtain ⟨e1, _⟩ := hok b _ z
            obtain ⟨e2, _⟩ := hok' b _ z2
            rw [e] at e1; cases e1
            exact e2
  cases hk : K.lookup a with
  | some o =>
    -- the script is one of the module's own objects
    have e := KX a o hk
    rw [ha] at e
    cases e
    refine core (fun _ => none) (fun _ => .inl rfl) (.inr ⟨_, vs.toArray, _, hk, rfl, rfl, rfl, by rw [List.size_toArray, lenV]; exact hl, by simpa using rv⟩) (fun b u z => by have z' : (none : Option HO) = some u := z; cases z') (fun b z => absurd rfl z) fun z => absurd rfl z
  | none =>
    refine core (fun b => if b = a then some (.frz { cls := .type "list", data := .seq vs.toArray } (.lst (ns.map V.int))) else none) (fun b => ?_) (.inl (.inr ⟨{ cls := .type "list", data := .seq vs.toArray }, if_pos rfl⟩)) (fun b u z => ?_) (fun b z => ?_) fun _ => hk
    · by_cases hb : b = a
      · exact .inr ⟨_, _, if_pos hb⟩
      · exact .inl (if_neg hb)
    · by_cases hb : b = a
      · have z' := (if_pos hb).symm.trans z
        cases z'
        subst hb
        exact ⟨ha, by rw [List.length_map]; exact hl, vs, _, rv, ha⟩
      · have z' := (if_neg hb).symm.trans z
        cases z'
    · by_cases hb : b = a
      · exact hb
      · exact absurd (if_neg hb) z
end L2
namespace L2
open PySem PySem.Spec PyProof.Rows
theorem walk_of {l : PySem.W.OpenLaw} {n k : Nat} {q : Program} {loose : List Str} {XP : (Str → Option Value) → Heap → Prop} {YP : World → Heap → Prop} {d : DefRec} {K : Params → PySem.W.Frag} {CX : World → CXT} {sp : World → Sp} {x : Str}
    (hn : l.most = some n) (hn2 : n ≤ sizeLine) (hdf : d.params.defaults = []) (hr : Room k callerA)
    (hY : ∀ (w : World) (h : Heap), YP w h → (K w.params).In h)
    (F : ∀ (w : World) (mg : Str → Option Value) (fa : Addr) (h : Heap), (K w.params).In h → h.Ns mainGlobals mg → mg d.name = some (.ref fa) →
      ∃ fd : FuncData, (∀ (s : Shared) (u : Value), BindsTo s fd ⟨[u], []⟩ [(x, u)]) ∧
        ∀ base : Heap, (K w.params).In base → base.Ns mainGlobals mg → FnOk l.prog w (K w.params) mg base (CX w) k fa fd [x] (sp w))
    (hsp : ∀ (w : World) (H : Hp) (a : Addr) (ns : List Int), ns.length ≤ n → Only H → SqL (K w.params) H a (ns.map V.int) → sp w [.ref a] H (fun v _ => v = .bl true) fun _ _ _ => False)
    (hCX : ∀ (w : World) (H : Hp) (s : Shared) (e : Value) (s' : Shared), CX w [] H s (fun _ _ _ => False) e s' → False) :
    PySem.W.WalkO q loose XP YP l.row.toRowW d [] (fun f vs => PySem.call f vs) := by
  refine Att.attach_call hn hdf fun w s₀ s₁ mg mb fa o pm cd doc a vs ns G Y ho hd hcd hmg hobj hints hlen hg => ?_
  have KX := hY w _ Y
  obtain ⟨fd, hb, hF⟩ := F w mg fa _ KX G.T.g hmg
  exact law_call KX G.T.g G.T.b G.T.builtins G.T.nolimit hg hobj hints (Nat.le_trans hlen hn2) hr hF hb (fun H hO hS => hsp w H a ns hlen hO hS) fun H e s' => hCX w H s₁ e s'
end L2
namespace L2
open PySem PySem.Spec PyProof.Rows
def inClass (s : Stmt) (j : Nat) : Stmt := match s with
  | .ClassDef _ _ _ body _ _ _ _ _ _ _ => body.getD j (.Pass ⟨0, 0, 0, 0⟩)
  | _ => .Pass ⟨0, 0, 0, 0⟩
def defArgs (s : Stmt) : Arguments := match s with
  | .FunctionDef _ a _ _ _ _ _ _ _ _ => a
  | _ => { posonlyargs := [], args := [], vararg := none, kwonlyargs := [], kw_defaults := [], kwarg := none, defaults := [] }
def defBody (s : Stmt) : List Stmt := match s with
  | .FunctionDef _ _ b _ _ _ _ _ _ _ => b
  | _ => []
def defScope (s : Stmt) : Scope := match s with
  | .FunctionDef _ _ _ _ _ _ sc _ _ _ => sc
  | _ => { kind := .function, names := [], isGenerator := false, isCoroutine := false }
abbrev CX0 : CXT := fun _ _ _ _ _ _ => False
abbrev E0 : XK := fun _ _ _ => False
theorem pass0 {X : Cx} : Passes CX0 X E0 := fun _ _ _ _ _ _ _ h => h.elim
structure Fun (K : PySem.W.Frag) (x qual : Str) (st : Stmt) (f : Addr) (fd : FuncData) : Prop where
  ex : ∃ (oc : Value) (od : Option Addr) (kV doc pm : Value) (an : Option Addr) (cdv ct : Value) (osl : Array (Option Value)),
    fd = PySem.W.fnOf x qual (defArgs st) (defBody st) (defScope st) .none kV doc pm an cdv ct ∧ K.lookup f = some ⟨oc, od, .func fd, osl⟩ ∧ PySem.W.codeIn K cdv qual = true
  kp : PySem.W.keepIn K (.ref f) = true
section
variable {P : Program} {w : World} {K : PySem.W.Frag} {mg : Str → Option Value} {base : Heap}
theorem Fun.ok {x qual : Str} {st : Stmt} {f : Addr} {fd : FuncData} {N ps : List Str} {k : Nat} {sp : Sp} (F : Fun K x qual st f fd) (S : FnScope N ps (defScope st)) (len : ∀ vs H Q E, sp vs H Q E → vs.length = ps.length)
    (hbody : ∀ (cdv : Value) (A : Around) (outer : List Env) (s : Shared) (H : Hp) (vs : List V) (Q : VK) (E : XK), Room k (A.deeper (envOfC qual (defScope st) s.heap.objs.size f cdv)) → sp vs H Q E →
      ∃ t, PSs (cxOf CX0 P w K mg base N qual (defScope st) f cdv A outer s H E).nox (defBody st) t ∧ t { nx := fun _ H' => Q .non H', rt := Q } (start N vs) H) : FnOk P w K mg base CX0 (k + 1) f fd ps sp := by
  obtain ⟨oc, od, kV, doc, pm, an, cdv, ct, osl, rfl, lk, hcd⟩ := F.ex
  refine fn_of lk hcd S len fun A outer s H vs Q E hr hsp => ?_
  obtain ⟨t, h, q⟩ := hbody cdv A outer s H vs Q E hr hsp
  exact ⟨t, h.nox, q⟩
theorem Fun.binds {x qual : Str} {st : Stmt} {f : Addr} {fd : FuncData} {ps : List Str} (F : Fun K x qual st f fd)
    (h : ∀ (kV doc pm : Value) (an : Option Addr) (cdv ct : Value) (us : List Value), us.length = ps.length → bindArgs (PySem.W.fnOf x qual (defArgs st) (defBody st) (defScope st) .none kV doc pm an cdv ct) ⟨us, []⟩ = pure (ps.zip us)) : Binds K fd ps [] := by
  obtain ⟨oc, od, kV, doc, pm, an, cdv, ct, osl, rfl, lk, hcd⟩ := F.ex
  exact .all (h kV doc pm an cdv ct)
theorem fun_mk {x qual : Str} {st : Stmt} {f : Addr} {oc : Value} {od an : Option Addr} {osl : Array (Option Value)} {kV doc pm cdv ct : Value} (l : K.lookup f = some ⟨oc, od, .func (PySem.W.fnOf x qual (defArgs st) (defBody st) (defScope st) .none kV doc pm an cdv ct), osl⟩)
    (c : PySem.W.codeIn K cdv qual = true) (k : PySem.W.keepIn K (.ref f) = true) : Fun K x qual st f (PySem.W.fnOf x qual (defArgs st) (defBody st) (defScope st) .none kV doc pm an cdv ct) := ⟨⟨oc, od, kV, doc, pm, an, cdv, ct, osl, rfl, l, c⟩, k⟩
end
section
variable {X : Cx}
theorem pv (i : Nat) {x : Str} {pos : Pos} (hN : X.N[i]? = some x := by rfl) (hv : Vis X.env.scope x := by first | exact Or.inl rfl | exact Or.inr (Or.inl rfl) | exact Or.inr (Or.inr rfl)) (hd : (x == ("__debug__" : Str)) = false := by decide)
    (hcd : (x == ("__classdict__" : Str)) = false := by decide) : PE X (.Name x pos) (tVar i) := pe_var hN hv hd hcd
end
theorem iteF {A B : Prop} (h : B) : if false = true then A else B := by
  rw [if_neg Bool.false_ne_true]
  exact h
theorem iteT {A B : Prop} (h : A) : if true = true then A else B := by
  rw [if_pos rfl]
  exact h
theorem ite2 {c A B : Prop} [Decidable c] (h1 : c → A) (h2 : ¬ c → B) : if c then A else B := by
  by_cases h : c
  · rw [if_pos h]
    exact h1 h
  · rw [if_neg h]
    exact h2 h
def Same (H H' : Hp) : Prop := ∀ b o, H b = some o → H' b = some o
theorem Same.refl (H : Hp) : Same H H := fun _ _ h => h
theorem Same.trans {H H1 H2 : Hp} (a : Same H H1) (b : Same H1 H2) : Same H H2 := fun c o h => b c o (a c o h)
theorem Same.free {H H' : Hp} (e : Same H H') {l : Addr} (h : H' l = Option.none) : H l = Option.none := by
  cases q : H l with
  | none => rfl
  | some o =>
    rw [e l o q] at h
    cases h
theorem Same.seq {K : PySem.W.Frag} {H H' : Hp} {a : Addr} {xs : List V} (e : Same H H') (h : SqL K H a xs) : SqL K H' a xs := by
  rcases h with (h | ⟨o, h⟩) | h
  · exact .inl (.inl (e _ _ h))
  · exact .inl (.inr ⟨o, e _ _ h⟩)
  · exact .inr h
end L2
namespace L2
open PySem PySem.Spec PyProof.Rows
theorem closure_go (env : Env) : ∀ (ns : List (Str × NameKind)) (acc : List (Str × Addr)), (∀ n, (n, NameKind.free) ∈ ns → ∃ c, env.cells.lookup n = some c) →
    (∀ x c, acc.lookup x = some c → env.cells.lookup x = some c) →
    ∃ cl, (forIn ns acc fun (x : Str × NameKind) (cs : List (Str × Addr)) => (if (x.2 == NameKind.free) = true then (do let a ← cellOf env x.1; pure (ForInStep.yield ((x.1, a) :: cs))) else pure (ForInStep.yield cs) : Sem _)) = pure cl ∧
      (∀ x c, cl.lookup x = some c → env.cells.lookup x = some c) ∧ (∀ n, (n, NameKind.free) ∈ ns → ∃ c, cl.lookup n = some c) ∧ ∀ n c, acc.lookup n = some c → cl.lookup n = some c
  | [], acc, _, ha => ⟨acc, rfl, ha, fun _ h => by simp at h, fun _ _ h => h⟩
  | (n, k) :: r, acc, hf, ha => by
    by_cases hk : k = NameKind.free
    · subst hk
      obtain ⟨c, hc⟩ := hf n List.mem_cons_self
      have ha' : ∀ x c', ((n, c) :: acc).lookup x = some c' → env.cells.lookup x = some c' := fun x c' e => by
        rw [List.lookup_cons] at e
        cases hx : x == n with
        | true =>
          rw [hx] at e
          have e1 : x = n := by simpa using hx
          cases e
          rw [e1]; exact hc
        | false => rw [hx] at e; exact ha x c' e
      obtain ⟨cl, h1, h2, h3, h4⟩ := closure_go env r ((n, c) :: acc) (fun m hm => hf m (List.mem_cons_of_mem _ hm)) ha'
      have up : ∀ m c', ((n, c) :: acc).lookup m = some c' → cl.lookup m = some c' := h4
      refine ⟨cl, ?_, h2, ?_, ?_⟩
      · rw [List.forIn_cons]
        have e0 : cellOf env n = pure c := by unfold cellOf; rw [hc]
        simp only [beq_self_eq_true, if_true, e0, pure_bind]
        exact h1
      · intro m hm
        rcases List.mem_cons.mp hm with e | e
        · have : m = n := by simpa using (Prod.mk.inj e).1
          subst this
          exact ⟨c, up m c (by rw [List.lookup_cons]; simp)⟩
        · exact h3 m e
      · intro m c' e
        by_cases hm : m = n
        · subst hm
          have := ha m c' e
          rw [hc] at this
          cases this
          exact up m c (by rw [List.lookup_cons]; simp)
        · have hmn : (m == n) = false := by simpa using hm
          exact up m c' (by rw [List.lookup_cons, hmn]; exact e)
    · have hb : (k == NameKind.free) = false := by simpa using hk
      obtain ⟨cl, h1, h2, h3, h4⟩ := closure_go env r acc (fun m hm => hf m (List.mem_cons_of_mem _ hm)) ha
      refine ⟨cl, ?_, h2, ?_, h4⟩
      · rw [List.forIn_cons]
        simp only [hb, Bool.false_eq_true, if_false, pure_bind]
        exact h1
      · intro m hm
        rcases List.mem_cons.mp hm with e | e
        · exact absurd (Prod.mk.inj e).2.symm hk
        · exact h3 m e
theorem closure_ok {env : Env} {sc : Scope} (hf : ∀ n, (n, NameKind.free) ∈ sc.names → ∃ c, env.cells.lookup n = some c) :
    ∃ cl, closureFor sc env = pure cl ∧ (∀ x c, cl.lookup x = some c → env.cells.lookup x = some c) ∧ ∀ n, (n, NameKind.free) ∈ sc.names → ∃ c, cl.lookup n = some c := by
  obtain ⟨cl, h1, h2, h3, _⟩ := closure_go env sc.names [] hf (fun x c e => by simp at e)
  refine ⟨cl, ?_, h2, h3⟩
  unfold closureFor
  have e : (forIn sc.names ([] : List (Str × Addr)) fun (x : Str × NameKind) (cs : List (Str × Addr)) => (do if (x.2 == NameKind.free) = true then (do let a ← cellOf env x.1; pure (ForInStep.yield ((x.1, a) :: cs))) else pure (ForInStep.yield cs) : Sem _)) = pure cl := h1
  first
    | (rw [show (forIn sc.names ([] : List (Str × Addr)) _ : Sem _) = pure cl from h1]; rfl)
    | (simp only [h1, pure_bind])
theorem lookup_map {f : Str × NameKind → Str × NameKind} (hf : ∀ p, (f p).1 = p.1) : ∀ {l : List (Str × NameKind)} {x : Str} {k : NameKind}, l.lookup x = some k → (l.map f).lookup x = some (f (x, k)).2
  | [], _, _, h => by simp at h
  | (n, k0) :: r, x, k, h => by
    have ih := @lookup_map f hf r x k
    rw [List.map_cons]
    obtain ⟨a, b, e⟩ : ∃ a b, f (n, k0) = (a, b) := ⟨_, _, rfl⟩
    have ea : a = n := by have := hf (n, k0); rw [e] at this; exact this
    subst ea
    rw [e, List.lookup_cons]
    cases hx : x == a with
    | true =>
      rw [List.lookup_cons, hx] at h
      cases h
      have : x = a := by simpa using hx
      subst this
      rw [e]
    | false => rw [List.lookup_cons, hx] at h; exact ih h
theorem of_lookup_map {f : Str × NameKind → Str × NameKind} (hf : ∀ p, (f p).1 = p.1) : ∀ {l : List (Str × NameKind)} {x : Str} {k : NameKind}, (l.map f).lookup x = some k → ∃ k0, (x, k0) ∈ l ∧ (f (x, k0)).2 = k
  | [], _, _, h => by simp at h
  | (n, k0) :: r, x, k, h => by
    have ih := @of_lookup_map f hf r x k
    rw [List.map_cons] at h
    obtain ⟨a, b, e⟩ : ∃ a b, f (n, k0) = (a, b) := ⟨_, _, rfl⟩
    have ea : a = n := by have := hf (n, k0); rw [e] at this; exact this
    subst ea
    rw [e, List.lookup_cons] at h
    cases hx : x == a with
    | true =>
      rw [hx] at h
      cases h
      have : x = a := by simpa using hx
      subst this
      exact ⟨k0, List.mem_cons_self, by rw [e]⟩
    | false =>
      rw [hx] at h
      obtain ⟨k1, h1, h2⟩ := ih h
      exact ⟨k1, List.mem_cons_of_mem _ h1, h2⟩
def rlb (env : Env) (p : Str × NameKind) : Str × NameKind := if (p.2 == NameKind.free && env.scope.kind == .function && env.kindOf p.1 == some .cell) then (p.1, NameKind.cell) else (p.1, p.2)
theorem rlb_fst (env : Env) (p : Str × NameKind) : (rlb env p).1 = p.1 := by unfold rlb; split <;> rfl
theorem relabel_names (sc : Scope) (env : Env) : (relabel sc env).names = sc.names.map (rlb env) := rfl
theorem relabel_free {sc : Scope} {env : Env} {x : Str} (h : sc.names.lookup x = some .free) : (relabel sc env).names.lookup x = some .cell ∨ (relabel sc env).names.lookup x = some .free := by
  rw [relabel_names, lookup_map (rlb_fst env) h]
  unfold rlb
  split
  · exact .inl rfl
  · exact .inr rfl
theorem of_relabel {sc : Scope} {env : Env} {x : Str} (hn : ∀ y ∈ sc.names, y.2 ≠ NameKind.cell) (h : (relabel sc env).names.lookup x = some .cell ∨ (relabel sc env).names.lookup x = some .free) : (x, NameKind.free) ∈ sc.names := by
  rw [relabel_names] at h
  have : ∃ k0, (x, k0) ∈ sc.names ∧ ((rlb env (x, k0)).2 = .cell ∨ (rlb env (x, k0)).2 = .free) := by
    rcases h with h | h
    · obtain ⟨k0, a, b⟩ := of_lookup_map (rlb_fst env) h; exact ⟨k0, a, .inl b⟩
    · obtain ⟨k0, a, b⟩ := of_lookup_map (rlb_fst env) h; exact ⟨k0, a, .inr b⟩
  obtain ⟨k0, hm, hk⟩ := this
  have nc := hn _ hm
  cases k0 with
  | free => exact hm
  | cell => exact absurd rfl nc
  | _ => simp [rlb] at hk
def cxComp (X : Cx) (N : List Str) (sc : Scope) (cl : List (Str × Addr)) (C : Addr) (s : Shared) (H : Hp) (fp : List Addr) (pins : List (Addr × Obj)) : Cx :=
  { X with N := N, s₀ := s, H₀ := H, env := compEnvC sc cl C X.env, outer := X.stack, ex := fp, fn := fun _ => false, pn := X.pn ++ pins, xe := fun _ _ => False }
def cσ (js : List (Option Nat)) (σ : St) : St := js.map fun o => o.bind fun j => (σ[j]?).join
structure CompScope (X : Cx) (sc : Scope) (N : List Str) (js : List (Option Nat)) : Prop where
  kind : sc.kind = .function
  nocell : ∀ y ∈ sc.names, y.2 ≠ NameKind.cell
  names : ∀ y ∈ sc.names, y.2 = NameKind.local → sc.names.lookup y.1 = some .local
  frees : ∀ y ∈ sc.names, y.2 = NameKind.free → X.env.kindOf y.1 = some .cell ∨ X.env.kindOf y.1 = some .free
  len : js.length = N.length
  slots : ∀ (i j : Nat) (x : Str), js[i]? = some (some j) → N[i]? = some x → X.N[j]? = some x ∧ sc.names.lookup x = some .free ∧ (X.env.kindOf x = some .cell ∨ X.env.kindOf x = some .free)
theorem cs_mk {X : Cx} {sc : Scope} {N : List Str} {js : List (Option Nat)} (k : sc.kind = .function) (nc : ∀ y ∈ sc.names, y.2 ≠ NameKind.cell) (nm : ∀ y ∈ sc.names, y.2 = NameKind.local → sc.names.lookup y.1 = some .local)
    (fr : (sc.names.all fun y => y.2 != NameKind.free || X.env.kindOf y.1 == some NameKind.cell || X.env.kindOf y.1 == some NameKind.free) = true) (ln : js.length = N.length)
    (sl : ((js.zip N).all fun p => match p.1 with | none => true | some j => X.N[j]? == some p.2 && sc.names.lookup p.2 == some NameKind.free && (X.env.kindOf p.2 == some NameKind.cell || X.env.kindOf p.2 == some NameKind.free)) = true) : CompScope X sc N js := by
  refine ⟨k, nc, nm, fun y hy hf => ?_, ln, fun i j x e1 e2 => ?_⟩
  · have h := List.all_eq_true.mp fr y hy
    rw [hf] at h
    simpa using h
  · have hm : (some j, x) ∈ js.zip N := by
      have : (js.zip N)[i]? = some (some j, x) := by rw [List.getElem?_zip_eq_some]; exact ⟨e1, e2⟩
      exact List.mem_of_getElem? this
    have h := List.all_eq_true.mp sl _ hm
    simp at h
    exact ⟨h.1.1, h.1.2, h.2⟩
def PTs (X : Cx) (ifs : List Expr) (t : TT) : Prop :=
  ∀ (pins : List (Addr × Obj)) (s : Shared) (σ : St) (H : Hp) (Q : Bool → Hp → Prop), Inv X pins σ H s → t σ H Q →
    wpAny (model X.prog X.w) X.A (forIn ifs true fun c r => if r = true then do let ok ← isTrue c X.env (eval c X.env); pure (ForInStep.yield ok) else pure (ForInStep.yield r)) (TP X pins σ Q) X.xe s
def tNoTest : TT := fun _ H Q => Q true H
theorem pts_nil {X : Cx} : PTs X [] tNoTest := fun _ _ _ H _ I h => wpAny_tests_nil ⟨H, I, h⟩
theorem pts_one {X : Cx} {c : Expr} {t : TT} (h : PT X c t) : PTs X [c] t := fun pins s σ H Q I q => wpAny_tests_one (h pins s σ H Q I q)
def Keep (σ σ' : St) : Prop := σ.length = σ'.length ∧ ∀ (i : Nat) (v : V), σ[i]? = some (some v) → σ'[i]? = some (some v)
def GKeep (js : List (Option Nat)) (g : TG) : Prop := ∀ (σ σ1 : St) (x : V) (H : Hp) (Q : St → Hp → Prop), Keep (cσ js σ) σ1 → g x σ1 H Q → g x σ1 H fun σ2 H2 => Keep (cσ js σ) σ2 ∧ Q σ2 H2
theorem Keep.refl (σ : St) : Keep σ σ := ⟨rfl, fun _ _ h => h⟩
theorem cσ_none {js : List (Option Nat)} {σ : St} {i : Nat} (h : js[i]? = some none) : (cσ js σ)[i]? = some none := by
  unfold cσ
  rw [List.getElem?_map, h]; rfl
theorem gk_name {js : List (Option Nat)} {i : Nat} (h : js[i]? = some none) : GKeep js (gName i) := fun σ σ1 x H Q k q => by
  refine ⟨⟨by rw [List.length_set]; exact k.1, fun j v e => ?_⟩, q⟩
  by_cases hj : i = j
  · subst hj; rw [cσ_none h] at e; cases e
  · rw [List.getElem?_set_ne hj]; exact k.2 j v e
def cTurn (js : List (Option Nat)) (g : TG) (tt : TT) (te : TE) (σ : St) (J : It) (D : Addr) (n : Nat) (W : Nat → Hp → Prop) (fin : Hp → Prop) : Prop :=
  ∀ i H, W i H → (J.stop i H ∧ fin H) ∨ (i < n ∧ J.go i H ∧ ∀ x H1, J.yld i H x H1 → g x (cσ js σ) H1 fun σ2 H2 => tt σ2 H2 fun b H3 =>
    if b = true then te σ2 H3 fun v H4 => ∃ ys, H4 D = some (.lst ys) ∧ ys.length < sizeLine ∧ W (i + 1) (upd H4 D (.lst (ys ++ [v]))) else W (i + 1) H3)
def tComp (js : List (Option Nat)) (wi : TI) (g : TG) (tt : TT) (te : TE) : TE := fun σ H Q => wi σ H fun J H1 => ∀ D, H1 D = none →
  ∃ (n : Nat) (W : Nat → Hp → Prop), W 0 (upd H1 D (.lst [])) ∧ cTurn js g tt te σ J D n W fun H' => Q (.ref D) H'
section
variable {X : Cx} {pins : List (Addr × Obj)} {σ : St} {s : Shared} {H : Hp}
theorem comp_inv {sc : Scope} {N : List Str} {js : List (Option Nat)} {cl : List (Str × Addr)} {fp : List Addr} {h1 : Heap} {t' : Nat} (S : CompScope X sc N js) (I : Inv X pins σ H s)
    (hcl : ∀ x c, cl.lookup x = some c → X.env.cells.lookup x = some c) (hcl2 : ∀ n, (n, NameKind.free) ∈ sc.names → ∃ c, cl.lookup n = some c)
    (hf : ∀ b ∈ fp, FpOk X pins H b) (hlt : ∀ b ∈ fp, b < s.heap.objs.size) (hns : h1.Ns s.heap.objs.size fun x => List.lookup x ([] : List (Str × Value)))
    (hsb : ∀ b o, s.heap.get? b = some o → h1.get? b = some o) :
    Inv (cxComp X N sc cl s.heap.objs.size s H fp pins) [] (cσ js σ) H { s with heap := h1, toks := t' } := by
  have hok : (cxComp X N sc cl s.heap.objs.size s H fp pins).Ok :=
    { mod := I.ok.mod
      kind := S.kind
      glob := I.ok.glob
      blt := I.ok.blt
      above := Nat.le_refl _
      inj := fun x y c a b => I.ok.inj x y c (hcl x c a) (hcl y c b)
      has := fun x h => hcl2 x (of_relabel S.nocell h)
      cab := fun x c h => by cases h
      hd := I.ok.hd
      frames := I.ok.frames
      stk := .inl rfl
      exf := fun b hb => ⟨fun e => absurd (hlt b hb) (by rw [e]; exact Nat.lt_irrefl _), fun x c e z => (hf b hb).2.2.2.2.1 x c (hcl x c e) z⟩
      bs := I.bs
      bsz := Nat.le_trans I.ok.bsz I.sz
      noex := fun b o e hb => by
        rcases (hf b hb).2.2.2.1 with h | h
        · exact I.ok.noex b o e h
        · exact absurd (Nat.lt_of_lt_of_le (Nat.lt_of_lt_of_le (Heap.lt_size e) I.ok.bsz) h) (Nat.lt_irrefl _)
      exfs := fun b hb hm => by
        rcases List.mem_cons.mp (I.stkSub b hm) with e | e
        · exact (hf b hb).2.1 e
        · exact (hf b hb).2.2.1 e
      funs := I.stack
      frf := I.stkFree }
  have hC : H s.heap.objs.size = none := I.hok.fresh (Nat.le_refl _)
  obtain ⟨m0, hn0, hl0⟩ := I.loc
  exact
    { ok := hok
      os := rfl
      bare := I.bare
      base := Un.kept hsb
      loc := ⟨_, hns, fun i x v e1 e2 vis => by
        have e2' : ∃ j, js[i]? = some (some j) ∧ σ[j]? = some (some v) := by
          unfold cσ at e2
          rw [List.getElem?_map] at e2
          cases q : js[i]? with
          | none => rw [q] at e2; cases e2
          | some o =>
            rw [q] at e2
            cases o with
            | none => cases e2
            | some j =>
              refine ⟨j, rfl, ?_⟩
              have e3 : (σ[j]?).join = some v := Option.some.inj e2
              cases r : σ[j]? with
              | none => rw [r] at e3; cases e3
              | some z => rw [r] at e3; exact congrArg some e3
        obtain ⟨j, q1, q2⟩ := e2'
        obtain ⟨n1, n2, n3⟩ := S.slots i j x q1 e1
        obtain ⟨u, ru, look⟩ := hl0 j x v n1 q2 (by rcases n3 with z | z; exact .inr (.inl z); exact .inr (.inr z))
        refine ⟨u, ru, .inr ⟨relabel_free n2, ?_⟩⟩
        have hm : (x, NameKind.free) ∈ sc.names := of_relabel (env := X.env) S.nocell (relabel_free n2)
        obtain ⟨c, hc⟩ := hcl2 x hm
        refine ⟨c, hc, ?_⟩
        rcases look with ⟨k1, _⟩ | ⟨_, c', hc', ic⟩
        · rcases n3 with z | z <;> (rw [k1] at z; cases z)
        · have := hcl x c hc
          rw [hc'] at this
          cases this
          exact ic.keeps hsb⟩
      cell := fun x c e => by
        obtain ⟨v, q⟩ := I.cell x c (hcl x c e)
        exact ⟨v, q.keeps hsb⟩
      free := hC
      freeC := fun x c e => I.freeC x c (hcl x c e)
      pin := fun p hp => by
        have hp' : p ∈ X.pn ++ pins := by simpa [cxComp] using hp
        obtain ⟨a1, a2, a3, a4, a5⟩ := I.pin p hp'
        refine ⟨hsb _ _ a1, a2, fun e => ?_, fun hm => ?_, a5⟩
        · have e' : p.1 = s.heap.objs.size := e
          exact absurd (Heap.lt_size a1) (by rw [e']; exact Nat.lt_irrefl _)
        · rcases List.mem_cons.mp (I.stkSub p.1 hm) with e | e
          · exact a3 e
          · exact a4 e
      hok := I.hok.kept hsb
      len := by
        show (cσ js σ).length = N.length
        unfold cσ
        rw [List.length_map]
        exact S.len }
theorem comp_turn {prog : Program} {w : World} {A : Around} {R : Result → Shared → Prop} {elt target iter : Expr} {ifs : List Expr} {scope : Scope} {pos : Pos} {it acc : Value} {env : Env} (J : Nat → Shared → Prop)
    (turn : ∀ n s, J n s → wpAny (model prog w) A (pyNext it) (fun r s₁ => (r = none ∧ R (.ok .next) s₁) ∨ ∃ v, r = some v ∧
      wpAny (model prog w) A (letOwnedTupleGo target it v) (fun _ s₂ => wpAny (model prog w) A (assign target env v) (fun _ s₃ =>
        wpAny (model prog w) A (forIn ifs true fun c r => if r = true then do let ok ← isTrue c env (eval c env); pure (ForInStep.yield ok) else pure (ForInStep.yield r)) (fun ok s₄ =>
          (ok = false ∧ ∃ m, m < n ∧ J m s₄) ∨ (ok = true ∧ wpAny (model prog w) A (eval elt env) (fun x s₅ => wpAny (model prog w) A (call (.builtin "list.append") [acc, x]) (fun _ s₆ => ∃ m, m < n ∧ J m s₆) (fun _ _ => False) s₅) (fun _ _ => False) s₄))
          (fun _ _ => False) s₃) (fun _ _ => False) s₂) (fun _ _ => False) s₁) (fun _ _ => False) s)
    {s : Shared} (n : Nat) (h : J n s) : codeAny (model prog w) A (.compLoop (.ListComp elt [⟨target, iter, ifs, 0⟩] scope pos) 0 it acc env) R s := by
  refine codeAny_loop rfl J (fun n s hJ => ?_) n h
  show wpAny _ A ((compTurn (.ListComp elt [⟨target, iter, ifs, 0⟩] scope pos) 0 it acc env).onRaise _) _ _ s
  refine wpAny_noted ?_
  rw [compTurn_list]
  have up : ∀ {α : Type} {m : Sem α} {Q : α → Shared → Prop} {E : Value → Shared → Prop} {s : Shared}, wpAny (model prog w) A m Q (fun _ _ => False) s → wpAny (model prog w) A m Q E s := fun q => wpAny_mono q (fun _ _ z => z) fun _ _ z => z.elim
  refine wpAny_bind (wpAny_standAt (wpAny_bind (wpAny_mono (up (turn n s hJ)) (fun r s₁ h₁ => ?_) fun _ _ z => z)))
  rcases h₁ with ⟨rfl, h₁⟩ | ⟨v, rfl, h₁⟩
  · exact wpAny_pure h₁
  · refine wpAny_bind (wpAny_mono (up h₁) (fun _ s₂ h₂ => ?_) fun _ _ z => z)
    refine wpAny_bind (wpAny_mono (up h₂) (fun _ s₃ h₃ => ?_) fun _ _ z => z)
    refine wpAny_bind (wpAny_mono (up h₃) (fun ok s₄ h₄ => ?_) fun _ _ z => z)
    rcases h₄ with ⟨rfl, h₄⟩ | ⟨rfl, h₄⟩
    · exact wpAny_pure ⟨rfl, h₄⟩
    · exact wpAny_bind (wpAny_bind (wpAny_mono (up h₄) (fun x s₅ h₅ => wpAny_bind (wpAny_mono (up h₅) (fun _ s₆ h₆ => wpAny_pure (wpAny_pure ⟨rfl, h₆⟩)) fun _ _ z => z)) fun _ _ z => z))
theorem comp_block {elt tg iter : Expr} {ifs : List Expr} {sc : Scope} {pos : Pos} {N : List Str} {js : List (Option Nat)} {g : TG} {tt : TT} {te : TE} {cl : List (Str × Addr)} {fp : List Addr} {it : Addr} {tn : Nat → Heap → Prop} {J : It} {n : Nat} {W : Nat → Hp → Prop} {fin : Hp → Prop}
    {R : Value → Addr → Result → Shared → Prop} (hc : X.calm = true) (S : CompScope X sc N js) (I : Inv X pins σ H s) (T : Turn X.prog X.w X.K tg J fp it tn) (st : tn 0 s.heap) (hf : ∀ b ∈ fp, FpOk X pins H b)
    (hcl : ∀ x c, cl.lookup x = some c → X.env.cells.lookup x = some c) (hcl2 : ∀ n, (n, NameKind.free) ∈ sc.names → ∃ c, cl.lookup n = some c)
    (hg : ∀ cl C s H fp pins, PG (cxComp X N sc cl C s H fp pins) tg g) (gk : GKeep js g) (ht : ∀ cl C s H fp pins, PTs (cxComp X N sc cl C s H fp pins) ifs tt) (he : ∀ cl C s H fp pins, PE (cxComp X N sc cl C s H fp pins) elt te)
    (w0 : W 0 (upd H s.heap.objs.size (.lst []))) (turn : cTurn js g tt te σ J s.heap.objs.size n W fin)
    (hR : ∀ C H' s', C ≠ X.env.locals → s.heap.objs.size < C → (∃ m, s'.heap.Ns C m) → H' C = none → (∀ h' t', Heap.SameBut C s'.heap h' → Inv X pins σ H' { s' with heap := h', toks := t' }) → fin H' → R (.ref s.heap.objs.size) C (.ok .next) s') {E : Value → Shared → Prop} :
    wpAny (model X.prog X.w) X.A (newList []) (fun acc s₃ => wpAny (model X.prog X.w) X.A (newFunctionEnv sc X.env.globals cl [] X.env.qual none .none (some X.env)) (fun cenv s₄ =>
      codeAny (model X.prog X.w) X.A (.compStart (.ListComp elt [⟨tg, iter, ifs, 0⟩] sc pos) 0 (.ref it) acc { cenv with scope := relabel sc X.env }) (R acc cenv.locals) s₄) E s₃) E s := by
  refine wpAny_newObj_type (wpAny_newFunctionEnv S.nocell (by intro y hy; simp at hy) (fun h₁ hns₁ hsb₁ => ?_) S.kind)
  dsimp only at hns₁ hsb₁ ⊢
  have I3 : Inv X pins σ (upd H s.heap.objs.size (.lst [])) { s with heap := s.heap.push { cls := .type "list", dict := none, data := .seq ([] : List Value).toArray } } := I.lnew (t' := s.toks) (its := []) .nil (by decide)
  have hlt : ∀ b ∈ fp, b < s.heap.objs.size := fun b hb => by
    obtain ⟨o, ho, _⟩ := T.obj _ _ st b hb
    exact Heap.lt_size ho
  have hpush : ∀ b o, s.heap.get? b = some o → (s.heap.push { cls := .type "list", dict := none, data := .seq ([] : List Value).toArray }).get? b = some o := fun b o e => Heap.get?_push_of_some _ e
  have hsz : (s.heap.push { cls := .type "list", dict := none, data := .seq ([] : List Value).toArray }).objs.size = s.heap.objs.size + 1 := Heap.size_push ..
  generalize hs3 : ({ s with heap := s.heap.push { cls := .type "list", dict := none, data := .seq ([] : List Value).toArray } } : Shared) = s3 at I3
  have hs3h : s.heap.push { cls := .type "list", dict := none, data := .seq ([] : List Value).toArray } = s3.heap := by rw [← hs3]
  rw [hs3h] at hns₁ hsb₁ hpush hsz
  rw [hs3h]
  have est : ∀ t', ({ s with heap := h₁, toks := t' } : Shared) = { s3 with heap := h₁, toks := t' } := fun t' => by rw [← hs3]
  rw [est]
  have hsb : ∀ b o, s3.heap.get? b = some o → h₁.get? b = some o := fun b o e => hsb₁.extBut b o (Nat.ne_of_lt (Heap.lt_size e)) (Heap.get?_push_of_some _ e)
  have hf3 : ∀ b ∈ fp, FpOk X pins (upd H s.heap.objs.size (.lst [])) b := fun b hb => ⟨by rw [upd_ne (Nat.ne_of_lt (hlt b hb))]; exact (hf b hb).1, (hf b hb).2⟩
  have I4 := comp_inv (t' := s.toks + ([] : List (Str × Value)).length) S I3 hcl hcl2 hf3 (fun b hb => by rw [hsz]; exact Nat.lt_succ_of_lt (hlt b hb)) hns₁ hsb
  generalize hH3 : upd H s.heap.objs.size (.lst []) = H3 at I3 I4 hf3 w0
  have hst : tn 0 h₁ := T.keep _ _ _ st fun b hb o e => hsb _ _ (hpush _ _ e)
  have stat : ∀ {H' : Hp}, (∀ b ∈ fp, H' b = none) → ∀ b ∈ fp, FpOk (cxComp X N sc cl s3.heap.objs.size s3 H3 fp pins) [] H' b := fun {H'} hn b hb => by
    obtain ⟨f0, f1, f2, f3, f4, f5⟩ := hf b hb
    refine ⟨hn b hb, fun e => ?_, fun hm => ?_, .inl hb, fun x c e => f4 x c (hcl x c e), fun p hp => f5 p (by simpa [cxComp] using hp)⟩
    · have e' : b = s3.heap.objs.size := e
      have h9 : b < s.heap.objs.size := hlt b hb
      rw [e', hsz] at h9
      exact absurd h9 (Nat.not_lt.mpr (Nat.le_succ _))
    · rcases List.mem_cons.mp (I.stkSub b hm) with e | e
      · exact f1 e
      · exact f2 e
  have loop : codeAny (model X.prog X.w) X.A (.compLoop (.ListComp elt [⟨tg, iter, ifs, 0⟩] sc pos) 0 (.ref it) (.ref s.heap.objs.size) (compEnvC sc cl s3.heap.objs.size X.env)) (R (.ref s.heap.objs.size) s3.heap.objs.size)
      { s3 with heap := h₁, toks := s.toks + ([] : List (Str × Value)).length } := by
    refine comp_turn (fun k s' => ∃ i H', Inv (cxComp X N sc cl s3.heap.objs.size s3 H3 fp pins) [] (cσ js σ) H' s' ∧ tn i s'.heap ∧ (∀ b ∈ fp, H' b = none) ∧ W i H' ∧ k = n - i) ?_ n ⟨0, H3, I4, hst, fun b hb => (hf3 b hb).1, w0, rfl⟩
    rintro k s5 ⟨i, H5, I5, st5, fr5, w5, rfl⟩
    rcases turn i H5 w5 with ⟨stop, qn⟩ | ⟨hin, go, step⟩
    · refine thn (T.done (cxComp X N sc cl s3.heap.objs.size s3 H3 fp pins) rfl rfl rfl hc i [] s5 (cσ js σ) H5 _ I5 (stat fr5) st5 stop) fun r s6 ⟨hr, I6⟩ => .inl ⟨hr, ?_⟩
      have I7 : Inv X pins σ H5 s6 := I3.call' (ch := fp) (I6.os.trans rfl) I6.base I6.hok I6.bare fun b hb => ⟨(hf b hb).2.2.2.1, (hf b hb).2.1, (hf b hb).2.2.2.2.1, (hf b hb).2.2.2.2.2⟩
      have hC5 : H5 s3.heap.objs.size = none := I6.free
      have hCl : s3.heap.objs.size ≠ X.env.locals := Nat.ne_of_gt I3.lt
      obtain ⟨m6, hn6, _⟩ := I6.loc
      refine hR s3.heap.objs.size H5 s6 hCl (by omega) ⟨m6, hn6⟩ hC5 (fun h' t' sb => ?_) qn
      refine I7.turned (it := s3.heap.objs.size) (fun b o hb e => sb.extBut b o hb e) hC5 hCl (.inr I3.sz) (fun x c e z => ?_) fun p hp z => ?_
      · obtain ⟨v, q⟩ := I3.cell x c e
        exact absurd q.lt (by rw [z]; exact Nat.lt_irrefl _)
      · exact absurd (Heap.lt_size (I3.pin p hp).1) (by rw [z]; exact Nat.lt_irrefl _)
    · refine thn (T.item (cxComp X N sc cl s3.heap.objs.size s3 H3 fp pins) rfl rfl rfl hc i [] s5 (cσ js σ) H5 _ I5 (stat fr5) st5 go) fun r s6 ⟨u, hr, h6⟩ => .inr ⟨u, hr, ?_⟩
      refine thn h6 fun _ s7 ⟨x, H7, I7, r7, y7, st7, fr7⟩ => ?_
      have I7' := I7.pinned (stat fr7) (T.obj _ _ st7)
      refine thn (hg cl s3.heap.objs.size s3 H3 fp pins _ s7 (cσ js σ) H7 x u _ I7' r7 (gk σ (cσ js σ) x H7 _ (.refl _) (step x H7 y7))) fun _ s8 ⟨σ8, H8, I8, k8, q8⟩ => ?_
      refine thn (ht cl s3.heap.objs.size s3 H3 fp pins _ s8 σ8 H8 _ I8 q8) fun ok s9 ⟨H9, I9, q9⟩ => ?_
      have again : ∀ {s' : Shared} {σ' : St} {H' : Hp}, Keep (cσ js σ) σ' → Inv (cxComp X N sc cl s3.heap.objs.size s3 H3 fp pins) ([] ++ pinsAt fp s7.heap) σ' H' s' → W (i + 1) H' → ∃ m, m < n - i ∧ ∃ i H', Inv (cxComp X N sc cl s3.heap.objs.size s3 H3 fp pins) [] (cσ js σ) H' s' ∧ tn i s'.heap ∧ (∀ b ∈ fp, H' b = none) ∧ W i H' ∧ m = n - i := fun {s' σ' H'} kp I' w' => by
        refine ⟨n - (i + 1), by omega, i + 1, H', (I'.unpinned).weak kp.1 kp.2, T.keep _ _ _ st7 fun b hb o e => (I'.pin (b, o) (List.mem_append_right _ (List.mem_append_right _ (mem_pinsAt hb e)))).1, fun b hb => ?_, w', rfl⟩
        obtain ⟨o, e, d⟩ := T.obj _ _ st7 b hb
        exact (I'.pin (b, o) (List.mem_append_right _ (List.mem_append_right _ (mem_pinsAt hb e)))).2.1
      cases ok with
      | false =>
        refine .inl ⟨rfl, again k8 I9 ?_⟩
        have q9' : if false = true then _ else W (i + 1) H9 := q9
        rw [if_neg Bool.false_ne_true] at q9'
        exact q9'
      | true =>
        refine .inr ⟨rfl, ?_⟩
        rw [if_pos rfl] at q9
        refine thn (he cl s3.heap.objs.size s3 H3 fp pins _ s9 σ8 H9 _ I9 q9) fun vv s10 ⟨v, H10, I10, rv, ys, hD, hys, w10⟩ => ?_
        refine thn (mt_append _ s10 σ8 H10 (.ref s.heap.objs.size) [v] (.ref s.heap.objs.size) [vv] (fun _ H' => W (i + 1) H') I10 rfl (.cons rv .nil) ⟨_, ys, v, rfl, rfl, hD, hys, w10⟩) fun _ s11 ⟨_, H11, I11, _, w11⟩ => ?_
        exact again k8 I11 w11
  exact codeAny_compStart_list loop (T.self X.A 0 _ _ _ hst loop)
theorem pe_comp {elt tg iter : Expr} {ifs : List Expr} {sc : Scope} {pos : Pos} {N : List Str} {js : List (Option Nat)} {wi : TI} {g : TG} {tt : TT} {te : TE} (hc : X.calm = true) (S : CompScope X sc N js) (hi : PI X tg iter wi)
    (hg : ∀ cl C s H fp pins, PG (cxComp X N sc cl C s H fp pins) tg g) (gk : GKeep js g) (ht : ∀ cl C s H fp pins, PTs (cxComp X N sc cl C s H fp pins) ifs tt) (he : ∀ cl C s H fp pins, PE (cxComp X N sc cl C s H fp pins) elt te)
    (hs : ∀ x, foldedSetIterable iter X.env x = pure x := by intro _; rfl) : PE X (.ListComp elt [⟨tg, iter, ifs, 0⟩] sc pos) (tComp js wi g tt te) := by
  intro pins s σ H Q I h
  obtain ⟨cl, e1, e2, e3⟩ := closure_ok (env := X.env) (sc := sc) fun n hn => I.ok.has n (S.frees _ hn rfl)
  rw [eval_ListComp]
  refine wpAny_comprehension_free (use := none) rfl hs e1 S.kind S.names (thn (hi pins s σ H _ I h) fun v s1 h1 => thn h1 fun itv s2 h2 => ?_)
  obtain ⟨it, fp, tn, J, H2, rfl, I2, T, st2, f2, R2⟩ := h2
  obtain ⟨n, W, w0, turn⟩ := R2 s2.heap.objs.size I2.fresh
  refine comp_block (R := fun acc C => compPost (model X.prog X.w) X.A X.xe none (EP X pins σ Q) acc C) hc S I2 T st2 f2 e2 e3 hg gk ht he w0 turn fun C H' s' _ _ hn _ inv fi => ?_
  obtain ⟨m, hm⟩ := hn
  exact ⟨m, hm, fun h' sb => ⟨.ref s2.heap.objs.size, H', inv h' s'.toks sb, rfl, fi⟩⟩
theorem ps_setC {i : Nat} {y : Str} {elt tg iter : Expr} {ifs : List Expr} {sc : Scope} {pos spos py : Pos} {N : List Str} {js : List (Option Nat)} {wi : TI} {g : TG} {tt : TT} {te : TE} (hN : X.N.Nodup) (hy : X.N[i]? = some y) (hyl : Loc X.env.scope y) (hc : X.calm = true) (S : CompScope X sc N js) (hi : PI X tg iter wi)
    (hg : ∀ cl C s H fp pins, PG (cxComp X N sc cl C s H fp pins) tg g) (gk : GKeep js g) (ht : ∀ cl C s H fp pins, PTs (cxComp X N sc cl C s H fp pins) ifs tt) (he : ∀ cl C s H fp pins, PE (cxComp X N sc cl C s H fp pins) elt te)
    (hsw : swapsWith (.ListComp elt [⟨tg, iter, ifs, 0⟩] sc pos) (some (.Name y py)) spos.line X.env = pure true := by rfl)
    (hs : ∀ x, foldedSetIterable iter X.env x = pure x := by intro _; rfl) (hf : X.fn y = true ∨ X.env.scope.names.lookup y = some .local := by first | exact .inl rfl | exact .inr rfl | assumption) :
    PS X (.Assign [.Name y py] (.ListComp elt [⟨tg, iter, ifs, 0⟩] sc pos) spos) (tAsg (tComp js wi g tt te) (gName i)) := by
  intro pins s σ H D I h
  obtain ⟨cl, e1, e2, e3⟩ := closure_ok (env := X.env) (sc := sc) fun n hn => I.ok.has n (S.frees _ hn rfl)
  rw [exec_Assign_Name_used _ _ _ _ hsw]
  refine wpAny_bind (wpAny_standAt (wpAny_bind ?_))
  show wpAny _ X.A (do let _ ← comprehension (.ListComp elt [⟨tg, iter, ifs, 0⟩] sc pos) sc X.env _ (newList []) false (eval iter X.env) (some (assign (.Name y py) X.env))) _ _ s
  refine wpAny_bind (wpAny_mono (wpAny_comprehension_free (use := some (assign (.Name y py) X.env)) (Q := fun _ s' => SP X pins D .next s') rfl hs e1 S.kind S.names (thn (hi pins s σ H _ I h) fun v s1 h1 => thn h1 fun itv s2 h2 => ?_)) (fun _ s' hq => wpAny_pure (wpAny_pure hq)) fun _ _ z => z)
  obtain ⟨it, fp, tn, J, H2, rfl, I2, T, st2, f2, R2⟩ := h2
  obtain ⟨n, W, w0, turn⟩ := R2 s2.heap.objs.size I2.fresh
  refine comp_block (R := fun acc C => compPost (model X.prog X.w) X.A X.xe (some (assign (.Name y py) X.env)) (fun _ s' => SP X pins D .next s') acc C) hc S I2 T st2 f2 e2 e3 hg gk ht he w0 turn fun C H' s' hCL hC hn hC' inv fi => ?_
  obtain ⟨m, hm⟩ := hn
  have I5 : Inv X pins σ H' s' := by
    have q := inv s'.heap s'.toks (.refl ..)
    exact q
  refine wpAny_assign_Name (store_ok2 (v := .ref s2.heap.objs.size) I5 hN hy hyl rfl (fun s6 I6 ⟨a, sb, ha⟩ => ?_) hf)
  have haC : C ≠ a := by
    rcases ha with ha | ha
    · rw [ha]; exact hCL
    · intro z
      obtain ⟨v, q⟩ := I2.cell y a ha
      exact absurd (Nat.lt_trans q.lt hC) (by rw [z]; exact Nat.lt_irrefl _)
  refine ⟨m, hm.sameBut sb haC, fun h' sb' => ⟨_, H', I6.turned (it := C) (t' := s6.toks) (fun b o hb e => sb'.extBut b o hb e) hC' hCL (.inr (Nat.le_trans I2.sz (Nat.le_of_lt hC))) (fun x c e z => ?_) fun p hp z => ?_, fi⟩⟩
  · obtain ⟨v, q⟩ := I2.cell x c e
    exact absurd (Nat.lt_trans q.lt hC) (by rw [z]; exact Nat.lt_irrefl _)
  · exact absurd (Nat.lt_trans (Heap.lt_size (I2.pin p hp).1) hC) (by rw [z]; exact Nat.lt_irrefl _)
end
end L2
namespace L2
open PySem PySem.Spec PyProof.Rows
def cutL {α : Type} (xs : List α) (lo hi : Option Int) : List α := (xs.drop (HT.sIx xs.length 0 lo)).take (HT.sIx xs.length xs.length hi - HT.sIx xs.length 0 lo)
def cutS (z : Str) (lo hi : Option Int) : Str := ⟨(cutL z.cps.toList lo hi).toArray⟩
theorem pick_map {α : Type} (xs : List α) (a n : Nat) : ((List.range n).map fun (k : Nat) => a + k).filterMap (xs[·]?) = (xs.drop a).take n := by
  induction n with
  | zero => simp
  | succ n ih =>
    rw [List.range_succ, List.map_append, List.filterMap_append, ih, List.take_add_one]
    congr 1
    rw [List.getElem?_drop]
    cases h : xs[a + n]? <;> simp [h]
theorem clip_some (n d : Nat) (i : Int) : max 0 (min (if i < 0 then i + (n : Int) else i) (n : Int)) = ((HT.sIx n d (some i) : Nat) : Int) := by
  show max 0 (min (if i < 0 then i + (n : Int) else i) (n : Int)) = (((if i < 0 then (i + (n : Int)).toNat else min i.toNat n) : Nat) : Int)
  by_cases h : i < 0
  · rw [if_pos h, if_pos h]; omega
  · rw [if_neg h, if_neg h]; omega
theorem range_ab (A B : Int) (a b : Nat) (hA : A = (a : Int)) (hB : B = (b : Int)) : sliceRange A B 1 = (List.range (b - a)).map fun (k : Nat) => a + k := by
  subst hA; subst hB
  unfold sliceRange
  simp only [show (1 : Int) > 0 by decide, if_true]
  have c : (if (a : Int) < (b : Int) then ((b : Int) - a + 1 - 1) / 1 else 0).toNat = b - a := by
    split
    · rw [Int.ediv_one]; omega
    · omega
  rw [c]
  refine List.map_congr_left fun k _ => ?_
  omega
theorem sliceIx (lo hi : Option Int) (n : Nat) : Builtin.Str.strSliceIndices lo hi 1 n = (List.range (HT.sIx n n hi - HT.sIx n 0 lo)).map fun (k : Nat) => HT.sIx n 0 lo + k := by
  unfold Builtin.Str.strSliceIndices
  simp only [show (1 : Int) > 0 by decide, if_true]
  cases lo <;> cases hi <;> refine range_ab _ _ _ _ ?_ ?_ <;> first | rfl | exact clip_some _ _ _
theorem cutS_length (z : Str) (lo hi : Option Int) : (cutS z lo hi).length ≤ z.length := by
  show (cutL z.cps.toList lo hi).toArray.size ≤ z.cps.size
  unfold cutL
  rw [List.size_toArray, List.length_take, List.length_drop, Array.length_toList]
  omega
theorem sliceMade_cut (x : Str) (t : Tok) (l u : Option (Int × Tok)) {Q : Value → Shared → Prop} {s : Shared} (hz : x.length ≤ sizeLine) (h : ∀ t' k, Q (.str (cutS x (l.map (·.1)) (u.map (·.1))) t') { s with toks := k }) : (sliceMade x t l u none).post Q s := by
  have e : (slicePicked x l u none).filterMap (x.cps[·]?) = cutL x.cps.toList (l.map (·.1)) (u.map (·.1)) := by
    unfold slicePicked cutL
    show (Builtin.Str.strSliceIndices (l.map (·.1)) (u.map (·.1)) 1 x.length).filterMap (x.cps[·]?) = _
    rw [sliceIx, show (x.cps[·]?) = (x.cps.toList[·]?) from funext fun i => (Array.getElem?_toList ..).symm, pick_map, Array.length_toList]
    rfl
  unfold sliceMade
  split
  · rename_i hc
    have hl : (slicePicked x l u none).length = x.length := by
      have := (Bool.and_eq_true _ _ ▸ hc).2
      simpa using this
    have hw : cutS x (l.map (·.1)) (u.map (·.1)) = x := by
      have e2 : (cutL x.cps.toList (l.map (·.1)) (u.map (·.1))) = x.cps.toList := by
        have hp : slicePicked x l u none = (List.range (HT.sIx x.length x.length (u.map (·.1)) - HT.sIx x.length 0 (l.map (·.1)))).map fun (k : Nat) => HT.sIx x.length 0 (l.map (·.1)) + k := sliceIx _ _ _
        rw [hp, List.length_map, List.length_range] at hl
        have b1 := HT.sIx_le x.length x.length (Nat.le_refl _) (u.map (·.1))
        have hx : x.cps.toList.length = x.length := Array.length_toList
        unfold cutL
        rw [hx, hl]
        have hz0 : HT.sIx x.length 0 (l.map (·.1)) = 0 ∨ x.length = 0 := by omega
        rcases hz0 with h0 | h0
        · rw [h0, List.drop_zero, List.take_of_length_le (by rw [hx]; exact Nat.le_refl _)]
        · have : x.cps.toList = [] := List.length_eq_zero_iff.mp (by rw [hx]; exact h0)
          rw [this]; simp
      unfold cutS
      rw [e2]
    have := h t s.toks
    rw [hw] at this
    exact this
  · show (⟨((slicePicked x l u none).filterMap (x.cps[·]?)).toArray⟩ : Str).length ≤ sizeLine ∧ Q _ _
    rw [e]
    exact ⟨Nat.le_trans (cutS_length x _ _) hz, h s.toks (s.toks + 1)⟩
section
variable {X : Cx}
inductive IrSlS (x : V) (lo : Option Int) (hi : Option Int) (H : Hp) (Q : VK) : Prop
  | mk (z : _) (zz0 : x = .str z) (zz1 : z.length ≤ sizeLine) (zz2 : Q (.str (cutS z lo hi)) H) : IrSlS  x lo hi H Q
def rSlS : V → Option Int → Option Int → Hp → VK → Prop := IrSlS 
theorem part_of {v : Value} {o : Option Int} (h : IsPart v o) : ∃ l : Option (Int × Tok), v = partValue l ∧ l.map (·.1) = o := by
  cases h with
  | none => exact ⟨none, rfl, rfl⟩
  | int i t => exact ⟨some (i, t), rfl, rfl⟩
theorem sl_str : SlR X rSlS := by
  intro pins s σ H x v vl vu lo hi sl Q I rx hs pl pu h
  obtain ⟨z, rfl, hz, q⟩ := h
  obtain ⟨t, rfl⟩ := rx
  obtain ⟨l, rfl, rfl⟩ := part_of pl
  obtain ⟨u, rfl, rfl⟩ := part_of pu
  refine ⟨"str", _, F.slot_str_getitem.lookup, typeIs_str s z t, wpAny_getItem_str_slice (l := l) (u := u) (st := none) ?_ rfl (sliceMade_cut z t l u hz fun t' k => ?_)⟩
  · obtain ⟨o, ho, hc, hd⟩ := hs
    exact ⟨o, ho, hc, hd⟩
  · exact ⟨.str (cutS z (l.map (·.1)) (u.map (·.1))), H, I.tok k, ⟨_, rfl⟩, q⟩
theorem call_isi {T : String} {b : Bool} {t : Value} : CallR X (.builtin "isinstance") (fun xs H Q => ∃ x, xs = [x, .ty T] ∧ TyOf X.K H x t ∧ PySem.W.kitOne X.K t (.type T) = some b ∧ Q (.bl b) H) := by
  intro pins s σ H xs us Q I r h
  obtain ⟨x, rfl, ty, k, q⟩ := h
  obtain ⟨u, w', rfl, r1, r2⟩ := vals2 r
  cases r2
  exact isinst_ok I r1 ty k fun tk => ⟨.bl b, H, I.tok tk, rfl, q⟩
end
end L2
namespace PySem
namespace F
end F
end PySem
namespace PySem
open Sem (wp)
section
variable {prog : Program} {w : World} {A : Around} {E : Value → Shared → Prop} {s : Shared}
end
end PySem
namespace L2
open PySem PySem.Spec PyProof.Rows
section
variable {X : Cx} {e : Expr} {te : TE} {p p2 pos pos2 : Pos}
end
end L2
namespace BB
open PySem L2
inductive Th where
  | knot (n : Str) (ks : List Th)
  | call (s k : Int)
def q : Str := Str.ofString "?"
def Th.kids : Th → List Th
  | .knot _ ks => ks
  | .call _ _ => []
mutual
def Th.size : Th → Nat
  | .knot _ ks => sizes ks + 1
  | .call _ _ => 1
def sizes : List Th → Nat
  | [] => 0
  | t :: ts => t.size + sizes ts
end
mutual
def Th.tall : Th → Nat
  | .knot _ ks => talls ks + 1
  | .call _ _ => 1
def talls : List Th → Nat
  | [] => 0
  | t :: ts => max t.tall (talls ts)
end
mutual
/-- by places ascending -/
def Th.walk : Th → List Th
  | .knot n ks => .knot n ks :: walks ks
  | .call s k => [.call s k]
def walks : List Th → List Th
  | [] => []
  | t :: ts => t.walk ++ walks ts
end
theorem Th.walk_eq (t : Th) : t.walk = t :: walks t.kids := by
  cases t with
  | knot n ks => rw [Th.walk]; rfl
  | call s k => rw [Th.walk]; simp [Th.kids, walks]
theorem Th.size_eq (t : Th) : t.size = sizes t.kids + 1 := by
  cases t with
  | knot n ks => rw [Th.size]; rfl
  | call s k => rw [Th.size]; simp [Th.kids, sizes]
theorem Th.tall_eq (t : Th) : t.tall = talls t.kids + 1 := by
  cases t with
  | knot n ks => rw [Th.tall]; rfl
  | call s k => rw [Th.tall]; simp [Th.kids, talls]
theorem walks_append : ∀ a b : List Th, walks (a ++ b) = walks a ++ walks b
  | [], b => by simp [walks]
  | t :: a, b => by rw [List.cons_append, walks, walks, walks_append a b, List.append_assoc]
theorem sizes_append : ∀ a b : List Th, sizes (a ++ b) = sizes a + sizes b
  | [], b => by simp [sizes]
  | t :: a, b => by rw [List.cons_append, sizes, sizes, sizes_append a b, Nat.add_assoc]
mutual
theorem Th.walk_len : ∀ t : Th, t.walk.length = t.size
  | .knot n ks => by rw [Th.walk, Th.size, List.length_cons, walks_len ks]
  | .call s k => by rw [Th.walk, Th.size]; rfl
theorem walks_len : ∀ ts : List Th, (walks ts).length = sizes ts
  | [] => rfl
  | t :: ts => by rw [walks, sizes, List.length_append, t.walk_len, walks_len ts]
end
theorem Th.size_pos (t : Th) : 1 ≤ t.size := by rw [t.size_eq]; omega
mutual
def At (H : Hp) : Th → Addr → Prop
  | .knot n ks, a => n ≠ q ∧ ∃ as : List Addr, H a = some (.tup (.str n :: as.map V.ref)) ∧ Ats H ks as
  | .call s k, a => H a = some (.tup [.str q, .int s, .int k])
def Ats (H : Hp) : List Th → List Addr → Prop
  | [], as => as = []
  | t :: ts, as => ∃ a r, as = a :: r ∧ At H t a ∧ Ats H ts r
end
def KT (H H' : Hp) : Prop := ∀ b xs, H b = some (.tup xs) → H' b = some (.tup xs)
theorem KT.trans {H H1 H2 : Hp} (a : KT H H1) (b : KT H1 H2) : KT H H2 := fun c o h => b c o (a c o h)
theorem Same.kt {H H' : Hp} (h : L2.Same H H') : KT H H' := fun b xs e => h b _ e
theorem kt_new {H : Hp} {l : Addr} {o : HO} (h : H l = none) : KT H (upd H l o) := fun b xs e => by rw [upd_ne (ne_of_none e h)]; exact e
theorem kt_lst {H : Hp} {l : Addr} {o : HO} {xs : List V} (h : H l = some (.lst xs)) : KT H (upd H l o) := fun b ys e => by rw [upd_ne (ne_of e h (by intro z; cases z))]; exact e
mutual
theorem At.mono {H H' : Hp} (k : KT H H') : ∀ {t : Th} {a : Addr}, At H t a → At H' t a
  | .knot n ks, a, h => by
    rw [At] at h ⊢
    obtain ⟨h0, as, h1, h2⟩ := h
    exact ⟨h0, as, k _ _ h1, Ats.mono k h2⟩
  | .call s c, a, h => by
    rw [At] at h ⊢
    exact k _ _ h
theorem Ats.mono {H H' : Hp} (k : KT H H') : ∀ {ts : List Th} {as : List Addr}, Ats H ts as → Ats H' ts as
  | [], as, h => by rw [Ats] at h ⊢; exact h
  | t :: ts, as, h => by
    rw [Ats] at h ⊢
    obtain ⟨a, r, e, h1, h2⟩ := h
    exact ⟨a, r, e, At.mono k h1, Ats.mono k h2⟩
end
theorem Ats.nil {H : Hp} : Ats H [] [] := by rw [Ats]
theorem Ats.cons {H : Hp} {t : Th} {ts : List Th} {a : Addr} {as : List Addr} (h1 : At H t a) (h2 : Ats H ts as) : Ats H (t :: ts) (a :: as) := by rw [Ats]; exact ⟨a, as, rfl, h1, h2⟩
theorem Ats.append {H : Hp} : ∀ {ts us : List Th} {as bs : List Addr}, Ats H ts as → Ats H us bs → Ats H (ts ++ us) (as ++ bs)
  | [], us, as, bs, h, g => by rw [Ats] at h; subst h; exact g
  | t :: ts, us, as, bs, h, g => by
    rw [Ats] at h
    obtain ⟨a, r, rfl, h1, h2⟩ := h
    exact .cons h1 (h2.append g)
theorem Ats.length {H : Hp} : ∀ {ts : List Th} {as : List Addr}, Ats H ts as → as.length = ts.length
  | [], as, h => by rw [Ats] at h; subst h; rfl
  | t :: ts, as, h => by
    rw [Ats] at h
    obtain ⟨a, r, rfl, h1, h2⟩ := h
    rw [List.length_cons, List.length_cons, h2.length]
theorem Ats.reverse {H : Hp} : ∀ {ts : List Th} {as : List Addr}, Ats H ts as → Ats H ts.reverse as.reverse
  | [], as, h => by rw [Ats] at h; subst h; exact .nil
  | t :: ts, as, h => by
    rw [Ats] at h
    obtain ⟨a, r, rfl, h1, h2⟩ := h
    rw [List.reverse_cons, List.reverse_cons]
    exact h2.reverse.append (.cons h1 .nil)
theorem Ats.get {H : Hp} : ∀ {ts : List Th} {as : List Addr} {i : Nat} {a : Addr}, Ats H ts as → as[i]? = some a → ∃ t, ts[i]? = some t ∧ At H t a
  | [], as, i, a, h, e => by rw [Ats] at h; subst h; simp at e
  | t :: ts, as, i, a, h, e => by
    rw [Ats] at h
    obtain ⟨b, r, rfl, h1, h2⟩ := h
    cases i with
    | zero => simp at e; subst e; exact ⟨t, rfl, h1⟩
    | succ i => exact h2.get (i := i) (by simpa using e)
theorem Ats.snoc_inv {H : Hp} {ts : List Th} {as : List Addr} {a : Addr} (h : Ats H ts (as ++ [a])) : ∃ us t, ts = us ++ [t] ∧ Ats H us as ∧ At H t a := by
  have r := h.reverse
  rw [List.reverse_append, List.reverse_singleton, List.singleton_append] at r
  cases e : ts.reverse with
  | nil => rw [e, Ats] at r; cases r
  | cons t us =>
    rw [e, Ats] at r
    obtain ⟨b, z, e1, h1, h2⟩ := r
    cases e1
    refine ⟨us.reverse, t, ?_, ?_, h1⟩
    · rw [← List.reverse_cons, ← e, List.reverse_reverse]
    · have := h2.reverse
      rw [List.reverse_reverse] at this
      exact this
end BB
namespace BB
open PySem L2
end BB
namespace BB
open PySem L2
theorem at_nonneg {α : Type} {xs : List α} {i : Int} {v : α} (h0 : 0 ≤ i) (h : xs[i.toNat]? = some v) : atI xs i = some v := by
  have e : i = ((i.toNat : Nat) : Int) := by omega
  rw [e]; exact atI_nat h
def Low (x : Str) : Prop := ∀ c ∈ x.cps.toList, 97 ≤ c ∧ c ≤ 122
theorem low_cut {x : Str} (h : Low x) (lo hi : Option Int) : Low (cutS x lo hi) := by
  intro c hc
  have hc' : c ∈ cutL x.cps.toList lo hi := by simpa [cutS] using hc
  exact h c (List.mem_of_mem_drop (List.mem_of_mem_take hc'))
theorem low_app {x y : Str} (hx : Low x) (hy : Low y) : Low (x ++ y) := by
  intro c hc
  have hc' : c ∈ (x.cps ++ y.cps).toList := hc
  rw [Array.toList_append, List.mem_append] at hc'
  rcases hc' with h | h
  · exact hx c h
  · exact hy c h
theorem low_one {c : Nat} (h1 : 97 ≤ c) (h2 : c ≤ 122) : Low ⟨#[c]⟩ := by
  intro d hd
  have : d = c := by simpa using hd
  omega
theorem low_q {x : Str} (h : Low x) : x ≠ q := by
  intro e
  subst e
  have := h 63 (by decide +kernel)
  omega
end BB
namespace L2
open PySem PySem.Spec PyProof.Rows
theorem Same.seqT {K : PySem.W.Frag} {H H' : Hp} {a : Addr} {xs : List V} (e : Same H H') (h : SqT K H a xs) : SqT K H' a xs := by
  rcases h with (h | ⟨o, h⟩) | h
  · exact .inl (.inl (e _ _ h))
  · exact .inl (.inr ⟨o, e _ _ h⟩)
  · exact .inr h
theorem same_new {H : Hp} {p : Addr} (h : H p = none) (o : HO) : Same H (upd H p o) := fun b u q => by rw [upd_ne (ne_of_none q h)]; exact q
theorem same_upd {H H1 : Hp} {l : Addr} {o : HO} (h : Same H H1) (n : H l = none) : Same H (upd H1 l o) := fun b u e => by rw [upd_ne (ne_of_none e n)]; exact h b u e
theorem comp_fm {α : Type} {js : List (Option Nat)} {tt : TT} {te : TE} {σ : St} {J : It} {H : Hp} {xs : List V} {fin : Addr → Hp → Prop} (zs : List α) (p : α → Bool) (f : α → V) (hz : zs.length = xs.length) (hn : xs.length ≤ 1000000)
    (hgo : ∀ i H2, Same H H2 → i < xs.length → J.go i H2) (hstop : ∀ H2, Same H H2 → J.stop xs.length H2) (hyld : ∀ (i : Nat) H2 x H3, Same H H2 → i < xs.length → J.yld i H2 x H3 → H3 = H2 ∧ xs[i]? = some x)
    (htt : ∀ (i : Nat) x z H2 (R : Bool → Hp → Prop), xs[i]? = some x → zs[i]? = some z → Same H H2 → R (p z) H2 → tt ((cσ js σ).set 0 (some x)) H2 R)
    (hte : ∀ (i : Nat) x z H2 (R : VK), xs[i]? = some x → zs[i]? = some z → p z = true → Same H H2 → R (f z) H2 → te ((cσ js σ).set 0 (some x)) H2 R)
    (q : ∀ D, H D = none → fin D (upd H D (.lst ((zs.filter p).map f)))) :
    ∀ D, H D = none → ∃ (n : Nat) (W : Nat → Hp → Prop), W 0 (upd H D (.lst [])) ∧ cTurn js (gName 0) tt te σ J D n W fun H' => fin D H' := by
  intro D hD
  refine ⟨xs.length, fun i H2 => i ≤ xs.length ∧ H2 = upd H D (.lst (((zs.take i).filter p).map f)), ⟨Nat.zero_le _, by simp⟩, ?_⟩
  rintro i H2 ⟨hi, rfl⟩
  have sm : ∀ o, Same H (upd H D o) := fun o => same_new hD o
  by_cases h : i = xs.length
  · left
    subst h
    refine ⟨hstop _ (sm _), ?_⟩
    rw [← hz, List.take_length]
    exact q D hD
  · right
    have hi' : i < xs.length := by omega
    refine ⟨hi', hgo i _ (sm _) hi', fun x H1 hy => ?_⟩
    obtain ⟨rfl, hx⟩ := hyld i _ x H1 (sm _) hi' hy
    have hzi : i < zs.length := by omega
    have e1 : zs[i]? = some zs[i] := List.getElem?_eq_getElem hzi
    have e2 : (zs.take (i + 1)).filter p = (zs.take i).filter p ++ (if p zs[i] = true then [zs[i]] else []) := by
      rw [List.take_add_one, e1, List.filter_append]
      show _ ++ List.filter p [zs[i]] = _
      rw [List.filter_cons, List.filter_nil]
    refine htt i x zs[i] _ _ hx e1 (sm _) ?_
    have hlen : (((zs.take i).filter p).map f).length ≤ 1000000 := by
      rw [List.length_map]
      have := List.length_filter_le p (zs.take i)
      rw [List.length_take] at this
      omega
    by_cases hp : p zs[i] = true
    · rw [if_pos hp]
      refine hte i x zs[i] _ _ hx e1 hp (sm _) ⟨_, upd_same, Nat.lt_of_le_of_lt hlen (by decide), hi', ?_⟩
      rw [upd_upd, e2, if_pos hp, List.map_append]
      rfl
    · rw [if_neg hp]
      refine ⟨hi', ?_⟩
      rw [e2, if_neg hp, List.append_nil]
theorem comp_fm_tup {α : Type} {K : PySem.W.Frag} {a : Addr} {js : List (Option Nat)} {tt : TT} {te : TE} {σ : St} {H : Hp} {xs : List V} {fin : Addr → Hp → Prop} (zs : List α) (p : α → Bool) (f : α → V) (hS : SqT K H a xs) (hz : zs.length = xs.length) (hn : xs.length ≤ 1000000)
    (htt : ∀ (i : Nat) x z H2 (R : Bool → Hp → Prop), xs[i]? = some x → zs[i]? = some z → Same H H2 → R (p z) H2 → tt ((cσ js σ).set 0 (some x)) H2 R)
    (hte : ∀ (i : Nat) x z H2 (R : VK), xs[i]? = some x → zs[i]? = some z → p z = true → Same H H2 → R (f z) H2 → te ((cσ js σ).set 0 (some x)) H2 R)
    (q : ∀ D, H D = none → fin D (upd H D (.lst ((zs.filter p).map f)))) :
    ∀ D, H D = none → ∃ (n : Nat) (W : Nat → Hp → Prop), W 0 (upd H D (.lst [])) ∧ cTurn js (gName 0) tt te σ (Itt K a) D n W fun H' => fin D H' :=
  comp_fm zs p f hz hn (fun i H2 s hi => ⟨xs, xs[i], s.seqT hS, List.getElem?_eq_getElem hi⟩) (fun H2 s => ⟨xs, s.seqT hS, Nat.le_refl _⟩) (fun i H2 x H3 s hi hy => ⟨hy.1, hy.2 xs (s.seqT hS)⟩) htt hte q
end L2
namespace BB
open PySem L2
theorem at0 {α : Type} {x : α} {xs : List α} : atI (x :: xs) 0 = some x := atI_nat (j := 0) rfl
theorem at1 {α : Type} {x y : α} {xs : List α} : atI (x :: y :: xs) 1 = some y := atI_nat (j := 1) rfl
theorem at2 {α : Type} {x y z : α} {xs : List α} : atI (x :: y :: z :: xs) 2 = some z := atI_nat (j := 2) rfl
theorem cut_tail (x : V) (xs : List V) : cutV (x :: xs) (some 1) none = xs := by
  unfold cutV
  simp [HT.sIx]
theorem len_sizes : ∀ ts : List Th, ts.length ≤ sizes ts
  | [] => Nat.zero_le _
  | t :: ts => by
    have := t.size_pos
    have := len_sizes ts
    rw [List.length_cons, sizes]; omega
theorem sizes_rev (ts : List Th) : sizes ts.reverse = sizes ts := by
  induction ts with
  | nil => rfl
  | cons x xs ih => rw [List.reverse_cons, sizes_append, ih, sizes, sizes, sizes]; omega
theorem line_big {n : Nat} (h : n ≤ 1000000) : n < sizeLine := Nat.lt_of_le_of_lt h (by decide)
theorem line_le {n : Nat} (h : n ≤ 1000000) : n ≤ sizeLine := Nat.le_of_lt (line_big h)
theorem int_at {ns : List Int} {k : Int} (h0 : 0 ≤ k) (h : k < (ns.length : Int)) : atI (ns.map V.int) k = some (.int (ns.getD k.toNat 0)) := by
  refine at_nonneg h0 ?_
  have hk : k.toNat < ns.length := by omega
  rw [List.getElem?_map, List.getElem?_eq_getElem hk, List.getD_eq_getElem?_getD, List.getElem?_eq_getElem hk]
  rfl
end BB
namespace BB
open PySem L2
section
variable {α β : Type} {F G : α → β → Prop}
theorem P2.append : ∀ {a c : List α} {b d : List β}, Paired F a b → Paired F c d → Paired F (a ++ c) (b ++ d)
  | _, _, _, _, .nil, h => h
  | _, _, _, _, .cons r t, h => .cons r (P2.append t h)
theorem P2.get : ∀ {a : List α} {b : List β} {i : Nat} {x : α}, Paired F a b → a[i]? = some x → ∃ y, b[i]? = some y ∧ F x y
  | _, _, _, _, .nil, e => by simp at e
  | _, _, 0, _, .cons r _, e => by simp at e; subst e; exact ⟨_, rfl, r⟩
  | _, _, i + 1, x, .cons _ t, e => by
    obtain ⟨u, h1, h2⟩ := P2.get (i := i) (x := x) t (by simpa using e)
    exact ⟨u, by simpa using h1, h2⟩
theorem P2.get' : ∀ {a : List α} {b : List β} {i : Nat} {y : β}, Paired F a b → b[i]? = some y → ∃ x, a[i]? = some x ∧ F x y
  | _, _, _, _, .nil, e => by simp at e
  | _, _, 0, _, .cons r _, e => by simp at e; subst e; exact ⟨_, rfl, r⟩
  | _, _, i + 1, y, .cons _ t, e => by
    obtain ⟨u, h1, h2⟩ := P2.get' (i := i) (y := y) t (by simpa using e)
    exact ⟨u, by simpa using h1, h2⟩
theorem P2.set {x : α} {y : β} (r : F x y) : ∀ {a : List α} {b : List β} (i : Nat), Paired F a b → Paired F (a.set i x) (b.set i y)
  | _, _, _, .nil => .nil
  | _, _, 0, .cons _ t => .cons r t
  | _, _, i + 1, .cons h t => .cons h (P2.set r i t)
theorem P2.take : ∀ {a : List α} {b : List β} (n : Nat), Paired F a b → Paired F (a.take n) (b.take n)
  | _, _, 0, _ => .nil
  | _, _, _ + 1, .nil => .nil
  | _, _, n + 1, .cons r t => .cons r (P2.take n t)
theorem P2.drop : ∀ {a : List α} {b : List β} (n : Nat), Paired F a b → Paired F (a.drop n) (b.drop n)
  | _, _, 0, r => r
  | _, _, _ + 1, .nil => .nil
  | _, _, n + 1, .cons _ t => P2.drop n t
theorem P2.mp (f : ∀ x y, F x y → G x y) : ∀ {a : List α} {b : List β}, Paired F a b → Paired G a b
  | _, _, .nil => .nil
  | _, _, .cons r t => .cons (f _ _ r) (P2.mp f t)
end
def KAt (H : Hp) (k : Str × Int) (a : Addr) : Prop := H a = some (.tup [.str k.1, .int k.2])
def KsAt (H : Hp) (ks : List (Str × Int)) (as : List Addr) : Prop := Paired (KAt H) ks as
theorem KsAt.mono {H H' : Hp} (k : KT H H') {ks : List (Str × Int)} {as : List Addr} (h : KsAt H ks as) : KsAt H' ks as := P2.mp (fun x y e => k _ _ e) h
end BB
namespace L2
open PySem
theorem seq_intro {t u : TS} {D : Ends} {σ : St} {H : Hp} (R : St → Hp → Prop) (h1 : ∀ k : St → Hp → Prop, (∀ σ' H', R σ' H' → k σ' H') → t { D with nx := k } σ H) (h2 : ∀ σ' H', R σ' H' → u D σ' H') : tSeq t u D σ H := h1 _ h2
theorem if_intro {c : TT} {t u : TS} {D : Ends} {σ : St} {H : Hp} (R : Bool → Hp → Prop) (h1 : ∀ k : Bool → Hp → Prop, (∀ b H', R b H' → k b H') → c σ H k) (h2 : ∀ H', R true H' → t D σ H') (h3 : ∀ H', R false H' → u D σ H') : tIfS c t u D σ H :=
  h1 _ fun b H' r => by
    cases b with
    | true => rw [if_pos rfl]; exact h2 H' r
    | false => rw [if_neg Bool.false_ne_true]; exact h3 H' r
end L2
namespace BB
open PySem L2
section
variable {ext : Th → List V} {H H' : Hp} {t : Th} {a : Addr} {ts : List Th} {es : List Addr}
end
theorem talls_le : ∀ {ts : List Th} {t : Th}, t ∈ ts → t.tall ≤ talls ts
  | u :: ts, t, h => by
    rw [talls]
    rcases List.mem_cons.mp h with rfl | h
    · omega
    · have := talls_le h; omega
theorem cutV_from {xs : List V} {n : Nat} (h : n ≤ xs.length) : cutV xs (some (n : Int)) none = xs.drop n := by
  unfold cutV
  rw [HT.sIx_nat, HT.sIx_none, Nat.min_eq_left h]
  exact List.take_of_length_le (by rw [List.length_drop]; exact Nat.le_refl _)
theorem take_snoc {α : Type} {xs : List α} {n : Nat} {x : α} (h : xs[n]? = some x) : xs.take (n + 1) = xs.take n ++ [x] := by rw [List.take_add_one, h]; rfl
theorem get_ref {xs : List Addr} {i : Nat} {x : V} (h : (xs.map V.ref)[i]? = some x) : ∃ a, x = .ref a ∧ xs[i]? = some a := by
  rw [List.getElem?_map] at h
  obtain ⟨a, h1, h2⟩ := Option.map_eq_some_iff.mp h
  exact ⟨a, h2.symm, h1⟩
end BB
namespace PySem
open Sem (wp)
section
variable {prog : Program} {w : World} {A : Around} {E : Value → Shared → Prop} {s : Shared}
theorem bb_tupNext {cur tp : Addr} {i : Nat} {items : Array Value} {x : Value} {Q : Value → Shared → Prop} (g : s.heap.IsTupleIter cur tp i) (gt : s.heap.IsTuple tp items) (hx : items[i]? = some x)
    (fin : ∀ h', h'.IsTupleIter cur tp (i + 1) → Heap.SameBut cur s.heap h' → Q x { s with heap := h' }) : wpAny (model prog w) A (Builtin.SmallTypes.nextOf (.ref cur)) Q E s := by
  obtain ⟨ob, e1, e2, e3⟩ := id g; obtain ⟨ot, e4, _, nt, e5⟩ := gt
  unfold Builtin.SmallTypes.nextOf
  refine wpAny_bind (wpAny_callSpecial?_slot (name := Str.ofString "__next__") g.typeIs F.slot_tuple_iterator_next (wpAny_call_entry F.slot_tuple_iterator_next g.typeIs F.entry_tuple_iterator_next ?_ (F.args_tuple_iterator_next_1 _)))
  show wpAny _ _ (field (.ref cur) 0 >>= _) _ _ s; refine wpAny_bind (wpAny_field e1 e3 (x := .ref tp) rfl ?_)
  show wpAny _ _ (if (Value.ref tp == Value.none) = true then _ else _) _ _ s; rw [if_neg (show ¬ ((Value.ref tp == Value.none) = true) from Bool.false_ne_true)]
  show wpAny _ _ (field (.ref cur) 1 >>= _) _ _ s; refine wpAny_bind (wpAny_field e1 e3 (x := .int i 0) rfl ?_)
  show wpAny _ _ (seqItems? (.ref tp) >>= _) _ _ s; refine wpAny_bind (wpAny_seqItems e4 e5 ?_)
  simp only [Int.toNat_natCast, hx]
  refine wpAny_bind (wpAny_setField e1 e3 (by simp) (wpAny_pure ⟨x, rfl, wpAny_pure (fin _ ?_ (Heap.SameBut.update ..))⟩))
  exact ⟨_, Heap.get?_update_self _ e1 (Obj.isFreed_of_fields (Obj.data_mapFields e3 _)), (Obj.cls_mapFields ..).trans e2, by rw [Obj.data_mapFields e3]; simp [rawInt]⟩
theorem bb_tupEnd {cur tp : Addr} {i : Nat} {items : Array Value} {Q : Value → Shared → Prop} (calm : A.handled = none) (g : s.heap.IsTupleIter cur tp i) (gt : s.heap.IsTuple tp items) (hx : items[i]? = none)
    (fin : ∀ h' e, Heap.ExtBut cur s.heap h' → (∃ o, h'.get? e = some o ∧ o.cls = .type "StopIteration") → E (.ref e) { s with heap := h' }) : wpAny (model prog w) A (Builtin.SmallTypes.nextOf (.ref cur)) Q E s := by
  obtain ⟨ob, e1, e2, e3⟩ := id g; obtain ⟨ot, e4, _, nt, e5⟩ := gt
  unfold Builtin.SmallTypes.nextOf
  refine wpAny_bind (wpAny_callSpecial?_slot (name := Str.ofString "__next__") g.typeIs F.slot_tuple_iterator_next (wpAny_call_entry F.slot_tuple_iterator_next g.typeIs F.entry_tuple_iterator_next ?_ (F.args_tuple_iterator_next_1 _)))
  show wpAny _ _ (field (.ref cur) 0 >>= _) _ _ s; refine wpAny_bind (wpAny_field e1 e3 (x := .ref tp) rfl ?_)
  show wpAny _ _ (if (Value.ref tp == Value.none) = true then _ else _) _ _ s; rw [if_neg (show ¬ ((Value.ref tp == Value.none) = true) from Bool.false_ne_true)]
  show wpAny _ _ (field (.ref cur) 1 >>= _) _ _ s; refine wpAny_bind (wpAny_field e1 e3 (x := .int i 0) rfl ?_)
  show wpAny _ _ (seqItems? (.ref tp) >>= _) _ _ s; refine wpAny_bind (wpAny_seqItems e4 e5 ?_)
  simp only [Int.toNat_natCast, hx]
  refine wpAny_bind (wpAny_rule (wpAny_bind (wpAny_setField e1 e3 (by simp) ?_)))
  show wpAny _ _ (newExc (.type "StopIteration") [] >>= _) _ _ _; refine wpAny_bind ?_; simp only [newExc, newTuple]
  refine wpAny_bind (wpAny_newObj_type ?_ (by size_fits)); refine wpAny_bind (m := firstArgMember _ _) (wpAny_of_eq (a := Value.none) (by first | rfl | (simp only [firstArgMember]; rfl)) ?_); refine wpAny_newObj_type ?_ (by size_fits)
  simp only [raiseNew]; refine wpAny_bind (wpAny_handled ?_)
  first | rw [show A.in1.handled = none from calm] | rw [calm]
  refine wpAny_bind (wpAny_pure (wpAny_throw ?_)); exact fin _ _ (((Heap.SameBut.update ..).extBut.push _).push _) ⟨_, Heap.get?_push_size _ rfl, rfl⟩
end
section
variable {prog : Program} {w : World} {A : Around} {E : Value → Shared → Prop} {s : Shared}
end
end PySem
namespace L2
open PySem PySem.Spec PyProof.Rows
theorem Inv.turnedL {X : Cx} {pins : List (Addr × Obj)} {σ : St} {H : Hp} {s : Shared} {h' : Heap} {t' : Nat} {fp : List Addr} (I : Inv X pins σ H s) (k : ∀ b o, b ∉ fp → s.heap.get? b = some o → h'.get? b = some o) (hf : ∀ b ∈ fp, FpOk X pins H b) :
    Inv X pins σ H { s with heap := h', toks := t' } := by
  have nit : ∀ b u, H b = some u → b ∉ fp := fun b u e z => by rw [(hf b z).1] at e; cases e
  refine I.step (g' := s.gens) (d' := s.drawn) (ch := fp) (fun b hb => ?_) (fun b o _ _ hc e _ => k b o hc e) (fun b o _ _ hc e _ => ⟨o.slots, k b o hc e⟩) (fun _ _ _ _ n => n)
    (fun b o hc e => ⟨o, k b o hc e⟩) (fun _ _ e => e) (fun _ _ _ e => e) (fun b ps e => ⟨#[], by rw [e]; simp⟩) (fun m hm => ?_) (fun b u e => ?_) I.bare
  · obtain ⟨f0, f1, f2, f3, f4, f5⟩ := hf b hb
    exact ⟨f3, f1, f4, f5⟩
  · obtain ⟨o, es, ep, ho, r⟩ := hm
    exact ⟨o, es, ep, k _ o (fun z => (hf _ z).2.1 rfl) ho, r⟩
  · refine (I.hok b u e).stay (fun c v hc q => k c v ?_ q) (fun _ q => q) fun _ _ q => q
    rcases hc with z | z
    · rw [z]; exact nit b u e
    · exact nit c _ z
section
variable {X : Cx} {e : Expr} {te : TE} {p2 pos2 : Pos}
inductive IrCatA (K : PySem.W.Frag) (x : V) (y : V) (H : Hp) (Q : VK) : Prop
  | mk (a : _) (b : _) (xs : _) (ys : _) (zz0 : x = .ref a) (zz1 : y = .ref b) (zz2 : SqT K H a xs) (zz3 : SqT K H b ys) (zz4 : xs.length + ys.length ≤ sizeLine) (zz5 : (xs = [] → Q (.ref b) H)) (zz6 : (xs ≠ [] → ys = [] → Q (.ref a) H)) (zz7 : (xs ≠ [] → ys ≠ [] → ∀ p, H p = none → Q (.ref p) (upd H p (.tup (xs ++ ys))))) : IrCatA K x y H Q
def rCatA (K : PySem.W.Frag) : R2 := IrCatA K
theorem op_catA : OpR X (binaryOp .Add) (rCatA X.K) := by
  intro pins s σ H x y v u Q I rx ry h
  obtain ⟨a, b, xs, ys, e1, e2, ha, hb, hz, q0, q1, q2⟩ := h
  by_cases hx : xs = []
  · subst e1 e2
    cases rx
    cases ry
    obtain ⟨its, r1, p1, _⟩ := I.tuple ha
    obtain ⟨its2, r2, p2, _⟩ := I.tuple hb
    have hi : its = [] := r1.nil_iff.mpr hx
    obtain ⟨⟨cls, dd, data, sl⟩, ho, hc, n, hd⟩ := p1
    obtain ⟨⟨cls2, dd2, data2, sl2⟩, ho2, hc2, n2, hd2⟩ := p2
    simp only at hc hd hc2 hd2
    subst hc hd hc2 hd2
    exact concat_meets ⟨_, ho, rfl⟩ ⟨_, ho2, rfl⟩ noFill_tuple_add seq_tuple_add PySem.F.slot_tuple_add PySem.F.entry_tuple_add (PySem.F.args_tuple_add_2 _ _) (tuple_addW0 a b its.toArray its2.toArray n n2 dd dd2 sl sl2 (by simp [hi])) ⟨ho, ho2, ⟨.ref b, H, I, rfl, q0 hx⟩⟩
  · exact op_catT pins s σ H x y v u Q I rx ry ⟨a, b, xs, ys, e1, e2, ha, hb, hx, hz, q1 hx, q2 hx⟩
end
end L2
namespace PySem
open Sem (wp)
abbrev tzH1 (h : Heap) (l1 : Addr) : Heap := h.push { cls := .type "tuple_iterator", data := .fields #[.ref l1, .int 0 0] }
abbrev tzH2 (h : Heap) (l1 l2 : Addr) : Heap := (tzH1 h l1).push { cls := .type "tuple_iterator", data := .fields #[.ref l2, .int 0 0] }
abbrev tzH3 (h : Heap) (l1 l2 : Addr) : Heap := (tzH2 h l1 l2).push { cls := .type "tuple", data := .seq #[.ref h.objs.size, .ref (tzH1 h l1).objs.size] }
abbrev tzH4 (h : Heap) (l1 l2 : Addr) : Heap := (tzH3 h l1 l2).push { cls := .type "tuple", data := .seq #[.none, .none] }
abbrev tzH5 (h : Heap) (l1 l2 : Addr) : Heap := (tzH4 h l1 l2).push { cls := .type "zip", data := .fields #[.none, .bool false, .bool false, .ref (tzH2 h l1 l2).objs.size, .ref (tzH3 h l1 l2).objs.size] }
theorem IsTuple.push' {h : Heap} {l : Addr} {xs : Array Value} (x : h.IsTuple l xs) (o : Obj) : (h.push o).IsTuple l xs := let ⟨ob, e, r⟩ := x; ⟨ob, Heap.get?_push_of_some _ e, r⟩
theorem bb_meets_zip (l1 l2 : Addr) (xs ys : Array Value) :
    Meets (Builtin.«zip.__new__» ⟨[.type "zip", .ref l1, .ref l2], []⟩) (fun _ R s => s.heap.IsTuple l1 xs ∧ s.heap.IsTuple l2 ys ∧
      R (.ok (.ret (.ref (tzH4 s.heap l1 l2).objs.size))) { s with heap := tzH5 s.heap l1 l2 }) :=
  .of_wp fun prog w A R s h => by
    obtain ⟨hp, g, d, tk, os⟩ := s; obtain ⟨hl1, hl2, h⟩ := h
    have hsub := sub_zip
    have hL1 : Heap.IsTuple (Shared.heap ⟨hp, g, d, tk, os⟩) l1 xs := hl1
    have hL2 : Heap.IsTuple (Shared.heap ⟨hp.push { cls := .type "tuple_iterator", data := .fields #[.ref l1, .int 0 0] }, g, d, tk, os⟩) l2 ys := IsTuple.push' hl2 _
    wp_walk using wpAny_pyIter_tuple hL1, wpAny_pyIter_tuple hL2
    exact ⟨_, rfl, h⟩
section
variable {prog : Program} {w : World} {A : Around} {E : Value → Shared → Prop} {s : Shared}
theorem bb_call_zip {l1 l2 : Addr} {xs ys : Array Value} {Q : Value → Shared → Prop} (hl1 : s.heap.IsTuple l1 xs) (hl2 : s.heap.IsTuple l2 ys)
    (h : ∀ h', IsZip h' (s.heap.objs.size + 4) (s.heap.objs.size + 2) (s.heap.objs.size + 3) .none → IsPair h' (s.heap.objs.size + 2) (.ref s.heap.objs.size) (.ref (s.heap.objs.size + 1)) →
      IsPair h' (s.heap.objs.size + 3) .none .none → h'.IsTupleIter s.heap.objs.size l1 0 → h'.IsTupleIter (s.heap.objs.size + 1) l2 0 → h'.objs.size = s.heap.objs.size + 5 →
      (∀ c o, s.heap.get? c = some o → h'.get? c = some o) → Q (.ref (s.heap.objs.size + 4)) { s with heap := h' }) :
    wpAny (model prog w) A (call (.type "zip") [.ref l1, .ref l2]) Q E s := by
  refine callType_new F.called_zip (by decide) (F.typeCall_zip_2 _ _) (F.newCall_zip_2 _ _) (fun obj => F.args_object_init_3 obj _ _) F.entry_zip_new
    (bb_meets_zip l1 l2 xs ys) ⟨hl1, hl2, ?_⟩
  have z1 : (tzH1 s.heap l1).objs.size = s.heap.objs.size + 1 := Heap.size_push ..
  have z2 : (tzH2 s.heap l1 l2).objs.size = s.heap.objs.size + 2 := by rw [Heap.size_push, z1]
  have z3 : (tzH3 s.heap l1 l2).objs.size = s.heap.objs.size + 3 := by rw [Heap.size_push, z2]
  have z4 : (tzH4 s.heap l1 l2).objs.size = s.heap.objs.size + 4 := by rw [Heap.size_push, z3]
  have z5 : (tzH5 s.heap l1 l2).objs.size = s.heap.objs.size + 5 := by rw [Heap.size_push, z4]
  have g5 : (tzH5 s.heap l1 l2).get? (tzH4 s.heap l1 l2).objs.size = some _ := Heap.get?_push_size _ rfl
  have g4 : (tzH5 s.heap l1 l2).get? (tzH3 s.heap l1 l2).objs.size = some _ := Heap.get?_push_of_some _ (Heap.get?_push_size _ rfl)
  have g3 : (tzH5 s.heap l1 l2).get? (tzH2 s.heap l1 l2).objs.size = some _ := Heap.get?_push_of_some _ (Heap.get?_push_of_some _ (Heap.get?_push_size _ rfl))
  have g2 : (tzH5 s.heap l1 l2).get? (tzH1 s.heap l1).objs.size = some _ := Heap.get?_push_of_some _ (Heap.get?_push_of_some _ (Heap.get?_push_of_some _ (Heap.get?_push_size _ rfl)))
  have g1 : (tzH5 s.heap l1 l2).get? s.heap.objs.size = some _ := Heap.get?_push_of_some _ (Heap.get?_push_of_some _ (Heap.get?_push_of_some _ (Heap.get?_push_of_some _ (Heap.get?_push_size _ rfl))))
  show _ ∧ _
  rw [z2, z3, z4] at g5
  rw [z1, z2] at g3
  rw [z3] at g4
  rw [z1] at g2
  rw [z4]
  exact ⟨⟨_, g5, rfl⟩, h _ g5 g3 g4 ⟨_, g1, rfl, rfl⟩ ⟨_, g2, rfl, rfl⟩ z5 fun c o x =>
    Heap.get?_push_of_some _ (Heap.get?_push_of_some _ (Heap.get?_push_of_some _ (Heap.get?_push_of_some _ (Heap.get?_push_of_some _ x))))⟩
structure ZSt (xs ys : Array Value) (z TI TO i1 i2 l1 l2 : Addr) (k : Nat) (h : Heap) : Prop where
  ap : ZipApart z TI TO i1 i2 l1 l2
  zip : IsZip h z TI TO .none ∨ ∃ (T : Addr) (b : Bool) (x y : Value), h.get? z = some { cls := .type "zip", data := .fields #[rawInt T, .bool b, .bool false, .ref TI, .ref TO] } ∧ IsPair h T x y ∧ T ≠ TO
  hTI : IsPair h TI (.ref i1) (.ref i2)
  hTO : ∃ a b, IsPair h TO a b
  h1 : h.IsTupleIter i1 l1 k
  h2 : h.IsTupleIter i2 l2 k
  t1 : h.IsTuple l1 xs
  t2 : h.IsTuple l2 ys
theorem ZSt.typeIs {xs ys : Array Value} {z TI TO i1 i2 l1 l2 : Addr} {k : Nat} (x : ZSt xs ys z TI TO i1 i2 l1 l2 k s.heap) : s.TypeIs (.ref z) "zip" := by
  rcases x.zip with e | ⟨T, b, u, v, e, _⟩
  · exact ⟨_, e, rfl⟩
  · exact ⟨_, e, rfl⟩
theorem IsTuple.but {h h' : Heap} {c l : Addr} {xs : Array Value} (x : h.IsTuple l xs) (e : Heap.ExtBut c h h') (n : l ≠ c) : h'.IsTuple l xs := let ⟨ob, q, r⟩ := x; ⟨ob, e _ _ n q, r⟩
theorem IsTupleIter.but {h h' : Heap} {c i l : Addr} {k : Nat} (x : h.IsTupleIter i l k) (e : Heap.ExtBut c h h') (n : i ≠ c) : h'.IsTupleIter i l k := let ⟨ob, q, r⟩ := x; ⟨ob, e _ _ n q, r⟩
end
end PySem
namespace PySem
open Sem (wp)
section
variable {prog : Program} {w : World} {A : Around} {E : Value → Shared → Prop} {s : Shared}
theorem bb_zip_itemA {z TI TO i1 i2 l1 l2 : Addr} {k : Nat} {xs ys : Array Value} {x y a b : Value} {Q : Value → Shared → Prop} (D : ZipApart z TI TO i1 i2 l1 l2)
    (hz : IsZip s.heap z TI TO .none) (hTI : IsPair s.heap TI (.ref i1) (.ref i2)) (hTO : IsPair s.heap TO a b)
    (h1 : s.heap.IsTupleIter i1 l1 k) (h2 : s.heap.IsTupleIter i2 l2 k) (hl1 : s.heap.IsTuple l1 xs) (hl2 : s.heap.IsTuple l2 ys) (hx : xs[k]? = some x) (hy : ys[k]? = some y)
    (hQ : ∀ h', IsZip h' z TI TO (rawInt s.heap.objs.size) → IsPair h' TO x y → h'.IsTupleIter i1 l1 (k + 1) → h'.IsTupleIter i2 l2 (k + 1) → IsPair h' s.heap.objs.size x y → h'.objs.size = s.heap.objs.size + 1 →
      (∀ c o, c ≠ z → c ≠ TO → c ≠ i1 → c ≠ i2 → s.heap.get? c = some o → h'.get? c = some o) → Q (.ref s.heap.objs.size) { s with heap := h' }) :
    wpAny (model prog w) A (Builtin.«zip.__next__» ⟨[.ref z], []⟩) (fun fin s' => ∃ v, fin = .done (.ret v) ∧ Q v s') E s := by
  show wpAny _ _ (field (.ref z) 2 >>= _) _ _ _
  refine wpAny_bind (wpAny_field hz rfl (x := .bool false) rfl ?_)
  show wpAny _ _ (field (.ref z) 3 >>= _) _ _ _
  refine wpAny_bind (wpAny_field hz rfl (x := .ref TI) rfl ?_)
  refine wpAny_bind (wpAny_seqItems hTI rfl ?_)
  show wpAny _ _ (Builtin.SmallTypes.ownedTupleIsFree (.ref z) >>= _) _ _ _
  refine wpAny_bind ?_
  unfold Builtin.SmallTypes.ownedTupleIsFree
  refine wpAny_bind (wpAny_field hz rfl (x := .none) rfl (wpAny_pure ?_))
  simp only [if_true]
  refine wpAny_bind (wpAny_rule ?_)
  refine wpAny_bind (wpAny_field hz rfl (x := .ref TO) rfl ?_)
  refine wpAny_bind (wpAny_setField_rec hz (by simp) fun h₁ hz₁ hs₁ => ?_)
  replace hz₁ : IsZip h₁ z TI TO .ellipsis := hz₁
  refine wpAny_bind ?_
  simp only [List.zipIdx_cons, List.zipIdx_nil, List.forIn_cons, List.forIn_nil]
  refine wpAny_bind (wpAny_bind (wpAny_onRaise ?_))
  show wpAny _ _ (Builtin.SmallTypes.nextOf (.ref i1) >>= _) _ _ _
  refine wpAny_bind (bb_tupNext (IsTupleIter.but h1 hs₁.extBut D.i1z) (IsTuple.but hl1 hs₁.extBut D.l1z) hx fun h₂ h1₂ hs₂ => wpAny_pure ?_)
  have hTO₂ : IsPair h₂ TO a b := hs₂.extBut _ _ D.TOi1 (hs₁.extBut _ _ D.TOz hTO)
  refine wpAny_bind (wpAny_seqItems hTO₂ rfl ?_)
  refine wpAny_bind (wpAny_updateSeq_pair hTO₂ fun h₃ hTO₃ hs₃ => ?_)
  replace hTO₃ : IsPair h₃ TO x b := hTO₃
  refine wpAny_bind (wpAny_letGo (wpAny_pure ?_))
  refine wpAny_bind (wpAny_bind (wpAny_onRaise ?_))
  show wpAny _ _ (Builtin.SmallTypes.nextOf (.ref i2) >>= _) _ _ _
  refine wpAny_bind (bb_tupNext (IsTupleIter.but (IsTupleIter.but (IsTupleIter.but h2 hs₁.extBut D.i2z) hs₂.extBut D.i12.symm) hs₃.extBut D.TOi2.symm)
    (IsTuple.but (IsTuple.but (IsTuple.but hl2 hs₁.extBut D.l2z) hs₂.extBut D.l2i1) hs₃.extBut D.l2TO) hy fun h₄ h2₄ hs₄ => wpAny_pure ?_)
  have hTO₄ : IsPair h₄ TO x b := hs₄.extBut _ _ D.TOi2 hTO₃
  refine wpAny_bind (wpAny_seqItems hTO₄ rfl ?_)
  refine wpAny_bind (wpAny_updateSeq_pair hTO₄ fun h₅ hTO₅ hs₅ => ?_)
  replace hTO₅ : IsPair h₅ TO x y := hTO₅
  refine wpAny_bind (wpAny_letGo (wpAny_pure (wpAny_pure ?_)))
  refine wpAny_bind (wpAny_seqItems hTO₅ rfl ?_)
  refine wpAny_bind (wpAny_newTuple ?_)
  have hsz : h₅.objs.size = s.heap.objs.size := by rw [hs₅.1, hs₄.1, hs₃.1, hs₂.1, hs₁.1]
  have hz₅ : IsZip h₅ z TI TO .ellipsis := hs₅.extBut _ _ D.TOz.symm (hs₄.extBut _ _ D.i2z.symm (hs₃.extBut _ _ D.TOz.symm (hs₂.extBut _ _ D.i1z.symm hz₁)))
  have hk₅ : ∀ c o, c ≠ z → c ≠ TO → c ≠ i1 → c ≠ i2 → s.heap.get? c = some o → h₅.get? c = some o := fun c o c1 c2 c3 c4 e =>
    hs₅.extBut _ _ c2 (hs₄.extBut _ _ c4 (hs₃.extBut _ _ c2 (hs₂.extBut _ _ c3 (hs₁.extBut _ _ c1 e))))
  have h1₅ : h₅.IsTupleIter i1 l1 (k + 1) := IsTupleIter.but (IsTupleIter.but (IsTupleIter.but h1₂ hs₃.extBut D.TOi1.symm) hs₄.extBut D.i12) hs₅.extBut D.TOi1.symm
  have h2₅ : h₅.IsTupleIter i2 l2 (k + 1) := IsTupleIter.but h2₄ hs₅.extBut D.TOi2.symm
  have hzlt : z < h₅.objs.size := Heap.lt_size hz₅
  show wpAny _ _ (Builtin.SmallTypes.ownedTupleHandOut (.ref z) (.ref h₅.objs.size) >>= _) _ _ _
  refine wpAny_bind ?_
  unfold Builtin.SmallTypes.ownedTupleHandOut
  have hz₆ : IsZip (h₅.push { cls := .type "tuple", data := .seq #[x, y] }) z TI TO .ellipsis := Heap.get?_push_of_some _ hz₅
  refine wpAny_bind (wpAny_setField_rec hz₆ (by simp) fun h₇ hz₇ hs₇ => ?_)
  replace hz₇ : IsZip h₇ z TI TO (rawInt h₅.objs.size) := hz₇
  refine wpAny_setField_rec hz₇ (by simp) fun h₈ hz₈ hs₈ => ?_
  replace hz₈ : IsZip h₈ z TI TO (rawInt h₅.objs.size) := hz₈
  have up : ∀ c o, c ≠ z → h₅.get? c = some o → h₈.get? c = some o := fun c o c1 e => hs₈.extBut _ _ c1 (hs₇.extBut _ _ c1 (Heap.get?_push_of_some _ e))
  have hT₈ : IsPair h₈ h₅.objs.size x y := hs₈.extBut _ _ (Nat.ne_of_gt hzlt) (hs₇.extBut _ _ (Nat.ne_of_gt hzlt) (Heap.get?_push_size _ rfl))
  have hz8 : h₈.objs.size = h₅.objs.size + 1 := by rw [hs₈.1, hs₇.1, Heap.size_push]
  rw [hsz] at hz₈ hT₈ hz8
  refine wpAny_pure ⟨_, rfl, ?_⟩
  show Q (.ref h₅.objs.size) _
  rw [hsz]
  refine hQ h₈ hz₈ (up _ _ D.TOz hTO₅) ?_ ?_ hT₈ hz8 fun c o c1 c2 c3 c4 e => up c o c1 (hk₅ c o c1 c2 c3 c4 e)
  · obtain ⟨o, e, r⟩ := h1₅; exact ⟨o, up _ o D.i1z e, r⟩
  · obtain ⟨o, e, r⟩ := h2₅; exact ⟨o, up _ o D.i2z e, r⟩
theorem bb_loadIfAlive {a : Addr} {o : Obj} {Q : Option Obj → Shared → Prop} (hQ : ∀ u, some o = some u → Q (some u) s) (h : s.heap.get? a = some o) : wpAny (model prog w) A (loadIfAlive a) Q E s := by
  intro Γ p hΓ
  show Sem.wp _ _ (.loadIfAlive a .pure) _ _ _ _
  rw [Sem.wp_loadIfAlive, h]
  exact hQ o rfl
theorem bb_notfree {z T : Addr} {b : Bool} {f2 TI TO u v : Value} (hz : s.heap.get? z = some { cls := .type "zip", data := .fields #[rawInt T, .bool b, f2, TI, TO] }) (hT : IsPair s.heap T u v) :
    wpAny (model prog w) A (Builtin.SmallTypes.ownedTupleIsFree (.ref z)) (fun a s1 => a = false ∧ ∃ h₁, s1 = { s with heap := h₁ } ∧ h₁.get? z = some { cls := .type "zip", data := .fields #[rawInt T, .bool true, f2, TI, TO] } ∧ Heap.SameBut z s.heap h₁) E s := by
  unfold Builtin.SmallTypes.ownedTupleIsFree
  refine wpAny_bind (wpAny_field hz rfl (x := rawInt T) rfl ?_)
  show wpAny _ _ (loadIfAlive (T : Int).toNat >>= _) _ _ _
  rw [Int.toNat_natCast]
  refine wpAny_bind (bb_loadIfAlive (fun o (e : some _ = some o) => ?_) hT)
  cases e
  show wpAny _ _ (if (some _ : Option Obj).isNone = true then _ else _) _ _ _
  rw [if_neg (show ¬ ((some _ : Option Obj).isNone = true) from Bool.false_ne_true)]
  refine wpAny_bind (wpAny_field hz rfl (x := .bool b) rfl ?_)
  cases b with
  | true => exact wpAny_pure ⟨rfl, s.heap, rfl, hz, rfl, fun _ _ => rfl⟩
  | false => exact wpAny_bind (wpAny_setField_rec hz (by simp) fun h₁ hz₁ hs₁ => wpAny_pure ⟨rfl, h₁, rfl, hz₁, hs₁⟩)
theorem bb_zip_end {z TI TO i1 i2 l1 l2 : Addr} {k : Nat} {xs ys : Array Value} {Q : Fin → Shared → Prop} (hh : A.handled = none)
    (S : ZSt xs ys z TI TO i1 i2 l1 l2 k s.heap) (hend : xs[k]? = none ∨ ys[k]? = none)
    (hE : ∀ h' e, (∀ c o, c ≠ z → c ≠ TO → c ≠ i1 → c ≠ i2 → s.heap.get? c = some o → h'.get? c = some o) → (∃ o, h'.get? e = some o ∧ o.cls = .type "StopIteration") → E (.ref e) { s with heap := h' }) :
    wpAny (model prog w) A (Builtin.«zip.__next__» ⟨[.ref z], []⟩) Q E s := by
  obtain ⟨D, hz, hTI, ⟨a, b, hTO⟩, h1, h2, hl1, hl2⟩ := S
  rcases hz with hz | ⟨T, bb, u, v, hz, hT, hTT⟩
  · show wpAny _ _ (field (.ref z) 2 >>= _) _ _ _
    refine wpAny_bind (wpAny_field hz rfl (x := .bool false) rfl ?_)
    show wpAny _ _ (field (.ref z) 3 >>= _) _ _ _
    refine wpAny_bind (wpAny_field hz rfl (x := .ref TI) rfl ?_)
    refine wpAny_bind (wpAny_seqItems hTI rfl ?_)
    show wpAny _ _ (Builtin.SmallTypes.ownedTupleIsFree (.ref z) >>= _) _ _ _
    refine wpAny_bind ?_
    unfold Builtin.SmallTypes.ownedTupleIsFree
    refine wpAny_bind (wpAny_field hz rfl (x := .none) rfl (wpAny_pure ?_))
    simp only [if_true]
    refine wpAny_bind (wpAny_rule ?_)
    refine wpAny_bind (wpAny_field hz rfl (x := .ref TO) rfl ?_)
    refine wpAny_bind (wpAny_setField_rec hz (by simp) fun h₁ hz₁ hs₁ => ?_)
    replace hz₁ : IsZip h₁ z TI TO .ellipsis := hz₁
    refine wpAny_bind ?_
    simp only [List.zipIdx_cons, List.zipIdx_nil, List.forIn_cons, List.forIn_nil]
    refine wpAny_bind (wpAny_bind (wpAny_onRaise ?_))
    show wpAny _ _ (Builtin.SmallTypes.nextOf (.ref i1) >>= _) _ _ _
    cases hx : xs[k]? with
    | none =>
      refine wpAny_bind (bb_tupEnd hh (IsTupleIter.but h1 hs₁.extBut D.i1z) (IsTuple.but hl1 hs₁.extBut D.l1z) hx fun h₂ e hs₂ he => ?_)
      obtain ⟨oe, hoe, hce⟩ := he
      have hz₂ : IsZip h₂ z TI TO .ellipsis := hs₂ _ _ D.i1z.symm hz₁
      have hez : e ≠ z := fun x => by subst x; rw [hz₂] at hoe; cases hoe; simp at hce
      refine wpAny_setField_rec hz₂ (by simp) fun h₃ _ hs₃ => hE h₃ e (fun c o c1 _ c3 _ x => hs₃.extBut _ _ c1 (hs₂ _ _ c3 (hs₁.extBut _ _ c1 x))) ⟨oe, hs₃.extBut _ _ hez hoe, hce⟩
    | some x =>
      have hy : ys[k]? = none := by rcases hend with h | h; rw [hx] at h; cases h; exact h
      refine wpAny_bind (bb_tupNext (IsTupleIter.but h1 hs₁.extBut D.i1z) (IsTuple.but hl1 hs₁.extBut D.l1z) hx fun h₂ h1₂ hs₂ => wpAny_pure ?_)
      have hTO₂ : IsPair h₂ TO a b := hs₂.extBut _ _ D.TOi1 (hs₁.extBut _ _ D.TOz hTO)
      refine wpAny_bind (wpAny_seqItems hTO₂ rfl ?_)
      refine wpAny_bind (wpAny_updateSeq_pair hTO₂ fun h₃ hTO₃ hs₃ => ?_)
      refine wpAny_bind (wpAny_letGo (wpAny_pure ?_))
      refine wpAny_bind (wpAny_bind (wpAny_onRaise ?_))
      show wpAny _ _ (Builtin.SmallTypes.nextOf (.ref i2) >>= _) _ _ _
      refine wpAny_bind (bb_tupEnd hh (IsTupleIter.but (IsTupleIter.but (IsTupleIter.but h2 hs₁.extBut D.i2z) hs₂.extBut D.i12.symm) hs₃.extBut D.TOi2.symm)
        (IsTuple.but (IsTuple.but (IsTuple.but hl2 hs₁.extBut D.l2z) hs₂.extBut D.l2i1) hs₃.extBut D.l2TO) hy fun h₄ e hs₄ he => ?_)
      obtain ⟨oe, hoe, hce⟩ := he
      have hz₄ : IsZip h₄ z TI TO .ellipsis := hs₄ _ _ D.i2z.symm (hs₃.extBut _ _ D.TOz.symm (hs₂.extBut _ _ D.i1z.symm hz₁))
      have hez : e ≠ z := fun x => by subst x; rw [hz₄] at hoe; cases hoe; simp at hce
      refine wpAny_setField_rec hz₄ (by simp) fun h₅ _ hs₅ => hE h₅ e (fun c o c1 c2 c3 c4 x => hs₅.extBut _ _ c1 (hs₄ _ _ c4 (hs₃.extBut _ _ c2 (hs₂.extBut _ _ c3 (hs₁.extBut _ _ c1 x))))) ⟨oe, hs₅.extBut _ _ hez hoe, hce⟩
  · show wpAny _ _ (field (.ref z) 2 >>= _) _ _ _
    refine wpAny_bind (wpAny_field hz rfl (x := .bool false) rfl ?_)
    show wpAny _ _ (field (.ref z) 3 >>= _) _ _ _
    refine wpAny_bind (wpAny_field hz rfl (x := .ref TI) rfl ?_)
    refine wpAny_bind (wpAny_seqItems hTI rfl ?_)
    show wpAny _ _ (Builtin.SmallTypes.ownedTupleIsFree (.ref z) >>= _) _ _ _
    refine wpAny_bind (wpAny_mono (bb_notfree hz hT) (fun a s1 ⟨e1, h₁, e2, hz₁, hs₁⟩ => ?_) fun _ _ x => x)
    subst e1 e2
    simp only [Bool.false_eq_true, if_false]
    rw [← Array.forIn_toList]
    refine wpAny_bind ?_
    simp only [List.forIn_cons, List.forIn_nil]
    refine wpAny_bind (wpAny_bind (wpAny_holding ?_))
    show wpAny _ _ (Builtin.SmallTypes.nextOf (.ref i1) >>= _) _ _ _
    cases hx : xs[k]? with
    | none =>
      refine wpAny_bind (bb_tupEnd hh (IsTupleIter.but h1 hs₁.extBut D.i1z) (IsTuple.but hl1 hs₁.extBut D.l1z) hx fun h₂ e hs₂ he => ?_)
      exact hE h₂ e (fun c o c1 _ c3 _ x => hs₂ _ _ c3 (hs₁.extBut _ _ c1 x)) he
    | some x =>
      have hy : ys[k]? = none := by rcases hend with h | h; rw [hx] at h; cases h; exact h
      refine wpAny_bind (bb_tupNext (IsTupleIter.but h1 hs₁.extBut D.i1z) (IsTuple.but hl1 hs₁.extBut D.l1z) hx fun h₂ h1₂ hs₂ => wpAny_pure (wpAny_pure ?_))
      refine wpAny_bind (wpAny_bind (wpAny_holding ?_))
      show wpAny _ _ (Builtin.SmallTypes.nextOf (.ref i2) >>= _) _ _ _
      refine wpAny_bind (bb_tupEnd hh (IsTupleIter.but (IsTupleIter.but h2 hs₁.extBut D.i2z) hs₂.extBut D.i12.symm) (IsTuple.but (IsTuple.but hl2 hs₁.extBut D.l2z) hs₂.extBut D.l2i1) hy fun h₄ e hs₄ he => ?_)
      exact hE h₄ e (fun c o c1 _ c3 c4 x => hs₄ _ _ c4 (hs₂.extBut _ _ c3 (hs₁.extBut _ _ c1 x))) he
theorem bb_zip_done {z TI TO i1 i2 l1 l2 : Addr} {k : Nat} {xs ys : Array Value} {Q : Option Value → Shared → Prop} (hh : A.handled = none) (S : ZSt xs ys z TI TO i1 i2 l1 l2 k s.heap) (hend : xs[k]? = none ∨ ys[k]? = none)
    (hQ : ∀ h', (∀ c o, c ∉ [z, TO, i1, i2] → s.heap.get? c = some o → h'.get? c = some o) → Q none { s with heap := h' }) : wpAny (model prog w) A (pyNext (.ref z)) Q E s := by
  have hT := S.typeIs
  unfold pyNext
  refine wpAny_bind (wpAny_attempt (wpAny_callSpecial?_slot (name := Str.ofString "__next__") hT F.slot_zip_next
    (wpAny_call_entry F.slot_zip_next hT F.entry_zip_next (bb_zip_end hh S hend fun h' e hk he => ?_) (F.args_zip_next_1 _))))
  obtain ⟨o, ho, hc⟩ := he
  refine wpAny_bind (wpAny_isInstance (T := "StopIteration") (b := true) ⟨o, ho, hc⟩ isSubtype_stop ?_)
  exact wpAny_pure (hQ _ fun c o hc => hk c o (fun q => hc (by simp [q])) (fun q => hc (by simp [q])) (fun q => hc (by simp [q])) (fun q => hc (by simp [q])))
end
end PySem
namespace PySem
open Sem (wp)
namespace F
end F
section
variable {prog : Program} {w : World} {A : Around} {R : Result → Shared → Prop}
end
section
variable {prog : Program} {w : World} {A : Around} {E : Value → Shared → Prop} {s : Shared}
end
end PySem
namespace L2
open PySem PySem.Spec PyProof.Rows
section
variable {X : Cx} {e1 e2 : Expr} {t : TA} {p p2 pos pos2 : Pos}
end
end L2
namespace L2
open PySem PySem.Spec PyProof.Rows
section
variable {κ : Type} [DecidableEq κ]
end
section
variable {P : Program} {w : World} {H : Hp} {h : Heap} {a : Addr}
end
section
variable {X : Cx} {pins : List (Addr × Obj)} {σ : St} {H : Hp} {s : Shared} {a : Addr} {y v : V} {u r : Value} {o : Option V} {A : Around} {E : Value → Shared → Prop}
end
section
variable {X : Cx} {pins : List (Addr × Obj)} {σ : St} {H : Hp} {s : Shared} {a : Addr} {kvs : List (Key × V)} {k : Key} {u : Value} {A : Around} {E : Value → Shared → Prop}
end
section
variable {X : Cx} {o i e value : Expr} {pos pos' tpos : Pos} {td ty tv : TE}
end
section
variable {X : Cx} {pos : Pos}
end
section
variable {X : Cx} {pins : List (Addr × Obj)} {σ : St} {H : Hp} {s : Shared} {a : Addr} {y d : V} {u r : Value} {o : Option V} {A : Around} {E : Value → Shared → Prop}
end
section
variable {X : Cx} {o e f : Expr} {apos cpos : Pos} {td ty tx : TE}
end
section
variable {X : Cx} {pins : List (Addr × Obj)} {σ : St} {H : Hp} {s : Shared} {a : Addr} {kvs : List (Key × V)} {A : Around} {E : Value → Shared → Prop}
end
section
variable {X : Cx} {pins : List (Addr × Obj)} {σ : St} {H : Hp} {s : Shared} {a : Addr} {y : V} {u : Value} {A : Around} {E : Value → Shared → Prop}
end
end L2
namespace L2
open PySem PySem.Spec PyProof.Rows
inductive IrIsi (K : PySem.W.Frag) (T : String) (xs : List V) (H : Hp) (Q : VK) : Prop
  | mk (x : _) (b : _) (t : _) (zz0 : xs = [x, .ty T]) (zz1 : TyOf K H x t) (zz2 : PySem.W.kitOne K t (.type T) = some b) (zz3 : Q (.bl b) H) : IrIsi K T xs H Q
def rIsi (K : PySem.W.Frag) (T : String) : List V → Hp → VK → Prop := IrIsi K T
theorem call_isiX {X : Cx} {T : String} : CallR X (.builtin "isinstance") (rIsi X.K T) := by
  intro pins s σ H xs us Q I r h
  obtain ⟨x, b, t, e, ty, k, q⟩ := h
  exact call_isi (T := T) (b := b) (t := t) pins s σ H xs us Q I r ⟨x, e, ty, k, q⟩
variable {K : PySem.W.Frag}
theorem isi_tt : PySem.W.kitOne K (.type "tuple") (.type "tuple") = some true := rfl
theorem isi_ss : PySem.W.kitOne K (.type "str") (.type "str") = some true := rfl
theorem isi_ii : PySem.W.kitOne K (.type "int") (.type "int") = some true := rfl
theorem isi_ib : PySem.W.kitOne K (.type "int") (.type "bool") = some false := by with_unfolding_all rfl
end L2
namespace BB
open PySem L2
inductive Dv where
  | int (i : Int)
  | str (x : Str)
  | tup (ds : List Dv)
mutual
def Dv.deep : Dv → Nat
  | .int _ => 0
  | .str _ => 0
  | .tup ds => deeps ds + 1
def deeps : List Dv → Nat
  | [] => 0
  | d :: ds => max d.deep (deeps ds)
end
mutual
def Dv.tot : Dv → Nat
  | .int _ => 1
  | .str _ => 1
  | .tup ds => tots ds + 1
def tots : List Dv → Nat
  | [] => 0
  | d :: ds => d.tot + tots ds
end
mutual
def DAt (H : Hp) : Dv → V → Prop
  | .int i, v => v = .int i
  | .str x, v => v = .str x
  | .tup ds, v => ∃ a vs, v = .ref a ∧ H a = some (.tup vs) ∧ DAts H ds vs
def DAts (H : Hp) : List Dv → List V → Prop
  | [], vs => vs = []
  | d :: ds, vs => ∃ v r, vs = v :: r ∧ DAt H d v ∧ DAts H ds r
end
theorem DAts.nil {H : Hp} : DAts H [] [] := by rw [DAts]
theorem DAts.cons {H : Hp} {d : Dv} {ds : List Dv} {v : V} {vs : List V} (h1 : DAt H d v) (h2 : DAts H ds vs) : DAts H (d :: ds) (v :: vs) := by rw [DAts]; exact ⟨v, vs, rfl, h1, h2⟩
theorem DAts.length {H : Hp} : ∀ {ds : List Dv} {vs : List V}, DAts H ds vs → vs.length = ds.length
  | [], vs, h => by rw [DAts] at h; subst h; rfl
  | d :: ds, vs, h => by
    rw [DAts] at h
    obtain ⟨v, r, rfl, h1, h2⟩ := h
    rw [List.length_cons, List.length_cons, h2.length]
theorem DAts.at {H : Hp} : ∀ {ds : List Dv} {vs : List V} {i : Nat} {d : Dv}, DAts H ds vs → ds[i]? = some d → ∃ v, vs[i]? = some v ∧ DAt H d v
  | [], vs, i, d, h, e => by simp at e
  | d0 :: ds, vs, i, d, h, e => by
    rw [DAts] at h
    obtain ⟨v, r, rfl, h1, h2⟩ := h
    cases i with
    | zero => simp at e; subst e; exact ⟨v, rfl, h1⟩
    | succ i =>
      obtain ⟨u, g1, g2⟩ := h2.at (i := i) (by simpa using e)
      exact ⟨u, by simpa using g1, g2⟩
theorem deep_get : ∀ {ds : List Dv} {i : Nat} {d : Dv}, ds[i]? = some d → d.deep ≤ deeps ds
  | [], i, d, e => by simp at e
  | d0 :: ds, i, d, e => by
    rw [deeps]
    cases i with
    | zero => simp at e; subst e; omega
    | succ i =>
      have := deep_get (ds := ds) (i := i) (by simpa using e)
      omega
theorem tot_get : ∀ {ds : List Dv} {i : Nat} {d : Dv}, ds[i]? = some d → d.tot ≤ tots ds
  | [], i, d, e => by simp at e
  | d0 :: ds, i, d, e => by
    rw [tots]
    cases i with
    | zero => simp at e; subst e; omega
    | succ i =>
      have := tot_get (ds := ds) (i := i) (by simpa using e)
      omega
theorem Dv.tot_pos (d : Dv) : 1 ≤ d.tot := by
  cases d with
  | int i => rw [Dv.tot]; omega
  | str x => rw [Dv.tot]; omega
  | tup ds => rw [Dv.tot]; omega
mutual
def Th.dv : Th → Dv
  | .knot n ks => .tup (.str n :: dvs ks)
  | .call s k => .tup [.str q, .int s, .int k]
def dvs : List Th → List Dv
  | [] => []
  | t :: ts => t.dv :: dvs ts
end
mutual
theorem At.dv {H : Hp} : ∀ {t : Th} {a : Addr}, At H t a → DAt H t.dv (.ref a)
  | .knot n ks, a, h => by
    rw [At] at h
    obtain ⟨_, as, h1, h2⟩ := h
    rw [Th.dv, DAt]
    exact ⟨a, _, rfl, h1, .cons (by rw [DAt]) (Ats.dvs h2)⟩
  | .call s k, a, h => by
    rw [At] at h
    rw [Th.dv, DAt]
    exact ⟨a, _, rfl, h, .cons (by rw [DAt]) (.cons (by rw [DAt]) (.cons (by rw [DAt]) .nil))⟩
theorem Ats.dvs {H : Hp} : ∀ {ts : List Th} {as : List Addr}, Ats H ts as → DAts H (dvs ts) (as.map V.ref)
  | [], as, h => by rw [Ats] at h; subst h; rw [BB.dvs]; exact .nil
  | t :: ts, as, h => by
    rw [Ats] at h
    obtain ⟨a, r, rfl, h1, h2⟩ := h
    rw [BB.dvs, List.map_cons]
    exact .cons (At.dv h1) (Ats.dvs h2)
end
mutual
theorem Th.dv_deep : ∀ t : Th, t.dv.deep ≤ t.tall
  | .knot n ks => by
    have := dvs_deep ks
    rw [Th.dv, Dv.deep, deeps, Dv.deep, Th.tall]
    omega
  | .call s k => by rw [Th.dv, Th.tall]; simp [Dv.deep, deeps]
theorem dvs_deep : ∀ ts : List Th, deeps (dvs ts) ≤ talls ts
  | [] => by rw [dvs, deeps]; exact Nat.zero_le _
  | t :: ts => by
    have := t.dv_deep
    have := dvs_deep ts
    rw [dvs, deeps, talls]
    omega
end
theorem catT {K : PySem.W.Frag} {H : Hp} {a b : Addr} {xs ys : List V} {Q : VK} (ha : H a = some (.tup xs)) (hb : H b = some (.tup ys)) (hz : xs.length + ys.length ≤ 1000000) (q : ∀ p H', L2.Same H H' → H' p = some (.tup (xs ++ ys)) → Q (.ref p) H') : rCatA K (.ref a) (.ref b) H Q := by
  refine ⟨a, b, xs, ys, rfl, rfl, SqT.of ha, SqT.of hb, line_le hz, fun e => ?_, fun _ e => ?_, fun _ _ p hp => ?_⟩
  · exact q b H (.refl _) (by rw [e]; exact hb)
  · exact q a H (.refl _) (by rw [e, List.append_nil]; exact ha)
  · exact q p _ (same_new hp _) upd_same
theorem P2.reverse {α β : Type} {F : α → β → Prop} : ∀ {a : List α} {b : List β}, Paired F a b → Paired F a.reverse b.reverse
  | _, _, .nil => .nil
  | _, _, .cons r t => by
    rw [List.reverse_cons, List.reverse_cons]
    exact P2.append (P2.reverse t) (.cons r .nil)
theorem P2.snoc_inv {α β : Type} {F : α → β → Prop} {a : List α} {b : List β} {y : β} (h : Paired F a (b ++ [y])) : ∃ us x, a = us ++ [x] ∧ Paired F us b ∧ F x y := by
  have r := P2.reverse h
  rw [List.reverse_append, List.reverse_singleton, List.singleton_append] at r
  cases e : a.reverse with
  | nil => rw [e] at r; cases r
  | cons x us =>
    rw [e] at r
    cases r with
    | cons h1 h2 =>
      refine ⟨us.reverse, x, ?_, ?_, h1⟩
      · rw [← List.reverse_cons, ← e, List.reverse_reverse]
      · have := P2.reverse h2
        rw [List.reverse_reverse] at this
        exact this
end BB
namespace BB
open PySem L2
mutual
def Th.kn : Th → Nat
  | .knot _ ks => kns ks + 1
  | .call _ _ => 0
def kns : List Th → Nat
  | [] => 0
  | t :: ts => t.kn + kns ts
end
section
variable {ext : Th → List V} {H H' : Hp} {t : Th} {a : Addr} {ts : List Th} {es : List Addr}
end
def Th.isCall : Th → Bool
  | .knot _ _ => false
  | .call _ _ => true
end BB
namespace BB
open PySem PySem.Spec PyProof.Rows L2
mutual
theorem DAt.inj {H : Hp} : ∀ {d e : Dv} {v : V}, DAt H d v → DAt H e v → d = e
  | .int i, .int j, v, h, g => by rw [DAt] at h; rw [DAt] at g; rw [h] at g; cases g; rfl
  | .int i, .str y, v, h, g => by rw [DAt] at h; rw [DAt] at g; rw [h] at g; cases g
  | .int i, .tup es, v, h, g => by rw [DAt] at h; rw [DAt] at g; obtain ⟨a, vs, e, _⟩ := g; rw [h] at e; cases e
  | .str x, .int j, v, h, g => by rw [DAt] at h; rw [DAt] at g; rw [h] at g; cases g
  | .str x, .str y, v, h, g => by rw [DAt] at h; rw [DAt] at g; rw [h] at g; cases g; rfl
  | .str x, .tup es, v, h, g => by rw [DAt] at h; rw [DAt] at g; obtain ⟨a, vs, e, _⟩ := g; rw [h] at e; cases e
  | .tup ds, .int j, v, h, g => by rw [DAt] at h; rw [DAt] at g; obtain ⟨a, vs, e, _⟩ := h; rw [e] at g; cases g
  | .tup ds, .str y, v, h, g => by rw [DAt] at h; rw [DAt] at g; obtain ⟨a, vs, e, _⟩ := h; rw [e] at g; cases g
  | .tup ds, .tup es, v, h, g => by
    rw [DAt] at h; rw [DAt] at g
    obtain ⟨a, vs, e1, h1, h2⟩ := h
    obtain ⟨b, ws, e2, g1, g2⟩ := g
    rw [e1] at e2
    cases e2
    rw [h1] at g1
    cases g1
    rw [DAts.inj h2 g2]
theorem DAts.inj {H : Hp} : ∀ {ds es : List Dv} {vs : List V}, DAts H ds vs → DAts H es vs → ds = es
  | [], [], vs, h, g => rfl
  | [], e :: es, vs, h, g => by rw [DAts] at h; rw [DAts] at g; obtain ⟨v, r, z, _⟩ := g; rw [h] at z; cases z
  | d :: ds, [], vs, h, g => by rw [DAts] at h; rw [DAts] at g; obtain ⟨v, r, z, _⟩ := h; rw [g] at z; cases z
  | d :: ds, e :: es, vs, h, g => by
    rw [DAts] at h; rw [DAts] at g
    obtain ⟨v, r, z, h1, h2⟩ := h
    obtain ⟨v', r', z', g1, g2⟩ := g
    rw [z] at z'
    cases z'
    rw [DAt.inj h1 g1, DAts.inj h2 g2]
end
end BB
namespace L2
open PySem PySem.Spec PySem.SeqAt PyProof.Rows BB
open Classical in
theorem rcAt_gen {X : Cx} {pins : List (Addr × Obj)} {σ : St} {H : Hp} {s : Shared} (I : Inv X pins σ H s) {ds es : List Dv} {a b : Addr} {vs ws : List V} {A : Around} (ha : SqT X.K H a vs) (hb : SqT X.K H b ws) (hvs : DAts H ds vs) (hws : DAts H es ws) (hu : A.units < cLine)
    (ih : ∀ (j : Nat) (d e : Dv) (x y : V) (u v : Value), ds[j]? = some d → DAt H d x → DAt H e y → RelV x u → RelV y v → EqAt A.in1 s u v (decide (d = e))) : RcAt A s (.ref a) (.ref b) (decide (Dv.tup ds = Dv.tup es)) := by
  obtain ⟨its, r1, p1, _⟩ := I.tuple ha
  obtain ⟨its2, r2, p2, _⟩ := I.tuple hb
  have l1 : its.length = ds.length := by rw [← r1.length, hvs.length]
  have l2 : its2.length = es.length := by rw [← r2.length, hws.length]
  have hcmp : RcAt A s (.ref a) (.ref b) ((List.range (min its.toArray.size its2.toArray.size)).all (fun j => decide (ds[j]? = es[j]?)) && its.toArray.size == its2.toArray.size) := by
    refine RcAt.tuples (show s.heap.IsTuple a its.toArray from p1) (show s.heap.IsTuple b its2.toArray from p2) hu fun j h1 h2 => ?_
    have h1' : j < ds.length := by rw [← l1]; simpa using h1
    have h2' : j < es.length := by rw [← l2]; simpa using h2
    have e1 : ds[j]? = some ds[j] := List.getElem?_eq_getElem h1'
    have e2 : es[j]? = some es[j] := List.getElem?_eq_getElem h2'
    obtain ⟨x', hx', dx⟩ := hvs.at e1
    obtain ⟨y', hy', dy⟩ := hws.at e2
    obtain ⟨u', hu', ru'⟩ := r1.get hx'
    obtain ⟨v', hv', rv'⟩ := r2.get hy'
    have e3 : decide (ds[j]? = es[j]?) = decide (ds[j] = es[j]) := by rw [e1, e2]; simp
    have e4 : its.toArray[j] = u' := by
      rw [List.getElem?_eq_getElem (by rw [l1]; exact h1')] at hu'
      simpa using hu'
    have e5 : its2.toArray[j] = v' := by
      rw [List.getElem?_eq_getElem (by rw [l2]; exact h2')] at hv'
      simpa using hv'
    rw [e3, e4, e5]
    exact ih j ds[j] es[j] x' y' u' v' e1 dx dy ru' rv'
  have e : decide (Dv.tup ds = Dv.tup es) = ((List.range (min its.toArray.size its2.toArray.size)).all (fun j => decide (ds[j]? = es[j]?)) && its.toArray.size == its2.toArray.size) := by
    rw [List.size_toArray, List.size_toArray, l1, l2]
    by_cases h : ds = es
    · subst h
      rw [decide_eq_true rfl]
      symm
      simp
    · rw [decide_eq_false (fun z => h (Dv.tup.inj z))]
      symm
      by_cases hl : ds.length = es.length
      · rw [hl, Nat.min_self]
        have : ¬ ((List.range es.length).all (fun j => decide (ds[j]? = es[j]?))) = true := by
          intro z
          apply h
          apply List.ext_getElem?
          intro j
          by_cases hj : j < es.length
          · have := List.all_eq_true.mp z j (List.mem_range.mpr hj)
            exact of_decide_eq_true this
          · rw [List.getElem?_eq_none (by omega), List.getElem?_eq_none (by omega)]
        rw [Bool.eq_false_iff.mpr this]
        rfl
      · have : (ds.length == es.length) = false := by simpa using hl
        rw [this, Bool.and_false]
  rw [e]
  exact hcmp
open Classical in
theorem eqAt_dv {X : Cx} {pins : List (Addr × Obj)} {σ : St} {H : Hp} {s : Shared} (I : Inv X pins σ H s) : ∀ (n : Nat) (d e : Dv), d.tot ≤ n → ∀ (x y : V) (u v : Value) (A : Around), DAt H d x → DAt H e y → RelV x u → RelV y v → A.units + d.deep < cLine → EqAt A s u v (decide (d = e))
  | 0, d, e, hn, x, y, u, v, A, hd, he, ru, rv, hu => by have := d.tot_pos; omega
  | n + 1, .int i, .int j, hn, x, y, u, v, A, hd, he, ru, rv, hu => by
    rw [DAt] at hd; rw [DAt] at he
    subst hd he
    obtain ⟨t, rfl⟩ := ru
    obtain ⟨t', rfl⟩ := rv
    have e : decide (Dv.int i = Dv.int j) = (i == j) := by
      by_cases h : i = j
      · subst h; simp
      · rw [decide_eq_false (fun z => h (Dv.int.inj z))]; simp [h]
    rw [e]
    exact EqAt.int_int i t j t'
  | n + 1, .int i, .str b, hn, x, y, u, v, A, hd, he, ru, rv, hu => by
    rw [DAt] at hd; rw [DAt] at he
    subst hd he
    obtain ⟨t, rfl⟩ := ru
    obtain ⟨t', rfl⟩ := rv
    rw [decide_eq_false (fun z => by cases z)]
    exact EqAt.int_str i t b t'
  | n + 1, .int i, .tup es, hn, x, y, u, v, A, hd, he, ru, rv, hu => by
    rw [DAt] at hd; rw [DAt] at he
    obtain ⟨a, vs, rfl, ha, _⟩ := he
    subst hd
    obtain ⟨t, rfl⟩ := ru
    cases rv
    obtain ⟨its, _, p, _⟩ := I.tuple (SqT.of (K := X.K) ha)
    rw [decide_eq_false (fun z => by cases z)]
    exact EqAt.int_tuple i t (show s.heap.IsTuple a its.toArray from p) (by omega)
  | n + 1, .str b, .int j, hn, x, y, u, v, A, hd, he, ru, rv, hu => by
    rw [DAt] at hd; rw [DAt] at he
    subst hd he
    obtain ⟨t, rfl⟩ := ru
    obtain ⟨t', rfl⟩ := rv
    rw [decide_eq_false (fun z => by cases z)]
    exact EqAt.str_int b t j t'
  | n + 1, .str b, .str c, hn, x, y, u, v, A, hd, he, ru, rv, hu => by
    rw [DAt] at hd; rw [DAt] at he
    subst hd he
    obtain ⟨t, rfl⟩ := ru
    obtain ⟨t', rfl⟩ := rv
    have e : decide (Dv.str b = Dv.str c) = (b == c) := by
      by_cases h : b = c
      · subst h; simp
      · rw [decide_eq_false (fun z => h (Dv.str.inj z))]; simp [h]
    rw [e]
    exact EqAt.str_str b t c t'
  | n + 1, .str b, .tup es, hn, x, y, u, v, A, hd, he, ru, rv, hu => by
    rw [DAt] at hd; rw [DAt] at he
    obtain ⟨a, vs, rfl, ha, _⟩ := he
    subst hd
    obtain ⟨t, rfl⟩ := ru
    cases rv
    obtain ⟨its, _, p, _⟩ := I.tuple (SqT.of (K := X.K) ha)
    rw [decide_eq_false (fun z => by cases z)]
    exact EqAt.str_tuple b t (show s.heap.IsTuple a its.toArray from p) (by omega)
  | n + 1, .tup ds, .int j, hn, x, y, u, v, A, hd, he, ru, rv, hu => by
    rw [DAt] at hd; rw [DAt] at he
    obtain ⟨a, vs, rfl, ha, _⟩ := hd
    subst he
    cases ru
    obtain ⟨t, rfl⟩ := rv
    obtain ⟨its, _, p, _⟩ := I.tuple (SqT.of (K := X.K) ha)
    rw [decide_eq_false (fun z => by cases z)]
    exact EqAt.tuple_int j t (show s.heap.IsTuple a its.toArray from p) (by omega)
  | n + 1, .tup ds, .str b, hn, x, y, u, v, A, hd, he, ru, rv, hu => by
    rw [DAt] at hd; rw [DAt] at he
    obtain ⟨a, vs, rfl, ha, _⟩ := hd
    subst he
    cases ru
    obtain ⟨t, rfl⟩ := rv
    obtain ⟨its, _, p, _⟩ := I.tuple (SqT.of (K := X.K) ha)
    rw [decide_eq_false (fun z => by cases z)]
    exact EqAt.tuple_str b t (show s.heap.IsTuple a its.toArray from p) (by omega)
  | n + 1, .tup ds, .tup es, hn, x, y, u, v, A, hd, he, ru, rv, hu => by
    have hd0 := hd
    have he0 := he
    rw [DAt] at hd; rw [DAt] at he
    obtain ⟨a, vs, rfl, ha, hvs⟩ := hd
    obtain ⟨b, ws, rfl, hb, hws⟩ := he
    cases ru
    cases rv
    by_cases hab : a = b
    · subst hab
      rw [decide_eq_true (DAt.inj hd0 he0)]
      exact EqAt.same _
    rw [Dv.tot] at hn
    rw [Dv.deep] at hu
    refine EqAt.of_refs hab (rcAt_gen I (SqT.of ha) (SqT.of hb) hvs hws (by omega) fun j d e x' y' u' v' e1 dx dy ru' rv' => ?_)
    have q1 := tot_get e1
    have q2 := deep_get e1
    refine eqAt_dv I n d e (by omega) x' y' u' v' A.in1 dx dy ru' rv' ?_
    show A.units + 1 + _ < cLine
    omega
end L2
namespace BB
open PySem L2
theorem sizes_set : ∀ {ks : List Th} {i : Nat} {w x : Th}, ks[i]? = some w → sizes (ks.set i x) + w.size = sizes ks + x.size
  | [], i, w, x, h => by simp at h
  | k :: ks, 0, w, x, h => by
    simp at h
    subst h
    rw [List.set_cons_zero, sizes, sizes]
    omega
  | k :: ks, i + 1, w, x, h => by
    have := sizes_set (ks := ks) (i := i) (w := w) (x := x) (by simpa using h)
    rw [List.set_cons_succ, sizes, sizes]
    omega
theorem Ats.set {H : Hp} : ∀ {ts : List Th} {as : List Addr} (i : Nat) {x : Th} {a : Addr}, Ats H ts as → At H x a → Ats H (ts.set i x) (as.set i a)
  | [], as, i, x, a, h, g => by rw [Ats] at h; subst h; exact .nil
  | t :: ts, as, i, x, a, h, g => by
    rw [Ats] at h
    obtain ⟨b, r, rfl, h1, h2⟩ := h
    cases i with
    | zero => exact .cons g h2
    | succ i => exact .cons h1 (Ats.set i h2 g)
end BB
namespace PySem
theorem bb_extendT (l : Addr) (items : Array Value) (n : Nat) (b : Addr) (items2 : Array Value) (n2 : Nat) (dd : Option Addr) (sl : Array (Option Value)) (g0 : ¬(!items.isEmpty && Builtin.List.listTooLong (items.size + items2.size)) = true) (g1 : items.size ≤ sizeLine) (g2 : items.size + items2.size ≤ sizeLine + 1) :
    Meets (Builtin.«list.extend» ⟨[.ref l, .ref b], []⟩) (fun _ R s => s.heap.get? l = some { cls := .type "list", dict := none, data := .seq items n, slots := #[] } ∧ s.heap.get? b = some { cls := .type "tuple", dict := dd, data := .seq items2 n2, slots := sl } ∧ R (.ok (.ret Value.none)) { s with heap := s.heap.update l (Obj.mapSeq fun x => x ++ items2), toks := s.toks }) :=
  .of_wp fun prog w A R s h => by
    obtain ⟨hp, g, d, tk, os⟩ := s
    obtain ⟨hl, hb, h⟩ := h
    have f1 := AutoSeq1.idx_int; have f2 := AutoSeq1.sub_tuple_tuple; have f3 := AutoSeq1.sub_list_list; have f4 := AutoSeq1.sub_tuple_list; have f5 := AutoSeq1.sub_list_tuple
    have z2 : (items ++ items2).size ≤ sizeLine + 1 := by rw [Array.size_append]; exact g2
    wp_walk using (wpAny_updateSeq hl rfl (hz := g1) (_hz' := z2)), AutoSeq1.wpAny_loadPart' hl, AutoSeq1.wpAny_loadPart' hb
    exact ⟨_, rfl, h⟩
end PySem
namespace L2
open PySem PySem.Spec PyProof.Rows
section
variable {X : Cx}
def rExtendT (K : PySem.W.Frag) : V → List V → Hp → VK → Prop := fun x vs H Q => ∃ l b xs zs, x = .ref l ∧ vs = [.ref b] ∧ H l = some (.lst xs) ∧ SqT K H b zs ∧ xs.length + zs.length ≤ sizeLine ∧ Q .non (upd H l (.lst (xs ++ zs)))
theorem mt_extendT : MtM X "list.extend" (rExtendT X.K) := by
  intro pins s σ H x vs v us Q I rx rv h
  obtain ⟨l, b, xs, zs, rfl, rfl, hH, hB, hz, q⟩ := h
  cases rx
  obtain ⟨u, rfl, ru⟩ := rv.one
  cases ru
  obtain ⟨z, its, n, r, hl, e⟩ := I.lstM hH
  obtain ⟨its2, r2, p2, _⟩ := I.tuple hB
  have hl2 := r2.length
  obtain ⟨⟨cls2, dd2, data2, sl2⟩, e2, hc2, n2, hd2⟩ := p2
  simp only at hc2 hd2
  subst hc2 hd2
  have hsz : its.toArray.size + its2.toArray.size ≤ sizeLine := by rw [List.size_toArray, List.size_toArray]; omega
  have hlong : ¬ (!its.toArray.isEmpty && Builtin.List.listTooLong (its.toArray.size + its2.toArray.size)) = true := by
    rw [notLongL hsz, Bool.and_false]
    exact Bool.false_ne_true
  refine call_meets F.slot_list_extend ⟨_, e, rfl⟩ F.entry_list_extend (F.args_list_extend_2 _ _)
    (bb_extendT l its.toArray n b its2.toArray n2 dd2 sl2 hlong (by rw [List.size_toArray]; omega) (by omega)) ⟨e, e2, ?_⟩
  refine ⟨.non, _, I.lset (its' := its ++ its2) hH e (by simp) (r.append r2) ?_, rfl, q⟩
  rw [List.length_append]
  omega
theorem bools_get {bs : List Bool} {its : List Value} (r : Vals (bs.map V.bl) its) {i : Nat} {v : Value} (h : its[i]? = some v) : ∃ b, bs[i]? = some b ∧ v = .bool b := by
  have hl := r.length
  have hi : i < its.length := (List.getElem?_eq_some_iff.mp h).1
  rw [List.length_map] at hl
  obtain ⟨u, hu, ru⟩ := r.get (i := i) (x := .bl bs[i]) (by rw [List.getElem?_map, List.getElem?_eq_getElem (by omega)]; rfl)
  rw [h] at hu
  cases hu
  cases ru
  exact ⟨_, List.getElem?_eq_getElem (by omega), rfl⟩
def rAll (K : PySem.W.Frag) : List V → Hp → VK → Prop := fun xs H Q => ∃ (p : Addr) (bs : List Bool), xs = [.ref p] ∧ SqL K H p (bs.map V.bl) ∧ Q (.bl (bs.all id)) H
theorem call_all (hc : X.calm = true) : CallR X (.builtin "all") (rAll X.K) := by
  intro pins s σ H xs us Q I r h
  obtain ⟨p, bs, rfl, hl, q⟩ := h
  obtain ⟨u, rfl, rx⟩ := vals1 r
  cases rx
  obtain ⟨its, rv, pl, _⟩ := I.list hl
  have hlen := rv.length
  rw [List.length_map] at hlen
  have hlt : p < s.heap.objs.size := by obtain ⟨_, _, e, _⟩ := pl; exact Heap.lt_size e
  refine call_all_walk (wpAny_pyIter_list pl.isList ?_)
  refine ⟨s.heap.objs.size, [s.heap.objs.size, p], [s.heap.objs.size], its.toArray.size, _, _, fun i => (bs[i]?).getD true, rfl, Walks.list (A := X.A.in1) (I.ok.hd hc) _ p (Nat.ne_of_lt hlt) its.toArray, ⟨⟨_, Heap.get?_push_size _ rfl, rfl, rfl⟩, pl.isList.push _⟩, fun i v s' Q' E' hP hQ => ?_, fun h' tk hk => ?_⟩
  · obtain ⟨b, e, rfl⟩ := bools_get rv (i := i) (v := v) (by simpa using hP)
    simp only [e, Option.getD_some] at hQ
    exact wpAny_truthy_bool hQ
  · have e : ((List.range its.toArray.size).all fun i => (bs[i]?).getD true) = bs.all id := by
      rw [List.size_toArray, ← hlen]
      exact LSm.range_all bs
    rw [e]
    exact ⟨.bl (bs.all id), H, I.kept (LSm.kept_iter hk), rfl, q⟩
end
end L2
namespace BB
open PySem L2
def manyOf : List (Str × Int) → Str → Int
  | [], _ => -1
  | k :: r, n => if k.1 = n then k.2 else manyOf r n
theorem manyOf_mem {n : Str} {m : Nat} : ∀ {ks : List (Str × Int)}, (ks.map (·.1)).Nodup → (manyOf ks n = (m : Int) ↔ (n, (m : Int)) ∈ ks)
  | [], _ => by
    rw [manyOf]
    constructor
    · intro h; omega
    · intro h; cases h
  | (a, b) :: r, nd => by
    rw [List.map_cons, List.nodup_cons] at nd
    rw [manyOf]
    by_cases h : a = n
    · rw [if_pos h]
      subst h
      constructor
      · intro e
        have e' : b = (m : Int) := e
        rw [e']
        exact List.mem_cons_self ..
      · intro e
        rcases List.mem_cons.mp e with e | e
        · exact (Prod.mk.inj e).2.symm
        · exact absurd (List.mem_map.mpr ⟨_, e, rfl⟩) nd.1
    · rw [if_neg h, manyOf_mem nd.2]
      constructor
      · exact List.mem_cons_of_mem _
      · intro e
        rcases List.mem_cons.mp e with e | e
        · exact absurd (Prod.mk.inj e).1.symm h
        · exact e
def okP (ks : List (Str × Int)) (st kd : Int) : Th → Bool
  | .knot n ts => decide (manyOf ks n = ((ts.length : Nat) : Int))
  | .call s k => decide (0 ≤ s ∧ s < st) && decide (0 ≤ k ∧ k < kd)
def fpb (ks : List (Str × Int)) (st kd : Int) (t : Th) : Bool := t.walk.all (okP ks st kd)
def fpbs (ks : List (Str × Int)) (st kd : Int) (ts : List Th) : Bool := (walks ts).all (okP ks st kd)
theorem fpb_eq (ks : List (Str × Int)) (st kd : Int) (t : Th) : fpb ks st kd t = (okP ks st kd t && fpbs ks st kd t.kids) := by
  unfold fpb fpbs
  rw [t.walk_eq, List.all_cons]
theorem fpbs_all (ks : List (Str × Int)) (st kd : Int) : ∀ ts : List Th, fpbs ks st kd ts = (ts.map (fpb ks st kd)).all id
  | [] => by rfl
  | t :: ts => by
    rw [List.map_cons, List.all_cons, ← fpbs_all ks st kd ts]
    unfold fpbs fpb
    rw [walks, List.all_append]
    rfl
def kDv (k : Str × Int) : Dv := .tup [.str k.1, .int k.2]
theorem ks_dv {H : Hp} : ∀ {ks : List (Str × Int)} {as : List Addr}, Paired (KAt H) ks as → DAts H (ks.map kDv) (as.map V.ref)
  | _, _, .nil => .nil
  | _, _, .cons r h => by
    rw [List.map_cons, List.map_cons]
    refine .cons ?_ (ks_dv h)
    rw [kDv, DAt]
    exact ⟨_, _, rfl, r, .cons (by rw [DAt]) (.cons (by rw [DAt]) .nil)⟩
theorem kDv_deep : ∀ ks : List (Str × Int), deeps (ks.map kDv) ≤ 1
  | [] => by rw [List.map_nil, deeps]; exact Nat.zero_le _
  | k :: ks => by
    have := kDv_deep ks
    rw [List.map_cons, deeps, kDv]
    simp only [Dv.deep, deeps]
    omega
theorem of_nd {p : Prop} [Decidable p] (h : (!decide p) = true) : ¬ p := by
  intro z
  rw [decide_eq_true z] at h
  cases h
theorem of_nnd {p : Prop} [Decidable p] (h : ¬ (!decide p) = true) : p := by
  by_cases z : p
  · exact z
  · exfalso
    apply h
    rw [decide_eq_false z]
    rfl
theorem Ats.take {H : Hp} {ts : List Th} {as : List Addr} (n : Nat) (h : Ats H ts as) : Ats H (ts.take n) (as.take n) := by
  induction n generalizing ts as with
  | zero => exact .nil
  | succ n ih =>
    cases ts with
    | nil => rw [Ats] at h; subst h; exact .nil
    | cons t ts =>
      rw [Ats] at h
      obtain ⟨b, r, rfl, h1, h2⟩ := h
      exact .cons h1 (ih h2)
theorem cut_last {x : V} {xs : List V} : cutV (x :: xs) none (some (-1)) = (x :: xs).take xs.length := by
  unfold cutV
  have e : HT.sIx (x :: xs).length (x :: xs).length (some (-1)) = xs.length := by
    show (if (-1 : Int) < 0 then ((-1 : Int) + ((x :: xs).length : Int)).toNat else min (-1 : Int).toNat (x :: xs).length) = _
    rw [if_pos (by decide), List.length_cons]
    omega
  rw [e, HT.sIx_none, List.drop_zero, Nat.sub_zero]
end BB
namespace PySem
open Sem (wp)
namespace F
end F
section
variable {prog : Program} {w : World} {A : Around} {E : Value → Shared → Prop} {s : Shared} {a : Addr} {xs : Array Value} {k : Nat}
end
end PySem
namespace L2
open PySem PySem.Spec PyProof.Rows BB
section
variable {X : Cx}
end
end L2
namespace BB
open PySem L2
end BB
namespace HT
open PySem PySem.Spec PyProof.Rows
section
variable {prog : Program} {w : World} {A : Around} {E : Value → Shared → Prop} {s : Shared}
theorem getItem_tuple_whole {t sl : Addr} {items : Array Value} {vl vu : Value} {lo hi : Option Int} {Q : Value → Shared → Prop} (ht : IsTup s.heap t items) (hs : s.heap.IsSliceOf sl vl vu .none) (pl : IsPart vl lo) (pu : IsPart vu hi)
    (hw : sIx items.size 0 lo = 0 ∧ sIx items.size items.size hi = items.size) (h : Q (.ref t) s) : wpAny (model prog w) A (getItem (.ref t) (.ref sl)) Q E s := by
  obtain ⟨os, hos, hcs, hds⟩ := id hs
  have hTs : s.TypeIs (.ref sl) "slice" := ⟨os, hos, hcs⟩
  have hT : s.TypeIs (.ref t) "tuple" := ht.typeIs
  unfold getItem
  try with_reducible refine wpAny_holding ?_
  first | refine wpAny_bind (wpAny_pure ?_) | skip
  refine wpAny_bind (wpAny_sequenceKey ht.typeIs (by decide) ?_)
  refine wpAny_bind (wpAny_callSpecial?_slot (name := Str.ofString "__getitem__") ht.typeIs PyProof.Rows.slot_tuple_getitem
    (wpAny_call_entry PyProof.Rows.slot_tuple_getitem ht.typeIs entry_tuple_getitem ?_ (args_tuple_getitem _ _)))
  show wpAny _ _ (Builtin.Tuple.tupleItemsOf (.ref t) >>= _) _ _ s
  refine wpAny_bind (tupleItemsOf_ ht ?_)
  refine wpAny_bind (wpAny_typeOf hTs ?_)
  rw [if_pos (by decide)]
  refine wpAny_bind (sliceApplied_gen hs pl pu ?_)
  have hyes : (((sIx items.size 0 lo : Nat) : Int) == 0 && (1 : Int) == 1 && (sIx items.size items.size hi - sIx items.size 0 lo) == items.size) = true := by
    rw [hw.1, hw.2]
    simp
  show wpAny _ _ (if (((sIx items.size 0 lo : Nat) : Int) == 0 && (1 : Int) == 1 && (sIx items.size items.size hi - sIx items.size 0 lo) == items.size) = true then _ else _) _ _ s
  rw [if_pos hyes]
  refine wpAny_bind (m := Builtin.Tuple.tupleIsExact _) ?_
  unfold Builtin.Tuple.tupleIsExact
  refine wpAny_bind (wpAny_typeOf hT (wpAny_pure ?_))
  rw [if_pos (by decide)]
  exact wpAny_bind (wpAny_rule (wpAny_pure ⟨_, rfl, wpAny_pure h⟩))
end
end HT
namespace L2
open PySem PySem.Spec PyProof.Rows
inductive IrSlA (x : V) (lo : Option Int) (hi : Option Int) (H : Hp) (Q : VK) : Prop
  | mk (a : _) (xs : _) (zz0 : x = .ref a) (zz1 : H a = some (.tup xs)) (zz2 : ∀ p H', Same H H' → H' p = some (.tup (cutV xs lo hi)) → Q (.ref p) H') : IrSlA  x lo hi H Q
def rSlA : V → Option Int → Option Int → Hp → VK → Prop := IrSlA 
theorem sl_tupA {X : Cx} : SlR X rSlA := by
  intro pins s σ H x v vl vu lo hi sl Q I rx hs pl pu h
  obtain ⟨a, xs, rfl, ha, q⟩ := h
  by_cases hw : HT.sIx xs.length 0 lo = 0 ∧ HT.sIx xs.length xs.length hi = xs.length
  · obtain ⟨its, r, p1, hz⟩ := I.tuple (SqT.of (K := X.K) ha)
    have hl := r.length
    cases rx
    have e : cutV xs lo hi = xs := by
      unfold cutV
      rw [hw.1, hw.2, List.drop_zero, Nat.sub_zero, List.take_length]
    refine ⟨"tuple", _, PyProof.Rows.slot_tuple_getitem.lookup, p1.typeIs, HT.getItem_tuple_whole p1 hs pl pu (by rw [List.size_toArray, ← hl]; exact hw) ⟨.ref a, H, I, rfl, q a H (.refl _) (by rw [e]; exact ha)⟩⟩
  · exact sl_tup pins s σ H _ v vl vu lo hi sl Q I rx hs pl pu ⟨a, xs, rfl, SqT.of ha, hw, fun p hp => q p _ (same_new hp _) upd_same⟩
end L2
namespace PySem
open Sem (wp)
section
variable {prog : Program} {w : World} {A : Around} {E : Value → Shared → Prop} {s : Shared} {it d : Addr} {i ep : Nat} {od : Obj} {es : Array DictEntry}
end
end PySem
namespace L2
open PySem PySem.Spec PyProof.Rows
section
variable {X : Cx} {e : Expr} {te : TE}
end
end L2
namespace BB
open PySem L2
end BB
namespace PySem
open Sem (wp)
theorem bb_noFill_tuple_mul : fillsNumberSlot (.type "tuple") "mul" = pure false :=
  fillsNumberSlot_seq (id := "tuple.__mul__") (r := some (.builtin "tuple.__rmul__")) F.slot_tuple_mul.lookup (by decide +kernel) F.slot_tuple_rmul.lookup (by decide +kernel)
theorem bb_repeat_tuple : seqRepeat? (.type "tuple") = pure (some (.builtin "tuple.__mul__")) := by
  unfold seqRepeat?
  rw [seqSlot_of (T := "tuple") (name := "__mul__") (id := "tuple.__mul__") F.slot_tuple_mul.lookup (by decide +kernel), seqSlot_of (T := "tuple") (name := "__rmul__") (id := "tuple.__rmul__") F.slot_tuple_rmul.lookup (by decide +kernel)]
  rfl
theorem bb_int_rmul_tuple (a : Int) (t : Tok) (l : Addr) (items : Array Value) (n : Nat) :
    Meets (Builtin.«int.__rmul__» ⟨[.int a t, .ref l], []⟩) (fun _ R s => s.heap.get? l = some { cls := .type "tuple", dict := none, data := .seq items n, slots := #[] } ∧ R (.ok (.ret Value.notImplemented)) s) :=
  .of_wp fun prog w A R s h => by obtain ⟨hp, g, d, tk, os⟩ := s; obtain ⟨hl, h⟩ := h; wp_walk; exact ⟨_, rfl, h⟩
theorem bb_tuple_mul (l : Addr) (x : Value) (n : Nat) (k : Int) (t : Tok) (h0 : 0 ≤ k) (h1 : k ≤ 1000) :
    Meets (Builtin.«tuple.__mul__» ⟨[.ref l, .int k t], []⟩) (fun _ R s => s.heap.get? l = some { cls := .type "tuple", dict := none, data := .seq #[x] n, slots := #[] } ∧ (k = 1 → R (.ok (.ret (.ref l))) s) ∧ (k ≠ 1 → R (.ok (.ret (.ref s.heap.objs.size))) { s with heap := s.heap.push { cls := .type "tuple", data := .seq (List.replicate k.toNat x).toArray } })) :=
  .of_wp fun prog w A R s h => by
    obtain ⟨hp, g, d, tk, os⟩ := s
    obtain ⟨hl, hq1, hq2⟩ := h
    have c1 : (decide (k < -(2 ^ 63)) || decide (k ≥ 2 ^ 63)) = false := by
      rw [Bool.or_eq_false_iff]
      exact ⟨decide_eq_false (by omega), decide_eq_false (by omega)⟩
    unfold Builtin.«tuple.__mul__»
    wp_walk
    rw [if_neg (by rw [c1]; exact Bool.false_ne_true)]
    refine wpAny_bind (wpAny_tupleItemsOf hl rfl ?_)
    dsimp only
    by_cases hk : k = 1
    · have c2 : ((#[x] : Array Value).isEmpty || k == 1) = true := by rw [hk]; rfl
      rw [if_pos c2]
      unfold Builtin.Tuple.tupleIsExact
      refine wpAny_bind (wpAny_bind (wpAny_typeOf (T := "tuple") ⟨_, hl, rfl⟩ (wpAny_pure ?_)))
      rw [if_pos (by decide)]
      exact wpAny_bind (wpAny_rule (wpAny_pure ⟨_, rfl, hq1 hk⟩))
    · have c2 : ((#[x] : Array Value).isEmpty || k == 1) = false := by
        rw [Bool.or_eq_false_iff]
        exact ⟨rfl, beq_eq_false_iff_ne.mpr hk⟩
      rw [if_neg (by rw [c2]; exact Bool.false_ne_true)]
      have hq := hq2 hk
      by_cases h00 : k ≤ 0
      · have c3 : (decide (k ≤ 0) || (#[x] : Array Value).isEmpty) = true := by rw [decide_eq_true h00]; rfl
        have e0 : k.toNat = 0 := by omega
        rw [e0] at hq
        rw [if_pos c3]
        unfold Builtin.Tuple.tupleExact
        refine wpAny_bind (wpAny_newObj_type (wpAny_pure ⟨_, rfl, hq⟩) (by size_fits))
      · have c3 : (decide (k ≤ 0) || (#[x] : Array Value).isEmpty) = false := by rw [decide_eq_false h00]; rfl
        rw [if_neg (by rw [c3]; exact Bool.false_ne_true)]
        have ez : (((#[x] : Array Value).size : Nat) : Int) * k = k := by show (1 : Int) * k = k; omega
        rw [ez, if_neg (by omega)]
        have c4 : Builtin.Tuple.tupleTooMany k = false := by
          unfold Builtin.Tuple.tupleTooMany
          refine decide_eq_false ?_
          have : (1000 : Int) ≤ (sizeLine : Int) := by decide
          omega
        rw [if_neg (by rw [c4]; exact Bool.false_ne_true)]
        have e1 : List.foldl (fun x1 x2 => x1 ++ x2) #[] (List.replicate k.toNat (#[x] : Array Value)) = (List.replicate k.toNat x).toArray := by
          have f : ∀ (m : Nat) (acc : Array Value), List.foldl (fun x1 x2 => x1 ++ x2) acc (List.replicate m (#[x] : Array Value)) = acc ++ (List.replicate m x).toArray := by
            intro m
            induction m with
            | zero => intro acc; simp
            | succ m ih =>
              intro acc
              rw [List.replicate_succ, List.foldl_cons, ih, List.replicate_succ]
              apply Array.toList_inj.mp
              simp
          rw [f]
          simp
        rw [e1]
        unfold Builtin.Tuple.tupleExact
        refine wpAny_bind (wpAny_newObj_type (wpAny_pure ⟨_, rfl, hq⟩) ?_)
        show (List.replicate k.toNat x).toArray.size ≤ sizeLine
        rw [List.size_toArray, List.length_replicate]
        exact Nat.le_trans (show k.toNat ≤ 1000 by omega) (by decide)
end PySem
namespace L2
open PySem PySem.Spec PyProof.Rows BB
inductive IrMulT (x : V) (y : V) (H : Hp) (Q : VK) : Prop
  | mk (a : Addr) (v : V) (k : Int) (zz0 : x = .ref a) (zz1 : y = .int k) (zz2 : H a = some (.tup [v])) (zz3 : 0 ≤ k) (zz4 : k ≤ 1000) (zz5 : (k = 1 → Q (.ref a) H)) (zz6 : (k ≠ 1 → ∀ l, H l = none → Q (.ref l) (upd H l (.tup (List.replicate k.toNat v))))) : IrMulT  x y H Q
def rMulT : R2 := IrMulT 
theorem vals_rep {v : V} {u : Value} (r : RelV v u) : ∀ n : Nat, Vals (List.replicate n v) (List.replicate n u)
  | 0 => .nil
  | n + 1 => by rw [List.replicate_succ, List.replicate_succ]; exact .cons r (vals_rep r n)
theorem op_mulT {X : Cx} : OpR X (binaryOp .Mult) rMulT := by
  intro pins s σ H x y v u Q I rx ry h
  obtain ⟨a, vv, k, rfl, rfl, hH, h0, h1, q1, q2⟩ := h
  cases rx
  obtain ⟨t, rfl⟩ := ry
  obtain ⟨z, its, n, r, e⟩ := (show ObjOk X.prog X.w H s.heap a (.tup [vv]) from I.hok a _ hH)
  cases r with
  | cons r1 r2 =>
    cases r2
    refine wpAny_binaryOp_repeat_ref (T := "tuple") (U := "int") (by decide) ⟨_, e, rfl⟩ (fun s' => typeIs_int s' k t) bb_noFill_tuple_mul F.fills_int_mul F.slot_int_rmul bb_repeat_tuple F.slot_int_index.lookup
      (call_meets F.slot_int_rmul (typeIs_int s k t) F.entry_int_rmul (F.args_int_rmul_2 _ _) (bb_int_rmul_tuple k t a _ n)
        ⟨e, rfl, ⟨_, e, rfl⟩, call_meets F.slot_tuple_mul ⟨_, e, rfl⟩ F.entry_tuple_mul (F.args_tuple_mul_2 _ _) (bb_tuple_mul a _ n k t h0 h1) ⟨e, fun hk => ⟨.ref a, H, I, rfl, q1 hk⟩, fun hk => ?_⟩⟩)
    have hf : H s.heap.objs.size = none := I.hok.fresh (Nat.le_refl _)
    refine ⟨.ref s.heap.objs.size, upd H s.heap.objs.size (.tup (List.replicate k.toNat vv)), I.laid (t' := s.toks) (fun b u e => Heap.get?_push_of_some _ e) (Nat.le_refl _) ?_, rfl, q2 hk _ hf⟩
    exact ⟨by rw [List.length_replicate]; exact Nat.le_trans (show k.toNat ≤ 1000 by omega) (by decide), _, 0, vals_rep r1 _, Heap.get?_push_size _ rfl⟩
end L2
namespace BB
open PySem L2
theorem room_150 {k : Nat} {A : Around} (hr : L2.Room k A) : A.units + 150 + 2 < cLine := by
  have := hr.un
  omega
end BB
namespace BB
open PySem L2
end BB
namespace BB
open PySem L2
theorem sizes_rep (t : Th) : ∀ n : Nat, sizes (List.replicate n t) = n * t.size
  | 0 => by rw [List.replicate_zero, sizes, Nat.zero_mul]
  | n + 1 => by rw [List.replicate_succ, sizes, sizes_rep t n, Nat.add_mul]; omega
theorem mulT {H : Hp} {a : Addr} {v : V} {k : Int} {Q : VK} (ha : H a = some (.tup [v])) (h0 : 0 ≤ k) (h1 : k ≤ 1000) (q : ∀ p H', L2.Same H H' → H' p = some (.tup (List.replicate k.toNat v)) → Q (.ref p) H') : rMulT (.ref a) (.int k) H Q :=
  ⟨a, v, k, rfl, rfl, ha, h0, h1, fun e => q a H (.refl _) (by rw [e]; exact ha), fun e l hl => q l _ (same_new hl _) upd_same⟩
theorem Ats.rep {H : Hp} {t : Th} {a : Addr} (h : At H t a) : ∀ n : Nat, Ats H (List.replicate n t) (List.replicate n a)
  | 0 => .nil
  | n + 1 => by rw [List.replicate_succ, List.replicate_succ]; exact .cons h (Ats.rep h n)
end BB
namespace L2
open PySem PySem.Spec PySem.SeqAt PyProof.Rows BB
open Classical in
theorem ne_parts {X : Cx} {pins : List (Addr × Obj)} {σ : St} {H : Hp} {s : Shared} (I : Inv X pins σ H s) {ds es : List Dv} {vs ws : List V} {its its2 : List Value} {A : Around} (r1 : Vals vs its) (r2 : Vals ws its2) (hvs : DAts H ds vs) (hws : DAts H es ws) (hu : A.units + deeps ds + 2 < cLine) :
    ∀ j (h1 : j < its.toArray.size) (h2 : j < its2.toArray.size), EqAt A.in1 s its.toArray[j] its2.toArray[j] (decide (ds[j]? = es[j]?)) := by
  intro j h1 h2
  have l1 : its.length = ds.length := by rw [← r1.length, hvs.length]
  have l2 : its2.length = es.length := by rw [← r2.length, hws.length]
  have h1' : j < ds.length := by rw [← l1]; simpa using h1
  have h2' : j < es.length := by rw [← l2]; simpa using h2
  have e1 : ds[j]? = some ds[j] := List.getElem?_eq_getElem h1'
  have e2 : es[j]? = some es[j] := List.getElem?_eq_getElem h2'
  obtain ⟨x', hx', dx⟩ := hvs.at e1
  obtain ⟨y', hy', dy⟩ := hws.at e2
  obtain ⟨u', hu', ru'⟩ := r1.get hx'
  obtain ⟨v', hv', rv'⟩ := r2.get hy'
  have e3 : decide (ds[j]? = es[j]?) = decide (ds[j] = es[j]) := by rw [e1, e2]; simp
  have e4 : its.toArray[j] = u' := by
    rw [List.getElem?_eq_getElem (by rw [l1]; exact h1')] at hu'
    simpa using hu'
  have e5 : its2.toArray[j] = v' := by
    rw [List.getElem?_eq_getElem (by rw [l2]; exact h2')] at hv'
    simpa using hv'
  rw [e3, e4, e5]
  have q2 := deep_get e1
  refine eqAt_dv I _ ds[j] es[j] (Nat.le_refl _) x' y' u' v' A.in1 dx dy ru' rv' ?_
  show A.units + 1 + _ < cLine
  omega
open Classical in
theorem all_eq_iff {ds es : List Dv} (hl : ds.length = es.length) : (List.range ds.length).all (fun j => decide (ds[j]? = es[j]?)) = decide (ds = es) := by
  by_cases h : ds = es
  · subst h
    rw [decide_eq_true rfl]
    simp
  · rw [decide_eq_false h]
    refine Bool.eq_false_iff.mpr fun z => h (List.ext_getElem? fun j => ?_)
    by_cases hj : j < ds.length
    · exact of_decide_eq_true (List.all_eq_true.mp z j (List.mem_range.mpr hj))
    · rw [List.getElem?_eq_none (by omega), List.getElem?_eq_none (by omega)]
def rNeL (K : PySem.W.Frag) (B : Nat) : R2 := fun x y H Q => ∃ a b vs ws ds es, x = .ref a ∧ y = .ref b ∧ SqL K H a vs ∧ SqL K H b ws ∧ DAts H ds vs ∧ DAts H es ws ∧ deeps ds ≤ B ∧ ∀ b : Bool, (b = true ↔ ds ≠ es) → Q (.bl b) H
open Classical in
theorem op_neL {X : Cx} {B : Nat} (hu : X.A.units + B + 2 < cLine) : OpR X (compareOp .NotEq) (rNeL X.K B) := by
  intro pins s σ H x y v u Q I rx ry h
  obtain ⟨a, b, vs, ws, ds, es, rfl, rfl, ha, hb, hvs, hws, hB, q⟩ := h
  cases rx
  cases ry
  obtain ⟨its, r1, p1, _⟩ := I.list ha
  obtain ⟨its2, r2, p2, _⟩ := I.list hb
  have l1 : its.length = ds.length := by rw [← r1.length, hvs.length]
  have l2 : its2.length = es.length := by rw [← r2.length, hws.length]
  by_cases hl : ds.length = es.length
  · have hsz : its.toArray.size = its2.toArray.size := by rw [List.size_toArray, List.size_toArray]; omega
    refine RcNeAt.lists p1.isList p2.isList hsz (by omega) (ne_parts I r1 r2 hvs hws (by omega)) X.prog X.w X.xe _ ?_
    have e : (List.range its.toArray.size).all (fun j => decide (ds[j]? = es[j]?)) = decide (ds = es) := by
      rw [List.size_toArray, l1]; exact all_eq_iff hl
    refine ⟨.bl (!decide (ds = es)), H, I, by rw [e]; rfl, q _ ?_⟩
    simp
  · refine RcNeAt.lists_lengths p1.isList p2.isList (by rw [List.size_toArray, List.size_toArray, l1, l2]; simpa using hl) (by omega) X.prog X.w X.xe _ ⟨.bl true, H, I, rfl, q _ ?_⟩
    exact ⟨fun _ z => hl (by rw [z]), fun _ => rfl⟩
def rNeS (K : PySem.W.Frag) (B : Nat) : R2 := fun x y H Q => ∃ a b vs ws ds es, x = .ref a ∧ y = .ref b ∧ SqT K H a vs ∧ SqT K H b ws ∧ DAts H ds vs ∧ DAts H es ws ∧ deeps ds ≤ B ∧ ∀ b : Bool, (b = true ↔ ds ≠ es) → Q (.bl b) H
open Classical in
theorem op_neS {X : Cx} {B : Nat} (hu : X.A.units + B + 2 < cLine) : OpR X (compareOp .NotEq) (rNeS X.K B) := by
  intro pins s σ H x y v u Q I rx ry h
  obtain ⟨a, b, vs, ws, ds, es, rfl, rfl, ha, hb, hvs, hws, hB, q⟩ := h
  cases rx
  cases ry
  obtain ⟨its, r1, p1, _⟩ := I.tuple ha
  obtain ⟨its2, r2, p2, _⟩ := I.tuple hb
  have l1 : its.length = ds.length := by rw [← r1.length, hvs.length]
  have l2 : its2.length = es.length := by rw [← r2.length, hws.length]
  refine RcNeAt.tuples (show s.heap.IsTuple a its.toArray from p1) (show s.heap.IsTuple b its2.toArray from p2) (by omega) (ne_parts I r1 r2 hvs hws (by omega)) X.prog X.w X.xe _ ?_
  have e : ((List.range (min its.toArray.size its2.toArray.size)).all (fun j => decide (ds[j]? = es[j]?)) && its.toArray.size == its2.toArray.size) = decide (ds = es) := by
    rw [List.size_toArray, List.size_toArray, l1, l2]
    by_cases hl : ds.length = es.length
    · rw [← hl, Nat.min_self, all_eq_iff hl]
      simp
    · rw [decide_eq_false (fun z => hl (by rw [z]))]
      simp [hl]
  refine ⟨.bl (!decide (ds = es)), H, I, by rw [e]; rfl, q _ ?_⟩
  simp
end L2
namespace BB
open PySem L2
end BB
namespace BB
open PySem L2
end BB
namespace L2
open PySem PySem.Spec PySem.SeqAt PyProof.Rows BB
end L2
namespace BB
open PySem L2
end BB
namespace BB
open PySem L2
end BB
namespace L2
open PySem PySem.Spec PyProof.Rows BB
end L2
namespace BB
open PySem L2
end BB
namespace BB
open PySem L2
end BB
namespace L2
open PySem PySem.Spec PySem.Calls PyProof.Rows PySem.W
structure ExcK (K : Frag) (C : Addr) : Prop where
  exc : excIn K C [.type "ValueError", .type "Exception", .type "BaseException", .type "object"] "ValueError.__new__" = true
  ga : findIn K (.ref C) "__getattribute__" = some (some (.builtin "BaseException.__getattribute__"))
  gt : findIn K (.ref C) "__getattr__" = some none
  cl : findIn K (.ref C) "__class__" = some (some (.builtin "object.__class__"))
  mo : mroIn K C (.type "object") = some true
  mb : mroIn K C (.type "BaseException") = some true
section
variable {prog : Program} {w : World} {A : Around} {E : Value → Shared → Prop} {h : Heap} {g : Array GenState} {d : Drawn} {t : Nat} {os : OsState} {a C : Addr} {o : Obj} {K : Frag}
open Builtin Builtin.ObjectAttr Builtin.Getset_descriptor in
theorem xcls_get {R : Result → Shared → Prop} {tp : Value} (X : K.In h) (hx : h.get? a = some o) (hc : o.cls = .ref C) (F : ExcK K C) (hq : R (.ok (.ret (.ref C))) ⟨h, g, d, t, os⟩) :
    codeAny (model prog w) A (.call (.builtin "getset_descriptor.__get__") ⟨[.builtin "object.__class__", .ref a, tp], []⟩) R ⟨h, g, d, t, os⟩ := by
  have L0 : Looks (model prog w) h (typeOf (.ref a)) (.ref C) := hc ▸ (Looks.ld hx).andThen .now
  have L1 := looks_mroIn (M := model prog w) X F.mo
  refine codeAny_call_builtin KF.slot_gs.plain KF.entry_gs (KF.slot_gs.check _ _ _ _ _ _ _ _ KF.type_class (KF.args_gs _ _ _) ?_)
  unfold Builtin.«getset_descriptor.__get__» descrGet
  rw [dga_obj]
  refine wpAny_bind (wpAny_pure ?_)
  unfold descrGetter descrCheckInstance descrNameAndClass isInstance
  simp only [KF.owner_class]
  repeat lk
  refine ⟨Code.quiet_builtin _ (by decide +kernel), codeAny_builtin KF.entry_class ?_⟩
  unfold Builtin.«object.__class__» shownTypeOf
  repeat lk
  exact hq
theorem xcls_entry {tk : Tok} {Q : Fin → Shared → Prop} (X : K.In h) (hx : h.get? a = some o) (hc : o.cls = .ref C) (F : ExcK K C) (hq : Q (.done (.ret (.ref C))) ⟨h, g, d, t, os⟩) :
    wpAny (model prog w) A (Builtin.«object.__getattribute__» ⟨[.ref a, .str "__class__" tk], []⟩) Q E ⟨h, g, d, t, os⟩ := by
  have f5 := PySem.F.typeOf_object_class
  have f6 := PySem.F.slot_gs_get.lookup
  have f7 := PySem.F.slot_gs_set.lookup
  have L1 := looks_findIn (M := model prog w) X F.cl
  repeat (any_goals (first | assumption | (with_reducible refine wpAny_loadPart_at hx ?_; rw [hc]) | with_reducible refine L1.at ?_ | wp_step))
  refine xcls_get X hx hc F ?_
  repeat (any_goals (first | assumption | wp_step))
theorem xcls_check {M : Model} {nameV : Value} {Q : Unit → Shared → Prop} (X : K.In h) (hx : h.get? a = some o) (hc : o.cls = .ref C) (F : ExcK K C) (hq : Q () ⟨h, g, d, t, os⟩) :
    wpAny M A (checkBuiltinCall "BaseException.__getattribute__" ⟨[.ref a, nameV], []⟩) Q E ⟨h, g, d, t, os⟩ := by
  have hk : builtinKind "BaseException.__getattribute__" = some .slot := by decide +kernel
  have hsplit : splitId "BaseException.__getattribute__" = some ("BaseException", "__getattribute__") := by decide +kernel
  have ha := PySem.F.args_bexc_ga (.ref a) nameV
  have L0 : Looks M h (typeOf (.ref a)) (.ref C) := hc ▸ (Looks.ld hx).andThen .now
  have L1 := looks_mroIn (M := M) X F.mb
  simp only [checkBuiltinCall, hk, hsplit]
  refine wpAny_bind ?_
  · unfold isInstance
    repeat (first | with_reducible refine L0.at ?_ | with_reducible refine L1.at ?_ | wp_step)
    exact hq
theorem xcls_call {tk : Tok} {R : Result → Shared → Prop} (X : K.In h) (hx : h.get? a = some o) (hc : o.cls = .ref C) (F : ExcK K C) (hq : R (.ok (.ret (.ref C))) ⟨h, g, d, t, os⟩) :
    codeAny (model prog w) A (.call (.builtin "BaseException.__getattribute__") ⟨[.ref a, .str "__class__" tk], []⟩) R ⟨h, g, d, t, os⟩ :=
  codeAny_call_builtin PySem.F.attr_ValueError.ga.plain PySem.F.entry_bexc_ga (xcls_check X hx hc F (xcls_entry X hx hc F hq))
theorem xcls_by {tk : Tok} {fill expr : Bool} {Q : Value → Shared → Prop} (X : K.In h) (hx : h.get? a = some o) (hc : o.cls = .ref C) (F : ExcK K C) (hq : Q (.ref C) ⟨h, g, d, t, os⟩) :
    wpAny (model prog w) A (getAttrBy (.ref a) (.str "__class__" tk) fill expr) Q E ⟨h, g, d, t, os⟩ := by
  have f3 := PySem.F.attr_ValueError.ga.bind (.ref a)
  have hx0 : (expr && onTheHeap (Value.builtin "BaseException.__getattribute__")) = false := by cases expr <;> rfl
  have hx2 : (Value.builtin "BaseException.__getattribute__" == Value.builtin "object.__getattribute__") = false := by decide +kernel
  have hx1 : (onTheHeap (Value.ref C) && Value.builtin "BaseException.__getattribute__" == Value.builtin "object.__getattribute__") = false := by rw [hx2]; rfl
  have L1 := looks_findIn (M := model prog w) X F.ga
  have L2 := looks_findIn (M := model prog w) X F.gt
  repeat (any_goals (first | assumption | (with_reducible refine wpAny_loadPart_at hx ?_; rw [hc]) | with_reducible refine L1.at ?_ | with_reducible refine L2.at ?_ | wp_step))
  refine xcls_call X hx hc F ?_
  repeat (any_goals (first | assumption | wp_step))
theorem xcls_attr {Q : Option Value → Shared → Prop} (X : K.In h) (hx : h.get? a = some o) (hc : o.cls = .ref C) (F : ExcK K C) (hq : Q (some (.ref C)) ⟨h, g, d, t + 1, os⟩) :
    wpAny (model prog w) A (getAttr? (.ref a) "__class__") Q E ⟨h, g, d, t, os⟩ := by
  unfold getAttr? getAttrBy?
  repeat (any_goals (first | assumption | with_reducible apply xcls_by X hx hc F | wp_step))
theorem kitx_exc (F : ExcK K C) : KitX K (.ref a) (.ref C) (fun h => ∃ o, h.get? a = some o ∧ o.cls = .ref C) where
  ty := fun _ _ _ ⟨_, hx, hc⟩ => hc ▸ (Looks.ld hx).andThen .now
  it := fun _ _ X _ => by
    have hb := F.mb
    unfold mroIn clsIn at hb
    split at hb
    · rename_i c' d' cd' sl' ho
      intro A' Q' E' s' k q
      unfold isType loadHead
      exact wpAny_bind (wpAny_loadPart (k _ _ (X _ _ ho)) (wpAny_pure q))
    · cases hb
  ne := fun h tp dd its n sl X htp => by
    refine Bool.eq_false_iff.mpr fun q => ?_
    have e : C = tp := Value.ref.inj (beq_iff_eq.mp q)
    subst e
    have hb := F.mb
    unfold mroIn clsIn at hb
    split at hb
    · rename_i c' d' cd' sl' ho
      have z := (X _ _ ho).symm.trans htp
      cases z
    · cases hb
  ca := fun {_ _ _ _ _ s} X ⟨_, hx, hc⟩ k => by obtain ⟨h, g, d, t, os⟩ := s; exact xcls_attr X hx hc F k
end
def cvOf : V → Value
  | .ref D => .ref D
  | .ty n => .type n
  | _ => .none
def rIsx (K : Frag) (ea C : Addr) : List V → Hp → VK → Prop := fun xs H Q => ∃ v b, xs = [.ref ea, v] ∧ kitOne K (.ref C) (cvOf v) = some b ∧ Q (.bl b) H
theorem call_isx {X : Cx} {K : Frag} {ea C : Addr} {oe : Obj} (hp : (ea, oe) ∈ X.pn) (hc : oe.cls = .ref C) (F : ExcK K C) (hK : X.K = K := by rfl) : CallR X (.builtin "isinstance") (rIsx K ea C) := by
  subst hK
  intro pins s σ H xs us Q I r h
  obtain ⟨v, b, rfl, k, q⟩ := h
  obtain ⟨u, w', rfl, r1, r2⟩ := vals2 r
  cases (show u = Value.ref ea from r1)
  have hv : w' = cvOf v := by
    cases v with
    | ref D => exact r2
    | ty n => exact r2
    | non => exact absurd k (by intro z; cases z)
    | bl _ => exact absurd k (by intro z; cases z)
    | int _ => exact absurd k (by intro z; cases z)
    | str _ => exact absurd k (by intro z; cases z)
    | byt _ => exact absurd k (by intro z; cases z)
    | flt _ => exact absurd k (by intro z; cases z)
  subst hv
  have hx := (I.pin (ea, oe) (List.mem_append_left _ hp)).1
  exact kia_one (kitx_exc F) I.kIn ⟨oe, hx, hc⟩ k (fun z => nomatch z) fun tk => ⟨.bl b, H, I.tok tk, rfl, q⟩
end L2
namespace L2
open PySem PySem.Spec PySem.Calls PyProof.Rows PySem.W
theorem ObjOk.there {P : Program} {w : World} {H : Hp} {h : Heap} {a : Addr} {o : HO} (x : ObjOk P w H h a o) : ∃ ob, h.get? a = some ob := by
  cases o with
  | lst xs => obtain ⟨_, _, _, _, e⟩ := x; exact ⟨_, e⟩
  | tup xs => obtain ⟨_, _, _, _, e⟩ := x; exact ⟨_, e⟩
  | dK kvs => obtain ⟨_, _, _, _, o, _, _, e, _⟩ := x; exact ⟨_, e⟩
  | dT kvs => obtain ⟨_, _, _, _, o, _, _, e, _⟩ := x; exact ⟨_, e⟩
  | set S n => obtain ⟨o, _, _, _, e, _⟩ := x; exact ⟨_, e⟩
  | ins C dx fs => obtain ⟨_, _, _, e, _⟩ := x; exact ⟨_, e⟩
  | own y => obtain ⟨_, e⟩ := x; exact ⟨_, e⟩
  | xd fs => obtain ⟨_, ⟨_, _, _, e, _⟩, _⟩ := x; exact ⟨_, e⟩
  | rng lo hi => obtain ⟨_, _, _, e⟩ := x; exact ⟨_, e⟩
  | frz ob u => obtain ⟨e, _⟩ := x; exact ⟨_, e⟩
  | tbl ps => exact ⟨_, (show h.get? a = some _ from x)⟩
  | met f y => exact ⟨_, (show h.get? a = some _ from x)⟩
  | ext φ => obtain ⟨_, ⟨_, e⟩, _⟩ := x; exact ⟨_, e⟩
def CX1 (P : Program) (w : World) : CXT := fun outer H s E e s' => ∃ (ea C : Addr) (a0 : Value) (B : Heap) (H' : Hp),
  e = .ref ea ∧ s'.os = s.os ∧ AllBare s'.gens ∧ Un (frs outer) [] H H' s.heap s'.heap ∧ HOk P w H' s'.heap ∧ Heap.FlyingW B outer ea (.ref C) a0 s'.heap ∧
  (∀ b o, s.heap.get? b = some o → b ∉ frs outer → ∃ o', B.get? b = some o' ∧ (H b = none → o' = o)) ∧ (∀ b u, H' b = some u → ∃ o', B.get? b = some o') ∧ E (.ref C) none H'
theorem hok_fly {P : Program} {w : World} {H' : Hp} {B h h' : Heap} (hok : HOk P w H' h) (k1 : B.StaysIn h) (k2 : B.StaysIn h') (b2 : ∀ b u, H' b = some u → ∃ o', B.get? b = some o') : HOk P w H' h' := fun a o e =>
  (hok a o e).stay (fun b u hb q => by
    have ht : ∃ v, H' b = some v := by
      rcases hb with rfl | hb
      · exact ⟨_, e⟩
      · exact ⟨_, hb⟩
    obtain ⟨v, hv⟩ := ht
    obtain ⟨o', ho'⟩ := b2 b v hv
    have := k1 b o' ho'
    rw [q] at this; cases this
    exact k2 b _ ho') (fun _ q => q) fun _ _ q => q
theorem un_fly {fs : List Addr} {H H1 H' : Hp} {h h1 h2 h' : Heap} {l : List Addr} {B : Heap} (u1 : Un fs [] H H1 h h1) (u2 : Un l [] H1 H' h1 h2) (hl : ∀ b o, h.get? b = some o → b ∈ l → b ∈ fs)
    (b1 : ∀ b o, h1.get? b = some o → b ∉ l → ∃ o', B.get? b = some o' ∧ (H1 b = none → o' = o)) (st : B.StaysIn h') (up : h2.UpToSlots h')
    (hf : ∀ b ∈ fs, H b = none ∧ ∃ o, h.get? b = some o ∧ ∀ vs, o.data ≠ .fields vs) :
    Un fs [] H H' h h' ∧ ∀ b o, h.get? b = some o → b ∉ fs → ∃ o', B.get? b = some o' ∧ (H b = none → o' = o) := by
  have nx : ∀ b : Addr, b ∉ ([] : List Addr) := fun b => by simp
  have bb : ∀ b o, h.get? b = some o → b ∉ fs → ∃ o', B.get? b = some o' ∧ (H b = none → o' = o) := fun b o q nf => by
    obtain ⟨o1, e1⟩ := u1.there b o q (nx b)
    obtain ⟨o', e', g⟩ := b1 b o1 e1 fun z => nf (hl b o q z)
    refine ⟨o', e', fun n => ?_⟩
    have := u1.keep b o q n nf (nx b)
    rw [e1] at this; cases this
    exact g (u1.free b _ q n (nx b))
  have sl : ∀ b o, h.get? b = some o → H b = none → b ∈ fs → ∃ sl, h'.get? b = some { o with slots := sl } := fun b o q n m => by
    obtain ⟨s1, e1⟩ := u1.slot b o q n m (nx b)
    obtain ⟨s2, e2⟩ := u2.any e1 (u1.free b o q n (nx b)) (nx b)
    obtain ⟨_, o0, q0, nf⟩ := hf b m
    rw [q] at q0; cases q0
    obtain ⟨s3, e3⟩ := up b _ e2 nf
    exact ⟨s3, e3⟩
  refine ⟨⟨fun b o q n nf _ => ?_, fun b o q n m _ => sl b o q n m, fun b o q n _ => ?_, fun b o q _ => ?_, fun b xs q => u2.tups b xs (u1.tups b xs q), fun b o u q => u2.frzs b o u (u1.frzs b o u q), fun b ps q => ?_⟩, bb⟩
  · obtain ⟨o', e', g⟩ := bb b o q nf
    rw [← g n]; exact st b o' e'
  · obtain ⟨o1, e1⟩ := u1.there b o q (nx b)
    exact u2.free b o1 e1 (u1.free b o q n (nx b)) (nx b)
  · by_cases m : b ∈ fs
    · obtain ⟨n, _⟩ := hf b m
      obtain ⟨s3, e3⟩ := sl b o q n m
      exact ⟨_, e3⟩
    · obtain ⟨o', e', _⟩ := bb b o q m
      exact ⟨o', st b o' e'⟩
  · obtain ⟨m1, e1⟩ := u1.tbls b ps q
    obtain ⟨m2, e2⟩ := u2.tbls b _ e1
    exact ⟨m1 ++ m2, by rw [e2, Array.append_assoc]⟩
section
variable {P : Program} {w : World} {K : PySem.W.Frag} {mg : Str → Option Value} {base : Heap} {N : List Str} {qual : Str} {scope : Scope} {f : Addr} {cd : Value} {A : Around} {outer : List Env} {s : Shared} {H : Hp} {E : XK}
theorem frs_in {l : List Env} {env : Env} {L : Addr} (hf : env.frame = some L) : frs (env :: l) = L :: frs l := by unfold frs; rw [List.filterMap_cons, hf]
theorem pass1 : Passes (CX1 P w) (cxOf (CX1 P w) P w K mg base N qual scope f cd A outer s H E) E := by
  intro pins σ H1 s1 e s2 I h
  obtain ⟨ea, C, a0, B, H', rfl, hos, hbare, un, hok, fly, b1, b2, q⟩ := h
  show wpAny _ _ (leaving _ _) _ _ s2
  refine wpAny_leaves_onW (E := fun e' s'' => CX1 P w outer H s E e' s'') I.ok.frames rfl fly fun h' fly' up => ?_
  obtain ⟨U, b1'⟩ := un_fly (fs := frs outer) (H := H) (h := s.heap) (l := frs (envOfC qual scope s.heap.objs.size f cd :: outer)) (B := B) (h' := h') I.base un (fun b o hb z => by
      rw [frs_in (L := s.heap.objs.size) rfl] at z
      rcases List.mem_cons.mp z with rfl | z
      · exact absurd (Heap.lt_size hb) (Nat.lt_irrefl _)
      · exact z) b1 fly'.1 up (fun b hb => ⟨I.ok.frf b hb, (I.ok.funs.mem hb).2⟩)
  exact ⟨ea, C, a0, B, H', rfl, hos.trans I.os, hbare, U, hok_fly hok fly.1 fly'.1 b2, fly', b1', b2, q⟩
def tRaise (te : TE) (C : Addr) (E : XK) : TS := fun _ σ H => te σ H fun _ H1 => E (.ref C) none H1
theorem own_cls {h : Heap} {C : Addr} {x : Str} (X : K.In h) (F : ExcK K C) (hm : mg x = some (.ref C)) : OwnCls x C [.type "ValueError", .type "Exception", .type "BaseException", .type "object"] "ValueError.__new__" mg h := by
  have q := F.exc
  refine ⟨hm, ?_⟩
  unfold excIn at q
  split at q
  · rename_i dd cd sl ho
    split at q
    · rename_i C' bm k0 k1 k2 k3 n k5 hm hs
      simp only [Bool.and_eq_true, beq_iff_eq, Bool.not_eq_true'] at q
      obtain ⟨⟨⟨⟨⟨rfl, rfl⟩, hdel⟩, ht⟩, hok⟩, hni⟩ := q
      obtain ⟨nm, bs, mro, ns, qn, hd, sn, sub, ab, col, del⟩ := cd
      dsimp only at hm hdel hok hni
      subst hm hdel
      have hsl : sl = #[k0, k1, k2, k3, some (.builtin "ValueError.__new__"), k5] := by
        obtain ⟨l⟩ := sl
        simp only at hs
        rw [hs]
      subst hsl
      exact ⟨bm, ns, nm, qn, bs, hd, sn, sub, ab, col, dd, k0, k1, k2, k3, k5, _, X _ _ ho, .of_isNs (isNs_of_in X hok), nsMap_none_of_in X hok hni, tail_of_in X ht⟩
    · cases q
  · cases q
theorem ps_raise {C : Addr} {x : Str} {e0 : Expr} {te : TE} {np cpos pos : Pos} (F : ExcK K C) (hm : mg x = some (.ref C)) (he : PE (cxOf (CX1 P w) P w K mg base N qual scope f cd A outer s H E) e0 te)
    (hx : (envOfC qual scope s.heap.objs.size f cd).kindOf x = some .globalImplicit := by rfl)
    (hst : starEach [e0] (envOfC qual scope s.heap.objs.size f cd) = [(false, eval e0 (envOfC qual scope s.heap.objs.size f cd))] := by rfl) (hd : (x == ("__debug__" : Str)) = false := by decide) :
    PS (cxOf (CX1 P w) P w K mg base N qual scope f cd A outer s H E) (.Raise (some (.Call (.Name x np) [e0] [] cpos)) none pos) (tRaise te C E) := by
  intro pins s1 σ H1 D I h
  obtain ⟨tl, N', nm, q, bs, hdct, sn, sub, ab, col, dd, k0, k1, k2, k3, k5, mN, hC, hN, hni, T⟩ := (own_cls I.mod.kin F hm).obj
  refine wpAny_Raise_call_subT (C := C) (nm := nm) (q := q) (N := N') (bs := bs) (bm := tl) (hdct := hdct) (sn := sn) (sub := sub) (ab := ab) (col := col) (dd := dd) (k0 := k0) (k1 := k1) (k2 := k2) (k3 := k3) (k5 := k5)
    PySem.F.excBase_ValueError (mN := mN) (T.hasType PySem.F.excBase_ValueError.hasBase) (I.ok.hd rfl) (by show (backTo cpos (starEach [e0] (envOfC qual scope s.heap.objs.size f cd))).any (·.1) = false; rw [hst]; rfl) hni (ld_glob I hx hm ⟨rfl, ?_⟩ hd)
  show wpAny _ _ (evalArgs _ true (backTo cpos (starEach [e0] (envOfC qual scope s.heap.objs.size f cd))) []) _ _ _
  rw [hst]
  refine Calls.evalArgs_plain (Calls.spliced_cons (thn (he pins s1 σ H1 _ I h) fun v s2 ⟨y, H2, I2, r2, q2⟩ => Calls.spliced_nil ⟨rfl, by show 1 ≤ sizeLine; decide, I2.bk _ _ hC, hN.keeps I2.bk, T.keeps I2.bk, fun h' e hx => ?_⟩))
  show wpAny _ _ (leaving _ _) _ _ _
  have FF := I2.stack
  have hl : ∀ env ∈ envOfC qual scope s.heap.objs.size f cd :: outer, ∀ a, env.frame = some a → a ∈ frs (envOfC qual scope s.heap.objs.size f cd :: outer) := fun env he a ha => List.mem_filterMap.mpr ⟨env, he, ha⟩
  refine wpAny_leaves_madeW (base := hideAll s2.heap (frs (envOfC qual scope s.heap.objs.size f cd :: outer))) (h := s2.heap) I.ok.frames rfl (fun b o z => of_hideAll _ z) (funFrames_hide FF hl) hx fun h2 t fly tup tn up => ?_
  have nf : ∀ b u, H2 b = some u → b ∉ frs (envOfC qual scope s.heap.objs.size f cd :: outer) := fun b u e z => by rw [I2.stkFree b z] at e; cases e
  obtain ⟨U, b1'⟩ := un_fly (fs := frs outer) (H := H) (H1 := H2) (H' := H2) (h := s.heap) (h1 := s2.heap) (h2 := h') (l := frs (envOfC qual scope s.heap.objs.size f cd :: outer)) (B := hideAll s2.heap (frs (envOfC qual scope s.heap.objs.size f cd :: outer))) (h' := h2) I2.base (Un.kept hx.keeps) (fun b o hb z => by
      rw [frs_in (L := s.heap.objs.size) rfl] at z
      rcases List.mem_cons.mp z with rfl | z
      · exact absurd (Heap.lt_size hb) (Nat.lt_irrefl _)
      · exact z) (fun b o hb z => ⟨o, hideAll_get _ hb z, fun _ => rfl⟩) fly.1 up (fun b hb => ⟨I.ok.frf b hb, (I.ok.funs.mem hb).2⟩)
  have b2 : ∀ b u, H2 b = some u → ∃ o', (hideAll s2.heap (frs (envOfC qual scope s.heap.objs.size f cd :: outer))).get? b = some o' := fun b u e => by
    obtain ⟨o, ho⟩ := (I2.hok b u e).there
    exact ⟨o, hideAll_get _ ho (nf b u e)⟩
  exact ⟨e, C, .ref t, _, H2, rfl, I2.os, I2.bare, U, hok_fly I2.hok (fun b o z => of_hideAll _ z) fly.1 b2, fly, b1', b2, q2⟩
end
end L2
namespace L2
open PySem PySem.Spec PySem.Calls PyProof.Rows PySem.W
section
variable {X : Cx} {pins : List (Addr × Obj)} {σ : St} {H : Hp} {s : Shared}
def Cx.tryB (X : Cx) (pins : List (Addr × Obj)) (R : St → Value → Hp → Prop) : Cx := { X with
  pn := X.pn ++ pins
  xe := fun e s' => ∃ σ1 H1 s1, Inv X pins σ1 H1 s1 ∧ CX1 X.prog X.w X.stack H1 s1 (fun c _ H' => R σ1 c H') e s' }
def Cx.suite (X : Cx) (ea : Addr) (oe : Obj) : Cx := { X with
  A := X.A.mark (some (.ref ea))
  calm := false
  pn := X.pn ++ [(ea, oe)]
  xe := fun _ _ => False }
theorem Inv.tryB (I : Inv X pins σ H s) (R : St → Value → Hp → Prop) : Inv (X.tryB pins R) [] σ H s :=
  ⟨⟨I.ok.mod, I.ok.kind, I.ok.glob, I.ok.blt, I.ok.above, I.ok.inj, I.ok.has, I.ok.cab, I.ok.hd, I.ok.frames, I.ok.stk, I.ok.exf, I.ok.bs, I.ok.bsz, I.ok.noex, I.ok.exfs, I.ok.funs, I.ok.frf⟩,
    I.os, I.bare, I.base, I.loc, I.cell, I.free, I.freeC, fun p hp => I.pin p (by simpa [Cx.tryB] using hp), I.hok, I.len⟩
theorem Inv.untryB {R : St → Value → Hp → Prop} {pins' : List (Addr × Obj)} (I : Inv (X.tryB pins R) pins' σ H s) : Inv X pins σ H s :=
  ⟨⟨I.ok.mod, I.ok.kind, I.ok.glob, I.ok.blt, I.ok.above, I.ok.inj, I.ok.has, I.ok.cab, I.ok.hd, I.ok.frames, I.ok.stk, I.ok.exf, I.ok.bs, I.ok.bsz, I.ok.noex, I.ok.exfs, I.ok.funs, I.ok.frf⟩,
    I.os, I.bare, I.base, I.loc, I.cell, I.free, I.freeC, fun p hp => I.pin p (List.mem_append_left _ hp), I.hok, I.len⟩
theorem Inv.suite {ea : Addr} {oe : Obj} (I : Inv X pins σ H s) (h : s.heap.get? ea = some oe ∧ H ea = none ∧ ea ≠ X.env.locals ∧ ea ∉ X.fs ∧ ∀ v, oe.data ≠ .cell v) : Inv (X.suite ea oe) pins σ H s :=
  ⟨⟨I.ok.mod, I.ok.kind, I.ok.glob, I.ok.blt, I.ok.above, I.ok.inj, I.ok.has, I.ok.cab, (fun z => nomatch z), I.ok.frames, I.ok.stk, I.ok.exf, I.ok.bs, I.ok.bsz, I.ok.noex, I.ok.exfs, I.ok.funs, I.ok.frf⟩,
    I.os, I.bare, I.base, I.loc, I.cell, I.free, I.freeC, fun p hp => by
      have hp : p ∈ (X.pn ++ [(ea, oe)]) ++ pins := hp
      rcases List.mem_append.mp hp with hp | hp
      · rcases List.mem_append.mp hp with hp | hp
        · exact I.pin p (List.mem_append_left _ hp)
        · obtain rfl := List.mem_singleton.mp hp
          exact h
      · exact I.pin p (List.mem_append_right _ hp), I.hok, I.len⟩
theorem Inv.unsuite {ea : Addr} {oe : Obj} (I : Inv (X.suite ea oe) pins σ H s) (hd : X.calm = true → X.A.handled = none) : Inv X pins σ H s :=
  ⟨⟨I.ok.mod, I.ok.kind, I.ok.glob, I.ok.blt, I.ok.above, I.ok.inj, I.ok.has, I.ok.cab, hd, I.ok.frames, I.ok.stk, I.ok.exf, I.ok.bs, I.ok.bsz, I.ok.noex, I.ok.exfs, I.ok.funs, I.ok.frf⟩,
    I.os, I.bare, I.base, I.loc, I.cell, I.free, I.freeC, fun p hp => I.pin p (by
      show p ∈ (X.pn ++ [(ea, oe)]) ++ pins
      rcases List.mem_append.mp hp with hp | hp
      · exact List.mem_append_left _ (List.mem_append_left _ hp)
      · exact List.mem_append_right _ hp), I.hok, I.len⟩
theorem name_goes {M : Model} {A : Around} {E : Value → Shared → Prop} {i : Nat} {x : Str} {pos : Pos} {Q : Unit → Shared → Prop} (I : Inv X pins σ H s) (hN : X.N.Nodup) (hi : X.N[i]? = some x) (hx : X.env.scope.names.lookup x = some .local)
    (h : ∀ s', Inv X pins (σ.set i none) H s' → Q () s') : wpAny M A (do bindName X.env x .none; unbindBehindTheSuite X.env x pos) Q E s := by
  have hcls : (X.env.scope.kind == .class || (X.env.scope.kind == .module && X.env.locals != X.env.globals)) = false := by rw [I.ok.kind]; rfl
  refine wpAny_bind (wpAny_bindName (store_ok (v := .non) I hN hi (.inl hx) rfl (fun s1 I1 => ?_) (.inr hx)))
  unfold unbindBehindTheSuite
  refine wpAny_onRaise (wpAny_mono (E := fun _ _ => False) ?_ (fun _ _ z => z) fun _ _ z => z.elim)
  obtain ⟨m, hn, hl⟩ := id I1.loc
  have hiσ : i < σ.length := by rw [I.len]; exact (List.getElem?_eq_some_iff.mp hi).1
  obtain ⟨u, ru, lu⟩ := hl i x .non hi (List.getElem?_set_self hiσ) (.inl hx)
  have hv : m x = some Value.none := by
    rcases lu with ⟨_, e⟩ | ⟨k, _⟩
    · cases (show u = Value.none from ru); exact e
    · have hx' : X.env.kindOf x = some .local := hx
      rw [hx'] at k; rcases k with k | k <;> cases k
  refine wpAny_unbindName_local hx hn hv hcls fun h' u' hn' hs => ?_
  obtain ⟨oL, _, _, hoL, _⟩ := id hn
  have neL : ∀ b o, X.s₀.heap.get? b = some o → b ≠ X.env.locals := fun b o e => Nat.ne_of_lt (Nat.lt_of_lt_of_le (Heap.lt_size e) I.ok.above)
  refine h _ ⟨I1.ok, I1.os, I1.bare, ⟨fun b o e n hb hx => (hs.2 b (neL b o e)).trans (I1.base.keep b o e n hb hx), fun b o e n hb hx => ?_, I1.base.free, fun b o e hx => ?_, I1.base.tups, I1.base.frzs, I1.base.tbls⟩, ⟨_, hn', fun j y v' e1 e2 e3 => ?_⟩, fun y c e => ?_, I1.free, I1.freeC, fun p hp => ?_, ?_, by simpa using I.len⟩
  · obtain ⟨sl, e1⟩ := I1.base.slot b o e n hb hx
    exact ⟨sl, (hs.2 b (neL b o e)).trans e1⟩
  · obtain ⟨o', e1⟩ := I1.base.there b o e hx
    exact ⟨o', (hs.2 b (neL b o e)).trans e1⟩
  · by_cases hj : j = i
    · subst hj
      rw [List.getElem?_set_self hiσ] at e2
      cases e2
    · rw [List.getElem?_set_ne (Ne.symm hj)] at e2
      obtain ⟨u2, r2, q2⟩ := hl j y v' e1 (by rw [List.getElem?_set_ne (Ne.symm hj)]; exact e2) e3
      refine ⟨u2, r2, ?_⟩
      rcases q2 with ⟨k, e⟩ | ⟨k, c, e, z⟩
      · refine .inl ⟨k, ?_⟩
        have : y ≠ x := fun e => hj (nodup_ix hN e1 (e ▸ hi))
        simp [this, e]
      · exact .inr ⟨k, c, e, z.sameBut hs (I1.cne y c e)⟩
  · obtain ⟨w', z⟩ := I1.cell y c e
    exact ⟨w', z.sameBut hs (I1.cne y c e)⟩
  · obtain ⟨e, n, ne, nf, d⟩ := I1.pin p hp
    exact ⟨(hs.2 p.1 ne).trans e, n, ne, nf, d⟩
  · intro b ob e
    refine (I1.hok b ob e).stay (fun c w' hc q => (hs.2 c ?_).trans q) (fun _ q => q) fun _ _ q => q
    rintro rfl
    rcases hc with rfl | hc
    · rw [I1.free] at e; cases e
    · rw [I1.free] at hc; cases hc
end
structure Hit (K : Frag) (C Ch : Addr) : Prop where
  exc : ExcK K C
  hit : exmOne K (.ref C) (.ref Ch) = some true
def Ends.as (D : Ends) (i : Nat) : Ends := { nx := fun σ H => D.nx (σ.set i none) H, rt := D.rt, bk := fun σ H => D.bk (σ.set i none) H, ct := fun σ H => D.ct (σ.set i none) H }
def tryR (K : Frag) (Ch : Addr) (i : Nat) (ts : Addr → Addr → TS) (D : Ends) : St → Value → Hp → Prop := fun σ1 c H' => ∃ C, c = .ref C ∧ Hit K C Ch ∧ ∀ ea, H' ea = none → ts ea C (D.as i) (σ1.set i (some (.ref ea))) H'
def tTry (K : Frag) (Ch : Addr) (i : Nat) (tb : (St → Value → Hp → Prop) → TS) (ts : Addr → Addr → TS) : TS := fun D σ H => tb (tryR K Ch i ts D) D σ H
theorem SP.untryB {X : Cx} {pins : List (Addr × Obj)} {R : St → Value → Hp → Prop} {D : Ends} {f : Flow} {s' : Shared} (h : SP (X.tryB pins R) [] D f s') : SP X pins D f s' := by
  cases f with
  | next => obtain ⟨σ', H', I, q⟩ := h; exact ⟨σ', H', I.untryB, q⟩
  | brk => obtain ⟨σ', H', I, q⟩ := h; exact ⟨σ', H', I.untryB, q⟩
  | cont => obtain ⟨σ', H', I, q⟩ := h; exact ⟨σ', H', I.untryB, q⟩
  | ret u => obtain ⟨v, σ', H', I, r, q⟩ := h; exact ⟨v, σ', H', I.untryB, r, q⟩
theorem ps_try_as {X : Cx} {Ch : Addr} {cx n : Str} {i : Nat} {np hpos pos : Pos} {body suite : List Stmt} {b0 : Stmt} {tb : (St → Value → Hp → Prop) → TS} {ts : Addr → Addr → TS}
    (hb : ∀ pins R, PSs (X.tryB pins R) body (tb R)) (hs : ∀ ea oe C, oe.cls = .ref C → ExcK X.K C → PSs (X.suite ea oe) (b0 :: suite) (ts ea C))
    (hN : X.N.Nodup) (hi : X.N[i]? = some n) (hn : X.env.scope.names.lookup n = some .local) (hst : X.stack = X.env :: X.outer) (hfr : X.env.frame = some X.env.locals) (hg : Gl X cx) (hm : X.mg cx = some (.ref Ch))
    (hd : (cx == ("__debug__" : Str)) = false := by decide) :
    PS X (.Try body [.ExceptHandler (some (.Name cx np)) (some n) (b0 :: suite) hpos] [] [] pos) (tTry X.K Ch i tb ts) := by
  intro pins s σ H D I h
  refine wpAny_Try_except ?_
  have hbody := hb pins (tryR X.K Ch i ts D) [] s σ H D (I.tryB _) h
  refine wpAny_mono hbody (fun f s1 q => ?_) fun e s1 q => ?_
  · have q' := SP.untryB q
    cases f with
    | next => exact wpAny_execs_nil q'
    | brk => exact q'
    | cont => exact q'
    | ret u => exact q'
  · obtain ⟨σ1, H1, s0, I1, ea, C, a0, B, H', rfl, hos, hbare, un, hok, fly, b1, b2, C', hC', hit, q⟩ := q
    cases hC'
    rw [hst] at fly
    have hfrm : X.A.frames = some (X.env :: X.outer) := by rw [← hst]; exact I1.ok.frames
    have inv : ∀ (h6 : Heap) (tk : Nat), Heap.FlyingW B (X.env :: X.outer) ea (.ref C) a0 h6 → s1.heap.UpToSlots h6 → Inv X pins σ1 H' { s1 with heap := h6 } := fun h6 tk fly6 up => by
      obtain ⟨U, _⟩ := un_fly (fs := frs X.stack) (H := H1) (H1 := H1) (h := s0.heap) (h1 := s0.heap) (h' := h6) (l := frs X.stack) (B := B) Un.refl un (fun b o _ z => z) b1 fly6.1 up (fun b hb => ⟨I1.stkFree b hb, (I1.stack.mem hb).2⟩)
      exact I1.call' (s' := { s1 with heap := h6 }) (ch := []) hos U (hok_fly hok fly.1 fly6.1 b2) hbare fun _ z => nomatch z
    refine wpAny_looks_onW hfrm hfr fly fun h4 held4 up4 => ?_
    refine wpAny_landsW held4 fun h5 fly5 up5 => ?_
    have up45 := up4.trans up5
    have I5 := inv h5 0 fly5 up45
    obtain ⟨o5, hx5, hc5⟩ := fly5.there
    refine wpAny_handleBy_cons (codeAny_handlers_test ?_) (by intro q; cases q)
    have I5m : Inv (X.wish X.xe) pins σ1 H' { s1 with heap := h5 } := I5
    refine Calls.Name_function_global I5.ok.kind hg (Calls.loadGlobal_global (by rw [I5.ok.glob]; exact I5.mod.glob.keeps I5.bk) hm ?_) hd
    refine (exm_one (M := model X.prog X.w) (h := h5) I5.kIn (hc5 ▸ (Looks.ld hx5).andThen .now) hit.hit).here ?_
    refine codeAny_handlers_suite_as ?_
    refine lands_againW (s := { s1 with heap := h5 }) fly5 fun h6 fly6 up6 => ?_
    have I6 := inv h6 0 fly6 (up45.trans up6)
    obtain ⟨oe, vs, hoe, hoc, hod, _⟩ := fly6.first
    have hnone : H' ea = none := by
      cases z : H' ea with
      | none => rfl
      | some u =>
        obtain ⟨o', ho'⟩ := b2 ea u z
        rw [fly6.2.1] at ho'; cases ho'
    have hnf : ea ∉ frs (X.env :: X.outer) := fun z => by
      obtain ⟨_, o, ho, nf⟩ := fly6.2.2.1.mem z
      rw [hoe] at ho; cases ho
      exact nf vs hod
    rw [frs_in hfr] at hnf
    have IS : Inv (X.suite ea oe) pins σ1 H' { s1 with heap := h6 } := I6.suite ⟨hoe, hnone, fun z => hnf (z ▸ List.mem_cons_self), fun z => hnf (List.mem_cons_of_mem _ z), fun v z => by rw [hod] at z; cases z⟩
    refine store_ok (X := X.suite ea oe) (v := .ref ea) IS hN hi (.inl hn) rfl (fun s7 I7 => ?_) (.inr hn)
    refine wpAny_mono (hs ea oe C hoc hit.exc pins s7 _ H' (D.as i) I7 (q ea hnone)) (fun f s8 q8 => ?_) fun _ _ z => False.elim z
    have fin : ∀ {σ8 : St} {H8 : Hp} {Q : Unit → Shared → Prop}, Inv (X.suite ea oe) pins σ8 H8 s8 → (∀ s9, Inv X pins (σ8.set i none) H8 s9 → Q () s9) → wpAny (model X.prog X.w) X.A (do bindName X.env n .none; unbindBehindTheSuite X.env n hpos) Q X.xe s8 := fun {σ8 H8 Q} J k =>
      name_goes (J.unsuite I1.ok.hd) hN hi hn k
    cases f with
    | next => obtain ⟨σ8, H8, J, q⟩ := q8; exact fin J fun s9 J9 => ⟨_, H8, J9, q⟩
    | brk => obtain ⟨σ8, H8, J, q⟩ := q8; exact fin J fun s9 J9 => ⟨_, H8, J9, q⟩
    | cont => obtain ⟨σ8, H8, J, q⟩ := q8; exact fin J fun s9 J9 => ⟨_, H8, J9, q⟩
    | ret u => obtain ⟨v, σ8, H8, J, r, q⟩ := q8; exact fin J fun s9 J9 => ⟨v, _, H8, J9, r, q⟩
end L2
namespace L2
open PySem PySem.Spec PySem.Calls PyProof.Rows PySem.W
section
variable {P : Program} {w : World} {K : PySem.W.Frag} {mg : Str → Option Value} {base : Heap}
theorem Fun.ok1 {x qual : Str} {st : Stmt} {f : Addr} {fd : FuncData} {N ps : List Str} {k : Nat} {sp : Sp} (F : Fun K x qual st f fd) (S : FnScope N ps (defScope st)) (len : ∀ vs H Q E, sp vs H Q E → vs.length = ps.length)
    (hbody : ∀ (cdv : Value) (A : Around) (outer : List Env) (s : Shared) (H : Hp) (vs : List V) (Q : VK) (E : XK), Room k (A.deeper (envOfC qual (defScope st) s.heap.objs.size f cdv)) → sp vs H Q E →
      ∃ t, PSs (cxOf (CX1 P w) P w K mg base N qual (defScope st) f cdv A outer s H E) (defBody st) t ∧ t { nx := fun _ H' => Q .non H', rt := Q } (start N vs) H) : FnOk P w K mg base (CX1 P w) (k + 1) f fd ps sp := by
  obtain ⟨oc, od, kV, doc, pm, an, cdv, ct, osl, rfl, lk, hcd⟩ := F.ex
  exact fn_of lk hcd S len fun A outer s H vs Q E hr hsp => hbody cdv A outer s H vs Q E hr hsp
end
def tCallT (sp : Sp) (dvs : List V) (R : St → Value → Hp → Prop) (t : TA) : TE := fun σ H Q => t σ H fun vs H1 => sp (vs ++ dvs) H1 Q fun c _ H' => R σ c H'
theorem pe_callT {X : Cx} {pins : List (Addr × Obj)} {R : St → Value → Hp → Prop} {k : Nat} {f : Addr} {fd : FuncData} {ps : List Str} {sp : Sp} {dvs : List V} {ds : List Value} {x : Str} {p pos : Pos} {e : Expr} {es : List Expr} {t : TA}
    (F : FnOk X.prog X.w X.K X.mg X.base (CX1 X.prog X.w) k f fd ps sp) (hr : Room k X.A) (hg : Gl X x) (hm : X.mg x = some (.ref f)) (hk : PySem.W.keepIn X.K (.ref f) = true) (hb : Binds X.K fd ps ds) (hd : Vals dvs ds)
    (ha : PA (X.tryB pins R) (e :: es) t) (hdb : (x == ("__debug__" : Str)) = false := by decide) (he : starEach (e :: es) X.env = (false, eval e X.env) :: starEach es X.env := by rfl) (hpl : (backTo pos (starEach es X.env)).any (·.1) = false := by rfl) :
    PE (X.tryB pins R) (.Call (.Name x p) (e :: es) [] pos) (tCallT sp dvs R t) := by
  intro pins' s σ H Q I h
  refine wpAny_Call_Name_kw (ld_glob I hg hm ?_ hdb)
  refine PySem.W.callWith_K (h₀ := X.base) I.ok.mod.kin hk (thn (ha pos pins' s σ H _ I h) fun us s1 ⟨vs, H1, I1, r, q⟩ => ⟨I1.kIn, ?_⟩) he hpl
  have r2 : Vals (vs ++ dvs) (us ++ ds) := r.append hd
  have hl : (us ++ ds).length = ps.length := by rw [← r2.length]; exact F.len _ _ _ _ q
  refine wpAny_call (codeAny_mono (F.run X.A X.stack s1 H1 ⟨us, []⟩ (us ++ ds) (vs ++ dvs) Q _ hr I1.env0 (hb s1 us I1.kIn hl) r2 q) fun r s' hq => ?_)
  cases r with
  | error e => exact ⟨σ, H1, s1, I1.untryB, hq⟩
  | ok fl =>
    cases fl with
    | ret u => exact I1.after hq
    | next => exact False.elim hq
    | brk => exact False.elim hq
    | cont => exact False.elim hq
theorem try_intro {K : Frag} {Ch : Addr} {i : Nat} {tb : (St → Value → Hp → Prop) → TS} {ts : Addr → Addr → TS} {D : Ends} {σ : St} {H : Hp} (R : St → Value → Hp → Prop) (h1 : ∀ R' : St → Value → Hp → Prop, (∀ σ1 c H', R σ1 c H' → R' σ1 c H') → tb R' D σ H)
    (h2 : ∀ σ1 c H', R σ1 c H' → tryR K Ch i ts D σ1 c H') : tTry K Ch i tb ts D σ H := h1 _ h2
theorem pin_suite {X : Cx} {ea : Addr} {oe : Obj} : (ea, oe) ∈ (X.suite ea oe).pn := List.mem_append_right _ (List.mem_singleton.mpr rfl)
end L2
namespace L2
open PySem PySem.Spec PySem.Calls PyProof.Rows PySem.SeqAt
theorem room_2 {k : Nat} {A : Around} (hr : Room k A) : A.units + 2 < cLine := by
  have := hr.units
  omega
def rEqLB (K : PySem.W.Frag) : R2 := fun x y H Q => ∃ (a b : Addr) (bs cs : List Bool), x = .ref a ∧ y = .ref b ∧ SqL K H a (bs.map V.bl) ∧ SqL K H b (cs.map V.bl) ∧ Q (.bl (bs == cs)) H
theorem vals_bl {bs : List Bool} {us : List Value} (r : Vals (bs.map V.bl) us) : us = bs.map Value.bool := by
  induction bs generalizing us with
  | nil => cases r; rfl
  | cons b bs ih =>
    cases r with
    | cons r1 r2 =>
      rw [ih r2]
      cases (show _ = Value.bool b from r1)
      rfl
theorem beq_all {bs cs : List Bool} (hl : bs.length = cs.length) : (List.range bs.length).all (fun j => (bs.getD j false == cs.getD j false)) = (bs == cs) := by
  induction bs generalizing cs with
  | nil => cases cs with
    | nil => rfl
    | cons c cs => cases hl
  | cons b bs ih => cases cs with
    | nil => cases hl
    | cons c cs =>
      rw [List.length_cons, List.range_succ_eq_map, List.all_cons, List.all_map]
      show ((b == c) && _) = _
      have := ih (cs := cs) (by simpa using hl)
      rw [List.cons_beq_cons, ← this]
      rfl
theorem op_eqLB {X : Cx} (hu : X.A.units + 2 < cLine) : OpR X (compareOp .Eq) (rEqLB X.K) := by
  intro pins s σ H x y v u Q I rx ry h
  obtain ⟨a, b, bs, cs, rfl, rfl, ha, hb, q⟩ := h
  cases rx
  cases ry
  obtain ⟨its, r1, p1, _⟩ := I.list ha
  obtain ⟨its2, r2, p2, _⟩ := I.list hb
  have e1 := vals_bl r1
  have e2 := vals_bl r2
  subst e1 e2
  by_cases hl : bs.length = cs.length
  · have hsz : (bs.map Value.bool).toArray.size = (cs.map Value.bool).toArray.size := by simp [hl]
    refine RcAt.lists (e := fun j => (bs.getD j false == cs.getD j false)) p1.isList p2.isList hsz (by omega) (fun j h1 h2 => ?_) X.prog X.w X.xe _ ?_
    · have h1' : j < bs.length := by simpa using h1
      have h2' : j < cs.length := by simpa using h2
      have z1 : bs.getD j false = bs[j] := by simp [List.getD, h1']
      have z2 : cs.getD j false = cs[j] := by simp [List.getD, h2']
      have y1 : (bs.map Value.bool).toArray[j] = Value.bool bs[j] := by simp
      have y2 : (cs.map Value.bool).toArray[j] = Value.bool cs[j] := by simp
      rw [z1, z2, y1, y2]
      exact EqAt.bool_bool _ _
    · refine ⟨.bl (bs == cs), H, I, ?_, q⟩
      rw [← beq_all hl]
      simp
      rfl
  · refine RcAt.lists_lengths p1.isList p2.isList (by simpa using hl) (by omega) X.prog X.w X.xe _ ⟨.bl (bs == cs), H, I, ?_, q⟩
    have : (bs == cs) = false := beq_eq_false_iff_ne.mpr fun z => hl (by rw [z])
    rw [this]; rfl
end L2
namespace L2
open PySem PySem.Spec PySem.Calls PyProof.Rows
def Its (x : Str) : It := ⟨fun i _ => i < x.cps.size, fun i H v H' => H' = H ∧ ∃ c, x.cps[i]? = some c ∧ v = .str ⟨#[c]⟩, fun i _ => x.cps.size = i⟩
theorem turn_ascii {P : Program} {w : World} {K : PySem.W.Frag} {tg : Expr} (x : Str) (t : Tok) (it : Addr) : Turn P w K tg (Its x) [it] it (fun i h => h.IsStrIter it "str_ascii_iterator" x t i) where
  mem := by simp
  obj := fun i h st b hb => by
    have e : b = it := by simpa using hb
    subst e
    obtain ⟨o, e, c, d⟩ := st
    exact ⟨o, e, fun v z => by rw [d] at z; cases z⟩
  keep := fun i h h' st k => let ⟨o, ho, r⟩ := st; ⟨o, k it (by simp) o ho, r⟩
  item := by
    intro X hP hw hK hc i pins s σ H E I hf st hg
    subst hP hw hK
    obtain ⟨f0, f1, f2, f3, f4, f5⟩ := hf it (by simp)
    have hg : i < x.cps.size := hg
    refine wpAny_pyNext_ascii_item st (c := x.cps[i]) (by simp [hg]) fun h' st' sb => ?_
    have I1 : Inv X pins σ H { s with heap := h', toks := s.toks + 1 } := I.turned (fun b o hb e => (sb.2 b hb).trans e) f0 f1 f3 f4 f5
    obtain ⟨o, e, c, d⟩ := id st'
    exact ⟨_, rfl, go_of (s := { s with heap := h', toks := s.toks + 1 }) e c d (by decide) ⟨.str ⟨#[x.cps[i]]⟩, H, I1, ⟨_, rfl⟩, ⟨rfl, _, by simp [hg], rfl⟩, st', fun b hb => (hf b hb).1⟩⟩
  done := by
    intro X hP hw hK hc i pins s σ H E I hf st hg
    subst hP hw hK
    obtain ⟨f0, f1, f2, f3, f4, f5⟩ := hf it (by simp)
    have hg : x.cps.size = i := hg
    exact wpAny_pyNext_ascii_end (I.ok.hd hc) st (by simp [← hg]) fun h' eb => ⟨rfl, I.turned (t' := s.toks) (fun b o hb e => eb b o hb e) f0 f1 f3 f4 f5⟩
  self := fun _ _ _ _ _ st h => wpAny_pyIter_striter_ascii st h
theorem turn_wide {P : Program} {w : World} {K : PySem.W.Frag} {tg : Expr} (x : Str) (t : Tok) (it : Addr) : Turn P w K tg (Its x) [it] it (fun i h => h.IsStrIter it "str_iterator" x t i) where
  mem := by simp
  obj := fun i h st b hb => by
    have e : b = it := by simpa using hb
    subst e
    obtain ⟨o, e, c, d⟩ := st
    exact ⟨o, e, fun v z => by rw [d] at z; cases z⟩
  keep := fun i h h' st k => let ⟨o, ho, r⟩ := st; ⟨o, k it (by simp) o ho, r⟩
  item := by
    intro X hP hw hK hc i pins s σ H E I hf st hg
    subst hP hw hK
    obtain ⟨f0, f1, f2, f3, f4, f5⟩ := hf it (by simp)
    have hg : i < x.cps.size := hg
    refine wpAny_pyNext_wide_item st (c := x.cps[i]) (by simp [hg]) fun h' st' sb => ?_
    have I1 : Inv X pins σ H { s with heap := h', toks := s.toks + 1 } := I.turned (fun b o hb e => (sb.2 b hb).trans e) f0 f1 f3 f4 f5
    obtain ⟨o, e, c, d⟩ := id st'
    exact ⟨_, rfl, go_of (s := { s with heap := h', toks := s.toks + 1 }) e c d (by decide) ⟨.str ⟨#[x.cps[i]]⟩, H, I1, ⟨_, rfl⟩, ⟨rfl, _, by simp [hg], rfl⟩, st', fun b hb => (hf b hb).1⟩⟩
  done := by
    intro X hP hw hK hc i pins s σ H E I hf st hg
    subst hP hw hK
    obtain ⟨f0, f1, f2, f3, f4, f5⟩ := hf it (by simp)
    have hg : x.cps.size = i := hg
    exact wpAny_pyNext_wide_end (I.ok.hd hc) st (by simp [← hg]) fun h' eb => ⟨rfl, I.turned (t' := s.toks) (fun b o hb e => eb b o hb e) f0 f1 f3 f4 f5⟩
  self := fun _ _ _ _ _ st h => wpAny_pyIter_striter_wide st h
def iStr (tl : TE) : TI := fun σ H R => tl σ H fun v H1 => ∃ x, v = .str x ∧ R (Its x) H1
theorem pi_str {X : Cx} {tg l : Expr} {tl : TE} (hl : PE X l tl) : PI X tg l (iStr tl) := by
  intro pins s σ H R I h
  refine thn (hl pins s σ H _ I h) fun v s1 ⟨y, H1, I1, r1, q1⟩ => ?_
  obtain ⟨x, rfl, q⟩ := q1
  obtain ⟨t, rfl⟩ := r1
  have fp : ∀ b ∈ [s1.heap.objs.size], FpOk X pins H1 b := fun b hb => by
    have e : b = s1.heap.objs.size := by simpa using hb
    subst e
    exact I1.fpOk (Nat.le_refl _) (I1.hok.fresh (Nat.le_refl _))
  cases ha : x.cps.all (· < 128)
  · refine wpAny_pyIter_wide ha ?_
    exact ⟨s1.heap.objs.size, [s1.heap.objs.size], _, _, H1, rfl, I1.kept (t' := s1.toks) fun b o e => Heap.get?_push_of_some _ e, turn_wide x t _, ⟨_, Heap.get?_push_size _ rfl, rfl, rfl⟩, fp, q⟩
  · refine wpAny_pyIter_ascii ha ?_
    exact ⟨s1.heap.objs.size, [s1.heap.objs.size], _, _, H1, rfl, I1.kept (t' := s1.toks) fun b o e => Heap.get?_push_of_some _ e, turn_ascii x t _, ⟨_, Heap.get?_push_size _ rfl, rfl, rfl⟩, fp, q⟩
end L2
namespace BB
open PySem
def dn (zs : List Str) : Nat → Nat
  | 0 => 0
  | i + 1 => if zs.getD i default ∈ zs.take i then dn zs i else dn zs i + 1
theorem dn_le (zs : List Str) : ∀ i, dn zs i ≤ i
  | 0 => Nat.le_refl _
  | i + 1 => by
    have := dn_le zs i
    rw [dn]
    split <;> omega
theorem take_succ_get {zs : List Str} {i : Nat} (h : i < zs.length) : zs.take (i + 1) = zs.take i ++ [zs.getD i default] := by
  rw [List.take_succ_eq_append_getElem h]
  congr 2
  simp [List.getD, h]
theorem dn_nodup (zs : List Str) : ∀ i, i ≤ zs.length → (dn zs i = i ↔ (zs.take i).Nodup)
  | 0, _ => by simp [dn]
  | i + 1, h => by
    have ih := dn_nodup zs i (by omega)
    have hle := dn_le zs i
    rw [take_succ_get (by omega), dn, List.nodup_append]
    by_cases hm : zs.getD i default ∈ zs.take i
    · rw [if_pos hm]
      constructor
      · intro z; omega
      · intro z; exact absurd rfl (z.2.2 _ hm _ (List.mem_singleton.mpr rfl))
    · rw [if_neg hm]
      constructor
      · intro z
        refine ⟨ih.mp (by omega), List.nodup_cons.mpr ⟨by simp, List.nodup_nil⟩, fun a ha b hb => ?_⟩
        rw [List.mem_singleton.mp hb]
        rintro rfl
        exact hm ha
      · intro z
        have := ih.mpr z.1
        omega
end BB
namespace L2
open PySem PySem.Spec PySem.Calls PyProof.Rows BB
section
variable {prog : Program} {w : World} {A : Around} {R : Result → Shared → Prop}
theorem set_str_loop {l I S : Addr} {items : Array Value} {zs : List Str} (hh : A.in1.handled = none) (hne : l ≠ I) (hSI : S ≠ I) (hSl : S ≠ l) (hi : ∀ (i : Nat) (v : Value), items[i]? = some v → ∃ t, v = .str (zs.getD i default) t) (hlen : zs.length = items.size) (hb : items.size + 1 < scanBound) :
    ∀ (k i : Nat) (s : Shared), items.size - i = k → i ≤ items.size → s.heap.IsListIter I l i → s.heap.IsList l items → s.heap.SetOf (strKind prog w) S (fun x => decide (x ∈ zs.take i)) (dn zs i) →
      (∀ h' tk, (∀ b o, b ≠ S → b ≠ I → s.heap.get? b = some o → h'.get? b = some o) → h'.SetOf (strKind prog w) S (fun x => decide (x ∈ zs)) (dn zs zs.length) → R (.ok (.ret .none)) { s with heap := h', toks := tk }) →
      codeAny (model prog w) A (.builtin "set.update.loop" ⟨[.ref S, .ref I], []⟩) R s := by
  intro k
  induction k with
  | zero =>
    intro i s hk hile hst hl hS hR
    have hin : i = items.size := by omega
    subst hin
    refine codeAny_builtin PyProof.Rows.F.entry_set_update_loop ?_
    rw [Around.under_plainId PyProof.Rows.F.plain_set_update_loop _]
    show wpAny _ A.in1 (pyNext (.ref I) >>= _) _ _ s
    refine wpAny_bind (wpAny_pyNext_list_end hh hst hl (by simp) fun h' eb => ?_)
    show wpAny _ A.in1 (ret Value.none) _ _ _
    refine wpAny_pure (hR h' s.toks (fun b o _ hbI e => eb b o hbI e) ?_)
    obtain ⟨o, es, ep, t, ho, rest⟩ := hS
    rw [← hlen, List.take_length] at rest
    exact ⟨o, es, ep, t, eb S o hSI ho, rest⟩
  | succ k ih =>
    intro i s hk hile hst hl hS hR
    have hlt : i < items.size := by omega
    refine codeAny_builtin PyProof.Rows.F.entry_set_update_loop ?_
    rw [Around.under_plainId PyProof.Rows.F.plain_set_update_loop _]
    show wpAny _ A.in1 (pyNext (.ref I) >>= _) _ _ s
    have hget : items[i]? = some items[i] := by simp [hlt]
    refine wpAny_bind (wpAny_pyNext_list_item hst hl hget fun h' st' sb => ?_)
    obtain ⟨t, ht⟩ := hi i _ hget
    rw [ht]
    have hl' : h'.IsList l items := let ⟨o, e, r⟩ := hl; ⟨o, (sb.2 l hne).trans e, r⟩
    have hS' : h'.SetOf (strKind prog w) S (fun x => decide (x ∈ zs.take i)) (dn zs i) := by
      obtain ⟨o, es, ep, tb, ho, rest⟩ := hS
      exact ⟨o, es, ep, tb, (sb.2 S hSI).trans ho, rest⟩
    show wpAny _ A.in1 (holding [Value.str (zs.getD i default) t] (setAdd S (.str (zs.getD i default) t)) >>= _) _ _ _
    refine wpAny_bind (wpAny_holding ?_)
    unfold setAdd
    refine wpAny_holding ?_
    refine wpAny_bind ((strKind prog w).pyHash (k := zs.getD i default) (strKind_is _ _ _ _) ?_)
    have hroom : dn zs i + 1 < scanBound := by have := dn_le zs i; omega
    refine wpAny_setAddHashed_of (knd := strKind prog w) (strKind_is _ _ _ _) rfl hS' hroom fun h2 hsb hS2 => ?_
    have hS3 : h2.SetOf (strKind prog w) S (fun x => decide (x ∈ zs.take (i + 1))) (dn zs (i + 1)) := by
      refine PyProof.Rows.SetOf_congr hS2 (fun x => ?_) ?_
      · rw [take_succ_get (by omega)]
        simp
      · rw [dn]
        by_cases hm : zs.getD i default ∈ zs.take i
        · rw [if_pos hm, if_pos (by simpa using hm)]
        · rw [if_neg hm, if_neg (by simpa using hm)]
    have st2 : h2.IsListIter I l (i + 1) := let ⟨o, e, r⟩ := st'; ⟨o, (hsb.2 I (Ne.symm hSI)).trans e, r⟩
    have hl2 : h2.IsList l items := let ⟨o, e, r⟩ := hl'; ⟨o, (hsb.2 l (Ne.symm hSl)).trans e, r⟩
    refine wpAny_pure ⟨plainId_quiet PyProof.Rows.F.plain_set_update_loop _, ih (i + 1) _ (by omega) hlt st2 hl2 hS3 fun h4 tk k4 S4 => ?_⟩
    exact hR h4 tk (fun b o hbS hbI e => k4 b o hbS hbI ((hsb.2 b hbS).trans ((sb.2 b hbI).trans e))) S4
end
end L2
namespace PySem
section
variable {prog : Program} {w : World} {A : Around} {E : Value → Shared → Prop} {s : Shared}
set_option maxHeartbeats 3200000 in
theorem bb_set_strs {l : Addr} {items : Array Value} {zs : List Str} {Q : Value → Shared → Prop} (hh : A.handled = none) (hl : s.heap.IsList l items) (hi : ∀ (i : Nat) (v : Value), items[i]? = some v → ∃ t, v = .str (zs.getD i default) t) (hlen : zs.length = items.size) (hb : items.size + 1 < scanBound)
    (h : ∀ (h' : Heap) (tk : Nat), h'.SetOf (strKind prog w) s.heap.objs.size (fun x => decide (x ∈ zs)) (BB.dn zs zs.length) → (∀ b o, b < s.heap.objs.size → s.heap.get? b = some o → h'.get? b = some o) → Q (.ref s.heap.objs.size) { s with heap := h', toks := tk }) :
    wpAny (model prog w) A (call (.type "set") [.ref l]) Q E s := by
  obtain ⟨c, tl, hmro⟩ := F.called_set.mro
  have hmade := F.called_set.made
  have hsub := F.called_set.sub
  have h1 := F.called_set.notType
  have h2 := F.called_set.canCreate
  have hct := F.typeCall_set_1 (.ref l)
  refine wpAny_call (codeAny_of_tree ?_)
  show wpAny _ _ (callAny (.type "set") _) _ _ _
  refine wpAny_pure ⟨Code.quiet_builtin _ (by decide +kernel), codeAny_builtin F.entry_type_call ?_⟩
  rw [Around.under_plain (weight_type_call_type "set" [.ref l] []) rfl]
  repeat (any_goals (first | assumption | wp_step))
  refine codeAny_mono (code_set_new_1 (.ref l) (E := E) (Q₁ := fun obj s₁ => ∃ led : Bool, obj = .ref s.heap.objs.size ∧ s₁ = { s with heap := s.heap.push { cls := .type "set", dict := none, data := .set #[] 0 (.fresh 0 0 led) } }) fun led => ⟨led, rfl, rfl⟩) fun r s₁ hr => ?_
  cases r with
  | error e => exact hr
  | ok fl =>
    cases fl with
    | next => exact hr.elim
    | brk => exact hr.elim
    | cont => exact hr.elim
    | ret obj =>
      obtain ⟨led, rfl, rfl⟩ := hr
      have hS : (s.heap.push { cls := .type "set", dict := none, data := .set #[] 0 (.fresh 0 0 led) }).get? s.heap.objs.size = some { cls := .type "set", dict := none, data := .set #[] 0 (.fresh 0 0 led) } := Heap.get?_push_size _ rfl
      have hT : Shared.TypeIs { s with heap := s.heap.push { cls := .type "set", dict := none, data := .set #[] 0 (.fresh 0 0 led) } } (.ref s.heap.objs.size) "set" := ⟨_, hS, rfl⟩
      have hli := F.called_set.init.lookup
      have hbi := F.called_set.init.bind (.ref s.heap.objs.size)
      repeat (any_goals (first | assumption | wp_step))
      refine codeAny_mono (codeAny_call_builtin (R := wants (fun r s₂ => r = .none ∧ ∃ h' tk, s₂ = { s with heap := h', toks := tk } ∧ h'.SetOf (strKind prog w) s.heap.objs.size (fun x => decide (x ∈ zs)) (BB.dn zs zs.length) ∧
          (∀ b o, b < s.heap.objs.size → s.heap.get? b = some o → h'.get? b = some o)) E) F.called_set.init.plain F.entry_set_init (check_set_init_1 hT ?_)) fun r₂ s₂ hr₂ => ?_
      · obtain ⟨ol, hol, hcl, nl, hdl⟩ := hl
        obtain ⟨ocls, odict, odata, oslots⟩ := ol
        simp only at hcl hdl
        subst hcl; subst hdl
        have hlS : l < s.heap.objs.size := Heap.lt_size hol
        have hol' : (s.heap.push { cls := .type "set", dict := none, data := .set #[] 0 (.fresh 0 0 led) }).get? l = some { cls := .type "list", dict := odict, data := .seq items nl, slots := oslots } := Heap.get?_push_of_some _ hol
        have hsls := F.sub_list_set
        have hslf := F.sub_list_frozenset
        have hdic : (Value.type "list" == Value.type "dict") = false := by decide
        have hl1 : (s.heap.push { cls := .type "set", dict := none, data := .set #[] 0 (.fresh 0 0 led) }).IsList l items := ⟨_, hol', rfl, nl, rfl⟩
        unfold Builtin.«set.__init__» noKeywords Builtin.Frozenset.updateFrom
        generalize hPI : pyIter = PI
        wp_walk
        subst hPI
        refine wpAny_pyIter_list hl1 ?_
        refine wpAny_bind (wpAny_runValue ?_)
        have hsz : (s.heap.push { cls := .type "set", dict := none, data := .set #[] 0 (.fresh 0 0 led) }).objs.size = s.heap.objs.size + 1 := Heap.size_push ..
        refine L2.set_str_loop (l := l) (zs := zs) (items := items) (by simp [hh]) (by rw [hsz]; exact Nat.ne_of_lt (Nat.lt_succ_of_lt hlS)) (by rw [hsz]; exact Nat.ne_of_lt (Nat.lt_succ_self _)) (Nat.ne_of_gt hlS) hi hlen hb (items.size - 0) 0 _ (by omega) (Nat.zero_le _) ⟨_, Heap.get?_push_size _ rfl, rfl, rfl⟩ (hl1.push _) ?_ ?_
        · have hget : ((s.heap.push { cls := .type "set", dict := none, data := .set #[] 0 (.fresh 0 0 led) }).push { cls := .type "list_iterator", data := .fields #[.ref l, .int 0 0] }).get? s.heap.objs.size = some { cls := .type "set", dict := none, data := .set #[] 0 (.fresh 0 0 led) } := Heap.get?_push_of_some _ hS
          exact PyProof.Rows.SetOf_congr ((PyProof.Rows.setObjOf_fresh (knd := strKind prog w) led).setOf hget (by unfold scanBound; omega)) (fun x => by simp) rfl
        · intro h' tk kk S'
          show wpAny _ _ _ _ _ _
          refine wpAny_pure ?_
          show wpAny _ _ (ret Value.none) _ _ _
          refine wpAny_pure ⟨rfl, h', tk, rfl, S', fun b o hb' e => ?_⟩
          exact kk b o (Nat.ne_of_lt hb') (by rw [hsz]; exact Nat.ne_of_lt (Nat.lt_succ_of_lt hb')) (Heap.get?_push_of_some _ (Heap.get?_push_of_some _ e))
      · cases r₂ with
        | error e => exact hr₂
        | ok fl₂ =>
          cases fl₂ with
          | ret r =>
            obtain ⟨rfl, h', tk, rfl, hS', hk'⟩ := hr₂
            repeat (any_goals (first | assumption | wp_step))
            exact h _ _ hS' hk'
          | next => exact hr₂.elim
          | brk => exact hr₂.elim
          | cont => exact hr₂.elim
end
end PySem
namespace L2
open PySem PySem.Spec PySem.Calls PyProof.Rows BB
def SetS (P : Program) (w : World) (a : Addr) (zs : List Str) (h : Heap) : Prop := h.SetOf (strKind P w) a (fun x => decide (x ∈ zs)) (dn zs zs.length)
theorem call_setS {X : Cx} (hc : X.calm = true) : CallR X (.type "set") (fun xs H Q => ∃ p zs, xs = [.ref p] ∧ SqL X.K H p (zs.map V.str) ∧ zs.length ≤ 4000 ∧ ∀ a, H a = none → Q (.ref a) (upd H a (.ext (SetS X.prog X.w a zs)))) := by
  intro pins s σ H xs us Q I r h
  obtain ⟨p, zs, rfl, hq, hz, q⟩ := h
  obtain ⟨u, rfl, rx⟩ := vals1 r
  cases rx
  obtain ⟨its, r', pl, _⟩ := I.list hq
  have hlen := r'.length
  rw [List.length_map] at hlen
  refine bb_set_strs (I.ok.hd hc) pl.isList (zs := zs) (fun i v hv => ?_) (by simpa using hlen) (by rw [List.size_toArray, ← hlen]; show zs.length + 1 < 4096; omega) fun h' tk hS kp => ?_
  · have hv' : its[i]? = some v := by simpa using hv
    have hil : i < its.length := (List.getElem?_eq_some_iff.mp hv').1
    have hz' : (zs.map V.str)[i]? = some (.str (zs.getD i default)) := by
      rw [List.getElem?_map, List.getD, List.getElem?_eq_getElem (by omega)]
      rfl
    obtain ⟨u, hu, ru⟩ := r'.get hz'
    rw [hv'] at hu
    cases hu
    exact ru
  · have hk : ∀ b o, s.heap.get? b = some o → h'.get? b = some o := fun b o e => kp b o (Heap.lt_size e) e
    refine ⟨.ref s.heap.objs.size, _, I.laid (t' := tk) (o := .ext (SetS X.prog X.w s.heap.objs.size zs)) hk (Nat.le_refl _) ?_, rfl, q _ (I.hok.fresh (Nat.le_refl _))⟩
    refine ⟨hS, ?_, fun g1 g2 gs gk => ?_⟩
    · obtain ⟨o, _, _, _, ho, _⟩ := hS
      exact ⟨o, ho⟩
    · obtain ⟨o, es, ep, t, ho, rest⟩ := gs
      exact ⟨o, es, ep, t, gk o ho, rest⟩
theorem call_lenS {X : Cx} : CallR X (.builtin "len") (fun xs H Q => ∃ a zs, xs = [.ref a] ∧ H a = some (.ext (SetS X.prog X.w a zs)) ∧ Q (.int (dn zs zs.length)) H) := by
  intro pins s σ H xs us Q I r h
  obtain ⟨a, zs, rfl, ha, q⟩ := h
  obtain ⟨u, rfl, rx⟩ := vals1 r
  cases rx
  obtain ⟨⟨o, es, ep, t, ho, hex, hd, _, _, hb, hf, hn⟩, _⟩ := (show ObjOk X.prog X.w H s.heap a (.ext (SetS X.prog X.w a zs)) from I.hok a _ ha)
  have hb' : es.size < 4096 := hb
  refine call_len_set ho hex hd hf (by omega) ?_
  exact ⟨.int es.size, H, I.tok _, ⟨_, rfl⟩, by rw [hn]; exact q⟩
end L2
namespace L2
open PySem PySem.Spec PySem.Calls PyProof.Rows BB
section
variable {X : Cx}
def rLeS : R2 := fun x y H Q => ∃ i j, x = .str i ∧ y = .str j ∧ Q (.bl (!decide (j.cps.toList < i.cps.toList))) H
theorem op_le_str : OpR X (compareOp .LtE) rLeS := by
  intro pins s σ H x y v u Q I rx ry h
  obtain ⟨i, j, rfl, rfl, q⟩ := h
  obtain ⟨t, rfl⟩ := rx
  obtain ⟨t', rfl⟩ := ry
  exact PySem.P.le_str ⟨.bl _, H, I, rfl, q⟩
def iSeq (K : PySem.W.Frag) (tl : TE) : TI := fun σ H R => tl σ H fun x H1 => ∃ a, x = .ref a ∧ (((∃ xs, SqL K H1 a xs) ∧ R (Itl K a) H1) ∨ ((∃ xs, SqT K H1 a xs) ∧ R (Itt K a) H1))
theorem pi_seq {tg l : Expr} {tl : TE} (hl : PE X l tl) : PI X tg l (iSeq X.K tl) := by
  intro pins s σ H R I h
  refine thn (hl pins s σ H _ I h) fun v s1 ⟨x, H1, I1, r1, q1⟩ => ?_
  obtain ⟨a, e, q⟩ := q1
  subst e
  cases r1
  have fp : ∀ b ∈ [s1.heap.objs.size], FpOk X pins H1 b := fun b hb => by
    have e : b = s1.heap.objs.size := by simpa using hb
    subst e
    exact I1.fpOk (Nat.le_refl _) (I1.hok.fresh (Nat.le_refl _))
  rcases q with ⟨⟨xs, hq⟩, q⟩ | ⟨⟨xs, hq⟩, q⟩
  · obtain ⟨its, rv, p, hz⟩ := I1.list hq
    refine wpAny_pyIter_list p.isList ?_
    exact ⟨s1.heap.objs.size, [s1.heap.objs.size], _, _, H1, rfl, I1.kept (t' := s1.toks) fun b o e => Heap.get?_push_of_some _ e, turn_list a _, ⟨_, Heap.get?_push_size _ rfl, rfl, rfl⟩, fp, q⟩
  · obtain ⟨its, rv, p, hz⟩ := I1.tuple hq
    refine wpAny_pyIter_tuple (show s1.heap.IsTuple a its.toArray from p) ?_
    exact ⟨s1.heap.objs.size, [s1.heap.objs.size], _, _, H1, rfl, I1.kept (t' := s1.toks) fun b o e => Heap.get?_push_of_some _ e, turn_tuple a _, ⟨_, Heap.get?_push_size _ rfl, rfl, rfl⟩, fp, q⟩
end
end L2
namespace BB
open PySem L2
theorem comp_signs {js : List (Option Nat)} {g : TG} {tt : TT} {te : TE} {σ : St} {H : Hp} {x : Str} {fin : Addr → Hp → Prop} (f : Nat → Bool) (hz : x.cps.size ≤ 100000)
    (hstep : ∀ c H1 (Q : VK) (W' : Hp → Prop), c ∈ x.cps.toList → Q (.bl (f c)) H1 → g (.str ⟨#[c]⟩) (cσ js σ) H1 fun σ2 H2 => tt σ2 H2 fun b H3 => if b = true then te σ2 H3 Q else W' H3)
    (hfin : ∀ D H', H D = none → L2.Same H H' → H' D = some (.lst ((x.cps.toList.map f).map V.bl)) → fin D H') :
    ∀ D, H D = none → ∃ (n : Nat) (W : Nat → Hp → Prop), W 0 (upd H D (.lst [])) ∧ cTurn js g tt te σ (Its x) D n W fun H' => fin D H' := by
  intro D hD
  refine ⟨x.cps.size, fun i H' => i ≤ x.cps.size ∧ L2.Same H H' ∧ H' D = some (.lst (((x.cps.toList.take i).map f).map V.bl)), ⟨Nat.zero_le _, same_new hD _, by rw [upd_same]; rfl⟩, ?_⟩
  rintro i H' ⟨hi, s1, e1⟩
  by_cases hlt : i < x.cps.size
  · refine .inr ⟨hlt, hlt, fun v H1 hy => ?_⟩
    obtain ⟨rfl, c, hc, rfl⟩ := hy
    have hc' : x.cps.toList[i]? = some c := by rw [Array.getElem?_toList]; exact hc
    refine hstep c _ _ _ (List.mem_of_getElem? hc') ⟨_, e1, ?_, hlt, ?_, ?_⟩
    · rw [List.length_map, List.length_map, List.length_take, Array.length_toList]
      have : sizeLine = 16777216 := sizeLine_eq
      omega
    · exact same_upd s1 hD
    · rw [upd_same, take_snoc hc']
      simp
  · have hi' : i = x.cps.size := by omega
    subst hi'
    refine .inl ⟨rfl, hfin D H' hD s1 ?_⟩
    rw [e1, List.take_of_length_le (by rw [Array.length_toList]; exact Nat.le_refl _)]
theorem comp_sm {α : Type} {js : List (Option Nat)} {g : TG} {tt : TT} {te : TE} {σ : St} {J : It} {H : Hp} {xs : List V} {fin : Addr → Hp → Prop} (zs : List α) (f : α → V) (hz : zs.length = xs.length) (hn : xs.length ≤ 1000000)
    (hgo : ∀ i H2, L2.Same H H2 → i < xs.length → J.go i H2) (hstop : ∀ H2, L2.Same H H2 → J.stop xs.length H2) (hyld : ∀ (i : Nat) H2 x H3, L2.Same H H2 → i < xs.length → J.yld i H2 x H3 → H3 = H2 ∧ xs[i]? = some x)
    (hb : ∀ (i : Nat) x z H2 (R : VK) (W' : Hp → Prop), xs[i]? = some x → zs[i]? = some z → L2.Same H H2 → (∀ H3, L2.Same H2 H3 → R (f z) H3) → g x (cσ js σ) H2 fun σ2 H3 => tt σ2 H3 fun b H4 => if b = true then te σ2 H4 R else W' H4)
    (hfin : ∀ D H', H D = none → L2.Same H H' → H' D = some (.lst (zs.map f)) → fin D H') :
    ∀ D, H D = none → ∃ (n : Nat) (W : Nat → Hp → Prop), W 0 (upd H D (.lst [])) ∧ cTurn js g tt te σ J D n W fun H' => fin D H' := by
  intro D hD
  refine ⟨xs.length, fun i H' => i ≤ xs.length ∧ L2.Same H H' ∧ H' D = some (.lst ((zs.take i).map f)), ⟨Nat.zero_le _, same_new hD _, by rw [upd_same]; rfl⟩, ?_⟩
  rintro i H' ⟨hi, s1, e1⟩
  by_cases hlt : i < xs.length
  · refine .inr ⟨hlt, hgo i H' s1 hlt, fun v H1 hy => ?_⟩
    obtain ⟨e, hx⟩ := hyld i H' v H1 s1 hlt hy
    subst e
    obtain ⟨z, hz'⟩ : ∃ z, zs[i]? = some z := ⟨_, List.getElem?_eq_getElem (by omega)⟩
    refine hb i v z _ _ _ hx hz' s1 fun H3 s3 => ⟨_, s3 _ _ e1, ?_, hlt, same_upd (s1.trans s3) hD, ?_⟩
    · rw [List.length_map, List.length_take]
      have : sizeLine = 16777216 := sizeLine_eq
      omega
    · rw [upd_same, take_snoc hz', List.map_append]
      rfl
  · have hi' : i = xs.length := by omega
    subst hi'
    refine .inl ⟨hstop _ s1, hfin D H' hD s1 ?_⟩
    rw [e1, List.take_of_length_le (by omega)]
theorem comp_sm_tup {α : Type} {K : PySem.W.Frag} {a : Addr} {js : List (Option Nat)} {g : TG} {tt : TT} {te : TE} {σ : St} {H : Hp} {xs : List V} {fin : Addr → Hp → Prop} (zs : List α) (f : α → V) (hS : SqT K H a xs) (hz : zs.length = xs.length) (hn : xs.length ≤ 1000000)
    (hb : ∀ (i : Nat) x z H2 (R : VK) (W' : Hp → Prop), xs[i]? = some x → zs[i]? = some z → L2.Same H H2 → (∀ H3, L2.Same H2 H3 → R (f z) H3) → g x (cσ js σ) H2 fun σ2 H3 => tt σ2 H3 fun b H4 => if b = true then te σ2 H4 R else W' H4)
    (hfin : ∀ D H', H D = none → L2.Same H H' → H' D = some (.lst (zs.map f)) → fin D H') :
    ∀ D, H D = none → ∃ (n : Nat) (W : Nat → Hp → Prop), W 0 (upd H D (.lst [])) ∧ cTurn js g tt te σ (Itt K a) D n W fun H' => fin D H' :=
  comp_sm zs f hz hn (fun i H2 s hi => ⟨xs, xs[i], s.seqT hS, List.getElem?_eq_getElem hi⟩) (fun H2 s => ⟨xs, s.seqT hS, Nat.le_refl _⟩) (fun i H2 x H3 s hi hy => ⟨hy.1, hy.2 xs (s.seqT hS)⟩) hb hfin
theorem comp_sm_list {α : Type} {K : PySem.W.Frag} {a : Addr} {js : List (Option Nat)} {g : TG} {tt : TT} {te : TE} {σ : St} {H : Hp} {xs : List V} {fin : Addr → Hp → Prop} (zs : List α) (f : α → V) (hS : SqL K H a xs) (hz : zs.length = xs.length) (hn : xs.length ≤ 1000000)
    (hb : ∀ (i : Nat) x z H2 (R : VK) (W' : Hp → Prop), xs[i]? = some x → zs[i]? = some z → L2.Same H H2 → (∀ H3, L2.Same H2 H3 → R (f z) H3) → g x (cσ js σ) H2 fun σ2 H3 => tt σ2 H3 fun b H4 => if b = true then te σ2 H4 R else W' H4)
    (hfin : ∀ D H', H D = none → L2.Same H H' → H' D = some (.lst (zs.map f)) → fin D H') :
    ∀ D, H D = none → ∃ (n : Nat) (W : Nat → Hp → Prop), W 0 (upd H D (.lst [])) ∧ cTurn js g tt te σ (Itl K a) D n W fun H' => fin D H' :=
  comp_sm zs f hz hn (fun i H2 s hi => ⟨xs, xs[i], s.seq hS, List.getElem?_eq_getElem hi⟩) (fun H2 s => ⟨xs, s.seq hS, Nat.le_refl _⟩) (fun i H2 x H3 s hi hy => ⟨hy.1, hy.2 xs (s.seq hS)⟩) hb hfin
def low (z : Str) : Bool := z.cps.toList.all fun c => decide (97 ≤ c ∧ c ≤ 122)
def okName (z : Str) : Bool := decide (1 ≤ z.length ∧ z.length ≤ 8) && low z
theorem le_one (c d : Nat) : (!decide (([d] : List Nat) < [c])) = decide (c ≤ d) := by
  have h : (([d] : List Nat) < [c]) ↔ d < c := by
    constructor
    · intro h
      cases h with
      | rel h => exact h
      | cons h => cases h
    · intro h
      exact List.Lex.rel h
  by_cases hc : c ≤ d
  · rw [decide_eq_true hc, decide_eq_false (fun z => by have := h.mp z; omega)]
    rfl
  · rw [decide_eq_false hc, decide_eq_true (h.mpr (by omega))]
    rfl
end BB
namespace HT
open PySem PySem.Spec PyProof.Rows
section
variable {prog : Program} {w : World} {A : Around} {E : Value → Shared → Prop} {s : Shared}
theorem adjust_back (n : Nat) : Builtin.Slice.sliceAdjust none none (-1) (n : Int) = ((n : Int) - 1, -1) := rfl
theorem places_back (n : Nat) : Builtin.Slice.slicePlaces ((n : Int) - 1) (-1) (-1) = n := by
  unfold Builtin.Slice.slicePlaces
  have h1 : ¬ ((-1 : Int) > 0) := by omega
  simp only [h1, if_false]
  by_cases h : n = 0
  · subst h
    decide
  · have h2 : ((n : Int) - 1) > -1 := by omega
    simp only [h2, if_true]
    rw [show (- -1 : Int) = 1 by decide, Int.ediv_one]
    omega
theorem pick_back (xs : Array Value) : ((List.range xs.size).filterMap fun (m : Nat) => xs[(((xs.size : Nat) : Int) - 1 + (m : Int) * (-1)).toNat]?).toArray = xs.toList.reverse.toArray := by
  congr 1
  have e : ∀ m ∈ List.range xs.size, xs[(((xs.size : Nat) : Int) - 1 + (m : Int) * (-1)).toNat]? = xs.toList.reverse[m]? := by
    intro m hm
    have hm' := List.mem_range.mp hm
    rw [List.getElem?_reverse (by rw [Array.length_toList]; exact hm'), Array.getElem?_toList, Array.length_toList]
    congr 1
    omega
  have f : ∀ (l : List Nat) (f g : Nat → Option Value), (∀ m ∈ l, f m = g m) → l.filterMap f = l.filterMap g := by
    intro l f g
    induction l with
    | nil => intro _; rfl
    | cons y ys ih =>
      intro h
      rw [List.filterMap_cons, List.filterMap_cons, h y (by simp), ih (fun m hm => h m (by simp [hm]))]
  rw [f _ _ _ e]
  have gl : ∀ (ys : List Value), (List.range ys.length).filterMap (fun m => ys[m]?) = ys := by
    intro ys
    have := pick_run ys.toArray 0 ys.length
    simp only [List.filterMap_map] at this
    have e3 : ((fun x => ys.toArray[x]?) ∘ fun x => 0 + x) = fun m => ys[m]? := by
      funext m
      simp
    rw [e3] at this
    rw [this]
    simp
  have := gl xs.toList.reverse
  rw [List.length_reverse, Array.length_toList] at this
  exact this
theorem sliceApplied_back {sl : Addr} {n : Nat} {t : Tok} {Q : Int × Int × Nat → Shared → Prop} (hs : s.heap.IsSliceOf sl .none .none (.int (-1) t))
    (h : Q ((n : Int) - 1, -1, n) s) : wpAny (model prog w) A (Builtin.Slice.sliceApplied (.ref sl) (pure (n : Int))) Q E s := by
  obtain ⟨os, hos, hcs, hds⟩ := id hs
  unfold Builtin.Slice.sliceApplied Builtin.Slice.sliceFields
  refine wpAny_bind (wpAny_bind (wpAny_field hos hds (x := .none) rfl (wpAny_bind (wpAny_field hos hds (x := .none) rfl (wpAny_bind (wpAny_field hos hds (x := .int (-1) t) rfl (wpAny_pure ?_)))))))
  refine wpAny_bind (slicePart_int ?_)
  show wpAny _ _ (if ((-1 : Int) == 0) = true then _ else _) _ _ s
  rw [if_neg (by decide)]
  refine wpAny_bind (slicePart_none (wpAny_bind (slicePart_none (wpAny_bind (wpAny_pure ?_)))))
  show wpAny _ _ (match Builtin.Slice.sliceAdjust none none (-1) (n : Int) with | (lo, hi) => pure (lo, (-1 : Int), Builtin.Slice.slicePlaces lo hi (-1))) _ _ s
  rw [adjust_back n]
  show wpAny _ _ (pure ((n : Int) - 1, (-1 : Int), Builtin.Slice.slicePlaces ((n : Int) - 1) (-1) (-1))) _ _ s
  rw [places_back]
  exact wpAny_pure h
theorem getItem_tuple_back {t sl : Addr} {items : Array Value} {tk : Tok} {Q : Value → Shared → Prop} (ht : IsTup s.heap t items) (hs : s.heap.IsSliceOf sl .none .none (.int (-1) tk))
    (h : Q (.ref s.heap.objs.size) { s with heap := s.heap.push { cls := .type "tuple", data := .seq items.toList.reverse.toArray } })
    (hsz : items.size ≤ sizeLine) : wpAny (model prog w) A (getItem (.ref t) (.ref sl)) Q E s := by
  have htake : sizeOk (.seq items.toList.reverse.toArray) := by
    show items.toList.reverse.toArray.size ≤ sizeLine
    rw [List.size_toArray, List.length_reverse, Array.length_toList]
    exact hsz
  obtain ⟨os, hos, hcs, hds⟩ := id hs
  have hTs : s.TypeIs (.ref sl) "slice" := ⟨os, hos, hcs⟩
  unfold getItem
  try with_reducible refine wpAny_holding ?_
  first | refine wpAny_bind (wpAny_pure ?_) | skip
  refine wpAny_bind (wpAny_sequenceKey ht.typeIs (by decide) ?_)
  refine wpAny_bind (wpAny_callSpecial?_slot (name := Str.ofString "__getitem__") ht.typeIs PyProof.Rows.slot_tuple_getitem
    (wpAny_call_entry PyProof.Rows.slot_tuple_getitem ht.typeIs entry_tuple_getitem ?_ (args_tuple_getitem _ _)))
  show wpAny _ _ (Builtin.Tuple.tupleItemsOf (.ref t) >>= _) _ _ s
  refine wpAny_bind (tupleItemsOf_ ht ?_)
  refine wpAny_bind (wpAny_typeOf hTs ?_)
  rw [if_pos (by decide)]
  refine wpAny_bind (sliceApplied_back hs ?_)
  have hno : ¬ ((((items.size : Nat) : Int) - 1 == 0 && (-1 : Int) == 1 && items.size == items.size) = true) := by
    simp
  show wpAny _ _ (if (((items.size : Nat) : Int) - 1 == 0 && (-1 : Int) == 1 && items.size == items.size) = true then _ else _) _ _ s
  rw [if_neg hno, pick_back]
  first
    | exact wpAny_bind (m := Builtin.Tuple.tupleExact _) (wpAny_newObj_type (wpAny_pure ⟨_, rfl, wpAny_pure h⟩) htake)
    | exact wpAny_bind (m := Builtin.Tuple.tupleExact _) (wpAny_newObj_type (wpAny_bind (wpAny_pure (wpAny_pure ⟨_, rfl, wpAny_pure h⟩))) htake)
    | exact wpAny_bind (wpAny_bind (m := Builtin.Tuple.tupleExact _) (wpAny_newObj_type (wpAny_pure (wpAny_pure ⟨_, rfl, wpAny_pure h⟩)) htake))
    | exact wpAny_bind (wpAny_bind (m := Builtin.Tuple.tupleExact _) (wpAny_newObj_type (wpAny_pure ⟨_, rfl, wpAny_pure h⟩) htake))
end
end HT
namespace L2
open PySem PySem.Spec PyProof.Rows
section
variable {X : Cx} {e : Expr} {te : TE} {pos p2 p3 p4 : Pos}
def BkR (X : Cx) (r : V → Hp → VK → Prop) : Prop :=
  ∀ (pins : List (Addr × Obj)) (s : Shared) (σ : St) (H : Hp) (x : V) (v : Value) (t : Tok) (sl : Addr) (Q : VK), Inv X pins σ H s → RelV x v → s.heap.IsSliceOf sl .none .none (.int (-1) t) → r x H Q →
    ∃ T id, typeLookup (.type T) "__getitem__" = pure (some (.builtin id)) ∧ s.TypeIs v T ∧ wpAny (model X.prog X.w) X.A (getItem v (.ref sl)) (EP X pins σ Q) X.xe s
def tBk (r : V → Hp → VK → Prop) (te : TE) : TE := fun σ H Q => te σ H fun x H1 => r x H1 Q
theorem pe_back {r : V → Hp → VK → Prop} (hr : BkR X r) (he : PE X e te) : PE X (.Subscript e (.Slice none none (some (.UnaryOp .USub (.Constant (.int 1) 0 p3) p4)) p2) pos) (tBk r te) := by
  intro pins s σ H Q I h
  refine Subscript_ (thn (he pins s σ H _ I h) fun v s1 ⟨x, H1, I1, r1, q1⟩ => ?_)
  refine wpAny_Slice ?_
  rw [evalPart_none]
  refine wpAny_pure ?_
  refine wpAny_pure ?_
  have hs1 : PO X (some (.UnaryOp .USub (.Constant (.int 1) 0 p3) p4)) (tPart (tUn (rU fun i => .int (-i)) (tC (.int 1)))) := po_some (pe_un un_neg pe_int)
  refine thn (hs1 pins s1 σ H1 (fun o H' => o = some (-1) ∧ r x H' Q) I1 ⟨1, rfl, _, rfl, rfl, q1⟩) fun vs s2 ⟨o, H2, I2, ps, ho, q2⟩ => ?_
  subst ho
  cases ps with
  | int i t =>
    have I4 : Inv X pins σ H2 { s2 with heap := s2.heap.push { cls := .type "slice", data := .fields #[.none, .none, .int (-1) t] } } := I2.kept (t' := s2.toks) fun b ob q => Heap.get?_push_of_some _ q
    obtain ⟨T, id, hT, ht, hg⟩ := hr pins { s2 with heap := s2.heap.push { cls := .type "slice", data := .fields #[.none, .none, .int (-1) t] } } σ H2 x v t s2.heap.objs.size Q I4 r1 (Heap.IsSliceOf.new ..) q2
    show wpAny (model X.prog X.w) X.A (subscriptTail e (.Slice none none (some (.UnaryOp .USub (.Constant (.int 1) 0 p3) p4)) p2) v (.ref s2.heap.objs.size)) (EP X pins σ Q) X.xe { s2 with heap := s2.heap.push { cls := .type "slice", data := .fields #[.none, .none, .int (-1) t] } }
    exact tail_any (ops := [v, .ref s2.heap.objs.size]) ht hT hg (by with_unfolding_all rfl)
def rBkT (K : PySem.W.Frag) : V → Hp → VK → Prop := fun x H Q => ∃ a xs, x = .ref a ∧ SqT K H a xs ∧ ∀ p, H p = none → Q (.ref p) (upd H p (.tup xs.reverse))
theorem Vals.rev {xs : List V} {us : List Value} (r : Vals xs us) : Vals xs.reverse us.reverse := by
  induction r with
  | nil => exact .nil
  | cons r1 r2 ih => rw [List.reverse_cons, List.reverse_cons]; exact ih.append (.cons r1 .nil)
theorem bk_tup : BkR X (rBkT X.K) := by
  intro pins s σ H x v t sl Q I rx hs h
  obtain ⟨a, xs, rfl, hx, q⟩ := h
  cases rx
  obtain ⟨its, r, ht, hz⟩ := I.tuple hx
  have hlen : its.toArray.size = xs.length := by rw [List.size_toArray]; exact r.length.symm
  refine ⟨"tuple", _, PyProof.Rows.slot_tuple_getitem.lookup, ht.typeIs, ?_⟩
  refine HT.getItem_tuple_back ht hs ?_ (by rw [hlen]; exact hz)
  refine ⟨.ref s.heap.objs.size, _, I.laid (t' := s.toks) (o := .tup xs.reverse) (fun b ob q => Heap.get?_push_of_some _ q) (Nat.le_refl _) ?_, rfl, q _ (I.hok.fresh (Nat.le_refl _))⟩
  exact ⟨by rw [List.length_reverse]; exact hz, _, 0, r.rev, Heap.get?_push_size _ rfl⟩
end
end L2
namespace L2
open PySem PySem.Spec PySem.Calls PyProof.Rows
section
variable {X : Cx}
end
end L2
namespace L2
open PySem PySem.Spec PySem.Calls PyProof.Rows
def repS (z : Str) (n : Nat) : Str := ⟨(List.replicate n z.cps).foldl (· ++ ·) #[]⟩
theorem fold_one (c : Nat) : ∀ (n : Nat) (a : Array Nat), (List.replicate n #[c]).foldl (· ++ ·) a = a ++ (List.replicate n c).toArray
  | 0, a => by simp
  | n + 1, a => by
    rw [List.replicate_succ, List.foldl_cons, fold_one c n, List.replicate_succ, Array.append_assoc]
    congr 1
    simp
theorem repS_one (c n : Nat) : repS ⟨#[c]⟩ n = ⟨(List.replicate n c).toArray⟩ := by
  unfold repS
  rw [fold_one]
  simp
theorem repS_len (c n : Nat) : (repS ⟨#[c]⟩ n).length = n := by
  rw [repS_one]
  show (List.replicate n c).toArray.size = n
  simp
section
variable {X : Cx}
def rMulS : R2 := fun x y H Q => ∃ (c : Nat) (n : Int), x = .str ⟨#[c]⟩ ∧ y = .int n ∧ 1 ≤ n ∧ n ≤ 1000 ∧ Q (.str (repS ⟨#[c]⟩ n.toNat)) H
theorem op_mulS : OpR X (binaryOp .Mult) rMulS := by
  intro pins s σ H x y v u Q I rx ry h
  obtain ⟨c, n, rfl, rfl, h1, h2, q⟩ := h
  obtain ⟨t, rfl⟩ := rx
  obtain ⟨t', rfl⟩ := ry
  have hlen : (⟨#[c]⟩ : Str).length = 1 := rfl
  refine PySem.P.mul_str ?_ ?_ ?_ ?_
  · rw [decide_eq_false (by omega), decide_eq_false (by omega)]; rfl
  · intro _ _
    rw [hlen]
    have : (1 : Int) ≤ (2 ^ 63 - 1) / n := by
      rw [Int.le_ediv_iff_mul_le (by omega)]
      omega
    show ¬ ((1 : Nat) : Int) > (2 ^ 63 - 1) / n
    omega
  · intro _ _
    rw [hlen, Nat.one_mul]
    have : sizeLine = 16777216 := sizeLine_eq
    exact decide_eq_false (by omega)
  · rw [if_neg (by omega)]
    by_cases hn : n = 1
    · subst hn
      rw [if_pos (by rfl)]
      exact ⟨.str ⟨#[c]⟩, H, I, ⟨_, rfl⟩, by rw [show repS ⟨#[c]⟩ (1 : Int).toNat = ⟨#[c]⟩ from repS_one c 1] at q; exact q⟩
    · rw [if_neg (by rw [hlen]; simp; omega)]
      refine ⟨?_, ⟨.str (repS ⟨#[c]⟩ n.toNat), H, I.tok _, ⟨_, rfl⟩, q⟩⟩
      show (repS ⟨#[c]⟩ n.toNat).length ≤ sizeLine
      have : sizeLine = 16777216 := sizeLine_eq
      rw [repS_len]
      omega
def CDivB (i j : Int) : Prop := 0 < j ∧ j < 2 ^ 62
theorem op_fdivB : OpR X (binaryOp .FloorDiv) (rI CDivB fun i j => .int (i / j)) := opI fun i j _ _ _ _ _ hc q => by
  have h1 : (0 : Int) < j := hc.1
  have h2 : j < 2 ^ 62 := hc.2
  refine floordiv_int (by omega) (by rw [Int.fdiv_eq_ediv_of_nonneg i (by omega)]; exact q) (.inl (PyProof.noPylong_of_log2 ?_))
  have : j.natAbs.log2 < 62 := (Nat.log2_lt (by omega)).mpr (by omega)
  omega
end
end L2
namespace BB
open PySem L2
structure GoodN (ks : List (Str × Int)) : Prop where
  ne : 1 ≤ ks.length
  le : ks.length ≤ 8
  low : ∀ k ∈ ks, Low k.1 ∧ k.1.length ≤ 8
  num : ∀ k ∈ ks, 0 ≤ k.2 ∧ k.2 ≤ 3
  zero : ∃ k ∈ ks, k.2 = 0
  nd : ∀ (i j : Nat) (k l : Str × Int), ks[i]? = some k → ks[j]? = some l → k.1 = l.1 → i = j
mutual
/-- a pattern over kinds, its calls of so many states and kids -/
def Th.FitS (ks : List (Str × Int)) (S C : Int) : Th → Prop
  | .knot n ts => (n, (ts.length : Int)) ∈ ks ∧ FitSs ks S C ts
  | .call s k => 0 ≤ s ∧ s < S ∧ 0 ≤ k ∧ k < C
def FitSs (ks : List (Str × Int)) (S C : Int) : List Th → Prop
  | [] => True
  | t :: ts => t.FitS ks S C ∧ FitSs ks S C ts
end
theorem FitSs.of {ks : List (Str × Int)} {S C : Int} : ∀ {ts : List Th}, (∀ t ∈ ts, t.FitS ks S C) → FitSs ks S C ts
  | [], _ => by rw [FitSs]; trivial
  | t :: ts, h => by
    rw [FitSs]
    exact ⟨h t (List.mem_cons_self ..), FitSs.of fun u hu => h u (List.mem_cons_of_mem _ hu)⟩
theorem talls_all {ts : List Th} {n : Nat} (h : ∀ t ∈ ts, t.tall ≤ n) : talls ts ≤ n := by
  induction ts with
  | nil => rw [talls]; exact Nat.zero_le _
  | cons t ts ih =>
    rw [talls]
    have h1 := h t (List.mem_cons_self ..)
    have h2 := ih fun u hu => h u (List.mem_cons_of_mem _ hu)
    omega
def SameB (l : Addr) (H H' : Hp) : Prop := ∀ b o, b ≠ l → H b = some o → H' b = some o
theorem SameB.refl {l : Addr} {H : Hp} : SameB l H H := fun _ _ _ e => e
theorem SameB.trans {l : Addr} {A B C : Hp} (h : SameB l A B) (k : SameB l B C) : SameB l A C := fun b o hb e => k b o hb (h b o hb e)
theorem SameB.of {l : Addr} {H H' : Hp} (h : L2.Same H H') : SameB l H H' := fun b o _ e => h b o e
theorem SameB.set {l : Addr} {H : Hp} {o : HO} : SameB l H (upd H l o) := fun b o hb e => by rw [upd_ne hb]; exact e
theorem SameB.kt {l : Addr} {H H' : Hp} {xs : List V} (h : SameB l H H') (e : H l = some (.lst xs)) : KT H H' := fun b ys eb => h b _ (ne_of eb e (by intro z; cases z)) eb
theorem SameB.free {l p : Addr} {H H' : Hp} {o : HO} (h : SameB l H H') (e : H' l = some o) (hp : H' p = none) : H p = none := by
  cases hh : H p with
  | none => rfl
  | some o' =>
    by_cases z : p = l
    · rw [z, e] at hp; cases hp
    · rw [h p o' z hh] at hp; cases hp
def RowAt (H : Hp) (row : List Th) (a : Addr) : Prop := ∃ as : List Addr, H a = some (.tup (as.map V.ref)) ∧ Ats H row as
theorem RowAt.mono {H H' : Hp} (k : KT H H') {row : List Th} {a : Addr} (h : RowAt H row a) : RowAt H' row a := by
  obtain ⟨as, h1, h2⟩ := h
  exact ⟨as, k _ _ h1, h2.mono k⟩
structure RowOk (ins outs : List (Str × Int)) (S : Int) (deep : Nat) (row : List Th) : Prop where
  len : row.length = ins.length
  fit : ∀ (j : Nat) (t : Th) (k : Str × Int), row[j]? = some t → ins[j]? = some k → t.FitS outs S k.2 ∧ t.tall ≤ deep + 1
structure BookAt (H : Hp) (ins outs : List (Str × Int)) (head : Th) (rows : List (List Th)) (r ia oa ha ra : Addr) (ias oas ras : List Addr) : Prop where
  bk : H r = some (.tup [.ref ia, .ref oa, .ref ha, .ref ra])
  inE : H ia = some (.tup (ias.map V.ref))
  inK : KsAt H ins ias
  outE : H oa = some (.tup (oas.map V.ref))
  outK : KsAt H outs oas
  hd : At H head ha
  rl : H ra = some (.tup (ras.map V.ref))
  rw : Paired (RowAt H) rows ras
theorem BookAt.mono {H H' : Hp} (k : KT H H') {ins outs : List (Str × Int)} {head : Th} {rows : List (List Th)} {r ia oa ha ra : Addr} {ias oas ras : List Addr} (b : BookAt H ins outs head rows r ia oa ha ra ias oas ras) : BookAt H' ins outs head rows r ia oa ha ra ias oas ras :=
  ⟨k _ _ b.bk, k _ _ b.inE, b.inK.mono k, k _ _ b.outE, b.outK.mono k, b.hd.mono k, k _ _ b.rl, P2.mp (fun _ _ e => e.mono k) b.rw⟩
structure BookOk (ins outs : List (Str × Int)) (S : Int) (deep : Nat) (head : Th) (rows : List (List Th)) : Prop where
  len : (rows.length : Int) = S
  row : ∀ row ∈ rows, RowOk ins outs S deep row
  hdf : head.FitS outs S 1
  hdt : head.tall ≤ 2
def aeio : Str := Str.ofString "aeio"
def gum : Str := Str.ofString "gumleafs"
theorem gum_low : Low gum := by unfold Low; decide +kernel
theorem cutS_head {z : Str} {n : Nat} (h : n ≤ z.length) : (cutS z none (some (n : Int))).cps.toList = z.cps.toList.take n ∧ (cutS z none (some (n : Int))).length = n := by
  have hz : z.cps.toList.length = z.length := Array.length_toList
  have e : (cutS z none (some (n : Int))).cps.toList = z.cps.toList.take n := by
    show (cutL z.cps.toList none (some (n : Int))).toArray.toList = _
    rw [List.toList_toArray]
    unfold cutL
    rw [HT.sIx_nat, HT.sIx_none, hz, Nat.min_eq_left h]
    simp
  refine ⟨e, ?_⟩
  show (cutS z none (some (n : Int))).cps.size = n
  rw [← Array.length_toList, e, List.length_take, hz]
  omega
def nmOf (begun : Bool) (c0 : Nat) (stem : Str) (at' : Int) (L : List Nat) (p : Nat) : Str :=
  if begun then repS ⟨#[c0]⟩ (1 + p) else cutS stem none (some at') ++ ⟨#[L.getD p 0]⟩ ++ cutS stem (some at') none
theorem nm_inj {begun : Bool} {c0 : Nat} {stem : Str} {at' : Int} {L : List Nat} (hL : ∀ (p r : Nat) (c : Nat), L[p]? = some c → L[r]? = some c → p = r) {p r : Nat} (hp : p < L.length) (hr : r < L.length) (h : nmOf begun c0 stem at' L p = nmOf begun c0 stem at' L r) : p = r := by
  unfold nmOf at h
  cases begun with
  | true =>
    simp only [if_true] at h
    have := congrArg Str.length h
    rw [repS_len, repS_len] at this
    omega
  | false =>
    simp only [Bool.false_eq_true, if_false] at h
    have h2 := congrArg (fun z : Str => z.cps.toList) h
    have h3 : ((cutS stem none (some at')).cps ++ #[L.getD p 0] ++ (cutS stem (some at') none).cps).toList = ((cutS stem none (some at')).cps ++ #[L.getD r 0] ++ (cutS stem (some at') none).cps).toList := h2
    rw [Array.toList_append, Array.toList_append, Array.toList_append, Array.toList_append] at h3
    have h4 := List.append_cancel_right h3
    have h5 := List.append_cancel_left h4
    have h6 : L.getD p 0 = L.getD r 0 := by simpa using h5
    refine hL p r (L.getD r 0) ?_ ?_
    · rw [← h6, List.getD, List.getElem?_eq_getElem hp]; rfl
    · rw [List.getD, List.getElem?_eq_getElem hr]; rfl
theorem nm_low {begun : Bool} {c0 : Nat} {stem : Str} {at' : Int} {L : List Nat} (hc : 97 ≤ c0 ∧ c0 ≤ 122) (hs : Low stem) (hL : ∀ c ∈ L, 97 ≤ c ∧ c ≤ 122) {p : Nat} (hp : p < L.length) : Low (nmOf begun c0 stem at' L p) := by
  unfold nmOf
  cases begun with
  | true =>
    simp only [if_true]
    rw [repS_one]
    intro c hc'
    have hc'' : c ∈ List.replicate (1 + p) c0 := by simpa using hc'
    rw [List.eq_of_mem_replicate hc'']
    exact hc
  | false =>
    simp only [Bool.false_eq_true, if_false]
    have h1 : L.getD p 0 ∈ L := by rw [List.getD, List.getElem?_eq_getElem hp]; exact List.getElem_mem hp
    have h2 := hL _ h1
    exact low_app (low_app (low_cut hs _ _) (low_one h2.1 h2.2)) (low_cut hs _ _)
structure Picks (letters : Str) : Prop where
  len : letters.length = 4
  low : Low (letters ++ aeio)
  inj : ∀ (p r c : Nat), (letters ++ aeio).cps.toList[p]? = some c → (letters ++ aeio).cps.toList[r]? = some c → p = r
theorem picks_of {letters : Str} (h1 : letters.length = 4) (h2 : ((letters ++ aeio).cps.toList.all fun c => decide (97 ≤ c ∧ c ≤ 122)) = true) (h3 : (letters ++ aeio).cps.toList.Nodup) : Picks letters := by
  refine ⟨h1, fun c hc => of_decide_eq_true (List.all_eq_true.mp h2 c hc), fun p r c hp hr => ?_⟩
  obtain ⟨p1, p2⟩ := List.getElem?_eq_some_iff.mp hp
  obtain ⟨r1, r2⟩ := List.getElem?_eq_some_iff.mp hr
  exact (List.getElem_inj h3).mp (p2.trans r2.symm)
theorem picks_a : Picks (Str.ofString "bdhk") := picks_of (by decide +kernel) (by decide +kernel) (by decide +kernel)
theorem picks_b : Picks (Str.ofString "npwz") := picks_of (by decide +kernel) (by decide +kernel) (by decide +kernel)
end BB
namespace BB
open PySem L2
def Bk (H : Hp) (ins outs : List (Str × Int)) (head : Th) (rows : List (List Th)) (r : Addr) : Prop := ∃ ia oa ha ra ias oas ras, BookAt H ins outs head rows r ia oa ha ra ias oas ras
end BB
namespace L2
open PySem PySem.Spec PySem.Calls PyProof.Rows PySem.SeqAt
def rNeLB (K : PySem.W.Frag) : R2 := fun x y H Q => ∃ (a b : Addr) (bs : List Bool), x = .ref a ∧ y = .ref b ∧ SqL K H a (bs.map V.bl) ∧ SqL K H b (bs.map V.bl) ∧ Q (.bl false) H
theorem op_neLB {X : Cx} (hu : X.A.units + 2 < cLine) : OpR X (compareOp .NotEq) (rNeLB X.K) := by
  intro pins s σ H x y v u Q I rx ry h
  obtain ⟨a, b, bs, rfl, rfl, ha, hb, q⟩ := h
  cases rx
  cases ry
  obtain ⟨its, r1, p1, _⟩ := I.list ha
  obtain ⟨its2, r2, p2, _⟩ := I.list hb
  have e1 := vals_bl r1
  have e2 := vals_bl r2
  subst e1 e2
  refine RcNeAt.lists (e := fun j => (bs.getD j false == bs.getD j false)) p1.isList p2.isList rfl (by omega) (fun j h1 h2 => ?_) X.prog X.w X.xe _ ?_
  · have h1' : j < bs.length := by simpa using h1
    have z1 : bs.getD j false = bs[j] := by simp [List.getD, h1']
    have y1 : (bs.map Value.bool).toArray[j] = Value.bool bs[j] := by simp
    rw [z1, y1]
    exact EqAt.bool_bool _ _
  · refine ⟨.bl false, H, I, ?_, q⟩
    have e : ((List.range (bs.map Value.bool).toArray.size).all fun j => (bs.getD j false == bs.getD j false)) = true := List.all_eq_true.mpr fun j _ => beq_self_eq_true _
    rw [e]
    rfl
end L2
namespace BB
open PySem L2
end BB
namespace L2
open PySem PySem.Spec PyProof.Rows
section
variable {X : Cx} {e : Expr} {te : TE} {p p2 pos pos2 : Pos}
end
end L2
namespace BB
open PySem L2
theorem comp_nw {α : Type} {F : Hp → α → Addr → Prop} {js : List (Option Nat)} {g : TG} {tt : TT} {te : TE} {σ : St} {J : It} {H : Hp} {xs : List V} {fin : Addr → Hp → Prop} (zs : List α) (hF : ∀ H1 H2 z p, KT H1 H2 → F H1 z p → F H2 z p) (hz : zs.length = xs.length) (hn : xs.length ≤ 1000000)
    (hgo : ∀ i H2, L2.Same H H2 → i < xs.length → J.go i H2) (hstop : ∀ H2, L2.Same H H2 → J.stop xs.length H2) (hyld : ∀ (i : Nat) H2 x H3, L2.Same H H2 → i < xs.length → J.yld i H2 x H3 → H3 = H2 ∧ xs[i]? = some x)
    (hb : ∀ (i : Nat) x z H2 (R : VK) (W' : Hp → Prop), xs[i]? = some x → zs[i]? = some z → L2.Same H H2 → (∀ H3 p, L2.Same H2 H3 → F H3 z p → R (.ref p) H3) → g x (cσ js σ) H2 fun σ2 H3 => tt σ2 H3 fun b H4 => if b = true then te σ2 H4 R else W' H4)
    (hfin : ∀ D H' as, H D = none → L2.Same H H' → H' D = some (.lst (as.map V.ref)) → Paired (F H') zs as → fin D H') :
    ∀ D, H D = none → ∃ (n : Nat) (W : Nat → Hp → Prop), W 0 (upd H D (.lst [])) ∧ cTurn js g tt te σ J D n W fun H' => fin D H' := by
  intro D hD
  refine ⟨xs.length, fun i H' => i ≤ xs.length ∧ L2.Same H H' ∧ ∃ as : List Addr, H' D = some (.lst (as.map V.ref)) ∧ Paired (F H') (zs.take i) as, ⟨Nat.zero_le _, same_new hD _, [], by rw [upd_same]; rfl, .nil⟩, ?_⟩
  rintro i H' ⟨hi, s1, as, e1, hp⟩
  by_cases hlt : i < xs.length
  · refine .inr ⟨hlt, hgo i H' s1 hlt, fun v H1 hy => ?_⟩
    obtain ⟨e, hx⟩ := hyld i H' v H1 s1 hlt hy
    subst e
    obtain ⟨z, hz'⟩ : ∃ z, zs[i]? = some z := ⟨_, List.getElem?_eq_getElem (by omega)⟩
    have hl : (zs.take i).length = as.length := Paired.length hp
    rw [List.length_take] at hl
    refine hb i v z _ _ _ hx hz' s1 fun H3 p s3 hF3 => ⟨_, s3 _ _ e1, ?_, hlt, same_upd (s1.trans s3) hD, as ++ [p], ?_, ?_⟩
    · rw [List.length_map]
      have : sizeLine = 16777216 := sizeLine_eq
      omega
    · rw [upd_same, List.map_append]; rfl
    · have kt : KT H3 (upd H3 D (.lst (as.map V.ref ++ [.ref p]))) := kt_lst (s3 _ _ e1)
      rw [take_snoc hz']
      exact P2.append (P2.mp (fun x y e => hF _ _ _ _ ((Same.kt s3).trans kt) e) hp) (.cons (hF _ _ _ _ kt hF3) .nil)
  · have hi' : i = xs.length := by omega
    subst hi'
    refine .inl ⟨hstop _ s1, hfin D H' as hD s1 e1 ?_⟩
    rw [List.take_of_length_le (by omega)] at hp
    exact hp
theorem comp_nl {α : Type} {F : Hp → α → Addr → Prop} {js : List (Option Nat)} {g : TG} {tt : TT} {te : TE} {σ : St} {J : It} {H : Hp} {xs : List V} {fin : Addr → Hp → Prop} (zs : List α) (hF : ∀ H1 H2 z p, KT H1 H2 → (∀ o, H1 p = some o → H2 p = some o) → F H1 z p → F H2 z p) (hz : zs.length = xs.length) (hn : xs.length ≤ 1000000)
    (hgo : ∀ i H2, L2.Same H H2 → i < xs.length → J.go i H2) (hstop : ∀ H2, L2.Same H H2 → J.stop xs.length H2) (hyld : ∀ (i : Nat) H2 x H3, L2.Same H H2 → i < xs.length → J.yld i H2 x H3 → H3 = H2 ∧ xs[i]? = some x)
    (hb : ∀ (i : Nat) x z H2 (R : VK) (W' : Hp → Prop), xs[i]? = some x → zs[i]? = some z → L2.Same H H2 → (∀ H3 p, L2.Same H2 H3 → H2 p = none → F H3 z p → R (.ref p) H3) → g x (cσ js σ) H2 fun σ2 H3 => tt σ2 H3 fun b H4 => if b = true then te σ2 H4 R else W' H4)
    (hfin : ∀ D H' as, H D = none → L2.Same H H' → H' D = some (.lst (as.map V.ref)) → Paired (F H') zs as → fin D H') :
    ∀ D, H D = none → ∃ (n : Nat) (W : Nat → Hp → Prop), W 0 (upd H D (.lst [])) ∧ cTurn js g tt te σ J D n W fun H' => fin D H' := by
  intro D hD
  refine ⟨xs.length, fun i H' => i ≤ xs.length ∧ L2.Same H H' ∧ ∃ as : List Addr, H' D = some (.lst (as.map V.ref)) ∧ Paired (fun z a => F H' z a ∧ a ≠ D) (zs.take i) as, ⟨Nat.zero_le _, same_new hD _, [], by rw [upd_same]; rfl, .nil⟩, ?_⟩
  rintro i H' ⟨hi, s1, as, e1, hp⟩
  by_cases hlt : i < xs.length
  · refine .inr ⟨hlt, hgo i H' s1 hlt, fun v H1 hy => ?_⟩
    obtain ⟨e, hx⟩ := hyld i H' v H1 s1 hlt hy
    subst e
    obtain ⟨z, hz'⟩ : ∃ z, zs[i]? = some z := ⟨_, List.getElem?_eq_getElem (by omega)⟩
    have hl : (zs.take i).length = as.length := Paired.length hp
    rw [List.length_take] at hl
    refine hb i v z _ _ _ hx hz' s1 fun H3 p s3 np hF3 => ⟨_, s3 _ _ e1, ?_, hlt, same_upd (s1.trans s3) hD, as ++ [p], ?_, ?_⟩
    · rw [List.length_map]
      have : sizeLine = 16777216 := sizeLine_eq
      omega
    · rw [upd_same, List.map_append]; rfl
    · have kt : KT H3 (upd H3 D (.lst (as.map V.ref ++ [.ref p]))) := kt_lst (s3 _ _ e1)
      have hpD : p ≠ D := fun z => by rw [z, e1] at np; cases np
      rw [take_snoc hz']
      exact P2.append (P2.mp (fun x y e => ⟨hF _ _ _ _ ((Same.kt s3).trans kt) (fun o ho => by rw [upd_ne e.2]; exact s3 _ _ ho) e.1, e.2⟩) hp) (.cons ⟨hF _ _ _ _ kt (fun o ho => by rw [upd_ne hpD]; exact ho) hF3, hpD⟩ .nil)
  · have hi' : i = xs.length := by omega
    subst hi'
    refine .inl ⟨hstop _ s1, hfin D H' as hD s1 e1 ?_⟩
    rw [List.take_of_length_le (by omega)] at hp
    exact P2.mp (fun _ _ e => e.1) hp
end BB
namespace L2
open PySem PySem.Spec PyProof.Rows
theorem FnOk.x0 {P : Program} {w : World} {K : PySem.W.Frag} {mg : Str → Option Value} {base : Heap} {k : Nat} {f : Addr} {fd : FuncData} {ps : List Str} {sp spX : Sp} (F : FnOk P w K mg base (CX1 P w) k f fd ps spX)
    (h : ∀ vs H Q E, sp vs H Q E → spX vs H Q fun _ _ _ => False) : FnOk P w K mg base CX0 k f fd ps sp :=
  ⟨fun vs H Q E q => F.len vs H Q _ (h _ _ _ _ q), fun A outer s H args us vs Q E hr he hb hv hs => codeAny_mono (F.run A outer s H args us vs Q _ hr he hb hv (h _ _ _ _ hs)) fun r s' hc => by
    cases r with
    | error e =>
      obtain ⟨_, _, _, _, _, _, _, _, _, _, _, _, _, hE⟩ := (show CX1 P w outer H s (fun _ _ _ => False) e s' from hc)
      exact hE.elim
    | ok v => cases v <;> exact hc⟩
end L2
namespace L2
open PySem
theorem us1 {α : Type} : ∀ {us : List α}, us.length = 1 → ∃ a, us = [a]
  | [a], _ => ⟨a, rfl⟩
theorem us2 {α : Type} : ∀ {us : List α}, us.length = 2 → ∃ a b, us = [a, b]
  | [a, b], _ => ⟨a, b, rfl⟩
theorem us3 {α : Type} : ∀ {us : List α}, us.length = 3 → ∃ a b c, us = [a, b, c]
  | [a, b, c], _ => ⟨a, b, c, rfl⟩
theorem us4 {α : Type} : ∀ {us : List α}, us.length = 4 → ∃ a b c d, us = [a, b, c, d]
  | [a, b, c, d], _ => ⟨a, b, c, d, rfl⟩
theorem us5 {α : Type} : ∀ {us : List α}, us.length = 5 → ∃ a b c d e, us = [a, b, c, d, e]
  | [a, b, c, d, e], _ => ⟨a, b, c, d, e, rfl⟩
end L2
namespace PySem
open Sem (wp)
section
variable {prog : Program} {w : World} {K : Type} [DecidableEq K] {knd : HeapKind prog w K} {A : Around} {E : Value → Shared → Prop} {s : Shared}
end
end PySem
namespace L2
open PySem PySem.Spec PyProof.Rows BB
end L2
namespace BB
open PySem L2
end BB
namespace PySem
open Sem (wp)
section
variable {prog : Program} {w : World} {A : Around} {E : Value → Shared → Prop} {s : Shared} {I : Addr} {fp wr : List Addr} {G : Array GenState → Array GenState → Prop} {n : Nat} {P : Nat → Value → Prop} {St : Nat → Shared → Prop}
end
end PySem
namespace L2
open PySem PySem.Spec PyProof.Rows
section
variable {X : Cx} {o e : Expr} {to te : TE} {p2 pos2 apos cpos : Pos}
end
end L2
namespace PySem
open Sem (wp)
namespace F
end F
section
variable {prog : Program} {w : World} {A : Around} {E : Value → Shared → Prop} {s : Shared} {a : Addr} {xs : Array Value} {k : Nat}
end
end PySem
namespace L2
open PySem PySem.Spec PyProof.Rows
section
variable {X : Cx} {pins : List (Addr × Obj)} {σ : St}
end
end L2
namespace BB
open PySem L2
end BB
namespace PySem
section
variable {prog : Program} {w : World} {A : Around} {E : Value → Shared → Prop} {s : Shared}
theorem bb_zip_next0 {z TI TO i1 i2 l1 l2 : Addr} {k : Nat} {xs ys : Array Value} {x y a b : Value} {Q : Option Value → Shared → Prop} (D : ZipApart z TI TO i1 i2 l1 l2)
    (hz : IsZip s.heap z TI TO .none) (hTI : IsPair s.heap TI (.ref i1) (.ref i2)) (hTO : IsPair s.heap TO a b)
    (h1 : s.heap.IsTupleIter i1 l1 k) (h2 : s.heap.IsTupleIter i2 l2 k) (hl1 : s.heap.IsTuple l1 xs) (hl2 : s.heap.IsTuple l2 ys) (hx : xs[k]? = some x) (hy : ys[k]? = some y)
    (hQ : ∀ h', IsZip h' z TI TO (rawInt s.heap.objs.size) → IsPair h' TO x y → h'.IsTupleIter i1 l1 (k + 1) → h'.IsTupleIter i2 l2 (k + 1) → IsPair h' s.heap.objs.size x y → h'.objs.size = s.heap.objs.size + 1 →
      (∀ c o, c ≠ z → c ≠ TO → c ≠ i1 → c ≠ i2 → s.heap.get? c = some o → h'.get? c = some o) → Q (some (.ref s.heap.objs.size)) { s with heap := h' }) :
    wpAny (model prog w) A (pyNext (.ref z)) Q E s := by
  have hT : s.TypeIs (.ref z) "zip" := ⟨_, hz, rfl⟩
  unfold pyNext
  refine wpAny_bind (wpAny_attempt (wpAny_callSpecial?_slot (name := Str.ofString "__next__") hT F.slot_zip_next (wpAny_call_entry F.slot_zip_next hT F.entry_zip_next ?_ (F.args_zip_next_1 _))))
  exact bb_zip_itemA D hz hTI hTO h1 h2 hl1 hl2 hx hy fun h' a1 a2 a3 a4 a5 a6 a7 => wpAny_pure (hQ h' a1 a2 a3 a4 a5 a6 a7)
end
end PySem
namespace L2
open PySem PySem.Spec PyProof.Rows
def Itz (K : PySem.W.Frag) (a b : Addr) : It := ⟨fun i H => ∃ xs ys x y, SqT K H a xs ∧ SqT K H b ys ∧ xs[i]? = some x ∧ ys[i]? = some y, fun i H v H' => ∃ p x y, H p = none ∧ v = .ref p ∧ H' = upd H p (.tup [x, y]) ∧ (∀ xs, SqT K H a xs → xs[i]? = some x) ∧ (∀ ys, SqT K H b ys → ys[i]? = some y), fun i H => ∃ xs ys, SqT K H a xs ∧ SqT K H b ys ∧ (xs.length ≤ i ∨ ys.length ≤ i)⟩
structure ZTn (z TI TO i1 i2 a b : Addr) (i : Nat) (h : Heap) : Prop where
  ap : ZipApart z TI TO i1 i2 a b
  zip : IsZip h z TI TO .none
  hTI : IsPair h TI (.ref i1) (.ref i2)
  hTO : ∃ u v, IsPair h TO u v
  h1 : h.IsTupleIter i1 a i
  h2 : h.IsTupleIter i2 b i
theorem turn_zip {P : Program} {w : World} {K : PySem.W.Frag} {elts : List Expr} {k1} {pos : Pos} (a b z TI TO i1 i2 : Addr) : Turn P w K (.Tuple elts k1 pos) (Itz K a b) [z, TI, TO, i1, i2] z (ZTn z TI TO i1 i2 a b) where
  mem := by simp
  obj := fun i h st c hc => by
    obtain ⟨D, hz, hTI, ⟨u, v, hTO⟩, ⟨o1, a1, a2, a3⟩, ⟨o2, b1, b2, b3⟩⟩ := st
    simp only [List.mem_cons, List.not_mem_nil, or_false] at hc
    rcases hc with rfl | rfl | rfl | rfl | rfl
    · exact ⟨_, hz, fun v z => by cases z⟩
    · exact ⟨_, hTI, fun v z => by cases z⟩
    · exact ⟨_, hTO, fun v z => by cases z⟩
    · exact ⟨o1, a1, fun v z => by rw [a3] at z; cases z⟩
    · exact ⟨o2, b1, fun v z => by rw [b3] at z; cases z⟩
  keep := fun i h h' st k => by
    obtain ⟨D, hz, hTI, ⟨u, v, hTO⟩, ⟨o1, a1, a2⟩, ⟨o2, b1, b2⟩⟩ := st
    exact ⟨D, k _ (by simp) _ hz, k _ (by simp) _ hTI, ⟨u, v, k _ (by simp) _ hTO⟩, ⟨o1, k _ (by simp) _ a1, a2⟩, ⟨o2, k _ (by simp) _ b1, b2⟩⟩
  item := by
    intro X hP hw hK hc i pins s σ H E I hf st hg
    subst hP hw hK
    obtain ⟨xs, ys, x, y, hqa, hqb, hx, hy⟩ := hg
    obtain ⟨ia, rva, pa, hza⟩ := I.tuple hqa
    obtain ⟨ib, rvb, pb, hzb⟩ := I.tuple hqb
    obtain ⟨u, hu, ru⟩ := rva.get hx
    obtain ⟨v, hv, rv⟩ := rvb.get hy
    obtain ⟨D, hz, hTI, ⟨ta, tb, hTO⟩, h1, h2⟩ := st
    have lt : ∀ c ∈ [z, TI, TO, i1, i2], c < s.heap.objs.size := fun c hc => by
      simp only [List.mem_cons, List.not_mem_nil, or_false] at hc
      rcases hc with rfl | rfl | rfl | rfl | rfl
      · exact Heap.lt_size hz
      · exact Heap.lt_size hTI
      · exact Heap.lt_size hTO
      · obtain ⟨o, e, _⟩ := h1; exact Heap.lt_size e
      · obtain ⟨o, e, _⟩ := h2; exact Heap.lt_size e
    refine bb_zip_next0 D hz hTI hTO h1 h2 (show s.heap.IsTuple a ia.toArray from pa) (show s.heap.IsTuple b ib.toArray from pb) (by simpa using hu) (by simpa using hv) fun h1' a1 a2 a3 a4 a5 a6 a7 => ?_
    refine ⟨_, rfl, wpAny_letOwnedTupleGo_zip a1 fun h2' g1 sb => ?_⟩
    replace sb : Heap.SameBut z h1' h2' := sb
    have hHn : H s.heap.objs.size = none := I.hok.fresh (Nat.le_refl _)
    have IA : Inv X pins σ (upd H s.heap.objs.size (.tup [x, y])) { s with heap := s.heap.push { cls := .type "tuple", data := .seq #[u, v] }, toks := s.toks } :=
      I.laid (o := .tup [x, y]) (fun b ob q => Heap.get?_push_of_some _ q) (Nat.le_refl _) ⟨by show 2 ≤ sizeLine; decide, [u, v], 0, .cons ru (.cons rv .nil), Heap.get?_push_size _ rfl⟩
    have hzT : s.heap.objs.size ≠ z := Nat.ne_of_gt (lt z (by simp))
    refine ⟨.ref s.heap.objs.size, upd H s.heap.objs.size (.tup [x, y]), ?_, rfl, ⟨_, x, y, hHn, rfl, rfl, fun zs hzs => by rw [I.tuple_inj hzs hqa]; exact hx, fun zs hzs => by rw [I.tuple_inj hzs hqb]; exact hy⟩, ?_, fun c hc => ?_⟩
    · have IB : Inv X pins σ (upd H s.heap.objs.size (.tup [x, y])) { s with heap := h2', toks := s.toks } := by
        refine Inv.turnedL (s := { s with heap := s.heap.push { cls := .type "tuple", data := .seq #[u, v] }, toks := s.toks }) (h' := h2') (fp := [z, TI, TO, i1, i2]) (t' := s.toks) IA (fun c o hc q => ?_) fun c hc => ?_
        · have n1 : c ≠ z := fun e => hc (by simp [e])
          have n2 : c ≠ TO := fun e => hc (by simp [e])
          have n3 : c ≠ i1 := fun e => hc (by simp [e])
          have n4 : c ≠ i2 := fun e => hc (by simp [e])
          rw [sb.2 c n1]
          by_cases hb2 : c = s.heap.objs.size
          · subst hb2
            have q' : (s.heap.push { cls := .type "tuple", data := .seq #[u, v] }).get? s.heap.objs.size = some o := q
            rw [Heap.get?_push_size _ rfl] at q'
            rw [← q']
            exact a5
          · have q' : (s.heap.push { cls := .type "tuple", data := .seq #[u, v] }).get? c = some o := q
            rw [Heap.get?_push_ne _ _ _ hb2] at q'
            exact a7 c o n1 n2 n3 n4 q'
        · obtain ⟨f0, f1⟩ := hf c hc
          exact ⟨by rw [upd_ne (Nat.ne_of_lt (lt c hc))]; exact f0, f1⟩
      exact IB
    · have sT : ∀ c o, c ≠ z → h1'.get? c = some o → h2'.get? c = some o := fun c o hc e => (sb.2 c hc).trans e
      refine ⟨D, g1, sT _ _ D.TIz (a7 _ _ D.TIz D.TITO D.TIi1 D.TIi2 hTI), ⟨_, _, sT _ _ D.TOz a2⟩, ?_, ?_⟩
      · obtain ⟨o, e, r⟩ := a3; exact ⟨o, sT _ _ D.i1z e, r⟩
      · obtain ⟨o, e, r⟩ := a4; exact ⟨o, sT _ _ D.i2z e, r⟩
    · rw [upd_ne (Nat.ne_of_lt (lt c hc))]
      exact (hf c hc).1
  done := by
    intro X hP hw hK hc i pins s σ H E I hf st hg
    subst hP hw hK
    obtain ⟨xs, ys, hqa, hqb, hend⟩ := hg
    obtain ⟨ia, rva, pa, hza⟩ := I.tuple hqa
    obtain ⟨ib, rvb, pb, hzb⟩ := I.tuple hqb
    have hla := rva.length
    have hlb := rvb.length
    obtain ⟨D, hz, hTI, hTO, h1, h2⟩ := st
    refine bb_zip_done (show X.A.handled = none from I.ok.hd hc) ⟨D, .inl hz, hTI, hTO, h1, h2, pa, pb⟩ ?_ fun h' kp => ⟨rfl, ?_⟩
    · rcases hend with h | h
      · exact .inl (by simp; omega)
      · exact .inr (by simp; omega)
    exact I.turnedL (fp := [z, TI, TO, i1, i2]) (t' := s.toks) (fun c o hc q => kp c o (fun hm => hc (by simp only [List.mem_cons, List.not_mem_nil, or_false] at hm ⊢; rcases hm with h | h | h | h <;> simp [h])) q) hf
  self := fun _ _ _ _ _ st h => wpAny_pyIter_zip st.zip h
section
variable {X : Cx} {e1 e2 : Expr} {t : TA} {p2 pos2 : Pos}
def iZip (K : PySem.W.Frag) (t : TA) : TI := fun σ H R => t σ H fun vs H1 => ∃ a b, vs = [.ref a, .ref b] ∧ (∃ xs, SqT K H1 a xs) ∧ (∃ ys, SqT K H1 b ys) ∧ R (Itz K a b) H1
theorem pi_zip {elts : List Expr} {k1} {pos : Pos} (g2 : Gl X "zip") (m2 : X.mg "zip" = none) (ha : PA X [e1, e2] t)
    (h2 : starEach [e1, e2] X.env = (false, eval e1 X.env) :: starEach [e2] X.env := by rfl) (h3 : (backTo pos2 (starEach [e2] X.env)).any (·.1) = false := by rfl) : PI X (.Tuple elts k1 pos) (.Call (.Name "zip" p2) [e1, e2] [] pos2) (iZip X.K t) := by
  intro pins s σ H R I h
  refine wpAny_Call_Name_kw (ld_blt I g2 m2 boot_zip ?_)
  refine PyProof.Rows.callWith_type1 (thn (ha pos2 pins s σ H _ I h) fun us s2 ⟨vs, H2, I2, r, a, b, ev, ⟨xs, hqa⟩, ⟨ys, hqb⟩, q⟩ => ?_) h2 h3
  subst ev
  obtain ⟨u1, u2, rfl, r1, r2⟩ := vals2 r
  cases r1
  cases r2
  obtain ⟨ia, rva, pa, hza⟩ := I2.tuple hqa
  obtain ⟨ib, rvb, pb, hzb⟩ := I2.tuple hqb
  have hal : a < s2.heap.objs.size := by obtain ⟨o, e, _⟩ := pa; exact Heap.lt_size e
  have hbl : b < s2.heap.objs.size := by obtain ⟨o, e, _⟩ := pb; exact Heap.lt_size e
  refine bb_call_zip (show s2.heap.IsTuple a ia.toArray from pa) (show s2.heap.IsTuple b ib.toArray from pb) fun h' z1 z2 z3 z4 z5 z6 z7 => ?_
  have D : ZipApart (s2.heap.objs.size + 4) (s2.heap.objs.size + 2) (s2.heap.objs.size + 3) s2.heap.objs.size (s2.heap.objs.size + 1) a b := zipApart_new hal hbl
  refine wpAny_pyIter_zip (s := { s2 with heap := h' }) z1 ?_
  refine ⟨s2.heap.objs.size + 4, [s2.heap.objs.size + 4, s2.heap.objs.size + 2, s2.heap.objs.size + 3, s2.heap.objs.size, s2.heap.objs.size + 1], _, _, H2, rfl, I2.kept (t' := s2.toks) z7, turn_zip a b _ _ _ _ _, ⟨D, z1, z2, ⟨_, _, z3⟩, z4, z5⟩, fun c hc => ?_, q⟩
  have hc' : s2.heap.objs.size ≤ c := by
    simp only [List.mem_cons, List.not_mem_nil, or_false] at hc
    rcases hc with h | h | h | h | h <;> rw [h]
    · exact Nat.le_add_right _ _
    · exact Nat.le_add_right _ _
    · exact Nat.le_add_right _ _
    · exact Nat.le_refl _
    · exact Nat.le_add_right _ _
  exact I2.fpOk hc' (I2.hok.fresh hc')
end
end L2
namespace BB
open PySem L2
theorem for_it {J : It} {g : TG} {tb : TS} {D : Ends} {σ : St} {H : Hp} (n : Nat) (Pv : Nat → St → Hp → Prop) (h0 : Pv 0 σ H) (hgo : ∀ i σ H, i < n → Pv i σ H → J.go i H) (hstop : ∀ σ H, Pv n σ H → J.stop n H)
    (hs : ∀ i x σ H H', i < n → Pv i σ H → J.yld i H x H' → g x σ H' fun σ2 H2 => tb { D with nx := Pv (i + 1), ct := Pv (i + 1), bk := D.nx } σ2 H2) (hd : ∀ σ H, Pv n σ H → D.nx σ H) :
    ∃ W : Nat → Nat → St → Hp → Prop, (∃ m, W 0 m σ H) ∧ ∀ i m σ H, W i m σ H →
      (J.stop i H ∧ D.nx σ H) ∨ (J.go i H ∧ ∃ N : St → Hp → Prop, (∀ σ' H', N σ' H' → ∃ m', m' < m ∧ W (i + 1) m' σ' H') ∧ ∀ x H', J.yld i H x H' → g x σ H' fun σ2 H2 => tb { D with nx := N, ct := N, bk := D.nx } σ2 H2) := by
  refine ⟨fun i m σ H => i ≤ n ∧ m = n - i ∧ Pv i σ H, ⟨n, Nat.zero_le _, rfl, h0⟩, ?_⟩
  rintro i m σ H ⟨hi, rfl, p⟩
  by_cases h : i = n
  · left
    subst h
    exact ⟨hstop σ H p, hd σ H p⟩
  · right
    have hi' : i < n := by omega
    exact ⟨hgo i σ H hi' p, Pv (i + 1), fun σ' H' q => ⟨n - (i + 1), by omega, by omega, rfl, q⟩, fun x H' y => hs i x σ H H' hi' p y⟩
end BB
namespace BB
open PySem L2
noncomputable section
local instance : DecidableEq Th := fun _ _ => Classical.propDecidable _
end
end BB
namespace PySem
open Sem (wp)
section
variable {prog : Program} {w : World} {K : Type} [DecidableEq K] {knd : HeapKind prog w K} {A : Around} {E : Value → Shared → Prop} {s : Shared}
end
end PySem
namespace L2
open PySem PySem.Spec PyProof.Rows
end L2
namespace PySem
open Sem (wp)
section
variable {prog : Program} {w : World} {A : Around} {R : Result → Shared → Prop}
end
section
variable {prog : Program} {w : World} {A : Around} {E : Value → Shared → Prop} {s : Shared}
end
end PySem
namespace L2
open PySem PySem.Spec PyProof.Rows
end L2
namespace L2
open PySem PySem.Spec PyProof.Rows BB
end L2
namespace PySem
open Sem (wp)
section
variable {prog : Program} {w : World} {K : Type} [DecidableEq K] (knd : HeapKind prog w K) (d : Addr)
end
section
variable {prog : Program} {w : World} {K : Type} [DecidableEq K] {knd : HeapKind prog w K} {A : Around} {E : Value → Shared → Prop} {s : Shared}
end
end PySem
namespace L2
open PySem PySem.Spec PyProof.Rows
end L2
namespace BB
open PySem L2
end BB
namespace BB
open PySem L2
end BB
namespace BB
open PySem L2
theorem size_pos (t : Th) : 0 < t.size := by cases t <;> (rw [Th.size]; omega)
end BB
namespace BB
open PySem L2
theorem size_mem {u : Th} : ∀ {ts : List Th}, u ∈ ts → u.size ≤ sizes ts
  | [], h => by cases h
  | t :: ts, h => by
    rw [sizes]
    rcases List.mem_cons.mp h with rfl | h
    · omega
    · have := size_mem h
      omega
end BB
namespace BB
open PySem L2 PySem.Builtin PySem.Builtin.Str
end BB
namespace L2
open PySem PySem.Spec PySem.Calls PyProof.Rows BB
section
variable {X : Cx} {pins : List (Addr × Obj)} {σ : List (Option V)} {H : Hp} {s : Shared}
end
end L2
namespace L2
open PySem PySem.Spec PySem.Calls PyProof.Rows PySem.Builtin PySem.Builtin.Str BB
variable {X : Cx}
end L2
namespace BB
open PySem L2
end BB
namespace BB
open PySem L2
section
variable {H H' : Hp} {t : Th} {a : Addr} {ts : List Th} {es : List Addr}
end
end BB
namespace L2
open PySem PySem.Spec PyProof.Rows BB
variable {X : Cx}
end L2
namespace L2
open PySem PySem.Spec PyProof.Rows PySem.W
end L2
namespace L2
open PySem PySem.Spec PyProof.Rows BB
variable {X : Cx}
end L2
namespace L2
open PySem PySem.Spec PySem.Calls PyProof.Rows PySem.W
end L2
namespace BB
open PySem L2 PySem.Builtin PySem.Builtin.Str
end BB
namespace L2
open PySem PySem.Spec PySem.Calls PyProof.Rows PySem.Builtin PySem.Builtin.Str BB
variable {X : Cx}
end L2
namespace L2
open PySem PySem.Spec PyProof.Rows
end L2
namespace BB
open PySem L2
theorem goodN_nodup {ks : List (Str × Int)} (g : GoodN ks) : (ks.map (·.1)).Nodup := by
  refine List.pairwise_iff_getElem.mpr fun i j hi hj hij e => ?_
  rw [List.length_map] at hi hj
  rw [List.getElem_map, List.getElem_map] at e
  have := g.nd i j _ _ (List.getElem?_eq_getElem hi) (List.getElem?_eq_getElem hj) e
  omega
mutual
theorem fitS_fpb {ks : List (Str × Int)} {S C : Int} (hn : (ks.map (·.1)).Nodup) : ∀ {t : Th}, t.FitS ks S C → fpb ks S C t = true
  | .knot n ts, h => by
    rw [Th.FitS] at h
    rw [fpb_eq, okP, decide_eq_true ((manyOf_mem hn).mpr h.1), Bool.true_and]
    exact fitSs_fpbs hn h.2
  | .call s k, h => by
    rw [Th.FitS] at h
    rw [fpb_eq, okP, decide_eq_true ⟨h.1, h.2.1⟩, decide_eq_true ⟨h.2.2.1, h.2.2.2⟩]
    rfl
theorem fitSs_fpbs {ks : List (Str × Int)} {S C : Int} (hn : (ks.map (·.1)).Nodup) : ∀ {ts : List Th}, FitSs ks S C ts → fpbs ks S C ts = true
  | [], _ => rfl
  | t :: ts, h => by
    rw [FitSs] at h
    rw [fpbs_all, List.map_cons, List.all_cons, fitS_fpb hn h.1, ← fpbs_all, fitSs_fpbs hn h.2]
    rfl
end
theorem pow4_le {a b : Nat} (h : a ≤ b) : 4 ^ a ≤ 4 ^ b := Nat.pow_le_pow_right (by decide) h
mutual
theorem fitS_size {ks : List (Str × Int)} {S C : Int} (g : GoodN ks) : ∀ {t : Th}, t.FitS ks S C → t.size ≤ 4 ^ t.tall
  | .knot n ts, h => by
    rw [Th.FitS] at h
    have h1 := fitSs_size g h.2
    have h2 := (g.num _ h.1).2
    have h3 : ts.length ≤ 3 := by
      have : (ts.length : Int) ≤ 3 := h2
      omega
    rw [Th.size, Th.tall, Nat.pow_succ]
    have h4 : ts.length * 4 ^ talls ts ≤ 3 * 4 ^ talls ts := Nat.mul_le_mul_right _ h3
    have h5 : 0 < 4 ^ talls ts := Nat.pow_pos (by decide)
    omega
  | .call s k, h => by rw [Th.size, Th.tall]; decide
theorem fitSs_size {ks : List (Str × Int)} {S C : Int} (g : GoodN ks) : ∀ {ts : List Th}, FitSs ks S C ts → sizes ts ≤ ts.length * 4 ^ talls ts
  | [], _ => by rw [sizes]; exact Nat.zero_le _
  | t :: ts, h => by
    rw [FitSs] at h
    have h1 := fitS_size g h.1
    have h2 := fitSs_size g h.2
    rw [sizes, List.length_cons, talls, Nat.succ_mul]
    have a1 := pow4_le (Nat.le_max_left t.tall (talls ts))
    have a2 := pow4_le (Nat.le_max_right t.tall (talls ts))
    have a3 : ts.length * 4 ^ talls ts ≤ ts.length * 4 ^ max t.tall (talls ts) := Nat.mul_le_mul_left _ a2
    omega
end
mutual
theorem kn_size : ∀ t : Th, t.kn ≤ t.size
  | .knot n ts => by
    have := kns_size ts
    rw [Th.kn, Th.size]
    omega
  | .call s k => by rw [Th.kn]; exact Nat.zero_le _
theorem kns_size : ∀ ts : List Th, kns ts ≤ sizes ts
  | [] => by rw [kns]; exact Nat.zero_le _
  | t :: ts => by
    have := kn_size t
    have := kns_size ts
    rw [kns, sizes]
    omega
end
theorem fpb_set {ks : List (Str × Int)} {S C : Int} {n : Str} {ts : List Th} {i : Nat} {u : Th} (hi : i < ts.length) (hu : fpb ks S C u = false) : fpb ks S C (.knot n (ts.set i u)) = false := by
  rw [fpb_eq]
  show (_ && fpbs ks S C (ts.set i u)) = false
  rw [fpbs_all]
  have : ((ts.set i u).map (fpb ks S C)).all id = false := by
    rw [Bool.eq_false_iff]
    intro z
    rw [List.all_eq_true] at z
    have := z (fpb ks S C u) (List.mem_map.mpr ⟨u, List.mem_set hi u, rfl⟩)
    rw [hu] at this
    cases this
  rw [this, Bool.and_false]
def rowsDv (rows : List (List Th)) : List Dv := rows.map fun row => .tup (dvs row)
def bookDv (ins outs : List (Str × Int)) (head : Th) (rows : List (List Th)) : List Dv := [.tup (ins.map kDv), .tup (outs.map kDv), head.dv, .tup (rowsDv rows)]
theorem rows_dv {H : Hp} : ∀ {rows : List (List Th)} {ras : List Addr}, Paired (RowAt H) rows ras → DAts H (rowsDv rows) (ras.map V.ref)
  | _, _, .nil => .nil
  | _, _, .cons (a := row) (b := a) r h => by
    obtain ⟨as, e, h1⟩ := r
    show DAts H (Dv.tup (dvs row) :: rowsDv _) (V.ref a :: _)
    refine .cons ?_ (rows_dv h)
    rw [DAt]
    exact ⟨a, _, rfl, e, h1.dvs⟩
theorem book_dv {H : Hp} {ins outs : List (Str × Int)} {head : Th} {rows : List (List Th)} {r ia oa ha ra : Addr} {ias oas ras : List Addr} (b : BookAt H ins outs head rows r ia oa ha ra ias oas ras) : DAts H (bookDv ins outs head rows) [.ref ia, .ref oa, .ref ha, .ref ra] := by
  refine .cons ?_ (.cons ?_ (.cons b.hd.dv (.cons ?_ .nil)))
  · rw [DAt]; exact ⟨ia, _, rfl, b.inE, ks_dv b.inK⟩
  · rw [DAt]; exact ⟨oa, _, rfl, b.outE, ks_dv b.outK⟩
  · rw [DAt]; exact ⟨ra, _, rfl, b.rl, rows_dv b.rw⟩
theorem rowsDv_deep {m : Nat} : ∀ {rows : List (List Th)}, (∀ row ∈ rows, ∀ t ∈ row, t.tall ≤ m) → deeps (rowsDv rows) ≤ m + 1
  | [], _ => by show deeps [] ≤ _; rw [deeps]; exact Nat.zero_le _
  | row :: rows, h => by
    have h1 := rowsDv_deep (rows := rows) fun r hr => h r (List.mem_cons_of_mem _ hr)
    have h2 := dvs_deep row
    have h3 : talls row ≤ m := by
      have := h row (List.mem_cons_self ..)
      clear h h1 h2
      induction row with
      | nil => rw [talls]; exact Nat.zero_le _
      | cons t ts ih =>
        rw [talls]
        have a := this t (List.mem_cons_self ..)
        have b := ih fun u hu => this u (List.mem_cons_of_mem _ hu)
        omega
    show deeps (Dv.tup (dvs row) :: rowsDv rows) ≤ _
    rw [deeps, Dv.deep]
    omega
theorem bookDv_deep {ins outs : List (Str × Int)} {head : Th} {rows : List (List Th)} {m : Nat} (hm : 1 ≤ m) (h1 : head.tall ≤ m) (h2 : ∀ row ∈ rows, ∀ t ∈ row, t.tall ≤ m) : deeps (bookDv ins outs head rows) ≤ m + 2 := by
  have a1 := kDv_deep ins
  have a2 := kDv_deep outs
  have a3 := head.dv_deep
  have a4 := rowsDv_deep h2
  unfold bookDv
  simp only [deeps, Dv.deep]
  omega
end BB
namespace LAW
open PySem L2 BB
def top (i : Nat) : Stmt := PySem.Challenge.pw_boughbook_k19_books_made.main.body.getD i (.Pass ⟨0, 0, 0, 0⟩)
abbrev s_is_number : Stmt := top 9
theorem sc_is_number : FnScope ["thing"] ["thing"] (defScope s_is_number) := ⟨rfl, rfl, rfl, by decide +kernel, rfl, by decide +kernel, by decide +kernel⟩
abbrev s_is_below : Stmt := top 10
theorem sc_is_below : FnScope ["number", "bound"] ["number", "bound"] (defScope s_is_below) := ⟨rfl, rfl, rfl, by decide +kernel, rfl, by decide +kernel, by decide +kernel⟩
abbrev s_is_name : Stmt := top 11
theorem sc_is_name : FnScope ["thing"] ["thing"] (defScope s_is_name) := ⟨rfl, rfl, rfl, by decide +kernel, rfl, by decide +kernel, by decide +kernel⟩
abbrev s_is_kind : Stmt := top 12
theorem sc_is_kind : FnScope ["pair"] ["pair"] (defScope s_is_kind) := ⟨rfl, rfl, rfl, by decide +kernel, rfl, by decide +kernel, by decide +kernel⟩
abbrev s_are_kinds : Stmt := top 13
theorem sc_are_kinds : FnScope ["kinds", "names"] ["kinds"] (defScope s_are_kinds) := ⟨rfl, rfl, rfl, by decide +kernel, rfl, by decide +kernel, by decide +kernel⟩
abbrev s_kinds_of : Stmt := top 14
theorem sc_kinds_of : FnScope ["pairs", "kinds"] ["pairs"] (defScope s_kinds_of) := ⟨rfl, rfl, rfl, by decide +kernel, rfl, by decide +kernel, by decide +kernel⟩
abbrev s_many_of : Stmt := top 15
theorem sc_many_of : FnScope ["kinds", "name", "kind", "many"] ["kinds", "name"] (defScope s_many_of) := ⟨rfl, rfl, rfl, by decide +kernel, rfl, by decide +kernel, by decide +kernel⟩
abbrev s_kids_of : Stmt := top 16
theorem sc_kids_of : FnScope ["thing"] ["thing"] (defScope s_kids_of) := ⟨rfl, rfl, rfl, by decide +kernel, rfl, by decide +kernel, by decide +kernel⟩
abbrev s_walked : Stmt := top 17
theorem sc_walked : FnScope ["thing", "met", "ahead", "part"] ["thing"] (defScope s_walked) := ⟨rfl, rfl, rfl, by decide +kernel, rfl, by decide +kernel, by decide +kernel⟩
abbrev s_is_call : Stmt := top 19
theorem sc_is_call : FnScope ["thing"] ["thing"] (defScope s_is_call) := ⟨rfl, rfl, rfl, by decide +kernel, rfl, by decide +kernel, by decide +kernel⟩
abbrev s_fits_pattern : Stmt := top 20
theorem sc_fits_pattern : FnScope ["kinds", "pattern", "states", "kids", "part"] ["kinds", "pattern", "states", "kids"] (defScope s_fits_pattern) := ⟨rfl, rfl, rfl, by decide +kernel, rfl, by decide +kernel, by decide +kernel⟩
abbrev s_Measure_init : Stmt := inClass (top 26) 0
theorem sc_Measure_init : FnScope ["self"] ["self"] (defScope s_Measure_init) := ⟨rfl, rfl, rfl, by decide +kernel, rfl, by decide +kernel, by decide +kernel⟩
abbrev s_Measure_takes : Stmt := inClass (top 26) 1
theorem sc_Measure_takes : FnScope ["self", "part", "row"] ["self", "part", "row"] (defScope s_Measure_takes) := ⟨rfl, rfl, rfl, by decide +kernel, rfl, by decide +kernel, by decide +kernel⟩
abbrev s_is_small : Stmt := top 27
theorem sc_is_small : FnScope ["pattern", "measure", "ahead", "part", "row"] ["pattern"] (defScope s_is_small) := ⟨rfl, rfl, rfl, by decide +kernel, rfl, by decide +kernel, by decide +kernel⟩
abbrev s_check_pattern : Stmt := top 28
theorem sc_check_pattern : FnScope ["outs", "pattern", "states", "kids"] ["outs", "pattern", "states", "kids"] (defScope s_check_pattern) := ⟨rfl, rfl, rfl, by decide +kernel, rfl, by decide +kernel, by decide +kernel⟩
abbrev s_check_state : Stmt := top 29
theorem sc_check_state : FnScope ["ins", "outs", "patterns", "states", "kind", "pattern"] ["ins", "outs", "patterns", "states"] (defScope s_check_state) := ⟨rfl, rfl, rfl, by decide +kernel, rfl, by decide +kernel, by decide +kernel⟩
abbrev s_made_book : Stmt := top 30
theorem sc_made_book : FnScope ["ins", "outs", "head", "rules", "taken", "given", "rows", "patterns"] ["ins", "outs", "head", "rules"] (defScope s_made_book) := ⟨rfl, rfl, rfl, by decide +kernel, rfl, by decide +kernel, by decide +kernel⟩
abbrev s__law_cell : Stmt := top 32
theorem sc__law_cell : FnScope ["script", "k"] ["script", "k"] (defScope s__law_cell) := ⟨rfl, rfl, rfl, by decide +kernel, rfl, by decide +kernel, by decide +kernel⟩
abbrev s__law_turn : Stmt := top 33
theorem sc__law_turn : FnScope ["cell", "k", "near"] ["cell", "k"] (defScope s__law_turn) := ⟨rfl, rfl, rfl, by decide +kernel, rfl, by decide +kernel, by decide +kernel⟩
abbrev s__law_kinds : Stmt := top 34
theorem sc__law_kinds : FnScope ["cell", "letters", "rest", "size", "stem", "at", "leaf", "turn", "begun", "kinds", "k", "many", "name"] ["cell", "letters"] (defScope s__law_kinds) := ⟨rfl, rfl, rfl, by decide +kernel, rfl, by decide +kernel, by decide +kernel⟩
abbrev s__law_leaf : Stmt := top 35
theorem sc__law_leaf : FnScope ["kinds", "cell", "leaves"] ["kinds", "cell"] (defScope s__law_leaf) := ⟨rfl, rfl, rfl, by decide +kernel, rfl, by decide +kernel, by decide +kernel⟩
abbrev s__law_pattern : Stmt := top 36
theorem sc__law_pattern : FnScope ["cell", "outs", "states", "kids", "deep", "rest", "kind", "parts", "k"] ["cell", "outs", "states", "kids", "deep"] (defScope s__law_pattern) := ⟨rfl, rfl, rfl, by decide +kernel, rfl, by decide +kernel, by decide +kernel⟩
abbrev s__law_digit : Stmt := top 37
theorem sc__law_digit : FnScope ["left", "many", "digit"] ["left", "many"] (defScope s__law_digit) := ⟨rfl, rfl, rfl, by decide +kernel, rfl, by decide +kernel, by decide +kernel⟩
abbrev s__law_by_digits : Stmt := top 38
theorem sc__law_by_digits : FnScope ["left", "outs", "states", "kids", "deep", "state", "some", "kind", "parts", "k"] ["left", "outs", "states", "kids", "deep"] (defScope s__law_by_digits) := ⟨rfl, rfl, rfl, by decide +kernel, rfl, by decide +kernel, by decide +kernel⟩
abbrev s__law_book_by_digits : Stmt := top 39
theorem sc__law_book_by_digits : FnScope ["cell", "ins", "outs", "states", "deep", "left", "rules", "state", "row", "k"] ["cell", "ins", "outs", "states", "deep"] (defScope s__law_book_by_digits) := ⟨rfl, rfl, rfl, by decide +kernel, rfl, by decide +kernel, by decide +kernel⟩
abbrev s__law_book : Stmt := top 40
theorem sc__law_book : FnScope ["cell", "ins", "outs", "states", "deep", "rules", "state", "row", "k"] ["cell", "ins", "outs", "states", "deep"] (defScope s__law_book) := ⟨rfl, rfl, rfl, by decide +kernel, rfl, by decide +kernel, by decide +kernel⟩
abbrev s__law_kinds_spoilt : Stmt := top 41
theorem sc__law_kinds_spoilt : FnScope ["kinds", "cell", "way", "at", "one"] ["kinds", "cell"] (defScope s__law_kinds_spoilt) := ⟨rfl, rfl, rfl, by decide +kernel, rfl, by decide +kernel, by decide +kernel⟩
abbrev s__law_spoilt : Stmt := top 42
theorem sc__law_spoilt : FnScope ["pattern", "outs", "states", "kids", "cell", "at", "part", "way", "kind", "leaf"] ["pattern", "outs", "states", "kids", "cell"] (defScope s__law_spoilt) := ⟨rfl, rfl, rfl, by decide +kernel, rfl, by decide +kernel, by decide +kernel⟩
abbrev s__law_faulty : Stmt := top 43
theorem sc__law_faulty : FnScope ["book", "cell", "ins", "outs", "head", "rules", "way", "rest", "row", "state", "k"] ["book", "cell"] (defScope s__law_faulty) := ⟨rfl, rfl, rfl, by decide +kernel, rfl, by decide +kernel, by decide +kernel⟩
abbrev s__law_refusal : Stmt := top 44
theorem sc__law_refusal : FnScope ["parts", "kinds", "e"] ["parts"] (defScope s__law_refusal) := ⟨rfl, rfl, rfl, by decide +kernel, rfl, by decide +kernel, by decide +kernel⟩
abbrev s__law_one : Stmt := top 45
theorem sc__law_one : FnScope ["cell", "ins", "outs", "rest", "book", "rules", "found", "parts"] ["cell", "ins", "outs"] (defScope s__law_one) := ⟨rfl, rfl, rfl, by decide +kernel, rfl, by decide +kernel, by decide +kernel⟩
abbrev s_law : Stmt := top 46
theorem sc_law : FnScope ["script", "ins", "outs", "cell"] ["script"] (defScope s_law) := ⟨rfl, rfl, rfl, by decide +kernel, rfl, by decide +kernel, by decide +kernel⟩
set_option genInjectivity false in
set_option genSizeOf false in
structure TX (K : PySem.W.Frag) (mg : Str → Option Value) where
  c_CALL_SIGN : ∃ tk, mg "CALL_SIGN" = some (.str (Str.ofString "?") tk)
  c_MOST_LETTERS : ∃ tk, mg "MOST_LETTERS" = some (.int (8) tk)
  c_MOST_KINDS : ∃ tk, mg "MOST_KINDS" = some (.int (8) tk)
  c_MOST_KIDS : ∃ tk, mg "MOST_KIDS" = some (.int (3) tk)
  c_MOST_STATES : ∃ tk, mg "MOST_STATES" = some (.int (20) tk)
  c_MOST_ROWS : ∃ tk, mg "MOST_ROWS" = some (.int (20) tk)
  c_MOST_KNOTS : ∃ tk, mg "MOST_KNOTS" = some (.int (400) tk)
  c_MOST_CALLS : ∃ tk, mg "MOST_CALLS" = some (.int (200) tk)
  e_BookError : Addr
  x_BookError : mg "BookError" = some (.ref e_BookError)
  e_NoKinds : Addr
  x_NoKinds : mg "NoKinds" = some (.ref e_NoKinds)
  e_NoBook : Addr
  x_NoBook : mg "NoBook" = some (.ref e_NoBook)
  xe_NoKinds : PySem.W.excIn K e_NoKinds [.type "ValueError", .type "Exception", .type "BaseException", .type "object"] "ValueError.__new__" = true
  xg_NoKinds : PySem.W.findIn K (.ref e_NoKinds) "__getattribute__" = some (some (.builtin "BaseException.__getattribute__"))
  xh_NoKinds : PySem.W.findIn K (.ref e_NoKinds) "__getattr__" = some none
  xc_NoKinds : PySem.W.findIn K (.ref e_NoKinds) "__class__" = some (some (.builtin "object.__class__"))
  xo_NoKinds : PySem.W.mroIn K e_NoKinds (.type "object") = some true
  xb_NoKinds : PySem.W.mroIn K e_NoKinds (.type "BaseException") = some true
  hit_NoKinds_BookError : PySem.W.exmOne K (.ref e_NoKinds) (.ref e_BookError) = some true
  kit_NoKinds_NoKinds : PySem.W.kitOne K (.ref e_NoKinds) (.ref e_NoKinds) = some true
  kit_NoKinds_NoBook : PySem.W.kitOne K (.ref e_NoKinds) (.ref e_NoBook) = some false
  kit_NoKinds_ValueError : PySem.W.kitOne K (.ref e_NoKinds) (.type "ValueError") = some true
  xe_NoBook : PySem.W.excIn K e_NoBook [.type "ValueError", .type "Exception", .type "BaseException", .type "object"] "ValueError.__new__" = true
  xg_NoBook : PySem.W.findIn K (.ref e_NoBook) "__getattribute__" = some (some (.builtin "BaseException.__getattribute__"))
  xh_NoBook : PySem.W.findIn K (.ref e_NoBook) "__getattr__" = some none
  xc_NoBook : PySem.W.findIn K (.ref e_NoBook) "__class__" = some (some (.builtin "object.__class__"))
  xo_NoBook : PySem.W.mroIn K e_NoBook (.type "object") = some true
  xb_NoBook : PySem.W.mroIn K e_NoBook (.type "BaseException") = some true
  hit_NoBook_BookError : PySem.W.exmOne K (.ref e_NoBook) (.ref e_BookError) = some true
  kit_NoBook_NoKinds : PySem.W.kitOne K (.ref e_NoBook) (.ref e_NoKinds) = some false
  kit_NoBook_NoBook : PySem.W.kitOne K (.ref e_NoBook) (.ref e_NoBook) = some true
  kit_NoBook_ValueError : PySem.W.kitOne K (.ref e_NoBook) (.type "ValueError") = some true
  f_is_number : Addr
  d_is_number : FuncData
  F_is_number : Fun K "is_number" "is_number" s_is_number f_is_number d_is_number
  b_is_number : Binds K d_is_number ["thing"] []
  m_is_number : mg "is_number" = some (.ref f_is_number)
  f_is_below : Addr
  d_is_below : FuncData
  F_is_below : Fun K "is_below" "is_below" s_is_below f_is_below d_is_below
  b_is_below : Binds K d_is_below ["number", "bound"] []
  m_is_below : mg "is_below" = some (.ref f_is_below)
  f_is_name : Addr
  d_is_name : FuncData
  F_is_name : Fun K "is_name" "is_name" s_is_name f_is_name d_is_name
  b_is_name : Binds K d_is_name ["thing"] []
  m_is_name : mg "is_name" = some (.ref f_is_name)
  f_is_kind : Addr
  d_is_kind : FuncData
  F_is_kind : Fun K "is_kind" "is_kind" s_is_kind f_is_kind d_is_kind
  b_is_kind : Binds K d_is_kind ["pair"] []
  m_is_kind : mg "is_kind" = some (.ref f_is_kind)
  f_are_kinds : Addr
  d_are_kinds : FuncData
  F_are_kinds : Fun K "are_kinds" "are_kinds" s_are_kinds f_are_kinds d_are_kinds
  b_are_kinds : Binds K d_are_kinds ["kinds"] []
  m_are_kinds : mg "are_kinds" = some (.ref f_are_kinds)
  f_kinds_of : Addr
  d_kinds_of : FuncData
  F_kinds_of : Fun K "kinds_of" "kinds_of" s_kinds_of f_kinds_of d_kinds_of
  b_kinds_of : Binds K d_kinds_of ["pairs"] []
  m_kinds_of : mg "kinds_of" = some (.ref f_kinds_of)
  f_many_of : Addr
  d_many_of : FuncData
  F_many_of : Fun K "many_of" "many_of" s_many_of f_many_of d_many_of
  b_many_of : Binds K d_many_of ["kinds", "name"] []
  m_many_of : mg "many_of" = some (.ref f_many_of)
  f_kids_of : Addr
  d_kids_of : FuncData
  F_kids_of : Fun K "kids_of" "kids_of" s_kids_of f_kids_of d_kids_of
  b_kids_of : Binds K d_kids_of ["thing"] []
  m_kids_of : mg "kids_of" = some (.ref f_kids_of)
  f_walked : Addr
  d_walked : FuncData
  F_walked : Fun K "walked" "walked" s_walked f_walked d_walked
  b_walked : Binds K d_walked ["thing"] []
  m_walked : mg "walked" = some (.ref f_walked)
  f_is_call : Addr
  d_is_call : FuncData
  F_is_call : Fun K "is_call" "is_call" s_is_call f_is_call d_is_call
  b_is_call : Binds K d_is_call ["thing"] []
  m_is_call : mg "is_call" = some (.ref f_is_call)
  f_fits_pattern : Addr
  d_fits_pattern : FuncData
  F_fits_pattern : Fun K "fits_pattern" "fits_pattern" s_fits_pattern f_fits_pattern d_fits_pattern
  b_fits_pattern : Binds K d_fits_pattern ["kinds", "pattern", "states", "kids"] []
  m_fits_pattern : mg "fits_pattern" = some (.ref f_fits_pattern)
  f_Measure_init : Addr
  d_Measure_init : FuncData
  F_Measure_init : Fun K "__init__" "Measure.__init__" s_Measure_init f_Measure_init d_Measure_init
  b_Measure_init : Binds K d_Measure_init ["self"] []
  f_Measure_takes : Addr
  d_Measure_takes : FuncData
  F_Measure_takes : Fun K "takes" "Measure.takes" s_Measure_takes f_Measure_takes d_Measure_takes
  b_Measure_takes : Binds K d_Measure_takes ["self", "part", "row"] []
  f_is_small : Addr
  d_is_small : FuncData
  F_is_small : Fun K "is_small" "is_small" s_is_small f_is_small d_is_small
  b_is_small : Binds K d_is_small ["pattern"] []
  m_is_small : mg "is_small" = some (.ref f_is_small)
  f_check_pattern : Addr
  d_check_pattern : FuncData
  F_check_pattern : Fun K "check_pattern" "check_pattern" s_check_pattern f_check_pattern d_check_pattern
  b_check_pattern : Binds K d_check_pattern ["outs", "pattern", "states", "kids"] []
  m_check_pattern : mg "check_pattern" = some (.ref f_check_pattern)
  f_check_state : Addr
  d_check_state : FuncData
  F_check_state : Fun K "check_state" "check_state" s_check_state f_check_state d_check_state
  b_check_state : Binds K d_check_state ["ins", "outs", "patterns", "states"] []
  m_check_state : mg "check_state" = some (.ref f_check_state)
  f_made_book : Addr
  d_made_book : FuncData
  F_made_book : Fun K "made_book" "made_book" s_made_book f_made_book d_made_book
  b_made_book : Binds K d_made_book ["ins", "outs", "head", "rules"] []
  m_made_book : mg "made_book" = some (.ref f_made_book)
  f__law_cell : Addr
  d__law_cell : FuncData
  F__law_cell : Fun K "_law_cell" "_law_cell" s__law_cell f__law_cell d__law_cell
  b__law_cell : Binds K d__law_cell ["script", "k"] []
  m__law_cell : mg "_law_cell" = some (.ref f__law_cell)
  f__law_turn : Addr
  d__law_turn : FuncData
  F__law_turn : Fun K "_law_turn" "_law_turn" s__law_turn f__law_turn d__law_turn
  b__law_turn : Binds K d__law_turn ["cell", "k"] []
  m__law_turn : mg "_law_turn" = some (.ref f__law_turn)
  f__law_kinds : Addr
  d__law_kinds : FuncData
  F__law_kinds : Fun K "_law_kinds" "_law_kinds" s__law_kinds f__law_kinds d__law_kinds
  b__law_kinds : Binds K d__law_kinds ["cell", "letters"] []
  m__law_kinds : mg "_law_kinds" = some (.ref f__law_kinds)
  f__law_leaf : Addr
  d__law_leaf : FuncData
  F__law_leaf : Fun K "_law_leaf" "_law_leaf" s__law_leaf f__law_leaf d__law_leaf
  b__law_leaf : Binds K d__law_leaf ["kinds", "cell"] []
  m__law_leaf : mg "_law_leaf" = some (.ref f__law_leaf)
  f__law_pattern : Addr
  d__law_pattern : FuncData
  F__law_pattern : Fun K "_law_pattern" "_law_pattern" s__law_pattern f__law_pattern d__law_pattern
  b__law_pattern : Binds K d__law_pattern ["cell", "outs", "states", "kids", "deep"] []
  m__law_pattern : mg "_law_pattern" = some (.ref f__law_pattern)
  f__law_digit : Addr
  d__law_digit : FuncData
  F__law_digit : Fun K "_law_digit" "_law_digit" s__law_digit f__law_digit d__law_digit
  b__law_digit : Binds K d__law_digit ["left", "many"] []
  m__law_digit : mg "_law_digit" = some (.ref f__law_digit)
  f__law_by_digits : Addr
  d__law_by_digits : FuncData
  F__law_by_digits : Fun K "_law_by_digits" "_law_by_digits" s__law_by_digits f__law_by_digits d__law_by_digits
  b__law_by_digits : Binds K d__law_by_digits ["left", "outs", "states", "kids", "deep"] []
  m__law_by_digits : mg "_law_by_digits" = some (.ref f__law_by_digits)
  f__law_book_by_digits : Addr
  d__law_book_by_digits : FuncData
  F__law_book_by_digits : Fun K "_law_book_by_digits" "_law_book_by_digits" s__law_book_by_digits f__law_book_by_digits d__law_book_by_digits
  b__law_book_by_digits : Binds K d__law_book_by_digits ["cell", "ins", "outs", "states", "deep"] []
  m__law_book_by_digits : mg "_law_book_by_digits" = some (.ref f__law_book_by_digits)
  f__law_book : Addr
  d__law_book : FuncData
  F__law_book : Fun K "_law_book" "_law_book" s__law_book f__law_book d__law_book
  b__law_book : Binds K d__law_book ["cell", "ins", "outs", "states", "deep"] []
  m__law_book : mg "_law_book" = some (.ref f__law_book)
  f__law_kinds_spoilt : Addr
  d__law_kinds_spoilt : FuncData
  F__law_kinds_spoilt : Fun K "_law_kinds_spoilt" "_law_kinds_spoilt" s__law_kinds_spoilt f__law_kinds_spoilt d__law_kinds_spoilt
  b__law_kinds_spoilt : Binds K d__law_kinds_spoilt ["kinds", "cell"] []
  m__law_kinds_spoilt : mg "_law_kinds_spoilt" = some (.ref f__law_kinds_spoilt)
  f__law_spoilt : Addr
  d__law_spoilt : FuncData
  F__law_spoilt : Fun K "_law_spoilt" "_law_spoilt" s__law_spoilt f__law_spoilt d__law_spoilt
  b__law_spoilt : Binds K d__law_spoilt ["pattern", "outs", "states", "kids", "cell"] []
  m__law_spoilt : mg "_law_spoilt" = some (.ref f__law_spoilt)
  f__law_faulty : Addr
  d__law_faulty : FuncData
  F__law_faulty : Fun K "_law_faulty" "_law_faulty" s__law_faulty f__law_faulty d__law_faulty
  b__law_faulty : Binds K d__law_faulty ["book", "cell"] []
  m__law_faulty : mg "_law_faulty" = some (.ref f__law_faulty)
  f__law_refusal : Addr
  d__law_refusal : FuncData
  F__law_refusal : Fun K "_law_refusal" "_law_refusal" s__law_refusal f__law_refusal d__law_refusal
  b__law_refusal : Binds K d__law_refusal ["parts"] []
  m__law_refusal : mg "_law_refusal" = some (.ref f__law_refusal)
  f__law_one : Addr
  d__law_one : FuncData
  F__law_one : Fun K "_law_one" "_law_one" s__law_one f__law_one d__law_one
  b__law_one : Binds K d__law_one ["cell", "ins", "outs"] []
  m__law_one : mg "_law_one" = some (.ref f__law_one)
  f_law : Addr
  d_law : FuncData
  F_law : Fun K "law" "law" s_law f_law d_law
  b_law : Binds K d_law ["script"] []
  m_law : mg "law" = some (.ref f_law)
  e_Measure : Addr
  x_Measure : mg "Measure" = some (.ref e_Measure)
  cl_Measure : Cls K e_Measure
  mk_Measure : Mk K e_Measure f_Measure_init
  na_Measure_met_knots : NoAttr K e_Measure "met_knots"
  na_Measure_met_calls : NoAttr K e_Measure "met_calls"
  me_Measure_takes : Meth K e_Measure "takes" f_Measure_takes
  n_ValueError : mg "ValueError" = none
  n_all : mg "all" = none
  n_bool : mg "bool" = none
  n_int : mg "int" = none
  n_isinstance : mg "isinstance" = none
  n_len : mg "len" = none
  n_list : mg "list" = none
  n_max : mg "max" = none
  n_range : mg "range" = none
  n_set : mg "set" = none
  n_str : mg "str" = none
  n_tuple : mg "tuple" = none
  n_zip : mg "zip" = none
theorem TX.X_NoKinds {K : PySem.W.Frag} {mg : Str → Option Value} (T : TX K mg) : ExcK K T.e_NoKinds := ⟨T.xe_NoKinds, T.xg_NoKinds, T.xh_NoKinds, T.xc_NoKinds, T.xo_NoKinds, T.xb_NoKinds⟩
theorem TX.X_NoBook {K : PySem.W.Frag} {mg : Str → Option Value} (T : TX K mg) : ExcK K T.e_NoBook := ⟨T.xe_NoBook, T.xg_NoBook, T.xh_NoBook, T.xc_NoBook, T.xo_NoBook, T.xb_NoBook⟩
theorem nd_0 : ([Str.ofString "kid", Str.ofString "row"] : List Str).Nodup := by decide +kernel
theorem nd_1 : ([Str.ofString "sign"] : List Str).Nodup := by decide +kernel
theorem nd_2 : ([Str.ofString "pair"] : List Str).Nodup := by decide +kernel
theorem nd_3 : ([Str.ofString "patterns"] : List Str).Nodup := by decide +kernel
theorem nd_4 : ([Str.ofString "kind"] : List Str).Nodup := by decide +kernel
theorem nd_5 : ([Str.ofString "kind", Str.ofString "deep"] : List Str).Nodup := by decide +kernel
theorem nd_6 : ([Str.ofString "row"] : List Str).Nodup := by decide +kernel
inductive Isp_kids_of (vs : List V) (H : Hp) (Q : VK) (_E : XK) : Prop
  | mk (a : Addr) (t : Th) (zz0 : vs = [.ref a]) (zz1 : At H t a) (zz2 : ∀ (r : Addr) (as : List Addr) (H' : Hp), L2.Same H H' → H' r = some (.tup (as.map V.ref)) → Ats H' t.kids as → Q (.ref r) H') : Isp_kids_of  vs H Q _E
def sp_kids_of : Sp := Isp_kids_of 
section
variable {P : Program} {w : World} {K : PySem.W.Frag} {mg : Str → Option Value} {base : Heap} (T : TX K mg)
theorem ok_kids_of : FnOk P w K mg base CX0 1 T.f_kids_of T.d_kids_of ["thing"] sp_kids_of := by
  refine T.F_kids_of.ok sc_kids_of (fun vs H Q E h => ?_) (fun cdv A outer s H vs Q E hr h => ?_)
  · obtain ⟨a, t, rfl, _⟩ := h
    rfl
  obtain ⟨a, t, rfl, hA, k⟩ := h
  refine ⟨_, (pss_cons (ps_if (pt_cmpR op_eq (pe_ix ix_tup (pv 0) pe_int (fun _ _ => rfl)) (pe_glob (v := .str (Str.ofString "?")) rfl T.c_CALL_SIGN.choose_spec ⟨_, rfl⟩) (nomark _)) (pss_one (ps_ret (pe_tup pa_nil))) pss_nil)
      (pss_one (ps_ret (pe_slice sl_tup (pv 0) (po_some pe_int) po_none)))), ?_⟩
  cases t with
  | knot n ks =>
    rw [At] at hA
    obtain ⟨hn, as, h1, h2⟩ := hA
    refine ⟨_, rfl, a, _, 0, .str n, rfl, rfl, SqT.of h1, at0, rfl, _, rfl, ?_⟩
    refine ite2 (fun c => absurd (of_decide_eq_true c) (fun z => hn (V.str.inj z))) (fun _ => ?_)
    refine ⟨_, rfl, 1, rfl, a, _, rfl, SqT.of h1, ?_, fun r hr => ?_⟩
    · intro z
      have := z.1
      simp [HT.sIx] at this
    · rw [cut_tail]
      exact k r as _ (same_new hr _) upd_same (h2.mono (kt_new hr))
  | call sn kn =>
    rw [At] at hA
    refine ⟨_, rfl, a, _, 0, .str q, rfl, rfl, SqT.of hA, at0, rfl, _, rfl, ?_⟩
    refine ite2 (fun _ => ?_) (fun c => absurd (decide_eq_true rfl) c)
    refine ⟨by show 0 ≤ sizeLine; decide, fun r hr => ?_⟩
    exact k r [] _ (same_new hr _) upd_same .nil
end
inductive Isp_walked (vs : List V) (H : Hp) (Q : VK) (_E : XK) : Prop
  | mk (a : Addr) (t : Th) (zz0 : vs = [.ref a]) (zz1 : At H t a) (zz2 : t.size ≤ 100000) (zz3 : ∀ (r : Addr) (as : List Addr) (H' : Hp), L2.Same H H' → H r = none → H' r = some (.lst (as.map V.ref)) → Ats H' t.walk as → Q (.ref r) H') : Isp_walked  vs H Q _E
def sp_walked : Sp := Isp_walked 
section
variable {P : Program} {w : World} {K : PySem.W.Frag} {mg : Str → Option Value} {base : Heap} (T : TX K mg)
theorem ok_walked : FnOk P w K mg base CX0 2 T.f_walked T.d_walked ["thing"] sp_walked := by
  refine T.F_walked.ok sc_walked (fun vs H Q E h => ?_) (fun cdv A outer s H vs Q E hr h => ?_)
  · obtain ⟨a, t, rfl, _⟩ := h
    rfl
  obtain ⟨a, t, rfl, hA, hsz, k⟩ := h
  refine ⟨_, (pss_cons (ps_set (i := 1) sc_walked.nd rfl (Or.inl rfl) (pe_lst pa_nil))
      (pss_cons (ps_set (i := 2) sc_walked.nd rfl (Or.inl rfl) (pe_lst (pa_cons (pv 0) pa_nil)))
      (pss_cons (ps_while PassesOwn.never (pt_truth (pv 2) (fun _ => rfl)) (pss_cons (ps_set (i := 3) sc_walked.nd rfl (Or.inl rfl) (pe_bm0 PySem.F.plainAttrs_list PySem.F.slot_list_pop PySem.F.type_list_pop mt_pop (pv 2)))
      (pss_cons (ps_expr (pe_bm PySem.F.plainAttrs_list PySem.F.slot_list_append PySem.F.type_list_append mt_append (pv 1) (pa_cons (pv 3) pa_nil)))
      (pss_one (ps_expr (pe_bm PySem.F.plainAttrs_list PySem.F.slot_list_extend PySem.F.type_list_extend mt_extendT (pv 2) (pa_cons (pe_back bk_tup (pe_call (ok_kids_of T) (hr.mono (by first | decide | (first | lia | omega))) rfl T.m_kids_of T.F_kids_of.kp T.b_kids_of .nil pass0 (pa_cons (pv 3) pa_nil))) pa_nil)))))))
      (pss_one (ps_ret (pv 1)))))), ?_⟩
  refine ⟨by show 0 ≤ sizeLine; decide, fun mt hmt => ?_⟩
  refine ⟨_, rfl, by show 1 ≤ sizeLine; decide, fun ah hah => ?_⟩
  have nah : H ah = none := (same_new hmt _).free hah
  have hne : ah ≠ mt := fun z => by rw [z, upd_same] at hah; cases hah
  refine ⟨fun m σ H2 => ∃ (ms as : List Addr) (Ms As : List Th) (p : Option V), σ = [some (.ref a), some (.ref mt), some (.ref ah), p] ∧ L2.Same H H2 ∧ H2 mt = some (.lst (ms.map V.ref)) ∧ H2 ah = some (.lst (as.map V.ref)) ∧
      Ats H2 Ms ms ∧ Ats H2 As as ∧ Ms ++ walks As.reverse = t.walk ∧ m = sizes As, ⟨_, [], [a], [], [t], none, rfl, ?_, ?_, ?_, .nil, .cons (hA.mono ?_) .nil, ?_, rfl⟩, ?_⟩
  · exact same_upd (same_new hmt _) nah
  · rw [upd_ne hne.symm, upd_same]; rfl
  · rw [upd_same]; rfl
  · exact Same.kt (same_upd (same_new hmt _) nah)
  · simp [walks]
  rintro m σ H2 ⟨ms, as, Ms, As, p, rfl, sm, e1, e2, a1, a2, hw, rfl⟩
  have hlen : ms.length + sizes As ≤ 100000 := by
    have h1 := congrArg List.length hw
    rw [List.length_append, walks_len, Th.walk_len, ← a1.length] at h1
    have h2 := sizes_rev As
    (first | lia | omega)
  refine ⟨_, rfl, _, .inl ⟨_, SqL.of e2, rfl⟩, ?_⟩
  refine ite2 (fun c => ?_) (fun c => ?_)
  · -- a part is taken off
    refine ⟨fun σ' H' => ∃ m', m' < sizes As ∧ ∃ (ms as : List Addr) (Ms As : List Th) (p : Option V), σ' = [some (.ref a), some (.ref mt), some (.ref ah), p] ∧ L2.Same H H' ∧ H' mt = some (.lst (ms.map V.ref)) ∧ H' ah = some (.lst (as.map V.ref)) ∧
      Ats H' Ms ms ∧ Ats H' As as ∧ Ms ++ walks As.reverse = t.walk ∧ m' = sizes As, fun σ' H' h => h, ?_⟩
    have hne0 : as ≠ [] := by intro z; subst z; simp at c
    obtain ⟨as', b, rfl⟩ : ∃ as' b, as = as' ++ [b] := ⟨as.dropLast, as.getLast hne0, (List.dropLast_concat_getLast hne0).symm⟩
    obtain ⟨Us, x, rfl, a3, a4⟩ := a2.snoc_inv
    have hs : sizes (Us ++ [x]) = sizes Us + x.size := by rw [sizes_append, sizes, sizes]; (first | lia | omega)
    have hxs := x.size_eq
    rw [hs] at hlen
    refine ⟨_, rfl, .inl ⟨rfl, _, SqL.of e2⟩, ah, _, .ref b, rfl, rfl, e2, by simp, ?_⟩
    have d1 : ((as' ++ [b]).map V.ref).dropLast = as'.map V.ref := by simp
    rw [d1]
    refine ⟨_, rfl, .inl ⟨rfl, _, SqL.of (by rw [upd_ne hne.symm]; exact e1)⟩, _, rfl, mt, _, .ref b, rfl, rfl, by rw [upd_ne hne.symm]; exact e1, line_big (by rw [List.length_map]; (first | lia | omega)), ?_⟩
    have k1 : KT H2 (upd (upd H2 ah (.lst (as'.map V.ref))) mt (.lst (ms.map V.ref ++ [.ref b]))) := (kt_lst e2).trans (kt_lst (xs := ms.map V.ref) (by rw [upd_ne hne.symm]; exact e1))
    refine ⟨_, rfl, .inl ⟨rfl, _, SqL.of (by rw [upd_ne hne, upd_same])⟩, _, rfl, b, x, rfl, a4.mono k1, fun r ks H3 s3 e3 a5 => ?_⟩
    refine ⟨r, _, rfl, SqT.of e3, fun l hl => ?_⟩
    have l1 : l ≠ ah := fun z => by rw [z, s3 ah _ (by rw [upd_ne hne, upd_same])] at hl; cases hl
    have l2 : l ≠ mt := fun z => by rw [z, s3 mt _ upd_same] at hl; cases hl
    refine ⟨ah, l, _, _, rfl, rfl, by rw [upd_ne l1.symm]; exact s3 ah _ (by rw [upd_ne hne, upd_same]), SqT.of upd_same, Nat.le_of_lt (line_big ?_), ?_⟩
    · have q1 := a3.length
      have q2 := a5.length
      have q3 := len_sizes Us
      have q4 := len_sizes x.kids
      rw [List.length_map, List.length_reverse, List.length_map]
      (first | lia | omega)
    · have k2 : KT H2 (upd (upd H3 l (.tup (ks.map V.ref).reverse)) ah (.lst (as'.map V.ref ++ (ks.map V.ref).reverse))) :=
        k1.trans ((Same.kt s3).trans ((kt_new hl).trans (kt_lst (xs := as'.map V.ref) (by rw [upd_ne l1.symm]; exact s3 ah _ (by rw [upd_ne hne, upd_same])))))
      have k3 : KT H3 (upd (upd H3 l (.tup (ks.map V.ref).reverse)) ah (.lst (as'.map V.ref ++ (ks.map V.ref).reverse))) :=
        (kt_new hl).trans (kt_lst (xs := as'.map V.ref) (by rw [upd_ne l1.symm]; exact s3 ah _ (by rw [upd_ne hne, upd_same])))
      refine ⟨sizes (Us ++ x.kids.reverse), ?_, ms ++ [b], as' ++ ks.reverse, Ms ++ [x], Us ++ x.kids.reverse, some (.ref b), rfl, ?_, ?_, ?_, ?_, ?_, ?_, rfl⟩
      · rw [sizes_append, sizes_rev, hs]; (first | lia | omega)
      · have s4 : L2.Same H (upd (upd H2 ah (.lst (as'.map V.ref))) mt (.lst (ms.map V.ref ++ [.ref b]))) := same_upd (same_upd sm nah) hmt
        have nl : H l = none := s4.free (s3.free hl)
        exact same_upd (same_upd (s4.trans s3) nl) nah
      · rw [upd_ne hne.symm, upd_ne l2.symm, s3 mt _ upd_same, List.map_append]; rfl
      · rw [upd_same, List.map_append, List.map_reverse]
      · exact (a1.mono k2).append (.cons (a4.mono k2) .nil)
      · exact (a3.mono k2).append (a5.mono k3).reverse
      · rw [← hw, List.append_assoc, List.reverse_append, List.reverse_append, List.reverse_reverse, walks_append]
        show Ms ++ ([x] ++ (walks x.kids ++ walks Us.reverse)) = Ms ++ walks (x :: Us.reverse)
        rw [walks, x.walk_eq]
        rfl
  · have hz : as = [] := by
      cases as with
      | nil => rfl
      | cons y ys => simp at c
    subst hz
    have hA0 : As = [] := List.length_eq_zero_iff.mp a2.length.symm
    subst hA0
    refine ⟨_, rfl, k mt ms H2 sm hmt e1 ?_⟩
    have hw' : Ms = t.walk := by simpa [walks] using hw
    rw [← hw']
    exact a1
end
inductive Isp_is_call (vs : List V) (H : Hp) (Q : VK) (_E : XK) : Prop
  | mk (a : Addr) (t : Th) (zz0 : vs = [.ref a]) (zz1 : At H t a) (zz2 : Q (.bl t.isCall) H) : Isp_is_call  vs H Q _E
def sp_is_call : Sp := Isp_is_call 
section
variable {P : Program} {w : World} {K : PySem.W.Frag} {mg : Str → Option Value} {base : Heap} (T : TX K mg)
theorem ok_is_call : FnOk P w K mg base CX0 1 T.f_is_call T.d_is_call ["thing"] sp_is_call := by
  refine T.F_is_call.ok sc_is_call (fun vs H Q E h => ?_) (fun cdv A outer s H vs Q E hr h => ?_)
  · obtain ⟨a, t, rfl, _⟩ := h
    rfl
  obtain ⟨a, t, rfl, hA, k⟩ := h
  refine ⟨_, (pss_one (ps_ret (pe_cmpR op_eq (pe_ix ix_tup (pv 0) pe_int (fun _ _ => rfl)) (pe_glob (v := .str (Str.ofString "?")) rfl T.c_CALL_SIGN.choose_spec ⟨_, rfl⟩) (nomark _)))), ?_⟩
  cases t with
  | knot n ks =>
    rw [At] at hA
    obtain ⟨hn, as, h1, h2⟩ := hA
    refine ⟨_, rfl, a, _, 0, .str n, rfl, rfl, SqT.of h1, at0, rfl, ?_⟩
    have e : decide (V.str n = V.str (Str.ofString "?")) = false := decide_eq_false (fun z => hn (V.str.inj z))
    rw [e]
    exact k
  | call sn kn =>
    rw [At] at hA
    refine ⟨_, rfl, a, _, 0, .str q, rfl, rfl, SqT.of hA, at0, rfl, ?_⟩
    have e : decide (V.str q = V.str (Str.ofString "?")) = true := decide_eq_true rfl
    rw [e]
    exact k
end
def mf (k c : Int) : List (Str × V) := [("met_knots", .int k), ("met_calls", .int c)]
theorem mkc : ¬ (("met_knots" : Str) = "met_calls") := by decide +kernel
theorem mckn : ¬ (("met_calls" : Str) = "met_knots") := by decide +kernel
theorem mf_put0 : putF "met_knots" (.int 0) [] = [(("met_knots" : Str), V.int 0)] := rfl
theorem mf_put1 : putF "met_calls" (.int 0) [(("met_knots" : Str), V.int 0)] = mf 0 0 := by
  unfold mf
  rw [putF, if_neg mkc, putF]
theorem mf_putK (k c z : Int) : putF "met_knots" (.int z) (mf k c) = mf z c := by
  unfold mf
  rw [putF, if_pos rfl]
theorem mf_putC (k c z : Int) : putF "met_calls" (.int z) (mf k c) = mf k z := by
  unfold mf
  rw [putF, if_neg mkc, putF, if_pos rfl]
theorem mf_k (k c : Int) : (mf k c).lookup ("met_knots" : Str) = some (V.int k) := by
  unfold mf
  have hb : (("met_knots" : Str) == "met_knots") = true := beq_iff_eq.mpr rfl
  simp only [List.lookup, hb]
theorem mf_c (k c : Int) : (mf k c).lookup ("met_calls" : Str) = some (V.int c) := by
  unfold mf
  have hb : (("met_calls" : Str) == "met_calls") = true := beq_iff_eq.mpr rfl
  have hc : (("met_calls" : Str) == "met_knots") = false := beq_eq_false_iff_ne.mpr mckn
  simp only [List.lookup, hb, hc]
theorem mf_no {m : Str} (k c : Int) (h1 : (m == ("met_knots" : Str)) = false) (h2 : (m == ("met_calls" : Str)) = false) : (mf k c).lookup m = none := by
  unfold mf
  simp only [List.lookup, h1, h2]
theorem mf_len (k c : Int) : (mf k c).length < 1000 := by show 2 < 1000; decide
inductive Isp_Measure_init (C : Addr) (vs : List V) (H : Hp) (Q : VK) (_E : XK) : Prop
  | mk (x dx : Addr) (zz0 : vs = [.ref x]) (zz1 : H x = some (.ins C dx [])) (zz2 : ∀ H' : Hp, (∀ b o, b ≠ x → H b = some o → H' b = some o) → H' x = some (.ins C dx (mf 0 0)) → Q .non H') : Isp_Measure_init C vs H Q _E
def sp_Measure_init (C : Addr) : Sp := Isp_Measure_init C
section
variable {P : Program} {w : World} {K : PySem.W.Frag} {mg : Str → Option Value} {base : Heap} (T : TX K mg)
theorem ok_Measure_init : FnOk P w K mg base CX0 1 T.f_Measure_init T.d_Measure_init ["self"] (sp_Measure_init T.e_Measure) := by
  refine T.F_Measure_init.ok sc_Measure_init (fun vs H Q E h => ?_) (fun cdv A outer s H vs Q E hr h => ?_)
  · obtain ⟨x, dx, rfl, _⟩ := h
    rfl
  obtain ⟨x, dx, rfl, ex, q⟩ := h
  refine ⟨_, (pss_cons (ps_fld (pv 0) pe_int rfl)
      (pss_one (ps_fld (pv 0) pe_int rfl))), ?_⟩
  refine ⟨_, rfl, x, T.e_Measure, dx, _, rfl, ex, T.cl_Measure, T.na_Measure_met_knots, (by show 0 < 1000; decide), ?_⟩
  refine ⟨_, rfl, x, T.e_Measure, dx, _, rfl, upd_same, T.cl_Measure, T.na_Measure_met_calls, (by show 1 < 1000; decide), ?_⟩
  refine q _ (fun b o hb e => ?_) ?_
  · rw [upd_ne hb, upd_ne hb]
    exact e
  · rw [upd_same, mf_put0, mf_put1]
end
inductive Isp_Measure_takes (C : Addr) (vs : List V) (H : Hp) (Q : VK) (_E : XK) : Prop
  | mk (x dx pa : Addr) (k c row : Int) (t : Th) (zz0 : vs = [.ref x, .ref pa, .int row]) (zz1 : H x = some (.ins C dx (mf k c))) (zz2 : At H t pa) (zz3 : ∀ (k' c' : Int) (H' : Hp), k' = (if t.isCall = true then k else k + 1) → c' = (if t.isCall = true then c + 1 else c) → (∀ b o, b ≠ x → H b = some o → H' b = some o) → H' x = some (.ins C dx (mf k' c')) → Q (.bl (decide (row ≤ 20 ∧ k' ≤ 400 ∧ c' ≤ 200))) H') : Isp_Measure_takes C vs H Q _E
def sp_Measure_takes (C : Addr) : Sp := Isp_Measure_takes C
section
variable {P : Program} {w : World} {K : PySem.W.Frag} {mg : Str → Option Value} {base : Heap} (T : TX K mg)
theorem ok_Measure_takes : FnOk P w K mg base CX0 2 T.f_Measure_takes T.d_Measure_takes ["self", "part", "row"] (sp_Measure_takes T.e_Measure) := by
  refine T.F_Measure_takes.ok sc_Measure_takes (fun vs H Q E h => ?_) (fun cdv A outer s H vs Q E hr h => ?_)
  · obtain ⟨x, dx, pa, k, c, row, t, rfl, _⟩ := h
    rfl
  obtain ⟨x, dx, pa, k, c, row, t, rfl, ex, hA, q⟩ := h
  refine ⟨_, (pss_cons (ps_if (pt_truth (pe_call (ok_is_call T) (hr.mono (by first | decide | (first | lia | omega))) rfl T.m_is_call T.F_is_call.kp T.b_is_call .nil pass0 (pa_cons (pv 1) pa_nil)) (fun _ => rfl)) (pss_one (ps_fldaug (pv 0) pe_int in_add)) (pss_one (ps_fldaug (pv 0) pe_int in_add)))
      (pss_one (ps_ret (pe_and (pe_cmpR op_le (pv 2) (pe_glob (v := .int (20)) rfl T.c_MOST_ROWS.choose_spec ⟨_, rfl⟩) (nomark _)) (pe_and (pe_cmpR op_le (pe_fld (pv 0) rfl) (pe_glob (v := .int (400)) rfl T.c_MOST_KNOTS.choose_spec ⟨_, rfl⟩) (nomark _)) (pe_one (pe_cmpR op_le (pe_fld (pv 0) rfl) (pe_glob (v := .int (200)) rfl T.c_MOST_CALLS.choose_spec ⟨_, rfl⟩) (nomark _)))))))), ?_⟩
  refine seq_intro (fun σ' H' => ∃ (k' c' : Int), k' = (if t.isCall = true then k else k + 1) ∧ c' = (if t.isCall = true then c + 1 else c) ∧ (∀ b o, b ≠ x → H b = some o → H' b = some o) ∧ H' x = some (.ins T.e_Measure dx (mf k' c')) ∧ σ' = [some (.ref x), some (.ref pa), some (.int row)]) (fun kk hk => ?_) ?_
  · refine if_intro (fun b H' => H = H' ∧ b = t.isCall) (fun k2 hk2 => ?_) (fun H' hb => ?_) (fun H' hb => ?_)
    · exact ⟨_, rfl, pa, t, rfl, hA, _, rfl, hk2 _ _ ⟨rfl, rfl⟩⟩
    · obtain ⟨rfl, hb⟩ := hb
      refine ⟨_, rfl, x, T.e_Measure, dx, _, _, rfl, ex, T.cl_Measure, T.na_Measure_met_calls, mf_c k c, c, 1, rfl, rfl, dx, _, ex, mf_len k c, ?_⟩
      exact hk _ _ ⟨k, c + 1, by rw [if_pos hb.symm], by rw [if_pos hb.symm], fun b o hb e => by rw [upd_ne hb]; exact e, by rw [upd_same, mf_putC], rfl⟩
    · obtain ⟨rfl, hb⟩ := hb
      have hb' : ¬ t.isCall = true := fun z => by rw [← hb] at z; cases z
      refine ⟨_, rfl, x, T.e_Measure, dx, _, _, rfl, ex, T.cl_Measure, T.na_Measure_met_knots, mf_k k c, k, 1, rfl, rfl, dx, _, ex, mf_len k c, ?_⟩
      exact hk _ _ ⟨k + 1, c, by rw [if_neg hb'], by rw [if_neg hb'], fun b o hb e => by rw [upd_ne hb]; exact e, by rw [upd_same, mf_putK], rfl⟩
  rintro σ' H' ⟨k', c', hk', hc', hs, ex', rfl⟩
  have q' := q k' c' H' hk' hc' hs ex'
  clear q
  refine ⟨_, rfl, _, _, rfl, rfl, ?_⟩
  refine ⟨_, rfl, ?_⟩
  by_cases c1 : row ≤ 20
  · rw [if_pos (decide_eq_true c1)]
    refine ⟨_, rfl, x, T.e_Measure, dx, _, _, rfl, ex', T.cl_Measure, T.na_Measure_met_knots, mf_k k' c', _, _, rfl, rfl, _, rfl, ?_⟩
    by_cases c2 : k' ≤ 400
    · rw [if_pos (decide_eq_true c2)]
      refine ⟨_, rfl, x, T.e_Measure, dx, _, _, rfl, ex', T.cl_Measure, T.na_Measure_met_calls, mf_c k' c', _, _, rfl, rfl, ?_⟩
      have e : decide (row ≤ 20 ∧ k' ≤ 400 ∧ c' ≤ 200) = decide (c' ≤ 200) := by simp [c1, c2]
      rw [e] at q'
      exact q'
    · rw [if_neg (fun z => c2 (of_decide_eq_true z))]
      rw [decide_eq_false (fun z => c2 z.2.1)] at q'
      exact q'
  · rw [if_neg (fun z => c1 (of_decide_eq_true z))]
    rw [decide_eq_false (fun z => c1 z.1)] at q'
    exact q'
end
mutual
/-- how many calls -/
def cnT : Th → Nat
  | .knot _ ks => cnTs ks
  | .call _ _ => 1
def cnTs : List Th → Nat
  | [] => 0
  | t :: ts => cnT t + cnTs ts
end
def Small (t : Th) : Prop := t.tall ≤ 20 ∧ t.kn ≤ 400 ∧ cnT t ≤ 200
instance (t : Th) : Decidable (Small t) := inferInstanceAs (Decidable (_ ∧ _ ∧ _))
theorem kn_eq (t : Th) : t.kn = (if t.isCall = true then 0 else 1) + kns t.kids := by
  cases t with
  | knot n ks => rw [Th.kn, Th.isCall, Th.kids, if_neg Bool.false_ne_true]; (first | lia | omega)
  | call s k => rw [Th.kn, Th.isCall, Th.kids, if_pos rfl, kns]
theorem cn_eq (t : Th) : cnT t = (if t.isCall = true then 1 else 0) + cnTs t.kids := by
  cases t with
  | knot n ks => rw [cnT, Th.isCall, Th.kids, if_neg Bool.false_ne_true]; (first | lia | omega)
  | call s k => rw [cnT, Th.isCall, Th.kids, if_pos rfl, cnTs]
theorem kns_append (a b : List Th) : kns (a ++ b) = kns a + kns b := by
  induction a with
  | nil => rw [List.nil_append, kns]; (first | lia | omega)
  | cons x a ih => rw [List.cons_append, kns, kns, ih]; (first | lia | omega)
theorem cnTs_append (a b : List Th) : cnTs (a ++ b) = cnTs a + cnTs b := by
  induction a with
  | nil => rw [List.nil_append, cnTs]; (first | lia | omega)
  | cons x a ih => rw [List.cons_append, cnTs, cnTs, ih]; (first | lia | omega)
theorem talls_ex {ts : List Th} (h : ts ≠ []) : ∃ t ∈ ts, talls ts = t.tall := by
  induction ts with
  | nil => exact absurd rfl h
  | cons x ts ih =>
    rw [talls]
    by_cases hz : ts = []
    · subst hz
      exact ⟨x, List.mem_cons_self .., by rw [talls]; (first | lia | omega)⟩
    · obtain ⟨t, ht, e⟩ := ih hz
      by_cases hc : talls ts ≤ x.tall
      · exact ⟨x, List.mem_cons_self .., by (first | lia | omega)⟩
      · exact ⟨t, List.mem_cons_of_mem _ ht, by (first | lia | omega)⟩
def RwAt (H : Hp) (e : Th × Int) (p : Addr) : Prop := ∃ ta, H p = some (.tup [.ref ta, .int e.2]) ∧ At H e.1 ta
theorem RwAt.mono {H H' : Hp} (k : KT H H') {e : Th × Int} {p : Addr} (h : RwAt H e p) : RwAt H' e p := by
  obtain ⟨ta, h1, h2⟩ := h
  exact ⟨ta, k _ _ h1, h2.mono k⟩
inductive Isp_is_small (vs : List V) (H : Hp) (Q : VK) (_E : XK) : Prop
  | mk (a : Addr) (t : Th) (zz0 : vs = [.ref a]) (zz1 : At H t a) (zz2 : t.size ≤ 100000) (zz3 : ∀ H', L2.Same H H' → Q (.bl (decide (Small t))) H') : Isp_is_small  vs H Q _E
def sp_is_small : Sp := Isp_is_small 
section
variable {P : Program} {w : World} {K : PySem.W.Frag} {mg : Str → Option Value} {base : Heap} (T : TX K mg)
set_option maxHeartbeats 2000000 in
theorem ok_is_small : FnOk P w K mg base CX0 4 T.f_is_small T.d_is_small ["pattern"] sp_is_small := by
  refine T.F_is_small.ok sc_is_small (fun vs H Q E h => ?_) (fun cdv A outer s H vs Q E hr h => ?_)
  · obtain ⟨a, t, rfl, _⟩ := h
    rfl
  obtain ⟨a, t, rfl, hA, hsz, q⟩ := h
  refine ⟨_, (pss_cons (ps_set (i := 1) sc_is_small.nd rfl (Or.inl rfl) (pe_make0 T.mk_Measure (ok_Measure_init T) (hr.mono (by first | decide | (first | lia | omega))) rfl T.x_Measure T.b_Measure_init .nil pass0))
      (pss_cons (ps_set (i := 2) sc_is_small.nd rfl (Or.inl rfl) (pe_lst (pa_cons (pe_tup (pa_cons (pv 0) (pa_cons pe_int pa_nil))) pa_nil)))
      (pss_cons (ps_while PassesOwn.never (pt_truth (pv 2) (fun _ => rfl)) (pss_cons (ps_asg (pe_bm0 PySem.F.plainAttrs_list PySem.F.slot_list_pop PySem.F.type_list_pop mt_pop (pv 2)) (pg_tup rfl (pgs_cons (pg_name (i := 3) sc_is_small.nd rfl (Or.inl rfl)) (pgs_cons (pg_name (i := 4) sc_is_small.nd rfl (Or.inr rfl)) pgs_nil))))
      (pss_cons (ps_if (pt_not (pt_truth (pe_meth (pv 1) T.cl_Measure T.me_Measure_takes (ok_Measure_takes T) (hr.mono (by first | decide | (first | lia | omega))) T.b_Measure_takes .nil pass0 (pa_cons (pv 3) (pa_cons (pv 4) pa_nil))) (fun _ => rfl))) (pss_one (ps_ret pe_bl)) pss_nil)
      (pss_one (ps_expr (pe_bm PySem.F.plainAttrs_list PySem.F.slot_list_extend PySem.F.type_list_extend mt_extend (pv 2) (pa_cons (pe_comp (N := [Str.ofString "kid", Str.ofString "row"]) (js := [none, some 4]) (g := (gName 0)) (tt := tNoTest) (te := (tTup (tCons (tVar 0) (tCons (tOp (rI0 fun i j => .int (i + j)) (tVar 1) (tC (.int 1))) tNil)))) rfl (cs_mk rfl (by decide +kernel) (by decide +kernel) rfl rfl rfl) (pi_tup (pe_call (ok_kids_of T) (hr.mono (by first | decide | (first | lia | omega))) rfl T.m_kids_of T.F_kids_of.kp T.b_kids_of .nil pass0 (pa_cons (pv 3) pa_nil))) (fun _ _ _ _ _ _ => (pg_name (i := 0) nd_0 rfl (Or.inl rfl))) (gk_name rfl) (fun _ _ _ _ _ _ => pts_nil) (fun _ _ _ _ _ _ => (pe_tup (pa_cons (pv 0) (pa_cons (pe_op op_add (pv 1) pe_int) pa_nil))))) pa_nil)))))))
      (pss_one (ps_ret pe_bl))))), ?_⟩
  intro mo dx hmo hdx hne
  refine ⟨mo, dx, rfl, upd_same, fun H1 k1 emo => ⟨rfl, ?_⟩⟩
  have s0 : L2.Same H (upd (upd H dx (.own mo)) mo (.ins T.e_Measure dx [])) := fun b o e => by
    rw [upd_ne (ne_of_none e hmo), upd_ne (ne_of_none e hdx)]
    exact e
  have s1 : L2.Same H H1 := fun b o e => k1 b o (ne_of_none e hmo) (s0 b o e)
  refine ⟨_, rfl, line_le (by show 2 ≤ 1000000; decide), fun p0 hp0 => ?_⟩
  dsimp only [gName]
  have s2 : L2.Same H1 (upd H1 p0 (.tup [.ref a, .int 1])) := same_new hp0 _
  have e2 : (upd H1 p0 (.tup [.ref a, .int 1])) p0 = some (.tup [.ref a, .int 1]) := upd_same
  generalize (upd H1 p0 (.tup [.ref a, .int 1])) = H2 at s2 e2 ⊢
  refine ⟨line_le (by show 1 ≤ 1000000; decide), fun ah hah => ?_⟩
  have s3 : L2.Same H2 (upd H2 ah (.lst [.ref p0])) := same_new hah _
  have e3 : (upd H2 ah (.lst [.ref p0])) ah = some (.lst (([p0] : List Addr).map V.ref)) := upd_same
  have hahH : H ah = none := (s1.trans s2).free hah
  have hma : mo ≠ ah := fun z => by rw [← z, s2 _ _ emo] at hah; cases hah
  generalize (upd H2 ah (.lst [.ref p0])) = H3 at s3 e3 ⊢
  have s13 := s2.trans s3
  refine ⟨fun m σ H4 => ∃ (ps : List Addr) (As : List (Th × Int)) (k c : Int) (pv rv : Option V), σ = [some (.ref a), some (.ref mo), some (.ref ah), pv, rv] ∧ L2.Same H H4 ∧ H4 ah = some (.lst (ps.map V.ref)) ∧ Paired (RwAt H4) As ps ∧ H4 mo = some (.ins T.e_Measure dx (mf k c)) ∧ k + (kns (As.map (·.1)) : Int) = (t.kn : Int) ∧ c + (cnTs (As.map (·.1)) : Int) = (cnT t : Int) ∧ k ≤ 400 ∧ c ≤ 200 ∧ (∀ e ∈ As, e.2 + (e.1.tall : Int) ≤ (t.tall : Int) + 1) ∧ ((t.tall : Int) ≤ 20 ∨ ∃ e ∈ As, (t.tall : Int) + 1 ≤ e.2 + (e.1.tall : Int)) ∧ sizes (As.map (·.1)) ≤ 100000 ∧ m = sizes (As.map (·.1)), ⟨_, [p0], [(t, 1)], 0, 0, none, none, rfl, s1.trans s13, e3, .cons ⟨a, s3 _ _ e2, hA.mono (Same.kt (s1.trans s13))⟩ .nil, s13 _ _ emo, ?_, ?_, by decide, by decide, ?_, ?_, ?_, rfl⟩, ?_⟩
  · show (0 : Int) + ((kns [t] : Nat) : Int) = _
    rw [kns, kns]
    (first | lia | omega)
  · show (0 : Int) + ((cnTs [t] : Nat) : Int) = _
    rw [cnTs, cnTs]
    (first | lia | omega)
  · intro e he
    rw [List.mem_singleton.mp he]
    show (1 : Int) + (t.tall : Int) ≤ _
    (first | lia | omega)
  · exact .inr ⟨(t, 1), List.mem_cons_self .., by show _ ≤ (1 : Int) + (t.tall : Int); (first | lia | omega)⟩
  · show sizes [t] ≤ 100000
    rw [sizes, sizes]
    (first | lia | omega)
  rintro m σ H4 ⟨ps, As, k, c, pv, rv, rfl, s4, e4, hAs, em, hk, hc, hk4, hc2, hle, hor, hss, rfl⟩
  refine ⟨_, rfl, _, .inl ⟨_, SqL.of e4, rfl⟩, ?_⟩
  refine ite2 (fun cc => ?_) (fun cc => ?_)
  · refine ⟨fun σ' H' => ∃ m', m' < sizes (As.map (·.1)) ∧ ∃ (ps : List Addr) (As : List (Th × Int)) (k c : Int) (pv rv : Option V), σ' = [some (.ref a), some (.ref mo), some (.ref ah), pv, rv] ∧ L2.Same H H' ∧ H' ah = some (.lst (ps.map V.ref)) ∧ Paired (RwAt H') As ps ∧ H' mo = some (.ins T.e_Measure dx (mf k c)) ∧ k + (kns (As.map (·.1)) : Int) = (t.kn : Int) ∧ c + (cnTs (As.map (·.1)) : Int) = (cnT t : Int) ∧ k ≤ 400 ∧ c ≤ 200 ∧ (∀ e ∈ As, e.2 + (e.1.tall : Int) ≤ (t.tall : Int) + 1) ∧ ((t.tall : Int) ≤ 20 ∨ ∃ e ∈ As, (t.tall : Int) + 1 ≤ e.2 + (e.1.tall : Int)) ∧ sizes (As.map (·.1)) ≤ 100000 ∧ m' = sizes (As.map (·.1)), fun σ' H' h => h, ?_⟩
    have hne0 : ps ≠ [] := by intro z; subst z; simp at cc
    obtain ⟨ps', b, rfl⟩ : ∃ ps' b, ps = ps' ++ [b] := ⟨ps.dropLast, ps.getLast hne0, (List.dropLast_concat_getLast hne0).symm⟩
    obtain ⟨Us, ⟨x, r⟩, rfl, hUs, ta, eb, hx⟩ := P2.snoc_inv hAs
    have hmap : (Us ++ [(x, r)]).map (·.1) = Us.map (·.1) ++ [x] := by rw [List.map_append]; rfl
    rw [hmap] at hk hc hss
    rw [kns_append, kns, kns, kn_eq] at hk
    rw [cnTs_append, cnTs, cnTs, cn_eq] at hc
    rw [sizes_append, sizes, sizes, x.size_eq] at hss
    have hxr := hle (x, r) (List.mem_append_right _ (List.mem_cons_self ..))
    dsimp only at hxr
    have hxt := x.tall_eq
    refine ⟨_, rfl, .inl ⟨rfl, _, SqL.of e4⟩, ah, _, .ref b, rfl, rfl, e4, by simp, ?_⟩
    have d1 : ((ps' ++ [b]).map V.ref).dropLast = ps'.map V.ref := by simp
    rw [d1]
    have k5 : KT H4 (upd H4 ah (.lst (ps'.map V.ref))) := kt_lst e4
    have s5 : L2.Same H (upd H4 ah (.lst (ps'.map V.ref))) := same_upd s4 hahH
    have e5 : (upd H4 ah (.lst (ps'.map V.ref))) ah = some (.lst (ps'.map V.ref)) := upd_same
    have em5 : (upd H4 ah (.lst (ps'.map V.ref))) mo = some (.ins T.e_Measure dx (mf k c)) := by rw [upd_ne hma]; exact em
    generalize (upd H4 ah (.lst (ps'.map V.ref))) = H5 at k5 s5 e5 em5 ⊢
    refine ⟨b, _, rfl, SqT.of (k5 _ _ eb), rfl, _, _, rfl, _, _, rfl, rfl, ?_⟩
    dsimp only [gName]
    refine seq_intro (fun σ' H6 => ∃ (k' c' : Int), k' = (if x.isCall = true then k else k + 1) ∧ c' = (if x.isCall = true then c + 1 else c) ∧ (∀ b o, b ≠ mo → H5 b = some o → H6 b = some o) ∧ H6 mo = some (.ins T.e_Measure dx (mf k' c')) ∧ (r ≤ 20 ∧ k' ≤ 400 ∧ c' ≤ 200) ∧ σ' = [some (.ref a), some (.ref mo), some (.ref ah), some (.ref ta), some (.int r)]) (fun kk hkk => ?_) ?_
    · refine if_intro (fun bb H6 => ∃ (k' c' : Int), k' = (if x.isCall = true then k else k + 1) ∧ c' = (if x.isCall = true then c + 1 else c) ∧ (∀ b o, b ≠ mo → H5 b = some o → H6 b = some o) ∧ H6 mo = some (.ins T.e_Measure dx (mf k' c')) ∧ bb = !decide (r ≤ 20 ∧ k' ≤ 400 ∧ c' ≤ 200)) (fun k2 hk2 => ?_) (fun H6 hb => ?_) (fun H6 hb => ?_)
      · refine ⟨_, rfl, mo, dx, _, rfl, em5, mf_no k c (by decide +kernel) (by decide +kernel), _, rfl, _, rfl, mo, dx, ta, k, c, r, x, rfl, em5, hx.mono k5, fun k' c' H6 h1 h2 h3 h4 => ?_⟩
        exact ⟨_, rfl, hk2 _ _ ⟨k', c', h1, h2, h3, h4, rfl⟩⟩
      · obtain ⟨k', c', h1, h2, h3, h4, h5⟩ := hb
        have hno : ¬ (r ≤ 20 ∧ k' ≤ 400 ∧ c' ≤ 200) := fun z => by rw [decide_eq_true z] at h5; cases h5
        have hns : decide (Small t) = false := decide_eq_false fun z => hno (by
          obtain ⟨z1, z2, z3⟩ := z
          refine ⟨by (first | lia | omega), ?_, ?_⟩
          · rw [h1]
            split at hk <;> split <;> first | (first | lia | omega) | contradiction
          · rw [h2]
            split at hc <;> split <;> first | (first | lia | omega) | contradiction)
        have s6 : L2.Same H H6 := fun b o e => h3 b o (ne_of_none e hmo) (s5 b o e)
        rw [hns] at q
        exact q H6 s6
      · obtain ⟨k', c', h1, h2, h3, h4, h5⟩ := hb
        have hyes : r ≤ 20 ∧ k' ≤ 400 ∧ c' ≤ 200 := of_decide_eq_true (by
          cases hd : decide (r ≤ 20 ∧ k' ≤ 400 ∧ c' ≤ 200) with
          | true => rfl
          | false => rw [hd] at h5; cases h5)
        exact hkk _ _ ⟨k', c', h1, h2, h3, h4, hyes, rfl⟩
    rintro σ' H6 ⟨k', c', h1, h2, h3, h4, ⟨hr20, hk4', hc2'⟩, rfl⟩
    have k6 : KT H5 H6 := fun b xs e => h3 b _ (fun z => by rw [z, em5] at e; cases e) e
    have s6 : L2.Same H H6 := fun b o e => h3 b o (ne_of_none e hmo) (s5 b o e)
    have e6 : H6 ah = some (.lst (ps'.map V.ref)) := h3 _ _ hma.symm e5
    have k46 := k5.trans k6
    refine ⟨_, rfl, .inl ⟨rfl, _, SqL.of e6⟩, _, rfl, ta, x, rfl, hx.mono k46, fun ka kas H7 s7 ek hks => ?_⟩
    have hkl : kas.length = x.kids.length := hks.length
    have hlz := len_sizes x.kids
    refine ⟨ka, rfl, ⟨_, SqT.of ek⟩, comp_nw (F := RwAt) (xs := kas.map V.ref) (x.kids.map fun u => (u, r + 1)) (fun H1 H2 z p kt h => h.mono kt) (by rw [List.length_map, List.length_map]; (first | lia | omega)) (by rw [List.length_map]; (first | lia | omega)) (fun i Hx sx hi => ⟨_, _, SqT.of (sx _ _ ek), List.getElem?_eq_getElem hi⟩) (fun Hx sx => ⟨_, SqT.of (sx _ _ ek), Nat.le_refl _⟩) (fun i Hx x Hy sx hi hy => ⟨hy.1, hy.2 _ (SqT.of (sx _ _ ek))⟩) (fun i y z Hx R W' hy hzz sx hR => ?_) (fun D H8 bs hD s8 eD hpD => ?_)⟩
    · obtain ⟨ua, rfl, hua⟩ := get_ref hy
      obtain ⟨u, hu, atu⟩ := hks.get hua
      rw [List.getElem?_map, hu] at hzz
      cases hzz
      refine ⟨_, rfl, _, rfl, _, _, rfl, rfl, line_le (by show 2 ≤ 1000000; decide), fun p1 hp1 => ?_⟩
      exact hR _ p1 (same_new hp1 _) ⟨ua, upd_same, atu.mono (Same.kt (sx.trans (same_new hp1 _)))⟩
    have hUl : Us.length = ps'.length := Paired.length hUs
    have hbl : (x.kids.map fun u => (u, r + 1)).length = bs.length := Paired.length hpD
    rw [List.length_map] at hbl
    have hUz := len_sizes (Us.map (·.1))
    rw [List.length_map] at hUz
    have s68 := s7.trans s8
    have e8 := s68 _ _ e6
    refine ⟨ah, D, _, _, rfl, rfl, e8, eD, Nat.le_of_lt (line_big (by rw [List.length_map, List.length_map]; (first | lia | omega))), ?_⟩
    have k9 : KT H8 (upd H8 ah (.lst (ps'.map V.ref ++ bs.map V.ref))) := kt_lst e8
    have s9 : L2.Same H (upd H8 ah (.lst (ps'.map V.ref ++ bs.map V.ref))) := same_upd (s6.trans s68) hahH
    have hm2 : (Us ++ x.kids.map fun u => (u, r + 1)).map (·.1) = Us.map (·.1) ++ x.kids := by
      rw [List.map_append, List.map_map]
      congr 1
      exact List.map_id' _
    refine ⟨sizes ((Us ++ x.kids.map fun u => (u, r + 1)).map (·.1)), ?_, ps' ++ bs, Us ++ (x.kids.map fun u => (u, r + 1)), k', c', _, _, rfl, s9, ?_, ?_, ?_, ?_, ?_, hk4', hc2', ?_, ?_, ?_, rfl⟩
    · rw [hm2, hmap, sizes_append, sizes_append, sizes, sizes, x.size_eq]
      (first | lia | omega)
    · rw [upd_same, List.map_append]
    · exact P2.append (P2.mp (fun _ _ e => e.mono ((k46.trans (Same.kt s68)).trans k9)) hUs) (P2.mp (fun _ _ e => e.mono k9) hpD)
    · rw [upd_ne hma]
      exact s68 _ _ h4
    · rw [hm2, kns_append, h1]
      split at hk <;> split <;> first | (first | lia | omega) | contradiction
    · rw [hm2, cnTs_append, h2]
      split at hc <;> split <;> first | (first | lia | omega) | contradiction
    · intro e he
      rcases List.mem_append.mp he with he | he
      · exact hle e (List.mem_append_left _ he)
      · obtain ⟨u, hu, rfl⟩ := List.mem_map.mp he
        have := talls_le hu
        dsimp only
        (first | lia | omega)
    · rcases hor with h | ⟨e, he, hee⟩
      · exact .inl h
      · rcases List.mem_append.mp he with he | he
        · exact .inr ⟨e, List.mem_append_left _ he, hee⟩
        · rw [List.mem_singleton.mp he] at hee
          dsimp only at hee
          by_cases hz : x.kids = []
          · rw [hz, talls] at hxt
            exact .inl (by (first | lia | omega))
          · obtain ⟨u, hu, eu⟩ := talls_ex hz
            exact .inr ⟨(u, r + 1), List.mem_append_right _ (List.mem_map.mpr ⟨u, hu, rfl⟩), by dsimp only; (first | lia | omega)⟩
    · rw [hm2, sizes_append]
      (first | lia | omega)
  · have hz : ps = [] := by
      cases ps with
      | nil => rfl
      | cons y ys => simp at cc
    subst hz
    have hA0 : As = [] := List.length_eq_zero_iff.mp (Paired.length hAs)
    subst hA0
    have hk' : k + ((kns [] : Nat) : Int) = (t.kn : Int) := hk
    have hc' : c + ((cnTs [] : Nat) : Int) = (cnT t : Int) := hc
    rw [kns] at hk'
    rw [cnTs] at hc'
    have ht20 : (t.tall : Int) ≤ 20 := by
      rcases hor with h | ⟨e, he, _⟩
      · exact h
      · cases he
    have hsm : decide (Small t) = true := decide_eq_true ⟨by (first | lia | omega), by (first | lia | omega), by (first | lia | omega)⟩
    rw [hsm] at q
    exact q H4 s4
end
inductive Isp_is_number (vs : List V) (H : Hp) (Q : VK) (_E : XK) : Prop
  | mk (i : Int) (zz0 : vs = [.int i]) (zz1 : Q (.bl true) H) : Isp_is_number  vs H Q _E
def sp_is_number : Sp := Isp_is_number 
section
variable {P : Program} {w : World} {K : PySem.W.Frag} {mg : Str → Option Value} {base : Heap} (T : TX K mg)
theorem ok_is_number : FnOk P w K mg base CX0 1 T.f_is_number T.d_is_number ["thing"] sp_is_number := by
  refine T.F_is_number.ok sc_is_number (fun vs H Q E h => ?_) (fun cdv A outer s H vs Q E hr h => ?_)
  · obtain ⟨i, rfl, _⟩ := h
    rfl
  obtain ⟨i, rfl, k⟩ := h
  refine ⟨_, (pss_one (ps_ret (pe_and (pe_callB (call_isiX (T := "int")) rfl T.n_isinstance PyProof.Rows.boot_isinstance (pa_cons (pv 0) (pa_cons (pe_bltn (v := .ty "int") rfl T.n_int PyProof.Rows.boot_int rfl) pa_nil))) (pe_one (pe_not (pe_callB (call_isiX (T := "bool")) rfl T.n_isinstance PyProof.Rows.boot_isinstance (pa_cons (pv 0) (pa_cons (pe_bltn (v := .ty "bool") rfl T.n_bool PyProof.Rows.boot_bool rfl) pa_nil)))))))), ?_⟩
  refine ⟨_, rfl, _, _, _, rfl, .int i, isi_ii, _, rfl, ?_⟩
  refine iteT ?_
  exact ⟨_, rfl, _, _, _, rfl, .int i, isi_ib, _, rfl, k⟩
end
inductive Isp_is_below (vs : List V) (H : Hp) (Q : VK) (_E : XK) : Prop
  | mk (i b : Int) (zz0 : vs = [.int i, .int b]) (zz1 : Q (.bl (decide (0 ≤ i ∧ i < b))) H) : Isp_is_below  vs H Q _E
def sp_is_below : Sp := Isp_is_below 
section
variable {P : Program} {w : World} {K : PySem.W.Frag} {mg : Str → Option Value} {base : Heap} (T : TX K mg)
theorem ok_is_below : FnOk P w K mg base CX0 2 T.f_is_below T.d_is_below ["number", "bound"] sp_is_below := by
  refine T.F_is_below.ok sc_is_below (fun vs H Q E h => ?_) (fun cdv A outer s H vs Q E hr h => ?_)
  · obtain ⟨i, b, rfl, _⟩ := h
    rfl
  obtain ⟨i, b, rfl, k⟩ := h
  refine ⟨_, (pss_one (ps_ret (pe_and (pe_call (ok_is_number T) (hr.mono (by first | decide | (first | lia | omega))) rfl T.m_is_number T.F_is_number.kp T.b_is_number .nil pass0 (pa_cons (pv 0) pa_nil)) (pe_one (pe_chain op_le op_lt pe_int (pv 0) (pv 1)))))), ?_⟩
  refine ⟨_, rfl, i, rfl, _, rfl, ?_⟩
  refine iteT ?_
  refine ⟨_, rfl, _, _, rfl, rfl, _, rfl, ?_⟩
  refine ite2 (fun c => ?_) (fun c => ?_)
  · have c' : 0 ≤ i := of_decide_eq_true c
    refine ⟨_, rfl, _, _, rfl, rfl, ?_⟩
    have e : decide (0 ≤ i ∧ i < b) = decide (i < b) := by simp [c']
    rw [e] at k
    exact k
  · have c' : ¬ 0 ≤ i := fun z => c (decide_eq_true z)
    have e : decide (0 ≤ i ∧ i < b) = false := by simp [c']
    rw [e] at k
    exact k
end
inductive Isp_is_name (vs : List V) (H : Hp) (Q : VK) (_E : XK) : Prop
  | mk (z : Str) (zz0 : vs = [.str z]) (zz1 : z.length ≤ 100000) (zz2 : ∀ H', L2.Same H H' → Q (.bl (okName z)) H') : Isp_is_name  vs H Q _E
def sp_is_name : Sp := Isp_is_name 
section
variable {P : Program} {w : World} {K : PySem.W.Frag} {mg : Str → Option Value} {base : Heap} (T : TX K mg)
theorem ok_is_name : FnOk P w K mg base CX0 1 T.f_is_name T.d_is_name ["thing"] sp_is_name := by
  refine T.F_is_name.ok sc_is_name (fun vs H Q E h => ?_) (fun cdv A outer s H vs Q E hr h => ?_)
  · obtain ⟨z, rfl, _⟩ := h
    rfl
  obtain ⟨z, rfl, hz, k⟩ := h
  refine ⟨_, (pss_cons (ps_if (PW.pt (pw_or (pt_not (pt_truth (pe_callB (call_isiX (T := "str")) rfl T.n_isinstance PyProof.Rows.boot_isinstance (pa_cons (pv 0) (pa_cons (pe_bltn (v := .ty "str") rfl T.n_str PyProof.Rows.boot_str rfl) pa_nil))) (fun _ => rfl))) (pw_or1 (pt_not (pt_chain op_le op_le pe_int (pe_callB call_len_str rfl T.n_len PySem.boot_len (pa_cons (pv 0) pa_nil)) (pe_glob (v := .int (8)) rfl T.c_MOST_LETTERS.choose_spec ⟨_, rfl⟩)))))) (pss_one (ps_ret pe_bl)) pss_nil)
      (pss_one (ps_ret (pe_callB (call_all rfl) rfl T.n_all PyProof.Rows.boot_all (pa_cons (pe_comp (N := [Str.ofString "sign"]) (js := [none]) (g := (gName 0)) (tt := tNoTest) (te := (tChain (rLeS) (rLeS) (tC (.str (Str.ofString "a"))) (tVar 0) (tC (.str (Str.ofString "z"))))) rfl (cs_mk rfl (by decide +kernel) (by decide +kernel) rfl rfl rfl) (pi_str (pv 0)) (fun _ _ _ _ _ _ => (pg_name (i := 0) nd_1 rfl (Or.inl rfl))) (gk_name rfl) (fun _ _ _ _ _ _ => pts_nil) (fun _ _ _ _ _ _ => (pe_chain op_le_str op_le_str pe_str (pv 0) pe_str))) pa_nil))))), ?_⟩
  refine ⟨_, rfl, _, _, _, rfl, .str z, isi_ss, _, rfl, ?_⟩
  refine iteF ?_
  refine ⟨_, rfl, _, rfl, line_le (by (first | lia | omega)), _, _, rfl, rfl, _, rfl, ?_⟩
  refine ite2 (fun c1 => ?_) (fun c1 => ?_)
  · have c1' : 1 ≤ (z.length : Int) := of_decide_eq_true c1
    refine ⟨_, _, rfl, rfl, _, rfl, ?_⟩
    refine ite2 (fun c2 => ?_) (fun c2 => ?_)
    · have kk := k H (.refl _)
      have e : okName z = false := by
        unfold okName
        rw [decide_eq_false (fun h => ?_)]
        · rfl
        · rw [decide_eq_true (show (z.length : Int) ≤ 8 by (first | lia | omega))] at c2
          cases c2
      rw [e] at kk
      exact kk
    · have c2' : z.length ≤ 8 := by
        by_cases h : z.length ≤ 8
        · exact h
        · rw [decide_eq_false (show ¬ (z.length : Int) ≤ 8 by (first | lia | omega))] at c2
          exact absurd rfl c2
      have e : okName z = low z := by
        unfold okName
        rw [decide_eq_true (show 1 ≤ z.length ∧ z.length ≤ 8 from ⟨by (first | lia | omega), c2'⟩)]
        rfl
      rw [e] at k
      refine ⟨_, rfl, z, rfl, comp_signs (fun c => decide (97 ≤ c ∧ c ≤ 122)) (by show z.length ≤ 100000; exact hz) (fun c H1 Q' W' _ hQ => ?_) (fun D H' hD s1 e1 => ?_)⟩
      · refine ⟨_, rfl, _, _, rfl, rfl, _, rfl, ?_⟩
        rw [show (Str.ofString "a").cps.toList = [97] by decide +kernel]
        rw [le_one 97 c]
        refine ite2 (fun d1 => ?_) (fun d1 => ?_)
        · have d1' : 97 ≤ c := of_decide_eq_true d1
          refine ⟨_, _, rfl, rfl, ?_⟩
          rw [show (Str.ofString "z").cps.toList = [122] by decide +kernel, le_one c 122]
          have e2 : decide (97 ≤ c ∧ c ≤ 122) = decide (c ≤ 122) := by simp [d1']
          rw [e2] at hQ
          exact hQ
        · have d1' : ¬ 97 ≤ c := fun z => d1 (decide_eq_true z)
          have e2 : decide (97 ≤ c ∧ c ≤ 122) = false := decide_eq_false fun z => d1' z.1
          rw [e2] at hQ
          exact hQ
      · refine ⟨D, _, rfl, SqL.of e1, ?_⟩
        rw [show ((z.cps.toList.map fun c => decide (97 ≤ c ∧ c ≤ 122)).all id) = low z by unfold low; rw [List.all_map]; rfl]
        exact k H' s1
  · have kk := k H (.refl _)
    have e : okName z = false := by
      unfold okName
      rw [decide_eq_false (fun h => c1 (decide_eq_true (by (first | lia | omega))))]
      rfl
    rw [e] at kk
    refine ⟨_, rfl, iteT ?_⟩
    exact kk
end
def okKind (k : Str × Int) : Bool := okName k.1 && decide (0 ≤ k.2 ∧ k.2 < 4)
inductive Isp_is_kind (vs : List V) (H : Hp) (Q : VK) (_E : XK) : Prop
  | mk (a : Addr) (k : Str × Int) (zz0 : vs = [.ref a]) (zz1 : H a = some (.tup [.str k.1, .int k.2])) (zz2 : k.1.length ≤ 100000) (zz3 : ∀ H', L2.Same H H' → Q (.bl (okKind k)) H') : Isp_is_kind  vs H Q _E
def sp_is_kind : Sp := Isp_is_kind 
section
variable {P : Program} {w : World} {K : PySem.W.Frag} {mg : Str → Option Value} {base : Heap} (T : TX K mg)
theorem ok_is_kind : FnOk P w K mg base CX0 3 T.f_is_kind T.d_is_kind ["pair"] sp_is_kind := by
  refine T.F_is_kind.ok sc_is_kind (fun vs H Q E h => ?_) (fun cdv A outer s H vs Q E hr h => ?_)
  · obtain ⟨a, z, rfl, _⟩ := h
    rfl
  obtain ⟨a, ⟨z, n⟩, rfl, ha, hz, k⟩ := h
  refine ⟨_, (pss_one (ps_ret (pe_and (pe_cmpR op_eq (pe_callB call_len_seq rfl T.n_len PySem.boot_len (pa_cons (pv 0) pa_nil)) pe_int (nomark _)) (pe_and (pe_call (ok_is_name T) (hr.mono (by first | decide | (first | lia | omega))) rfl T.m_is_name T.F_is_name.kp T.b_is_name .nil pass0 (pa_cons (pe_ix ix_tup (pv 0) pe_int (fun _ _ => rfl)) pa_nil)) (pe_one (pe_call (ok_is_below T) (hr.mono (by first | decide | (first | lia | omega))) rfl T.m_is_below T.F_is_below.kp T.b_is_below .nil pass0 (pa_cons (pe_ix ix_tup (pv 0) pe_int (fun _ _ => rfl)) (pa_cons (pe_op op_add (pe_glob (v := .int (3)) rfl T.c_MOST_KIDS.choose_spec ⟨_, rfl⟩) pe_int) pa_nil)))))))), ?_⟩
  refine ⟨_, rfl, a, _, rfl, .inr (SqT.of ha), rfl, _, rfl, ?_⟩
  refine iteT ?_
  refine ⟨_, rfl, a, _, 0, .str z, rfl, rfl, SqT.of ha, at0, z, rfl, hz, fun H1 s1 => ?_⟩
  refine ⟨_, rfl, ?_⟩
  refine ite2 (fun c => ?_) (fun c => ?_)
  · refine ⟨_, rfl, a, _, 1, .int n, rfl, rfl, SqT.of (s1 _ _ ha), at1, _, _, rfl, rfl, n, _, rfl, ?_⟩
    have kk := k H1 s1
    unfold okKind at kk
    rw [show okName z = true from c, Bool.true_and] at kk
    exact kk
  · have kk := k H1 s1
    unfold okKind at kk
    have c' : okName z = false := Bool.eq_false_iff.mpr c
    rw [c', Bool.false_and] at kk
    exact kk
end
def okKinds (ks : List (Str × Int)) : Bool := decide (1 ≤ ks.length ∧ ks.length ≤ 8) && (ks.all okKind && (decide ((ks.map (·.1)).Nodup) && decide ((0 : Int) ∈ ks.map (·.2))))
inductive Isp_are_kinds (K : PySem.W.Frag) (vs : List V) (H : Hp) (Q : VK) (_E : XK) : Prop
  | mk (kr : Addr) (kas : List Addr) (ks : List (Str × Int)) (zz0 : vs = [.ref kr]) (zz1 : SqT K H kr (kas.map V.ref)) (zz2 : KsAt H ks kas) (zz3 : ks.length ≤ 1000) (zz4 : (∀ k ∈ ks, k.1.length ≤ 100000)) (zz5 : ∀ H', L2.Same H H' → Q (.bl (okKinds ks)) H') : Isp_are_kinds K vs H Q _E
def sp_are_kinds (K : PySem.W.Frag) : Sp := Isp_are_kinds K
section
variable {P : Program} {w : World} {K : PySem.W.Frag} {mg : Str → Option Value} {base : Heap} (T : TX K mg)
theorem ok_are_kinds : FnOk P w K mg base CX0 4 T.f_are_kinds T.d_are_kinds ["kinds"] (sp_are_kinds K) := by
  refine T.F_are_kinds.ok sc_are_kinds (fun vs H Q E h => ?_) (fun cdv A outer s H vs Q E hr h => ?_)
  · obtain ⟨kr, kas, ks, rfl, _⟩ := h
    rfl
  obtain ⟨kr, kas, ks, rfl, hK, hks, hlen, hnz, k⟩ := h
  refine ⟨_, (pss_cons (ps_if (PW.pt (pw_or (pt_not (pt_chain op_le op_le pe_int (pe_callB call_len_seq rfl T.n_len PySem.boot_len (pa_cons (pv 0) pa_nil)) (pe_glob (v := .int (8)) rfl T.c_MOST_KINDS.choose_spec ⟨_, rfl⟩))) (pw_or1 (pt_not (pt_truth (pe_callB (call_all rfl) rfl T.n_all PyProof.Rows.boot_all (pa_cons (pe_comp (N := [Str.ofString "pair"]) (js := [none]) (g := (gName 0)) (tt := tNoTest) (te := (tCall sp_is_kind [] E0 (tCons (tVar 0) tNil))) rfl (cs_mk rfl (by decide +kernel) (by decide +kernel) rfl rfl rfl) (pi_tup (pv 0)) (fun _ _ _ _ _ _ => (pg_name (i := 0) nd_2 rfl (Or.inl rfl))) (gk_name rfl) (fun _ _ _ _ _ _ => pts_nil) (fun _ _ _ _ _ _ => (pe_call (ok_is_kind T) (hr.mono (by first | decide | (first | lia | omega))) rfl T.m_is_kind T.F_is_kind.kp T.b_is_kind .nil pass0 (pa_cons (pv 0) pa_nil)))) pa_nil)) (fun _ => rfl)))))) (pss_one (ps_ret pe_bl)) pss_nil)
      (pss_cons (ps_setC (i := 1) (N := [Str.ofString "pair"]) (js := [none]) (g := (gName 0)) (tt := tNoTest) (te := (tOp (rIxT K) (tVar 0) (tC (.int 0)))) sc_are_kinds.nd rfl (Or.inl rfl) rfl (cs_mk rfl (by decide +kernel) (by decide +kernel) rfl rfl rfl) (pi_tup (pv 0)) (fun _ _ _ _ _ _ => (pg_name (i := 0) nd_2 rfl (Or.inl rfl))) (gk_name rfl) (fun _ _ _ _ _ _ => pts_nil) (fun _ _ _ _ _ _ => (pe_ix ix_tup (pv 0) pe_int (fun _ _ => rfl))))
      (pss_one (ps_ret (pe_and (pe_cmpR op_eq (pe_callB call_lenS rfl T.n_len PySem.boot_len (pa_cons (pe_callTy (call_setS rfl) rfl T.n_set PyProof.Rows.boot_set (pa_cons (pv 1) pa_nil)) pa_nil)) (pe_callB call_len_seq rfl T.n_len PySem.boot_len (pa_cons (pv 1) pa_nil)) (nomark _)) (pe_one (pe_cmpR op_in_seq pe_int (pe_comp (N := [Str.ofString "pair"]) (js := [none]) (g := (gName 0)) (tt := tNoTest) (te := (tOp (rIxT K) (tVar 0) (tC (.int 1)))) rfl (cs_mk rfl (by decide +kernel) (by decide +kernel) rfl rfl rfl) (pi_tup (pv 0)) (fun _ _ _ _ _ _ => (pg_name (i := 0) nd_2 rfl (Or.inl rfl))) (gk_name rfl) (fun _ _ _ _ _ _ => pts_nil) (fun _ _ _ _ _ _ => (pe_ix ix_tup (pv 0) pe_int (fun _ _ => rfl)))) (by with_unfolding_all rfl)))))))), ?_⟩
  have hkl : ks.length = kas.length := Paired.length hks
  refine ⟨_, rfl, kr, _, rfl, .inr hK, _, _, rfl, rfl, _, rfl, ?_⟩
  rw [List.length_map, ← hkl]
  have hno : ∀ Hx, L2.Same H Hx → okKinds ks = false → Q (.bl false) Hx := fun Hx sx e => by
    have kk := k Hx sx
    rw [e] at kk
    exact kk
  have bad : ¬ (1 ≤ ks.length ∧ ks.length ≤ 8) → okKinds ks = false := fun z => by
    unfold okKinds
    rw [decide_eq_false z]
    rfl
  refine ite2 (fun c1 => ?_) (fun c1 => ?_)
  · have c1' : (1 : Int) ≤ (ks.length : Int) := of_decide_eq_true c1
    refine ⟨_, _, rfl, rfl, _, rfl, ?_⟩
    refine ite2 (fun c2 => ?_) (fun c2 => ?_)
    · refine iteT (hno H (.refl _) (bad fun z => ?_))
      rw [decide_eq_true (show (ks.length : Int) ≤ 8 by (first | lia | omega))] at c2
      cases c2
    · have c2' : ks.length ≤ 8 := by
        by_cases h : ks.length ≤ 8
        · exact h
        · rw [decide_eq_false (show ¬ (ks.length : Int) ≤ 8 by (first | lia | omega))] at c2
          exact absurd rfl c2
      have hok1 : okKinds ks = (ks.all okKind && (decide ((ks.map (·.1)).Nodup) && decide ((0 : Int) ∈ ks.map (·.2)))) := by
        unfold okKinds
        rw [decide_eq_true (show 1 ≤ ks.length ∧ ks.length ≤ 8 from ⟨by (first | lia | omega), c2'⟩)]
        rfl
      refine ⟨_, rfl, kr, rfl, ⟨_, hK⟩, comp_sm_tup ks (fun k => V.bl (okKind k)) hK (by rw [List.length_map]; exact hkl) (by rw [List.length_map]; (first | lia | omega)) (fun i x z H2 R W' hx hz s2 hR => ?_) (fun D H1 hD s1 e1 => ?_)⟩
      · obtain ⟨ka, rfl, hka⟩ := get_ref hx
        obtain ⟨z', hz', ez⟩ := P2.get' hks hka
        rw [hz] at hz'
        cases hz'
        exact ⟨_, rfl, ka, z, rfl, s2 _ _ ez, hnz z (List.mem_of_getElem? hz), fun H3 s3 => hR H3 s3⟩
      · have eall : ks.map (fun k => V.bl (okKind k)) = (ks.map okKind).map V.bl := by rw [List.map_map]; rfl
        rw [eall] at e1
        refine ⟨D, _, rfl, SqL.of e1, _, rfl, ?_⟩
        rw [show (ks.map okKind).all id = ks.all okKind by rw [List.all_map]; rfl]
        refine ite2 (fun c3 => ?_) (fun c3 => ?_)
        · refine hno H1 s1 ?_
          rw [hok1]
          have : ks.all okKind = false := by
            cases h : ks.all okKind with
            | false => rfl
            | true => rw [h] at c3; cases c3
          rw [this]
          rfl
        · have hall : ks.all okKind = true := by
            cases h : ks.all okKind with
            | true => rfl
            | false => rw [h] at c3; exact absurd rfl c3
          rw [hall, Bool.true_and] at hok1
          have hks1 := hks.mono (Same.kt s1)
          refine ⟨_, rfl, kr, rfl, ⟨_, s1.seqT hK⟩, comp_sm_tup ks (fun k => V.str k.1) (s1.seqT hK) (by rw [List.length_map]; exact hkl) (by rw [List.length_map]; (first | lia | omega)) (fun i x z H2 R W' hx hz s2 hR => ?_) (fun D1 H2 hD1 s2 e2 => ?_)⟩
          · obtain ⟨ka, rfl, hka⟩ := get_ref hx
            obtain ⟨z', hz', ez⟩ := P2.get' hks1 hka
            rw [hz] at hz'
            cases hz'
            exact ⟨_, rfl, ka, _, 0, .str z.1, rfl, rfl, SqT.of (s2 _ _ ez), at0, hR H2 (.refl _)⟩
          · have en : ks.map (fun k => V.str k.1) = (ks.map (·.1)).map V.str := by rw [List.map_map]; rfl
            rw [en] at e2
            have s12 := s1.trans s2
            refine ⟨_, rfl, D1, ks.map (·.1), rfl, SqL.of e2, by rw [List.length_map]; (first | lia | omega), fun sa hsa => ?_⟩
            have s3 := fun o : HO => same_new hsa o
            have s13 := fun o : HO => s12.trans (s3 o)
            refine ⟨sa, ks.map (·.1), rfl, upd_same, _, rfl, D1, _, rfl, .inl (SqL.of (s3 _ _ _ e2)), rfl, _, rfl, ?_⟩
            have hdn := dn_nodup (ks.map (·.1)) (ks.map (·.1)).length (Nat.le_refl _)
            rw [List.take_length] at hdn
            refine ite2 (fun c4 => ?_) (fun c4 => ?_)
            · have c4' : ((dn (ks.map (·.1)) (ks.map (·.1)).length : Nat) : Int) = (((ks.map (·.1)).map V.str).length : Int) := V.int.inj (of_decide_eq_true c4)
              rw [List.length_map (f := V.str)] at c4'
              have hnd := hdn.mp (by (first | lia | omega))
              rw [decide_eq_true hnd, Bool.true_and] at hok1
              refine ⟨_, rfl, kr, rfl, ⟨_, (s13 _).seqT hK⟩, comp_sm_tup ks (fun k => V.int k.2) ((s13 _).seqT hK) (by rw [List.length_map]; exact hkl) (by rw [List.length_map]; (first | lia | omega)) (fun i x z H4 R W' hx hz s4 hR => ?_) (fun D3 H4 hD3 s4 e4 => ?_)⟩
              · obtain ⟨ka, rfl, hka⟩ := get_ref hx
                obtain ⟨z', hz', ez⟩ := P2.get' (hks.mono (Same.kt ((s13 _).trans s4))) hka
                rw [hz] at hz'
                cases hz'
                exact ⟨_, rfl, ka, _, 1, .int z.2, rfl, rfl, SqT.of ez, at1, hR H4 (.refl _)⟩
              · have hin : inV (.int 0) (ks.map fun k => V.int k.2) = decide ((0 : Int) ∈ ks.map (·.2)) := by
                  unfold inV
                  rw [List.any_map]
                  by_cases h : (0 : Int) ∈ ks.map (·.2)
                  · rw [decide_eq_true h]
                    obtain ⟨k', hk', e'⟩ := List.mem_map.mp h
                    exact List.any_eq_true.mpr ⟨k', hk', by show eqV (.int k'.2) (.int 0) = true; rw [e']; rfl⟩
                  · rw [decide_eq_false h]
                    refine Bool.eq_false_iff.mpr fun z => h ?_
                    obtain ⟨k', hk', e'⟩ := List.any_eq_true.mp z
                    have e2' : eqV (.int k'.2) (.int 0) = true := e'
                    exact List.mem_map.mpr ⟨k', hk', by simpa [eqV] using e2'⟩
                refine ⟨D3, _, rfl, .inl (SqL.of e4), rfl, ?_, ?_⟩
                · rw [List.all_map]
                  exact List.all_eq_true.mpr fun _ _ => rfl
                · have kk := k H4 ((s13 _).trans s4)
                  rw [hok1, ← hin] at kk
                  exact kk
            · refine hno _ (s13 _) ?_
              rw [hok1, decide_eq_false (fun z => c4 (decide_eq_true ?_))]
              · rfl
              · show V.int ((dn (ks.map (·.1)) (ks.map (·.1)).length : Nat) : Int) = V.int (((ks.map (·.1)).map V.str).length : Int)
                rw [hdn.mpr z, List.length_map (f := V.str)]
  · refine ⟨_, rfl, iteT (hno H (.refl _) (bad fun z => c1 (decide_eq_true (by (first | lia | omega)))))⟩
end
def KPairs (K : PySem.W.Frag) (H : Hp) (ks : List (Str × Int)) (a : Addr) (kas : List Addr) : Prop := (SqL K H a (kas.map V.ref) ∨ SqT K H a (kas.map V.ref)) ∧ KsAt H ks kas ∧ ks.length ≤ 1000 ∧ ∀ k ∈ ks, k.1.length ≤ 100000
inductive Isp_kinds_ofX (K : PySem.W.Frag) (C : Addr) (vs : List V) (H : Hp) (Q : VK) (E : XK) : Prop
  | mk (pr : Addr) (kas : List Addr) (ks : List (Str × Int)) (zz0 : vs = [.ref pr]) (zz1 : KPairs K H ks pr kas) (zz2 : (okKinds ks = true → ∀ (r : Addr) (H' : Hp), L2.Same H H' → H' r = some (.tup (kas.map V.ref)) → Q (.ref r) H')) (zz3 : (okKinds ks = false → ∀ H', L2.Same H H' → E (.ref C) none H')) : Isp_kinds_ofX K C vs H Q E
def sp_kinds_ofX (K : PySem.W.Frag) (C : Addr) : Sp := Isp_kinds_ofX K C
section
variable {P : Program} {w : World} {K : PySem.W.Frag} {mg : Str → Option Value} {base : Heap} (T : TX K mg)
theorem kinds_tuples {σ : St} {H : Hp} {ks : List (Str × Int)} {pr : Addr} {kas : List Addr} {fin : Addr → Hp → Prop} (h : KPairs K H ks pr kas) (hq : ∀ D H', L2.Same H H' → H' D = some (.lst (kas.map V.ref)) → fin D H') :
    ((∃ xs, SqL K H pr xs) ∧ ∀ D, H D = none → ∃ (n : Nat) (W : Nat → Hp → Prop), W 0 (upd H D (.lst [])) ∧ cTurn [none] (gName 0) tNoTest (tCB (fun xs H Q => ∃ p ys, xs = [.ref p] ∧ ((SqL K H p ys ∧ ∀ l, H l = none → Q (.ref l) (upd H l (.tup ys))) ∨ (SqT K H p ys ∧ Q (.ref p) H))) (tCons (tVar 0) tNil)) σ (Itl K pr) D n W fun H' => fin D H') ∨
    ((∃ xs, SqT K H pr xs) ∧ ∀ D, H D = none → ∃ (n : Nat) (W : Nat → Hp → Prop), W 0 (upd H D (.lst [])) ∧ cTurn [none] (gName 0) tNoTest (tCB (fun xs H Q => ∃ p ys, xs = [.ref p] ∧ ((SqL K H p ys ∧ ∀ l, H l = none → Q (.ref l) (upd H l (.tup ys))) ∨ (SqT K H p ys ∧ Q (.ref p) H))) (tCons (tVar 0) tNil)) σ (Itt K pr) D n W fun H' => fin D H') := by
  obtain ⟨hS, hks, hlen, _⟩ := h
  have hkl : ks.length = kas.length := Paired.length hks
  have step : ∀ (i : Nat) (x : V) (z : Addr) (H2 : Hp) (R : VK) (W' : Hp → Prop), (kas.map V.ref)[i]? = some x → kas[i]? = some z → L2.Same H H2 → (∀ H3, L2.Same H2 H3 → R (.ref z) H3) →
      gName 0 x (cσ [none] σ) H2 fun σ2 H3 => tNoTest σ2 H3 fun b H4 => if b = true then (tCB (fun xs H Q => ∃ p ys, xs = [.ref p] ∧ ((SqL K H p ys ∧ ∀ l, H l = none → Q (.ref l) (upd H l (.tup ys))) ∨ (SqT K H p ys ∧ Q (.ref p) H))) (tCons (tVar 0) tNil)) σ2 H4 R else W' H4 := by
    intro i x z H2 R W' hx hz s2 hR
    obtain ⟨ka, rfl, hka⟩ := get_ref hx
    rw [hz] at hka
    cases hka
    obtain ⟨z', hz', ez⟩ := P2.get' hks hz
    exact ⟨_, rfl, z, _, rfl, .inr ⟨SqT.of (s2 _ _ ez), hR H2 (.refl _)⟩⟩
  rcases hS with hS | hS
  · exact .inl ⟨⟨_, hS⟩, comp_sm_list kas V.ref hS (by rw [List.length_map]) (by rw [List.length_map]; (first | lia | omega)) step fun D H' hD s1 e1 => hq D H' s1 e1⟩
  · exact .inr ⟨⟨_, hS⟩, comp_sm_tup kas V.ref hS (by rw [List.length_map]) (by rw [List.length_map]; (first | lia | omega)) step fun D H' hD s1 e1 => hq D H' s1 e1⟩
theorem ok_kinds_ofX : FnOk P w K mg base (CX1 P w) 5 T.f_kinds_of T.d_kinds_of ["pairs"] (sp_kinds_ofX K T.e_NoKinds) := by
  refine T.F_kinds_of.ok1 sc_kinds_of (fun vs H Q E h => ?_) (fun cdv A outer s H vs Q E hr h => ?_)
  · obtain ⟨pr, kas, ks, rfl, _⟩ := h
    rfl
  obtain ⟨pr, kas, ks, rfl, hp, k1, k2⟩ := h
  refine ⟨_, (pss_cons (ps_set (i := 1) sc_kinds_of.nd rfl (Or.inl rfl) (pe_callTy call_tuple_of rfl T.n_tuple PyProof.Rows.boot_tuple (pa_cons (pe_comp (N := [Str.ofString "pair"]) (js := [none]) (g := (gName 0)) (tt := tNoTest) (te := (tCB (fun xs H Q => ∃ p ys, xs = [.ref p] ∧ ((SqL K H p ys ∧ ∀ l, H l = none → Q (.ref l) (upd H l (.tup ys))) ∨ (SqT K H p ys ∧ Q (.ref p) H))) (tCons (tVar 0) tNil))) rfl (cs_mk rfl (by decide +kernel) (by decide +kernel) rfl rfl rfl) (pi_seq (pv 0)) (fun _ _ _ _ _ _ => (pg_name (i := 0) nd_2 rfl (Or.inl rfl))) (gk_name rfl) (fun _ _ _ _ _ _ => pts_nil) (fun _ _ _ _ _ _ => (pe_callTy call_tuple_of rfl T.n_tuple PyProof.Rows.boot_tuple (pa_cons (pv 0) pa_nil)))) pa_nil)))
      (pss_cons (ps_if (pt_not (pt_truth (pe_call (ok_are_kinds T) (hr.mono (by first | decide | (first | lia | omega))) rfl T.m_are_kinds T.F_are_kinds.kp T.b_are_kinds .nil pass0 (pa_cons (pv 1) pa_nil)) (fun _ => rfl))) (pss_one (ps_raise T.X_NoKinds T.x_NoKinds pe_str)) pss_nil)
      (pss_one (ps_ret (pv 1))))), ?_⟩
  refine ⟨_, rfl, pr, rfl, kinds_tuples hp fun D H1 s1 e1 => ?_⟩
  refine ⟨D, _, rfl, .inl ⟨SqL.of e1, fun r hr' => ?_⟩⟩
  have s2 := s1.trans (same_new hr' (.tup (kas.map V.ref)))
  obtain ⟨hS, hks, hlen, hnz⟩ := hp
  refine ⟨_, rfl, r, kas, ks, rfl, SqT.of upd_same, hks.mono (Same.kt s2), hlen, hnz, fun H3 s3 => ?_⟩
  refine ⟨_, rfl, ?_⟩
  cases hok : okKinds ks with
  | false => exact iteT (k2 hok H3 (s2.trans s3))
  | true => exact iteF ⟨_, rfl, k1 hok r H3 (s2.trans s3) (s3 _ _ upd_same)⟩
end
inductive Isp_many_of (K : PySem.W.Frag) (vs : List V) (H : Hp) (Q : VK) (_E : XK) : Prop
  | mk (kr : Addr) (kas : List Addr) (ks : List (Str × Int)) (n : Str) (zz0 : vs = [.ref kr, .str n]) (zz1 : SqT K H kr (kas.map V.ref)) (zz2 : KsAt H ks kas) (zz3 : Q (.int (manyOf ks n)) H) : Isp_many_of K vs H Q _E
def sp_many_of (K : PySem.W.Frag) : Sp := Isp_many_of K
section
variable {P : Program} {w : World} {K : PySem.W.Frag} {mg : Str → Option Value} {base : Heap} (T : TX K mg)
theorem ok_many_of : FnOk P w K mg base CX0 1 T.f_many_of T.d_many_of ["kinds", "name"] (sp_many_of K) := by
  refine T.F_many_of.ok sc_many_of (fun vs H Q E h => ?_) (fun cdv A outer s H vs Q E hr h => ?_)
  · obtain ⟨kr, kas, ks, n, rfl, _⟩ := h
    rfl
  obtain ⟨kr, kas, ks, n, rfl, hK, hks, k⟩ := h
  refine ⟨_, (pss_cons (ps_for PassesOwn.never rfl (pi_tup (pv 0)) (pg_tup rfl (pgs_cons (pg_name (i := 2) sc_many_of.nd rfl (Or.inl rfl)) (pgs_cons (pg_name (i := 3) sc_many_of.nd rfl (Or.inl rfl)) pgs_nil))) (pss_one (ps_if (pt_cmpR op_eq (pv 2) (pv 1) (nomark _)) (pss_one (ps_ret (pv 3))) pss_nil)))
      (pss_one (ps_ret (pe_un un_neg pe_int)))), ?_⟩
  refine ⟨_, rfl, kr, rfl, ⟨_, hK⟩, ?_⟩
  have hkl : ks.length = kas.length := Paired.length hks
  refine for_tup (K := K) (a := kr) (xs := kas.map V.ref) (fun i σ H2 => ∃ c1 c2, σ = [some (.ref kr), some (.str n), c1, c2] ∧ H2 = H ∧ manyOf ks n = manyOf (ks.drop i) n) ⟨none, none, rfl, rfl, by rw [List.drop_zero]⟩ (fun i σ H2 _ ⟨_, _, _, e, _⟩ => by rw [e]; exact hK) ?_ ?_
  · rintro i x σ H2 hx ⟨c1, c2, rfl, rfl, hm⟩
    obtain ⟨ka, rfl, hka⟩ := get_ref hx
    obtain ⟨kd, hkd, ekd⟩ := P2.get' hks hka
    have hi : i < ks.length := (List.getElem?_eq_some_iff.mp hkd).1
    have hd : ks.drop i = kd :: ks.drop (i + 1) := by
      rw [List.drop_eq_getElem_cons hi]
      congr 1
      rw [List.getElem?_eq_getElem hi] at hkd
      exact Option.some.inj hkd
    rw [hd, manyOf] at hm
    refine ⟨ka, _, rfl, SqT.of ekd, rfl, _, _, rfl, _, _, rfl, rfl, ?_⟩
    refine ⟨_, rfl, _, rfl, rfl, _, rfl, ?_⟩
    refine ite2 (fun c => ?_) (fun c => ?_)
    · have c' : kd.1 = n := V.str.inj (of_decide_eq_true c)
      rw [if_pos c'] at hm
      rw [hm] at k
      exact ⟨_, rfl, k⟩
    · have c' : ¬ kd.1 = n := fun z => c (decide_eq_true (congrArg V.str z))
      rw [if_neg c'] at hm
      exact ⟨_, _, rfl, rfl, hm⟩
  · rintro σ H2 ⟨c1, c2, rfl, rfl, hm⟩
    rw [List.length_map, ← hkl, List.drop_length, manyOf] at hm
    rw [hm] at k
    exact ⟨_, rfl, k⟩
end
inductive Isp_fits_pattern (K : PySem.W.Frag) (vs : List V) (H : Hp) (Q : VK) (_E : XK) : Prop
  | mk (kr a : Addr) (kas : List Addr) (ks : List (Str × Int)) (t : Th) (st kd : Int) (zz0 : vs = [.ref kr, .ref a, .int st, .int kd]) (zz1 : SqT K H kr (kas.map V.ref)) (zz2 : KsAt H ks kas) (zz3 : At H t a) (zz4 : t.size ≤ 100000) (zz5 : ∀ H', L2.Same H H' → Q (.bl (fpb ks st kd t)) H') : Isp_fits_pattern K vs H Q _E
def sp_fits_pattern (K : PySem.W.Frag) : Sp := Isp_fits_pattern K
section
variable {P : Program} {w : World} {K : PySem.W.Frag} {mg : Str → Option Value} {base : Heap} (T : TX K mg)
theorem ok_fits_pattern : FnOk P w K mg base CX0 3 T.f_fits_pattern T.d_fits_pattern ["kinds", "pattern", "states", "kids"] (sp_fits_pattern K) := by
  refine T.F_fits_pattern.ok sc_fits_pattern (fun vs H Q E h => ?_) (fun cdv A outer s H vs Q E hr h => ?_)
  · obtain ⟨kr, a, kas, ks, t, st, kd, rfl, _⟩ := h
    rfl
  obtain ⟨kr, a, kas, ks, t, st, kd, rfl, hK, hks, hA, hsz, k⟩ := h
  refine ⟨_, (pss_cons (ps_for PassesOwn.never rfl (pi_list (pe_call (ok_walked T) (hr.mono (by first | decide | (first | lia | omega))) rfl T.m_walked T.F_walked.kp T.b_walked .nil pass0 (pa_cons (pv 1) pa_nil))) (pg_name (i := 4) sc_fits_pattern.nd rfl (Or.inl rfl)) (pss_one (ps_if (pt_truth (pe_call (ok_is_call T) (hr.mono (by first | decide | (first | lia | omega))) rfl T.m_is_call T.F_is_call.kp T.b_is_call .nil pass0 (pa_cons (pv 4) pa_nil)) (fun _ => rfl)) (pss_one (ps_if (PW.pt (pw_or (pt_not (pt_truth (pe_call (ok_is_below T) (hr.mono (by first | decide | (first | lia | omega))) rfl T.m_is_below T.F_is_below.kp T.b_is_below .nil pass0 (pa_cons (pe_ix ix_tup (pv 4) pe_int (fun _ _ => rfl)) (pa_cons (pv 2) pa_nil))) (fun _ => rfl))) (pw_or1 (pt_not (pt_truth (pe_call (ok_is_below T) (hr.mono (by first | decide | (first | lia | omega))) rfl T.m_is_below T.F_is_below.kp T.b_is_below .nil pass0 (pa_cons (pe_ix ix_tup (pv 4) pe_int (fun _ _ => rfl)) (pa_cons (pv 3) pa_nil))) (fun _ => rfl)))))) (pss_one (ps_ret pe_bl)) pss_nil)) (pss_one (ps_if (pt_cmpR op_ne (pe_call (ok_many_of T) (hr.mono (by first | decide | (first | lia | omega))) rfl T.m_many_of T.F_many_of.kp T.b_many_of .nil pass0 (pa_cons (pv 0) (pa_cons (pe_ix ix_tup (pv 4) pe_int (fun _ _ => rfl)) pa_nil))) (pe_op op_sub (pe_callB call_len_seq rfl T.n_len PySem.boot_len (pa_cons (pv 4) pa_nil)) pe_int) (nomark _)) (pss_one (ps_ret pe_bl)) pss_nil)))))
      (pss_one (ps_ret pe_bl))), ?_⟩
  refine ⟨_, rfl, a, t, rfl, hA, hsz, fun r as H1 s1 nr er hw => ⟨r, rfl, ⟨_, SqL.of er⟩, ?_⟩⟩
  have hwl : as.length = t.walk.length := hw.length
  refine for_list (K := K) (a := r) (xs := as.map V.ref) (fun i σ H2 => ∃ c, σ = [some (.ref kr), some (.ref a), some (.int st), some (.int kd), c] ∧ L2.Same H1 H2 ∧ (t.walk.take i).all (okP ks st kd) = true)
    ⟨none, rfl, .refl _, by rw [List.take_zero]; rfl⟩ (fun i σ H2 _ ⟨_, _, s2, _⟩ => SqL.of (s2 _ _ er)) ?_ ?_
  · rintro i x σ H2 hx ⟨c, rfl, s2, hall⟩
    obtain ⟨xa, rfl, hxa⟩ := get_ref hx
    obtain ⟨tx, htx, atx0⟩ := hw.get hxa
    have atx := atx0.mono (Same.kt s2)
    have s12 := s1.trans s2
    have htk : t.walk.take (i + 1) = t.walk.take i ++ [tx] := by rw [List.take_add_one, htx]; rfl
    have hno : okP ks st kd tx = false → fpb ks st kd t = false := by
      intro z
      unfold fpb
      rw [Bool.eq_false_iff]
      intro y
      rw [List.all_eq_true] at y
      rw [y tx (List.mem_of_getElem? htx)] at z
      cases z
    have hyes : okP ks st kd tx = true → (t.walk.take (i + 1)).all (okP ks st kd) = true := by
      intro z
      rw [htk, List.all_append, hall]
      simp [z]
    refine ⟨_, rfl, xa, tx, rfl, atx, _, rfl, ?_⟩
    cases tx with
    | call sn kn =>
      refine iteT ?_
      have atx' := atx
      rw [At] at atx'
      refine ⟨_, rfl, xa, _, 1, _, rfl, rfl, SqT.of atx', at1, _, rfl, sn, st, rfl, _, rfl, ?_⟩
      refine ite2 (fun c1 => ?_) (fun c1 => ?_)
      · have e : fpb ks st kd t = false := hno (by rw [okP]; rw [Bool.not_eq_true'] at c1; rw [c1]; rfl)
        have := k H2 s12
        rw [e] at this
        exact iteT this
      · refine ⟨_, rfl, xa, _, 2, _, rfl, rfl, SqT.of atx', at2, _, rfl, kn, kd, rfl, _, rfl, ?_⟩
        have c1' : decide (0 ≤ sn ∧ sn < st) = true := by
          cases h : decide (0 ≤ sn ∧ sn < st) with
          | true => rfl
          | false => rw [h] at c1; exact absurd rfl c1
        refine ite2 (fun c2 => ?_) (fun c2 => ?_)
        · have e : fpb ks st kd t = false := hno (by rw [okP]; rw [Bool.not_eq_true'] at c2; rw [c1', c2]; rfl)
          have := k H2 s12
          rw [e] at this
          exact this
        · have c2' : decide (0 ≤ kn ∧ kn < kd) = true := by
            cases h : decide (0 ≤ kn ∧ kn < kd) with
            | true => rfl
            | false => rw [h] at c2; exact absurd rfl c2
          exact ⟨_, rfl, s2, hyes (by rw [okP, c1', c2']; rfl)⟩
    | knot nm us =>
      refine iteF ?_
      have atx' := atx
      rw [At] at atx'
      obtain ⟨hnm, ka, ek, hka⟩ := atx'
      have hkl : ka.length = us.length := hka.length
      refine ⟨_, rfl, _, rfl, xa, _, 0, .str nm, rfl, rfl, SqT.of ek, at0, kr, kas, ks, nm, rfl, s12.seqT hK, hks.mono (Same.kt s12), _, rfl, xa, _, rfl, .inr (SqT.of ek), _, _, rfl, rfl, rfl, _, rfl, ?_⟩
      have hlen : ((V.str nm :: ka.map V.ref).length : Int) - 1 = (us.length : Int) := by rw [List.length_cons, List.length_map, hkl]; (first | lia | omega)
      refine ite2 (fun c => ?_) (fun c => ?_)
      · have hm : ¬ manyOf ks nm = ((us.length : Nat) : Int) := fun z => of_nd c (by rw [z, ← hlen])
        have e : fpb ks st kd t = false := hno (by rw [okP]; exact decide_eq_false hm)
        have := k H2 s12
        rw [e] at this
        exact this
      · have hm : manyOf ks nm = ((us.length : Nat) : Int) := by
          have := V.int.inj (of_nnd c)
          rw [this]
          exact hlen
        exact ⟨_, rfl, s2, hyes (by rw [okP]; exact decide_eq_true hm)⟩
  · rintro σ H2 ⟨c, rfl, s2, hall⟩
    rw [List.length_map, hwl, List.take_length] at hall
    have e : fpb ks st kd t = true := hall
    have := k H2 (s1.trans s2)
    rw [e] at this
    exact this
end
def okPat (outs : List (Str × Int)) (st kd : Int) (t : Th) : Prop := Small t ∧ fpb outs st kd t = true
instance (outs : List (Str × Int)) (st kd : Int) (t : Th) : Decidable (okPat outs st kd t) := inferInstanceAs (Decidable (_ ∧ _))
inductive Isp_check_patternX (K : PySem.W.Frag) (C : Addr) (vs : List V) (H : Hp) (Q : VK) (E : XK) : Prop
  | mk (oa pa : Addr) (oas : List Addr) (outs : List (Str × Int)) (t : Th) (st kd : Int) (zz0 : vs = [.ref oa, .ref pa, .int st, .int kd]) (zz1 : SqT K H oa (oas.map V.ref)) (zz2 : KsAt H outs oas) (zz3 : At H t pa) (zz4 : t.size ≤ 100000) (zz5 : (okPat outs st kd t → ∀ H', L2.Same H H' → Q .non H')) (zz6 : (¬ okPat outs st kd t → ∀ H', L2.Same H H' → E (.ref C) none H')) : Isp_check_patternX K C vs H Q E
def sp_check_patternX (K : PySem.W.Frag) (C : Addr) : Sp := Isp_check_patternX K C
section
variable {P : Program} {w : World} {K : PySem.W.Frag} {mg : Str → Option Value} {base : Heap} (T : TX K mg)
theorem ok_check_patternX : FnOk P w K mg base (CX1 P w) 5 T.f_check_pattern T.d_check_pattern ["outs", "pattern", "states", "kids"] (sp_check_patternX K T.e_NoBook) := by
  refine T.F_check_pattern.ok1 sc_check_pattern (fun vs H Q E h => ?_) (fun cdv A outer s H vs Q E hr h => ?_)
  · obtain ⟨oa, pa, oas, outs, t, st, kd, rfl, _⟩ := h
    rfl
  obtain ⟨oa, pa, oas, outs, t, st, kd, rfl, hS, hks, hA, hsz, q1, q2⟩ := h
  refine ⟨_, (pss_cons (ps_if (pt_not (pt_truth (pe_call (ok_is_small T) (hr.mono (by first | decide | (first | lia | omega))) rfl T.m_is_small T.F_is_small.kp T.b_is_small .nil pass0 (pa_cons (pv 1) pa_nil)) (fun _ => rfl))) (pss_one (ps_raise T.X_NoBook T.x_NoBook pe_str)) pss_nil)
      (pss_one (ps_if (pt_not (pt_truth (pe_call (ok_fits_pattern T) (hr.mono (by first | decide | (first | lia | omega))) rfl T.m_fits_pattern T.F_fits_pattern.kp T.b_fits_pattern .nil pass0 (pa_cons (pv 0) (pa_cons (pv 1) (pa_cons (pv 2) (pa_cons (pv 3) pa_nil))))) (fun _ => rfl))) (pss_one (ps_raise T.X_NoBook T.x_NoBook pe_str)) pss_nil))), ?_⟩
  refine ⟨_, rfl, pa, t, rfl, hA, hsz, fun H1 s1 => ⟨_, rfl, ?_⟩⟩
  by_cases c1 : Small t
  · rw [decide_eq_true c1]
    refine iteF ?_
    refine ⟨_, rfl, _, rfl, _, rfl, _, rfl, oa, pa, oas, outs, t, st, kd, rfl, s1.seqT hS, hks.mono (Same.kt s1), hA.mono (Same.kt s1), hsz, fun H2 s2 => ⟨_, rfl, ?_⟩⟩
    cases c2 : fpb outs st kd t with
    | true => exact iteF (q1 ⟨c1, c2⟩ H2 (s1.trans s2))
    | false => exact iteT (q2 (fun z => by rw [z.2] at c2; cases c2) H2 (s1.trans s2))
  · rw [decide_eq_false c1]
    exact iteT (q2 (fun z => c1 z.1) H1 s1)
end
def okState (ins outs : List (Str × Int)) (st : Int) (row : List Th) : Prop := row.length = ins.length ∧ ∀ (j : Nat) (t : Th) (k : Str × Int), row[j]? = some t → ins[j]? = some k → okPat outs st k.2 t
inductive Isp_check_stateX (K : PySem.W.Frag) (C : Addr) (vs : List V) (H : Hp) (Q : VK) (E : XK) : Prop
  | mk (ia oa ra : Addr) (ias oas tas : List Addr) (ins outs : List (Str × Int)) (row : List Th) (st : Int) (zz0 : vs = [.ref ia, .ref oa, .ref ra, .int st]) (zz1 : SqT K H ia (ias.map V.ref)) (zz2 : KsAt H ins ias) (zz3 : SqT K H oa (oas.map V.ref)) (zz4 : KsAt H outs oas) (zz5 : H ra = some (.tup (tas.map V.ref))) (zz6 : Ats H row tas) (zz7 : (∀ t ∈ row, t.size ≤ 100000)) (zz8 : (okState ins outs st row → ∀ H', L2.Same H H' → Q .non H')) (zz9 : (¬ okState ins outs st row → ∀ H', L2.Same H H' → E (.ref C) none H')) : Isp_check_stateX K C vs H Q E
def sp_check_stateX (K : PySem.W.Frag) (C : Addr) : Sp := Isp_check_stateX K C
section
variable {P : Program} {w : World} {K : PySem.W.Frag} {mg : Str → Option Value} {base : Heap} (T : TX K mg)
theorem ok_check_stateX : FnOk P w K mg base (CX1 P w) 6 T.f_check_state T.d_check_state ["ins", "outs", "patterns", "states"] (sp_check_stateX K T.e_NoBook) := by
  refine T.F_check_state.ok1 sc_check_state (fun vs H Q E h => ?_) (fun cdv A outer s H vs Q E hr h => ?_)
  · obtain ⟨ia, oa, ra, ias, oas, tas, ins, outs, row, st, rfl, _⟩ := h
    rfl
  obtain ⟨ia, oa, ra, ias, oas, tas, ins, outs, row, st, rfl, hI, hki, hO, hko, er, hrow, hsz, q1, q2⟩ := h
  refine ⟨_, (pss_cons (ps_if (pt_cmpR op_ne (pe_callB call_len_seq rfl T.n_len PySem.boot_len (pa_cons (pv 2) pa_nil)) (pe_callB call_len_seq rfl T.n_len PySem.boot_len (pa_cons (pv 0) pa_nil)) (nomark _)) (pss_one (ps_raise T.X_NoBook T.x_NoBook pe_str)) pss_nil)
      (pss_one (ps_for PassesOwn.leaving rfl (pi_zip rfl T.n_zip (pa_cons (pv 0) (pa_cons (pv 2) pa_nil))) (pg_tup rfl (pgs_cons (pg_name (i := 4) sc_check_state.nd rfl (Or.inl rfl)) (pgs_cons (pg_name (i := 5) sc_check_state.nd rfl (Or.inl rfl)) pgs_nil))) (pss_one (ps_expr (pe_call (ok_check_patternX T) (hr.mono (by first | decide | (first | lia | omega))) rfl T.m_check_pattern T.F_check_pattern.kp T.b_check_pattern .nil pass1 (pa_cons (pv 1) (pa_cons (pv 5) (pa_cons (pv 3) (pa_cons (pe_ix ix_tup (pv 4) pe_int (fun _ _ => rfl)) pa_nil)))))))))), ?_⟩
  have hil : ins.length = ias.length := Paired.length hki
  have htl : tas.length = row.length := hrow.length
  refine ⟨_, rfl, ra, _, rfl, .inr (SqT.of er), _, rfl, ia, _, rfl, .inr hI, rfl, _, rfl, ?_⟩
  refine ite2 (fun c => ?_) (fun c => ?_)
  · refine q2 (fun z => ?_) H (.refl _)
    have hz : ((tas.map V.ref).length : Int) = ((ias.map V.ref).length : Int) := by
      rw [List.length_map, List.length_map]
      have := z.1
      (first | lia | omega)
    rw [hz] at c
    simp at c
  · have hlen : row.length = ins.length := by
      by_cases z : V.int ((tas.map V.ref).length : Int) = V.int ((ias.map V.ref).length : Int)
      · have z' := V.int.inj z
        rw [List.length_map, List.length_map] at z'
        (first | lia | omega)
      · exact absurd (by simpa using z) c
    refine ⟨_, rfl, _, rfl, ia, ra, rfl, ⟨_, hI⟩, ⟨_, SqT.of er⟩, ?_⟩
    refine for_it ins.length (fun j σ H7 => ∃ c4 c5, σ = [some (.ref ia), some (.ref oa), some (.ref ra), some (.int st), c4, c5] ∧ L2.Same H H7 ∧ ∀ (j' : Nat) (t : Th) (k : Str × Int), j' < j → row[j']? = some t → ins[j']? = some k → okPat outs st k.2 t)
      ⟨none, none, rfl, .refl _, fun j' t k h => absurd h (Nat.not_lt_zero _)⟩ (fun j σ H7 hj ⟨_, _, _, s7, _⟩ => ⟨_, _, _, _, s7.seqT hI, SqT.of (s7 _ _ er), List.getElem?_eq_getElem (by rw [List.length_map]; (first | lia | omega)), List.getElem?_eq_getElem (by rw [List.length_map]; (first | lia | omega))⟩) (fun σ H7 ⟨_, _, _, s7, _⟩ => ⟨_, _, s7.seqT hI, SqT.of (s7 _ _ er), .inl (by rw [List.length_map]; (first | lia | omega))⟩) ?_ ?_
    · rintro j x σ H7 H8 hj ⟨c4, c5, rfl, s7, hall⟩ ⟨p2, x1, y1, hp2, rfl, rfl, hx1, hy1⟩
      obtain ⟨ka, rfl, hka⟩ := get_ref (hx1 _ (s7.seqT hI))
      obtain ⟨ta, rfl, hta⟩ := get_ref (hy1 _ (SqT.of (s7 _ _ er)))
      obtain ⟨k, hk, ek⟩ := P2.get' hki hka
      obtain ⟨t, ht, hat⟩ := hrow.get hta
      have s8 : L2.Same H7 (upd H7 p2 (.tup [.ref ka, .ref ta])) := same_new hp2 _
      have e8 : (upd H7 p2 (.tup [.ref ka, .ref ta])) p2 = some (.tup [.ref ka, .ref ta]) := upd_same
      generalize (upd H7 p2 (.tup [.ref ka, .ref ta])) = H8 at s8 e8 ⊢
      have s08 := s7.trans s8
      refine ⟨p2, _, rfl, SqT.of e8, rfl, _, _, rfl, _, _, rfl, rfl, ?_⟩
      refine ⟨_, rfl, _, rfl, _, rfl, _, rfl, ka, _, 1, _, rfl, rfl, SqT.of (s08 _ _ ek), at1, oa, ta, oas, outs, t, st, k.2, rfl, s08.seqT hO, hko.mono (Same.kt s08), hat.mono (Same.kt s08), hsz t (List.mem_of_getElem? ht), fun hok H9 s9 => ?_, fun hno H9 s9 => ?_⟩
      · refine ⟨_, _, rfl, s08.trans s9, fun j' t' k' hj' ht' hk' => ?_⟩
        by_cases hz : j' < j
        · exact hall j' t' k' hz ht' hk'
        · have : j' = j := by (first | lia | omega)
          subst this
          rw [ht] at ht'
          cases ht'
          rw [hk] at hk'
          cases hk'
          exact hok
      · exact q2 (fun z => hno (z.2 j t k ht hk)) H9 (s08.trans s9)
    · rintro σ H7 ⟨c4, c5, rfl, s7, hall⟩
      exact q1 ⟨hlen, fun j t k ht hk => hall j t k (List.getElem?_eq_some_iff.mp hk).1 ht hk⟩ H7 s7
end
def SRow (H : Hp) (row : List Th) (a : Addr) : Prop := ∃ tas : List Addr, (H a = some (.lst (tas.map V.ref)) ∨ H a = some (.tup (tas.map V.ref))) ∧ Ats H row tas
theorem SRow.mono {H H' : Hp} (s : L2.Same H H') {row : List Th} {a : Addr} (h : SRow H row a) : SRow H' row a := by
  obtain ⟨tas, h1, h2⟩ := h
  exact ⟨tas, h1.imp (s _ _) (s _ _), h2.mono (Same.kt s)⟩
theorem RowAt.s {H : Hp} {row : List Th} {a : Addr} (h : RowAt H row a) : SRow H row a := by
  obtain ⟨tas, h1, h2⟩ := h
  exact ⟨tas, .inr h1, h2⟩
def SRows (H : Hp) (rows : List (List Th)) (a : Addr) (rls : List Addr) : Prop := (H a = some (.lst (rls.map V.ref)) ∨ H a = some (.tup (rls.map V.ref))) ∧ Paired (SRow H) rows rls
theorem SRows.mono {H H' : Hp} (s : L2.Same H H') {rows : List (List Th)} {a : Addr} {rls : List Addr} (h : SRows H rows a rls) : SRows H' rows a rls := ⟨h.1.imp (s _ _) (s _ _), P2.mp (fun _ _ e => e.mono s) h.2⟩
def okBook (ins outs : List (Str × Int)) (head : Th) (rows : List (List Th)) : Prop := rows.length ≤ 20 ∧ okPat outs (rows.length : Nat) 1 head ∧ ∀ row ∈ rows, okState ins outs (rows.length : Nat) row
inductive Isp_made_bookX (K : PySem.W.Frag) (CN CB : Addr) (vs : List V) (H : Hp) (Q : VK) (E : XK) : Prop
  | mk (ia oa ha ru : Addr) (ias oas rls : List Addr) (ins outs : List (Str × Int)) (head : Th) (rows : List (List Th)) (zz0 : vs = [.ref ia, .ref oa, .ref ha, .ref ru]) (zz1 : KPairs K H ins ia ias) (zz2 : KPairs K H outs oa oas) (zz3 : At H head ha) (zz4 : head.size ≤ 100000) (zz5 : SRows H rows ru rls) (zz6 : rows.length ≤ 1000) (zz7 : (∀ row ∈ rows, ∀ t ∈ row, t.size ≤ 100000)) (zz8 : (okKinds ins = true → okKinds outs = true → okBook ins outs head rows → ∀ (r : Addr) (H' : Hp), L2.Same H H' → Bk H' ins outs head rows r → Q (.ref r) H')) (zz9 : (¬ (okKinds ins = true ∧ okKinds outs = true) → ∀ H', L2.Same H H' → E (.ref CN) none H')) (zz10 : (okKinds ins = true → okKinds outs = true → ¬ okBook ins outs head rows → ∀ H', L2.Same H H' → E (.ref CB) none H')) : Isp_made_bookX K CN CB vs H Q E
def sp_made_bookX (K : PySem.W.Frag) (CN CB : Addr) : Sp := Isp_made_bookX K CN CB
inductive Isp_made_book (K : PySem.W.Frag) (vs : List V) (H : Hp) (Q : VK) (_E : XK) : Prop
  | mk (ia oa ha ru : Addr) (ias oas rls : List Addr) (ins outs : List (Str × Int)) (head : Th) (rows : List (List Th)) (zz0 : vs = [.ref ia, .ref oa, .ref ha, .ref ru]) (zz1 : KPairs K H ins ia ias) (zz2 : KPairs K H outs oa oas) (zz3 : At H head ha) (zz4 : head.size ≤ 100000) (zz5 : SRows H rows ru rls) (zz6 : rows.length ≤ 1000) (zz7 : (∀ row ∈ rows, ∀ t ∈ row, t.size ≤ 100000)) (zz8 : okKinds ins = true) (zz9 : okKinds outs = true) (zz10 : okBook ins outs head rows) (zz11 : ∀ (r : Addr) (H' : Hp), L2.Same H H' → Bk H' ins outs head rows r → Q (.ref r) H') : Isp_made_book K vs H Q _E
def sp_made_book (K : PySem.W.Frag) : Sp := Isp_made_book K
section
variable {P : Program} {w : World} {K : PySem.W.Frag} {mg : Str → Option Value} {base : Heap} (T : TX K mg)
theorem rows_tuples {σ : St} {H : Hp} {rows : List (List Th)} {ru : Addr} {rls : List Addr} {fin : Addr → Hp → Prop} (h : SRows H rows ru rls) (hn : rows.length ≤ 1000) (hq : ∀ D H' bs, L2.Same H H' → H' D = some (.lst (bs.map V.ref)) → Paired (RowAt H') rows bs → fin D H') :
    ((∃ xs, SqL K H ru xs) ∧ ∀ D, H D = none → ∃ (n : Nat) (W : Nat → Hp → Prop), W 0 (upd H D (.lst [])) ∧ cTurn [none] (gName 0) tNoTest (tCB (fun xs H Q => ∃ p ys, xs = [.ref p] ∧ ((SqL K H p ys ∧ ∀ l, H l = none → Q (.ref l) (upd H l (.tup ys))) ∨ (SqT K H p ys ∧ Q (.ref p) H))) (tCons (tVar 0) tNil)) σ (Itl K ru) D n W fun H' => fin D H') ∨
    ((∃ xs, SqT K H ru xs) ∧ ∀ D, H D = none → ∃ (n : Nat) (W : Nat → Hp → Prop), W 0 (upd H D (.lst [])) ∧ cTurn [none] (gName 0) tNoTest (tCB (fun xs H Q => ∃ p ys, xs = [.ref p] ∧ ((SqL K H p ys ∧ ∀ l, H l = none → Q (.ref l) (upd H l (.tup ys))) ∨ (SqT K H p ys ∧ Q (.ref p) H))) (tCons (tVar 0) tNil)) σ (Itt K ru) D n W fun H' => fin D H') := by
  obtain ⟨hS, hrows⟩ := h
  have hrl : rows.length = rls.length := Paired.length hrows
  have step : ∀ (i : Nat) (x : V) (z : List Th) (H2 : Hp) (R : VK) (W' : Hp → Prop), (rls.map V.ref)[i]? = some x → rows[i]? = some z → L2.Same H H2 → (∀ H3 p, L2.Same H2 H3 → RowAt H3 z p → R (.ref p) H3) →
      gName 0 x (cσ [none] σ) H2 fun σ2 H3 => tNoTest σ2 H3 fun b H4 => if b = true then (tCB (fun xs H Q => ∃ p ys, xs = [.ref p] ∧ ((SqL K H p ys ∧ ∀ l, H l = none → Q (.ref l) (upd H l (.tup ys))) ∨ (SqT K H p ys ∧ Q (.ref p) H))) (tCons (tVar 0) tNil)) σ2 H4 R else W' H4 := by
    intro i x z H2 R W' hx hz s2 hR
    obtain ⟨la, rfl, hla⟩ := get_ref hx
    obtain ⟨row', hrow', hl⟩ := P2.get' hrows hla
    rw [hz] at hrow'
    cases hrow'
    obtain ⟨tas, e1, h1⟩ := hl.mono s2
    rcases e1 with e1 | e1
    · exact ⟨_, rfl, la, _, rfl, .inl ⟨SqL.of e1, fun l hl' => hR _ l (same_new hl' _) ⟨tas, upd_same, h1.mono (Same.kt (same_new hl' _))⟩⟩⟩
    · exact ⟨_, rfl, la, _, rfl, .inr ⟨SqT.of e1, hR _ la (.refl _) ⟨tas, e1, h1⟩⟩⟩
  rcases hS with hS | hS
  · exact .inl ⟨⟨_, SqL.of hS⟩, comp_nw (F := RowAt) (xs := rls.map V.ref) rows (fun H1 H2 z p kt h => h.mono kt) (by rw [List.length_map]; (first | lia | omega)) (by rw [List.length_map]; (first | lia | omega)) (fun i Hx sx hi => ⟨_, _, SqL.of (sx _ _ hS), List.getElem?_eq_getElem hi⟩) (fun Hx sx => ⟨_, SqL.of (sx _ _ hS), Nat.le_refl _⟩) (fun i Hx x Hy sx hi hy => ⟨hy.1, hy.2 _ (SqL.of (sx _ _ hS))⟩) step fun D H3 bs hD s3 eD hpD => hq D H3 bs s3 eD hpD⟩
  · exact .inr ⟨⟨_, SqT.of hS⟩, comp_nw (F := RowAt) (xs := rls.map V.ref) rows (fun H1 H2 z p kt h => h.mono kt) (by rw [List.length_map]; (first | lia | omega)) (by rw [List.length_map]; (first | lia | omega)) (fun i Hx sx hi => ⟨_, _, SqT.of (sx _ _ hS), List.getElem?_eq_getElem hi⟩) (fun Hx sx => ⟨_, SqT.of (sx _ _ hS), Nat.le_refl _⟩) (fun i Hx x Hy sx hi hy => ⟨hy.1, hy.2 _ (SqT.of (sx _ _ hS))⟩) step fun D H3 bs hD s3 eD hpD => hq D H3 bs s3 eD hpD⟩
set_option maxHeartbeats 2000000 in
theorem ok_made_bookX : FnOk P w K mg base (CX1 P w) 7 T.f_made_book T.d_made_book ["ins", "outs", "head", "rules"] (sp_made_bookX K T.e_NoKinds T.e_NoBook) := by
  refine T.F_made_book.ok1 sc_made_book (fun vs H Q E h => ?_) (fun cdv A outer s H vs Q E hr h => ?_)
  · obtain ⟨ia, oa, ha, ru, ias, oas, rls, ins, outs, head, rows, rfl, _⟩ := h
    rfl
  obtain ⟨ia, oa, ha, ru, ias, oas, rls, ins, outs, head, rows, rfl, hI, hO, hd, hdz, hrows, hrn, hrz, q1, qk, q2⟩ := h
  refine ⟨_, (pss_cons (ps_set (i := 4) sc_made_book.nd rfl (Or.inl rfl) (pe_call (ok_kinds_ofX T) (hr.mono (by first | decide | (first | lia | omega))) rfl T.m_kinds_of T.F_kinds_of.kp T.b_kinds_of .nil pass1 (pa_cons (pv 0) pa_nil)))
      (pss_cons (ps_set (i := 5) sc_made_book.nd rfl (Or.inl rfl) (pe_call (ok_kinds_ofX T) (hr.mono (by first | decide | (first | lia | omega))) rfl T.m_kinds_of T.F_kinds_of.kp T.b_kinds_of .nil pass1 (pa_cons (pv 1) pa_nil)))
      (pss_cons (ps_set (i := 6) sc_made_book.nd rfl (Or.inl rfl) (pe_callTy call_tuple_of rfl T.n_tuple PyProof.Rows.boot_tuple (pa_cons (pe_comp (N := [Str.ofString "patterns"]) (js := [none]) (g := (gName 0)) (tt := tNoTest) (te := (tCB (fun xs H Q => ∃ p ys, xs = [.ref p] ∧ ((SqL K H p ys ∧ ∀ l, H l = none → Q (.ref l) (upd H l (.tup ys))) ∨ (SqT K H p ys ∧ Q (.ref p) H))) (tCons (tVar 0) tNil))) rfl (cs_mk rfl (by decide +kernel) (by decide +kernel) rfl rfl rfl) (pi_seq (pv 3)) (fun _ _ _ _ _ _ => (pg_name (i := 0) nd_3 rfl (Or.inl rfl))) (gk_name rfl) (fun _ _ _ _ _ _ => pts_nil) (fun _ _ _ _ _ _ => (pe_callTy call_tuple_of rfl T.n_tuple PyProof.Rows.boot_tuple (pa_cons (pv 0) pa_nil)))) pa_nil)))
      (pss_cons (ps_if (pt_cmpR op_gt (pe_callB call_len_seq rfl T.n_len PySem.boot_len (pa_cons (pv 6) pa_nil)) (pe_glob (v := .int (20)) rfl T.c_MOST_STATES.choose_spec ⟨_, rfl⟩) (nomark _)) (pss_one (ps_raise T.X_NoBook T.x_NoBook pe_str)) pss_nil)
      (pss_cons (ps_expr (pe_call (ok_check_patternX T) (hr.mono (by first | decide | (first | lia | omega))) rfl T.m_check_pattern T.F_check_pattern.kp T.b_check_pattern .nil pass1 (pa_cons (pv 5) (pa_cons (pv 2) (pa_cons (pe_callB call_len_seq rfl T.n_len PySem.boot_len (pa_cons (pv 6) pa_nil)) (pa_cons pe_int pa_nil))))))
      (pss_cons (ps_for PassesOwn.leaving rfl (pi_tup (pv 6)) (pg_name (i := 7) sc_made_book.nd rfl (Or.inl rfl)) (pss_one (ps_expr (pe_call (ok_check_stateX T) (hr.mono (by first | decide | (first | lia | omega))) rfl T.m_check_state T.F_check_state.kp T.b_check_state .nil pass1 (pa_cons (pv 4) (pa_cons (pv 5) (pa_cons (pv 7) (pa_cons (pe_callB call_len_seq rfl T.n_len PySem.boot_len (pa_cons (pv 6) pa_nil)) pa_nil))))))))
      (pss_one (ps_ret (pe_tup (pa_cons (pv 4) (pa_cons (pv 5) (pa_cons (pv 2) (pa_cons (pv 6) pa_nil))))))))))))), ?_⟩
  obtain ⟨hI1, hki, hI3, hI4⟩ := hI
  obtain ⟨hO1, hko, hO3, hO4⟩ := hO
  refine ⟨_, rfl, ia, ias, ins, rfl, ⟨hI1, hki, hI3, hI4⟩, fun gi ti H1 s1 ei => ?_, fun gi H1 s1 => qk (fun z => by rw [z.1] at gi; cases gi) H1 s1⟩
  refine ⟨_, rfl, oa, oas, outs, rfl, ⟨?_, hko.mono (Same.kt s1), hO3, hO4⟩, fun go to H2 s2 eo => ?_, fun go H2 s2 => qk (fun z => by rw [z.2] at go; cases go) H2 (s1.trans s2)⟩
  · rcases hO1 with h | h
    · exact .inl (s1.seq h)
    · exact .inr (s1.seqT h)
  have s02 := s1.trans s2
  replace q1 := q1 gi go
  replace q2 := q2 gi go
  refine ⟨_, rfl, ru, rfl, rows_tuples (hrows.mono s02) hrn fun D H3 bs s3 eD hpD => ?_⟩
  have hbl : rows.length = bs.length := Paired.length hpD
  refine ⟨D, _, rfl, .inl ⟨SqL.of eD, fun rt hrt => ?_⟩⟩
  have s4 : L2.Same H3 (upd H3 rt (.tup (bs.map V.ref))) := same_new hrt _
  have e4 : (upd H3 rt (.tup (bs.map V.ref))) rt = some (.tup (bs.map V.ref)) := upd_same
  generalize (upd H3 rt (.tup (bs.map V.ref))) = H4 at s4 e4 ⊢
  have s24 := s3.trans s4
  have s04 := s02.trans s24
  have hpR : Paired (RowAt H4) rows bs := P2.mp (fun _ _ e => e.mono (Same.kt s4)) hpD
  have hnl : ((bs.map V.ref).length : Int) = (rows.length : Nat) := by rw [List.length_map, hbl]
  refine ⟨_, rfl, rt, _, rfl, .inr (SqT.of e4), _, _, rfl, rfl, _, rfl, ?_⟩
  rw [hnl]
  refine ite2 (fun c => ?_) (fun c => ?_)
  · refine q2 (fun z => ?_) H4 s04
    have := of_decide_eq_true c
    have := z.1
    (first | lia | omega)
  have h20 : rows.length ≤ 20 := by
    by_cases z : ((rows.length : Nat) : Int) > 20
    · exact absurd (decide_eq_true z) c
    · (first | lia | omega)
  have eo4 := s24 _ _ eo
  have ei4 := (s2.trans s24) _ _ ei
  refine ⟨_, rfl, _, rfl, _, rfl, rt, _, rfl, .inr (SqT.of e4), to, ha, oas, outs, head, _, 1, rfl, SqT.of eo4, hko.mono (Same.kt s04), hd.mono (Same.kt s04), hdz, ?_, ?_⟩
  · rw [hnl]
    intro hok H5 s5
    dsimp only [tDrop]
    have s05 := s04.trans s5
    refine ⟨_, rfl, rt, rfl, ⟨_, SqT.of (s5 _ _ e4)⟩, ?_⟩
    refine for_tup (K := K) (a := rt) (xs := bs.map V.ref) (fun i σ H6 => ∃ c7, σ = [some (.ref ia), some (.ref oa), some (.ref ha), some (.ref ru), some (.ref ti), some (.ref to), some (.ref rt), c7] ∧ L2.Same H4 H6 ∧ ∀ row ∈ rows.take i, okState ins outs (rows.length : Nat) row)
      ⟨none, rfl, s5, fun row h => by rw [List.take_zero] at h; cases h⟩ (fun i σ H6 _ ⟨_, _, s6, _⟩ => SqT.of (s6 _ _ e4)) ?_ ?_
    · rintro i x σ H6 hx ⟨c7, rfl, s6, hall⟩
      obtain ⟨ra, rfl, hra⟩ := get_ref hx
      obtain ⟨row, hrow, tas, er, hat⟩ := P2.get' hpR hra
      have hrm := List.mem_of_getElem? hrow
      have s06 := s04.trans s6
      refine ⟨_, rfl, _, rfl, _, rfl, _, rfl, rt, _, rfl, .inr (SqT.of (s6 _ _ e4)), ti, to, ra, ias, oas, tas, ins, outs, row, _, rfl, SqT.of (s6 _ _ ei4), hki.mono (Same.kt s06), SqT.of (s6 _ _ eo4), hko.mono (Same.kt s06), s6 _ _ er, hat.mono (Same.kt s6), hrz row hrm, ?_, ?_⟩
      · rw [hnl]
        intro hst H7 s7
        refine ⟨_, rfl, s6.trans s7, fun r' hr' => ?_⟩
        rw [take_snoc hrow] at hr'
        rcases List.mem_append.mp hr' with hr' | hr'
        · exact hall r' hr'
        · rw [List.mem_singleton.mp hr']
          exact hst
      · rw [hnl]
        intro hst H7 s7
        exact q2 (fun z => hst (z.2.2 row hrm)) H7 (s06.trans s7)
    · rintro σ H6 ⟨c7, rfl, s6, hall⟩
      rw [List.take_of_length_le (by rw [List.length_map]; (first | lia | omega))] at hall
      refine ⟨_, rfl, _, rfl, _, rfl, _, rfl, line_le (by show 4 ≤ 1000000; decide), fun r hr' => ?_⟩
      have s7 := s6.trans (same_new hr' (.tup [.ref ti, .ref to, .ref ha, .ref rt]))
      have s07 := s04.trans s7
      exact q1 ⟨h20, hok, hall⟩ r _ s07 ⟨ti, to, ha, rt, ias, oas, bs, upd_same, s7 _ _ ei4, hki.mono (Same.kt s07), s7 _ _ eo4, hko.mono (Same.kt s07), hd.mono (Same.kt s07), s7 _ _ e4, P2.mp (fun _ _ e => e.mono (Same.kt s7)) hpR⟩
  · rw [hnl]
    intro hok H5 s5
    exact q2 (fun z => hok z.2.1) H5 (s04.trans s5)
theorem ok_made_book : FnOk P w K mg base CX0 7 T.f_made_book T.d_made_book ["ins", "outs", "head", "rules"] (sp_made_book K) :=
  (ok_made_bookX T).x0 fun vs H Q E h => by
    obtain ⟨ia, oa, ha, ru, ias, oas, rls, ins, outs, head, rows, rfl, hI, hO, hd, hdz, hrows, hrn, hrz, gi, go, hok, q⟩ := h
    exact ⟨ia, oa, ha, ru, ias, oas, rls, ins, outs, head, rows, rfl, hI, hO, hd, hdz, hrows, hrn, hrz, fun _ _ _ => q, fun hn => absurd ⟨gi, go⟩ hn, fun _ _ hn => absurd hok hn⟩
end
inductive Isp__law_cell (K : PySem.W.Frag) (vs : List V) (H : Hp) (Q : VK) (_E : XK) : Prop
  | mk (a : Addr) (ns : List Int) (k : Int) (zz0 : vs = [.ref a, .int k]) (zz1 : SqL K H a (ns.map V.int)) (zz2 : 0 ≤ k) (zz3 : ∀ c : Int, Q (.int c) H) : Isp__law_cell K vs H Q _E
def sp__law_cell (K : PySem.W.Frag) : Sp := Isp__law_cell K
section
variable {P : Program} {w : World} {K : PySem.W.Frag} {mg : Str → Option Value} {base : Heap} (T : TX K mg)
theorem ok__law_cell : FnOk P w K mg base CX0 1 T.f__law_cell T.d__law_cell ["script", "k"] (sp__law_cell K) := by
  refine T.F__law_cell.ok sc__law_cell (fun vs H Q E h => ?_) (fun cdv A outer s H vs Q E hr h => ?_)
  · obtain ⟨a, ns, k, rfl, _⟩ := h
    rfl
  obtain ⟨a, ns, k, rfl, hS, h0, q⟩ := h
  refine ⟨_, (pss_cons (ps_if (pt_cmpR op_lt (pv 1) (pe_callB call_len_seq rfl T.n_len PySem.boot_len (pa_cons (pv 0) pa_nil)) (nomark _)) (pss_one (ps_ret (pe_ix ix_list (pv 0) (pv 1) (fun _ _ => rfl)))) pss_nil)
      (pss_one (ps_ret pe_int))), ?_⟩
  refine ⟨_, rfl, _, rfl, a, _, rfl, .inl hS, _, _, rfl, rfl, _, rfl, ?_⟩
  refine ite2 (fun c => ?_) (fun c => q 0)
  have c' : k < (((ns.map V.int).length : Nat) : Int) := of_decide_eq_true c
  rw [List.length_map] at c'
  exact ⟨_, rfl, _, rfl, a, _, k, _, rfl, rfl, hS, int_at h0 c', q _⟩
end
inductive Isp__law_turn (vs : List V) (H : Hp) (Q : VK) (_E : XK) : Prop
  | mk (c k : Int) (zz0 : vs = [.int c, .int k]) (zz1 : 0 ≤ k) (zz2 : k ≤ 100000) (zz3 : ∀ r : Int, 0 ≤ r → r < 2147483629 → Q (.int r) H) : Isp__law_turn  vs H Q _E
def sp__law_turn : Sp := Isp__law_turn 
section
variable {P : Program} {w : World} {K : PySem.W.Frag} {mg : Str → Option Value} {base : Heap} (T : TX K mg)
theorem ok__law_turn : FnOk P w K mg base CX0 1 T.f__law_turn T.d__law_turn ["cell", "k"] sp__law_turn := by
  refine T.F__law_turn.ok sc__law_turn (fun vs H Q E h => ?_) (fun cdv A outer s H vs Q E hr h => ?_)
  · obtain ⟨c, k, rfl, _⟩ := h
    rfl
  obtain ⟨c, k, rfl, h0, h1, q⟩ := h
  refine ⟨_, (pss_cons (ps_set (i := 2) sc__law_turn.nd rfl (Or.inl rfl) (pe_op op_mod (pe_op op_add (pe_op op_add (pe_op op_add (pv 0) (pe_op op_mul (pe_op op_mul pe_int (pv 1)) (pv 1))) (pe_op op_mul pe_int (pv 1))) pe_int) pe_int))
      (pss_cons (ps_set (i := 2) sc__law_turn.nd rfl (Or.inl rfl) (pe_op op_mod (pe_op op_mul (pv 2) (pv 2)) pe_int))
      (pss_one (ps_ret (pe_op op_mod (pe_op op_mul (pe_op op_add (pv 2) (pe_op op_mul pe_int (pe_op op_add (pv 1) pe_int))) pe_int) pe_int))))), ?_⟩
  refine ⟨_, rfl, _, rfl, _, _, rfl, rfl, .inl ⟨by decide, by decide⟩, _, rfl, _, _, rfl, rfl, .inr ⟨by (first | lia | omega), by (first | lia | omega)⟩, _, _, rfl, rfl, _, rfl, _, _, rfl, rfl, .inl ⟨by decide, by decide⟩, _, _, rfl, rfl, _, _, rfl, rfl, _, _, rfl, rfl, (by show (0 : Int) < 2147483647; decide), ?_⟩
  have n0 := Int.emod_nonneg (c + 977 * k * k + 31 * k + 1) (show (2147483647 : Int) ≠ 0 by decide)
  have n1 := Int.emod_lt_of_pos (c + 977 * k * k + 31 * k + 1) (show (0 : Int) < 2147483647 by decide)
  dsimp only
  generalize (c + 977 * k * k + 31 * k + 1) % 2147483647 = near at n0 n1
  refine ⟨_, rfl, _, rfl, _, _, rfl, rfl, .inl ⟨by (first | lia | omega), by (first | lia | omega)⟩, _, _, rfl, rfl, (by show (0 : Int) < 2147483647; decide), ?_⟩
  dsimp only
  generalize near * near % 2147483647 = far
  refine ⟨_, rfl, _, rfl, _, _, rfl, rfl, _, _, rfl, rfl, .inl ⟨by decide, by decide⟩, _, _, rfl, rfl, _, _, rfl, rfl, .inr ⟨by decide, by decide⟩, _, _, rfl, rfl, (by show (0 : Int) < 2147483629; decide), q _ (Int.emod_nonneg _ (by decide)) (Int.emod_lt_of_pos _ (by decide))⟩
end
inductive Isp__law_leaf (vs : List V) (H : Hp) (Q : VK) (_E : XK) : Prop
  | mk (kr : Addr) (kas : List Addr) (ks : List (Str × Int)) (cell : Int) (zz0 : vs = [.ref kr, .int cell]) (zz1 : H kr = some (.tup (kas.map V.ref))) (zz2 : KsAt H ks kas) (zz3 : GoodN ks) (zz4 : ∀ (k0 : Str × Int) (ka : Addr) (H' : Hp), L2.Same H H' → k0 ∈ ks → k0.2 = 0 → KAt H' k0 ka → Q (.ref ka) H') : Isp__law_leaf  vs H Q _E
def sp__law_leaf : Sp := Isp__law_leaf 
theorem zip_mem {H : Hp} : ∀ {ks : List (Str × Int)} {as : List Addr}, KsAt H ks as → ∀ z ∈ ks.zip as, z.1 ∈ ks ∧ KAt H z.1 z.2
  | _, _, .nil, z, hz => by simp at hz
  | _, _, .cons (a := k) (b := a) r t, z, hz => by
    rw [List.zip_cons_cons] at hz
    rcases List.mem_cons.mp hz with rfl | hz
    · exact ⟨List.mem_cons_self .., r⟩
    · obtain ⟨h1, h2⟩ := zip_mem t z hz
      exact ⟨List.mem_cons_of_mem _ h1, h2⟩
section
variable {P : Program} {w : World} {K : PySem.W.Frag} {mg : Str → Option Value} {base : Heap} (T : TX K mg)
theorem some_kinds {js : List (Option Nat)} {tt : TT} {te : TE} {σ : St} {H : Hp} {kr : Addr} {kas : List Addr} {ks : List (Str × Int)} {fin : Addr → Hp → Prop} (p : Str × Int → Bool) (e : H kr = some (.tup (kas.map V.ref))) (hks : KsAt H ks kas) (hl : ks.length ≤ 1000) (hp : ∃ k ∈ ks, p k = true)
    (htt : ∀ (z : Str × Int) (ka : Addr) (H2 : Hp) (R : Bool → Hp → Prop), L2.Same H H2 → KAt H2 z ka → R (p z) H2 → tt ((cσ js σ).set 0 (some (.ref ka))) H2 R)
    (hte : ∀ (ka : Addr) (H2 : Hp) (R : VK), R (.ref ka) H2 → te ((cσ js σ).set 0 (some (.ref ka))) H2 R)
    (q : ∀ (D : Addr) (bs : List ((Str × Int) × Addr)) (H' : Hp), H D = none → H' = upd H D (.lst (bs.map fun z => V.ref z.2)) → 1 ≤ bs.length → bs.length ≤ ks.length → (∀ z ∈ bs, z.1 ∈ ks ∧ p z.1 = true ∧ KAt H z.1 z.2) → fin D H') :
    ∀ D, H D = none → ∃ (n : Nat) (W : Nat → Hp → Prop), W 0 (upd H D (.lst [])) ∧ cTurn js (gName 0) tt te σ (Itt K kr) D n W fun H' => fin D H' := by
  have hkl : ks.length = kas.length := Paired.length hks
  have hzl : (ks.zip kas).length = ks.length := by rw [List.length_zip]; (first | lia | omega)
  have hza : ∀ (i : Nat) (x : V) (z : (Str × Int) × Addr), (kas.map V.ref)[i]? = some x → (ks.zip kas)[i]? = some z → x = .ref z.2 := fun i x z hx hz => by
    obtain ⟨ka, rfl, hka⟩ := get_ref hx
    obtain ⟨h1, h2⟩ := List.getElem?_zip_eq_some.mp hz
    rw [hka] at h2
    cases h2
    rfl
  refine comp_fm_tup (ks.zip kas) (fun z => p z.1) (fun z => .ref z.2) (SqT.of e) (by rw [hzl, List.length_map]; exact hkl) (by rw [List.length_map]; (first | lia | omega)) (fun i x z H2 R hx hz sm r => ?_) (fun i x z H2 R hx hz _ sm r => ?_) (fun D hD => ?_)
  · rw [hza i x z hx hz]
    have := (zip_mem hks z (List.mem_of_getElem? hz)).2
    exact htt z.1 z.2 H2 R sm (sm _ _ this) r
  · rw [hza i x z hx hz]
    exact hte z.2 H2 R r
  · refine q D _ _ hD rfl ?_ ?_ ?_
    · obtain ⟨k, hk, hpk⟩ := hp
      obtain ⟨i, hi, rfl⟩ := List.getElem_of_mem hk
      have hz : (ks.zip kas)[i]'(by (first | lia | omega)) ∈ (ks.zip kas).filter fun z => p z.1 := List.mem_filter.mpr ⟨List.getElem_mem _, by rw [List.getElem_zip]; exact hpk⟩
      exact List.length_pos_of_mem hz
    · exact Nat.le_trans (List.length_filter_le _ _) (by (first | lia | omega))
    · intro z hz
      obtain ⟨h1, h2⟩ := List.mem_filter.mp hz
      obtain ⟨h3, h4⟩ := zip_mem hks z h1
      exact ⟨h3, h2, h4⟩
theorem ok__law_leaf : FnOk P w K mg base CX0 1 T.f__law_leaf T.d__law_leaf ["kinds", "cell"] sp__law_leaf := by
  refine T.F__law_leaf.ok sc__law_leaf (fun vs H Q E h => ?_) (fun cdv A outer s H vs Q E hr h => ?_)
  · obtain ⟨kr, kas, ks, cell, rfl, _⟩ := h
    rfl
  obtain ⟨kr, kas, ks, cell, rfl, ek, hks, g, k⟩ := h
  refine ⟨_, (pss_cons (ps_setC (i := 2) (N := [Str.ofString "kind"]) (js := [none]) (g := (gName 0)) (tt := (tTest (tOp (rEq) (tOp (rIxT K) (tVar 0) (tC (.int 1))) (tC (.int 0))))) (te := (tVar 0)) sc__law_leaf.nd rfl (Or.inl rfl) rfl (cs_mk rfl (by decide +kernel) (by decide +kernel) rfl rfl rfl) (pi_tup (pv 0)) (fun _ _ _ _ _ _ => (pg_name (i := 0) nd_4 rfl (Or.inl rfl))) (gk_name rfl) (fun _ _ _ _ _ _ => pts_one (pt_cmpR op_eq (pe_ix ix_tup (pv 0) pe_int (fun _ _ => rfl)) pe_int (nomark _))) (fun _ _ _ _ _ _ => (pv 0)))
      (pss_one (ps_ret (pe_ix ix_list (pv 2) (pe_op op_mod (pv 1) (pe_callB call_len_seq rfl T.n_len PySem.boot_len (pa_cons (pv 2) pa_nil))) (fun _ _ => rfl))))), ?_⟩
  have hk8 := g.le
  obtain ⟨kz, hkz, hkz0⟩ := g.zero
  refine ⟨_, rfl, kr, rfl, ⟨_, SqT.of ek⟩, some_kinds (K := K) (fun k => decide (V.int k.2 = V.int 0)) ek hks (by (first | lia | omega)) ⟨kz, hkz, by rw [hkz0]; rfl⟩ (fun z ka H2 R sm hz r => ?_) (fun ka H2 R r => ⟨_, rfl, r⟩) (fun D bs H' hD e' hb1 hb8 hbs => ?_)⟩
  · exact ⟨_, rfl, ka, _, 1, _, rfl, rfl, SqT.of hz, at1, rfl, _, rfl, r⟩
  subst e'
  have hlm : 0 < ((bs.map fun z => V.ref z.2).length : Int) := by rw [List.length_map]; (first | lia | omega)
  have hy0 := Int.emod_nonneg cell (Int.ne_of_gt hlm)
  have hy1 := Int.emod_lt_of_pos cell hlm
  obtain ⟨z, hz⟩ : ∃ z, bs[(cell % ((bs.map fun z => V.ref z.2).length : Int)).toNat]? = some z := ⟨_, List.getElem?_eq_getElem (by rw [List.length_map] at hy0 hy1 ⊢; (first | lia | omega))⟩
  obtain ⟨g1, g2, g3⟩ := hbs z (List.mem_of_getElem? hz)
  refine ⟨_, rfl, _, rfl, _, rfl, D, _, rfl, .inl (SqL.of upd_same), _, _, rfl, rfl, hlm, D, _, _, .ref z.2, rfl, rfl, SqL.of upd_same, at_nonneg hy0 (by rw [List.getElem?_map, hz]; rfl), ?_⟩
  exact k z.1 z.2 _ (same_new hD _) g1 (V.int.inj (of_decide_eq_true g2)) (same_new hD _ _ _ g3)
end
inductive Isp__law_digit (vs : List V) (H : Hp) (Q : VK) (_E : XK) : Prop
  | mk (l : Addr) (x m : Int) (zz0 : vs = [.ref l, .int m]) (zz1 : H l = some (.lst [.int x])) (zz2 : 0 < m) (zz3 : m < 1000000) (zz4 : ∀ d x' : Int, 0 ≤ d → d < m → Q (.int d) (upd H l (.lst [.int x']))) : Isp__law_digit  vs H Q _E
def sp__law_digit : Sp := Isp__law_digit 
section
variable {P : Program} {w : World} {K : PySem.W.Frag} {mg : Str → Option Value} {base : Heap} (T : TX K mg)
theorem ok__law_digit : FnOk P w K mg base CX0 1 T.f__law_digit T.d__law_digit ["left", "many"] sp__law_digit := by
  refine T.F__law_digit.ok sc__law_digit (fun vs H Q E h => ?_) (fun cdv A outer s H vs Q E hr h => ?_)
  · obtain ⟨l, x, m, rfl, _⟩ := h
    rfl
  obtain ⟨l, x, m, rfl, e, h0, h1, q⟩ := h
  refine ⟨_, (pss_cons (ps_set (i := 2) sc__law_digit.nd rfl (Or.inl rfl) (pe_op op_mod (pe_ix ix_list (pv 0) pe_int (fun _ _ => rfl)) (pv 1)))
      (pss_cons (ps_asg (pe_op op_fdiv (pe_ix ix_list (pv 0) pe_int (fun _ _ => rfl)) (pv 1)) (pg_sub (pv 0) pe_int set_list))
      (pss_one (ps_ret (pv 2))))), ?_⟩
  refine ⟨_, rfl, l, _, 0, .int x, rfl, rfl, SqL.of e, at0, _, rfl, _, _, rfl, rfl, h0, ?_⟩
  refine ⟨_, rfl, l, _, 0, .int x, rfl, rfl, SqL.of e, at0, _, rfl, _, _, rfl, rfl, ⟨h0, by (first | lia | omega)⟩, ?_⟩
  refine ⟨_, rfl, l, _, 0, 0, rfl, rfl, e, rfl, ?_⟩
  exact ⟨_, rfl, q _ _ (Int.emod_nonneg _ (by (first | lia | omega))) (Int.emod_lt_of_pos _ h0)⟩
end
inductive Isp__law_pattern (n : Nat) (vs : List V) (H : Hp) (Q : VK) (_E : XK) : Prop
  | mk (cell : Int) (oa : Addr) (oas : List Addr) (outs : List (Str × Int)) (S C deep : Int) (zz0 : vs = [.int cell, .ref oa, .int S, .int C, .int deep]) (zz1 : H oa = some (.tup (oas.map V.ref))) (zz2 : KsAt H outs oas) (zz3 : GoodN outs) (zz4 : 0 ≤ deep) (zz5 : deep < (n : Int)) (zz6 : ∀ (t : Th) (r : Addr) (H' : Hp), L2.Same H H' → At H' t r → t.FitS outs S C → t.tall ≤ deep.toNat + 1 → Q (.ref r) H') : Isp__law_pattern n vs H Q _E
def sp__law_pattern (n : Nat) : Sp := Isp__law_pattern n
section
variable {P : Program} {w : World} {K : PySem.W.Frag} {mg : Str → Option Value} {base : Heap} (T : TX K mg)
theorem ok__law_pattern : ∀ n : Nat, FnOk P w K mg base CX0 (n + 2) T.f__law_pattern T.d__law_pattern ["cell", "outs", "states", "kids", "deep"] (sp__law_pattern n)
  | 0 => ⟨fun _ _ _ _ h => by obtain ⟨_, _, _, _, _, _, _, _, _, _, _, h1, h2, _⟩ := h; (first | lia | omega), fun _ _ _ _ _ _ _ _ _ _ _ _ _ h => by obtain ⟨_, _, _, _, _, _, _, _, _, _, _, h1, h2, _⟩ := h; (first | lia | omega)⟩
  | n + 1 => by
    have ih := ok__law_pattern n
    refine T.F__law_pattern.ok sc__law_pattern (fun vs H Q E h => ?_) (fun cdv A outer s H vs Q E hr h => ?_)
    · obtain ⟨cell, oa, oas, outs, S, C, deep, rfl, _⟩ := h
      rfl
    obtain ⟨cell, oa, oas, outs, S, C, deep, rfl, eo, hks, g, d0, d1, q⟩ := h
    refine ⟨_, (pss_cons (ps_set (i := 5) sc__law_pattern.nd rfl (Or.inl rfl) (pe_call (ok__law_turn T) (hr.mono (by first | decide | (first | lia | omega))) rfl T.m__law_turn T.F__law_turn.kp T.b__law_turn .nil pass0 (pa_cons (pv 0) (pa_cons pe_int pa_nil))))
      (pss_cons (ps_if (PW.pt (pw_and (pt_cmpR op_gt (pv 2) pe_int (nomark _)) (pw_and (pt_cmpR op_gt (pv 3) pe_int (nomark _)) (pw_and1 (pt_cmpR op_lt (pe_op op_mod (pv 5) pe_int) pe_int (nomark _)))))) (pss_one (ps_ret (pe_tup (pa_cons pe_str (pa_cons (pe_op op_mod (pe_op op_fdiv (pv 5) pe_int) (pv 2)) (pa_cons (pe_op op_mod (pe_op op_fdiv (pv 5) pe_int) (pv 3)) pa_nil)))))) pss_nil)
      (pss_cons (ps_set (i := 6) sc__law_pattern.nd rfl (Or.inl rfl) (pe_ix ix_tup (pv 1) (pe_op op_mod (pe_op op_fdiv (pv 5) pe_int) (pe_callB call_len_seq rfl T.n_len PySem.boot_len (pa_cons (pv 1) pa_nil))) (fun _ _ => rfl)))
      (pss_cons (ps_if (PW.pt (pw_and (pt_cmpR op_eq (pv 4) pe_int (nomark _)) (pw_and1 (pt_cmpR op_gt (pe_ix ix_tup (pv 6) pe_int (fun _ _ => rfl)) pe_int (nomark _))))) (pss_one (ps_set (i := 6) sc__law_pattern.nd rfl (Or.inl rfl) (pe_call (ok__law_leaf T) (hr.mono (by first | decide | (first | lia | omega))) rfl T.m__law_leaf T.F__law_leaf.kp T.b__law_leaf .nil pass0 (pa_cons (pv 1) (pa_cons (pe_op op_fdiv (pv 5) pe_int) pa_nil))))) pss_nil)
      (pss_cons (ps_set (i := 7) sc__law_pattern.nd rfl (Or.inl rfl) (pe_lst pa_nil))
      (pss_cons (ps_for PassesOwn.never rfl (pi_range1 rfl T.n_range (pa_cons (pe_ix ix_tup (pv 6) pe_int (fun _ _ => rfl)) pa_nil)) (pg_name (i := 8) sc__law_pattern.nd rfl (Or.inl rfl)) (pss_one (ps_expr (pe_bm PySem.F.plainAttrs_list PySem.F.slot_list_append PySem.F.type_list_append mt_append (pv 7) (pa_cons (pe_call (ih) (hr.mono (Nat.le_refl _)) rfl T.m__law_pattern T.F__law_pattern.kp T.b__law_pattern .nil pass0 (pa_cons (pe_call (ok__law_turn T) (hr.mono (by first | decide | (first | lia | omega))) rfl T.m__law_turn T.F__law_turn.kp T.b__law_turn .nil pass0 (pa_cons (pv 5) (pa_cons (pe_op op_add (pv 8) pe_int) pa_nil))) (pa_cons (pv 1) (pa_cons (pv 2) (pa_cons (pv 3) (pa_cons (pe_op op_sub (pv 4) pe_int) pa_nil)))))) pa_nil)))))
      (pss_one (ps_ret (pe_op op_catA (pe_tup (pa_cons (pe_ix ix_tup (pv 6) pe_int (fun _ _ => rfl)) pa_nil)) (pe_callTy call_tuple_of rfl T.n_tuple PyProof.Rows.boot_tuple (pa_cons (pv 7) pa_nil))))))))))), ?_⟩
    have hkl : outs.length = oas.length := Paired.length hks
    have hk8 := g.le
    have hk1 := g.ne
    refine ⟨_, rfl, _, _, rfl, by decide, by decide, fun rest r0 r1 => ?_⟩
    dsimp only [gName]
    refine seq_intro (fun σ' H' => H = H' ∧ σ' = [some (.int cell), some (.ref oa), some (.int S), some (.int C), some (.int deep), some (.int rest), none, none, none]) (fun kk hk => ?_) ?_
    · refine if_intro (fun b H' => H = H' ∧ (b = true → 0 < S ∧ 0 < C)) (fun k2 hk2 => ?_) (fun H' hb => ?_) (fun H' hb => ?_)
      · refine ⟨_, rfl, _, _, rfl, rfl, _, rfl, ?_⟩
        refine ite2 (fun c1 => ?_) (fun c1 => hk2 _ _ ⟨rfl, fun z => by cases z⟩)
        refine ⟨_, rfl, _, _, rfl, rfl, _, rfl, ?_⟩
        refine ite2 (fun c2 => ?_) (fun c2 => hk2 _ _ ⟨rfl, fun z => by cases z⟩)
        exact ⟨_, rfl, _, _, rfl, rfl, (by show (0 : Int) < 5; decide), _, _, rfl, rfl, _, rfl, hk2 _ _ ⟨rfl, fun _ => ⟨of_decide_eq_true c1, of_decide_eq_true c2⟩⟩⟩
      · obtain ⟨rfl, hb⟩ := hb
        obtain ⟨hS, hC⟩ := hb rfl
        refine ⟨_, rfl, _, _, rfl, rfl, ⟨by decide, by decide⟩, _, rfl, _, _, rfl, rfl, hS, _, rfl, _, _, rfl, rfl, ⟨by decide, by decide⟩, _, rfl, _, _, rfl, rfl, hC, line_le (by show 3 ≤ 1000000; decide), fun ca hca => ?_⟩
        refine q (.call (rest / 5 % S) (rest / 97 % C)) ca _ (same_new hca _) ?_ ?_ ?_
        · rw [At]
          exact upd_same
        · rw [Th.FitS]
          exact ⟨Int.emod_nonneg _ (by (first | lia | omega)), Int.emod_lt_of_pos _ hS, Int.emod_nonneg _ (by (first | lia | omega)), Int.emod_lt_of_pos _ hC⟩
        · rw [Th.tall]; (first | lia | omega)
      · obtain ⟨rfl, _⟩ := hb
        exact hk _ _ ⟨rfl, rfl⟩
    rintro σ' H' ⟨rfl, rfl⟩
    have m0 := Int.emod_nonneg (rest / 5) (show ((oas.map V.ref).length : Int) ≠ 0 by rw [List.length_map]; (first | lia | omega))
    have m1 := Int.emod_lt_of_pos (rest / 5) (show (0 : Int) < ((oas.map V.ref).length : Int) by rw [List.length_map]; (first | lia | omega))
    obtain ⟨k0, hk0⟩ : ∃ k0, outs[(rest / 5 % ((oas.map V.ref).length : Int)).toNat]? = some k0 := ⟨_, List.getElem?_eq_getElem (by rw [List.length_map] at m0 m1 ⊢; (first | lia | omega))⟩
    obtain ⟨ka, hka, eka⟩ := P2.get hks hk0
    refine ⟨_, rfl, _, rfl, _, _, rfl, rfl, ⟨by decide, by decide⟩, _, rfl, oa, _, rfl, .inr (SqT.of eo), _, _, rfl, rfl, (by show (0 : Int) < ((oas.map V.ref).length : Int); rw [List.length_map]; (first | lia | omega)), oa, _, _, .ref ka, rfl, rfl, SqT.of eo, at_nonneg m0 (by rw [List.getElem?_map, hka]; rfl), ?_⟩
    dsimp only [gName]
    refine seq_intro (fun σ' H' => ∃ (k0 : Str × Int) (ka : Addr), k0 ∈ outs ∧ KAt H' k0 ka ∧ (deep = 0 → k0.2 = 0) ∧ L2.Same H H' ∧ σ' = [some (.int cell), some (.ref oa), some (.int S), some (.int C), some (.int deep), some (.int rest), some (.ref ka), none, none]) (fun kk hk => ?_) ?_
    · refine if_intro (fun b H' => H = H' ∧ (b = false → deep = 0 → k0.2 = 0)) (fun k2 hk2 => ?_) (fun H' hb => ?_) (fun H' hb => ?_)
      · refine ⟨_, rfl, rfl, _, rfl, ?_⟩
        refine ite2 (fun c1 => ?_) (fun c1 => hk2 _ _ ⟨rfl, fun _ z => absurd (decide_eq_true (congrArg V.int z)) c1⟩)
        refine ⟨_, rfl, ka, _, 1, _, rfl, rfl, SqT.of eka, at1, _, _, rfl, rfl, _, rfl, hk2 _ _ ⟨rfl, fun z _ => ?_⟩⟩
        have z' : ¬ 0 < k0.2 := of_decide_eq_false z
        have := (g.num k0 (List.mem_of_getElem? hk0)).1
        (first | lia | omega)
      · obtain ⟨rfl, _⟩ := hb
        refine ⟨_, rfl, _, rfl, _, _, rfl, rfl, ⟨by decide, by decide⟩, oa, oas, outs, _, rfl, eo, hks, g, fun k1 ka1 H1 s1 hm1 hz1 e1 => ?_⟩
        exact hk _ _ ⟨k1, ka1, hm1, e1, fun _ => hz1, s1, rfl⟩
      · obtain ⟨rfl, hb⟩ := hb
        exact hk _ _ ⟨k0, ka, List.mem_of_getElem? hk0, eka, hb rfl, .refl _, rfl⟩
    rintro σ' H1 ⟨k0, ka, hmem, eka, hz, s1, rfl⟩
    have hnum := g.num k0 hmem
    refine ⟨line_le (by show 0 ≤ 1000000; decide), fun pl hpl => ?_⟩
    have s2 : L2.Same H1 (upd H1 pl (.lst [])) := same_new hpl _
    have e2 : (upd H1 pl (.lst [])) pl = some (.lst []) := upd_same
    generalize (upd H1 pl (.lst [])) = H2 at s2 e2 ⊢
    have eka2 := s2 _ _ eka
    refine ⟨_, rfl, ka, _, 1, _, rfl, rfl, SqT.of eka2, at1, k0.2, rfl, by (first | lia | omega), by (first | lia | omega), ?_⟩
    refine for_range (n := k0.2.toNat) (fun i σ H3 => ∃ (kv : Option V) (bs : List Addr) (ts : List Th), σ = [some (.int cell), some (.ref oa), some (.int S), some (.int C), some (.int deep), some (.int rest), some (.ref ka), some (.ref pl), kv] ∧ (∀ b o, b ≠ pl → H2 b = some o → H3 b = some o) ∧ H3 pl = some (.lst (bs.map V.ref)) ∧ Ats H3 ts bs ∧ ts.length = i ∧ ∀ t ∈ ts, t.FitS outs S C ∧ t.tall ≤ (deep - 1).toNat + 1)
      ⟨none, [], [], rfl, fun _ _ _ e => e, e2, .nil, rfl, fun t ht => by cases ht⟩ ?_ ?_
    · rintro i σ H3 hi ⟨kv, bs, ts, rfl, s3, e3, hts, htl, hall⟩
      have hi3 : i < k0.2.toNat := hi
      have sB : ∀ b o, H b = some o → H3 b = some o := fun b o e => s3 b o (ne_of_none (s1 _ _ e) hpl) (s2 _ _ (s1 _ _ e))
      have hdeep : 1 ≤ deep := by
        by_cases z : deep = 0
        · have := hz z
          (first | lia | omega)
        · (first | lia | omega)
      refine ⟨_, rfl, .inl ⟨rfl, _, SqL.of e3⟩, _, rfl, _, rfl, _, _, rfl, rfl, _, _, rfl, by (first | lia | omega), by (first | lia | omega), fun r2 _ _ => ?_⟩
      refine ⟨_, rfl, _, rfl, _, rfl, _, rfl, _, _, rfl, rfl, r2, oa, oas, outs, S, C, deep - 1, rfl, sB _ _ eo, hks.mono (fun b ys e => sB b _ e), g, by (first | lia | omega), by (first | lia | omega), fun t r H4 s4 hat hfit htall => ?_⟩
      have e4 := s4 _ _ e3
      have hbl : bs.length = ts.length := hts.length
      refine ⟨pl, _, _, rfl, rfl, e4, line_big (by rw [List.length_map]; (first | lia | omega)), ?_⟩
      have kt : KT H4 (upd H4 pl (.lst (bs.map V.ref ++ [.ref r]))) := kt_lst e4
      refine ⟨_, bs ++ [r], ts ++ [t], rfl, fun b o hb e => ?_, ?_, ?_, ?_, ?_⟩
      · rw [upd_ne hb]; exact s4 _ _ (s3 b o hb e)
      · rw [upd_same, List.map_append]; rfl
      · exact (hts.mono ((Same.kt s4).trans kt)).append (.cons (hat.mono kt) .nil)
      · rw [List.length_append, htl]; rfl
      · intro u hu
        rcases List.mem_append.mp hu with hu | hu
        · exact hall u hu
        · rw [List.mem_singleton.mp hu]
          exact ⟨hfit, htall⟩
    · rintro σ H3 ⟨kv, bs, ts, rfl, s3, e3, hts, htl, hall⟩
      have sH : L2.Same H H3 := fun b o e => s3 b o (ne_of_none (s1 _ _ e) hpl) (s2 _ _ (s1 _ _ e))
      have eka3 : H3 ka = some (.tup [.str k0.1, .int k0.2]) := s3 ka _ (ne_of_none eka hpl) eka2
      have hbl : bs.length = ts.length := hts.length
      refine ⟨_, rfl, ka, _, 0, .str k0.1, rfl, rfl, SqT.of eka3, at0, line_le (by show 1 ≤ 1000000; decide), fun p1 hp1 => ?_⟩
      have s4 : L2.Same H3 (upd H3 p1 (.tup [.str k0.1])) := same_new hp1 _
      have e4 : (upd H3 p1 (.tup [.str k0.1])) p1 = some (.tup [.str k0.1]) := upd_same
      generalize (upd H3 p1 (.tup [.str k0.1])) = H4 at s4 e4 ⊢
      refine ⟨_, rfl, pl, _, rfl, .inl ⟨SqL.of (s4 _ _ e3), fun tp htp => ?_⟩⟩
      have s5 : L2.Same H4 (upd H4 tp (.tup (bs.map V.ref))) := same_new htp _
      have e5 : (upd H4 tp (.tup (bs.map V.ref))) tp = some (.tup (bs.map V.ref)) := upd_same
      generalize (upd H4 tp (.tup (bs.map V.ref))) = H5 at s5 e5 ⊢
      refine catT (s5 _ _ e4) e5 (by rw [List.length_map]; show 1 + bs.length ≤ 1000000; (first | lia | omega)) fun p H6 s6 e6 => ?_
      have hlow := (g.low k0 hmem).1
      refine q (.knot k0.1 ts) p H6 (sH.trans (s4.trans (s5.trans s6))) ?_ ?_ ?_
      · rw [At]
        exact ⟨low_q hlow, bs, e6, hts.mono (Same.kt (s4.trans (s5.trans s6)))⟩
      · rw [Th.FitS]
        refine ⟨?_, FitSs.of fun t ht => (hall t ht).1⟩
        have : (k0.1, (ts.length : Int)) = k0 := by
          rw [htl]
          exact Prod.ext rfl (by show ((k0.2.toNat : Nat) : Int) = k0.2; (first | lia | omega))
        rw [this]
        exact hmem
      · rw [Th.tall]
        by_cases z : deep = 0
        · have hk2 := hz z
          have : ts = [] := List.length_eq_zero_iff.mp (by (first | lia | omega))
          subst this
          rw [talls]
          (first | lia | omega)
        · have := talls_all (n := (deep - 1).toNat + 1) fun t ht => (hall t ht).2
          (first | lia | omega)
end
inductive Isp__law_by_digits (n : Nat) (vs : List V) (H : Hp) (Q : VK) (_E : XK) : Prop
  | mk (l : Addr) (x : Int) (oa : Addr) (oas : List Addr) (outs : List (Str × Int)) (S C deep : Int) (zz0 : vs = [.ref l, .ref oa, .int S, .int C, .int deep]) (zz1 : H l = some (.lst [.int x])) (zz2 : H oa = some (.tup (oas.map V.ref))) (zz3 : KsAt H outs oas) (zz4 : GoodN outs) (zz5 : S < 1000000) (zz6 : C < 1000000) (zz7 : 0 ≤ deep) (zz8 : deep < (n : Int)) (zz9 : ∀ (t : Th) (r : Addr) (x' : Int) (H' : Hp), SameB l H H' → H' l = some (.lst [.int x']) → At H' t r → t.FitS outs S C → t.tall ≤ deep.toNat + 1 → Q (.ref r) H') : Isp__law_by_digits n vs H Q _E
def sp__law_by_digits (n : Nat) : Sp := Isp__law_by_digits n
section
variable {P : Program} {w : World} {K : PySem.W.Frag} {mg : Str → Option Value} {base : Heap} (T : TX K mg)
set_option maxHeartbeats 2000000 in
theorem ok__law_by_digits : ∀ n : Nat, FnOk P w K mg base CX0 (n + 2) T.f__law_by_digits T.d__law_by_digits ["left", "outs", "states", "kids", "deep"] (sp__law_by_digits n)
  | 0 => ⟨fun _ _ _ _ h => by obtain ⟨_, _, _, _, _, _, _, _, _, _, _, _, _, _, _, h1, h2, _⟩ := h; (first | lia | omega), fun _ _ _ _ _ _ _ _ _ _ _ _ _ h => by obtain ⟨_, _, _, _, _, _, _, _, _, _, _, _, _, _, _, h1, h2, _⟩ := h; (first | lia | omega)⟩
  | n + 1 => by
    have ih := ok__law_by_digits n
    refine T.F__law_by_digits.ok sc__law_by_digits (fun vs H Q E h => ?_) (fun cdv A outer s H vs Q E hr h => ?_)
    · obtain ⟨l, x, oa, oas, outs, S, C, deep, rfl, _⟩ := h
      rfl
    obtain ⟨l, x, oa, oas, outs, S, C, deep, rfl, el, eo, hks, g, hSm, hCm, d0, d1, q⟩ := h
    refine ⟨_, (pss_cons (ps_if (PW.pt (pw_and (pt_cmpR op_gt (pv 2) pe_int (nomark _)) (pw_and (pt_cmpR op_gt (pv 3) pe_int (nomark _)) (pw_and1 (pt_cmpR op_eq (pe_call (ok__law_digit T) (hr.mono (by first | decide | (first | lia | omega))) rfl T.m__law_digit T.F__law_digit.kp T.b__law_digit .nil pass0 (pa_cons (pv 0) (pa_cons pe_int pa_nil))) pe_int (nomark _)))))) (pss_cons (ps_set (i := 5) sc__law_by_digits.nd rfl (Or.inl rfl) (pe_call (ok__law_digit T) (hr.mono (by first | decide | (first | lia | omega))) rfl T.m__law_digit T.F__law_digit.kp T.b__law_digit .nil pass0 (pa_cons (pv 0) (pa_cons (pv 2) pa_nil))))
      (pss_one (ps_ret (pe_tup (pa_cons pe_str (pa_cons (pv 5) (pa_cons (pe_call (ok__law_digit T) (hr.mono (by first | decide | (first | lia | omega))) rfl T.m__law_digit T.F__law_digit.kp T.b__law_digit .nil pass0 (pa_cons (pv 0) (pa_cons (pv 3) pa_nil))) pa_nil))))))) pss_nil)
      (pss_cons (ps_setC (i := 6) (N := [Str.ofString "kind", Str.ofString "deep"]) (js := [none, some 4]) (g := (gName 0)) (tt := (tOr (tTest (tOp (rEq) (tOp (rIxT K) (tVar 0) (tC (.int 1))) (tC (.int 0)))) (tTest (tOp (rI0 fun i j => .bl (decide (j < i))) (tVar 1) (tC (.int 0)))))) (te := (tVar 0)) sc__law_by_digits.nd rfl (Or.inl rfl) rfl (cs_mk rfl (by decide +kernel) (by decide +kernel) rfl rfl rfl) (pi_tup (pv 1)) (fun _ _ _ _ _ _ => (pg_name (i := 0) nd_5 rfl (Or.inl rfl))) (gk_name rfl) (fun _ _ _ _ _ _ => pts_one (PW.pt (pw_or (pt_cmpR op_eq (pe_ix ix_tup (pv 0) pe_int (fun _ _ => rfl)) pe_int (nomark _)) (pw_or1 (pt_cmpR op_gt (pv 1) pe_int (nomark _)))))) (fun _ _ _ _ _ _ => (pv 0)))
      (pss_cons (ps_set (i := 7) sc__law_by_digits.nd rfl (Or.inl rfl) (pe_ix ix_list (pv 6) (pe_call (ok__law_digit T) (hr.mono (by first | decide | (first | lia | omega))) rfl T.m__law_digit T.F__law_digit.kp T.b__law_digit .nil pass0 (pa_cons (pv 0) (pa_cons (pe_callB call_len_seq rfl T.n_len PySem.boot_len (pa_cons (pv 6) pa_nil)) pa_nil))) (fun _ _ => rfl)))
      (pss_cons (ps_set (i := 8) sc__law_by_digits.nd rfl (Or.inl rfl) (pe_lst pa_nil))
      (pss_cons (ps_for PassesOwn.never rfl (pi_range1 rfl T.n_range (pa_cons (pe_ix ix_tup (pv 7) pe_int (fun _ _ => rfl)) pa_nil)) (pg_name (i := 9) sc__law_by_digits.nd rfl (Or.inl rfl)) (pss_one (ps_expr (pe_bm PySem.F.plainAttrs_list PySem.F.slot_list_append PySem.F.type_list_append mt_append (pv 8) (pa_cons (pe_call (ih) (hr.mono (Nat.le_refl _)) rfl T.m__law_by_digits T.F__law_by_digits.kp T.b__law_by_digits .nil pass0 (pa_cons (pv 0) (pa_cons (pv 1) (pa_cons (pv 2) (pa_cons (pv 3) (pa_cons (pe_op op_sub (pv 4) pe_int) pa_nil)))))) pa_nil)))))
      (pss_one (ps_ret (pe_op op_catA (pe_tup (pa_cons (pe_ix ix_tup (pv 7) pe_int (fun _ _ => rfl)) pa_nil)) (pe_callTy call_tuple_of rfl T.n_tuple PyProof.Rows.boot_tuple (pa_cons (pv 8) pa_nil)))))))))), ?_⟩
    have hkl : outs.length = oas.length := Paired.length hks
    have hk8 := g.le
    have hk1 := g.ne
    refine seq_intro (fun σ' H' => (∃ x', SameB l H H' ∧ H' l = some (.lst [.int x'])) ∧ σ' = [some (.ref l), some (.ref oa), some (.int S), some (.int C), some (.int deep), none, none, none, none, none]) (fun kk hk => ?_) ?_
    · refine if_intro (fun b H' => (∃ x', SameB l H H' ∧ H' l = some (.lst [.int x'])) ∧ (b = true → 0 < S ∧ 0 < C)) (fun k2 hk2 => ?_) (fun H' hb => ?_) (fun H' hb => ?_)
      · refine ⟨_, rfl, _, _, rfl, rfl, _, rfl, ?_⟩
        refine ite2 (fun c1 => ?_) (fun c1 => hk2 _ _ ⟨⟨x, .refl, el⟩, fun z => by cases z⟩)
        refine ⟨_, rfl, _, _, rfl, rfl, _, rfl, ?_⟩
        refine ite2 (fun c2 => ?_) (fun c2 => hk2 _ _ ⟨⟨x, .refl, el⟩, fun z => by cases z⟩)
        exact ⟨_, rfl, l, x, _, rfl, el, by decide, by decide, fun d x' _ _ => ⟨rfl, _, rfl, hk2 _ _ ⟨⟨x', .set, upd_same⟩, fun _ => ⟨of_decide_eq_true c1, of_decide_eq_true c2⟩⟩⟩⟩
      · obtain ⟨⟨x1, s1, e1⟩, hb⟩ := hb
        obtain ⟨hS, hC⟩ := hb rfl
        refine ⟨_, rfl, _, rfl, l, x1, _, rfl, e1, hS, hSm, fun d x2 d0' d1' => ?_⟩
        refine ⟨_, rfl, _, rfl, _, rfl, l, x2, _, rfl, upd_same, hC, hCm, fun c x3 c0' c1' => ?_⟩
        refine ⟨line_le (by show 3 ≤ 1000000; decide), fun ca hca => ?_⟩
        have hcl : l ≠ ca := fun z => by rw [← z, upd_same] at hca; cases hca
        refine q (.call d c) ca x3 _ (s1.trans (SameB.set.trans (SameB.set.trans (.of (same_new hca _))))) (by rw [upd_ne hcl]; exact upd_same) ?_ ?_ ?_
        · rw [At]
          exact upd_same
        · rw [Th.FitS]
          exact ⟨d0', d1', c0', c1'⟩
        · rw [Th.tall]; (first | lia | omega)
      · obtain ⟨h1, _⟩ := hb
        exact hk _ _ ⟨h1, rfl⟩
    rintro σ' H1 ⟨⟨x1, s1, e1⟩, rfl⟩
    have eo1 : H1 oa = some (.tup (oas.map V.ref)) := s1 _ _ (ne_of eo el (by intro z; cases z)) eo
    have kt1 : KT H H1 := s1.kt el
    have hks1 := hks.mono kt1
    obtain ⟨kz, hkz, hkz0⟩ := g.zero
    refine ⟨_, rfl, oa, rfl, ⟨_, SqT.of eo1⟩, some_kinds (K := K) (fun k => decide (V.int k.2 = V.int 0) || decide (0 < deep)) eo1 hks1 (by (first | lia | omega)) ⟨kz, hkz, by rw [hkz0]; rfl⟩ (fun z ka H2 R sm hz r => ?_) (fun ka H2 R r => ⟨_, rfl, r⟩) (fun D bs H2 hD e' hb1 hb8 hbs => ?_)⟩
    · refine ⟨_, rfl, ka, _, 1, _, rfl, rfl, SqT.of hz, at1, rfl, _, rfl, ?_⟩
      refine ite2 (fun c => ?_) (fun c => ?_)
      · rw [c] at r
        exact r
      · rw [Bool.eq_false_iff.mpr c] at r
        exact ⟨_, rfl, _, _, rfl, rfl, _, rfl, r⟩
    have s2 : L2.Same H1 H2 := by rw [e']; exact same_new hD _
    have eD : H2 D = some (.lst (bs.map fun z => V.ref z.2)) := by rw [e']; exact upd_same
    have hDl : D ≠ l := fun z => by rw [z, e1] at hD; cases hD
    have el2 := s2 _ _ e1
    clear e'
    have hlm : 0 < ((bs.map fun z => V.ref z.2).length : Int) := by rw [List.length_map]; (first | lia | omega)
    refine ⟨_, rfl, _, rfl, _, rfl, D, _, rfl, .inl (SqL.of eD), l, x1, _, rfl, el2, hlm, (by rw [List.length_map]; (first | lia | omega)), fun d x2 d0' d1' => ?_⟩
    have s3 : SameB l H2 (upd H2 l (.lst [.int x2])) := .set
    have el3 : (upd H2 l (.lst [.int x2])) l = some (.lst [.int x2]) := upd_same
    generalize (upd H2 l (.lst [.int x2])) = H3 at s3 el3 ⊢
    obtain ⟨z, hz⟩ : ∃ z, bs[d.toNat]? = some z := ⟨_, List.getElem?_eq_getElem (by rw [List.length_map] at d1'; (first | lia | omega))⟩
    obtain ⟨hmem, gp, eka⟩ := hbs z (List.mem_of_getElem? hz)
    obtain ⟨k0, ka⟩ := z
    dsimp only at hmem gp eka hz
    have kt3 : KT H2 H3 := s3.kt el2
    have eka3 : H3 ka = some (.tup [.str k0.1, .int k0.2]) := kt3 _ _ (s2 _ _ eka)
    have s13 : SameB l H H3 := s1.trans ((SameB.of s2).trans s3)
    have eo3 : H3 oa = some (.tup (oas.map V.ref)) := kt3 _ _ (s2 _ _ eo1)
    have hks3 := hks1.mono ((Same.kt s2).trans kt3)
    have hz0 : deep = 0 → k0.2 = 0 := fun z => by
      rw [z] at gp
      have : decide (V.int k0.2 = V.int 0) = true := by simpa using gp
      exact V.int.inj (of_decide_eq_true this)
    refine ⟨D, _, d, .ref ka, rfl, rfl, SqL.of (s3 _ _ hDl eD), at_nonneg d0' (by rw [List.getElem?_map, hz]; rfl), ?_⟩
    have hnum := g.num k0 hmem
    refine ⟨line_le (by show 0 ≤ 1000000; decide), fun pl hpl => ?_⟩
    have hpl' : pl ≠ l := fun z => by rw [z, el3] at hpl; cases hpl
    have s4 : L2.Same H3 (upd H3 pl (.lst [])) := same_new hpl _
    have e4 : (upd H3 pl (.lst [])) pl = some (.lst []) := upd_same
    generalize (upd H3 pl (.lst [])) = H4 at s4 e4 ⊢
    have eka4 := s4 _ _ eka3
    have el4 := s4 _ _ el3
    have eo4 := s4 _ _ eo3
    refine ⟨_, rfl, ka, _, 1, _, rfl, rfl, SqT.of eka4, at1, k0.2, rfl, by (first | lia | omega), by (first | lia | omega), ?_⟩
    refine for_range (n := k0.2.toNat) (fun i σ H5 => ∃ (kv : Option V) (bs : List Addr) (ts : List Th) (x' : Int), σ = [some (.ref l), some (.ref oa), some (.int S), some (.int C), some (.int deep), none, some (.ref D), some (.ref ka), some (.ref pl), kv] ∧ (∀ b o, b ≠ pl → b ≠ l → H4 b = some o → H5 b = some o) ∧ H5 l = some (.lst [.int x']) ∧ H5 pl = some (.lst (bs.map V.ref)) ∧ Ats H5 ts bs ∧ ts.length = i ∧ ∀ t ∈ ts, t.FitS outs S C ∧ t.tall ≤ (deep - 1).toNat + 1)
      ⟨none, [], [], x2, rfl, fun _ _ _ _ e => e, el4, e4, .nil, rfl, fun t ht => by cases ht⟩ ?_ ?_
    · rintro i σ H5 hi ⟨kv, bs', ts, x', rfl, s5, el5, e5, hts, htl, hall⟩
      have hi3 : i < k0.2.toNat := hi
      have kt5 : KT H4 H5 := fun b ys e => s5 b _ (ne_of e e4 (by intro z; cases z)) (ne_of e el4 (by intro z; cases z)) e
      have hdeep : 1 ≤ deep := by
        by_cases z : deep = 0
        · have := hz0 z
          (first | lia | omega)
        · (first | lia | omega)
      refine ⟨_, rfl, .inl ⟨rfl, _, SqL.of e5⟩, _, rfl, _, rfl, _, rfl, _, rfl, _, rfl, _, _, rfl, rfl, l, x', oa, oas, outs, S, C, deep - 1, rfl, el5, kt5 _ _ eo4, hks3.mono ((Same.kt s4).trans kt5), g, hSm, hCm, by (first | lia | omega), by (first | lia | omega), fun t r x6 H6 s6 el6 hat hfit htall => ?_⟩
      have e6 := s6 _ _ hpl' e5
      have kt6 : KT H5 H6 := s6.kt el5
      have hbl : bs'.length = ts.length := hts.length
      refine ⟨pl, _, _, rfl, rfl, e6, line_big (by rw [List.length_map]; (first | lia | omega)), ?_⟩
      have kt : KT H6 (upd H6 pl (.lst (bs'.map V.ref ++ [.ref r]))) := kt_lst e6
      refine ⟨_, bs' ++ [r], ts ++ [t], x6, rfl, fun b o hb hb2 e => ?_, ?_, ?_, ?_, ?_, ?_⟩
      · rw [upd_ne hb]; exact s6 _ _ hb2 (s5 b o hb hb2 e)
      · rw [upd_ne hpl'.symm]; exact el6
      · rw [upd_same, List.map_append]; rfl
      · exact (hts.mono (kt6.trans kt)).append (.cons (hat.mono kt) .nil)
      · rw [List.length_append, htl]; rfl
      · intro u hu
        rcases List.mem_append.mp hu with hu | hu
        · exact hall u hu
        · rw [List.mem_singleton.mp hu]
          exact ⟨hfit, htall⟩
    · rintro σ H5 ⟨kv, bs', ts, x', rfl, s5, el5, e5, hts, htl, hall⟩
      have hpH : H pl = none := s13.free el3 hpl
      have sH : SameB l H H5 := fun b o hb e => s5 b o (ne_of_none e hpH) hb (s4 _ _ (s13 b o hb e))
      have kt5 : KT H4 H5 := fun b ys e => s5 b _ (ne_of e e4 (by intro z; cases z)) (ne_of e el4 (by intro z; cases z)) e
      have eka5 : H5 ka = some (.tup [.str k0.1, .int k0.2]) := kt5 _ _ eka4
      have hbl : bs'.length = ts.length := hts.length
      refine ⟨_, rfl, ka, _, 0, .str k0.1, rfl, rfl, SqT.of eka5, at0, line_le (by show 1 ≤ 1000000; decide), fun p1 hp1 => ?_⟩
      have s6 : L2.Same H5 (upd H5 p1 (.tup [.str k0.1])) := same_new hp1 _
      have e6 : (upd H5 p1 (.tup [.str k0.1])) p1 = some (.tup [.str k0.1]) := upd_same
      generalize (upd H5 p1 (.tup [.str k0.1])) = H6 at s6 e6 ⊢
      refine ⟨_, rfl, pl, _, rfl, .inl ⟨SqL.of (s6 _ _ e5), fun tp htp => ?_⟩⟩
      have s7 : L2.Same H6 (upd H6 tp (.tup (bs'.map V.ref))) := same_new htp _
      have e7 : (upd H6 tp (.tup (bs'.map V.ref))) tp = some (.tup (bs'.map V.ref)) := upd_same
      generalize (upd H6 tp (.tup (bs'.map V.ref))) = H7 at s7 e7 ⊢
      refine catT (s7 _ _ e6) e7 (by rw [List.length_map]; show 1 + bs'.length ≤ 1000000; (first | lia | omega)) fun p H8 s8 e8 => ?_
      have s58 := s6.trans (s7.trans s8)
      have hlow := (g.low k0 hmem).1
      refine q (.knot k0.1 ts) p x' H8 (sH.trans (.of s58)) (s58 _ _ el5) ?_ ?_ ?_
      · rw [At]
        exact ⟨low_q hlow, bs', e8, hts.mono (Same.kt s58)⟩
      · rw [Th.FitS]
        refine ⟨?_, FitSs.of fun t ht => (hall t ht).1⟩
        have : (k0.1, (ts.length : Int)) = k0 := by
          rw [htl]
          exact Prod.ext rfl (by show ((k0.2.toNat : Nat) : Int) = k0.2; (first | lia | omega))
        rw [this]
        exact hmem
      · rw [Th.tall]
        by_cases z : deep = 0
        · have hk2 := hz0 z
          have : ts = [] := List.length_eq_zero_iff.mp (by (first | lia | omega))
          subst this
          rw [talls]
          (first | lia | omega)
        · have := talls_all (n := (deep - 1).toNat + 1) fun t ht => (hall t ht).2
          (first | lia | omega)
end
inductive Isp__law_book_by_digits (vs : List V) (H : Hp) (Q : VK) (_E : XK) : Prop
  | mk (cell : Int) (ia : Addr) (ias : List Addr) (ins : List (Str × Int)) (oa : Addr) (oas : List Addr) (outs : List (Str × Int)) (S deep : Int) (zz0 : vs = [.int cell, .ref ia, .ref oa, .int S, .int deep]) (zz1 : H ia = some (.tup (ias.map V.ref))) (zz2 : KsAt H ins ias) (zz3 : GoodN ins) (zz4 : H oa = some (.tup (oas.map V.ref))) (zz5 : KsAt H outs oas) (zz6 : GoodN outs) (zz7 : 0 ≤ S) (zz8 : S ≤ 1000) (zz9 : 0 ≤ deep) (zz10 : deep < 5) (zz11 : ∀ (r ha ra : Addr) (ras : List Addr) (head : Th) (rows : List (List Th)) (H' : Hp), L2.Same H H' → BookAt H' ins outs head rows r ia oa ha ra ias oas ras → BookOk ins outs S deep.toNat head rows → Q (.ref r) H') : Isp__law_book_by_digits  vs H Q _E
def sp__law_book_by_digits : Sp := Isp__law_book_by_digits 
section
variable {P : Program} {w : World} {K : PySem.W.Frag} {mg : Str → Option Value} {base : Heap} (T : TX K mg)
set_option maxHeartbeats 4000000 in
theorem ok__law_book_by_digits : FnOk P w K mg base CX0 8 T.f__law_book_by_digits T.d__law_book_by_digits ["cell", "ins", "outs", "states", "deep"] sp__law_book_by_digits := by
  refine T.F__law_book_by_digits.ok sc__law_book_by_digits (fun vs H Q E h => ?_) (fun cdv A outer s H vs Q E hr h => ?_)
  · obtain ⟨cell, ia, ias, ins, oa, oas, outs, S, deep, rfl, _⟩ := h
    rfl
  obtain ⟨cell, ia, ias, ins, oa, oas, outs, S, deep, rfl, ei, hki, gi, eo, hko, go, hS0, hS1, d0, d1, q⟩ := h
  refine ⟨_, (pss_cons (ps_set (i := 5) sc__law_book_by_digits.nd rfl (Or.inl rfl) (pe_lst (pa_cons (pv 0) pa_nil)))
      (pss_cons (ps_set (i := 6) sc__law_book_by_digits.nd rfl (Or.inl rfl) (pe_lst pa_nil))
      (pss_cons (ps_for PassesOwn.never rfl (pi_range1 rfl T.n_range (pa_cons (pv 3) pa_nil)) (pg_name (i := 7) sc__law_book_by_digits.nd rfl (Or.inl rfl)) (pss_cons (ps_set (i := 8) sc__law_book_by_digits.nd rfl (Or.inl rfl) (pe_lst pa_nil))
      (pss_cons (ps_for PassesOwn.never rfl (pi_range1 rfl T.n_range (pa_cons (pe_callB call_len_seq rfl T.n_len PySem.boot_len (pa_cons (pv 1) pa_nil)) pa_nil)) (pg_name (i := 9) sc__law_book_by_digits.nd rfl (Or.inl rfl)) (pss_one (ps_expr (pe_bm PySem.F.plainAttrs_list PySem.F.slot_list_append PySem.F.type_list_append mt_append (pv 8) (pa_cons (pe_call (ok__law_by_digits T 5) (hr.mono (by first | decide | (first | lia | omega))) rfl T.m__law_by_digits T.F__law_by_digits.kp T.b__law_by_digits .nil pass0 (pa_cons (pv 5) (pa_cons (pv 2) (pa_cons (pv 3) (pa_cons (pe_ix ix_tup (pe_ix ix_tup (pv 1) (pv 9) (fun _ _ => rfl)) pe_int (fun _ _ => rfl)) (pa_cons (pv 4) pa_nil)))))) pa_nil)))))
      (pss_one (ps_expr (pe_bm PySem.F.plainAttrs_list PySem.F.slot_list_append PySem.F.type_list_append mt_append (pv 6) (pa_cons (pe_callTy call_tuple_of rfl T.n_tuple PyProof.Rows.boot_tuple (pa_cons (pv 8) pa_nil)) pa_nil)))))))
      (pss_one (ps_ret (pe_tup (pa_cons (pv 1) (pa_cons (pv 2) (pa_cons (pe_call (ok__law_by_digits T 5) (hr.mono (by first | decide | (first | lia | omega))) rfl T.m__law_by_digits T.F__law_by_digits.kp T.b__law_by_digits .nil pass0 (pa_cons (pv 5) (pa_cons (pv 2) (pa_cons (pv 3) (pa_cons pe_int (pa_cons pe_int pa_nil)))))) (pa_cons (pe_callTy call_tuple_of rfl T.n_tuple PyProof.Rows.boot_tuple (pa_cons (pv 6) pa_nil)) pa_nil)))))))))), ?_⟩
  have hil : ins.length = ias.length := Paired.length hki
  have hi8 := gi.le
  have hrl : ((ias.map V.ref).length : Int) = (ins.length : Int) := by rw [List.length_map, hil]
  refine ⟨_, rfl, line_le (by show 1 ≤ 1000000; decide), fun lf hlf => ?_⟩
  refine ⟨line_le (by show 0 ≤ 1000000; decide), fun rl hrl0 => ?_⟩
  have hrlf : rl ≠ lf := fun z => by rw [z, upd_same] at hrl0; cases hrl0
  have hrlH : H rl = none := (same_new hlf _).free hrl0
  have sm1 : L2.Same H (upd (upd H lf (.lst [.int cell])) rl (.lst [])) := (same_new hlf _).trans (same_new hrl0 _)
  have el1 : (upd (upd H lf (.lst [.int cell])) rl (.lst [])) lf = some (.lst [.int cell]) := by rw [upd_ne hrlf.symm, upd_same]
  have er1 : (upd (upd H lf (.lst [.int cell])) rl (.lst [])) rl = some (.lst []) := upd_same
  generalize (upd (upd H lf (.lst [.int cell])) rl (.lst [])) = H1 at sm1 el1 er1 ⊢
  refine ⟨_, rfl, S, rfl, by (first | lia | omega), by (first | lia | omega), ?_⟩
  refine for_range (n := S.toNat) (fun i σ H3 => ∃ (sv rv kv : Option V) (ras : List Addr) (rows : List (List Th)) (x : Int), σ = [some (.int cell), some (.ref ia), some (.ref oa), some (.int S), some (.int deep), some (.ref lf), some (.ref rl), sv, rv, kv] ∧ L2.Same H H3 ∧ H3 lf = some (.lst [.int x]) ∧ H3 rl = some (.lst (ras.map V.ref)) ∧ Paired (RowAt H3) rows ras ∧ rows.length = i ∧ ∀ row ∈ rows, RowOk ins outs S deep.toNat row)
    ⟨none, none, none, [], [], cell, rfl, sm1, el1, er1, .nil, rfl, fun t ht => by cases ht⟩ ?_ ?_
  · rintro i σ H3 hi ⟨sv, rv, kv, ras, rows, x, rfl, s3, el3, er3, hrows, hrn, hall⟩
    have hi3 : i < S.toNat := hi
    have hrasl : rows.length = ras.length := Paired.length hrows
    refine ⟨line_le (by show 0 ≤ 1000000; decide), fun rw hrw => ?_⟩
    have hrwH : H rw = none := s3.free hrw
    have hrwr : rw ≠ rl := fun z => by rw [z, er3] at hrw; cases hrw
    have hrwl : rw ≠ lf := fun z => by rw [z, el3] at hrw; cases hrw
    have s4 : L2.Same H3 (upd H3 rw (.lst [])) := same_new hrw _
    have ew4 : (upd H3 rw (.lst [])) rw = some (.lst []) := upd_same
    generalize (upd H3 rw (.lst [])) = H4 at s4 ew4 ⊢
    refine ⟨_, rfl, ia, _, rfl, .inr (SqT.of (s4 _ _ (s3 _ _ ei))), _, rfl, by (first | lia | omega), by (first | lia | omega), ?_⟩
    refine for_range (n := ((ias.map V.ref).length : Int).toNat) (fun j σ H5 => ∃ (kv : Option V) (bs : List Addr) (ts : List Th) (x : Int), σ = [some (.int cell), some (.ref ia), some (.ref oa), some (.int S), some (.int deep), some (.ref lf), some (.ref rl), some (.int (0 + (i : Int))), some (.ref rw), kv] ∧ L2.Same H H5 ∧ H5 lf = some (.lst [.int x]) ∧ H5 rl = some (.lst (ras.map V.ref)) ∧ KT H4 H5 ∧ H5 rw = some (.lst (bs.map V.ref)) ∧ Ats H5 ts bs ∧ ts.length = j ∧ ∀ (j : Nat) (t : Th) (k : Str × Int), ts[j]? = some t → ins[j]? = some k → t.FitS outs S k.2 ∧ t.tall ≤ deep.toNat + 1)
      ⟨kv, [], [], x, rfl, s3.trans s4, s4 _ _ el3, s4 _ _ er3, fun _ _ e => e, ew4, .nil, rfl, fun j t k h => by simp at h⟩ ?_ ?_
    · rintro j σ H5 hj ⟨kv, bs, ts, x5, rfl, s5, el5, er5, kt5, ew5, hts, htl, hfits⟩
      have hj3 : j < ins.length := by
        have : j < ((ias.map V.ref).length : Int).toNat := hj
        (first | lia | omega)
      obtain ⟨k0, hk0⟩ : ∃ k0, ins[j]? = some k0 := ⟨_, List.getElem?_eq_getElem hj3⟩
      obtain ⟨ka, hka, eka⟩ := P2.get hki hk0
      have hnum := gi.num k0 (List.mem_of_getElem? hk0)
      have hat : atI (ias.map V.ref) (0 + (j : Int)) = some (.ref ka) := at_nonneg (by (first | lia | omega)) (by rw [show (0 + (j : Int)).toNat = j by (first | lia | omega), List.getElem?_map, hka]; rfl)
      refine ⟨_, rfl, .inl ⟨rfl, _, SqL.of ew5⟩, _, rfl, _, rfl, _, rfl, _, rfl, _, rfl, ia, _, _, .ref ka, rfl, rfl, SqT.of (s5 _ _ ei), hat, ka, _, 1, _, rfl, rfl, SqT.of (s5 _ _ eka), at1, _, rfl, lf, x5, oa, oas, outs, S, k0.2, deep, rfl, el5, s5 _ _ eo, hko.mono (Same.kt s5), go, by (first | lia | omega), by (first | lia | omega), d0, by (first | lia | omega), fun t r x6 H6 s6 el6 hat hfit htall => ?_⟩
      have ew6 := s6 _ _ hrwl ew5
      have er6 := s6 _ _ hrlf er5
      have kt6 : KT H5 H6 := s6.kt el5
      have sH6 : L2.Same H H6 := fun b o e => s6 b o (ne_of_none e hlf) (s5 b o e)
      have hbl : bs.length = ts.length := hts.length
      refine ⟨rw, _, _, rfl, rfl, ew6, line_big (by rw [List.length_map]; (first | lia | omega)), ?_⟩
      have kt : KT H6 (upd H6 rw (.lst (bs.map V.ref ++ [.ref r]))) := kt_lst ew6
      refine ⟨_, bs ++ [r], ts ++ [t], x6, rfl, same_upd sH6 hrwH, by rw [upd_ne hrwl.symm]; exact el6, by rw [upd_ne hrwr.symm]; exact er6, kt5.trans (kt6.trans kt), ?_, ?_, ?_, ?_⟩
      · rw [upd_same, List.map_append]; rfl
      · exact (hts.mono (kt6.trans kt)).append (.cons (hat.mono kt) .nil)
      · rw [List.length_append, htl]; rfl
      · intro j' t' k' ht' hk'
        by_cases hji : j' < ts.length
        · rw [List.getElem?_append_left hji] at ht'
          exact hfits j' t' k' ht' hk'
        · rw [List.getElem?_append_right (by (first | lia | omega))] at ht'
          have hj0 : j' - ts.length = 0 := by
            have := (List.getElem?_eq_some_iff.mp ht').1
            simp at this
            (first | lia | omega)
          rw [hj0] at ht'
          cases ht'
          have : j' = j := by (first | lia | omega)
          subst this
          rw [hk0] at hk'
          cases hk'
          exact ⟨hfit, htall⟩
    · rintro σ H5 ⟨kv, bs, ts, x5, rfl, s5, el5, er5, kt5, ew5, hts, htl, hfits⟩
      refine ⟨_, rfl, .inl ⟨rfl, _, SqL.of er5⟩, _, rfl, rw, _, rfl, .inl ⟨SqL.of ew5, fun tp htp => ?_⟩⟩
      have s6 : L2.Same H5 (upd H5 tp (.tup (bs.map V.ref))) := same_new htp _
      have e6 : (upd H5 tp (.tup (bs.map V.ref))) tp = some (.tup (bs.map V.ref)) := upd_same
      generalize (upd H5 tp (.tup (bs.map V.ref))) = H6 at s6 e6 ⊢
      have er6 := s6 _ _ er5
      refine ⟨rl, _, _, rfl, rfl, er6, line_big (by rw [List.length_map]; (first | lia | omega)), ?_⟩
      have kt : KT H6 (upd H6 rl (.lst (ras.map V.ref ++ [.ref tp]))) := kt_lst er6
      have ktA : KT H3 (upd H6 rl (.lst (ras.map V.ref ++ [.ref tp]))) := (Same.kt s4).trans (kt5.trans ((Same.kt s6).trans kt))
      refine ⟨_, _, _, ras ++ [tp], rows ++ [ts], x5, rfl, same_upd (s5.trans s6) hrlH, by rw [upd_ne hrlf.symm]; exact s6 _ _ el5, ?_, ?_, ?_, ?_⟩
      · rw [upd_same, List.map_append]; rfl
      · exact P2.append (P2.mp (fun _ _ e => RowAt.mono ktA e) hrows) (.cons ⟨bs, kt _ _ e6, hts.mono ((Same.kt s6).trans kt)⟩ .nil)
      · rw [List.length_append, hrn]; rfl
      · intro row hrow
        rcases List.mem_append.mp hrow with hrow | hrow
        · exact hall row hrow
        · rw [List.mem_singleton.mp hrow]
          exact ⟨by rw [htl]; (first | lia | omega), hfits⟩
  · rintro σ H3 ⟨sv, rv, kv, ras, rows, x, rfl, s3, el3, er3, hrows, hrn, hall⟩
    have hrasl : rows.length = ras.length := Paired.length hrows
    refine ⟨_, rfl, _, rfl, _, rfl, _, rfl, _, rfl, lf, x, oa, oas, outs, S, 1, 1, rfl, el3, s3 _ _ eo, hko.mono (Same.kt s3), go, by (first | lia | omega), by decide, by decide, by decide, fun t ha x6 H6 s6 el6 hat hfit htall => ?_⟩
    have er6 := s6 _ _ hrlf er3
    have kt6 : KT H3 H6 := s6.kt el3
    have sH6 : L2.Same H H6 := fun b o e => s6 b o (ne_of_none e hlf) (s3 b o e)
    refine ⟨_, rfl, rl, _, rfl, .inl ⟨SqL.of er6, fun ra hra => ?_⟩⟩
    have s7 : L2.Same H6 (upd H6 ra (.tup (ras.map V.ref))) := same_new hra _
    have e7 : (upd H6 ra (.tup (ras.map V.ref))) ra = some (.tup (ras.map V.ref)) := upd_same
    generalize (upd H6 ra (.tup (ras.map V.ref))) = H7 at s7 e7 ⊢
    refine ⟨line_le (by show 4 ≤ 1000000; decide), fun r hr' => ?_⟩
    have s8 : L2.Same H7 (upd H7 r (.tup [.ref ia, .ref oa, .ref ha, .ref ra])) := same_new hr' _
    have sA := sH6.trans (s7.trans s8)
    refine q r ha ra ras t rows _ sA ⟨upd_same, sA _ _ ei, hki.mono (Same.kt sA), sA _ _ eo, hko.mono (Same.kt sA), hat.mono (Same.kt (s7.trans s8)), s8 _ _ e7, P2.mp (fun _ _ e => RowAt.mono (kt6.trans (Same.kt (s7.trans s8))) e) hrows⟩ ⟨by rw [hrn]; (first | lia | omega), hall, hfit, htall⟩
end
inductive Isp__law_book (vs : List V) (H : Hp) (Q : VK) (_E : XK) : Prop
  | mk (cell : Int) (ia : Addr) (ias : List Addr) (ins : List (Str × Int)) (oa : Addr) (oas : List Addr) (outs : List (Str × Int)) (S deep : Int) (zz0 : vs = [.int cell, .ref ia, .ref oa, .int S, .int deep]) (zz1 : H ia = some (.tup (ias.map V.ref))) (zz2 : KsAt H ins ias) (zz3 : GoodN ins) (zz4 : H oa = some (.tup (oas.map V.ref))) (zz5 : KsAt H outs oas) (zz6 : GoodN outs) (zz7 : 0 ≤ S) (zz8 : S ≤ 1000) (zz9 : 0 ≤ deep) (zz10 : deep < 5) (zz11 : ∀ (r ha ra : Addr) (ras : List Addr) (head : Th) (rows : List (List Th)) (H' : Hp), L2.Same H H' → BookAt H' ins outs head rows r ia oa ha ra ias oas ras → BookOk ins outs S deep.toNat head rows → Q (.ref r) H') : Isp__law_book  vs H Q _E
def sp__law_book : Sp := Isp__law_book 
section
variable {P : Program} {w : World} {K : PySem.W.Frag} {mg : Str → Option Value} {base : Heap} (T : TX K mg)
set_option maxHeartbeats 4000000 in
theorem ok__law_book : FnOk P w K mg base CX0 9 T.f__law_book T.d__law_book ["cell", "ins", "outs", "states", "deep"] sp__law_book := by
  refine T.F__law_book.ok sc__law_book (fun vs H Q E h => ?_) (fun cdv A outer s H vs Q E hr h => ?_)
  · obtain ⟨cell, ia, ias, ins, oa, oas, outs, S, deep, rfl, _⟩ := h
    rfl
  obtain ⟨cell, ia, ias, ins, oa, oas, outs, S, deep, rfl, ei, hki, gi, eo, hko, go, hS0, hS1, d0, d1, q⟩ := h
  refine ⟨_, (pss_cons (ps_if (pt_cmpR op_ge (pv 0) pe_int (nomark _)) (pss_one (ps_ret (pe_call (ok__law_book_by_digits T) (hr.mono (by first | decide | (first | lia | omega))) rfl T.m__law_book_by_digits T.F__law_book_by_digits.kp T.b__law_book_by_digits .nil pass0 (pa_cons (pe_op op_fdivB (pv 0) pe_int) (pa_cons (pv 1) (pa_cons (pv 2) (pa_cons (pv 3) (pa_cons (pv 4) pa_nil)))))))) pss_nil)
      (pss_cons (ps_set (i := 5) sc__law_book.nd rfl (Or.inl rfl) (pe_lst pa_nil))
      (pss_cons (ps_for PassesOwn.never rfl (pi_range1 rfl T.n_range (pa_cons (pv 3) pa_nil)) (pg_name (i := 6) sc__law_book.nd rfl (Or.inl rfl)) (pss_cons (ps_set (i := 7) sc__law_book.nd rfl (Or.inl rfl) (pe_lst pa_nil))
      (pss_cons (ps_for PassesOwn.never rfl (pi_range1 rfl T.n_range (pa_cons (pe_callB call_len_seq rfl T.n_len PySem.boot_len (pa_cons (pv 1) pa_nil)) pa_nil)) (pg_name (i := 8) sc__law_book.nd rfl (Or.inl rfl)) (pss_one (ps_expr (pe_bm PySem.F.plainAttrs_list PySem.F.slot_list_append PySem.F.type_list_append mt_append (pv 7) (pa_cons (pe_call (ok__law_pattern T 5) (hr.mono (by first | decide | (first | lia | omega))) rfl T.m__law_pattern T.F__law_pattern.kp T.b__law_pattern .nil pass0 (pa_cons (pe_call (ok__law_turn T) (hr.mono (by first | decide | (first | lia | omega))) rfl T.m__law_turn T.F__law_turn.kp T.b__law_turn .nil pass0 (pa_cons (pv 0) (pa_cons (pe_op op_add (pe_op op_add (pe_op op_mul pe_int (pv 6)) (pv 8)) pe_int) pa_nil))) (pa_cons (pv 2) (pa_cons (pv 3) (pa_cons (pe_ix ix_tup (pe_ix ix_tup (pv 1) (pv 8) (fun _ _ => rfl)) pe_int (fun _ _ => rfl)) (pa_cons (pv 4) pa_nil)))))) pa_nil)))))
      (pss_one (ps_expr (pe_bm PySem.F.plainAttrs_list PySem.F.slot_list_append PySem.F.type_list_append mt_append (pv 5) (pa_cons (pe_callTy call_tuple_of rfl T.n_tuple PyProof.Rows.boot_tuple (pa_cons (pv 7) pa_nil)) pa_nil)))))))
      (pss_one (ps_ret (pe_tup (pa_cons (pv 1) (pa_cons (pv 2) (pa_cons (pe_call (ok__law_pattern T 5) (hr.mono (by first | decide | (first | lia | omega))) rfl T.m__law_pattern T.F__law_pattern.kp T.b__law_pattern .nil pass0 (pa_cons (pe_call (ok__law_turn T) (hr.mono (by first | decide | (first | lia | omega))) rfl T.m__law_turn T.F__law_turn.kp T.b__law_turn .nil pass0 (pa_cons (pv 0) (pa_cons pe_int pa_nil))) (pa_cons (pv 2) (pa_cons (pv 3) (pa_cons pe_int (pa_cons pe_int pa_nil)))))) (pa_cons (pe_callTy call_tuple_of rfl T.n_tuple PyProof.Rows.boot_tuple (pa_cons (pv 5) pa_nil)) pa_nil)))))))))), ?_⟩
  have hil : ins.length = ias.length := Paired.length hki
  have hi8 := gi.le
  have hrl : ((ias.map V.ref).length : Int) = (ins.length : Int) := by rw [List.length_map, hil]
  refine seq_intro (fun σ' H' => H = H' ∧ σ' = [some (.int cell), some (.ref ia), some (.ref oa), some (.int S), some (.int deep), none, none, none, none]) (fun kk hk => ?_) ?_
  · refine ⟨_, rfl, _, _, rfl, rfl, _, rfl, ?_⟩
    refine ite2 (fun c1 => ?_) (fun c1 => hk _ _ ⟨rfl, rfl⟩)
    exact ⟨_, rfl, _, _, rfl, rfl, ⟨by decide, by decide⟩, _, rfl, _, rfl, _, rfl, _, rfl, _, ia, ias, ins, oa, oas, outs, S, deep, rfl, ei, hki, gi, eo, hko, go, hS0, hS1, d0, d1, fun r ha ra ras head rows H' s1 b1 b2 => q r ha ra ras head rows H' s1 b1 b2⟩
  rintro σ' H' ⟨rfl, rfl⟩
  refine ⟨line_le (by show 0 ≤ 1000000; decide), fun rl hrlH => ?_⟩
  have sm1 : L2.Same H (upd H rl (.lst [])) := same_new hrlH _
  have er1 : (upd H rl (.lst [])) rl = some (.lst []) := upd_same
  generalize (upd H rl (.lst [])) = H1 at sm1 er1 ⊢
  refine ⟨_, rfl, S, rfl, by (first | lia | omega), by (first | lia | omega), ?_⟩
  refine for_range (n := S.toNat) (fun i σ H3 => ∃ (sv rv kv : Option V) (ras : List Addr) (rows : List (List Th)), σ = [some (.int cell), some (.ref ia), some (.ref oa), some (.int S), some (.int deep), some (.ref rl), sv, rv, kv] ∧ L2.Same H H3 ∧ H3 rl = some (.lst (ras.map V.ref)) ∧ Paired (RowAt H3) rows ras ∧ rows.length = i ∧ ∀ row ∈ rows, RowOk ins outs S deep.toNat row)
    ⟨none, none, none, [], [], rfl, sm1, er1, .nil, rfl, fun t ht => by cases ht⟩ ?_ ?_
  · rintro i σ H3 hi ⟨sv, rv, kv, ras, rows, rfl, s3, er3, hrows, hrn, hall⟩
    have hi3 : i < S.toNat := hi
    have hrasl : rows.length = ras.length := Paired.length hrows
    refine ⟨line_le (by show 0 ≤ 1000000; decide), fun rw hrw => ?_⟩
    have hrwH : H rw = none := s3.free hrw
    have hrwr : rw ≠ rl := fun z => by rw [z, er3] at hrw; cases hrw
    have s4 : L2.Same H3 (upd H3 rw (.lst [])) := same_new hrw _
    have ew4 : (upd H3 rw (.lst [])) rw = some (.lst []) := upd_same
    generalize (upd H3 rw (.lst [])) = H4 at s4 ew4 ⊢
    refine ⟨_, rfl, ia, _, rfl, .inr (SqT.of (s4 _ _ (s3 _ _ ei))), _, rfl, by (first | lia | omega), by (first | lia | omega), ?_⟩
    refine for_range (n := ((ias.map V.ref).length : Int).toNat) (fun j σ H5 => ∃ (kv : Option V) (bs : List Addr) (ts : List Th), σ = [some (.int cell), some (.ref ia), some (.ref oa), some (.int S), some (.int deep), some (.ref rl), some (.int (0 + (i : Int))), some (.ref rw), kv] ∧ L2.Same H H5 ∧ H5 rl = some (.lst (ras.map V.ref)) ∧ KT H4 H5 ∧ H5 rw = some (.lst (bs.map V.ref)) ∧ Ats H5 ts bs ∧ ts.length = j ∧ ∀ (j : Nat) (t : Th) (k : Str × Int), ts[j]? = some t → ins[j]? = some k → t.FitS outs S k.2 ∧ t.tall ≤ deep.toNat + 1)
      ⟨kv, [], [], rfl, s3.trans s4, s4 _ _ er3, fun _ _ e => e, ew4, .nil, rfl, fun j t k h => by simp at h⟩ ?_ ?_
    · rintro j σ H5 hj ⟨kv, bs, ts, rfl, s5, er5, kt5, ew5, hts, htl, hfits⟩
      have hj3 : j < ins.length := by
        have : j < ((ias.map V.ref).length : Int).toNat := hj
        (first | lia | omega)
      obtain ⟨k0, hk0⟩ : ∃ k0, ins[j]? = some k0 := ⟨_, List.getElem?_eq_getElem hj3⟩
      obtain ⟨ka, hka, eka⟩ := P2.get hki hk0
      have hnum := gi.num k0 (List.mem_of_getElem? hk0)
      have hat : atI (ias.map V.ref) (0 + (j : Int)) = some (.ref ka) := at_nonneg (by (first | lia | omega)) (by rw [show (0 + (j : Int)).toNat = j by (first | lia | omega), List.getElem?_map, hka]; rfl)
      refine ⟨_, rfl, .inl ⟨rfl, _, SqL.of ew5⟩, _, rfl, _, rfl, _, _, rfl, rfl, .inl ⟨by decide, by decide⟩, _, rfl, _, _, rfl, rfl, _, _, rfl, rfl, _, _, rfl, by (first | lia | omega), by (first | lia | omega), fun r2 _ _ => ?_⟩
      refine ⟨_, rfl, _, rfl, _, rfl, _, rfl, ia, _, _, .ref ka, rfl, rfl, SqT.of (s5 _ _ ei), hat, ka, _, 1, _, rfl, rfl, SqT.of (s5 _ _ eka), at1, _, rfl, r2, oa, oas, outs, S, k0.2, deep, rfl, s5 _ _ eo, hko.mono (Same.kt s5), go, d0, by (first | lia | omega), fun t r H6 s6 hat hfit htall => ?_⟩
      have ew6 := s6 _ _ ew5
      have er6 := s6 _ _ er5
      have kt6 : KT H5 H6 := Same.kt s6
      have sH6 : L2.Same H H6 := s5.trans s6
      have hbl : bs.length = ts.length := hts.length
      refine ⟨rw, _, _, rfl, rfl, ew6, line_big (by rw [List.length_map]; (first | lia | omega)), ?_⟩
      have kt : KT H6 (upd H6 rw (.lst (bs.map V.ref ++ [.ref r]))) := kt_lst ew6
      refine ⟨_, bs ++ [r], ts ++ [t], rfl, same_upd sH6 hrwH, by rw [upd_ne hrwr.symm]; exact er6, kt5.trans (kt6.trans kt), ?_, ?_, ?_, ?_⟩
      · rw [upd_same, List.map_append]; rfl
      · exact (hts.mono (kt6.trans kt)).append (.cons (hat.mono kt) .nil)
      · rw [List.length_append, htl]; rfl
      · intro j' t' k' ht' hk'
        by_cases hji : j' < ts.length
        · rw [List.getElem?_append_left hji] at ht'
          exact hfits j' t' k' ht' hk'
        · rw [List.getElem?_append_right (by (first | lia | omega))] at ht'
          have hj0 : j' - ts.length = 0 := by
            have := (List.getElem?_eq_some_iff.mp ht').1
            simp at this
            (first | lia | omega)
          rw [hj0] at ht'
          cases ht'
          have : j' = j := by (first | lia | omega)
          subst this
          rw [hk0] at hk'
          cases hk'
          exact ⟨hfit, htall⟩
    · rintro σ H5 ⟨kv, bs, ts, rfl, s5, er5, kt5, ew5, hts, htl, hfits⟩
      refine ⟨_, rfl, .inl ⟨rfl, _, SqL.of er5⟩, _, rfl, rw, _, rfl, .inl ⟨SqL.of ew5, fun tp htp => ?_⟩⟩
      have s6 : L2.Same H5 (upd H5 tp (.tup (bs.map V.ref))) := same_new htp _
      have e6 : (upd H5 tp (.tup (bs.map V.ref))) tp = some (.tup (bs.map V.ref)) := upd_same
      generalize (upd H5 tp (.tup (bs.map V.ref))) = H6 at s6 e6 ⊢
      have er6 := s6 _ _ er5
      refine ⟨rl, _, _, rfl, rfl, er6, line_big (by rw [List.length_map]; (first | lia | omega)), ?_⟩
      have kt : KT H6 (upd H6 rl (.lst (ras.map V.ref ++ [.ref tp]))) := kt_lst er6
      have ktA : KT H3 (upd H6 rl (.lst (ras.map V.ref ++ [.ref tp]))) := (Same.kt s4).trans (kt5.trans ((Same.kt s6).trans kt))
      refine ⟨_, _, _, ras ++ [tp], rows ++ [ts], rfl, same_upd (s5.trans s6) hrlH, ?_, ?_, ?_, ?_⟩
      · rw [upd_same, List.map_append]; rfl
      · exact P2.append (P2.mp (fun _ _ e => RowAt.mono ktA e) hrows) (.cons ⟨bs, kt _ _ e6, hts.mono ((Same.kt s6).trans kt)⟩ .nil)
      · rw [List.length_append, hrn]; rfl
      · intro row hrow
        rcases List.mem_append.mp hrow with hrow | hrow
        · exact hall row hrow
        · rw [List.mem_singleton.mp hrow]
          exact ⟨by rw [htl]; (first | lia | omega), hfits⟩
  · rintro σ H3 ⟨sv, rv, kv, ras, rows, rfl, s3, er3, hrows, hrn, hall⟩
    have hrasl : rows.length = ras.length := Paired.length hrows
    refine ⟨_, rfl, _, rfl, _, rfl, _, _, rfl, by decide, by decide, fun r2 _ _ => ?_⟩
    refine ⟨_, rfl, _, rfl, r2, oa, oas, outs, S, 1, 1, rfl, s3 _ _ eo, hko.mono (Same.kt s3), go, by decide, by decide, fun t ha H6 s6 hat hfit htall => ?_⟩
    have er6 := s6 _ _ er3
    have kt6 : KT H3 H6 := Same.kt s6
    have sH6 : L2.Same H H6 := s3.trans s6
    refine ⟨_, rfl, rl, _, rfl, .inl ⟨SqL.of er6, fun ra hra => ?_⟩⟩
    have s7 : L2.Same H6 (upd H6 ra (.tup (ras.map V.ref))) := same_new hra _
    have e7 : (upd H6 ra (.tup (ras.map V.ref))) ra = some (.tup (ras.map V.ref)) := upd_same
    generalize (upd H6 ra (.tup (ras.map V.ref))) = H7 at s7 e7 ⊢
    refine ⟨line_le (by show 4 ≤ 1000000; decide), fun r hr' => ?_⟩
    have s8 : L2.Same H7 (upd H7 r (.tup [.ref ia, .ref oa, .ref ha, .ref ra])) := same_new hr' _
    have sA := sH6.trans (s7.trans s8)
    refine q r ha ra ras t rows _ sA ⟨upd_same, sA _ _ ei, hki.mono (Same.kt sA), sA _ _ eo, hko.mono (Same.kt sA), hat.mono (Same.kt (s7.trans s8)), s8 _ _ e7, P2.mp (fun _ _ e => RowAt.mono (kt6.trans (Same.kt (s7.trans s8))) e) hrows⟩ ⟨by rw [hrn]; (first | lia | omega), hall, hfit, htall⟩
end
def NoQ (x : Str) : Prop := ∀ c ∈ x.cps.toList, c ≠ 113
theorem nq_cut {x : Str} (h : NoQ x) (lo hi : Option Int) : NoQ (cutS x lo hi) := by
  intro c hc
  have hc' : c ∈ cutL x.cps.toList lo hi := by simpa [cutS] using hc
  exact h c (List.mem_of_mem_drop (List.mem_of_mem_take hc'))
theorem nq_app {x y : Str} (hx : NoQ x) (hy : NoQ y) : NoQ (x ++ y) := by
  intro c hc
  have hc' : c ∈ (x.cps ++ y.cps).toList := hc
  rw [Array.toList_append, List.mem_append] at hc'
  rcases hc' with h | h
  · exact hx c h
  · exact hy c h
theorem nq_gum : NoQ gum := by unfold NoQ; decide +kernel
structure Kd (ks : List (Str × Int)) : Prop where
  good : GoodN ks
  ok : okKinds ks = true
  nq : ∀ k ∈ ks, NoQ k.1
inductive Isp__law_kinds (vs : List V) (H : Hp) (Q : VK) (_E : XK) : Prop
  | mk (cell : Int) (lt : Str) (zz0 : vs = [.int cell, .str lt]) (zz1 : Picks lt) (zz2 : NoQ lt) (zz3 : ∀ (r : Addr) (as : List Addr) (ks : List (Str × Int)) (H' : Hp), L2.Same H H' → H' r = some (.tup (as.map V.ref)) → KsAt H' ks as → Kd ks → Q (.ref r) H') : Isp__law_kinds  vs H Q _E
def sp__law_kinds : Sp := Isp__law_kinds 
theorem nm_pos {begun : Bool} {c0 : Nat} {stem : Str} {a' : Int} {L : List Nat} (p : Nat) : 1 ≤ (nmOf begun c0 stem a' L p).length := by
  unfold nmOf
  cases begun with
  | true =>
    simp only [if_true]
    rw [repS_len]
    (first | lia | omega)
  | false =>
    simp only [Bool.false_eq_true, if_false]
    rw [strLen_append, strLen_append]
    show 1 ≤ _ + 1 + _
    (first | lia | omega)
theorem nm_nq {begun : Bool} {c0 : Nat} {stem : Str} {at' : Int} {L : List Nat} (hc : c0 ≠ 113) (hs : NoQ stem) (hL : ∀ c ∈ L, c ≠ 113) {p : Nat} (hp : p < L.length) : NoQ (nmOf begun c0 stem at' L p) := by
  unfold nmOf
  cases begun with
  | true =>
    simp only [if_true]
    rw [repS_one]
    intro c hc'
    have hc'' : c ∈ List.replicate (1 + p) c0 := by simpa using hc'
    rw [List.eq_of_mem_replicate hc'']
    exact hc
  | false =>
    simp only [Bool.false_eq_true, if_false]
    have h1 : L.getD p 0 ∈ L := by rw [List.getD, List.getElem?_eq_getElem hp]; exact List.getElem_mem hp
    have h2 := hL _ h1
    refine nq_app (nq_app (nq_cut hs _ _) ?_) (nq_cut hs _ _)
    intro d hd
    have : d = L.getD p 0 := by simpa using hd
    (first | lia | omega)
theorem kd_of {ks : List (Str × Int)} (g : GoodN ks) (h1 : ∀ k ∈ ks, 1 ≤ k.1.length) (h2 : ∀ k ∈ ks, NoQ k.1) : Kd ks := by
  refine ⟨g, ?_, h2⟩
  unfold okKinds
  rw [decide_eq_true ⟨g.ne, g.le⟩, decide_eq_true (goodN_nodup g), decide_eq_true (by obtain ⟨k, hk, e⟩ := g.zero; exact List.mem_map.mpr ⟨k, hk, e⟩)]
  have : ks.all okKind = true := by
    rw [List.all_eq_true]
    intro k hk
    have a1 := g.low k hk
    have a2 := g.num k hk
    unfold okKind okName
    rw [decide_eq_true ⟨h1 k hk, a1.2⟩, decide_eq_true (show 0 ≤ k.2 ∧ k.2 < 4 by (first | lia | omega))]
    have : low k.1 = true := by
      unfold low
      rw [List.all_eq_true]
      intro c hc
      exact decide_eq_true (a1.1 c hc)
    rw [this]
    rfl
  rw [this]
  rfl
theorem nm_len {begun : Bool} {c0 : Nat} {stem : Str} {a' : Nat} {L : List Nat} (hs : stem.length ≤ 7) (ha : a' ≤ stem.length) {p : Nat} (hp : p < 8) : (nmOf begun c0 stem (a' : Int) L p).length ≤ 8 := by
  unfold nmOf
  cases begun with
  | true =>
    simp only [if_true]
    rw [repS_len]
    (first | lia | omega)
  | false =>
    simp only [Bool.false_eq_true, if_false]
    have h1 := (cutS_head (z := stem) ha).2
    have h2 : (cutS stem (some (a' : Int)) none).length = stem.length - a' := by
      show (cutS stem (some (a' : Int)) none).cps.size = _
      rw [← Array.length_toList]
      show ((cutL stem.cps.toList (some (a' : Int)) none).toArray.toList).length = _
      rw [List.toList_toArray]
      unfold cutL
      have hz : stem.cps.toList.length = stem.length := Array.length_toList
      rw [HT.sIx_nat, HT.sIx_none, hz, Nat.min_eq_left ha, List.length_take, List.length_drop, hz]
      (first | lia | omega)
    rw [strLen_append, strLen_append, h1, h2]
    show a' + 1 + (stem.length - a') ≤ 8
    (first | lia | omega)
def KInv (nm : Nat → Str) (turn leaf : Int) (m : Nat) (ks : List (Str × Int)) : Prop :=
  ∀ (j : Nat) (k : Str × Int), ks[j]? = some k → k.1 = nm ((3 * (j : Int) + turn) % (m : Int)).toNat ∧ 0 ≤ k.2 ∧ k.2 ≤ 3 ∧ ((j : Int) = leaf → k.2 = 0)
theorem KInv.good {nm : Nat → Str} {turn leaf : Int} {m : Nat} {ks : List (Str × Int)} (h : KInv nm turn leaf m ks) (h1 : 1 ≤ ks.length) (hm : (m = 4 ∧ ks.length ≤ 4) ∨ (m = 8 ∧ ks.length ≤ 8)) (ht : 0 ≤ turn) (hlf : 0 ≤ leaf ∧ leaf < (ks.length : Int))
    (hlow : ∀ p, p < m → Low (nm p) ∧ (nm p).length ≤ 8) (hinj : ∀ p r, p < m → r < m → nm p = nm r → p = r) : GoodN ks := by
  have hb : ∀ j : Nat, ((3 * (j : Int) + turn) % (m : Int)).toNat < m := fun j => by
    have h0 := Int.emod_nonneg (3 * (j : Int) + turn) (show (m : Int) ≠ 0 by (first | lia | omega))
    have h2 := Int.emod_lt_of_pos (3 * (j : Int) + turn) (show (0 : Int) < (m : Int) by (first | lia | omega))
    (first | lia | omega)
  refine ⟨h1, by (first | lia | omega), fun k hk => ?_, fun k hk => ?_, ?_, fun i j k l hk hl e => ?_⟩
  · obtain ⟨i, hi⟩ := List.mem_iff_getElem?.mp hk
    rw [(h i k hi).1]
    exact hlow _ (hb i)
  · obtain ⟨i, hi⟩ := List.mem_iff_getElem?.mp hk
    exact ⟨(h i k hi).2.1, (h i k hi).2.2.1⟩
  · have hl : leaf.toNat < ks.length := by (first | lia | omega)
    exact ⟨ks[leaf.toNat], List.getElem_mem hl, (h leaf.toNat _ (List.getElem?_eq_getElem hl)).2.2.2 (by (first | lia | omega))⟩
  · have hi' : i < ks.length := (List.getElem?_eq_some_iff.mp hk).1
    have hj' : j < ks.length := (List.getElem?_eq_some_iff.mp hl).1
    rw [(h i k hk).1, (h j l hl).1] at e
    have e2 := hinj _ _ (hb i) (hb j) e
    have h0 := Int.emod_nonneg (3 * (i : Int) + turn) (show (m : Int) ≠ 0 by (first | lia | omega))
    have h2 := Int.emod_nonneg (3 * (j : Int) + turn) (show (m : Int) ≠ 0 by (first | lia | omega))
    rcases hm with ⟨rfl, hm⟩ | ⟨rfl, hm⟩ <;> (first | lia | omega)
section
variable {P : Program} {w : World} {K : PySem.W.Frag} {mg : Str → Option Value} {base : Heap} (T : TX K mg)
set_option maxHeartbeats 4000000 in
theorem ok__law_kinds : FnOk P w K mg base CX0 2 T.f__law_kinds T.d__law_kinds ["cell", "letters"] sp__law_kinds := by
  refine T.F__law_kinds.ok sc__law_kinds (fun vs H Q E h => ?_) (fun cdv A outer s H vs Q E hr h => ?_)
  · obtain ⟨c, lt, rfl, _⟩ := h
    rfl
  obtain ⟨cell, lt, rfl, pk, hq0, q⟩ := h
  refine ⟨_, (pss_cons (ps_set (i := 2) sc__law_kinds.nd rfl (Or.inl rfl) (pe_call (ok__law_turn T) (hr.mono (by first | decide | (first | lia | omega))) rfl T.m__law_turn T.F__law_turn.kp T.b__law_turn .nil pass0 (pa_cons (pv 0) (pa_cons pe_int pa_nil))))
      (pss_cons (ps_set (i := 3) sc__law_kinds.nd rfl (Or.inl rfl) (pe_op op_add pe_int (pe_op op_mod (pv 2) pe_int)))
      (pss_cons (ps_set (i := 4) sc__law_kinds.nd rfl (Or.inl rfl) (pe_slice sl_str pe_str po_none (po_some (pe_op op_mod (pe_op op_fdiv (pv 2) pe_int) pe_int))))
      (pss_cons (ps_set (i := 5) sc__law_kinds.nd rfl (Or.inl rfl) (pe_op op_mod (pe_op op_fdiv (pv 2) pe_int) (pe_op op_add (pe_callB call_len_str rfl T.n_len PySem.boot_len (pa_cons (pv 4) pa_nil)) pe_int)))
      (pss_cons (ps_set (i := 6) sc__law_kinds.nd rfl (Or.inl rfl) (pe_op op_mod (pe_op op_fdiv (pv 2) pe_int) (pv 3)))
      (pss_cons (ps_set (i := 7) sc__law_kinds.nd rfl (Or.inl rfl) (pe_op op_mod (pe_op op_fdiv (pv 2) pe_int) pe_int))
      (pss_cons (ps_set (i := 8) sc__law_kinds.nd rfl (Or.inl rfl) (pe_cmpR op_eq (pe_op op_mod (pe_op op_fdiv (pv 2) pe_int) pe_int) pe_int (nomark _)))
      (pss_cons (ps_set (i := 9) sc__law_kinds.nd rfl (Or.inl rfl) (pe_lst pa_nil))
      (pss_cons (ps_for PassesOwn.never rfl (pi_range1 rfl T.n_range (pa_cons (pv 3) pa_nil)) (pg_name (i := 10) sc__law_kinds.nd rfl (Or.inl rfl)) (pss_cons (ps_set (i := 2) sc__law_kinds.nd rfl (Or.inl rfl) (pe_call (ok__law_turn T) (hr.mono (by first | decide | (first | lia | omega))) rfl T.m__law_turn T.F__law_turn.kp T.b__law_turn .nil pass0 (pa_cons (pv 2) (pa_cons (pe_op op_add (pv 10) pe_int) pa_nil))))
      (pss_cons (ps_set (i := 11) sc__law_kinds.nd rfl (Or.inl rfl) (pe_op op_mul (pe_ix ix_list (pe_lst (pa_cons pe_int (pa_cons pe_int (pa_cons pe_int (pa_cons pe_int (pa_cons pe_int pa_nil)))))) (pe_op op_mod (pv 2) pe_int) (fun _ _ => rfl)) (pe_callTy call_int1 rfl T.n_int PyProof.Rows.boot_int (pa_cons (pe_cmpR op_ne (pv 10) (pv 6) (nomark _)) pa_nil))))
      (pss_cons (ps_set (i := 12) sc__law_kinds.nd rfl (Or.inl rfl) (pe_op op_add_str (pe_op op_add_str (pe_slice sl_str (pv 4) po_none (po_some (pv 5))) (pe_ix ix_str (pv 1) (pe_op op_mod (pe_op op_add (pe_op op_mul pe_int (pv 10)) (pv 7)) pe_int) (fun _ _ => rfl))) (pe_slice sl_str (pv 4) (po_some (pv 5)) po_none)))
      (pss_cons (ps_if (pt_truth (pv 8) (fun _ => rfl)) (pss_one (ps_set (i := 12) sc__law_kinds.nd rfl (Or.inl rfl) (pe_op op_mulS (pe_ix ix_str (pv 1) pe_int (fun _ _ => rfl)) (pe_op op_add pe_int (pe_op op_mod (pe_op op_add (pe_op op_mul pe_int (pv 10)) (pv 7)) pe_int))))) pss_nil)
      (pss_one (ps_expr (pe_bm PySem.F.plainAttrs_list PySem.F.slot_list_append PySem.F.type_list_append mt_append (pv 9) (pa_cons (pe_tup (pa_cons (pv 12) (pa_cons (pv 11) pa_nil))) pa_nil)))))))))
      (pss_one (ps_ret (pe_callTy call_tuple_of rfl T.n_tuple PyProof.Rows.boot_tuple (pa_cons (pv 9) pa_nil))))))))))))), ?_⟩
  refine ⟨_, rfl, _, _, rfl, by decide, by decide, fun rest r0 r1 => ?_⟩
  have z0 := Int.emod_nonneg rest (show (4 : Int) ≠ 0 by decide)
  have z1 := Int.emod_lt_of_pos rest (show (0 : Int) < 4 by decide)
  refine ⟨_, rfl, _, _, rfl, rfl, (by show (0 : Int) < 4; decide), _, _, rfl, rfl, ?_⟩
  dsimp only [gName]
  obtain ⟨size, hsize⟩ : ∃ size, 1 + rest % 4 = size := ⟨_, rfl⟩
  rw [hsize]
  have sz1 : 1 ≤ size := by (first | lia | omega)
  have sz4 : size ≤ 4 := by (first | lia | omega)
  have hl4 := pk.len
  have hlt : ∀ p : Nat, p < 4 → lt.cps.toList[p]? = some (lt.cps.toList.getD p 0) := fun p hp => by
    have hpl : p < lt.cps.toList.length := by rw [Array.length_toList]; show p < lt.length; (first | lia | omega)
    rw [List.getD, List.getElem?_eq_getElem hpl]; rfl
  have hLl : ∀ c ∈ lt.cps.toList, 97 ≤ c ∧ c ≤ 122 := fun c hc => pk.low c (by
    show c ∈ (lt.cps ++ aeio.cps).toList
    rw [Array.toList_append]
    exact List.mem_append_left _ hc)
  have hLi : ∀ (p r c : Nat), lt.cps.toList[p]? = some c → lt.cps.toList[r]? = some c → p = r := fun p r c h1 h2 => by
    refine pk.inj p r c ?_ ?_
    · show (lt.cps ++ aeio.cps).toList[p]? = _
      rw [Array.toList_append, List.getElem?_append_left (List.getElem?_eq_some_iff.mp h1).1]; exact h1
    · show (lt.cps ++ aeio.cps).toList[r]? = _
      rw [Array.toList_append, List.getElem?_append_left (List.getElem?_eq_some_iff.mp h2).1]; exact h2
  -- stem
  have y0 := Int.emod_nonneg (rest / 4) (show (8 : Int) ≠ 0 by decide)
  have y1 := Int.emod_lt_of_pos (rest / 4) (show (0 : Int) < 8 by decide)
  obtain ⟨sn, hsn⟩ : ∃ n : Nat, rest / 4 % 8 = (n : Int) := ⟨_, (Int.toNat_of_nonneg y0).symm⟩
  refine ⟨_, rfl, _, _, rfl, rfl, ⟨by decide, by decide⟩, _, _, rfl, rfl, (by show (0 : Int) < 8; decide), _, rfl, _, rfl, line_le (by decide +kernel), ?_⟩
  dsimp only
  rw [hsn]
  rw [hsn] at y1
  have hsl : (cutS gum none (some (sn : Int))).length ≤ 7 := by
    rw [(cutS_head (z := gum) (n := sn) (by show sn ≤ 8; (first | lia | omega))).2]
    (first | lia | omega)
  have hsw : Low (cutS gum none (some (sn : Int))) := low_cut gum_low _ _
  have hsq : NoQ (cutS gum none (some (sn : Int))) := nq_cut nq_gum _ _
  have hst : cutS (Str.ofString "gumleafs") none (some (sn : Int)) = cutS gum none (some (sn : Int)) := rfl
  rw [hst]
  generalize cutS gum none (some (sn : Int)) = stem at hsl hsw hsq ⊢
  clear hst
  -- at
  have x0 := Int.emod_nonneg (rest / 32) (show ((stem.length : Int) + 1) ≠ 0 by (first | lia | omega))
  have x1 := Int.emod_lt_of_pos (rest / 32) (show (0 : Int) < (stem.length : Int) + 1 by (first | lia | omega))
  obtain ⟨a', ha'⟩ : ∃ n : Nat, rest / 32 % ((stem.length : Int) + 1) = (n : Int) := ⟨_, (Int.toNat_of_nonneg x0).symm⟩
  refine ⟨_, rfl, _, _, rfl, rfl, ⟨by decide, by decide⟩, _, rfl, _, rfl, line_le (by (first | lia | omega)), _, _, rfl, rfl, _, _, rfl, rfl, (by show (0 : Int) < (stem.length : Int) + 1; (first | lia | omega)), ?_⟩
  dsimp only
  rw [ha']
  have ha'' : a' ≤ stem.length := by (first | lia | omega)
  -- leaf, turn, begun
  have l0 := Int.emod_nonneg (rest / 288) (show size ≠ 0 by (first | lia | omega))
  have l1 := Int.emod_lt_of_pos (rest / 288) (show (0 : Int) < size by (first | lia | omega))
  refine ⟨_, rfl, _, _, rfl, rfl, ⟨by decide, by decide⟩, _, rfl, _, _, rfl, rfl, (by show (0 : Int) < size; (first | lia | omega)), ?_⟩
  dsimp only
  generalize rest / 288 % size = leaf at l0 l1 ⊢
  have t0 := Int.emod_nonneg (rest / 1152) (show (4 : Int) ≠ 0 by decide)
  refine ⟨_, rfl, _, _, rfl, rfl, ⟨by decide, by decide⟩, _, _, rfl, rfl, (by show (0 : Int) < 4; decide), ?_⟩
  dsimp only
  generalize rest / 1152 % 4 = turn at t0 ⊢
  refine ⟨_, rfl, _, _, rfl, rfl, ⟨by decide, by decide⟩, _, _, rfl, rfl, (by show (0 : Int) < 3; decide), rfl, ?_⟩
  dsimp only
  generalize decide (V.int (rest / 4608 % 3) = V.int 1) = bg
  refine ⟨line_le (by show 0 ≤ 1000000; decide), fun kl hkl => ?_⟩
  obtain ⟨c0, hc0⟩ : ∃ c0, lt.cps.toList[0]? = some c0 := ⟨_, List.getElem?_eq_getElem (by rw [Array.length_toList]; show 0 < lt.length; (first | lia | omega))⟩
  have hc0l := hLl c0 (List.mem_of_getElem? hc0)
  have hc0q := hq0 c0 (List.mem_of_getElem? hc0)
  refine ⟨_, rfl, size, rfl, by (first | lia | omega), by (first | lia | omega), ?_⟩
  refine for_range (n := size.toNat) (fun i σ H2 => ∃ (rest' : Int) (kv mv nv : Option V) (as : List Addr) (ks : List (Str × Int)), σ = [some (.int cell), some (.str lt), some (.int rest'), some (.int size), some (.str stem), some (.int (a' : Int)), some (.int leaf), some (.int turn), some (.bl bg), some (.ref kl), kv, mv, nv] ∧ L2.Same H H2 ∧ H2 kl = some (.lst (as.map V.ref)) ∧ KsAt H2 ks as ∧ ks.length = i ∧ KInv (nmOf bg c0 stem (a' : Int) lt.cps.toList) turn leaf 4 ks)
    ⟨rest, none, none, none, [], [], rfl, same_new hkl _, upd_same, .nil, rfl, fun j k hj => by simp at hj⟩ ?_ ?_
  · rintro i σ H2 hi ⟨rest', kv, mv, nv, as, ks, rfl, sm, e, hp, hkn, hinv⟩
    have hi8 : i < size.toNat := hi
    have hl : ks.length = as.length := Paired.length hp
    refine ⟨_, rfl, _, rfl, _, _, rfl, rfl, _, _, rfl, by (first | lia | omega), by (first | lia | omega), fun rest2 _ _ => ?_⟩
    have v0 := Int.emod_nonneg rest2 (show (5 : Int) ≠ 0 by decide)
    have v1 := Int.emod_lt_of_pos rest2 (show (0 : Int) < 5 by decide)
    obtain ⟨v, hv, hv0, hv3⟩ : ∃ v : Int, atI [V.int 0, V.int 2, V.int 1, V.int 3, V.int 2] (rest2 % 5) = some (.int v) ∧ 0 ≤ v ∧ v ≤ 3 := by
      rcases (by (first | lia | omega) : rest2 % 5 = 0 ∨ rest2 % 5 = 1 ∨ rest2 % 5 = 2 ∨ rest2 % 5 = 3 ∨ rest2 % 5 = 4) with z | z | z | z | z <;> rw [z]
      · exact ⟨0, rfl, by decide, by decide⟩
      · exact ⟨2, rfl, by decide, by decide⟩
      · exact ⟨1, rfl, by decide, by decide⟩
      · exact ⟨3, rfl, by decide, by decide⟩
      · exact ⟨2, rfl, by decide, by decide⟩
    refine ⟨line_le (by show 5 ≤ 1000000; decide), fun ll hll => ?_⟩
    refine ⟨_, rfl, _, _, rfl, rfl, (by show (0 : Int) < 5; decide), ll, _, _, .int v, rfl, rfl, SqL.of upd_same, hv, _, rfl, _, rfl, rfl, .inr ⟨_, rfl, _, _, rfl, rfl, .inl ⟨by (first | lia | omega), by (first | lia | omega)⟩, ?_⟩⟩
    have s3 : L2.Same H2 (upd H2 ll (.lst [.int 0, .int 2, .int 1, .int 3, .int 2])) := same_new hll _
    generalize (upd H2 ll (.lst [.int 0, .int 2, .int 1, .int 3, .int 2])) = H3 at s3 ⊢
    have e3 := s3 _ _ e
    have hp3 := hp.mono (Same.kt s3)
    have sm3 := sm.trans s3
    obtain ⟨mny, hmny, hm0, hm3, hmz⟩ : ∃ mny : Int, (v * (if (!decide (V.int (0 + (i : Int)) = V.int leaf)) = true then 1 else 0) : Int) = mny ∧ 0 ≤ mny ∧ mny ≤ 3 ∧ ((i : Int) = leaf → mny = 0) := by
      refine ⟨_, rfl, ?_⟩
      by_cases c : (i : Int) = leaf
      · have : (!decide (V.int (0 + (i : Int)) = V.int leaf)) = false := by rw [Int.zero_add, c, decide_eq_true rfl]; rfl
        rw [this]
        simp
      · have : (!decide (V.int (0 + (i : Int)) = V.int leaf)) = true := by
          rw [Int.zero_add, decide_eq_false (fun z => c (V.int.inj z))]; rfl
        rw [this]
        simp
        exact ⟨hv0, hv3, fun z => absurd z c⟩
    dsimp only
    rw [hmny]
    have p0 := Int.emod_nonneg (3 * (0 + (i : Int)) + turn) (show (4 : Int) ≠ 0 by decide)
    have p1 := Int.emod_lt_of_pos (3 * (0 + (i : Int)) + turn) (show (0 : Int) < 4 by decide)
    obtain ⟨pc, hpc⟩ : ∃ n : Nat, (3 * (0 + (i : Int)) + turn) % 4 = (n : Int) := ⟨_, (Int.toNat_of_nonneg p0).symm⟩
    have hpc2 : ((3 * (i : Int) + turn) % ((4 : Nat) : Int)).toNat = pc := by
      rw [Int.zero_add] at hpc
      show ((3 * (i : Int) + turn) % 4).toNat = pc
      (first | lia | omega)
    have hpm : pc < 4 := by (first | lia | omega)
    have hL2 := hlt pc hpm
    have hc1 := (cutS_length stem none (some (a' : Int)))
    have hc2 := (cutS_length stem (some (a' : Int)) none)
    refine ⟨_, rfl, _, rfl, _, rfl, _, rfl, line_le (by (first | lia | omega)), _, rfl, _, rfl, _, _, rfl, rfl, .inl ⟨by decide, by decide⟩, _, rfl, _, _, rfl, rfl, _, _, rfl, rfl, (by show (0 : Int) < 4; decide), ?_⟩
    dsimp only
    rw [hpc]
    refine ⟨_, _, _, rfl, rfl, line_le (by (first | lia | omega)), atI_nat hL2, _, _, rfl, rfl, line_le (by show (cutS stem none (some (a' : Int))).length + 1 ≤ 1000000; (first | lia | omega)), _, rfl, _, rfl, _, rfl, _, rfl, line_le (by (first | lia | omega)), _, _, rfl, rfl, line_le (by rw [strLen_append]; show (cutS stem none (some (a' : Int))).length + 1 + (cutS stem (some (a' : Int)) none).length ≤ 1000000; (first | lia | omega)), ?_⟩
    dsimp only [gName]
    refine seq_intro (fun σ' H' => H3 = H' ∧ σ' = [some (.int cell), some (.str lt), some (.int rest2), some (.int size), some (.str stem), some (.int (a' : Int)), some (.int leaf), some (.int turn), some (.bl bg), some (.ref kl), some (.int (0 + (i : Int))), some (.int mny), some (.str (nmOf bg c0 stem (a' : Int) lt.cps.toList pc))]) (fun kk hk => ?_) ?_
    · refine ⟨_, rfl, bg, rfl, ?_⟩
      cases bg with
      | false => exact iteF (hk _ _ ⟨rfl, rfl⟩)
      | true =>
        refine iteT ⟨_, rfl, _, _, c0, rfl, rfl, line_le (by (first | lia | omega)), atI_nat (j := 0) hc0, _, rfl, _, _, rfl, rfl, .inl ⟨by decide, by decide⟩, _, rfl, _, _, rfl, rfl, _, _, rfl, rfl, (by show (0 : Int) < 4; decide), _, _, rfl, rfl, c0, _, rfl, rfl, ?_⟩
        dsimp only
        rw [hpc]
        refine ⟨by (first | lia | omega), by (first | lia | omega), hk _ _ ⟨rfl, ?_⟩⟩
        have : (1 + (pc : Int)).toNat = 1 + pc := by (first | lia | omega)
        rw [this]
        rfl
    rintro σ' H' ⟨rfl, rfl⟩
    refine ⟨_, rfl, .inl ⟨rfl, _, SqL.of e3⟩, _, rfl, _, rfl, line_le (by show 2 ≤ 1000000; decide), fun p hp' => ?_⟩
    have hpk : kl ≠ p := ne_of_none e3 hp'
    refine ⟨kl, _, _, rfl, rfl, by rw [upd_ne hpk]; exact e3, line_big (by rw [List.length_map]; (first | lia | omega)), ?_⟩
    refine ⟨rest2, _, _, _, as ++ [p], ks ++ [(nmOf bg c0 stem (a' : Int) lt.cps.toList pc, mny)], rfl, same_upd (same_upd sm3 (sm3.free hp')) hkl, ?_, ?_, ?_, ?_⟩
    · rw [upd_same, List.map_append]; rfl
    · have kt : KT H3 (upd (upd H3 p (.tup [.str (nmOf bg c0 stem (a' : Int) lt.cps.toList pc), .int mny])) kl (.lst (as.map V.ref ++ [.ref p]))) := (kt_new hp').trans (kt_lst (xs := as.map V.ref) (by rw [upd_ne hpk]; exact e3))
      refine P2.append (hp3.mono kt) (.cons ?_ .nil)
      show (upd (upd H3 p _) kl _) p = _
      rw [upd_ne hpk.symm, upd_same]
    · rw [List.length_append, hkn]; rfl
    · intro j k hj
      by_cases hji : j < ks.length
      · rw [List.getElem?_append_left hji] at hj
        exact hinv j k hj
      · rw [List.getElem?_append_right (by (first | lia | omega))] at hj
        have hj0 : j - ks.length = 0 := by
          have := (List.getElem?_eq_some_iff.mp hj).1
          simp at this
          (first | lia | omega)
        rw [hj0] at hj
        cases hj
        have hji' : j = i := by (first | lia | omega)
        subst hji'
        exact ⟨by rw [hpc2], hm0, hm3, hmz⟩
  · rintro σ H2 ⟨rest', kv, mv, nv, as, ks, rfl, sm, e, hp, hkn, hinv⟩
    refine ⟨_, rfl, kl, _, rfl, .inl ⟨SqL.of e, fun tp htp => ?_⟩⟩
    have s3 := same_new htp (.tup (as.map V.ref))
    refine q tp as ks _ (sm.trans s3) upd_same (hp.mono (Same.kt s3)) ?_
    have hb : ∀ j : Nat, ((3 * (j : Int) + turn) % ((4 : Nat) : Int)).toNat < 4 := fun j => by
      have h0 := Int.emod_nonneg (3 * (j : Int) + turn) (show ((4 : Nat) : Int) ≠ 0 by decide)
      have h2 := Int.emod_lt_of_pos (3 * (j : Int) + turn) (show (0 : Int) < ((4 : Nat) : Int) by decide)
      (first | lia | omega)
    refine kd_of (hinv.good (by (first | lia | omega)) (by (first | lia | omega)) t0 ⟨l0, by (first | lia | omega)⟩ (fun p hp' => ⟨nm_low hc0l hsw hLl (by rw [Array.length_toList]; show p < lt.length; (first | lia | omega)), nm_len hsl ha'' (by (first | lia | omega))⟩) (fun p r hp' hr' e' => nm_inj hLi (by rw [Array.length_toList]; show p < lt.length; (first | lia | omega)) (by rw [Array.length_toList]; show r < lt.length; (first | lia | omega)) e')) (fun k hk => ?_) (fun k hk => ?_)
    · obtain ⟨i, hi⟩ := List.mem_iff_getElem?.mp hk
      rw [(hinv i k hi).1]
      exact nm_pos _
    · obtain ⟨i, hi⟩ := List.mem_iff_getElem?.mp hk
      rw [(hinv i k hi).1]
      exact nm_nq hc0q hsq hq0 (by rw [Array.length_toList]; show _ < lt.length; have := hb i; (first | lia | omega))
end
theorem okKinds_bad {ks : List (Str × Int)} {k : Str × Int} (hk : k ∈ ks) (h : okKind k = false) : okKinds ks = false := by
  have : ks.all okKind = false := by
    rw [Bool.eq_false_iff]
    intro z
    rw [List.all_eq_true] at z
    rw [z k hk] at h
    cases h
  unfold okKinds
  rw [this, Bool.false_and, Bool.and_false]
theorem okKinds_nozero {ks : List (Str × Int)} (h : (0 : Int) ∉ ks.map (·.2)) : okKinds ks = false := by
  unfold okKinds
  rw [decide_eq_false h, Bool.and_false, Bool.and_false, Bool.and_false]
theorem okKinds_dup {ks : List (Str × Int)} (h : ¬ (ks.map (·.1)).Nodup) : okKinds ks = false := by
  unfold okKinds
  rw [decide_eq_false h, Bool.false_and, Bool.and_false, Bool.and_false]
theorem okKind_name {n : Str} {m : Int} (h : okName n = false) : okKind (n, m) = false := by
  unfold okKind
  show (okName n && _) = false
  rw [h, Bool.false_and]
theorem okKind_num {n : Str} {m : Int} (h : ¬ (0 ≤ m ∧ m < 4)) : okKind (n, m) = false := by
  unfold okKind
  show (_ && decide (0 ≤ m ∧ m < 4)) = false
  rw [decide_eq_false h, Bool.and_false]
theorem okName_len {n : Str} (h : ¬ (1 ≤ n.length ∧ n.length ≤ 8)) : okName n = false := by
  unfold okName
  rw [decide_eq_false h, Bool.false_and]
theorem okName_sign {n : Str} {c : Nat} (hc : c ∈ n.cps.toList) (h : ¬ (97 ≤ c ∧ c ≤ 122)) : okName n = false := by
  have : low n = false := by
    unfold low
    rw [Bool.eq_false_iff]
    intro z
    rw [List.all_eq_true] at z
    exact h (of_decide_eq_true (z c hc))
  unfold okName
  rw [this, Bool.and_false]
theorem cutV_to {xs : List V} {n : Nat} (h : n ≤ xs.length) : cutV xs none (some (n : Int)) = xs.take n := by
  unfold cutV
  rw [HT.sIx_nat, HT.sIx_none, Nat.min_eq_left h, List.drop_zero, Nat.sub_zero]
theorem cutV_fromA {xs : List V} (n : Nat) : cutV xs (some (n : Int)) none = xs.drop n := by
  by_cases h : n ≤ xs.length
  · exact cutV_from h
  · unfold cutV
    rw [HT.sIx_nat, HT.sIx_none, Nat.min_eq_right (by (first | lia | omega)), List.drop_eq_nil_of_le (Nat.le_refl _), List.drop_eq_nil_of_le (by (first | lia | omega))]
    simp
def KsJ (H : Hp) (ka : Addr) (cell way at' : Int) (k0 : Str × Int) (S : Int → Prop) (σ' : St) (H' : Hp) : Prop := ∃ (pa : Addr) (n : Str) (m : Int), σ' = [some (.ref ka), some (.int cell), some (.int way), some (.int at'), some (.ref pa)] ∧ L2.Same H H' ∧ H' pa = some (.tup [.str n, .int m]) ∧ n.length ≤ 20 ∧ (S way → okKind (n, m) = false) ∧ (¬ S way → (n, m) = k0)
inductive Isp__law_kinds_spoilt (vs : List V) (H : Hp) (Q : VK) (_E : XK) : Prop
  | mk (ka : Addr) (kas : List Addr) (ks : List (Str × Int)) (cell : Int) (zz0 : vs = [.ref ka, .int cell]) (zz1 : H ka = some (.tup (kas.map V.ref))) (zz2 : KsAt H ks kas) (zz3 : Kd ks) (zz4 : ∀ (r : Addr) (kas' : List Addr) (ks' : List (Str × Int)) (H' : Hp), L2.Same H H' → H' r = some (.lst (kas'.map V.ref)) → KsAt H' ks' kas' → ks'.length ≤ 9 → (∀ k ∈ ks', k.1.length ≤ 100) → okKinds ks' = false → Q (.ref r) H') : Isp__law_kinds_spoilt  vs H Q _E
def sp__law_kinds_spoilt : Sp := Isp__law_kinds_spoilt 
section
variable {P : Program} {w : World} {K : PySem.W.Frag} {mg : Str → Option Value} {base : Heap} (T : TX K mg)
set_option maxHeartbeats 2000000 in
theorem ok__law_kinds_spoilt : FnOk P w K mg base CX0 2 T.f__law_kinds_spoilt T.d__law_kinds_spoilt ["kinds", "cell"] sp__law_kinds_spoilt := by
  refine T.F__law_kinds_spoilt.ok sc__law_kinds_spoilt (fun vs H Q E h => ?_) (fun cdv A outer s H vs Q E hr h => ?_)
  · obtain ⟨ka, kas, ks, cell, rfl, _⟩ := h
    rfl
  obtain ⟨ka, kas, ks, cell, rfl, ek, hks, kd, q⟩ := h
  refine ⟨_, (pss_cons (ps_set (i := 2) sc__law_kinds_spoilt.nd rfl (Or.inl rfl) (pe_op op_mod (pv 1) pe_int))
      (pss_cons (ps_set (i := 3) sc__law_kinds_spoilt.nd rfl (Or.inl rfl) (pe_op op_mod (pe_op op_fdiv (pv 1) pe_int) (pe_callB call_len_seq rfl T.n_len PySem.boot_len (pa_cons (pv 0) pa_nil))))
      (pss_cons (ps_set (i := 4) sc__law_kinds_spoilt.nd rfl (Or.inl rfl) (pe_ix ix_tup (pv 0) (pv 3) (fun _ _ => rfl)))
      (pss_cons (ps_if (pt_cmpR op_eq (pv 2) pe_int (nomark _)) (pss_one (ps_ret (pe_comp (N := [Str.ofString "kind"]) (js := [none]) (g := (gName 0)) (tt := tNoTest) (te := (tTup (tCons (tOp (rIxT K) (tVar 0) (tC (.int 0))) (tCons (tCB (fun xs H Q => ∃ i j, xs = [.int i, .int j] ∧ Q (.int (if j > i then j else i)) H) (tCons (tC (.int 1)) (tCons (tOp (rIxT K) (tVar 0) (tC (.int 1))) tNil))) tNil)))) rfl (cs_mk rfl (by decide +kernel) (by decide +kernel) rfl rfl rfl) (pi_tup (pv 0)) (fun _ _ _ _ _ _ => (pg_name (i := 0) nd_4 rfl (Or.inl rfl))) (gk_name rfl) (fun _ _ _ _ _ _ => pts_nil) (fun _ _ _ _ _ _ => (pe_tup (pa_cons (pe_ix ix_tup (pv 0) pe_int (fun _ _ => rfl)) (pa_cons (pe_callB (call_max2 rfl) rfl T.n_max PyProof.Rows.boot_max (pa_cons pe_int (pa_cons (pe_ix ix_tup (pv 0) pe_int (fun _ _ => rfl)) pa_nil))) pa_nil))))))) pss_nil)
      (pss_cons (ps_if (pt_cmpR op_eq (pv 2) pe_int (nomark _)) (pss_one (ps_ret (pe_op op_cat (pe_callTy call_list_of rfl T.n_list PyProof.Rows.boot_list (pa_cons (pv 0) pa_nil)) (pe_lst (pa_cons (pe_tup (pa_cons (pe_ix ix_tup (pv 4) pe_int (fun _ _ => rfl)) (pa_cons pe_int pa_nil))) pa_nil))))) pss_nil)
      (pss_cons (ps_if (pt_cmpR op_eq (pv 2) pe_int (nomark _)) (pss_one (ps_set (i := 4) sc__law_kinds_spoilt.nd rfl (Or.inl rfl) (pe_tup (pa_cons (pe_slice sl_str (pe_op op_add_str (pe_ix ix_tup (pv 4) pe_int (fun _ _ => rfl)) pe_str) po_none (po_some pe_int)) (pa_cons (pe_ix ix_tup (pv 4) pe_int (fun _ _ => rfl)) pa_nil))))) pss_nil)
      (pss_cons (ps_if (pt_cmpR op_eq (pv 2) pe_int (nomark _)) (pss_one (ps_set (i := 4) sc__law_kinds_spoilt.nd rfl (Or.inl rfl) (pe_tup (pa_cons (pe_op op_add_str (pe_op op_add_str (pe_slice sl_str (pe_ix ix_tup (pv 4) pe_int (fun _ _ => rfl)) po_none (po_some pe_int)) (pe_ix ix_list (pe_lst (pa_cons pe_str (pa_cons pe_str (pa_cons pe_str (pa_cons pe_str pa_nil))))) (pe_op op_mod (pe_op op_fdiv (pv 1) pe_int) pe_int) (fun _ _ => rfl))) (pe_slice sl_str (pe_ix ix_tup (pv 4) pe_int (fun _ _ => rfl)) (po_some pe_int) po_none)) (pa_cons (pe_ix ix_tup (pv 4) pe_int (fun _ _ => rfl)) pa_nil))))) pss_nil)
      (pss_cons (ps_if (pt_cmpR op_eq (pv 2) pe_int (nomark _)) (pss_one (ps_set (i := 4) sc__law_kinds_spoilt.nd rfl (Or.inl rfl) (pe_tup (pa_cons (pe_ix ix_list (pe_lst (pa_cons (pe_ix ix_tup (pv 4) pe_int (fun _ _ => rfl)) (pa_cons pe_str pa_nil))) (pe_op op_mod (pe_op op_fdiv (pv 1) pe_int) pe_int) (fun _ _ => rfl)) (pa_cons (pe_ix ix_list (pe_lst (pa_cons pe_int (pa_cons (pe_ix ix_tup (pv 4) pe_int (fun _ _ => rfl)) pa_nil))) (pe_op op_mod (pe_op op_fdiv (pv 1) pe_int) pe_int) (fun _ _ => rfl)) pa_nil))))) pss_nil)
      (pss_cons (ps_if (pt_cmpR op_eq (pv 2) pe_int (nomark _)) (pss_one (ps_set (i := 4) sc__law_kinds_spoilt.nd rfl (Or.inl rfl) (pe_tup (pa_cons (pe_ix ix_tup (pv 4) pe_int (fun _ _ => rfl)) (pa_cons (pe_op op_sub (pe_un un_neg pe_int) (pe_op op_mod (pe_op op_fdiv (pv 1) pe_int) (pe_op op_pow pe_int pe_int))) pa_nil))))) pss_nil)
      (pss_one (ps_ret (pe_op op_cat (pe_op op_cat (pe_callTy call_list_of rfl T.n_list PyProof.Rows.boot_list (pa_cons (pe_slice sl_tupA (pv 0) po_none (po_some (pv 3))) pa_nil)) (pe_lst (pa_cons (pv 4) pa_nil))) (pe_callTy call_list_of rfl T.n_list PyProof.Rows.boot_list (pa_cons (pe_slice sl_tupA (pv 0) (po_some (pe_op op_add (pv 3) pe_int)) po_none) pa_nil)))))))))))))), ?_⟩
  have hl : ks.length = kas.length := Paired.length hks
  have hne := kd.good.ne
  have hle := kd.good.le
  have hkl : (kas.map V.ref).length = ks.length := by rw [List.length_map]; (first | lia | omega)
  have hL : 0 < (((kas.map V.ref).length : Nat) : Int) := by (first | lia | omega)
  have w0 := Int.emod_nonneg cell (show (6 : Int) ≠ 0 by decide)
  have w1 := Int.emod_lt_of_pos cell (show (0 : Int) < 6 by decide)
  have a0 := Int.emod_nonneg (cell / 6) (Int.ne_of_gt hL)
  have a1 := Int.emod_lt_of_pos (cell / 6) hL
  refine ⟨_, rfl, _, _, rfl, rfl, (by show (0 : Int) < 6; decide), ?_⟩
  dsimp only [gName]
  generalize cell % 6 = way at w0 w1 ⊢
  refine ⟨_, rfl, _, _, rfl, rfl, ⟨by decide, by decide⟩, _, rfl, ka, _, rfl, .inr (SqT.of ek), _, _, rfl, rfl, hL, ?_⟩
  dsimp only
  obtain ⟨at', hat'⟩ : ∃ n : Nat, cell / 6 % (((kas.map V.ref).length : Nat) : Int) = (n : Int) := ⟨_, (Int.toNat_of_nonneg a0).symm⟩
  rw [hat'] at a1
  rw [hat']
  have hat : at' < ks.length := by (first | lia | omega)
  obtain ⟨k0, hk0⟩ : ∃ k0, ks[at']? = some k0 := ⟨_, List.getElem?_eq_getElem hat⟩
  obtain ⟨oa, hoa, eoa⟩ := P2.get hks hk0
  have hk0m := List.mem_of_getElem? hk0
  have hk0l := kd.good.low k0 hk0m
  have hk0n := kd.good.num k0 hk0m
  have hix : atI (kas.map V.ref) (at' : Int) = some (.ref oa) := at_nonneg (by (first | lia | omega)) (by rw [show ((at' : Int)).toNat = at' by (first | lia | omega), List.getElem?_map, hoa]; rfl)
  refine ⟨_, rfl, _, rfl, ka, _, _, .ref oa, rfl, rfl, SqT.of ek, hix, ?_⟩
  dsimp only
  -- way 0
  refine seq_intro (fun σ' H' => H = H' ∧ way ≠ 0 ∧ σ' = [some (.ref ka), some (.int cell), some (.int way), some (.int (at' : Int)), some (.ref oa)]) (fun kk hk => ?_) ?_
  · refine ⟨_, rfl, rfl, _, rfl, ?_⟩
    refine ite2 (fun c => ?_) (fun c => hk _ _ ⟨rfl, fun z => c (decide_eq_true (congrArg V.int z)), rfl⟩)
    refine ⟨_, rfl, ka, rfl, ⟨_, SqT.of ek⟩, comp_nw (F := KAt) (xs := kas.map V.ref) (ks.map fun k => (k.1, if k.2 > 1 then k.2 else 1)) (fun H1 H2 z p kt h => kt _ _ h) (by rw [List.length_map, List.length_map]; (first | lia | omega)) (by rw [List.length_map]; (first | lia | omega)) (fun i Hx sx hi => ⟨_, _, SqT.of (sx _ _ ek), List.getElem?_eq_getElem hi⟩) (fun Hx sx => ⟨_, SqT.of (sx _ _ ek), Nat.le_refl _⟩) (fun i Hx x Hy sx hi hy => ⟨hy.1, hy.2 _ (SqT.of (sx _ _ ek))⟩) (fun i y z Hx R W' hy hzz sx hR => ?_) (fun D H8 bs hD s8 eD hpD => ?_)⟩
    · obtain ⟨ka', rfl, hka'⟩ := get_ref hy
      obtain ⟨k', hk', ek'⟩ := P2.get' hks hka'
      rw [List.getElem?_map, hk'] at hzz
      cases hzz
      have e' := sx _ _ ek'
      exact ⟨_, rfl, ka', _, 0, .str k'.1, rfl, rfl, SqT.of e', at0, _, rfl, ka', _, 1, .int k'.2, rfl, rfl, SqT.of e', at1, _, _, rfl, line_le (by show 2 ≤ 1000000; decide), fun p hp => hR _ p (same_new hp _) upd_same⟩
    · refine q D bs _ H8 s8 eD hpD (by rw [List.length_map]; (first | lia | omega)) (fun k hk => ?_) (okKinds_nozero fun z => ?_)
      · obtain ⟨k', hk', rfl⟩ := List.mem_map.mp hk
        have := (kd.good.low k' hk').2
        show k'.1.length ≤ 100
        (first | lia | omega)
      · rw [List.map_map] at z
        obtain ⟨k', hk', e'⟩ := List.mem_map.mp z
        have e2 : (if k'.2 > 1 then k'.2 else 1) = 0 := e'
        split at e2 <;> (first | lia | omega)
  rintro σ' H' ⟨rfl, hw0, rfl⟩
  -- way 1
  refine seq_intro (fun σ' H' => H = H' ∧ way ≠ 1 ∧ σ' = [some (.ref ka), some (.int cell), some (.int way), some (.int (at' : Int)), some (.ref oa)]) (fun kk hk => ?_) ?_
  · refine ⟨_, rfl, rfl, _, rfl, ?_⟩
    refine ite2 (fun c => ?_) (fun c => hk _ _ ⟨rfl, fun z => c (decide_eq_true (congrArg V.int z)), rfl⟩)
    refine ⟨_, rfl, ka, _, rfl, .inr (SqT.of ek), fun l1 hl1 => ?_⟩
    have s1 : L2.Same H (upd H l1 (.lst (kas.map V.ref))) := same_new hl1 _
    have e1 : (upd H l1 (.lst (kas.map V.ref))) l1 = some (.lst (kas.map V.ref)) := upd_same
    generalize (upd H l1 (.lst (kas.map V.ref))) = H1 at s1 e1 ⊢
    refine ⟨_, rfl, oa, _, 0, .str k0.1, rfl, rfl, SqT.of (s1 _ _ eoa), at0, line_le (by show 2 ≤ 1000000; decide), fun p2 hp2 => ⟨line_le (by show 1 ≤ 1000000; decide), fun l3 hl3 => ?_⟩⟩
    have s2 : L2.Same H1 (upd H1 p2 (.tup [.str k0.1, .int 0])) := same_new hp2 _
    have e2 : (upd H1 p2 (.tup [.str k0.1, .int 0])) p2 = some (.tup [.str k0.1, .int 0]) := upd_same
    generalize (upd H1 p2 (.tup [.str k0.1, .int 0])) = H2 at s2 e2 hl3 ⊢
    have s3 : L2.Same H2 (upd H2 l3 (.lst [.ref p2])) := same_new hl3 _
    have e3 : (upd H2 l3 (.lst [.ref p2])) l3 = some (.lst [.ref p2]) := upd_same
    generalize (upd H2 l3 (.lst [.ref p2])) = H3 at s3 e3 ⊢
    have s13 := s2.trans s3
    refine ⟨l1, l3, _, _, rfl, rfl, s13 _ _ e1, e3, line_le (by rw [hkl]; show _ + 1 ≤ 1000000; (first | lia | omega)), fun l4 hl4 => ?_⟩
    have s04 := s1.trans (s13.trans (same_new hl4 (.lst (kas.map V.ref ++ [.ref p2]))))
    refine q l4 (kas ++ [p2]) (ks ++ [(k0.1, 0)]) _ s04 (by rw [upd_same, List.map_append]; rfl) (P2.append (hks.mono (Same.kt s04)) (.cons ((s3.trans (same_new hl4 _)) _ _ e2) .nil)) (by rw [List.length_append]; show _ + 1 ≤ 9; (first | lia | omega)) (fun k hk => ?_) (okKinds_dup fun z => ?_)
    · rcases List.mem_append.mp hk with h | h
      · have := (kd.good.low k h).2
        (first | lia | omega)
      · rw [List.mem_singleton.mp h]
        show k0.1.length ≤ 100
        (first | lia | omega)
    · rw [List.map_append] at z
      have := (List.nodup_append.mp z).2.2 k0.1 (List.mem_map.mpr ⟨k0, hk0m, rfl⟩) k0.1 (List.mem_map.mpr ⟨(k0.1, 0), List.mem_singleton.mpr rfl, rfl⟩)
      exact this rfl
  rintro σ' H' ⟨rfl, hw1, rfl⟩
  -- way 2
  refine seq_intro (KsJ H ka cell way at' k0 fun w => w = 2) (fun kk hk => ?_) ?_
  · refine ⟨_, rfl, rfl, _, rfl, ?_⟩
    refine ite2 (fun c => ?_) (fun c => hk _ _ ⟨oa, k0.1, k0.2, rfl, .refl _, eoa, by (first | lia | omega), fun z => absurd (decide_eq_true (congrArg V.int z)) c, fun _ => rfl⟩)
    have h9 : (Str.ofString "abcdefghi").length = 9 := by decide +kernel
    refine ⟨_, rfl, oa, _, 0, .str k0.1, rfl, rfl, SqT.of eoa, at0, k0.1, _, rfl, rfl, line_le (by rw [h9]; (first | lia | omega)), _, rfl, _, rfl, line_le (by rw [strLen_append, h9]; (first | lia | omega)), _, rfl, oa, _, 1, .int k0.2, rfl, rfl, SqT.of eoa, at1, line_le (by show 2 ≤ 1000000; decide), fun p hp => ?_⟩
    have hc := (cutS_head (z := k0.1 ++ Str.ofString "abcdefghi") (n := 9) (by rw [strLen_append, h9]; (first | lia | omega))).2
    have hc' : (cutS (k0.1 ++ Str.ofString "abcdefghi") none (some 9)).length = 9 := hc
    exact hk _ _ ⟨p, _, _, rfl, same_new hp _, upd_same, by (first | lia | omega), fun _ => okKind_name (okName_len (by (first | lia | omega))), fun z => absurd (V.int.inj (of_decide_eq_true c)) z⟩
  rintro σ' H2 ⟨oa, n, m, rfl, s2, eoa, hn, hb, hg⟩
  -- way 3
  refine seq_intro (KsJ H ka cell way at' k0 fun w => w = 2 ∨ w = 3) (fun kk hk => ?_) ?_
  · refine ⟨_, rfl, rfl, _, rfl, ?_⟩
    refine ite2 (fun c => ?_) (fun c => ?_)
    · have x0 := Int.emod_nonneg (cell / 30) (show (4 : Int) ≠ 0 by decide)
      have x1 := Int.emod_lt_of_pos (cell / 30) (show (0 : Int) < 4 by decide)
      obtain ⟨x, hx, cx, hcx, hbx, hlx⟩ : ∃ x : Str, atI [V.str (Str.ofString "A"), V.str (Str.ofString " "), V.str (Str.ofString "?"), V.str (Str.ofString "1")] (cell / 30 % 4) = some (.str x) ∧ ∃ cx, cx ∈ x.cps.toList ∧ ¬ (97 ≤ cx ∧ cx ≤ 122) ∧ x.length = 1 := by
        rcases (by (first | lia | omega) : cell / 30 % 4 = 0 ∨ cell / 30 % 4 = 1 ∨ cell / 30 % 4 = 2 ∨ cell / 30 % 4 = 3) with z | z | z | z <;> rw [z]
        · exact ⟨_, rfl, 65, by decide +kernel, by (first | lia | omega), by decide +kernel⟩
        · exact ⟨_, rfl, 32, by decide +kernel, by (first | lia | omega), by decide +kernel⟩
        · exact ⟨_, rfl, 63, by decide +kernel, by (first | lia | omega), by decide +kernel⟩
        · exact ⟨_, rfl, 49, by decide +kernel, by (first | lia | omega), by decide +kernel⟩
      have hn8 : n.length ≤ 8 := by
        have h3 : way = 3 := V.int.inj (of_decide_eq_true c)
        have hkk := congrArg Prod.fst (hg (by (first | lia | omega)))
        have hkk' : n = k0.1 := hkk
        rw [hkk']
        exact hk0l.2
      have hc1 := cutS_length n none (some 1)
      have hc2 := cutS_length n (some 2) none
      refine ⟨_, rfl, oa, _, 0, .str n, rfl, rfl, SqT.of eoa, at0, _, rfl, n, rfl, line_le (by (first | lia | omega)), line_le (by show 4 ≤ 1000000; decide), fun ll hll => ?_⟩
      have s3 := s2.trans (same_new hll (.lst [V.str (Str.ofString "A"), V.str (Str.ofString " "), V.str (Str.ofString "?"), V.str (Str.ofString "1")]))
      have eoa3 := (same_new hll (.lst [V.str (Str.ofString "A"), V.str (Str.ofString " "), V.str (Str.ofString "?"), V.str (Str.ofString "1")])) _ _ eoa
      refine ⟨_, rfl, _, _, rfl, rfl, ⟨by decide, by decide⟩, _, _, rfl, rfl, (by show (0 : Int) < 4; decide), ll, _, _, .str x, rfl, rfl, SqL.of upd_same, hx, _, _, rfl, rfl, line_le (by (first | lia | omega)), _, rfl, oa, _, 0, .str n, rfl, rfl, SqT.of eoa3, at0, _, rfl, n, rfl, line_le (by (first | lia | omega)), _, _, rfl, rfl, line_le (by rw [strLen_append]; (first | lia | omega)), _, rfl, oa, _, 1, .int m, rfl, rfl, SqT.of eoa3, at1, line_le (by show 2 ≤ 1000000; decide), fun p hp => ?_⟩
      refine hk _ _ ⟨p, _, _, rfl, s3.trans (same_new hp _), upd_same, by rw [strLen_append, strLen_append]; (first | lia | omega), fun _ => okKind_name (okName_sign (c := cx) ?_ hbx), fun z => absurd (.inr (V.int.inj (of_decide_eq_true c))) z⟩
      show cx ∈ ((cutS n none (some 1)).cps ++ x.cps ++ (cutS n (some 2) none).cps).toList
      rw [Array.toList_append, Array.toList_append]
      exact List.mem_append_left _ (List.mem_append_right _ hcx)
    · have c3 : way ≠ 3 := fun z => c (decide_eq_true (congrArg V.int z))
      exact hk _ _ ⟨oa, n, m, rfl, s2, eoa, hn, fun z => hb (z.elim id fun y => absurd y c3), fun z => hg fun y => z (.inl y)⟩
  clear hn hb hg eoa s2
  rintro σ' H3 ⟨oa, n, m, rfl, s2, eoa, hn, hb, hg⟩
  -- way 4
  refine seq_intro (KsJ H ka cell way at' k0 fun w => w = 2 ∨ w = 3 ∨ w = 4) (fun kk hk => ?_) ?_
  · refine ⟨_, rfl, rfl, _, rfl, ?_⟩
    refine ite2 (fun c => ?_) (fun c => ?_)
    · have x0 := Int.emod_nonneg (cell / 30) (show (2 : Int) ≠ 0 by decide)
      have x1 := Int.emod_lt_of_pos (cell / 30) (show (0 : Int) < 2 by decide)
      obtain ⟨x, y, hx, hy, hb2, hlx⟩ : ∃ (x : Str) (y : Int), atI [V.str n, V.str (Str.ofString "")] (cell / 30 % 2) = some (.str x) ∧ atI [V.int 4, V.int m] (cell / 30 % 2) = some (.int y) ∧ okKind (x, y) = false ∧ x.length ≤ 20 := by
        rcases (by (first | lia | omega) : cell / 30 % 2 = 0 ∨ cell / 30 % 2 = 1) with z | z <;> rw [z]
        · exact ⟨n, 4, rfl, rfl, okKind_num (by (first | lia | omega)), hn⟩
        · exact ⟨_, m, rfl, rfl, okKind_name (okName_len (by decide +kernel)), by decide +kernel⟩
      refine ⟨_, rfl, oa, _, 0, .str n, rfl, rfl, SqT.of eoa, at0, line_le (by show 2 ≤ 1000000; decide), fun l1 hl1 => ?_⟩
      have t1 := same_new hl1 (.lst [V.str n, V.str (Str.ofString "")])
      refine ⟨_, rfl, _, _, rfl, rfl, ⟨by decide, by decide⟩, _, _, rfl, rfl, (by show (0 : Int) < 2; decide), l1, _, _, .str x, rfl, rfl, SqL.of upd_same, hx, _, rfl, oa, _, 1, .int m, rfl, rfl, SqT.of (t1 _ _ eoa), at1, line_le (by show 2 ≤ 1000000; decide), fun l2 hl2 => ?_⟩
      have t2 := same_new hl2 (.lst [V.int 4, V.int m])
      refine ⟨_, rfl, _, _, rfl, rfl, ⟨by decide, by decide⟩, _, _, rfl, rfl, (by show (0 : Int) < 2; decide), l2, _, _, .int y, rfl, rfl, SqL.of upd_same, hy, line_le (by show 2 ≤ 1000000; decide), fun p hp => ?_⟩
      exact hk _ _ ⟨p, _, _, rfl, s2.trans (t1.trans (t2.trans (same_new hp _))), upd_same, hlx, fun _ => hb2, fun z => absurd (.inr (.inr (V.int.inj (of_decide_eq_true c)))) z⟩
    · have c3 : way ≠ 4 := fun z => c (decide_eq_true (congrArg V.int z))
      exact hk _ _ ⟨oa, n, m, rfl, s2, eoa, hn, fun z => hb (by (first | lia | omega)), fun z => hg (by (first | lia | omega))⟩
  clear hn hb hg eoa s2
  rintro σ' H4 ⟨oa, n, m, rfl, s2, eoa, hn, hb, hg⟩
  -- way 5
  refine seq_intro (KsJ H ka cell way at' k0 fun w => 2 ≤ w) (fun kk hk => ?_) ?_
  · refine ⟨_, rfl, rfl, _, rfl, ?_⟩
    refine ite2 (fun c => ?_) (fun c => ?_)
    · have x0 := Int.emod_nonneg (cell / 30) (show (10 : Int) ^ 9 ≠ 0 by decide)
      refine ⟨_, rfl, oa, _, 0, .str n, rfl, rfl, SqT.of eoa, at0, _, rfl, _, rfl, _, _, rfl, rfl, ⟨by decide, by decide⟩, _, _, rfl, rfl, ⟨by decide, by decide, by decide⟩, _, _, rfl, rfl, (by show (0 : Int) < 10 ^ 9; decide), _, _, rfl, rfl, line_le (by show 2 ≤ 1000000; decide), fun p hp => ?_⟩
      refine hk _ _ ⟨p, _, _, rfl, s2.trans (same_new hp _), upd_same, hn, fun _ => okKind_num fun z => ?_, fun z => absurd (by have := V.int.inj (of_decide_eq_true c); (first | lia | omega)) z⟩
      have z1 := z.1
      have x0' : 0 ≤ cell / 30 % 10 ^ (9 : Int).toNat := x0
      (first | lia | omega)
    · have c3 : way ≠ 5 := fun z => c (decide_eq_true (congrArg V.int z))
      exact hk _ _ ⟨oa, n, m, rfl, s2, eoa, hn, fun z => hb (by (first | lia | omega)), fun z => hg (by (first | lia | omega))⟩
  clear hn hb hg eoa s2
  rintro σ' H5 ⟨oa, n, m, rfl, s2, eoa, hn, hb, hg⟩
  have hbad := hb (by (first | lia | omega))
  refine ⟨_, rfl, _, rfl, _, rfl, ka, _, rfl, s2 _ _ ek, fun p1 H6 s6 e6 => ⟨p1, _, rfl, .inr (SqT.of e6), fun l1 hl1 => ?_⟩⟩
  rw [cutV_to (by (first | lia | omega))] at e6 ⊢
  have t1 := same_new hl1 (.lst ((kas.map V.ref).take at'))
  have e7 : (upd H6 l1 (.lst ((kas.map V.ref).take at'))) l1 = some (.lst ((kas.map V.ref).take at')) := upd_same
  generalize (upd H6 l1 (.lst ((kas.map V.ref).take at'))) = H7 at t1 e7 ⊢
  have s7 := s2.trans (s6.trans t1)
  refine ⟨_, rfl, line_le (by show 1 ≤ 1000000; decide), fun l2 hl2 => ?_⟩
  have t2 := same_new hl2 (.lst [.ref oa])
  have e8 : (upd H7 l2 (.lst [.ref oa])) l2 = some (.lst [.ref oa]) := upd_same
  generalize (upd H7 l2 (.lst [.ref oa])) = H8 at t2 e8 ⊢
  refine ⟨l1, l2, _, _, rfl, rfl, t2 _ _ e7, e8, line_le (by rw [List.length_take, hkl]; show _ + 1 ≤ 1000000; (first | lia | omega)), fun l3 hl3 => ?_⟩
  have t3 := same_new hl3 (.lst ((kas.map V.ref).take at' ++ [.ref oa]))
  have e9 : (upd H8 l3 (.lst ((kas.map V.ref).take at' ++ [.ref oa]))) l3 = some (.lst ((kas.map V.ref).take at' ++ [.ref oa])) := upd_same
  generalize (upd H8 l3 (.lst ((kas.map V.ref).take at' ++ [.ref oa]))) = H9 at t3 e9 ⊢
  have s9 := s7.trans (t2.trans t3)
  refine ⟨_, rfl, _, rfl, _, _, rfl, rfl, _, rfl, ka, _, rfl, s9 _ _ ek, fun p4 HA sA eA => ⟨p4, _, rfl, .inr (SqT.of eA), fun l5 hl5 => ?_⟩⟩
  have hat1 : ((at' : Int) + 1) = ((at' + 1 : Nat) : Int) := by (first | lia | omega)
  rw [hat1, cutV_fromA] at eA ⊢
  have t5 := same_new hl5 (.lst ((kas.map V.ref).drop (at' + 1)))
  have eB : (upd HA l5 (.lst ((kas.map V.ref).drop (at' + 1)))) l5 = some (.lst ((kas.map V.ref).drop (at' + 1))) := upd_same
  generalize (upd HA l5 (.lst ((kas.map V.ref).drop (at' + 1)))) = HB at t5 eB ⊢
  refine ⟨l3, l5, _, _, rfl, rfl, (sA.trans t5) _ _ e9, eB, line_le (by rw [List.length_append, List.length_take, List.length_drop, hkl]; show _ + 1 + _ ≤ 1000000; (first | lia | omega)), fun l6 hl6 => ?_⟩
  have t6 := same_new hl6 (.lst ((kas.map V.ref).take at' ++ [.ref oa] ++ (kas.map V.ref).drop (at' + 1)))
  have sF := s9.trans (sA.trans (t5.trans t6))
  have ktF := Same.kt sF
  have hmem : ∀ k ∈ ks.take at' ++ [(n, m)] ++ ks.drop (at' + 1), k.1.length ≤ 100 := fun k hk => by
    rcases List.mem_append.mp hk with h | h
    · rcases List.mem_append.mp h with h | h
      · have := (kd.good.low k (List.mem_of_mem_take h)).2
        (first | lia | omega)
      · rw [List.mem_singleton.mp h]
        show n.length ≤ 100
        (first | lia | omega)
    · have := (kd.good.low k (List.mem_of_mem_drop h)).2
      (first | lia | omega)
  refine q l6 (kas.take at' ++ [oa] ++ kas.drop (at' + 1)) (ks.take at' ++ [(n, m)] ++ ks.drop (at' + 1)) _ sF ?_ ?_ ?_ hmem (okKinds_bad (List.mem_append_left _ (List.mem_append_right _ (List.mem_singleton.mpr rfl))) hbad)
  · rw [upd_same, List.map_append, List.map_append, List.map_take, List.map_drop]; rfl
  · exact P2.append (P2.append (P2.take _ (hks.mono ktF)) (.cons ((s6.trans (t1.trans (t2.trans (t3.trans (sA.trans (t5.trans t6)))))) _ _ eoa) .nil)) (P2.drop _ (hks.mono ktF))
  · rw [List.length_append, List.length_append, List.length_take, List.length_drop]
    show _ + 1 + _ ≤ 9
    (first | lia | omega)
end
theorem fpb_call {ks : List (Str × Int)} {st kd s k : Int} (h : ¬ (0 ≤ s ∧ s < st ∧ 0 ≤ k ∧ k < kd)) : fpb ks st kd (.call s k) = false := by
  rw [fpb_eq, okP]
  have : (decide (0 ≤ s ∧ s < st) && decide (0 ≤ k ∧ k < kd)) = false := by
    rw [Bool.eq_false_iff]
    intro z
    rw [Bool.and_eq_true, decide_eq_true_eq, decide_eq_true_eq] at z
    exact h ⟨z.1.1, z.1.2, z.2.1, z.2.2⟩
  rw [this, Bool.false_and]
theorem fpb_knot {ks : List (Str × Int)} {st kd : Int} {n : Str} {ts : List Th} (h : manyOf ks n ≠ ((ts.length : Nat) : Int)) : fpb ks st kd (.knot n ts) = false := by
  rw [fpb_eq, okP, decide_eq_false h, Bool.false_and]
theorem manyOf_no {n : Str} : ∀ {ks : List (Str × Int)}, (∀ k ∈ ks, k.1 ≠ n) → manyOf ks n = -1
  | [], _ => rfl
  | k :: ks, h => by
    rw [manyOf, if_neg (h k (List.mem_cons_self ..))]
    exact manyOf_no fun k' hk' => h k' (List.mem_cons_of_mem _ hk')
theorem knot_rep {K : PySem.W.Frag} {H : Hp} {p1 p2 lf : Addr} {nm : Str} {lt : Th} {n : Int} {Q : VK} (e1 : H p1 = some (.tup [.str nm])) (e2 : H p2 = some (.tup [.ref lf])) (hl : At H lt lf) (hq : nm ≠ q) (h0 : 0 ≤ n) (h1 : n ≤ 10) (hQ : ∀ r H', L2.Same H H' → At H' (.knot nm (List.replicate n.toNat lt)) r → Q (.ref r) H') : rMulT (.ref p2) (.int n) H (fun y H3 => rCatA K (.ref p1) y H3 Q) := by
  refine mulT e2 h0 (by (first | lia | omega)) fun p3 H3 s3 e3 => ?_
  refine catT (s3 _ _ e1) e3 (by rw [List.length_replicate]; show 1 + n.toNat ≤ 1000000; (first | lia | omega)) fun p4 H4 s4 e4 => ?_
  refine hQ p4 H4 (s3.trans s4) ?_
  rw [At]
  refine ⟨hq, List.replicate n.toNat lf, ?_, (Ats.rep hl _).mono (Same.kt (s3.trans s4))⟩
  rw [e4, List.map_replicate]
  rfl
inductive Isp__law_spoilt (n : Nat) (vs : List V) (H : Hp) (Q : VK) (_E : XK) : Prop
  | mk (pa oa : Addr) (oas : List Addr) (outs : List (Str × Int)) (t : Th) (st kd cell : Int) (zz0 : vs = [.ref pa, .ref oa, .int st, .int kd, .int cell]) (zz1 : At H t pa) (zz2 : t.tall ≤ n) (zz3 : t.size ≤ 1000) (zz4 : H oa = some (.tup (oas.map V.ref))) (zz5 : KsAt H outs oas) (zz6 : Kd outs) (zz7 : ∀ (r : Addr) (t' : Th) (H' : Hp), L2.Same H H' → At H' t' r → fpb outs st kd t' = false → t'.size ≤ t.size + 5 → Q (.ref r) H') : Isp__law_spoilt n vs H Q _E
def sp__law_spoilt (n : Nat) : Sp := Isp__law_spoilt n
section
variable {P : Program} {w : World} {K : PySem.W.Frag} {mg : Str → Option Value} {base : Heap} (T : TX K mg)
set_option maxHeartbeats 2000000 in
theorem ok__law_spoilt : ∀ n : Nat, FnOk P w K mg base CX0 (n + 2) T.f__law_spoilt T.d__law_spoilt ["pattern", "outs", "states", "kids", "cell"] (sp__law_spoilt n)
  | 0 => ⟨fun _ _ _ _ h => by obtain ⟨_, _, _, _, t, _, _, _, _, _, h1, _⟩ := h; have := t.tall_eq; (first | lia | omega), fun _ _ _ _ _ _ _ _ _ _ _ _ _ h => by obtain ⟨_, _, _, _, t, _, _, _, _, _, h1, _⟩ := h; have := t.tall_eq; (first | lia | omega)⟩
  | n + 1 => by
    have ih := ok__law_spoilt n
    refine T.F__law_spoilt.ok sc__law_spoilt (fun vs H Q E h => ?_) (fun cdv A outer s H vs Q E hr h => ?_)
    · obtain ⟨pa, oa, oas, outs, t, st, kd, cell, rfl, _⟩ := h
      rfl
    obtain ⟨pa, oa, oas, outs, t, st, kd, cell, rfl, hA, htall, hsz, eo, hks, hkd, q⟩ := h
    refine ⟨_, (pss_cons (ps_if (PW.pt (pw_and (pt_cmpR op_gt (pe_callB call_len_seq rfl T.n_len PySem.boot_len (pa_cons (pv 0) pa_nil)) pe_int (nomark _)) (pw_and (pt_cmpR op_ne (pe_ix ix_tup (pv 0) pe_int (fun _ _ => rfl)) pe_str (nomark _)) (pw_and1 (pt_cmpR op_gt (pe_op op_mod (pv 4) pe_int) pe_int (nomark _)))))) (pss_cons (ps_set (i := 5) sc__law_spoilt.nd rfl (Or.inl rfl) (pe_op op_add pe_int (pe_op op_mod (pe_op op_fdiv (pv 4) pe_int) (pe_op op_sub (pe_callB call_len_seq rfl T.n_len PySem.boot_len (pa_cons (pv 0) pa_nil)) pe_int))))
      (pss_cons (ps_set (i := 6) sc__law_spoilt.nd rfl (Or.inl rfl) (pe_call (ih) (hr.mono (Nat.le_refl _)) rfl T.m__law_spoilt T.F__law_spoilt.kp T.b__law_spoilt .nil pass0 (pa_cons (pe_ix ix_tup (pv 0) (pv 5) (fun _ _ => rfl)) (pa_cons (pv 1) (pa_cons (pv 2) (pa_cons (pv 3) (pa_cons (pe_call (ok__law_turn T) (hr.mono (by first | decide | (first | lia | omega))) rfl T.m__law_turn T.F__law_turn.kp T.b__law_turn .nil pass0 (pa_cons (pv 4) (pa_cons pe_int pa_nil))) pa_nil)))))))
      (pss_one (ps_ret (pe_op op_catA (pe_op op_catA (pe_slice sl_tupA (pv 0) po_none (po_some (pv 5))) (pe_tup (pa_cons (pv 6) pa_nil))) (pe_slice sl_tupA (pv 0) (po_some (pe_op op_add (pv 5) pe_int)) po_none)))))) pss_nil)
      (pss_cons (ps_set (i := 7) sc__law_spoilt.nd rfl (Or.inl rfl) (pe_op op_mod (pe_op op_fdiv (pv 4) pe_int) pe_int))
      (pss_cons (ps_if (pt_cmpR op_eq (pv 7) pe_int (nomark _)) (pss_one (ps_ret (pe_tup (pa_cons pe_str (pa_cons (pe_op op_add (pv 2) (pe_op op_mod (pe_op op_fdiv (pv 4) pe_int) (pe_op op_pow pe_int pe_int))) (pa_cons pe_int pa_nil)))))) pss_nil)
      (pss_cons (ps_if (pt_cmpR op_eq (pv 7) pe_int (nomark _)) (pss_one (ps_ret (pe_tup (pa_cons pe_str (pa_cons (pe_un un_neg pe_int) (pa_cons pe_int pa_nil)))))) pss_nil)
      (pss_cons (ps_if (pt_cmpR op_eq (pv 7) pe_int (nomark _)) (pss_one (ps_ret (pe_tup (pa_cons pe_str (pa_cons pe_int (pa_cons (pe_op op_add (pv 3) (pe_op op_mod (pe_op op_fdiv (pv 4) pe_int) (pe_op op_pow pe_int pe_int))) pa_nil)))))) pss_nil)
      (pss_cons (ps_if (pt_cmpR op_eq (pv 7) pe_int (nomark _)) (pss_one (ps_ret (pe_tup (pa_cons pe_str (pa_cons pe_int (pa_cons (pe_un un_neg pe_int) pa_nil)))))) pss_nil)
      (pss_cons (ps_set (i := 8) sc__law_spoilt.nd rfl (Or.inl rfl) (pe_ix ix_tup (pv 1) (pe_op op_mod (pe_op op_fdiv (pv 4) pe_int) (pe_callB call_len_seq rfl T.n_len PySem.boot_len (pa_cons (pv 1) pa_nil))) (fun _ _ => rfl)))
      (pss_cons (ps_set (i := 9) sc__law_spoilt.nd rfl (Or.inl rfl) (pe_tup (pa_cons (pe_ix ix_tup (pe_call (ok__law_leaf T) (hr.mono (by first | decide | (first | lia | omega))) rfl T.m__law_leaf T.F__law_leaf.kp T.b__law_leaf .nil pass0 (pa_cons (pv 1) (pa_cons (pv 4) pa_nil))) pe_int (fun _ _ => rfl)) pa_nil)))
      (pss_cons (ps_if (pt_cmpR op_eq (pv 7) pe_int (nomark _)) (pss_one (ps_ret (pe_op op_catA (pe_tup (pa_cons (pe_op op_add_str (pe_op op_add_str pe_str (pe_slice sl_str (pe_ix ix_tup (pv 8) pe_int (fun _ _ => rfl)) (po_some pe_int) po_none)) pe_str) pa_nil)) (pe_op op_mulT (pe_tup (pa_cons (pv 9) pa_nil)) (pe_ix ix_tup (pv 8) pe_int (fun _ _ => rfl)))))) pss_nil)
      (pss_one (ps_ret (pe_op op_catA (pe_tup (pa_cons (pe_ix ix_tup (pv 8) pe_int (fun _ _ => rfl)) pa_nil)) (pe_op op_mulT (pe_tup (pa_cons (pv 9) pa_nil)) (pe_op op_sub (pe_op op_add (pe_ix ix_tup (pv 8) pe_int (fun _ _ => rfl)) pe_int) (pe_op op_mul pe_int (pe_callTy call_int1 rfl T.n_int PyProof.Rows.boot_int (pa_cons (pe_and (pe_cmpR op_gt (pe_ix ix_tup (pv 8) pe_int (fun _ _ => rfl)) pe_int (nomark _)) (pe_one (pe_cmpR op_eq (pe_op op_mod (pe_op op_fdiv (pv 4) pe_int) pe_int) pe_int (nomark _)))) pa_nil))))))))))))))))), ?_⟩
    have hkl : outs.length = oas.length := Paired.length hks
    have hk1 := hkd.good.ne
    have hk8 := hkd.good.le
    have htp := size_pos t
    obtain ⟨nm, tl, epa, hcase⟩ : ∃ nm tl, H pa = some (.tup (.str nm :: tl)) ∧ (nm ≠ BB.q → ∃ ks kas, t = .knot nm ks ∧ tl = kas.map V.ref ∧ Ats H ks kas) := by
      cases t with
      | call s k =>
        rw [At] at hA
        exact ⟨_, _, hA, fun z => absurd rfl z⟩
      | knot m ks =>
        rw [At] at hA
        obtain ⟨_, kas, e1, h1⟩ := hA
        exact ⟨_, _, e1, fun _ => ⟨ks, kas, rfl, rfl, h1⟩⟩
    refine seq_intro (fun σ' H' => H = H' ∧ σ' = [some (.ref pa), some (.ref oa), some (.int st), some (.int kd), some (.int cell), none, none, none, none, none]) (fun kk hk => ?_) ?_
    · refine if_intro (fun b H' => H = H' ∧ (b = true → nm ≠ BB.q ∧ 1 ≤ tl.length)) (fun k2 hk2 => ?_) (fun H' hb => ?_) (fun H' hb => ?_)
      · refine ⟨_, rfl, pa, _, rfl, .inr (SqT.of epa), _, _, rfl, rfl, _, rfl, ?_⟩
        refine ite2 (fun c1 => ?_) (fun c1 => hk2 _ _ ⟨rfl, fun z => by cases z⟩)
        refine ⟨_, rfl, pa, _, 0, .str nm, rfl, rfl, SqT.of epa, at0, rfl, _, rfl, ?_⟩
        refine ite2 (fun c2 => ?_) (fun c2 => hk2 _ _ ⟨rfl, fun z => by cases z⟩)
        refine ⟨_, rfl, _, _, rfl, rfl, (by show (0 : Int) < 3; decide), _, _, rfl, rfl, _, rfl, hk2 _ _ ⟨rfl, fun _ => ⟨fun z => ?_, ?_⟩⟩⟩
        · rw [z] at c2
          exact absurd c2 (by decide +kernel)
        · have : (1 : Int) < ((V.str nm :: tl).length : Int) := of_decide_eq_true c1
          rw [List.length_cons] at this
          (first | lia | omega)
      · obtain ⟨rfl, hb⟩ := hb
        obtain ⟨hnq, htl⟩ := hb rfl
        obtain ⟨ks, kas, rfl, rfl, hats⟩ := hcase hnq
        have hal := hats.length
        rw [List.length_map] at htl
        have hll : ((V.str nm :: kas.map V.ref).length : Int) - 1 = (ks.length : Int) := by rw [List.length_cons, List.length_map]; (first | lia | omega)
        have hL : (0 : Int) < ((V.str nm :: kas.map V.ref).length : Int) - 1 := by (first | lia | omega)
        have j0 := Int.emod_nonneg (cell / 3) (Int.ne_of_gt hL)
        have j1 := Int.emod_lt_of_pos (cell / 3) hL
        refine ⟨_, rfl, _, _, rfl, rfl, ⟨by decide, by decide⟩, _, rfl, pa, _, rfl, .inr (SqT.of epa), _, _, rfl, rfl, _, _, rfl, rfl, hL, _, _, rfl, rfl, ?_⟩
        dsimp only [gName]
        obtain ⟨j, hj⟩ : ∃ j : Nat, cell / 3 % (((V.str nm :: kas.map V.ref).length : Int) - 1) = (j : Int) := ⟨_, (Int.toNat_of_nonneg j0).symm⟩
        rw [hj] at j1
        rw [hj]
        have hjl : j < ks.length := by (first | lia | omega)
        have ej : 1 + (j : Int) = ((j + 1 : Nat) : Int) := by (first | lia | omega)
        rw [ej]
        obtain ⟨ka, hka⟩ : ∃ ka, kas[j]? = some ka := ⟨_, List.getElem?_eq_getElem (by (first | lia | omega))⟩
        obtain ⟨u, hu, hat⟩ := hats.get hka
        have hut : u.tall ≤ talls ks := talls_le (List.mem_of_getElem? hu)
        have hus := size_mem (List.mem_of_getElem? hu)
        rw [Th.tall] at htall
        rw [Th.size] at hsz
        have hlsz := len_sizes ks
        refine ⟨_, rfl, _, rfl, pa, _, _, .ref ka, rfl, rfl, SqT.of epa, at_nonneg (by (first | lia | omega)) (by rw [Int.toNat_natCast, List.getElem?_cons_succ, List.getElem?_map, hka]; rfl), _, rfl, _, rfl, _, rfl, _, rfl, _, _, rfl, by decide, by decide, fun c2 _ _ => ?_⟩
        refine ⟨ka, oa, oas, outs, u, st, kd, c2, rfl, hat, by (first | lia | omega), by (first | lia | omega), eo, hks, hkd, fun r3 t3 H3 s3 h3 hf3 hs3 => ?_⟩
        refine ⟨_, rfl, _, rfl, _, rfl, pa, _, rfl, s3 _ _ epa, fun p4 H4 s4 e4 => ?_⟩
        dsimp only
        rw [cutV_to (by rw [List.length_cons, List.length_map]; (first | lia | omega)), List.take_succ_cons, ← List.map_take] at e4
        refine ⟨_, rfl, line_le (by show 1 ≤ 1000000; decide), fun p5 hp5 => ?_⟩
        have s5 := same_new hp5 (.tup [.ref r3])
        refine catT (s5 _ _ e4) upd_same (by rw [List.length_cons, List.length_map, List.length_take]; show min j kas.length + 1 + 1 ≤ 1000000; (first | lia | omega)) fun p6 H6 s6 e6 => ?_
        have s36 := s4.trans (s5.trans s6)
        refine ⟨_, rfl, _, rfl, _, _, rfl, rfl, _, rfl, pa, _, rfl, (s3.trans s36) _ _ epa, fun p7 H7 s7 e7 => ?_⟩
        have ej2 : ((j + 1 : Nat) : Int) + 1 = ((j + 2 : Nat) : Int) := by (first | lia | omega)
        rw [ej2, cutV_fromA, List.drop_succ_cons, ← List.map_drop] at e7
        refine catT (s7 _ _ e6) e7 (by rw [List.length_append, List.length_cons, List.length_map, List.length_take, List.length_map, List.length_drop]; show min j kas.length + 1 + 1 + (kas.length - (j + 1)) ≤ 1000000; (first | lia | omega)) fun p8 H8 s8 e8 => ?_
        have s38 := s36.trans (s7.trans s8)
        have hss := sizes_set (x := t3) hu
        refine q p8 (.knot nm (ks.set j t3)) H8 (s3.trans s38) ?_ (fpb_set hjl hf3) ?_
        · rw [At]
          refine ⟨hnq, kas.set j r3, ?_, (hats.mono (Same.kt (s3.trans s38))).set _ (h3.mono (Same.kt s38))⟩
          rw [e8]
          have : kas.set j r3 = kas.take j ++ r3 :: kas.drop (j + 1) := List.set_eq_take_append_cons_drop .. |>.trans (if_pos (by (first | lia | omega)))
          rw [this]
          simp
        · rw [Th.size, Th.size]
          (first | lia | omega)
      · obtain ⟨rfl, _⟩ := hb
        exact hk _ _ ⟨rfl, rfl⟩
    rintro σ' H' ⟨rfl, rfl⟩
    have w0 := Int.emod_nonneg (cell / 9) (show (6 : Int) ≠ 0 by decide)
    have w1 := Int.emod_lt_of_pos (cell / 9) (show (0 : Int) < 6 by decide)
    refine ⟨_, rfl, _, _, rfl, rfl, ⟨by decide, by decide⟩, _, _, rfl, rfl, (by show (0 : Int) < 6; decide), ?_⟩
    dsimp only [gName]
    generalize cell / 9 % 6 = way at w0 w1 ⊢
    have x0 := Int.emod_nonneg (cell / 54) (show (10 : Int) ^ 9 ≠ 0 by decide)
    have callQ : ∀ (s k : Int) (ca : Addr), H ca = none → ¬ (0 ≤ s ∧ s < st ∧ 0 ≤ k ∧ k < kd) → Q (.ref ca) (upd H ca (.tup [.str BB.q, .int s, .int k])) := fun s k ca hca hno => by
      refine q ca (.call s k) _ (same_new hca _) ?_ (fpb_call hno) ?_
      · rw [At]
        exact upd_same
      · rw [Th.size]
        (first | lia | omega)
    refine seq_intro (fun σ' H' => H = H' ∧ way ≠ 0 ∧ σ' = [some (.ref pa), some (.ref oa), some (.int st), some (.int kd), some (.int cell), none, none, some (.int way), none, none]) (fun kk hk => ?_) ?_
    · refine ⟨_, rfl, rfl, _, rfl, ?_⟩
      refine ite2 (fun c => ?_) (fun c => hk _ _ ⟨rfl, fun z => c (decide_eq_true (congrArg V.int z)), rfl⟩)
      refine ⟨_, rfl, _, rfl, _, _, rfl, rfl, ⟨by decide, by decide⟩, _, _, rfl, rfl, ⟨by decide, by decide, by decide⟩, _, _, rfl, rfl, (by show (0 : Int) < 10 ^ 9; decide), _, _, rfl, rfl, line_le (by show 3 ≤ 1000000; decide), fun ca hca => callQ _ _ ca hca ?_⟩
      have x0' : 0 ≤ cell / 54 % 10 ^ (9 : Int).toNat := x0
      (first | lia | omega)
    rintro σ' H' ⟨rfl, hw0, rfl⟩
    refine seq_intro (fun σ' H' => H = H' ∧ way ≠ 1 ∧ σ' = [some (.ref pa), some (.ref oa), some (.int st), some (.int kd), some (.int cell), none, none, some (.int way), none, none]) (fun kk hk => ?_) ?_
    · refine ⟨_, rfl, rfl, _, rfl, ?_⟩
      refine ite2 (fun c => ?_) (fun c => hk _ _ ⟨rfl, fun z => c (decide_eq_true (congrArg V.int z)), rfl⟩)
      exact ⟨_, rfl, line_le (by show 3 ≤ 1000000; decide), fun ca hca => callQ _ _ ca hca (by (first | lia | omega))⟩
    rintro σ' H' ⟨rfl, hw1, rfl⟩
    refine seq_intro (fun σ' H' => H = H' ∧ way ≠ 2 ∧ σ' = [some (.ref pa), some (.ref oa), some (.int st), some (.int kd), some (.int cell), none, none, some (.int way), none, none]) (fun kk hk => ?_) ?_
    · refine ⟨_, rfl, rfl, _, rfl, ?_⟩
      refine ite2 (fun c => ?_) (fun c => hk _ _ ⟨rfl, fun z => c (decide_eq_true (congrArg V.int z)), rfl⟩)
      refine ⟨_, rfl, _, rfl, _, _, rfl, rfl, ⟨by decide, by decide⟩, _, _, rfl, rfl, ⟨by decide, by decide, by decide⟩, _, _, rfl, rfl, (by show (0 : Int) < 10 ^ 9; decide), _, _, rfl, rfl, line_le (by show 3 ≤ 1000000; decide), fun ca hca => callQ _ _ ca hca ?_⟩
      have x0' : 0 ≤ cell / 54 % 10 ^ (9 : Int).toNat := x0
      (first | lia | omega)
    rintro σ' H' ⟨rfl, hw2, rfl⟩
    refine seq_intro (fun σ' H' => H = H' ∧ way ≠ 3 ∧ σ' = [some (.ref pa), some (.ref oa), some (.int st), some (.int kd), some (.int cell), none, none, some (.int way), none, none]) (fun kk hk => ?_) ?_
    · refine ⟨_, rfl, rfl, _, rfl, ?_⟩
      refine ite2 (fun c => ?_) (fun c => hk _ _ ⟨rfl, fun z => c (decide_eq_true (congrArg V.int z)), rfl⟩)
      exact ⟨_, rfl, line_le (by show 3 ≤ 1000000; decide), fun ca hca => callQ _ _ ca hca (by (first | lia | omega))⟩
    rintro σ' H' ⟨rfl, hw3, rfl⟩
    clear callQ
    -- kind, leaf
    have hol : (oas.map V.ref).length = outs.length := by rw [List.length_map]; (first | lia | omega)
    have hL : 0 < (((oas.map V.ref).length : Nat) : Int) := by (first | lia | omega)
    have a0 := Int.emod_nonneg (cell / 54) (Int.ne_of_gt hL)
    have a1 := Int.emod_lt_of_pos (cell / 54) hL
    obtain ⟨i, hi⟩ : ∃ i : Nat, cell / 54 % (((oas.map V.ref).length : Nat) : Int) = (i : Int) := ⟨_, (Int.toNat_of_nonneg a0).symm⟩
    obtain ⟨k0, hk0⟩ : ∃ k0, outs[i]? = some k0 := ⟨_, List.getElem?_eq_getElem (by (first | lia | omega))⟩
    obtain ⟨ka, hka, eka⟩ := P2.get hks hk0
    have hk0m := List.mem_of_getElem? hk0
    have hk0l := hkd.good.low k0 hk0m
    have hk0n := hkd.good.num k0 hk0m
    have hix : atI (oas.map V.ref) (cell / 54 % (((oas.map V.ref).length : Nat) : Int)) = some (.ref ka) := by
      rw [hi]
      exact at_nonneg (by (first | lia | omega)) (by rw [Int.toNat_natCast, List.getElem?_map, hka]; rfl)
    refine ⟨_, rfl, _, rfl, _, _, rfl, rfl, ⟨by decide, by decide⟩, _, rfl, oa, _, rfl, .inr (SqT.of eo), _, _, rfl, rfl, hL, oa, _, _, .ref ka, rfl, rfl, SqT.of eo, hix, ?_⟩
    dsimp only
    refine ⟨_, rfl, _, rfl, oa, oas, outs, cell, rfl, eo, hks, hkd.good, fun lk la H1 s1 hlk hlk0 hla => ?_⟩
    have hla' : H1 la = some (.tup [.str lk.1, .int lk.2]) := hla
    refine ⟨la, _, 0, .str lk.1, rfl, rfl, SqT.of hla', at0, line_le (by show 1 ≤ 1000000; decide), fun lf hlf => ?_⟩
    dsimp only
    have s2 := same_new hlf (.tup [.str lk.1])
    have e2 : At (upd H1 lf (.tup [.str lk.1])) (.knot lk.1 []) lf := by
      rw [At]
      exact ⟨low_q (hkd.good.low lk hlk).1, [], upd_same, .nil⟩
    generalize (upd H1 lf (.tup [.str lk.1])) = H2 at s2 e2 ⊢
    have s02 := s1.trans s2
    have ek2 : H2 ka = some (.tup [.str k0.1, .int k0.2]) := s02 _ _ eka
    have repSz : ∀ (nm : Str) (n : Int), 0 ≤ n → n ≤ 4 → (Th.knot nm (List.replicate n.toNat (.knot lk.1 []))).size ≤ t.size + 5 := fun nm n n0 n4 => by
      rw [Th.size, sizes_rep, Th.size, sizes]
      (first | lia | omega)
    refine seq_intro (fun σ' H' => H2 = H' ∧ way ≠ 4 ∧ σ' = [some (.ref pa), some (.ref oa), some (.int st), some (.int kd), some (.int cell), none, none, some (.int way), some (.ref ka), some (.ref lf)]) (fun kk hk => ?_) ?_
    · refine ⟨_, rfl, rfl, _, rfl, ?_⟩
      refine ite2 (fun c => ?_) (fun c => hk _ _ ⟨rfl, fun z => c (decide_eq_true (congrArg V.int z)), rfl⟩)
      have hq1 : (Str.ofString "q").length = 1 := by decide +kernel
      have hcl := cutS_length k0.1 (some 1) none
      refine ⟨_, rfl, ka, _, 0, .str k0.1, rfl, rfl, SqT.of ek2, at0, _, rfl, k0.1, rfl, line_le (by (first | lia | omega)), _, _, rfl, rfl, line_le (by (first | lia | omega)), _, _, rfl, rfl, line_le (by rw [strLen_append]; (first | lia | omega)), line_le (by show 1 ≤ 1000000; decide), fun p1 hp1 => ?_⟩
      have hnl : 2 ≤ (Str.ofString "q" ++ cutS k0.1 (some 1) none ++ Str.ofString "q").length := by
        rw [strLen_append, strLen_append]
        (first | lia | omega)
      have hnq : 113 ∈ (Str.ofString "q" ++ cutS k0.1 (some 1) none ++ Str.ofString "q").cps.toList := by
        show 113 ∈ ((Str.ofString "q").cps ++ (cutS k0.1 (some 1) none).cps ++ (Str.ofString "q").cps).toList
        rw [Array.toList_append, Array.toList_append]
        exact List.mem_append_right _ (by decide +kernel)
      dsimp only
      generalize (Str.ofString "q" ++ cutS k0.1 (some 1) none ++ Str.ofString "q") = nq at hnl hnq ⊢
      have t1 := same_new hp1 (.tup [.str nq])
      refine ⟨_, rfl, line_le (by show 1 ≤ 1000000; decide), fun p2 hp2 => ?_⟩
      have t2 := same_new hp2 (.tup [.ref lf])
      refine ⟨_, rfl, ka, _, 1, .int k0.2, rfl, rfl, SqT.of ((t1.trans t2) _ _ ek2), at1, ?_⟩
      refine knot_rep (lt := .knot lk.1 []) (t2 _ _ upd_same) upd_same (e2.mono (Same.kt (t1.trans t2))) (fun z => ?_) hk0n.1 (by (first | lia | omega)) fun r H5 s5 h5 => ?_
      · rw [z] at hnl
        exact absurd hnl (by decide +kernel)
      · refine q r _ H5 (s02.trans (t1.trans (t2.trans s5))) h5 (fpb_knot ?_) (repSz _ _ hk0n.1 (by (first | lia | omega)))
        rw [manyOf_no fun k hk z => ?_]
        · (first | lia | omega)
        · have := hkd.nq k hk 113
          rw [z] at this
          exact this hnq rfl
    rintro σ' H' ⟨rfl, hw4, rfl⟩
    refine ⟨_, rfl, ka, _, 0, .str k0.1, rfl, rfl, SqT.of ek2, at0, line_le (by show 1 ≤ 1000000; decide), fun p1 hp1 => ?_⟩
    have t1 := same_new hp1 (.tup [.str k0.1])
    refine ⟨_, rfl, line_le (by show 1 ≤ 1000000; decide), fun p2 hp2 => ?_⟩
    have t2 := same_new hp2 (.tup [.ref lf])
    have ek4 := (t1.trans t2) _ _ ek2
    have e1' : (upd (upd H2 p1 (.tup [.str k0.1])) p2 (.tup [.ref lf])) p1 = some (.tup [.str k0.1]) := t2 _ _ upd_same
    have e2' : (upd (upd H2 p1 (.tup [.str k0.1])) p2 (.tup [.ref lf])) p2 = some (.tup [.ref lf]) := upd_same
    have t12 := t1.trans t2
    generalize (upd (upd H2 p1 (.tup [.str k0.1])) p2 (.tup [.ref lf])) = H4 at t12 ek4 e1' e2' ⊢
    have hmany : manyOf outs k0.1 = k0.2 := by
      have h1 : ((k0.2.toNat : Nat) : Int) = k0.2 := Int.toNat_of_nonneg hk0n.1
      have := (manyOf_mem (n := k0.1) (m := k0.2.toNat) (goodN_nodup hkd.good)).mpr (by rw [h1]; exact hk0m)
      rw [this, h1]
    have fin5 : ∀ n : Int, 0 ≤ n → n ≤ 4 → n ≠ k0.2 → rMulT (.ref p2) (.int n) H4 (fun y H5 => rCatA K (.ref p1) y H5 Q) := fun n n0 n4 hne => by
      refine knot_rep (lt := .knot lk.1 []) e1' e2' (e2.mono (Same.kt t12)) (low_q hk0l.1) n0 (by (first | lia | omega)) fun r H5 s5 h5 => ?_
      refine q r _ H5 (s02.trans (t12.trans s5)) h5 (fpb_knot ?_) (repSz _ _ n0 n4)
      rw [hmany, List.length_replicate]
      (first | lia | omega)
    refine ⟨_, rfl, ka, _, 1, .int k0.2, rfl, rfl, SqT.of ek4, at1, _, _, rfl, rfl, _, rfl, ka, _, 1, .int k0.2, rfl, rfl, SqT.of ek4, at1, _, _, rfl, rfl, _, rfl, ?_⟩
    refine ite2 (fun c => ?_) (fun c => ?_)
    · have c' : 0 < k0.2 := of_decide_eq_true c
      refine ⟨_, rfl, _, _, rfl, rfl, ⟨by decide, by decide⟩, _, _, rfl, rfl, (by show (0 : Int) < 2; decide), rfl, .inr ⟨_, rfl, _, _, rfl, rfl, .inl ⟨by decide, by decide⟩, _, _, rfl, rfl, ?_⟩⟩
      dsimp only
      generalize decide (V.int (cell / 432 % 2) = V.int 1) = bb
      cases bb with
      | true => exact fin5 _ (by show 0 ≤ k0.2 + 1 - 2 * 1; (first | lia | omega)) (by show k0.2 + 1 - 2 * 1 ≤ 4; (first | lia | omega)) (by show k0.2 + 1 - 2 * 1 ≠ k0.2; (first | lia | omega))
      | false => exact fin5 _ (by show 0 ≤ k0.2 + 1 - 2 * 0; (first | lia | omega)) (by show k0.2 + 1 - 2 * 0 ≤ 4; (first | lia | omega)) (by show k0.2 + 1 - 2 * 0 ≠ k0.2; (first | lia | omega))
    · refine .inr ⟨_, rfl, _, _, rfl, rfl, .inl ⟨by decide, by decide⟩, _, _, rfl, rfl, ?_⟩
      exact fin5 _ (by show 0 ≤ k0.2 + 1 - 2 * 0; (first | lia | omega)) (by show k0.2 + 1 - 2 * 0 ≤ 4; (first | lia | omega)) (by show k0.2 + 1 - 2 * 0 ≠ k0.2; (first | lia | omega))
end
def LRow (H : Hp) (row : List Th) (a : Addr) : Prop := ∃ tas : List Addr, H a = some (.lst (tas.map V.ref)) ∧ Ats H row tas
theorem LRow.s {H : Hp} {row : List Th} {a : Addr} (h : LRow H row a) : SRow H row a := by
  obtain ⟨tas, h1, h2⟩ := h
  exact ⟨tas, .inl h1, h2⟩
theorem LRow.keep {H H' : Hp} (kt : KT H H') {row : List Th} {a : Addr} (ha : ∀ o, H a = some o → H' a = some o) (h : LRow H row a) : LRow H' row a := by
  obtain ⟨tas, h1, h2⟩ := h
  exact ⟨tas, ha _ h1, h2.mono kt⟩
theorem LRow.mono {H H' : Hp} (s : L2.Same H H') {row : List Th} {a : Addr} (h : LRow H row a) : LRow H' row a := h.keep (Same.kt s) (s _)
theorem atTup {H : Hp} {t : Th} {a : Addr} (h : At H t a) : ∃ xs, H a = some (.tup xs) := by
  cases t with
  | knot n ks => rw [At] at h; obtain ⟨_, as, h1, _⟩ := h; exact ⟨_, h1⟩
  | call s k => rw [At] at h; exact ⟨_, h⟩
theorem rows_apart {H : Hp} {rows : List (List Th)} {ls : List Addr} {D a : Addr} {row : List Th} (eD : H D = some (.lst (ls.map V.ref))) (hl : ∀ b ∈ ls, ∃ xs, H b = some (.lst xs)) (h : LRow H row a) (hne : row ≠ []) : a ≠ D := by
  intro z
  subst z
  obtain ⟨tas, h1, h2⟩ := h
  rw [eD] at h1
  have h3 : ls.map V.ref = tas.map V.ref := by injection h1 with h1; injection h1
  have h4 : ls = tas := List.map_inj_right (fun _ _ e => V.ref.inj e) |>.mp h3
  cases row with
  | nil => exact hne rfl
  | cons t ts =>
    have hlen := h2.length
    obtain ⟨b, hb⟩ : ∃ b, tas[0]? = some b := ⟨_, List.getElem?_eq_getElem (by rw [hlen, List.length_cons]; (first | lia | omega))⟩
    obtain ⟨t', _, hat⟩ := h2.get hb
    obtain ⟨xs, ex⟩ := atTup hat
    obtain ⟨ys, ey⟩ := hl b (by rw [h4]; exact List.mem_of_getElem? hb)
    rw [ex] at ey
    cases ey
def repl (p : Addr) (new : List Th) : List (List Th) → List Addr → List (List Th)
  | [], _ => []
  | _ :: _, [] => []
  | r :: rs, a :: as => (if a = p then new else r) :: repl p new rs as
theorem repl_paired {H H' : Hp} {G : Addr → Prop} {p : Addr} {new : List Th} (hk : ∀ row a, a ≠ p → LRow H row a → LRow H' row a) (hn : LRow H' new p) : ∀ {rows : List (List Th)} {ls : List Addr}, Paired (fun row a => LRow H row a ∧ G a) rows ls → Paired (SRow H') (repl p new rows ls) ls
  | _, _, .nil => by rw [repl]; exact .nil
  | _, _, .cons (a := r) (b := a) h t => by
    rw [repl]
    refine .cons ?_ (repl_paired hk hn t)
    by_cases z : a = p
    · rw [if_pos z, z]
      exact hn.s
    · rw [if_neg z]
      exact (hk _ _ z h.1).s
theorem repl_get {p : Addr} {new : List Th} : ∀ {rows : List (List Th)} {ls : List Addr} {i : Nat} {r : List Th}, rows[i]? = some r → ls[i]? = some p → (repl p new rows ls)[i]? = some new
  | [], _, _, _, h, _ => by simp at h
  | _ :: _, [], _, _, _, h => by simp at h
  | r' :: rs, a :: as, 0, r, h, h2 => by
    simp at h2
    rw [repl, if_pos h2]
    rfl
  | r' :: rs, a :: as, i + 1, r, h, h2 => by
    rw [repl, List.getElem?_cons_succ]
    exact repl_get (by simpa using h) (by simpa using h2)
theorem repl_len {p : Addr} {new : List Th} : ∀ {rows : List (List Th)} {ls : List Addr}, rows.length = ls.length → (repl p new rows ls).length = rows.length
  | [], [], _ => by rw [repl]
  | [], _ :: _, h => by simp at h
  | _ :: _, [], h => by simp at h
  | r' :: rs, a :: as, h => by
    rw [repl, List.length_cons, List.length_cons, repl_len (by simpa using h)]
theorem repl_mem {p : Addr} {new : List Th} : ∀ {rows : List (List Th)} {ls : List Addr} {row : List Th}, row ∈ repl p new rows ls → row = new ∨ row ∈ rows
  | [], _, _, h => by rw [repl] at h; cases h
  | _ :: _, [], _, h => by rw [repl] at h; cases h
  | r' :: rs, a :: as, row, h => by
    rw [repl] at h
    rcases List.mem_cons.mp h with h | h
    · rw [h]
      split
      · exact .inl rfl
      · exact .inr (List.mem_cons_self ..)
    · exact (repl_mem h).imp id fun z => List.mem_cons_of_mem _ z
structure Faulty (H : Hp) (ins outs : List (Str × Int)) (r ia oa : Addr) : Prop where
  ex : ∃ (ha ru : Addr) (rls : List Addr) (head : Th) (rows : List (List Th)), H r = some (.tup [.ref ia, .ref oa, .ref ha, .ref ru]) ∧ At H head ha ∧ head.size ≤ 100000 ∧ SRows H rows ru rls ∧ rows.length ≤ 1000 ∧ (∀ row ∈ rows, ∀ t ∈ row, t.size ≤ 100000) ∧ ¬ okBook ins outs head rows
inductive Isp__law_faulty (vs : List V) (H : Hp) (Q : VK) (_E : XK) : Prop
  | mk (b ia oa ha ra : Addr) (ias oas ras : List Addr) (ins outs : List (Str × Int)) (head : Th) (rows : List (List Th)) (S cell : Int) (zz0 : vs = [.ref b, .int cell]) (zz1 : BookAt H ins outs head rows b ia oa ha ra ias oas ras) (zz2 : BookOk ins outs S 2 head rows) (zz3 : S ≤ 100) (zz4 : Kd ins) (zz5 : Kd outs) (zz6 : ∀ (r : Addr) (H' : Hp), L2.Same H H' → Faulty H' ins outs r ia oa → Q (.ref r) H') : Isp__law_faulty  vs H Q _E
def sp__law_faulty : Sp := Isp__law_faulty 
theorem row_size {ins outs : List (Str × Int)} {S : Int} {row : List Th} (g : GoodN outs) (h : RowOk ins outs S 2 row) : ∀ t ∈ row, t.tall ≤ 3 ∧ t.size ≤ 64 := fun t ht => by
  obtain ⟨j, hj⟩ := List.mem_iff_getElem?.mp ht
  have hjl := (List.getElem?_eq_some_iff.mp hj).1
  obtain ⟨k, hk⟩ : ∃ k, ins[j]? = some k := ⟨_, List.getElem?_eq_getElem (by rw [← h.len]; exact hjl)⟩
  obtain ⟨h1, h2⟩ := h.fit j t k hj hk
  have h3 := fitS_size g h1
  have h4 := pow4_le h2
  exact ⟨h2, Nat.le_trans h3 h4⟩
theorem head_size {ins outs : List (Str × Int)} {S : Int} {head : Th} {rows : List (List Th)} (g : GoodN outs) (h : BookOk ins outs S 2 head rows) : head.size ≤ 16 := Nat.le_trans (fitS_size g h.hdf) (pow4_le h.hdt)
section
variable {P : Program} {w : World} {K : PySem.W.Frag} {mg : Str → Option Value} {base : Heap} (T : TX K mg)
theorem rows_lists {σ : St} {H : Hp} {rows : List (List Th)} {ra : Addr} {ras : List Addr} {fin : Addr → Hp → Prop} (e : H ra = some (.tup (ras.map V.ref))) (h : Paired (RowAt H) rows ras) (hn : rows.length ≤ 1000)
    (hq : ∀ D H' ls, H D = none → L2.Same H H' → H' D = some (.lst (ls.map V.ref)) → Paired (fun row p => LRow H' row p ∧ H p = none) rows ls → fin D H') :
    ∀ D, H D = none → ∃ (n : Nat) (W : Nat → Hp → Prop), W 0 (upd H D (.lst [])) ∧ cTurn [none] (gName 0) tNoTest (tCB (fun xs H Q => ∃ p ys, xs = [.ref p] ∧ (SqL K H p ys ∨ SqT K H p ys) ∧ ∀ l, H l = none → Q (.ref l) (upd H l (.lst ys))) (tCons (tVar 0) tNil)) σ (Itt K ra) D n W fun H' => fin D H' := by
  have hrl : rows.length = ras.length := Paired.length h
  refine comp_nl (F := fun H1 row p => LRow H1 row p ∧ H p = none) (xs := ras.map V.ref) rows (fun H1 H2 z p kt ho h => ⟨h.1.keep kt ho, h.2⟩) (by rw [List.length_map]; (first | lia | omega)) (by rw [List.length_map]; (first | lia | omega)) (fun i Hx sx hi => ⟨_, _, SqT.of (sx _ _ e), List.getElem?_eq_getElem hi⟩) (fun Hx sx => ⟨_, SqT.of (sx _ _ e), Nat.le_refl _⟩) (fun i Hx x Hy sx hi hy => ⟨hy.1, hy.2 _ (SqT.of (sx _ _ e))⟩) (fun i y z Hx R W' hy hzz sx hR => ?_) (fun D H3 bs hD s3 eD hpD => hq D H3 bs hD s3 eD hpD)
  obtain ⟨la, rfl, hla⟩ := get_ref hy
  obtain ⟨row', hrow', tas, e1, h1⟩ := P2.get' h hla
  rw [hzz] at hrow'
  cases hrow'
  refine ⟨_, rfl, la, _, rfl, .inr (SqT.of (sx _ _ e1)), fun l hl => hR _ l (same_new hl _) hl ⟨⟨tas, upd_same, h1.mono (Same.kt (sx.trans (same_new hl _)))⟩, sx.free hl⟩⟩
set_option maxHeartbeats 4000000 in
theorem ok__law_faulty : FnOk P w K mg base CX0 9 T.f__law_faulty T.d__law_faulty ["book", "cell"] sp__law_faulty := by
  refine T.F__law_faulty.ok sc__law_faulty (fun vs H Q E h => ?_) (fun cdv A outer s H vs Q E hr h => ?_)
  · obtain ⟨b, ia, oa, ha, ra, ias, oas, ras, ins, outs, head, rows, S, cell, rfl, _⟩ := h
    rfl
  obtain ⟨b, ia, oa, ha, ra, ias, oas, ras, ins, outs, head, rows, S, cell, rfl, bk, bo, hS, ki, ko, q⟩ := h
  refine ⟨_, (pss_cons (ps_asg (pv 0) (pg_tup rfl (pgs_cons (pg_name (i := 2) sc__law_faulty.nd rfl (Or.inl rfl)) (pgs_cons (pg_name (i := 3) sc__law_faulty.nd rfl (Or.inl rfl)) (pgs_cons (pg_name (i := 4) sc__law_faulty.nd rfl (Or.inl rfl)) (pgs_cons (pg_name (i := 5) sc__law_faulty.nd rfl (Or.inl rfl)) pgs_nil))))))
      (pss_cons (ps_set (i := 6) sc__law_faulty.nd rfl (Or.inl rfl) (pe_op op_mod (pv 1) pe_int))
      (pss_cons (ps_set (i := 7) sc__law_faulty.nd rfl (Or.inl rfl) (pe_op op_fdiv (pv 1) pe_int))
      (pss_cons (ps_if (pt_cmpR op_eq (pe_callB call_len_seq rfl T.n_len PySem.boot_len (pa_cons (pv 5) pa_nil)) pe_int (nomark _)) (pss_one (ps_set (i := 6) sc__law_faulty.nd rfl (Or.inl rfl) pe_int)) pss_nil)
      (pss_cons (ps_if (pt_cmpR op_eq (pv 6) pe_int (nomark _)) (pss_cons (ps_set (i := 8) sc__law_faulty.nd rfl (Or.inl rfl) (pe_comp (N := [Str.ofString "row"]) (js := [none]) (g := (gName 0)) (tt := tNoTest) (te := (tCB (fun xs H Q => ∃ p ys, xs = [.ref p] ∧ (SqL K H p ys ∨ SqT K H p ys) ∧ ∀ l, H l = none → Q (.ref l) (upd H l (.lst ys))) (tCons (tVar 0) tNil))) rfl (cs_mk rfl (by decide +kernel) (by decide +kernel) rfl rfl rfl) (pi_tup (pv 5)) (fun _ _ _ _ _ _ => (pg_name (i := 0) nd_6 rfl (Or.inl rfl))) (gk_name rfl) (fun _ _ _ _ _ _ => pts_nil) (fun _ _ _ _ _ _ => (pe_callTy call_list_of rfl T.n_list PyProof.Rows.boot_list (pa_cons (pv 0) pa_nil)))))
      (pss_cons (ps_set (i := 9) sc__law_faulty.nd rfl (Or.inl rfl) (pe_op op_mod (pv 7) (pe_callB call_len_seq rfl T.n_len PySem.boot_len (pa_cons (pv 5) pa_nil))))
      (pss_cons (ps_set (i := 10) sc__law_faulty.nd rfl (Or.inl rfl) (pe_op op_mod (pe_op op_fdiv (pv 7) pe_int) (pe_callB call_len_seq rfl T.n_len PySem.boot_len (pa_cons (pv 2) pa_nil))))
      (pss_cons (ps_asg (pe_call (ok__law_spoilt T 6) (hr.mono (by first | decide | (first | lia | omega))) rfl T.m__law_spoilt T.F__law_spoilt.kp T.b__law_spoilt .nil pass0 (pa_cons (pe_ix ix_list (pe_ix ix_list (pv 8) (pv 9) (fun _ _ => rfl)) (pv 10) (fun _ _ => rfl)) (pa_cons (pv 3) (pa_cons (pe_callB call_len_seq rfl T.n_len PySem.boot_len (pa_cons (pv 5) pa_nil)) (pa_cons (pe_ix ix_tup (pe_ix ix_tup (pv 2) (pv 10) (fun _ _ => rfl)) pe_int (fun _ _ => rfl)) (pa_cons (pe_op op_fdiv (pv 7) pe_int) pa_nil)))))) (pg_sub (pe_ix ix_list (pv 8) (pv 9) (fun _ _ => rfl)) (pv 10) set_list))
      (pss_one (ps_ret (pe_tup (pa_cons (pv 2) (pa_cons (pv 3) (pa_cons (pv 4) (pa_cons (pv 8) pa_nil))))))))))) pss_nil)
      (pss_cons (ps_if (pt_cmpR op_eq (pv 6) pe_int (nomark _)) (pss_one (ps_ret (pe_tup (pa_cons (pv 2) (pa_cons (pv 3) (pa_cons (pe_call (ok__law_spoilt T 6) (hr.mono (by first | decide | (first | lia | omega))) rfl T.m__law_spoilt T.F__law_spoilt.kp T.b__law_spoilt .nil pass0 (pa_cons (pv 4) (pa_cons (pv 3) (pa_cons (pe_callB call_len_seq rfl T.n_len PySem.boot_len (pa_cons (pv 5) pa_nil)) (pa_cons pe_int (pa_cons (pv 7) pa_nil)))))) (pa_cons (pv 5) pa_nil))))))) pss_nil)
      (pss_cons (ps_set (i := 8) sc__law_faulty.nd rfl (Or.inl rfl) (pe_comp (N := [Str.ofString "row"]) (js := [none]) (g := (gName 0)) (tt := tNoTest) (te := (tCB (fun xs H Q => ∃ p ys, xs = [.ref p] ∧ (SqL K H p ys ∨ SqT K H p ys) ∧ ∀ l, H l = none → Q (.ref l) (upd H l (.lst ys))) (tCons (tVar 0) tNil))) rfl (cs_mk rfl (by decide +kernel) (by decide +kernel) rfl rfl rfl) (pi_tup (pv 5)) (fun _ _ _ _ _ _ => (pg_name (i := 0) nd_6 rfl (Or.inl rfl))) (gk_name rfl) (fun _ _ _ _ _ _ => pts_nil) (fun _ _ _ _ _ _ => (pe_callTy call_list_of rfl T.n_list PyProof.Rows.boot_list (pa_cons (pv 0) pa_nil)))))
      (pss_cons (ps_set (i := 9) sc__law_faulty.nd rfl (Or.inl rfl) (pe_op op_mod (pv 7) (pe_callB call_len_seq rfl T.n_len PySem.boot_len (pa_cons (pv 5) pa_nil))))
      (pss_cons (ps_if (pt_cmpR op_eq (pv 6) pe_int (nomark _)) (pss_one (ps_asg (pe_slice sl_list (pe_ix ix_list (pv 8) (pv 9) (fun _ _ => rfl)) po_none (po_some (pe_un un_neg pe_int))) (pg_sub (pv 8) (pv 9) set_list))) (pss_one (ps_expr (pe_bm PySem.F.plainAttrs_list PySem.F.slot_list_append PySem.F.type_list_append mt_append (pe_ix ix_list (pv 8) (pv 9) (fun _ _ => rfl)) (pa_cons (pe_ix ix_list (pe_ix ix_list (pv 8) (pv 9) (fun _ _ => rfl)) pe_int (fun _ _ => rfl)) pa_nil)))))
      (pss_one (ps_ret (pe_tup (pa_cons (pv 2) (pa_cons (pv 3) (pa_cons (pv 4) (pa_cons (pv 8) pa_nil)))))))))))))))), ?_⟩
  have hrl : rows.length = ras.length := Paired.length bk.rw
  have hil : ins.length = ias.length := Paired.length bk.inK
  have hi1 := ki.good.ne
  have hi8 := ki.good.le
  have hSl := bo.len
  have hrs : ∀ row ∈ rows, ∀ t ∈ row, t.tall ≤ 3 ∧ t.size ≤ 64 := fun row hr => row_size ko.good (bo.row row hr)
  have hhs := head_size ko.good bo
  have hrll : (((ras.map V.ref).length : Nat) : Int) = (rows.length : Nat) := by rw [List.length_map, hrl]
  refine ⟨_, rfl, b, _, rfl, SqT.of bk.bk, rfl, _, _, rfl, _, _, rfl, _, _, rfl, _, _, rfl, rfl, ?_⟩
  dsimp only [gName]
  have w0 := Int.emod_nonneg cell (show (4 : Int) ≠ 0 by decide)
  have w1 := Int.emod_lt_of_pos cell (show (0 : Int) < 4 by decide)
  refine ⟨_, rfl, _, _, rfl, rfl, (by show (0 : Int) < 4; decide), ?_⟩
  refine ⟨_, rfl, _, _, rfl, rfl, ⟨by decide, by decide⟩, ?_⟩
  dsimp only [gName]
  generalize cell / 4 = rest
  refine seq_intro (fun σ' H' => H = H' ∧ ∃ way : Int, 0 ≤ way ∧ way < 4 ∧ (way ≠ 1 → 1 ≤ rows.length) ∧ σ' = [some (.ref b), some (.int cell), some (.ref ia), some (.ref oa), some (.ref ha), some (.ref ra), some (.int way), some (.int rest), none, none, none]) (fun kk hk => ?_) ?_
  · refine ⟨_, rfl, ra, _, rfl, .inr (SqT.of bk.rl), rfl, _, rfl, ?_⟩
    rw [hrll]
    refine ite2 (fun c => hk _ _ ⟨rfl, 1, by decide, by decide, fun z => absurd rfl z, rfl⟩) (fun c => hk _ _ ⟨rfl, cell % 4, w0, w1, fun _ => ?_, rfl⟩)
    by_cases z : rows.length = 0
    · exact absurd (decide_eq_true (by rw [z]; rfl)) c
    · (first | lia | omega)
  rintro σ' H' ⟨rfl, way, w0, w1, hwr, rfl⟩
  -- way 0
  refine seq_intro (fun σ' H' => H = H' ∧ way ≠ 0 ∧ σ' = [some (.ref b), some (.int cell), some (.ref ia), some (.ref oa), some (.ref ha), some (.ref ra), some (.int way), some (.int rest), none, none, none]) (fun kk hk => ?_) ?_
  · refine ⟨_, rfl, rfl, _, rfl, ?_⟩
    refine ite2 (fun c => ?_) (fun c => hk _ _ ⟨rfl, fun z => c (decide_eq_true (congrArg V.int z)), rfl⟩)
    have hw : way = 0 := V.int.inj (of_decide_eq_true c)
    have hr1 := hwr (by (first | lia | omega))
    refine ⟨_, rfl, ra, rfl, ⟨_, SqT.of bk.rl⟩, rows_lists bk.rl bk.rw (by (first | lia | omega)) fun D H1 ls hD s1 eD hls => ?_⟩
    dsimp only [gName]
    have hll : rows.length = ls.length := Paired.length hls
    have hLs : (0 : Int) < (((ras.map V.ref).length : Nat) : Int) := by (first | lia | omega)
    have a0 := Int.emod_nonneg rest (Int.ne_of_gt hLs)
    have a1 := Int.emod_lt_of_pos rest hLs
    refine ⟨_, rfl, _, rfl, ra, _, rfl, .inr (SqT.of (s1 _ _ bk.rl)), _, _, rfl, rfl, hLs, ?_⟩
    obtain ⟨st, hst⟩ : ∃ i : Nat, rest % (((ras.map V.ref).length : Nat) : Int) = (i : Int) := ⟨_, (Int.toNat_of_nonneg a0).symm⟩
    rw [hst] at a1
    dsimp only [gName]
    rw [hst]
    have hLi : (0 : Int) < (((ias.map V.ref).length : Nat) : Int) := by rw [List.length_map]; (first | lia | omega)
    have b0 := Int.emod_nonneg (rest / 5) (Int.ne_of_gt hLi)
    have b1 := Int.emod_lt_of_pos (rest / 5) hLi
    refine ⟨_, rfl, _, _, rfl, rfl, ⟨by decide, by decide⟩, _, rfl, ia, _, rfl, .inr (SqT.of (s1 _ _ bk.inE)), _, _, rfl, rfl, hLi, ?_⟩
    obtain ⟨k, hk'⟩ : ∃ i : Nat, rest / 5 % (((ias.map V.ref).length : Nat) : Int) = (i : Int) := ⟨_, (Int.toNat_of_nonneg b0).symm⟩
    rw [hk'] at b1
    dsimp only [gName]
    rw [hk']
    rw [List.length_map] at b1
    obtain ⟨row, hrow⟩ : ∃ row, rows[st]? = some row := ⟨_, List.getElem?_eq_getElem (by (first | lia | omega))⟩
    obtain ⟨p, hp, ⟨tas, ep, hta⟩, hpH⟩ := P2.get hls hrow
    have hrok := bo.row row (List.mem_of_getElem? hrow)
    have htl := hta.length
    have hrlen := hrok.len
    obtain ⟨ta, hta'⟩ : ∃ ta, tas[k]? = some ta := ⟨_, List.getElem?_eq_getElem (by (first | lia | omega))⟩
    obtain ⟨t, ht, hat⟩ := hta.get hta'
    obtain ⟨ks, hks⟩ : ∃ ks, ins[k]? = some ks := ⟨_, List.getElem?_eq_getElem (by (first | lia | omega))⟩
    obtain ⟨ika, hika, eika⟩ := P2.get bk.inK hks
    have hts := hrs row (List.mem_of_getElem? hrow) t (List.mem_of_getElem? ht)
    have ix1 : atI (ls.map V.ref) (st : Int) = some (.ref p) := at_nonneg (by (first | lia | omega)) (by rw [Int.toNat_natCast, List.getElem?_map, hp]; rfl)
    have ix2 : atI (tas.map V.ref) (k : Int) = some (.ref ta) := at_nonneg (by (first | lia | omega)) (by rw [Int.toNat_natCast, List.getElem?_map, hta']; rfl)
    have ix3 : atI (ias.map V.ref) (k : Int) = some (.ref ika) := at_nonneg (by (first | lia | omega)) (by rw [Int.toNat_natCast, List.getElem?_map, hika]; rfl)
    refine ⟨_, rfl, _, rfl, D, _, _, .ref p, rfl, rfl, SqL.of eD, ix1, _, rfl, p, _, _, .ref ta, rfl, rfl, SqL.of ep, ix2, _, rfl, _, rfl, ra, _, rfl, .inr (SqT.of (s1 _ _ bk.rl)), _, rfl, _, rfl, ia, _, _, .ref ika, rfl, rfl, SqT.of (s1 _ _ bk.inE), ix3, ika, _, 1, .int ks.2, rfl, rfl, SqT.of (s1 _ _ eika), at1, _, rfl, _, _, rfl, rfl, ⟨by decide, by decide⟩, ?_⟩
    refine ⟨ta, oa, oas, outs, t, _, ks.2, rest / 25, rfl, hat, by (first | lia | omega), by (first | lia | omega), s1 _ _ bk.outE, bk.outK.mono (Same.kt s1), ko, fun r2 t2 H2 s2 h2 hf2 hz2 => ?_⟩
    rw [hrll] at hf2
    have eD2 := s2 _ _ eD
    have ep2 := s2 _ _ ep
    refine ⟨_, rfl, _, rfl, D, _, _, .ref p, rfl, rfl, SqL.of eD2, ix1, _, rfl, p, _, (k : Int), k, rfl, rfl, ep2, by rw [List.length_map]; unfold ixN; rw [if_pos (by (first | lia | omega)), if_pos (by (first | lia | omega)), Int.toNat_natCast], ?_⟩
    have hne : row ≠ [] := fun z => by rw [z] at hrlen; simp at hrlen; (first | lia | omega)
    have hpD : p ≠ D := rows_apart (rows := rows) eD (fun b hb => by
      obtain ⟨i, hi⟩ := List.mem_iff_getElem?.mp hb
      obtain ⟨_, _, ⟨ts', e', _⟩, _⟩ := P2.get' hls hi
      exact ⟨_, e'⟩) ⟨tas, ep, hta⟩ hne
    have s02 := s1.trans s2
    have kt3 : KT H2 (upd H2 p (.lst ((tas.map V.ref).set k (.ref r2)))) := kt_lst ep2
    have s3 : L2.Same H (upd H2 p (.lst ((tas.map V.ref).set k (.ref r2)))) := same_upd s02 hpH
    have e3 : (upd H2 p (.lst ((tas.map V.ref).set k (.ref r2)))) p = some (.lst ((tas.set k r2).map V.ref)) := by rw [upd_same, List.map_set]
    have eD3 : (upd H2 p (.lst ((tas.map V.ref).set k (.ref r2)))) D = some (.lst (ls.map V.ref)) := by rw [upd_ne hpD.symm]; exact eD2
    have hoth : ∀ (row : List Th) (a : Addr), a ≠ p → LRow H1 row a → LRow (upd H2 p (.lst ((tas.map V.ref).set k (.ref r2)))) row a := fun row a hap h => (h.mono s2).keep kt3 fun o ho => by rw [upd_ne hap]; exact ho
    generalize (upd H2 p (.lst ((tas.map V.ref).set k (.ref r2)))) = H3 at kt3 s3 e3 eD3 hoth ⊢
    have hnew : LRow H3 (row.set k t2) p := ⟨_, e3, ((hta.mono (Same.kt s2)).mono kt3).set _ (h2.mono kt3)⟩
    refine ⟨_, rfl, _, rfl, _, rfl, _, rfl, line_le (by show 4 ≤ 1000000; decide), fun r hr' => ?_⟩
    have s4 := same_new hr' (.tup [.ref ia, .ref oa, .ref ha, .ref D])
    refine q r _ (s3.trans s4) ⟨ha, D, ls, head, repl p (row.set k t2) rows ls, upd_same, bk.hd.mono (Same.kt (s3.trans s4)), by (first | lia | omega), ⟨.inl (s4 _ _ eD3), P2.mp (fun _ _ e => e.mono s4) (repl_paired hoth hnew hls)⟩, by rw [repl_len hll]; (first | lia | omega), fun row' hr' t' ht' => ?_, fun hok => ?_⟩
    · rcases repl_mem hr' with z | z
      · rw [z] at ht'
        rcases List.mem_or_eq_of_mem_set ht' with y | y
        · have := hrs row (List.mem_of_getElem? hrow) t' y
          (first | lia | omega)
        · rw [y]
          (first | lia | omega)
      · have := hrs row' z t' ht'
        (first | lia | omega)
    · have h5 := hok.2.2 (row.set k t2) (List.mem_of_getElem? (repl_get hrow hp))
      have h6 := (h5.2 k t2 ks (List.getElem?_set_self (by (first | lia | omega))) hks).2
      rw [repl_len hll, hf2] at h6
      cases h6
  rintro σ' H' ⟨rfl, hw0, rfl⟩
  -- way 1
  refine seq_intro (fun σ' H' => H = H' ∧ way ≠ 1 ∧ σ' = [some (.ref b), some (.int cell), some (.ref ia), some (.ref oa), some (.ref ha), some (.ref ra), some (.int way), some (.int rest), none, none, none]) (fun kk hk => ?_) ?_
  · refine ⟨_, rfl, rfl, _, rfl, ?_⟩
    refine ite2 (fun c => ?_) (fun c => hk _ _ ⟨rfl, fun z => c (decide_eq_true (congrArg V.int z)), rfl⟩)
    refine ⟨_, rfl, _, rfl, _, rfl, _, rfl, _, rfl, ra, _, rfl, .inr (SqT.of bk.rl), _, rfl, ?_⟩
    refine ⟨ha, oa, oas, outs, head, _, 1, rest, rfl, bk.hd, by have := bo.hdt; (first | lia | omega), by (first | lia | omega), bk.outE, bk.outK, ko, fun r2 t2 H2 s2 h2 hf2 hz2 => ?_⟩
    rw [hrll] at hf2
    refine ⟨_, rfl, line_le (by show 4 ≤ 1000000; decide), fun r hr' => ?_⟩
    have s4 := same_new hr' (.tup [.ref ia, .ref oa, .ref r2, .ref ra])
    refine q r _ (s2.trans s4) ⟨r2, ra, ras, t2, rows, upd_same, h2.mono (Same.kt s4), by (first | lia | omega), ⟨.inr ((s2.trans s4) _ _ bk.rl), P2.mp (fun _ _ e => (RowAt.s e).mono (s2.trans s4)) bk.rw⟩, by (first | lia | omega), fun row' hr' t' ht' => ?_, fun hok => ?_⟩
    · have := hrs row' hr' t' ht'
      (first | lia | omega)
    · have h6 := hok.2.1.2
      rw [hf2] at h6
      cases h6
  rintro σ' H' ⟨rfl, hw1, rfl⟩
  have hr1 := hwr hw1
  refine ⟨_, rfl, ra, rfl, ⟨_, SqT.of bk.rl⟩, rows_lists bk.rl bk.rw (by (first | lia | omega)) fun D H1 ls hD s1 eD hls => ?_⟩
  dsimp only [gName]
  have hll : rows.length = ls.length := Paired.length hls
  have hLs : (0 : Int) < (((ras.map V.ref).length : Nat) : Int) := by (first | lia | omega)
  have a0 := Int.emod_nonneg rest (Int.ne_of_gt hLs)
  have a1 := Int.emod_lt_of_pos rest hLs
  refine ⟨_, rfl, _, rfl, ra, _, rfl, .inr (SqT.of (s1 _ _ bk.rl)), _, _, rfl, rfl, hLs, ?_⟩
  obtain ⟨st, hst⟩ : ∃ i : Nat, rest % (((ras.map V.ref).length : Nat) : Int) = (i : Int) := ⟨_, (Int.toNat_of_nonneg a0).symm⟩
  rw [hst] at a1
  dsimp only [gName]
  rw [hst]
  obtain ⟨row, hrow⟩ : ∃ row, rows[st]? = some row := ⟨_, List.getElem?_eq_getElem (by (first | lia | omega))⟩
  obtain ⟨p, hp, ⟨tas, ep, hta⟩, hpH⟩ := P2.get hls hrow
  have hrok := bo.row row (List.mem_of_getElem? hrow)
  have htl := hta.length
  have hrlen := hrok.len
  have hlsL : ∀ b ∈ ls, ∃ xs, H1 b = some (.lst xs) := fun b hb => by
    obtain ⟨i, hi⟩ := List.mem_iff_getElem?.mp hb
    obtain ⟨_, _, ⟨ts', e', _⟩, _⟩ := P2.get' hls hi
    exact ⟨_, e'⟩
  have ix1 : atI (ls.map V.ref) (st : Int) = some (.ref p) := at_nonneg (by (first | lia | omega)) (by rw [Int.toNat_natCast, List.getElem?_map, hp]; rfl)
  have hne : row ≠ [] := fun z => by rw [z] at hrlen; simp at hrlen; (first | lia | omega)
  have hpD : p ≠ D := rows_apart (rows := rows) eD hlsL ⟨tas, ep, hta⟩ hne
  refine seq_intro (fun σ' H' => L2.Same H H' ∧ (∃ (ls' : List Addr) (rows' : List (List Th)) (new : List Th), H' D = some (.lst (ls'.map V.ref)) ∧ Paired (SRow H') rows' ls' ∧ rows'.length = rows.length ∧ new ∈ rows' ∧ new.length ≠ ins.length ∧ (∀ row' ∈ rows', row' = new ∨ row' ∈ rows) ∧ ∀ t ∈ new, t ∈ row) ∧ ∃ sv kv, σ' = [some (.ref b), some (.int cell), some (.ref ia), some (.ref oa), some (.ref ha), some (.ref ra), some (.int way), some (.int rest), some (.ref D), sv, kv]) (fun kk hk => ?_) ?_
  · refine ⟨_, rfl, rfl, _, rfl, ?_⟩
    refine ite2 (fun c => ?_) (fun c => ?_)
    · refine ⟨_, rfl, _, rfl, D, _, _, .ref p, rfl, rfl, SqL.of eD, ix1, _, rfl, _, rfl, p, _, rfl, SqL.of ep, fun n hn => ?_⟩
      dsimp only
      have hcut : cutV (tas.map V.ref) none (some (-1)) = (tas.take (row.length - 1)).map V.ref := by
        cases tas with
        | nil => simp at htl; (first | lia | omega)
        | cons x xs =>
          rw [List.map_cons, cut_last, List.length_map, ← List.map_cons, ← List.map_take]
          rw [List.length_cons] at htl
          rw [show row.length - 1 = xs.length by (first | lia | omega)]
      rw [hcut]
      have s2 := same_new hn (.lst ((tas.take (row.length - 1)).map V.ref))
      have e2 : (upd H1 n (.lst ((tas.take (row.length - 1)).map V.ref))) n = some (.lst ((tas.take (row.length - 1)).map V.ref)) := upd_same
      generalize (upd H1 n (.lst ((tas.take (row.length - 1)).map V.ref))) = H2 at s2 e2 ⊢
      have hnD : n ≠ D := fun z => by rw [z, eD] at hn; cases hn
      refine ⟨_, rfl, _, rfl, D, _, (st : Int), st, rfl, rfl, s2 _ _ eD, by rw [List.length_map]; unfold ixN; rw [if_pos (by (first | lia | omega)), if_pos (by (first | lia | omega)), Int.toNat_natCast], ?_⟩
      have kt3 : KT H2 (upd H2 D (.lst ((ls.map V.ref).set st (.ref n)))) := kt_lst (s2 _ _ eD)
      have s3 : L2.Same H (upd H2 D (.lst ((ls.map V.ref).set st (.ref n)))) := same_upd (s1.trans s2) hD
      have e3 : (upd H2 D (.lst ((ls.map V.ref).set st (.ref n)))) D = some (.lst ((ls.set st n).map V.ref)) := by rw [upd_same, List.map_set]
      have hnD' : (upd H2 D (.lst ((ls.map V.ref).set st (.ref n)))) n = some (.lst ((tas.take (row.length - 1)).map V.ref)) := by rw [upd_ne hnD]; exact e2
      have hoth : ∀ (row : List Th) (a : Addr), row ∈ rows → LRow H1 row a → SRow (upd H2 D (.lst ((ls.map V.ref).set st (.ref n)))) row a := fun row a hm h => by
        have haD : a ≠ D := rows_apart (rows := rows) eD hlsL h fun z => by
          have := (bo.row row hm).len
          rw [z] at this
          simp at this
          (first | lia | omega)
        exact ((h.mono s2).keep kt3 fun o ho => by rw [upd_ne haD]; exact ho).s
      generalize (upd H2 D (.lst ((ls.map V.ref).set st (.ref n)))) = H3 at kt3 s3 e3 hnD' hoth ⊢
      have hnew : SRow H3 (row.take (row.length - 1)) n := ⟨_, .inl hnD', ((hta.mono (Same.kt s2)).mono kt3).take _⟩
      have hall : Paired (SRow H3) rows ls := by
        have : ∀ {rs : List (List Th)} {as : List Addr}, (∀ r ∈ rs, r ∈ rows) → Paired (fun row p => LRow H1 row p ∧ H p = none) rs as → Paired (SRow H3) rs as := by
          intro rs as hm hp'
          induction hp' with
          | nil => exact .nil
          | cons r _ ih => exact .cons (hoth _ _ (hm _ (List.mem_cons_self ..)) r.1) (ih fun r hr => hm r (List.mem_cons_of_mem _ hr))
        exact this (fun _ h => h) hls
      refine hk _ _ ⟨s3, ⟨ls.set st n, rows.set st (row.take (row.length - 1)), row.take (row.length - 1), e3, P2.set hnew _ hall, by rw [List.length_set], List.mem_set (by (first | lia | omega)) _, by rw [List.length_take]; (first | lia | omega), fun row' h => ?_, fun t ht => List.mem_of_mem_take ht⟩, _, _, rfl⟩
      rcases List.mem_or_eq_of_mem_set h with y | y
      · exact .inr y
      · exact .inl y
    · obtain ⟨ta, hta'⟩ : ∃ ta, tas[0]? = some ta := ⟨_, List.getElem?_eq_getElem (by (first | lia | omega))⟩
      obtain ⟨t, ht, hat⟩ := hta.get hta'
      have ix2 : atI (tas.map V.ref) 0 = some (.ref ta) := at_nonneg (by (first | lia | omega)) (by rw [show ((0 : Int)).toNat = 0 from rfl, List.getElem?_map, hta']; rfl)
      refine ⟨_, rfl, _, rfl, D, _, _, .ref p, rfl, rfl, SqL.of eD, ix1, .inl ⟨rfl, _, SqL.of ep⟩, _, rfl, _, rfl, D, _, _, .ref p, rfl, rfl, SqL.of eD, ix1, p, _, 0, .ref ta, rfl, rfl, SqL.of ep, ix2, p, _, _, rfl, rfl, ep, line_big (by rw [List.length_map]; (first | lia | omega)), ?_⟩
      have kt3 : KT H1 (upd H1 p (.lst (tas.map V.ref ++ [.ref ta]))) := kt_lst ep
      have s3 : L2.Same H (upd H1 p (.lst (tas.map V.ref ++ [.ref ta]))) := same_upd s1 hpH
      have e3 : (upd H1 p (.lst (tas.map V.ref ++ [.ref ta]))) p = some (.lst ((tas ++ [ta]).map V.ref)) := by rw [upd_same, List.map_append]; rfl
      have eD3 : (upd H1 p (.lst (tas.map V.ref ++ [.ref ta]))) D = some (.lst (ls.map V.ref)) := by rw [upd_ne hpD.symm]; exact eD
      have hoth : ∀ (row : List Th) (a : Addr), a ≠ p → LRow H1 row a → LRow (upd H1 p (.lst (tas.map V.ref ++ [.ref ta]))) row a := fun row a hap h => h.keep kt3 fun o ho => by rw [upd_ne hap]; exact ho
      generalize (upd H1 p (.lst (tas.map V.ref ++ [.ref ta]))) = H3 at kt3 s3 e3 eD3 hoth ⊢
      have hnew : LRow H3 (row ++ [t]) p := ⟨_, e3, (hta.mono kt3).append (.cons (hat.mono kt3) .nil)⟩
      refine hk _ _ ⟨s3, ⟨ls, repl p (row ++ [t]) rows ls, row ++ [t], eD3, repl_paired hoth hnew hls, repl_len hll, List.mem_of_getElem? (repl_get hrow hp), by rw [List.length_append]; show row.length + 1 ≠ _; (first | lia | omega), fun row' h => repl_mem h, fun t' ht' => ?_⟩, _, _, rfl⟩
      rcases List.mem_append.mp ht' with h | h
      · exact h
      · rw [List.mem_singleton.mp h]
        exact List.mem_of_getElem? ht
  rintro σ' H3 ⟨s3, ⟨ls', rows', new, eD3, hp3, hlen3, hnew, hbad, hmem, hsub⟩, sv, kv, rfl⟩
  refine ⟨_, rfl, _, rfl, _, rfl, _, rfl, line_le (by show 4 ≤ 1000000; decide), fun r hr' => ?_⟩
  have s4 := same_new hr' (.tup [.ref ia, .ref oa, .ref ha, .ref D])
  refine q r _ (s3.trans s4) ⟨ha, D, ls', head, rows', upd_same, bk.hd.mono (Same.kt (s3.trans s4)), by (first | lia | omega), ⟨.inl (s4 _ _ eD3), P2.mp (fun _ _ e => e.mono s4) hp3⟩, by (first | lia | omega), fun row' hr' t' ht' => ?_, fun hok => hbad (hok.2.2 new hnew).1⟩
  rcases hmem row' hr' with z | z
  · rw [z] at ht'
    have := hrs row (List.mem_of_getElem? hrow) t' (hsub t' ht')
    (first | lia | omega)
  · have := hrs row' z t' ht'
    (first | lia | omega)
end
inductive Isp__law_refusal (K : PySem.W.Frag) (vs : List V) (H : Hp) (Q : VK) (_E : XK) : Prop
  | mk (pt ia oa ha ru : Addr) (ias oas rls : List Addr) (ins outs : List (Str × Int)) (head : Th) (rows : List (List Th)) (zz0 : vs = [.ref pt]) (zz1 : H pt = some (.tup [.ref ia, .ref oa, .ref ha, .ref ru])) (zz2 : KPairs K H ins ia ias) (zz3 : KPairs K H outs oa oas) (zz4 : At H head ha) (zz5 : head.size ≤ 100000) (zz6 : SRows H rows ru rls) (zz7 : rows.length ≤ 1000) (zz8 : (∀ row ∈ rows, ∀ t ∈ row, t.size ≤ 100000)) (zz9 : (okKinds ins = true → okKinds outs = true → ¬ okBook ins outs head rows)) (zz10 : (¬ (okKinds ins = true ∧ okKinds outs = true) → ∀ (l : Addr) (H' : Hp), L2.Same H H' → H' l = some (.lst ([true, false, true].map V.bl)) → Q (.ref l) H')) (zz11 : (okKinds ins = true → okKinds outs = true → ∀ (l : Addr) (H' : Hp), L2.Same H H' → H' l = some (.lst ([false, true, true].map V.bl)) → Q (.ref l) H')) : Isp__law_refusal K vs H Q _E
def sp__law_refusal (K : PySem.W.Frag) : Sp := Isp__law_refusal K
section
variable {P : Program} {w : World} {K : PySem.W.Frag} {mg : Str → Option Value} {base : Heap} (T : TX K mg)
theorem ok__law_refusal : FnOk P w K mg base CX0 9 T.f__law_refusal T.d__law_refusal ["parts"] (sp__law_refusal K) := by
  refine T.F__law_refusal.ok sc__law_refusal (fun vs H Q E h => ?_) (fun cdv A outer s H vs Q E hr h => ?_)
  · obtain ⟨pt, ia, oa, ha, ru, ias, oas, rls, ins, outs, head, rows, rfl, _⟩ := h
    rfl
  obtain ⟨pt, ia, oa, ha, ru, ias, oas, rls, ins, outs, head, rows, rfl, ept, hI, hO, hd, hdz, hrows, hrn, hrz, hno, q1, q2⟩ := h
  refine ⟨_, (pss_cons (ps_set (i := 1) sc__law_refusal.nd rfl (Or.inl rfl) pe_non)
      (pss_cons (ps_try_as (Ch := T.e_BookError) (i := 2) (tb := fun R => (tDrop (tCallT (sp_made_bookX K T.e_NoKinds T.e_NoBook) [] R (tCons (tOp (rIxT K) (tVar 0) (tC (.int 0))) (tCons (tOp (rIxT K) (tVar 0) (tC (.int 1))) (tCons (tOp (rIxT K) (tVar 0) (tC (.int 2))) (tCons (tOp (rIxT K) (tVar 0) (tC (.int 3))) tNil))))))) (ts := fun ea C => (tAsg (tLst (tCons (tCB (rIsx K ea C) (tCons (tVar 2) (tCons (tC (.ref T.e_NoKinds)) tNil))) (tCons (tCB (rIsx K ea C) (tCons (tVar 2) (tCons (tC (.ref T.e_NoBook)) tNil))) (tCons (tCB (rIsx K ea C) (tCons (tVar 2) (tCons (tC (.ty "ValueError")) tNil))) tNil)))) (gName 1))) (fun pins R => (pss_one (ps_expr (pe_callT (ok_made_bookX T) (hr.mono (by first | decide | (first | lia | omega))) rfl T.m_made_book T.F_made_book.kp T.b_made_book .nil (pa_cons (pe_ix ix_tup (pv 0) pe_int (fun _ _ => rfl)) (pa_cons (pe_ix ix_tup (pv 0) pe_int (fun _ _ => rfl)) (pa_cons (pe_ix ix_tup (pv 0) pe_int (fun _ _ => rfl)) (pa_cons (pe_ix ix_tup (pv 0) pe_int (fun _ _ => rfl)) pa_nil)))))))) (fun ea oe C hoc hX => (pss_one (ps_set (i := 1) sc__law_refusal.nd rfl (Or.inl rfl) (pe_lst (pa_cons (pe_callB (call_isx pin_suite hoc hX) rfl T.n_isinstance PyProof.Rows.boot_isinstance (pa_cons (pv 2) (pa_cons (pe_glob (v := .ref T.e_NoKinds) rfl T.x_NoKinds rfl) pa_nil))) (pa_cons (pe_callB (call_isx pin_suite hoc hX) rfl T.n_isinstance PyProof.Rows.boot_isinstance (pa_cons (pv 2) (pa_cons (pe_glob (v := .ref T.e_NoBook) rfl T.x_NoBook rfl) pa_nil))) (pa_cons (pe_callB (call_isx pin_suite hoc hX) rfl T.n_isinstance PyProof.Rows.boot_isinstance (pa_cons (pv 2) (pa_cons (pe_bltn (v := .ty "ValueError") rfl T.n_ValueError PyProof.Rows.Boot.«ValueError» rfl) pa_nil))) pa_nil))))))) sc__law_refusal.nd rfl rfl rfl rfl rfl T.x_BookError)
      (pss_one (ps_ret (pv 1))))), ?_⟩
  dsimp only [tAsg, tC, gName, tSeq]
  refine try_intro (fun σ1 c H2 => σ1 = [some (.ref pt), some .non, none] ∧ L2.Same H H2 ∧ ((c = .ref T.e_NoKinds ∧ ¬ (okKinds ins = true ∧ okKinds outs = true)) ∨ (c = .ref T.e_NoBook ∧ okKinds ins = true ∧ okKinds outs = true))) (fun R' hR => ?_) ?_
  · exact ⟨_, rfl, pt, _, 0, _, rfl, rfl, SqT.of ept, at0, _, rfl, pt, _, 1, _, rfl, rfl, SqT.of ept, at1, _, rfl, pt, _, 2, _, rfl, rfl, SqT.of ept, at2, _, rfl, pt, _, 3, _, rfl, rfl, SqT.of ept, rfl, ia, oa, ha, ru, ias, oas, rls, ins, outs, head, rows, rfl, hI, hO, hd, hdz, hrows, hrn, hrz, fun gi go hok => absurd hok (hno gi go), fun hn H2 s2 => hR _ _ _ ⟨rfl, s2, .inl ⟨rfl, hn⟩⟩, fun gi go _ H2 s2 => hR _ _ _ ⟨rfl, s2, .inr ⟨rfl, gi, go⟩⟩⟩
  · rintro σ1 c H2 ⟨rfl, s2, ⟨rfl, hn⟩ | ⟨rfl, gi, go⟩⟩
    · refine ⟨_, rfl, ⟨T.X_NoKinds, T.hit_NoKinds_BookError⟩, fun ea hea => ?_⟩
      refine ⟨_, rfl, _, _, rfl, T.kit_NoKinds_NoKinds, _, rfl, _, _, rfl, T.kit_NoKinds_NoBook, _, rfl, _, _, rfl, T.kit_NoKinds_ValueError, line_le (by show 3 ≤ 1000000; decide), fun la hla => ?_⟩
      exact ⟨_, rfl, q1 hn la _ (s2.trans (same_new hla _)) upd_same⟩
    · refine ⟨_, rfl, ⟨T.X_NoBook, T.hit_NoBook_BookError⟩, fun ea hea => ?_⟩
      refine ⟨_, rfl, _, _, rfl, T.kit_NoBook_NoKinds, _, rfl, _, _, rfl, T.kit_NoBook_NoBook, _, rfl, _, _, rfl, T.kit_NoBook_ValueError, line_le (by show 3 ≤ 1000000; decide), fun la hla => ?_⟩
      exact ⟨_, rfl, q2 gi go la _ (s2.trans (same_new hla _)) upd_same⟩
end
mutual
theorem cn_size : ∀ t : Th, cnT t ≤ t.size
  | .knot n ts => by
    have := cns_size ts
    rw [cnT, Th.size]
    (first | lia | omega)
  | .call s k => by rw [cnT, Th.size]; exact Nat.le_refl _
theorem cns_size : ∀ ts : List Th, cnTs ts ≤ sizes ts
  | [] => by rw [cnTs]; exact Nat.zero_le _
  | t :: ts => by
    have := cn_size t
    have := cns_size ts
    rw [cnTs, sizes]
    (first | lia | omega)
end
theorem ok_of_book {ins outs : List (Str × Int)} {S : Int} {head : Th} {rows : List (List Th)} (go : GoodN outs) (h : BookOk ins outs S 2 head rows) (hS : S ≤ 20) : okBook ins outs head rows := by
  have nd := goodN_nodup go
  have hl := h.len
  have sm : ∀ t : Th, t.tall ≤ 3 → t.size ≤ 64 → Small t := fun t h1 h2 => by
    have a := kn_size t
    have b := cn_size t
    exact ⟨by (first | lia | omega), by (first | lia | omega), by (first | lia | omega)⟩
  refine ⟨by (first | lia | omega), ⟨sm head (by have := h.hdt; (first | lia | omega)) (by have := head_size go h; (first | lia | omega)), by rw [hl]; exact fitS_fpb nd h.hdf⟩, fun row hr => ?_⟩
  have hro := h.row row hr
  refine ⟨hro.len, fun j t k ht hk => ⟨?_, by rw [hl]; exact fitS_fpb nd (hro.fit j t k ht hk).1⟩⟩
  have := row_size go hro t (List.mem_of_getElem? ht)
  exact sm t this.1 this.2
def PartsAt (H : Hp) (pt ia oa : Addr) : Prop := ∃ (ha ru : Addr) (rls : List Addr) (head : Th) (rows : List (List Th)), H pt = some (.tup [.ref ia, .ref oa, .ref ha, .ref ru]) ∧ At H head ha ∧ head.size ≤ 100000 ∧ SRows H rows ru rls ∧ rows.length ≤ 1000 ∧ ∀ row ∈ rows, ∀ t ∈ row, t.size ≤ 100000
inductive Isp__law_one (K : PySem.W.Frag) (vs : List V) (H : Hp) (Q : VK) (_E : XK) : Prop
  | mk (cell : Int) (ia oa : Addr) (ias oas : List Addr) (ins outs : List (Str × Int)) (zz0 : vs = [.int cell, .ref ia, .ref oa]) (zz1 : H ia = some (.tup (ias.map V.ref))) (zz2 : KsAt H ins ias) (zz3 : Kd ins) (zz4 : H oa = some (.tup (oas.map V.ref))) (zz5 : KsAt H outs oas) (zz6 : Kd outs) (zz7 : ∀ H', L2.Same H H' → Q (.bl true) H') : Isp__law_one K vs H Q _E
def sp__law_one (K : PySem.W.Frag) : Sp := Isp__law_one K
section
variable {P : Program} {w : World} {K : PySem.W.Frag} {mg : Str → Option Value} {base : Heap} (T : TX K mg)
theorem kp_tup {H : Hp} {ks : List (Str × Int)} {a : Addr} {as : List Addr} (e : H a = some (.tup (as.map V.ref))) (h : KsAt H ks as) (kd : Kd ks) : KPairs K H ks a as := ⟨.inr (SqT.of e), h, by have := kd.good.le; (first | lia | omega), fun k hk => by have := (kd.good.low k hk).2; (first | lia | omega)⟩
set_option maxHeartbeats 4000000 in
theorem ok__law_one : FnOk P w K mg base CX0 10 T.f__law_one T.d__law_one ["cell", "ins", "outs"] (sp__law_one K) := by
  refine T.F__law_one.ok sc__law_one (fun vs H Q E h => ?_) (fun cdv A outer s H vs Q E hr h => ?_)
  · obtain ⟨cell, ia, oa, ias, oas, ins, outs, rfl, _⟩ := h
    rfl
  obtain ⟨cell, ia, oa, ias, oas, ins, outs, rfl, ei, hki, ki, eo, hko, ko, q⟩ := h
  refine ⟨_, (pss_cons (ps_set (i := 3) sc__law_one.nd rfl (Or.inl rfl) (pe_call (ok__law_turn T) (hr.mono (by first | decide | (first | lia | omega))) rfl T.m__law_turn T.F__law_turn.kp T.b__law_turn .nil pass0 (pa_cons (pv 0) (pa_cons pe_int pa_nil))))
      (pss_cons (ps_set (i := 4) sc__law_one.nd rfl (Or.inl rfl) (pe_call (ok__law_book T) (hr.mono (by first | decide | (first | lia | omega))) rfl T.m__law_book T.F__law_book.kp T.b__law_book .nil pass0 (pa_cons (pv 0) (pa_cons (pv 1) (pa_cons (pv 2) (pa_cons (pe_op op_mod (pv 3) pe_int) (pa_cons pe_int pa_nil)))))))
      (pss_cons (ps_set (i := 5) sc__law_one.nd rfl (Or.inl rfl) (pe_ix ix_list (pe_lst (pa_cons (pe_comp (N := [Str.ofString "row"]) (js := [none]) (g := (gName 0)) (tt := tNoTest) (te := (tCB (fun xs H Q => ∃ p ys, xs = [.ref p] ∧ (SqL K H p ys ∨ SqT K H p ys) ∧ ∀ l, H l = none → Q (.ref l) (upd H l (.lst ys))) (tCons (tVar 0) tNil))) rfl (cs_mk rfl (by decide +kernel) (by decide +kernel) rfl rfl rfl) (pi_tup (pe_ix ix_tup (pv 4) pe_int (fun _ _ => rfl))) (fun _ _ _ _ _ _ => (pg_name (i := 0) nd_6 rfl (Or.inl rfl))) (gk_name rfl) (fun _ _ _ _ _ _ => pts_nil) (fun _ _ _ _ _ _ => (pe_callTy call_list_of rfl T.n_list PyProof.Rows.boot_list (pa_cons (pv 0) pa_nil)))) (pa_cons (pe_ix ix_tup (pv 4) pe_int (fun _ _ => rfl)) pa_nil))) (pe_op op_mod (pe_op op_fdiv (pv 3) pe_int) pe_int) (fun _ _ => rfl)))
      (pss_cons (ps_set (i := 6) sc__law_one.nd rfl (Or.inl rfl) (pe_call (ok_made_book T) (hr.mono (by first | decide | (first | lia | omega))) rfl T.m_made_book T.F_made_book.kp T.b_made_book .nil pass0 (pa_cons (pe_ix ix_list (pe_lst (pa_cons (pe_callTy call_list_of rfl T.n_list PyProof.Rows.boot_list (pa_cons (pv 1) pa_nil)) (pa_cons (pv 1) pa_nil))) (pe_op op_mod (pe_op op_fdiv (pv 3) pe_int) pe_int) (fun _ _ => rfl)) (pa_cons (pv 2) (pa_cons (pe_ix ix_tup (pv 4) pe_int (fun _ _ => rfl)) (pa_cons (pv 5) pa_nil))))))
      (pss_cons (ps_if (PW.pt (pw_or (pt_cmpR (op_neS (B := 150) (room_150 hr)) (pv 6) (pv 4) (nomark _)) (pw_or (pt_not (pt_truth (pe_callB (call_isiX (T := "tuple")) rfl T.n_isinstance PyProof.Rows.boot_isinstance (pa_cons (pe_ix ix_tup (pv 6) pe_int (fun _ _ => rfl)) (pa_cons (pe_bltn (v := .ty "tuple") rfl T.n_tuple PyProof.Rows.boot_tuple rfl) pa_nil))) (fun _ => rfl))) (pw_or1 (pt_not (pt_truth (pe_callB (call_isiX (T := "tuple")) rfl T.n_isinstance PyProof.Rows.boot_isinstance (pa_cons (pe_ix ix_tup (pv 6) pe_int (fun _ _ => rfl)) (pa_cons (pe_bltn (v := .ty "tuple") rfl T.n_tuple PyProof.Rows.boot_tuple rfl) pa_nil))) (fun _ => rfl))))))) (pss_one (ps_ret pe_bl)) pss_nil)
      (pss_cons (ps_if (PW.pt (pw_or (pt_not (pt_truth (pe_callB (call_all rfl) rfl T.n_all PyProof.Rows.boot_all (pa_cons (pe_comp (N := [Str.ofString "row"]) (js := [none]) (g := (gName 0)) (tt := tNoTest) (te := (tCB (rIsi K "tuple") (tCons (tVar 0) (tCons (tC (.ty "tuple")) tNil)))) rfl (cs_mk rfl (by decide +kernel) (by decide +kernel) rfl rfl rfl) (pi_tup (pe_ix ix_tup (pv 6) pe_int (fun _ _ => rfl))) (fun _ _ _ _ _ _ => (pg_name (i := 0) nd_6 rfl (Or.inl rfl))) (gk_name rfl) (fun _ _ _ _ _ _ => pts_nil) (fun _ _ _ _ _ _ => (pe_callB (call_isiX (T := "tuple")) rfl T.n_isinstance PyProof.Rows.boot_isinstance (pa_cons (pv 0) (pa_cons (pe_bltn (v := .ty "tuple") rfl T.n_tuple PyProof.Rows.boot_tuple rfl) pa_nil))))) pa_nil)) (fun _ => rfl))) (pw_or1 (pt_cmpR (op_neL (B := 150) (room_150 hr)) (pe_comp (N := [Str.ofString "row"]) (js := [none]) (g := (gName 0)) (tt := tNoTest) (te := (tCB (fun xs H Q => ∃ p ys, xs = [.ref p] ∧ ((SqL K H p ys ∧ ∀ l, H l = none → Q (.ref l) (upd H l (.tup ys))) ∨ (SqT K H p ys ∧ Q (.ref p) H))) (tCons (tVar 0) tNil))) rfl (cs_mk rfl (by decide +kernel) (by decide +kernel) rfl rfl rfl) (pi_seq (pv 5)) (fun _ _ _ _ _ _ => (pg_name (i := 0) nd_6 rfl (Or.inl rfl))) (gk_name rfl) (fun _ _ _ _ _ _ => pts_nil) (fun _ _ _ _ _ _ => (pe_callTy call_tuple_of rfl T.n_tuple PyProof.Rows.boot_tuple (pa_cons (pv 0) pa_nil)))) (pe_callTy call_list_of rfl T.n_list PyProof.Rows.boot_list (pa_cons (pe_ix ix_tup (pv 4) pe_int (fun _ _ => rfl)) pa_nil)) (nomark _))))) (pss_one (ps_ret pe_bl)) pss_nil)
      (pss_cons (ps_set (i := 7) sc__law_one.nd rfl (Or.inl rfl) (pe_call (ok__law_faulty T) (hr.mono (by first | decide | (first | lia | omega))) rfl T.m__law_faulty T.F__law_faulty.kp T.b__law_faulty .nil pass0 (pa_cons (pv 4) (pa_cons (pe_op op_fdiv (pv 3) pe_int) pa_nil))))
      (pss_cons (ps_if (pt_cmpR (op_neLB (room_2 hr)) (pe_call (ok__law_refusal T) (hr.mono (by first | decide | (first | lia | omega))) rfl T.m__law_refusal T.F__law_refusal.kp T.b__law_refusal .nil pass0 (pa_cons (pv 7) pa_nil)) (pe_lst (pa_cons pe_bl (pa_cons pe_bl (pa_cons pe_bl pa_nil)))) (nomark _)) (pss_one (ps_ret pe_bl)) pss_nil)
      (pss_cons (ps_if (pt_cmpR op_eq (pe_op op_mod (pe_op op_fdiv (pv 3) pe_int) pe_int) pe_int (nomark _)) (pss_one (ps_set (i := 7) sc__law_one.nd rfl (Or.inl rfl) (pv 4))) pss_nil)
      (pss_cons (ps_if (pt_cmpR op_eq (pe_op op_mod (pe_op op_fdiv (pv 3) pe_int) pe_int) pe_int (nomark _)) (pss_one (ps_ret (pe_cmpR (op_eqLB (room_2 hr)) (pe_call (ok__law_refusal T) (hr.mono (by first | decide | (first | lia | omega))) rfl T.m__law_refusal T.F__law_refusal.kp T.b__law_refusal .nil pass0 (pa_cons (pe_tup (pa_cons (pe_call (ok__law_kinds_spoilt T) (hr.mono (by first | decide | (first | lia | omega))) rfl T.m__law_kinds_spoilt T.F__law_kinds_spoilt.kp T.b__law_kinds_spoilt .nil pass0 (pa_cons (pv 1) (pa_cons (pe_op op_fdiv (pv 3) pe_int) pa_nil))) (pa_cons (pe_ix ix_tup (pv 7) pe_int (fun _ _ => rfl)) (pa_cons (pe_ix ix_tup (pv 7) pe_int (fun _ _ => rfl)) (pa_cons (pe_ix ix_tup (pv 7) pe_int (fun _ _ => rfl)) pa_nil))))) pa_nil)) (pe_lst (pa_cons pe_bl (pa_cons pe_bl (pa_cons pe_bl pa_nil)))) (nomark _)))) pss_nil)
      (pss_one (ps_ret (pe_cmpR (op_eqLB (room_2 hr)) (pe_call (ok__law_refusal T) (hr.mono (by first | decide | (first | lia | omega))) rfl T.m__law_refusal T.F__law_refusal.kp T.b__law_refusal .nil pass0 (pa_cons (pe_tup (pa_cons (pe_ix ix_tup (pv 7) pe_int (fun _ _ => rfl)) (pa_cons (pe_call (ok__law_kinds_spoilt T) (hr.mono (by first | decide | (first | lia | omega))) rfl T.m__law_kinds_spoilt T.F__law_kinds_spoilt.kp T.b__law_kinds_spoilt .nil pass0 (pa_cons (pv 2) (pa_cons (pe_op op_fdiv (pv 3) pe_int) pa_nil))) (pa_cons (pe_ix ix_tup (pv 7) pe_int (fun _ _ => rfl)) (pa_cons (pe_ix ix_tup (pv 7) pe_int (fun _ _ => rfl)) pa_nil))))) pa_nil)) (pe_lst (pa_cons pe_bl (pa_cons pe_bl (pa_cons pe_bl pa_nil)))) (nomark _)))))))))))))), ?_⟩
  refine ⟨_, rfl, _, _, rfl, by decide, by decide, fun rest r0 r1 => ?_⟩
  dsimp only [gName]
  have S0 := Int.emod_nonneg rest (show (6 : Int) ≠ 0 by decide)
  have S1 := Int.emod_lt_of_pos rest (show (0 : Int) < 6 by decide)
  refine ⟨_, rfl, _, rfl, _, rfl, _, rfl, _, _, rfl, rfl, (by show (0 : Int) < 6; decide), cell, ia, ias, ins, oa, oas, outs, rest % 6, 2, rfl, ei, hki, ki.good, eo, hko, ko.good, S0, by (first | lia | omega), by decide, by decide, fun b ha ra ras head rows H1 s1 bk bo => ?_⟩
  dsimp only [gName]
  have hrl : rows.length = ras.length := Paired.length bk.rw
  have hlen := bo.len
  have hrs : ∀ row ∈ rows, ∀ t ∈ row, t.tall ≤ 3 ∧ t.size ≤ 64 := fun row hr => row_size ko.good (bo.row row hr)
  have hhs := head_size ko.good bo
  have hhd := bo.hdt
  have hok := ok_of_book ko.good bo (by (first | lia | omega))
  -- rules
  refine seq_intro (fun σ' H' => ∃ (ru : Addr) (rls : List Addr), L2.Same H1 H' ∧ SRows H' rows ru rls ∧ σ' = [some (.int cell), some (.ref ia), some (.ref oa), some (.int rest), some (.ref b), some (.ref ru), none, none]) (fun kk hk => ?_) ?_
  · refine ⟨_, rfl, b, _, 3, .ref ra, rfl, rfl, SqT.of bk.bk, rfl, ra, rfl, ⟨_, SqT.of bk.rl⟩, rows_lists bk.rl bk.rw (by (first | lia | omega)) fun D H2 ls hD s2 eD hls => ?_⟩
    refine ⟨_, rfl, b, _, 3, .ref ra, rfl, rfl, SqT.of (s2 _ _ bk.bk), rfl, line_le (by show 2 ≤ 1000000; decide), fun l hl => ?_⟩
    have s3 := same_new hl (.lst [.ref D, .ref ra])
    have x0 := Int.emod_nonneg (rest / 5) (show (2 : Int) ≠ 0 by decide)
    have x1 := Int.emod_lt_of_pos (rest / 5) (show (0 : Int) < 2 by decide)
    rcases (by (first | lia | omega) : rest / 5 % 2 = 0 ∨ rest / 5 % 2 = 1) with z | z
    · refine ⟨_, rfl, _, _, rfl, rfl, ⟨by decide, by decide⟩, _, _, rfl, rfl, (by show (0 : Int) < 2; decide), l, _, _, .ref D, rfl, rfl, SqL.of upd_same, by rw [z]; rfl, hk _ _ ⟨D, ls, s2.trans s3, ⟨.inl (s3 _ _ eD), P2.mp (fun _ _ e => (e.1.s).mono s3) hls⟩, rfl⟩⟩
    · refine ⟨_, rfl, _, _, rfl, rfl, ⟨by decide, by decide⟩, _, _, rfl, rfl, (by show (0 : Int) < 2; decide), l, _, _, .ref ra, rfl, rfl, SqL.of upd_same, by rw [z]; rfl, hk _ _ ⟨ra, ras, s2.trans s3, ⟨.inr ((s2.trans s3) _ _ bk.rl), P2.mp (fun _ _ e => (RowAt.s e).mono (s2.trans s3)) bk.rw⟩, rfl⟩⟩
  rintro σ' H2 ⟨ru, rls, s2, hru, rfl⟩
  have s02 := s1.trans s2
  -- found
  refine seq_intro (fun σ' H' => ∃ (fr : Addr), L2.Same H2 H' ∧ Bk H' ins outs head rows fr ∧ σ' = [some (.int cell), some (.ref ia), some (.ref oa), some (.int rest), some (.ref b), some (.ref ru), some (.ref fr), none]) (fun kk hk => ?_) ?_
  · refine ⟨_, rfl, ia, _, rfl, .inr (SqT.of (s02 _ _ ei)), fun l1 hl1 => ?_⟩
    have t1 := same_new hl1 (.lst (ias.map V.ref))
    have e1 : (upd H2 l1 (.lst (ias.map V.ref))) l1 = some (.lst (ias.map V.ref)) := upd_same
    generalize (upd H2 l1 (.lst (ias.map V.ref))) = H3 at t1 e1 ⊢
    refine ⟨_, rfl, line_le (by show 2 ≤ 1000000; decide), fun l2 hl2 => ?_⟩
    have t2 := same_new hl2 (.lst [.ref l1, .ref ia])
    have e2 : (upd H3 l2 (.lst [.ref l1, .ref ia])) l2 = some (.lst [.ref l1, .ref ia]) := upd_same
    generalize (upd H3 l2 (.lst [.ref l1, .ref ia])) = H4 at t2 e2 ⊢
    have s24 := t1.trans t2
    have s04 := s02.trans s24
    have s14 := s2.trans s24
    have x0 := Int.emod_nonneg (rest / 10) (show (2 : Int) ≠ 0 by decide)
    have x1 := Int.emod_lt_of_pos (rest / 10) (show (0 : Int) < 2 by decide)
    obtain ⟨ic, hic, hIP⟩ : ∃ ic, atI [V.ref l1, V.ref ia] (rest / 10 % 2) = some (.ref ic) ∧ KPairs K H4 ins ic ias := by
      rcases (by (first | lia | omega) : rest / 10 % 2 = 0 ∨ rest / 10 % 2 = 1) with z | z <;> rw [z]
      · refine ⟨l1, rfl, .inl (SqL.of (t2 _ _ e1)), hki.mono (Same.kt s04), by have := ki.good.le; (first | lia | omega), fun k hk => by have := (ki.good.low k hk).2; (first | lia | omega)⟩
      · exact ⟨ia, rfl, kp_tup (s04 _ _ ei) (hki.mono (Same.kt s04)) ki⟩
    exact ⟨_, rfl, _, _, rfl, rfl, ⟨by decide, by decide⟩, _, _, rfl, rfl, (by show (0 : Int) < 2; decide), l2, _, _, .ref ic, rfl, rfl, SqL.of e2, hic, _, rfl, _, rfl, b, _, 2, .ref ha, rfl, rfl, SqT.of (s14 _ _ bk.bk), at2, _, rfl, ic, oa, ha, ru, ias, oas, rls, ins, outs, head, rows, rfl, hIP, kp_tup (s04 _ _ eo) (hko.mono (Same.kt s04)) ko, bk.hd.mono (Same.kt s14), by (first | lia | omega), hru.mono s24, by (first | lia | omega), fun row hr t ht => by have := hrs row hr t ht; (first | lia | omega), ki.ok, ko.ok, hok, fun fr H5 s5 hbk => hk _ _ ⟨fr, s24.trans s5, hbk, rfl⟩⟩
  rintro σ' H3 ⟨fr, s3, hfr, rfl⟩
  have s13 := s2.trans s3
  have s03 := s02.trans s3
  have bk3 := bk.mono (Same.kt s13)
  have hru3 := hru.mono s3
  obtain ⟨fia, foa, fha, fra, fias, foas, fras, fbk⟩ := hfr
  have hfl : rows.length = fras.length := Paired.length fbk.rw
  have hdeep := bookDv_deep (ins := ins) (outs := outs) (head := head) (rows := rows) (m := 3) (by decide) (by (first | lia | omega)) (fun row hr t ht => (hrs row hr t ht).1)
  -- first test
  refine seq_intro (fun σ' H' => H3 = H' ∧ σ' = [some (.int cell), some (.ref ia), some (.ref oa), some (.int rest), some (.ref b), some (.ref ru), some (.ref fr), none]) (fun kk hk => ?_) ?_
  · refine if_intro (fun bb H' => bb = false ∧ H3 = H') (fun k2 hk2 => ?_) (fun H' hb => by cases hb.1) (fun H' hb => hk _ _ ⟨hb.2, rfl⟩)
    refine ⟨_, rfl, _, rfl, fr, b, _, _, _, _, rfl, rfl, SqT.of fbk.bk, SqT.of bk3.bk, book_dv fbk, book_dv bk3, by (first | lia | omega), fun bb hbb => ⟨_, rfl, ?_⟩⟩
    have : bb = false := by
      cases bb with
      | false => rfl
      | true => exact absurd rfl (hbb.mp rfl)
    subst this
    refine iteF ⟨_, rfl, fr, _, 3, .ref fra, rfl, rfl, SqT.of fbk.bk, rfl, _, _, _, rfl, .tup fbk.rl, isi_tt, _, rfl, ?_⟩
    refine iteF ⟨_, rfl, fr, _, 0, .ref fia, rfl, rfl, SqT.of fbk.bk, at0, _, _, _, rfl, .tup fbk.inE, isi_tt, _, rfl, ?_⟩
    exact hk2 _ _ ⟨rfl, rfl⟩
  rintro σ' H' ⟨rfl, rfl⟩
  -- second test
  refine seq_intro (fun σ' H' => L2.Same H3 H' ∧ σ' = [some (.int cell), some (.ref ia), some (.ref oa), some (.int rest), some (.ref b), some (.ref ru), some (.ref fr), none]) (fun kk hk => ?_) ?_
  · refine if_intro (fun bb H' => bb = false ∧ L2.Same H3 H') (fun k2 hk2 => ?_) (fun H' hb => by cases hb.1) (fun H' hb => hk _ _ ⟨hb.2, rfl⟩)
    refine ⟨_, rfl, fr, _, 3, .ref fra, rfl, rfl, SqT.of fbk.bk, rfl, fra, rfl, ⟨_, SqT.of fbk.rl⟩, comp_sm_tup fras (fun _ => V.bl true) (SqT.of fbk.rl) (by rw [List.length_map]) (by rw [List.length_map]; (first | lia | omega)) (fun i x z Hx R W' hx hz sx hR => ?_) (fun D H4 hD s4 e4 => ?_)⟩
    · obtain ⟨ka, rfl, hka⟩ := get_ref hx
      obtain ⟨_, _, tas, e5, _⟩ := P2.get' fbk.rw hka
      exact ⟨_, rfl, _, _, _, rfl, .tup (sx _ _ e5), isi_tt, hR _ (.refl _)⟩
    have ebs : fras.map (fun _ => V.bl true) = (List.replicate fras.length true).map V.bl := by
      rw [List.map_replicate, List.map_const']
    rw [ebs] at e4
    refine ⟨D, _, rfl, SqL.of e4, _, rfl, ?_⟩
    have eall : (List.replicate fras.length true).all id = true := by
      rw [List.all_eq_true]
      intro x hx
      rw [List.eq_of_mem_replicate hx]
      rfl
    rw [eall]
    refine iteF ?_
    refine ⟨_, rfl, ru, rfl, rows_tuples (hru3.mono s4) (by (first | lia | omega)) fun D2 H5 bs s5 e5 hp5 => ?_⟩
    have s35 := s4.trans s5
    refine ⟨_, rfl, b, _, 3, .ref ra, rfl, rfl, SqT.of (s35 _ _ bk3.bk), rfl, ra, _, rfl, .inr (SqT.of (s35 _ _ bk3.rl)), fun l6 hl6 => ?_⟩
    have s6 := same_new hl6 (.lst (ras.map V.ref))
    have hdr := rowsDv_deep (rows := rows) (m := 3) (fun row hr t ht => (hrs row hr t ht).1)
    refine ⟨D2, l6, _, _, _, _, rfl, rfl, SqL.of (s6 _ _ e5), SqL.of upd_same, rows_dv (P2.mp (fun _ _ e => e.mono (Same.kt s6)) hp5), rows_dv (P2.mp (fun _ _ e => e.mono (Same.kt (s35.trans s6))) bk3.rw), by (first | lia | omega), fun bb hbb => ⟨_, rfl, ?_⟩⟩
    have : bb = false := by
      cases bb with
      | false => rfl
      | true => exact absurd rfl (hbb.mp rfl)
    subst this
    exact hk2 _ _ ⟨rfl, s35.trans s6⟩
  rintro σ' H4 ⟨s4, rfl⟩
  have s04 := s03.trans s4
  have bk4 := bk3.mono (Same.kt s4)
  -- faulty
  refine ⟨_, rfl, _, rfl, _, _, rfl, rfl, ⟨by decide, by decide⟩, b, ia, oa, ha, ra, ias, oas, ras, ins, outs, head, rows, rest % 6, rest / 20, rfl, bk4, bo, by (first | lia | omega), ki, ko, fun pt H5 s5 hft => ?_⟩
  dsimp only [gName]
  have s05 := s04.trans s5
  obtain ⟨fha, fru, frls, fhead, frows, ept, fhd, fhz, fsr, frn, frz, fno⟩ := hft.ex
  have kpi : ∀ H', L2.Same H H' → KPairs K H' ins ia ias := fun H' s => kp_tup (s _ _ ei) (hki.mono (Same.kt s)) ki
  have kpo : ∀ H', L2.Same H H' → KPairs K H' outs oa oas := fun H' s => kp_tup (s _ _ eo) (hko.mono (Same.kt s)) ko
  refine seq_intro (fun σ' H' => L2.Same H5 H' ∧ σ' = [some (.int cell), some (.ref ia), some (.ref oa), some (.int rest), some (.ref b), some (.ref ru), some (.ref fr), some (.ref pt)]) (fun kk hk => ?_) ?_
  · refine if_intro (fun bb H' => bb = false ∧ L2.Same H5 H') (fun k2 hk2 => ?_) (fun H' hb => by cases hb.1) (fun H' hb => hk _ _ ⟨hb.2, rfl⟩)
    refine ⟨_, rfl, pt, ia, oa, fha, fru, ias, oas, frls, ins, outs, fhead, frows, rfl, ept, kpi _ s05, kpo _ s05, fhd, fhz, fsr, frn, frz, fun _ _ => fno, fun hn => absurd ⟨ki.ok, ko.ok⟩ hn, fun _ _ l H6 s6 e6 => ?_⟩
    refine ⟨line_le (by show 3 ≤ 1000000; decide), fun l7 hl7 => ?_⟩
    have s7 := same_new hl7 (.lst [.bl false, .bl true, .bl true])
    exact ⟨l, l7, [false, true, true], rfl, rfl, SqL.of (s7 _ _ e6), SqL.of upd_same, _, rfl, hk2 _ _ ⟨rfl, s6.trans s7⟩⟩
  rintro σ' H6 ⟨s6, rfl⟩
  have s06 := s05.trans s6
  -- the parts
  refine seq_intro (fun σ' H' => H6 = H' ∧ ∃ pt', PartsAt H6 pt' ia oa ∧ σ' = [some (.int cell), some (.ref ia), some (.ref oa), some (.int rest), some (.ref b), some (.ref ru), some (.ref fr), some (.ref pt')]) (fun kk hk => ?_) ?_
  · refine ⟨_, rfl, _, _, rfl, rfl, ⟨by decide, by decide⟩, _, _, rfl, rfl, (by show (0 : Int) < 2; decide), rfl, _, rfl, ?_⟩
    refine ite2 (fun c => ?_) (fun c => ?_)
    · have bk6 := bk4.mono (Same.kt (s5.trans s6))
      exact ⟨_, rfl, hk _ _ ⟨rfl, b, ⟨ha, ra, ras, head, rows, bk6.bk, bk6.hd, by (first | lia | omega), ⟨.inr bk6.rl, P2.mp (fun _ _ e => RowAt.s e) bk6.rw⟩, by (first | lia | omega), fun row hr t ht => by have := hrs row hr t ht; (first | lia | omega)⟩, rfl⟩⟩
    · exact hk _ _ ⟨rfl, pt, ⟨fha, fru, frls, fhead, frows, s6 _ _ ept, fhd.mono (Same.kt s6), fhz, fsr.mono s6, frn, frz⟩, rfl⟩
  rintro σ' H' ⟨rfl, pt', ⟨pha, pru, prls, phead, prows, ept', phd, phz, psr, prn, prz⟩, rfl⟩
  refine seq_intro (fun σ' H' => H6 = H' ∧ σ' = [some (.int cell), some (.ref ia), some (.ref oa), some (.int rest), some (.ref b), some (.ref ru), some (.ref fr), some (.ref pt')]) (fun kk hk => ?_) ?_
  · refine ⟨_, rfl, _, _, rfl, rfl, ⟨by decide, by decide⟩, _, _, rfl, rfl, (by show (0 : Int) < 2; decide), rfl, _, rfl, ?_⟩
    refine ite2 (fun c => ?_) (fun c => hk _ _ ⟨rfl, rfl⟩)
    refine ⟨_, rfl, _, rfl, _, _, rfl, rfl, ⟨by decide, by decide⟩, ia, ias, ins, rest / 160, rfl, s06 _ _ ei, hki.mono (Same.kt s06), ki, fun r kas' ks' H7 s7 e7 hk7 hl7 hn7 hb7 => ?_⟩
    have e7' := s7 _ _ ept'
    refine ⟨_, rfl, pt', _, 1, .ref oa, rfl, rfl, SqT.of e7', at1, _, rfl, pt', _, 2, .ref pha, rfl, rfl, SqT.of e7', at2, _, rfl, pt', _, 3, .ref pru, rfl, rfl, SqT.of e7', rfl, line_le (by show 4 ≤ 1000000; decide), fun p8 hp8 => ?_⟩
    have s8 := same_new hp8 (.tup [.ref r, .ref oa, .ref pha, .ref pru])
    have s78 := s7.trans s8
    refine ⟨p8, r, oa, pha, pru, kas', oas, prls, ks', outs, phead, prows, rfl, upd_same, ⟨.inl (SqL.of (s8 _ _ e7)), hk7.mono (Same.kt s8), by (first | lia | omega), fun k hk => by have := hn7 k hk; (first | lia | omega)⟩, kpo _ (s06.trans s78), phd.mono (Same.kt s78), phz, psr.mono s78, prn, prz, fun z => (by rw [hb7] at z; cases z), fun _ l H9 s9 e9 => ?_, fun z => (by rw [hb7] at z; cases z)⟩
    refine ⟨line_le (by show 3 ≤ 1000000; decide), fun lA hlA => ?_⟩
    have sA := same_new hlA (.lst [.bl true, .bl false, .bl true])
    exact ⟨l, lA, [true, false, true], [true, false, true], rfl, rfl, SqL.of (sA _ _ e9), SqL.of upd_same, q _ (s06.trans (s78.trans (s9.trans sA)))⟩
  rintro σ' H' ⟨rfl, rfl⟩
  refine ⟨_, rfl, pt', _, 0, .ref ia, rfl, rfl, SqT.of ept', at0, _, rfl, _, rfl, _, _, rfl, rfl, ⟨by decide, by decide⟩, oa, oas, outs, rest / 160, rfl, s06 _ _ eo, hko.mono (Same.kt s06), ko, fun r kas' ks' H7 s7 e7 hk7 hl7 hn7 hb7 => ?_⟩
  have e7' := s7 _ _ ept'
  refine ⟨_, rfl, pt', _, 2, .ref pha, rfl, rfl, SqT.of e7', at2, _, rfl, pt', _, 3, .ref pru, rfl, rfl, SqT.of e7', rfl, line_le (by show 4 ≤ 1000000; decide), fun p8 hp8 => ?_⟩
  have s8 := same_new hp8 (.tup [.ref ia, .ref r, .ref pha, .ref pru])
  have s78 := s7.trans s8
  refine ⟨p8, ia, r, pha, pru, ias, kas', prls, ins, ks', phead, prows, rfl, upd_same, kpi _ (s06.trans s78), ⟨.inl (SqL.of (s8 _ _ e7)), hk7.mono (Same.kt s8), by (first | lia | omega), fun k hk => by have := hn7 k hk; (first | lia | omega)⟩, phd.mono (Same.kt s78), phz, psr.mono s78, prn, prz, fun _ z => (by rw [hb7] at z; cases z), fun _ l H9 s9 e9 => ?_, fun _ z => (by rw [hb7] at z; cases z)⟩
  refine ⟨line_le (by show 3 ≤ 1000000; decide), fun lA hlA => ?_⟩
  have sA := same_new hlA (.lst [.bl true, .bl false, .bl true])
  exact ⟨l, lA, [true, false, true], [true, false, true], rfl, rfl, SqL.of (sA _ _ e9), SqL.of upd_same, q _ (s06.trans (s78.trans (s9.trans sA)))⟩
end
theorem nq_a : NoQ (Str.ofString "bdhk") := by unfold NoQ; decide +kernel
theorem nq_b : NoQ (Str.ofString "npwz") := by unfold NoQ; decide +kernel
theorem cut_mem {xs : List V} {lo hi : Option Int} {v : V} (h : v ∈ cutV xs lo hi) : v ∈ xs := by
  unfold cutV at h
  exact List.mem_of_mem_drop (List.mem_of_mem_take h)
inductive Isp_law (K : PySem.W.Frag) (vs : List V) (H : Hp) (Q : VK) (_E : XK) : Prop
  | mk (a : Addr) (ns : List Int) (zz0 : vs = [.ref a]) (zz1 : SqL K H a (ns.map V.int)) (zz2 : ns.length ≤ 63) (zz3 : ∀ H', Q (.bl true) H') : Isp_law K vs H Q _E
def sp_law (K : PySem.W.Frag) : Sp := Isp_law K
section
variable {P : Program} {w : World} {K : PySem.W.Frag} {mg : Str → Option Value} {base : Heap} (T : TX K mg)
set_option maxHeartbeats 2000000 in
theorem ok_law : FnOk P w K mg base CX0 20 T.f_law T.d_law ["script"] (sp_law K) := by
  refine T.F_law.ok sc_law (fun vs H Q E h => ?_) (fun cdv A outer s H vs Q E hr h => ?_)
  · obtain ⟨a, ns, rfl, _⟩ := h
    rfl
  obtain ⟨a, ns, rfl, hS, hns, q⟩ := h
  refine ⟨_, (pss_cons (ps_set (i := 1) sc_law.nd rfl (Or.inl rfl) (pe_call (ok__law_kinds T) (hr.mono (by first | decide | (first | lia | omega))) rfl T.m__law_kinds T.F__law_kinds.kp T.b__law_kinds .nil pass0 (pa_cons (pe_call (ok__law_cell T) (hr.mono (by first | decide | (first | lia | omega))) rfl T.m__law_cell T.F__law_cell.kp T.b__law_cell .nil pass0 (pa_cons (pv 0) (pa_cons pe_int pa_nil))) (pa_cons pe_str pa_nil))))
      (pss_cons (ps_set (i := 2) sc_law.nd rfl (Or.inl rfl) (pe_call (ok__law_kinds T) (hr.mono (by first | decide | (first | lia | omega))) rfl T.m__law_kinds T.F__law_kinds.kp T.b__law_kinds .nil pass0 (pa_cons (pe_call (ok__law_cell T) (hr.mono (by first | decide | (first | lia | omega))) rfl T.m__law_cell T.F__law_cell.kp T.b__law_cell .nil pass0 (pa_cons (pv 0) (pa_cons pe_int pa_nil))) (pa_cons pe_str pa_nil))))
      (pss_cons (ps_for PassesOwn.never rfl (pi_list (pe_op op_cat (pe_lst (pa_cons (pe_call (ok__law_cell T) (hr.mono (by first | decide | (first | lia | omega))) rfl T.m__law_cell T.F__law_cell.kp T.b__law_cell .nil pass0 (pa_cons (pv 0) (pa_cons pe_int pa_nil))) pa_nil)) (pe_slice sl_list (pv 0) (po_some pe_int) (po_some pe_int)))) (pg_name (i := 3) sc_law.nd rfl (Or.inl rfl)) (pss_one (ps_if (pt_not (pt_truth (pe_call (ok__law_one T) (hr.mono (by first | decide | (first | lia | omega))) rfl T.m__law_one T.F__law_one.kp T.b__law_one .nil pass0 (pa_cons (pv 3) (pa_cons (pv 1) (pa_cons (pv 2) pa_nil)))) (fun _ => rfl))) (pss_one (ps_ret pe_bl)) pss_nil)))
      (pss_one (ps_ret pe_bl))))), ?_⟩
  refine ⟨_, rfl, a, ns, 0, rfl, hS, by decide, fun c0 => ?_⟩
  refine ⟨_, _, rfl, picks_a, nq_a, fun ia ias ins H1 s1 ei hki ki => ?_⟩
  dsimp only [gName]
  refine ⟨_, rfl, a, ns, 1, rfl, s1.seq hS, by decide, fun c1 => ?_⟩
  refine ⟨_, _, rfl, picks_b, nq_b, fun oa oas outs H2 s2 eo hko ko => ?_⟩
  have s02 := s1.trans s2
  refine ⟨_, rfl, a, ns, 2, rfl, s02.seq hS, by decide, fun c2 => ?_⟩
  refine ⟨line_le (by show 1 ≤ 1000000; decide), fun l1 hl1 => ?_⟩
  have s3 : L2.Same H2 (upd H2 l1 (.lst [.int c2])) := same_new hl1 _
  have e3 : (upd H2 l1 (.lst [.int c2])) l1 = some (.lst [.int c2]) := upd_same
  generalize (upd H2 l1 (.lst [.int c2])) = H3 at s3 e3 ⊢
  refine ⟨_, rfl, 3, rfl, 30, rfl, a, _, rfl, (s02.trans s3).seq hS, fun l2 hl2 => ?_⟩
  have hall : ∀ v ∈ cutV (ns.map V.int) (some 3) (some 30), ∃ z, v = V.int z := fun v hv => by
    obtain ⟨z, _, rfl⟩ := List.mem_map.mp (cut_mem hv)
    exact ⟨z, rfl⟩
  have hcl : (cutV (ns.map V.int) (some 3) (some 30)).length ≤ 63 := by
    unfold cutV
    rw [List.length_take, List.length_drop, List.length_map]
    (first | lia | omega)
  generalize cutV (ns.map V.int) (some 3) (some 30) = xs at hall hcl ⊢
  have s4 : L2.Same H3 (upd H3 l2 (.lst xs)) := same_new hl2 _
  have e4 : (upd H3 l2 (.lst xs)) l2 = some (.lst xs) := upd_same
  generalize (upd H3 l2 (.lst xs)) = H4 at s4 e4 ⊢
  refine ⟨l1, l2, _, _, rfl, rfl, s4 _ _ e3, e4, line_le (by show 1 + xs.length ≤ 1000000; (first | lia | omega)), fun l3 hl3 => ?_⟩
  have s5 : L2.Same H4 (upd H4 l3 (.lst ([V.int c2] ++ xs))) := same_new hl3 _
  have e5 : (upd H4 l3 (.lst ([V.int c2] ++ xs))) l3 = some (.lst ([V.int c2] ++ xs)) := upd_same
  generalize (upd H4 l3 (.lst ([V.int c2] ++ xs))) = H5 at s5 e5 ⊢
  have s25 := s3.trans (s4.trans s5)
  have hall2 : ∀ v ∈ [V.int c2] ++ xs, ∃ z, v = V.int z := fun v hv => by
    rcases List.mem_append.mp hv with h | h
    · exact ⟨c2, List.mem_singleton.mp h⟩
    · exact hall v h
  generalize [V.int c2] ++ xs = ys at e5 hall2 ⊢
  refine ⟨l3, rfl, ⟨_, SqL.of e5⟩, ?_⟩
  refine for_list (K := K) (a := l3) (xs := ys) (fun i σ H6 => ∃ cv, σ = [some (.ref a), some (.ref ia), some (.ref oa), cv] ∧ L2.Same H5 H6) ⟨none, rfl, .refl _⟩ (fun i σ H6 _ ⟨_, _, s6⟩ => SqL.of (s6 _ _ e5)) ?_ ?_
  rotate_left
  · intro σ H6 _
    exact q H6
  rintro i x σ H6 hx ⟨cv, rfl, s6⟩
  obtain ⟨cell, rfl⟩ := hall2 x (List.mem_of_getElem? hx)
  have s26 := s25.trans s6
  have s16 := s2.trans s26
  refine ⟨_, rfl, _, rfl, _, rfl, cell, ia, oa, ias, oas, ins, outs, rfl, s16 _ _ ei, hki.mono (Same.kt s16), ki, s26 _ _ eo, hko.mono (Same.kt s26), ko, fun H7 s7 => ⟨_, rfl, ?_⟩⟩
  refine iteF ?_
  exact ⟨_, rfl, s6.trans s7⟩
end
set_option maxHeartbeats 8000000 in
theorem all_mk {l : PySem.W.OpenLaw} {w : World} {K : PySem.W.Frag} {h : Heap} {mg : Str → Option Value} {fa : Addr} (X : K.In h) (G : h.Ns mainGlobals mg) (hfa : mg "law" = some (.ref fa))
    {own_Measure : Addr} {f0 : Addr} {od0 an0 : Option Addr} {sl0 : Array (Option Value)} {oc0 kV0 dc0 pm0 cd0 ct0 : Value} {f1 : Addr} {od1 an1 : Option Addr} {sl1 : Array (Option Value)} {oc1 kV1 dc1 pm1 cd1 ct1 : Value} {f2 : Addr} {od2 an2 : Option Addr} {sl2 : Array (Option Value)} {oc2 kV2 dc2 pm2 cd2 ct2 : Value} {f3 : Addr} {od3 an3 : Option Addr} {sl3 : Array (Option Value)} {oc3 kV3 dc3 pm3 cd3 ct3 : Value} {f4 : Addr} {od4 an4 : Option Addr} {sl4 : Array (Option Value)} {oc4 kV4 dc4 pm4 cd4 ct4 : Value} {f5 : Addr} {od5 an5 : Option Addr} {sl5 : Array (Option Value)} {oc5 kV5 dc5 pm5 cd5 ct5 : Value} {f6 : Addr} {od6 an6 : Option Addr} {sl6 : Array (Option Value)} {oc6 kV6 dc6 pm6 cd6 ct6 : Value} {f7 : Addr} {od7 an7 : Option Addr} {sl7 : Array (Option Value)} {oc7 kV7 dc7 pm7 cd7 ct7 : Value} {f8 : Addr} {od8 an8 : Option Addr} {sl8 : Array (Option Value)} {oc8 kV8 dc8 pm8 cd8 ct8 : Value} {f9 : Addr} {od9 an9 : Option Addr} {sl9 : Array (Option Value)} {oc9 kV9 dc9 pm9 cd9 ct9 : Value} {f10 : Addr} {od10 an10 : Option Addr} {sl10 : Array (Option Value)} {oc10 kV10 dc10 pm10 cd10 ct10 : Value} {f11 : Addr} {od11 an11 : Option Addr} {sl11 : Array (Option Value)} {oc11 kV11 dc11 pm11 cd11 ct11 : Value} {f12 : Addr} {od12 an12 : Option Addr} {sl12 : Array (Option Value)} {oc12 kV12 dc12 pm12 cd12 ct12 : Value} {f13 : Addr} {od13 an13 : Option Addr} {sl13 : Array (Option Value)} {oc13 kV13 dc13 pm13 cd13 ct13 : Value} {f14 : Addr} {od14 an14 : Option Addr} {sl14 : Array (Option Value)} {oc14 kV14 dc14 pm14 cd14 ct14 : Value} {f15 : Addr} {od15 an15 : Option Addr} {sl15 : Array (Option Value)} {oc15 kV15 dc15 pm15 cd15 ct15 : Value} {f16 : Addr} {od16 an16 : Option Addr} {sl16 : Array (Option Value)} {oc16 kV16 dc16 pm16 cd16 ct16 : Value} {f17 : Addr} {od17 an17 : Option Addr} {sl17 : Array (Option Value)} {oc17 kV17 dc17 pm17 cd17 ct17 : Value} {f18 : Addr} {od18 an18 : Option Addr} {sl18 : Array (Option Value)} {oc18 kV18 dc18 pm18 cd18 ct18 : Value} {f19 : Addr} {od19 an19 : Option Addr} {sl19 : Array (Option Value)} {oc19 kV19 dc19 pm19 cd19 ct19 : Value} {f20 : Addr} {od20 an20 : Option Addr} {sl20 : Array (Option Value)} {oc20 kV20 dc20 pm20 cd20 ct20 : Value} {f21 : Addr} {od21 an21 : Option Addr} {sl21 : Array (Option Value)} {oc21 kV21 dc21 pm21 cd21 ct21 : Value} {f22 : Addr} {od22 an22 : Option Addr} {sl22 : Array (Option Value)} {oc22 kV22 dc22 pm22 cd22 ct22 : Value} {f23 : Addr} {od23 an23 : Option Addr} {sl23 : Array (Option Value)} {oc23 kV23 dc23 pm23 cd23 ct23 : Value} {f24 : Addr} {od24 an24 : Option Addr} {sl24 : Array (Option Value)} {oc24 kV24 dc24 pm24 cd24 ct24 : Value} {f25 : Addr} {od25 an25 : Option Addr} {sl25 : Array (Option Value)} {oc25 kV25 dc25 pm25 cd25 ct25 : Value} {f26 : Addr} {od26 an26 : Option Addr} {sl26 : Array (Option Value)} {oc26 kV26 dc26 pm26 cd26 ct26 : Value} {f27 : Addr} {od27 an27 : Option Addr} {sl27 : Array (Option Value)} {oc27 kV27 dc27 pm27 cd27 ct27 : Value} {f28 : Addr} {od28 an28 : Option Addr} {sl28 : Array (Option Value)} {oc28 kV28 dc28 pm28 cd28 ct28 : Value} {f29 : Addr} {od29 an29 : Option Addr} {sl29 : Array (Option Value)} {oc29 kV29 dc29 pm29 cd29 ct29 : Value} {f30 : Addr} {od30 an30 : Option Addr} {sl30 : Array (Option Value)} {oc30 kV30 dc30 pm30 cd30 ct30 : Value} {f31 : Addr} {od31 an31 : Option Addr} {sl31 : Array (Option Value)} {oc31 kV31 dc31 pm31 cd31 ct31 : Value} {tk0 : Tok} {tk1 : Tok} {tk2 : Tok} {tk3 : Tok} {tk4 : Tok} {tk5 : Tok} {tk6 : Tok} {tk7 : Tok} {ex_BookError : Addr} {ex_NoKinds : Addr} {ex_NoBook : Addr}
    (on_Measure : PySem.W.nsIn K mainGlobals "Measure" = some (some (.ref own_Measure)))
    (pg_Measure : PySem.W.plainGet K own_Measure Str.empty = true)
    (hd_Measure : PySem.W.hasDictIn K own_Measure = true)
    (po_Measure : PySem.W.plainOver K own_Measure = true)
    (sa_Measure : PySem.W.findIn K (.ref own_Measure) "__setattr__" = some (some (.builtin "object.__setattr__")))
    (mk_Measure : PySem.W.makesIn K own_Measure = true)
    (kc_Measure : PySem.W.keepIn K (.ref own_Measure) = true)
    (na_Measure_met_knots : PySem.W.findIn K (.ref own_Measure) "met_knots" = some none)
    (na_Measure_met_calls : PySem.W.findIn K (.ref own_Measure) "met_calls" = some none)
    (a0 : PySem.W.nsIn K mainGlobals "is_number" = some (some (.ref f0))) (l0 : K.lookup f0 = some ⟨oc0, od0, .func (PySem.W.fnOf "is_number" "is_number" (defArgs s_is_number) (defBody s_is_number) (defScope s_is_number) .none kV0 dc0 pm0 an0 cd0 ct0), sl0⟩) (c0 : PySem.W.codeIn K cd0 "is_number" = true) (k0 : PySem.W.keepIn K (.ref f0) = true)
    (a1 : PySem.W.nsIn K mainGlobals "is_below" = some (some (.ref f1))) (l1 : K.lookup f1 = some ⟨oc1, od1, .func (PySem.W.fnOf "is_below" "is_below" (defArgs s_is_below) (defBody s_is_below) (defScope s_is_below) .none kV1 dc1 pm1 an1 cd1 ct1), sl1⟩) (c1 : PySem.W.codeIn K cd1 "is_below" = true) (k1 : PySem.W.keepIn K (.ref f1) = true)
    (a2 : PySem.W.nsIn K mainGlobals "is_name" = some (some (.ref f2))) (l2 : K.lookup f2 = some ⟨oc2, od2, .func (PySem.W.fnOf "is_name" "is_name" (defArgs s_is_name) (defBody s_is_name) (defScope s_is_name) .none kV2 dc2 pm2 an2 cd2 ct2), sl2⟩) (c2 : PySem.W.codeIn K cd2 "is_name" = true) (k2 : PySem.W.keepIn K (.ref f2) = true)
    (a3 : PySem.W.nsIn K mainGlobals "is_kind" = some (some (.ref f3))) (l3 : K.lookup f3 = some ⟨oc3, od3, .func (PySem.W.fnOf "is_kind" "is_kind" (defArgs s_is_kind) (defBody s_is_kind) (defScope s_is_kind) .none kV3 dc3 pm3 an3 cd3 ct3), sl3⟩) (c3 : PySem.W.codeIn K cd3 "is_kind" = true) (k3 : PySem.W.keepIn K (.ref f3) = true)
    (a4 : PySem.W.nsIn K mainGlobals "are_kinds" = some (some (.ref f4))) (l4 : K.lookup f4 = some ⟨oc4, od4, .func (PySem.W.fnOf "are_kinds" "are_kinds" (defArgs s_are_kinds) (defBody s_are_kinds) (defScope s_are_kinds) .none kV4 dc4 pm4 an4 cd4 ct4), sl4⟩) (c4 : PySem.W.codeIn K cd4 "are_kinds" = true) (k4 : PySem.W.keepIn K (.ref f4) = true)
    (a5 : PySem.W.nsIn K mainGlobals "kinds_of" = some (some (.ref f5))) (l5 : K.lookup f5 = some ⟨oc5, od5, .func (PySem.W.fnOf "kinds_of" "kinds_of" (defArgs s_kinds_of) (defBody s_kinds_of) (defScope s_kinds_of) .none kV5 dc5 pm5 an5 cd5 ct5), sl5⟩) (c5 : PySem.W.codeIn K cd5 "kinds_of" = true) (k5 : PySem.W.keepIn K (.ref f5) = true)
    (a6 : PySem.W.nsIn K mainGlobals "many_of" = some (some (.ref f6))) (l6 : K.lookup f6 = some ⟨oc6, od6, .func (PySem.W.fnOf "many_of" "many_of" (defArgs s_many_of) (defBody s_many_of) (defScope s_many_of) .none kV6 dc6 pm6 an6 cd6 ct6), sl6⟩) (c6 : PySem.W.codeIn K cd6 "many_of" = true) (k6 : PySem.W.keepIn K (.ref f6) = true)
    (a7 : PySem.W.nsIn K mainGlobals "kids_of" = some (some (.ref f7))) (l7 : K.lookup f7 = some ⟨oc7, od7, .func (PySem.W.fnOf "kids_of" "kids_of" (defArgs s_kids_of) (defBody s_kids_of) (defScope s_kids_of) .none kV7 dc7 pm7 an7 cd7 ct7), sl7⟩) (c7 : PySem.W.codeIn K cd7 "kids_of" = true) (k7 : PySem.W.keepIn K (.ref f7) = true)
    (a8 : PySem.W.nsIn K mainGlobals "walked" = some (some (.ref f8))) (l8 : K.lookup f8 = some ⟨oc8, od8, .func (PySem.W.fnOf "walked" "walked" (defArgs s_walked) (defBody s_walked) (defScope s_walked) .none kV8 dc8 pm8 an8 cd8 ct8), sl8⟩) (c8 : PySem.W.codeIn K cd8 "walked" = true) (k8 : PySem.W.keepIn K (.ref f8) = true)
    (a9 : PySem.W.nsIn K mainGlobals "is_call" = some (some (.ref f9))) (l9 : K.lookup f9 = some ⟨oc9, od9, .func (PySem.W.fnOf "is_call" "is_call" (defArgs s_is_call) (defBody s_is_call) (defScope s_is_call) .none kV9 dc9 pm9 an9 cd9 ct9), sl9⟩) (c9 : PySem.W.codeIn K cd9 "is_call" = true) (k9 : PySem.W.keepIn K (.ref f9) = true)
    (a10 : PySem.W.nsIn K mainGlobals "fits_pattern" = some (some (.ref f10))) (l10 : K.lookup f10 = some ⟨oc10, od10, .func (PySem.W.fnOf "fits_pattern" "fits_pattern" (defArgs s_fits_pattern) (defBody s_fits_pattern) (defScope s_fits_pattern) .none kV10 dc10 pm10 an10 cd10 ct10), sl10⟩) (c10 : PySem.W.codeIn K cd10 "fits_pattern" = true) (k10 : PySem.W.keepIn K (.ref f10) = true)
    (a11 : PySem.W.findIn K (.ref own_Measure) "__init__" = some (some (.ref f11))) (i11 : PySem.W.isFn K (.ref f11) = true) (l11 : K.lookup f11 = some ⟨oc11, od11, .func (PySem.W.fnOf "__init__" "Measure.__init__" (defArgs s_Measure_init) (defBody s_Measure_init) (defScope s_Measure_init) .none kV11 dc11 pm11 an11 cd11 ct11), sl11⟩) (c11 : PySem.W.codeIn K cd11 "Measure.__init__" = true) (k11 : PySem.W.keepIn K (.ref f11) = true)
    (a12 : PySem.W.findIn K (.ref own_Measure) "takes" = some (some (.ref f12))) (i12 : PySem.W.isFn K (.ref f12) = true) (l12 : K.lookup f12 = some ⟨oc12, od12, .func (PySem.W.fnOf "takes" "Measure.takes" (defArgs s_Measure_takes) (defBody s_Measure_takes) (defScope s_Measure_takes) .none kV12 dc12 pm12 an12 cd12 ct12), sl12⟩) (c12 : PySem.W.codeIn K cd12 "Measure.takes" = true) (k12 : PySem.W.keepIn K (.ref f12) = true)
    (a13 : PySem.W.nsIn K mainGlobals "is_small" = some (some (.ref f13))) (l13 : K.lookup f13 = some ⟨oc13, od13, .func (PySem.W.fnOf "is_small" "is_small" (defArgs s_is_small) (defBody s_is_small) (defScope s_is_small) .none kV13 dc13 pm13 an13 cd13 ct13), sl13⟩) (c13 : PySem.W.codeIn K cd13 "is_small" = true) (k13 : PySem.W.keepIn K (.ref f13) = true)
    (a14 : PySem.W.nsIn K mainGlobals "check_pattern" = some (some (.ref f14))) (l14 : K.lookup f14 = some ⟨oc14, od14, .func (PySem.W.fnOf "check_pattern" "check_pattern" (defArgs s_check_pattern) (defBody s_check_pattern) (defScope s_check_pattern) .none kV14 dc14 pm14 an14 cd14 ct14), sl14⟩) (c14 : PySem.W.codeIn K cd14 "check_pattern" = true) (k14 : PySem.W.keepIn K (.ref f14) = true)
    (a15 : PySem.W.nsIn K mainGlobals "check_state" = some (some (.ref f15))) (l15 : K.lookup f15 = some ⟨oc15, od15, .func (PySem.W.fnOf "check_state" "check_state" (defArgs s_check_state) (defBody s_check_state) (defScope s_check_state) .none kV15 dc15 pm15 an15 cd15 ct15), sl15⟩) (c15 : PySem.W.codeIn K cd15 "check_state" = true) (k15 : PySem.W.keepIn K (.ref f15) = true)
    (a16 : PySem.W.nsIn K mainGlobals "made_book" = some (some (.ref f16))) (l16 : K.lookup f16 = some ⟨oc16, od16, .func (PySem.W.fnOf "made_book" "made_book" (defArgs s_made_book) (defBody s_made_book) (defScope s_made_book) .none kV16 dc16 pm16 an16 cd16 ct16), sl16⟩) (c16 : PySem.W.codeIn K cd16 "made_book" = true) (k16 : PySem.W.keepIn K (.ref f16) = true)
    (a17 : PySem.W.nsIn K mainGlobals "_law_cell" = some (some (.ref f17))) (l17 : K.lookup f17 = some ⟨oc17, od17, .func (PySem.W.fnOf "_law_cell" "_law_cell" (defArgs s__law_cell) (defBody s__law_cell) (defScope s__law_cell) .none kV17 dc17 pm17 an17 cd17 ct17), sl17⟩) (c17 : PySem.W.codeIn K cd17 "_law_cell" = true) (k17 : PySem.W.keepIn K (.ref f17) = true)
    (a18 : PySem.W.nsIn K mainGlobals "_law_turn" = some (some (.ref f18))) (l18 : K.lookup f18 = some ⟨oc18, od18, .func (PySem.W.fnOf "_law_turn" "_law_turn" (defArgs s__law_turn) (defBody s__law_turn) (defScope s__law_turn) .none kV18 dc18 pm18 an18 cd18 ct18), sl18⟩) (c18 : PySem.W.codeIn K cd18 "_law_turn" = true) (k18 : PySem.W.keepIn K (.ref f18) = true)
    (a19 : PySem.W.nsIn K mainGlobals "_law_kinds" = some (some (.ref f19))) (l19 : K.lookup f19 = some ⟨oc19, od19, .func (PySem.W.fnOf "_law_kinds" "_law_kinds" (defArgs s__law_kinds) (defBody s__law_kinds) (defScope s__law_kinds) .none kV19 dc19 pm19 an19 cd19 ct19), sl19⟩) (c19 : PySem.W.codeIn K cd19 "_law_kinds" = true) (k19 : PySem.W.keepIn K (.ref f19) = true)
    (a20 : PySem.W.nsIn K mainGlobals "_law_leaf" = some (some (.ref f20))) (l20 : K.lookup f20 = some ⟨oc20, od20, .func (PySem.W.fnOf "_law_leaf" "_law_leaf" (defArgs s__law_leaf) (defBody s__law_leaf) (defScope s__law_leaf) .none kV20 dc20 pm20 an20 cd20 ct20), sl20⟩) (c20 : PySem.W.codeIn K cd20 "_law_leaf" = true) (k20 : PySem.W.keepIn K (.ref f20) = true)
    (a21 : PySem.W.nsIn K mainGlobals "_law_pattern" = some (some (.ref f21))) (l21 : K.lookup f21 = some ⟨oc21, od21, .func (PySem.W.fnOf "_law_pattern" "_law_pattern" (defArgs s__law_pattern) (defBody s__law_pattern) (defScope s__law_pattern) .none kV21 dc21 pm21 an21 cd21 ct21), sl21⟩) (c21 : PySem.W.codeIn K cd21 "_law_pattern" = true) (k21 : PySem.W.keepIn K (.ref f21) = true)
    (a22 : PySem.W.nsIn K mainGlobals "_law_digit" = some (some (.ref f22))) (l22 : K.lookup f22 = some ⟨oc22, od22, .func (PySem.W.fnOf "_law_digit" "_law_digit" (defArgs s__law_digit) (defBody s__law_digit) (defScope s__law_digit) .none kV22 dc22 pm22 an22 cd22 ct22), sl22⟩) (c22 : PySem.W.codeIn K cd22 "_law_digit" = true) (k22 : PySem.W.keepIn K (.ref f22) = true)
    (a23 : PySem.W.nsIn K mainGlobals "_law_by_digits" = some (some (.ref f23))) (l23 : K.lookup f23 = some ⟨oc23, od23, .func (PySem.W.fnOf "_law_by_digits" "_law_by_digits" (defArgs s__law_by_digits) (defBody s__law_by_digits) (defScope s__law_by_digits) .none kV23 dc23 pm23 an23 cd23 ct23), sl23⟩) (c23 : PySem.W.codeIn K cd23 "_law_by_digits" = true) (k23 : PySem.W.keepIn K (.ref f23) = true)
    (a24 : PySem.W.nsIn K mainGlobals "_law_book_by_digits" = some (some (.ref f24))) (l24 : K.lookup f24 = some ⟨oc24, od24, .func (PySem.W.fnOf "_law_book_by_digits" "_law_book_by_digits" (defArgs s__law_book_by_digits) (defBody s__law_book_by_digits) (defScope s__law_book_by_digits) .none kV24 dc24 pm24 an24 cd24 ct24), sl24⟩) (c24 : PySem.W.codeIn K cd24 "_law_book_by_digits" = true) (k24 : PySem.W.keepIn K (.ref f24) = true)
    (a25 : PySem.W.nsIn K mainGlobals "_law_book" = some (some (.ref f25))) (l25 : K.lookup f25 = some ⟨oc25, od25, .func (PySem.W.fnOf "_law_book" "_law_book" (defArgs s__law_book) (defBody s__law_book) (defScope s__law_book) .none kV25 dc25 pm25 an25 cd25 ct25), sl25⟩) (c25 : PySem.W.codeIn K cd25 "_law_book" = true) (k25 : PySem.W.keepIn K (.ref f25) = true)
    (a26 : PySem.W.nsIn K mainGlobals "_law_kinds_spoilt" = some (some (.ref f26))) (l26 : K.lookup f26 = some ⟨oc26, od26, .func (PySem.W.fnOf "_law_kinds_spoilt" "_law_kinds_spoilt" (defArgs s__law_kinds_spoilt) (defBody s__law_kinds_spoilt) (defScope s__law_kinds_spoilt) .none kV26 dc26 pm26 an26 cd26 ct26), sl26⟩) (c26 : PySem.W.codeIn K cd26 "_law_kinds_spoilt" = true) (k26 : PySem.W.keepIn K (.ref f26) = true)
    (a27 : PySem.W.nsIn K mainGlobals "_law_spoilt" = some (some (.ref f27))) (l27 : K.lookup f27 = some ⟨oc27, od27, .func (PySem.W.fnOf "_law_spoilt" "_law_spoilt" (defArgs s__law_spoilt) (defBody s__law_spoilt) (defScope s__law_spoilt) .none kV27 dc27 pm27 an27 cd27 ct27), sl27⟩) (c27 : PySem.W.codeIn K cd27 "_law_spoilt" = true) (k27 : PySem.W.keepIn K (.ref f27) = true)
    (a28 : PySem.W.nsIn K mainGlobals "_law_faulty" = some (some (.ref f28))) (l28 : K.lookup f28 = some ⟨oc28, od28, .func (PySem.W.fnOf "_law_faulty" "_law_faulty" (defArgs s__law_faulty) (defBody s__law_faulty) (defScope s__law_faulty) .none kV28 dc28 pm28 an28 cd28 ct28), sl28⟩) (c28 : PySem.W.codeIn K cd28 "_law_faulty" = true) (k28 : PySem.W.keepIn K (.ref f28) = true)
    (a29 : PySem.W.nsIn K mainGlobals "_law_refusal" = some (some (.ref f29))) (l29 : K.lookup f29 = some ⟨oc29, od29, .func (PySem.W.fnOf "_law_refusal" "_law_refusal" (defArgs s__law_refusal) (defBody s__law_refusal) (defScope s__law_refusal) .none kV29 dc29 pm29 an29 cd29 ct29), sl29⟩) (c29 : PySem.W.codeIn K cd29 "_law_refusal" = true) (k29 : PySem.W.keepIn K (.ref f29) = true)
    (a30 : PySem.W.nsIn K mainGlobals "_law_one" = some (some (.ref f30))) (l30 : K.lookup f30 = some ⟨oc30, od30, .func (PySem.W.fnOf "_law_one" "_law_one" (defArgs s__law_one) (defBody s__law_one) (defScope s__law_one) .none kV30 dc30 pm30 an30 cd30 ct30), sl30⟩) (c30 : PySem.W.codeIn K cd30 "_law_one" = true) (k30 : PySem.W.keepIn K (.ref f30) = true)
    (a31 : PySem.W.nsIn K mainGlobals "law" = some (some (.ref f31))) (l31 : K.lookup f31 = some ⟨oc31, od31, .func (PySem.W.fnOf "law" "law" (defArgs s_law) (defBody s_law) (defScope s_law) .none kV31 dc31 pm31 an31 cd31 ct31), sl31⟩) (c31 : PySem.W.codeIn K cd31 "law" = true) (k31 : PySem.W.keepIn K (.ref f31) = true)
    (z0 : PySem.W.nsIn K mainGlobals "ValueError" = some none)
    (z1 : PySem.W.nsIn K mainGlobals "all" = some none)
    (z2 : PySem.W.nsIn K mainGlobals "bool" = some none)
    (z3 : PySem.W.nsIn K mainGlobals "int" = some none)
    (z4 : PySem.W.nsIn K mainGlobals "isinstance" = some none)
    (z5 : PySem.W.nsIn K mainGlobals "len" = some none)
    (z6 : PySem.W.nsIn K mainGlobals "list" = some none)
    (z7 : PySem.W.nsIn K mainGlobals "max" = some none)
    (z8 : PySem.W.nsIn K mainGlobals "range" = some none)
    (z9 : PySem.W.nsIn K mainGlobals "set" = some none)
    (z10 : PySem.W.nsIn K mainGlobals "str" = some none)
    (z11 : PySem.W.nsIn K mainGlobals "tuple" = some none)
    (z12 : PySem.W.nsIn K mainGlobals "zip" = some none)
    (y0 : PySem.W.nsIn K mainGlobals "CALL_SIGN" = some (some (.str (Str.ofString "?") tk0)))
    (y1 : PySem.W.nsIn K mainGlobals "MOST_LETTERS" = some (some (.int (8) tk1)))
    (y2 : PySem.W.nsIn K mainGlobals "MOST_KINDS" = some (some (.int (8) tk2)))
    (y3 : PySem.W.nsIn K mainGlobals "MOST_KIDS" = some (some (.int (3) tk3)))
    (y4 : PySem.W.nsIn K mainGlobals "MOST_STATES" = some (some (.int (20) tk4)))
    (y5 : PySem.W.nsIn K mainGlobals "MOST_ROWS" = some (some (.int (20) tk5)))
    (y6 : PySem.W.nsIn K mainGlobals "MOST_KNOTS" = some (some (.int (400) tk6)))
    (y7 : PySem.W.nsIn K mainGlobals "MOST_CALLS" = some (some (.int (200) tk7)))
    (xn_BookError : PySem.W.nsIn K mainGlobals "BookError" = some (some (.ref ex_BookError)))
    (xn_NoKinds : PySem.W.nsIn K mainGlobals "NoKinds" = some (some (.ref ex_NoKinds)))
    (xn_NoBook : PySem.W.nsIn K mainGlobals "NoBook" = some (some (.ref ex_NoBook)))
    (xe_NoKinds : PySem.W.excIn K ex_NoKinds [.type "ValueError", .type "Exception", .type "BaseException", .type "object"] "ValueError.__new__" = true)
    (xg_NoKinds : PySem.W.findIn K (.ref ex_NoKinds) "__getattribute__" = some (some (.builtin "BaseException.__getattribute__")))
    (xh_NoKinds : PySem.W.findIn K (.ref ex_NoKinds) "__getattr__" = some none)
    (xc_NoKinds : PySem.W.findIn K (.ref ex_NoKinds) "__class__" = some (some (.builtin "object.__class__")))
    (xo_NoKinds : PySem.W.mroIn K ex_NoKinds (.type "object") = some true)
    (xb_NoKinds : PySem.W.mroIn K ex_NoKinds (.type "BaseException") = some true)
    (hit_NoKinds_BookError : PySem.W.exmOne K (.ref ex_NoKinds) (.ref ex_BookError) = some true)
    (kit_NoKinds_NoKinds : PySem.W.kitOne K (.ref ex_NoKinds) (.ref ex_NoKinds) = some true)
    (kit_NoKinds_NoBook : PySem.W.kitOne K (.ref ex_NoKinds) (.ref ex_NoBook) = some false)
    (kit_NoKinds_ValueError : PySem.W.kitOne K (.ref ex_NoKinds) (.type "ValueError") = some true)
    (xe_NoBook : PySem.W.excIn K ex_NoBook [.type "ValueError", .type "Exception", .type "BaseException", .type "object"] "ValueError.__new__" = true)
    (xg_NoBook : PySem.W.findIn K (.ref ex_NoBook) "__getattribute__" = some (some (.builtin "BaseException.__getattribute__")))
    (xh_NoBook : PySem.W.findIn K (.ref ex_NoBook) "__getattr__" = some none)
    (xc_NoBook : PySem.W.findIn K (.ref ex_NoBook) "__class__" = some (some (.builtin "object.__class__")))
    (xo_NoBook : PySem.W.mroIn K ex_NoBook (.type "object") = some true)
    (xb_NoBook : PySem.W.mroIn K ex_NoBook (.type "BaseException") = some true)
    (hit_NoBook_BookError : PySem.W.exmOne K (.ref ex_NoBook) (.ref ex_BookError) = some true)
    (kit_NoBook_NoKinds : PySem.W.kitOne K (.ref ex_NoBook) (.ref ex_NoKinds) = some false)
    (kit_NoBook_NoBook : PySem.W.kitOne K (.ref ex_NoBook) (.ref ex_NoBook) = some true)
    (kit_NoBook_ValueError : PySem.W.kitOne K (.ref ex_NoBook) (.type "ValueError") = some true) :
    ∃ fd : FuncData, (∀ (s : Shared) (v : Value), BindsTo s fd ⟨[v], []⟩ [("script", v)]) ∧ ∀ base : Heap, K.In base → base.Ns mainGlobals mg → FnOk l.prog w K mg base CX0 20 fa fd ["script"] (sp_law K) := by
  have e0 := hfa.symm.trans (PySem.W.mg_of X G a31)
  have e : f31 = fa := (Value.ref.inj (Option.some.inj e0)).symm
  subst e
  have F0 := fun_mk (st := s_is_number) l0 c0 k0
  have b0 := F0.binds (ps := ["thing"]) fun _ _ _ _ _ _ us hl => by obtain ⟨y0, rfl⟩ := us1 hl; rfl
  have F1 := fun_mk (st := s_is_below) l1 c1 k1
  have b1 := F1.binds (ps := ["number", "bound"]) fun _ _ _ _ _ _ us hl => by obtain ⟨y0, y1, rfl⟩ := us2 hl; rfl
  have F2 := fun_mk (st := s_is_name) l2 c2 k2
  have b2 := F2.binds (ps := ["thing"]) fun _ _ _ _ _ _ us hl => by obtain ⟨y0, rfl⟩ := us1 hl; rfl
  have F3 := fun_mk (st := s_is_kind) l3 c3 k3
  have b3 := F3.binds (ps := ["pair"]) fun _ _ _ _ _ _ us hl => by obtain ⟨y0, rfl⟩ := us1 hl; rfl
  have F4 := fun_mk (st := s_are_kinds) l4 c4 k4
  have b4 := F4.binds (ps := ["kinds"]) fun _ _ _ _ _ _ us hl => by obtain ⟨y0, rfl⟩ := us1 hl; rfl
  have F5 := fun_mk (st := s_kinds_of) l5 c5 k5
  have b5 := F5.binds (ps := ["pairs"]) fun _ _ _ _ _ _ us hl => by obtain ⟨y0, rfl⟩ := us1 hl; rfl
  have F6 := fun_mk (st := s_many_of) l6 c6 k6
  have b6 := F6.binds (ps := ["kinds", "name"]) fun _ _ _ _ _ _ us hl => by obtain ⟨y0, y1, rfl⟩ := us2 hl; rfl
  have F7 := fun_mk (st := s_kids_of) l7 c7 k7
  have b7 := F7.binds (ps := ["thing"]) fun _ _ _ _ _ _ us hl => by obtain ⟨y0, rfl⟩ := us1 hl; rfl
  have F8 := fun_mk (st := s_walked) l8 c8 k8
  have b8 := F8.binds (ps := ["thing"]) fun _ _ _ _ _ _ us hl => by obtain ⟨y0, rfl⟩ := us1 hl; rfl
  have F9 := fun_mk (st := s_is_call) l9 c9 k9
  have b9 := F9.binds (ps := ["thing"]) fun _ _ _ _ _ _ us hl => by obtain ⟨y0, rfl⟩ := us1 hl; rfl
  have F10 := fun_mk (st := s_fits_pattern) l10 c10 k10
  have b10 := F10.binds (ps := ["kinds", "pattern", "states", "kids"]) fun _ _ _ _ _ _ us hl => by obtain ⟨y0, y1, y2, y3, rfl⟩ := us4 hl; rfl
  have F11 := fun_mk (st := s_Measure_init) l11 c11 k11
  have b11 := F11.binds (ps := ["self"]) fun _ _ _ _ _ _ us hl => by obtain ⟨y0, rfl⟩ := us1 hl; rfl
  have F12 := fun_mk (st := s_Measure_takes) l12 c12 k12
  have b12 := F12.binds (ps := ["self", "part", "row"]) fun _ _ _ _ _ _ us hl => by obtain ⟨y0, y1, y2, rfl⟩ := us3 hl; rfl
  have F13 := fun_mk (st := s_is_small) l13 c13 k13
  have b13 := F13.binds (ps := ["pattern"]) fun _ _ _ _ _ _ us hl => by obtain ⟨y0, rfl⟩ := us1 hl; rfl
  have F14 := fun_mk (st := s_check_pattern) l14 c14 k14
  have b14 := F14.binds (ps := ["outs", "pattern", "states", "kids"]) fun _ _ _ _ _ _ us hl => by obtain ⟨y0, y1, y2, y3, rfl⟩ := us4 hl; rfl
  have F15 := fun_mk (st := s_check_state) l15 c15 k15
  have b15 := F15.binds (ps := ["ins", "outs", "patterns", "states"]) fun _ _ _ _ _ _ us hl => by obtain ⟨y0, y1, y2, y3, rfl⟩ := us4 hl; rfl
  have F16 := fun_mk (st := s_made_book) l16 c16 k16
  have b16 := F16.binds (ps := ["ins", "outs", "head", "rules"]) fun _ _ _ _ _ _ us hl => by obtain ⟨y0, y1, y2, y3, rfl⟩ := us4 hl; rfl
  have F17 := fun_mk (st := s__law_cell) l17 c17 k17
  have b17 := F17.binds (ps := ["script", "k"]) fun _ _ _ _ _ _ us hl => by obtain ⟨y0, y1, rfl⟩ := us2 hl; rfl
  have F18 := fun_mk (st := s__law_turn) l18 c18 k18
  have b18 := F18.binds (ps := ["cell", "k"]) fun _ _ _ _ _ _ us hl => by obtain ⟨y0, y1, rfl⟩ := us2 hl; rfl
  have F19 := fun_mk (st := s__law_kinds) l19 c19 k19
  have b19 := F19.binds (ps := ["cell", "letters"]) fun _ _ _ _ _ _ us hl => by obtain ⟨y0, y1, rfl⟩ := us2 hl; rfl
  have F20 := fun_mk (st := s__law_leaf) l20 c20 k20
  have b20 := F20.binds (ps := ["kinds", "cell"]) fun _ _ _ _ _ _ us hl => by obtain ⟨y0, y1, rfl⟩ := us2 hl; rfl
  have F21 := fun_mk (st := s__law_pattern) l21 c21 k21
  have b21 := F21.binds (ps := ["cell", "outs", "states", "kids", "deep"]) fun _ _ _ _ _ _ us hl => by obtain ⟨y0, y1, y2, y3, y4, rfl⟩ := us5 hl; rfl
  have F22 := fun_mk (st := s__law_digit) l22 c22 k22
  have b22 := F22.binds (ps := ["left", "many"]) fun _ _ _ _ _ _ us hl => by obtain ⟨y0, y1, rfl⟩ := us2 hl; rfl
  have F23 := fun_mk (st := s__law_by_digits) l23 c23 k23
  have b23 := F23.binds (ps := ["left", "outs", "states", "kids", "deep"]) fun _ _ _ _ _ _ us hl => by obtain ⟨y0, y1, y2, y3, y4, rfl⟩ := us5 hl; rfl
  have F24 := fun_mk (st := s__law_book_by_digits) l24 c24 k24
  have b24 := F24.binds (ps := ["cell", "ins", "outs", "states", "deep"]) fun _ _ _ _ _ _ us hl => by obtain ⟨y0, y1, y2, y3, y4, rfl⟩ := us5 hl; rfl
  have F25 := fun_mk (st := s__law_book) l25 c25 k25
  have b25 := F25.binds (ps := ["cell", "ins", "outs", "states", "deep"]) fun _ _ _ _ _ _ us hl => by obtain ⟨y0, y1, y2, y3, y4, rfl⟩ := us5 hl; rfl
  have F26 := fun_mk (st := s__law_kinds_spoilt) l26 c26 k26
  have b26 := F26.binds (ps := ["kinds", "cell"]) fun _ _ _ _ _ _ us hl => by obtain ⟨y0, y1, rfl⟩ := us2 hl; rfl
  have F27 := fun_mk (st := s__law_spoilt) l27 c27 k27
  have b27 := F27.binds (ps := ["pattern", "outs", "states", "kids", "cell"]) fun _ _ _ _ _ _ us hl => by obtain ⟨y0, y1, y2, y3, y4, rfl⟩ := us5 hl; rfl
  have F28 := fun_mk (st := s__law_faulty) l28 c28 k28
  have b28 := F28.binds (ps := ["book", "cell"]) fun _ _ _ _ _ _ us hl => by obtain ⟨y0, y1, rfl⟩ := us2 hl; rfl
  have F29 := fun_mk (st := s__law_refusal) l29 c29 k29
  have b29 := F29.binds (ps := ["parts"]) fun _ _ _ _ _ _ us hl => by obtain ⟨y0, rfl⟩ := us1 hl; rfl
  have F30 := fun_mk (st := s__law_one) l30 c30 k30
  have b30 := F30.binds (ps := ["cell", "ins", "outs"]) fun _ _ _ _ _ _ us hl => by obtain ⟨y0, y1, y2, rfl⟩ := us3 hl; rfl
  have F31 := fun_mk (st := s_law) l31 c31 k31
  have b31 := F31.binds (ps := ["script"]) fun _ _ _ _ _ _ us hl => by obtain ⟨y0, rfl⟩ := us1 hl; rfl
  let T : TX K mg := ⟨⟨tk0, PySem.W.mg_of X G y0⟩, ⟨tk1, PySem.W.mg_of X G y1⟩, ⟨tk2, PySem.W.mg_of X G y2⟩, ⟨tk3, PySem.W.mg_of X G y3⟩, ⟨tk4, PySem.W.mg_of X G y4⟩, ⟨tk5, PySem.W.mg_of X G y5⟩, ⟨tk6, PySem.W.mg_of X G y6⟩, ⟨tk7, PySem.W.mg_of X G y7⟩, ex_BookError, PySem.W.mg_of X G xn_BookError, ex_NoKinds, PySem.W.mg_of X G xn_NoKinds, ex_NoBook, PySem.W.mg_of X G xn_NoBook, xe_NoKinds, xg_NoKinds, xh_NoKinds, xc_NoKinds, xo_NoKinds, xb_NoKinds, hit_NoKinds_BookError, kit_NoKinds_NoKinds, kit_NoKinds_NoBook, kit_NoKinds_ValueError, xe_NoBook, xg_NoBook, xh_NoBook, xc_NoBook, xo_NoBook, xb_NoBook, hit_NoBook_BookError, kit_NoBook_NoKinds, kit_NoBook_NoBook, kit_NoBook_ValueError, f0, _, F0, b0, PySem.W.mg_of X G a0, f1, _, F1, b1, PySem.W.mg_of X G a1, f2, _, F2, b2, PySem.W.mg_of X G a2, f3, _, F3, b3, PySem.W.mg_of X G a3, f4, _, F4, b4, PySem.W.mg_of X G a4, f5, _, F5, b5, PySem.W.mg_of X G a5, f6, _, F6, b6, PySem.W.mg_of X G a6, f7, _, F7, b7, PySem.W.mg_of X G a7, f8, _, F8, b8, PySem.W.mg_of X G a8, f9, _, F9, b9, PySem.W.mg_of X G a9, f10, _, F10, b10, PySem.W.mg_of X G a10, f11, _, F11, b11, f12, _, F12, b12, f13, _, F13, b13, PySem.W.mg_of X G a13, f14, _, F14, b14, PySem.W.mg_of X G a14, f15, _, F15, b15, PySem.W.mg_of X G a15, f16, _, F16, b16, PySem.W.mg_of X G a16, f17, _, F17, b17, PySem.W.mg_of X G a17, f18, _, F18, b18, PySem.W.mg_of X G a18, f19, _, F19, b19, PySem.W.mg_of X G a19, f20, _, F20, b20, PySem.W.mg_of X G a20, f21, _, F21, b21, PySem.W.mg_of X G a21, f22, _, F22, b22, PySem.W.mg_of X G a22, f23, _, F23, b23, PySem.W.mg_of X G a23, f24, _, F24, b24, PySem.W.mg_of X G a24, f25, _, F25, b25, PySem.W.mg_of X G a25, f26, _, F26, b26, PySem.W.mg_of X G a26, f27, _, F27, b27, PySem.W.mg_of X G a27, f28, _, F28, b28, PySem.W.mg_of X G a28, f29, _, F29, b29, PySem.W.mg_of X G a29, f30, _, F30, b30, PySem.W.mg_of X G a30, f31, _, F31, b31, PySem.W.mg_of X G a31, own_Measure, PySem.W.mg_of X G on_Measure, ⟨pg_Measure, hd_Measure, po_Measure, sa_Measure⟩, ⟨mk_Measure, a11, i11, kc_Measure⟩, na_Measure_met_knots, na_Measure_met_calls, ⟨a12, i12, k12⟩, PySem.W.mg_none_of X G z0, PySem.W.mg_none_of X G z1, PySem.W.mg_none_of X G z2, PySem.W.mg_none_of X G z3, PySem.W.mg_none_of X G z4, PySem.W.mg_none_of X G z5, PySem.W.mg_none_of X G z6, PySem.W.mg_none_of X G z7, PySem.W.mg_none_of X G z8, PySem.W.mg_none_of X G z9, PySem.W.mg_none_of X G z10, PySem.W.mg_none_of X G z11, PySem.W.mg_none_of X G z12⟩
  refine ⟨PySem.W.fnOf "law" "law" (defArgs s_law) (defBody s_law) (defScope s_law) .none kV31 dc31 pm31 an31 cd31 ct31, fun s v => .of_eq rfl, fun base _ _ => ?_⟩
  exact ok_law T
theorem walk {l : PySem.W.OpenLaw} {q : Program} {loose : List Str} {XP : (Str → Option Value) → Heap → Prop} {YP : World → Heap → Prop} {d : DefRec} {K : Params → PySem.W.Frag} (hn : l.most = some 63) (hdf : d.params.defaults = [])
    (hY : ∀ (w : World) (h : Heap), YP w h → (K w.params).In h)
    (F : ∀ (w : World) (mg : Str → Option Value) (fa : Addr) (h : Heap), (K w.params).In h → h.Ns mainGlobals mg → mg d.name = some (.ref fa) →
      ∃ fd : FuncData, (∀ (s : Shared) (u : Value), BindsTo s fd ⟨[u], []⟩ [("script", u)]) ∧ ∀ base : Heap, (K w.params).In base → base.Ns mainGlobals mg → FnOk l.prog w (K w.params) mg base CX0 20 fa fd ["script"] (sp_law (K w.params))) :
    PySem.W.WalkO q loose XP YP l.row.toRowW d [] (fun f vs => PySem.call f vs) :=
  L2.walk_of (n := 63) (k := 20) (x := "script") (CX := fun _ => CX0) (sp := fun w => sp_law (K w.params)) hn (by decide) hdf ⟨rfl, by decide, by decide⟩ hY F (fun _ _ a ns hl _ hS => ⟨a, ns, rfl, hS, hl, fun _ => rfl⟩) fun _ _ _ _ _ z => z
end LAW
open PySem PySem.W PyProof.Rows
set_option maxRecDepth 100000 in
set_option maxHeartbeats 0 in
theorem PySem.Challenge.cw_boughbook_k19_books_made_holds : PySem.Challenge.rw_boughbook_k19_books_made.Holds := by
  w_on; o_law; k_head; (case hw => w_witness2)
  k_fill
  refine LAW.walk (l := PySem.Challenge.rw_boughbook_k19_books_made) rfl rfl (fun w h Y => PySem.W.kIn_of Y) ?F
  case F =>
    intro w mg fa h KX G hmg
    refine' LAW.all_mk KX G hmg ?on_Measure ?pg_Measure ?hd_Measure ?po_Measure ?sa_Measure ?mk_Measure ?kc_Measure ?na_Measure_met_knots ?na_Measure_met_calls ?a0 ?l0 ?c0 ?k0 ?a1 ?l1 ?c1 ?k1 ?a2 ?l2 ?c2 ?k2 ?a3 ?l3 ?c3 ?k3 ?a4 ?l4 ?c4 ?k4 ?a5 ?l5 ?c5 ?k5 ?a6 ?l6 ?c6 ?k6 ?a7 ?l7 ?c7 ?k7 ?a8 ?l8 ?c8 ?k8 ?a9 ?l9 ?c9 ?k9 ?a10 ?l10 ?c10 ?k10 ?a11 ?i11 ?l11 ?c11 ?k11 ?a12 ?i12 ?l12 ?c12 ?k12 ?a13 ?l13 ?c13 ?k13 ?a14 ?l14 ?c14 ?k14 ?a15 ?l15 ?c15 ?k15 ?a16 ?l16 ?c16 ?k16 ?a17 ?l17 ?c17 ?k17 ?a18 ?l18 ?c18 ?k18 ?a19 ?l19 ?c19 ?k19 ?a20 ?l20 ?c20 ?k20 ?a21 ?l21 ?c21 ?k21 ?a22 ?l22 ?c22 ?k22 ?a23 ?l23 ?c23 ?k23 ?a24 ?l24 ?c24 ?k24 ?a25 ?l25 ?c25 ?k25 ?a26 ?l26 ?c26 ?k26 ?a27 ?l27 ?c27 ?k27 ?a28 ?l28 ?c28 ?k28 ?a29 ?l29 ?c29 ?k29 ?a30 ?l30 ?c30 ?k30 ?a31 ?l31 ?c31 ?k31 ?z0 ?z1 ?z2 ?z3 ?z4 ?z5 ?z6 ?z7 ?z8 ?z9 ?z10 ?z11 ?z12 ?y0 ?y1 ?y2 ?y3 ?y4 ?y5 ?y6 ?y7 ?xn_BookError ?xn_NoKinds ?xn_NoBook ?xe_NoKinds ?xg_NoKinds ?xh_NoKinds ?xc_NoKinds ?xo_NoKinds ?xb_NoKinds ?hit_NoKinds_BookError ?kit_NoKinds_NoKinds ?kit_NoKinds_NoBook ?kit_NoKinds_ValueError ?xe_NoBook ?xg_NoBook ?xh_NoBook ?xc_NoBook ?xo_NoBook ?xb_NoBook ?hit_NoBook_BookError ?kit_NoBook_NoKinds ?kit_NoBook_NoBook ?kit_NoBook_ValueError
    (case on_Measure => k_is)
    (case pg_Measure => k_is)
    (case hd_Measure => k_is)
    (case po_Measure => k_is)
    (case sa_Measure => k_is)
    (case mk_Measure => k_is)
    (case kc_Measure => k_is)
    (case na_Measure_met_knots => k_is)
    (case na_Measure_met_calls => k_is)
    (case a0 => k_is)
    (case l0 => k_is)
    (case c0 => k_is)
    (case k0 => k_is)
    (case a1 => k_is)
    (case l1 => k_is)
    (case c1 => k_is)
    (case k1 => k_is)
    (case a2 => k_is)
    (case l2 => k_is)
    (case c2 => k_is)
    (case k2 => k_is)
    (case a3 => k_is)
    (case l3 => k_is)
    (case c3 => k_is)
    (case k3 => k_is)
    (case a4 => k_is)
    (case l4 => k_is)
    (case c4 => k_is)
    (case k4 => k_is)
    (case a5 => k_is)
    (case l5 => k_is)
    (case c5 => k_is)
    (case k5 => k_is)
    (case a6 => k_is)
    (case l6 => k_is)
    (case c6 => k_is)
    (case k6 => k_is)
    (case a7 => k_is)
    (case l7 => k_is)
    (case c7 => k_is)
    (case k7 => k_is)
    (case a8 => k_is)
    (case l8 => k_is)
    (case c8 => k_is)
    (case k8 => k_is)
    (case a9 => k_is)
    (case l9 => k_is)
    (case c9 => k_is)
    (case k9 => k_is)
    (case a10 => k_is)
    (case l10 => k_is)
    (case c10 => k_is)
    (case k10 => k_is)
    (case a11 => k_is)
    (case i11 => k_is)
    (case l11 => k_is)
    (case c11 => k_is)
    (case k11 => k_is)
    (case a12 => k_is)
    (case i12 => k_is)
    (case l12 => k_is)
    (case c12 => k_is)
    (case k12 => k_is)
    (case a13 => k_is)
    (case l13 => k_is)
    (case c13 => k_is)
    (case k13 => k_is)
    (case a14 => k_is)
    (case l14 => k_is)
    (case c14 => k_is)
    (case k14 => k_is)
    (case a15 => k_is)
    (case l15 => k_is)
    (case c15 => k_is)
    (case k15 => k_is)
    (case a16 => k_is)
    (case l16 => k_is)
    (case c16 => k_is)
    (case k16 => k_is)
    (case a17 => k_is)
    (case l17 => k_is)
    (case c17 => k_is)
    (case k17 => k_is)
    (case a18 => k_is)
    (case l18 => k_is)
    (case c18 => k_is)
    (case k18 => k_is)
    (case a19 => k_is)
    (case l19 => k_is)
    (case c19 => k_is)
    (case k19 => k_is)
    (case a20 => k_is)
    (case l20 => k_is)
    (case c20 => k_is)
    (case k20 => k_is)
    (case a21 => k_is)
    (case l21 => k_is)
    (case c21 => k_is)
    (case k21 => k_is)
    (case a22 => k_is)
    (case l22 => k_is)
    (case c22 => k_is)
    (case k22 => k_is)
    (case a23 => k_is)
    (case l23 => k_is)
    (case c23 => k_is)
    (case k23 => k_is)
    (case a24 => k_is)
    (case l24 => k_is)
    (case c24 => k_is)
    (case k24 => k_is)
    (case a25 => k_is)
    (case l25 => k_is)
    (case c25 => k_is)
    (case k25 => k_is)
    (case a26 => k_is)
    (case l26 => k_is)
    (case c26 => k_is)
    (case k26 => k_is)
    (case a27 => k_is)
    (case l27 => k_is)
    (case c27 => k_is)
    (case k27 => k_is)
    (case a28 => k_is)
    (case l28 => k_is)
    (case c28 => k_is)
    (case k28 => k_is)
    (case a29 => k_is)
    (case l29 => k_is)
    (case c29 => k_is)
    (case k29 => k_is)
    (case a30 => k_is)
    (case l30 => k_is)
    (case c30 => k_is)
    (case k30 => k_is)
    (case a31 => k_is)
    (case l31 => k_is)
    (case c31 => k_is)
    (case k31 => k_is)
    (case z0 => k_is)
    (case z1 => k_is)
    (case z2 => k_is)
    (case z3 => k_is)
    (case z4 => k_is)
    (case z5 => k_is)
    (case z6 => k_is)
    (case z7 => k_is)
    (case z8 => k_is)
    (case z9 => k_is)
    (case z10 => k_is)
    (case z11 => k_is)
    (case z12 => k_is)
    (case y0 => k_is)
    (case y1 => k_is)
    (case y2 => k_is)
    (case y3 => k_is)
    (case y4 => k_is)
    (case y5 => k_is)
    (case y6 => k_is)
    (case y7 => k_is)
    (case xn_BookError => k_is)
    (case xn_NoKinds => k_is)
    (case xn_NoBook => k_is)
    (case xe_NoKinds => k_exc)
    (case xg_NoKinds => k_is)
    (case xh_NoKinds => k_is)
    (case xc_NoKinds => k_is)
    (case xo_NoKinds => k_is)
    (case xb_NoKinds => k_is)
    (case hit_NoKinds_BookError => kts_exm)
    (case kit_NoKinds_NoKinds => kit_is)
    (case kit_NoKinds_NoBook => kit_is)
    (case kit_NoKinds_ValueError => kit_is)
    (case xe_NoBook => k_exc)
    (case xg_NoBook => k_is)
    (case xh_NoBook => k_is)
    (case xc_NoBook => k_is)
    (case xo_NoBook => k_is)
    (case xb_NoBook => k_is)
    (case hit_NoBook_BookError => kts_exm)
    (case kit_NoBook_NoKinds => kit_is)
    (case kit_NoBook_NoBook => kit_is)
    (case kit_NoBook_ValueError => kit_is)

