import PyProof.Rows.All
import Wide.All
import OpenK.AllK
import Wide.FinOn
import Lean
import PyProof.EqAt
import PyProof.EqKinds
import PyProof.TupleCall
import KE.KRevIter
import PyProof.ListNew
import PyProof.Draws
import PyProof.EnumMake
import PyProof.Rows.EnumRows
import PyProof.ZipIter
import PyProof.ConsumeWalk
import KE.LcSums
import PyProof.AttrMissHeap
import KE.KDictOf
import PyProof.DictWalks
import PyProof.ListMulRoad
import PyProof.FactsAll.tuple
import PyProof.NeKinds
import KE.RegKTryMore
import KE.RegKIsAll
import PyProof.StrWalks
import PyProof.Rows.SetFrom
import PyProof.FString5
import Wide.Txt
import PyProof.Rows.SeqMore
import PyProof.StrOps2
import KE.KEqDict
import PyProof.CollectIter
import PyProof.JoinWalk
import PyProof.CallStr
import PyProof.DictRoadsH
import PyProof.MeetsDictList
import PyProof.DictTruth
import PyProof.StrLawsChain
import PyProof.StrCalls6
import PyProof.ToksMono
import PyProof.StrCalls2
import KE.KWords
import PyProof.MeetsStr2
import KE.KLam
import KE.KDictLaws
import PySem.Challenge.RW_boughbook_k92_no_origin
set_option Elab.async false
set_option compiler.extract_closed false
set_option linter.all false
set_option maxRecDepth 100000
theorem el23 {α β : Type} {A B C : α → β → Prop} {G : Prop} (h : ∃ y H, A y H ∧ B y H ∧ C y H) (k : ∀ y H, A y H → B y H → C y H → G) : G := by
  obtain ⟨y, H, a, b, c⟩ := h
  exact k y H a b c
theorem el24 {α β : Type} {A B C D : α → β → Prop} {G : Prop} (h : ∃ y H, A y H ∧ B y H ∧ C y H ∧ D y H) (k : ∀ y H, A y H → B y H → C y H → D y H → G) : G := by
  obtain ⟨y, H, a, b, c, d⟩ := h
  exact k y H a b c d
theorem el12 {α : Type} {A B : α → Prop} {G : Prop} (h : ∃ y, A y ∧ B y) (k : ∀ y, A y → B y → G) : G := by
  obtain ⟨y, a, b⟩ := h
  exact k y a b
theorem hidG {G : Prop} (k : ∀ F : Prop, (G → F) → F) : G := k G id
namespace L2
open PySem PySem.Spec PyProof.Rows
noncomputable abbrev Key := Sum Int Str
noncomputable def keyIs : Key → Value → Bool
  | .inl k, v => Value.isInt k v
  | .inr x, v => Value.isStrOf x v
noncomputable def keyH (w : World) : Key → Int
  | .inl k => hashInt k
  | .inr x => hashStr w x
theorem keyIs_shape : ∀ {k : Key} {v : Value}, keyIs k v = true → (∃ i t, k = Sum.inl i ∧ v = Value.int i t) ∨ (∃ x t, k = Sum.inr x ∧ v = Value.str x t)
  | .inl i, v, h => by
    obtain ⟨t, e⟩ := Value.isInt_shape (k := i) (v := v) h
    exact .inl ⟨i, t, rfl, e⟩
  | .inr x, v, h => by
    obtain ⟨t, e⟩ := Value.isStrOf_shape (x := x) (v := v) h
    exact .inr ⟨x, t, rfl, e⟩
theorem key_ll (a b : Int) : decide ((Sum.inl a : Key) = Sum.inl b) = (a == b) := by
  by_cases e : a = b
  · subst e; simp
  · have h : ¬ (Sum.inl a : Key) = Sum.inl b := fun q => e (Sum.inl.inj q)
    rw [decide_eq_false h]
    exact (beq_eq_false_iff_ne.mpr e).symm
theorem key_rr (a b : Str) : decide ((Sum.inr a : Key) = Sum.inr b) = decide (a = b) := by
  by_cases e : a = b
  · subst e; simp
  · have h : ¬ (Sum.inr a : Key) = Sum.inr b := fun q => e (Sum.inr.inj q)
    rw [decide_eq_false h, decide_eq_false e]
theorem key_lr (a : Int) (b : Str) : decide ((Sum.inl a : Key) = Sum.inr b) = false := decide_eq_false (fun q => nomatch q)
theorem key_rl (a : Str) (b : Int) : decide ((Sum.inr a : Key) = Sum.inl b) = false := decide_eq_false (fun q => nomatch q)
noncomputable def mixKind (prog : Program) (w : World) : PySem.KeyKind prog w Key where
  is := keyIs
  hash := keyH w
  inj := fun v a b ha hb => by
    rcases keyIs_shape ha with ⟨i, t, rfl, rfl⟩ | ⟨x, t, rfl, rfl⟩
    · rcases keyIs_shape hb with ⟨j, u, rfl, e⟩ | ⟨y, u, rfl, e⟩
      · injection e with e1 _; rw [e1]
      · exact nomatch e
    · rcases keyIs_shape hb with ⟨j, u, rfl, e⟩ | ⟨y, u, rfl, e⟩
      · exact nomatch e
      · injection e with e1 _; rw [e1]
  byValue := fun k v h => by
    rcases keyIs_shape h with ⟨i, t, rfl, rfl⟩ | ⟨x, t, rfl, rfl⟩ <;> rfl
  pyHash := fun hv h => by
    rcases keyIs_shape hv with ⟨i, t, rfl, rfl⟩ | ⟨x, t, rfl, rfl⟩
    · exact wpAny_pyHash_int h
    · exact wpAny_pyHash_str h
  eqBool := fun hu hv h => by
    rcases keyIs_shape hu with ⟨i, t, rfl, rfl⟩ | ⟨x, t, rfl, rfl⟩
    · rcases keyIs_shape hv with ⟨j, u, rfl, rfl⟩ | ⟨y, u, rfl, rfl⟩
      · rw [key_ll] at h; exact wpAny_eqBool_int h
      · rw [key_lr] at h; exact SeqAt.EqAt.int_str i t y u _ _ _ _ h
    · rcases keyIs_shape hv with ⟨j, u, rfl, rfl⟩ | ⟨y, u, rfl, rfl⟩
      · rw [key_rl] at h; exact SeqAt.EqAt.str_int x t j u _ _ _ _ h
      · rw [key_rr] at h; exact wpAny_eqBool_str h
  «strs» := fun k x t v h => by
    rcases keyIs_shape h with ⟨i, u, rfl, e⟩ | ⟨y, u, rfl, e⟩
    · exact nomatch e
    · injection e with e1 _
      subst e1
      cases v <;> rfl
end L2
namespace L2
open PySem PySem.Spec PyProof.Rows
set_option genSizeOf false in
inductive V where
  | non | bl (b : Bool) | int (i : Int) | str (x : Str) | byt (b : Array UInt8) | flt (b : UInt64) | ref (a : Addr) | ty (n : String)
  deriving DecidableEq
noncomputable def RelV : V → Value → Prop
  | .non, u => u = Value.none
  | .bl b, u => u = Value.bool b
  | .int i, u => ∃ t, u = Value.int i t
  | .str x, u => ∃ t, u = Value.str x t
  | .byt b, u => ∃ t, u = Value.bytes b t
  | .flt b, u => ∃ t, u = Value.float b t
  | .ref a, u => u = Value.ref a
  | .ty n, u => u = Value.type n
noncomputable abbrev Vals : List V → List Value → Prop := Paired RelV
theorem Vals.length {xs : List V} {us : List Value} (r : Vals xs us) : xs.length = us.length := Paired.length r
theorem Vals.get : ∀ {xs : List V} {us : List Value} {i : Nat} {x : V}, Vals xs us → xs[i]? = some x → ∃ u, us[i]? = some u ∧ RelV x u
  | _, _, _, _, .nil, e => by simp at e
  | _, _, 0, _, .cons r _, e => by simp at e; subst e; exact ⟨_, rfl, r⟩
  | _, _, i + 1, x, .cons _ t, e => by
    obtain ⟨u, h1, h2⟩ := Vals.get (i := i) (x := x) t (by simpa using e)
    exact ⟨u, by simpa using h1, h2⟩
theorem Vals.set {x : V} {u : Value} (r : RelV x u) : ∀ {xs : List V} {us : List Value} (i : Nat), Vals xs us → Vals (xs.set i x) (us.set i u)
  | _, _, _, .nil => .nil
  | _, _, 0, .cons _ t => .cons r t
  | _, _, i + 1, .cons q t => .cons q (Vals.set r i t)
theorem Vals.append : ∀ {xs ys : List V} {us ws : List Value}, Vals xs us → Vals ys ws → Vals (xs ++ ys) (us ++ ws)
  | _, _, _, _, .nil, s => s
  | _, _, _, _, .cons r t, s => .cons r (Vals.append t s)
theorem Vals.take : ∀ {xs : List V} {us : List Value} (n : Nat), Vals xs us → Vals (xs.take n) (us.take n)
  | _, _, 0, _ => .nil
  | _, _, _ + 1, .nil => .nil
  | _, _, n + 1, .cons r t => .cons r (Vals.take n t)
theorem Vals.drop : ∀ {xs : List V} {us : List Value} (n : Nat), Vals xs us → Vals (xs.drop n) (us.drop n)
  | _, _, 0, r => r
  | _, _, _ + 1, .nil => .nil
  | _, _, n + 1, .cons _ t => Vals.drop n t
noncomputable def RelO : Option V → Option Value → Prop
  | some v, some u => RelV v u
  | none, none => True
  | _, _ => False
noncomputable def KV {κ : Type} : List (κ × V) → List (κ × Value) → Prop := Paired fun (p : κ × V) (q : κ × Value) => p.1 = q.1 ∧ RelV p.2 q.2
noncomputable def kV : Key → V
  | .inl i => .int i
  | .inr x => .str x
set_option genInjectivity false in
set_option genSizeOf false in
inductive HO where
  /-- a list -/
  | lst (xs : List V)
  /-- a tuple (never changes) -/
  | tup (xs : List V)
  /-- a dict whose keys are ints and texts; one whose keys are tuples of ints and texts (the empty one is both) -/
  | dK (kvs : List (Key × V)) | dT (kvs : List (List Key × V))
  /-- a set of ints: its members, its size -/
  | set (S : Int → Bool) (n : Nat)
  /-- an instance of the class at C, its dict at dx, its attributes -/
  | ins (C dx : Addr) (fs : List (Str × V))
  /-- the dict of the instance at x -/
  | own (x : Addr)
  /-- the dict of an exception -/
  | xd (fs : List (Str × V))
  /-- a bound method, f of x -/
  | met (f x : Addr)
  /-- a range object lo, lo + 1, .. below hi -/
  | rng (lo hi : Int)
  /-- a thing that is known to the object (the script; a dict while a loop walks it): read, never written while it is so -/
  | frz (o : Obj) (u : HO)
  /-- a code object's table -/
  | tbl (ps : Array Value)
  /-- any other thing, by what is true of its one object (a def of one's own: SetO a S n := HO.ext fun h => ..) -/
  | ext (φ : Heap → Prop)
noncomputable abbrev Hp := Addr → Option HO
noncomputable def upd (H : Hp) (a : Addr) (o : HO) : Hp := fun b => if b = a then some o else H b
theorem upd_same {H : Hp} {a : Addr} {o : HO} : upd H a o a = some o := by unfold upd; rw [if_pos rfl]
theorem upd_ne {H : Hp} {a b : Addr} {o : HO} (h : b ≠ a) : upd H a o b = H b := by unfold upd; rw [if_neg h]
theorem upd_upd {H : Hp} {a : Addr} {o u : HO} : upd (upd H a o) a u = upd H a u := by
  funext b; unfold upd; split <;> rfl
theorem ne_of {H : Hp} {a b : Addr} {o u : HO} (h : H a = some o) (h' : H b = some u) (d : o ≠ u) : a ≠ b := by
  intro e; subst e; rw [h] at h'; exact d (Option.some.inj h')
theorem ne_of_none {H : Hp} {a b : Addr} {o : HO} (h : H a = some o) (h' : H b = none) : a ≠ b := by
  intro e; subst e; rw [h] at h'; cases h'
section
variable (P : Program) (w : World)
noncomputable def ObjOk (H : Hp) (h : Heap) (a : Addr) : HO → Prop
  | .lst xs => xs.length ≤ sizeLine ∧ ∃ (its : List Value) (n : Nat), Vals xs its ∧ h.get? a = some { cls := .type "list", data := .seq its.toArray n }
  | .tup xs => xs.length ≤ sizeLine ∧ ∃ (its : List Value) (n : Nat), Vals xs its ∧ h.get? a = some { cls := .type "tuple", data := .seq its.toArray n }
  | .dK kvs => kvs.length ≤ sizeLine ∧ (a == sysModules) = false ∧ ∃ vs, KV kvs vs ∧ h.DictOf (mixKind P w) a vs
  | .dT kvs => kvs.length ≤ sizeLine ∧ (a == sysModules) = false ∧ ∃ xs : List (List Key × Addr × Value),
      Paired (fun (p : List Key × V) (q : List Key × Addr × Value) => p.1 = q.1 ∧ H q.2.1 = some (.tup (p.1.map kV)) ∧ RelV p.2 q.2.2) kvs xs ∧
      ∃ o es ep, h.get? a = some o ∧ o.ExactDict ∧ o.data = .dict es ep ∧ es.toList = xs.map (entryOfKey (tupleKind (mixKind P w))) ∧ (xs.map (·.1)).Nodup
  | .set S n => h.SetOf (intKind P w) a S n
  | .ins C dx fs => H dx = some (.own a) ∧ fs.length ≤ 1000 ∧ dx ≠ a ∧ h.get? a = some (PySem.W.instObj C dx) ∧
      ∃ mA, h.Ns1 dx mA ∧ (∀ f, RelO (fs.lookup f) (mA f)) ∧ PySem.Within mA (fs.map (·.1))
  | .own _ => ∃ o, h.get? a = some o
  | .xd fs => ∃ mA, h.Ns1 a mA ∧ ∀ f, RelO (fs.lookup f) (mA f)
  | .rng lo hi => ∃ t u v, h.get? a = some { cls := .type "range", data := .fields #[.int lo t, .int hi u, .int 1 v] }
  | .frz o u => h.get? a = some o ∧ ObjOk H h a u
  | .tbl ps => h.get? a = some { cls := .none, data := .fields ps }
  | .met f x => h.get? a = some (PySem.W.methodObj (.ref f) (.ref x))
  | .ext φ => φ h ∧ (∃ o, h.get? a = some o) ∧ ∀ h1 h2 : Heap, φ h1 → (∀ o, h1.get? a = some o → h2.get? a = some o) → φ h2
noncomputable def HOk (H : Hp) (h : Heap) : Prop := ∀ a o, H a = some o → ObjOk P w H h a o
end
section
variable {P : Program} {w : World} {H H' : Hp} {h h' : Heap} {a : Addr} {o : HO}
theorem ObjOk.lt (x : ObjOk P w H h a o) : a < h.objs.size := by
  cases o with
  | lst xs => obtain ⟨_, _, _, _, e⟩ := x; exact Heap.lt_size e
  | tup xs => obtain ⟨_, _, _, _, e⟩ := x; exact Heap.lt_size e
  | dK kvs => obtain ⟨_, _, _, _, o, _, _, e, _⟩ := x; exact Heap.lt_size e
  | dT kvs => obtain ⟨_, _, _, _, o, _, _, e, _⟩ := x; exact Heap.lt_size e
  | set S n => obtain ⟨o, _, _, _, e, _⟩ := x; exact Heap.lt_size e
  | ins C dx fs => obtain ⟨_, _, _, e, _⟩ := x; exact Heap.lt_size e
  | own y => obtain ⟨_, e⟩ := x; exact Heap.lt_size e
  | xd fs => obtain ⟨_, ⟨_, _, _, e, _⟩, _⟩ := x; exact Heap.lt_size e
  | rng lo hi => obtain ⟨_, _, _, e⟩ := x; exact Heap.lt_size e
  | frz ob u => obtain ⟨e, _⟩ := x; exact Heap.lt_size e
  | tbl ps => exact Heap.lt_size (show h.get? a = some _ from x)
  | met f y => exact Heap.lt_size (show h.get? a = some _ from x)
  | ext φ => obtain ⟨_, ⟨_, e⟩, _⟩ := x; exact Heap.lt_size e
theorem Paired.mapP {α β : Type} {F G : α → β → Prop} : ∀ {l₁ : List α} {l₂ : List β}, Paired F l₁ l₂ → (∀ a b, F a b → G a b) → Paired G l₁ l₂
  | _, _, .nil, _ => .nil
  | _, _, .cons r t, f => .cons (f _ _ r) (Paired.mapP t f)
theorem ObjOk.stay (x : ObjOk P w H h a o) (k : ∀ b u, (b = a ∨ H b = some (.own a)) → h.get? b = some u → h'.get? b = some u)
    (ho : ∀ b, H b = some (.own a) → H' b = some (.own a)) (ht : ∀ b xs, H b = some (.tup xs) → H' b = some (.tup xs)) : ObjOk P w H' h' a o := by
  induction o with
  | lst xs => obtain ⟨z, its, n, r, e⟩ := x; exact ⟨z, its, n, r, k _ _ (.inl rfl) e⟩
  | tup xs => obtain ⟨z, its, n, r, e⟩ := x; exact ⟨z, its, n, r, k _ _ (.inl rfl) e⟩
  | dK kvs => obtain ⟨z, y, vs, r, ob, es, ep, e, c⟩ := x; exact ⟨z, y, vs, r, ob, es, ep, k _ _ (.inl rfl) e, c⟩
  | dT kvs =>
    obtain ⟨z, y, xs, r, ob, es, ep, e, c⟩ := x
    exact ⟨z, y, xs, Paired.mapP r fun p q z => ⟨z.1, ht _ _ z.2.1, z.2.2⟩, ob, es, ep, k _ _ (.inl rfl) e, c⟩
  | set S n => obtain ⟨ob, es, ep, t, e, c⟩ := x; exact ⟨ob, es, ep, t, k _ _ (.inl rfl) e, c⟩
  | ins C dx fs =>
    obtain ⟨d, z, ne, e, mA, ⟨od, es, ep, e2, c⟩, r⟩ := x
    exact ⟨ho _ d, z, ne, k _ _ (.inl rfl) e, mA, ⟨od, es, ep, k _ _ (.inr d) e2, c⟩, r⟩
  | own y => obtain ⟨ob, e⟩ := x; exact ⟨ob, k _ _ (.inl rfl) e⟩
  | xd fs => obtain ⟨mA, ⟨od, es, ep, e, c⟩, r⟩ := x; exact ⟨mA, ⟨od, es, ep, k _ _ (.inl rfl) e, c⟩, r⟩
  | rng lo hi => obtain ⟨t, u, v, e⟩ := x; exact ⟨t, u, v, k _ _ (.inl rfl) e⟩
  | frz ob u ih => obtain ⟨e, q⟩ := x; exact ⟨k _ _ (.inl rfl) e, ih q⟩
  | tbl ps =>
    have e : h.get? a = some { cls := .none, data := .fields ps } := x
    show h'.get? a = some { cls := .none, data := .fields ps }
    exact k a _ (.inl rfl) e
  | met f y =>
    have e : h.get? a = some (PySem.W.methodObj (.ref f) (.ref y)) := x
    show h'.get? a = some (PySem.W.methodObj (.ref f) (.ref y))
    exact k a _ (.inl rfl) e
  | ext φ => obtain ⟨p, ⟨o, e⟩, st⟩ := x; exact ⟨st _ _ p fun o q => k _ _ (.inl rfl) q, ⟨o, k _ _ (.inl rfl) e⟩, st⟩
theorem HOk.lt (x : HOk P w H h) (e : H a = some o) : a < h.objs.size := (x a o e).lt
theorem HOk.fresh (x : HOk P w H h) (e : h.objs.size ≤ a) : H a = none := by
  cases q : H a with
  | none => rfl
  | some u => exact absurd (Nat.lt_of_lt_of_le (x.lt q) e) (Nat.lt_irrefl _)
theorem HOk.kept (x : HOk P w H h) (k : ∀ b u, h.get? b = some u → h'.get? b = some u) : HOk P w H h' := fun a o e =>
  (x a o e).stay (fun b u _ q => k b u q) (fun _ q => q) fun _ _ q => q
theorem HOk.laid (x : HOk P w H h) (k : ∀ b u, h.get? b = some u → h'.get? b = some u) (hp : h.objs.size ≤ a) (new : ObjOk P w (upd H a o) h' a o) : HOk P w (upd H a o) h' := fun b u e => by
  have hn := x.fresh hp
  by_cases hb : b = a
  · subst hb; rw [upd_same] at e; cases e; exact new
  · rw [upd_ne hb] at e
    exact (x b u e).stay (fun c v _ q => k c v q) (fun c q => by rw [upd_ne (ne_of_none q hn)]; exact q) fun c xs q => by rw [upd_ne (ne_of_none q hn)]; exact q
end
noncomputable def Rd (H : Hp) (a : Addr) (u : HO) : Prop := H a = some u ∨ ∃ o, H a = some (.frz o u)
theorem Rd.ok {P : Program} {w : World} {H : Hp} {h : Heap} {a : Addr} {u : HO} (r : Rd H a u) (x : HOk P w H h) : ObjOk P w H h a u := by
  rcases r with r | ⟨o, r⟩
  · exact x a u r
  · obtain ⟨_, q⟩ := x a _ r
    exact q
noncomputable def Mut : Option HO → Prop
  | some (.lst _) => True
  | some (.dK _) => True
  | some (.dT _) => True
  | some (.set _ _) => True
  | some (.ins _ _ _) => True
  | some (.ext _) => True
  | _ => False
section
variable {P : Program} {w : World} {H : Hp} {h h' : Heap} {x e : Addr} {o' : HO}
theorem HOk.write (ok : HOk P w H h) (mu : Mut (H x)) (he : e = x ∨ H e = some (.own x)) (k : ∀ b u, b ≠ e → h.get? b = some u → h'.get? b = some u) (heo : ∃ u, h'.get? e = some u)
    (new : ObjOk P w (upd H x o') h' x o') : HOk P w (upd H x o') h' := fun b u q => by
  have nown : ∀ c y, H c = some (.own y) → c ≠ x := fun c y r z => by subst z; rw [r] at mu; exact mu
  have ntup : ∀ c xs, H c = some (.tup xs) → c ≠ x := fun c xs r z => by subst z; rw [r] at mu; exact mu
  by_cases hb : b = x
  · subst hb; rw [upd_same] at q; cases q; exact new
  · rw [upd_ne hb] at q
    by_cases hbe : b = e
    · have q' : H b = some (.own x) := by
        rcases he with z | z
        · exact absurd (hbe.trans z) hb
        · rw [hbe]; exact z
      rw [q] at q'; cases q'
      obtain ⟨v, hv⟩ := heo
      exact ⟨v, by rw [hbe]; exact hv⟩
    · refine (ok b u q).stay (fun c v hc r => k c v ?_ r) (fun c r => by rw [upd_ne (nown c b r)]; exact r) fun c xs r => by rw [upd_ne (ntup c xs r)]; exact r
      rcases hc with rfl | hc
      · exact hbe
      · rintro rfl
        rcases he with z | z
        · exact nown c b hc z
        · rw [hc] at z; cases z; exact hb rfl
end
structure Un (fs ex : List Addr) (H H' : Hp) (h h' : Heap) : Prop where
  keep : ∀ b o, h.get? b = some o → H b = none → b ∉ fs → b ∉ ex → h'.get? b = some o
  slot : ∀ b o, h.get? b = some o → H b = none → b ∈ fs → b ∉ ex → ∃ sl, h'.get? b = some { o with slots := sl }
  free : ∀ b o, h.get? b = some o → H b = none → b ∉ ex → H' b = none
  there : ∀ b o, h.get? b = some o → b ∉ ex → ∃ o', h'.get? b = some o'
  tups : ∀ b xs, H b = some (.tup xs) → H' b = some (.tup xs)
  frzs : ∀ b o u, H b = some (.frz o u) → H' b = some (.frz o u)
  tbls : ∀ b ps, H b = some (.tbl ps) → ∃ more, H' b = some (.tbl (ps ++ more))
section
variable {fs fs' ex ex' : List Addr} {H H1 H2 : Hp} {h h1 h2 h' : Heap} {a x e : Addr} {o : HO}
theorem Un.any (u : Un fs ex H H1 h h1) {b : Addr} {ob : Obj} (q : h.get? b = some ob) (n : H b = none) (hx : b ∉ ex) : ∃ sl, h1.get? b = some { ob with slots := sl } := by
  by_cases hb : b ∈ fs
  · exact u.slot b ob q n hb hx
  · exact ⟨ob.slots, u.keep b ob q n hb hx⟩
theorem Un.kept (k : ∀ b u, h.get? b = some u → h'.get? b = some u) : Un fs ex H H h h' :=
  ⟨fun b ob q _ _ _ => k b ob q, fun b ob q _ _ _ => ⟨ob.slots, k b ob q⟩, fun _ _ _ n _ => n, fun b ob q _ => ⟨ob, k b ob q⟩, fun _ _ q => q, fun _ _ _ q => q, fun _ ps q => ⟨#[], by rw [q]; simp⟩⟩
theorem Un.refl : Un fs ex H H h h := Un.kept fun _ _ q => q
theorem Un.laid (k : ∀ b u, h.get? b = some u → h'.get? b = some u) (hp : h.objs.size ≤ a) (hn : H a = none) : Un fs ex H (upd H a o) h h' where
  keep := fun b u q _ _ _ => k b u q
  slot := fun b u q _ _ _ => ⟨u.slots, k b u q⟩
  free := fun b u q n _ => by rw [upd_ne (Nat.ne_of_lt (Nat.lt_of_lt_of_le (Heap.lt_size q) hp))]; exact n
  there := fun b u q _ => ⟨u, k b u q⟩
  tups := fun b xs q => by rw [upd_ne (ne_of_none q hn)]; exact q
  frzs := fun b u xs q => by rw [upd_ne (ne_of_none q hn)]; exact q
  tbls := fun b ps q => ⟨#[], by rw [upd_ne (ne_of_none q hn), q]; simp⟩
theorem Un.write (mu : Mut (H x)) (he : e = x ∨ H e = some (.own x)) (k : ∀ b u, b ≠ e → h.get? b = some u → h'.get? b = some u) (heo : ∃ u, h'.get? e = some u) : Un fs ex H (upd H x o) h h' := by
  have hx : ∀ b, H b = none → b ≠ x := fun b n z => by subst z; rw [n] at mu; exact mu
  have hb : ∀ b, H b = none → b ≠ e := fun b n z => by
    subst z
    rcases he with r | r
    · exact hx b n r
    · rw [n] at r; cases r
  have hm : ∀ b u, H b = some u → ¬ Mut (some u) → b ≠ x := fun b u q nm z => by subst z; rw [q] at mu; exact nm mu
  refine ⟨fun b u q n _ _ => k b u (hb b n) q, fun b u q n _ _ => ⟨u.slots, k b u (hb b n) q⟩, fun b u q n _ => by rw [upd_ne (hx b n)]; exact n, fun b u q _ => ?_,
    fun b xs q => by rw [upd_ne (hm b _ q fun z => z)]; exact q, fun b u xs q => by rw [upd_ne (hm b _ q fun z => z)]; exact q, fun b ps q => ⟨#[], by rw [upd_ne (hm b _ q fun z => z), q]; simp⟩⟩
  by_cases hbe : b = e
  · subst hbe; exact heo
  · exact ⟨u, k b u hbe q⟩
end
noncomputable def trk (h : Heap) (H : Hp) : List Addr := (List.range h.objs.size).filter fun a => (H a).isSome
noncomputable def hidT (h : Heap) (H : Hp) : Heap := PySem.W.hideAll h (trk h H)
theorem hidT_size (h : Heap) (H : Hp) : (hidT h H).objs.size = h.objs.size := PySem.W.hideAll_size _ _
theorem hidT_get {h : Heap} {H : Hp} {b : Addr} {o : Obj} (e : h.get? b = some o) (n : H b = none) : (hidT h H).get? b = some o :=
  PySem.W.hideAll_get _ e fun hm => by
    have q : (H b).isSome = true := (List.mem_filter.mp hm).2
    rw [n] at q; simp at q
theorem of_hidT {h : Heap} {H : Hp} {b : Addr} {o : Obj} (e : (hidT h H).get? b = some o) : h.get? b = some o ∧ H b = none := by
  have e' : h.get? b = some o := PySem.W.of_hideAll (trk h H) e
  refine ⟨e', ?_⟩
  cases q : H b with
  | none => rfl
  | some x =>
    have hm : b ∈ trk h H := List.mem_filter.mpr ⟨List.mem_range.mpr (Heap.lt_size e'), by simp [q]⟩
    have z : (hidT h H).get? b = none := PySem.W.hideAll_none (trk h H) hm
    rw [z] at e; cases e
end L2
namespace L2
open PySem PySem.Spec PyProof.Rows
structure Mod (K : PySem.W.Frag) (mg : Str → Option Value) (base : Heap) : Prop where
  kin : K.In base
  glob : base.Ns mainGlobals mg
  blt : ∃ mb, base.Ns builtinsNs mb ∧ ∀ x : Str, x ≠ "__name__" → mb x = bootBuiltins x
  nolimit : base.NoLimit
set_option genSizeOf false in
structure Cx where
  prog : Program
  w : World
  K : PySem.W.Frag
  mg : Str → Option Value
  base : Heap
  A : Around
  N : List Str
  s₀ : Shared
  H₀ : Hp
  env : Env
  outer : List Env
  stack : List Env
  ex : List Addr
  fn : Str → Bool
  calm : Bool
  pn : List (Addr × Obj)
  xe : Value → Shared → Prop
noncomputable def frs (l : List Env) : List Addr := l.filterMap (·.frame)
noncomputable abbrev Cx.fs (X : Cx) : List Addr := frs X.outer
noncomputable def Vis (sc : Scope) (x : Str) : Prop := sc.names.lookup x = some .local ∨ sc.names.lookup x = some .cell ∨ sc.names.lookup x = some .free
noncomputable def Loc (sc : Scope) (x : Str) : Prop := sc.names.lookup x = some .local ∨ sc.names.lookup x = some .cell
noncomputable def Look (env : Env) (h : Heap) (m : Str → Option Value) (x : Str) (u : Value) : Prop :=
  (env.kindOf x = some .local ∧ m x = some u) ∨ ((env.kindOf x = some .cell ∨ env.kindOf x = some .free) ∧ ∃ c, env.cells.lookup x = some c ∧ h.IsCell c (some u))
structure Cx.Ok (X : Cx) : Prop where
  mod : Mod X.K X.mg X.base
  kind : X.env.scope.kind = .function
  glob : X.env.globals = mainGlobals
  blt : X.env.builtins = builtinsNs
  above : X.s₀.heap.objs.size ≤ X.env.locals
  inj : ∀ x y c, X.env.cells.lookup x = some c → X.env.cells.lookup y = some c → x = y
  has : ∀ x, (X.env.kindOf x = some .cell ∨ X.env.kindOf x = some .free) → ∃ c, X.env.cells.lookup x = some c
  cab : ∀ x c, X.fn x = true → X.env.cells.lookup x = some c → X.s₀.heap.objs.size ≤ c
  hd : X.calm = true → X.A.handled = none
  frames : X.A.frames = some X.stack
  stk : X.stack = X.outer ∨ (X.stack = X.env :: X.outer ∧ X.env.frame = some X.env.locals)
  exf : ∀ b ∈ X.ex, b ≠ X.env.locals ∧ ∀ x c, X.env.cells.lookup x = some c → c ≠ b
  bs : ∀ b o, X.base.get? b = some o → X.s₀.heap.get? b = some o ∧ X.H₀ b = none
  bsz : X.base.objs.size ≤ X.s₀.heap.objs.size
  noex : ∀ b o, X.base.get? b = some o → b ∉ X.ex
  exfs : ∀ b ∈ X.ex, b ∉ X.fs
  funs : X.s₀.heap.FunFrames X.base X.outer
  frf : ∀ b ∈ X.fs, X.H₀ b = none
structure Inv (X : Cx) (pins : List (Addr × Obj)) (σ : List (Option V)) (H : Hp) (s : Shared) : Prop where
  ok : X.Ok
  os : s.os = X.s₀.os
  bare : AllBare s.gens
  base : Un X.fs X.ex X.H₀ H X.s₀.heap s.heap
  loc : ∃ m, s.heap.Ns X.env.locals m ∧ ∀ (i : Nat) (x : Str) (v : V), X.N[i]? = some x → σ[i]? = some (some v) → Vis X.env.scope x → ∃ u, RelV v u ∧ Look X.env s.heap m x u
  cell : ∀ x c, X.env.cells.lookup x = some c → ∃ v, s.heap.IsCell c v
  free : H X.env.locals = none
  freeC : ∀ x c, X.env.cells.lookup x = some c → H c = none
  pin : ∀ p ∈ X.pn ++ pins, s.heap.get? p.1 = some p.2 ∧ H p.1 = none ∧ p.1 ≠ X.env.locals ∧ p.1 ∉ X.fs ∧ ∀ v, p.2.data ≠ .cell v
  hok : HOk X.prog X.w H s.heap
  len : σ.length = X.N.length
section
variable {X : Cx} {pins : List (Addr × Obj)} {σ : List (Option V)} {H H' : Hp} {s : Shared} {h' : Heap}
theorem Cx.Ok.nofr (ok : X.Ok) {b : Addr} {o : Obj} (e : X.base.get? b = some o) : b ∉ X.fs := fun hb => by
  have := (ok.funs.mem hb).1
  rw [e] at this; cases this
theorem Inv.bs (I : Inv X pins σ H s) : ∀ b o, X.base.get? b = some o → s.heap.get? b = some o ∧ H b = none := fun b o e =>
  ⟨I.base.keep b o (I.ok.bs b o e).1 (I.ok.bs b o e).2 (I.ok.nofr e) (I.ok.noex b o e), I.base.free b o (I.ok.bs b o e).1 (I.ok.bs b o e).2 (I.ok.noex b o e)⟩
theorem Inv.bk (I : Inv X pins σ H s) : ∀ b o, X.base.get? b = some o → s.heap.get? b = some o := fun b o e => (I.bs b o e).1
theorem Inv.mod (I : Inv X pins σ H s) : Mod X.K X.mg X.base := I.ok.mod
theorem Inv.kIn (I : Inv X pins σ H s) : X.K.In s.heap := I.ok.mod.kin.keeps I.bk
theorem Inv.lt (I : Inv X pins σ H s) : X.env.locals < s.heap.objs.size := let ⟨_, hn, _⟩ := I.loc; hn.lt
theorem Inv.sz (I : Inv X pins σ H s) : X.s₀.heap.objs.size ≤ s.heap.objs.size := Nat.le_trans I.ok.above (Nat.le_of_lt I.lt)
theorem Inv.nofs (I : Inv X pins σ H s) {a : Addr} (h : s.heap.objs.size ≤ a) : a ∉ X.fs := fun hb => by
  obtain ⟨_, o, ho, _⟩ := I.ok.funs.mem hb
  exact absurd (Nat.lt_of_lt_of_le (Heap.lt_size ho) (Nat.le_trans I.sz h)) (Nat.lt_irrefl _)
theorem Inv.cne (I : Inv X pins σ H s) : ∀ x c, X.env.cells.lookup x = some c → c ≠ X.env.locals := fun x c e z => by
  obtain ⟨v, o, ho, hd⟩ := I.cell x c e
  obtain ⟨m, ⟨o', es, ep, ho', hd', _⟩, _⟩ := I.loc
  rw [z, ho'] at ho; cases ho; rw [hd'] at hd; cases hd
theorem Inv.funs (I : Inv X pins σ H s) : s.heap.FunFrames X.base X.outer := by
  have all : ∀ (l : List Env), (∀ b ∈ frs l, b ∈ X.fs) → X.s₀.heap.FunFrames X.base l → s.heap.FunFrames X.base l := by
    intro l
    induction l with
    | nil => intro _ _; trivial
    | cons env r ih =>
      intro hs hl
      obtain ⟨hk, ⟨L, o, hf, hn, ho, hd⟩, hr⟩ := hl
      have hL : L ∈ X.fs := hs L (by unfold frs; rw [List.filterMap_cons, hf]; exact List.mem_cons_self)
      obtain ⟨sl, e⟩ := I.base.slot L o ho (I.ok.frf L hL) hL fun z => I.ok.exfs L z hL
      exact ⟨hk, ⟨L, _, hf, hn, e, hd⟩, ih (fun b hb => hs b (by unfold frs; rw [List.filterMap_cons, hf]; exact List.mem_cons_of_mem _ hb)) hr⟩
  exact all X.outer (fun _ hb => hb) I.ok.funs
theorem Inv.stack (I : Inv X pins σ H s) : s.heap.FunFrames X.base X.stack := by
  rcases I.ok.stk with e | ⟨e, hf⟩
  · rw [e]; exact I.funs
  · rw [e]
    obtain ⟨m, hn, _⟩ := I.loc
    refine .cons (by rw [I.ok.kind]; decide) hf hn ?_ I.funs
    exact Heap.get?_none_of_le (Nat.le_trans I.ok.bsz I.ok.above)
theorem Inv.stkSub (I : Inv X pins σ H s) : ∀ b ∈ frs X.stack, b ∈ X.env.locals :: X.fs := fun b hb => by
  rcases I.ok.stk with e | ⟨e, hf⟩
  · rw [e] at hb; exact List.mem_cons_of_mem _ hb
  · rw [e] at hb
    unfold frs at hb
    rw [List.filterMap_cons, hf] at hb
    exact hb
theorem Inv.stkFree (I : Inv X pins σ H s) : ∀ b ∈ frs X.stack, H b = none := fun b hb => by
  rcases List.mem_cons.mp (I.stkSub b hb) with e | hb
  · rw [e]; exact I.free
  · obtain ⟨_, o, ho, _⟩ := I.ok.funs.mem hb
    exact I.base.free b o ho (I.ok.frf b hb) fun z => I.ok.exfs b z hb
theorem Inv.step {g' : Array GenState} {t' : Nat} {d' : Drawn} {ch : List Addr} (I : Inv X pins σ H s)
    (hch : ∀ b ∈ ch, (b ∈ X.ex ∨ X.s₀.heap.objs.size ≤ b) ∧ b ≠ X.env.locals ∧ (∀ x c, X.env.cells.lookup x = some c → c ≠ b) ∧ ∀ p ∈ X.pn ++ pins, p.1 ≠ b)
    (keep : ∀ b o, b ≠ X.env.locals → b ∉ X.fs → b ∉ ch → s.heap.get? b = some o → H b = none → h'.get? b = some o)
    (slot : ∀ b o, b ≠ X.env.locals → b ∈ X.fs → b ∉ ch → s.heap.get? b = some o → H b = none → ∃ sl, h'.get? b = some { o with slots := sl }) (free : ∀ b o, b ∉ ch → s.heap.get? b = some o → H b = none → H' b = none)
    (there : ∀ b o, b ∉ ch → s.heap.get? b = some o → ∃ o', h'.get? b = some o')
    (tups : ∀ b xs, H b = some (.tup xs) → H' b = some (.tup xs)) (frzs : ∀ b o u, H b = some (.frz o u) → H' b = some (.frz o u)) (tbls : ∀ b ps, H b = some (.tbl ps) → ∃ more, H' b = some (.tbl (ps ++ more)))
    (ns : ∀ m, s.heap.Ns X.env.locals m → h'.Ns X.env.locals m) (hok : HOk X.prog X.w H' h') (hg : AllBare g') :
    Inv X pins σ H' { s with heap := h', gens := g', drawn := d', toks := t' } := by
  have neL : ∀ b o, X.s₀.heap.get? b = some o → b ≠ X.env.locals := fun b o e => Nat.ne_of_lt (Nat.lt_of_lt_of_le (Heap.lt_size e) I.ok.above)
  have neC : ∀ b o, X.s₀.heap.get? b = some o → b ∉ X.ex → b ∉ ch := fun b o e hx hb => by
    rcases (hch b hb).1 with z | z
    · exact hx z
    · exact absurd (Nat.lt_of_lt_of_le (Heap.lt_size e) z) (Nat.lt_irrefl _)
  have cellK : ∀ x c, X.env.cells.lookup x = some c → ∀ v, s.heap.IsCell c v → h'.IsCell c v := fun x c e v ⟨o, ho, hd⟩ => by
    have nch : c ∉ ch := fun z => (hch c z).2.2.1 x c e rfl
    by_cases hc : c ∈ X.fs
    · obtain ⟨sl, q⟩ := slot c o (I.cne x c e) hc nch ho (I.freeC x c e)
      exact ⟨_, q, hd⟩
    · exact ⟨o, keep c o (I.cne x c e) hc nch ho (I.freeC x c e), hd⟩
  refine ⟨I.ok, I.os, hg, ⟨fun b o e n hb hx => ?_, fun b o e n hb hx => ?_, fun b o e n hx => ?_, fun b o e hx => ?_, fun b xs e => tups b xs (I.base.tups b xs e), fun b o xs e => frzs b o xs (I.base.frzs b o xs e), fun b ps e => ?_⟩, ?_, fun x c e => ?_, ?_, fun x c e => ?_, fun p hp => ?_, hok, I.len⟩
  · exact keep b o (neL b o e) hb (neC b o e hx) (I.base.keep b o e n hb hx) (I.base.free b o e n hx)
  · obtain ⟨sl, e1⟩ := I.base.slot b o e n hb hx
    obtain ⟨sl', e2⟩ := slot b _ (neL b o e) hb (neC b o e hx) e1 (I.base.free b o e n hx)
    exact ⟨sl', e2⟩
  · obtain ⟨o', e1⟩ := I.base.there b o e hx
    exact free b o' (neC b o e hx) e1 (I.base.free b o e n hx)
  · obtain ⟨o', e1⟩ := I.base.there b o e hx
    exact there b o' (neC b o e hx) e1
  · obtain ⟨m1, e1⟩ := I.base.tbls b ps e
    obtain ⟨m2, e2⟩ := tbls b _ e1
    exact ⟨m1 ++ m2, by rw [e2, Array.append_assoc]⟩
  · obtain ⟨m, hn, hl⟩ := I.loc
    refine ⟨m, ns m hn, fun i x v e1 e2 e3 => ?_⟩
    obtain ⟨u, r, l⟩ := hl i x v e1 e2 e3
    refine ⟨u, r, ?_⟩
    rcases l with l | ⟨k, c, e, z⟩
    · exact .inl l
    · exact .inr ⟨k, c, e, cellK x c e _ z⟩
  · obtain ⟨v, z⟩ := I.cell x c e
    exact ⟨v, cellK x c e v z⟩
  · obtain ⟨m, ⟨o, _, _, ho, _⟩, _⟩ := I.loc
    exact free _ o (fun z => (hch _ z).2.1 rfl) ho I.free
  · obtain ⟨v, o, ho, hd⟩ := I.cell x c e
    exact free c o (fun z => (hch c z).2.2.1 x c e rfl) ho (I.freeC x c e)
  · obtain ⟨e, n, ne, nf, d⟩ := I.pin p hp
    have nch : p.1 ∉ ch := fun z => (hch p.1 z).2.2.2 p hp rfl
    exact ⟨keep p.1 p.2 ne nf nch e n, free p.1 p.2 nch e n, ne, nf, d⟩
theorem Inv.un {t' : Nat} (I : Inv X pins σ H s) (u : Un X.fs [] H H' s.heap h') (hok : HOk X.prog X.w H' h') : Inv X pins σ H' { s with heap := h', toks := t' } := by
  refine hidG fun ZZ kZ => ?_
  obtain ⟨m, ⟨o, es, ep, ho, r⟩, _⟩ := id I.loc
  obtain ⟨sl, hL⟩ := u.any ho I.free (by simp)
  refine kZ ?_
  exact I.step (g' := s.gens) (d' := s.drawn) (ch := []) (fun _ z => nomatch z) (fun b o _ hb _ e n => u.keep b o e n hb (by simp)) (fun b o _ hb _ e n => u.slot b o e n hb (by simp)) (fun b o _ e n => u.free b o e n (by simp)) (fun b o _ e => u.there b o e (by simp)) u.tups u.frzs u.tbls (fun m' hm => by
    refine hidG fun ZZ kZ => ?_
    obtain ⟨o', es', ep', ho', r'⟩ := hm
    refine kZ ?_
    rw [ho] at ho'; cases ho'
    exact ⟨_, es', ep', hL, r'⟩) hok I.bare
theorem Inv.call {g' : Array GenState} {t' : Nat} {d' : Drawn} {ch : List Addr} (I : Inv X pins σ H s) (u : Un (frs X.stack) ch H H' s.heap h') (hok : HOk X.prog X.w H' h') (hg : AllBare g')
    (hch : ∀ b ∈ ch, (b ∈ X.ex ∨ X.s₀.heap.objs.size ≤ b) ∧ b ≠ X.env.locals ∧ (∀ x c, X.env.cells.lookup x = some c → c ≠ b) ∧ ∀ p ∈ X.pn ++ pins, p.1 ≠ b) :
    Inv X pins σ H' { s with heap := h', gens := g', drawn := d', toks := t' } := by
  refine hidG fun ZZ kZ => ?_
  obtain ⟨m, ⟨o, es, ep, ho, r⟩, _⟩ := id I.loc
  obtain ⟨sl, hL⟩ := u.any ho I.free fun z => (hch _ z).2.1 rfl
  refine kZ ?_
  exact I.step (ch := ch) hch (fun b o hL hb hc e n => u.keep b o e n (fun z => (List.mem_cons.mp (I.stkSub b z)).elim hL hb) hc) (fun b o _ _ hc e n => u.any e n hc) (fun b o hc e n => u.free b o e n hc) (fun b o hc e => u.there b o e hc) u.tups u.frzs u.tbls (fun m' hm => by
    refine hidG fun ZZ kZ => ?_
    obtain ⟨o', es', ep', ho', r'⟩ := hm
    refine kZ ?_
    rw [ho] at ho'; cases ho'
    exact ⟨_, es', ep', hL, r'⟩) hok hg
theorem Inv.turned {t' : Nat} {it : Addr} (I : Inv X pins σ H s) (k : ∀ b o, b ≠ it → s.heap.get? b = some o → h'.get? b = some o) (hn : H it = none) (hL : it ≠ X.env.locals)
    (h1 : it ∈ X.ex ∨ X.s₀.heap.objs.size ≤ it) (h2 : ∀ x c, X.env.cells.lookup x = some c → c ≠ it) (h3 : ∀ p ∈ X.pn ++ pins, p.1 ≠ it) : Inv X pins σ H { s with heap := h', toks := t' } := by
  have nit : ∀ b u, H b = some u → b ≠ it := fun b u e z => by rw [z, hn] at e; cases e
  refine I.step (g' := s.gens) (d' := s.drawn) (ch := [it]) (fun b hb => ?_) (fun b o _ _ hc e _ => k b o (fun z => hc (by simp [z])) e) (fun b o _ _ hc e _ => ⟨o.slots, k b o (fun z => hc (by simp [z])) e⟩) (fun _ _ _ _ n => n)
    (fun b o hc e => ⟨o, k b o (fun z => hc (by simp [z])) e⟩) (fun _ _ e => e) (fun _ _ _ e => e) (fun b ps e => ⟨#[], by rw [e]; simp⟩) (fun m hm => ?_) (fun b u e => ?_) I.bare
  · have e : b = it := by simpa using hb
    subst e
    exact ⟨h1, hL, h2, h3⟩
  · obtain ⟨o, es, ep, ho, r⟩ := hm
    exact ⟨o, es, ep, k _ o (Ne.symm hL) ho, r⟩
  · refine (I.hok b u e).stay (fun c v hc q => k c v ?_ q) (fun _ q => q) fun _ _ q => q
    rcases hc with z | z
    · rw [z]; exact nit b u e
    · exact nit c _ z
theorem Inv.tok (I : Inv X pins σ H s) (t : Nat) : Inv X pins σ H { s with toks := t } := I.un (h' := s.heap) (t' := t) Un.refl I.hok
theorem Inv.kept {t' : Nat} (I : Inv X pins σ H s) (k : ∀ b u, s.heap.get? b = some u → h'.get? b = some u) : Inv X pins σ H { s with heap := h', toks := t' } := I.un (Un.kept k) (I.hok.kept k)
theorem Inv.laid {a : Addr} {o : HO} {t' : Nat} (I : Inv X pins σ H s) (k : ∀ b u, s.heap.get? b = some u → h'.get? b = some u) (hp : s.heap.objs.size ≤ a) (new : ObjOk X.prog X.w (upd H a o) h' a o) :
    Inv X pins σ (upd H a o) { s with heap := h', toks := t' } := I.un (Un.laid k hp (I.hok.fresh hp)) (I.hok.laid k hp new)
theorem Inv.write {x e : Addr} {o : HO} {t' : Nat} (I : Inv X pins σ H s) (mu : Mut (H x)) (he : e = x ∨ H e = some (.own x)) (k : ∀ b u, b ≠ e → s.heap.get? b = some u → h'.get? b = some u) (heo : ∃ u, h'.get? e = some u)
    (new : ObjOk X.prog X.w (upd H x o) h' x o) : Inv X pins σ (upd H x o) { s with heap := h', toks := t' } := I.un (Un.write mu he k heo) (I.hok.write mu he k heo new)
theorem Inv.weak {σ' : List (Option V)} (I : Inv X pins σ H s) (hl : σ'.length = σ.length) (w : ∀ (i : Nat) v, σ'[i]? = some (some v) → σ[i]? = some (some v)) : Inv X pins σ' H s :=
  ⟨I.ok, I.os, I.bare, I.base, let ⟨m, hn, hl'⟩ := I.loc; ⟨m, hn, fun i x v e1 e2 e3 => hl' i x v e1 (w i v e2) e3⟩, I.cell, I.free, I.freeC, I.pin, I.hok, hl.trans I.len⟩
theorem Inv.pins_of {pins' : List (Addr × Obj)} (I : Inv X pins σ H s) (h : ∀ p ∈ pins', s.heap.get? p.1 = some p.2 ∧ H p.1 = none ∧ p.1 ≠ X.env.locals ∧ p.1 ∉ X.fs ∧ ∀ v, p.2.data ≠ .cell v) : Inv X pins' σ H s :=
  ⟨I.ok, I.os, I.bare, I.base, I.loc, I.cell, I.free, I.freeC, fun p hp => (List.mem_append.mp hp).elim (fun z => I.pin p (List.mem_append_left _ z)) (h p), I.hok, I.len⟩
theorem nodup_ix {N : List Str} (hN : N.Nodup) {i j : Nat} {x : Str} (a : N[i]? = some x) (b : N[j]? = some x) : i = j := by
  obtain ⟨h1, e1⟩ := List.getElem?_eq_some_iff.mp a
  obtain ⟨h2, e2⟩ := List.getElem?_eq_some_iff.mp b
  exact (List.getElem_inj hN).mp (e1.trans e2.symm)
theorem store_ok2 {M : Model} {A : Around} {E : Value → Shared → Prop} {i : Nat} {x : Str} {v : V} {u : Value} {Q : Unit → Shared → Prop} (I : Inv X pins σ H s) (hN : X.N.Nodup) (hi : X.N[i]? = some x) (hx : Loc X.env.scope x) (r : RelV v u)
    (h : ∀ s', Inv X pins (σ.set i (some v)) H s' → (∃ a, Heap.SameBut a s.heap s'.heap ∧ (a = X.env.locals ∨ X.env.cells.lookup x = some a)) → Q () s') (hf : X.fn x = true ∨ X.env.scope.names.lookup x = some .local := by first | exact .inl rfl | exact .inr rfl | assumption) : wpAny M A (storeName X.env x u) Q E s := by
  obtain ⟨m, hn, hl⟩ := id I.loc
  have hcls : (X.env.scope.kind == .class || (X.env.scope.kind == .module && X.env.locals != X.env.globals)) = false := by rw [I.ok.kind]; rfl
  have hiσ : i < σ.length := by rw [I.len]; exact (List.getElem?_eq_some_iff.mp hi).1
  have cne := I.cne
  have tracked : ∀ {a : Addr} {h' : Heap}, (∃ o, s.heap.get? a = some o ∧ H a = none) → Heap.SameBut a s.heap h' → HOk X.prog X.w H h' := fun {a h'} ha hs b ob e => by
    obtain ⟨_, _, hfree⟩ := ha
    refine (I.hok b ob e).stay (fun c w' hc q => (hs.2 c ?_).trans q) (fun _ q => q) fun _ _ q => q
    rintro rfl
    rcases hc with rfl | hc
    · rw [hfree] at e; cases e
    · rw [hfree] at hc; cases hc
  rcases hx with hk | hk
  · refine wpAny_storeName_local hk hn (fun h' hn' hs => ?_) hcls
    refine hidG fun ZZ kZ => ?_
    obtain ⟨oL, _, _, hoL, _⟩ := id hn
    refine kZ ?_
    refine h _ ⟨I.ok, I.os, I.bare, ⟨fun b o e n hb hx => ?_, fun b o e n hb hx => ?_, I.base.free, fun b o e hx => ?_, I.base.tups, I.base.frzs, I.base.tbls⟩, ⟨_, hn', fun j y v' e1 e2 e3 => ?_⟩, fun y c e => ?_, I.free, I.freeC, fun p hp => ?_, tracked ⟨oL, hoL, I.free⟩ hs, by simpa using I.len⟩ ⟨_, hs, .inl rfl⟩
    · exact (hs.2 b (Nat.ne_of_lt (Nat.lt_of_lt_of_le (Heap.lt_size e) I.ok.above))).trans (I.base.keep b o e n hb hx)
    · obtain ⟨sl, e1⟩ := I.base.slot b o e n hb hx
      exact ⟨sl, (hs.2 b (Nat.ne_of_lt (Nat.lt_of_lt_of_le (Heap.lt_size e) I.ok.above))).trans e1⟩
    · obtain ⟨o', e1⟩ := I.base.there b o e hx
      exact ⟨o', (hs.2 b (Nat.ne_of_lt (Nat.lt_of_lt_of_le (Heap.lt_size e) I.ok.above))).trans e1⟩
    · by_cases hj : j = i
      · subst hj
        rw [hi] at e1; cases e1
        rw [List.getElem?_set_self hiσ] at e2
        cases e2
        exact ⟨u, r, .inl ⟨hk, by simp⟩⟩
      · rw [List.getElem?_set_ne (Ne.symm hj)] at e2
        obtain ⟨u', r', q⟩ := hl j y v' e1 e2 e3
        refine ⟨u', r', ?_⟩
        rcases q with ⟨k, e⟩ | ⟨k, c, e, z⟩
        · refine .inl ⟨k, ?_⟩
          have : y ≠ x := fun e => hj (nodup_ix hN e1 (e ▸ hi))
          simp [this, e]
        · exact .inr ⟨k, c, e, z.sameBut hs (cne y c e)⟩
    · obtain ⟨w', z⟩ := I.cell y c e
      exact ⟨w', z.sameBut hs (cne y c e)⟩
    · refine hidG fun ZZ kZ => ?_
      obtain ⟨e, n, ne, nf, d⟩ := I.pin p hp
      refine kZ ?_
      exact ⟨(hs.2 p.1 ne).trans e, n, ne, nf, d⟩
  · have hfn : X.fn x = true := by
      rcases hf with z | z
      · exact z
      · rw [z] at hk; cases hk
    obtain ⟨c, hc⟩ := I.ok.has x (.inl hk)
    obtain ⟨w', z⟩ := I.cell x c hc
    refine wpAny_storeName_cell I.ok.kind hk hc z (fun h' hc' hs => ?_)
    obtain ⟨oc, hoc, hocd⟩ := id z
    refine h { s with heap := h' } ⟨I.ok, I.os, I.bare, ⟨fun b o e n hb hx => ?_, fun b o e n hb hx => ?_, I.base.free, fun b o e hx => ?_, I.base.tups, I.base.frzs, I.base.tbls⟩, ⟨m, hn.sameBut hs (Ne.symm (cne x c hc)), fun j y v' e1 e2 e3 => ?_⟩, fun y c' e => ?_, I.free, I.freeC, fun p hp => ?_, tracked ⟨oc, hoc, I.freeC x c hc⟩ hs, by simpa using I.len⟩ ⟨c, hs, .inr hc⟩
    · exact (hs.2 b (Nat.ne_of_lt (Nat.lt_of_lt_of_le (Heap.lt_size e) (I.ok.cab x c hfn hc)))).trans (I.base.keep b o e n hb hx)
    · obtain ⟨sl, e1⟩ := I.base.slot b o e n hb hx
      exact ⟨sl, (hs.2 b (Nat.ne_of_lt (Nat.lt_of_lt_of_le (Heap.lt_size e) (I.ok.cab x c hfn hc)))).trans e1⟩
    · obtain ⟨o', e1⟩ := I.base.there b o e hx
      exact ⟨o', (hs.2 b (Nat.ne_of_lt (Nat.lt_of_lt_of_le (Heap.lt_size e) (I.ok.cab x c hfn hc)))).trans e1⟩
    · by_cases hj : j = i
      · subst hj
        rw [hi] at e1; cases e1
        rw [List.getElem?_set_self hiσ] at e2
        cases e2
        exact ⟨u, r, .inr ⟨.inl hk, c, hc, hc'⟩⟩
      · rw [List.getElem?_set_ne (Ne.symm hj)] at e2
        obtain ⟨u', r', q⟩ := hl j y v' e1 e2 e3
        refine ⟨u', r', ?_⟩
        rcases q with q | ⟨k, c', e, z'⟩
        · exact .inl q
        · refine .inr ⟨k, c', e, z'.sameBut hs ?_⟩
          rintro rfl
          exact hj (nodup_ix hN e1 (I.ok.inj _ _ _ e hc ▸ hi))
    · by_cases hcc : c' = c
      · subst hcc; exact ⟨_, hc'⟩
      · obtain ⟨w2, z2⟩ := I.cell y c' e
        exact ⟨w2, z2.sameBut hs hcc⟩
    · refine hidG fun ZZ kZ => ?_
      obtain ⟨e, n, ne, nf, d⟩ := I.pin p hp
      refine kZ ?_
      refine ⟨(hs.2 p.1 ?_).trans e, n, ne, nf, d⟩
      intro q
      rw [q, hoc] at e
      have q' : oc = p.2 := Option.some.inj e
      exact d w' (by rw [← q']; exact hocd)
theorem store_ok {M : Model} {A : Around} {E : Value → Shared → Prop} {i : Nat} {x : Str} {v : V} {u : Value} {Q : Unit → Shared → Prop} (I : Inv X pins σ H s) (hN : X.N.Nodup) (hi : X.N[i]? = some x) (hx : Loc X.env.scope x) (r : RelV v u)
    (h : ∀ s', Inv X pins (σ.set i (some v)) H s' → Q () s') (hf : X.fn x = true ∨ X.env.scope.names.lookup x = some .local := by first | exact .inl rfl | exact .inr rfl | assumption) : wpAny M A (storeName X.env x u) Q E s :=
  store_ok2 I hN hi hx r (fun s' I' _ => h s' I') hf
theorem Inv.call' {s' : Shared} {ch : List Addr} (I : Inv X pins σ H s) (ho : s'.os = s.os) (u : Un (frs X.stack) ch H H' s.heap s'.heap) (hok : HOk X.prog X.w H' s'.heap) (hg : AllBare s'.gens)
    (hch : ∀ b ∈ ch, (b ∈ X.ex ∨ X.s₀.heap.objs.size ≤ b) ∧ b ≠ X.env.locals ∧ (∀ x c, X.env.cells.lookup x = some c → c ≠ b) ∧ ∀ p ∈ X.pn ++ pins, p.1 ≠ b) : Inv X pins σ H' s' := by
  obtain ⟨h', g', d', t', o'⟩ := s'
  have e : o' = s.os := ho
  subst e
  exact I.call (g' := g') (t' := t') (d' := d') u hok hg hch
end
noncomputable abbrev XK := Value → Option Addr → Hp → Prop
noncomputable abbrev St := List (Option V)
noncomputable abbrev VK := V → Hp → Prop
noncomputable abbrev TE := St → Hp → VK → Prop
noncomputable abbrev TT := St → Hp → (Bool → Hp → Prop) → Prop
noncomputable abbrev TA := St → Hp → (List V → Hp → Prop) → Prop
set_option genInjectivity false in
set_option genSizeOf false in
structure Ends where
  nx : St → Hp → Prop
  rt : VK
  bk : St → Hp → Prop := fun _ _ => False
  ct : St → Hp → Prop := fun _ _ => False
noncomputable abbrev TS := Ends → St → Hp → Prop
noncomputable def EP (X : Cx) (pins : List (Addr × Obj)) (σ : St) (Q : VK) (u : Value) (s' : Shared) : Prop := ∃ v H', Inv X pins σ H' s' ∧ RelV v u ∧ Q v H'
noncomputable def TP (X : Cx) (pins : List (Addr × Obj)) (σ : St) (Q : Bool → Hp → Prop) (b : Bool) (s' : Shared) : Prop := ∃ H', Inv X pins σ H' s' ∧ Q b H'
noncomputable def AP (X : Cx) (pins : List (Addr × Obj)) (σ : St) (Q : List V → Hp → Prop) (us : List Value) (s' : Shared) : Prop := ∃ vs H', Inv X pins σ H' s' ∧ Vals vs us ∧ Q vs H'
noncomputable def SP (X : Cx) (pins : List (Addr × Obj)) (D : Ends) (f : Flow) (s' : Shared) : Prop :=
  match f with
  | .next => ∃ σ' H', Inv X pins σ' H' s' ∧ D.nx σ' H'
  | .brk => ∃ σ' H', Inv X pins σ' H' s' ∧ D.bk σ' H'
  | .cont => ∃ σ' H', Inv X pins σ' H' s' ∧ D.ct σ' H'
  | .ret u => ∃ v σ' H', Inv X pins σ' H' s' ∧ RelV v u ∧ D.rt v H'
noncomputable def PE (X : Cx) (e : Expr) (t : TE) : Prop :=
  ∀ (pins : List (Addr × Obj)) (s : Shared) (σ : St) (H : Hp) (Q : VK), Inv X pins σ H s → t σ H Q → wpAny (model X.prog X.w) X.A (eval e X.env) (EP X pins σ Q) X.xe s
noncomputable def PT (X : Cx) (e : Expr) (t : TT) : Prop :=
  ∀ (pins : List (Addr × Obj)) (s : Shared) (σ : St) (H : Hp) (Q : Bool → Hp → Prop), Inv X pins σ H s → t σ H Q → wpAny (model X.prog X.w) X.A (isTrue e X.env (eval e X.env)) (TP X pins σ Q) X.xe s
noncomputable def PW (X : Cx) (e : Expr) (t : TT) : Prop :=
  ∀ (whole : Sem Value) (pins : List (Addr × Obj)) (s : Shared) (σ : St) (H : Hp) (Q : Bool → Hp → Prop), Inv X pins σ H s → t σ H Q → wpAny (model X.prog X.w) X.A (isTrue e X.env whole) (TP X pins σ Q) X.xe s
theorem PW.pt {X : Cx} {e : Expr} {t : TT} (h : PW X e t) : PT X e t := h _
noncomputable def PA (X : Cx) (es : List Expr) (t : TA) : Prop :=
  ∀ (pos : Pos) (pins : List (Addr × Obj)) (s : Shared) (σ : St) (H : Hp) (Q : List V → Hp → Prop), Inv X pins σ H s → t σ H Q → wpAny (model X.prog X.w) X.A (spliced (backTo pos (starEach es X.env))) (AP X pins σ Q) X.xe s
noncomputable def PS (X : Cx) (st : Stmt) (t : TS) : Prop :=
  ∀ (pins : List (Addr × Obj)) (s : Shared) (σ : St) (H : Hp) (D : Ends), Inv X pins σ H s → t D σ H → wpAny (model X.prog X.w) X.A (exec st X.env) (SP X pins D) X.xe s
noncomputable def PSs (X : Cx) (st : List Stmt) (t : TS) : Prop :=
  ∀ (pins : List (Addr × Obj)) (s : Shared) (σ : St) (H : Hp) (D : Ends), Inv X pins σ H s → t D σ H → wpAny (model X.prog X.w) X.A (execs st X.env) (SP X pins D) X.xe s
theorem thn {α : Type} {t : Sem α} {Q Q' : α → Shared → Prop} {M : Model} {A : Around} {E : Value → Shared → Prop} {s : Shared} (h : wpAny M A t Q E s) (hQ : ∀ a s, Q a s → Q' a s) : wpAny M A t Q' E s := wpAny_mono h hQ fun _ _ x => x
end L2
namespace L2
open PySem PySem.Spec PyProof.Rows
section
variable {X : Cx}
inductive ItVar (i : Nat) (σ : St) (H : Hp) (Q : VK) : Prop
  | mk (v : _) (zz0 : σ[i]? = some (some v)) (zz1 : Q v H) : ItVar i σ H Q
noncomputable def tVar (i : Nat) : TE := ItVar i
noncomputable def tC (v : V) : TE := fun _ H Q => Q v H
theorem pe_var {i : Nat} {x : Str} {pos : Pos} (hN : X.N[i]? = some x) (hv : Vis X.env.scope x) (hd : (x == ("__debug__" : Str)) = false := by decide) (hcd : (x == ("__classdict__" : Str)) = false := by decide) : PE X (.Name x pos) (tVar i) := by
  intro pins s σ H Q I h
  refine hidG fun ZZ kZ => ?_
  obtain ⟨v, e, h⟩ := h
  obtain ⟨m, hn, hl⟩ := I.loc
  obtain ⟨u, r, l⟩ := hl i x v hN e hv
  refine kZ ?_
  have fin : EP X pins σ Q u s := ⟨v, H, I, r, h⟩
  rcases l with ⟨hk, hm⟩ | ⟨hk, c, hc, hcell⟩
  · exact wpAny_Name (wpAny_loadName_local I.ok.kind hk hn hm fin) hd
  · rcases hk with hk | hk
    · exact wpAny_Name (wpAny_loadName_cell I.ok.kind hk hc hcell fin) hd
    · exact wpAny_Name (wpAny_loadName_free I.ok.kind hk hc hcell fin hcd) hd
theorem pe_int {i j pos} : PE X (.Constant (.int i) j pos) (tC (.int i)) := fun _ _ _ H _ I h => wpAny_Constant_int ⟨.int i, H, I.tok _, ⟨_, rfl⟩, h⟩
theorem pe_bl {b j pos} : PE X (.Constant (.bool b) j pos) (tC (.bl b)) := fun _ _ _ H _ I h => Constant_bool ⟨.bl b, H, I, rfl, h⟩
theorem pe_str {x j pos} : PE X (.Constant (.str x) j pos) (tC (.str x)) := fun _ _ _ H _ I h => Calls.Constant_str ⟨.str x, H, I.tok _, ⟨_, rfl⟩, h⟩
noncomputable def Gl (X : Cx) (x : Str) : Prop := X.env.kindOf x = some .globalImplicit
theorem ld_glob {E : Value → Shared → Prop} {pins : List (Addr × Obj)} {s : Shared} {σ : St} {H : Hp} {x : Str} {u : Value} {pos : Pos} {Q : Value → Shared → Prop} (I : Inv X pins σ H s) (hg : Gl X x) (hm : X.mg x = some u) (h : Q u s)
    (hd : (x == ("__debug__" : Str)) = false := by decide) : wpAny (model X.prog X.w) X.A (eval (.Name x pos) X.env) Q E s :=
  Calls.Name_function_global I.ok.kind hg (Calls.loadGlobal_global (by rw [I.ok.glob]; exact I.mod.glob.keeps I.bk) hm h) hd
theorem ld_blt {E : Value → Shared → Prop} {pins : List (Addr × Obj)} {s : Shared} {σ : St} {H : Hp} {x : Str} {u : Value} {pos : Pos} {Q : Value → Shared → Prop} (I : Inv X pins σ H s) (hg : Gl X x) (hm : X.mg x = none) (hv : bootBuiltins x = some u) (h : Q u s)
    (hn : x ≠ "__name__" := by decide) (hd : (x == ("__debug__" : Str)) = false := by decide) : wpAny (model X.prog X.w) X.A (eval (.Name x pos) X.env) Q E s := by
  obtain ⟨mb, h1, h2⟩ := I.mod.blt
  exact Calls.Name_function_global I.ok.kind hg (Calls.loadGlobal_builtin (by rw [I.ok.glob]; exact I.mod.glob.keeps I.bk) hm (by rw [I.ok.blt]; exact h1.keeps I.bk) ((h2 x hn).trans hv) h) hd
theorem pe_glob {x : Str} {v : V} {u : Value} {pos : Pos} (hg : Gl X x) (hm : X.mg x = some u) (r : RelV v u) (hd : (x == ("__debug__" : Str)) = false := by decide) : PE X (.Name x pos) (tC v) :=
  fun _ _ _ H _ I h => ld_glob I hg hm ⟨v, H, I, r, h⟩ hd
theorem pe_bltn {x : Str} {v : V} {u : Value} {pos : Pos} (hg : Gl X x) (hm : X.mg x = none) (hv : bootBuiltins x = some u) (r : RelV v u) (hn : x ≠ "__name__" := by decide) (hd : (x == ("__debug__" : Str)) = false := by decide) : PE X (.Name x pos) (tC v) :=
  fun _ _ _ H _ I h => ld_blt I hg hm hv ⟨v, H, I, r, h⟩ hn hd
variable {a b : Expr} {ta tb : TE} {pos : Pos}
variable {tA tB' : TT} {rest : List Expr}
noncomputable def tAnd (t u : TT) : TT := fun σ H Q => t σ H fun c H1 => if c = true then u σ H1 Q else Q false H1
noncomputable def tOr (t u : TT) : TT := fun σ H Q => t σ H fun c H1 => if c = true then Q true H1 else u σ H1 Q
noncomputable def tNot (t : TT) : TT := fun σ H Q => t σ H fun c H1 => Q (!c) H1
theorem pw_and1 (ha : PT X a tA) : PW X (.BoolOp .And [a] pos) tA := by
  intro wh pins s σ H Q I h
  refine isTrue_and (thn (ha pins s σ H Q I h) fun c s1 e => ?_)
  cases c with
  | true => exact isTrue_and_nil e
  | false => exact e
theorem pw_or1 (ha : PT X a tA) : PW X (.BoolOp .Or [a] pos) tA := by
  intro wh pins s σ H Q I h
  refine isTrue_or (thn (ha pins s σ H Q I h) fun c s1 e => ?_)
  cases c with
  | false => exact isTrue_or_nil e
  | true => exact e
theorem pw_and (ha : PT X a tA) (hb : PW X (.BoolOp .And (b :: rest) pos) tB') : PW X (.BoolOp .And (a :: b :: rest) pos) (tAnd tA tB') := by
  intro wh pins s σ H Q I h
  refine isTrue_and (thn (ha pins s σ H _ I h) fun c s1 zz => el12 zz fun H1 I1 q1 => ?_)
  cases c with
  | true => exact hb wh pins s1 σ H1 Q I1 q1
  | false => exact ⟨H1, I1, q1⟩
theorem pw_or (ha : PT X a tA) (hb : PW X (.BoolOp .Or (b :: rest) pos) tB') : PW X (.BoolOp .Or (a :: b :: rest) pos) (tOr tA tB') := by
  intro wh pins s σ H Q I h
  refine isTrue_or (thn (ha pins s σ H _ I h) fun c s1 zz => el12 zz fun H1 I1 q1 => ?_)
  cases c with
  | true => exact ⟨H1, I1, q1⟩
  | false => exact hb wh pins s1 σ H1 Q I1 q1
theorem pt_not (ha : PT X a tA) : PT X (.UnaryOp .Not a pos) (tNot tA) := by
  intro pins s σ H Q I h
  exact isTrue_not (ha pins s σ H (fun c H1 => Q (!c) H1) I h)
noncomputable def tAndV (ta tb : TE) : TE := fun σ H Q => ta σ H fun x H1 => ∃ c, x = .bl c ∧ if c = true then tb σ H1 Q else Q (.bl false) H1
noncomputable def tOrV (ta tb : TE) : TE := fun σ H Q => ta σ H fun x H1 => ∃ c, x = .bl c ∧ if c = true then Q (.bl true) H1 else tb σ H1 Q
noncomputable def tNotV (ta : TE) : TE := fun σ H Q => ta σ H fun x H1 => ∃ c, x = .bl c ∧ Q (.bl (!c)) H1
theorem pe_one {op} {t : TE} (h : PE X a t) : PE X (.BoolOp op [a] pos) t := fun pins s σ H Q I hw => BoolOp_one (h pins s σ H Q I hw)
theorem pe_and (ha : PE X a ta) (hb : PE X (.BoolOp .And (b :: rest) pos) tb) : PE X (.BoolOp .And (a :: b :: rest) pos) (tAndV ta tb) := by
  intro pins s σ H Q I h
  refine BoolOp_and (thn (ha pins s σ H _ I h) fun v s1 zz => el23 zz fun x H1 I1 r1 q1 => ?_)
  obtain ⟨c, rfl, q1⟩ := q1
  cases r1
  refine wpAny_truthy_bool ?_
  cases c with
  | true => exact hb pins s1 σ H1 Q I1 q1
  | false => exact ⟨.bl false, H1, I1, rfl, q1⟩
theorem pe_or (ha : PE X a ta) (hb : PE X (.BoolOp .Or (b :: rest) pos) tb) : PE X (.BoolOp .Or (a :: b :: rest) pos) (tOrV ta tb) := by
  intro pins s σ H Q I h
  refine BoolOp_or (thn (ha pins s σ H _ I h) fun v s1 zz => el23 zz fun x H1 I1 r1 q1 => ?_)
  obtain ⟨c, rfl, q1⟩ := q1
  cases r1
  refine wpAny_truthy_bool ?_
  cases c with
  | false => exact hb pins s1 σ H1 Q I1 q1
  | true => exact ⟨.bl true, H1, I1, rfl, q1⟩
theorem pe_not (ha : PE X a ta) : PE X (.UnaryOp .Not a pos) (tNotV ta) := by
  intro pins s σ H Q I h
  refine UnaryOp_ (thn (ha pins s σ H _ I h) fun v s1 zz => el23 zz fun x H1 I1 r1 q1 => ?_)
  obtain ⟨c, rfl, q1⟩ := q1
  cases r1
  exact not_of (wpAny_truthy_bool ⟨.bl (!c), H1, I1, rfl, q1⟩)
noncomputable def tIf (t : TT) (ta tb : TE) : TE := fun σ H Q => t σ H fun c H1 => if c = true then ta σ H1 Q else tb σ H1 Q
theorem pe_ifExp {c : Expr} (hc : PT X c tA) (ha : PE X a ta) (hb : PE X b tb) : PE X (.IfExp c a b pos) (tIf tA ta tb) := by
  intro pins s σ H Q I h
  refine wpAny_IfExp (thn (hc pins s σ H _ I h) fun d s1 zz => el12 zz fun H1 I1 q1 => ?_)
  cases d with
  | true => exact ha pins s1 σ H1 Q I1 q1
  | false => exact hb pins s1 σ H1 Q I1 q1
end
end L2
namespace L2
open PySem PySem.Spec PyProof.Rows
noncomputable def SqL (K : PySem.W.Frag) (H : Hp) (a : Addr) (xs : List V) : Prop :=
  Rd H a (.lst xs) ∨
    ∃ (o : Obj) (its : Array Value) (n : Nat), K.lookup a = some o ∧ o.cls = .type "list" ∧ o.dict = none ∧ o.data = .seq its n ∧ its.size ≤ sizeLine ∧ Vals xs its.toList
noncomputable def SqT (K : PySem.W.Frag) (H : Hp) (a : Addr) (xs : List V) : Prop :=
  Rd H a (.tup xs) ∨
    ∃ (o : Obj) (its : Array Value) (n : Nat), K.lookup a = some o ∧ o.cls = .type "tuple" ∧ o.data = .seq its n ∧ its.size ≤ sizeLine ∧ Vals xs its.toList
noncomputable def absV : Value → Option V
  | .none => some .non
  | .bool b => some (.bl b)
  | .int i _ => some (.int i)
  | .str x _ => some (.str x)
  | .bytes b _ => some (.byt b)
  | .float b _ => some (.flt b)
  | .ref a => some (.ref a)
  | .type n => some (.ty n)
  | _ => none
theorem RelV.abs {x : V} {u : Value} (r : RelV x u) : absV u = some x := by
  cases x with
  | non => cases r; rfl
  | bl _ => cases r; rfl
  | int _ => obtain ⟨t, rfl⟩ := r; rfl
  | str _ => obtain ⟨t, rfl⟩ := r; rfl
  | byt _ => obtain ⟨t, rfl⟩ := r; rfl
  | flt _ => obtain ⟨t, rfl⟩ := r; rfl
  | ref _ => cases r; rfl
  | ty _ => cases r; rfl
theorem RelV.inj {x y : V} {u : Value} (r : RelV x u) (q : RelV y u) : x = y := Option.some.inj (r.abs.symm.trans q.abs)
theorem Vals.inj : ∀ {xs ys : List V} {us : List Value}, Vals xs us → Vals ys us → xs = ys
  | _, _, _, .nil, .nil => rfl
  | _, _, _, .cons r t, .cons r' t' => by rw [r.inj r', Vals.inj t t']
section
variable {X : Cx} {pins : List (Addr × Obj)} {σ : St} {H : Hp} {s : Shared} {a : Addr} {xs ys : List V}
theorem SqL.of {K : PySem.W.Frag} (h : H a = some (.lst xs)) : SqL K H a xs := .inl (.inl h)
theorem SqT.of {K : PySem.W.Frag} (h : H a = some (.tup xs)) : SqT K H a xs := .inl (.inl h)
theorem Inv.list (I : Inv X pins σ H s) (h : SqL X.K H a xs) : ∃ its : List Value, Vals xs its ∧ PlainL s.heap a its.toArray ∧ xs.length ≤ sizeLine := by
  rcases h with h | ⟨o, its, n, hk, hc, hd, hs, hz, r⟩
  · obtain ⟨z, its, n, r, e⟩ := h.ok I.hok
    exact ⟨its, r, ⟨_, n, e, rfl, rfl, rfl⟩, z⟩
  · refine ⟨its.toList, r, ⟨o, n, I.kIn a o hk, hc, hd, by simpa using hs⟩, ?_⟩
    have e := r.length
    simp only [Array.length_toList] at e
    (first | lia | omega)
theorem Inv.tuple (I : Inv X pins σ H s) (h : SqT X.K H a xs) : ∃ its : List Value, Vals xs its ∧ IsTup s.heap a its.toArray ∧ xs.length ≤ sizeLine := by
  rcases h with h | ⟨o, its, n, hk, hc, hs, hz, r⟩
  · obtain ⟨z, its, n, r, p⟩ := h.ok I.hok
    exact ⟨its, r, ⟨_, p, rfl, n, rfl⟩, z⟩
  · refine ⟨its.toList, r, ⟨o, I.kIn a o hk, hc, n, by simpa using hs⟩, ?_⟩
    have e := r.length
    simp only [Array.length_toList] at e
    (first | lia | omega)
theorem Inv.list_inj (I : Inv X pins σ H s) (h : SqL X.K H a xs) (h' : SqL X.K H a ys) : xs = ys := by
  refine hidG fun ZZ kZ => ?_
  obtain ⟨its, r, ⟨o, n, e, _, _, d⟩, _⟩ := I.list h
  obtain ⟨its', r', ⟨o', n', e', _, _, d'⟩, _⟩ := I.list h'
  refine kZ ?_
  rw [e] at e'; cases e'
  rw [d] at d'
  injection d' with d1 _
  have : its = its' := by simpa using congrArg Array.toList d1
  subst this
  exact r.inj r'
theorem Inv.tuple_inj (I : Inv X pins σ H s) (h : SqT X.K H a xs) (h' : SqT X.K H a ys) : xs = ys := by
  refine hidG fun ZZ kZ => ?_
  obtain ⟨its, r, ⟨o, e, _, n, d⟩, _⟩ := I.tuple h
  obtain ⟨its', r', ⟨o', e', _, n', d'⟩, _⟩ := I.tuple h'
  refine kZ ?_
  rw [e] at e'; cases e'
  rw [d] at d'
  injection d' with d1 _
  have : its = its' := by simpa using congrArg Array.toList d1
  subst this
  exact r.inj r'
end
noncomputable abbrev Cx.wish (X : Cx) (E : Value → Shared → Prop) : Cx := { X with xe := E }
noncomputable abbrev Cx.nox (X : Cx) : Cx := X.wish fun _ _ => False
theorem Cx.Ok.wish {X : Cx} (ok : X.Ok) (E : Value → Shared → Prop) : (X.wish E).Ok :=
  ⟨ok.mod, ok.kind, ok.glob, ok.blt, ok.above, ok.inj, ok.has, ok.cab, ok.hd, ok.frames, ok.stk, ok.exf, ok.bs, ok.bsz, ok.noex, ok.exfs, ok.funs, ok.frf⟩
theorem Cx.Ok.unwish {X : Cx} {E : Value → Shared → Prop} (ok : (X.wish E).Ok) : X.Ok :=
  ⟨ok.mod, ok.kind, ok.glob, ok.blt, ok.above, ok.inj, ok.has, ok.cab, ok.hd, ok.frames, ok.stk, ok.exf, ok.bs, ok.bsz, ok.noex, ok.exfs, ok.funs, ok.frf⟩
section
variable {X : Cx} {pins : List (Addr × Obj)} {σ : St} {H : Hp} {s : Shared} {E : Value → Shared → Prop}
theorem Inv.wish (I : Inv X pins σ H s) (E : Value → Shared → Prop) : Inv (X.wish E) pins σ H s := ⟨I.ok.wish E, I.os, I.bare, I.base, I.loc, I.cell, I.free, I.freeC, I.pin, I.hok, I.len⟩
theorem Inv.unwish (I : Inv (X.wish E) pins σ H s) : Inv X pins σ H s := ⟨I.ok.unwish, I.os, I.bare, I.base, I.loc, I.cell, I.free, I.freeC, I.pin, I.hok, I.len⟩
theorem SP.unwish {D : Ends} {f : Flow} {s' : Shared} (h : SP (X.wish E) pins D f s') : SP X pins D f s' := by
  cases f with
  | next => obtain ⟨σ', H', I, q⟩ := h; exact ⟨σ', H', I.unwish, q⟩
  | brk => obtain ⟨σ', H', I, q⟩ := h; exact ⟨σ', H', I.unwish, q⟩
  | cont => obtain ⟨σ', H', I, q⟩ := h; exact ⟨σ', H', I.unwish, q⟩
  | ret u => obtain ⟨v, σ', H', I, r, q⟩ := h; exact ⟨v, σ', H', I.unwish, r, q⟩
theorem PSs.nox {st : List Stmt} {t : TS} (h : PSs X.nox st t) : PSs X st t := fun pins s σ H D I hw =>
  wpAny_mono (h pins s σ H D (I.wish _) hw) (fun _ _ q => q.unwish) fun _ _ z => False.elim z
end
section
variable {X : Cx} {st : Stmt} {rest : List Stmt} {t u : TS} {e : Expr} {te : TE} {pos : Pos}
noncomputable def tNext : TS := fun D σ H => D.nx σ H
noncomputable def tSeq (t u : TS) : TS := fun D σ H => t { D with nx := u D } σ H
theorem pss_nil : PSs X [] tNext := fun _ _ σ H _ I h => wpAny_execs_nil ⟨σ, H, I, h⟩
theorem pss_cons (h1 : PS X st t) (h2 : PSs X rest u) : PSs X (st :: rest) (tSeq t u) := by
  intro pins s σ H D I h
  refine wpAny_execs_cons (thn (h1 pins s σ H { D with nx := u D } I h) fun f s1 q => ?_)
  cases f with
  | next =>
    refine hidG fun ZZ kZ => ?_
    obtain ⟨σ', H', I', q⟩ := q
    refine kZ ?_
    exact h2 pins s1 σ' H' D I' q
  | ret v => exact q
  | brk => exact q
  | cont => exact q
theorem pss_one (h1 : PS X st t) : PSs X [st] t := by
  intro pins s σ H D I h
  refine wpAny_execs_cons (thn (h1 pins s σ H D I h) fun f s1 q => ?_)
  cases f with
  | next => exact wpAny_execs_nil q
  | ret v => exact q
  | brk => exact q
  | cont => exact q
theorem Inv.quiet {pins : List (Addr × Obj)} {σ : St} {H : Hp} {s : Shared} (I : Inv X pins σ H s) : interactive X.env = false := by simp [interactive, I.ok.kind]
noncomputable def tDrop (te : TE) : TS := fun D σ H => te σ H fun _ H1 => D.nx σ H1
theorem ps_expr (he : PE X e te) (hs : swapsWith e none pos.line X.env = pure false := by rfl) : PS X (.Expr e pos) (tDrop te) := by
  intro pins s σ H D I h
  exact wpAny_Expr_any (thn (he pins s σ H _ I h) fun v s1 zz => el23 zz fun x H1 I1 r1 q1 => ⟨σ, H1, I1, q1⟩) I.quiet hs
noncomputable def tRet (te : TE) : TS := fun D σ H => te σ H D.rt
theorem ps_ret (he : PE X e te) : PS X (.Return (some e) pos) (tRet te) := by
  intro pins s σ H D I h
  exact wpAny_Return_some (thn (he pins s σ H _ I h) fun v s1 zz => el23 zz fun x H1 I1 r1 q1 => ⟨x, σ, H1, I1, r1, q1⟩)
noncomputable def tIfS (c : TT) (t u : TS) : TS := fun D σ H => c σ H fun b H1 => if b = true then t D σ H1 else u D σ H1
theorem ps_if {c : Expr} {a b : List Stmt} {tc : TT} (hc : PT X c tc) (ha : PSs X a t) (hb : PSs X b u) : PS X (.If c a b pos) (tIfS tc t u) := by
  intro pins s σ H D I h
  refine wpAny_If (thn (hc pins s σ H _ I h) fun d s1 zz => el12 zz fun H1 I1 q1 => ?_)
  cases d with
  | true => exact ha pins s1 σ H1 D I1 q1
  | false => exact hb pins s1 σ H1 D I1 q1
end
noncomputable abbrev TG := V → St → Hp → (St → Hp → Prop) → Prop
noncomputable abbrev TGs := List V → St → Hp → (St → Hp → Prop) → Prop
noncomputable def PG (X : Cx) (target : Expr) (t : TG) : Prop :=
  ∀ (pins : List (Addr × Obj)) (s : Shared) (σ : St) (H : Hp) (v : V) (u : Value) (Q : St → Hp → Prop), Inv X pins σ H s → RelV v u → t v σ H Q →
    wpAny (model X.prog X.w) X.A (assign target X.env u) (fun _ s' => ∃ σ' H', Inv X pins σ' H' s' ∧ Q σ' H') X.xe s
noncomputable def PGs (X : Cx) (ts : List Expr) (t : TGs) : Prop :=
  ∀ (pins : List (Addr × Obj)) (s : Shared) (σ : St) (H : Hp) (vs : List V) (us : List Value) (Q : St → Hp → Prop), Inv X pins σ H s → Vals vs us → t vs σ H Q →
    wpAny (model X.prog X.w) X.A (assignInOrder ((assignEach ts X.env).map (·.2)) us) (fun _ s' => ∃ σ' H', Inv X pins σ' H' s' ∧ Q σ' H') X.xe s
noncomputable abbrev TSet := V → V → V → Hp → (Hp → Prop) → Prop
noncomputable def PSet (X : Cx) (t : TSet) : Prop :=
  ∀ (pins : List (Addr × Obj)) (s : Shared) (σ : St) (H : Hp) (o i v : V) (ov iv u : Value) (Q : Hp → Prop), Inv X pins σ H s → RelV o ov → RelV i iv → RelV v u → t o i v H Q →
    wpAny (model X.prog X.w) X.A (setItem ov iv u) (fun _ s' => ∃ H', Inv X pins σ H' s' ∧ Q H') X.xe s
section
variable {X : Cx} {pos : Pos}
noncomputable def gName (i : Nat) : TG := fun v σ H Q => Q (σ.set i (some v)) H
theorem pg_name {i : Nat} {x : Str} (hN : X.N.Nodup) (hi : X.N[i]? = some x) (hx : Loc X.env.scope x) (hf : X.fn x = true ∨ X.env.scope.names.lookup x = some .local := by first | exact .inl rfl | exact .inr rfl | assumption) : PG X (.Name x pos) (gName i) := by
  intro pins s σ H v u Q I r h
  exact wpAny_assign_Name (store_ok I hN hi hx r (fun s' I' => ⟨_, H, I', h⟩) hf)
noncomputable def gNil : TGs := fun vs σ H Q => vs = [] ∧ Q σ H
noncomputable def gCons (t : TG) (u : TGs) : TGs := fun vs σ H Q => ∃ v r, vs = v :: r ∧ t v σ H fun σ' H' => u r σ' H' Q
theorem pgs_nil : PGs X [] gNil := by
  intro pins s σ H vs us Q I r h
  obtain ⟨e, h⟩ := h
  subst e
  cases r
  exact assignInOrder_nil ⟨σ, H, I, h⟩
theorem pgs_cons {e : Expr} {es : List Expr} {t : TG} {u : TGs} (h1 : PG X e t) (h2 : PGs X es u)
    (hs : (assignEach (e :: es) X.env).map (·.2) = assign e X.env :: (assignEach es X.env).map (·.2) := by rfl) : PGs X (e :: es) (gCons t u) := by
  intro pins s σ H vs us Q I r h
  obtain ⟨v, vr, e1, h⟩ := h
  subst e1
  cases r with
  | cons r rr =>
    rw [hs]
    refine assignInOrder_cons (thn (h1 pins s σ H _ _ _ I r h) fun _ s1 ⟨σ1, H1, I1, q1⟩ => ?_)
    exact h2 pins s1 σ1 H1 _ _ Q I1 rr q1
noncomputable def gTup (K : PySem.W.Frag) (n : Nat) (t : TGs) : TG := fun v σ H Q => ∃ a xs, v = .ref a ∧ SqT K H a xs ∧ xs.length = n ∧ t xs σ H Q
theorem pg_tup {es : List Expr} {k : Nat} {t : TGs} {n : Nat} (hc : X.calm = true) (h : PGs X es t)
    (hn : (assignEach es X.env).length = n := by rfl) (hst : (assignEach es X.env).findIdx? (·.1) = none := by rfl) : PG X (.Tuple es k pos) (gTup X.K n t) := by
  intro pins s σ H v u Q I r hw
  refine hidG fun ZZ kZ => ?_
  obtain ⟨a, xs, e1, hq, hl, hw⟩ := hw
  refine kZ ?_
  subst e1
  cases r
  refine hidG fun ZZ kZ => ?_
  obtain ⟨its, rv, ht, hz⟩ := I.tuple hq
  refine kZ ?_
  refine assign_Tuple_tuple (I.ok.hd hc) ht (by simp [hn, ← hl, rv.length]) hst fun h' hx => ?_
  have I1 : Inv X pins σ H { s with heap := h' } := I.kept (t' := s.toks) fun b o e => hx b o (Nat.ne_of_lt (Heap.lt_size e)) e
  exact h pins _ σ H xs _ Q I1 (by simpa using rv) hw
noncomputable def gSub (to ti : TE) (t : TSet) : TG := fun v σ H Q => to σ H fun o H1 => ti σ H1 fun i H2 => t o i v H2 fun H3 => Q σ H3
theorem pg_sub {o i : Expr} {to ti : TE} {t : TSet} (ho : PE X o to) (hi : PE X i ti) (hs : PSet X t)
    (ha : ∀ v, assign (.Subscript o i pos) X.env v = (do
      let ov ← holding [v] (eval o X.env)
      let iv ← holding [v, ov] (eval i X.env)
      standAt pos
      holding [v, ov, iv] (setItem ov iv v)
      release [v, ov, iv] []) := by intro _; rfl) : PG X (.Subscript o i pos) (gSub to ti t) := by
  intro pins s σ H v u Q I r h
  rw [ha]
  refine wpAny_bind (wpAny_holding (thn (ho pins s σ H _ I h) fun ov s1 zz => el23 zz fun x H1 I1 r1 q1 => ?_))
  refine wpAny_bind (wpAny_holding (thn (hi pins s1 σ H1 _ I1 q1) fun iv s2 zz => el23 zz fun y H2 I2 r2 q2 => ?_))
  refine wpAny_bind (wpAny_standAt (wpAny_bind (wpAny_holding (thn (hs pins s2 σ H2 x y v ov iv u _ I2 r1 r2 r q2) fun _ s3 zz => el12 zz fun H3 I3 q3 => ?_))))
  exact wpAny_release ⟨σ, H3, I3, q3⟩
noncomputable def tAsg (te : TE) (g : TG) : TS := fun D σ H => te σ H fun x H1 => g x σ H1 D.nx
theorem ps_asg {tg e : Expr} {te : TE} {g : TG} (he : PE X e te) (hg : PG X tg g) (hs : swapsWithSole [tg] e pos.line X.env = pure false := by rfl) (hw : swappedStores [tg] e X.env = pure none := by rfl)
    (h1 : (assignEach [tg] X.env).map (·.2) = [assign tg X.env] := by rfl) : PS X (.Assign [tg] e pos) (tAsg te g) := by
  intro pins s σ H D I h
  refine wpAny_Assign_stores (thn (he pins s σ H _ I h) fun v s1 zz => el23 zz fun x H1 I1 r1 q1 => ?_) hs hw
  rw [h1]
  exact thn (hg pins s1 σ H1 x v _ I1 r1 q1) fun _ s2 q => q
theorem ps_set {i : Nat} {x : Str} {e : Expr} {te : TE} {pos' : Pos} (hN : X.N.Nodup) (hi : X.N[i]? = some x) (hx : Loc X.env.scope x) (he : PE X e te) (hs : swapsWith e (some (.Name x pos')) pos.line X.env = pure false := by rfl) (hf : X.fn x = true ∨ X.env.scope.names.lookup x = some .local := by first | exact .inl rfl | exact .inr rfl | assumption) :
    PS X (.Assign [.Name x pos'] e pos) (tAsg te (gName i)) := by
  intro pins s σ H D I h
  refine wpAny_Assign_Name (thn (he pins s σ H _ I h) fun v s1 zz => el23 zz fun y H1 I1 r1 q1 => ?_) hs
  exact store_ok I1 hN hi hx r1 (fun s2 I2 => ⟨_, H1, I2, q1⟩) hf
end
section
variable {X : Cx} {pos : Pos}
noncomputable def tWhile (c : TT) (tb : TS) : TS := fun D σ H => ∃ W : Nat → St → Hp → Prop, (∃ m, W m σ H) ∧ ∀ m σ H, W m σ H →
  c σ H fun b H1 => if b = true then ∃ N : St → Hp → Prop, (∀ σ' H', N σ' H' → ∃ m', m' < m ∧ W m' σ' H') ∧ tb { D with nx := N, ct := N, bk := D.nx } σ H1 else D.nx σ H1
theorem ps_while {c : Expr} {body : List Stmt} {tc : TT} {tb : TS} (hp : PassesOwn (model X.prog X.w) X.A X.env X.xe) (hc : PT X c tc) (hb : PSs X body tb) : PS X (.While c body [] pos) (tWhile tc tb) := by
  intro pins s σ H D I h
  refine hidG fun ZZ kZ => ?_
  obtain ⟨W, ⟨m0, w0⟩, turn⟩ := h
  refine kZ ?_
  refine wpAny_While (codeAny_whileLoop (fun n s' => ∃ σ' H', Inv X pins σ' H' s' ∧ W n σ' H') ?_ m0 ⟨σ, H, I, w0⟩)
  rintro n s1 ⟨σ1, H1, I1, w1⟩
  refine wpAny_passesOwn hp (thn (hc pins s1 σ1 H1 _ I1 (turn n σ1 H1 w1)) fun b s2 zz => el12 zz fun H2 I2 q2 => ?_)
  cases b with
  | true =>
    obtain ⟨N, hN, q2⟩ := q2
    rw [if_pos rfl]
    refine wpAny_passesOwn hp (thn (hb pins s2 σ1 H2 _ I2 q2) fun f s3 q3 => ?_)
    cases f with
    | next =>
      refine hidG fun ZZ kZ => ?_
      obtain ⟨σ3, H3, I3, n3⟩ := q3
      obtain ⟨m', hm, w3⟩ := hN σ3 H3 n3
      refine kZ ?_
      exact ⟨m', hm, σ3, H3, I3, w3⟩
    | cont =>
      refine hidG fun ZZ kZ => ?_
      obtain ⟨σ3, H3, I3, n3⟩ := q3
      obtain ⟨m', hm, w3⟩ := hN σ3 H3 n3
      refine kZ ?_
      exact ⟨m', hm, σ3, H3, I3, w3⟩
    | brk => exact q3
    | ret v => exact q3
  | false =>
    rw [if_neg Bool.false_ne_true]
    exact wpAny_execs_nil ⟨σ1, H2, I2, q2⟩
end
set_option genInjectivity false in
set_option genSizeOf false in
structure It where
  go : Nat → Hp → Prop
  yld : Nat → Hp → V → Hp → Prop
  stop : Nat → Hp → Prop
noncomputable def FpOk (X : Cx) (pins : List (Addr × Obj)) (H : Hp) (b : Addr) : Prop :=
  H b = none ∧ b ≠ X.env.locals ∧ b ∉ X.fs ∧ (b ∈ X.ex ∨ X.s₀.heap.objs.size ≤ b) ∧ (∀ x c, X.env.cells.lookup x = some c → c ≠ b) ∧ ∀ p ∈ X.pn ++ pins, p.1 ≠ b
theorem Inv.fpOk {X : Cx} {pins : List (Addr × Obj)} {σ : St} {H H' : Hp} {s : Shared} {b : Addr} (I : Inv X pins σ H s) (hb : s.heap.objs.size ≤ b) (hn : H' b = none) : FpOk X pins H' b := by
  refine ⟨hn, Nat.ne_of_gt (Nat.lt_of_lt_of_le I.lt hb), I.nofs hb, .inr (Nat.le_trans I.sz hb), fun x c e z => ?_, fun p hp z => ?_⟩
  · obtain ⟨v, q⟩ := I.cell x c e
    exact absurd (Nat.lt_of_lt_of_le q.lt (by rw [z]; exact hb)) (Nat.lt_irrefl _)
  · exact absurd (Nat.lt_of_lt_of_le (Heap.lt_size (I.pin p hp).1) (by rw [z]; exact hb)) (Nat.lt_irrefl _)
structure Turn (P : Program) (w : World) (K : PySem.W.Frag) (tg : Expr) (J : It) (fp : List Addr) (it : Addr) (tn : Nat → Heap → Prop) : Prop where
  mem : it ∈ fp
  obj : ∀ i h, tn i h → ∀ b ∈ fp, ∃ o, h.get? b = some o ∧ ∀ v, o.data ≠ .cell v
  keep : ∀ i h h', tn i h → (∀ b ∈ fp, ∀ o, h.get? b = some o → h'.get? b = some o) → tn i h'
  item : ∀ (X : Cx), X.prog = P → X.w = w → X.K = K → X.calm = true → ∀ (i : Nat) (pins : List (Addr × Obj)) (s : Shared) (σ : St) (H : Hp) (E : Value → Shared → Prop), Inv X pins σ H s → (∀ b ∈ fp, FpOk X pins H b) → tn i s.heap → J.go i H →
    wpAny (model P w) X.A (pyNext (.ref it)) (fun r s1 => ∃ u, r = some u ∧
      wpAny (model P w) X.A (letOwnedTupleGo tg (.ref it) u) (fun _ s2 => ∃ x H', Inv X pins σ H' s2 ∧ RelV x u ∧ J.yld i H x H' ∧ tn (i + 1) s2.heap ∧ ∀ b ∈ fp, H' b = none) E s1) E s
  done : ∀ (X : Cx), X.prog = P → X.w = w → X.K = K → X.calm = true → ∀ (i : Nat) (pins : List (Addr × Obj)) (s : Shared) (σ : St) (H : Hp) (E : Value → Shared → Prop), Inv X pins σ H s → (∀ b ∈ fp, FpOk X pins H b) → tn i s.heap → J.stop i H →
    wpAny (model P w) X.A (pyNext (.ref it)) (fun r s1 => r = none ∧ Inv X pins σ H s1) E s
  self : ∀ (A : Around) (i : Nat) (s : Shared) (Q : Value → Shared → Prop) (E : Value → Shared → Prop), tn i s.heap → Q (.ref it) s → wpAny (model P w) A (pyIter (.ref it)) Q E s
noncomputable abbrev TI := St → Hp → (It → Hp → Prop) → Prop
noncomputable def PIE (X : Cx) (pins : List (Addr × Obj)) (σ : St) (tg : Expr) (R : It → Hp → Prop) (itv : Value) (s2 : Shared) : Prop :=
  ∃ (it : Addr) (fp : List Addr) (tn : Nat → Heap → Prop) (J : It) (H' : Hp), itv = .ref it ∧ Inv X pins σ H' s2 ∧ Turn X.prog X.w X.K tg J fp it tn ∧ tn 0 s2.heap ∧ (∀ b ∈ fp, FpOk X pins H' b) ∧ R J H'
noncomputable def PI (X : Cx) (tg iter : Expr) (wi : TI) : Prop :=
  ∀ (pins : List (Addr × Obj)) (s : Shared) (σ : St) (H : Hp) (R : It → Hp → Prop), Inv X pins σ H s → wi σ H R →
    wpAny (model X.prog X.w) X.A (eval iter X.env) (fun v s1 => wpAny (model X.prog X.w) X.A (pyIter v) (PIE X pins σ tg R) X.xe s1) X.xe s
theorem go_of {M : Model} {A : Around} {E : Value → Shared → Prop} {s : Shared} {tg : Expr} {it : Addr} {u : Value} {o : Obj} {n : String} {vs : Array Value} {Q : Unit → Shared → Prop} (ho : s.heap.get? it = some o) (hc : o.cls = .type n) (hd : o.data = .fields vs)
    (hn : ["enumerate", "zip", "dict_itemiterator", "dict_reverseitemiterator", "odict_iterator", "itertools.zip_longest", "itertools.pairwise"].contains n = false) (hQ : Q () s) : wpAny M A (letOwnedTupleGo tg (.ref it) u) Q E s := by
  unfold letOwnedTupleGo
  cases tg <;> first
    | exact wpAny_pure hQ
    | (cases u <;> first
        | exact wpAny_pure hQ
        | (refine wpAny_bind (wpAny_load ho ?_)
           rw [hc, hd]
           show wpAny M A (if (["enumerate", "zip", "dict_itemiterator", "dict_reverseitemiterator", "odict_iterator", "itertools.zip_longest", "itertools.pairwise"].contains n && vs[0]? == some (rawInt _)) = true then _ else _) Q E s
           rw [if_neg (by intro h; rw [hn, Bool.false_and] at h; cases h)]
           exact wpAny_pure hQ))
noncomputable def Itl (K : PySem.W.Frag) (a : Addr) : It :=
  ⟨fun i H => ∃ xs x, SqL K H a xs ∧ xs[i]? = some x, fun i H x H' => H' = H ∧ ∀ xs, SqL K H a xs → xs[i]? = some x, fun i H => ∃ xs, SqL K H a xs ∧ xs.length ≤ i⟩
noncomputable def Itt (K : PySem.W.Frag) (a : Addr) : It :=
  ⟨fun i H => ∃ xs x, SqT K H a xs ∧ xs[i]? = some x, fun i H x H' => H' = H ∧ ∀ xs, SqT K H a xs → xs[i]? = some x, fun i H => ∃ xs, SqT K H a xs ∧ xs.length ≤ i⟩
noncomputable def Itr (lo : Int) (n : Nat) : It := ⟨fun i _ => i < n, fun i H x H' => H' = H ∧ x = .int (lo + i), fun i _ => n ≤ i⟩
theorem turn_list {P : Program} {w : World} {K : PySem.W.Frag} {tg : Expr} (a it : Addr) : Turn P w K tg (Itl K a) [it] it (fun i h => h.IsListIter it a i) where
  mem := by simp
  obj := fun i h st b hb => by
    have e : b = it := by simpa using hb
    subst e
    refine hidG fun ZZ kZ => ?_
    obtain ⟨o, e, c, d⟩ := st
    refine kZ ?_
    exact ⟨o, e, fun v z => by rw [d] at z; cases z⟩
  keep := fun i h h' st k => st.at fun o e => k it (by simp) o e
  item := by
    intro X hP hw hK hc i pins s σ H E I hf st hg
    subst hP hw hK
    refine hidG fun ZZ kZ => ?_
    obtain ⟨xs, x, hq, hx⟩ := hg
    obtain ⟨its, rv, p, hz⟩ := I.list hq
    obtain ⟨u, hu, ru⟩ := rv.get hx
    obtain ⟨f0, f1, f2, f3, f4, f5⟩ := hf it (by simp)
    refine kZ ?_
    refine wpAny_pyNext_list_item st p.isList (x := u) (by simpa using hu) fun h' st' sb => ?_
    have I1 : Inv X pins σ H { s with heap := h' } := I.turned (t' := s.toks) (fun b o hb e => (sb.2 b hb).trans e) f0 f1 f3 f4 f5
    refine hidG fun ZZ kZ => ?_
    obtain ⟨o, e, c, d⟩ := id st'
    refine kZ ?_
    exact ⟨u, rfl, go_of (s := { s with heap := h' }) e c d (by decide) ⟨x, H, I1, ru, ⟨rfl, fun ys hy => by rw [I.list_inj hy hq]; exact hx⟩, st', fun b hb => (hf b hb).1⟩⟩
  done := by
    intro X hP hw hK hc i pins s σ H E I hf st hg
    subst hP hw hK
    refine hidG fun ZZ kZ => ?_
    obtain ⟨xs, hq, hx⟩ := hg
    obtain ⟨its, rv, p, hz⟩ := I.list hq
    obtain ⟨f0, f1, f2, f3, f4, f5⟩ := hf it (by simp)
    refine kZ ?_
    have hl := rv.length
    exact wpAny_pyNext_list_end (I.ok.hd hc) st p.isList (by simp; (first | lia | omega)) fun h' eb => ⟨rfl, I.turned (t' := s.toks) (fun b o hb e => eb b o hb e) f0 f1 f3 f4 f5⟩
  self := fun _ _ _ _ _ st h => wpAny_pyIter_listiter st h
theorem turn_tuple {P : Program} {w : World} {K : PySem.W.Frag} {tg : Expr} (a it : Addr) : Turn P w K tg (Itt K a) [it] it (fun i h => h.IsTupleIter it a i) where
  mem := by simp
  obj := fun i h st b hb => by
    have e : b = it := by simpa using hb
    subst e
    refine hidG fun ZZ kZ => ?_
    obtain ⟨o, e, c, d⟩ := st
    refine kZ ?_
    exact ⟨o, e, fun v z => by rw [d] at z; cases z⟩
  keep := fun i h h' st k => st.at fun o e => k it (by simp) o e
  item := by
    intro X hP hw hK hc i pins s σ H E I hf st hg
    subst hP hw hK
    refine hidG fun ZZ kZ => ?_
    obtain ⟨xs, x, hq, hx⟩ := hg
    obtain ⟨its, rv, p, hz⟩ := I.tuple hq
    obtain ⟨u, hu, ru⟩ := rv.get hx
    obtain ⟨f0, f1, f2, f3, f4, f5⟩ := hf it (by simp)
    refine kZ ?_
    refine wpAny_pyNext_tuple_item st (show s.heap.IsTuple a its.toArray from p) (x := u) (by simpa using hu) fun h' st' sb => ?_
    have I1 : Inv X pins σ H { s with heap := h' } := I.turned (t' := s.toks) (fun b o hb e => (sb.2 b hb).trans e) f0 f1 f3 f4 f5
    refine hidG fun ZZ kZ => ?_
    obtain ⟨o, e, c, d⟩ := id st'
    refine kZ ?_
    exact ⟨u, rfl, go_of (s := { s with heap := h' }) e c d (by decide) ⟨x, H, I1, ru, ⟨rfl, fun ys hy => by rw [I.tuple_inj hy hq]; exact hx⟩, st', fun b hb => (hf b hb).1⟩⟩
  done := by
    intro X hP hw hK hc i pins s σ H E I hf st hg
    subst hP hw hK
    refine hidG fun ZZ kZ => ?_
    obtain ⟨xs, hq, hx⟩ := hg
    obtain ⟨its, rv, p, hz⟩ := I.tuple hq
    obtain ⟨f0, f1, f2, f3, f4, f5⟩ := hf it (by simp)
    refine kZ ?_
    have hl := rv.length
    exact wpAny_pyNext_tuple_end (I.ok.hd hc) st (show s.heap.IsTuple a its.toArray from p) (by simp; (first | lia | omega)) fun h' eb => ⟨rfl, I.turned (t' := s.toks) (fun b o hb e => eb b o hb e) f0 f1 f3 f4 f5⟩
  self := fun _ _ _ _ _ st h => wpAny_pyIter_tupleiter st h
theorem turn_range {P : Program} {w : World} {K : PySem.W.Frag} {tg : Expr} (it : Addr) (lo : Int) (n : Nat) : Turn P w K tg (Itr lo n) [it] it (fun i h => IsRangeIter h it (lo + (i : Nat) * 1) ((n : Int) - (i : Nat)) 1) where
  mem := by simp
  obj := fun i h st b hb => by
    have e : b = it := by simpa using hb
    subst e
    exact ⟨_, st, fun v z => by
      have z' : Data.fields _ = Data.cell v := z
      cases z'⟩
  keep := fun i h h' st k => k it (by simp) _ st
  item := by
    intro X hP hw hK hc i pins s σ H E I hf st hg
    subst hP hw hK
    refine hidG fun ZZ kZ => ?_
    obtain ⟨f0, f1, f2, f3, f4, f5⟩ := hf it (by simp)
    refine kZ ?_
    have W := Walks.range (prog := X.prog) (w := X.w) (I.ok.hd hc) it lo 1 n
    refine W.item i s _ _ hg st fun v h' tk hv st' kk => ?_
    obtain ⟨t, rfl⟩ := hv
    have I1 : Inv X pins σ H { s with heap := h', toks := tk } := I.turned (fun b o hb e => kk b o (by simpa using hb) e) f0 f1 f3 f4 f5
    refine ⟨_, rfl, go_of (s := { s with heap := h', toks := tk }) (n := "range_iterator") st' rfl rfl (by decide) ⟨.int (lo + i), H, I1, ⟨t, ?_⟩, ⟨rfl, rfl⟩, st', fun b hb => (hf b hb).1⟩⟩
    rw [Int.mul_one]
  done := by
    intro X hP hw hK hc i pins s σ H E I hf st hg
    subst hP hw hK
    refine hidG fun ZZ kZ => ?_
    obtain ⟨f0, f1, f2, f3, f4, f5⟩ := hf it (by simp)
    refine kZ ?_
    exact wpAny_pyNext_range_end (I.ok.hd hc) st (by have : n ≤ i := hg; (first | lia | omega)) fun h' eb => ⟨rfl, I.turned (t' := s.toks) (fun b o hb e => eb b o hb e) f0 f1 f3 f4 f5⟩
  self := fun _ _ _ _ _ st h => wpAny_pyIter_rangeiter st h
end L2
namespace L2
open PySem PySem.Spec PyProof.Rows
section
variable {X : Cx} {tg : Expr}
noncomputable def iList (K : PySem.W.Frag) (tl : TE) : TI := fun σ H R => tl σ H fun x H1 => ∃ a, x = .ref a ∧ (∃ xs, SqL K H1 a xs) ∧ R (Itl K a) H1
noncomputable def iTup (K : PySem.W.Frag) (tl : TE) : TI := fun σ H R => tl σ H fun x H1 => ∃ a, x = .ref a ∧ (∃ xs, SqT K H1 a xs) ∧ R (Itt K a) H1
theorem pi_list {l : Expr} {tl : TE} (hl : PE X l tl) : PI X tg l (iList X.K tl) := by
  intro pins s σ H R I h
  refine thn (hl pins s σ H _ I h) fun v s1 zz => el23 zz fun x H1 I1 r1 q1 => ?_
  obtain ⟨a, e, ⟨xs, hq⟩, q⟩ := q1
  subst e
  cases r1
  obtain ⟨its, rv, p, hz⟩ := I1.list hq
  refine wpAny_pyIter_list p.isList ?_
  refine ⟨s1.heap.objs.size, [s1.heap.objs.size], _, _, H1, rfl, I1.kept (t' := s1.toks) fun b o e => Heap.get?_push_of_some _ e, turn_list a _, ⟨_, Heap.get?_push_size _ rfl, rfl, rfl⟩, fun b hb => ?_, q⟩
  have e : b = s1.heap.objs.size := by simpa using hb
  subst e
  exact I1.fpOk (Nat.le_refl _) (I1.hok.fresh (Nat.le_refl _))
theorem pi_tup {l : Expr} {tl : TE} (hl : PE X l tl) : PI X tg l (iTup X.K tl) := by
  intro pins s σ H R I h
  refine thn (hl pins s σ H _ I h) fun v s1 zz => el23 zz fun x H1 I1 r1 q1 => ?_
  obtain ⟨a, e, ⟨xs, hq⟩, q⟩ := q1
  subst e
  cases r1
  obtain ⟨its, rv, p, hz⟩ := I1.tuple hq
  refine wpAny_pyIter_tuple (show s1.heap.IsTuple a its.toArray from p) ?_
  refine ⟨s1.heap.objs.size, [s1.heap.objs.size], _, _, H1, rfl, I1.kept (t' := s1.toks) fun b o e => Heap.get?_push_of_some _ e, turn_tuple a _, ⟨_, Heap.get?_push_size _ rfl, rfl, rfl⟩, fun b hb => ?_, q⟩
  have e : b = s1.heap.objs.size := by simpa using hb
  subst e
  exact I1.fpOk (Nat.le_refl _) (I1.hok.fresh (Nat.le_refl _))
theorem range_it {pins : List (Addr × Obj)} {σ : St} {H : Hp} {s : Shared} {R : It → Hp → Prop} {E : Value → Shared → Prop} {lo hi : Int} {t u v : Tok} {tk : Nat} (I : Inv X pins σ H s) (h1 : -(2 ^ 62) ≤ lo) (h2 : lo < 2 ^ 62) (h3 : -(2 ^ 62) ≤ hi) (h4 : hi < 2 ^ 62)
    (q : R (Itr lo (hi - lo).toNat) H) : wpAny (model X.prog X.w) X.A (pyIter (.ref s.heap.objs.size)) (PIE X pins σ tg R) E { s with heap := s.heap.push { cls := .type "range", data := .fields #[.int lo t, .int hi u, .int 1 v] }, toks := tk } := by
  refine wpAny_pyIter_range (IsRange.new ..) (small_one h1 h2 h3 h4) ?_
  have I1 : Inv X pins σ H { s with heap := s.heap.push { cls := .type "range", data := .fields #[.int lo t, .int hi u, .int 1 v] }, toks := tk } := I.kept fun b o e => Heap.get?_push_of_some _ e
  refine ⟨(s.heap.push { cls := .type "range", data := .fields #[.int lo t, .int hi u, .int 1 v] }).objs.size, [(s.heap.push { cls := .type "range", data := .fields #[.int lo t, .int hi u, .int 1 v] }).objs.size], _, _, H, rfl,
    I1.kept (t' := tk) fun b o e => Heap.get?_push_of_some _ e, turn_range _ lo (hi - lo).toNat, ?_, fun b hb => ?_, q⟩
  · have e1 : lo + ((0 : Nat) : Int) * 1 = lo := by simp
    have e2 : (((hi - lo).toNat : Nat) : Int) - ((0 : Nat) : Int) = Builtin.Range.rangeSize lo hi 1 := by rw [rangeSize_one]; split <;> (first | lia | omega)
    show IsRangeIter _ _ (lo + ((0 : Nat) : Int) * 1) ((((hi - lo).toNat : Nat) : Int) - ((0 : Nat) : Int)) 1
    rw [e1, e2]
    exact Heap.get?_push_size _ rfl
  · have e : b = (s.heap.push { cls := .type "range", data := .fields #[.int lo t, .int hi u, .int 1 v] }).objs.size := by simpa using hb
    subst e
    exact I1.fpOk (Nat.le_refl _) (I1.hok.fresh (Nat.le_refl _))
noncomputable def iRng1 (ta : TA) : TI := fun σ H R => ta σ H fun vs H1 => ∃ j : Int, vs = [.int j] ∧ -(2 ^ 62) ≤ j ∧ j < 2 ^ 62 ∧ R (Itr 0 j.toNat) H1
noncomputable def iRng2 (ta : TA) : TI := fun σ H R => ta σ H fun vs H1 => ∃ i j : Int, vs = [.int i, .int j] ∧ (-(2 ^ 62) ≤ i ∧ i < 2 ^ 62 ∧ -(2 ^ 62) ≤ j ∧ j < 2 ^ 62) ∧ R (Itr i (j - i).toNat) H1
theorem pi_range1 {a : Expr} {ta : TA} {p pos : Pos} (hg : Gl X "range") (hm : X.mg "range" = none) (ha : PA X [a] ta) (hs : starEach [a] X.env = [(false, eval a X.env)] := by rfl) : PI X tg (.Call (.Name "range" p) [a] [] pos) (iRng1 ta) := by
  intro pins s σ H R I h
  refine Call_ (ld_blt I hg hm boot_range (PyProof.Rows.callWith_type1 (thn (ha pos pins s σ H _ I h) fun us s1 zz => el23 zz fun vs H1 I1 r1 q1 => ?_) hs rfl))
  obtain ⟨j, e, q1, q2, q⟩ := q1
  subst e
  cases r1 with
  | cons r rr =>
    cases rr
    obtain ⟨t, rfl⟩ := r
    exact call_range_1 (range_it I1 (by (first | lia | omega)) (by (first | lia | omega)) q1 q2 (by simpa using q))
theorem pi_range2 {a b : Expr} {ta : TA} {p pos : Pos} (hg : Gl X "range") (hm : X.mg "range" = none) (ha : PA X [a, b] ta) (hs : starEach [a, b] X.env = [(false, eval a X.env), (false, eval b X.env)] := by rfl) (hs2 : starEach [b] X.env = [(false, eval b X.env)] := by rfl) :
    PI X tg (.Call (.Name "range" p) [a, b] [] pos) (iRng2 ta) := by
  intro pins s σ H R I h
  refine Call_ (ld_blt I hg hm boot_range (PyProof.Rows.callWith_type1 (thn (ha pos pins s σ H _ I h) fun us s1 zz => el23 zz fun vs H1 I1 r1 q1 => ?_) (by rw [hs, hs2]) (by rw [hs2]; rfl)))
  obtain ⟨i, j, e, ⟨q1, q2, q3, q4⟩, q⟩ := q1
  subst e
  cases r1 with
  | cons r rr =>
    cases rr with
    | cons r' rr =>
      cases rr
      obtain ⟨t, rfl⟩ := r
      obtain ⟨t', rfl⟩ := r'
      exact call_range_2 (range_it I1 q1 q2 q3 q4 q)
noncomputable def tFor (wi : TI) (g : TG) (tb : TS) : TS := fun D σ H => wi σ H fun J H1 => ∃ W : Nat → Nat → St → Hp → Prop, (∃ m, W 0 m σ H1) ∧ ∀ i m σ H, W i m σ H →
  (J.stop i H ∧ D.nx σ H) ∨ (J.go i H ∧ ∃ N : St → Hp → Prop, (∀ σ' H', N σ' H' → ∃ m', m' < m ∧ W (i + 1) m' σ' H') ∧ ∀ x H', J.yld i H x H' → g x σ H' fun σ2 H2 => tb { D with nx := N, ct := N, bk := D.nx } σ2 H2)
noncomputable def pinsAt (fp : List Addr) (h : Heap) : List (Addr × Obj) := fp.filterMap fun b => (h.get? b).map fun o => (b, o)
theorem mem_pinsAt {fp : List Addr} {h : Heap} {b : Addr} {o : Obj} (hb : b ∈ fp) (e : h.get? b = some o) : (b, o) ∈ pinsAt fp h := List.mem_filterMap.mpr ⟨b, hb, by rw [e]; rfl⟩
theorem of_pinsAt {fp : List Addr} {h : Heap} {p : Addr × Obj} (hp : p ∈ pinsAt fp h) : p.1 ∈ fp ∧ h.get? p.1 = some p.2 := by
  obtain ⟨b, hb, e⟩ := List.mem_filterMap.mp hp
  cases q : h.get? b with
  | none => rw [q] at e; cases e
  | some o =>
    rw [q] at e
    have e' : (b, o) = p := Option.some.inj e
    subst e'
    exact ⟨hb, q⟩
theorem Inv.pinned {pins : List (Addr × Obj)} {σ : St} {H : Hp} {s : Shared} {fp : List Addr} (I : Inv X pins σ H s) (hf : ∀ b ∈ fp, FpOk X pins H b) (ho : ∀ b ∈ fp, ∃ o, s.heap.get? b = some o ∧ ∀ v, o.data ≠ .cell v) : Inv X (pins ++ pinsAt fp s.heap) σ H s :=
  I.pins_of fun p hp => (List.mem_append.mp hp).elim (fun z => I.pin p (List.mem_append_right _ z)) fun z => by
    refine hidG fun ZZ kZ => ?_
    obtain ⟨hb, e⟩ := of_pinsAt z
    obtain ⟨f0, f1, f2, _⟩ := hf p.1 hb
    obtain ⟨o, e', d⟩ := ho p.1 hb
    refine kZ ?_
    rw [e] at e'; cases e'
    exact ⟨e, f0, f1, f2, d⟩
theorem Inv.unpinned {pins pl : List (Addr × Obj)} {σ : St} {H : Hp} {s : Shared} (I : Inv X (pins ++ pl) σ H s) : Inv X pins σ H s := I.pins_of fun p hp => I.pin p (List.mem_append_right _ (List.mem_append_left _ hp))
theorem ps_for {iter : Expr} {body : List Stmt} {wi : TI} {g : TG} {tb : TS} {pos : Pos} (hp : PassesOwn (model X.prog X.w) X.A X.env X.xe) (hc : X.calm = true) (hi : PI X tg iter wi) (hg : PG X tg g) (hb : PSs X body tb)
    (hs : ∀ x, foldedSetIterable iter X.env x = pure x := by intro _; rfl) : PS X (.For tg iter body [] pos) (tFor wi g tb) := by
  intro pins s σ H D I h
  refine wpAny_For (thn (hi pins s σ H _ I h) fun v s1 h1 => thn h1 fun itv s2 h2 => ?_) hs
  refine hidG fun ZZ kZ => ?_
  obtain ⟨it, fp, tn, J, H2, e, I2, T, st2, f2, W, ⟨m0, w0⟩, turn⟩ := h2
  refine kZ ?_
  subst e
  -- what stays true of the iterator's objects through the loop
  have stat : ∀ {H' : Hp}, (∀ b ∈ fp, H' b = none) → ∀ b ∈ fp, FpOk X pins H' b := fun hn b hb => ⟨hn b hb, (f2 b hb).2⟩
  refine codeAny_forLoop_any (fun n s' => ∃ i σ' H', Inv X pins σ' H' s' ∧ tn i s'.heap ∧ (∀ b ∈ fp, H' b = none) ∧ W i n σ' H') ?_ m0 ⟨0, σ, H2, I2, st2, fun b hb => (f2 b hb).1, w0⟩
  rintro n s3 ⟨i, σ3, H3, I3, st3, fr3, w3⟩
  rcases turn i n σ3 H3 w3 with ⟨stop, qn⟩ | ⟨go, N, hN, step⟩
  · refine wpAny_passesOwn hp (thn (T.done X rfl rfl rfl hc i pins s3 σ3 H3 X.xe I3 (stat fr3) st3 stop) fun r s4 ⟨hr, I4⟩ => ?_)
    subst hr
    exact wpAny_execs_nil ⟨σ3, H3, I4, qn⟩
  · refine wpAny_passesOwn hp (thn (T.item X rfl rfl rfl hc i pins s3 σ3 H3 X.xe I3 (stat fr3) st3 go) fun r s4 ⟨u, hr, h4⟩ => ?_)
    subst hr
    refine wpAny_passesOwn hp (thn h4 fun _ s5 ⟨x, H5, I5, r5, y5, st5, fr5⟩ => ?_)
    have I5' := I5.pinned (stat fr5) (T.obj _ _ st5)
    refine wpAny_passesOwn hp (thn (hg _ s5 σ3 H5 x u _ I5' r5 (step x H5 y5)) fun _ s6 ⟨σ6, H6, I6, q6⟩ => ?_)
    refine wpAny_passesOwn hp (thn (hb _ s6 σ6 H6 _ I6 q6) fun f s7 q7 => ?_)
    have again : ∀ {σ7 : St} {H7 : Hp}, Inv X (pins ++ pinsAt fp s5.heap) σ7 H7 s7 → N σ7 H7 → ∃ m, m < n ∧ ∃ i σ' H', Inv X pins σ' H' s7 ∧ tn i s7.heap ∧ (∀ b ∈ fp, H' b = none) ∧ W i m σ' H' := fun {σ7 H7} I7 n7 => by
      obtain ⟨m', hm, w7⟩ := hN σ7 H7 n7
      refine ⟨m', hm, i + 1, σ7, H7, I7.unpinned, T.keep _ _ _ st5 fun b hb o e => (I7.pin (b, o) (List.mem_append_right _ (List.mem_append_right _ (mem_pinsAt hb e)))).1, fun b hb => ?_, w7⟩
      obtain ⟨o, e, d⟩ := T.obj _ _ st5 b hb
      exact (I7.pin (b, o) (List.mem_append_right _ (List.mem_append_right _ (mem_pinsAt hb e)))).2.1
    cases f with
    | next => obtain ⟨σ7, H7, I7, n7⟩ := q7; exact again I7 n7
    | cont => obtain ⟨σ7, H7, I7, n7⟩ := q7; exact again I7 n7
    | brk => obtain ⟨σ7, H7, I7, q7⟩ := q7; exact ⟨σ7, H7, I7.unpinned, q7⟩
    | ret v => obtain ⟨x7, σ7, H7, I7, r7, q7⟩ := q7; exact ⟨x7, σ7, H7, I7.unpinned, r7, q7⟩
end
theorem for_list {K : PySem.W.Frag} {a : Addr} {xs : List V} {g : TG} {tb : TS} {D : Ends} {σ : St} {H : Hp} (Pv : Nat → St → Hp → Prop) (h0 : Pv 0 σ H) (hl : ∀ i σ H, i ≤ xs.length → Pv i σ H → SqL K H a xs)
    (hs : ∀ i x σ H, xs[i]? = some x → Pv i σ H → g x σ H fun σ2 H2 => tb { D with nx := Pv (i + 1), ct := Pv (i + 1), bk := D.nx } σ2 H2) (hd : ∀ σ H, Pv xs.length σ H → D.nx σ H) :
    ∃ W : Nat → Nat → St → Hp → Prop, (∃ m, W 0 m σ H) ∧ ∀ i m σ H, W i m σ H →
      ((Itl K a).stop i H ∧ D.nx σ H) ∨ ((Itl K a).go i H ∧ ∃ N : St → Hp → Prop, (∀ σ' H', N σ' H' → ∃ m', m' < m ∧ W (i + 1) m' σ' H') ∧ ∀ x H', (Itl K a).yld i H x H' → g x σ H' fun σ2 H2 => tb { D with nx := N, ct := N, bk := D.nx } σ2 H2) := by
  refine ⟨fun i m σ H => m = xs.length - i ∧ i ≤ xs.length ∧ Pv i σ H, ⟨xs.length, by simp, Nat.zero_le _, h0⟩, ?_⟩
  rintro i m σ H ⟨rfl, hi, p⟩
  have q := hl i σ H hi p
  by_cases hlt : i < xs.length
  · refine .inr ⟨⟨xs, xs[i], q, by simp [hlt]⟩, Pv (i + 1), fun σ' H' p' => ⟨xs.length - (i + 1), by (first | lia | omega), rfl, hlt, p'⟩, fun x H' y => ?_⟩
    obtain ⟨e, y⟩ := y
    subst e
    exact hs i x σ _ (y xs q) p
  · have e : i = xs.length := by (first | lia | omega)
    subst e
    exact .inl ⟨⟨xs, q, Nat.le_refl _⟩, hd σ H p⟩
theorem for_tup {K : PySem.W.Frag} {a : Addr} {xs : List V} {g : TG} {tb : TS} {D : Ends} {σ : St} {H : Hp} (Pv : Nat → St → Hp → Prop) (h0 : Pv 0 σ H) (hl : ∀ i σ H, i ≤ xs.length → Pv i σ H → SqT K H a xs)
    (hs : ∀ i x σ H, xs[i]? = some x → Pv i σ H → g x σ H fun σ2 H2 => tb { D with nx := Pv (i + 1), ct := Pv (i + 1), bk := D.nx } σ2 H2) (hd : ∀ σ H, Pv xs.length σ H → D.nx σ H) :
    ∃ W : Nat → Nat → St → Hp → Prop, (∃ m, W 0 m σ H) ∧ ∀ i m σ H, W i m σ H →
      ((Itt K a).stop i H ∧ D.nx σ H) ∨ ((Itt K a).go i H ∧ ∃ N : St → Hp → Prop, (∀ σ' H', N σ' H' → ∃ m', m' < m ∧ W (i + 1) m' σ' H') ∧ ∀ x H', (Itt K a).yld i H x H' → g x σ H' fun σ2 H2 => tb { D with nx := N, ct := N, bk := D.nx } σ2 H2) := by
  refine ⟨fun i m σ H => m = xs.length - i ∧ i ≤ xs.length ∧ Pv i σ H, ⟨xs.length, by simp, Nat.zero_le _, h0⟩, ?_⟩
  rintro i m σ H ⟨rfl, hi, p⟩
  have q := hl i σ H hi p
  by_cases hlt : i < xs.length
  · refine .inr ⟨⟨xs, xs[i], q, by simp [hlt]⟩, Pv (i + 1), fun σ' H' p' => ⟨xs.length - (i + 1), by (first | lia | omega), rfl, hlt, p'⟩, fun x H' y => ?_⟩
    obtain ⟨e, y⟩ := y
    subst e
    exact hs i x σ _ (y xs q) p
  · have e : i = xs.length := by (first | lia | omega)
    subst e
    exact .inl ⟨⟨xs, q, Nat.le_refl _⟩, hd σ H p⟩
theorem for_range {lo : Int} {n : Nat} {g : TG} {tb : TS} {D : Ends} {σ : St} {H : Hp} (Pv : Nat → St → Hp → Prop) (h0 : Pv 0 σ H)
    (hs : ∀ i σ H, i < n → Pv i σ H → g (.int (lo + i)) σ H fun σ2 H2 => tb { D with nx := Pv (i + 1), ct := Pv (i + 1), bk := D.nx } σ2 H2) (hd : ∀ σ H, Pv n σ H → D.nx σ H) :
    ∃ W : Nat → Nat → St → Hp → Prop, (∃ m, W 0 m σ H) ∧ ∀ i m σ H, W i m σ H →
      ((Itr lo n).stop i H ∧ D.nx σ H) ∨ ((Itr lo n).go i H ∧ ∃ N : St → Hp → Prop, (∀ σ' H', N σ' H' → ∃ m', m' < m ∧ W (i + 1) m' σ' H') ∧ ∀ x H', (Itr lo n).yld i H x H' → g x σ H' fun σ2 H2 => tb { D with nx := N, ct := N, bk := D.nx } σ2 H2) := by
  refine ⟨fun i m σ H => m = n - i ∧ i ≤ n ∧ Pv i σ H, ⟨n, by simp, Nat.zero_le _, h0⟩, ?_⟩
  rintro i m σ H ⟨rfl, hi, p⟩
  by_cases hlt : i < n
  · refine .inr ⟨hlt, Pv (i + 1), fun σ' H' p' => ⟨n - (i + 1), by (first | lia | omega), rfl, hlt, p'⟩, fun x H' y => ?_⟩
    obtain ⟨e, y⟩ := y
    subst e y
    exact hs i σ _ hlt p
  · have e : i = n := by (first | lia | omega)
    subst e
    exact .inl ⟨Nat.le_refl _, hd σ H p⟩
end L2
namespace L2
open PySem PySem.Spec PyProof.Rows
noncomputable abbrev R2 := V → V → Hp → VK → Prop
noncomputable def OpR (X : Cx) (f : Value → Value → Sem Value) (r : R2) : Prop :=
  ∀ (pins : List (Addr × Obj)) (s : Shared) (σ : St) (H : Hp) (x y : V) (v u : Value) (Q : VK), Inv X pins σ H s → RelV x v → RelV y u → r x y H Q →
    wpAny (model X.prog X.w) X.A (f v u) (EP X pins σ Q) X.xe s
noncomputable def UnR (X : Cx) (f : Value → Sem Value) (r : V → Hp → VK → Prop) : Prop :=
  ∀ (pins : List (Addr × Obj)) (s : Shared) (σ : St) (H : Hp) (x : V) (v : Value) (Q : VK), Inv X pins σ H s → RelV x v → r x H Q →
    wpAny (model X.prog X.w) X.A (f v) (EP X pins σ Q) X.xe s
noncomputable def CallR (X : Cx) (f : Value) (r : List V → Hp → VK → Prop) : Prop :=
  ∀ (pins : List (Addr × Obj)) (s : Shared) (σ : St) (H : Hp) (xs : List V) (us : List Value) (Q : VK), Inv X pins σ H s → Vals xs us → r xs H Q →
    wpAny (model X.prog X.w) X.A (call f us) (EP X pins σ Q) X.xe s
noncomputable def TruR (X : Cx) (r : V → Hp → (Bool → Hp → Prop) → Prop) : Prop :=
  ∀ (pins : List (Addr × Obj)) (s : Shared) (σ : St) (H : Hp) (x : V) (v : Value) (Q : Bool → Hp → Prop), Inv X pins σ H s → RelV x v → r x H Q →
    wpAny (model X.prog X.w) X.A (truthy v) (TP X pins σ Q) X.xe s
noncomputable def tOp (r : R2) (ta tb : TE) : TE := fun σ H Q => ta σ H fun x H1 => tb σ H1 fun y H2 => r x y H2 Q
noncomputable def tUn (r : V → Hp → VK → Prop) (ta : TE) : TE := fun σ H Q => ta σ H fun x H1 => r x H1 Q
inductive IrI (C : Int → Int → Prop) (g : Int → Int → V) (x : V) (y : V) (H : Hp) (Q : VK) : Prop
  | mk (i : _) (j : _) (zz0 : x = .int i) (zz1 : y = .int j) (zz2 : C i j) (zz3 : Q (g i j) H) : IrI C g x y H Q
noncomputable def rI (C : Int → Int → Prop) (g : Int → Int → V) : R2 := IrI C g
inductive IrI0 (g : Int → Int → V) (x : V) (y : V) (H : Hp) (Q : VK) : Prop
  | mk (i : _) (j : _) (zz0 : x = .int i) (zz1 : y = .int j) (zz2 : Q (g i j) H) : IrI0 g x y H Q
noncomputable def rI0 (g : Int → Int → V) : R2 := IrI0 g
inductive IrU (g : Int → V) (x : V) (H : Hp) (Q : VK) : Prop
  | mk (i : _) (zz0 : x = .int i) (zz1 : Q (g i) H) : IrU g x H Q
noncomputable def rU (g : Int → V) : V → Hp → VK → Prop := IrU g
section
variable {X : Cx} {a b c : Expr} {ta tb tc : TE} {pos : Pos}
theorem binT (ha : PE X a ta) (hb : PE X b tb) {pins : List (Addr × Obj)} {s : Shared} {σ : St} {H : Hp} {R : V → V → Hp → Prop} (I : Inv X pins σ H s)
    (h : ta σ H fun x H1 => tb σ H1 fun y H2 => R x y H2) {Q : Value → Shared → Prop} {f : Value → Value → Sem Value}
    (hf : ∀ v u s2 x y H2, Inv X pins σ H2 s2 → RelV x v → RelV y u → R x y H2 → wpAny (model X.prog X.w) X.A (f v u) Q X.xe s2) :
    wpAny (model X.prog X.w) X.A (eval a X.env) (fun v s₁ => wpAny (model X.prog X.w) X.A (eval b X.env) (fun u s₂ => wpAny (model X.prog X.w) X.A (f v u) Q X.xe s₂) X.xe s₁) X.xe s := by
  refine thn (ha pins s σ H _ I h) fun v s1 zz => el23 zz fun x H1 I1 r1 q1 => ?_
  refine thn (hb pins s1 σ H1 _ I1 q1) fun u s2 zz => el23 zz fun y H2 I2 r2 q2 => ?_
  exact hf v u s2 x y H2 I2 r1 r2 q2
theorem pe_op {op : Operator} {r : R2} (ho : OpR X (binaryOp op) r) (ha : PE X a ta) (hb : PE X b tb) : PE X (.BinOp a op b pos) (tOp r ta tb) := by
  intro pins s σ H Q I h
  exact wpAny_BinOp (binT ha hb I h fun v u s2 x y H2 I2 rx ry q => ho pins s2 σ H2 x y v u Q I2 rx ry q)
theorem pe_un {op : UnaryOp} {r : V → Hp → VK → Prop} (ho : UnR X (unaryOp op) r) (ha : PE X a ta) : PE X (.UnaryOp op a pos) (tUn r ta) := by
  intro pins s σ H Q I h
  exact UnaryOp_ (thn (ha pins s σ H _ I h) fun v s1 zz => el23 zz fun x H1 I1 r1 q1 => ho pins s1 σ H1 x v Q I1 r1 q1)
theorem opI {f : Value → Value → Sem Value} {C : Int → Int → Prop} {g : Int → Int → Int}
    (rule : ∀ (i j : Int) (t u : Tok) (s : Shared) (Q : Value → Shared → Prop) (E : Value → Shared → Prop), C i j → Q (.int (g i j) s.toks) { s with toks := s.toks + 1 } → wpAny (model X.prog X.w) X.A (f (.int i t) (.int j u)) Q E s) :
    OpR X f (rI C fun i j => .int (g i j)) := by
  intro pins s σ H x y v u Q I rx ry h
  obtain ⟨i, j, rfl, rfl, hc, q⟩ := h
  obtain ⟨t, rfl⟩ := rx
  obtain ⟨t', rfl⟩ := ry
  exact rule i j t t' s _ _ hc ⟨.int (g i j), H, I.tok _, ⟨_, rfl⟩, q⟩
theorem opI0 {f : Value → Value → Sem Value} {g : Int → Int → Int}
    (rule : ∀ (i j : Int) (t u : Tok) (s : Shared) (Q : Value → Shared → Prop) (E : Value → Shared → Prop), Q (.int (g i j) s.toks) { s with toks := s.toks + 1 } → wpAny (model X.prog X.w) X.A (f (.int i t) (.int j u)) Q E s) :
    OpR X f (rI0 fun i j => .int (g i j)) := by
  intro pins s σ H x y v u Q I rx ry h
  obtain ⟨i, j, rfl, rfl, q⟩ := h
  obtain ⟨t, rfl⟩ := rx
  obtain ⟨t', rfl⟩ := ry
  exact rule i j t t' s _ _ ⟨.int (g i j), H, I.tok _, ⟨_, rfl⟩, q⟩
theorem opB0 {f : Value → Value → Sem Value} {g : Int → Int → Bool}
    (rule : ∀ (i j : Int) (t u : Tok) (s : Shared) (Q : Value → Shared → Prop) (E : Value → Shared → Prop), Q (.bool (g i j)) s → wpAny (model X.prog X.w) X.A (f (.int i t) (.int j u)) Q E s) :
    OpR X f (rI0 fun i j => .bl (g i j)) := by
  intro pins s σ H x y v u Q I rx ry h
  obtain ⟨i, j, rfl, rfl, q⟩ := h
  obtain ⟨t, rfl⟩ := rx
  obtain ⟨t', rfl⟩ := ry
  exact rule i j t t' s _ _ ⟨.bl (g i j), H, I, rfl, q⟩
noncomputable def CDiv (i j : Int) : Prop := 0 < j ∧ j < 1073741824
noncomputable def CPow (i j : Int) : Prop := 0 ≤ j ∧ j ≤ 1000000 ∧ i.natAbs < 2 ^ 64
noncomputable def CMul (i j : Int) : Prop := (-(2 ^ 64) < i ∧ i < 2 ^ 64) ∨ (-(2 ^ 64) < j ∧ j < 2 ^ 64)
theorem CMul.ok {i j : Int} (h : CMul i j) : IntMulOk i j := by
  rcases h with ⟨h1, h2⟩ | ⟨h1, h2⟩
  · exact .of_left (intBits_le_64 h1 h2)
  · exact .of_right (intBits_le_64 h1 h2)
theorem op_add : OpR X (binaryOp .Add) (rI0 fun i j => .int (i + j)) := opI0 fun _ _ _ _ _ _ _ q => add_int q
theorem op_sub : OpR X (binaryOp .Sub) (rI0 fun i j => .int (i - j)) := opI0 fun _ _ _ _ _ _ _ q => sub_int q
theorem op_mul : OpR X (binaryOp .Mult) (rI CMul fun i j => .int (i * j)) := opI fun _ _ _ _ _ _ _ hc q => mul_int q hc.ok
theorem op_fdiv : OpR X (binaryOp .FloorDiv) (rI CDiv fun i j => .int (i / j)) := opI fun i j _ _ _ _ _ hc q => by
  have h1 : (0 : Int) < j := hc.1
  have h2 : j < 1073741824 := hc.2
  exact floordiv_int (by (first | lia | omega)) (by rw [Int.fdiv_eq_ediv_of_nonneg i (by (first | lia | omega))]; exact q) (.inl (PyProof.noPylong_small (by (first | lia | omega))))
theorem op_mod : OpR X (binaryOp .Mod) (rI (fun _ j => 0 < j) fun i j => .int (i % j)) := opI fun i j _ _ _ _ _ hc q => by
  have h1 : (0 : Int) < j := hc
  exact mod_int' (by (first | lia | omega)) (by rw [Int.fmod_eq_emod_of_nonneg i (by (first | lia | omega))]; exact q)
theorem op_pow : OpR X (binaryOp .Pow) (rI CPow fun i j => .int (i ^ j.toNat)) := opI fun _ _ _ _ _ _ _ hc q => pow_int_small hc.1 hc.2.1 hc.2.2 q
theorem unI {f : Value → Sem Value} {g : Int → Int}
    (rule : ∀ (i : Int) (t : Tok) (s : Shared) (Q : Value → Shared → Prop) (E : Value → Shared → Prop), Q (.int (g i) s.toks) { s with toks := s.toks + 1 } → wpAny (model X.prog X.w) X.A (f (.int i t)) Q E s) :
    UnR X f (rU fun i => .int (g i)) := by
  intro pins s σ H x v Q I rx h
  obtain ⟨i, rfl, q⟩ := h
  obtain ⟨t, rfl⟩ := rx
  exact rule i t s _ _ ⟨.int (g i), H, I.tok _, ⟨_, rfl⟩, q⟩
theorem un_neg : UnR X (unaryOp .USub) (rU fun i => .int (-i)) := unI fun _ _ _ _ _ q => neg_int q
end
noncomputable def scal : V → V → Bool
  | .non, .non => true | .non, .int _ => true | .int _, .non => true | .non, .bl _ => true | .bl _, .non => true | .non, .str _ => true | .str _, .non => true
  | .int _, .int _ => true | .bl _, .bl _ => true | .str _, .str _ => true | .byt _, .byt _ => true
  | .int _, .str _ => true | .str _, .int _ => true | .bl _, .str _ => true | .str _, .bl _ => true
  | _, _ => false
inductive IrEq (x : V) (y : V) (H : Hp) (Q : VK) : Prop
  | mk  (zz0 : scal x y = true) (zz1 : Q (.bl (decide (x = y))) H) : IrEq  x y H Q
noncomputable def rEq : R2 := IrEq 
inductive IrNe (x : V) (y : V) (H : Hp) (Q : VK) : Prop
  | mk  (zz0 : scal x y = true) (zz1 : Q (.bl (!decide (x = y))) H) : IrNe  x y H Q
noncomputable def rNe : R2 := IrNe 
theorem dec_int {i j : Int} : decide (V.int i = V.int j) = (i == j) := by
  rw [Bool.eq_iff_iff]
  simp
theorem dec_bl {i j : Bool} : decide (V.bl i = V.bl j) = (i == j) := by
  rw [Bool.eq_iff_iff]
  simp
theorem dec_str {i j : Str} : decide (V.str i = V.str j) = (i == j) := by
  rw [Bool.eq_iff_iff]
  simp
theorem dec_byt {i j : Array UInt8} : decide (V.byt i = V.byt j) = (i.toList == j.toList) := by
  rw [Bool.eq_iff_iff]
  cases i
  cases j
  simp
section
variable {X : Cx} {a b c : Expr} {ta tb tc : TE} {pos : Pos}
theorem fin_bl {pins : List (Addr × Obj)} {σ : St} {H : Hp} {s : Shared} {Q : VK} {k k' : Bool} (I : Inv X pins σ H s) (q : Q (.bl k) H) (e : k = k') : EP X pins σ Q (.bool k') s := by
  subst e
  exact ⟨.bl k, H, I, rfl, q⟩
theorem op_eq : OpR X (compareOp .Eq) rEq := by
  intro pins s σ H x y v u Q I rx ry h
  obtain ⟨hs, q⟩ := h
  cases x with
  | non =>
    cases rx
    cases y with
    | non => cases ry; exact PySem.EqNone.eq_none_none (fin_bl I q (by simp))
    | bl j => cases ry; exact PySem.EqNone.eq_none_bool (fin_bl I q (by simp))
    | int j => obtain ⟨t', rfl⟩ := ry; exact PySem.EqNone.eq_none_int (fin_bl I q (by simp))
    | str j => obtain ⟨t', rfl⟩ := ry; exact PySem.EqNone.eq_none_str (fin_bl I q (by simp))
    | _ => exact absurd (show false = true from hs) Bool.false_ne_true
  | bl i =>
    cases rx
    cases y with
    | non => cases ry; exact PySem.EqNone.eq_bool_none (fin_bl I q (by simp))
    | bl j => cases ry; exact eq_bool (fin_bl I q dec_bl)
    | str j => obtain ⟨t', rfl⟩ := ry; exact PySem.EqMixed.eq_bool_str (fin_bl I q (by simp))
    | _ => exact absurd (show false = true from hs) Bool.false_ne_true
  | int i =>
    obtain ⟨t, rfl⟩ := rx
    cases y with
    | non => cases ry; exact PySem.EqNone.eq_int_none (fin_bl I q (by simp))
    | int j => obtain ⟨t', rfl⟩ := ry; exact eq_int (fin_bl I q dec_int)
    | str j => obtain ⟨t', rfl⟩ := ry; exact PySem.EqMixed.eq_int_str (fin_bl I q (by simp))
    | _ => exact absurd (show false = true from hs) Bool.false_ne_true
  | str i =>
    obtain ⟨t, rfl⟩ := rx
    cases y with
    | non => cases ry; exact PySem.EqNone.eq_str_none (fin_bl I q (by simp))
    | bl j => cases ry; exact PySem.EqMixed.eq_str_bool (fin_bl I q (by simp))
    | int j => obtain ⟨t', rfl⟩ := ry; exact PySem.EqMixed.eq_str_int (fin_bl I q (by simp))
    | str j => obtain ⟨t', rfl⟩ := ry; exact eq_str (fin_bl I q dec_str)
    | _ => exact absurd (show false = true from hs) Bool.false_ne_true
  | byt i =>
    obtain ⟨t, rfl⟩ := rx
    cases y with
    | byt j => obtain ⟨t', rfl⟩ := ry; exact PySem.W.eq_bytes (fin_bl I q dec_byt)
    | _ => exact absurd (show false = true from hs) Bool.false_ne_true
  | _ => cases y <;> exact absurd (show false = true from hs) Bool.false_ne_true
theorem op_ne : OpR X (compareOp .NotEq) rNe := by
  intro pins s σ H x y v u Q I rx ry h
  obtain ⟨hs, q⟩ := h
  cases x with
  | non =>
    cases rx
    cases y with
    | non => cases ry; exact PySem.EqNone.ne_none_none (fin_bl I q (by simp))
    | bl j => cases ry; exact PySem.EqNone.ne_none_bool (fin_bl I q (by simp))
    | int j => obtain ⟨t', rfl⟩ := ry; exact PySem.EqNone.ne_none_int (fin_bl I q (by simp))
    | str j => obtain ⟨t', rfl⟩ := ry; exact PySem.EqNone.ne_none_str (fin_bl I q (by simp))
    | _ => exact absurd (show false = true from hs) Bool.false_ne_true
  | bl i =>
    cases rx
    cases y with
    | non => cases ry; exact PySem.EqNone.ne_bool_none (fin_bl I q (by simp))
    | bl j => cases ry; exact ne_bool (fin_bl I q (congrArg not dec_bl))
    | str j => obtain ⟨t', rfl⟩ := ry; exact PySem.EqMixed.ne_bool_str (fin_bl I q (by simp))
    | _ => exact absurd (show false = true from hs) Bool.false_ne_true
  | int i =>
    obtain ⟨t, rfl⟩ := rx
    cases y with
    | non => cases ry; exact PySem.EqNone.ne_int_none (fin_bl I q (by simp))
    | int j => obtain ⟨t', rfl⟩ := ry; exact ne_int (fin_bl I q (congrArg not dec_int))
    | str j => obtain ⟨t', rfl⟩ := ry; exact PySem.EqMixed.ne_int_str (fin_bl I q (by simp))
    | _ => exact absurd (show false = true from hs) Bool.false_ne_true
  | str i =>
    obtain ⟨t, rfl⟩ := rx
    cases y with
    | non => cases ry; exact PySem.EqNone.ne_str_none (fin_bl I q (by simp))
    | bl j => cases ry; exact PySem.EqMixed.ne_str_bool (fin_bl I q (by simp))
    | int j => obtain ⟨t', rfl⟩ := ry; exact PySem.EqMixed.ne_str_int (fin_bl I q (by simp))
    | str j => obtain ⟨t', rfl⟩ := ry; exact ne_str (fin_bl I q (congrArg not dec_str))
    | _ => exact absurd (show false = true from hs) Bool.false_ne_true
  | byt i =>
    obtain ⟨t, rfl⟩ := rx
    cases y with
    | byt j => obtain ⟨t', rfl⟩ := ry; exact PySem.W.ne_bytes (fin_bl I q (congrArg not dec_byt))
    | _ => exact absurd (show false = true from hs) Bool.false_ne_true
  | _ => cases y <;> exact absurd (show false = true from hs) Bool.false_ne_true
theorem op_lt : OpR X (compareOp .Lt) (rI0 fun i j => .bl (decide (i < j))) := opB0 fun _ _ _ _ _ _ _ q => lt_int q
theorem op_le : OpR X (compareOp .LtE) (rI0 fun i j => .bl (decide (i ≤ j))) := opB0 fun _ _ _ _ _ _ _ q => le_int q
theorem op_gt : OpR X (compareOp .Gt) (rI0 fun i j => .bl (decide (j < i))) := opB0 fun _ _ _ _ _ _ _ q => gt_int q
theorem nomark (b : Expr) {op : CmpOp} (h : op ≠ .In := by decide) (h2 : op ≠ .NotIn := by decide) : behindInMarks op b = false := by
  have e1 : (op == CmpOp.In) = false := by cases op <;> first | rfl | exact absurd rfl h
  have e2 : (op == CmpOp.NotIn) = false := by cases op <;> first | rfl | exact absurd rfl h2
  cases b <;> simp [behindInMarks, e1, e2]
theorem pe_cmpR {op : CmpOp} {r : R2} (ho : OpR X (compareOp op) r) (ha : PE X a ta) (hb : PE X b tb) (hm : behindInMarks op b = false) : PE X (.Compare a [op] [b] pos) (tOp r ta tb) := by
  intro pins s σ H Q I h
  exact wpAny_Compare1 (binT ha hb I h fun v u s2 x y H2 I2 rx ry q => ho pins s2 σ H2 x y v u Q I2 rx ry q) hm
inductive ITest (x : V) (Q : Bool → Hp → Prop) (H' : Hp) : Prop
  | mk (k : Bool) (zz0 : x = .bl k) (zz1 : Q k H') : ITest x Q H'
noncomputable def tTest (t : TE) : TT := fun σ H Q => t σ H fun x H' => ITest x Q H'
theorem pt_cmpR {op : CmpOp} {r : R2} (ho : OpR X (compareOp op) r) (ha : PE X a ta) (hb : PE X b tb) (hm : behindInMarks op b = false) : PT X (.Compare a [op] [b] pos) (tTest (tOp r ta tb)) := by
  intro pins s σ H Q I h
  refine wpAny_isTrue_Compare1 (thn (ha pins s σ H _ I h) fun v s1 zz => el23 zz fun x H1 I1 r1 q1 => thn (hb pins s1 σ H1 _ I1 q1) fun u s2 zz => el23 zz fun y H2 I2 r2 q2 =>
    thn (ho pins s2 σ H2 x y v u _ I2 r1 r2 q2) fun c s3 ⟨z, H3, I3, r3, k, e, q3⟩ => ?_) hm
  subst e
  cases r3
  exact wpAny_truthy_bool ⟨H3, I3, q3⟩
noncomputable def tChain (r r' : R2) (ta tb tc : TE) : TE := fun σ H Q => ta σ H fun x H1 => tb σ H1 fun y H2 => r x y H2 fun z H3 => ∃ k, z = .bl k ∧
  (if k = true then tc σ H3 fun w' H4 => r' y w' H4 Q else Q (.bl false) H3)
theorem pe_chain {op op' : CmpOp} {r r' : R2} (ho : OpR X (compareOp op) r) (ho' : OpR X (compareOp op') r') (ha : PE X a ta) (hb : PE X b tb) (hc : PE X c tc)
    (hm : lastMarks [op, op'] [b, c] = false := by with_unfolding_all rfl) : PE X (.Compare a [op, op'] [b, c] pos) (tChain r r' ta tb tc) := by
  intro pins s σ H Q I h
  refine Compare_chain (thn (ha pins s σ H _ I h) fun v s1 zz => el23 zz fun x H1 I1 r1 q1 => chain_link (thn (hb pins s1 σ H1 _ I1 q1) fun u s2 zz => el23 zz fun y H2 I2 r2 q2 =>
    thn (ho pins s2 σ H2 x y v u _ I2 r1 r2 q2) fun d s3 ⟨z, H3, I3, r3, k, e, q3⟩ => ?_)) hm
  subst e
  cases r3
  refine wpAny_truthy_bool ?_
  cases k with
  | false => exact ite_ff ⟨.bl false, H3, I3, rfl, q3⟩
  | true => exact ite_tt (chain_last (thn (hc pins s3 σ H3 _ I3 q3) fun w' s4 zz => el23 zz fun z' H4 I4 r4 q4 => ho' pins s4 σ H4 y z' u w' Q I4 r2 r4 q4))
noncomputable def TruV (K : PySem.W.Frag) (x : V) (H : Hp) (k : Bool) : Prop :=
  match x with
  | .non => k = false
  | .bl b => k = b
  | .int i => k = (i != 0)
  | .str y => y.length ≤ sizeLine ∧ k = ((y.length : Int) != 0)
  | .byt y => y.size ≤ sizeLine ∧ k = ((y.size : Int) != 0)
  | .ref p => (∃ xs, SqL K H p xs ∧ k = !xs.isEmpty) ∨ (∃ xs, SqT K H p xs ∧ k = !xs.isEmpty) ∨ ∃ kvs, H p = some (.dK kvs) ∧ k = !kvs.isEmpty
  | _ => False
theorem isEmpty_kv {κ : Type} {kvs : List (κ × V)} {vs : List (κ × Value)} (r : KV kvs vs) : (!vs.isEmpty) = !kvs.isEmpty := by
  cases r <;> rfl
theorem isEmpty_of {xs : List V} {its : List Value} (r : Vals xs its) : (!its.toArray.isEmpty) = !xs.isEmpty := by
  cases r <;> simp
theorem line63 : (sizeLine : Nat) < 2 ^ 63 := by rw [sizeLine_eq]; decide
theorem tru_ok : TruR X (fun x H Q => ∃ k, TruV X.K x H k ∧ Q k H) := by
  intro pins s σ H x v Q I rx h
  obtain ⟨k, e, q⟩ := h
  have hl := line63
  have hs : sizeLine = 16777216 := sizeLine_eq
  cases x with
  | non =>
    cases rx
    have e' : k = false := e
    subst e'
    exact truthy_none ⟨H, I, q⟩
  | bl b =>
    cases rx
    have e' : k = b := e
    subst e'
    exact wpAny_truthy_bool ⟨H, I, q⟩
  | int i =>
    obtain ⟨t, rfl⟩ := rx
    have e' : k = (i != 0) := e
    subst e'
    exact PySem.P.truthy_int ⟨H, I, q⟩
  | str y =>
    obtain ⟨t, rfl⟩ := rx
    obtain ⟨hy, e'⟩ : y.length ≤ sizeLine ∧ k = ((y.length : Int) != 0) := e
    subst e'
    exact PySem.P.truthy_str (by (first | lia | omega)) ⟨H, I.tok _, q⟩
  | byt y =>
    obtain ⟨t, rfl⟩ := rx
    obtain ⟨hy, e'⟩ : y.size ≤ sizeLine ∧ k = ((y.size : Int) != 0) := e
    subst e'
    exact PySem.W.truthy_bytes (by (first | lia | omega)) ⟨H, I.tok _, q⟩
  | ref p =>
    cases rx
    have e' : (∃ xs, SqL X.K H p xs ∧ k = !xs.isEmpty) ∨ (∃ xs, SqT X.K H p xs ∧ k = !xs.isEmpty) ∨ ∃ kvs, H p = some (.dK kvs) ∧ k = !kvs.isEmpty := e
    rcases e' with ⟨xs, hx, e'⟩ | ⟨xs, hx, e'⟩ | ⟨kvs, hx, e'⟩
    · subst e'
      refine hidG fun ZZ kZ => ?_
      obtain ⟨its, r, pl, hz⟩ := I.list hx
      refine kZ ?_
      have hlen := r.length
      exact wpAny_truthy_list pl.isList (by simp only [List.size_toArray]; (first | lia | omega)) ⟨H, I.tok _, by rw [isEmpty_of r]; exact q⟩
    · subst e'
      refine hidG fun ZZ kZ => ?_
      obtain ⟨its, r, pl, hz⟩ := I.tuple hx
      refine kZ ?_
      have hlen := r.length
      exact truthy_tuple pl (by simp only [List.size_toArray]; (first | lia | omega)) ⟨H, I.tok _, by rw [isEmpty_of r]; exact q⟩
    · subst e'
      refine hidG fun ZZ kZ => ?_
      obtain ⟨hz, hS, vs, r, m⟩ : kvs.length ≤ sizeLine ∧ (p == sysModules) = false ∧ ∃ vs, KV kvs vs ∧ s.heap.DictOf (mixKind X.prog X.w) p vs := I.hok p _ hx
      refine kZ ?_
      have hlen : kvs.length = vs.length := Paired.length r
      exact wpAny_truthy_dict hS m (by (first | lia | omega)) ⟨H, I.tok _, by rw [isEmpty_kv r]; exact q⟩
  | _ => exact (show False from e).elim
theorem pt_truth (ha : PE X a ta) (he : ∀ whole, isTrue a X.env whole = (do let v ← whole; standAt a.pos; holding [v] (truthy v))) :
    PT X a (fun σ H Q => ta σ H fun x H' => ∃ k, TruV X.K x H' k ∧ Q k H') := by
  intro pins s σ H Q I h
  exact isTrue_plain (thn (ha pins s σ H _ I h) fun v s1 zz => el23 zz fun x H1 I1 r1 q1 => tru_ok pins s1 σ H1 x v Q I1 r1 q1) (he _)
theorem op_add_str : OpR X (binaryOp .Add) (fun x y H Q => ∃ i j, x = .str i ∧ y = .str j ∧ i.length + j.length ≤ sizeLine ∧ Q (.str (i ++ j)) H) := by
  intro pins s σ H x y v u Q I rx ry h
  obtain ⟨i, j, rfl, rfl, hz, q⟩ := h
  obtain ⟨t, rfl⟩ := rx
  obtain ⟨t', rfl⟩ := ry
  exact add_str (fun t' tk => ⟨.str (i ++ j), H, I.tok _, ⟨_, rfl⟩, q⟩) hz
theorem vals1 {x : V} {us : List Value} (r : Vals [x] us) : ∃ u, us = [u] ∧ RelV x u := by
  cases r with
  | cons r1 r2 => cases r2; exact ⟨_, rfl, r1⟩
theorem vals2 {x y : V} {us : List Value} (r : Vals [x, y] us) : ∃ u w', us = [u, w'] ∧ RelV x u ∧ RelV y w' := by
  cases r with
  | cons r1 r2 =>
    cases r2 with
    | cons r3 r4 => cases r4; exact ⟨_, _, rfl, r1, r3⟩
end
end L2
namespace L2
open PySem PySem.Spec PyProof.Rows
structure ObjM (h : Heap) (x dx C : Addr) (mA : Str → Option Value) : Prop where
  obj : h.get? x = some (PySem.W.instObj C dx)
  ns : h.Ns1 dx mA
  ne : dx ≠ x
theorem lookIn_ns {h : Heap} {dx : Addr} {mA : Str → Option Value} (n : h.Ns1 dx mA) : ∃ od, h.get? dx = some od ∧ ∀ name, PySem.W.lookIn name od = some (mA name) := by
  refine hidG fun ZZ kZ => ?_
  obtain ⟨o, es, ep, ho, hd, hk, _, hm⟩ := n
  refine kZ ?_
  refine ⟨o, ho, fun name => ?_⟩
  have e := hm name
  unfold nsFind findBy at e
  rw [← Array.find?_toList] at e
  unfold PySem.W.lookIn
  rw [hd]
  dsimp only
  split
  · rename_i y q
    rw [q] at e
    exact congrArg some e
  · rename_i q
    rw [q] at e
    have a : es.toList.any (·.refKey) = false := by
      rw [List.any_eq_false]
      intro y hy
      obtain ⟨z, t, hkey⟩ := hk y (Array.mem_toList_iff.mp hy)
      simp [DictEntry.refKey, hkey]
    have a' : ¬ es.toList.any (·.refKey) = true := by rw [a]; exact Bool.false_ne_true
    rw [if_neg a']
    exact congrArg some e
theorem ObjM.look {h : Heap} {x dx C : Addr} {mA : Str → Option Value} (I : ObjM h x dx C mA) : ∃ od, PySem.W.InstAt h x (PySem.W.instObj C dx) C (some od) ∧ ∀ name, PySem.W.lookIn name od = some (mA name) :=
  let ⟨od, ho, hl⟩ := lookIn_ns I.ns
  ⟨od, ⟨I.obj, rfl, rfl, ho⟩, hl⟩
section
variable {prog : Program} {w : World} {A : Around} {E : Value → Shared → Prop} {s : Shared} {K : PySem.W.Frag} {x dx C f : Addr} {mA : Str → Option Value} {name : Str} {v : Value}
end
section
variable {P : Program} {w : World} {H H' : Hp} {h h' : Heap} {a C dx : Addr} {fs fs' : List (Str × V)}
theorem ins_get (hok : HOk P w H h) (e : H a = some (.ins C dx fs)) : ∃ mA, ObjM h a dx C mA ∧ (∀ f, RelO (fs.lookup f) (mA f)) ∧ PySem.Within mA (fs.map (·.1)) ∧ fs.length ≤ 1000 ∧ H dx = some (.own a) := by
  refine hidG fun ZZ kZ => ?_
  obtain ⟨d, z, ne, ob, mA, n, r, q⟩ := (show ObjOk P w H h a (.ins C dx fs) from hok a _ e)
  refine kZ ?_
  exact ⟨mA, ⟨ob, n, ne⟩, r, q, z, d⟩
end
structure Cls (K : PySem.W.Frag) (C : Addr) : Prop where
  pg : PySem.W.plainGet K C Str.empty = true
  hd : PySem.W.hasDictIn K C = true
  po : PySem.W.plainOver K C = true
  sa : PySem.W.findIn K (.ref C) "__setattr__" = some (some (.builtin "object.__setattr__"))
theorem Cls.get {K : PySem.W.Frag} {C : Addr} (c : Cls K C) (f : Str) : PySem.W.plainGet K C f = true := c.pg
section
variable {X : Cx} {pins : List (Addr × Obj)} {σ : St} {H : Hp} {s : Shared} {a C dx : Addr} {fs : List (Str × V)} {f : Str} {v : V} {A : Around} {E : Value → Shared → Prop}
end
section
variable {X : Cx} {o e value : Expr} {f : Str} {pos pos' tpos : Pos} {ta tv : TE}
end
section
variable {X : Cx} {pins : List (Addr × Obj)} {σ : St} {H : Hp} {s : Shared} {A : Around} {E : Value → Shared → Prop} {Q : Value → Shared → Prop} {c : Value} {b : Bool}
inductive TyOf (K : PySem.W.Frag) (H : Hp) : V → Value → Prop where
  | non : TyOf K H .non (.type "NoneType")
  | bl (x : Bool) : TyOf K H (.bl x) (.type "bool")
  | int (i : Int) : TyOf K H (.int i) (.type "int")
  | str (x : Str) : TyOf K H (.str x) (.type "str")
  | flt (x : UInt64) : TyOf K H (.flt x) (.type "float")
  | lst {a : Addr} {xs : List V} (e : H a = some (.lst xs)) : TyOf K H (.ref a) (.type "list")
  | frz {a : Addr} {o : Obj} {xs : List V} (e : H a = some (.frz o (.lst xs))) : TyOf K H (.ref a) (.type "list")
  | tup {a : Addr} {xs : List V} (e : H a = some (.tup xs)) : TyOf K H (.ref a) (.type "tuple")
  | dK {a : Addr} {kvs : List (Key × V)} (e : H a = some (.dK kvs)) : TyOf K H (.ref a) (.type "dict")
  | dT {a : Addr} {kvs : List (List Key × V)} (e : H a = some (.dT kvs)) : TyOf K H (.ref a) (.type "dict")
  | ins {a C dx : Addr} {fs : List (Str × V)} (e : H a = some (.ins C dx fs)) (cl : Cls K C) (ha : PySem.W.findIn K (.ref C) "__class__" = some (some (.builtin "object.__class__")))
      (hn : PySem.W.specialIn K (.builtin "object.__class__") "__get__" = some (some (.builtin "getset_descriptor.__get__"))) (htk : PySem.W.takesIn K (.builtin "object.__class__") = some true)
      (hm : PySem.W.mroIn K C (.type "object") = some true) : TyOf K H (.ref a) (.ref C)
theorem isinst_ok {x : V} {u t : Value} (I : Inv X pins σ H s) (rx : RelV x u) (ty : TyOf X.K H x t) (e : PySem.W.kitOne X.K t c = some b) (h : ∀ tk, Q (.bool b) { s with toks := tk }) :
    wpAny (model X.prog X.w) A (call (.builtin "isinstance") [u, c]) Q E s := by
  cases ty with
  | non => cases (show u = Value.none from rx); exact PySem.W.kia_one PySem.W.kitx_none I.kIn True.intro e (fun z => nomatch z) h
  | bl y => cases (show u = Value.bool y from rx); exact PySem.W.kia_one PySem.W.kitx_bool I.kIn True.intro e (fun z => nomatch z) h
  | int i => obtain ⟨t, q⟩ := (show ∃ t, u = Value.int i t from rx); cases q; exact PySem.W.kia_one PySem.W.kitx_int I.kIn True.intro e (fun z => nomatch z) h
  | str y => obtain ⟨t, q⟩ := (show ∃ t, u = Value.str y t from rx); cases q; exact PySem.W.kia_one PySem.W.kitx_str I.kIn True.intro e (fun z => nomatch z) h
  | flt y => obtain ⟨t, q⟩ := (show ∃ t, u = Value.float y t from rx); cases q; exact PySem.W.kia_one PySem.W.kitx_float I.kIn True.intro e (fun z => nomatch z) h
  | @lst a xs ea =>
    cases (show u = Value.ref a from rx)
    refine hidG fun ZZ kZ => ?_
    obtain ⟨_, _, n, _, h1⟩ := (show ObjOk X.prog X.w H s.heap a (.lst xs) from I.hok a _ ea)
    refine kZ ?_
    exact PySem.W.kia_one PySem.W.kitx_list I.kIn ⟨_, h1, rfl⟩ e (fun z => nomatch z) h
  | @frz a ob xs ea =>
    cases (show u = Value.ref a from rx)
    refine hidG fun ZZ kZ => ?_
    obtain ⟨_, _, _, n, _, h1⟩ := (show ObjOk X.prog X.w H s.heap a (.frz ob (.lst xs)) from I.hok a _ ea)
    refine kZ ?_
    exact PySem.W.kia_one PySem.W.kitx_list I.kIn ⟨_, h1, rfl⟩ e (fun z => nomatch z) h
  | @tup a xs ea =>
    cases (show u = Value.ref a from rx)
    refine hidG fun ZZ kZ => ?_
    obtain ⟨_, _, _, _, h1⟩ := (show ObjOk X.prog X.w H s.heap a (.tup xs) from I.hok a _ ea)
    refine kZ ?_
    exact PySem.W.kia_one PySem.W.kitx_tuple I.kIn ⟨_, h1, rfl⟩ e (fun z => nomatch z) h
  | @dK a kvs ea =>
    cases (show u = Value.ref a from rx)
    refine hidG fun ZZ kZ => ?_
    obtain ⟨_, _, vs, _, p⟩ := (show ObjOk X.prog X.w H s.heap a (.dK kvs) from I.hok a _ ea)
    obtain ⟨o, es, ep, h1, h2, _⟩ := p
    refine kZ ?_
    exact PySem.W.kia_one PySem.W.kitx_dict I.kIn ⟨o, h1, h2.1⟩ e (fun z => nomatch z) h
  | @dT a kvs ea =>
    cases (show u = Value.ref a from rx)
    refine hidG fun ZZ kZ => ?_
    obtain ⟨_, _, xs, _, o, es, ep, h1, h2, _⟩ := (show ObjOk X.prog X.w H s.heap a (.dT kvs) from I.hok a _ ea)
    refine kZ ?_
    exact PySem.W.kia_one PySem.W.kitx_dict I.kIn ⟨o, h1, h2.1⟩ e (fun z => nomatch z) h
  | @ins a C dx fs ea cl ha hn htk hm =>
    cases (show u = Value.ref a from rx)
    refine hidG fun ZZ kZ => ?_
    obtain ⟨mA, O, _⟩ := ins_get I.hok ea
    obtain ⟨od, J, _⟩ := O.look
    refine kZ ?_
    exact PySem.W.kia_one (PySem.W.kitx_own (cl.get _) cl.hd ha hn htk hm) I.kIn J e (fun z => nomatch z) h
end
end L2
namespace L2
open PySem PySem.Spec PyProof.Rows
structure Room (k : Nat) (A : Around) : Prop where
  hd : A.handled = none
  dp : A.depth + 3 * k + 5 < recursionLimit
  un : A.units + 16 * k + 200 < cLine
theorem Room.mono {j k : Nat} {A : Around} (r : Room k A) (h : j ≤ k) : Room j A := ⟨r.hd, by have := r.dp; (first | lia | omega), by have := r.un; (first | lia | omega)⟩
theorem Room.deeper {k : Nat} {A : Around} (r : Room (k + 1) A) (env : Env) : Room k (A.deeper env) :=
  ⟨r.hd, by have := r.dp; show A.depth + 1 + 3 * k + 5 < _; (first | lia | omega), by have := r.un; show A.units + 3 + 16 * k + 200 < _; (first | lia | omega)⟩
theorem Room.depth {k : Nat} {A : Around} (r : Room k A) : A.depth < recursionLimit := by have := r.dp; (first | lia | omega)
noncomputable def tNil : TA := fun _ H Q => Q [] H
noncomputable def tCons (ta : TE) (tr : TA) : TA := fun σ H Q => ta σ H fun x H1 => tr σ H1 fun xs H2 => Q (x :: xs) H2
section
variable {X : Cx} {e : Expr} {es : List Expr} {te : TE} {t : TA} {pos : Pos}
theorem pa_nil : PA X [] tNil := fun _ _ _ _ H Q I h => Calls.spliced_nil ⟨[], H, I, .nil, h⟩
theorem pa_cons (ha : PE X e te) (hr : PA X es t) (hs : starEach (e :: es) X.env = (false, eval e X.env) :: starEach es X.env := by rfl) : PA X (e :: es) (tCons te t) := by
  intro pos pins s σ H Q I h
  rw [hs]
  show wpAny _ _ (spliced ((false, eval e X.env) :: backTo pos (starEach es X.env))) _ _ s
  refine Calls.spliced_cons (thn (ha pins s σ H _ I h) fun u s1 zz => el23 zz fun x H1 I1 r1 q1 => ?_)
  exact thn (hr pos pins s1 σ H1 _ I1 q1) fun us s2 zz => el23 zz fun xs H2 I2 r2 q2 => ⟨x :: xs, H2, I2, .cons r1 r2, q2⟩
noncomputable def tTup (t : TA) : TE := fun σ H Q => t σ H fun xs H1 => xs.length ≤ sizeLine ∧ ∀ p, H1 p = none → Q (.ref p) (upd H1 p (.tup xs))
noncomputable def tLst (t : TA) : TE := fun σ H Q => t σ H fun xs H1 => xs.length ≤ sizeLine ∧ ∀ p, H1 p = none → Q (.ref p) (upd H1 p (.lst xs))
theorem pe_tup {x1} (h : PA X es t) : PE X (.Tuple es x1 pos) (tTup t) := by
  intro pins s σ H Q I hq
  refine wpAny_Tuple_spliced (thn (h pos pins s σ H _ I hq) fun us s1 zz => el24 zz fun xs H1 I1 r z q => ⟨by rw [← r.length]; exact z, ?_⟩)
  have hf : H1 s1.heap.objs.size = none := I1.hok.fresh (Nat.le_refl _)
  refine ⟨.ref s1.heap.objs.size, upd H1 s1.heap.objs.size (.tup xs), I1.laid (t' := s1.toks) (fun b u e => Heap.get?_push_of_some _ e) (Nat.le_refl _) ?_, rfl, q _ hf⟩
  exact ⟨z, us, 0, r, Heap.get?_push_size _ rfl⟩
theorem pe_lst (h : PA X es t) : PE X (.List es pos) (tLst t) := by
  intro pins s σ H Q I hq
  refine wpAny_List_spliced (thn (h pos pins s σ H _ I hq) fun us s1 zz => el24 zz fun xs H1 I1 r z q => ⟨by rw [← r.length]; exact z, ?_⟩)
  have hf : H1 s1.heap.objs.size = none := I1.hok.fresh (Nat.le_refl _)
  refine ⟨.ref s1.heap.objs.size, upd H1 s1.heap.objs.size (.lst xs), I1.laid (t' := s1.toks) (fun b u e => Heap.get?_push_of_some _ e) (Nat.le_refl _) ?_, rfl, q _ hf⟩
  exact ⟨z, us, 0, r, Heap.get?_push_size _ rfl⟩
end
noncomputable abbrev Sp := List V → Hp → VK → XK → Prop
noncomputable abbrev CXT := List Env → Hp → Shared → XK → Value → Shared → Prop
structure Env0 (P : Program) (w : World) (K : PySem.W.Frag) (mg : Str → Option Value) (base : Heap) (A : Around) (outer : List Env) (s : Shared) (H : Hp) : Prop where
  frames : A.frames = some outer
  mod : Mod K mg base
  bs : ∀ b o, base.get? b = some o → s.heap.get? b = some o ∧ H b = none
  bsz : base.objs.size ≤ s.heap.objs.size
  funs : s.heap.FunFrames base outer
  frf : ∀ b ∈ frs outer, H b = none
  hok : HOk P w H s.heap
  bare : AllBare s.gens
noncomputable def CE (outer : List Env) (P : Program) (w : World) (H : Hp) (s : Shared) (Q : VK) (u : Value) (s' : Shared) : Prop :=
  ∃ v H', s'.os = s.os ∧ AllBare s'.gens ∧ Un (frs outer) [] H H' s.heap s'.heap ∧ HOk P w H' s'.heap ∧ RelV v u ∧ Q v H'
noncomputable def CR (CX : CXT) (outer : List Env) (P : Program) (w : World) (H : Hp) (s : Shared) (Q : VK) (E : XK) (r : Result) (s' : Shared) : Prop :=
  match r with
  | .ok (.ret u) => CE outer P w H s Q u s'
  | .ok _ => False
  | .error e => CX outer H s E e s'
structure FnOk (P : Program) (w : World) (K : PySem.W.Frag) (mg : Str → Option Value) (base : Heap) (CX : CXT) (k : Nat) (f : Addr) (fd : FuncData) (ps : List Str) (sp : Sp) : Prop where
  len : ∀ vs H Q E, sp vs H Q E → vs.length = ps.length
  run : ∀ (A : Around) (outer : List Env) (s : Shared) (H : Hp) (args : Args) (us : List Value) (vs : List V) (Q : VK) (E : XK), Room k A → Env0 P w K mg base A outer s H → BindsTo s fd args (ps.zip us) → Vals vs us → sp vs H Q E →
    codeAny (model P w) A (.call (.ref f) args) (CR CX outer P w H s Q E) s
section
variable {X : Cx} {pins : List (Addr × Obj)} {σ : St} {H : Hp} {s s' : Shared}
theorem Inv.env0 (I : Inv X pins σ H s) : Env0 X.prog X.w X.K X.mg X.base X.A X.stack s H :=
  ⟨I.ok.frames, I.ok.mod, I.bs, Nat.le_trans I.ok.bsz I.sz, I.stack, I.stkFree, I.hok, I.bare⟩
theorem Inv.after {Q : VK} {u : Value} (I : Inv X pins σ H s) (h : CE X.stack X.prog X.w H s Q u s') : EP X pins σ Q u s' := by
  obtain ⟨v, H', os, bare, un, hok, r, q⟩ := h
  obtain ⟨hh, g, d, t, os'⟩ := s'
  obtain rfl : os' = s.os := os
  exact ⟨v, H', I.call (h' := hh) (g' := g) (d' := d) (t' := t) (ch := []) un hok bare (fun b z => absurd z (by simp)), r, q⟩
end
noncomputable def tCall (sp : Sp) (dvs : List V) (E : XK) (t : TA) : TE := fun σ H Q => t σ H fun vs H1 => sp (vs ++ dvs) H1 Q E
noncomputable def Binds (K : PySem.W.Frag) (fd : FuncData) (ps : List Str) (ds : List Value) : Prop :=
  ∀ (s : Shared) (us : List Value), K.In s.heap → (us ++ ds).length = ps.length → BindsTo s fd ⟨us, []⟩ (ps.zip (us ++ ds))
theorem Binds.all {K : PySem.W.Frag} {fd : FuncData} {ps : List Str} (h : ∀ us : List Value, us.length = ps.length → bindArgs fd ⟨us, []⟩ = pure (ps.zip us)) : Binds K fd ps [] := fun s us _ hl => by
  rw [List.append_nil] at hl ⊢
  exact .of_eq (h us hl)
noncomputable def Passes (CX : CXT) (X : Cx) (E : XK) : Prop := ∀ (pins : List (Addr × Obj)) (σ : St) (H : Hp) (s : Shared) (e : Value) (s' : Shared), Inv X pins σ H s → CX X.stack H s E e s' → X.xe e s'
section
variable {X : Cx} {CX : CXT} {k : Nat} {f C : Addr} {fd : FuncData} {ps : List Str} {sp : Sp} {dvs : List V} {ds : List Value} {E : XK} {x m : Str} {p pos apos : Pos} {e o : Expr} {es : List Expr} {ta : TE} {t : TA}
theorem run_fn {pins : List (Addr × Obj)} {σ : St} {H : Hp} {s : Shared} {Q : VK} {us : List Value} {vs : List V} (F : FnOk X.prog X.w X.K X.mg X.base CX k f fd ps sp) (hr : Room k X.A) (hb : Binds X.K fd ps ds) (hd : Vals dvs ds) (hx : Passes CX X E)
    (I : Inv X pins σ H s) (r : Vals vs us) (h : sp (vs ++ dvs) H Q E) : wpAny (model X.prog X.w) X.A (call (.ref f) us) (EP X pins σ Q) X.xe s := by
  have r2 : Vals (vs ++ dvs) (us ++ ds) := r.append hd
  have hl : (us ++ ds).length = ps.length := by rw [← r2.length]; exact F.len _ _ _ _ h
  refine wpAny_call (codeAny_mono (F.run X.A X.stack s H ⟨us, []⟩ (us ++ ds) (vs ++ dvs) Q E hr I.env0 (hb s us I.kIn hl) r2 h) fun r s' hq => ?_)
  cases r with
  | error e => exact hx pins σ H s e s' I hq
  | ok fl =>
    cases fl with
    | ret u => exact I.after hq
    | next => exact False.elim hq
    | brk => exact False.elim hq
    | cont => exact False.elim hq
theorem pe_call (F : FnOk X.prog X.w X.K X.mg X.base CX k f fd ps sp) (hr : Room k X.A) (hg : Gl X x) (hm : X.mg x = some (.ref f)) (hk : PySem.W.keepIn X.K (.ref f) = true) (hb : Binds X.K fd ps ds) (hd : Vals dvs ds) (hx : Passes CX X E)
    (ha : PA X (e :: es) t) (hdb : (x == ("__debug__" : Str)) = false := by decide) (he : starEach (e :: es) X.env = (false, eval e X.env) :: starEach es X.env := by rfl) (hpl : (backTo pos (starEach es X.env)).any (·.1) = false := by rfl) :
    PE X (.Call (.Name x p) (e :: es) [] pos) (tCall sp dvs E t) := by
  intro pins s σ H Q I h
  refine wpAny_Call_Name_kw (ld_glob I hg hm ?_ hdb)
  refine PySem.W.callWith_K (h₀ := X.base) I.ok.mod.kin hk (thn (ha pos pins s σ H _ I h) fun us s1 zz => el23 zz fun vs H1 I1 r q => ⟨I1.kIn, ?_⟩) he hpl
  exact run_fn F hr hb hd hx I1 r q
end
section
variable {X : Cx} {CX : CXT} {k : Nat} {f C : Addr} {fd : FuncData} {ps ks : List Str} {sp : Sp} {E : XK} {x m : Str} {p pos apos kpos : Pos} {e o : Expr} {es : List Expr} {kws : List Keyword} {te ta : TE} {t tk : TA} {nm : Option Str}
variable {g : List Value → List Value → List Value} {gV : List V → List V → List V}
end
structure FnScope (N P : List Str) (sc : Scope) : Prop where
  kind : sc.kind = .function
  co : sc.isCoroutine = false
  gen : sc.isGenerator = false
  nd : N.Nodup
  pre : N.take P.length = P
  par : ∀ x ∈ P, sc.names.lookup x = some .local ∨ sc.names.lookup x = some .cell
  nofree : ∀ y ∈ sc.names, y.2 ≠ .free
theorem bindL_out {kindOf : Str → Option NameKind} {x : Str} : ∀ {binds : List (Str × Value)} {m : Str → Option Value}, (∀ v, (x, v) ∉ binds) → bindL kindOf binds m x = m x
  | [], _, _ => rfl
  | (n, v) :: r, m, h => by
    unfold bindL
    rw [bindL_out fun w hw => h w (List.mem_cons_of_mem _ hw)]
    split
    · have : x ≠ n := by rintro rfl; exact h v List.mem_cons_self
      simp [this]
    · rfl
theorem bindC_out {kindOf : Str → Option NameKind} {x : Str} : ∀ {binds : List (Str × Value)} {m : Str → Option Value}, (∀ v, (x, v) ∉ binds) → bindC kindOf binds m x = m x
  | [], _, _ => rfl
  | (n, v) :: r, m, h => by
    unfold bindC
    rw [bindC_out fun w hw => h w (List.mem_cons_of_mem _ hw)]
    split
    · rfl
    · have : x ≠ n := by rintro rfl; exact h v List.mem_cons_self
      simp [this]
theorem bindL_get {kindOf : Str → Option NameKind} {x : Str} {v : Value} : ∀ {P : List Str} {vs : List Value} {i : Nat} {m : Str → Option Value}, P.Nodup → P[i]? = some x → vs[i]? = some v → kindOf x = some .local →
    bindL kindOf (P.zip vs) m x = some v
  | [], _, _, _, _, h, _, _ => by simp at h
  | _ :: _, [], _, _, _, _, h, _ => by simp at h
  | p :: P, w :: vs, 0, m, nd, h1, h2, hk => by
    simp at h1 h2; subst h1; subst h2
    show bindL kindOf ((p, w) :: P.zip vs) m p = _
    unfold bindL
    rw [bindL_out fun v hv => (List.nodup_cons.mp nd).1 (List.of_mem_zip hv).1, if_pos hk]
    simp
  | p :: P, w :: vs, i + 1, m, nd, h1, h2, hk => by
    show bindL kindOf ((p, w) :: P.zip vs) m x = _
    unfold bindL
    exact bindL_get (i := i) (List.nodup_cons.mp nd).2 (by simpa using h1) (by simpa using h2) hk
theorem bindC_get {kindOf : Str → Option NameKind} {x : Str} {v : Value} : ∀ {P : List Str} {vs : List Value} {i : Nat} {m : Str → Option Value}, P.Nodup → P[i]? = some x → vs[i]? = some v → kindOf x ≠ some .local →
    bindC kindOf (P.zip vs) m x = some v
  | [], _, _, _, _, h, _, _ => by simp at h
  | _ :: _, [], _, _, _, _, h, _ => by simp at h
  | p :: P, w :: vs, 0, m, nd, h1, h2, hk => by
    simp at h1 h2; subst h1; subst h2
    show bindC kindOf ((p, w) :: P.zip vs) m p = _
    unfold bindC
    rw [bindC_out fun v hv => (List.nodup_cons.mp nd).1 (List.of_mem_zip hv).1, if_neg hk]
    simp
  | p :: P, w :: vs, i + 1, m, nd, h1, h2, hk => by
    show bindC kindOf ((p, w) :: P.zip vs) m x = _
    unfold bindC
    exact bindC_get (i := i) (List.nodup_cons.mp nd).2 (by simpa using h1) (by simpa using h2) hk
noncomputable def start (N : List Str) (vs : List V) : St := vs.map some ++ List.replicate (N.length - vs.length) none
noncomputable def cxOf (CX : CXT) (P : Program) (w : World) (K : PySem.W.Frag) (mg : Str → Option Value) (base : Heap) (N : List Str) (qual : Str) (scope : Scope) (f : Addr) (cd : Value) (A : Around) (outer : List Env) (s : Shared) (H : Hp) (E : XK) : Cx where
  prog := P
  w := w
  K := K
  mg := mg
  base := base
  A := A.deeper (envOfC qual scope s.heap.objs.size f cd)
  N := N
  s₀ := s
  H₀ := H
  env := envOfC qual scope s.heap.objs.size f cd
  outer := outer
  stack := envOfC qual scope s.heap.objs.size f cd :: outer
  ex := []
  calm := true
  fn := fun _ => true
  pn := []
  xe := fun e s' => wpAny (model P w) (A.deeper (envOfC qual scope s.heap.objs.size f cd)) (leaving (envOfC qual scope s.heap.objs.size f cd) e) (fun _ s'' => CX outer H s E e s'') (fun e' s'' => CX outer H s E e' s'') s'
theorem cell_has {sc : Scope} {n : Nat} {x : Str} (h : sc.names.lookup x = some .cell) : ∃ c, (cellsFrom n sc.names []).lookup x = some c := by
  have q := PySem.W.cellsFrom_some sc.names n [] (.inl h)
  exact Option.isSome_iff_exists.mp q
theorem inv_start {CX : CXT} {P : Program} {w : World} {K : PySem.W.Frag} {mg : Str → Option Value} {base : Heap} {N ps : List Str} {qual : Str} {scope : Scope} {f : Addr} {cd : Value} {A : Around} {outer : List Env} {s s1 : Shared} {H : Hp} {E : XK} {us : List Value} {vs : List V}
    (S : FnScope N ps scope) (hd : A.handled = none) (e0 : Env0 P w K mg base A outer s H) (hl : vs.length = ps.length) (r : Vals vs us)
    (x : InCallC s s.heap.objs.size (bindL (envOfC qual scope s.heap.objs.size f cd).kindOf (ps.zip us) fun _ => none) (cellsFrom (s.heap.objs.size + 1) scope.names []) (bindC (envOfC qual scope s.heap.objs.size f cd).kindOf (ps.zip us) fun _ => none) s1) :
    Inv (cxOf CX P w K mg base N qual scope f cd A outer s H E) [] (start N vs) H s1 := by
  have hpl : ps.length ≤ N.length := by have := congrArg List.length S.pre; rw [List.length_take] at this; (first | lia | omega)
  obtain ⟨h1, tk, rfl, hk⟩ := x.done
  have noA : ∀ b : Addr, b ∉ (cxOf CX P w K mg base N qual scope f cd A outer s H E).ex := fun b z => absurd (show b ∈ ([] : List Addr) from z) (by simp)
  refine ⟨⟨e0.mod, S.kind, rfl, rfl, Nat.le_refl _, fun y z c h1 h2 => ?_, fun y hy => ?_, fun y c _ h => ?_, fun _ => hd, Around.frames_deeper e0.frames, .inr ⟨rfl, rfl⟩, fun b z => absurd z (noA b), e0.bs, e0.bsz, fun b _ _ => noA b, fun b z => absurd z (noA b), e0.funs, e0.frf⟩,
    rfl, e0.bare, Un.kept hk, ⟨_, x.toInCall.ns, fun i y v h1 h2 h3 => ?_⟩, fun y c h => ⟨_, x.cell y c h⟩, e0.hok.fresh (Nat.le_refl _), fun y c h => ?_, fun p hp => absurd (show p ∈ ([] : List (Addr × Obj)) from hp) (by simp), e0.hok.kept hk, ?_⟩
  · exact name_of_addr x.apart (PySem.mem_of_lookup h1) (PySem.mem_of_lookup h2)
  · have hy : scope.names.lookup y = some .cell ∨ scope.names.lookup y = some .free := hy
    rcases hy with hy | hy
    · exact cell_has hy
    · exact absurd rfl (S.nofree _ (PySem.mem_of_lookup hy))
  · exact Nat.le_of_lt (x.above y c (PySem.mem_of_lookup h))
  · have hi : i < vs.length := by
      unfold start at h2
      by_cases hi : i < vs.length
      · exact hi
      · rw [List.getElem?_append_right (by simpa using hi)] at h2
        rw [List.getElem?_replicate] at h2
        split at h2 <;> cases h2
    have ha : vs[i]? = some v := by
      unfold start at h2
      rw [List.getElem?_append_left (by simpa using hi), List.getElem?_map] at h2
      cases e : vs[i]? with
      | none => rw [e] at h2; cases h2
      | some a => rw [e] at h2; cases h2; rfl
    obtain ⟨u, hu, rv⟩ := r.get ha
    have hp : ps[i]? = some y := by
      rw [← S.pre, List.getElem?_take_of_lt (by (first | lia | omega))]; exact h1
    have ndP : ps.Nodup := by rw [← S.pre]; exact S.nd.sublist (List.take_sublist _ _)
    refine ⟨u, rv, ?_⟩
    rcases S.par y (List.mem_of_getElem? hp) with k | k
    · exact .inl ⟨k, bindL_get ndP hp hu k⟩
    · obtain ⟨c, e⟩ := cell_has (n := s.heap.objs.size + 1) k
      refine .inr ⟨.inl k, c, e, ?_⟩
      have q := x.cell y c e
      rw [bindC_get ndP hp hu (by show scope.names.lookup y ≠ _; rw [k]; decide)] at q
      exact q
  · exact e0.hok.fresh (Nat.le_of_lt (x.above y c (PySem.mem_of_lookup h)))
  · unfold start
    show _ = N.length
    rw [List.length_append, List.length_map, List.length_replicate]
    (first | lia | omega)
theorem fn_of {CX : CXT} {P : Program} {w : World} {K : PySem.W.Frag} {mg : Str → Option Value} {base : Heap} {k : Nat} {f : Addr} {name qual : Str} {params : Arguments} {body : List Stmt} {scope : Scope} {dV kV doc pm cdv ct oc : Value} {an od : Option Addr}
    {osl : Array (Option Value)} {N ps : List Str} {sp : Sp} (lk : K.lookup f = some ⟨oc, od, .func (PySem.W.fnOf name qual params body scope dV kV doc pm an cdv ct), osl⟩) (hcd : PySem.W.codeIn K cdv qual = true) (S : FnScope N ps scope)
    (len : ∀ vs H Q E, sp vs H Q E → vs.length = ps.length)
    (hbody : ∀ (A : Around) (outer : List Env) (s : Shared) (H : Hp) (vs : List V) (Q : VK) (E : XK), Room k (A.deeper (envOfC qual scope s.heap.objs.size f cdv)) → sp vs H Q E →
      ∃ t, PSs (cxOf CX P w K mg base N qual scope f cdv A outer s H E) body t ∧ t { nx := fun _ H' => Q .non H', rt := Q } (start N vs) H) :
    FnOk P w K mg base CX (k + 1) f (PySem.W.fnOf name qual params body scope dV kV doc pm an cdv ct) ps sp := by
  refine ⟨len, fun A outer s H args us vs Q E hr e0 hb r hsp => ?_⟩
  have hl := len _ _ _ _ hsp
  have KX : K.In s.heap := e0.mod.kin.keeps fun b o e => (e0.bs b o e).1
  have lim : s.heap.NoLimit := e0.mod.nolimit.keeps fun b o e => (e0.bs b o e).1
  have hkind : ∀ y ∈ ps.zip us, scope.names.lookup y.1 = some .local ∨ (scope.names.lookup y.1 = some .cell ∧ ((cellsFrom (s.heap.objs.size + 1) scope.names []).lookup y.1).isSome = true) := fun ⟨n, v⟩ hy => by
    rcases S.par n (List.of_mem_zip hy).1 with q | q
    · exact .inl q
    · exact .inr ⟨q, PySem.W.cellsFrom_some _ _ _ (.inl q)⟩
  refine codeAny_call_function hr.depth (KX _ _ lk) rfl S.co S.gen rfl (PySem.W.codeRec_of KX hcd) (hb _ _ _ _ ?_)
  refine wpAny_newFunctionEnv_cells S.kind hkind fun env he s1 x => ?_
  subst he
  refine ⟨lim.keeps x.toInCall.keep, codeAny_func ?_⟩
  obtain ⟨t, ht, hq⟩ := hbody A outer s H vs Q E (hr.deeper _) hsp
  have I : Inv (cxOf CX P w K mg base N qual scope f cdv A outer s H E) [] (start N vs) H s1 := inv_start S hr.hd e0 hl r x
  refine wpAny_mono (ht [] s1 (start N vs) H _ I hq) (fun fl s' hs => ?_) fun e s' hs => hs
  have fin : ∀ {σ' : St} {H' : Hp} {v : V} {u : Value}, Inv (cxOf CX P w K mg base N qual scope f cdv A outer s H E) [] σ' H' s' → RelV v u → Q v H' → CE outer P w H s Q u s' :=
    fun {σ' H' v u} J rv q => ⟨v, H', J.os, J.bare, J.base, J.hok, rv, q⟩
  cases fl with
  | ret u =>
    obtain ⟨v, σ', H', J, rv, q⟩ := hs
    exact fin J rv q
  | next =>
    obtain ⟨σ', H', J, q⟩ := hs
    exact fin (v := V.non) (u := Value.none) J rfl q
  | brk =>
    obtain ⟨_, _, _, q⟩ := hs
    exact False.elim q
  | cont =>
    obtain ⟨_, _, _, q⟩ := hs
    exact False.elim q
end L2
namespace L2
open PySem PySem.Spec PyProof.Rows
section
variable {X : Cx} {x : Str} {p pos : Pos} {e : Expr} {es : List Expr} {t : TA} {id T : String} {r : List V → Hp → VK → Prop}
noncomputable def tCB (r : List V → Hp → VK → Prop) (t : TA) : TE := fun σ H Q => t σ H fun vs H1 => r vs H1 Q
theorem pe_callB (hc : CallR X (.builtin id) r) (hg : Gl X x) (hm : X.mg x = none) (hv : bootBuiltins x = some (.builtin id)) (ha : PA X (e :: es) t) (hn : x ≠ "__name__" := by decide) (hdb : (x == ("__debug__" : Str)) = false := by decide)
    (he : starEach (e :: es) X.env = (false, eval e X.env) :: starEach es X.env := by rfl) (hpl : (backTo pos (starEach es X.env)).any (·.1) = false := by rfl) : PE X (.Call (.Name x p) (e :: es) [] pos) (tCB r t) := by
  intro pins s σ H Q I h
  refine wpAny_Call_Name_kw (ld_blt I hg hm hv ?_ hn hdb)
  exact PyProof.Rows.callWith_builtin1 (thn (ha pos pins s σ H _ I h) fun us s1 zz => el23 zz fun vs H1 I1 r1 q1 => hc pins s1 σ H1 vs us Q I1 r1 q1) he hpl
theorem pe_callTy (hc : CallR X (.type T) r) (hg : Gl X x) (hm : X.mg x = none) (hv : bootBuiltins x = some (.type T)) (ha : PA X (e :: es) t) (hn : x ≠ "__name__" := by decide) (hdb : (x == ("__debug__" : Str)) = false := by decide)
    (he : starEach (e :: es) X.env = (false, eval e X.env) :: starEach es X.env := by rfl) (hpl : (backTo pos (starEach es X.env)).any (·.1) = false := by rfl) : PE X (.Call (.Name x p) (e :: es) [] pos) (tCB r t) := by
  intro pins s σ H Q I h
  refine wpAny_Call_Name_kw (ld_blt I hg hm hv ?_ hn hdb)
  exact PyProof.Rows.callWith_type1 (thn (ha pos pins s σ H _ I h) fun us s1 zz => el23 zz fun vs H1 I1 r1 q1 => hc pins s1 σ H1 vs us Q I1 r1 q1) he hpl
end
end L2
namespace HT
open PySem PyProof.Rows
section
open PySem.SeqAt
open PySem.AutoSeq1 (wpAny_loadPart')
open PySem.MeetsSeq PySem.MeetsSeq2 PySem.MeetsSeq3
end
section
variable {prog : Program} {w : World} {A : Around} {E : Value → Shared → Prop} {s : Shared}
theorem cat_tup {t b : Addr} {vs ws : List Value} {Q : Value → Shared → Prop} (ht : IsTup s.heap t vs.toArray) (hb : IsTup s.heap b ws.toArray) (hv : vs ≠ [])
    (h1 : ws = [] → Q (.ref t) s) (h2 : ws ≠ [] → Q (.ref s.heap.objs.size) { s with heap := s.heap.push { cls := .type "tuple", data := .seq (vs ++ ws).toArray } })
    (hsz : vs.length + ws.length ≤ sizeLine) : wpAny (model prog w) A (binaryOp .Add (.ref t) (.ref b)) Q E s := by
  refine hidG fun ZZ kZ => ?_
  obtain ⟨⟨cls, dd, data, sl⟩, ho, hc, n, hd⟩ := id ht
  obtain ⟨⟨cls2, dd2, data2, sl2⟩, ho2, hc2, n2, hd2⟩ := id hb
  refine kZ ?_
  simp only at hc hd hc2 hd2
  subst hc hd hc2 hd2
  have e : vs.toArray ++ ws.toArray = (vs ++ ws).toArray := by simp
  by_cases hw : ws = []
  · exact concat_meets ⟨_, ho, rfl⟩ ⟨_, ho2, rfl⟩ noFill_tuple_add seq_tuple_add PySem.F.slot_tuple_add PySem.F.entry_tuple_add (PySem.F.args_tuple_add_2 _ _)
      (tuple_addW1 t b vs.toArray ws.toArray n n2 dd dd2 sl sl2 (by simpa using hv) (by simp [hw])) ⟨ho, ho2, h1 hw⟩
  · refine concat_meets ⟨_, ho, rfl⟩ ⟨_, ho2, rfl⟩ noFill_tuple_add seq_tuple_add PySem.F.slot_tuple_add PySem.F.entry_tuple_add (PySem.F.args_tuple_add_2 _ _)
      (tuple_addW2 t b vs.toArray ws.toArray n n2 dd dd2 sl sl2 (by simpa using hv) (by simpa using hw) (by rw [List.size_toArray, List.size_toArray]; exact hsz)) ⟨ho, ho2, ?_⟩
    rw [e]
    exact h2 hw
noncomputable def sIx (n d : Nat) : Option Int → Nat
  | none => d
  | some v => if v < 0 then (v + (n : Int)).toNat else min v.toNat n
theorem sIx_none (n d : Nat) : sIx n d none = d := rfl
theorem sIx_nat (n d k : Nat) : sIx n d (some (k : Int)) = min k n := by
  show (if (k : Int) < 0 then ((k : Int) + (n : Int)).toNat else min (k : Int).toNat n) = min k n
  rw [if_neg (by (first | lia | omega)), Int.toNat_natCast]
theorem sIx_le (n d : Nat) (hd : d ≤ n) (o : Option Int) : sIx n d o ≤ n := by
  cases o with
  | none => exact hd
  | some v =>
    show (if v < 0 then (v + (n : Int)).toNat else min v.toNat n) ≤ n
    by_cases hv : v < 0
    · rw [if_pos hv]; (first | lia | omega)
    · rw [if_neg hv]; exact Nat.min_le_right _ _
theorem clip_eq (v : Int) (n d : Nat) : (if v < 0 then max (v + (n : Int)) 0 else min v (n : Int)) = ((sIx n d (some v) : Nat) : Int) := by
  show (if v < 0 then max (v + (n : Int)) 0 else min v (n : Int)) = (((if v < 0 then (v + (n : Int)).toNat else min v.toNat n) : Nat) : Int)
  by_cases hv : v < 0
  · simp only [if_pos hv]; (first | lia | omega)
  · simp only [if_neg hv]; (first | lia | omega)
theorem adjust_gen (lo hi : Option Int) (n : Nat) : Builtin.Slice.sliceAdjust lo hi 1 (n : Int) = (((sIx n 0 lo : Nat) : Int), ((sIx n n hi : Nat) : Int)) := by
  have h1 : ¬ ((1 : Int) < 0) := by (first | lia | omega)
  unfold Builtin.Slice.sliceAdjust
  simp only [h1, if_false]
  refine Prod.ext ?_ ?_
  · cases lo with
    | none => rfl
    | some v => exact clip_eq v n 0
  · cases hi with
    | none => rfl
    | some v => exact clip_eq v n n
theorem places_gen (i j : Nat) : Builtin.Slice.slicePlaces (i : Int) (j : Int) 1 = j - i := by
  unfold Builtin.Slice.slicePlaces
  have h1 : (1 : Int) > 0 := by (first | lia | omega)
  simp only [h1, if_true, Int.ediv_one]
  split <;> (first | lia | omega)
theorem slicePart_ {v : Value} {o : Option Int} {Q : Option Int → Shared → Prop} (p : IsPart v o) (h : Q o s) : wpAny (model prog w) A (Builtin.Slice.slicePartIndex v) Q E s := by
  cases p with
  | none => exact slicePart_none h
  | int i t => exact slicePart_int h
theorem sliceApplied_gen {sl : Addr} {vl vu : Value} {lo hi : Option Int} {n : Nat} {Q : Int × Int × Nat → Shared → Prop} (hs : s.heap.IsSliceOf sl vl vu .none) (pl : IsPart vl lo) (pu : IsPart vu hi)
    (h : Q (((sIx n 0 lo : Nat) : Int), 1, sIx n n hi - sIx n 0 lo) s) : wpAny (model prog w) A (Builtin.Slice.sliceApplied (.ref sl) (pure (n : Int))) Q E s := by
  refine hidG fun ZZ kZ => ?_
  obtain ⟨os, hos, hcs, hds⟩ := id hs
  refine kZ ?_
  unfold Builtin.Slice.sliceApplied Builtin.Slice.sliceFields
  refine wpAny_bind (wpAny_bind (wpAny_field hos hds (x := vl) rfl (wpAny_bind (wpAny_field hos hds (x := vu) rfl (wpAny_bind (wpAny_field hos hds (x := .none) rfl (wpAny_pure ?_)))))))
  refine wpAny_bind (slicePart_none ?_)
  show wpAny _ _ (if ((1 : Int) == 0) = true then _ else _) _ _ s
  rw [if_neg (by decide)]
  refine wpAny_bind (slicePart_ pl (wpAny_bind (slicePart_ pu (wpAny_bind (wpAny_pure ?_)))))
  show wpAny _ _ (match Builtin.Slice.sliceAdjust lo hi 1 (n : Int) with | (lo, hi) => pure (lo, (1 : Int), Builtin.Slice.slicePlaces lo hi 1)) _ _ s
  rw [adjust_gen lo hi n]
  show wpAny _ _ (pure (((sIx n 0 lo : Nat) : Int), (1 : Int), Builtin.Slice.slicePlaces ((sIx n 0 lo : Nat) : Int) ((sIx n n hi : Nat) : Int) 1)) _ _ s
  rw [places_gen]
  exact wpAny_pure h
theorem pick_gen (xs : Array Value) (i k : Nat) : ((List.range k).filterMap fun (m : Nat) => xs[((i : Int) + (m : Int) * 1).toNat]?).toArray = ((xs.toList.drop i).take k).toArray := by
  have e : (fun (m : Nat) => xs[((i : Int) + (m : Int) * 1).toNat]?) = fun m => xs[i + m]? := by
    funext m
    have : ((i : Int) + (m : Int) * 1).toNat = i + m := by (first | lia | omega)
    rw [this]
  rw [e]
  have := pick_run xs i k
  rw [List.filterMap_map] at this
  have e2 : ((fun x => xs[x]?) ∘ fun x => i + x) = fun m => xs[i + m]? := rfl
  rw [e2] at this
  rw [this]
theorem getItem_tuple_cut {t sl : Addr} {items : Array Value} {vl vu : Value} {lo hi : Option Int} {Q : Value → Shared → Prop} (ht : IsTup s.heap t items) (hs : s.heap.IsSliceOf sl vl vu .none) (pl : IsPart vl lo) (pu : IsPart vu hi)
    (hw : ¬ (sIx items.size 0 lo = 0 ∧ sIx items.size items.size hi = items.size))
    (h : Q (.ref s.heap.objs.size) { s with heap := s.heap.push { cls := .type "tuple", data := .seq ((items.toList.drop (sIx items.size 0 lo)).take (sIx items.size items.size hi - sIx items.size 0 lo)).toArray } })
    (hsz : items.size ≤ sizeLine) : wpAny (model prog w) A (getItem (.ref t) (.ref sl)) Q E s := by
  have htake : sizeOk (.seq ((items.toList.drop (sIx items.size 0 lo)).take (sIx items.size items.size hi - sIx items.size 0 lo)).toArray) := by
    show ((items.toList.drop (sIx items.size 0 lo)).take (sIx items.size items.size hi - sIx items.size 0 lo)).toArray.size ≤ sizeLine
    rw [List.size_toArray, List.length_take, List.length_drop, Array.length_toList]
    (first | lia | omega)
  have hj : sIx items.size items.size hi ≤ items.size := sIx_le _ _ (Nat.le_refl _) hi
  refine hidG fun ZZ kZ => ?_
  obtain ⟨os, hos, hcs, hds⟩ := id hs
  refine kZ ?_
  have hTs : s.TypeIs (.ref sl) "slice" := ⟨os, hos, hcs⟩
  unfold getItem
  try with_reducible refine wpAny_holding ?_
  first | refine wpAny_bind (wpAny_pure ?_) | skip
  refine wpAny_bind (wpAny_sequenceKey ht.typeIs (by decide) ?_)
  refine wpAny_bind (wpAny_callSpecial?_slot (name := Str.ofString "__getitem__") ht.typeIs PyProof.Rows.slot_tuple_getitem
    (wpAny_call_entry PyProof.Rows.slot_tuple_getitem ht.typeIs entry_tuple_getitem ?_ (args_tuple_getitem _ _)))
  show wpAny _ _ (Builtin.Tuple.tupleItemsOf (.ref t) >>= _) _ _ s
  refine wpAny_bind (tupleItemsOf_ ht ?_)
  refine wpAny_bind (wpAny_typeOf hTs ?_)
  rw [if_pos (by decide)]
  refine wpAny_bind (sliceApplied_gen hs pl pu ?_)
  have hno : ¬ ((((sIx items.size 0 lo : Nat) : Int) == 0 && (1 : Int) == 1 && (sIx items.size items.size hi - sIx items.size 0 lo) == items.size) = true) := by
    intro q
    rw [Bool.and_eq_true, Bool.and_eq_true] at q
    have q1 : ((sIx items.size 0 lo : Nat) : Int) = 0 := eq_of_beq q.1.1
    have q2 : sIx items.size items.size hi - sIx items.size 0 lo = items.size := eq_of_beq q.2
    exact hw ⟨by (first | lia | omega), by (first | lia | omega)⟩
  show wpAny _ _ (if (((sIx items.size 0 lo : Nat) : Int) == 0 && (1 : Int) == 1 && (sIx items.size items.size hi - sIx items.size 0 lo) == items.size) = true then _ else _) _ _ s
  rw [if_neg hno, pick_gen]
  first
    | exact wpAny_bind (m := Builtin.Tuple.tupleExact _) (wpAny_newObj_type (wpAny_pure ⟨_, rfl, wpAny_pure h⟩) htake)
    | exact wpAny_bind (m := Builtin.Tuple.tupleExact _) (wpAny_newObj_type (wpAny_bind (wpAny_pure (wpAny_pure ⟨_, rfl, wpAny_pure h⟩))) htake)
    | exact wpAny_bind (wpAny_bind (m := Builtin.Tuple.tupleExact _) (wpAny_newObj_type (wpAny_pure (wpAny_pure ⟨_, rfl, wpAny_pure h⟩)) htake))
    | exact wpAny_bind (wpAny_bind (m := Builtin.Tuple.tupleExact _) (wpAny_newObj_type (wpAny_pure ⟨_, rfl, wpAny_pure h⟩) htake))
end
end HT
namespace L2
open PySem PySem.Spec PyProof.Rows
noncomputable abbrev TO := St → Hp → (Option Int → Hp → Prop) → Prop
noncomputable def PO (X : Cx) (e : Option Expr) (t : TO) : Prop :=
  ∀ (pins : List (Addr × Obj)) (s : Shared) (σ : St) (H : Hp) (Q : Option Int → Hp → Prop), Inv X pins σ H s → t σ H Q →
    wpAny (model X.prog X.w) X.A (evalPart e X.env) (fun u s' => ∃ o H', Inv X pins σ H' s' ∧ IsPart u o ∧ Q o H') X.xe s
noncomputable def tNoPart : TO := fun _ H Q => Q none H
inductive IPart (x : V) (Q : Option Int → Hp → Prop) (H1 : Hp) : Prop
  | mk (i : Int) (zz0 : x = .int i) (zz1 : Q (some i) H1) : IPart x Q H1
noncomputable def tPart (t : TE) : TO := fun σ H Q => t σ H fun x H1 => IPart x Q H1
section
variable {X : Cx} {e : Expr} {te : TE} {lo hi : Option Expr} {tl th : TO} {pos p2 : Pos}
theorem po_none : PO X none tNoPart := by
  intro pins s σ H Q I h
  rw [evalPart_none]
  exact wpAny_pure ⟨none, H, I, .none, h⟩
theorem po_some (h : PE X e te) : PO X (some e) (tPart te) := by
  intro pins s σ H Q I hw
  rw [evalPart_some]
  refine thn (h pins s σ H _ I hw) fun u s1 zz => el23 zz fun x H1 I1 r1 q1 => ?_
  obtain ⟨i, rfl, q⟩ := q1
  obtain ⟨t, rfl⟩ := r1
  exact ⟨some i, H1, I1, .int i t, q⟩
noncomputable def SlR (X : Cx) (r : V → Option Int → Option Int → Hp → VK → Prop) : Prop :=
  ∀ (pins : List (Addr × Obj)) (s : Shared) (σ : St) (H : Hp) (x : V) (v vl vu : Value) (lo hi : Option Int) (sl : Addr) (Q : VK), Inv X pins σ H s → RelV x v → s.heap.IsSliceOf sl vl vu .none → IsPart vl lo → IsPart vu hi → r x lo hi H Q →
    ∃ T id, typeLookup (.type T) "__getitem__" = pure (some (.builtin id)) ∧ s.TypeIs v T ∧ wpAny (model X.prog X.w) X.A (getItem v (.ref sl)) (EP X pins σ Q) X.xe s
noncomputable def tSl (r : V → Option Int → Option Int → Hp → VK → Prop) (te : TE) (tl th : TO) : TE := fun σ H Q => te σ H fun x H1 => tl σ H1 fun l H2 => th σ H2 fun u H3 => r x l u H3 Q
theorem pe_slice {r : V → Option Int → Option Int → Hp → VK → Prop} (hr : SlR X r) (he : PE X e te) (hl : PO X lo tl) (hu : PO X hi th) : PE X (.Subscript e (.Slice lo hi none p2) pos) (tSl r te tl th) := by
  intro pins s σ H Q I h
  refine Subscript_ (thn (he pins s σ H _ I h) fun v s1 zz => el23 zz fun x H1 I1 r1 q1 => ?_)
  refine wpAny_Slice (thn (hl pins s1 σ H1 _ I1 q1) fun vl s2 zz => el23 zz fun l H2 I2 pl q2 => thn (hu pins s2 σ H2 _ I2 q2) fun vu s3 zz => el23 zz fun u H3 I3 pu q3 => ?_)
  rw [evalPart_none]
  refine wpAny_pure ?_
  have I4 : Inv X pins σ H3 { s3 with heap := s3.heap.push { cls := .type "slice", data := .fields #[vl, vu, .none] } } := I3.kept (t' := s3.toks) fun b ob q => Heap.get?_push_of_some _ q
  obtain ⟨T, id, hT, ht, hg⟩ := hr pins { s3 with heap := s3.heap.push { cls := .type "slice", data := .fields #[vl, vu, .none] } } σ H3 x v vl vu l u s3.heap.objs.size Q I4 r1 (Heap.IsSliceOf.new ..) pl pu q3
  show wpAny (model X.prog X.w) X.A (subscriptTail e (.Slice lo hi none p2) v (.ref s3.heap.objs.size)) (EP X pins σ Q) X.xe { s3 with heap := s3.heap.push { cls := .type "slice", data := .fields #[vl, vu, .none] } }
  exact tail_any (ops := [.ref s3.heap.objs.size, v]) ht hT hg (by with_unfolding_all rfl)
noncomputable def cutV (xs : List V) (lo hi : Option Int) : List V := (xs.drop (HT.sIx xs.length 0 lo)).take (HT.sIx xs.length xs.length hi - HT.sIx xs.length 0 lo)
theorem cutV_length (xs : List V) (lo hi : Option Int) : (cutV xs lo hi).length ≤ xs.length := by
  unfold cutV
  rw [List.length_take, List.length_drop]
  (first | lia | omega)
inductive IrSlT (K : PySem.W.Frag) (x : V) (lo : Option Int) (hi : Option Int) (H : Hp) (Q : VK) : Prop
  | mk (a : _) (xs : _) (zz0 : x = .ref a) (zz1 : SqT K H a xs) (zz2 : ¬ (HT.sIx xs.length 0 lo = 0 ∧ HT.sIx xs.length xs.length hi = xs.length)) (zz3 : ∀ p, H p = none → Q (.ref p) (upd H p (.tup (cutV xs lo hi)))) : IrSlT K x lo hi H Q
noncomputable def rSlT (K : PySem.W.Frag) : V → Option Int → Option Int → Hp → VK → Prop := IrSlT K
theorem sl_tup : SlR X (rSlT X.K) := by
  intro pins s σ H x v vl vu lo hi sl Q I rx hs pl pu h
  obtain ⟨a, xs, rfl, hx, hw, q⟩ := h
  cases rx
  obtain ⟨its, r, ht, hz⟩ := I.tuple hx
  have hlen : its.toArray.size = xs.length := by rw [List.size_toArray]; exact r.length.symm
  refine ⟨"tuple", _, PyProof.Rows.slot_tuple_getitem.lookup, ht.typeIs, ?_⟩
  refine HT.getItem_tuple_cut ht hs pl pu (by rw [hlen]; exact hw) ?_ (by rw [hlen]; exact hz)
  rw [hlen]
  refine ⟨.ref s.heap.objs.size, _, I.laid (t' := s.toks) (o := .tup (cutV xs lo hi)) (fun b ob q => Heap.get?_push_of_some _ q) (Nat.le_refl _) ?_, rfl, q _ (I.hok.fresh (Nat.le_refl _))⟩
  exact ⟨Nat.le_trans (cutV_length xs lo hi) hz, _, 0, (r.drop (HT.sIx xs.length 0 lo)).take (HT.sIx xs.length xs.length hi - HT.sIx xs.length 0 lo), Heap.get?_push_size _ rfl⟩
noncomputable def rCatT (K : PySem.W.Frag) : R2 := fun x y H Q => ∃ a b xs ys, x = .ref a ∧ y = .ref b ∧ SqT K H a xs ∧ SqT K H b ys ∧ xs ≠ [] ∧ xs.length + ys.length ≤ sizeLine ∧
  (ys = [] → Q (.ref a) H) ∧ (ys ≠ [] → ∀ p, H p = none → Q (.ref p) (upd H p (.tup (xs ++ ys))))
theorem Vals.nil_iff {xs : List V} {us : List Value} (r : Vals xs us) : us = [] ↔ xs = [] := by
  cases r with
  | nil => simp
  | cons _ _ => simp
theorem op_catT : OpR X (binaryOp .Add) (rCatT X.K) := by
  intro pins s σ H x y v u Q I rx ry h
  refine hidG fun ZZ kZ => ?_
  obtain ⟨a, b, xs, ys, rfl, rfl, ha, hb, hx, hz, q1, q2⟩ := h
  refine kZ ?_
  cases rx
  cases ry
  refine hidG fun ZZ kZ => ?_
  obtain ⟨its, r1, p1, _⟩ := I.tuple ha
  obtain ⟨its2, r2, p2, _⟩ := I.tuple hb
  refine kZ ?_
  refine HT.cat_tup p1 p2 (fun z => hx (r1.nil_iff.mp z)) (fun z => ⟨.ref a, H, I, rfl, q1 (r2.nil_iff.mp z)⟩) (fun z => ?_) (by rw [← r1.length, ← r2.length]; exact hz)
  refine ⟨.ref s.heap.objs.size, _, I.laid (t' := s.toks) (o := .tup (xs ++ ys)) (fun b ob q => Heap.get?_push_of_some _ q) (Nat.le_refl _) ?_, rfl, q2 (fun w => z (r2.nil_iff.mpr w)) _ (I.hok.fresh (Nat.le_refl _))⟩
  exact ⟨by rw [List.length_append]; exact hz, _, 0, r1.append r2, Heap.get?_push_size _ rfl⟩
end
end L2
namespace L2
open PySem PySem.Spec PyProof.Rows
noncomputable def ixN (n : Nat) (i : Int) : Option Nat := if 0 ≤ i then (if i < n then some i.toNat else none) else if -(n : Int) ≤ i then some (i + n).toNat else none
noncomputable def atI {α : Type} (xs : List α) (i : Int) : Option α := (ixN xs.length i).bind fun j => xs[j]?
theorem ixN_seq {n : Nat} {i : Int} {j : Nat} (h : ixN n i = some j) : seqIndex? i n = some j ∧ j < n ∧ -(n : Int) ≤ i ∧ i < n := by
  unfold ixN at h
  by_cases h0 : 0 ≤ i
  · rw [if_pos h0] at h
    by_cases h1 : i < n
    · rw [if_pos h1] at h
      have e : i.toNat = j := Option.some.inj h
      exact ⟨by rw [seqIndex_of h0 h1, e], by (first | lia | omega), by (first | lia | omega), h1⟩
    · rw [if_neg h1] at h; cases h
  · rw [if_neg h0] at h
    by_cases h1 : -(n : Int) ≤ i
    · rw [if_pos h1] at h
      have e : (i + n).toNat = j := Option.some.inj h
      exact ⟨by rw [seqIndex_neg (by (first | lia | omega)) h1, e], by (first | lia | omega), h1, by (first | lia | omega)⟩
    · rw [if_neg h1] at h; cases h
theorem atI_get {α : Type} {xs : List α} {i : Int} {v : α} (h : atI xs i = some v) : ∃ j, seqIndex? i xs.length = some j ∧ xs[j]? = some v ∧ j < xs.length ∧ -(xs.length : Int) ≤ i ∧ i < xs.length := by
  unfold atI at h
  cases e : ixN xs.length i with
  | none => rw [e] at h; cases h
  | some j =>
    rw [e] at h
    obtain ⟨h1, h2, h3, h4⟩ := ixN_seq e
    exact ⟨j, h1, h, h2, h3, h4⟩
theorem atI_nat {α : Type} {xs : List α} {j : Nat} {v : α} (h : xs[j]? = some v) : atI xs (j : Int) = some v := by
  have hj : j < xs.length := (List.getElem?_eq_some_iff.mp h).1
  have e : ixN xs.length (j : Int) = some j := by
    unfold ixN
    rw [if_pos (by (first | lia | omega)), if_pos (by (first | lia | omega))]; simp
  unfold atI; rw [e]; exact h
noncomputable def PlainIx (b : Expr) : Prop := ∀ o i, subscripted b false o i = operate [o, i] (getItem o i)
noncomputable def IxR (X : Cx) (r : R2) : Prop :=
  ∀ (value slice : Expr) (pins : List (Addr × Obj)) (s : Shared) (σ : St) (H : Hp) (x y : V) (v u : Value) (Q : VK), Inv X pins σ H s → RelV x v → RelV y u → r x y H Q →
    subscripted slice false v u = operate [v, u] (getItem v u) → wpAny (model X.prog X.w) X.A (subscriptTail value slice v u) (EP X pins σ Q) X.xe s
noncomputable def MtR (X : Cx) (id : String) (r : V → List V → Hp → VK → Prop) : Prop :=
  ∀ (pins : List (Addr × Obj)) (s : Shared) (σ : St) (H : Hp) (x : V) (xs : List V) (v : Value) (us : List Value) (Q : VK), Inv X pins σ H s → RelV x v → Vals xs us → r x xs H Q →
    wpAny (model X.prog X.w) X.A (call (.builtin id) (v :: us)) (EP X pins σ Q) X.xe s
section
variable {X : Cx} {a b : Expr} {ta tb : TE} {pos : Pos}
theorem pe_ix {r : R2} (hr : IxR X r) (ha : PE X a ta) (hb : PE X b tb) (hs : PlainIx b) : PE X (.Subscript a b pos) (tOp r ta tb) := by
  intro pins s σ H Q I h
  exact Subscript_ (binT ha hb I h fun v u s2 x y H2 I2 rx ry q => hr a b pins s2 σ H2 x y v u Q I2 rx ry q (hs _ _))
inductive IrIxL (K : PySem.W.Frag) (x : V) (y : V) (H : Hp) (Q : VK) : Prop
  | mk (p : _) (xs : _) (i : _) (v : _) (zz0 : x = .ref p) (zz1 : y = .int i) (zz2 : SqL K H p xs) (zz3 : atI xs i = some v) (zz4 : Q v H) : IrIxL K x y H Q
noncomputable def rIxL (K : PySem.W.Frag) : R2 := IrIxL K
inductive IrIxT (K : PySem.W.Frag) (x : V) (y : V) (H : Hp) (Q : VK) : Prop
  | mk (p : _) (xs : _) (i : _) (v : _) (zz0 : x = .ref p) (zz1 : y = .int i) (zz2 : SqT K H p xs) (zz3 : atI xs i = some v) (zz4 : Q v H) : IrIxT K x y H Q
noncomputable def rIxT (K : PySem.W.Frag) : R2 := IrIxT K
inductive IrIxS (x : V) (y : V) (H : Hp) (Q : VK) : Prop
  | mk (z : _) (i : _) (c : _) (zz0 : x = .str z) (zz1 : y = .int i) (zz2 : z.length ≤ sizeLine) (zz3 : atI z.cps.toList i = some c) (zz4 : Q (.str ⟨#[c]⟩) H) : IrIxS  x y H Q
noncomputable def rIxS : R2 := IrIxS 
theorem ix_list : IxR X (rIxL X.K) := by
  intro value slice pins s σ H x y v u Q I rx ry h hs
  refine hidG fun ZZ kZ => ?_
  obtain ⟨p, xs, i, z, rfl, rfl, hq, he, q⟩ := h
  refine kZ ?_
  cases rx
  refine hidG fun ZZ kZ => ?_
  obtain ⟨t, rfl⟩ := ry
  obtain ⟨its, r, pl, hz⟩ := I.list hq
  obtain ⟨j, h1, h2, h3, h4, h5⟩ := atI_get he
  obtain ⟨w, ew, rw'⟩ := r.get h2
  refine kZ ?_
  have hl := r.length
  have hn := line63
  have fin : EP X pins σ Q w s := ⟨z, H, I, rw', q⟩
  by_cases h0 : 0 ≤ i
  · have hj : i.toNat = j := by
      rw [seqIndex_of h0 h5] at h1
      exact Option.some.inj h1
    exact item_listR pl.isList h0 (by (first | lia | omega)) (by rw [hj]; simpa using ew) fin hs
  · have hj : (i + (its.toArray.size : Int)).toNat = j := by
      rw [seqIndex_neg (by (first | lia | omega)) h4] at h1
      rw [List.size_toArray, ← hl]
      exact Option.some.inj h1
    exact subscriptTail_builtinR (x := w) pl.isList.typeIs slot_list_getitem.lookup
      (wpAny_getItem_list_neg (Q := fun r s' => r = w ∧ EP X pins σ Q r s') pl.isList (by (first | lia | omega)) (by rw [List.size_toArray] <;> (first | lia | omega)) (by (first | lia | omega)) (by rw [hj]; simpa using ew) ⟨rfl, fin⟩) hs
theorem ix_tup : IxR X (rIxT X.K) := by
  intro value slice pins s σ H x y v u Q I rx ry h hs
  refine hidG fun ZZ kZ => ?_
  obtain ⟨p, xs, i, z, rfl, rfl, hq, he, q⟩ := h
  refine kZ ?_
  cases rx
  refine hidG fun ZZ kZ => ?_
  obtain ⟨t, rfl⟩ := ry
  obtain ⟨its, r, pl, hz⟩ := I.tuple hq
  obtain ⟨j, h1, h2, h3, h4, h5⟩ := atI_get he
  obtain ⟨w, ew, rw'⟩ := r.get h2
  refine kZ ?_
  have hl := r.length
  have hn := line63
  have fin : EP X pins σ Q w s := ⟨z, H, I, rw', q⟩
  exact subscriptTail_builtinR (x := w) pl.typeIs slot_tuple_getitem.lookup
    (getItem_tuple (j := j) (Q := fun r s' => r = w ∧ EP X pins σ Q r s') pl (by (first | lia | omega)) (by (first | lia | omega)) (by rw [List.size_toArray, ← hl]; exact h1) (by simpa using ew) ⟨rfl, fin⟩) hs
theorem ix_str : IxR X rIxS := by
  intro value slice pins s σ H x y v u Q I rx ry h hs
  refine hidG fun ZZ kZ => ?_
  obtain ⟨z, i, c, rfl, rfl, hz, he, q⟩ := h
  obtain ⟨t, rfl⟩ := rx
  obtain ⟨t', rfl⟩ := ry
  obtain ⟨j, h1, h2, h3, h4, h5⟩ := atI_get he
  refine kZ ?_
  have hl : z.cps.toList.length = z.length := by simp [Str.length]
  rw [hl] at h1 h4 h5
  have hn := line63
  exact tail_any (typeIs_str s z t) slot_str_getitem.lookup (getItem_str (c := c) (by
    have e1 : decide (i < -(2 ^ 63 : Int)) = false := decide_eq_false (by (first | lia | omega))
    have e2 : decide (i ≥ 2 ^ 63) = false := decide_eq_false (by (first | lia | omega))
    rw [e1, e2, Bool.or_false]) (by rw [h1]; simpa using h2) ⟨.str ⟨#[c]⟩, H, I.tok _, ⟨_, rfl⟩, q⟩) hs
theorem mapSeq_set (its : List Value) (n j : Nat) (u : Value) : Obj.mapSeq (·.setIfInBounds j u) { cls := .type "list", data := .seq its.toArray n } = { cls := .type "list", data := .seq (its.set j u).toArray n } := by
  simp [Obj.mapSeq]
theorem Inv.lst {pins : List (Addr × Obj)} {σ : St} {H : Hp} {s : Shared} {p : Addr} {xs : List V} (I : Inv X pins σ H s) (h : H p = some (.lst xs)) :
    ∃ (its : List Value) (n : Nat), Vals xs its ∧ s.heap.get? p = some { cls := .type "list", data := .seq its.toArray n } ∧ xs.length ≤ sizeLine := by
  refine hidG fun ZZ kZ => ?_
  obtain ⟨z, its, n, r, e⟩ := I.hok p _ h
  refine kZ ?_
  exact ⟨its, n, r, e, z⟩
theorem Inv.lstUpd {pins : List (Addr × Obj)} {σ : St} {H : Hp} {s : Shared} {p : Addr} {xs ys : List V} {its its' : List Value} {n n' : Nat} {f : Obj → Obj} (I : Inv X pins σ H s) (h : H p = some (.lst xs))
    (ho : s.heap.get? p = some { cls := .type "list", data := .seq its.toArray n }) (hf : f { cls := .type "list", data := .seq its.toArray n } = { cls := .type "list", data := .seq its'.toArray n' }) (r : Vals ys its') (hz : ys.length ≤ sizeLine) (t : Nat) :
    Inv X pins σ (upd H p (.lst ys)) { s with heap := s.heap.update p f, toks := t } := by
  have e : (s.heap.update p f).get? p = some { cls := .type "list", data := .seq its'.toArray n' } := by
    rw [Heap.get?_update_self f ho (by rw [hf] <;> rfl), hf]
  refine I.write (x := p) (e := p) (by rw [h]; trivial) (.inl rfl) (fun b u hb q => (Heap.get?_update_other _ _ (Ne.symm hb)).trans q) ⟨_, e⟩ ?_
  exact ⟨hz, its', n', r, e⟩
noncomputable def rSetL : V → V → V → Hp → (Hp → Prop) → Prop := fun o i v H Q => ∃ p xs k j, o = .ref p ∧ i = .int k ∧ H p = some (.lst xs) ∧ ixN xs.length k = some j ∧ Q (upd H p (.lst (xs.set j v)))
theorem set_list : PSet X rSetL := by
  intro pins s σ H o i v ov iv u Q I ro ri rv h
  refine hidG fun ZZ kZ => ?_
  obtain ⟨p, xs, k, j, rfl, rfl, hp, hj, q⟩ := h
  refine kZ ?_
  cases ro
  refine hidG fun ZZ kZ => ?_
  obtain ⟨t, rfl⟩ := ri
  obtain ⟨its, n, r, ho, hz⟩ := I.lst hp
  obtain ⟨h1, h2, h3, h4⟩ := ixN_seq hj
  refine kZ ?_
  have hl := r.length
  have hn := line63
  have I' : Inv X pins σ (upd H p (.lst (xs.set j v))) { s with heap := s.heap.update p (Obj.mapSeq (·.setIfInBounds j u)) } :=
    I.lstUpd hp ho (mapSeq_set its n j u) (r.set rv j) (by rw [List.length_set]; exact hz) s.toks
  by_cases h0 : 0 ≤ k
  · have hk : k.toNat = j := by
      rw [seqIndex_of h0 h4] at h1
      exact Option.some.inj h1
    exact PySem.W.ki_setAt ho h0 (by (first | lia | omega)) (by rw [List.size_toArray, ← hl]; exact h4) (by rw [hk]; exact ⟨_, I', q⟩)
  · have hk : (k + (its.toArray.size : Int)).toNat = j := by
      rw [seqIndex_neg (by (first | lia | omega)) h3] at h1
      rw [List.size_toArray, ← hl]
      exact Option.some.inj h1
    exact PySem.W.ki_setBack ho (by (first | lia | omega)) (by rw [List.size_toArray, ← hl]; exact h3) (by (first | lia | omega)) (by rw [hk]; exact ⟨_, I', q⟩)
theorem slice_bounds (lo hi : Option Int) (n : Nat) : (sliceBounds lo hi none n).1 = ((HT.sIx n 0 lo : Nat) : Int) ∧ (sliceBounds lo hi none n).2.1 = ((HT.sIx n n hi : Nat) : Int) ∧ (sliceBounds lo hi none n).2.2 = 1 := by
  refine ⟨?_, ?_, rfl⟩
  · cases lo with
    | none => simp [sliceBounds, HT.sIx]
    | some i =>
      simp only [sliceBounds, HT.sIx, Option.getD_none, show (1 : Int) > 0 by decide, if_true]
      by_cases h : i < 0
      · simp only [h, if_true] <;> (first | lia | omega)
      · simp only [h, if_false] <;> (first | lia | omega)
  · cases hi with
    | none => simp [sliceBounds, HT.sIx]
    | some i =>
      simp only [sliceBounds, HT.sIx, Option.getD_none, show (1 : Int) > 0 by decide, if_true]
      by_cases h : i < 0
      · simp only [h, if_true] <;> (first | lia | omega)
      · simp only [h, if_false] <;> (first | lia | omega)
theorem slicePick_cut (its : List Value) (lo hi : Option Int) : slicePick its.toArray lo hi none = ((its.drop (HT.sIx its.length 0 lo)).take (HT.sIx its.length its.length hi - HT.sIx its.length 0 lo)).toArray := by
  obtain ⟨h1, h2, h3⟩ := slice_bounds lo hi its.toArray.size
  unfold slicePick
  rw [h1, h2, h3]
  simp only [sliceRange_one, pick_run, List.size_toArray] <;> rfl
inductive IrSlL (K : PySem.W.Frag) (x : V) (lo : Option Int) (hi : Option Int) (H : Hp) (Q : VK) : Prop
  | mk (a : _) (xs : _) (zz0 : x = .ref a) (zz1 : SqL K H a xs) (zz2 : ∀ p, H p = none → Q (.ref p) (upd H p (.lst (cutV xs lo hi)))) : IrSlL K x lo hi H Q
noncomputable def rSlL (K : PySem.W.Frag) : V → Option Int → Option Int → Hp → VK → Prop := IrSlL K
theorem sl_list : SlR X (rSlL X.K) := by
  intro pins s σ H x v vl vu lo hi sl Q I rx hs pl pu h
  obtain ⟨a, xs, rfl, hx, q⟩ := h
  cases rx
  refine hidG fun ZZ kZ => ?_
  obtain ⟨its, r, ht, hz⟩ := I.list hx
  refine kZ ?_
  have hlen := r.length
  refine ⟨"list", _, slot_list_getitem.lookup, ht.isList.typeIs, ?_⟩
  refine wpAny_getItem_list_slice ht.isList hs pl pu .none (by simp) ?_ (by rw [List.size_toArray] <;> (first | lia | omega))
  rw [slicePick_cut, ← hlen]
  refine ⟨.ref s.heap.objs.size, _, I.laid (t' := s.toks) (o := .lst (cutV xs lo hi)) (fun b ob q => Heap.get?_push_of_some _ q) (Nat.le_refl _) ?_, rfl, q _ (I.hok.fresh (Nat.le_refl _))⟩
  exact ⟨Nat.le_trans (cutV_length xs lo hi) hz, _, 0, (r.drop (HT.sIx xs.length 0 lo)).take (HT.sIx xs.length xs.length hi - HT.sIx xs.length 0 lo), Heap.get?_push_size _ rfl⟩
inductive ILenQ (K : PySem.W.Frag) (xs : List V) (H : Hp) (Q : VK) : Prop
  | mk (p : Addr) (ys : List V) (zz0 : xs = [.ref p]) (zz1 : SqL K H p ys ∨ SqT K H p ys) (zz2 : Q (.int ys.length) H) : ILenQ K xs H Q
theorem call_len_seq : CallR X (.builtin "len") (ILenQ X.K) := by
  intro pins s σ H xs us Q I r h
  obtain ⟨p, ys, rfl, hq, q⟩ := h
  obtain ⟨u, rfl, rx⟩ := vals1 r
  cases rx
  have hn := line63
  rcases hq with hq | hq
  · refine hidG fun ZZ kZ => ?_
    obtain ⟨its, r', pl, hz⟩ := I.list hq
    refine kZ ?_
    have hlen := r'.length
    exact Calls.call_len_list pl.isList (by simp only [List.size_toArray] <;> (first | lia | omega)) ⟨.int ys.length, H, I.tok _, ⟨s.toks + 1, by rw [List.size_toArray, hlen]⟩, q⟩
  · refine hidG fun ZZ kZ => ?_
    obtain ⟨its, r', pl, hz⟩ := I.tuple hq
    refine kZ ?_
    have hlen := r'.length
    exact len_tuple pl (by simp only [List.size_toArray] <;> (first | lia | omega)) ⟨.int ys.length, H, I.tok _, ⟨s.toks + 1, by rw [List.size_toArray, hlen]⟩, q⟩
theorem call_tuple_of : CallR X (.type "tuple") (fun xs H Q => ∃ p ys, xs = [.ref p] ∧ ((SqL X.K H p ys ∧ ∀ l, H l = none → Q (.ref l) (upd H l (.tup ys))) ∨ (SqT X.K H p ys ∧ Q (.ref p) H))) := by
  intro pins s σ H xs us Q I r h
  obtain ⟨p, ys, rfl, h⟩ := h
  obtain ⟨u, rfl, rx⟩ := vals1 r
  cases rx
  rcases h with ⟨hq, q⟩ | ⟨hq, q⟩
  · refine hidG fun ZZ kZ => ?_
    obtain ⟨its, r', pl, hz⟩ := I.list hq
    refine kZ ?_
    have hlen := r'.length
    refine call_tuple_list pl.isList (fun h' kp => ?_) (by simp only [List.size_toArray] <;> (first | lia | omega))
    have I1 : Inv X pins σ H { s with heap := h' } := I.kept (t' := s.toks) kp
    have I2 : Inv X pins σ (upd H h'.objs.size (.tup ys)) { s with heap := h'.push { cls := .type "tuple", data := .seq its.toArray } } :=
      I1.laid (t' := s.toks) (fun b o e => Heap.get?_push_of_some _ e) (Nat.le_refl _) (show ObjOk X.prog X.w _ _ _ (.tup ys) from ⟨hz, its, 0, r', Heap.get?_push_size _ rfl⟩)
    exact ⟨.ref h'.objs.size, _, I2, rfl, q _ (I1.hok.fresh (Nat.le_refl _))⟩
  · refine hidG fun ZZ kZ => ?_
    obtain ⟨its, r', pl, hz⟩ := I.tuple hq
    refine kZ ?_
    exact call_tuple_same pl ⟨.ref p, H, I, rfl, q⟩
noncomputable def tyV (K : PySem.W.Frag) (T : String) (x : V) (H : Hp) : Prop := match x with
  | .str _ => T = "str"
  | .int _ => T = "int"
  | .ref p => (T = "list" ∧ ∃ xs, SqL K H p xs) ∨ (T = "tuple" ∧ ∃ o, K.lookup p = some o ∧ o.cls = .type "tuple" ∧ o.dict = none) ∨
      (T = "dict" ∧ ((∃ kvs, H p = some (.dK kvs)) ∨ ∃ kvs, H p = some (.dT kvs))) ∨ (T = "set" ∧ ∃ S n, H p = some (.set S n))
  | _ => False
theorem tyV_is {pins : List (Addr × Obj)} {σ : St} {H : Hp} {s : Shared} {T : String} {x : V} {v : Value} (I : Inv X pins σ H s) (r : RelV x v) (ty : tyV X.K T x H) :
    s.TypeIs v T ∧ ∀ a, v = .ref a → ∃ ob, s.heap.get? a = some ob ∧ ob.dict = none := by
  cases x with
  | str z =>
    obtain ⟨t, rfl⟩ := r
    cases (show T = "str" from ty)
    exact ⟨typeIs_str s z t, fun _ e => nomatch e⟩
  | int i =>
    obtain ⟨t, rfl⟩ := r
    cases (show T = "int" from ty)
    exact ⟨typeIs_int s i t, fun _ e => nomatch e⟩
  | ref p =>
    cases r
    rcases ty with ⟨rfl, xs, hq⟩ | ⟨rfl, o, hk, hc, hd⟩ | ⟨rfl, hk⟩ | ⟨rfl, S, n, hk⟩
    · refine hidG fun ZZ kZ => ?_
      obtain ⟨its, _, pl, _⟩ := I.list hq
      refine kZ ?_
      refine ⟨pl.isList.typeIs, fun a e => ?_⟩
      cases e
      refine hidG fun ZZ kZ => ?_
      obtain ⟨o, n, e, c, hd, _⟩ := pl
      refine kZ ?_
      exact ⟨o, e, hd⟩
    · refine ⟨⟨o, I.kIn p o hk, hc⟩, fun a e => ?_⟩
      cases e
      exact ⟨o, I.kIn _ o hk, hd⟩
    · have z : ∃ o, s.heap.get? p = some o ∧ o.ExactDict := by
        rcases hk with ⟨kvs, hk⟩ | ⟨kvs, hk⟩
        · obtain ⟨_, _, _, _, o, _, _, e, ex, _⟩ := I.hok p _ hk
          exact ⟨o, e, ex⟩
        · obtain ⟨_, _, _, _, o, _, _, e, ex, _⟩ := I.hok p _ hk
          exact ⟨o, e, ex⟩
      obtain ⟨o, e, ex⟩ := z
      refine ⟨⟨o, e, ex.1⟩, fun a e2 => ?_⟩
      cases e2
      exact ⟨o, e, ex.2.1⟩
    · refine hidG fun ZZ kZ => ?_
      obtain ⟨o, _, _, _, e, ex, _⟩ := I.hok p _ hk
      refine kZ ?_
      refine ⟨⟨o, e, ex.1⟩, fun a e2 => ?_⟩
      cases e2
      exact ⟨o, e, ex.2.1⟩
  | _ => exact False.elim ty
noncomputable def tBM (K : PySem.W.Frag) (T : String) (r : V → List V → Hp → VK → Prop) (to : TE) (t : TA) : TE := fun σ H Q => to σ H fun x H1 => tyV K T x H1 ∧ t σ H1 fun xs H2 => r x xs H2 Q
variable {o e : Expr} {es : List Expr} {to : TE} {t : TA} {name : Str} {apos cpos : Pos} {T id : String} {r : V → List V → Hp → VK → Prop}
theorem pe_bm (pa : PlainAttrs T) (slot : Slot T name id) (hty : typeOf (.builtin id) = pure (.type "method_descriptor")) (hm : MtR X id r) (ho : PE X o to) (ha : PA X (e :: es) t)
    (hbase : attributeBase o name X.env (eval o X.env) = eval o X.env := by rfl)
    (hfew : ((backTo cpos (starEach (e :: es) X.env)).all (fun x => !x.1) && (backToKw cpos (keywordEach [] X.env)).all (fun x => x.1.isSome)
      && decide ((e :: es).length + ([] : List Keyword).length + (if ([] : List Keyword).isEmpty then 0 else 1) < 30)) = true := by rfl)
    (hline : (apos.endLine == cpos.line) = true := by rfl) (hs : starEach (e :: es) X.env = (false, eval e X.env) :: starEach es X.env := by rfl) (hplain : (backTo cpos (starEach es X.env)).any (·.1) = false := by rfl) :
    PE X (.Call (.Attribute o name apos) (e :: es) [] cpos) (tBM X.K T r to t) := by
  intro pins s σ H Q I h
  refine wpAny_Call_method_late hbase hfew hline rfl (thn (ho pins s σ H _ I h) fun v s1 zz => el24 zz fun x H1 I1 r1 ty q1 => ?_)
  obtain ⟨h1, h2⟩ := tyV_is I1 r1 ty
  refine ⟨T, id, pa, slot, hty, h1, h2, ?_⟩
  have hA := ha cpos pins s1 σ H1 _ I1 q1
  rw [hs] at hA ⊢
  refine Calls.callWith_builtin (by show (false || (backTo cpos (starEach es X.env)).any (·.1)) = false; rw [hplain] <;> rfl) (Calls.evalArgs_plain ?_)
  exact thn hA fun us s2 zz => el23 zz fun vs H2 I2 r2 q2 => hm pins s2 σ H2 x vs v us Q I2 r1 r2 q2
end
end L2
namespace L2
open PySem PySem.Spec PyProof.Rows
noncomputable def MtM (X : Cx) (id : String) (r : V → List V → Hp → VK → Prop) : Prop :=
  ∀ (pins : List (Addr × Obj)) (s : Shared) (σ : St) (H : Hp) (x : V) (xs : List V) (v : Value) (us : List Value) (Q : VK), Inv X pins σ H s → RelV x v → Vals xs us → r x xs H Q →
    wpAny (model X.prog X.w) X.A (call (.builtin id) (v :: us)) (EP X pins σ Q) X.xe s
theorem Vals.one : ∀ {x : V} {us : List Value}, Vals [x] us → ∃ u, us = [u] ∧ RelV x u
  | _, _, .cons r .nil => ⟨_, rfl, r⟩
section
variable {X : Cx} {pins : List (Addr × Obj)} {σ : St} {H : Hp} {s : Shared} {l b : Addr} {xs ys zs : List V}
theorem Inv.lset {its its' : List Value} {n : Nat} {f : Array Value → Array Value} {t' : Nat} (I : Inv X pins σ H s) (hH : H l = some (.lst xs))
    (e : s.heap.get? l = some { cls := .type "list", data := .seq its.toArray n }) (hf : f its.toArray = its'.toArray) (hv : Vals ys its') (hz : ys.length ≤ sizeLine) :
    Inv X pins σ (upd H l (.lst ys)) { s with heap := s.heap.update l (Obj.mapSeq f), toks := t' } := by
  have q := PySem.IsL.update e f
  rw [hf] at q
  refine I.write (x := l) (e := l) (by rw [hH]; exact trivial) (.inl rfl) (fun b' u hb hu => (Heap.get?_update_other s.heap (Obj.mapSeq f) (Ne.symm hb)).trans hu) ⟨_, q⟩ ?_
  exact ⟨hz, its', _, hv, q⟩
theorem Inv.lnew {its : List Value} {t' : Nat} (I : Inv X pins σ H s) (hv : Vals ys its) (hz : ys.length ≤ sizeLine) :
    Inv X pins σ (upd H s.heap.objs.size (.lst ys)) { s with heap := s.heap.push { cls := .type "list", data := .seq its.toArray }, toks := t' } :=
  I.laid (fun _ _ q => Heap.get?_push_of_some _ q) (Nat.le_refl _) ⟨hz, its, 0, hv, Heap.get?_push_size _ rfl⟩
theorem Inv.fresh (I : Inv X pins σ H s) : H s.heap.objs.size = none := I.hok.fresh (Nat.le_refl _)
theorem Inv.lstM (I : Inv X pins σ H s) (hH : H l = some (.lst xs)) : xs.length ≤ sizeLine ∧ ∃ (its : List Value) (n : Nat), Vals xs its ∧ xs.length = its.length ∧ s.heap.get? l = some { cls := .type "list", data := .seq its.toArray n } := by
  refine hidG fun ZZ kZ => ?_
  obtain ⟨z, its, n, r, e⟩ := I.hok l _ hH
  refine kZ ?_
  exact ⟨z, its, n, r, r.length, e⟩
end
section
variable {X : Cx}
inductive IrAppend (x : V) (vs : List V) (H : Hp) (Q : VK) : Prop
  | mk (l : _) (xs : _) (y : _) (zz0 : x = .ref l) (zz1 : vs = [y]) (zz2 : H l = some (.lst xs)) (zz3 : xs.length < sizeLine) (zz4 : Q .non (upd H l (.lst (xs ++ [y])))) : IrAppend  x vs H Q
noncomputable def rAppend : V → List V → Hp → VK → Prop := IrAppend 
theorem mt_append : MtM X "list.append" rAppend := by
  intro pins s σ H x vs v us Q I rx rv h
  obtain ⟨l, xs, y, rfl, rfl, hH, hz, q⟩ := h
  cases rx
  obtain ⟨u, rfl, ru⟩ := rv.one
  obtain ⟨z, its, n, r, hl, e⟩ := I.lstM hH
  refine call_meets F.slot_list_append ⟨_, e, rfl⟩ F.entry_list_append (F.args_list_append_2 _ _) (PySem.list_append l its.toArray n u (by rw [List.size_toArray]; (first | lia | omega))) ⟨e, ?_⟩
  refine ⟨.non, _, I.lset (its' := its ++ [u]) hH e (by simp) (r.append (.cons ru .nil)) ?_, rfl, q⟩
  rw [List.length_append, List.length_singleton]
  (first | lia | omega)
inductive IrCat (x : V) (y : V) (H : Hp) (Q : VK) : Prop
  | mk (l : _) (b : _) (xs : _) (zs : _) (zz0 : x = .ref l) (zz1 : y = .ref b) (zz2 : H l = some (.lst xs)) (zz3 : H b = some (.lst zs)) (zz4 : xs.length + zs.length ≤ sizeLine) (zz5 : ∀ p, H p = none → Q (.ref p) (upd H p (.lst (xs ++ zs)))) : IrCat  x y H Q
noncomputable def rCat : R2 := IrCat 
theorem op_cat : OpR X (binaryOp .Add) rCat := by
  intro pins s σ H x y v u Q I rx ry h
  refine hidG fun ZZ kZ => ?_
  obtain ⟨l, b, xs, zs, rfl, rfl, hH, hB, hz, q⟩ := h
  refine kZ ?_
  cases rx
  cases ry
  refine hidG fun ZZ kZ => ?_
  obtain ⟨z, its, n, r, hl, e⟩ := I.lstM hH
  obtain ⟨z2, its2, n2, r2, hl2, e2⟩ := I.lstM hB
  refine kZ ?_
  refine PySem.P.add_list e e2 ?_ (by rw [List.size_toArray, List.size_toArray]; (first | lia | omega))
  have ea : its.toArray ++ its2.toArray = (its ++ its2).toArray := by simp
  rw [ea]
  exact ⟨.ref _, _, I.lnew (t' := s.toks) (r.append r2) (by rw [List.length_append]; (first | lia | omega)), rfl, q _ I.fresh⟩
end
section
variable {prog : Program} {w : World} {A : Around} {E : Value → Shared → Prop} {s : Shared}
end
section
variable {X : Cx}
end
end L2
namespace Att
open PySem PySem.W PySem.Calls PyProof.Rows
theorem ints_of_wellAll {P : Params} {h : Heap} : ∀ (ns : List Int) (vs : List Value), WellAll P h vs (ns.map WData.int) → IntsAre vs ns := by
  intro ns
  induction ns with
  | nil =>
    intro vs w
    rw [List.map_nil] at w
    cases w
    exact .nil
  | cons n ns ih =>
    intro vs w
    rw [List.map_cons] at w
    cases w with
    | cons a b =>
      cases a
      exact .cons _ _ (ih _ b)
theorem script_of {l : OpenLaw} {n : Nat} (hn : l.most = some n) {P : Params} {h : Heap} {args : List WData} {vals : List Value}
    (hpre : l.row.toRowW.claim.pre args = true) (hwl : WellAll P h vals args) :
    ∃ a vs ns, vals = [Value.ref a] ∧ args = [WData.list (ns.map WData.int)] ∧ h.get? a = some { cls := .type "list", data := .seq vs.toArray } ∧ IntsAre vs ns ∧ ns.length ≤ n := by
  have hsh : WShape.hasAll [] args [.list .int] = true := (pre_splitW hpre).1
  have hc : l.pre.holds [] { args := args } = true := (pre_splitW hpre).2
  obtain ⟨d, r, rfl, h1, h2⟩ := hasAllW_cons hsh
  obtain rfl := hasAllW_nil h2
  obtain ⟨xs, rfl, h3⟩ := hasW_list h1
  obtain ⟨ns, rfl⟩ := items_int h3
  have hlen : ns.length ≤ n := by
    unfold OpenLaw.pre at hc
    have h4 : (WTm.not (.lt (.lit (.int (n : Int))) (.len (.arg 0)))).holds [] { args := [.list (ns.map .int)] } = true := by
      have h4 := (holds_andW hc).1
      rw [hn] at h4
      exact h4
    have h5 := condW_of h4 (w_not (w_lt w_lit (w_len_list (w_arg rfl))))
    rw [List.length_map] at h5
    refine Nat.le_of_not_lt fun q => ?_
    have q' : (n : Int) < ((ns.length : Nat) : Int) := by (first | lia | omega)
    first
      | (rw [decide_eq_true q'] at h5; exact absurd h5 (by decide))
      | (simp at h5; (first | lia | omega))
  cases hwl with
  | cons w1 w2 =>
    cases w2
    cases w1 with
    | list ho hall => exact ⟨_, _, ns, rfl, rfl, ho, ints_of_wellAll ns _ hall, hlen⟩
theorem post_true (l : OpenLaw) (args : List WData) : l.row.toRowW.claim.post args (.bool true) args = true :=
  postW_of (r := l.row.toRowW) (X := (true == true))
    (show WShape.has [] (.bool true) .bool = true by first | rfl | decide | simp [WShape.has, WShape.arms, WShape.armsAll])
    (show (WTm.eq .res (.lit (.bool true))).value [] { args := args, res := some (.bool true), after := args } = some (.bool (true == true)) from w_eq_bool (w_res rfl) w_lit) rfl
theorem attach_call {l : OpenLaw} {n : Nat} {q : Program} {loose : List Str} {XP : (Str → Option Value) → Heap → Prop} {YP : World → Heap → Prop} {d : DefRec}
    (hn : l.most = some n) (hdf : d.params.defaults = [])
    (call : ∀ (w : World) (s₀ s₁ : Shared) (mg mb : Str → Option Value) (fa : Addr) (o : Obj) (pm cd doc : Value) (a : Addr) (vs : List Value) (ns : List Int),
      Ground q loose [] XP w s₀ mg mb s₁.heap → YP w s₁.heap →
      s₁.heap.get? fa = some o → o.data = .func (docDef d.name d.params d.body d.scope pm cd doc) → s₁.heap.CodeRec cd d.name → mg d.name = some (.ref fa) →
      s₁.heap.get? a = some { cls := .type "list", data := .seq vs.toArray } → IntsAre vs ns → ns.length ≤ n → s₁.gens = #[] →
      codeAny (model l.prog w) callerA (.call (.ref fa) ⟨[.ref a], []⟩) (fun r s' => r = .ok (.ret (.bool true)) ∧ OldK s₁.heap s'.heap ∧ s'.os = s₁.os ∧ AllBare s'.gens) s₁) :
    WalkO q loose XP YP l.row.toRowW d [] (fun f vs => PySem.call f vs) := by
  intro w s₀ s₁ mg mb G Y fa o pm cd doc dV kV ho hd hcd hD hmg hg args vals as hpre hlay hrd hwl hlo
  obtain rfl : dV = .none := Dflts.none hD hdf
  obtain rfl : kV = .none := Dflts.noKw hD
  refine hidG fun ZZ kZ => ?_
  obtain ⟨a, vs, ns, rfl, rfl, hobj, hints, hlen⟩ := script_of hn hpre hwl
  refine kZ ?_
  refine enter_call (codeAny_mono (call w s₀ s₁ mg mb fa o pm cd doc a vs ns G Y ho (fd_plain hd) hcd hmg hobj hints hlen hg) fun r s' hq => ?_)
  obtain ⟨rfl, h2, h3, h4⟩ := hq
  exact ⟨.inl ⟨.bool true, .bool true, [], rfl, fun _ => rfl, .bool true, post_true l _, fun _ => ⟨List.Pairwise.nil, fun _ hm => (nomatch hm)⟩⟩, h2, h3, h4⟩
section
variable {prog : Program} {w : World} {A : Around} {E : Value → Shared → Prop} {s : Shared} {K : Frag}
end
end Att
namespace L2
open PySem PySem.Spec PyProof.Rows
theorem vals_ints : ∀ {vs : List Value} {ns : List Int}, IntsAre vs ns → Vals (ns.map V.int) vs
  | _, _, .nil => .nil
  | _, _, .cons n t h => .cons ⟨t, rfl⟩ (vals_ints h)
noncomputable def Only (H : Hp) : Prop := ∀ b, H b = none ∨ ∃ o xs, H b = some (.frz o (.lst xs))
theorem law_call {P : Program} {w : World} {K : PySem.W.Frag} {mg mb : Str → Option Value} {CX : CXT} {k : Nat} {fa a : Addr} {fd : FuncData} {x : Str} {sp : Sp} {s₁ : Shared} {vs : List Value} {ns : List Int}
    (KX : K.In s₁.heap) (hns : s₁.heap.Ns mainGlobals mg) (hb : s₁.heap.Ns builtinsNs mb) (hbb : ∀ x : Str, x ≠ "__name__" → mb x = bootBuiltins x) (hlim : s₁.heap.NoLimit) (hg : s₁.gens = #[])
    (ha : s₁.heap.get? a = some { cls := .type "list", data := .seq vs.toArray }) (hi : IntsAre vs ns) (hl : ns.length ≤ sizeLine) (hr : Room k callerA)
    (F : ∀ base : Heap, K.In base → base.Ns mainGlobals mg → FnOk P w K mg base CX k fa fd [x] sp) (hbind : ∀ (s : Shared) (u : Value), BindsTo s fd ⟨[u], []⟩ [(x, u)])
    (hsp : ∀ H : Hp, Only H → SqL K H a (ns.map V.int) → sp [.ref a] H (fun v _ => v = .bl true) fun _ _ _ => False)
    (hCX : ∀ H e s', CX [] H s₁ (fun _ _ _ => False) e s' → False) :
    codeAny (model P w) callerA (.call (.ref fa) ⟨[.ref a], []⟩) (fun r s' => r = .ok (.ret (.bool true)) ∧ OldK s₁.heap s'.heap ∧ s'.os = s₁.os ∧ AllBare s'.gens) s₁ := by
  have rv := vals_ints hi
  have lenV := hi.length
  -- from an abstract heap in which nothing but the script may be tracked
  have core : ∀ H : Hp, Only H → SqL K H a (ns.map V.int) → HOk P w H s₁.heap → (∀ b, H b ≠ none → b = a) → (H a ≠ none → K.lookup a = none) →
      codeAny (model P w) callerA (.call (.ref fa) ⟨[.ref a], []⟩) (fun r s' => r = .ok (.ret (.bool true)) ∧ OldK s₁.heap s'.heap ∧ s'.os = s₁.os ∧ AllBare s'.gens) s₁ := by
    intro H hO hS hok hA hK
    have base_of : ∀ {b : Addr} {o : Obj}, s₁.heap.get? b = some o → H b = none → (hidT s₁.heap H).get? b = some o := fun e n => hidT_get e n
    have noA : ∀ {b : Addr} {o : Obj} {es : Array DictEntry} {ep : Nat}, s₁.heap.get? b = some o → o.data = .dict es ep → H b = none := fun {b o es ep} e d => by
      cases q : H b with
      | none => rfl
      | some u =>
        have e' : b = a := hA b (by rw [q]; simp)
        subst e'
        rw [ha] at e; cases e
        have d' : Data.seq vs.toArray _ = Data.dict es ep := d
        cases d'
    have nsK : ∀ {b : Addr} {m : Str → Option Value}, s₁.heap.Ns b m → (hidT s₁.heap H).Ns b m := fun {b m} ⟨o, es, ep, e, d, r⟩ => ⟨o, es, ep, base_of e (noA e d), d, r⟩
    have hKb : K.In (hidT s₁.heap H) := fun b o e => base_of (KX b o e) (by
      cases q : H b with
      | none => rfl
      | some u =>
        have e' : b = a := hA b (by rw [q]; simp)
        subst e'
        rw [hK (by rw [q]; simp)] at e; cases e)
    have hM : Mod K mg (hidT s₁.heap H) := ⟨hKb, nsK hns, ⟨mb, nsK hb, hbb⟩, let ⟨mc, h1, h2⟩ := hlim; ⟨mc, nsK h1, h2⟩⟩
    have e0 : Env0 P w K mg (hidT s₁.heap H) callerA [] s₁ H := ⟨rfl, hM, fun b o e => of_hidT e, Nat.le_of_eq (hidT_size _ _), trivial, fun b hb => absurd (show b ∈ ([] : List Addr) from hb) (by simp), hok, .of_eq hg⟩
    refine codeAny_mono ((F _ hKb (nsK hns)).run callerA [] s₁ H ⟨[.ref a], []⟩ [.ref a] [.ref a] _ _ hr e0 (hbind s₁ (.ref a)) (.cons rfl .nil) (hsp H hO hS)) fun r s' h => ?_
    cases r with
    | error e => exact (hCX H e s' h).elim
    | ok fl =>
      cases fl with
      | next => exact False.elim h
      | brk => exact False.elim h
      | cont => exact False.elim h
      | ret u =>
        obtain ⟨v, H', os, bare, un, hok', r', q⟩ := h
        have q' : v = .bl true := q
        subst q'
        obtain rfl : u = Value.bool true := r'
        refine ⟨rfl, OldK.of_keep fun b o e => ?_, os, bare⟩
        cases q : H b with
        | none => exact un.keep b o e q (by intro z; exact absurd (show b ∈ ([] : List Addr) from z) (by simp)) (by simp)
        | some u =>
          rcases hO b with z | ⟨ob, xs, z⟩
          · rw [q] at z; cases z
          · have z2 := un.frzs b ob _ z
            obtain ⟨e1, _⟩ := hok b _ z
            obtain ⟨e2, _⟩ := hok' b _ z2
            rw [e] at e1; cases e1
            exact e2
  cases hk : K.lookup a with
  | some o =>
    -- the script is one of the module's own objects
    have e := KX a o hk
    rw [ha] at e
    cases e
    refine core (fun _ => none) (fun _ => .inl rfl) (.inr ⟨_, vs.toArray, _, hk, rfl, rfl, rfl, by rw [List.size_toArray, lenV]; exact hl, by simpa using rv⟩) (fun b u z => by have z' : (none : Option HO) = some u := z; cases z') (fun b z => absurd rfl z) fun z => absurd rfl z
  | none =>
    refine core (fun b => if b = a then some (.frz { cls := .type "list", data := .seq vs.toArray } (.lst (ns.map V.int))) else none) (fun b => ?_) (.inl (.inr ⟨{ cls := .type "list", data := .seq vs.toArray }, if_pos rfl⟩)) (fun b u z => ?_) (fun b z => ?_) fun _ => hk
    · by_cases hb : b = a
      · exact .inr ⟨_, _, if_pos hb⟩
      · exact .inl (if_neg hb)
    · by_cases hb : b = a
      · have z' := (if_pos hb).symm.trans z
        cases z'
        subst hb
        exact ⟨ha, by rw [List.length_map]; exact hl, vs, _, rv, ha⟩
      · have z' := (if_neg hb).symm.trans z
        cases z'
    · by_cases hb : b = a
      · exact hb
      · exact absurd (if_neg hb) z
end L2
namespace L2
open PySem PySem.Spec PyProof.Rows
theorem walk_of {l : PySem.W.OpenLaw} {n k : Nat} {q : Program} {loose : List Str} {XP : (Str → Option Value) → Heap → Prop} {YP : World → Heap → Prop} {d : DefRec} {K : Params → PySem.W.Frag} {CX : World → CXT} {sp : World → Sp} {x : Str}
    (hn : l.most = some n) (hn2 : n ≤ sizeLine) (hdf : d.params.defaults = []) (hr : Room k callerA)
    (hY : ∀ (w : World) (h : Heap), YP w h → (K w.params).In h)
    (F : ∀ (w : World) (mg : Str → Option Value) (fa : Addr) (h : Heap), (K w.params).In h → h.Ns mainGlobals mg → mg d.name = some (.ref fa) →
      ∃ fd : FuncData, (∀ (s : Shared) (u : Value), BindsTo s fd ⟨[u], []⟩ [(x, u)]) ∧
        ∀ base : Heap, (K w.params).In base → base.Ns mainGlobals mg → FnOk l.prog w (K w.params) mg base (CX w) k fa fd [x] (sp w))
    (hsp : ∀ (w : World) (H : Hp) (a : Addr) (ns : List Int), ns.length ≤ n → Only H → SqL (K w.params) H a (ns.map V.int) → sp w [.ref a] H (fun v _ => v = .bl true) fun _ _ _ => False)
    (hCX : ∀ (w : World) (H : Hp) (s : Shared) (e : Value) (s' : Shared), CX w [] H s (fun _ _ _ => False) e s' → False) :
    PySem.W.WalkO q loose XP YP l.row.toRowW d [] (fun f vs => PySem.call f vs) := by
  refine Att.attach_call hn hdf fun w s₀ s₁ mg mb fa o pm cd doc a vs ns G Y ho hd hcd hmg hobj hints hlen hg => ?_
  have KX := hY w _ Y
  obtain ⟨fd, hb, hF⟩ := F w mg fa _ KX G.T.g hmg
  exact law_call KX G.T.g G.T.b G.T.builtins G.T.nolimit hg hobj hints (Nat.le_trans hlen hn2) hr hF hb (fun H hO hS => hsp w H a ns hlen hO hS) fun H e s' => hCX w H s₁ e s'
end L2
namespace L2
open PySem PySem.Spec PyProof.Rows
noncomputable def defArgs (s : Stmt) : Arguments := match s with
  | .FunctionDef _ a _ _ _ _ _ _ _ _ => a
  | _ => { posonlyargs := [], args := [], vararg := none, kwonlyargs := [], kw_defaults := [], kwarg := none, defaults := [] }
noncomputable def defBody (s : Stmt) : List Stmt := match s with
  | .FunctionDef _ _ b _ _ _ _ _ _ _ => b
  | _ => []
noncomputable def defScope (s : Stmt) : Scope := match s with
  | .FunctionDef _ _ _ _ _ _ sc _ _ _ => sc
  | _ => { kind := .function, names := [], isGenerator := false, isCoroutine := false }
noncomputable abbrev CX0 : CXT := fun _ _ _ _ _ _ => False
noncomputable abbrev E0 : XK := fun _ _ _ => False
theorem pass0 {X : Cx} : Passes CX0 X E0 := fun _ _ _ _ _ _ _ h => h.elim
structure Fun (K : PySem.W.Frag) (x qual : Str) (st : Stmt) (f : Addr) (fd : FuncData) : Prop where
  ex : ∃ (oc : Value) (od : Option Addr) (kV doc pm : Value) (an : Option Addr) (cdv ct : Value) (osl : Array (Option Value)),
    fd = PySem.W.fnOf x qual (defArgs st) (defBody st) (defScope st) .none kV doc pm an cdv ct ∧ K.lookup f = some ⟨oc, od, .func fd, osl⟩ ∧ PySem.W.codeIn K cdv qual = true
  kp : PySem.W.keepIn K (.ref f) = true
section
variable {P : Program} {w : World} {K : PySem.W.Frag} {mg : Str → Option Value} {base : Heap}
theorem Fun.ok {x qual : Str} {st : Stmt} {f : Addr} {fd : FuncData} {N ps : List Str} {k : Nat} {sp : Sp} (F : Fun K x qual st f fd) (S : FnScope N ps (defScope st)) (len : ∀ vs H Q E, sp vs H Q E → vs.length = ps.length)
    (hbody : ∀ (cdv : Value) (A : Around) (outer : List Env) (s : Shared) (H : Hp) (vs : List V) (Q : VK) (E : XK), Room k (A.deeper (envOfC qual (defScope st) s.heap.objs.size f cdv)) → sp vs H Q E →
      ∃ t, PSs (cxOf CX0 P w K mg base N qual (defScope st) f cdv A outer s H E).nox (defBody st) t ∧ t { nx := fun _ H' => Q .non H', rt := Q } (start N vs) H) : FnOk P w K mg base CX0 (k + 1) f fd ps sp := by
  refine hidG fun ZZ kZ => ?_
  obtain ⟨oc, od, kV, doc, pm, an, cdv, ct, osl, rfl, lk, hcd⟩ := F.ex
  refine kZ ?_
  refine fn_of lk hcd S len fun A outer s H vs Q E hr hsp => ?_
  obtain ⟨t, h, q⟩ := hbody cdv A outer s H vs Q E hr hsp
  exact ⟨t, h.nox, q⟩
theorem Fun.binds {x qual : Str} {st : Stmt} {f : Addr} {fd : FuncData} {ps : List Str} (F : Fun K x qual st f fd)
    (h : ∀ (kV doc pm : Value) (an : Option Addr) (cdv ct : Value) (us : List Value), us.length = ps.length → bindArgs (PySem.W.fnOf x qual (defArgs st) (defBody st) (defScope st) .none kV doc pm an cdv ct) ⟨us, []⟩ = pure (ps.zip us)) : Binds K fd ps [] := by
  refine hidG fun ZZ kZ => ?_
  obtain ⟨oc, od, kV, doc, pm, an, cdv, ct, osl, rfl, lk, hcd⟩ := F.ex
  refine kZ ?_
  exact .all (h kV doc pm an cdv ct)
theorem fun_mk {x qual : Str} {st : Stmt} {f : Addr} {oc : Value} {od an : Option Addr} {osl : Array (Option Value)} {kV doc pm cdv ct : Value} (l : K.lookup f = some ⟨oc, od, .func (PySem.W.fnOf x qual (defArgs st) (defBody st) (defScope st) .none kV doc pm an cdv ct), osl⟩)
    (c : PySem.W.codeIn K cdv qual = true) (k : PySem.W.keepIn K (.ref f) = true) : Fun K x qual st f (PySem.W.fnOf x qual (defArgs st) (defBody st) (defScope st) .none kV doc pm an cdv ct) := ⟨⟨oc, od, kV, doc, pm, an, cdv, ct, osl, rfl, l, c⟩, k⟩
end
section
variable {X : Cx}
theorem pv (i : Nat) {x : Str} {pos : Pos} (hN : X.N[i]? = some x := by rfl) (hv : Vis X.env.scope x := by first | exact Or.inl rfl | exact Or.inr (Or.inl rfl) | exact Or.inr (Or.inr rfl)) (hd : (x == ("__debug__" : Str)) = false := by decide)
    (hcd : (x == ("__classdict__" : Str)) = false := by decide) : PE X (.Name x pos) (tVar i) := pe_var hN hv hd hcd
end
theorem iteF {A B : Prop} (h : B) : if false = true then A else B := by
  rw [if_neg Bool.false_ne_true]
  exact h
theorem iteT {A B : Prop} (h : A) : if true = true then A else B := by
  rw [if_pos rfl]
  exact h
theorem ite2 {c A B : Prop} [Decidable c] (h1 : c → A) (h2 : ¬ c → B) : if c then A else B := by
  by_cases h : c
  · rw [if_pos h]
    exact h1 h
  · rw [if_neg h]
    exact h2 h
noncomputable def Same (H H' : Hp) : Prop := ∀ b o, H b = some o → H' b = some o
theorem Same.refl (H : Hp) : Same H H := fun _ _ h => h
theorem Same.trans {H H1 H2 : Hp} (a : Same H H1) (b : Same H1 H2) : Same H H2 := fun c o h => b c o (a c o h)
theorem Same.free {H H' : Hp} (e : Same H H') {l : Addr} (h : H' l = Option.none) : H l = Option.none := by
  cases q : H l with
  | none => rfl
  | some o =>
    rw [e l o q] at h
    cases h
theorem Same.seq {K : PySem.W.Frag} {H H' : Hp} {a : Addr} {xs : List V} (e : Same H H') (h : SqL K H a xs) : SqL K H' a xs := by
  rcases h with (h | ⟨o, h⟩) | h
  · exact .inl (.inl (e _ _ h))
  · exact .inl (.inr ⟨o, e _ _ h⟩)
  · exact .inr h
end L2
namespace L2
open PySem PySem.Spec PyProof.Rows
theorem closure_go (env : Env) : ∀ (ns : List (Str × NameKind)) (acc : List (Str × Addr)), (∀ n, (n, NameKind.free) ∈ ns → ∃ c, env.cells.lookup n = some c) →
    (∀ x c, acc.lookup x = some c → env.cells.lookup x = some c) →
    ∃ cl, (forIn ns acc fun (x : Str × NameKind) (cs : List (Str × Addr)) => (if (x.2 == NameKind.free) = true then (do let a ← cellOf env x.1; pure (ForInStep.yield ((x.1, a) :: cs))) else pure (ForInStep.yield cs) : Sem _)) = pure cl ∧
      (∀ x c, cl.lookup x = some c → env.cells.lookup x = some c) ∧ (∀ n, (n, NameKind.free) ∈ ns → ∃ c, cl.lookup n = some c) ∧ ∀ n c, acc.lookup n = some c → cl.lookup n = some c
  | [], acc, _, ha => ⟨acc, rfl, ha, fun _ h => by simp at h, fun _ _ h => h⟩
  | (n, k) :: r, acc, hf, ha => by
    by_cases hk : k = NameKind.free
    · subst hk
      refine hidG fun ZZ kZ => ?_
      obtain ⟨c, hc⟩ := hf n List.mem_cons_self
      have ha' : ∀ x c', ((n, c) :: acc).lookup x = some c' → env.cells.lookup x = some c' := fun x c' e => by
        rw [List.lookup_cons] at e
        cases hx : x == n with
        | true =>
          rw [hx] at e
          have e1 : x = n := by simpa using hx
          cases e
          rw [e1]; exact hc
        | false => rw [hx] at e; exact ha x c' e
      obtain ⟨cl, h1, h2, h3, h4⟩ := closure_go env r ((n, c) :: acc) (fun m hm => hf m (List.mem_cons_of_mem _ hm)) ha'
      refine kZ ?_
      have up : ∀ m c', ((n, c) :: acc).lookup m = some c' → cl.lookup m = some c' := h4
      refine ⟨cl, ?_, h2, ?_, ?_⟩
      · rw [List.forIn_cons]
        have e0 : cellOf env n = pure c := by unfold cellOf; rw [hc]
        simp only [beq_self_eq_true, if_true, e0, pure_bind]
        exact h1
      · intro m hm
        rcases List.mem_cons.mp hm with e | e
        · have : m = n := by simpa using (Prod.mk.inj e).1
          subst this
          exact ⟨c, up m c (by rw [List.lookup_cons]; simp)⟩
        · exact h3 m e
      · intro m c' e
        by_cases hm : m = n
        · subst hm
          have := ha m c' e
          rw [hc] at this
          cases this
          exact up m c (by rw [List.lookup_cons]; simp)
        · have hmn : (m == n) = false := by simpa using hm
          exact up m c' (by rw [List.lookup_cons, hmn]; exact e)
    · have hb : (k == NameKind.free) = false := by simpa using hk
      refine hidG fun ZZ kZ => ?_
      obtain ⟨cl, h1, h2, h3, h4⟩ := closure_go env r acc (fun m hm => hf m (List.mem_cons_of_mem _ hm)) ha
      refine kZ ?_
      refine ⟨cl, ?_, h2, ?_, h4⟩
      · rw [List.forIn_cons]
        simp only [hb, Bool.false_eq_true, if_false, pure_bind]
        exact h1
      · intro m hm
        rcases List.mem_cons.mp hm with e | e
        · exact absurd (Prod.mk.inj e).2.symm hk
        · exact h3 m e
theorem closure_ok {env : Env} {sc : Scope} (hf : ∀ n, (n, NameKind.free) ∈ sc.names → ∃ c, env.cells.lookup n = some c) :
    ∃ cl, closureFor sc env = pure cl ∧ (∀ x c, cl.lookup x = some c → env.cells.lookup x = some c) ∧ ∀ n, (n, NameKind.free) ∈ sc.names → ∃ c, cl.lookup n = some c := by
  refine hidG fun ZZ kZ => ?_
  obtain ⟨cl, h1, h2, h3, _⟩ := closure_go env sc.names [] hf (fun x c e => by simp at e)
  refine kZ ?_
  refine ⟨cl, ?_, h2, h3⟩
  unfold closureFor
  have e : (forIn sc.names ([] : List (Str × Addr)) fun (x : Str × NameKind) (cs : List (Str × Addr)) => (do if (x.2 == NameKind.free) = true then (do let a ← cellOf env x.1; pure (ForInStep.yield ((x.1, a) :: cs))) else pure (ForInStep.yield cs) : Sem _)) = pure cl := h1
  first
    | (rw [show (forIn sc.names ([] : List (Str × Addr)) _ : Sem _) = pure cl from h1]; rfl)
    | (simp only [h1, pure_bind])
theorem lookup_map {f : Str × NameKind → Str × NameKind} (hf : ∀ p, (f p).1 = p.1) : ∀ {l : List (Str × NameKind)} {x : Str} {k : NameKind}, l.lookup x = some k → (l.map f).lookup x = some (f (x, k)).2
  | [], _, _, h => by simp at h
  | (n, k0) :: r, x, k, h => by
    have ih := @lookup_map f hf r x k
    rw [List.map_cons]
    obtain ⟨a, b, e⟩ : ∃ a b, f (n, k0) = (a, b) := ⟨_, _, rfl⟩
    have ea : a = n := by have := hf (n, k0); rw [e] at this; exact this
    subst ea
    rw [e, List.lookup_cons]
    cases hx : x == a with
    | true =>
      rw [List.lookup_cons, hx] at h
      cases h
      have : x = a := by simpa using hx
      subst this
      rw [e]
    | false => rw [List.lookup_cons, hx] at h; exact ih h
theorem of_lookup_map {f : Str × NameKind → Str × NameKind} (hf : ∀ p, (f p).1 = p.1) : ∀ {l : List (Str × NameKind)} {x : Str} {k : NameKind}, (l.map f).lookup x = some k → ∃ k0, (x, k0) ∈ l ∧ (f (x, k0)).2 = k
  | [], _, _, h => by simp at h
  | (n, k0) :: r, x, k, h => by
    have ih := @of_lookup_map f hf r x k
    rw [List.map_cons] at h
    obtain ⟨a, b, e⟩ : ∃ a b, f (n, k0) = (a, b) := ⟨_, _, rfl⟩
    have ea : a = n := by have := hf (n, k0); rw [e] at this; exact this
    subst ea
    rw [e, List.lookup_cons] at h
    cases hx : x == a with
    | true =>
      rw [hx] at h
      cases h
      have : x = a := by simpa using hx
      subst this
      exact ⟨k0, List.mem_cons_self, by rw [e]⟩
    | false =>
      rw [hx] at h
      obtain ⟨k1, h1, h2⟩ := ih h
      exact ⟨k1, List.mem_cons_of_mem _ h1, h2⟩
noncomputable def rlb (env : Env) (p : Str × NameKind) : Str × NameKind := if (p.2 == NameKind.free && env.scope.kind == .function && env.kindOf p.1 == some .cell) then (p.1, NameKind.cell) else (p.1, p.2)
theorem rlb_fst (env : Env) (p : Str × NameKind) : (rlb env p).1 = p.1 := by unfold rlb; split <;> rfl
theorem relabel_names (sc : Scope) (env : Env) : (relabel sc env).names = sc.names.map (rlb env) := rfl
theorem relabel_free {sc : Scope} {env : Env} {x : Str} (h : sc.names.lookup x = some .free) : (relabel sc env).names.lookup x = some .cell ∨ (relabel sc env).names.lookup x = some .free := by
  rw [relabel_names, lookup_map (rlb_fst env) h]
  unfold rlb
  split
  · exact .inl rfl
  · exact .inr rfl
theorem of_relabel {sc : Scope} {env : Env} {x : Str} (hn : ∀ y ∈ sc.names, y.2 ≠ NameKind.cell) (h : (relabel sc env).names.lookup x = some .cell ∨ (relabel sc env).names.lookup x = some .free) : (x, NameKind.free) ∈ sc.names := by
  rw [relabel_names] at h
  have : ∃ k0, (x, k0) ∈ sc.names ∧ ((rlb env (x, k0)).2 = .cell ∨ (rlb env (x, k0)).2 = .free) := by
    rcases h with h | h
    · obtain ⟨k0, a, b⟩ := of_lookup_map (rlb_fst env) h; exact ⟨k0, a, .inl b⟩
    · obtain ⟨k0, a, b⟩ := of_lookup_map (rlb_fst env) h; exact ⟨k0, a, .inr b⟩
  obtain ⟨k0, hm, hk⟩ := this
  have nc := hn _ hm
  cases k0 with
  | free => exact hm
  | cell => exact absurd rfl nc
  | _ => simp [rlb] at hk
noncomputable def cxComp (X : Cx) (N : List Str) (sc : Scope) (cl : List (Str × Addr)) (C : Addr) (s : Shared) (H : Hp) (fp : List Addr) (pins : List (Addr × Obj)) : Cx :=
  { X with N := N, s₀ := s, H₀ := H, env := compEnvC sc cl C X.env, outer := X.stack, ex := fp, fn := fun _ => false, pn := X.pn ++ pins, xe := fun _ _ => False }
noncomputable def cσ (js : List (Option Nat)) (σ : St) : St := js.map fun o => o.bind fun j => (σ[j]?).join
structure CompScope (X : Cx) (sc : Scope) (N : List Str) (js : List (Option Nat)) : Prop where
  kind : sc.kind = .function
  nocell : ∀ y ∈ sc.names, y.2 ≠ NameKind.cell
  names : ∀ y ∈ sc.names, y.2 = NameKind.local → sc.names.lookup y.1 = some .local
  frees : ∀ y ∈ sc.names, y.2 = NameKind.free → X.env.kindOf y.1 = some .cell ∨ X.env.kindOf y.1 = some .free
  len : js.length = N.length
  slots : ∀ (i j : Nat) (x : Str), js[i]? = some (some j) → N[i]? = some x → X.N[j]? = some x ∧ sc.names.lookup x = some .free ∧ (X.env.kindOf x = some .cell ∨ X.env.kindOf x = some .free)
theorem cs_mk {X : Cx} {sc : Scope} {N : List Str} {js : List (Option Nat)} (k : sc.kind = .function) (nc : ∀ y ∈ sc.names, y.2 ≠ NameKind.cell) (nm : ∀ y ∈ sc.names, y.2 = NameKind.local → sc.names.lookup y.1 = some .local)
    (fr : (sc.names.all fun y => y.2 != NameKind.free || X.env.kindOf y.1 == some NameKind.cell || X.env.kindOf y.1 == some NameKind.free) = true) (ln : js.length = N.length)
    (sl : ((js.zip N).all fun p => match p.1 with | none => true | some j => X.N[j]? == some p.2 && sc.names.lookup p.2 == some NameKind.free && (X.env.kindOf p.2 == some NameKind.cell || X.env.kindOf p.2 == some NameKind.free)) = true) : CompScope X sc N js := by
  refine ⟨k, nc, nm, fun y hy hf => ?_, ln, fun i j x e1 e2 => ?_⟩
  · have h := List.all_eq_true.mp fr y hy
    rw [hf] at h
    simpa using h
  · have hm : (some j, x) ∈ js.zip N := by
      have : (js.zip N)[i]? = some (some j, x) := by rw [List.getElem?_zip_eq_some]; exact ⟨e1, e2⟩
      exact List.mem_of_getElem? this
    have h := List.all_eq_true.mp sl _ hm
    simp at h
    exact ⟨h.1.1, h.1.2, h.2⟩
noncomputable def PTs (X : Cx) (ifs : List Expr) (t : TT) : Prop :=
  ∀ (pins : List (Addr × Obj)) (s : Shared) (σ : St) (H : Hp) (Q : Bool → Hp → Prop), Inv X pins σ H s → t σ H Q →
    wpAny (model X.prog X.w) X.A (forIn ifs true fun c r => if r = true then do let ok ← isTrue c X.env (eval c X.env); pure (ForInStep.yield ok) else pure (ForInStep.yield r)) (TP X pins σ Q) X.xe s
noncomputable def tNoTest : TT := fun _ H Q => Q true H
theorem pts_nil {X : Cx} : PTs X [] tNoTest := fun _ _ _ H _ I h => wpAny_tests_nil ⟨H, I, h⟩
theorem pts_one {X : Cx} {c : Expr} {t : TT} (h : PT X c t) : PTs X [c] t := fun pins s σ H Q I q => wpAny_tests_one (h pins s σ H Q I q)
noncomputable def Keep (σ σ' : St) : Prop := σ.length = σ'.length ∧ ∀ (i : Nat) (v : V), σ[i]? = some (some v) → σ'[i]? = some (some v)
noncomputable def GKeep (js : List (Option Nat)) (g : TG) : Prop := ∀ (σ σ1 : St) (x : V) (H : Hp) (Q : St → Hp → Prop), Keep (cσ js σ) σ1 → g x σ1 H Q → g x σ1 H fun σ2 H2 => Keep (cσ js σ) σ2 ∧ Q σ2 H2
theorem Keep.refl (σ : St) : Keep σ σ := ⟨rfl, fun _ _ h => h⟩
theorem cσ_none {js : List (Option Nat)} {σ : St} {i : Nat} (h : js[i]? = some none) : (cσ js σ)[i]? = some none := by
  unfold cσ
  rw [List.getElem?_map, h]; rfl
theorem gk_name {js : List (Option Nat)} {i : Nat} (h : js[i]? = some none) : GKeep js (gName i) := fun σ σ1 x H Q k q => by
  refine ⟨⟨by rw [List.length_set]; exact k.1, fun j v e => ?_⟩, q⟩
  by_cases hj : i = j
  · subst hj; rw [cσ_none h] at e; cases e
  · rw [List.getElem?_set_ne hj]; exact k.2 j v e
noncomputable def cTurn (js : List (Option Nat)) (g : TG) (tt : TT) (te : TE) (σ : St) (J : It) (D : Addr) (n : Nat) (W : Nat → Hp → Prop) (fin : Hp → Prop) : Prop :=
  ∀ i H, W i H → (J.stop i H ∧ fin H) ∨ (i < n ∧ J.go i H ∧ ∀ x H1, J.yld i H x H1 → g x (cσ js σ) H1 fun σ2 H2 => tt σ2 H2 fun b H3 =>
    if b = true then te σ2 H3 fun v H4 => ∃ ys, H4 D = some (.lst ys) ∧ ys.length < sizeLine ∧ W (i + 1) (upd H4 D (.lst (ys ++ [v]))) else W (i + 1) H3)
noncomputable def tComp (js : List (Option Nat)) (wi : TI) (g : TG) (tt : TT) (te : TE) : TE := fun σ H Q => wi σ H fun J H1 => ∀ D, H1 D = none →
  ∃ (n : Nat) (W : Nat → Hp → Prop), W 0 (upd H1 D (.lst [])) ∧ cTurn js g tt te σ J D n W fun H' => Q (.ref D) H'
section
variable {X : Cx} {pins : List (Addr × Obj)} {σ : St} {s : Shared} {H : Hp}
theorem comp_inv {sc : Scope} {N : List Str} {js : List (Option Nat)} {cl : List (Str × Addr)} {fp : List Addr} {h1 : Heap} {t' : Nat} (S : CompScope X sc N js) (I : Inv X pins σ H s)
    (hcl : ∀ x c, cl.lookup x = some c → X.env.cells.lookup x = some c) (hcl2 : ∀ n, (n, NameKind.free) ∈ sc.names → ∃ c, cl.lookup n = some c)
    (hf : ∀ b ∈ fp, FpOk X pins H b) (hlt : ∀ b ∈ fp, b < s.heap.objs.size) (hns : h1.Ns s.heap.objs.size fun x => List.lookup x ([] : List (Str × Value)))
    (hsb : ∀ b o, s.heap.get? b = some o → h1.get? b = some o) :
    Inv (cxComp X N sc cl s.heap.objs.size s H fp pins) [] (cσ js σ) H { s with heap := h1, toks := t' } := by
  have hok : (cxComp X N sc cl s.heap.objs.size s H fp pins).Ok :=
    { mod := I.ok.mod
      kind := S.kind
      glob := I.ok.glob
      blt := I.ok.blt
      above := Nat.le_refl _
      inj := fun x y c a b => I.ok.inj x y c (hcl x c a) (hcl y c b)
      has := fun x h => hcl2 x (of_relabel S.nocell h)
      cab := fun x c h => by cases h
      hd := I.ok.hd
      frames := I.ok.frames
      stk := .inl rfl
      exf := fun b hb => ⟨fun e => absurd (hlt b hb) (by rw [e]; exact Nat.lt_irrefl _), fun x c e z => (hf b hb).2.2.2.2.1 x c (hcl x c e) z⟩
      bs := I.bs
      bsz := Nat.le_trans I.ok.bsz I.sz
      noex := fun b o e hb => by
        rcases (hf b hb).2.2.2.1 with h | h
        · exact I.ok.noex b o e h
        · exact absurd (Nat.lt_of_lt_of_le (Nat.lt_of_lt_of_le (Heap.lt_size e) I.ok.bsz) h) (Nat.lt_irrefl _)
      exfs := fun b hb hm => by
        rcases List.mem_cons.mp (I.stkSub b hm) with e | e
        · exact (hf b hb).2.1 e
        · exact (hf b hb).2.2.1 e
      funs := I.stack
      frf := I.stkFree }
  have hC : H s.heap.objs.size = none := I.hok.fresh (Nat.le_refl _)
  obtain ⟨m0, hn0, hl0⟩ := I.loc
  exact
    { ok := hok
      os := rfl
      bare := I.bare
      base := Un.kept hsb
      loc := ⟨_, hns, fun i x v e1 e2 vis => by
        have e2' : ∃ j, js[i]? = some (some j) ∧ σ[j]? = some (some v) := by
          unfold cσ at e2
          rw [List.getElem?_map] at e2
          cases q : js[i]? with
          | none => rw [q] at e2; cases e2
          | some o =>
            rw [q] at e2
            cases o with
            | none => cases e2
            | some j =>
              refine ⟨j, rfl, ?_⟩
              have e3 : (σ[j]?).join = some v := Option.some.inj e2
              cases r : σ[j]? with
              | none => rw [r] at e3; cases e3
              | some z => rw [r] at e3; exact congrArg some e3
        refine hidG fun ZZ kZ => ?_
        obtain ⟨j, q1, q2⟩ := e2'
        obtain ⟨n1, n2, n3⟩ := S.slots i j x q1 e1
        obtain ⟨u, ru, look⟩ := hl0 j x v n1 q2 (by rcases n3 with z | z; exact .inr (.inl z); exact .inr (.inr z))
        refine kZ ?_
        refine ⟨u, ru, .inr ⟨relabel_free n2, ?_⟩⟩
        have hm : (x, NameKind.free) ∈ sc.names := of_relabel (env := X.env) S.nocell (relabel_free n2)
        obtain ⟨c, hc⟩ := hcl2 x hm
        refine ⟨c, hc, ?_⟩
        rcases look with ⟨k1, _⟩ | ⟨_, c', hc', ic⟩
        · rcases n3 with z | z <;> (rw [k1] at z; cases z)
        · have := hcl x c hc
          rw [hc'] at this
          cases this
          exact ic.keeps hsb⟩
      cell := fun x c e => by
        obtain ⟨v, q⟩ := I.cell x c (hcl x c e)
        exact ⟨v, q.keeps hsb⟩
      free := hC
      freeC := fun x c e => I.freeC x c (hcl x c e)
      pin := fun p hp => by
        have hp' : p ∈ X.pn ++ pins := by simpa [cxComp] using hp
        refine hidG fun ZZ kZ => ?_
        obtain ⟨a1, a2, a3, a4, a5⟩ := I.pin p hp'
        refine kZ ?_
        refine ⟨hsb _ _ a1, a2, fun e => ?_, fun hm => ?_, a5⟩
        · have e' : p.1 = s.heap.objs.size := e
          exact absurd (Heap.lt_size a1) (by rw [e']; exact Nat.lt_irrefl _)
        · rcases List.mem_cons.mp (I.stkSub p.1 hm) with e | e
          · exact a3 e
          · exact a4 e
      hok := I.hok.kept hsb
      len := by
        show (cσ js σ).length = N.length
        unfold cσ
        rw [List.length_map]
        exact S.len }
theorem comp_turn {prog : Program} {w : World} {A : Around} {R : Result → Shared → Prop} {elt target iter : Expr} {ifs : List Expr} {scope : Scope} {pos : Pos} {it acc : Value} {env : Env} (J : Nat → Shared → Prop)
    (turn : ∀ n s, J n s → wpAny (model prog w) A (pyNext it) (fun r s₁ => (r = none ∧ R (.ok .next) s₁) ∨ ∃ v, r = some v ∧
      wpAny (model prog w) A (letOwnedTupleGo target it v) (fun _ s₂ => wpAny (model prog w) A (assign target env v) (fun _ s₃ =>
        wpAny (model prog w) A (forIn ifs true fun c r => if r = true then do let ok ← isTrue c env (eval c env); pure (ForInStep.yield ok) else pure (ForInStep.yield r)) (fun ok s₄ =>
          (ok = false ∧ ∃ m, m < n ∧ J m s₄) ∨ (ok = true ∧ wpAny (model prog w) A (eval elt env) (fun x s₅ => wpAny (model prog w) A (call (.builtin "list.append") [acc, x]) (fun _ s₆ => ∃ m, m < n ∧ J m s₆) (fun _ _ => False) s₅) (fun _ _ => False) s₄))
          (fun _ _ => False) s₃) (fun _ _ => False) s₂) (fun _ _ => False) s₁) (fun _ _ => False) s)
    {s : Shared} (n : Nat) (h : J n s) : codeAny (model prog w) A (.compLoop (.ListComp elt [⟨target, iter, ifs, 0⟩] scope pos) 0 it acc env) R s := by
  refine codeAny_loop rfl J (fun n s hJ => ?_) n h
  show wpAny _ A ((compTurn (.ListComp elt [⟨target, iter, ifs, 0⟩] scope pos) 0 it acc env).onRaise _) _ _ s
  refine wpAny_noted ?_
  rw [compTurn_list]
  have up : ∀ {α : Type} {m : Sem α} {Q : α → Shared → Prop} {E : Value → Shared → Prop} {s : Shared}, wpAny (model prog w) A m Q (fun _ _ => False) s → wpAny (model prog w) A m Q E s := fun q => wpAny_mono q (fun _ _ z => z) fun _ _ z => z.elim
  refine wpAny_bind (wpAny_standAt (wpAny_bind (wpAny_mono (up (turn n s hJ)) (fun r s₁ h₁ => ?_) fun _ _ z => z)))
  rcases h₁ with ⟨rfl, h₁⟩ | ⟨v, rfl, h₁⟩
  · exact wpAny_pure h₁
  · refine wpAny_bind (wpAny_mono (up h₁) (fun _ s₂ h₂ => ?_) fun _ _ z => z)
    refine wpAny_bind (wpAny_mono (up h₂) (fun _ s₃ h₃ => ?_) fun _ _ z => z)
    refine wpAny_bind (wpAny_mono (up h₃) (fun ok s₄ h₄ => ?_) fun _ _ z => z)
    rcases h₄ with ⟨rfl, h₄⟩ | ⟨rfl, h₄⟩
    · exact wpAny_pure ⟨rfl, h₄⟩
    · exact wpAny_bind (wpAny_bind (wpAny_mono (up h₄) (fun x s₅ h₅ => wpAny_bind (wpAny_mono (up h₅) (fun _ s₆ h₆ => wpAny_pure (wpAny_pure ⟨rfl, h₆⟩)) fun _ _ z => z)) fun _ _ z => z))
theorem comp_block {elt tg iter : Expr} {ifs : List Expr} {sc : Scope} {pos : Pos} {N : List Str} {js : List (Option Nat)} {g : TG} {tt : TT} {te : TE} {cl : List (Str × Addr)} {fp : List Addr} {it : Addr} {tn : Nat → Heap → Prop} {J : It} {n : Nat} {W : Nat → Hp → Prop} {fin : Hp → Prop}
    {R : Value → Addr → Result → Shared → Prop} (hc : X.calm = true) (S : CompScope X sc N js) (I : Inv X pins σ H s) (T : Turn X.prog X.w X.K tg J fp it tn) (st : tn 0 s.heap) (hf : ∀ b ∈ fp, FpOk X pins H b)
    (hcl : ∀ x c, cl.lookup x = some c → X.env.cells.lookup x = some c) (hcl2 : ∀ n, (n, NameKind.free) ∈ sc.names → ∃ c, cl.lookup n = some c)
    (hg : ∀ cl C s H fp pins, PG (cxComp X N sc cl C s H fp pins) tg g) (gk : GKeep js g) (ht : ∀ cl C s H fp pins, PTs (cxComp X N sc cl C s H fp pins) ifs tt) (he : ∀ cl C s H fp pins, PE (cxComp X N sc cl C s H fp pins) elt te)
    (w0 : W 0 (upd H s.heap.objs.size (.lst []))) (turn : cTurn js g tt te σ J s.heap.objs.size n W fin)
    (hR : ∀ C H' s', C ≠ X.env.locals → s.heap.objs.size < C → (∃ m, s'.heap.Ns C m) → H' C = none → (∀ h' t', Heap.SameBut C s'.heap h' → Inv X pins σ H' { s' with heap := h', toks := t' }) → fin H' → R (.ref s.heap.objs.size) C (.ok .next) s') {E : Value → Shared → Prop} :
    wpAny (model X.prog X.w) X.A (newList []) (fun acc s₃ => wpAny (model X.prog X.w) X.A (newFunctionEnv sc X.env.globals cl [] X.env.qual none .none (some X.env)) (fun cenv s₄ =>
      codeAny (model X.prog X.w) X.A (.compStart (.ListComp elt [⟨tg, iter, ifs, 0⟩] sc pos) 0 (.ref it) acc { cenv with scope := relabel sc X.env }) (R acc cenv.locals) s₄) E s₃) E s := by
  refine wpAny_newObj_type (wpAny_newFunctionEnv S.nocell (by intro y hy; simp at hy) (fun h₁ hns₁ hsb₁ => ?_) S.kind)
  dsimp only at hns₁ hsb₁ ⊢
  have I3 : Inv X pins σ (upd H s.heap.objs.size (.lst [])) { s with heap := s.heap.push { cls := .type "list", dict := none, data := .seq ([] : List Value).toArray } } := I.lnew (t' := s.toks) (its := []) .nil (by decide)
  have hlt : ∀ b ∈ fp, b < s.heap.objs.size := fun b hb => by
    obtain ⟨o, ho, _⟩ := T.obj _ _ st b hb
    exact Heap.lt_size ho
  have hpush : ∀ b o, s.heap.get? b = some o → (s.heap.push { cls := .type "list", dict := none, data := .seq ([] : List Value).toArray }).get? b = some o := fun b o e => Heap.get?_push_of_some _ e
  have hsz : (s.heap.push { cls := .type "list", dict := none, data := .seq ([] : List Value).toArray }).objs.size = s.heap.objs.size + 1 := Heap.size_push ..
  generalize hs3 : ({ s with heap := s.heap.push { cls := .type "list", dict := none, data := .seq ([] : List Value).toArray } } : Shared) = s3 at I3
  have hs3h : s.heap.push { cls := .type "list", dict := none, data := .seq ([] : List Value).toArray } = s3.heap := by rw [← hs3]
  rw [hs3h] at hns₁ hsb₁ hpush hsz
  rw [hs3h]
  have est : ∀ t', ({ s with heap := h₁, toks := t' } : Shared) = { s3 with heap := h₁, toks := t' } := fun t' => by rw [← hs3]
  rw [est]
  have hsb : ∀ b o, s3.heap.get? b = some o → h₁.get? b = some o := fun b o e => hsb₁.extBut b o (Nat.ne_of_lt (Heap.lt_size e)) (Heap.get?_push_of_some _ e)
  have hf3 : ∀ b ∈ fp, FpOk X pins (upd H s.heap.objs.size (.lst [])) b := fun b hb => ⟨by rw [upd_ne (Nat.ne_of_lt (hlt b hb))]; exact (hf b hb).1, (hf b hb).2⟩
  have I4 := comp_inv (t' := s.toks + ([] : List (Str × Value)).length) S I3 hcl hcl2 hf3 (fun b hb => by rw [hsz]; exact Nat.lt_succ_of_lt (hlt b hb)) hns₁ hsb
  generalize hH3 : upd H s.heap.objs.size (.lst []) = H3 at I3 I4 hf3 w0
  have hst : tn 0 h₁ := T.keep _ _ _ st fun b hb o e => hsb _ _ (hpush _ _ e)
  have stat : ∀ {H' : Hp}, (∀ b ∈ fp, H' b = none) → ∀ b ∈ fp, FpOk (cxComp X N sc cl s3.heap.objs.size s3 H3 fp pins) [] H' b := fun {H'} hn b hb => by
    obtain ⟨f0, f1, f2, f3, f4, f5⟩ := hf b hb
    refine ⟨hn b hb, fun e => ?_, fun hm => ?_, .inl hb, fun x c e => f4 x c (hcl x c e), fun p hp => f5 p (by simpa [cxComp] using hp)⟩
    · have e' : b = s3.heap.objs.size := e
      have h9 : b < s.heap.objs.size := hlt b hb
      rw [e', hsz] at h9
      exact absurd h9 (Nat.not_lt.mpr (Nat.le_succ _))
    · rcases List.mem_cons.mp (I.stkSub b hm) with e | e
      · exact f1 e
      · exact f2 e
  have loop : codeAny (model X.prog X.w) X.A (.compLoop (.ListComp elt [⟨tg, iter, ifs, 0⟩] sc pos) 0 (.ref it) (.ref s.heap.objs.size) (compEnvC sc cl s3.heap.objs.size X.env)) (R (.ref s.heap.objs.size) s3.heap.objs.size)
      { s3 with heap := h₁, toks := s.toks + ([] : List (Str × Value)).length } := by
    refine comp_turn (fun k s' => ∃ i H', Inv (cxComp X N sc cl s3.heap.objs.size s3 H3 fp pins) [] (cσ js σ) H' s' ∧ tn i s'.heap ∧ (∀ b ∈ fp, H' b = none) ∧ W i H' ∧ k = n - i) ?_ n ⟨0, H3, I4, hst, fun b hb => (hf3 b hb).1, w0, rfl⟩
    rintro k s5 ⟨i, H5, I5, st5, fr5, w5, rfl⟩
    rcases turn i H5 w5 with ⟨stop, qn⟩ | ⟨hin, go, step⟩
    · refine thn (T.done (cxComp X N sc cl s3.heap.objs.size s3 H3 fp pins) rfl rfl rfl hc i [] s5 (cσ js σ) H5 _ I5 (stat fr5) st5 stop) fun r s6 ⟨hr, I6⟩ => .inl ⟨hr, ?_⟩
      have I7 : Inv X pins σ H5 s6 := I3.call' (ch := fp) (I6.os.trans rfl) I6.base I6.hok I6.bare fun b hb => ⟨(hf b hb).2.2.2.1, (hf b hb).2.1, (hf b hb).2.2.2.2.1, (hf b hb).2.2.2.2.2⟩
      have hC5 : H5 s3.heap.objs.size = none := I6.free
      have hCl : s3.heap.objs.size ≠ X.env.locals := Nat.ne_of_gt I3.lt
      obtain ⟨m6, hn6, _⟩ := I6.loc
      refine hR s3.heap.objs.size H5 s6 hCl (by (first | lia | omega)) ⟨m6, hn6⟩ hC5 (fun h' t' sb => ?_) qn
      refine I7.turned (it := s3.heap.objs.size) (fun b o hb e => sb.extBut b o hb e) hC5 hCl (.inr I3.sz) (fun x c e z => ?_) fun p hp z => ?_
      · obtain ⟨v, q⟩ := I3.cell x c e
        exact absurd q.lt (by rw [z]; exact Nat.lt_irrefl _)
      · exact absurd (Heap.lt_size (I3.pin p hp).1) (by rw [z]; exact Nat.lt_irrefl _)
    · refine thn (T.item (cxComp X N sc cl s3.heap.objs.size s3 H3 fp pins) rfl rfl rfl hc i [] s5 (cσ js σ) H5 _ I5 (stat fr5) st5 go) fun r s6 ⟨u, hr, h6⟩ => .inr ⟨u, hr, ?_⟩
      refine thn h6 fun _ s7 ⟨x, H7, I7, r7, y7, st7, fr7⟩ => ?_
      have I7' := I7.pinned (stat fr7) (T.obj _ _ st7)
      refine thn (hg cl s3.heap.objs.size s3 H3 fp pins _ s7 (cσ js σ) H7 x u _ I7' r7 (gk σ (cσ js σ) x H7 _ (.refl _) (step x H7 y7))) fun _ s8 zz => el23 zz fun σ8 H8 I8 k8 q8 => ?_
      refine thn (ht cl s3.heap.objs.size s3 H3 fp pins _ s8 σ8 H8 _ I8 q8) fun ok s9 zz => el12 zz fun H9 I9 q9 => ?_
      have again : ∀ {s' : Shared} {σ' : St} {H' : Hp}, Keep (cσ js σ) σ' → Inv (cxComp X N sc cl s3.heap.objs.size s3 H3 fp pins) ([] ++ pinsAt fp s7.heap) σ' H' s' → W (i + 1) H' → ∃ m, m < n - i ∧ ∃ i H', Inv (cxComp X N sc cl s3.heap.objs.size s3 H3 fp pins) [] (cσ js σ) H' s' ∧ tn i s'.heap ∧ (∀ b ∈ fp, H' b = none) ∧ W i H' ∧ m = n - i := fun {s' σ' H'} kp I' w' => by
        refine ⟨n - (i + 1), by (first | lia | omega), i + 1, H', (I'.unpinned).weak kp.1 kp.2, T.keep _ _ _ st7 fun b hb o e => (I'.pin (b, o) (List.mem_append_right _ (List.mem_append_right _ (mem_pinsAt hb e)))).1, fun b hb => ?_, w', rfl⟩
        obtain ⟨o, e, d⟩ := T.obj _ _ st7 b hb
        exact (I'.pin (b, o) (List.mem_append_right _ (List.mem_append_right _ (mem_pinsAt hb e)))).2.1
      cases ok with
      | false =>
        refine .inl ⟨rfl, again k8 I9 ?_⟩
        have q9' : if false = true then _ else W (i + 1) H9 := q9
        rw [if_neg Bool.false_ne_true] at q9'
        exact q9'
      | true =>
        refine .inr ⟨rfl, ?_⟩
        rw [if_pos rfl] at q9
        refine thn (he cl s3.heap.objs.size s3 H3 fp pins _ s9 σ8 H9 _ I9 q9) fun vv s10 ⟨v, H10, I10, rv, ys, hD, hys, w10⟩ => ?_
        refine thn (mt_append _ s10 σ8 H10 (.ref s.heap.objs.size) [v] (.ref s.heap.objs.size) [vv] (fun _ H' => W (i + 1) H') I10 rfl (.cons rv .nil) ⟨_, ys, v, rfl, rfl, hD, hys, w10⟩) fun _ s11 zz => el23 zz fun _ H11 I11 _ w11 => ?_
        exact again k8 I11 w11
  exact codeAny_compStart_list loop (T.self X.A 0 _ _ _ hst loop)
theorem pe_comp {elt tg iter : Expr} {ifs : List Expr} {sc : Scope} {pos : Pos} {N : List Str} {js : List (Option Nat)} {wi : TI} {g : TG} {tt : TT} {te : TE} (hc : X.calm = true) (S : CompScope X sc N js) (hi : PI X tg iter wi)
    (hg : ∀ cl C s H fp pins, PG (cxComp X N sc cl C s H fp pins) tg g) (gk : GKeep js g) (ht : ∀ cl C s H fp pins, PTs (cxComp X N sc cl C s H fp pins) ifs tt) (he : ∀ cl C s H fp pins, PE (cxComp X N sc cl C s H fp pins) elt te)
    (hs : ∀ x, foldedSetIterable iter X.env x = pure x := by intro _; rfl) : PE X (.ListComp elt [⟨tg, iter, ifs, 0⟩] sc pos) (tComp js wi g tt te) := by
  intro pins s σ H Q I h
  refine hidG fun ZZ kZ => ?_
  obtain ⟨cl, e1, e2, e3⟩ := closure_ok (env := X.env) (sc := sc) fun n hn => I.ok.has n (S.frees _ hn rfl)
  refine kZ ?_
  rw [eval_ListComp]
  refine wpAny_comprehension_free (use := none) rfl hs e1 S.kind S.names (thn (hi pins s σ H _ I h) fun v s1 h1 => thn h1 fun itv s2 h2 => ?_)
  refine hidG fun ZZ kZ => ?_
  obtain ⟨it, fp, tn, J, H2, rfl, I2, T, st2, f2, R2⟩ := h2
  obtain ⟨n, W, w0, turn⟩ := R2 s2.heap.objs.size I2.fresh
  refine kZ ?_
  refine comp_block (R := fun acc C => compPost (model X.prog X.w) X.A X.xe none (EP X pins σ Q) acc C) hc S I2 T st2 f2 e2 e3 hg gk ht he w0 turn fun C H' s' _ _ hn _ inv fi => ?_
  obtain ⟨m, hm⟩ := hn
  exact ⟨m, hm, fun h' sb => ⟨.ref s2.heap.objs.size, H', inv h' s'.toks sb, rfl, fi⟩⟩
theorem ps_setC {i : Nat} {y : Str} {elt tg iter : Expr} {ifs : List Expr} {sc : Scope} {pos spos py : Pos} {N : List Str} {js : List (Option Nat)} {wi : TI} {g : TG} {tt : TT} {te : TE} (hN : X.N.Nodup) (hy : X.N[i]? = some y) (hyl : Loc X.env.scope y) (hc : X.calm = true) (S : CompScope X sc N js) (hi : PI X tg iter wi)
    (hg : ∀ cl C s H fp pins, PG (cxComp X N sc cl C s H fp pins) tg g) (gk : GKeep js g) (ht : ∀ cl C s H fp pins, PTs (cxComp X N sc cl C s H fp pins) ifs tt) (he : ∀ cl C s H fp pins, PE (cxComp X N sc cl C s H fp pins) elt te)
    (hsw : swapsWith (.ListComp elt [⟨tg, iter, ifs, 0⟩] sc pos) (some (.Name y py)) spos.line X.env = pure true := by rfl)
    (hs : ∀ x, foldedSetIterable iter X.env x = pure x := by intro _; rfl) (hf : X.fn y = true ∨ X.env.scope.names.lookup y = some .local := by first | exact .inl rfl | exact .inr rfl | assumption) :
    PS X (.Assign [.Name y py] (.ListComp elt [⟨tg, iter, ifs, 0⟩] sc pos) spos) (tAsg (tComp js wi g tt te) (gName i)) := by
  intro pins s σ H D I h
  refine hidG fun ZZ kZ => ?_
  obtain ⟨cl, e1, e2, e3⟩ := closure_ok (env := X.env) (sc := sc) fun n hn => I.ok.has n (S.frees _ hn rfl)
  refine kZ ?_
  rw [exec_Assign_Name_used _ _ _ _ hsw]
  refine wpAny_bind (wpAny_standAt (wpAny_bind ?_))
  show wpAny _ X.A (do let _ ← comprehension (.ListComp elt [⟨tg, iter, ifs, 0⟩] sc pos) sc X.env _ (newList []) false (eval iter X.env) (some (assign (.Name y py) X.env))) _ _ s
  refine wpAny_bind (wpAny_mono (wpAny_comprehension_free (use := some (assign (.Name y py) X.env)) (Q := fun _ s' => SP X pins D .next s') rfl hs e1 S.kind S.names (thn (hi pins s σ H _ I h) fun v s1 h1 => thn h1 fun itv s2 h2 => ?_)) (fun _ s' hq => wpAny_pure (wpAny_pure hq)) fun _ _ z => z)
  refine hidG fun ZZ kZ => ?_
  obtain ⟨it, fp, tn, J, H2, rfl, I2, T, st2, f2, R2⟩ := h2
  obtain ⟨n, W, w0, turn⟩ := R2 s2.heap.objs.size I2.fresh
  refine kZ ?_
  refine comp_block (R := fun acc C => compPost (model X.prog X.w) X.A X.xe (some (assign (.Name y py) X.env)) (fun _ s' => SP X pins D .next s') acc C) hc S I2 T st2 f2 e2 e3 hg gk ht he w0 turn fun C H' s' hCL hC hn hC' inv fi => ?_
  obtain ⟨m, hm⟩ := hn
  have I5 : Inv X pins σ H' s' := by
    have q := inv s'.heap s'.toks (.refl ..)
    exact q
  refine wpAny_assign_Name (store_ok2 (v := .ref s2.heap.objs.size) I5 hN hy hyl rfl (fun s6 I6 ⟨a, sb, ha⟩ => ?_) hf)
  have haC : C ≠ a := by
    rcases ha with ha | ha
    · rw [ha]; exact hCL
    · intro z
      obtain ⟨v, q⟩ := I2.cell y a ha
      exact absurd (Nat.lt_trans q.lt hC) (by rw [z]; exact Nat.lt_irrefl _)
  refine ⟨m, hm.sameBut sb haC, fun h' sb' => ⟨_, H', I6.turned (it := C) (t' := s6.toks) (fun b o hb e => sb'.extBut b o hb e) hC' hCL (.inr (Nat.le_trans I2.sz (Nat.le_of_lt hC))) (fun x c e z => ?_) fun p hp z => ?_, fi⟩⟩
  · obtain ⟨v, q⟩ := I2.cell x c e
    exact absurd (Nat.lt_trans q.lt hC) (by rw [z]; exact Nat.lt_irrefl _)
  · exact absurd (Nat.lt_trans (Heap.lt_size (I2.pin p hp).1) hC) (by rw [z]; exact Nat.lt_irrefl _)
end
end L2
namespace L2
open PySem PySem.Spec PyProof.Rows
noncomputable def cutL {α : Type} (xs : List α) (lo hi : Option Int) : List α := (xs.drop (HT.sIx xs.length 0 lo)).take (HT.sIx xs.length xs.length hi - HT.sIx xs.length 0 lo)
noncomputable def cutS (z : Str) (lo hi : Option Int) : Str := ⟨(cutL z.cps.toList lo hi).toArray⟩
theorem pick_map {α : Type} (xs : List α) (a n : Nat) : ((List.range n).map fun (k : Nat) => a + k).filterMap (xs[·]?) = (xs.drop a).take n := by
  induction n with
  | zero => simp
  | succ n ih =>
    rw [List.range_succ, List.map_append, List.filterMap_append, ih, List.take_add_one]
    congr 1
    rw [List.getElem?_drop]
    cases h : xs[a + n]? <;> simp [h]
theorem clip_some (n d : Nat) (i : Int) : max 0 (min (if i < 0 then i + (n : Int) else i) (n : Int)) = ((HT.sIx n d (some i) : Nat) : Int) := by
  show max 0 (min (if i < 0 then i + (n : Int) else i) (n : Int)) = (((if i < 0 then (i + (n : Int)).toNat else min i.toNat n) : Nat) : Int)
  by_cases h : i < 0
  · rw [if_pos h, if_pos h]; (first | lia | omega)
  · rw [if_neg h, if_neg h]; (first | lia | omega)
theorem range_ab (A B : Int) (a b : Nat) (hA : A = (a : Int)) (hB : B = (b : Int)) : sliceRange A B 1 = (List.range (b - a)).map fun (k : Nat) => a + k := by
  subst hA; subst hB
  unfold sliceRange
  simp only [show (1 : Int) > 0 by decide, if_true]
  have c : (if (a : Int) < (b : Int) then ((b : Int) - a + 1 - 1) / 1 else 0).toNat = b - a := by
    split
    · rw [Int.ediv_one]; (first | lia | omega)
    · (first | lia | omega)
  rw [c]
  refine List.map_congr_left fun k _ => ?_
  (first | lia | omega)
theorem sliceIx (lo hi : Option Int) (n : Nat) : Builtin.Str.strSliceIndices lo hi 1 n = (List.range (HT.sIx n n hi - HT.sIx n 0 lo)).map fun (k : Nat) => HT.sIx n 0 lo + k := by
  unfold Builtin.Str.strSliceIndices
  simp only [show (1 : Int) > 0 by decide, if_true]
  cases lo <;> cases hi <;> refine range_ab _ _ _ _ ?_ ?_ <;> first | rfl | exact clip_some _ _ _
theorem cutS_length (z : Str) (lo hi : Option Int) : (cutS z lo hi).length ≤ z.length := by
  show (cutL z.cps.toList lo hi).toArray.size ≤ z.cps.size
  unfold cutL
  rw [List.size_toArray, List.length_take, List.length_drop, Array.length_toList]
  (first | lia | omega)
theorem sliceMade_cut (x : Str) (t : Tok) (l u : Option (Int × Tok)) {Q : Value → Shared → Prop} {s : Shared} (hz : x.length ≤ sizeLine) (h : ∀ t' k, Q (.str (cutS x (l.map (·.1)) (u.map (·.1))) t') { s with toks := k }) : (sliceMade x t l u none).post Q s := by
  have e : (slicePicked x l u none).filterMap (x.cps[·]?) = cutL x.cps.toList (l.map (·.1)) (u.map (·.1)) := by
    unfold slicePicked cutL
    show (Builtin.Str.strSliceIndices (l.map (·.1)) (u.map (·.1)) 1 x.length).filterMap (x.cps[·]?) = _
    rw [sliceIx, show (x.cps[·]?) = (x.cps.toList[·]?) from funext fun i => (Array.getElem?_toList ..).symm, pick_map, Array.length_toList]
    rfl
  unfold sliceMade
  split
  · rename_i hc
    have hl : (slicePicked x l u none).length = x.length := by
      have := (Bool.and_eq_true _ _ ▸ hc).2
      simpa using this
    have hw : cutS x (l.map (·.1)) (u.map (·.1)) = x := by
      have e2 : (cutL x.cps.toList (l.map (·.1)) (u.map (·.1))) = x.cps.toList := by
        have hp : slicePicked x l u none = (List.range (HT.sIx x.length x.length (u.map (·.1)) - HT.sIx x.length 0 (l.map (·.1)))).map fun (k : Nat) => HT.sIx x.length 0 (l.map (·.1)) + k := sliceIx _ _ _
        rw [hp, List.length_map, List.length_range] at hl
        have b1 := HT.sIx_le x.length x.length (Nat.le_refl _) (u.map (·.1))
        have hx : x.cps.toList.length = x.length := Array.length_toList
        unfold cutL
        rw [hx, hl]
        have hz0 : HT.sIx x.length 0 (l.map (·.1)) = 0 ∨ x.length = 0 := by (first | lia | omega)
        rcases hz0 with h0 | h0
        · rw [h0, List.drop_zero, List.take_of_length_le (by rw [hx]; exact Nat.le_refl _)]
        · have : x.cps.toList = [] := List.length_eq_zero_iff.mp (by rw [hx]; exact h0)
          rw [this]; simp
      unfold cutS
      rw [e2]
    have := h t s.toks
    rw [hw] at this
    exact this
  · show (⟨((slicePicked x l u none).filterMap (x.cps[·]?)).toArray⟩ : Str).length ≤ sizeLine ∧ Q _ _
    rw [e]
    exact ⟨Nat.le_trans (cutS_length x _ _) hz, h s.toks (s.toks + 1)⟩
section
variable {X : Cx}
inductive IrSlS (x : V) (lo : Option Int) (hi : Option Int) (H : Hp) (Q : VK) : Prop
  | mk (z : _) (zz0 : x = .str z) (zz1 : z.length ≤ sizeLine) (zz2 : Q (.str (cutS z lo hi)) H) : IrSlS  x lo hi H Q
noncomputable def rSlS : V → Option Int → Option Int → Hp → VK → Prop := IrSlS 
theorem part_of {v : Value} {o : Option Int} (h : IsPart v o) : ∃ l : Option (Int × Tok), v = partValue l ∧ l.map (·.1) = o := by
  cases h with
  | none => exact ⟨none, rfl, rfl⟩
  | int i t => exact ⟨some (i, t), rfl, rfl⟩
theorem sl_str : SlR X rSlS := by
  intro pins s σ H x v vl vu lo hi sl Q I rx hs pl pu h
  obtain ⟨z, rfl, hz, q⟩ := h
  obtain ⟨t, rfl⟩ := rx
  obtain ⟨l, rfl, rfl⟩ := part_of pl
  obtain ⟨u, rfl, rfl⟩ := part_of pu
  refine ⟨"str", _, F.slot_str_getitem.lookup, typeIs_str s z t, wpAny_getItem_str_slice (l := l) (u := u) (st := none) ?_ rfl (sliceMade_cut z t l u hz fun t' k => ?_)⟩
  · obtain ⟨o, ho, hc, hd⟩ := hs
    exact ⟨o, ho, hc, hd⟩
  · exact ⟨.str (cutS z (l.map (·.1)) (u.map (·.1))), H, I.tok k, ⟨_, rfl⟩, q⟩
theorem call_isi {T : String} {b : Bool} {t : Value} : CallR X (.builtin "isinstance") (fun xs H Q => ∃ x, xs = [x, .ty T] ∧ TyOf X.K H x t ∧ PySem.W.kitOne X.K t (.type T) = some b ∧ Q (.bl b) H) := by
  intro pins s σ H xs us Q I r h
  refine hidG fun ZZ kZ => ?_
  obtain ⟨x, rfl, ty, k, q⟩ := h
  obtain ⟨u, w', rfl, r1, r2⟩ := vals2 r
  refine kZ ?_
  cases r2
  exact isinst_ok I r1 ty k fun tk => ⟨.bl b, H, I.tok tk, rfl, q⟩
end
end L2
namespace PySem
namespace F
end F
end PySem
namespace PySem
open Sem (wp)
section
variable {prog : Program} {w : World} {A : Around} {E : Value → Shared → Prop} {s : Shared}
end
end PySem
namespace L2
open PySem PySem.Spec PyProof.Rows
section
variable {X : Cx} {e : Expr} {te : TE} {p p2 pos pos2 : Pos}
end
end L2
namespace BB
open PySem L2
set_option genInjectivity false in
set_option genSizeOf false in
inductive Th where
  | knot (n : Str) (ks : List Th)
  | call (s k : Int)
noncomputable def q : Str := Str.ofString "?"
noncomputable def Th.kids : Th → List Th
  | .knot _ ks => ks
  | .call _ _ => []
mutual
noncomputable def Th.size : Th → Nat
  | .knot _ ks => sizes ks + 1
  | .call _ _ => 1
noncomputable def sizes : List Th → Nat
  | [] => 0
  | t :: ts => t.size + sizes ts
end
mutual
noncomputable def Th.tall : Th → Nat
  | .knot _ ks => talls ks + 1
  | .call _ _ => 1
noncomputable def talls : List Th → Nat
  | [] => 0
  | t :: ts => max t.tall (talls ts)
end
theorem Th.size_eq (t : Th) : t.size = sizes t.kids + 1 := by
  cases t with
  | knot n ks => rw [Th.size]; rfl
  | call s k => rw [Th.size]; simp [Th.kids, sizes]
theorem Th.tall_eq (t : Th) : t.tall = talls t.kids + 1 := by
  cases t with
  | knot n ks => rw [Th.tall]; rfl
  | call s k => rw [Th.tall]; simp [Th.kids, talls]
theorem sizes_append : ∀ a b : List Th, sizes (a ++ b) = sizes a + sizes b
  | [], b => by simp [sizes]
  | t :: a, b => by rw [List.cons_append, sizes, sizes, sizes_append a b, Nat.add_assoc]
theorem Th.size_pos (t : Th) : 1 ≤ t.size := by rw [t.size_eq]; (first | lia | omega)
mutual
noncomputable def At (H : Hp) : Th → Addr → Prop
  | .knot n ks, a => n ≠ q ∧ ∃ as : List Addr, H a = some (.tup (.str n :: as.map V.ref)) ∧ Ats H ks as
  | .call s k, a => H a = some (.tup [.str q, .int s, .int k])
noncomputable def Ats (H : Hp) : List Th → List Addr → Prop
  | [], as => as = []
  | t :: ts, as => ∃ a r, as = a :: r ∧ At H t a ∧ Ats H ts r
end
noncomputable def KT (H H' : Hp) : Prop := ∀ b xs, H b = some (.tup xs) → H' b = some (.tup xs)
theorem KT.trans {H H1 H2 : Hp} (a : KT H H1) (b : KT H1 H2) : KT H H2 := fun c o h => b c o (a c o h)
theorem Same.kt {H H' : Hp} (h : L2.Same H H') : KT H H' := fun b xs e => h b _ e
theorem kt_new {H : Hp} {l : Addr} {o : HO} (h : H l = none) : KT H (upd H l o) := fun b xs e => by rw [upd_ne (ne_of_none e h)]; exact e
theorem kt_lst {H : Hp} {l : Addr} {o : HO} {xs : List V} (h : H l = some (.lst xs)) : KT H (upd H l o) := fun b ys e => by rw [upd_ne (ne_of e h (by intro z; cases z))]; exact e
mutual
theorem At.mono {H H' : Hp} (k : KT H H') : ∀ {t : Th} {a : Addr}, At H t a → At H' t a
  | .knot n ks, a, h => by
    rw [At] at h ⊢
    refine hidG fun ZZ kZ => ?_
    obtain ⟨h0, as, h1, h2⟩ := h
    refine kZ ?_
    exact ⟨h0, as, k _ _ h1, Ats.mono k h2⟩
  | .call s c, a, h => by
    rw [At] at h ⊢
    exact k _ _ h
theorem Ats.mono {H H' : Hp} (k : KT H H') : ∀ {ts : List Th} {as : List Addr}, Ats H ts as → Ats H' ts as
  | [], as, h => by rw [Ats] at h ⊢; exact h
  | t :: ts, as, h => by
    rw [Ats] at h ⊢
    refine hidG fun ZZ kZ => ?_
    obtain ⟨a, r, e, h1, h2⟩ := h
    refine kZ ?_
    exact ⟨a, r, e, At.mono k h1, Ats.mono k h2⟩
end
theorem Ats.nil {H : Hp} : Ats H [] [] := by rw [Ats]
theorem Ats.cons {H : Hp} {t : Th} {ts : List Th} {a : Addr} {as : List Addr} (h1 : At H t a) (h2 : Ats H ts as) : Ats H (t :: ts) (a :: as) := by rw [Ats]; exact ⟨a, as, rfl, h1, h2⟩
theorem Ats.append {H : Hp} : ∀ {ts us : List Th} {as bs : List Addr}, Ats H ts as → Ats H us bs → Ats H (ts ++ us) (as ++ bs)
  | [], us, as, bs, h, g => by rw [Ats] at h; subst h; exact g
  | t :: ts, us, as, bs, h, g => by
    rw [Ats] at h
    obtain ⟨a, r, rfl, h1, h2⟩ := h
    exact .cons h1 (h2.append g)
theorem Ats.length {H : Hp} : ∀ {ts : List Th} {as : List Addr}, Ats H ts as → as.length = ts.length
  | [], as, h => by rw [Ats] at h; subst h; rfl
  | t :: ts, as, h => by
    rw [Ats] at h
    obtain ⟨a, r, rfl, h1, h2⟩ := h
    rw [List.length_cons, List.length_cons, h2.length]
theorem Ats.get {H : Hp} : ∀ {ts : List Th} {as : List Addr} {i : Nat} {a : Addr}, Ats H ts as → as[i]? = some a → ∃ t, ts[i]? = some t ∧ At H t a
  | [], as, i, a, h, e => by rw [Ats] at h; subst h; simp at e
  | t :: ts, as, i, a, h, e => by
    rw [Ats] at h
    obtain ⟨b, r, rfl, h1, h2⟩ := h
    cases i with
    | zero => simp at e; subst e; exact ⟨t, rfl, h1⟩
    | succ i => exact h2.get (i := i) (by simpa using e)
theorem Ats.at {H : Hp} : ∀ {ts : List Th} {as : List Addr} {i : Nat} {t : Th}, Ats H ts as → ts[i]? = some t → ∃ a, as[i]? = some a ∧ At H t a
  | [], as, i, a, h, e => by simp at e
  | t :: ts, as, i, a, h, e => by
    rw [Ats] at h
    obtain ⟨b, r, rfl, h1, h2⟩ := h
    cases i with
    | zero => simp at e; subst e; exact ⟨b, rfl, h1⟩
    | succ i => exact h2.at (i := i) (by simpa using e)
end BB
namespace BB
open PySem L2
noncomputable def Th.nm : Th → Str
  | .knot n _ => n
  | .call _ _ => q
end BB
namespace BB
open PySem L2
noncomputable def letters : Str := Str.ofString "abcdefghijklmnopqrstuvwxyz"
theorem letters_eq : letters.cps.toList = (List.range 26).map (97 + ·) := by decide +kernel
theorem letters_len : letters.length = 26 := by decide +kernel
theorem at_nonneg {α : Type} {xs : List α} {i : Int} {v : α} (h0 : 0 ≤ i) (h : xs[i.toNat]? = some v) : atI xs i = some v := by
  have e : i = ((i.toNat : Nat) : Int) := by (first | lia | omega)
  rw [e]; exact atI_nat h
theorem letter_at {i : Int} (h0 : 0 ≤ i) (h1 : i < 26) : atI letters.cps.toList i = some (97 + i.toNat) := by
  refine at_nonneg h0 ?_
  rw [letters_eq, List.getElem?_map, List.getElem?_range (by (first | lia | omega))]; rfl
noncomputable def Low (x : Str) : Prop := ∀ c ∈ x.cps.toList, 97 ≤ c ∧ c ≤ 122
theorem low_cut {x : Str} (h : Low x) (lo hi : Option Int) : Low (cutS x lo hi) := by
  intro c hc
  have hc' : c ∈ cutL x.cps.toList lo hi := by simpa [cutS] using hc
  exact h c (List.mem_of_mem_drop (List.mem_of_mem_take hc'))
theorem low_app {x y : Str} (hx : Low x) (hy : Low y) : Low (x ++ y) := by
  intro c hc
  have hc' : c ∈ (x.cps ++ y.cps).toList := hc
  rw [Array.toList_append, List.mem_append] at hc'
  rcases hc' with h | h
  · exact hx c h
  · exact hy c h
theorem low_one {c : Nat} (h1 : 97 ≤ c) (h2 : c ≤ 122) : Low ⟨#[c]⟩ := by
  intro d hd
  have : d = c := by simpa using hd
  (first | lia | omega)
theorem low_q {x : Str} (h : Low x) : x ≠ q := by
  intro e
  subst e
  have := h 63 (by decide +kernel)
  (first | lia | omega)
end BB
namespace L2
open PySem PySem.Spec PyProof.Rows
theorem Same.seqT {K : PySem.W.Frag} {H H' : Hp} {a : Addr} {xs : List V} (e : Same H H') (h : SqT K H a xs) : SqT K H' a xs := by
  rcases h with (h | ⟨o, h⟩) | h
  · exact .inl (.inl (e _ _ h))
  · exact .inl (.inr ⟨o, e _ _ h⟩)
  · exact .inr h
theorem same_new {H : Hp} {p : Addr} (h : H p = none) (o : HO) : Same H (upd H p o) := fun b u q => by rw [upd_ne (ne_of_none q h)]; exact q
theorem same_upd {H H1 : Hp} {l : Addr} {o : HO} (h : Same H H1) (n : H l = none) : Same H (upd H1 l o) := fun b u e => by rw [upd_ne (ne_of_none e n)]; exact h b u e
theorem comp_fm {α : Type} {js : List (Option Nat)} {tt : TT} {te : TE} {σ : St} {J : It} {H : Hp} {xs : List V} {fin : Addr → Hp → Prop} (zs : List α) (p : α → Bool) (f : α → V) (hz : zs.length = xs.length) (hn : xs.length ≤ 1000000)
    (hgo : ∀ i H2, Same H H2 → i < xs.length → J.go i H2) (hstop : ∀ H2, Same H H2 → J.stop xs.length H2) (hyld : ∀ (i : Nat) H2 x H3, Same H H2 → i < xs.length → J.yld i H2 x H3 → H3 = H2 ∧ xs[i]? = some x)
    (htt : ∀ (i : Nat) x z H2 (R : Bool → Hp → Prop), xs[i]? = some x → zs[i]? = some z → Same H H2 → R (p z) H2 → tt ((cσ js σ).set 0 (some x)) H2 R)
    (hte : ∀ (i : Nat) x z H2 (R : VK), xs[i]? = some x → zs[i]? = some z → p z = true → Same H H2 → R (f z) H2 → te ((cσ js σ).set 0 (some x)) H2 R)
    (q : ∀ D, H D = none → fin D (upd H D (.lst ((zs.filter p).map f)))) :
    ∀ D, H D = none → ∃ (n : Nat) (W : Nat → Hp → Prop), W 0 (upd H D (.lst [])) ∧ cTurn js (gName 0) tt te σ J D n W fun H' => fin D H' := by
  intro D hD
  refine ⟨xs.length, fun i H2 => i ≤ xs.length ∧ H2 = upd H D (.lst (((zs.take i).filter p).map f)), ⟨Nat.zero_le _, by simp⟩, ?_⟩
  rintro i H2 ⟨hi, rfl⟩
  have sm : ∀ o, Same H (upd H D o) := fun o => same_new hD o
  by_cases h : i = xs.length
  · left
    subst h
    refine ⟨hstop _ (sm _), ?_⟩
    rw [← hz, List.take_length]
    exact q D hD
  · right
    have hi' : i < xs.length := by (first | lia | omega)
    refine ⟨hi', hgo i _ (sm _) hi', fun x H1 hy => ?_⟩
    obtain ⟨rfl, hx⟩ := hyld i _ x H1 (sm _) hi' hy
    have hzi : i < zs.length := by (first | lia | omega)
    have e1 : zs[i]? = some zs[i] := List.getElem?_eq_getElem hzi
    have e2 : (zs.take (i + 1)).filter p = (zs.take i).filter p ++ (if p zs[i] = true then [zs[i]] else []) := by
      rw [List.take_add_one, e1, List.filter_append]
      show _ ++ List.filter p [zs[i]] = _
      rw [List.filter_cons, List.filter_nil]
    refine htt i x zs[i] _ _ hx e1 (sm _) ?_
    have hlen : (((zs.take i).filter p).map f).length ≤ 1000000 := by
      rw [List.length_map]
      have := List.length_filter_le p (zs.take i)
      rw [List.length_take] at this
      (first | lia | omega)
    by_cases hp : p zs[i] = true
    · rw [if_pos hp]
      refine hte i x zs[i] _ _ hx e1 hp (sm _) ⟨_, upd_same, Nat.lt_of_le_of_lt hlen (by decide), hi', ?_⟩
      rw [upd_upd, e2, if_pos hp, List.map_append]
      rfl
    · rw [if_neg hp]
      refine ⟨hi', ?_⟩
      rw [e2, if_neg hp, List.append_nil]
theorem comp_fm_tup {α : Type} {K : PySem.W.Frag} {a : Addr} {js : List (Option Nat)} {tt : TT} {te : TE} {σ : St} {H : Hp} {xs : List V} {fin : Addr → Hp → Prop} (zs : List α) (p : α → Bool) (f : α → V) (hS : SqT K H a xs) (hz : zs.length = xs.length) (hn : xs.length ≤ 1000000)
    (htt : ∀ (i : Nat) x z H2 (R : Bool → Hp → Prop), xs[i]? = some x → zs[i]? = some z → Same H H2 → R (p z) H2 → tt ((cσ js σ).set 0 (some x)) H2 R)
    (hte : ∀ (i : Nat) x z H2 (R : VK), xs[i]? = some x → zs[i]? = some z → p z = true → Same H H2 → R (f z) H2 → te ((cσ js σ).set 0 (some x)) H2 R)
    (q : ∀ D, H D = none → fin D (upd H D (.lst ((zs.filter p).map f)))) :
    ∀ D, H D = none → ∃ (n : Nat) (W : Nat → Hp → Prop), W 0 (upd H D (.lst [])) ∧ cTurn js (gName 0) tt te σ (Itt K a) D n W fun H' => fin D H' :=
  comp_fm zs p f hz hn (fun i H2 s hi => ⟨xs, xs[i], s.seqT hS, List.getElem?_eq_getElem hi⟩) (fun H2 s => ⟨xs, s.seqT hS, Nat.le_refl _⟩) (fun i H2 x H3 s hi hy => ⟨hy.1, hy.2 xs (s.seqT hS)⟩) htt hte q
end L2
namespace BB
open PySem L2
theorem at0 {α : Type} {x : α} {xs : List α} : atI (x :: xs) 0 = some x := atI_nat (j := 0) rfl
theorem at1 {α : Type} {x y : α} {xs : List α} : atI (x :: y :: xs) 1 = some y := atI_nat (j := 1) rfl
theorem at2 {α : Type} {x y z : α} {xs : List α} : atI (x :: y :: z :: xs) 2 = some z := atI_nat (j := 2) rfl
theorem cut_tail (x : V) (xs : List V) : cutV (x :: xs) (some 1) none = xs := by
  unfold cutV
  simp [HT.sIx]
theorem len_sizes : ∀ ts : List Th, ts.length ≤ sizes ts
  | [] => Nat.zero_le _
  | t :: ts => by
    have := t.size_pos
    have := len_sizes ts
    rw [List.length_cons, sizes]; (first | lia | omega)
theorem line_big {n : Nat} (h : n ≤ 1000000) : n < sizeLine := Nat.lt_of_le_of_lt h (by decide)
theorem line_le {n : Nat} (h : n ≤ 1000000) : n ≤ sizeLine := Nat.le_of_lt (line_big h)
theorem int_at {ns : List Int} {k : Int} (h0 : 0 ≤ k) (h : k < (ns.length : Int)) : atI (ns.map V.int) k = some (.int (ns.getD k.toNat 0)) := by
  refine at_nonneg h0 ?_
  have hk : k.toNat < ns.length := by (first | lia | omega)
  rw [List.getElem?_map, List.getElem?_eq_getElem hk, List.getD_eq_getElem?_getD, List.getElem?_eq_getElem hk]
  rfl
end BB
namespace BB
open PySem L2
section
variable {α β : Type} {F G : α → β → Prop}
theorem P2.append : ∀ {a c : List α} {b d : List β}, Paired F a b → Paired F c d → Paired F (a ++ c) (b ++ d)
  | _, _, _, _, .nil, h => h
  | _, _, _, _, .cons r t, h => .cons r (P2.append t h)
theorem P2.get : ∀ {a : List α} {b : List β} {i : Nat} {x : α}, Paired F a b → a[i]? = some x → ∃ y, b[i]? = some y ∧ F x y
  | _, _, _, _, .nil, e => by simp at e
  | _, _, 0, _, .cons r _, e => by simp at e; subst e; exact ⟨_, rfl, r⟩
  | _, _, i + 1, x, .cons _ t, e => by
    obtain ⟨u, h1, h2⟩ := P2.get (i := i) (x := x) t (by simpa using e)
    exact ⟨u, by simpa using h1, h2⟩
theorem P2.get' : ∀ {a : List α} {b : List β} {i : Nat} {y : β}, Paired F a b → b[i]? = some y → ∃ x, a[i]? = some x ∧ F x y
  | _, _, _, _, .nil, e => by simp at e
  | _, _, 0, _, .cons r _, e => by simp at e; subst e; exact ⟨_, rfl, r⟩
  | _, _, i + 1, y, .cons _ t, e => by
    obtain ⟨u, h1, h2⟩ := P2.get' (i := i) (y := y) t (by simpa using e)
    exact ⟨u, by simpa using h1, h2⟩
theorem P2.mp (f : ∀ x y, F x y → G x y) : ∀ {a : List α} {b : List β}, Paired F a b → Paired G a b
  | _, _, .nil => .nil
  | _, _, .cons r t => .cons (f _ _ r) (P2.mp f t)
end
noncomputable def KAt (H : Hp) (k : Str × Int) (a : Addr) : Prop := H a = some (.tup [.str k.1, .int k.2])
noncomputable def KsAt (H : Hp) (ks : List (Str × Int)) (as : List Addr) : Prop := Paired (KAt H) ks as
theorem KsAt.mono {H H' : Hp} (k : KT H H') {ks : List (Str × Int)} {as : List Addr} (h : KsAt H ks as) : KsAt H' ks as := P2.mp (fun x y e => k _ _ e) h
end BB
namespace L2
open PySem
theorem seq_intro {t u : TS} {D : Ends} {σ : St} {H : Hp} (R : St → Hp → Prop) (h1 : ∀ k : St → Hp → Prop, (∀ σ' H', R σ' H' → k σ' H') → t { D with nx := k } σ H) (h2 : ∀ σ' H', R σ' H' → u D σ' H') : tSeq t u D σ H := h1 _ h2
theorem if_intro {c : TT} {t u : TS} {D : Ends} {σ : St} {H : Hp} (R : Bool → Hp → Prop) (h1 : ∀ k : Bool → Hp → Prop, (∀ b H', R b H' → k b H') → c σ H k) (h2 : ∀ H', R true H' → t D σ H') (h3 : ∀ H', R false H' → u D σ H') : tIfS c t u D σ H :=
  h1 _ fun b H' r => by
    cases b with
    | true => rw [if_pos rfl]; exact h2 H' r
    | false => rw [if_neg Bool.false_ne_true]; exact h3 H' r
end L2
namespace BB
open PySem L2
mutual
noncomputable def Th.Fit (ks : List (Str × Int)) : Th → Prop
  | .knot n ts => (n, (ts.length : Int)) ∈ ks ∧ Fits ks ts
  | .call _ _ => False
noncomputable def Fits (ks : List (Str × Int)) : List Th → Prop
  | [] => True
  | t :: ts => t.Fit ks ∧ Fits ks ts
end
theorem Fits.of {ks : List (Str × Int)} : ∀ {ts : List Th}, (∀ t ∈ ts, t.Fit ks) → Fits ks ts
  | [], _ => by rw [Fits]; trivial
  | t :: ts, h => by
    rw [Fits]
    exact ⟨h t (List.mem_cons_self ..), Fits.of fun u hu => h u (List.mem_cons_of_mem _ hu)⟩
section
variable {ext : Th → List V} {H H' : Hp} {t : Th} {a : Addr} {ts : List Th} {es : List Addr}
end
theorem talls_le : ∀ {ts : List Th} {t : Th}, t ∈ ts → t.tall ≤ talls ts
  | u :: ts, t, h => by
    rw [talls]
    rcases List.mem_cons.mp h with rfl | h
    · (first | lia | omega)
    · have := talls_le h; (first | lia | omega)
theorem cutV_from {xs : List V} {n : Nat} (h : n ≤ xs.length) : cutV xs (some (n : Int)) none = xs.drop n := by
  unfold cutV
  rw [HT.sIx_nat, HT.sIx_none, Nat.min_eq_left h]
  exact List.take_of_length_le (by rw [List.length_drop]; exact Nat.le_refl _)
theorem take_snoc {α : Type} {xs : List α} {n : Nat} {x : α} (h : xs[n]? = some x) : xs.take (n + 1) = xs.take n ++ [x] := by rw [List.take_add_one, h]; rfl
theorem get_ref {xs : List Addr} {i : Nat} {x : V} (h : (xs.map V.ref)[i]? = some x) : ∃ a, x = .ref a ∧ xs[i]? = some a := by
  rw [List.getElem?_map] at h
  obtain ⟨a, h1, h2⟩ := Option.map_eq_some_iff.mp h
  exact ⟨a, h2.symm, h1⟩
end BB
namespace PySem
open Sem (wp)
section
variable {prog : Program} {w : World} {A : Around} {E : Value → Shared → Prop} {s : Shared}
end
section
variable {prog : Program} {w : World} {A : Around} {E : Value → Shared → Prop} {s : Shared}
end
end PySem
namespace L2
open PySem PySem.Spec PyProof.Rows
section
variable {X : Cx} {e : Expr} {te : TE} {p2 pos2 : Pos}
inductive IrCatA (K : PySem.W.Frag) (x : V) (y : V) (H : Hp) (Q : VK) : Prop
  | mk (a : _) (b : _) (xs : _) (ys : _) (zz0 : x = .ref a) (zz1 : y = .ref b) (zz2 : SqT K H a xs) (zz3 : SqT K H b ys) (zz4 : xs.length + ys.length ≤ sizeLine) (zz5 : (xs = [] → Q (.ref b) H)) (zz6 : (xs ≠ [] → ys = [] → Q (.ref a) H)) (zz7 : (xs ≠ [] → ys ≠ [] → ∀ p, H p = none → Q (.ref p) (upd H p (.tup (xs ++ ys))))) : IrCatA K x y H Q
noncomputable def rCatA (K : PySem.W.Frag) : R2 := IrCatA K
theorem op_catA : OpR X (binaryOp .Add) (rCatA X.K) := by
  intro pins s σ H x y v u Q I rx ry h
  refine hidG fun ZZ kZ => ?_
  obtain ⟨a, b, xs, ys, e1, e2, ha, hb, hz, q0, q1, q2⟩ := h
  refine kZ ?_
  by_cases hx : xs = []
  · subst e1 e2
    cases rx
    cases ry
    refine hidG fun ZZ kZ => ?_
    obtain ⟨its, r1, p1, _⟩ := I.tuple ha
    obtain ⟨its2, r2, p2, _⟩ := I.tuple hb
    have hi : its = [] := r1.nil_iff.mpr hx
    obtain ⟨⟨cls, dd, data, sl⟩, ho, hc, n, hd⟩ := p1
    obtain ⟨⟨cls2, dd2, data2, sl2⟩, ho2, hc2, n2, hd2⟩ := p2
    refine kZ ?_
    simp only at hc hd hc2 hd2
    subst hc hd hc2 hd2
    exact concat_meets ⟨_, ho, rfl⟩ ⟨_, ho2, rfl⟩ noFill_tuple_add seq_tuple_add PySem.F.slot_tuple_add PySem.F.entry_tuple_add (PySem.F.args_tuple_add_2 _ _) (tuple_addW0 a b its.toArray its2.toArray n n2 dd dd2 sl sl2 (by simp [hi])) ⟨ho, ho2, ⟨.ref b, H, I, rfl, q0 hx⟩⟩
  · exact op_catT pins s σ H x y v u Q I rx ry ⟨a, b, xs, ys, e1, e2, ha, hb, hx, hz, q1 hx, q2 hx⟩
end
end L2
namespace PySem
open Sem (wp)
section
variable {prog : Program} {w : World} {A : Around} {E : Value → Shared → Prop} {s : Shared}
end
end PySem
namespace PySem
open Sem (wp)
section
variable {prog : Program} {w : World} {A : Around} {E : Value → Shared → Prop} {s : Shared}
end
end PySem
namespace PySem
open Sem (wp)
namespace F
end F
section
variable {prog : Program} {w : World} {A : Around} {R : Result → Shared → Prop}
end
section
variable {prog : Program} {w : World} {A : Around} {E : Value → Shared → Prop} {s : Shared}
end
end PySem
namespace L2
open PySem PySem.Spec PyProof.Rows
section
variable {X : Cx} {e1 e2 : Expr} {t : TA} {p p2 pos pos2 : Pos}
end
end L2
namespace L2
open PySem PySem.Spec PyProof.Rows
section
variable {κ : Type} [DecidableEq κ]
end
section
variable {P : Program} {w : World} {H : Hp} {h : Heap} {a : Addr}
end
section
variable {X : Cx} {pins : List (Addr × Obj)} {σ : St} {H : Hp} {s : Shared} {a : Addr} {y v : V} {u r : Value} {o : Option V} {A : Around} {E : Value → Shared → Prop}
end
section
variable {X : Cx} {pins : List (Addr × Obj)} {σ : St} {H : Hp} {s : Shared} {a : Addr} {kvs : List (Key × V)} {k : Key} {u : Value} {A : Around} {E : Value → Shared → Prop}
end
section
variable {X : Cx} {o i e value : Expr} {pos pos' tpos : Pos} {td ty tv : TE}
end
section
variable {X : Cx} {pos : Pos}
end
section
variable {X : Cx} {pins : List (Addr × Obj)} {σ : St} {H : Hp} {s : Shared} {a : Addr} {y d : V} {u r : Value} {o : Option V} {A : Around} {E : Value → Shared → Prop}
end
section
variable {X : Cx} {o e f : Expr} {apos cpos : Pos} {td ty tx : TE}
end
section
variable {X : Cx} {pins : List (Addr × Obj)} {σ : St} {H : Hp} {s : Shared} {a : Addr} {kvs : List (Key × V)} {A : Around} {E : Value → Shared → Prop}
end
section
variable {X : Cx} {pins : List (Addr × Obj)} {σ : St} {H : Hp} {s : Shared} {a : Addr} {y : V} {u : Value} {A : Around} {E : Value → Shared → Prop}
end
end L2
namespace L2
open PySem PySem.Spec PyProof.Rows
inductive IrIsi (K : PySem.W.Frag) (T : String) (xs : List V) (H : Hp) (Q : VK) : Prop
  | mk (x : _) (b : _) (t : _) (zz0 : xs = [x, .ty T]) (zz1 : TyOf K H x t) (zz2 : PySem.W.kitOne K t (.type T) = some b) (zz3 : Q (.bl b) H) : IrIsi K T xs H Q
noncomputable def rIsi (K : PySem.W.Frag) (T : String) : List V → Hp → VK → Prop := IrIsi K T
theorem call_isiX {X : Cx} {T : String} : CallR X (.builtin "isinstance") (rIsi X.K T) := by
  intro pins s σ H xs us Q I r h
  obtain ⟨x, b, t, e, ty, k, q⟩ := h
  exact call_isi (T := T) (b := b) (t := t) pins s σ H xs us Q I r ⟨x, e, ty, k, q⟩
variable {K : PySem.W.Frag}
theorem isi_ii : PySem.W.kitOne K (.type "int") (.type "int") = some true := rfl
theorem isi_ib : PySem.W.kitOne K (.type "int") (.type "bool") = some false := by with_unfolding_all rfl
end L2
namespace BB
open PySem L2
set_option genSizeOf false in
inductive Dv where
  | int (i : Int)
  | str (x : Str)
  | tup (ds : List Dv)
mutual
noncomputable def Dv.deep : Dv → Nat
  | .int _ => 0
  | .str _ => 0
  | .tup ds => deeps ds + 1
noncomputable def deeps : List Dv → Nat
  | [] => 0
  | d :: ds => max d.deep (deeps ds)
end
mutual
noncomputable def Dv.tot : Dv → Nat
  | .int _ => 1
  | .str _ => 1
  | .tup ds => tots ds + 1
noncomputable def tots : List Dv → Nat
  | [] => 0
  | d :: ds => d.tot + tots ds
end
mutual
noncomputable def DAt (H : Hp) : Dv → V → Prop
  | .int i, v => v = .int i
  | .str x, v => v = .str x
  | .tup ds, v => ∃ a vs, v = .ref a ∧ H a = some (.tup vs) ∧ DAts H ds vs
noncomputable def DAts (H : Hp) : List Dv → List V → Prop
  | [], vs => vs = []
  | d :: ds, vs => ∃ v r, vs = v :: r ∧ DAt H d v ∧ DAts H ds r
end
theorem DAts.nil {H : Hp} : DAts H [] [] := by rw [DAts]
theorem DAts.cons {H : Hp} {d : Dv} {ds : List Dv} {v : V} {vs : List V} (h1 : DAt H d v) (h2 : DAts H ds vs) : DAts H (d :: ds) (v :: vs) := by rw [DAts]; exact ⟨v, vs, rfl, h1, h2⟩
theorem DAts.length {H : Hp} : ∀ {ds : List Dv} {vs : List V}, DAts H ds vs → vs.length = ds.length
  | [], vs, h => by rw [DAts] at h; subst h; rfl
  | d :: ds, vs, h => by
    rw [DAts] at h
    obtain ⟨v, r, rfl, h1, h2⟩ := h
    rw [List.length_cons, List.length_cons, h2.length]
theorem DAts.at {H : Hp} : ∀ {ds : List Dv} {vs : List V} {i : Nat} {d : Dv}, DAts H ds vs → ds[i]? = some d → ∃ v, vs[i]? = some v ∧ DAt H d v
  | [], vs, i, d, h, e => by simp at e
  | d0 :: ds, vs, i, d, h, e => by
    rw [DAts] at h
    obtain ⟨v, r, rfl, h1, h2⟩ := h
    cases i with
    | zero => simp at e; subst e; exact ⟨v, rfl, h1⟩
    | succ i =>
      obtain ⟨u, g1, g2⟩ := h2.at (i := i) (by simpa using e)
      exact ⟨u, by simpa using g1, g2⟩
theorem deep_get : ∀ {ds : List Dv} {i : Nat} {d : Dv}, ds[i]? = some d → d.deep ≤ deeps ds
  | [], i, d, e => by simp at e
  | d0 :: ds, i, d, e => by
    rw [deeps]
    cases i with
    | zero => simp at e; subst e; (first | lia | omega)
    | succ i =>
      have := deep_get (ds := ds) (i := i) (by simpa using e)
      (first | lia | omega)
theorem tot_get : ∀ {ds : List Dv} {i : Nat} {d : Dv}, ds[i]? = some d → d.tot ≤ tots ds
  | [], i, d, e => by simp at e
  | d0 :: ds, i, d, e => by
    rw [tots]
    cases i with
    | zero => simp at e; subst e; (first | lia | omega)
    | succ i =>
      have := tot_get (ds := ds) (i := i) (by simpa using e)
      (first | lia | omega)
theorem Dv.tot_pos (d : Dv) : 1 ≤ d.tot := by
  cases d with
  | int i => rw [Dv.tot]; (first | lia | omega)
  | str x => rw [Dv.tot]; (first | lia | omega)
  | tup ds => rw [Dv.tot]; (first | lia | omega)
theorem catT {K : PySem.W.Frag} {H : Hp} {a b : Addr} {xs ys : List V} {Q : VK} (ha : H a = some (.tup xs)) (hb : H b = some (.tup ys)) (hz : xs.length + ys.length ≤ 1000000) (q : ∀ p H', L2.Same H H' → H' p = some (.tup (xs ++ ys)) → Q (.ref p) H') : rCatA K (.ref a) (.ref b) H Q := by
  refine ⟨a, b, xs, ys, rfl, rfl, SqT.of ha, SqT.of hb, line_le hz, fun e => ?_, fun _ e => ?_, fun _ _ p hp => ?_⟩
  · exact q b H (.refl _) (by rw [e]; exact hb)
  · exact q a H (.refl _) (by rw [e, List.append_nil]; exact ha)
  · exact q p _ (same_new hp _) upd_same
noncomputable def Th.sub : Th → List Int → Option Th
  | t, [] => some t
  | t, i :: r => if 0 ≤ i then (match t.kids[i.toNat]? with | some u => u.sub r | none => none) else none
termination_by _ p => p.length
theorem sub_nil (t : Th) : t.sub [] = some t := by rw [Th.sub]
theorem sub_cons {t u : Th} {i : Int} {r : List Int} (h0 : 0 ≤ i) (h : t.kids[i.toNat]? = some u) : t.sub (i :: r) = u.sub r := by rw [Th.sub, if_pos h0, h]
theorem ints_dv {H : Hp} : ∀ ns : List Int, DAts H (ns.map Dv.int) (ns.map V.int)
  | [] => .nil
  | n :: ns => by
    rw [List.map_cons, List.map_cons]
    exact .cons (by rw [DAt]) (ints_dv ns)
end BB
namespace BB
open PySem L2
section
variable {ext : Th → List V} {H H' : Hp} {t : Th} {a : Addr} {ts : List Th} {es : List Addr}
end
noncomputable def Th.isCall : Th → Bool
  | .knot _ _ => false
  | .call _ _ => true
end BB
namespace BB
open PySem PySem.Spec PyProof.Rows L2
mutual
theorem DAt.inj {H : Hp} : ∀ {d e : Dv} {v : V}, DAt H d v → DAt H e v → d = e
  | .int i, .int j, v, h, g => by rw [DAt] at h; rw [DAt] at g; rw [h] at g; cases g; rfl
  | .int i, .str y, v, h, g => by rw [DAt] at h; rw [DAt] at g; rw [h] at g; cases g
  | .int i, .tup es, v, h, g => by rw [DAt] at h; rw [DAt] at g; obtain ⟨a, vs, e, _⟩ := g; rw [h] at e; cases e
  | .str x, .int j, v, h, g => by rw [DAt] at h; rw [DAt] at g; rw [h] at g; cases g
  | .str x, .str y, v, h, g => by rw [DAt] at h; rw [DAt] at g; rw [h] at g; cases g; rfl
  | .str x, .tup es, v, h, g => by rw [DAt] at h; rw [DAt] at g; obtain ⟨a, vs, e, _⟩ := g; rw [h] at e; cases e
  | .tup ds, .int j, v, h, g => by rw [DAt] at h; rw [DAt] at g; obtain ⟨a, vs, e, _⟩ := h; rw [e] at g; cases g
  | .tup ds, .str y, v, h, g => by rw [DAt] at h; rw [DAt] at g; obtain ⟨a, vs, e, _⟩ := h; rw [e] at g; cases g
  | .tup ds, .tup es, v, h, g => by
    rw [DAt] at h; rw [DAt] at g
    obtain ⟨a, vs, e1, h1, h2⟩ := h
    obtain ⟨b, ws, e2, g1, g2⟩ := g
    rw [e1] at e2
    cases e2
    rw [h1] at g1
    cases g1
    rw [DAts.inj h2 g2]
theorem DAts.inj {H : Hp} : ∀ {ds es : List Dv} {vs : List V}, DAts H ds vs → DAts H es vs → ds = es
  | [], [], vs, h, g => rfl
  | [], e :: es, vs, h, g => by rw [DAts] at h; rw [DAts] at g; obtain ⟨v, r, z, _⟩ := g; rw [h] at z; cases z
  | d :: ds, [], vs, h, g => by rw [DAts] at h; rw [DAts] at g; obtain ⟨v, r, z, _⟩ := h; rw [g] at z; cases z
  | d :: ds, e :: es, vs, h, g => by
    rw [DAts] at h; rw [DAts] at g
    obtain ⟨v, r, z, h1, h2⟩ := h
    obtain ⟨v', r', z', g1, g2⟩ := g
    rw [z] at z'
    cases z'
    rw [DAt.inj h1 g1, DAts.inj h2 g2]
end
end BB
namespace L2
open PySem PySem.Spec PySem.SeqAt PyProof.Rows BB
open Classical in
theorem rcAt_gen {X : Cx} {pins : List (Addr × Obj)} {σ : St} {H : Hp} {s : Shared} (I : Inv X pins σ H s) {ds es : List Dv} {a b : Addr} {vs ws : List V} {A : Around} (ha : SqT X.K H a vs) (hb : SqT X.K H b ws) (hvs : DAts H ds vs) (hws : DAts H es ws) (hu : A.units < cLine)
    (ih : ∀ (j : Nat) (d e : Dv) (x y : V) (u v : Value), ds[j]? = some d → DAt H d x → DAt H e y → RelV x u → RelV y v → EqAt A.in1 s u v (decide (d = e))) : RcAt A s (.ref a) (.ref b) (decide (Dv.tup ds = Dv.tup es)) := by
  refine hidG fun ZZ kZ => ?_
  obtain ⟨its, r1, p1, _⟩ := I.tuple ha
  obtain ⟨its2, r2, p2, _⟩ := I.tuple hb
  refine kZ ?_
  have l1 : its.length = ds.length := by rw [← r1.length, hvs.length]
  have l2 : its2.length = es.length := by rw [← r2.length, hws.length]
  have hcmp : RcAt A s (.ref a) (.ref b) ((List.range (min its.toArray.size its2.toArray.size)).all (fun j => decide (ds[j]? = es[j]?)) && its.toArray.size == its2.toArray.size) := by
    refine RcAt.tuples (show s.heap.IsTuple a its.toArray from p1) (show s.heap.IsTuple b its2.toArray from p2) hu fun j h1 h2 => ?_
    have h1' : j < ds.length := by rw [← l1]; simpa using h1
    have h2' : j < es.length := by rw [← l2]; simpa using h2
    have e1 : ds[j]? = some ds[j] := List.getElem?_eq_getElem h1'
    have e2 : es[j]? = some es[j] := List.getElem?_eq_getElem h2'
    obtain ⟨x', hx', dx⟩ := hvs.at e1
    obtain ⟨y', hy', dy⟩ := hws.at e2
    obtain ⟨u', hu', ru'⟩ := r1.get hx'
    obtain ⟨v', hv', rv'⟩ := r2.get hy'
    have e3 : decide (ds[j]? = es[j]?) = decide (ds[j] = es[j]) := by rw [e1, e2]; simp
    have e4 : its.toArray[j] = u' := by
      rw [List.getElem?_eq_getElem (by rw [l1]; exact h1')] at hu'
      simpa using hu'
    have e5 : its2.toArray[j] = v' := by
      rw [List.getElem?_eq_getElem (by rw [l2]; exact h2')] at hv'
      simpa using hv'
    rw [e3, e4, e5]
    exact ih j ds[j] es[j] x' y' u' v' e1 dx dy ru' rv'
  have e : decide (Dv.tup ds = Dv.tup es) = ((List.range (min its.toArray.size its2.toArray.size)).all (fun j => decide (ds[j]? = es[j]?)) && its.toArray.size == its2.toArray.size) := by
    rw [List.size_toArray, List.size_toArray, l1, l2]
    by_cases h : ds = es
    · subst h
      rw [decide_eq_true rfl]
      symm
      simp
    · rw [decide_eq_false (fun z => h (Dv.tup.inj z))]
      symm
      by_cases hl : ds.length = es.length
      · rw [hl, Nat.min_self]
        have : ¬ ((List.range es.length).all (fun j => decide (ds[j]? = es[j]?))) = true := by
          intro z
          apply h
          apply List.ext_getElem?
          intro j
          by_cases hj : j < es.length
          · have := List.all_eq_true.mp z j (List.mem_range.mpr hj)
            exact of_decide_eq_true this
          · rw [List.getElem?_eq_none (by (first | lia | omega)), List.getElem?_eq_none (by (first | lia | omega))]
        rw [Bool.eq_false_iff.mpr this]
        rfl
      · have : (ds.length == es.length) = false := by simpa using hl
        rw [this, Bool.and_false]
  rw [e]
  exact hcmp
open Classical in
theorem eqAt_dv {X : Cx} {pins : List (Addr × Obj)} {σ : St} {H : Hp} {s : Shared} (I : Inv X pins σ H s) : ∀ (n : Nat) (d e : Dv), d.tot ≤ n → ∀ (x y : V) (u v : Value) (A : Around), DAt H d x → DAt H e y → RelV x u → RelV y v → A.units + d.deep < cLine → EqAt A s u v (decide (d = e))
  | 0, d, e, hn, x, y, u, v, A, hd, he, ru, rv, hu => by have := d.tot_pos; (first | lia | omega)
  | n + 1, .int i, .int j, hn, x, y, u, v, A, hd, he, ru, rv, hu => by
    rw [DAt] at hd; rw [DAt] at he
    subst hd he
    obtain ⟨t, rfl⟩ := ru
    obtain ⟨t', rfl⟩ := rv
    have e : decide (Dv.int i = Dv.int j) = (i == j) := by
      by_cases h : i = j
      · subst h; simp
      · rw [decide_eq_false (fun z => h (Dv.int.inj z))]; simp [h]
    rw [e]
    exact EqAt.int_int i t j t'
  | n + 1, .int i, .str b, hn, x, y, u, v, A, hd, he, ru, rv, hu => by
    rw [DAt] at hd; rw [DAt] at he
    subst hd he
    obtain ⟨t, rfl⟩ := ru
    obtain ⟨t', rfl⟩ := rv
    rw [decide_eq_false (fun z => by cases z)]
    exact EqAt.int_str i t b t'
  | n + 1, .int i, .tup es, hn, x, y, u, v, A, hd, he, ru, rv, hu => by
    rw [DAt] at hd; rw [DAt] at he
    obtain ⟨a, vs, rfl, ha, _⟩ := he
    subst hd
    obtain ⟨t, rfl⟩ := ru
    cases rv
    obtain ⟨its, _, p, _⟩ := I.tuple (SqT.of (K := X.K) ha)
    rw [decide_eq_false (fun z => by cases z)]
    exact EqAt.int_tuple i t (show s.heap.IsTuple a its.toArray from p) (by (first | lia | omega))
  | n + 1, .str b, .int j, hn, x, y, u, v, A, hd, he, ru, rv, hu => by
    rw [DAt] at hd; rw [DAt] at he
    subst hd he
    obtain ⟨t, rfl⟩ := ru
    obtain ⟨t', rfl⟩ := rv
    rw [decide_eq_false (fun z => by cases z)]
    exact EqAt.str_int b t j t'
  | n + 1, .str b, .str c, hn, x, y, u, v, A, hd, he, ru, rv, hu => by
    rw [DAt] at hd; rw [DAt] at he
    subst hd he
    obtain ⟨t, rfl⟩ := ru
    obtain ⟨t', rfl⟩ := rv
    have e : decide (Dv.str b = Dv.str c) = (b == c) := by
      by_cases h : b = c
      · subst h; simp
      · rw [decide_eq_false (fun z => h (Dv.str.inj z))]; simp [h]
    rw [e]
    exact EqAt.str_str b t c t'
  | n + 1, .str b, .tup es, hn, x, y, u, v, A, hd, he, ru, rv, hu => by
    rw [DAt] at hd; rw [DAt] at he
    obtain ⟨a, vs, rfl, ha, _⟩ := he
    subst hd
    obtain ⟨t, rfl⟩ := ru
    cases rv
    obtain ⟨its, _, p, _⟩ := I.tuple (SqT.of (K := X.K) ha)
    rw [decide_eq_false (fun z => by cases z)]
    exact EqAt.str_tuple b t (show s.heap.IsTuple a its.toArray from p) (by (first | lia | omega))
  | n + 1, .tup ds, .int j, hn, x, y, u, v, A, hd, he, ru, rv, hu => by
    rw [DAt] at hd; rw [DAt] at he
    obtain ⟨a, vs, rfl, ha, _⟩ := hd
    subst he
    cases ru
    obtain ⟨t, rfl⟩ := rv
    obtain ⟨its, _, p, _⟩ := I.tuple (SqT.of (K := X.K) ha)
    rw [decide_eq_false (fun z => by cases z)]
    exact EqAt.tuple_int j t (show s.heap.IsTuple a its.toArray from p) (by (first | lia | omega))
  | n + 1, .tup ds, .str b, hn, x, y, u, v, A, hd, he, ru, rv, hu => by
    rw [DAt] at hd; rw [DAt] at he
    obtain ⟨a, vs, rfl, ha, _⟩ := hd
    subst he
    cases ru
    obtain ⟨t, rfl⟩ := rv
    obtain ⟨its, _, p, _⟩ := I.tuple (SqT.of (K := X.K) ha)
    rw [decide_eq_false (fun z => by cases z)]
    exact EqAt.tuple_str b t (show s.heap.IsTuple a its.toArray from p) (by (first | lia | omega))
  | n + 1, .tup ds, .tup es, hn, x, y, u, v, A, hd, he, ru, rv, hu => by
    have hd0 := hd
    have he0 := he
    rw [DAt] at hd; rw [DAt] at he
    obtain ⟨a, vs, rfl, ha, hvs⟩ := hd
    obtain ⟨b, ws, rfl, hb, hws⟩ := he
    cases ru
    cases rv
    by_cases hab : a = b
    · subst hab
      rw [decide_eq_true (DAt.inj hd0 he0)]
      exact EqAt.same _
    rw [Dv.tot] at hn
    rw [Dv.deep] at hu
    refine EqAt.of_refs hab (rcAt_gen I (SqT.of ha) (SqT.of hb) hvs hws (by (first | lia | omega)) fun j d e x' y' u' v' e1 dx dy ru' rv' => ?_)
    have q1 := tot_get e1
    have q2 := deep_get e1
    refine eqAt_dv I n d e (by (first | lia | omega)) x' y' u' v' A.in1 dx dy ru' rv' ?_
    show A.units + 1 + _ < cLine
    (first | lia | omega)
end L2
namespace BB
open PySem L2
noncomputable def Th.put : Th → List Int → Th → Th
  | _, [], o => o
  | t, i :: r, o => match t.kids[i.toNat]? with
    | some u => .knot t.nm (t.kids.set i.toNat (u.put r o))
    | none => o
termination_by _ p => p.length
theorem put_nil (t o : Th) : t.put [] o = o := by rw [Th.put]
theorem put_cons {t u o : Th} {i : Int} {r : List Int} (h : t.kids[i.toNat]? = some u) : t.put (i :: r) o = .knot t.nm (t.kids.set i.toNat (u.put r o)) := by rw [Th.put, h]
theorem sub_inv {t u : Th} {i : Int} {r : List Int} (h : t.sub (i :: r) = some u) : 0 ≤ i ∧ ∃ w, t.kids[i.toNat]? = some w ∧ w.sub r = some u := by
  rw [Th.sub] at h
  split at h
  · rename_i h0
    split at h
    · rename_i w hw
      exact ⟨h0, w, hw, h⟩
    · cases h
  · cases h
theorem sizes_set : ∀ {ks : List Th} {i : Nat} {w x : Th}, ks[i]? = some w → sizes (ks.set i x) + w.size = sizes ks + x.size
  | [], i, w, x, h => by simp at h
  | k :: ks, 0, w, x, h => by
    simp at h
    subst h
    rw [List.set_cons_zero, sizes, sizes]
    (first | lia | omega)
  | k :: ks, i + 1, w, x, h => by
    have := sizes_set (ks := ks) (i := i) (w := w) (x := x) (by simpa using h)
    rw [List.set_cons_succ, sizes, sizes]
    (first | lia | omega)
theorem put_size : ∀ (p : List Int) (t u o : Th), t.sub p = some u → (t.put p o).size + u.size = t.size + o.size
  | [], t, u, o, h => by
    rw [sub_nil] at h
    cases h
    rw [put_nil]
    (first | lia | omega)
  | i :: r, t, u, o, h => by
    refine hidG fun ZZ kZ => ?_
    obtain ⟨h0, w, hw, hs⟩ := sub_inv h
    refine kZ ?_
    have h1 := put_size r w u o hs
    have h2 := sizes_set (x := w.put r o) hw
    rw [put_cons hw, Th.size, t.size_eq]
    (first | lia | omega)
theorem Ats.set {H : Hp} : ∀ {ts : List Th} {as : List Addr} (i : Nat) {x : Th} {a : Addr}, Ats H ts as → At H x a → Ats H (ts.set i x) (as.set i a)
  | [], as, i, x, a, h, g => by rw [Ats] at h; subst h; exact .nil
  | t :: ts, as, i, x, a, h, g => by
    rw [Ats] at h
    obtain ⟨b, r, rfl, h1, h2⟩ := h
    cases i with
    | zero => exact .cons g h2
    | succ i => exact .cons h1 (Ats.set i h2 g)
end BB
namespace PySem
end PySem
namespace L2
open PySem PySem.Spec PyProof.Rows
section
variable {X : Cx}
end
end L2
namespace BB
open PySem L2
end BB
namespace PySem
open Sem (wp)
namespace F
end F
section
variable {prog : Program} {w : World} {A : Around} {E : Value → Shared → Prop} {s : Shared} {a : Addr} {xs : Array Value} {k : Nat}
end
end PySem
namespace L2
open PySem PySem.Spec PyProof.Rows BB
section
variable {X : Cx}
end
end L2
namespace BB
open PySem L2
end BB
namespace HT
open PySem PySem.Spec PyProof.Rows
section
variable {prog : Program} {w : World} {A : Around} {E : Value → Shared → Prop} {s : Shared}
theorem getItem_tuple_whole {t sl : Addr} {items : Array Value} {vl vu : Value} {lo hi : Option Int} {Q : Value → Shared → Prop} (ht : IsTup s.heap t items) (hs : s.heap.IsSliceOf sl vl vu .none) (pl : IsPart vl lo) (pu : IsPart vu hi)
    (hw : sIx items.size 0 lo = 0 ∧ sIx items.size items.size hi = items.size) (h : Q (.ref t) s) : wpAny (model prog w) A (getItem (.ref t) (.ref sl)) Q E s := by
  refine hidG fun ZZ kZ => ?_
  obtain ⟨os, hos, hcs, hds⟩ := id hs
  refine kZ ?_
  have hTs : s.TypeIs (.ref sl) "slice" := ⟨os, hos, hcs⟩
  have hT : s.TypeIs (.ref t) "tuple" := ht.typeIs
  unfold getItem
  try with_reducible refine wpAny_holding ?_
  first | refine wpAny_bind (wpAny_pure ?_) | skip
  refine wpAny_bind (wpAny_sequenceKey ht.typeIs (by decide) ?_)
  refine wpAny_bind (wpAny_callSpecial?_slot (name := Str.ofString "__getitem__") ht.typeIs PyProof.Rows.slot_tuple_getitem
    (wpAny_call_entry PyProof.Rows.slot_tuple_getitem ht.typeIs entry_tuple_getitem ?_ (args_tuple_getitem _ _)))
  show wpAny _ _ (Builtin.Tuple.tupleItemsOf (.ref t) >>= _) _ _ s
  refine wpAny_bind (tupleItemsOf_ ht ?_)
  refine wpAny_bind (wpAny_typeOf hTs ?_)
  rw [if_pos (by decide)]
  refine wpAny_bind (sliceApplied_gen hs pl pu ?_)
  have hyes : (((sIx items.size 0 lo : Nat) : Int) == 0 && (1 : Int) == 1 && (sIx items.size items.size hi - sIx items.size 0 lo) == items.size) = true := by
    rw [hw.1, hw.2]
    simp
  show wpAny _ _ (if (((sIx items.size 0 lo : Nat) : Int) == 0 && (1 : Int) == 1 && (sIx items.size items.size hi - sIx items.size 0 lo) == items.size) = true then _ else _) _ _ s
  rw [if_pos hyes]
  refine wpAny_bind (m := Builtin.Tuple.tupleIsExact _) ?_
  unfold Builtin.Tuple.tupleIsExact
  refine wpAny_bind (wpAny_typeOf hT (wpAny_pure ?_))
  rw [if_pos (by decide)]
  exact wpAny_bind (wpAny_rule (wpAny_pure ⟨_, rfl, wpAny_pure h⟩))
end
end HT
namespace L2
open PySem PySem.Spec PyProof.Rows
inductive IrSlA (x : V) (lo : Option Int) (hi : Option Int) (H : Hp) (Q : VK) : Prop
  | mk (a : _) (xs : _) (zz0 : x = .ref a) (zz1 : H a = some (.tup xs)) (zz2 : ∀ p H', Same H H' → H' p = some (.tup (cutV xs lo hi)) → Q (.ref p) H') : IrSlA  x lo hi H Q
noncomputable def rSlA : V → Option Int → Option Int → Hp → VK → Prop := IrSlA 
theorem sl_tupA {X : Cx} : SlR X rSlA := by
  intro pins s σ H x v vl vu lo hi sl Q I rx hs pl pu h
  obtain ⟨a, xs, rfl, ha, q⟩ := h
  by_cases hw : HT.sIx xs.length 0 lo = 0 ∧ HT.sIx xs.length xs.length hi = xs.length
  · obtain ⟨its, r, p1, hz⟩ := I.tuple (SqT.of (K := X.K) ha)
    have hl := r.length
    cases rx
    have e : cutV xs lo hi = xs := by
      unfold cutV
      rw [hw.1, hw.2, List.drop_zero, Nat.sub_zero, List.take_length]
    refine ⟨"tuple", _, PyProof.Rows.slot_tuple_getitem.lookup, p1.typeIs, HT.getItem_tuple_whole p1 hs pl pu (by rw [List.size_toArray, ← hl]; exact hw) ⟨.ref a, H, I, rfl, q a H (.refl _) (by rw [e]; exact ha)⟩⟩
  · exact sl_tup pins s σ H _ v vl vu lo hi sl Q I rx hs pl pu ⟨a, xs, rfl, SqT.of ha, hw, fun p hp => q p _ (same_new hp _) upd_same⟩
end L2
namespace PySem
open Sem (wp)
section
variable {prog : Program} {w : World} {A : Around} {E : Value → Shared → Prop} {s : Shared} {it d : Addr} {i ep : Nat} {od : Obj} {es : Array DictEntry}
end
end PySem
namespace L2
open PySem PySem.Spec PyProof.Rows
section
variable {X : Cx} {e : Expr} {te : TE}
end
end L2
namespace BB
open PySem L2
end BB
namespace PySem
open Sem (wp)
end PySem
namespace L2
open PySem PySem.Spec PyProof.Rows BB
end L2
namespace BB
open PySem L2
theorem room_150 {k : Nat} {A : Around} (hr : L2.Room k A) : A.units + 150 + 2 < cLine := by
  have := hr.un
  (first | lia | omega)
end BB
namespace BB
open PySem L2
end BB
namespace BB
open PySem L2
end BB
namespace L2
open PySem PySem.Spec PySem.SeqAt PyProof.Rows BB
open Classical in
theorem ne_parts {X : Cx} {pins : List (Addr × Obj)} {σ : St} {H : Hp} {s : Shared} (I : Inv X pins σ H s) {ds es : List Dv} {vs ws : List V} {its its2 : List Value} {A : Around} (r1 : Vals vs its) (r2 : Vals ws its2) (hvs : DAts H ds vs) (hws : DAts H es ws) (hu : A.units + deeps ds + 2 < cLine) :
    ∀ j (h1 : j < its.toArray.size) (h2 : j < its2.toArray.size), EqAt A.in1 s its.toArray[j] its2.toArray[j] (decide (ds[j]? = es[j]?)) := by
  intro j h1 h2
  have l1 : its.length = ds.length := by rw [← r1.length, hvs.length]
  have l2 : its2.length = es.length := by rw [← r2.length, hws.length]
  have h1' : j < ds.length := by rw [← l1]; simpa using h1
  have h2' : j < es.length := by rw [← l2]; simpa using h2
  have e1 : ds[j]? = some ds[j] := List.getElem?_eq_getElem h1'
  have e2 : es[j]? = some es[j] := List.getElem?_eq_getElem h2'
  refine hidG fun ZZ kZ => ?_
  obtain ⟨x', hx', dx⟩ := hvs.at e1
  obtain ⟨y', hy', dy⟩ := hws.at e2
  obtain ⟨u', hu', ru'⟩ := r1.get hx'
  obtain ⟨v', hv', rv'⟩ := r2.get hy'
  refine kZ ?_
  have e3 : decide (ds[j]? = es[j]?) = decide (ds[j] = es[j]) := by rw [e1, e2]; simp
  have e4 : its.toArray[j] = u' := by
    rw [List.getElem?_eq_getElem (by rw [l1]; exact h1')] at hu'
    simpa using hu'
  have e5 : its2.toArray[j] = v' := by
    rw [List.getElem?_eq_getElem (by rw [l2]; exact h2')] at hv'
    simpa using hv'
  rw [e3, e4, e5]
  have q2 := deep_get e1
  refine eqAt_dv I _ ds[j] es[j] (Nat.le_refl _) x' y' u' v' A.in1 dx dy ru' rv' ?_
  show A.units + 1 + _ < cLine
  (first | lia | omega)
open Classical in
theorem all_eq_iff {ds es : List Dv} (hl : ds.length = es.length) : (List.range ds.length).all (fun j => decide (ds[j]? = es[j]?)) = decide (ds = es) := by
  by_cases h : ds = es
  · subst h
    rw [decide_eq_true rfl]
    simp
  · rw [decide_eq_false h]
    refine Bool.eq_false_iff.mpr fun z => h (List.ext_getElem? fun j => ?_)
    by_cases hj : j < ds.length
    · exact of_decide_eq_true (List.all_eq_true.mp z j (List.mem_range.mpr hj))
    · rw [List.getElem?_eq_none (by (first | lia | omega)), List.getElem?_eq_none (by (first | lia | omega))]
noncomputable def rNeS (K : PySem.W.Frag) (B : Nat) : R2 := fun x y H Q => ∃ a b vs ws ds es, x = .ref a ∧ y = .ref b ∧ SqT K H a vs ∧ SqT K H b ws ∧ DAts H ds vs ∧ DAts H es ws ∧ deeps ds ≤ B ∧ ∀ b : Bool, (b = true ↔ ds ≠ es) → Q (.bl b) H
open Classical in
theorem op_neS {X : Cx} {B : Nat} (hu : X.A.units + B + 2 < cLine) : OpR X (compareOp .NotEq) (rNeS X.K B) := by
  intro pins s σ H x y v u Q I rx ry h
  refine hidG fun ZZ kZ => ?_
  obtain ⟨a, b, vs, ws, ds, es, rfl, rfl, ha, hb, hvs, hws, hB, q⟩ := h
  refine kZ ?_
  cases rx
  cases ry
  refine hidG fun ZZ kZ => ?_
  obtain ⟨its, r1, p1, _⟩ := I.tuple ha
  obtain ⟨its2, r2, p2, _⟩ := I.tuple hb
  refine kZ ?_
  have l1 : its.length = ds.length := by rw [← r1.length, hvs.length]
  have l2 : its2.length = es.length := by rw [← r2.length, hws.length]
  refine RcNeAt.tuples (show s.heap.IsTuple a its.toArray from p1) (show s.heap.IsTuple b its2.toArray from p2) (by (first | lia | omega)) (ne_parts I r1 r2 hvs hws (by (first | lia | omega))) X.prog X.w X.xe _ ?_
  have e : ((List.range (min its.toArray.size its2.toArray.size)).all (fun j => decide (ds[j]? = es[j]?)) && its.toArray.size == its2.toArray.size) = decide (ds = es) := by
    rw [List.size_toArray, List.size_toArray, l1, l2]
    by_cases hl : ds.length = es.length
    · rw [← hl, Nat.min_self, all_eq_iff hl]
      simp
    · rw [decide_eq_false (fun z => hl (by rw [z]))]
      simp [hl]
  refine ⟨.bl (!decide (ds = es)), H, I, by rw [e]; rfl, q _ ?_⟩
  simp
end L2
namespace BB
open PySem L2
end BB
namespace BB
open PySem L2
end BB
namespace L2
open PySem PySem.Spec PySem.SeqAt PyProof.Rows BB
end L2
namespace BB
open PySem L2
end BB
namespace BB
open PySem L2
end BB
namespace L2
open PySem PySem.Spec PyProof.Rows BB
end L2
namespace BB
open PySem L2
end BB
namespace BB
open PySem L2
theorem cutV_to {xs : List V} {n : Nat} (h : n ≤ xs.length) : cutV xs none (some (n : Int)) = xs.take n := by
  unfold cutV
  rw [HT.sIx_none, HT.sIx_nat, Nat.min_eq_left h, List.drop_zero, Nat.sub_zero]
end BB
namespace L2
open PySem PySem.Spec PySem.Calls PyProof.Rows PySem.W
structure ExcK (K : Frag) (C : Addr) : Prop where
  exc : excIn K C [.type "ValueError", .type "Exception", .type "BaseException", .type "object"] "ValueError.__new__" = true
  ga : findIn K (.ref C) "__getattribute__" = some (some (.builtin "BaseException.__getattribute__"))
  gt : findIn K (.ref C) "__getattr__" = some none
  cl : findIn K (.ref C) "__class__" = some (some (.builtin "object.__class__"))
  mo : mroIn K C (.type "object") = some true
  mb : mroIn K C (.type "BaseException") = some true
section
variable {prog : Program} {w : World} {A : Around} {E : Value → Shared → Prop} {h : Heap} {g : Array GenState} {d : Drawn} {t : Nat} {os : OsState} {a C : Addr} {o : Obj} {K : Frag}
open Builtin Builtin.ObjectAttr Builtin.Getset_descriptor in
theorem xcls_get {R : Result → Shared → Prop} {tp : Value} (X : K.In h) (hx : h.get? a = some o) (hc : o.cls = .ref C) (F : ExcK K C) (hq : R (.ok (.ret (.ref C))) ⟨h, g, d, t, os⟩) :
    codeAny (model prog w) A (.call (.builtin "getset_descriptor.__get__") ⟨[.builtin "object.__class__", .ref a, tp], []⟩) R ⟨h, g, d, t, os⟩ := by
  have L0 : Looks (model prog w) h (typeOf (.ref a)) (.ref C) := hc ▸ (Looks.ld hx).andThen .now
  have L1 := looks_mroIn (M := model prog w) X F.mo
  refine codeAny_call_builtin KF.slot_gs.plain KF.entry_gs (KF.slot_gs.check _ _ _ _ _ _ _ _ KF.type_class (KF.args_gs _ _ _) ?_)
  unfold Builtin.«getset_descriptor.__get__» descrGet
  rw [dga_obj]
  refine wpAny_bind (wpAny_pure ?_)
  unfold descrGetter descrCheckInstance descrNameAndClass isInstance
  simp only [KF.owner_class]
  repeat lk
  refine ⟨Code.quiet_builtin _ (by decide +kernel), codeAny_builtin KF.entry_class ?_⟩
  unfold Builtin.«object.__class__» shownTypeOf
  repeat lk
  exact hq
theorem xcls_entry {tk : Tok} {Q : Fin → Shared → Prop} (X : K.In h) (hx : h.get? a = some o) (hc : o.cls = .ref C) (F : ExcK K C) (hq : Q (.done (.ret (.ref C))) ⟨h, g, d, t, os⟩) :
    wpAny (model prog w) A (Builtin.«object.__getattribute__» ⟨[.ref a, .str "__class__" tk], []⟩) Q E ⟨h, g, d, t, os⟩ := by
  have f5 := PySem.F.typeOf_object_class
  have f6 := PySem.F.slot_gs_get.lookup
  have f7 := PySem.F.slot_gs_set.lookup
  have L1 := looks_findIn (M := model prog w) X F.cl
  repeat (any_goals (first | assumption | (with_reducible refine wpAny_loadPart_at hx ?_; rw [hc]) | with_reducible refine L1.at ?_ | wp_step))
  refine xcls_get X hx hc F ?_
  repeat (any_goals (first | assumption | wp_step))
theorem xcls_check {M : Model} {nameV : Value} {Q : Unit → Shared → Prop} (X : K.In h) (hx : h.get? a = some o) (hc : o.cls = .ref C) (F : ExcK K C) (hq : Q () ⟨h, g, d, t, os⟩) :
    wpAny M A (checkBuiltinCall "BaseException.__getattribute__" ⟨[.ref a, nameV], []⟩) Q E ⟨h, g, d, t, os⟩ := by
  have hk : builtinKind "BaseException.__getattribute__" = some .slot := by decide +kernel
  have hsplit : splitId "BaseException.__getattribute__" = some ("BaseException", "__getattribute__") := by decide +kernel
  have ha := PySem.F.args_bexc_ga (.ref a) nameV
  have L0 : Looks M h (typeOf (.ref a)) (.ref C) := hc ▸ (Looks.ld hx).andThen .now
  have L1 := looks_mroIn (M := M) X F.mb
  simp only [checkBuiltinCall, hk, hsplit]
  refine wpAny_bind ?_
  · unfold isInstance
    repeat (first | with_reducible refine L0.at ?_ | with_reducible refine L1.at ?_ | wp_step)
    exact hq
theorem xcls_call {tk : Tok} {R : Result → Shared → Prop} (X : K.In h) (hx : h.get? a = some o) (hc : o.cls = .ref C) (F : ExcK K C) (hq : R (.ok (.ret (.ref C))) ⟨h, g, d, t, os⟩) :
    codeAny (model prog w) A (.call (.builtin "BaseException.__getattribute__") ⟨[.ref a, .str "__class__" tk], []⟩) R ⟨h, g, d, t, os⟩ :=
  codeAny_call_builtin PySem.F.attr_ValueError.ga.plain PySem.F.entry_bexc_ga (xcls_check X hx hc F (xcls_entry X hx hc F hq))
theorem xcls_by {tk : Tok} {fill expr : Bool} {Q : Value → Shared → Prop} (X : K.In h) (hx : h.get? a = some o) (hc : o.cls = .ref C) (F : ExcK K C) (hq : Q (.ref C) ⟨h, g, d, t, os⟩) :
    wpAny (model prog w) A (getAttrBy (.ref a) (.str "__class__" tk) fill expr) Q E ⟨h, g, d, t, os⟩ := by
  have f3 := PySem.F.attr_ValueError.ga.bind (.ref a)
  have hx0 : (expr && onTheHeap (Value.builtin "BaseException.__getattribute__")) = false := by cases expr <;> rfl
  have hx2 : (Value.builtin "BaseException.__getattribute__" == Value.builtin "object.__getattribute__") = false := by decide +kernel
  have hx1 : (onTheHeap (Value.ref C) && Value.builtin "BaseException.__getattribute__" == Value.builtin "object.__getattribute__") = false := by rw [hx2]; rfl
  have L1 := looks_findIn (M := model prog w) X F.ga
  have L2 := looks_findIn (M := model prog w) X F.gt
  repeat (any_goals (first | assumption | (with_reducible refine wpAny_loadPart_at hx ?_; rw [hc]) | with_reducible refine L1.at ?_ | with_reducible refine L2.at ?_ | wp_step))
  refine xcls_call X hx hc F ?_
  repeat (any_goals (first | assumption | wp_step))
theorem xcls_attr {Q : Option Value → Shared → Prop} (X : K.In h) (hx : h.get? a = some o) (hc : o.cls = .ref C) (F : ExcK K C) (hq : Q (some (.ref C)) ⟨h, g, d, t + 1, os⟩) :
    wpAny (model prog w) A (getAttr? (.ref a) "__class__") Q E ⟨h, g, d, t, os⟩ := by
  unfold getAttr? getAttrBy?
  repeat (any_goals (first | assumption | with_reducible apply xcls_by X hx hc F | wp_step))
theorem kitx_exc (F : ExcK K C) : KitX K (.ref a) (.ref C) (fun h => ∃ o, h.get? a = some o ∧ o.cls = .ref C) where
  ty := fun _ _ _ ⟨_, hx, hc⟩ => hc ▸ (Looks.ld hx).andThen .now
  it := fun _ _ X _ => by
    have hb := F.mb
    unfold mroIn clsIn at hb
    split at hb
    · rename_i c' d' cd' sl' ho
      intro A' Q' E' s' k q
      unfold isType loadHead
      exact wpAny_bind (wpAny_loadPart (k _ _ (X _ _ ho)) (wpAny_pure q))
    · cases hb
  ne := fun h tp dd its n sl X htp => by
    refine Bool.eq_false_iff.mpr fun q => ?_
    have e : C = tp := Value.ref.inj (beq_iff_eq.mp q)
    subst e
    have hb := F.mb
    unfold mroIn clsIn at hb
    split at hb
    · rename_i c' d' cd' sl' ho
      have z := (X _ _ ho).symm.trans htp
      cases z
    · cases hb
  ca := fun {_ _ _ _ _ s} X ⟨_, hx, hc⟩ k => by obtain ⟨h, g, d, t, os⟩ := s; exact xcls_attr X hx hc F k
end
noncomputable def cvOf : V → Value
  | .ref D => .ref D
  | .ty n => .type n
  | _ => .none
noncomputable def rIsx (K : Frag) (ea C : Addr) : List V → Hp → VK → Prop := fun xs H Q => ∃ v b, xs = [.ref ea, v] ∧ kitOne K (.ref C) (cvOf v) = some b ∧ Q (.bl b) H
theorem call_isx {X : Cx} {K : Frag} {ea C : Addr} {oe : Obj} (hp : (ea, oe) ∈ X.pn) (hc : oe.cls = .ref C) (F : ExcK K C) (hK : X.K = K := by rfl) : CallR X (.builtin "isinstance") (rIsx K ea C) := by
  subst hK
  intro pins s σ H xs us Q I r h
  obtain ⟨v, b, rfl, k, q⟩ := h
  obtain ⟨u, w', rfl, r1, r2⟩ := vals2 r
  cases (show u = Value.ref ea from r1)
  have hv : w' = cvOf v := by
    cases v with
    | ref D => exact r2
    | ty n => exact r2
    | non => exact absurd k (by intro z; cases z)
    | bl _ => exact absurd k (by intro z; cases z)
    | int _ => exact absurd k (by intro z; cases z)
    | str _ => exact absurd k (by intro z; cases z)
    | byt _ => exact absurd k (by intro z; cases z)
    | flt _ => exact absurd k (by intro z; cases z)
  subst hv
  have hx := (I.pin (ea, oe) (List.mem_append_left _ hp)).1
  exact kia_one (kitx_exc F) I.kIn ⟨oe, hx, hc⟩ k (fun z => nomatch z) fun tk => ⟨.bl b, H, I.tok tk, rfl, q⟩
end L2
namespace L2
open PySem PySem.Spec PySem.Calls PyProof.Rows PySem.W
theorem ObjOk.there {P : Program} {w : World} {H : Hp} {h : Heap} {a : Addr} {o : HO} (x : ObjOk P w H h a o) : ∃ ob, h.get? a = some ob := by
  cases o with
  | lst xs => obtain ⟨_, _, _, _, e⟩ := x; exact ⟨_, e⟩
  | tup xs => obtain ⟨_, _, _, _, e⟩ := x; exact ⟨_, e⟩
  | dK kvs => obtain ⟨_, _, _, _, o, _, _, e, _⟩ := x; exact ⟨_, e⟩
  | dT kvs => obtain ⟨_, _, _, _, o, _, _, e, _⟩ := x; exact ⟨_, e⟩
  | set S n => obtain ⟨o, _, _, _, e, _⟩ := x; exact ⟨_, e⟩
  | ins C dx fs => obtain ⟨_, _, _, e, _⟩ := x; exact ⟨_, e⟩
  | own y => obtain ⟨_, e⟩ := x; exact ⟨_, e⟩
  | xd fs => obtain ⟨_, ⟨_, _, _, e, _⟩, _⟩ := x; exact ⟨_, e⟩
  | rng lo hi => obtain ⟨_, _, _, e⟩ := x; exact ⟨_, e⟩
  | frz ob u => obtain ⟨e, _⟩ := x; exact ⟨_, e⟩
  | tbl ps => exact ⟨_, (show h.get? a = some _ from x)⟩
  | met f y => exact ⟨_, (show h.get? a = some _ from x)⟩
  | ext φ => obtain ⟨_, ⟨_, e⟩, _⟩ := x; exact ⟨_, e⟩
noncomputable def CX1 (P : Program) (w : World) : CXT := fun outer H s E e s' => ∃ (ea C : Addr) (a0 : Value) (B : Heap) (H' : Hp),
  e = .ref ea ∧ s'.os = s.os ∧ AllBare s'.gens ∧ Un (frs outer) [] H H' s.heap s'.heap ∧ HOk P w H' s'.heap ∧ Heap.FlyingW B outer ea (.ref C) a0 s'.heap ∧
  (∀ b o, s.heap.get? b = some o → b ∉ frs outer → ∃ o', B.get? b = some o' ∧ (H b = none → o' = o)) ∧ (∀ b u, H' b = some u → ∃ o', B.get? b = some o') ∧ E (.ref C) none H'
theorem hok_fly {P : Program} {w : World} {H' : Hp} {B h h' : Heap} (hok : HOk P w H' h) (k1 : B.StaysIn h) (k2 : B.StaysIn h') (b2 : ∀ b u, H' b = some u → ∃ o', B.get? b = some o') : HOk P w H' h' := fun a o e =>
  (hok a o e).stay (fun b u hb q => by
    have ht : ∃ v, H' b = some v := by
      rcases hb with rfl | hb
      · exact ⟨_, e⟩
      · exact ⟨_, hb⟩
    obtain ⟨v, hv⟩ := ht
    obtain ⟨o', ho'⟩ := b2 b v hv
    have := k1 b o' ho'
    rw [q] at this; cases this
    exact k2 b _ ho') (fun _ q => q) fun _ _ q => q
theorem un_fly {fs : List Addr} {H H1 H' : Hp} {h h1 h2 h' : Heap} {l : List Addr} {B : Heap} (u1 : Un fs [] H H1 h h1) (u2 : Un l [] H1 H' h1 h2) (hl : ∀ b o, h.get? b = some o → b ∈ l → b ∈ fs)
    (b1 : ∀ b o, h1.get? b = some o → b ∉ l → ∃ o', B.get? b = some o' ∧ (H1 b = none → o' = o)) (st : B.StaysIn h') (up : h2.UpToSlots h')
    (hf : ∀ b ∈ fs, H b = none ∧ ∃ o, h.get? b = some o ∧ ∀ vs, o.data ≠ .fields vs) :
    Un fs [] H H' h h' ∧ ∀ b o, h.get? b = some o → b ∉ fs → ∃ o', B.get? b = some o' ∧ (H b = none → o' = o) := by
  have nx : ∀ b : Addr, b ∉ ([] : List Addr) := fun b => by simp
  have bb : ∀ b o, h.get? b = some o → b ∉ fs → ∃ o', B.get? b = some o' ∧ (H b = none → o' = o) := fun b o q nf => by
    obtain ⟨o1, e1⟩ := u1.there b o q (nx b)
    obtain ⟨o', e', g⟩ := b1 b o1 e1 fun z => nf (hl b o q z)
    refine ⟨o', e', fun n => ?_⟩
    have := u1.keep b o q n nf (nx b)
    rw [e1] at this; cases this
    exact g (u1.free b _ q n (nx b))
  have sl : ∀ b o, h.get? b = some o → H b = none → b ∈ fs → ∃ sl, h'.get? b = some { o with slots := sl } := fun b o q n m => by
    obtain ⟨s1, e1⟩ := u1.slot b o q n m (nx b)
    obtain ⟨s2, e2⟩ := u2.any e1 (u1.free b o q n (nx b)) (nx b)
    obtain ⟨_, o0, q0, nf⟩ := hf b m
    rw [q] at q0; cases q0
    obtain ⟨s3, e3⟩ := up b _ e2 nf
    exact ⟨s3, e3⟩
  refine ⟨⟨fun b o q n nf _ => ?_, fun b o q n m _ => sl b o q n m, fun b o q n _ => ?_, fun b o q _ => ?_, fun b xs q => u2.tups b xs (u1.tups b xs q), fun b o u q => u2.frzs b o u (u1.frzs b o u q), fun b ps q => ?_⟩, bb⟩
  · obtain ⟨o', e', g⟩ := bb b o q nf
    rw [← g n]; exact st b o' e'
  · obtain ⟨o1, e1⟩ := u1.there b o q (nx b)
    exact u2.free b o1 e1 (u1.free b o q n (nx b)) (nx b)
  · by_cases m : b ∈ fs
    · obtain ⟨n, _⟩ := hf b m
      obtain ⟨s3, e3⟩ := sl b o q n m
      exact ⟨_, e3⟩
    · obtain ⟨o', e', _⟩ := bb b o q m
      exact ⟨o', st b o' e'⟩
  · obtain ⟨m1, e1⟩ := u1.tbls b ps q
    obtain ⟨m2, e2⟩ := u2.tbls b _ e1
    exact ⟨m1 ++ m2, by rw [e2, Array.append_assoc]⟩
section
variable {P : Program} {w : World} {K : PySem.W.Frag} {mg : Str → Option Value} {base : Heap} {N : List Str} {qual : Str} {scope : Scope} {f : Addr} {cd : Value} {A : Around} {outer : List Env} {s : Shared} {H : Hp} {E : XK}
theorem frs_in {l : List Env} {env : Env} {L : Addr} (hf : env.frame = some L) : frs (env :: l) = L :: frs l := by unfold frs; rw [List.filterMap_cons, hf]
theorem pass1 : Passes (CX1 P w) (cxOf (CX1 P w) P w K mg base N qual scope f cd A outer s H E) E := by
  intro pins σ H1 s1 e s2 I h
  obtain ⟨ea, C, a0, B, H', rfl, hos, hbare, un, hok, fly, b1, b2, q⟩ := h
  show wpAny _ _ (leaving _ _) _ _ s2
  refine wpAny_leaves_onW (E := fun e' s'' => CX1 P w outer H s E e' s'') I.ok.frames rfl fly fun h' fly' up => ?_
  obtain ⟨U, b1'⟩ := un_fly (fs := frs outer) (H := H) (h := s.heap) (l := frs (envOfC qual scope s.heap.objs.size f cd :: outer)) (B := B) (h' := h') I.base un (fun b o hb z => by
      rw [frs_in (L := s.heap.objs.size) rfl] at z
      rcases List.mem_cons.mp z with rfl | z
      · exact absurd (Heap.lt_size hb) (Nat.lt_irrefl _)
      · exact z) b1 fly'.1 up (fun b hb => ⟨I.ok.frf b hb, (I.ok.funs.mem hb).2⟩)
  exact ⟨ea, C, a0, B, H', rfl, hos.trans I.os, hbare, U, hok_fly hok fly.1 fly'.1 b2, fly', b1', b2, q⟩
noncomputable def tRaise (te : TE) (C : Addr) (E : XK) : TS := fun _ σ H => te σ H fun _ H1 => E (.ref C) none H1
theorem own_cls {h : Heap} {C : Addr} {x : Str} (X : K.In h) (F : ExcK K C) (hm : mg x = some (.ref C)) : OwnCls x C [.type "ValueError", .type "Exception", .type "BaseException", .type "object"] "ValueError.__new__" mg h := by
  have q := F.exc
  refine ⟨hm, ?_⟩
  unfold excIn at q
  split at q
  · rename_i dd cd sl ho
    split at q
    · rename_i C' bm k0 k1 k2 k3 n k5 hm hs
      simp only [Bool.and_eq_true, beq_iff_eq, Bool.not_eq_true'] at q
      refine hidG fun ZZ kZ => ?_
      obtain ⟨⟨⟨⟨⟨rfl, rfl⟩, hdel⟩, ht⟩, hok⟩, hni⟩ := q
      obtain ⟨nm, bs, mro, ns, qn, hd, sn, sub, ab, col, del⟩ := cd
      refine kZ ?_
      dsimp only at hm hdel hok hni
      subst hm hdel
      have hsl : sl = #[k0, k1, k2, k3, some (.builtin "ValueError.__new__"), k5] := by
        obtain ⟨l⟩ := sl
        simp only at hs
        rw [hs]
      subst hsl
      exact ⟨bm, ns, nm, qn, bs, hd, sn, sub, ab, col, dd, k0, k1, k2, k3, k5, _, X _ _ ho, .of_isNs (isNs_of_in X hok), nsMap_none_of_in X hok hni, tail_of_in X ht⟩
    · cases q
  · cases q
theorem ps_raise {C : Addr} {x : Str} {e0 : Expr} {te : TE} {np cpos pos : Pos} (F : ExcK K C) (hm : mg x = some (.ref C)) (he : PE (cxOf (CX1 P w) P w K mg base N qual scope f cd A outer s H E) e0 te)
    (hx : (envOfC qual scope s.heap.objs.size f cd).kindOf x = some .globalImplicit := by rfl)
    (hst : starEach [e0] (envOfC qual scope s.heap.objs.size f cd) = [(false, eval e0 (envOfC qual scope s.heap.objs.size f cd))] := by rfl) (hd : (x == ("__debug__" : Str)) = false := by decide) :
    PS (cxOf (CX1 P w) P w K mg base N qual scope f cd A outer s H E) (.Raise (some (.Call (.Name x np) [e0] [] cpos)) none pos) (tRaise te C E) := by
  intro pins s1 σ H1 D I h
  refine hidG fun ZZ kZ => ?_
  obtain ⟨tl, N', nm, q, bs, hdct, sn, sub, ab, col, dd, k0, k1, k2, k3, k5, mN, hC, hN, hni, T⟩ := (own_cls I.mod.kin F hm).obj
  refine kZ ?_
  refine wpAny_Raise_call_subT (C := C) (nm := nm) (q := q) (N := N') (bs := bs) (bm := tl) (hdct := hdct) (sn := sn) (sub := sub) (ab := ab) (col := col) (dd := dd) (k0 := k0) (k1 := k1) (k2 := k2) (k3 := k3) (k5 := k5)
    PySem.F.excBase_ValueError (mN := mN) (T.hasType PySem.F.excBase_ValueError.hasBase) (I.ok.hd rfl) (by show (backTo cpos (starEach [e0] (envOfC qual scope s.heap.objs.size f cd))).any (·.1) = false; rw [hst]; rfl) hni (ld_glob I hx hm ⟨rfl, ?_⟩ hd)
  show wpAny _ _ (evalArgs _ true (backTo cpos (starEach [e0] (envOfC qual scope s.heap.objs.size f cd))) []) _ _ _
  rw [hst]
  refine Calls.evalArgs_plain (Calls.spliced_cons (thn (he pins s1 σ H1 _ I h) fun v s2 zz => el23 zz fun y H2 I2 r2 q2 => Calls.spliced_nil ⟨rfl, by show 1 ≤ sizeLine; decide, I2.bk _ _ hC, hN.keeps I2.bk, T.keeps I2.bk, fun h' e hx => ?_⟩))
  show wpAny _ _ (leaving _ _) _ _ _
  have FF := I2.stack
  have hl : ∀ env ∈ envOfC qual scope s.heap.objs.size f cd :: outer, ∀ a, env.frame = some a → a ∈ frs (envOfC qual scope s.heap.objs.size f cd :: outer) := fun env he a ha => List.mem_filterMap.mpr ⟨env, he, ha⟩
  refine wpAny_leaves_madeW (base := hideAll s2.heap (frs (envOfC qual scope s.heap.objs.size f cd :: outer))) (h := s2.heap) I.ok.frames rfl (fun b o z => of_hideAll _ z) (funFrames_hide FF hl) hx fun h2 t fly tup tn up => ?_
  have nf : ∀ b u, H2 b = some u → b ∉ frs (envOfC qual scope s.heap.objs.size f cd :: outer) := fun b u e z => by rw [I2.stkFree b z] at e; cases e
  obtain ⟨U, b1'⟩ := un_fly (fs := frs outer) (H := H) (H1 := H2) (H' := H2) (h := s.heap) (h1 := s2.heap) (h2 := h') (l := frs (envOfC qual scope s.heap.objs.size f cd :: outer)) (B := hideAll s2.heap (frs (envOfC qual scope s.heap.objs.size f cd :: outer))) (h' := h2) I2.base (Un.kept hx.keeps) (fun b o hb z => by
      rw [frs_in (L := s.heap.objs.size) rfl] at z
      rcases List.mem_cons.mp z with rfl | z
      · exact absurd (Heap.lt_size hb) (Nat.lt_irrefl _)
      · exact z) (fun b o hb z => ⟨o, hideAll_get _ hb z, fun _ => rfl⟩) fly.1 up (fun b hb => ⟨I.ok.frf b hb, (I.ok.funs.mem hb).2⟩)
  have b2 : ∀ b u, H2 b = some u → ∃ o', (hideAll s2.heap (frs (envOfC qual scope s.heap.objs.size f cd :: outer))).get? b = some o' := fun b u e => by
    obtain ⟨o, ho⟩ := (I2.hok b u e).there
    exact ⟨o, hideAll_get _ ho (nf b u e)⟩
  exact ⟨e, C, .ref t, _, H2, rfl, I2.os, I2.bare, U, hok_fly I2.hok (fun b o z => of_hideAll _ z) fly.1 b2, fly, b1', b2, q2⟩
end
end L2
namespace L2
open PySem PySem.Spec PySem.Calls PyProof.Rows PySem.W
section
variable {X : Cx} {pins : List (Addr × Obj)} {σ : St} {H : Hp} {s : Shared}
noncomputable def Cx.tryB (X : Cx) (pins : List (Addr × Obj)) (R : St → Value → Hp → Prop) : Cx := { X with
  pn := X.pn ++ pins
  xe := fun e s' => ∃ σ1 H1 s1, Inv X pins σ1 H1 s1 ∧ CX1 X.prog X.w X.stack H1 s1 (fun c _ H' => R σ1 c H') e s' }
noncomputable def Cx.suite (X : Cx) (ea : Addr) (oe : Obj) : Cx := { X with
  A := X.A.mark (some (.ref ea))
  calm := false
  pn := X.pn ++ [(ea, oe)]
  xe := fun _ _ => False }
theorem Inv.tryB (I : Inv X pins σ H s) (R : St → Value → Hp → Prop) : Inv (X.tryB pins R) [] σ H s :=
  ⟨⟨I.ok.mod, I.ok.kind, I.ok.glob, I.ok.blt, I.ok.above, I.ok.inj, I.ok.has, I.ok.cab, I.ok.hd, I.ok.frames, I.ok.stk, I.ok.exf, I.ok.bs, I.ok.bsz, I.ok.noex, I.ok.exfs, I.ok.funs, I.ok.frf⟩,
    I.os, I.bare, I.base, I.loc, I.cell, I.free, I.freeC, fun p hp => I.pin p (by simpa [Cx.tryB] using hp), I.hok, I.len⟩
theorem Inv.untryB {R : St → Value → Hp → Prop} {pins' : List (Addr × Obj)} (I : Inv (X.tryB pins R) pins' σ H s) : Inv X pins σ H s :=
  ⟨⟨I.ok.mod, I.ok.kind, I.ok.glob, I.ok.blt, I.ok.above, I.ok.inj, I.ok.has, I.ok.cab, I.ok.hd, I.ok.frames, I.ok.stk, I.ok.exf, I.ok.bs, I.ok.bsz, I.ok.noex, I.ok.exfs, I.ok.funs, I.ok.frf⟩,
    I.os, I.bare, I.base, I.loc, I.cell, I.free, I.freeC, fun p hp => I.pin p (List.mem_append_left _ hp), I.hok, I.len⟩
theorem Inv.suite {ea : Addr} {oe : Obj} (I : Inv X pins σ H s) (h : s.heap.get? ea = some oe ∧ H ea = none ∧ ea ≠ X.env.locals ∧ ea ∉ X.fs ∧ ∀ v, oe.data ≠ .cell v) : Inv (X.suite ea oe) pins σ H s :=
  ⟨⟨I.ok.mod, I.ok.kind, I.ok.glob, I.ok.blt, I.ok.above, I.ok.inj, I.ok.has, I.ok.cab, (fun z => nomatch z), I.ok.frames, I.ok.stk, I.ok.exf, I.ok.bs, I.ok.bsz, I.ok.noex, I.ok.exfs, I.ok.funs, I.ok.frf⟩,
    I.os, I.bare, I.base, I.loc, I.cell, I.free, I.freeC, fun p hp => by
      have hp : p ∈ (X.pn ++ [(ea, oe)]) ++ pins := hp
      rcases List.mem_append.mp hp with hp | hp
      · rcases List.mem_append.mp hp with hp | hp
        · exact I.pin p (List.mem_append_left _ hp)
        · obtain rfl := List.mem_singleton.mp hp
          exact h
      · exact I.pin p (List.mem_append_right _ hp), I.hok, I.len⟩
theorem Inv.unsuite {ea : Addr} {oe : Obj} (I : Inv (X.suite ea oe) pins σ H s) (hd : X.calm = true → X.A.handled = none) : Inv X pins σ H s :=
  ⟨⟨I.ok.mod, I.ok.kind, I.ok.glob, I.ok.blt, I.ok.above, I.ok.inj, I.ok.has, I.ok.cab, hd, I.ok.frames, I.ok.stk, I.ok.exf, I.ok.bs, I.ok.bsz, I.ok.noex, I.ok.exfs, I.ok.funs, I.ok.frf⟩,
    I.os, I.bare, I.base, I.loc, I.cell, I.free, I.freeC, fun p hp => I.pin p (by
      show p ∈ (X.pn ++ [(ea, oe)]) ++ pins
      rcases List.mem_append.mp hp with hp | hp
      · exact List.mem_append_left _ (List.mem_append_left _ hp)
      · exact List.mem_append_right _ hp), I.hok, I.len⟩
theorem name_goes {M : Model} {A : Around} {E : Value → Shared → Prop} {i : Nat} {x : Str} {pos : Pos} {Q : Unit → Shared → Prop} (I : Inv X pins σ H s) (hN : X.N.Nodup) (hi : X.N[i]? = some x) (hx : X.env.scope.names.lookup x = some .local)
    (h : ∀ s', Inv X pins (σ.set i none) H s' → Q () s') : wpAny M A (do bindName X.env x .none; unbindBehindTheSuite X.env x pos) Q E s := by
  have hcls : (X.env.scope.kind == .class || (X.env.scope.kind == .module && X.env.locals != X.env.globals)) = false := by rw [I.ok.kind]; rfl
  refine wpAny_bind (wpAny_bindName (store_ok (v := .non) I hN hi (.inl hx) rfl (fun s1 I1 => ?_) (.inr hx)))
  unfold unbindBehindTheSuite
  refine wpAny_onRaise (wpAny_mono (E := fun _ _ => False) ?_ (fun _ _ z => z) fun _ _ z => z.elim)
  refine hidG fun ZZ kZ => ?_
  obtain ⟨m, hn, hl⟩ := id I1.loc
  have hiσ : i < σ.length := by rw [I.len]; exact (List.getElem?_eq_some_iff.mp hi).1
  obtain ⟨u, ru, lu⟩ := hl i x .non hi (List.getElem?_set_self hiσ) (.inl hx)
  refine kZ ?_
  have hv : m x = some Value.none := by
    rcases lu with ⟨_, e⟩ | ⟨k, _⟩
    · cases (show u = Value.none from ru); exact e
    · have hx' : X.env.kindOf x = some .local := hx
      rw [hx'] at k; rcases k with k | k <;> cases k
  refine wpAny_unbindName_local hx hn hv hcls fun h' u' hn' hs => ?_
  refine hidG fun ZZ kZ => ?_
  obtain ⟨oL, _, _, hoL, _⟩ := id hn
  refine kZ ?_
  have neL : ∀ b o, X.s₀.heap.get? b = some o → b ≠ X.env.locals := fun b o e => Nat.ne_of_lt (Nat.lt_of_lt_of_le (Heap.lt_size e) I.ok.above)
  refine h _ ⟨I1.ok, I1.os, I1.bare, ⟨fun b o e n hb hx => (hs.2 b (neL b o e)).trans (I1.base.keep b o e n hb hx), fun b o e n hb hx => ?_, I1.base.free, fun b o e hx => ?_, I1.base.tups, I1.base.frzs, I1.base.tbls⟩, ⟨_, hn', fun j y v' e1 e2 e3 => ?_⟩, fun y c e => ?_, I1.free, I1.freeC, fun p hp => ?_, ?_, by simpa using I.len⟩
  · obtain ⟨sl, e1⟩ := I1.base.slot b o e n hb hx
    exact ⟨sl, (hs.2 b (neL b o e)).trans e1⟩
  · obtain ⟨o', e1⟩ := I1.base.there b o e hx
    exact ⟨o', (hs.2 b (neL b o e)).trans e1⟩
  · by_cases hj : j = i
    · subst hj
      rw [List.getElem?_set_self hiσ] at e2
      cases e2
    · rw [List.getElem?_set_ne (Ne.symm hj)] at e2
      obtain ⟨u2, r2, q2⟩ := hl j y v' e1 (by rw [List.getElem?_set_ne (Ne.symm hj)]; exact e2) e3
      refine ⟨u2, r2, ?_⟩
      rcases q2 with ⟨k, e⟩ | ⟨k, c, e, z⟩
      · refine .inl ⟨k, ?_⟩
        have : y ≠ x := fun e => hj (nodup_ix hN e1 (e ▸ hi))
        simp [this, e]
      · exact .inr ⟨k, c, e, z.sameBut hs (I1.cne y c e)⟩
  · obtain ⟨w', z⟩ := I1.cell y c e
    exact ⟨w', z.sameBut hs (I1.cne y c e)⟩
  · refine hidG fun ZZ kZ => ?_
    obtain ⟨e, n, ne, nf, d⟩ := I1.pin p hp
    refine kZ ?_
    exact ⟨(hs.2 p.1 ne).trans e, n, ne, nf, d⟩
  · intro b ob e
    refine (I1.hok b ob e).stay (fun c w' hc q => (hs.2 c ?_).trans q) (fun _ q => q) fun _ _ q => q
    rintro rfl
    rcases hc with rfl | hc
    · rw [I1.free] at e; cases e
    · rw [I1.free] at hc; cases hc
end
structure Hit (K : Frag) (C Ch : Addr) : Prop where
  exc : ExcK K C
  hit : exmOne K (.ref C) (.ref Ch) = some true
noncomputable def Ends.as (D : Ends) (i : Nat) : Ends := { nx := fun σ H => D.nx (σ.set i none) H, rt := D.rt, bk := fun σ H => D.bk (σ.set i none) H, ct := fun σ H => D.ct (σ.set i none) H }
noncomputable def tryR (K : Frag) (Ch : Addr) (i : Nat) (ts : Addr → Addr → TS) (D : Ends) : St → Value → Hp → Prop := fun σ1 c H' => ∃ C, c = .ref C ∧ Hit K C Ch ∧ ∀ ea, H' ea = none → ts ea C (D.as i) (σ1.set i (some (.ref ea))) H'
noncomputable def tTry (K : Frag) (Ch : Addr) (i : Nat) (tb : (St → Value → Hp → Prop) → TS) (ts : Addr → Addr → TS) : TS := fun D σ H => tb (tryR K Ch i ts D) D σ H
theorem SP.untryB {X : Cx} {pins : List (Addr × Obj)} {R : St → Value → Hp → Prop} {D : Ends} {f : Flow} {s' : Shared} (h : SP (X.tryB pins R) [] D f s') : SP X pins D f s' := by
  cases f with
  | next => obtain ⟨σ', H', I, q⟩ := h; exact ⟨σ', H', I.untryB, q⟩
  | brk => obtain ⟨σ', H', I, q⟩ := h; exact ⟨σ', H', I.untryB, q⟩
  | cont => obtain ⟨σ', H', I, q⟩ := h; exact ⟨σ', H', I.untryB, q⟩
  | ret u => obtain ⟨v, σ', H', I, r, q⟩ := h; exact ⟨v, σ', H', I.untryB, r, q⟩
theorem ps_try_as {X : Cx} {Ch : Addr} {cx n : Str} {i : Nat} {np hpos pos : Pos} {body suite : List Stmt} {b0 : Stmt} {tb : (St → Value → Hp → Prop) → TS} {ts : Addr → Addr → TS}
    (hb : ∀ pins R, PSs (X.tryB pins R) body (tb R)) (hs : ∀ ea oe C, oe.cls = .ref C → ExcK X.K C → PSs (X.suite ea oe) (b0 :: suite) (ts ea C))
    (hN : X.N.Nodup) (hi : X.N[i]? = some n) (hn : X.env.scope.names.lookup n = some .local) (hst : X.stack = X.env :: X.outer) (hfr : X.env.frame = some X.env.locals) (hg : Gl X cx) (hm : X.mg cx = some (.ref Ch))
    (hd : (cx == ("__debug__" : Str)) = false := by decide) :
    PS X (.Try body [.ExceptHandler (some (.Name cx np)) (some n) (b0 :: suite) hpos] [] [] pos) (tTry X.K Ch i tb ts) := by
  intro pins s σ H D I h
  refine wpAny_Try_except ?_
  have hbody := hb pins (tryR X.K Ch i ts D) [] s σ H D (I.tryB _) h
  refine wpAny_mono hbody (fun f s1 q => ?_) fun e s1 q => ?_
  · have q' := SP.untryB q
    cases f with
    | next => exact wpAny_execs_nil q'
    | brk => exact q'
    | cont => exact q'
    | ret u => exact q'
  · refine hidG fun ZZ kZ => ?_
    obtain ⟨σ1, H1, s0, I1, ea, C, a0, B, H', rfl, hos, hbare, un, hok, fly, b1, b2, C', hC', hit, q⟩ := q
    refine kZ ?_
    cases hC'
    rw [hst] at fly
    have hfrm : X.A.frames = some (X.env :: X.outer) := by rw [← hst]; exact I1.ok.frames
    have inv : ∀ (h6 : Heap) (tk : Nat), Heap.FlyingW B (X.env :: X.outer) ea (.ref C) a0 h6 → s1.heap.UpToSlots h6 → Inv X pins σ1 H' { s1 with heap := h6 } := fun h6 tk fly6 up => by
      obtain ⟨U, _⟩ := un_fly (fs := frs X.stack) (H := H1) (H1 := H1) (h := s0.heap) (h1 := s0.heap) (h' := h6) (l := frs X.stack) (B := B) Un.refl un (fun b o _ z => z) b1 fly6.1 up (fun b hb => ⟨I1.stkFree b hb, (I1.stack.mem hb).2⟩)
      exact I1.call' (s' := { s1 with heap := h6 }) (ch := []) hos U (hok_fly hok fly.1 fly6.1 b2) hbare fun _ z => nomatch z
    refine wpAny_looks_onW hfrm hfr fly fun h4 held4 up4 => ?_
    refine wpAny_landsW held4 fun h5 fly5 up5 => ?_
    have up45 := up4.trans up5
    have I5 := inv h5 0 fly5 up45
    obtain ⟨o5, hx5, hc5⟩ := fly5.there
    refine wpAny_handleBy_cons (codeAny_handlers_test ?_) (by intro q; cases q)
    have I5m : Inv (X.wish X.xe) pins σ1 H' { s1 with heap := h5 } := I5
    refine Calls.Name_function_global I5.ok.kind hg (Calls.loadGlobal_global (by rw [I5.ok.glob]; exact I5.mod.glob.keeps I5.bk) hm ?_) hd
    refine (exm_one (M := model X.prog X.w) (h := h5) I5.kIn (hc5 ▸ (Looks.ld hx5).andThen .now) hit.hit).here ?_
    refine codeAny_handlers_suite_as ?_
    refine lands_againW (s := { s1 with heap := h5 }) fly5 fun h6 fly6 up6 => ?_
    have I6 := inv h6 0 fly6 (up45.trans up6)
    refine hidG fun ZZ kZ => ?_
    obtain ⟨oe, vs, hoe, hoc, hod, _⟩ := fly6.first
    refine kZ ?_
    have hnone : H' ea = none := by
      cases z : H' ea with
      | none => rfl
      | some u =>
        obtain ⟨o', ho'⟩ := b2 ea u z
        rw [fly6.2.1] at ho'; cases ho'
    have hnf : ea ∉ frs (X.env :: X.outer) := fun z => by
      obtain ⟨_, o, ho, nf⟩ := fly6.2.2.1.mem z
      rw [hoe] at ho; cases ho
      exact nf vs hod
    rw [frs_in hfr] at hnf
    have IS : Inv (X.suite ea oe) pins σ1 H' { s1 with heap := h6 } := I6.suite ⟨hoe, hnone, fun z => hnf (z ▸ List.mem_cons_self), fun z => hnf (List.mem_cons_of_mem _ z), fun v z => by rw [hod] at z; cases z⟩
    refine store_ok (X := X.suite ea oe) (v := .ref ea) IS hN hi (.inl hn) rfl (fun s7 I7 => ?_) (.inr hn)
    refine wpAny_mono (hs ea oe C hoc hit.exc pins s7 _ H' (D.as i) I7 (q ea hnone)) (fun f s8 q8 => ?_) fun _ _ z => False.elim z
    have fin : ∀ {σ8 : St} {H8 : Hp} {Q : Unit → Shared → Prop}, Inv (X.suite ea oe) pins σ8 H8 s8 → (∀ s9, Inv X pins (σ8.set i none) H8 s9 → Q () s9) → wpAny (model X.prog X.w) X.A (do bindName X.env n .none; unbindBehindTheSuite X.env n hpos) Q X.xe s8 := fun {σ8 H8 Q} J k =>
      name_goes (J.unsuite I1.ok.hd) hN hi hn k
    cases f with
    | next => obtain ⟨σ8, H8, J, q⟩ := q8; exact fin J fun s9 J9 => ⟨_, H8, J9, q⟩
    | brk => obtain ⟨σ8, H8, J, q⟩ := q8; exact fin J fun s9 J9 => ⟨_, H8, J9, q⟩
    | cont => obtain ⟨σ8, H8, J, q⟩ := q8; exact fin J fun s9 J9 => ⟨_, H8, J9, q⟩
    | ret u => obtain ⟨v, σ8, H8, J, r, q⟩ := q8; exact fin J fun s9 J9 => ⟨v, _, H8, J9, r, q⟩
end L2
namespace L2
open PySem PySem.Spec PySem.Calls PyProof.Rows PySem.W
section
variable {P : Program} {w : World} {K : PySem.W.Frag} {mg : Str → Option Value} {base : Heap}
theorem Fun.ok1 {x qual : Str} {st : Stmt} {f : Addr} {fd : FuncData} {N ps : List Str} {k : Nat} {sp : Sp} (F : Fun K x qual st f fd) (S : FnScope N ps (defScope st)) (len : ∀ vs H Q E, sp vs H Q E → vs.length = ps.length)
    (hbody : ∀ (cdv : Value) (A : Around) (outer : List Env) (s : Shared) (H : Hp) (vs : List V) (Q : VK) (E : XK), Room k (A.deeper (envOfC qual (defScope st) s.heap.objs.size f cdv)) → sp vs H Q E →
      ∃ t, PSs (cxOf (CX1 P w) P w K mg base N qual (defScope st) f cdv A outer s H E) (defBody st) t ∧ t { nx := fun _ H' => Q .non H', rt := Q } (start N vs) H) : FnOk P w K mg base (CX1 P w) (k + 1) f fd ps sp := by
  refine hidG fun ZZ kZ => ?_
  obtain ⟨oc, od, kV, doc, pm, an, cdv, ct, osl, rfl, lk, hcd⟩ := F.ex
  refine kZ ?_
  exact fn_of lk hcd S len fun A outer s H vs Q E hr hsp => hbody cdv A outer s H vs Q E hr hsp
end
noncomputable def tCallT (sp : Sp) (dvs : List V) (R : St → Value → Hp → Prop) (t : TA) : TE := fun σ H Q => t σ H fun vs H1 => sp (vs ++ dvs) H1 Q fun c _ H' => R σ c H'
theorem pe_callT {X : Cx} {pins : List (Addr × Obj)} {R : St → Value → Hp → Prop} {k : Nat} {f : Addr} {fd : FuncData} {ps : List Str} {sp : Sp} {dvs : List V} {ds : List Value} {x : Str} {p pos : Pos} {e : Expr} {es : List Expr} {t : TA}
    (F : FnOk X.prog X.w X.K X.mg X.base (CX1 X.prog X.w) k f fd ps sp) (hr : Room k X.A) (hg : Gl X x) (hm : X.mg x = some (.ref f)) (hk : PySem.W.keepIn X.K (.ref f) = true) (hb : Binds X.K fd ps ds) (hd : Vals dvs ds)
    (ha : PA (X.tryB pins R) (e :: es) t) (hdb : (x == ("__debug__" : Str)) = false := by decide) (he : starEach (e :: es) X.env = (false, eval e X.env) :: starEach es X.env := by rfl) (hpl : (backTo pos (starEach es X.env)).any (·.1) = false := by rfl) :
    PE (X.tryB pins R) (.Call (.Name x p) (e :: es) [] pos) (tCallT sp dvs R t) := by
  intro pins' s σ H Q I h
  refine wpAny_Call_Name_kw (ld_glob I hg hm ?_ hdb)
  refine PySem.W.callWith_K (h₀ := X.base) I.ok.mod.kin hk (thn (ha pos pins' s σ H _ I h) fun us s1 zz => el23 zz fun vs H1 I1 r q => ⟨I1.kIn, ?_⟩) he hpl
  have r2 : Vals (vs ++ dvs) (us ++ ds) := r.append hd
  have hl : (us ++ ds).length = ps.length := by rw [← r2.length]; exact F.len _ _ _ _ q
  refine wpAny_call (codeAny_mono (F.run X.A X.stack s1 H1 ⟨us, []⟩ (us ++ ds) (vs ++ dvs) Q _ hr I1.env0 (hb s1 us I1.kIn hl) r2 q) fun r s' hq => ?_)
  cases r with
  | error e => exact ⟨σ, H1, s1, I1.untryB, hq⟩
  | ok fl =>
    cases fl with
    | ret u => exact I1.after hq
    | next => exact False.elim hq
    | brk => exact False.elim hq
    | cont => exact False.elim hq
theorem try_intro {K : Frag} {Ch : Addr} {i : Nat} {tb : (St → Value → Hp → Prop) → TS} {ts : Addr → Addr → TS} {D : Ends} {σ : St} {H : Hp} (R : St → Value → Hp → Prop) (h1 : ∀ R' : St → Value → Hp → Prop, (∀ σ1 c H', R σ1 c H' → R' σ1 c H') → tb R' D σ H)
    (h2 : ∀ σ1 c H', R σ1 c H' → tryR K Ch i ts D σ1 c H') : tTry K Ch i tb ts D σ H := h1 _ h2
theorem pin_suite {X : Cx} {ea : Addr} {oe : Obj} : (ea, oe) ∈ (X.suite ea oe).pn := List.mem_append_right _ (List.mem_singleton.mpr rfl)
end L2
namespace L2
open PySem PySem.Spec PySem.Calls PyProof.Rows PySem.SeqAt
end L2
namespace L2
open PySem PySem.Spec PySem.Calls PyProof.Rows
end L2
namespace BB
open PySem
end BB
namespace L2
open PySem PySem.Spec PySem.Calls PyProof.Rows BB
section
variable {prog : Program} {w : World} {A : Around} {R : Result → Shared → Prop}
end
end L2
namespace PySem
section
variable {prog : Program} {w : World} {A : Around} {E : Value → Shared → Prop} {s : Shared}
end
end PySem
namespace L2
open PySem PySem.Spec PySem.Calls PyProof.Rows BB
end L2
namespace L2
open PySem PySem.Spec PySem.Calls PyProof.Rows BB
section
variable {X : Cx}
end
end L2
namespace BB
open PySem L2
theorem comp_sm {α : Type} {js : List (Option Nat)} {g : TG} {tt : TT} {te : TE} {σ : St} {J : It} {H : Hp} {xs : List V} {fin : Addr → Hp → Prop} (zs : List α) (f : α → V) (hz : zs.length = xs.length) (hn : xs.length ≤ 1000000)
    (hgo : ∀ i H2, L2.Same H H2 → i < xs.length → J.go i H2) (hstop : ∀ H2, L2.Same H H2 → J.stop xs.length H2) (hyld : ∀ (i : Nat) H2 x H3, L2.Same H H2 → i < xs.length → J.yld i H2 x H3 → H3 = H2 ∧ xs[i]? = some x)
    (hb : ∀ (i : Nat) x z H2 (R : VK) (W' : Hp → Prop), xs[i]? = some x → zs[i]? = some z → L2.Same H H2 → (∀ H3, L2.Same H2 H3 → R (f z) H3) → g x (cσ js σ) H2 fun σ2 H3 => tt σ2 H3 fun b H4 => if b = true then te σ2 H4 R else W' H4)
    (hfin : ∀ D H', H D = none → L2.Same H H' → H' D = some (.lst (zs.map f)) → fin D H') :
    ∀ D, H D = none → ∃ (n : Nat) (W : Nat → Hp → Prop), W 0 (upd H D (.lst [])) ∧ cTurn js g tt te σ J D n W fun H' => fin D H' := by
  intro D hD
  refine ⟨xs.length, fun i H' => i ≤ xs.length ∧ L2.Same H H' ∧ H' D = some (.lst ((zs.take i).map f)), ⟨Nat.zero_le _, same_new hD _, by rw [upd_same]; rfl⟩, ?_⟩
  rintro i H' ⟨hi, s1, e1⟩
  by_cases hlt : i < xs.length
  · refine .inr ⟨hlt, hgo i H' s1 hlt, fun v H1 hy => ?_⟩
    obtain ⟨e, hx⟩ := hyld i H' v H1 s1 hlt hy
    subst e
    obtain ⟨z, hz'⟩ : ∃ z, zs[i]? = some z := ⟨_, List.getElem?_eq_getElem (by (first | lia | omega))⟩
    refine hb i v z _ _ _ hx hz' s1 fun H3 s3 => ⟨_, s3 _ _ e1, ?_, hlt, same_upd (s1.trans s3) hD, ?_⟩
    · rw [List.length_map, List.length_take]
      have : sizeLine = 16777216 := sizeLine_eq
      (first | lia | omega)
    · rw [upd_same, take_snoc hz', List.map_append]
      rfl
  · have hi' : i = xs.length := by (first | lia | omega)
    subst hi'
    refine .inl ⟨hstop _ s1, hfin D H' hD s1 ?_⟩
    rw [e1, List.take_of_length_le (by (first | lia | omega))]
theorem comp_sm_tup {α : Type} {K : PySem.W.Frag} {a : Addr} {js : List (Option Nat)} {g : TG} {tt : TT} {te : TE} {σ : St} {H : Hp} {xs : List V} {fin : Addr → Hp → Prop} (zs : List α) (f : α → V) (hS : SqT K H a xs) (hz : zs.length = xs.length) (hn : xs.length ≤ 1000000)
    (hb : ∀ (i : Nat) x z H2 (R : VK) (W' : Hp → Prop), xs[i]? = some x → zs[i]? = some z → L2.Same H H2 → (∀ H3, L2.Same H2 H3 → R (f z) H3) → g x (cσ js σ) H2 fun σ2 H3 => tt σ2 H3 fun b H4 => if b = true then te σ2 H4 R else W' H4)
    (hfin : ∀ D H', H D = none → L2.Same H H' → H' D = some (.lst (zs.map f)) → fin D H') :
    ∀ D, H D = none → ∃ (n : Nat) (W : Nat → Hp → Prop), W 0 (upd H D (.lst [])) ∧ cTurn js g tt te σ (Itt K a) D n W fun H' => fin D H' :=
  comp_sm zs f hz hn (fun i H2 s hi => ⟨xs, xs[i], s.seqT hS, List.getElem?_eq_getElem hi⟩) (fun H2 s => ⟨xs, s.seqT hS, Nat.le_refl _⟩) (fun i H2 x H3 s hi hy => ⟨hy.1, hy.2 xs (s.seqT hS)⟩) hb hfin
end BB
namespace HT
open PySem PySem.Spec PyProof.Rows
section
variable {prog : Program} {w : World} {A : Around} {E : Value → Shared → Prop} {s : Shared}
end
end HT
namespace L2
open PySem PySem.Spec PyProof.Rows
section
variable {X : Cx} {e : Expr} {te : TE} {pos p2 p3 p4 : Pos}
end
end L2
namespace L2
open PySem PySem.Spec PySem.Calls PyProof.Rows
section
variable {X : Cx}
end
end L2
namespace L2
open PySem PySem.Spec PySem.Calls PyProof.Rows
section
variable {X : Cx}
noncomputable def isStr (z : Str) : Value → Bool
  | .str y _ => y == z
  | _ => false
noncomputable def rLIndex (K : PySem.W.Frag) : V → List V → Hp → VK → Prop := fun x vs H Q => ∃ (l : Addr) (zs : List Str) (z : Str) (j : Nat), x = .ref l ∧ vs = [.str z] ∧ SqL K H l (zs.map V.str) ∧ zs[j]? = some z ∧ (∀ i, i < j → zs[i]? ≠ some z) ∧ zs.length ≤ 100000 ∧ Q (.int (j : Nat)) H
theorem mt_lindex : MtM X "list.index" (rLIndex X.K) := by
  intro pins s σ H x vs v us Q I rx rv h
  refine hidG fun ZZ kZ => ?_
  obtain ⟨l, zs, z, j, rfl, rfl, hS, hj, hno, hz, q⟩ := h
  refine kZ ?_
  cases rx
  refine hidG fun ZZ kZ => ?_
  obtain ⟨u, rfl, t, rfl⟩ := rv.one
  obtain ⟨its, r, pl, _⟩ := I.list hS
  have hlen := r.length
  rw [List.length_map] at hlen
  obtain ⟨⟨cls, dd, data, sl⟩, ho, hc, n, hd⟩ := pl.isList
  refine kZ ?_
  simp only at hc hd
  subst hc hd
  have hjl : j < zs.length := (List.getElem?_eq_some_iff.mp hj).1
  have get : ∀ m, m < zs.length → ∃ y t', its[m]? = some (.str y t') ∧ zs[m]? = some y := fun m hm => by
    obtain ⟨v, hv, rv⟩ := r.get (i := m) (x := .str zs[m]) (by rw [List.getElem?_map, List.getElem?_eq_getElem hm]; rfl)
    obtain ⟨t', rfl⟩ := rv
    exact ⟨_, t', hv, List.getElem?_eq_getElem hm⟩
  refine call_meets PySem.F.slot_list_index ⟨_, ho, rfl⟩ PySem.F.entry_list_index (PySem.F.args_list_index_2 _ _)
    (SeqAt.list_indexAt l its.toArray n dd sl (.str z t) (isStr z) j (by rw [List.size_toArray]; (first | lia | omega)) (by (first | lia | omega)) ?_ ?_) ⟨ho, fun y hy => ?_, ⟨.int (j : Nat), H, I.tok _, ⟨_, rfl⟩, q⟩⟩
  · refine hidG fun ZZ kZ => ?_
    obtain ⟨y, t', h1, h2⟩ := get j hjl
    refine kZ ?_
    rw [hj] at h2
    cases h2
    have h3 : its.toArray[j]'(by rw [List.size_toArray]; (first | lia | omega)) = .str z t' := by
      rw [List.getElem?_eq_getElem (by (first | lia | omega))] at h1
      simpa using h1
    rw [h3]
    show (z == z) = true
    simp
  · intro m hm hlt
    refine hidG fun ZZ kZ => ?_
    obtain ⟨y, t', h1, h2⟩ := get m (by (first | lia | omega))
    refine kZ ?_
    have h3 : its.toArray[m]'hm = .str y t' := by
      rw [List.getElem?_eq_getElem (by (first | lia | omega))] at h1
      simpa using h1
    rw [h3]
    show (y == z) = false
    refine Bool.eq_false_iff.mpr fun e => hno m hlt ?_
    rw [h2, beq_iff_eq.mp e]
  · have hy' : y ∈ its := by simpa using hy
    refine hidG fun ZZ kZ => ?_
    obtain ⟨m, hm, rfl⟩ := List.getElem_of_mem hy'
    obtain ⟨y, t', h1, h2⟩ := get m (by (first | lia | omega))
    refine kZ ?_
    rw [List.getElem?_eq_getElem hm] at h1
    have h3 := Option.some.inj h1
    rw [h3]
    exact SeqAt.EqAt.str_str _ _ _ _
end
end L2
namespace BB
open PySem L2
structure GoodN (ks : List (Str × Int)) : Prop where
  ne : 1 ≤ ks.length
  le : ks.length ≤ 8
  low : ∀ k ∈ ks, Low k.1 ∧ k.1.length ≤ 8
  num : ∀ k ∈ ks, 0 ≤ k.2 ∧ k.2 ≤ 3
  zero : ∃ k ∈ ks, k.2 = 0
  nd : ∀ (i j : Nat) (k l : Str × Int), ks[i]? = some k → ks[j]? = some l → k.1 = l.1 → i = j
mutual
/-- a pattern over kinds, its calls of so many states and kids -/
noncomputable def Th.FitS (ks : List (Str × Int)) (S C : Int) : Th → Prop
  | .knot n ts => (n, (ts.length : Int)) ∈ ks ∧ FitSs ks S C ts
  | .call s k => 0 ≤ s ∧ s < S ∧ 0 ≤ k ∧ k < C
noncomputable def FitSs (ks : List (Str × Int)) (S C : Int) : List Th → Prop
  | [] => True
  | t :: ts => t.FitS ks S C ∧ FitSs ks S C ts
end
theorem FitSs.of {ks : List (Str × Int)} {S C : Int} : ∀ {ts : List Th}, (∀ t ∈ ts, t.FitS ks S C) → FitSs ks S C ts
  | [], _ => by rw [FitSs]; trivial
  | t :: ts, h => by
    rw [FitSs]
    exact ⟨h t (List.mem_cons_self ..), FitSs.of fun u hu => h u (List.mem_cons_of_mem _ hu)⟩
theorem talls_all {ts : List Th} {n : Nat} (h : ∀ t ∈ ts, t.tall ≤ n) : talls ts ≤ n := by
  induction ts with
  | nil => rw [talls]; exact Nat.zero_le _
  | cons t ts ih =>
    rw [talls]
    have h1 := h t (List.mem_cons_self ..)
    have h2 := ih fun u hu => h u (List.mem_cons_of_mem _ hu)
    (first | lia | omega)
noncomputable def SameB (l : Addr) (H H' : Hp) : Prop := ∀ b o, b ≠ l → H b = some o → H' b = some o
theorem SameB.refl {l : Addr} {H : Hp} : SameB l H H := fun _ _ _ e => e
theorem SameB.trans {l : Addr} {A B C : Hp} (h : SameB l A B) (k : SameB l B C) : SameB l A C := fun b o hb e => k b o hb (h b o hb e)
theorem SameB.of {l : Addr} {H H' : Hp} (h : L2.Same H H') : SameB l H H' := fun b o _ e => h b o e
theorem SameB.set {l : Addr} {H : Hp} {o : HO} : SameB l H (upd H l o) := fun b o hb e => by rw [upd_ne hb]; exact e
theorem SameB.kt {l : Addr} {H H' : Hp} {xs : List V} (h : SameB l H H') (e : H l = some (.lst xs)) : KT H H' := fun b ys eb => h b _ (ne_of eb e (by intro z; cases z)) eb
noncomputable def RowAt (H : Hp) (row : List Th) (a : Addr) : Prop := ∃ as : List Addr, H a = some (.tup (as.map V.ref)) ∧ Ats H row as
theorem RowAt.mono {H H' : Hp} (k : KT H H') {row : List Th} {a : Addr} (h : RowAt H row a) : RowAt H' row a := by
  obtain ⟨as, h1, h2⟩ := h
  exact ⟨as, k _ _ h1, h2.mono k⟩
structure BookAt (H : Hp) (ins outs : List (Str × Int)) (head : Th) (rows : List (List Th)) (r ia oa ha ra : Addr) (ias oas ras : List Addr) : Prop where
  bk : H r = some (.tup [.ref ia, .ref oa, .ref ha, .ref ra])
  inE : H ia = some (.tup (ias.map V.ref))
  inK : KsAt H ins ias
  outE : H oa = some (.tup (oas.map V.ref))
  outK : KsAt H outs oas
  hd : At H head ha
  rl : H ra = some (.tup (ras.map V.ref))
  rw : Paired (RowAt H) rows ras
theorem BookAt.mono {H H' : Hp} (k : KT H H') {ins outs : List (Str × Int)} {head : Th} {rows : List (List Th)} {r ia oa ha ra : Addr} {ias oas ras : List Addr} (b : BookAt H ins outs head rows r ia oa ha ra ias oas ras) : BookAt H' ins outs head rows r ia oa ha ra ias oas ras :=
  ⟨k _ _ b.bk, k _ _ b.inE, b.inK.mono k, k _ _ b.outE, b.outK.mono k, b.hd.mono k, k _ _ b.rl, P2.mp (fun _ _ e => e.mono k) b.rw⟩
theorem cutS_head {z : Str} {n : Nat} (h : n ≤ z.length) : (cutS z none (some (n : Int))).cps.toList = z.cps.toList.take n ∧ (cutS z none (some (n : Int))).length = n := by
  have hz : z.cps.toList.length = z.length := Array.length_toList
  have e : (cutS z none (some (n : Int))).cps.toList = z.cps.toList.take n := by
    show (cutL z.cps.toList none (some (n : Int))).toArray.toList = _
    rw [List.toList_toArray]
    unfold cutL
    rw [HT.sIx_nat, HT.sIx_none, hz, Nat.min_eq_left h]
    simp
  refine ⟨e, ?_⟩
  show (cutS z none (some (n : Int))).cps.size = n
  rw [← Array.length_toList, e, List.length_take, hz]
  (first | lia | omega)
end BB
namespace BB
open PySem L2
noncomputable def Step (ins : List (Str × Int)) (rows : List (List Th)) (s k : Int) (ks : List Th) (p h : Th) : Prop :=
  0 ≤ s ∧ 0 ≤ k ∧ ks[k.toNat]? = some h ∧ ∃ (m : Str) (hs : List Th) (c : Int) (j : Nat) (row : List Th), h = .knot m hs ∧ ins[j]? = some (m, c) ∧ rows[s.toNat]? = some row ∧ row[j]? = some p
theorem fits_mem {ks : List (Str × Int)} : ∀ {ts : List Th}, Fits ks ts → ∀ t ∈ ts, t.Fit ks
  | [], _, t, ht => by cases ht
  | a :: ts, h, t, ht => by
    rw [Fits] at h
    rcases List.mem_cons.mp ht with rfl | ht
    · exact h.1
    · exact fits_mem h.2 t ht
theorem fitSs_mem {ks : List (Str × Int)} {S C : Int} : ∀ {ts : List Th}, FitSs ks S C ts → ∀ t ∈ ts, t.FitS ks S C
  | [], _, t, ht => by cases ht
  | a :: ts, h, t, ht => by
    rw [FitSs] at h
    rcases List.mem_cons.mp ht with rfl | ht
    · exact h.1
    · exact fitSs_mem h.2 t ht
noncomputable def Bk (H : Hp) (ins outs : List (Str × Int)) (head : Th) (rows : List (List Th)) (r : Addr) : Prop := ∃ ia oa ha ra ias oas ras, BookAt H ins outs head rows r ia oa ha ra ias oas ras
theorem Bk.mono {H H' : Hp} (k : KT H H') {ins outs : List (Str × Int)} {head : Th} {rows : List (List Th)} {r : Addr} (b : Bk H ins outs head rows r) : Bk H' ins outs head rows r := by
  refine hidG fun ZZ kZ => ?_
  obtain ⟨ia, oa, ha, ra, ias, oas, ras, b⟩ := b
  refine kZ ?_
  exact ⟨ia, oa, ha, ra, ias, oas, ras, b.mono k⟩
end BB
namespace L2
open PySem PySem.Spec PySem.Calls PyProof.Rows PySem.SeqAt
end L2
namespace BB
open PySem L2
end BB
namespace L2
open PySem PySem.Spec PyProof.Rows
section
variable {X : Cx} {e : Expr} {te : TE} {p p2 pos pos2 : Pos}
end
end L2
namespace BB
open PySem L2
theorem comp_nw {α : Type} {F : Hp → α → Addr → Prop} {js : List (Option Nat)} {g : TG} {tt : TT} {te : TE} {σ : St} {J : It} {H : Hp} {xs : List V} {fin : Addr → Hp → Prop} (zs : List α) (hF : ∀ H1 H2 z p, KT H1 H2 → F H1 z p → F H2 z p) (hz : zs.length = xs.length) (hn : xs.length ≤ 1000000)
    (hgo : ∀ i H2, L2.Same H H2 → i < xs.length → J.go i H2) (hstop : ∀ H2, L2.Same H H2 → J.stop xs.length H2) (hyld : ∀ (i : Nat) H2 x H3, L2.Same H H2 → i < xs.length → J.yld i H2 x H3 → H3 = H2 ∧ xs[i]? = some x)
    (hb : ∀ (i : Nat) x z H2 (R : VK) (W' : Hp → Prop), xs[i]? = some x → zs[i]? = some z → L2.Same H H2 → (∀ H3 p, L2.Same H2 H3 → F H3 z p → R (.ref p) H3) → g x (cσ js σ) H2 fun σ2 H3 => tt σ2 H3 fun b H4 => if b = true then te σ2 H4 R else W' H4)
    (hfin : ∀ D H' as, H D = none → L2.Same H H' → H' D = some (.lst (as.map V.ref)) → Paired (F H') zs as → fin D H') :
    ∀ D, H D = none → ∃ (n : Nat) (W : Nat → Hp → Prop), W 0 (upd H D (.lst [])) ∧ cTurn js g tt te σ J D n W fun H' => fin D H' := by
  intro D hD
  refine ⟨xs.length, fun i H' => i ≤ xs.length ∧ L2.Same H H' ∧ ∃ as : List Addr, H' D = some (.lst (as.map V.ref)) ∧ Paired (F H') (zs.take i) as, ⟨Nat.zero_le _, same_new hD _, [], by rw [upd_same]; rfl, .nil⟩, ?_⟩
  rintro i H' ⟨hi, s1, as, e1, hp⟩
  by_cases hlt : i < xs.length
  · refine .inr ⟨hlt, hgo i H' s1 hlt, fun v H1 hy => ?_⟩
    obtain ⟨e, hx⟩ := hyld i H' v H1 s1 hlt hy
    subst e
    obtain ⟨z, hz'⟩ : ∃ z, zs[i]? = some z := ⟨_, List.getElem?_eq_getElem (by (first | lia | omega))⟩
    have hl : (zs.take i).length = as.length := Paired.length hp
    rw [List.length_take] at hl
    refine hb i v z _ _ _ hx hz' s1 fun H3 p s3 hF3 => ⟨_, s3 _ _ e1, ?_, hlt, same_upd (s1.trans s3) hD, as ++ [p], ?_, ?_⟩
    · rw [List.length_map]
      have : sizeLine = 16777216 := sizeLine_eq
      (first | lia | omega)
    · rw [upd_same, List.map_append]; rfl
    · have kt : KT H3 (upd H3 D (.lst (as.map V.ref ++ [.ref p]))) := kt_lst (s3 _ _ e1)
      rw [take_snoc hz']
      exact P2.append (P2.mp (fun x y e => hF _ _ _ _ ((Same.kt s3).trans kt) e) hp) (.cons (hF _ _ _ _ kt hF3) .nil)
  · have hi' : i = xs.length := by (first | lia | omega)
    subst hi'
    refine .inl ⟨hstop _ s1, hfin D H' as hD s1 e1 ?_⟩
    rw [List.take_of_length_le (by (first | lia | omega))] at hp
    exact hp
end BB
namespace L2
open PySem PySem.Spec PyProof.Rows
theorem FnOk.x0 {P : Program} {w : World} {K : PySem.W.Frag} {mg : Str → Option Value} {base : Heap} {k : Nat} {f : Addr} {fd : FuncData} {ps : List Str} {sp spX : Sp} (F : FnOk P w K mg base (CX1 P w) k f fd ps spX)
    (h : ∀ vs H Q E, sp vs H Q E → spX vs H Q fun _ _ _ => False) : FnOk P w K mg base CX0 k f fd ps sp :=
  ⟨fun vs H Q E q => F.len vs H Q _ (h _ _ _ _ q), fun A outer s H args us vs Q E hr he hb hv hs => codeAny_mono (F.run A outer s H args us vs Q _ hr he hb hv (h _ _ _ _ hs)) fun r s' hc => by
    cases r with
    | error e =>
      refine hidG fun ZZ kZ => ?_
      obtain ⟨_, _, _, _, _, _, _, _, _, _, _, _, _, hE⟩ := (show CX1 P w outer H s (fun _ _ _ => False) e s' from hc)
      refine kZ ?_
      exact hE.elim
    | ok v => cases v <;> exact hc⟩
end L2
namespace L2
open PySem
theorem us1 {α : Type} : ∀ {us : List α}, us.length = 1 → ∃ a, us = [a]
  | [a], _ => ⟨a, rfl⟩
theorem us2 {α : Type} : ∀ {us : List α}, us.length = 2 → ∃ a b, us = [a, b]
  | [a, b], _ => ⟨a, b, rfl⟩
theorem us3 {α : Type} : ∀ {us : List α}, us.length = 3 → ∃ a b c, us = [a, b, c]
  | [a, b, c], _ => ⟨a, b, c, rfl⟩
theorem us4 {α : Type} : ∀ {us : List α}, us.length = 4 → ∃ a b c d, us = [a, b, c, d]
  | [a, b, c, d], _ => ⟨a, b, c, d, rfl⟩
theorem us5 {α : Type} : ∀ {us : List α}, us.length = 5 → ∃ a b c d e, us = [a, b, c, d, e]
  | [a, b, c, d, e], _ => ⟨a, b, c, d, e, rfl⟩
end L2
namespace PySem
open Sem (wp)
section
variable {prog : Program} {w : World} {K : Type} [DecidableEq K] {knd : HeapKind prog w K} {A : Around} {E : Value → Shared → Prop} {s : Shared}
end
end PySem
namespace L2
open PySem PySem.Spec PyProof.Rows BB
end L2
namespace BB
open PySem L2
end BB
namespace PySem
open Sem (wp)
section
variable {prog : Program} {w : World} {A : Around} {E : Value → Shared → Prop} {s : Shared} {I : Addr} {fp wr : List Addr} {G : Array GenState → Array GenState → Prop} {n : Nat} {P : Nat → Value → Prop} {St : Nat → Shared → Prop}
end
end PySem
namespace L2
open PySem PySem.Spec PyProof.Rows
section
variable {X : Cx} {o e : Expr} {to te : TE} {p2 pos2 apos cpos : Pos}
end
end L2
namespace PySem
open Sem (wp)
namespace F
end F
section
variable {prog : Program} {w : World} {A : Around} {E : Value → Shared → Prop} {s : Shared} {a : Addr} {xs : Array Value} {k : Nat}
end
end PySem
namespace L2
open PySem PySem.Spec PyProof.Rows
section
variable {X : Cx} {pins : List (Addr × Obj)} {σ : St}
end
end L2
namespace BB
open PySem L2
end BB
namespace PySem
section
variable {prog : Program} {w : World} {A : Around} {E : Value → Shared → Prop} {s : Shared}
end
end PySem
namespace L2
open PySem PySem.Spec PyProof.Rows
section
variable {X : Cx} {e1 e2 : Expr} {t : TA} {p2 pos2 : Pos}
end
end L2
namespace BB
open PySem L2
end BB
namespace BB
open PySem L2
noncomputable section
local instance : DecidableEq Th := fun _ _ => Classical.propDecidable _
end
end BB
namespace PySem
open Sem (wp)
section
variable {prog : Program} {w : World} {K : Type} [DecidableEq K] {knd : HeapKind prog w K} {A : Around} {E : Value → Shared → Prop} {s : Shared}
end
end PySem
namespace L2
open PySem PySem.Spec PyProof.Rows
end L2
namespace PySem
open Sem (wp)
section
variable {prog : Program} {w : World} {A : Around} {R : Result → Shared → Prop}
end
section
variable {prog : Program} {w : World} {A : Around} {E : Value → Shared → Prop} {s : Shared}
end
end PySem
namespace L2
open PySem PySem.Spec PyProof.Rows
end L2
namespace L2
open PySem PySem.Spec PyProof.Rows BB
end L2
namespace PySem
open Sem (wp)
section
variable {prog : Program} {w : World} {K : Type} [DecidableEq K] (knd : HeapKind prog w K) (d : Addr)
end
section
variable {prog : Program} {w : World} {K : Type} [DecidableEq K] {knd : HeapKind prog w K} {A : Around} {E : Value → Shared → Prop} {s : Shared}
end
end PySem
namespace L2
open PySem PySem.Spec PyProof.Rows
end L2
namespace BB
open PySem L2
end BB
namespace BB
open PySem L2
end BB
namespace BB
open PySem L2
theorem size_pos (t : Th) : 0 < t.size := by cases t <;> (rw [Th.size]; (first | lia | omega))
mutual
theorem tall_size : ∀ t : Th, t.tall ≤ t.size
  | .knot n ts => by rw [Th.tall, Th.size]; have := talls_sizes ts; (first | lia | omega)
  | .call _ _ => by rw [Th.tall, Th.size]; (first | lia | omega)
theorem talls_sizes : ∀ ts : List Th, talls ts ≤ sizes ts
  | [] => by rw [talls, sizes]; (first | lia | omega)
  | t :: ts => by rw [talls, sizes]; have := tall_size t; have := talls_sizes ts; (first | lia | omega)
end
structure BookW (ins outs : List (Str × Int)) (S : Int) (m : Nat) (head : Th) (rows : List (List Th)) : Prop where
  len : (rows.length : Int) = S
  row : ∀ row ∈ rows, row.length = ins.length
  fit : ∀ row ∈ rows, ∀ (j : Nat) (t : Th) (k : Str × Int), row[j]? = some t → ins[j]? = some k → t.FitS outs S k.2 ∧ t.size ≤ m
  hdf : head.FitS outs S 1
  hdz : head.size ≤ m
theorem step_exW {ins outs : List (Str × Int)} {S : Int} {m : Nat} {head : Th} {rows : List (List Th)} (ok : BookW ins outs S m head rows) {s c : Int} {ks : List Th} (hf : (Th.call s c).FitS outs S (ks.length : Int)) (hk : ∀ h ∈ ks, h.Fit ins) :
    ∃ p n hs, Step ins rows s c ks p (.knot n hs) ∧ p.FitS outs S (hs.length : Int) ∧ p.size ≤ m ∧ (∀ h ∈ hs, h.Fit ins) ∧ (Th.knot n hs) ∈ ks := by
  rw [Th.FitS] at hf
  refine hidG fun ZZ kZ => ?_
  obtain ⟨s0, s1, c0, c1⟩ := hf
  have hlen := ok.len
  obtain ⟨h, hh⟩ : ∃ h, ks[c.toNat]? = some h := ⟨_, List.getElem?_eq_getElem (by (first | lia | omega))⟩
  refine kZ ?_
  have hm := List.mem_of_getElem? hh
  have hfit := hk h hm
  cases h with
  | call a b => rw [Th.Fit] at hfit; exact hfit.elim
  | knot n hs =>
    rw [Th.Fit] at hfit
    refine hidG fun ZZ kZ => ?_
    obtain ⟨j, hj⟩ := List.mem_iff_getElem?.mp hfit.1
    obtain ⟨row, hrow⟩ : ∃ row, rows[s.toNat]? = some row := ⟨_, List.getElem?_eq_getElem (by (first | lia | omega))⟩
    have hrm := List.mem_of_getElem? hrow
    have hjl := (List.getElem?_eq_some_iff.mp hj).1
    obtain ⟨p, hp⟩ : ∃ p, row[j]? = some p := ⟨_, List.getElem?_eq_getElem (by rw [ok.row row hrm]; exact hjl)⟩
    refine kZ ?_
    have h2 := ok.fit row hrm j p _ hp hj
    exact ⟨p, n, hs, ⟨s0, c0, hh, n, hs, _, j, row, rfl, hj, hrow, hp⟩, h2.1, h2.2, fits_mem hfit.2, hm⟩
inductive OP (ins : List (Str × Int)) (rows : List (List Th)) : Th → Th → Int → List Int → List Int → Option (Int × List Int) → Prop
  | nil (n : Str) (ts : List Th) (k : Th) (s : Int) (w : List Int) : OP ins rows (.knot n ts) k s w [] (some (s, w))
  | bad {n : Str} {ts : List Th} {k : Th} {s : Int} {w : List Int} {x : Int} {r : List Int} : ¬ (0 ≤ x ∧ x < (ts.length : Int)) → OP ins rows (.knot n ts) k s w (x :: r) none
  | call {s' c : Int} {n : Str} {ks : List Th} {p h : Th} {s : Int} {w r : List Int} {o : Option (Int × List Int)} : Step ins rows s' c ks p h → OP ins rows p h s' (w ++ [c]) r o → OP ins rows (.call s' c) (.knot n ks) s w r o
  | kid {n : Str} {ts : List Th} {k : Th} {s : Int} {w : List Int} {x : Int} {r : List Int} {u : Th} {o : Option (Int × List Int)} : 0 ≤ x → ts[x.toNat]? = some u → OP ins rows u k s w r o → OP ins rows (.knot n ts) k s w (x :: r) o
inductive Arr (ins : List (Str × Int)) (rows : List (List Th)) (head t : Th) : List Int → Th → Th → Int → List Int → Prop
  | root : Arr ins rows head t [] head (.knot (Str.ofString "") [t]) (-1) []
  | call {pl : List Int} {s' c : Int} {n : Str} {ks : List Th} {p h : Th} {s : Int} {w : List Int} : Arr ins rows head t pl (.call s' c) (.knot n ks) s w → Step ins rows s' c ks p h → Arr ins rows head t pl p h s' (w ++ [c])
  | kid {pl : List Int} {n : Str} {ts : List Th} {k : Th} {s : Int} {w : List Int} {x : Int} {u : Th} : Arr ins rows head t pl (.knot n ts) k s w → 0 ≤ x → ts[x.toNat]? = some u → Arr ins rows head t (pl ++ [x]) u k s w
theorem Arr.op {ins : List (Str × Int)} {rows : List (List Th)} {head t : Th} {pl : List Int} {p k : Th} {s : Int} {w : List Int} (h : Arr ins rows head t pl p k s w) : ∀ {r : List Int} {o : Option (Int × List Int)}, OP ins rows p k s w r o → OP ins rows head (.knot (Str.ofString "") [t]) (-1) [] (pl ++ r) o := by
  induction h with
  | root => intro r o g; exact g
  | call h1 h2 ih => intro r o g; exact ih (.call h2 g)
  | kid h1 h2 h3 ih =>
    intro r o g
    rw [List.append_assoc]
    exact ih (.kid h2 h3 g)
theorem Arr.len {ins : List (Str × Int)} {rows : List (List Th)} {head t : Th} {pl : List Int} {p k : Th} {s : Int} {w : List Int} (h : Arr ins rows head t pl p k s w) : w.length + k.tall ≤ t.tall + 1 := by
  induction h with
  | root => rw [Th.tall, talls, talls, List.length_nil]; (first | lia | omega)
  | call h1 h2 ih =>
    refine hidG fun ZZ kZ => ?_
    obtain ⟨_, _, hh, _⟩ := h2
    refine kZ ?_
    have := talls_le (List.mem_of_getElem? hh)
    rw [Th.tall] at ih
    rw [List.length_append]
    show _ + 1 + _ ≤ _
    (first | lia | omega)
  | kid h1 h2 h3 ih => exact ih
set_option genInjectivity false in
set_option genSizeOf false in
structure Ent where
  pl : List Int
  s : Int
  wh : List Int
  many : Nat
noncomputable def RightE (ins : List (Str × Int)) (rows : List (List Th)) (head t : Th) (e : Ent) : Prop := ∃ n ts k w, Arr ins rows head t e.pl (.knot n ts) k e.s w ∧ e.wh = w.drop 1 ∧ e.many = ts.length
noncomputable def EntAt (H : Hp) (e : Ent) (a : Addr) : Prop := ∃ pa oa wa, H a = some (.tup [.ref pa, .ref oa, .int (e.many : Nat)]) ∧ H pa = some (.tup (e.pl.map V.int)) ∧ H oa = some (.tup [.int e.s, .ref wa]) ∧ H wa = some (.tup (e.wh.map V.int))
theorem EntAt.mono {H H' : Hp} (k : KT H H') {e : Ent} {a : Addr} (h : EntAt H e a) : EntAt H' e a := by
  refine hidG fun ZZ kZ => ?_
  obtain ⟨pa, oa, wa, h1, h2, h3, h4⟩ := h
  refine kZ ?_
  exact ⟨pa, oa, wa, k _ _ h1, k _ _ h2, k _ _ h3, k _ _ h4⟩
noncomputable def KidAt (H : Hp) (z : Th × List Int) (a : Addr) : Prop := ∃ ta wa, H a = some (.tup [.ref ta, .ref wa]) ∧ At H z.1 ta ∧ H wa = some (.tup (z.2.map V.int))
theorem KidAt.mono {H H' : Hp} (k : KT H H') {z : Th × List Int} {a : Addr} (h : KidAt H z a) : KidAt H' z a := by
  refine hidG fun ZZ kZ => ?_
  obtain ⟨ta, wa, h1, h2, h3⟩ := h
  refine kZ ?_
  exact ⟨ta, wa, k _ _ h1, h2.mono k, k _ _ h3⟩
noncomputable def kidsW (ks : List Th) (w : List Int) : List (Th × List Int) := ks.zipIdx.map fun z => (z.1, (w ++ [(z.2 : Int)]).drop 1)
theorem kidsW_len (ks : List Th) (w : List Int) : (kidsW ks w).length = ks.length := by unfold kidsW; rw [List.length_map, List.length_zipIdx]
theorem kidsW_get {ks : List Th} {w : List Int} {i : Nat} {h : Th} (e : ks[i]? = some h) : (kidsW ks w)[i]? = some (h, (w ++ [(i : Int)]).drop 1) := by
  unfold kidsW
  rw [List.getElem?_map, List.getElem?_zipIdx, e]
  simp
noncomputable def SpotAt (H : Hp) (s : Int) (wh pl : List Int) (a : Addr) : Prop := ∃ oa wa qa, H a = some (.tup [.ref oa, .ref qa]) ∧ H oa = some (.tup [.int s, .ref wa]) ∧ H wa = some (.tup (wh.map V.int)) ∧ H qa = some (.tup (pl.map V.int))
noncomputable def chainT (n0 n1 : Str) : Nat → Th
  | 0 => .knot n0 []
  | m + 1 => .knot n1 [chainT n0 n1 m]
theorem chainT_tall (n0 n1 : Str) : ∀ m, (chainT n0 n1 m).tall = m + 1
  | 0 => by rw [chainT, Th.tall, talls]
  | m + 1 => by rw [chainT, Th.tall, talls, talls, chainT_tall n0 n1 m]; (first | lia | omega)
noncomputable def dblP (n2 n3 : Str) : Nat → Th
  | 0 => .knot n2 []
  | _ + 1 => .knot n3 [.call 0 0, .call 0 0]
theorem dbl_step {n0 n1 n2 n3 : Str} (m : Nat) (rest : List Th) : Step [(n0, 0), (n1, 1)] [[.knot n2 [], .knot n3 [.call 0 0, .call 0 0]]] 0 0 (chainT n0 n1 m :: rest) (dblP n2 n3 m) (chainT n0 n1 m) := by
  refine ⟨by decide, by decide, rfl, ?_⟩
  cases m with
  | zero => exact ⟨n0, [], 0, 0, _, rfl, rfl, rfl, rfl⟩
  | succ m => exact ⟨n1, [chainT n0 n1 m], 1, 1, _, rfl, rfl, rfl, rfl⟩
theorem dbl_op {n0 n1 n2 n3 : Str} : ∀ (xs : List Int) (m : Nat) (s : Int) (w : List Int) (nm : Str) (rest : List Th) (r : List Int) (o : Option (Int × List Int)), (∀ x ∈ xs, x = 0 ∨ x = 1) → xs.length ≤ m →
    OP [(n0, 0), (n1, 1)] [[.knot n2 [], .knot n3 [.call 0 0, .call 0 0]]] (dblP n2 n3 (m - xs.length)) (chainT n0 n1 (m - xs.length)) 0 (w ++ List.replicate (xs.length + 1) 0) r o →
    OP [(n0, 0), (n1, 1)] [[.knot n2 [], .knot n3 [.call 0 0, .call 0 0]]] (.call 0 0) (.knot nm (chainT n0 n1 m :: rest)) s w (xs ++ r) o
  | [], m, s, w, nm, rest, r, o, _, _, h => .call (dbl_step m rest) h
  | x :: xs, 0, s, w, nm, rest, r, o, _, hl, _ => by rw [List.length_cons] at hl; (first | lia | omega)
  | x :: xs, m + 1, s, w, nm, rest, r, o, hx, hl, h => by
    rw [List.length_cons] at hl h
    refine .call (dbl_step (m + 1) rest) ?_
    have ih := dbl_op xs m 0 (w ++ [0]) n1 [] r o (fun y hy => hx y (List.mem_cons_of_mem _ hy)) (by (first | lia | omega)) (by
      rw [show m + 1 - (xs.length + 1) = m - xs.length by (first | lia | omega)] at h
      rw [List.append_assoc]
      exact h)
    have h0 := hx x (List.mem_cons_self ..)
    show OP _ _ (.knot n3 [.call 0 0, .call 0 0]) (.knot n1 [chainT n0 n1 m]) 0 (w ++ [0]) (x :: (xs ++ r)) o
    rcases h0 with rfl | rfl
    · exact .kid (by decide) rfl ih
    · exact .kid (by decide) rfl ih
mutual
theorem FitS.up {ks : List (Str × Int)} {S C : Int} : ∀ {t : Th}, t.FitS ks 0 0 → t.FitS ks S C
  | .call s c, h => by rw [Th.FitS] at h; (first | lia | omega)
  | .knot n ts, h => by
    rw [Th.FitS] at h ⊢
    exact ⟨h.1, FitSs.up h.2⟩
theorem FitSs.up {ks : List (Str × Int)} {S C : Int} : ∀ {ts : List Th}, FitSs ks 0 0 ts → FitSs ks S C ts
  | [], _ => by rw [FitSs]; trivial
  | t :: ts, h => by
    rw [FitSs] at h ⊢
    exact ⟨FitS.up h.1, FitSs.up h.2⟩
end
theorem put_fitS {ks : List (Str × Int)} {S C : Int} : ∀ (p : List Int) (t u o : Th), t.sub p = some u → t.FitS ks S C → o.FitS ks S C → (t.put p o).FitS ks S C
  | [], t, u, o, _, _, ho => by rw [put_nil]; exact ho
  | i :: p, t, u, o, h, ht, ho => by
    refine hidG fun ZZ kZ => ?_
    obtain ⟨h0, w, hw, hs⟩ := sub_inv h
    refine kZ ?_
    rw [put_cons hw]
    cases t with
    | call a b => rw [Th.kids] at hw; simp at hw
    | knot n ts =>
      rw [Th.kids] at hw
      rw [Th.FitS] at ht
      show (Th.knot n (ts.set i.toNat (w.put p o))).FitS ks S C
      rw [Th.FitS, List.length_set]
      refine ⟨ht.1, FitSs.of fun v hv => ?_⟩
      rcases List.mem_or_eq_of_mem_set hv with hv | rfl
      · exact fitSs_mem ht.2 v hv
      · exact put_fitS p w u o hs (fitSs_mem ht.2 w (List.mem_of_getElem? hw)) ho
end BB
namespace BB
open PySem L2
theorem pair_at {α β : Type} {F : α → β → Prop} : ∀ {xs : List α} {ys : List β} {i : Nat} {x : α} {y : β}, Paired F xs ys → xs[i]? = some x → ys[i]? = some y → F x y
  | _, _, _, _, _, .nil, h, _ => by simp at h
  | _, _, 0, _, _, .cons r _, h, g => by simp at h g; subst h; subst g; exact r
  | _, _, i + 1, _, _, .cons _ t, h, g => pair_at (i := i) t (by simpa using h) (by simpa using g)
theorem size_mem {u : Th} : ∀ {ts : List Th}, u ∈ ts → u.size ≤ sizes ts
  | [], h => by cases h
  | t :: ts, h => by
    rw [sizes]
    rcases List.mem_cons.mp h with rfl | h
    · (first | lia | omega)
    · have := size_mem h
      (first | lia | omega)
structure NamesOk (ws : List Str) : Prop where
  len : ws.length = 4
  low : ∀ x ∈ ws, Low x ∧ x.length ≤ 8
  inj : ∀ (i j : Nat) (x : Str), ws[i]? = some x → ws[j]? = some x → i = j
noncomputable def tn91 (a st : Int) (j : Nat) : Nat := 97 + ((a + 5 * st * (j : Int)) % 26).toNat
theorem tn91_low (a st : Int) (j : Nat) : 97 ≤ tn91 a st j ∧ tn91 a st j ≤ 122 := by
  unfold tn91
  have h1 := Int.emod_nonneg (a + 5 * st * (j : Int)) (by decide : (26 : Int) ≠ 0)
  have h2 := Int.emod_lt_of_pos (a + 5 * st * (j : Int)) (by decide : (0 : Int) < 26)
  (first | lia | omega)
theorem tn91_inj {a st : Int} (h1 : 1 ≤ st) (h4 : st ≤ 4) {i j : Nat} (hi : i < 4) (hj : j < 4) (h : tn91 a st i = tn91 a st j) : i = j := by
  unfold tn91 at h
  have e1 := Int.emod_nonneg (a + 5 * st * (i : Int)) (by decide : (26 : Int) ≠ 0)
  have e2 := Int.emod_nonneg (a + 5 * st * (j : Int)) (by decide : (26 : Int) ≠ 0)
  have h' : (a + 5 * st * (i : Int)) % 26 = (a + 5 * st * (j : Int)) % 26 := by (first | lia | omega)
  clear h e1 e2
  rcases (by (first | lia | omega) : st = 1 ∨ st = 2 ∨ st = 3 ∨ st = 4) with rfl | rfl | rfl | rfl <;> (first | lia | omega)
noncomputable def nm91 (c a st : Int) (word : Str) (j : Nat) : Str :=
  if c = 0 then ⟨#[tn91 a st j]⟩ else if c = 1 then ⟨#[tn91 a st j]⟩ ++ cutS word (some 1) (some 4) else if c = 2 then cutS word none (some 5) ++ ⟨#[tn91 a st j]⟩ else cutS word none (some (2 * (j : Int) + 2))
theorem cutS_mid {z : Str} (h : z.length = 8) : (cutS z (some 1) (some 4)).length = 3 := by
  have hz : z.cps.toList.length = 8 := by rw [Array.length_toList]; exact h
  show (cutL z.cps.toList (some 1) (some 4)).toArray.size = 3
  rw [List.size_toArray]
  unfold cutL
  rw [show (some (1 : Int)) = some ((1 : Nat) : Int) from rfl, show (some (4 : Int)) = some ((4 : Nat) : Int) from rfl, HT.sIx_nat, HT.sIx_nat, hz, List.length_take, List.length_drop, hz]
  rfl
theorem nm91_low {c a st : Int} {word : Str} (hw : Low word) (hl : word.length = 8) {j : Nat} (hj : j < 4) : Low (nm91 c a st word j) ∧ (nm91 c a st word j).length ≤ 8 := by
  have ht := tn91_low a st j
  unfold nm91
  split
  · exact ⟨low_one ht.1 ht.2, by show 1 ≤ 8; (first | lia | omega)⟩
  · split
    · refine ⟨low_app (low_one ht.1 ht.2) (low_cut hw _ _), ?_⟩
      rw [strLen_append, cutS_mid hl]
      show 1 + 3 ≤ 8
      (first | lia | omega)
    · split
      · refine ⟨low_app (low_cut hw _ _) (low_one ht.1 ht.2), ?_⟩
        have := (cutS_head (z := word) (n := 5) (by (first | lia | omega))).2
        rw [strLen_append]
        show (cutS word none (some ((5 : Nat) : Int))).length + 1 ≤ 8
        (first | lia | omega)
      · refine ⟨low_cut hw _ _, ?_⟩
        have := (cutS_head (z := word) (n := 2 * j + 2) (by (first | lia | omega))).2
        have e : (2 * (j : Int) + 2) = ((2 * j + 2 : Nat) : Int) := by (first | lia | omega)
        rw [e]
        (first | lia | omega)
theorem nm91_inj {c a st : Int} {word : Str} (h1 : 1 ≤ st) (h4 : st ≤ 4) (hl : word.length = 8) {i j : Nat} (hi : i < 4) (hj : j < 4) (h : nm91 c a st word i = nm91 c a st word j) : i = j := by
  unfold nm91 at h
  split at h
  · refine tn91_inj h1 h4 hi hj (a := a) ?_
    have h2 := congrArg (fun z : Str => z.cps.toList) h
    simpa using h2
  · split at h
    · refine tn91_inj h1 h4 hi hj (a := a) ?_
      have h2 : ((#[tn91 a st i] : Array Nat) ++ (cutS word (some 1) (some 4)).cps).toList = ((#[tn91 a st j] : Array Nat) ++ (cutS word (some 1) (some 4)).cps).toList := congrArg (fun z : Str => z.cps.toList) h
      rw [Array.toList_append, Array.toList_append] at h2
      have h3 := List.append_cancel_right h2
      simpa using h3
    · split at h
      · refine tn91_inj h1 h4 hi hj (a := a) ?_
        have h2 : ((cutS word none (some 5)).cps ++ (#[tn91 a st i] : Array Nat)).toList = ((cutS word none (some 5)).cps ++ (#[tn91 a st j] : Array Nat)).toList := congrArg (fun z : Str => z.cps.toList) h
        rw [Array.toList_append, Array.toList_append] at h2
        have h3 := List.append_cancel_left h2
        simpa using h3
      · have e1 : (2 * (i : Int) + 2) = ((2 * i + 2 : Nat) : Int) := by (first | lia | omega)
        have e2 : (2 * (j : Int) + 2) = ((2 * j + 2 : Nat) : Int) := by (first | lia | omega)
        rw [e1, e2] at h
        have l1 := (cutS_head (z := word) (n := 2 * i + 2) (by (first | lia | omega))).2
        have l2 := (cutS_head (z := word) (n := 2 * j + 2) (by (first | lia | omega))).2
        rw [h] at l1
        (first | lia | omega)
theorem zip_memK {H : Hp} : ∀ {ks : List (Str × Int)} {as : List Addr}, KsAt H ks as → ∀ z ∈ ks.zip as, z.1 ∈ ks ∧ KAt H z.1 z.2
  | _, _, .nil, z, hz => by simp at hz
  | _, _, .cons (a := k) (b := a) r t, z, hz => by
    rw [List.zip_cons_cons] at hz
    rcases List.mem_cons.mp hz with rfl | hz
    · exact ⟨List.mem_cons_self .., r⟩
    · obtain ⟨h1, h2⟩ := zip_memK t z hz
      exact ⟨List.mem_cons_of_mem _ h1, h2⟩
theorem pick_kinds {K : PySem.W.Frag} {js : List (Option Nat)} {tt : TT} {te : TE} {σ : St} {H : Hp} {kr : Addr} {kas : List Addr} {ks : List (Str × Int)} {fin : Addr → Hp → Prop} (p : Str × Int → Bool) (e : H kr = some (.tup (kas.map V.ref))) (hks : KsAt H ks kas) (hl : ks.length ≤ 1000) (hp : ∃ k ∈ ks, p k = true)
    (htt : ∀ (z : Str × Int) (ka : Addr) (H2 : Hp) (R : Bool → Hp → Prop), L2.Same H H2 → KAt H2 z ka → R (p z) H2 → tt ((cσ js σ).set 0 (some (.ref ka))) H2 R)
    (hte : ∀ (ka : Addr) (H2 : Hp) (R : VK), R (.ref ka) H2 → te ((cσ js σ).set 0 (some (.ref ka))) H2 R)
    (q : ∀ (D : Addr) (bs : List ((Str × Int) × Addr)) (H' : Hp), H D = none → H' = upd H D (.lst (bs.map fun z => V.ref z.2)) → 1 ≤ bs.length → bs.length ≤ ks.length → (∀ z ∈ bs, z.1 ∈ ks ∧ p z.1 = true ∧ KAt H z.1 z.2) → fin D H') :
    ∀ D, H D = none → ∃ (n : Nat) (W : Nat → Hp → Prop), W 0 (upd H D (.lst [])) ∧ cTurn js (gName 0) tt te σ (Itt K kr) D n W fun H' => fin D H' := by
  have hkl : ks.length = kas.length := Paired.length hks
  have hzl : (ks.zip kas).length = ks.length := by rw [List.length_zip]; (first | lia | omega)
  have hza : ∀ (i : Nat) (x : V) (z : (Str × Int) × Addr), (kas.map V.ref)[i]? = some x → (ks.zip kas)[i]? = some z → x = .ref z.2 := fun i x z hx hz => by
    obtain ⟨ka, rfl, hka⟩ := get_ref hx
    obtain ⟨h1, h2⟩ := List.getElem?_zip_eq_some.mp hz
    rw [hka] at h2
    cases h2
    rfl
  refine comp_fm_tup (ks.zip kas) (fun z => p z.1) (fun z => .ref z.2) (SqT.of e) (by rw [hzl, List.length_map]; exact hkl) (by rw [List.length_map]; (first | lia | omega)) (fun i x z H2 R hx hz sm r => ?_) (fun i x z H2 R hx hz _ sm r => ?_) (fun D hD => ?_)
  · rw [hza i x z hx hz]
    have := (zip_memK hks z (List.mem_of_getElem? hz)).2
    exact htt z.1 z.2 H2 R sm (sm _ _ this) r
  · rw [hza i x z hx hz]
    exact hte z.2 H2 R r
  · refine q D _ _ hD rfl ?_ ?_ ?_
    · obtain ⟨k, hk, hpk⟩ := hp
      obtain ⟨i, hi, rfl⟩ := List.getElem_of_mem hk
      have hz : (ks.zip kas)[i]'(by (first | lia | omega)) ∈ (ks.zip kas).filter fun z => p z.1 := List.mem_filter.mpr ⟨List.getElem_mem _, by rw [List.getElem_zip]; exact hpk⟩
      exact List.length_pos_of_mem hz
    · exact Nat.le_trans (List.length_filter_le _ _) (by (first | lia | omega))
    · intro z hz
      obtain ⟨h1, h2⟩ := List.mem_filter.mp hz
      obtain ⟨h3, h4⟩ := zip_memK hks z h1
      exact ⟨h3, h2, h4⟩
end BB
namespace BB
open PySem L2 PySem.Builtin PySem.Builtin.Str
end BB
namespace L2
open PySem PySem.Spec PySem.Calls PyProof.Rows BB
section
variable {X : Cx} {pins : List (Addr × Obj)} {σ : List (Option V)} {H : Hp} {s : Shared}
end
end L2
namespace L2
open PySem PySem.Spec PySem.Calls PyProof.Rows PySem.Builtin PySem.Builtin.Str BB
variable {X : Cx}
end L2
namespace BB
open PySem L2
end BB
namespace BB
open PySem L2
section
variable {H H' : Hp} {t : Th} {a : Addr} {ts : List Th} {es : List Addr}
end
end BB
namespace L2
open PySem PySem.Spec PyProof.Rows BB
variable {X : Cx}
end L2
namespace L2
open PySem PySem.Spec PyProof.Rows PySem.W
end L2
namespace L2
open PySem PySem.Spec PyProof.Rows BB
variable {X : Cx}
end L2
namespace L2
open PySem PySem.Spec PySem.Calls PyProof.Rows PySem.W
noncomputable def cxE (P : Program) (w : World) (K : Frag) (mg : Str → Option Value) (base : Heap) (N : List Str) (qual : Str) (scope : Scope) (f : Addr) (cd : Value) (A : Around) (outer : List Env) (s : Shared) (H : Hp) (ea : Addr) (oe : Obj) : Cx :=
  { cxOf CX0 P w K mg base N qual scope f cd A outer s H (fun _ _ _ => False) with calm := false, pn := [(ea, oe)], xe := fun _ _ => False }
theorem Inv.startE {P : Program} {w : World} {K : Frag} {mg : Str → Option Value} {base : Heap} {N : List Str} {qual : Str} {scope : Scope} {f : Addr} {cd : Value} {A : Around} {outer : List Env} {s s1 : Shared} {H : Hp} {ea : Addr} {oe : Obj} {vs : List V}
    (I : Inv (cxOf CX0 P w K mg base N qual scope f cd { A with handled := none } outer s H (fun _ _ _ => False)) [] (start N vs) H s1) (hfr : (A.deeper (envOfC qual scope s.heap.objs.size f cd)).frames = some (envOfC qual scope s.heap.objs.size f cd :: outer))
    (hp : s1.heap.get? ea = some oe ∧ H ea = none ∧ ea ≠ s.heap.objs.size ∧ ea ∉ (cxE P w K mg base N qual scope f cd A outer s H ea oe).fs ∧ ∀ v, oe.data ≠ .cell v) : Inv (cxE P w K mg base N qual scope f cd A outer s H ea oe) [] (start N vs) H s1 :=
  ⟨⟨I.ok.mod, I.ok.kind, I.ok.glob, I.ok.blt, I.ok.above, I.ok.inj, I.ok.has, I.ok.cab, (fun z => nomatch z), hfr, I.ok.stk, I.ok.exf, I.ok.bs, I.ok.bsz, I.ok.noex, I.ok.exfs, I.ok.funs, I.ok.frf⟩,
    I.os, I.bare, I.base, I.loc, I.cell, I.free, I.freeC, fun p hp' => by
      have hp' : p ∈ ([(ea, oe)] : List (Addr × Obj)) ++ [] := hp'
      rw [List.append_nil, List.mem_singleton] at hp'
      subst hp'
      exact hp, I.hok, I.len⟩
noncomputable def FnOkE (P : Program) (w : World) (K : Frag) (mg : Str → Option Value) (base : Heap) (k : Nat) (f : Addr) (fd : FuncData) (ps : List Str) (sp : Addr → Hp → VK → Prop) : Prop :=
  ∀ (A : Around) (outer : List Env) (s : Shared) (H : Hp) (args : Args) (ea : Addr) (oe : Obj) (C : Addr) (Q : VK), Room k { A with handled := none } → Env0 P w K mg base A outer s H → BindsTo s fd args (ps.zip [.ref ea]) → s.heap.get? ea = some oe → oe.cls = .ref C → ExcK K C → H ea = none → ea ∉ frs outer → (∀ v, oe.data ≠ .cell v) → sp C H Q →
    codeAny (model P w) A (.call (.ref f) args) (CR CX0 outer P w H s Q E0) s
theorem Fun.okE {P : Program} {w : World} {K : Frag} {mg : Str → Option Value} {base : Heap} {x qual : Str} {st : Stmt} {f : Addr} {fd : FuncData} {N ps : List Str} {k : Nat} {sp : Addr → Hp → VK → Prop} (F : Fun K x qual st f fd) (S : FnScope N ps (defScope st)) (h1 : ps.length = 1)
    (hbody : ∀ (cdv : Value) (A : Around) (outer : List Env) (s : Shared) (H : Hp) (ea : Addr) (oe : Obj) (C : Addr) (Q : VK), oe.cls = .ref C → ExcK K C → sp C H Q →
      ∃ t, PSs (cxE P w K mg base N qual (defScope st) f cdv A outer s H ea oe) (defBody st) t ∧ t { nx := fun _ H' => Q .non H', rt := Q } (start N [.ref ea]) H) : FnOkE P w K mg base (k + 1) f fd ps sp := by
  refine hidG fun ZZ kZ => ?_
  obtain ⟨oc, od, kV, doc, pm, an, cdv, ct, osl, rfl, lk, hcd⟩ := F.ex
  refine kZ ?_
  intro A outer s H args ea oe C Q hr e0 hb hoe hoc hX hnone hnf hdc hsp
  have KX : K.In s.heap := e0.mod.kin.keeps fun b o e => (e0.bs b o e).1
  have lim : s.heap.NoLimit := e0.mod.nolimit.keeps fun b o e => (e0.bs b o e).1
  have hkind : ∀ y ∈ ps.zip [Value.ref ea], (defScope st).names.lookup y.1 = some .local ∨ ((defScope st).names.lookup y.1 = some .cell ∧ ((cellsFrom (s.heap.objs.size + 1) (defScope st).names []).lookup y.1).isSome = true) := fun ⟨n, v⟩ hy => by
    rcases S.par n (List.of_mem_zip hy).1 with q | q
    · exact .inl q
    · exact .inr ⟨q, cellsFrom_some _ _ _ (.inl q)⟩
  have hdp : A.depth < recursionLimit := hr.depth
  refine codeAny_call_function hdp (KX _ _ lk) rfl S.co S.gen rfl (codeRec_of KX hcd) (hb _ _ _ _ ?_)
  refine wpAny_newFunctionEnv_cells S.kind hkind fun env he s1 x => ?_
  subst he
  refine ⟨lim.keeps x.toInCall.keep, codeAny_func ?_⟩
  obtain ⟨t, ht, hq⟩ := hbody cdv A outer s H ea oe C Q hoc hX hsp
  have rv : Vals [V.ref ea] [Value.ref ea] := .cons rfl .nil
  have e1 : Env0 P w K mg base { A with handled := none } outer s H := ⟨e0.frames, e0.mod, e0.bs, e0.bsz, e0.funs, e0.frf, e0.hok, e0.bare⟩
  have I0 : Inv (cxOf CX0 P w K mg base N qual (defScope st) f cdv { A with handled := none } outer s H (fun _ _ _ => False)) [] (start N [.ref ea]) H s1 := inv_start S rfl e1 h1.symm rv x
  have hsz : ea ≠ s.heap.objs.size := fun z => by
    rw [z] at hoe
    unfold Heap.get? at hoe
    simp at hoe
  have I : Inv (cxE P w K mg base N qual (defScope st) f cdv A outer s H ea oe) [] (start N [.ref ea]) H s1 := I0.startE (Around.frames_deeper e0.frames) ⟨x.toInCall.keep _ _ hoe, hnone, hsz, hnf, hdc⟩
  refine wpAny_mono (ht [] s1 (start N [.ref ea]) H _ I hq) (fun fl s' hs => ?_) fun e s' hs => False.elim hs
  have fin : ∀ {σ' : St} {H' : Hp} {v : V} {u : Value}, Inv (cxE P w K mg base N qual (defScope st) f cdv A outer s H ea oe) [] σ' H' s' → RelV v u → Q v H' → CE outer P w H s Q u s' :=
    fun {σ' H' v u} J rv q => ⟨v, H', J.os, J.bare, J.base, J.hok, rv, q⟩
  cases fl with
  | ret u =>
    refine hidG fun ZZ kZ => ?_
    obtain ⟨v, σ', H', J, rv, q⟩ := hs
    refine kZ ?_
    exact fin J rv q
  | next =>
    refine hidG fun ZZ kZ => ?_
    obtain ⟨σ', H', J, q⟩ := hs
    refine kZ ?_
    exact fin (v := V.non) (u := Value.none) J rfl q
  | brk =>
    refine hidG fun ZZ kZ => ?_
    obtain ⟨_, _, _, q⟩ := hs
    refine kZ ?_
    exact False.elim q
  | cont =>
    refine hidG fun ZZ kZ => ?_
    obtain ⟨_, _, _, q⟩ := hs
    refine kZ ?_
    exact False.elim q
noncomputable def tCallE (sp : Addr → Hp → VK → Prop) (ea C : Addr) (t : TA) : TE := fun σ H Q => t σ H fun vs H1 => vs = [.ref ea] ∧ sp C H1 Q
theorem pe_callE {X : Cx} {ea : Addr} {oe : Obj} {C : Addr} {k : Nat} {f : Addr} {fd : FuncData} {ps : List Str} {sp : Addr → Hp → VK → Prop} {x : Str} {p pos : Pos} {e : Expr} {t : TA}
    (F : FnOkE X.prog X.w X.K X.mg X.base k f fd ps sp) (h1 : ps.length = 1) (hr : Room k X.A) (hoc : oe.cls = .ref C) (hX : ExcK X.K C) (hst : X.stack = X.env :: X.outer) (hfr : X.env.frame = some X.env.locals) (hg : Gl X x) (hm : X.mg x = some (.ref f)) (hk : keepIn X.K (.ref f) = true) (hb : Binds X.K fd ps [])
    (ha : PA (X.suite ea oe) [e] t) (hdb : (x == ("__debug__" : Str)) = false := by decide) (he : starEach [e] X.env = (false, eval e X.env) :: starEach [] X.env := by rfl) (hpl : (backTo pos (starEach [] X.env)).any (·.1) = false := by rfl) :
    PE (X.suite ea oe) (.Call (.Name x p) [e] [] pos) (tCallE sp ea C t) := by
  intro pins s σ H Q I h
  refine wpAny_Call_Name_kw (ld_glob I hg hm ?_ hdb)
  refine callWith_K (h₀ := X.base) I.ok.mod.kin hk (thn (ha pos pins s σ H _ I h) fun us s1 zz => el24 zz fun vs H1 I1 r hv q => ⟨I1.kIn, ?_⟩) he hpl
  subst hv
  obtain ⟨u, rfl, ru⟩ := r.one
  obtain rfl : u = Value.ref ea := ru
  refine hidG fun ZZ kZ => ?_
  obtain ⟨g1, g2, g3, g4, g5⟩ := I1.pin (ea, oe) (List.mem_append_left _ pin_suite)
  refine kZ ?_
  have hnf : ea ∉ frs (X.suite ea oe).stack := by
    show ea ∉ frs X.stack
    rw [hst, frs_in hfr]
    intro z
    rcases List.mem_cons.mp z with z | z
    · exact g3 z
    · exact g4 z
  have hr' : Room k { (X.suite ea oe).A with handled := none } := ⟨rfl, hr.dp, hr.un⟩
  have hbt := hb s1 [.ref ea] I1.kIn (by rw [List.length_append]; exact h1.symm)
  refine wpAny_call (codeAny_mono (F (X.suite ea oe).A (X.suite ea oe).stack s1 H1 ⟨[.ref ea], []⟩ ea oe C Q hr' I1.env0 hbt g1 hoc hX g2 hnf g5 q) fun r s' hq => ?_)
  cases r with
  | error e => exact hq.elim
  | ok fl =>
    cases fl with
    | ret u => exact I1.after hq
    | next => exact False.elim hq
    | brk => exact False.elim hq
    | cont => exact False.elim hq
theorem pin_E {P : Program} {w : World} {K : Frag} {mg : Str → Option Value} {base : Heap} {N : List Str} {qual : Str} {scope : Scope} {f : Addr} {cd : Value} {A : Around} {outer : List Env} {s : Shared} {H : Hp} {ea : Addr} {oe : Obj} : (ea, oe) ∈ (cxE P w K mg base N qual scope f cd A outer s H ea oe).pn := List.mem_singleton.mpr rfl
end L2
namespace BB
open PySem L2 PySem.Builtin PySem.Builtin.Str
end BB
namespace L2
open PySem PySem.Spec PySem.Calls PyProof.Rows PySem.Builtin PySem.Builtin.Str BB
variable {X : Cx}
end L2
namespace L2
open PySem PySem.Spec PyProof.Rows
end L2
namespace BB
open PySem L2
end BB
namespace L2
open PySem PySem.Spec PyProof.Rows
end L2
namespace L2
open PySem PySem.Spec PySem.Calls PyProof.Rows
section
variable {X : Cx} {CX : CXT} {k i : Nat} {E : XK} {x : Str} {p pos : Pos} {e : Expr} {es : List Expr} {t : TA}
end
section
variable {X : Cx} {k : Nat} {f : Addr} {fd : FuncData} {ps : List Str} {sp : Sp} {x : Str} {p pos : Pos} {e : Expr} {es : List Expr} {t : TA}
end
end L2
namespace L2
open PySem PySem.Spec PyProof.Rows
end L2
namespace L2
open PySem PySem.Spec PyProof.Rows
end L2
namespace BB
open PySem L2
section
variable {head : Th} {rows : List (List Th)}
end
end BB
namespace BB
theorem iteTd {p : Prop} [Decidable p] {A B : Prop} (hp : p) (h : A) : if decide p = true then A else B := by rw [if_pos (decide_eq_true hp)]; exact h
theorem iteFd {p : Prop} [Decidable p] {A B : Prop} (hp : ¬p) (h : B) : if decide p = true then A else B := by rw [if_neg (fun z => hp (of_decide_eq_true z))]; exact h
theorem hid {G : Prop} (k : ∀ F : Prop, (G → F) → F) : G := k G id
inductive Ex1 {A0 : Type} (p : A0 → Prop) : Prop
  | mk (x0 : A0) (h : p x0) : Ex1 p
inductive Ex2 {A0 A1 : Type} (p : A0 → A1 → Prop) : Prop
  | mk (x0 : A0) (x1 : A1) (h : p x0 x1) : Ex2 p
inductive Ex3 {A0 A1 A2 : Type} (p : A0 → A1 → A2 → Prop) : Prop
  | mk (x0 : A0) (x1 : A1) (x2 : A2) (h : p x0 x1 x2) : Ex3 p
inductive Ex4 {A0 A1 A2 A3 : Type} (p : A0 → A1 → A2 → A3 → Prop) : Prop
  | mk (x0 : A0) (x1 : A1) (x2 : A2) (x3 : A3) (h : p x0 x1 x2 x3) : Ex4 p
inductive Ex5 {A0 A1 A2 A3 A4 : Type} (p : A0 → A1 → A2 → A3 → A4 → Prop) : Prop
  | mk (x0 : A0) (x1 : A1) (x2 : A2) (x3 : A3) (x4 : A4) (h : p x0 x1 x2 x3 x4) : Ex5 p
inductive Ex6 {A0 A1 A2 A3 A4 A5 : Type} (p : A0 → A1 → A2 → A3 → A4 → A5 → Prop) : Prop
  | mk (x0 : A0) (x1 : A1) (x2 : A2) (x3 : A3) (x4 : A4) (x5 : A5) (h : p x0 x1 x2 x3 x4 x5) : Ex6 p
inductive Ex10 {A0 A1 A2 A3 A4 A5 A6 A7 A8 A9 : Type} (p : A0 → A1 → A2 → A3 → A4 → A5 → A6 → A7 → A8 → A9 → Prop) : Prop
  | mk (x0 : A0) (x1 : A1) (x2 : A2) (x3 : A3) (x4 : A4) (x5 : A5) (x6 : A6) (x7 : A7) (x8 : A8) (x9 : A9) (h : p x0 x1 x2 x3 x4 x5 x6 x7 x8 x9) : Ex10 p
inductive Ex11 {A0 A1 A2 A3 A4 A5 A6 A7 A8 A9 A10 : Type} (p : A0 → A1 → A2 → A3 → A4 → A5 → A6 → A7 → A8 → A9 → A10 → Prop) : Prop
  | mk (x0 : A0) (x1 : A1) (x2 : A2) (x3 : A3) (x4 : A4) (x5 : A5) (x6 : A6) (x7 : A7) (x8 : A8) (x9 : A9) (x10 : A10) (h : p x0 x1 x2 x3 x4 x5 x6 x7 x8 x9 x10) : Ex11 p
inductive An2 (a0 a1 : Prop) : Prop
  | mk (h0 : a0) (h1 : a1) : An2 a0 a1
inductive An3 (a0 a1 a2 : Prop) : Prop
  | mk (h0 : a0) (h1 : a1) (h2 : a2) : An3 a0 a1 a2
inductive An4 (a0 a1 a2 a3 : Prop) : Prop
  | mk (h0 : a0) (h1 : a1) (h2 : a2) (h3 : a3) : An4 a0 a1 a2 a3
inductive An5 (a0 a1 a2 a3 a4 : Prop) : Prop
  | mk (h0 : a0) (h1 : a1) (h2 : a2) (h3 : a3) (h4 : a4) : An5 a0 a1 a2 a3 a4
inductive An6 (a0 a1 a2 a3 a4 a5 : Prop) : Prop
  | mk (h0 : a0) (h1 : a1) (h2 : a2) (h3 : a3) (h4 : a4) (h5 : a5) : An6 a0 a1 a2 a3 a4 a5
inductive An7 (a0 a1 a2 a3 a4 a5 a6 : Prop) : Prop
  | mk (h0 : a0) (h1 : a1) (h2 : a2) (h3 : a3) (h4 : a4) (h5 : a5) (h6 : a6) : An7 a0 a1 a2 a3 a4 a5 a6
inductive An8 (a0 a1 a2 a3 a4 a5 a6 a7 : Prop) : Prop
  | mk (h0 : a0) (h1 : a1) (h2 : a2) (h3 : a3) (h4 : a4) (h5 : a5) (h6 : a6) (h7 : a7) : An8 a0 a1 a2 a3 a4 a5 a6 a7
inductive An9 (a0 a1 a2 a3 a4 a5 a6 a7 a8 : Prop) : Prop
  | mk (h0 : a0) (h1 : a1) (h2 : a2) (h3 : a3) (h4 : a4) (h5 : a5) (h6 : a6) (h7 : a7) (h8 : a8) : An9 a0 a1 a2 a3 a4 a5 a6 a7 a8
end BB
namespace L2
open PySem PySem.Spec PyProof.Rows
end L2
namespace LAW
open PySem L2 BB
noncomputable def top (i : Nat) : Stmt := PySem.Challenge.pw_boughbook_k92_no_origin.main.body.getD i (.Pass ⟨0, 0, 0, 0⟩)
noncomputable abbrev s_is_number : Stmt := top 13
theorem sc_is_number : FnScope ["thing"] ["thing"] (defScope s_is_number) := ⟨rfl, rfl, rfl, by decide +kernel, rfl, by decide +kernel, by decide +kernel⟩
noncomputable abbrev s_is_below : Stmt := top 14
theorem sc_is_below : FnScope ["number", "bound"] ["number", "bound"] (defScope s_is_below) := ⟨rfl, rfl, rfl, by decide +kernel, rfl, by decide +kernel, by decide +kernel⟩
noncomputable abbrev s_kids_of : Stmt := top 15
theorem sc_kids_of : FnScope ["thing"] ["thing"] (defScope s_kids_of) := ⟨rfl, rfl, rfl, by decide +kernel, rfl, by decide +kernel, by decide +kernel⟩
noncomputable abbrev s_kid_at : Stmt := top 16
theorem sc_kid_at : FnScope ["thing", "number", "kids"] ["thing", "number"] (defScope s_kid_at) := ⟨rfl, rfl, rfl, by decide +kernel, rfl, by decide +kernel, by decide +kernel⟩
noncomputable abbrev s_is_call : Stmt := top 18
theorem sc_is_call : FnScope ["thing"] ["thing"] (defScope s_is_call) := ⟨rfl, rfl, rfl, by decide +kernel, rfl, by decide +kernel, by decide +kernel⟩
noncomputable abbrev s_called_by : Stmt := top 19
theorem sc_called_by : FnScope ["call"] ["call"] (defScope s_called_by) := ⟨rfl, rfl, rfl, by decide +kernel, rfl, by decide +kernel, by decide +kernel⟩
noncomputable abbrev s_ins_of : Stmt := top 21
theorem sc_ins_of : FnScope ["book"] ["book"] (defScope s_ins_of) := ⟨rfl, rfl, rfl, by decide +kernel, rfl, by decide +kernel, by decide +kernel⟩
noncomputable abbrev s_head_of : Stmt := top 22
theorem sc_head_of : FnScope ["book"] ["book"] (defScope s_head_of) := ⟨rfl, rfl, rfl, by decide +kernel, rfl, by decide +kernel, by decide +kernel⟩
noncomputable abbrev s_rules_of : Stmt := top 23
theorem sc_rules_of : FnScope ["book"] ["book"] (defScope s_rules_of) := ⟨rfl, rfl, rfl, by decide +kernel, rfl, by decide +kernel, by decide +kernel⟩
noncomputable abbrev s_pattern_of : Stmt := top 24
theorem sc_pattern_of : FnScope ["book", "state", "name", "names"] ["book", "state", "name"] (defScope s_pattern_of) := ⟨rfl, rfl, rfl, by decide +kernel, rfl, by decide +kernel, by decide +kernel⟩
noncomputable abbrev s_above : Stmt := top 27
theorem sc_above : FnScope ["tree"] ["tree"] (defScope s_above) := ⟨rfl, rfl, rfl, by decide +kernel, rfl, by decide +kernel, by decide +kernel⟩
noncomputable abbrev s_led_on : Stmt := top 28
theorem sc_led_on : FnScope ["book", "call", "knot", "state", "kid", "handed"] ["book", "call", "knot"] (defScope s_led_on) := ⟨rfl, rfl, rfl, by decide +kernel, rfl, by decide +kernel, by decide +kernel⟩
noncomputable abbrev s_written : Stmt := top 30
theorem sc_written : FnScope ["book", "part", "knot", "origin", "state", "kid"] ["book", "part", "knot", "origin"] (defScope s_written) := ⟨rfl, rfl, rfl, by decide +kernel, rfl, by decide +kernel, by decide +kernel⟩
noncomputable abbrev s_origin_at : Stmt := top 31
theorem sc_origin_at : FnScope ["book", "tree", "place", "part", "knot", "origin", "number"] ["book", "tree", "place"] (defScope s_origin_at) := ⟨rfl, rfl, rfl, by decide +kernel, rfl, by decide +kernel, by decide +kernel⟩
noncomputable abbrev s__law_cell : Stmt := top 33
theorem sc__law_cell : FnScope ["script", "k"] ["script", "k"] (defScope s__law_cell) := ⟨rfl, rfl, rfl, by decide +kernel, rfl, by decide +kernel, by decide +kernel⟩
noncomputable abbrev s__law_folded : Stmt := top 34
theorem sc__law_folded : FnScope ["cells", "many", "found", "k"] ["cells", "many"] (defScope s__law_folded) := ⟨rfl, rfl, rfl, by decide +kernel, rfl, by decide +kernel, by decide +kernel⟩
noncomputable abbrev s__law_names : Stmt := top 35
theorem sc__law_names : FnScope ["cell", "every", "step", "at", "word", "k", "names", "turn"] ["cell"] (defScope s__law_names) := ⟨rfl, rfl, rfl, by decide +kernel, rfl, by decide +kernel, by decide +kernel⟩
noncomputable abbrev s__law_kinds : Stmt := top 36
theorem sc__law_kinds : FnScope ["cell", "names", "many", "leaf", "rest", "kinds", "k", "count"] ["cell", "names"] (defScope s__law_kinds) := ⟨rfl, rfl, rfl, by decide +kernel, rfl, by decide +kernel, by decide +kernel⟩
noncomputable abbrev s__law_thing : Stmt := top 37
theorem sc__law_thing : FnScope ["left", "outs", "states", "kids", "digit", "state", "kid", "fit", "kind", "made", "k"] ["left", "outs", "states", "kids"] (defScope s__law_thing) := ⟨rfl, rfl, rfl, by decide +kernel, rfl, by decide +kernel, by decide +kernel⟩
noncomputable abbrev s__law_places : Stmt := top 38
theorem sc__law_places : FnScope ["thing", "found", "k"] ["thing"] (defScope s__law_places) := ⟨rfl, rfl, rfl, by decide +kernel, rfl, by decide +kernel, by decide +kernel⟩
noncomputable abbrev s__law_put : Stmt := top 39
theorem sc__law_put : FnScope ["thing", "place", "other", "k"] ["thing", "place", "other"] (defScope s__law_put) := ⟨rfl, rfl, rfl, by decide +kernel, rfl, by decide +kernel, by decide +kernel⟩
noncomputable abbrev s__law_mixed : Stmt := top 40
theorem sc__law_mixed : FnScope ["cell", "k", "number"] ["cell", "k"] (defScope s__law_mixed) := ⟨rfl, rfl, rfl, by decide +kernel, rfl, by decide +kernel, by decide +kernel⟩
noncomputable abbrev s__law_rows : Stmt := top 41
theorem sc__law_rows : FnScope ["cells", "ins", "outs", "states", "rows", "state", "own", "base", "spots", "row", "k", "number", "place", "part"] ["cells", "ins", "outs", "states"] (defScope s__law_rows) := ⟨rfl, rfl, rfl, by decide +kernel, rfl, by decide +kernel, by decide +kernel⟩
noncomputable abbrev s__law_book : Stmt := top 42
theorem sc__law_book : FnScope ["cells", "ins", "outs", "states", "head"] ["cells", "ins", "outs", "states"] (defScope s__law_book) := ⟨rfl, rfl, rfl, by decide +kernel, rfl, by decide +kernel, by decide +kernel⟩
noncomputable abbrev s__law_drawn : Stmt := top 43
theorem sc__law_drawn : FnScope ["script", "most", "ins", "outs", "states", "cells"] ["script", "most"] (defScope s__law_drawn) := ⟨rfl, rfl, rfl, by decide +kernel, rfl, by decide +kernel, by decide +kernel⟩
noncomputable abbrev s__law_tree : Stmt := top 44
theorem sc__law_tree : FnScope ["left", "ins", "deep", "fit", "kind", "made", "k"] ["left", "ins", "deep"] (defScope s__law_tree) := ⟨rfl, rfl, rfl, by decide +kernel, rfl, by decide +kernel, by decide +kernel⟩
noncomputable abbrev s__law_written : Stmt := top 45
theorem sc__law_written : FnScope ["book", "pattern", "kids", "spot", "found", "tree", "where", "names", "own", "mine", "k"] ["book", "pattern", "kids", "spot", "found"] (defScope s__law_written) := ⟨rfl, rfl, rfl, by decide +kernel, rfl, by decide +kernel, by decide +kernel⟩
noncomputable abbrev s__law_other : Stmt := top 46
theorem sc__law_other : FnScope ["e"] ["e"] (defScope s__law_other) := ⟨rfl, rfl, rfl, by decide +kernel, rfl, by decide +kernel, by decide +kernel⟩
noncomputable abbrev s__law_refused : Stmt := top 47
theorem sc__law_refused : FnScope ["book", "tree", "place", "right", "e"] ["book", "tree", "place"] (defScope s__law_refused) := ⟨rfl, rfl, rfl, by decide +kernel, rfl, by decide +kernel, by decide +kernel⟩
noncomputable abbrev s__law_double : Stmt := top 48
theorem sc__law_double : FnScope ["names", "under", "call", "ins", "outs", "head"] ["names", "under"] (defScope s__law_double) := ⟨rfl, rfl, rfl, by decide +kernel, rfl, by decide +kernel, by decide +kernel⟩
noncomputable abbrev s__law_chain : Stmt := top 49
theorem sc__law_chain : FnScope ["names", "many", "tree", "k"] ["names", "many"] (defScope s__law_chain) := ⟨rfl, rfl, rfl, by decide +kernel, rfl, by decide +kernel, by decide +kernel⟩
noncomputable abbrev s__law_bits : Stmt := top 50
theorem sc__law_bits : FnScope ["cell", "many", "place", "k"] ["cell", "many"] (defScope s__law_bits) := ⟨rfl, rfl, rfl, by decide +kernel, rfl, by decide +kernel, by decide +kernel⟩
noncomputable abbrev s__law_far : Stmt := top 51
theorem sc__law_far : FnScope ["script", "names", "cell", "many", "deep", "place"] ["script"] (defScope s__law_far) := ⟨rfl, rfl, rfl, by decide +kernel, rfl, by decide +kernel, by decide +kernel⟩
noncomputable abbrev s_law : Stmt := top 52
theorem sc_law : FnScope ["script", "book", "tree", "rows", "cell", "place", "origin", "many", "far", "bad"] ["script"] (defScope s_law) := ⟨rfl, rfl, rfl, by decide +kernel, rfl, by decide +kernel, by decide +kernel⟩
set_option genInjectivity false in
set_option genSizeOf false in
structure FX (K : PySem.W.Frag) (mg : Str → Option Value) (n : Str) (s : Stmt) (ps : List Str) where
  f : Addr
  d : FuncData
  F : Fun K n n s f d
  b : Binds K d ps []
  m : mg n = some (.ref f)
set_option genInjectivity false in
set_option genSizeOf false in
structure TX (K : PySem.W.Frag) (mg : Str → Option Value) where
  c_CALL_SIGN : ∃ tk, mg "CALL_SIGN" = some (.str (Str.ofString "?") tk)
  c_HEAD : ∃ tk, mg "HEAD" = some (.int (-1) tk)
  e_BookError : Addr
  x_BookError : mg "BookError" = some (.ref e_BookError)
  e_NoKinds : Addr
  x_NoKinds : mg "NoKinds" = some (.ref e_NoKinds)
  e_NoTree : Addr
  x_NoTree : mg "NoTree" = some (.ref e_NoTree)
  e_NoPlace : Addr
  x_NoPlace : mg "NoPlace" = some (.ref e_NoPlace)
  e_NoBook : Addr
  x_NoBook : mg "NoBook" = some (.ref e_NoBook)
  e_NoText : Addr
  x_NoText : mg "NoText" = some (.ref e_NoText)
  e_NotOne : Addr
  x_NotOne : mg "NotOne" = some (.ref e_NotOne)
  e_Great : Addr
  x_Great : mg "Great" = some (.ref e_Great)
  e_Many : Addr
  x_Many : mg "Many" = some (.ref e_Many)
  e_NoName : Addr
  x_NoName : mg "NoName" = some (.ref e_NoName)
  xe_NoPlace : PySem.W.excIn K e_NoPlace [.type "ValueError", .type "Exception", .type "BaseException", .type "object"] "ValueError.__new__" = true
  xg_NoPlace : PySem.W.findIn K (.ref e_NoPlace) "__getattribute__" = some (some (.builtin "BaseException.__getattribute__"))
  xh_NoPlace : PySem.W.findIn K (.ref e_NoPlace) "__getattr__" = some none
  xc_NoPlace : PySem.W.findIn K (.ref e_NoPlace) "__class__" = some (some (.builtin "object.__class__"))
  xo_NoPlace : PySem.W.mroIn K e_NoPlace (.type "object") = some true
  xb_NoPlace : PySem.W.mroIn K e_NoPlace (.type "BaseException") = some true
  hit_NoPlace_BookError : PySem.W.exmOne K (.ref e_NoPlace) (.ref e_BookError) = some true
  kit_NoPlace_NoPlace : PySem.W.kitOne K (.ref e_NoPlace) (.ref e_NoPlace) = some true
  kit_NoPlace_ValueError : PySem.W.kitOne K (.ref e_NoPlace) (.type "ValueError") = some true
  kit_NoPlace_Great : PySem.W.kitOne K (.ref e_NoPlace) (.ref e_Great) = some false
  kit_NoPlace_Many : PySem.W.kitOne K (.ref e_NoPlace) (.ref e_Many) = some false
  kit_NoPlace_NoBook : PySem.W.kitOne K (.ref e_NoPlace) (.ref e_NoBook) = some false
  kit_NoPlace_NoKinds : PySem.W.kitOne K (.ref e_NoPlace) (.ref e_NoKinds) = some false
  kit_NoPlace_NoName : PySem.W.kitOne K (.ref e_NoPlace) (.ref e_NoName) = some false
  kit_NoPlace_NoText : PySem.W.kitOne K (.ref e_NoPlace) (.ref e_NoText) = some false
  kit_NoPlace_NoTree : PySem.W.kitOne K (.ref e_NoPlace) (.ref e_NoTree) = some false
  kit_NoPlace_NotOne : PySem.W.kitOne K (.ref e_NoPlace) (.ref e_NotOne) = some false
  g_is_number : FX K mg "is_number" s_is_number ["thing"]
  g_is_below : FX K mg "is_below" s_is_below ["number", "bound"]
  g_kids_of : FX K mg "kids_of" s_kids_of ["thing"]
  g_kid_at : FX K mg "kid_at" s_kid_at ["thing", "number"]
  g_is_call : FX K mg "is_call" s_is_call ["thing"]
  g_called_by : FX K mg "called_by" s_called_by ["call"]
  g_ins_of : FX K mg "ins_of" s_ins_of ["book"]
  g_head_of : FX K mg "head_of" s_head_of ["book"]
  g_rules_of : FX K mg "rules_of" s_rules_of ["book"]
  g_pattern_of : FX K mg "pattern_of" s_pattern_of ["book", "state", "name"]
  g_above : FX K mg "above" s_above ["tree"]
  g_led_on : FX K mg "led_on" s_led_on ["book", "call", "knot"]
  g_written : FX K mg "written" s_written ["book", "part", "knot", "origin"]
  g_origin_at : FX K mg "origin_at" s_origin_at ["book", "tree", "place"]
  g__law_cell : FX K mg "_law_cell" s__law_cell ["script", "k"]
  g__law_folded : FX K mg "_law_folded" s__law_folded ["cells", "many"]
  g__law_names : FX K mg "_law_names" s__law_names ["cell"]
  g__law_kinds : FX K mg "_law_kinds" s__law_kinds ["cell", "names"]
  g__law_thing : FX K mg "_law_thing" s__law_thing ["left", "outs", "states", "kids"]
  g__law_places : FX K mg "_law_places" s__law_places ["thing"]
  g__law_put : FX K mg "_law_put" s__law_put ["thing", "place", "other"]
  g__law_mixed : FX K mg "_law_mixed" s__law_mixed ["cell", "k"]
  g__law_rows : FX K mg "_law_rows" s__law_rows ["cells", "ins", "outs", "states"]
  g__law_book : FX K mg "_law_book" s__law_book ["cells", "ins", "outs", "states"]
  g__law_drawn : FX K mg "_law_drawn" s__law_drawn ["script", "most"]
  g__law_tree : FX K mg "_law_tree" s__law_tree ["left", "ins", "deep"]
  g__law_written : FX K mg "_law_written" s__law_written ["book", "pattern", "kids", "spot", "found"]
  g__law_other : FX K mg "_law_other" s__law_other ["e"]
  g__law_refused : FX K mg "_law_refused" s__law_refused ["book", "tree", "place"]
  g__law_double : FX K mg "_law_double" s__law_double ["names", "under"]
  g__law_chain : FX K mg "_law_chain" s__law_chain ["names", "many"]
  g__law_bits : FX K mg "_law_bits" s__law_bits ["cell", "many"]
  g__law_far : FX K mg "_law_far" s__law_far ["script"]
  g_law : FX K mg "law" s_law ["script"]
  n_ValueError : mg "ValueError" = none
  n_bool : mg "bool" = none
  n_int : mg "int" = none
  n_isinstance : mg "isinstance" = none
  n_len : mg "len" = none
  n_range : mg "range" = none
  n_tuple : mg "tuple" = none
section
variable {K : PySem.W.Frag} {mg : Str → Option Value} (T : TX K mg)
noncomputable abbrev TX.f_is_number : Addr := T.g_is_number.f
noncomputable abbrev TX.d_is_number : FuncData := T.g_is_number.d
theorem TX.F_is_number : Fun K "is_number" "is_number" s_is_number T.f_is_number T.d_is_number := T.g_is_number.F
theorem TX.b_is_number : Binds K T.d_is_number ["thing"] [] := T.g_is_number.b
theorem TX.m_is_number : mg "is_number" = some (.ref T.f_is_number) := T.g_is_number.m
noncomputable abbrev TX.f_is_below : Addr := T.g_is_below.f
noncomputable abbrev TX.d_is_below : FuncData := T.g_is_below.d
theorem TX.F_is_below : Fun K "is_below" "is_below" s_is_below T.f_is_below T.d_is_below := T.g_is_below.F
theorem TX.b_is_below : Binds K T.d_is_below ["number", "bound"] [] := T.g_is_below.b
theorem TX.m_is_below : mg "is_below" = some (.ref T.f_is_below) := T.g_is_below.m
noncomputable abbrev TX.f_kids_of : Addr := T.g_kids_of.f
noncomputable abbrev TX.d_kids_of : FuncData := T.g_kids_of.d
theorem TX.F_kids_of : Fun K "kids_of" "kids_of" s_kids_of T.f_kids_of T.d_kids_of := T.g_kids_of.F
theorem TX.b_kids_of : Binds K T.d_kids_of ["thing"] [] := T.g_kids_of.b
theorem TX.m_kids_of : mg "kids_of" = some (.ref T.f_kids_of) := T.g_kids_of.m
noncomputable abbrev TX.f_kid_at : Addr := T.g_kid_at.f
noncomputable abbrev TX.d_kid_at : FuncData := T.g_kid_at.d
theorem TX.F_kid_at : Fun K "kid_at" "kid_at" s_kid_at T.f_kid_at T.d_kid_at := T.g_kid_at.F
theorem TX.b_kid_at : Binds K T.d_kid_at ["thing", "number"] [] := T.g_kid_at.b
theorem TX.m_kid_at : mg "kid_at" = some (.ref T.f_kid_at) := T.g_kid_at.m
noncomputable abbrev TX.f_is_call : Addr := T.g_is_call.f
noncomputable abbrev TX.d_is_call : FuncData := T.g_is_call.d
theorem TX.F_is_call : Fun K "is_call" "is_call" s_is_call T.f_is_call T.d_is_call := T.g_is_call.F
theorem TX.b_is_call : Binds K T.d_is_call ["thing"] [] := T.g_is_call.b
theorem TX.m_is_call : mg "is_call" = some (.ref T.f_is_call) := T.g_is_call.m
noncomputable abbrev TX.f_called_by : Addr := T.g_called_by.f
noncomputable abbrev TX.d_called_by : FuncData := T.g_called_by.d
theorem TX.F_called_by : Fun K "called_by" "called_by" s_called_by T.f_called_by T.d_called_by := T.g_called_by.F
theorem TX.b_called_by : Binds K T.d_called_by ["call"] [] := T.g_called_by.b
theorem TX.m_called_by : mg "called_by" = some (.ref T.f_called_by) := T.g_called_by.m
noncomputable abbrev TX.f_ins_of : Addr := T.g_ins_of.f
noncomputable abbrev TX.d_ins_of : FuncData := T.g_ins_of.d
theorem TX.F_ins_of : Fun K "ins_of" "ins_of" s_ins_of T.f_ins_of T.d_ins_of := T.g_ins_of.F
theorem TX.b_ins_of : Binds K T.d_ins_of ["book"] [] := T.g_ins_of.b
theorem TX.m_ins_of : mg "ins_of" = some (.ref T.f_ins_of) := T.g_ins_of.m
noncomputable abbrev TX.f_head_of : Addr := T.g_head_of.f
noncomputable abbrev TX.d_head_of : FuncData := T.g_head_of.d
theorem TX.F_head_of : Fun K "head_of" "head_of" s_head_of T.f_head_of T.d_head_of := T.g_head_of.F
theorem TX.b_head_of : Binds K T.d_head_of ["book"] [] := T.g_head_of.b
theorem TX.m_head_of : mg "head_of" = some (.ref T.f_head_of) := T.g_head_of.m
noncomputable abbrev TX.f_rules_of : Addr := T.g_rules_of.f
noncomputable abbrev TX.d_rules_of : FuncData := T.g_rules_of.d
theorem TX.F_rules_of : Fun K "rules_of" "rules_of" s_rules_of T.f_rules_of T.d_rules_of := T.g_rules_of.F
theorem TX.b_rules_of : Binds K T.d_rules_of ["book"] [] := T.g_rules_of.b
theorem TX.m_rules_of : mg "rules_of" = some (.ref T.f_rules_of) := T.g_rules_of.m
noncomputable abbrev TX.f_pattern_of : Addr := T.g_pattern_of.f
noncomputable abbrev TX.d_pattern_of : FuncData := T.g_pattern_of.d
theorem TX.F_pattern_of : Fun K "pattern_of" "pattern_of" s_pattern_of T.f_pattern_of T.d_pattern_of := T.g_pattern_of.F
theorem TX.b_pattern_of : Binds K T.d_pattern_of ["book", "state", "name"] [] := T.g_pattern_of.b
theorem TX.m_pattern_of : mg "pattern_of" = some (.ref T.f_pattern_of) := T.g_pattern_of.m
noncomputable abbrev TX.f_above : Addr := T.g_above.f
noncomputable abbrev TX.d_above : FuncData := T.g_above.d
theorem TX.F_above : Fun K "above" "above" s_above T.f_above T.d_above := T.g_above.F
theorem TX.b_above : Binds K T.d_above ["tree"] [] := T.g_above.b
theorem TX.m_above : mg "above" = some (.ref T.f_above) := T.g_above.m
noncomputable abbrev TX.f_led_on : Addr := T.g_led_on.f
noncomputable abbrev TX.d_led_on : FuncData := T.g_led_on.d
theorem TX.F_led_on : Fun K "led_on" "led_on" s_led_on T.f_led_on T.d_led_on := T.g_led_on.F
theorem TX.b_led_on : Binds K T.d_led_on ["book", "call", "knot"] [] := T.g_led_on.b
theorem TX.m_led_on : mg "led_on" = some (.ref T.f_led_on) := T.g_led_on.m
noncomputable abbrev TX.f_written : Addr := T.g_written.f
noncomputable abbrev TX.d_written : FuncData := T.g_written.d
theorem TX.F_written : Fun K "written" "written" s_written T.f_written T.d_written := T.g_written.F
theorem TX.b_written : Binds K T.d_written ["book", "part", "knot", "origin"] [] := T.g_written.b
theorem TX.m_written : mg "written" = some (.ref T.f_written) := T.g_written.m
noncomputable abbrev TX.f_origin_at : Addr := T.g_origin_at.f
noncomputable abbrev TX.d_origin_at : FuncData := T.g_origin_at.d
theorem TX.F_origin_at : Fun K "origin_at" "origin_at" s_origin_at T.f_origin_at T.d_origin_at := T.g_origin_at.F
theorem TX.b_origin_at : Binds K T.d_origin_at ["book", "tree", "place"] [] := T.g_origin_at.b
theorem TX.m_origin_at : mg "origin_at" = some (.ref T.f_origin_at) := T.g_origin_at.m
noncomputable abbrev TX.f__law_cell : Addr := T.g__law_cell.f
noncomputable abbrev TX.d__law_cell : FuncData := T.g__law_cell.d
theorem TX.F__law_cell : Fun K "_law_cell" "_law_cell" s__law_cell T.f__law_cell T.d__law_cell := T.g__law_cell.F
theorem TX.b__law_cell : Binds K T.d__law_cell ["script", "k"] [] := T.g__law_cell.b
theorem TX.m__law_cell : mg "_law_cell" = some (.ref T.f__law_cell) := T.g__law_cell.m
noncomputable abbrev TX.f__law_folded : Addr := T.g__law_folded.f
noncomputable abbrev TX.d__law_folded : FuncData := T.g__law_folded.d
theorem TX.F__law_folded : Fun K "_law_folded" "_law_folded" s__law_folded T.f__law_folded T.d__law_folded := T.g__law_folded.F
theorem TX.b__law_folded : Binds K T.d__law_folded ["cells", "many"] [] := T.g__law_folded.b
theorem TX.m__law_folded : mg "_law_folded" = some (.ref T.f__law_folded) := T.g__law_folded.m
noncomputable abbrev TX.f__law_names : Addr := T.g__law_names.f
noncomputable abbrev TX.d__law_names : FuncData := T.g__law_names.d
theorem TX.F__law_names : Fun K "_law_names" "_law_names" s__law_names T.f__law_names T.d__law_names := T.g__law_names.F
theorem TX.b__law_names : Binds K T.d__law_names ["cell"] [] := T.g__law_names.b
theorem TX.m__law_names : mg "_law_names" = some (.ref T.f__law_names) := T.g__law_names.m
noncomputable abbrev TX.f__law_kinds : Addr := T.g__law_kinds.f
noncomputable abbrev TX.d__law_kinds : FuncData := T.g__law_kinds.d
theorem TX.F__law_kinds : Fun K "_law_kinds" "_law_kinds" s__law_kinds T.f__law_kinds T.d__law_kinds := T.g__law_kinds.F
theorem TX.b__law_kinds : Binds K T.d__law_kinds ["cell", "names"] [] := T.g__law_kinds.b
theorem TX.m__law_kinds : mg "_law_kinds" = some (.ref T.f__law_kinds) := T.g__law_kinds.m
noncomputable abbrev TX.f__law_thing : Addr := T.g__law_thing.f
noncomputable abbrev TX.d__law_thing : FuncData := T.g__law_thing.d
theorem TX.F__law_thing : Fun K "_law_thing" "_law_thing" s__law_thing T.f__law_thing T.d__law_thing := T.g__law_thing.F
theorem TX.b__law_thing : Binds K T.d__law_thing ["left", "outs", "states", "kids"] [] := T.g__law_thing.b
theorem TX.m__law_thing : mg "_law_thing" = some (.ref T.f__law_thing) := T.g__law_thing.m
noncomputable abbrev TX.f__law_places : Addr := T.g__law_places.f
noncomputable abbrev TX.d__law_places : FuncData := T.g__law_places.d
theorem TX.F__law_places : Fun K "_law_places" "_law_places" s__law_places T.f__law_places T.d__law_places := T.g__law_places.F
theorem TX.b__law_places : Binds K T.d__law_places ["thing"] [] := T.g__law_places.b
theorem TX.m__law_places : mg "_law_places" = some (.ref T.f__law_places) := T.g__law_places.m
noncomputable abbrev TX.f__law_put : Addr := T.g__law_put.f
noncomputable abbrev TX.d__law_put : FuncData := T.g__law_put.d
theorem TX.F__law_put : Fun K "_law_put" "_law_put" s__law_put T.f__law_put T.d__law_put := T.g__law_put.F
theorem TX.b__law_put : Binds K T.d__law_put ["thing", "place", "other"] [] := T.g__law_put.b
theorem TX.m__law_put : mg "_law_put" = some (.ref T.f__law_put) := T.g__law_put.m
noncomputable abbrev TX.f__law_mixed : Addr := T.g__law_mixed.f
noncomputable abbrev TX.d__law_mixed : FuncData := T.g__law_mixed.d
theorem TX.F__law_mixed : Fun K "_law_mixed" "_law_mixed" s__law_mixed T.f__law_mixed T.d__law_mixed := T.g__law_mixed.F
theorem TX.b__law_mixed : Binds K T.d__law_mixed ["cell", "k"] [] := T.g__law_mixed.b
theorem TX.m__law_mixed : mg "_law_mixed" = some (.ref T.f__law_mixed) := T.g__law_mixed.m
noncomputable abbrev TX.f__law_rows : Addr := T.g__law_rows.f
noncomputable abbrev TX.d__law_rows : FuncData := T.g__law_rows.d
theorem TX.F__law_rows : Fun K "_law_rows" "_law_rows" s__law_rows T.f__law_rows T.d__law_rows := T.g__law_rows.F
theorem TX.b__law_rows : Binds K T.d__law_rows ["cells", "ins", "outs", "states"] [] := T.g__law_rows.b
theorem TX.m__law_rows : mg "_law_rows" = some (.ref T.f__law_rows) := T.g__law_rows.m
noncomputable abbrev TX.f__law_book : Addr := T.g__law_book.f
noncomputable abbrev TX.d__law_book : FuncData := T.g__law_book.d
theorem TX.F__law_book : Fun K "_law_book" "_law_book" s__law_book T.f__law_book T.d__law_book := T.g__law_book.F
theorem TX.b__law_book : Binds K T.d__law_book ["cells", "ins", "outs", "states"] [] := T.g__law_book.b
theorem TX.m__law_book : mg "_law_book" = some (.ref T.f__law_book) := T.g__law_book.m
noncomputable abbrev TX.f__law_drawn : Addr := T.g__law_drawn.f
noncomputable abbrev TX.d__law_drawn : FuncData := T.g__law_drawn.d
theorem TX.F__law_drawn : Fun K "_law_drawn" "_law_drawn" s__law_drawn T.f__law_drawn T.d__law_drawn := T.g__law_drawn.F
theorem TX.b__law_drawn : Binds K T.d__law_drawn ["script", "most"] [] := T.g__law_drawn.b
theorem TX.m__law_drawn : mg "_law_drawn" = some (.ref T.f__law_drawn) := T.g__law_drawn.m
noncomputable abbrev TX.f__law_tree : Addr := T.g__law_tree.f
noncomputable abbrev TX.d__law_tree : FuncData := T.g__law_tree.d
theorem TX.F__law_tree : Fun K "_law_tree" "_law_tree" s__law_tree T.f__law_tree T.d__law_tree := T.g__law_tree.F
theorem TX.b__law_tree : Binds K T.d__law_tree ["left", "ins", "deep"] [] := T.g__law_tree.b
theorem TX.m__law_tree : mg "_law_tree" = some (.ref T.f__law_tree) := T.g__law_tree.m
noncomputable abbrev TX.f__law_written : Addr := T.g__law_written.f
noncomputable abbrev TX.d__law_written : FuncData := T.g__law_written.d
theorem TX.F__law_written : Fun K "_law_written" "_law_written" s__law_written T.f__law_written T.d__law_written := T.g__law_written.F
theorem TX.b__law_written : Binds K T.d__law_written ["book", "pattern", "kids", "spot", "found"] [] := T.g__law_written.b
theorem TX.m__law_written : mg "_law_written" = some (.ref T.f__law_written) := T.g__law_written.m
noncomputable abbrev TX.f__law_other : Addr := T.g__law_other.f
noncomputable abbrev TX.d__law_other : FuncData := T.g__law_other.d
theorem TX.F__law_other : Fun K "_law_other" "_law_other" s__law_other T.f__law_other T.d__law_other := T.g__law_other.F
theorem TX.b__law_other : Binds K T.d__law_other ["e"] [] := T.g__law_other.b
theorem TX.m__law_other : mg "_law_other" = some (.ref T.f__law_other) := T.g__law_other.m
noncomputable abbrev TX.f__law_refused : Addr := T.g__law_refused.f
noncomputable abbrev TX.d__law_refused : FuncData := T.g__law_refused.d
theorem TX.F__law_refused : Fun K "_law_refused" "_law_refused" s__law_refused T.f__law_refused T.d__law_refused := T.g__law_refused.F
theorem TX.b__law_refused : Binds K T.d__law_refused ["book", "tree", "place"] [] := T.g__law_refused.b
theorem TX.m__law_refused : mg "_law_refused" = some (.ref T.f__law_refused) := T.g__law_refused.m
noncomputable abbrev TX.f__law_double : Addr := T.g__law_double.f
noncomputable abbrev TX.d__law_double : FuncData := T.g__law_double.d
theorem TX.F__law_double : Fun K "_law_double" "_law_double" s__law_double T.f__law_double T.d__law_double := T.g__law_double.F
theorem TX.b__law_double : Binds K T.d__law_double ["names", "under"] [] := T.g__law_double.b
theorem TX.m__law_double : mg "_law_double" = some (.ref T.f__law_double) := T.g__law_double.m
noncomputable abbrev TX.f__law_chain : Addr := T.g__law_chain.f
noncomputable abbrev TX.d__law_chain : FuncData := T.g__law_chain.d
theorem TX.F__law_chain : Fun K "_law_chain" "_law_chain" s__law_chain T.f__law_chain T.d__law_chain := T.g__law_chain.F
theorem TX.b__law_chain : Binds K T.d__law_chain ["names", "many"] [] := T.g__law_chain.b
theorem TX.m__law_chain : mg "_law_chain" = some (.ref T.f__law_chain) := T.g__law_chain.m
noncomputable abbrev TX.f__law_bits : Addr := T.g__law_bits.f
noncomputable abbrev TX.d__law_bits : FuncData := T.g__law_bits.d
theorem TX.F__law_bits : Fun K "_law_bits" "_law_bits" s__law_bits T.f__law_bits T.d__law_bits := T.g__law_bits.F
theorem TX.b__law_bits : Binds K T.d__law_bits ["cell", "many"] [] := T.g__law_bits.b
theorem TX.m__law_bits : mg "_law_bits" = some (.ref T.f__law_bits) := T.g__law_bits.m
noncomputable abbrev TX.f__law_far : Addr := T.g__law_far.f
noncomputable abbrev TX.d__law_far : FuncData := T.g__law_far.d
theorem TX.F__law_far : Fun K "_law_far" "_law_far" s__law_far T.f__law_far T.d__law_far := T.g__law_far.F
theorem TX.b__law_far : Binds K T.d__law_far ["script"] [] := T.g__law_far.b
theorem TX.m__law_far : mg "_law_far" = some (.ref T.f__law_far) := T.g__law_far.m
noncomputable abbrev TX.f_law : Addr := T.g_law.f
noncomputable abbrev TX.d_law : FuncData := T.g_law.d
theorem TX.F_law : Fun K "law" "law" s_law T.f_law T.d_law := T.g_law.F
end
theorem TX.X_NoPlace {K : PySem.W.Frag} {mg : Str → Option Value} (T : TX K mg) : ExcK K T.e_NoPlace := ⟨T.xe_NoPlace, T.xg_NoPlace, T.xh_NoPlace, T.xc_NoPlace, T.xo_NoPlace, T.xb_NoPlace⟩
theorem nd_0 : ([Str.ofString "kind"] : List Str).Nodup := by decide +kernel
theorem nd_1 : ([Str.ofString "k", Str.ofString "cells"] : List Str).Nodup := by decide +kernel
theorem nd_2 : ([Str.ofString "kind", Str.ofString "left"] : List Str).Nodup := by decide +kernel
theorem nd_3 : ([Str.ofString "place", Str.ofString "k"] : List Str).Nodup := by decide +kernel
theorem nd_4 : ([Str.ofString "kind", Str.ofString "deep", Str.ofString "left"] : List Str).Nodup := by decide +kernel
theorem nd_5 : ([Str.ofString "k", Str.ofString "tree", Str.ofString "where"] : List Str).Nodup := by decide +kernel
inductive Isp_kids_of (vs : List V) (H : Hp) (Q : VK) (_E : XK) : Prop
  | mk (a : Addr) (t : Th) (zz0 : vs = [.ref a]) (zz1 : At H t a) (zz2 : ∀ (r : Addr) (as : List Addr) (H' : Hp), L2.Same H H' → H' r = some (.tup (as.map V.ref)) → Ats H' t.kids as → Q (.ref r) H') : Isp_kids_of  vs H Q _E
noncomputable def sp_kids_of : Sp := Isp_kids_of 
section
variable {P : Program} {w : World} {K : PySem.W.Frag} {mg : Str → Option Value} {base : Heap} (T : TX K mg)
theorem ok_kids_of : FnOk P w K mg base CX0 1 T.f_kids_of T.d_kids_of ["thing"] sp_kids_of := by
  refine T.F_kids_of.ok sc_kids_of (fun vs H Q E h => ?_) (fun cdv A outer s H vs Q E hr h => ?_)
  · obtain ⟨a, t, rfl, _⟩ := h
    rfl
  obtain ⟨a, t, rfl, hA, k⟩ := h
  refine ⟨_, (pss_cons (ps_if (pt_cmpR op_eq (pe_ix ix_tup (pv 0) pe_int (fun _ _ => rfl)) (pe_glob (v := .str (Str.ofString "?")) rfl T.c_CALL_SIGN.choose_spec ⟨_, rfl⟩) (nomark _)) (pss_one (ps_ret (pe_tup pa_nil))) pss_nil)
      (pss_one (ps_ret (pe_slice sl_tup (pv 0) (po_some pe_int) po_none)))), ?_⟩
  try dsimp only [cxK, cxKn]
  cases t with
  | knot n ks =>
    rw [At] at hA
    refine hid fun ZZ kZ => ?_
    obtain ⟨hn, as, h1, h2⟩ := hA
    refine kZ ?_
    refine ⟨_, rfl, a, _, 0, .str n, rfl, rfl, SqT.of h1, at0, rfl, _, rfl, ?_⟩
    refine ite2 (fun c => absurd (of_decide_eq_true c) (fun z => hn (V.str.inj z))) (fun _ => ?_)
    refine ⟨_, rfl, 1, rfl, a, _, rfl, SqT.of h1, ?_, fun r hr => ?_⟩
    · intro z
      have := z.1
      simp [HT.sIx] at this
    · rw [cut_tail]
      exact k r as _ (same_new hr _) upd_same (h2.mono (kt_new hr))
  | call sn kn =>
    rw [At] at hA
    refine ⟨_, rfl, a, _, 0, .str q, rfl, rfl, SqT.of hA, at0, rfl, _, rfl, ?_⟩
    refine ite2 (fun _ => ?_) (fun c => absurd (decide_eq_true rfl) c)
    refine ⟨by show 0 ≤ sizeLine; decide, fun r hr => ?_⟩
    exact k r [] _ (same_new hr _) upd_same .nil
end
inductive Isp_is_number (vs : List V) (H : Hp) (Q : VK) (_E : XK) : Prop
  | mk (i : Int) (zz0 : vs = [.int i]) (zz1 : Q (.bl true) H) : Isp_is_number  vs H Q _E
noncomputable def sp_is_number : Sp := Isp_is_number 
section
variable {P : Program} {w : World} {K : PySem.W.Frag} {mg : Str → Option Value} {base : Heap} (T : TX K mg)
theorem ok_is_number : FnOk P w K mg base CX0 1 T.f_is_number T.d_is_number ["thing"] sp_is_number := by
  refine T.F_is_number.ok sc_is_number (fun vs H Q E h => ?_) (fun cdv A outer s H vs Q E hr h => ?_)
  · obtain ⟨i, rfl, _⟩ := h
    rfl
  obtain ⟨i, rfl, k⟩ := h
  refine ⟨_, (pss_one (ps_ret (pe_and (pe_callB (call_isiX (T := "int")) rfl T.n_isinstance PyProof.Rows.boot_isinstance (pa_cons (pv 0) (pa_cons (pe_bltn (v := .ty "int") rfl T.n_int PyProof.Rows.boot_int rfl) pa_nil))) (pe_one (pe_not (pe_callB (call_isiX (T := "bool")) rfl T.n_isinstance PyProof.Rows.boot_isinstance (pa_cons (pv 0) (pa_cons (pe_bltn (v := .ty "bool") rfl T.n_bool PyProof.Rows.boot_bool rfl) pa_nil)))))))), ?_⟩
  try dsimp only [cxK, cxKn]
  refine ⟨_, rfl, _, _, _, rfl, .int i, isi_ii, _, rfl, ?_⟩
  refine iteT ?_
  exact ⟨_, rfl, _, _, _, rfl, .int i, isi_ib, _, rfl, k⟩
end
inductive Isp_is_below (vs : List V) (H : Hp) (Q : VK) (_E : XK) : Prop
  | mk (i b : Int) (zz0 : vs = [.int i, .int b]) (zz1 : Q (.bl (decide (0 ≤ i ∧ i < b))) H) : Isp_is_below  vs H Q _E
noncomputable def sp_is_below : Sp := Isp_is_below 
section
variable {P : Program} {w : World} {K : PySem.W.Frag} {mg : Str → Option Value} {base : Heap} (T : TX K mg)
theorem ok_is_below : FnOk P w K mg base CX0 2 T.f_is_below T.d_is_below ["number", "bound"] sp_is_below := by
  refine T.F_is_below.ok sc_is_below (fun vs H Q E h => ?_) (fun cdv A outer s H vs Q E hr h => ?_)
  · obtain ⟨i, b, rfl, _⟩ := h
    rfl
  obtain ⟨i, b, rfl, k⟩ := h
  refine ⟨_, (pss_one (ps_ret (pe_and (pe_call (ok_is_number T) (hr.mono (by first | decide | (first | lia | omega))) rfl T.m_is_number T.F_is_number.kp T.b_is_number .nil pass0 (pa_cons (pv 0) pa_nil)) (pe_one (pe_chain op_le op_lt pe_int (pv 0) (pv 1)))))), ?_⟩
  try dsimp only [cxK, cxKn]
  refine ⟨_, rfl, i, rfl, _, rfl, ?_⟩
  refine iteT ?_
  refine ⟨_, rfl, _, _, rfl, rfl, _, rfl, ?_⟩
  refine ite2 (fun c => ?_) (fun c => ?_)
  · have c' : 0 ≤ i := of_decide_eq_true c
    refine ⟨_, rfl, _, _, rfl, rfl, ?_⟩
    have e : decide (0 ≤ i ∧ i < b) = decide (i < b) := by simp [c']
    rw [e] at k
    exact k
  · have c' : ¬ 0 ≤ i := fun z => c (decide_eq_true z)
    have e : decide (0 ≤ i ∧ i < b) = false := by simp [c']
    rw [e] at k
    exact k
end
section
variable {P : Program} {w : World} {K : PySem.W.Frag} {mg : Str → Option Value} {base : Heap} (T : TX K mg)
end
inductive Isp_is_call (vs : List V) (H : Hp) (Q : VK) (_E : XK) : Prop
  | mk (a : Addr) (t : Th) (zz0 : vs = [.ref a]) (zz1 : At H t a) (zz2 : Q (.bl t.isCall) H) : Isp_is_call  vs H Q _E
noncomputable def sp_is_call : Sp := Isp_is_call 
section
variable {P : Program} {w : World} {K : PySem.W.Frag} {mg : Str → Option Value} {base : Heap} (T : TX K mg)
theorem ok_is_call : FnOk P w K mg base CX0 1 T.f_is_call T.d_is_call ["thing"] sp_is_call := by
  refine T.F_is_call.ok sc_is_call (fun vs H Q E h => ?_) (fun cdv A outer s H vs Q E hr h => ?_)
  · obtain ⟨a, t, rfl, _⟩ := h
    rfl
  obtain ⟨a, t, rfl, hA, k⟩ := h
  refine ⟨_, (pss_one (ps_ret (pe_cmpR op_eq (pe_ix ix_tup (pv 0) pe_int (fun _ _ => rfl)) (pe_glob (v := .str (Str.ofString "?")) rfl T.c_CALL_SIGN.choose_spec ⟨_, rfl⟩) (nomark _)))), ?_⟩
  try dsimp only [cxK, cxKn]
  cases t with
  | knot n ks =>
    rw [At] at hA
    refine hid fun ZZ kZ => ?_
    obtain ⟨hn, as, h1, h2⟩ := hA
    refine kZ ?_
    refine ⟨_, rfl, a, _, 0, .str n, rfl, rfl, SqT.of h1, at0, rfl, ?_⟩
    have e : decide (V.str n = V.str (Str.ofString "?")) = false := decide_eq_false (fun z => hn (V.str.inj z))
    rw [e]
    exact k
  | call sn kn =>
    rw [At] at hA
    refine ⟨_, rfl, a, _, 0, .str q, rfl, rfl, SqT.of hA, at0, rfl, ?_⟩
    have e : decide (V.str q = V.str (Str.ofString "?")) = true := decide_eq_true rfl
    rw [e]
    exact k
end
inductive Isp_called_by (vs : List V) (H : Hp) (Q : VK) (_E : XK) : Prop
  | mk (a : Addr) (sn kn : Int) (zz0 : vs = [.ref a]) (zz1 : At H (.call sn kn) a) (zz2 : ∀ p, H p = none → Q (.ref p) (upd H p (.tup [.int sn, .int kn]))) : Isp_called_by  vs H Q _E
noncomputable def sp_called_by : Sp := Isp_called_by 
section
variable {P : Program} {w : World} {K : PySem.W.Frag} {mg : Str → Option Value} {base : Heap} (T : TX K mg)
theorem ok_called_by : FnOk P w K mg base CX0 1 T.f_called_by T.d_called_by ["call"] sp_called_by := by
  refine T.F_called_by.ok sc_called_by (fun vs H Q E h => ?_) (fun cdv A outer s H vs Q E hr h => ?_)
  · obtain ⟨a, sn, kn, rfl, _⟩ := h
    rfl
  obtain ⟨a, sn, kn, rfl, hA, k⟩ := h
  refine ⟨_, (pss_one (ps_ret (pe_tup (pa_cons (pe_ix ix_tup (pv 0) pe_int (fun _ _ => rfl)) (pa_cons (pe_ix ix_tup (pv 0) pe_int (fun _ _ => rfl)) pa_nil))))), ?_⟩
  try dsimp only [cxK, cxKn]
  rw [At] at hA
  exact ⟨_, rfl, a, _, 1, _, rfl, rfl, SqT.of hA, at1, _, rfl, a, _, 2, _, rfl, rfl, SqT.of hA, at2, line_le (by show 2 ≤ 1000000; decide), fun p hp => k p hp⟩
end
inductive Isp_ins_of (vs : List V) (H : Hp) (Q : VK) (_E : XK) : Prop
  | mk (b : Addr) (v1 v2 v3 v4 : V) (zz0 : vs = [.ref b]) (zz1 : H b = some (.tup [v1, v2, v3, v4])) (zz2 : Q v1 H) : Isp_ins_of  vs H Q _E
noncomputable def sp_ins_of : Sp := Isp_ins_of 
inductive Isp_rules_of (vs : List V) (H : Hp) (Q : VK) (_E : XK) : Prop
  | mk (b : Addr) (v1 v2 v3 v4 : V) (zz0 : vs = [.ref b]) (zz1 : H b = some (.tup [v1, v2, v3, v4])) (zz2 : Q v4 H) : Isp_rules_of  vs H Q _E
noncomputable def sp_rules_of : Sp := Isp_rules_of 
section
variable {P : Program} {w : World} {K : PySem.W.Frag} {mg : Str → Option Value} {base : Heap} (T : TX K mg)
theorem ok_ins_of : FnOk P w K mg base CX0 1 T.f_ins_of T.d_ins_of ["book"] sp_ins_of := by
  refine T.F_ins_of.ok sc_ins_of (fun vs H Q E h => ?_) (fun cdv A outer s H vs Q E hr h => ?_)
  · obtain ⟨b, v1, v2, v3, v4, rfl, _⟩ := h
    rfl
  obtain ⟨b, v1, v2, v3, v4, rfl, e, q⟩ := h
  refine ⟨_, (pss_one (ps_ret (pe_ix ix_tup (pv 0) pe_int (fun _ _ => rfl)))), ?_⟩
  try dsimp only [cxK, cxKn]
  exact ⟨_, rfl, b, _, 0, v1, rfl, rfl, SqT.of e, at0, q⟩
theorem ok_rules_of : FnOk P w K mg base CX0 1 T.f_rules_of T.d_rules_of ["book"] sp_rules_of := by
  refine T.F_rules_of.ok sc_rules_of (fun vs H Q E h => ?_) (fun cdv A outer s H vs Q E hr h => ?_)
  · obtain ⟨b, v1, v2, v3, v4, rfl, _⟩ := h
    rfl
  obtain ⟨b, v1, v2, v3, v4, rfl, e, q⟩ := h
  refine ⟨_, (pss_one (ps_ret (pe_ix ix_tup (pv 0) pe_int (fun _ _ => rfl)))), ?_⟩
  try dsimp only [cxK, cxKn]
  exact ⟨_, rfl, b, _, 3, v4, rfl, rfl, SqT.of e, atI_nat (j := 3) rfl, q⟩
end
inductive Isp_pattern_of (vs : List V) (H : Hp) (Q : VK) (_E : XK) : Prop
  | mk (b ia ra rowA ta : Addr) (v2 v3 : V) (ias ras tas : List Addr) (ins : List (Str × Int)) (st : Int) (j : Nat) (k : Str × Int) (zz0 : vs = [.ref b, .int st, .str k.1]) (zz1 : H b = some (.tup [.ref ia, v2, v3, .ref ra])) (zz2 : H ia = some (.tup (ias.map V.ref))) (zz3 : KsAt H ins ias) (zz4 : GoodN ins) (zz5 : H ra = some (.tup (ras.map V.ref))) (zz6 : 0 ≤ st) (zz7 : ras[st.toNat]? = some rowA) (zz8 : H rowA = some (.tup (tas.map V.ref))) (zz9 : ins[j]? = some k) (zz10 : tas[j]? = some ta) (zz11 : ∀ H', L2.Same H H' → Q (.ref ta) H') : Isp_pattern_of  vs H Q _E
noncomputable def sp_pattern_of : Sp := Isp_pattern_of 
section
variable {P : Program} {w : World} {K : PySem.W.Frag} {mg : Str → Option Value} {base : Heap} (T : TX K mg)
theorem ok_pattern_of : FnOk P w K mg base CX0 2 T.f_pattern_of T.d_pattern_of ["book", "state", "name"] sp_pattern_of := by
  refine T.F_pattern_of.ok sc_pattern_of (fun vs H Q E h => ?_) (fun cdv A outer s H vs Q E hr h => ?_)
  · obtain ⟨b, ia, ra, rowA, ta, v2, v3, ias, ras, tas, ins, st, j, k, rfl, _⟩ := h
    rfl
  obtain ⟨b, ia, ra, rowA, ta, v2, v3, ias, ras, tas, ins, st, j, k, rfl, eb, eia, hins, g, era, hst, hrow, erow, hj, hta, q⟩ := h
  refine ⟨_, (pss_cons (ps_setC (i := 3) (N := [Str.ofString "kind"]) (js := [none]) (g := (gName 0)) (tt := tNoTest) (te := (tOp (rIxT K) (tVar 0) (tC (.int 0)))) sc_pattern_of.nd rfl (Or.inl rfl) rfl (cs_mk rfl (by decide +kernel) (by decide +kernel) rfl rfl rfl) (pi_tup (pe_call (ok_ins_of T) (hr.mono (by first | decide | (first | lia | omega))) rfl T.m_ins_of T.F_ins_of.kp T.b_ins_of .nil pass0 (pa_cons (pv 0) pa_nil))) (fun _ _ _ _ _ _ => (pg_name (i := 0) nd_0 rfl (Or.inl rfl))) (gk_name rfl) (fun _ _ _ _ _ _ => pts_nil) (fun _ _ _ _ _ _ => (pe_ix ix_tup (pv 0) pe_int (fun _ _ => rfl))))
      (pss_one (ps_ret (pe_ix ix_tup (pe_ix ix_tup (pe_call (ok_rules_of T) (hr.mono (by first | decide | (first | lia | omega))) rfl T.m_rules_of T.F_rules_of.kp T.b_rules_of .nil pass0 (pa_cons (pv 0) pa_nil)) (pv 1) (fun _ _ => rfl)) (pe_bm PySem.F.plainAttrs_list PySem.F.slot_list_index PySem.F.type_list_index mt_lindex (pv 3) (pa_cons (pv 2) pa_nil)) (fun _ _ => rfl))))), ?_⟩
  try dsimp only [cxK, cxKn]
  have hil : ins.length = ias.length := Paired.length hins
  have hi8 := g.le
  refine ⟨_, rfl, b, _, _, _, _, rfl, eb, ia, rfl, ⟨_, SqT.of eia⟩, comp_sm_tup ins (fun k => V.str k.1) (SqT.of eia) (by rw [List.length_map]; exact hil) (by rw [List.length_map]; (first | lia | omega)) (fun i x z H2 R W' hx hz s2 hR => ?_) (fun D H1 hD s1 e1 => ?_)⟩
  · obtain ⟨ka, rfl, hka⟩ := get_ref hx
    obtain ⟨z', hz', ez⟩ := P2.get' hins hka
    rw [hz] at hz'
    cases hz'
    exact ⟨_, rfl, ka, _, 0, .str z.1, rfl, rfl, SqT.of (s2 _ _ ez), at0, hR H2 (.refl _)⟩
  have en : ins.map (fun k => V.str k.1) = (ins.map (·.1)).map V.str := by rw [List.map_map]; rfl
  rw [en] at e1
  refine ⟨_, rfl, b, _, _, _, _, rfl, s1 _ _ eb, _, rfl, ra, _, st, .ref rowA, rfl, rfl, SqT.of (s1 _ _ era), at_nonneg hst (by rw [List.getElem?_map, hrow]; rfl), _, rfl, .inl ⟨rfl, _, SqL.of e1⟩, _, rfl, ?_⟩
  refine ⟨D, ins.map (·.1), k.1, j, rfl, rfl, SqL.of e1, by rw [List.getElem?_map, hj]; rfl, fun i hi hz => ?_, by rw [List.length_map]; (first | lia | omega), ?_⟩
  · rw [List.getElem?_map] at hz
    obtain ⟨k', hk', e⟩ := Option.map_eq_some_iff.mp hz
    have := g.nd i j k' k hk' hj e
    (first | lia | omega)
  · exact ⟨rowA, _, (j : Int), .ref ta, rfl, rfl, SqT.of (s1 _ _ erow), atI_nat (by rw [List.getElem?_map, hta]; rfl), q H1 s1⟩
end
inductive Isp_head_of (vs : List V) (H : Hp) (Q : VK) (_E : XK) : Prop
  | mk (b : Addr) (v1 v2 v3 v4 : V) (zz0 : vs = [.ref b]) (zz1 : H b = some (.tup [v1, v2, v3, v4])) (zz2 : Q v3 H) : Isp_head_of  vs H Q _E
noncomputable def sp_head_of : Sp := Isp_head_of 
noncomputable def sp_above : Sp := fun vs H Q _ => ∃ v : V, vs = [v] ∧ ∀ p, H p = none → Q (.ref p) (upd H p (.tup [.str (Str.ofString ""), v]))
section
variable {P : Program} {w : World} {K : PySem.W.Frag} {mg : Str → Option Value} {base : Heap} (T : TX K mg)
theorem ok_head_of : FnOk P w K mg base CX0 1 T.f_head_of T.d_head_of ["book"] sp_head_of := by
  refine T.F_head_of.ok sc_head_of (fun vs H Q E h => ?_) (fun cdv A outer s H vs Q E hr h => ?_)
  · obtain ⟨b, v1, v2, v3, v4, rfl, _⟩ := h
    rfl
  obtain ⟨b, v1, v2, v3, v4, rfl, e, q⟩ := h
  refine ⟨_, (pss_one (ps_ret (pe_ix ix_tup (pv 0) pe_int (fun _ _ => rfl)))), ?_⟩
  try dsimp only [cxK, cxKn]
  exact ⟨_, rfl, b, _, 2, v3, rfl, rfl, SqT.of e, atI_nat (j := 2) rfl, q⟩
theorem ok_above : FnOk P w K mg base CX0 1 T.f_above T.d_above ["tree"] sp_above := by
  refine T.F_above.ok sc_above (fun vs H Q E h => ?_) (fun cdv A outer s H vs Q E hr h => ?_)
  · obtain ⟨v, rfl, _⟩ := h
    rfl
  obtain ⟨v, rfl, q⟩ := h
  refine ⟨_, (pss_one (ps_ret (pe_tup (pa_cons pe_str (pa_cons (pv 0) pa_nil))))), ?_⟩
  try dsimp only [cxK, cxKn]
  exact ⟨_, rfl, line_le (by show 2 ≤ 1000000; decide), fun p hp => q p hp⟩
end
inductive Isp_led_on (vs : List V) (H : Hp) (Q : VK) (_E : XK) : Prop
  | mk (b ca ka : Addr) (ins outs : List (Str × Int)) (head : Th) (rows : List (List Th)) (s k : Int) (n : Str) (ks : List Th) (p h : Th) (zz0 : vs = [.ref b, .ref ca, .ref ka]) (zz1 : Bk H ins outs head rows b) (zz2 : GoodN ins) (zz3 : At H (.call s k) ca) (zz4 : At H (.knot n ks) ka) (zz5 : Step ins rows s k ks p h) (zz6 : ∀ (r pa ha : Addr) (H' : Hp), L2.Same H H' → H' r = some (.tup [.ref pa, .ref ha]) → At H' p pa → At H' h ha → Q (.ref r) H') : Isp_led_on  vs H Q _E
noncomputable def sp_led_on : Sp := Isp_led_on 
section
variable {P : Program} {w : World} {K : PySem.W.Frag} {mg : Str → Option Value} {base : Heap} (T : TX K mg)
theorem ok_led_on : FnOk P w K mg base CX0 3 T.f_led_on T.d_led_on ["book", "call", "knot"] sp_led_on := by
  refine T.F_led_on.ok sc_led_on (fun vs H Q E h => ?_) (fun cdv A outer s H vs Q E hr h => ?_)
  · obtain ⟨b, ca, ka, ins, outs, head, rows, s, k, n, ks, p, h, rfl, _⟩ := h
    rfl
  obtain ⟨b, ca, ka, ins, outs, head, rows, s, k, n, ks, p, h, rfl, hb, g, hc, hk, st, q⟩ := h
  refine ⟨_, (pss_cons (ps_asg (pe_call (ok_called_by T) (hr.mono (by first | decide | (first | lia | omega))) rfl T.m_called_by T.F_called_by.kp T.b_called_by .nil pass0 (pa_cons (pv 1) pa_nil)) (pg_tup rfl (pgs_cons (pg_name (i := 3) sc_led_on.nd rfl (Or.inl rfl)) (pgs_cons (pg_name (i := 4) sc_led_on.nd rfl (Or.inl rfl)) pgs_nil))))
      (pss_cons (ps_set (i := 5) sc_led_on.nd rfl (Or.inl rfl) (pe_ix ix_tup (pv 2) (pe_op op_add (pv 4) pe_int) (fun _ _ => rfl)))
      (pss_one (ps_ret (pe_tup (pa_cons (pe_call (ok_pattern_of T) (hr.mono (by first | decide | (first | lia | omega))) rfl T.m_pattern_of T.F_pattern_of.kp T.b_pattern_of .nil pass0 (pa_cons (pv 0) (pa_cons (pv 3) (pa_cons (pe_ix ix_tup (pv 5) pe_int (fun _ _ => rfl)) pa_nil)))) (pa_cons (pv 5) pa_nil))))))), ?_⟩
  try dsimp only [cxK, cxKn]
  refine hid fun ZZ kZ => ?_
  obtain ⟨s0, k0, hh, m, hs, c, j, row, rfl, hj, hrow, hp⟩ := st
  refine kZ ?_
  refine ⟨_, rfl, ca, s, k, rfl, hc, fun pr hpr => ?_⟩
  have s1 : L2.Same H (upd H pr (.tup [.int s, .int k])) := same_new hpr _
  have e1 : (upd H pr (.tup [.int s, .int k])) pr = some (.tup [.int s, .int k]) := upd_same
  generalize (upd H pr (.tup [.int s, .int k])) = H1 at s1 e1 ⊢
  refine ⟨pr, _, rfl, SqT.of e1, rfl, _, _, rfl, _, _, rfl, rfl, ?_⟩
  have hk1 := hk.mono (Same.kt s1)
  rw [At] at hk1
  refine hid fun ZZ kZ => ?_
  obtain ⟨hnq, as, eka, hats⟩ := hk1
  obtain ⟨ha, hha, hat⟩ : ∃ a, as[k.toNat]? = some a ∧ At H1 (.knot m hs) a := by
    have hl := hats.length
    have hkl := (List.getElem?_eq_some_iff.mp hh).1
    obtain ⟨a, ha⟩ : ∃ a, as[k.toNat]? = some a := ⟨_, List.getElem?_eq_getElem (by (first | lia | omega))⟩
    obtain ⟨t, ht, hat⟩ := hats.get ha
    rw [hh] at ht
    cases ht
    exact ⟨a, ha, hat⟩
  refine kZ ?_
  have hidx : atI (V.str n :: as.map V.ref) (k + 1) = some (.ref ha) := at_nonneg (by (first | lia | omega)) (by rw [show (k + 1).toNat = k.toNat + 1 by (first | lia | omega), List.getElem?_cons_succ, List.getElem?_map, hha]; rfl)
  refine ⟨_, rfl, _, rfl, _, _, rfl, rfl, ka, _, _, .ref ha, rfl, rfl, SqT.of eka, hidx, ?_⟩
  have hat' := hat
  rw [At] at hat'
  refine hid fun ZZ kZ => ?_
  obtain ⟨hmq, bs, eha, hbs⟩ := hat'
  obtain ⟨ia, oa, hda, ra, ias, oas, ras, bk⟩ := hb.mono (Same.kt s1)
  obtain ⟨rowA, hrowA, tas, erow, htas⟩ := P2.get bk.rw hrow
  obtain ⟨ta, hta, htat⟩ : ∃ a, tas[j]? = some a ∧ At H1 p a := by
    have hl := htas.length
    have hkl := (List.getElem?_eq_some_iff.mp hp).1
    obtain ⟨a, ha⟩ : ∃ a, tas[j]? = some a := ⟨_, List.getElem?_eq_getElem (by (first | lia | omega))⟩
    obtain ⟨t, ht, hat⟩ := htas.get ha
    rw [hp] at ht
    cases ht
    exact ⟨a, ha, hat⟩
  refine kZ ?_
  refine ⟨_, rfl, _, rfl, _, rfl, ha, _, 0, .str m, rfl, rfl, SqT.of eha, at0, ?_⟩
  refine ⟨b, ia, ra, rowA, ta, _, _, ias, ras, tas, ins, s, j, (m, c), rfl, bk.bk, bk.inE, bk.inK, g, bk.rl, s0, hrowA, erow, hj, hta, fun H2 s2 => ?_⟩
  refine ⟨_, rfl, line_le (by show 2 ≤ 1000000; decide), fun r hr' => ?_⟩
  have s3 := s2.trans (same_new hr' (.tup [.ref ta, .ref ha]))
  exact q r ta ha _ (s1.trans s3) upd_same (htat.mono (Same.kt s3)) (hat.mono (Same.kt s3))
end
inductive Isp_written (vs : List V) (H : Hp) (Q : VK) (_E : XK) : Prop
  | mk (b pa ka oa wa : Addr) (ins outs : List (Str × Int)) (head : Th) (rows : List (List Th)) (p k : Th) (s : Int) (w r : List Int) (o : Option (Int × List Int)) (zz0 : vs = [.ref b, .ref pa, .ref ka, .ref oa]) (zz1 : Bk H ins outs head rows b) (zz2 : GoodN ins) (zz3 : At H p pa) (zz4 : At H k ka) (zz5 : H oa = some (.tup [.int s, .ref wa])) (zz6 : H wa = some (.tup (w.map V.int))) (zz7 : w.length + k.tall ≤ 100000) (zz8 : OP ins rows p k s w r o) (zz9 : ∀ (res pa ka oa wa : Addr) (n : Str) (ts : List Th) (k' : Th) (s' : Int) (w' : List Int) (H' : Hp), L2.Same H H' → H' res = some (.tup [.ref pa, .ref ka, .ref oa]) → At H' (.knot n ts) pa → At H' k' ka → H' oa = some (.tup [.int s', .ref wa]) → H' wa = some (.tup (w'.map V.int)) → OP ins rows (.knot n ts) k' s' w' r o → w'.length + k'.tall ≤ w.length + k.tall → Q (.ref res) H') : Isp_written  vs H Q _E
noncomputable def sp_written : Sp := Isp_written 
section
variable {P : Program} {w : World} {K : PySem.W.Frag} {mg : Str → Option Value} {base : Heap} (T : TX K mg)
set_option maxHeartbeats 1000000 in
theorem ok_written : FnOk P w K mg base CX0 4 T.f_written T.d_written ["book", "part", "knot", "origin"] sp_written := by
  refine T.F_written.ok sc_written (fun vs H Q E h => ?_) (fun cdv A outer s H vs Q E hr h => ?_)
  · obtain ⟨b, pa, ka, oa, wa, ins, outs, head, rows, p, k, s, w, r, o, rfl, _⟩ := h
    rfl
  obtain ⟨b, pa, ka, oa, wa, ins, outs, head, rows, p, k, s, w, r, o, rfl, hb, g, hp, hk, eo, ew, hwl, hop, q⟩ := h
  refine ⟨_, (pss_cons (ps_while PassesOwn.never (pt_truth (pe_call (ok_is_call T) (hr.mono (by first | decide | (first | lia | omega))) rfl T.m_is_call T.F_is_call.kp T.b_is_call .nil pass0 (pa_cons (pv 1) pa_nil)) (fun _ => rfl)) (pss_cons (ps_asg (pe_call (ok_called_by T) (hr.mono (by first | decide | (first | lia | omega))) rfl T.m_called_by T.F_called_by.kp T.b_called_by .nil pass0 (pa_cons (pv 1) pa_nil)) (pg_tup rfl (pgs_cons (pg_name (i := 4) sc_written.nd rfl (Or.inl rfl)) (pgs_cons (pg_name (i := 5) sc_written.nd rfl (Or.inl rfl)) pgs_nil))))
      (pss_cons (ps_set (i := 3) sc_written.nd rfl (Or.inl rfl) (pe_tup (pa_cons (pv 4) (pa_cons (pe_op op_catA (pe_ix ix_tup (pv 3) pe_int (fun _ _ => rfl)) (pe_tup (pa_cons (pv 5) pa_nil))) pa_nil))))
      (pss_one (ps_asg (pe_call (ok_led_on T) (hr.mono (by first | decide | (first | lia | omega))) rfl T.m_led_on T.F_led_on.kp T.b_led_on .nil pass0 (pa_cons (pv 0) (pa_cons (pv 1) (pa_cons (pv 2) pa_nil)))) (pg_tup rfl (pgs_cons (pg_name (i := 1) sc_written.nd rfl (Or.inl rfl)) (pgs_cons (pg_name (i := 2) sc_written.nd rfl (Or.inl rfl)) pgs_nil))))))))
      (pss_one (ps_ret (pe_tup (pa_cons (pv 1) (pa_cons (pv 2) (pa_cons (pv 3) pa_nil))))))), ?_⟩
  try dsimp only [cxK, cxKn]
  refine ⟨fun m σ H2 => Ex10 fun (pa ka oa wa : Addr) (p k' : Th) (s' : Int) (w' : List Int) (c4 c5 : Option V) => An9 (σ = [some (.ref b), some (.ref pa), some (.ref ka), some (.ref oa), c4, c5]) (L2.Same H H2) (At H2 p pa) (At H2 k' ka) (H2 oa = some (.tup [.int s', .ref wa])) (H2 wa = some (.tup (w'.map V.int))) (OP ins rows p k' s' w' r o) (w'.length + k'.tall ≤ w.length + k.tall) (m = k'.tall), ⟨_, pa, ka, oa, wa, p, k, s, w, none, none, rfl, .refl _, hp, hk, eo, ew, hop, Nat.le_refl _, rfl⟩, ?_⟩
  rintro m σ H2 ⟨pa, ka, oa, wa, p, k', s', w', c4, c5, rfl, s2, hp, hk, eo, ew, hop, hle, rfl⟩
  refine ⟨_, rfl, pa, p, rfl, hp, _, rfl, ?_⟩
  cases p with
  | knot n ts =>
    refine iteF ?_
    refine ⟨_, rfl, _, rfl, _, rfl, line_le (by show 3 ≤ 1000000; decide), fun r' hr' => ?_⟩
    have s3 := same_new hr' (.tup [.ref pa, .ref ka, .ref oa])
    exact q r' pa ka oa wa n ts k' s' w' _ (s2.trans s3) upd_same (hp.mono (Same.kt s3)) (hk.mono (Same.kt s3)) (s3 _ _ eo) (s3 _ _ ew) hop hle
  | call sc c =>
    cases hop with
    | @call _ _ n ks p1 h1 _ _ _ _ st hop1 =>
    refine iteT ?_
    refine ⟨fun σ' H' => ∃ m', m' < (Th.knot n ks).tall ∧ Ex10 fun (pa ka oa wa : Addr) (p k' : Th) (s' : Int) (w' : List Int) (c4 c5 : Option V) => An9 (σ' = [some (.ref b), some (.ref pa), some (.ref ka), some (.ref oa), c4, c5]) (L2.Same H H') (At H' p pa) (At H' k' ka) (H' oa = some (.tup [.int s', .ref wa])) (H' wa = some (.tup (w'.map V.int))) (OP ins rows p k' s' w' r o) (w'.length + k'.tall ≤ w.length + k.tall) (m' = k'.tall), fun σ' H' h => h, ?_⟩
    refine ⟨_, rfl, pa, sc, c, rfl, hp, fun pr hpr => ?_⟩
    have s3 : L2.Same H2 (upd H2 pr (.tup [.int sc, .int c])) := same_new hpr _
    have e3 : (upd H2 pr (.tup [.int sc, .int c])) pr = some (.tup [.int sc, .int c]) := upd_same
    generalize (upd H2 pr (.tup [.int sc, .int c])) = H3 at s3 e3 ⊢
    refine ⟨pr, _, rfl, SqT.of e3, rfl, _, _, rfl, _, _, rfl, rfl, ?_⟩
    have eo3 := s3 _ _ eo
    have ew3 := s3 _ _ ew
    refine ⟨_, rfl, _, rfl, oa, _, 1, .ref wa, rfl, rfl, SqT.of eo3, at1, _, rfl, line_le (by show 1 ≤ 1000000; decide), fun cp hcp => ?_⟩
    have s4 : L2.Same H3 (upd H3 cp (.tup [.int c])) := same_new hcp _
    have e4 : (upd H3 cp (.tup [.int c])) cp = some (.tup [.int c]) := upd_same
    generalize (upd H3 cp (.tup [.int c])) = H4 at s4 e4 ⊢
    refine catT (s4 _ _ ew3) e4 (by rw [List.length_map]; show w'.length + 1 ≤ 1000000; (first | lia | omega)) fun nw H5 s5 e5 => ?_
    refine ⟨line_le (by show 2 ≤ 1000000; decide), fun no hno => ?_⟩
    have s6 : L2.Same H5 (upd H5 no (.tup [.int sc, .ref nw])) := same_new hno _
    have e6 : (upd H5 no (.tup [.int sc, .ref nw])) no = some (.tup [.int sc, .ref nw]) := upd_same
    dsimp only
    generalize (upd H5 no (.tup [.int sc, .ref nw])) = H6 at s6 e6 ⊢
    have s26 := s3.trans (s4.trans (s5.trans s6))
    have e56 : H6 nw = some (.tup ((w' ++ [c]).map V.int)) := by rw [s6 _ _ e5, List.map_append]; rfl
    refine ⟨_, rfl, _, rfl, _, rfl, b, pa, ka, ins, outs, head, rows, sc, c, n, ks, p1, h1, rfl, hb.mono (Same.kt (s2.trans s26)), g, hp.mono (Same.kt s26), hk.mono (Same.kt s26), st, fun r' pa' ha' H7 s7 er hpa hha => ?_⟩
    have hm : h1 ∈ ks := by
      obtain ⟨_, _, hh, _⟩ := st
      exact List.mem_of_getElem? hh
    have htl := talls_le hm
    rw [Th.tall] at hle
    refine ⟨r', _, rfl, SqT.of er, rfl, _, _, rfl, _, _, rfl, rfl, h1.tall, ?_, pa', ha', no, nw, p1, h1, sc, w' ++ [c], _, _, rfl, s2.trans (s26.trans s7), hpa, hha, s7 _ _ e6, s7 _ _ e56, hop1, ?_, rfl⟩
    · rw [Th.tall]
      (first | lia | omega)
    · rw [List.length_append]
      show w'.length + 1 + h1.tall ≤ _
      (first | lia | omega)
end
inductive Isp_kid_atX (C : Addr) (vs : List V) (H : Hp) (Q : VK) (E : XK) : Prop
  | mk (a : Addr) (t : Th) (i : Int) (zz0 : vs = [.ref a, .int i]) (zz1 : At H t a) (zz2 : (∀ (u : Th) (b : Addr) (H' : Hp), 0 ≤ i → t.kids[i.toNat]? = some u → L2.Same H H' → At H' u b → Q (.ref b) H')) (zz3 : (¬ (0 ≤ i ∧ i < (t.kids.length : Int)) → ∀ H', L2.Same H H' → E (.ref C) none H')) : Isp_kid_atX C vs H Q E
noncomputable def sp_kid_atX (C : Addr) : Sp := Isp_kid_atX C
section
variable {P : Program} {w : World} {K : PySem.W.Frag} {mg : Str → Option Value} {base : Heap} (T : TX K mg)
theorem ok_kid_atX : FnOk P w K mg base (CX1 P w) 3 T.f_kid_at T.d_kid_at ["thing", "number"] (sp_kid_atX T.e_NoPlace) := by
  refine T.F_kid_at.ok1 sc_kid_at (fun vs H Q E h => ?_) (fun cdv A outer s H vs Q E hr h => ?_)
  · obtain ⟨a, t, i, rfl, _⟩ := h
    rfl
  obtain ⟨a, t, i, rfl, hA, k1, k2⟩ := h
  refine ⟨_, (pss_cons (ps_set (i := 2) sc_kid_at.nd rfl (Or.inl rfl) (pe_call (ok_kids_of T) (hr.mono (by first | decide | (first | lia | omega))) rfl T.m_kids_of T.F_kids_of.kp T.b_kids_of .nil pass0 (pa_cons (pv 0) pa_nil)))
      (pss_cons (ps_if (pt_not (pt_truth (pe_call (ok_is_below T) (hr.mono (by first | decide | (first | lia | omega))) rfl T.m_is_below T.F_is_below.kp T.b_is_below .nil pass0 (pa_cons (pv 1) (pa_cons (pe_callB call_len_seq rfl T.n_len PySem.boot_len (pa_cons (pv 2) pa_nil)) pa_nil))) (fun _ => rfl))) (pss_one (ps_raise T.X_NoPlace T.x_NoPlace pe_str)) pss_nil)
      (pss_one (ps_ret (pe_ix ix_tup (pv 2) (pv 1) (fun _ _ => rfl)))))), ?_⟩
  try dsimp only [cxK, cxKn]
  refine ⟨_, rfl, a, t, rfl, hA, fun r as H1 s1 er hks => ?_⟩
  have hl : as.length = t.kids.length := hks.length
  refine ⟨_, rfl, _, rfl, r, _, rfl, .inr (SqT.of er), i, _, rfl, _, rfl, ?_⟩
  rw [List.length_map, hl]
  refine ite2 (fun c => ?_) (fun c => ?_)
  · refine k2 (fun z => ?_) H1 s1
    rw [decide_eq_true z] at c
    cases c
  · have hz : 0 ≤ i ∧ i < (t.kids.length : Int) := by
      by_cases z : 0 ≤ i ∧ i < (t.kids.length : Int)
      · exact z
      · rw [decide_eq_false z] at c
        exact absurd rfl c
    have hi : i.toNat < t.kids.length := by (first | lia | omega)
    have hu : t.kids[i.toNat]? = some t.kids[i.toNat] := List.getElem?_eq_getElem hi
    obtain ⟨b, hb, hbt⟩ := hks.at hu
    exact ⟨_, rfl, _, rfl, r, _, i, .ref b, rfl, rfl, SqT.of er, at_nonneg hz.1 (by rw [List.getElem?_map, hb]; rfl), k1 _ b H1 hz.1 hu s1 hbt⟩
end
theorem empty_q : Str.ofString "" ≠ q := by decide +kernel
inductive Isp_origin_at (vs : List V) (H : Hp) (Q : VK) (_E : XK) : Prop
  | mk (b ta pa : Addr) (ins outs : List (Str × Int)) (head : Th) (rows : List (List Th)) (t : Th) (place : List Int) (s : Int) (w : List Int) (zz0 : vs = [.ref b, .ref ta, .ref pa]) (zz1 : Bk H ins outs head rows b) (zz2 : GoodN ins) (zz3 : At H t ta) (zz4 : H pa = some (.tup (place.map V.int))) (zz5 : t.tall ≤ 10000) (zz6 : OP ins rows head (.knot (Str.ofString "") [t]) (-1) [] place (some (s, w))) (zz7 : ∀ (ra wa : Addr) (H' : Hp), L2.Same H H' → H' ra = some (.tup [.int s, .ref wa]) → H' wa = some (.tup ((w.drop 1).map V.int)) → Q (.ref ra) H') : Isp_origin_at  vs H Q _E
noncomputable def sp_origin_at : Sp := Isp_origin_at 
inductive Isp_origin_atX (C : Addr) (vs : List V) (H : Hp) (Q : VK) (E : XK) : Prop
  | mk (b ta pa : Addr) (ins outs : List (Str × Int)) (head : Th) (rows : List (List Th)) (t : Th) (place : List Int) (o : Option (Int × List Int)) (zz0 : vs = [.ref b, .ref ta, .ref pa]) (zz1 : Bk H ins outs head rows b) (zz2 : GoodN ins) (zz3 : At H t ta) (zz4 : H pa = some (.tup (place.map V.int))) (zz5 : t.tall ≤ 10000) (zz6 : OP ins rows head (.knot (Str.ofString "") [t]) (-1) [] place o) (zz7 : (o = none → ∀ H', L2.Same H H' → E (.ref C) none H')) (zz8 : ∀ (s : Int) (w : List Int), o = some (s, w) → ∀ (ra wa : Addr) (H' : Hp), L2.Same H H' → H' ra = some (.tup [.int s, .ref wa]) → H' wa = some (.tup ((w.drop 1).map V.int)) → Q (.ref ra) H') : Isp_origin_atX C vs H Q E
noncomputable def sp_origin_atX (C : Addr) : Sp := Isp_origin_atX C
section
variable {P : Program} {w : World} {K : PySem.W.Frag} {mg : Str → Option Value} {base : Heap} (T : TX K mg)
set_option maxHeartbeats 1000000 in
theorem ok_origin_atX : FnOk P w K mg base (CX1 P w) 6 T.f_origin_at T.d_origin_at ["book", "tree", "place"] (sp_origin_atX T.e_NoPlace) := by
  refine T.F_origin_at.ok1 sc_origin_at (fun vs H Q E h => ?_) (fun cdv A outer s H vs Q E hr h => ?_)
  · obtain ⟨b, ta, pa, ins, outs, head, rows, t, place, o, rfl, _⟩ := h
    rfl
  obtain ⟨b, ta, pa, ins, outs, head, rows, t, place, o, rfl, hb, g, ht, epa, htl, hop, qE, q⟩ := h
  refine ⟨_, (pss_cons (ps_asg (pe_call (ok_written T) (hr.mono (by first | decide | (first | lia | omega))) rfl T.m_written T.F_written.kp T.b_written .nil pass0 (pa_cons (pv 0) (pa_cons (pe_call (ok_head_of T) (hr.mono (by first | decide | (first | lia | omega))) rfl T.m_head_of T.F_head_of.kp T.b_head_of .nil pass0 (pa_cons (pv 0) pa_nil)) (pa_cons (pe_call (ok_above T) (hr.mono (by first | decide | (first | lia | omega))) rfl T.m_above T.F_above.kp T.b_above .nil pass0 (pa_cons (pv 1) pa_nil)) (pa_cons (pe_tup (pa_cons (pe_glob (v := .int (-1)) rfl T.c_HEAD.choose_spec ⟨_, rfl⟩) (pa_cons (pe_tup pa_nil) pa_nil))) pa_nil))))) (pg_tup rfl (pgs_cons (pg_name (i := 3) sc_origin_at.nd rfl (Or.inl rfl)) (pgs_cons (pg_name (i := 4) sc_origin_at.nd rfl (Or.inl rfl)) (pgs_cons (pg_name (i := 5) sc_origin_at.nd rfl (Or.inl rfl)) pgs_nil)))))
      (pss_cons (ps_for PassesOwn.leaving rfl (pi_tup (pv 2)) (pg_name (i := 6) sc_origin_at.nd rfl (Or.inl rfl)) (pss_one (ps_asg (pe_call (ok_written T) (hr.mono (by first | decide | (first | lia | omega))) rfl T.m_written T.F_written.kp T.b_written .nil pass0 (pa_cons (pv 0) (pa_cons (pe_call (ok_kid_atX T) (hr.mono (by first | decide | (first | lia | omega))) rfl T.m_kid_at T.F_kid_at.kp T.b_kid_at .nil pass1 (pa_cons (pv 3) (pa_cons (pv 6) pa_nil))) (pa_cons (pv 4) (pa_cons (pv 5) pa_nil))))) (pg_tup rfl (pgs_cons (pg_name (i := 3) sc_origin_at.nd rfl (Or.inl rfl)) (pgs_cons (pg_name (i := 4) sc_origin_at.nd rfl (Or.inl rfl)) (pgs_cons (pg_name (i := 5) sc_origin_at.nd rfl (Or.inl rfl)) pgs_nil)))))))
      (pss_one (ps_ret (pe_tup (pa_cons (pe_ix ix_tup (pv 5) pe_int (fun _ _ => rfl)) (pa_cons (pe_slice sl_tupA (pe_ix ix_tup (pv 5) pe_int (fun _ _ => rfl)) (po_some pe_int) po_none) pa_nil))))))), ?_⟩
  try dsimp only [cxK, cxKn]
  refine hid fun ZZ kZ => ?_
  obtain ⟨ia, oa0, hda, ra, ias, oas, ras, bk⟩ := id hb
  refine kZ ?_
  refine ⟨_, rfl, _, rfl, b, _, _, _, _, rfl, bk.bk, _, rfl, .ref ta, rfl, fun ab hab => ?_⟩
  have s1 : L2.Same H (upd H ab (.tup [.str (Str.ofString ""), .ref ta])) := same_new hab _
  have e1 : (upd H ab (.tup [.str (Str.ofString ""), .ref ta])) ab = some (.tup [.str (Str.ofString ""), .ref ta]) := upd_same
  generalize (upd H ab (.tup [.str (Str.ofString ""), .ref ta])) = H1 at s1 e1 ⊢
  have hab1 : At H1 (.knot (Str.ofString "") [t]) ab := by
    rw [At]
    exact ⟨empty_q, [ta], e1, .cons (ht.mono (Same.kt s1)) .nil⟩
  refine ⟨line_le (by show 0 ≤ 1000000; decide), fun ep hep => ?_⟩
  have s2 : L2.Same H1 (upd H1 ep (.tup [])) := same_new hep _
  have e2 : (upd H1 ep (.tup [])) ep = some (.tup (([] : List Int).map V.int)) := upd_same
  generalize (upd H1 ep (.tup [])) = H2 at s2 e2 ⊢
  refine ⟨line_le (by show 2 ≤ 1000000; decide), fun og hog => ?_⟩
  have s3 : L2.Same H2 (upd H2 og (.tup [.int (-1), .ref ep])) := same_new hog _
  have e3 : (upd H2 og (.tup [.int (-1), .ref ep])) og = some (.tup [.int (-1), .ref ep]) := upd_same
  generalize (upd H2 og (.tup [.int (-1), .ref ep])) = H3 at s3 e3 ⊢
  have s13 := s2.trans s3
  have s03 := s1.trans s13
  have htt : (Th.knot (Str.ofString "") [t]).tall = t.tall + 1 := by rw [Th.tall, talls, talls]; (first | lia | omega)
  refine ⟨b, hda, ab, og, ep, ins, outs, head, rows, head, _, -1, [], place, o, rfl, hb.mono (Same.kt s03), g, bk.hd.mono (Same.kt s03), hab1.mono (Same.kt s13), e3, s3 _ _ e2, (by rw [htt, List.length_nil]; (first | lia | omega)), hop, fun res pa1 ka1 oa1 wa1 n ts k1 s1' w1 H4 s4 er hp1 hk1 eo1 ew1 hop1 hle1 => ?_⟩
  have s04 := s03.trans s4
  refine ⟨res, _, rfl, SqT.of er, rfl, _, _, rfl, _, _, rfl, _, _, rfl, rfl, ?_⟩
  refine ⟨_, rfl, pa, rfl, ⟨_, SqT.of (s04 _ _ epa)⟩, ?_⟩
  rw [htt, List.length_nil] at hle1
  refine for_tup (K := K) (a := pa) (xs := place.map V.int) (fun i σ H5 => Ex10 fun (pa1 ka1 oa1 wa1 : Addr) (c : Option V) (n : Str) (ts : List Th) (k1 : Th) (s1 : Int) (w1 : List Int) => An8 (σ = [some (.ref b), some (.ref ta), some (.ref pa), some (.ref pa1), some (.ref ka1), some (.ref oa1), c]) (L2.Same H H5) (At H5 (.knot n ts) pa1) (At H5 k1 ka1) (H5 oa1 = some (.tup [.int s1, .ref wa1])) (H5 wa1 = some (.tup (w1.map V.int))) (OP ins rows (.knot n ts) k1 s1 w1 (place.drop i) o) (w1.length + k1.tall ≤ 0 + (t.tall + 1)))
    ⟨pa1, ka1, oa1, wa1, none, n, ts, k1, s1', w1, rfl, s04, hp1, hk1, eo1, ew1, by rw [List.drop_zero]; exact hop1, hle1⟩ (fun i σ H5 _ ⟨_, _, _, _, _, _, _, _, _, _, _, s5, _, _, _, _, _, _⟩ => SqT.of (s5 _ _ epa)) ?_ ?_
  · rintro i x σ H5 hx ⟨pa2, ka2, oa2, wa2, c, n, ts, k2, s2', w2, rfl, s5, hp2, hk2, eo2, ew2, hop2, hle2⟩
    rw [List.getElem?_map] at hx
    obtain ⟨x, hn, rfl⟩ := Option.map_eq_some_iff.mp hx
    have hi : i < place.length := (List.getElem?_eq_some_iff.mp hn).1
    have hd : place.drop i = x :: place.drop (i + 1) := by
      rw [List.drop_eq_getElem_cons hi]
      congr 1
      rw [List.getElem?_eq_getElem hi] at hn
      exact Option.some.inj hn
    rw [hd] at hop2
    have hkd : (Th.knot n ts).kids = ts := rfl
    refine ⟨_, rfl, _, rfl, _, rfl, pa2, _, x, rfl, hp2, fun u ua H6 h0 hu s6 hua => ?_, fun hbad H6 s6 => ?_⟩
    rotate_left
    · cases hop2 with
      | bad _ => exact qE rfl H6 (s5.trans s6)
      | kid h0' hu' _ =>
        have := (List.getElem?_eq_some_iff.mp hu').1
        exact absurd ⟨h0', by show x < (ts.length : Int); (first | lia | omega)⟩ hbad
    rw [hkd] at hu
    cases hop2 with
    | bad hbad =>
      have := (List.getElem?_eq_some_iff.mp hu).1
      exact absurd ⟨h0, by (first | lia | omega)⟩ hbad
    | kid h0' hu' hop3 =>
      rw [hu] at hu'
      cases hu'
      refine ⟨_, rfl, _, rfl, b, ua, ka2, oa2, wa2, ins, outs, head, rows, u, k2, s2', w2, place.drop (i + 1), o, rfl, hb.mono (Same.kt (s5.trans s6)), g, hua, hk2.mono (Same.kt s6), s6 _ _ eo2, s6 _ _ ew2, by (first | lia | omega), hop3, fun res pa3 ka3 oa3 wa3 n3 ts3 k3 s3' w3 H7 s7 er hp3 hk3 eo3 ew3 hop4 hle3 => ?_⟩
      exact ⟨res, _, rfl, SqT.of er, rfl, _, _, rfl, _, _, rfl, _, _, rfl, rfl, pa3, ka3, oa3, wa3, _, n3, ts3, k3, s3', w3, rfl, s5.trans (s6.trans s7), hp3, hk3, eo3, ew3, hop4, by (first | lia | omega)⟩
  · rintro σ H5 ⟨pa2, ka2, oa2, wa2, c, n, ts, k2, s2', w2, rfl, s5, hp2, hk2, eo2, ew2, hop2, hle2⟩
    rw [List.length_map, List.drop_length] at hop2
    cases hop2 with
    | nil =>
    refine ⟨_, rfl, oa2, _, 0, .int s2', rfl, rfl, SqT.of eo2, at0, _, rfl, oa2, _, 1, .ref wa2, rfl, rfl, SqT.of eo2, at1, 1, rfl, wa2, _, rfl, ew2, fun p6 H6 s6 e6 => ?_⟩
    have hcut : cutV (w2.map V.int) (some 1) none = (w2.drop 1).map V.int := by
      cases w2 with
      | nil => rfl
      | cons z w => rw [List.map_cons, cut_tail]; rfl
    rw [hcut] at e6
    refine ⟨line_le (by show 2 ≤ 1000000; decide), fun p7 hp7 => ?_⟩
    have s7 := same_new hp7 (.tup [.int s2', .ref p6])
    exact q _ _ rfl p7 p6 _ (s5.trans (s6.trans s7)) upd_same (s7 _ _ e6)
end
section
variable {P : Program} {w : World} {K : PySem.W.Frag} {mg : Str → Option Value} {base : Heap} (T : TX K mg)
theorem ok_origin_at : FnOk P w K mg base CX0 6 T.f_origin_at T.d_origin_at ["book", "tree", "place"] sp_origin_at := by
  refine (ok_origin_atX T).x0 fun vs H Q E h => ?_
  obtain ⟨b, ta, pa, ins, outs, head, rows, t, place, s, w, rfl, hb, g, ht, epa, htl, hop, q⟩ := h
  exact ⟨b, ta, pa, ins, outs, head, rows, t, place, _, rfl, hb, g, ht, epa, htl, hop, fun z => (by cases z), fun s' w' z => by cases z; exact q⟩
end
noncomputable def sp__law_other {K : PySem.W.Frag} {mg : Str → Option Value} (T : TX K mg) : Addr → Hp → VK → Prop := fun C H Q => C = T.e_NoPlace ∧ Q (.bl false) H
inductive Isp__law_refused (vs : List V) (H : Hp) (Q : VK) (_E : XK) : Prop
  | mk (b ta pa : Addr) (ins outs : List (Str × Int)) (head : Th) (rows : List (List Th)) (t : Th) (place : List Int) (zz0 : vs = [.ref b, .ref ta, .ref pa]) (zz1 : Bk H ins outs head rows b) (zz2 : GoodN ins) (zz3 : At H t ta) (zz4 : H pa = some (.tup (place.map V.int))) (zz5 : t.tall ≤ 10000) (zz6 : OP ins rows head (.knot (Str.ofString "") [t]) (-1) [] place none) (zz7 : ∀ H', L2.Same H H' → Q (.bl true) H') : Isp__law_refused  vs H Q _E
noncomputable def sp__law_refused : Sp := Isp__law_refused 
section
variable {P : Program} {w : World} {K : PySem.W.Frag} {mg : Str → Option Value} {base : Heap} (T : TX K mg)
theorem ok__law_other : FnOkE P w K mg base 1 T.f__law_other T.d__law_other ["e"] (sp__law_other T) := by
  refine T.F__law_other.okE sc__law_other rfl (fun cdv A outer s H ea oe C Q hoc hX h => ?_)
  obtain ⟨rfl, q⟩ := h
  refine ⟨_, (pss_cons (ps_if (PW.pt (pw_or (pt_truth (pe_callB (call_isx pin_E hoc hX) rfl T.n_isinstance PyProof.Rows.boot_isinstance (pa_cons (pv 0) (pa_cons (pe_glob (v := .ref T.e_Great) rfl T.x_Great rfl) pa_nil))) (fun _ => rfl)) (pw_or (pt_truth (pe_callB (call_isx pin_E hoc hX) rfl T.n_isinstance PyProof.Rows.boot_isinstance (pa_cons (pv 0) (pa_cons (pe_glob (v := .ref T.e_Many) rfl T.x_Many rfl) pa_nil))) (fun _ => rfl)) (pw_or (pt_truth (pe_callB (call_isx pin_E hoc hX) rfl T.n_isinstance PyProof.Rows.boot_isinstance (pa_cons (pv 0) (pa_cons (pe_glob (v := .ref T.e_NoBook) rfl T.x_NoBook rfl) pa_nil))) (fun _ => rfl)) (pw_or1 (pt_truth (pe_callB (call_isx pin_E hoc hX) rfl T.n_isinstance PyProof.Rows.boot_isinstance (pa_cons (pv 0) (pa_cons (pe_glob (v := .ref T.e_NoKinds) rfl T.x_NoKinds rfl) pa_nil))) (fun _ => rfl))))))) (pss_one (ps_ret pe_bl)) pss_nil)
      (pss_one (ps_ret (pe_or (pe_callB (call_isx pin_E hoc hX) rfl T.n_isinstance PyProof.Rows.boot_isinstance (pa_cons (pv 0) (pa_cons (pe_glob (v := .ref T.e_NoName) rfl T.x_NoName rfl) pa_nil))) (pe_or (pe_callB (call_isx pin_E hoc hX) rfl T.n_isinstance PyProof.Rows.boot_isinstance (pa_cons (pv 0) (pa_cons (pe_glob (v := .ref T.e_NoText) rfl T.x_NoText rfl) pa_nil))) (pe_or (pe_callB (call_isx pin_E hoc hX) rfl T.n_isinstance PyProof.Rows.boot_isinstance (pa_cons (pv 0) (pa_cons (pe_glob (v := .ref T.e_NoTree) rfl T.x_NoTree rfl) pa_nil))) (pe_one (pe_callB (call_isx pin_E hoc hX) rfl T.n_isinstance PyProof.Rows.boot_isinstance (pa_cons (pv 0) (pa_cons (pe_glob (v := .ref T.e_NotOne) rfl T.x_NotOne rfl) pa_nil)))))))))), ?_⟩
  try dsimp only [cxK, cxKn]
  refine ⟨_, rfl, _, _, rfl, T.kit_NoPlace_Great, false, rfl, iteF ?_⟩
  refine ⟨_, rfl, _, _, rfl, T.kit_NoPlace_Many, false, rfl, iteF ?_⟩
  refine ⟨_, rfl, _, _, rfl, T.kit_NoPlace_NoBook, false, rfl, iteF ?_⟩
  refine ⟨_, rfl, _, _, rfl, T.kit_NoPlace_NoKinds, false, rfl, iteF ?_⟩
  refine ⟨_, rfl, _, _, rfl, T.kit_NoPlace_NoName, false, rfl, iteF ?_⟩
  refine ⟨_, rfl, _, _, rfl, T.kit_NoPlace_NoText, false, rfl, iteF ?_⟩
  refine ⟨_, rfl, _, _, rfl, T.kit_NoPlace_NoTree, false, rfl, iteF ?_⟩
  exact ⟨_, rfl, _, _, rfl, T.kit_NoPlace_NotOne, q⟩
theorem ok__law_refused : FnOk P w K mg base CX0 8 T.f__law_refused T.d__law_refused ["book", "tree", "place"] sp__law_refused := by
  refine T.F__law_refused.ok sc__law_refused (fun vs H Q E h => ?_) (fun cdv A outer s H vs Q E hr h => ?_)
  · obtain ⟨b, ta, pa, ins, outs, head, rows, t, place, rfl, _⟩ := h
    rfl
  obtain ⟨b, ta, pa, ins, outs, head, rows, t, place, rfl, hb, g, ht, epa, htl, hop, q⟩ := h
  refine ⟨_, (pss_cons (ps_set (i := 3) sc__law_refused.nd rfl (Or.inl rfl) pe_bl)
      (pss_cons (ps_try_as (Ch := T.e_BookError) (i := 4) (tb := fun R => (tDrop (tCallT (sp_origin_atX T.e_NoPlace) [] R (tCons (tVar 0) (tCons (tVar 1) (tCons (tVar 2) tNil)))))) (ts := fun ea C => (tAsg (tAndV (tCB (rIsx K ea C) (tCons (tVar 4) (tCons (tC (.ref T.e_NoPlace)) tNil))) (tAndV (tCB (rIsx K ea C) (tCons (tVar 4) (tCons (tC (.ty "ValueError")) tNil))) (tNotV (tCallE (sp__law_other T) ea C (tCons (tVar 4) tNil))))) (gName 3))) (fun pins R => (pss_one (ps_expr (pe_callT (ok_origin_atX T) (hr.mono (by first | decide | (first | lia | omega))) rfl T.m_origin_at T.F_origin_at.kp T.b_origin_at .nil (pa_cons (pv 0) (pa_cons (pv 1) (pa_cons (pv 2) pa_nil))))))) (fun ea oe C hoc hX => (pss_one (ps_set (i := 3) sc__law_refused.nd rfl (Or.inl rfl) (pe_and (pe_callB (call_isx pin_suite hoc hX) rfl T.n_isinstance PyProof.Rows.boot_isinstance (pa_cons (pv 4) (pa_cons (pe_glob (v := .ref T.e_NoPlace) rfl T.x_NoPlace rfl) pa_nil))) (pe_and (pe_callB (call_isx pin_suite hoc hX) rfl T.n_isinstance PyProof.Rows.boot_isinstance (pa_cons (pv 4) (pa_cons (pe_bltn (v := .ty "ValueError") rfl T.n_ValueError PyProof.Rows.Boot.«ValueError» rfl) pa_nil))) (pe_one (pe_not (pe_callE (ok__law_other T) rfl (hr.mono (by first | decide | (first | lia | omega))) hoc hX rfl rfl rfl T.m__law_other T.F__law_other.kp T.b__law_other (pa_cons (pv 4) pa_nil))))))))) sc__law_refused.nd rfl rfl rfl rfl rfl T.x_BookError)
      (pss_one (ps_ret (pv 3))))), ?_⟩
  try dsimp only [cxK, cxKn]
  try dsimp only [gName, tSeq, tAsg, tC, List.set]
  refine try_intro (fun σ1 c H2 => An3 (σ1 = [some (.ref b), some (.ref ta), some (.ref pa), some (.bl false), none]) (c = .ref T.e_NoPlace) (L2.Same H H2)) (fun R' hR => ?_) ?_
  · exact ⟨_, rfl, _, rfl, _, rfl, b, ta, pa, ins, outs, head, rows, t, place, none, rfl, hb, g, ht, epa, htl, hop, fun _ H1 s1 => hR _ _ _ ⟨rfl, rfl, s1⟩, fun _ _ z => (by cases z)⟩
  · rintro σ1 c H2 ⟨rfl, rfl, s2⟩
    refine ⟨_, rfl, ⟨T.X_NoPlace, T.hit_NoPlace_BookError⟩, fun ea hea => ?_⟩
    refine ⟨_, rfl, _, _, rfl, T.kit_NoPlace_NoPlace, true, rfl, iteT ?_⟩
    refine ⟨_, rfl, _, _, rfl, T.kit_NoPlace_ValueError, true, rfl, iteT ?_⟩
    exact ⟨_, rfl, rfl, rfl, false, rfl, _, rfl, q H2 s2⟩
end
inductive Isp__law_mixed (vs : List V) (H : Hp) (Q : VK) (_E : XK) : Prop
  | mk (c k : Int) (zz0 : vs = [.int c, .int k]) (zz1 : ∀ z : Int, Q (.int z) H) : Isp__law_mixed  vs H Q _E
noncomputable def sp__law_mixed : Sp := Isp__law_mixed 
section
variable {P : Program} {w : World} {K : PySem.W.Frag} {mg : Str → Option Value} {base : Heap} (T : TX K mg)
theorem ok__law_mixed : FnOk P w K mg base CX0 1 T.f__law_mixed T.d__law_mixed ["cell", "k"] sp__law_mixed := by
  refine T.F__law_mixed.ok sc__law_mixed (fun vs H Q E h => ?_) (fun cdv A outer s H vs Q E hr h => ?_)
  · obtain ⟨c, k, rfl, _⟩ := h
    rfl
  obtain ⟨c, k, rfl, q⟩ := h
  refine ⟨_, (pss_cons (ps_set (i := 2) sc__law_mixed.nd rfl (Or.inl rfl) (pe_op op_mod (pe_op op_add (pe_op op_add (pe_op op_mul (pe_op op_mod (pv 0) (pe_op op_pow pe_int pe_int)) pe_int) (pe_op op_mul pe_int (pv 1))) pe_int) pe_int))
      (pss_cons (ps_set (i := 2) sc__law_mixed.nd rfl (Or.inl rfl) (pe_op op_mod (pe_op op_mul (pv 2) (pv 2)) pe_int))
      (pss_one (ps_ret (pe_op op_add (pe_op op_mul (pv 2) pe_int) (pe_op op_mul pe_int (pv 1))))))), ?_⟩
  try dsimp only [cxK, cxKn]
  refine ⟨_, rfl, _, _, rfl, rfl, ⟨by decide, by decide, by decide⟩, _, _, rfl, rfl, (by show (0 : Int) < 10 ^ 40; decide), _, _, rfl, rfl, .inr ⟨by decide, by decide⟩, _, rfl, _, _, rfl, rfl, .inl ⟨by decide, by decide⟩, _, _, rfl, rfl, _, _, rfl, rfl, _, _, rfl, rfl, (by show (0 : Int) < 2305843009213693951; decide), ?_⟩
  try dsimp only [gName]
  generalize c % (10 : Int) ^ (40 : Int).toNat * 99999999977 + 7919 * k + 1234567890123 = z
  have z0 := Int.emod_nonneg z (show (2305843009213693951 : Int) ≠ 0 by decide)
  have z1 := Int.emod_lt_of_pos z (show (0 : Int) < 2305843009213693951 by decide)
  generalize z % 2305843009213693951 = y at z0 z1
  refine ⟨_, rfl, _, rfl, _, _, rfl, rfl, .inl ⟨by (first | lia | omega), by (first | lia | omega)⟩, _, _, rfl, rfl, (by show (0 : Int) < 2305843009213693951; decide), ?_⟩
  exact ⟨_, rfl, _, _, rfl, rfl, .inr ⟨by decide, by decide⟩, _, rfl, _, _, rfl, rfl, .inl ⟨by decide, by decide⟩, _, _, rfl, rfl, q _⟩
end
theorem cutV_ints (ns : List Int) (lo hi : Option Int) : ∃ cs : List Int, cutV (ns.map V.int) lo hi = cs.map V.int ∧ cs.length ≤ ns.length := by
  unfold cutV
  rw [← List.map_drop, ← List.map_take]
  exact ⟨_, rfl, by rw [List.length_take, List.length_drop]; (first | lia | omega)⟩
inductive Isp__law_folded (vs : List V) (H : Hp) (Q : VK) (_E : XK) : Prop
  | mk (a : Addr) (cs : List Int) (many : Int) (zz0 : vs = [.ref a, .int many]) (zz1 : H a = some (.lst (cs.map V.int))) (zz2 : cs.length ≤ 1000) (zz3 : 1 ≤ many) (zz4 : many ≤ 1000) (zz5 : ∀ (r : Addr) (ds : List Int) (H' : Hp), L2.Same H H' → H' r = some (.lst (ds.map V.int)) → ds.length = many.toNat → Q (.ref r) H') : Isp__law_folded  vs H Q _E
noncomputable def sp__law_folded : Sp := Isp__law_folded 
section
variable {P : Program} {w : World} {K : PySem.W.Frag} {mg : Str → Option Value} {base : Heap} (T : TX K mg)
set_option maxHeartbeats 1000000 in
theorem ok__law_folded : FnOk P w K mg base CX0 1 T.f__law_folded T.d__law_folded ["cells", "many"] sp__law_folded := by
  refine T.F__law_folded.ok sc__law_folded (fun vs H Q E h => ?_) (fun cdv A outer s H vs Q E hr h => ?_)
  · obtain ⟨a, cs, many, rfl, _⟩ := h
    rfl
  obtain ⟨a, cs, many, rfl, ea, hcl, m1, m2, q⟩ := h
  refine ⟨_, (pss_cons (ps_setC (i := 2) (N := [Str.ofString "k", Str.ofString "cells"]) (js := [none, some 0]) (g := (gName 0)) (tt := tNoTest) (te := (tIf (tTest (tOp (rI0 fun i j => .bl (decide (i < j))) (tVar 0) (tCB (ILenQ K) (tCons (tVar 1) tNil)))) (tOp (rIxL K) (tVar 1) (tVar 0)) (tC (.int 0)))) sc__law_folded.nd rfl (Or.inl rfl) rfl (cs_mk rfl (by decide +kernel) (by decide +kernel) rfl rfl rfl) (pi_range1 rfl T.n_range (pa_cons (pv 1) pa_nil)) (fun _ _ _ _ _ _ => (pg_name (i := 0) nd_1 rfl (Or.inl rfl))) (gk_name rfl) (fun _ _ _ _ _ _ => pts_nil) (fun _ _ _ _ _ _ => (pe_ifExp (pt_cmpR op_lt (pv 0) (pe_callB call_len_seq rfl T.n_len PySem.boot_len (pa_cons (pv 1) pa_nil)) (nomark _)) (pe_ix ix_list (pv 1) (pv 0) (fun _ _ => rfl)) pe_int)))
      (pss_cons (ps_for PassesOwn.never rfl (pi_range2 rfl T.n_range (pa_cons (pv 1) (pa_cons (pe_callB call_len_seq rfl T.n_len PySem.boot_len (pa_cons (pv 0) pa_nil)) pa_nil))) (pg_name (i := 3) sc__law_folded.nd rfl (Or.inl rfl)) (pss_one (ps_asg (pe_op op_add (pe_op op_mod (pe_op op_mul (pe_ix ix_list (pv 2) (pe_op op_mod (pv 3) (pv 1)) (fun _ _ => rfl)) pe_int) (pe_op op_pow pe_int pe_int)) (pe_op op_mod (pe_ix ix_list (pv 0) (pv 3) (fun _ _ => rfl)) (pe_op op_pow pe_int pe_int))) (pg_sub (pv 2) (pe_op op_mod (pv 3) (pv 1)) set_list))))
      (pss_one (ps_ret (pv 2))))), ?_⟩
  try dsimp only [cxK, cxKn]
  refine ⟨_, rfl, many, rfl, by (first | lia | omega), by (first | lia | omega), comp_sm (xs := (List.range many.toNat).map fun (i : Nat) => V.int (0 + (i : Int))) ((List.range many.toNat).map fun (i : Nat) => cs.getD i 0) V.int (by rw [List.length_map, List.length_map]) (by rw [List.length_map, List.length_range]; (first | lia | omega)) (fun i Hx sx hi => by rw [List.length_map, List.length_range] at hi; exact hi) (fun Hx sx => by rw [List.length_map, List.length_range]; exact Nat.le_refl _) (fun i Hx x Hy sx hi hy => ⟨hy.1, ?_⟩) (fun i x z Hx R W' hx hz sx hR => ?_) (fun kl H2 hkl s2 e2 => ?_)⟩
  · rw [List.length_map, List.length_range] at hi
    rw [hy.2, List.getElem?_map, List.getElem?_range hi]
    rfl
  · have hi : i < many.toNat := by
      have := (List.getElem?_eq_some_iff.mp hz).1
      rw [List.length_map, List.length_range] at this
      exact this
    rw [List.getElem?_map, List.getElem?_range hi] at hx hz
    cases hx
    cases hz
    refine ⟨_, rfl, _, rfl, a, _, rfl, .inl (SqL.of (sx _ _ ea)), _, _, rfl, rfl, _, rfl, ?_⟩
    refine ite2 (fun c => ?_) (fun c => ?_)
    · have c' : (0 + (i : Int)) < (((cs.map V.int).length : Nat) : Int) := of_decide_eq_true c
      rw [List.length_map] at c'
      refine ⟨_, rfl, _, rfl, a, _, _, .int (cs.getD i 0), rfl, rfl, SqL.of (sx _ _ ea), at_nonneg (by (first | lia | omega)) ?_, hR _ (.refl _)⟩
      rw [show (0 + (i : Int)).toNat = i by (first | lia | omega), List.getElem?_map, List.getD, List.getElem?_eq_getElem (by (first | lia | omega))]
      rfl
    · have c' : ¬ (0 + (i : Int)) < (((cs.map V.int).length : Nat) : Int) := fun z => c (decide_eq_true z)
      rw [List.length_map] at c'
      have : cs.getD i 0 = 0 := by rw [List.getD, List.getElem?_eq_none (by (first | lia | omega))]; rfl
      dsimp only at hR
      rw [this] at hR
      exact hR _ (.refl _)
  have nkl : H kl = none := hkl
  refine ⟨_, rfl, _, rfl, a, _, rfl, .inl (SqL.of (s2 _ _ ea)), many, _, rfl, ⟨by (first | lia | omega), by (first | lia | omega), by (first | lia | omega), by rw [List.length_map]; (first | lia | omega)⟩, ?_⟩
  refine for_range (n := ((((cs.map V.int).length : Nat) : Int) - many).toNat) (fun i σ H3 => Ex2 fun (kv : Option V) (ds : List Int) => An4 (σ = [some (.ref a), some (.int many), some (.ref kl), kv]) (L2.Same H H3) (H3 kl = some (.lst (ds.map V.int))) (ds.length = many.toNat))
    ⟨none, _, rfl, s2, e2, by rw [List.length_map, List.length_range]⟩ ?_ ?_
  · rintro i σ H3 hi ⟨kv, ds, rfl, s3, e3, hdl⟩
    have hi' : (i : Int) < ((cs.length : Nat) : Int) - many := by
      have h1 : i < ((((cs.map V.int).length : Nat) : Int) - many).toNat := hi
      rw [List.length_map] at h1
      (first | lia | omega)
    have y0 := Int.emod_nonneg (many + (i : Int)) (show many ≠ 0 by (first | lia | omega))
    have y1 := Int.emod_lt_of_pos (many + (i : Int)) (show 0 < many by (first | lia | omega))
    refine hid fun ZZ kZ => ?_
    obtain ⟨ix, hix⟩ : ∃ ix : Nat, (many + (i : Int)) % many = (ix : Int) := ⟨_, (Int.toNat_of_nonneg y0).symm⟩
    obtain ⟨c, hc⟩ : ∃ c, ds[ix]? = some c := ⟨_, List.getElem?_eq_getElem (by (first | lia | omega))⟩
    obtain ⟨x, hx⟩ : ∃ x, cs[(many + (i : Int)).toNat]? = some x := ⟨_, List.getElem?_eq_getElem (by (first | lia | omega))⟩
    refine kZ ?_
    refine ⟨_, rfl, _, rfl, _, rfl, _, _, rfl, rfl, (by show 0 < many; (first | lia | omega)), kl, _, _, .int c, rfl, rfl, SqL.of e3, at_nonneg y0 (by rw [hix, Int.toNat_natCast, List.getElem?_map, hc]; rfl), _, _, rfl, rfl, .inr ⟨by decide, by decide⟩, ?_⟩
    refine ⟨_, _, rfl, rfl, ⟨by decide, by decide, by decide⟩, _, _, rfl, rfl, (by show (0 : Int) < 10 ^ 40; decide), ?_⟩
    refine ⟨_, rfl, _, rfl, a, _, _, .int x, rfl, rfl, SqL.of (s3 _ _ ea), at_nonneg (by (first | lia | omega)) (by rw [List.getElem?_map, hx]; rfl), _, _, rfl, rfl, ⟨by decide, by decide, by decide⟩, _, _, rfl, rfl, (by show (0 : Int) < 10 ^ 40; decide), _, _, rfl, rfl, ?_⟩
    refine ⟨_, rfl, _, rfl, _, rfl, _, _, rfl, rfl, (by show 0 < many; (first | lia | omega)), kl, _, _, ix, rfl, rfl, e3, ?_, ?_⟩
    · rw [hix]
      unfold ixN
      rw [if_pos (by (first | lia | omega)), if_pos (by rw [List.length_map]; (first | lia | omega))]
      simp
    · refine ⟨_, ds.set ix (c * 31 % 10 ^ 40 + x % 10 ^ 40), rfl, same_upd s3 nkl, ?_, by rw [List.length_set]; exact hdl⟩
      rw [upd_same, List.map_set]
      rfl
  · rintro σ H3 ⟨kv, ds, rfl, s3, e3, hdl⟩
    exact ⟨_, rfl, q kl ds H3 s3 e3 hdl⟩
end
noncomputable def sp__law_names : Sp := fun vs H Q _ => ∃ c : Int, vs = [.int c] ∧ ∀ (r : Addr) (ws : List Str) (H' : Hp), L2.Same H H' → H' r = some (.lst (ws.map V.str)) → NamesOk ws → Q (.ref r) H'
section
variable {P : Program} {w : World} {K : PySem.W.Frag} {mg : Str → Option Value} {base : Heap} (T : TX K mg)
set_option maxHeartbeats 1000000 in
theorem ok__law_names : FnOk P w K mg base CX0 1 T.f__law_names T.d__law_names ["cell"] sp__law_names := by
  refine T.F__law_names.ok sc__law_names (fun vs H Q E h => ?_) (fun cdv A outer s H vs Q E hr h => ?_)
  · obtain ⟨c, rfl, _⟩ := h
    rfl
  obtain ⟨c, rfl, q⟩ := h
  refine ⟨_, (pss_cons (ps_set (i := 1) sc__law_names.nd rfl (Or.inl rfl) pe_str)
      (pss_cons (ps_set (i := 2) sc__law_names.nd rfl (Or.inl rfl) (pe_op op_add pe_int (pe_op op_mod (pe_op op_fdiv (pv 0) pe_int) pe_int)))
      (pss_cons (ps_set (i := 3) sc__law_names.nd rfl (Or.inl rfl) (pe_op op_fdiv (pv 0) pe_int))
      (pss_cons (ps_set (i := 4) sc__law_names.nd rfl (Or.inl rfl) pe_str)
      (pss_cons (ps_for PassesOwn.never rfl (pi_range1 rfl T.n_range (pa_cons pe_int pa_nil)) (pg_name (i := 5) sc__law_names.nd rfl (Or.inl rfl)) (pss_one (ps_set (i := 4) sc__law_names.nd rfl (Or.inl rfl) (pe_op op_add_str (pv 4) (pe_ix ix_str (pv 1) (pe_op op_mod (pe_op op_fdiv (pv 3) (pe_op op_add (pv 5) pe_int)) pe_int) (fun _ _ => rfl))))))
      (pss_cons (ps_set (i := 6) sc__law_names.nd rfl (Or.inl rfl) (pe_lst pa_nil))
      (pss_cons (ps_for PassesOwn.never rfl (pi_range1 rfl T.n_range (pa_cons pe_int pa_nil)) (pg_name (i := 5) sc__law_names.nd rfl (Or.inl rfl)) (pss_cons (ps_set (i := 7) sc__law_names.nd rfl (Or.inl rfl) (pe_ix ix_str (pv 1) (pe_op op_mod (pe_op op_add (pv 3) (pe_op op_mul (pe_op op_mul pe_int (pv 2)) (pv 5))) pe_int) (fun _ _ => rfl)))
      (pss_one (ps_if (pt_cmpR op_eq (pe_op op_mod (pv 0) pe_int) pe_int (nomark _)) (pss_one (ps_expr (pe_bm PySem.F.plainAttrs_list PySem.F.slot_list_append PySem.F.type_list_append mt_append (pv 6) (pa_cons (pv 7) pa_nil)))) (pss_one (ps_if (pt_cmpR op_eq (pe_op op_mod (pv 0) pe_int) pe_int (nomark _)) (pss_one (ps_expr (pe_bm PySem.F.plainAttrs_list PySem.F.slot_list_append PySem.F.type_list_append mt_append (pv 6) (pa_cons (pe_op op_add_str (pv 7) (pe_slice sl_str (pv 4) (po_some pe_int) (po_some pe_int))) pa_nil)))) (pss_one (ps_if (pt_cmpR op_eq (pe_op op_mod (pv 0) pe_int) pe_int (nomark _)) (pss_one (ps_expr (pe_bm PySem.F.plainAttrs_list PySem.F.slot_list_append PySem.F.type_list_append mt_append (pv 6) (pa_cons (pe_op op_add_str (pe_slice sl_str (pv 4) po_none (po_some pe_int)) (pv 7)) pa_nil)))) (pss_one (ps_expr (pe_bm PySem.F.plainAttrs_list PySem.F.slot_list_append PySem.F.type_list_append mt_append (pv 6) (pa_cons (pe_slice sl_str (pv 4) po_none (po_some (pe_op op_add (pe_op op_mul pe_int (pv 5)) pe_int))) pa_nil))))))))))))
      (pss_one (ps_ret (pv 6)))))))))), ?_⟩
  try dsimp only [cxK, cxKn]
  have z0 := Int.emod_nonneg (c / 4) (show (4 : Int) ≠ 0 by decide)
  have z1 := Int.emod_lt_of_pos (c / 4) (show (0 : Int) < 4 by decide)
  refine ⟨_, rfl, _, _, rfl, rfl, ⟨by decide, by decide⟩, _, _, rfl, rfl, (by show (0 : Int) < 4; decide), _, _, rfl, rfl, ?_⟩
  refine ⟨_, rfl, _, _, rfl, rfl, ⟨by decide, by decide⟩, ?_⟩
  try dsimp only [gName]
  have st1 : 1 ≤ 1 + c / 4 % 4 := by (first | lia | omega)
  have st4 : 1 + c / 4 % 4 ≤ 4 := by (first | lia | omega)
  generalize 1 + c / 4 % 4 = st at st1 st4 ⊢
  generalize c / 16 = a
  refine ⟨8, rfl, by decide, by decide, ?_⟩
  refine for_range (n := 8) (fun i σ H2 => Ex2 fun (word : Str) (kv : Option V) => An4 (σ = [some (.int c), some (.str letters), some (.int st), some (.int a), some (.str word), kv, none, none]) (H2 = H) (Low word) (word.length = i))
    ⟨Str.ofString "", none, rfl, rfl, (fun x hx => by have : x ∈ ([] : List Nat) := hx; cases this), rfl⟩ ?_ ?_
  · rintro i σ H2 hi ⟨word, kv, rfl, rfl, hlow, hlen⟩
    have hi8 : i < 8 := hi
    have y0 := Int.emod_nonneg (a / (0 + (i : Int) + 1)) (show (26 : Int) ≠ 0 by decide)
    have y1 := Int.emod_lt_of_pos (a / (0 + (i : Int) + 1)) (show (0 : Int) < 26 by decide)
    refine ⟨_, rfl, _, rfl, _, rfl, _, rfl, _, _, rfl, rfl, _, _, rfl, rfl, ⟨by show (0 : Int) < 0 + (i : Int) + 1; (first | lia | omega), by show 0 + (i : Int) + 1 < 1073741824; (first | lia | omega)⟩, _, _, rfl, rfl, (by show (0 : Int) < 26; decide), letters, _, _, rfl, rfl, line_le (by rw [letters_len]; decide), letter_at y0 y1, ?_⟩
    refine ⟨_, _, rfl, rfl, line_le (by show word.length + 1 ≤ 1000000; (first | lia | omega)), _, _, rfl, rfl, low_app hlow (low_one (by (first | lia | omega)) (by (first | lia | omega))), ?_⟩
    rw [strLen_append]
    show word.length + 1 = i + 1
    (first | lia | omega)
  rintro σ H2 ⟨word, kv, rfl, rfl, hlow, hlen⟩
  have hlen8 : word.length = 8 := hlen
  refine ⟨line_le (by show 0 ≤ 1000000; decide), fun nl hnl => ?_⟩
  refine ⟨4, rfl, by decide, by decide, ?_⟩
  refine for_range (n := 4) (fun i σ H3 => Ex3 fun (kv tv : Option V) (ws : List Str) => An5 (σ = [some (.int c), some (.str letters), some (.int st), some (.int a), some (.str word), kv, some (.ref nl), tv]) (L2.Same H2 H3) (H3 nl = some (.lst (ws.map V.str))) (ws.length = i) (∀ (j : Nat) (x : Str), ws[j]? = some x → x = nm91 (c % 4) a st word j))
    ⟨kv, none, [], rfl, same_new hnl _, upd_same, rfl, fun j x hj => by simp at hj⟩ ?_ ?_
  · rintro i σ H3 hi ⟨kv, tv, ws, rfl, s3, e3, hwl, hws⟩
    have hi4 : i < 4 := hi
    have y0 := Int.emod_nonneg (a + 5 * st * (0 + (i : Int))) (show (26 : Int) ≠ 0 by decide)
    have y1 := Int.emod_lt_of_pos (a + 5 * st * (0 + (i : Int))) (show (0 : Int) < 26 by decide)
    refine ⟨_, rfl, _, rfl, _, rfl, _, _, rfl, rfl, .inl ⟨by decide, by decide⟩, _, rfl, _, _, rfl, rfl, .inl ⟨by (first | lia | omega), by (first | lia | omega)⟩, _, _, rfl, rfl, _, _, rfl, rfl, (by show (0 : Int) < 26; decide), letters, _, _, rfl, rfl, line_le (by rw [letters_len]; decide), letter_at y0 y1, ?_⟩
    have htn : 97 + ((a + 5 * st * (0 + (i : Int))) % 26).toNat = tn91 a st i := by unfold tn91; rw [Int.zero_add]
    try dsimp only
    rw [htn]
    have fin : ∀ x, x = nm91 (c % 4) a st word i → ∀ σ', σ' = [some (.int c), some (.str letters), some (.int st), some (.int a), some (.str word), some (.int (0 + (i : Int))), some (.ref nl), some (.str ⟨#[tn91 a st i]⟩)] → Ex3 fun (kv tv : Option V) (ws' : List Str) => An5 (σ' = [some (.int c), some (.str letters), some (.int st), some (.int a), some (.str word), kv, some (.ref nl), tv]) (L2.Same H2 (upd H3 nl (.lst (ws.map V.str ++ [.str x])))) ((upd H3 nl (.lst (ws.map V.str ++ [.str x]))) nl = some (.lst (ws'.map V.str))) (ws'.length = i + 1) (∀ (j : Nat) (x : Str), ws'[j]? = some x → x = nm91 (c % 4) a st word j) := fun x hx σ' hσ => by
      refine ⟨_, _, ws ++ [x], hσ, same_upd s3 hnl, by rw [upd_same, List.map_append]; rfl, by rw [List.length_append, hwl]; rfl, fun j y hj => ?_⟩
      by_cases hji : j < ws.length
      · rw [List.getElem?_append_left hji] at hj
        exact hws j y hj
      · have hjl := (List.getElem?_eq_some_iff.mp hj).1
        rw [List.length_append] at hjl
        have : j = ws.length := by
          have : ([x] : List Str).length = 1 := rfl
          (first | lia | omega)
        subst this
        rw [List.getElem?_append_right (Nat.le_refl _), Nat.sub_self] at hj
        have : x = y := by simpa using hj
        rw [← this, hx, hwl]
    have hwll : ws.length ≤ 4 := by (first | lia | omega)
    refine ⟨_, rfl, _, _, rfl, rfl, (by show (0 : Int) < 4; decide), rfl, _, rfl, ?_⟩
    refine ite2 (fun c0 => ?_) (fun c0 => ?_)
    · have h0 : c % 4 = 0 := V.int.inj (of_decide_eq_true c0)
      exact ⟨_, rfl, .inl ⟨rfl, _, SqL.of e3⟩, _, rfl, nl, _, _, rfl, rfl, e3, line_big (by rw [List.length_map]; (first | lia | omega)), fin _ (by unfold nm91; rw [if_pos h0]) _ rfl⟩
    have n0 : ¬ c % 4 = 0 := fun z => c0 (decide_eq_true (congrArg V.int z))
    refine ⟨_, rfl, _, _, rfl, rfl, (by show (0 : Int) < 4; decide), rfl, _, rfl, ?_⟩
    refine ite2 (fun c1 => ?_) (fun c1 => ?_)
    · have h1 : c % 4 = 1 := V.int.inj (of_decide_eq_true c1)
      refine ⟨_, rfl, .inl ⟨rfl, _, SqL.of e3⟩, _, rfl, _, rfl, _, rfl, _, rfl, _, rfl, line_le (by (first | lia | omega)), _, _, rfl, rfl, line_le (by rw [cutS_mid hlen8]; show 1 + 3 ≤ 1000000; decide), nl, _, _, rfl, rfl, e3, line_big (by rw [List.length_map]; (first | lia | omega)), fin _ (by unfold nm91; rw [if_neg n0, if_pos h1]) _ rfl⟩
    have n1 : ¬ c % 4 = 1 := fun z => c1 (decide_eq_true (congrArg V.int z))
    refine ⟨_, rfl, _, _, rfl, rfl, (by show (0 : Int) < 4; decide), rfl, _, rfl, ?_⟩
    refine ite2 (fun c2 => ?_) (fun c2 => ?_)
    · have h2 : c % 4 = 2 := V.int.inj (of_decide_eq_true c2)
      have hc5 := (cutS_head (z := word) (n := 5) (by (first | lia | omega))).2
      refine ⟨_, rfl, .inl ⟨rfl, _, SqL.of e3⟩, _, rfl, _, rfl, _, rfl, line_le (by (first | lia | omega)), _, rfl, _, _, rfl, rfl, line_le (by show (cutS word none (some ((5 : Nat) : Int))).length + 1 ≤ 1000000; (first | lia | omega)), nl, _, _, rfl, rfl, e3, line_big (by rw [List.length_map]; (first | lia | omega)), fin _ (by unfold nm91; rw [if_neg n0, if_neg n1, if_pos h2]) _ rfl⟩
    have n2 : ¬ c % 4 = 2 := fun z => c2 (decide_eq_true (congrArg V.int z))
    refine ⟨_, rfl, .inl ⟨rfl, _, SqL.of e3⟩, _, rfl, _, rfl, _, _, rfl, rfl, .inl ⟨by decide, by decide⟩, _, _, rfl, rfl, _, rfl, _, rfl, line_le (by (first | lia | omega)), nl, _, _, rfl, rfl, e3, line_big (by rw [List.length_map]; (first | lia | omega)), fin _ (by unfold nm91; rw [if_neg n0, if_neg n1, if_neg n2, Int.zero_add]) _ rfl⟩
  · rintro σ H3 ⟨kv, tv, ws, rfl, s3, e3, hwl, hws⟩
    refine ⟨_, rfl, q nl ws H3 s3 e3 ⟨hwl, fun x hx => ?_, fun i j x hi hj => ?_⟩⟩
    · obtain ⟨j, hj⟩ := List.mem_iff_getElem?.mp hx
      have hjl := (List.getElem?_eq_some_iff.mp hj).1
      rw [hws j x hj]
      exact nm91_low hlow hlen8 (by (first | lia | omega))
    · have hil := (List.getElem?_eq_some_iff.mp hi).1
      have hjl := (List.getElem?_eq_some_iff.mp hj).1
      have h1 := hws i x hi
      have h2 := hws j x hj
      exact nm91_inj st1 st4 hlen8 (by (first | lia | omega)) (by (first | lia | omega)) (h1.symm.trans h2)
end
inductive Isp__law_kinds (vs : List V) (H : Hp) (Q : VK) (_E : XK) : Prop
  | mk (c : Int) (na : Addr) (ws : List Str) (zz0 : vs = [.int c, .ref na]) (zz1 : H na = some (.lst (ws.map V.str))) (zz2 : NamesOk ws) (zz3 : ∀ (r : Addr) (as : List Addr) (ks : List (Str × Int)) (H' : Hp), L2.Same H H' → H' r = some (.tup (as.map V.ref)) → KsAt H' ks as → GoodN ks → ks.length ≤ 4 → Q (.ref r) H') : Isp__law_kinds  vs H Q _E
noncomputable def sp__law_kinds : Sp := Isp__law_kinds 
section
variable {P : Program} {w : World} {K : PySem.W.Frag} {mg : Str → Option Value} {base : Heap} (T : TX K mg)
set_option maxHeartbeats 1000000 in
theorem ok__law_kinds : FnOk P w K mg base CX0 1 T.f__law_kinds T.d__law_kinds ["cell", "names"] sp__law_kinds := by
  refine T.F__law_kinds.ok sc__law_kinds (fun vs H Q E h => ?_) (fun cdv A outer s H vs Q E hr h => ?_)
  · obtain ⟨c, na, ws, rfl, _⟩ := h
    rfl
  obtain ⟨c, na, ws, rfl, ena, hws, q⟩ := h
  refine ⟨_, (pss_cons (ps_set (i := 2) sc__law_kinds.nd rfl (Or.inl rfl) (pe_op op_add pe_int (pe_op op_mod (pv 0) pe_int)))
      (pss_cons (ps_set (i := 3) sc__law_kinds.nd rfl (Or.inl rfl) (pe_op op_mod (pe_op op_fdiv (pv 0) pe_int) (pv 2)))
      (pss_cons (ps_set (i := 4) sc__law_kinds.nd rfl (Or.inl rfl) (pe_op op_fdiv (pv 0) pe_int))
      (pss_cons (ps_set (i := 5) sc__law_kinds.nd rfl (Or.inl rfl) (pe_lst pa_nil))
      (pss_cons (ps_for PassesOwn.never rfl (pi_range1 rfl T.n_range (pa_cons (pv 2) pa_nil)) (pg_name (i := 6) sc__law_kinds.nd rfl (Or.inl rfl)) (pss_cons (ps_set (i := 7) sc__law_kinds.nd rfl (Or.inl rfl) (pe_op op_mod (pv 4) pe_int))
      (pss_cons (ps_set (i := 4) sc__law_kinds.nd rfl (Or.inl rfl) (pe_op op_fdiv (pv 4) pe_int))
      (pss_cons (ps_if (pt_cmpR op_eq (pv 6) (pv 3) (nomark _)) (pss_one (ps_set (i := 7) sc__law_kinds.nd rfl (Or.inl rfl) pe_int)) pss_nil)
      (pss_one (ps_expr (pe_bm PySem.F.plainAttrs_list PySem.F.slot_list_append PySem.F.type_list_append mt_append (pv 5) (pa_cons (pe_tup (pa_cons (pe_ix ix_list (pv 1) (pv 6) (fun _ _ => rfl)) (pa_cons (pv 7) pa_nil))) pa_nil))))))))
      (pss_one (ps_ret (pe_callTy call_tuple_of rfl T.n_tuple PyProof.Rows.boot_tuple (pa_cons (pv 5) pa_nil))))))))), ?_⟩
  try dsimp only [cxK, cxKn]
  have z0 := Int.emod_nonneg c (show (3 : Int) ≠ 0 by decide)
  have z1 := Int.emod_lt_of_pos c (show (0 : Int) < 3 by decide)
  refine ⟨_, rfl, _, _, rfl, rfl, (by show (0 : Int) < 3; decide), _, _, rfl, rfl, ?_⟩
  try dsimp only [gName]
  have m2 : 2 ≤ 2 + c % 3 := by (first | lia | omega)
  have m4 : 2 + c % 3 ≤ 4 := by (first | lia | omega)
  generalize 2 + c % 3 = many at m2 m4 ⊢
  have y0 := Int.emod_nonneg (c / 3) (show many ≠ 0 by (first | lia | omega))
  have y1 := Int.emod_lt_of_pos (c / 3) (show 0 < many by (first | lia | omega))
  refine ⟨_, rfl, _, _, rfl, rfl, ⟨by decide, by decide⟩, _, rfl, _, _, rfl, rfl, (by show 0 < many; (first | lia | omega)), ?_⟩
  try dsimp only [gName]
  generalize c / 3 % many = leaf at y0 y1 ⊢
  refine ⟨_, rfl, _, _, rfl, rfl, ⟨by decide, by decide⟩, ?_⟩
  refine ⟨line_le (by show 0 ≤ 1000000; decide), fun kl hkl => ?_⟩
  refine ⟨_, rfl, many, rfl, by (first | lia | omega), by (first | lia | omega), ?_⟩
  have hwl := hws.len
  refine for_range (n := many.toNat) (fun i σ H3 => Ex5 fun (rest : Int) (kv cv : Option V) (as : List Addr) (ks : List (Str × Int)) => An6 (σ = [some (.int c), some (.ref na), some (.int many), some (.int leaf), some (.int rest), some (.ref kl), kv, cv]) (L2.Same H H3) (H3 kl = some (.lst (as.map V.ref))) (KsAt H3 ks as) (ks.length = i) (∀ (j : Nat) (k : Str × Int), ks[j]? = some k → ws[j]? = some k.1 ∧ 0 ≤ k.2 ∧ k.2 ≤ 3 ∧ ((j : Int) = leaf → k.2 = 0)))
    ⟨c / 12, none, none, [], [], rfl, same_new hkl _, upd_same, .nil, rfl, fun j k hj => by simp at hj⟩ ?_ ?_
  · rintro i σ H3 hi ⟨rest, kv, cv, as, ks, rfl, s3, e3, hks, hkn, hinv⟩
    have hi4 : i < many.toNat := hi
    have x0 := Int.emod_nonneg rest (show (4 : Int) ≠ 0 by decide)
    have x1 := Int.emod_lt_of_pos rest (show (0 : Int) < 4 by decide)
    refine ⟨_, rfl, _, _, rfl, rfl, (by show (0 : Int) < 4; decide), ?_⟩
    try dsimp only [gName]
    refine ⟨_, rfl, _, _, rfl, rfl, ⟨by decide, by decide⟩, ?_⟩
    try dsimp only [gName]
    refine seq_intro (fun σ' H' => An2 (H3 = H') (Ex1 fun (ct : Int) => An4 (0 ≤ ct) (ct ≤ 3) (((i : Int) = leaf → ct = 0)) (σ' = [some (.int c), some (.ref na), some (.int many), some (.int leaf), some (.int (rest / 4)), some (.ref kl), some (.int (0 + (i : Int))), some (.int ct)]))) (fun kk hk => ?_) ?_
    · refine ⟨_, rfl, _, rfl, rfl, _, rfl, ?_⟩
      refine ite2 (fun c1 => ?_) (fun c1 => ?_)
      · exact hk _ _ ⟨rfl, 0, by decide, by decide, fun _ => rfl, rfl⟩
      · exact hk _ _ ⟨rfl, _, x0, by (first | lia | omega), fun z => absurd (decide_eq_true (by rw [← z]; congr 1; (first | lia | omega))) c1, rfl⟩
    rintro σ' H' ⟨rfl, ct, ct0, ct3, ctl, rfl⟩
    obtain ⟨x, hx⟩ : ∃ x, ws[i]? = some x := ⟨_, List.getElem?_eq_getElem (by (first | lia | omega))⟩
    have hal : ks.length = as.length := Paired.length hks
    refine ⟨_, rfl, .inl ⟨rfl, _, SqL.of e3⟩, _, rfl, _, rfl, na, _, _, .str x, rfl, rfl, SqL.of (s3 _ _ ena), at_nonneg (by (first | lia | omega)) (by rw [show (0 + (i : Int)).toNat = i by (first | lia | omega), List.getElem?_map, hx]; rfl), _, rfl, line_le (by show 2 ≤ 1000000; decide), fun p hp => ?_⟩
    have s4 : L2.Same H3 (upd H3 p (.tup [.str x, .int ct])) := same_new hp _
    have e4 : (upd H3 p (.tup [.str x, .int ct])) p = some (.tup [.str x, .int ct]) := upd_same
    generalize (upd H3 p (.tup [.str x, .int ct])) = H4 at s4 e4 ⊢
    have e34 := s4 _ _ e3
    refine ⟨kl, _, _, rfl, rfl, e34, line_big (by rw [List.length_map]; (first | lia | omega)), ?_⟩
    have kt : KT H4 (upd H4 kl (.lst (as.map V.ref ++ [.ref p]))) := kt_lst e34
    refine ⟨_, _, _, as ++ [p], ks ++ [(x, ct)], rfl, same_upd (s3.trans s4) hkl, by rw [upd_same, List.map_append]; rfl, ?_, by rw [List.length_append, hkn]; rfl, fun j k hj => ?_⟩
    · exact P2.append (P2.mp (fun _ _ e => kt _ _ (s4 _ _ e)) hks) (.cons (kt _ _ e4) .nil)
    · by_cases hji : j < ks.length
      · rw [List.getElem?_append_left hji] at hj
        exact hinv j k hj
      · have hjl := (List.getElem?_eq_some_iff.mp hj).1
        rw [List.length_append] at hjl
        have : j = ks.length := by
          have : ([(x, ct)] : List (Str × Int)).length = 1 := rfl
          (first | lia | omega)
        subst this
        rw [List.getElem?_append_right (Nat.le_refl _), Nat.sub_self] at hj
        have : (x, ct) = k := by simpa using hj
        rw [← this, hkn]
        exact ⟨hx, ct0, ct3, ctl⟩
  · rintro σ H3 ⟨rest, kv, cv, as, ks, rfl, s3, e3, hks, hkn, hinv⟩
    refine ⟨_, rfl, kl, _, rfl, .inl ⟨SqL.of e3, fun p hp => ?_⟩⟩
    have s4 := same_new hp (.tup (as.map V.ref))
    refine q p as ks _ (s3.trans s4) upd_same (hks.mono (Same.kt s4)) ⟨by (first | lia | omega), by (first | lia | omega), fun k hk => ?_, fun k hk => ?_, ?_, fun i j k l hk hl e => ?_⟩ (by (first | lia | omega))
    · obtain ⟨j, hj⟩ := List.mem_iff_getElem?.mp hk
      exact hws.low _ (List.mem_of_getElem? (hinv j k hj).1)
    · obtain ⟨j, hj⟩ := List.mem_iff_getElem?.mp hk
      exact ⟨(hinv j k hj).2.1, (hinv j k hj).2.2.1⟩
    · have hl : leaf.toNat < ks.length := by (first | lia | omega)
      exact ⟨ks[leaf.toNat], List.getElem_mem hl, (hinv leaf.toNat _ (List.getElem?_eq_getElem hl)).2.2.2 (by (first | lia | omega))⟩
    · refine hws.inj i j k.1 (hinv i k hk).1 ?_
      rw [e]
      exact (hinv j l hl).1
end
inductive Isp__law_thing (n : Nat) (vs : List V) (H : Hp) (Q : VK) (_E : XK) : Prop
  | mk (l oa : Addr) (x b : Int) (oas : List Addr) (outs : List (Str × Int)) (S C : Int) (zz0 : vs = [.ref l, .ref oa, .int S, .int C]) (zz1 : H l = some (.lst [.int x, .int b])) (zz2 : H oa = some (.tup (oas.map V.ref))) (zz3 : KsAt H outs oas) (zz4 : GoodN outs) (zz5 : S < 1000000) (zz6 : C < 1000000) (zz7 : 0 ≤ b) (zz8 : b < (n : Int)) (zz9 : ∀ (t : Th) (r : Addr) (x' b' : Int) (H' : Hp), SameB l H H' → H' l = some (.lst [.int x', .int b']) → At H' t r → t.FitS outs S C → 0 ≤ b' → (t.size : Int) + b' = b + 1 → Q (.ref r) H') : Isp__law_thing n vs H Q _E
noncomputable def sp__law_thing (n : Nat) : Sp := Isp__law_thing n
section
variable {P : Program} {w : World} {K : PySem.W.Frag} {mg : Str → Option Value} {base : Heap} (T : TX K mg)
set_option maxHeartbeats 2000000 in
theorem ok__law_thing : ∀ n : Nat, FnOk P w K mg base CX0 (n + 1) T.f__law_thing T.d__law_thing ["left", "outs", "states", "kids"] (sp__law_thing n)
  | 0 => ⟨fun _ _ _ _ h => by obtain ⟨_, _, _, _, _, _, _, _, _, _, _, _, _, _, _, h1, h2, _⟩ := h; (first | lia | omega), fun _ _ _ _ _ _ _ _ _ _ _ _ _ h => by obtain ⟨_, _, _, _, _, _, _, _, _, _, _, _, _, _, _, h1, h2, _⟩ := h; (first | lia | omega)⟩
  | n + 1 => by
    have ih := ok__law_thing n
    refine T.F__law_thing.ok sc__law_thing (fun vs H Q E h => ?_) (fun cdv A outer s H vs Q E hr h => ?_)
    · obtain ⟨l, oa, x, b, oas, outs, S, C, rfl, _⟩ := h
      rfl
    obtain ⟨l, oa, x, b, oas, outs, S, C, rfl, el, eo, hks, g, hSm, hCm, b0, b1, q⟩ := h
    refine ⟨_, (pss_cons (ps_set (i := 4) sc__law_thing.nd rfl (Or.inl rfl) (pe_op op_mod (pe_ix ix_list (pv 0) pe_int (fun _ _ => rfl)) pe_int))
      (pss_cons (ps_asg (pe_op op_fdiv (pe_ix ix_list (pv 0) pe_int (fun _ _ => rfl)) pe_int) (pg_sub (pv 0) pe_int set_list))
      (pss_cons (ps_if (PW.pt (pw_and (pt_cmpR op_gt (pv 2) pe_int (nomark _)) (pw_and (pt_cmpR op_gt (pv 3) pe_int (nomark _)) (pw_and1 (pt_cmpR op_lt (pv 4) pe_int (nomark _)))))) (pss_cons (ps_set (i := 5) sc__law_thing.nd rfl (Or.inl rfl) (pe_op op_mod (pe_ix ix_list (pv 0) pe_int (fun _ _ => rfl)) (pv 2)))
      (pss_cons (ps_asg (pe_op op_fdiv (pe_ix ix_list (pv 0) pe_int (fun _ _ => rfl)) (pv 2)) (pg_sub (pv 0) pe_int set_list))
      (pss_cons (ps_set (i := 6) sc__law_thing.nd rfl (Or.inl rfl) (pe_op op_mod (pe_ix ix_list (pv 0) pe_int (fun _ _ => rfl)) (pv 3)))
      (pss_cons (ps_asg (pe_op op_fdiv (pe_ix ix_list (pv 0) pe_int (fun _ _ => rfl)) (pv 3)) (pg_sub (pv 0) pe_int set_list))
      (pss_one (ps_ret (pe_tup (pa_cons pe_str (pa_cons (pv 5) (pa_cons (pv 6) pa_nil)))))))))) pss_nil)
      (pss_cons (ps_setC (i := 7) (N := [Str.ofString "kind", Str.ofString "left"]) (js := [none, some 0]) (g := (gName 0)) (tt := (tTest (tOp (rI0 fun i j => .bl (decide (i ≤ j))) (tOp (rIxT K) (tVar 0) (tC (.int 1))) (tOp (rIxL K) (tVar 1) (tC (.int 1)))))) (te := (tVar 0)) sc__law_thing.nd rfl (Or.inl rfl) rfl (cs_mk rfl (by decide +kernel) (by decide +kernel) rfl rfl rfl) (pi_tup (pv 1)) (fun _ _ _ _ _ _ => (pg_name (i := 0) nd_2 rfl (Or.inl rfl))) (gk_name rfl) (fun _ _ _ _ _ _ => pts_one (pt_cmpR op_le (pe_ix ix_tup (pv 0) pe_int (fun _ _ => rfl)) (pe_ix ix_list (pv 1) pe_int (fun _ _ => rfl)) (nomark _))) (fun _ _ _ _ _ _ => (pv 0)))
      (pss_cons (ps_set (i := 8) sc__law_thing.nd rfl (Or.inl rfl) (pe_ix ix_list (pv 7) (pe_op op_mod (pe_ix ix_list (pv 0) pe_int (fun _ _ => rfl)) (pe_callB call_len_seq rfl T.n_len PySem.boot_len (pa_cons (pv 7) pa_nil))) (fun _ _ => rfl)))
      (pss_cons (ps_asg (pe_op op_fdiv (pe_ix ix_list (pv 0) pe_int (fun _ _ => rfl)) (pe_callB call_len_seq rfl T.n_len PySem.boot_len (pa_cons (pv 7) pa_nil))) (pg_sub (pv 0) pe_int set_list))
      (pss_cons (ps_asg (pe_op op_sub (pe_ix ix_list (pv 0) pe_int (fun _ _ => rfl)) (pe_ix ix_tup (pv 8) pe_int (fun _ _ => rfl))) (pg_sub (pv 0) pe_int set_list))
      (pss_cons (ps_set (i := 9) sc__law_thing.nd rfl (Or.inl rfl) (pe_tup (pa_cons (pe_ix ix_tup (pv 8) pe_int (fun _ _ => rfl)) pa_nil)))
      (pss_cons (ps_for PassesOwn.never rfl (pi_range1 rfl T.n_range (pa_cons (pe_ix ix_tup (pv 8) pe_int (fun _ _ => rfl)) pa_nil)) (pg_name (i := 10) sc__law_thing.nd rfl (Or.inl rfl)) (pss_one (ps_set (i := 9) sc__law_thing.nd rfl (Or.inl rfl) (pe_op op_catA (pv 9) (pe_tup (pa_cons (pe_call (ih) (hr.mono (Nat.le_refl _)) rfl T.m__law_thing T.F__law_thing.kp T.b__law_thing .nil pass0 (pa_cons (pv 0) (pa_cons (pv 1) (pa_cons (pv 2) (pa_cons (pv 3) pa_nil))))) pa_nil))))))
      (pss_one (ps_ret (pv 9)))))))))))), ?_⟩
    try dsimp only [cxK, cxKn]
    have hkl : outs.length = oas.length := Paired.length hks
    have hk8 := g.le
    have hk1 := g.ne
    have hlo : oa ≠ l := ne_of eo el (by intro z; cases z)
    refine ⟨_, rfl, l, _, 0, .int x, rfl, rfl, SqL.of el, at0, _, _, rfl, rfl, (by show (0 : Int) < 7; decide), ?_⟩
    try dsimp only [gName]
    generalize x % 7 = digit
    refine ⟨_, rfl, l, _, 0, .int x, rfl, rfl, SqL.of el, at0, _, _, rfl, rfl, ⟨by decide, by decide⟩, _, rfl, l, _, _, 0, rfl, rfl, el, rfl, ?_⟩
    have s1 : SameB l H (upd H l (.lst [.int (x / 7), .int b])) := .set
    have e1 : (upd H l (.lst [.int (x / 7), .int b])) l = some (.lst [.int (x / 7), .int b]) := upd_same
    try dsimp only [List.set]
    generalize (upd H l (.lst [.int (x / 7), .int b])) = H1 at s1 e1 ⊢
    generalize x / 7 = x1 at e1
    have kt1 : KT H H1 := s1.kt el
    refine seq_intro (fun σ' H' => An2 (H1 = H') (σ' = [some (.ref l), some (.ref oa), some (.int S), some (.int C), some (.int digit), none, none, none, none, none, none])) (fun kk hk => ?_) ?_
    · refine if_intro (fun c H' => An2 (H1 = H') ((c = true → 0 < S ∧ 0 < C))) (fun k2 hk2 => ?_) (fun H' hb => ?_) (fun H' hb => ?_)
      · refine ⟨_, rfl, _, _, rfl, rfl, _, rfl, ?_⟩
        refine ite2 (fun c1 => ?_) (fun c1 => hk2 _ _ ⟨rfl, fun z => by cases z⟩)
        refine ⟨_, rfl, _, _, rfl, rfl, _, rfl, ?_⟩
        refine ite2 (fun c2 => ?_) (fun c2 => hk2 _ _ ⟨rfl, fun z => by cases z⟩)
        exact ⟨_, rfl, _, _, rfl, rfl, _, rfl, hk2 _ _ ⟨rfl, fun _ => ⟨of_decide_eq_true c1, of_decide_eq_true c2⟩⟩⟩
      · obtain ⟨rfl, hb⟩ := hb
        obtain ⟨hS, hC⟩ := hb rfl
        have d0 := Int.emod_nonneg x1 (show S ≠ 0 by (first | lia | omega))
        have d1 := Int.emod_lt_of_pos x1 hS
        refine ⟨_, rfl, l, _, 0, .int x1, rfl, rfl, SqL.of e1, at0, _, rfl, _, _, rfl, rfl, hS, ?_⟩
        refine ⟨_, rfl, l, _, 0, .int x1, rfl, rfl, SqL.of e1, at0, _, rfl, _, _, rfl, rfl, ⟨hS, by (first | lia | omega)⟩, _, rfl, l, _, _, 0, rfl, rfl, e1, rfl, ?_⟩
        have s2 : SameB l H1 (upd H1 l (.lst [.int (x1 / S), .int b])) := .set
        have e2 : (upd H1 l (.lst [.int (x1 / S), .int b])) l = some (.lst [.int (x1 / S), .int b]) := upd_same
        try dsimp only [List.set]
        generalize (upd H1 l (.lst [.int (x1 / S), .int b])) = H2 at s2 e2 ⊢
        generalize x1 / S = x2 at e2
        have c0 := Int.emod_nonneg x2 (show C ≠ 0 by (first | lia | omega))
        have c1 := Int.emod_lt_of_pos x2 hC
        refine ⟨_, rfl, l, _, 0, .int x2, rfl, rfl, SqL.of e2, at0, _, rfl, _, _, rfl, rfl, hC, ?_⟩
        refine ⟨_, rfl, l, _, 0, .int x2, rfl, rfl, SqL.of e2, at0, _, rfl, _, _, rfl, rfl, ⟨hC, by (first | lia | omega)⟩, _, rfl, l, _, _, 0, rfl, rfl, e2, rfl, ?_⟩
        have s3 : SameB l H2 (upd H2 l (.lst [.int (x2 / C), .int b])) := .set
        have e3 : (upd H2 l (.lst [.int (x2 / C), .int b])) l = some (.lst [.int (x2 / C), .int b]) := upd_same
        try dsimp only [List.set]
        generalize (upd H2 l (.lst [.int (x2 / C), .int b])) = H3 at s3 e3 ⊢
        refine ⟨_, rfl, _, rfl, line_le (by show 3 ≤ 1000000; decide), fun ca hca => ?_⟩
        have s4 := same_new hca (.tup [.str BB.q, .int (x1 % S), .int (x2 % C)])
        refine q (.call (x1 % S) (x2 % C)) ca _ b _ (s1.trans (s2.trans (s3.trans (.of s4)))) (s4 _ _ e3) ?_ ?_ b0 ?_
        · rw [At]
          exact upd_same
        · rw [Th.FitS]
          exact ⟨d0, d1, c0, c1⟩
        · rw [Th.size]
          show (1 : Int) + b = b + 1
          (first | lia | omega)
      · obtain ⟨rfl, _⟩ := hb
        exact hk _ _ ⟨rfl, rfl⟩
    rintro σ' H' ⟨rfl, rfl⟩
    have eo1 : H1 oa = some (.tup (oas.map V.ref)) := kt1 _ _ eo
    have hks1 := hks.mono kt1
    obtain ⟨kz, hkz, hkz0⟩ := g.zero
    refine ⟨_, rfl, oa, rfl, ⟨_, SqT.of eo1⟩, pick_kinds (K := K) (fun k => decide (k.2 ≤ b)) eo1 hks1 (by (first | lia | omega)) ⟨kz, hkz, decide_eq_true (by (first | lia | omega))⟩ (fun z ka H2 R sm hz r => ?_) (fun ka H2 R r => ⟨_, rfl, r⟩) (fun D bs H2 hD e' hb1 hb8 hbs => ?_)⟩
    · exact ⟨_, rfl, ka, _, 1, _, rfl, rfl, SqT.of hz, at1, _, rfl, l, _, 1, .int b, rfl, rfl, SqL.of (sm _ _ e1), at1, _, _, rfl, rfl, _, rfl, r⟩
    have s2 : L2.Same H1 H2 := by rw [e']; exact same_new hD _
    have eD : H2 D = some (.lst (bs.map fun z => V.ref z.2)) := by rw [e']; exact upd_same
    have hDl : D ≠ l := fun z => by rw [z, e1] at hD; cases hD
    have el2 := s2 _ _ e1
    clear e'
    have hlm : 0 < ((bs.map fun z => V.ref z.2).length : Int) := by rw [List.length_map]; (first | lia | omega)
    have y0 := Int.emod_nonneg x1 (show ((bs.map fun z => V.ref z.2).length : Int) ≠ 0 by (first | lia | omega))
    have y1 := Int.emod_lt_of_pos x1 hlm
    refine hid fun ZZ kZ => ?_
    obtain ⟨z, hz⟩ : ∃ z, bs[(x1 % ((bs.map fun z => V.ref z.2).length : Int)).toNat]? = some z := ⟨_, List.getElem?_eq_getElem (by rw [List.length_map] at y1 ⊢; (first | lia | omega))⟩
    obtain ⟨hmem, gp, eka⟩ := hbs z (List.mem_of_getElem? hz)
    obtain ⟨k0, ka⟩ := z
    refine kZ ?_
    dsimp only at hmem gp eka hz
    have hkb : k0.2 ≤ b := of_decide_eq_true gp
    have hnum := g.num k0 hmem
    refine ⟨_, rfl, _, rfl, l, _, 0, .int x1, rfl, rfl, SqL.of el2, at0, _, rfl, D, _, rfl, .inl (SqL.of eD), _, _, rfl, rfl, hlm, D, _, _, .ref ka, rfl, rfl, SqL.of eD, at_nonneg y0 (by rw [List.getElem?_map, hz]; rfl), ?_⟩
    try dsimp only [gName]
    refine ⟨_, rfl, l, _, 0, .int x1, rfl, rfl, SqL.of el2, at0, _, rfl, D, _, rfl, .inl (SqL.of eD), _, _, rfl, rfl, ⟨hlm, by rw [List.length_map]; (first | lia | omega)⟩, _, rfl, l, _, _, 0, rfl, rfl, el2, rfl, ?_⟩
    have s3 : SameB l H2 (upd H2 l (.lst [.int (x1 / ((bs.map fun z => V.ref z.2).length : Int)), .int b])) := .set
    have e3 : (upd H2 l (.lst [.int (x1 / ((bs.map fun z => V.ref z.2).length : Int)), .int b])) l = some (.lst [.int (x1 / ((bs.map fun z => V.ref z.2).length : Int)), .int b]) := upd_same
    try dsimp only [List.set]
    generalize (upd H2 l (.lst [.int (x1 / ((bs.map fun z => V.ref z.2).length : Int)), .int b])) = H3 at s3 e3 ⊢
    generalize x1 / ((bs.map fun z => V.ref z.2).length : Int) = x3 at e3
    have kt3 : KT H2 H3 := s3.kt el2
    have eka3 : H3 ka = some (.tup [.str k0.1, .int k0.2]) := kt3 _ _ (s2 _ _ eka)
    refine ⟨_, rfl, l, _, 1, .int b, rfl, rfl, SqL.of e3, at1, _, rfl, ka, _, 1, .int k0.2, rfl, rfl, SqT.of eka3, at1, _, _, rfl, rfl, _, rfl, l, _, _, 1, rfl, rfl, e3, rfl, ?_⟩
    have s4 : SameB l H3 (upd H3 l (.lst [.int x3, .int (b - k0.2)])) := .set
    have e4 : (upd H3 l (.lst [.int x3, .int (b - k0.2)])) l = some (.lst [.int x3, .int (b - k0.2)]) := upd_same
    try dsimp only [List.set]
    generalize (upd H3 l (.lst [.int x3, .int (b - k0.2)])) = H4 at s4 e4 ⊢
    have kt4 : KT H3 H4 := s4.kt e3
    have eka4 := kt4 _ _ eka3
    refine ⟨_, rfl, ka, _, 0, .str k0.1, rfl, rfl, SqT.of eka4, at0, line_le (by show 1 ≤ 1000000; decide), fun ma hma => ?_⟩
    have s5 : L2.Same H4 (upd H4 ma (.tup [.str k0.1])) := same_new hma _
    have e5 : (upd H4 ma (.tup [.str k0.1])) ma = some (.tup (.str k0.1 :: ([] : List Addr).map V.ref)) := upd_same
    try dsimp only
    generalize (upd H4 ma (.tup [.str k0.1])) = H5 at s5 e5 ⊢
    have kt15 : KT H1 H5 := (Same.kt s2).trans (kt3.trans (kt4.trans (Same.kt s5)))
    have eka5 := s5 _ _ eka4
    have el5 := s5 _ _ e4
    have s05 : SameB l H H5 := s1.trans ((SameB.of s2).trans (s3.trans (s4.trans (.of s5))))
    refine ⟨_, rfl, ka, _, 1, _, rfl, rfl, SqT.of eka5, at1, k0.2, rfl, by (first | lia | omega), by (first | lia | omega), ?_⟩
    refine for_range (n := k0.2.toNat) (fun i σ H6 => Ex6 fun (kv : Option V) (ma : Addr) (bs' : List Addr) (ts : List Th) (x' b' : Int) => An9 (σ = [some (.ref l), some (.ref oa), some (.int S), some (.int C), some (.int digit), none, none, some (.ref D), some (.ref ka), some (.ref ma), kv]) (SameB l H5 H6) (H6 l = some (.lst [.int x', .int b'])) (H6 ma = some (.tup (.str k0.1 :: bs'.map V.ref))) (Ats H6 ts bs') (ts.length = i) ((∀ t ∈ ts, t.FitS outs S C)) (0 ≤ b') ((sizes ts : Int) + b' = b - k0.2 + (i : Int)))
      ⟨none, ma, [], [], x3, b - k0.2, rfl, .refl, el5, e5, .nil, rfl, (fun t ht => by cases ht), by (first | lia | omega), by rw [sizes]; show (0 : Int) + (b - k0.2) = b - k0.2 + 0; (first | lia | omega)⟩ ?_ ?_
    · rintro i σ H6 hi ⟨kv, ma, bs', ts, x', b', rfl, s6, el6, ema, hts, htl, hall, hb0, hsum⟩
      have hi3 : i < k0.2.toNat := hi
      have kt6 : KT H5 H6 := s6.kt el5
      have hsz := len_sizes ts
      refine ⟨_, rfl, _, rfl, _, rfl, _, rfl, _, rfl, l, oa, x', b', oas, outs, S, C, rfl, el6, (kt15.trans kt6) _ _ eo1, hks1.mono (kt15.trans kt6), g, hSm, hCm, hb0, by (first | lia | omega), fun t r x7 b7 H7 s7 el7 hat hfit hb7 hsz7 => ?_⟩
      have kt7 : KT H6 H7 := s7.kt el6
      refine ⟨line_le (by show 1 ≤ 1000000; decide), fun p1 hp1 => ?_⟩
      have s8 : L2.Same H7 (upd H7 p1 (.tup [.ref r])) := same_new hp1 _
      have e8 : (upd H7 p1 (.tup [.ref r])) p1 = some (.tup [.ref r]) := upd_same
      generalize (upd H7 p1 (.tup [.ref r])) = H8 at s8 e8 ⊢
      have hbl : bs'.length = ts.length := hts.length
      refine catT (s8 _ _ (kt7 _ _ ema)) e8 (by rw [List.length_cons, List.length_map]; show bs'.length + 1 + 1 ≤ 1000000; (first | lia | omega)) fun p H9 s9 e9 => ?_
      have s89 := s8.trans s9
      refine ⟨_, p, bs' ++ [r], ts ++ [t], x7, b7, rfl, s6.trans (s7.trans (.of s89)), s89 _ _ el7, ?_, ?_, ?_, ?_, hb7, ?_⟩
      · rw [e9, List.map_append]; rfl
      · exact (hts.mono (kt7.trans (Same.kt s89))).append (.cons (hat.mono (Same.kt s89)) .nil)
      · rw [List.length_append, htl]; rfl
      · intro u hu
        rcases List.mem_append.mp hu with hu | hu
        · exact hall u hu
        · rw [List.mem_singleton.mp hu]
          exact hfit
      · rw [sizes_append, sizes, sizes]
        (first | lia | omega)
    · rintro σ H6 ⟨kv, ma, bs', ts, x', b', rfl, s6, el6, ema, hts, htl, hall, hb0, hsum⟩
      have hlow := (g.low k0 hmem).1
      refine ⟨_, rfl, q (.knot k0.1 ts) ma x' b' H6 (s05.trans s6) el6 ?_ ?_ hb0 ?_⟩
      · rw [At]
        exact ⟨low_q hlow, bs', ema, hts⟩
      · rw [Th.FitS]
        refine ⟨?_, FitSs.of hall⟩
        have : (k0.1, (ts.length : Int)) = k0 := by
          rw [htl]
          exact Prod.ext rfl (by show ((k0.2.toNat : Nat) : Int) = k0.2; (first | lia | omega))
        rw [this]
        exact hmem
      · rw [Th.size]
        have : ((k0.2.toNat : Nat) : Int) = k0.2 := by (first | lia | omega)
        (first | lia | omega)
end
noncomputable def PlAt (H : Hp) (p : List Int) (b : Addr) : Prop := H b = some (.tup (p.map V.int))
theorem PlAt.mono {H H' : Hp} (k : KT H H') {p : List Int} {b : Addr} (h : PlAt H p b) : PlAt H' p b := k _ _ h
inductive Isp__law_places (n : Nat) (vs : List V) (H : Hp) (Q : VK) (_E : XK) : Prop
  | mk (a : Addr) (t : Th) (zz0 : vs = [.ref a]) (zz1 : At H t a) (zz2 : t.tall ≤ n) (zz3 : t.size ≤ 1000) (zz4 : ∀ (r : Addr) (ps : List (List Int)) (bs : List Addr) (H' : Hp), L2.Same H H' → H r = none → H' r = some (.lst (bs.map V.ref)) → Paired (PlAt H') ps bs → 1 ≤ ps.length → ps.length ≤ t.size → (∀ p ∈ ps, p.length + 1 ≤ t.tall ∧ ∃ u, t.sub p = some u) → Q (.ref r) H') : Isp__law_places n vs H Q _E
noncomputable def sp__law_places (n : Nat) : Sp := Isp__law_places n
section
variable {P : Program} {w : World} {K : PySem.W.Frag} {mg : Str → Option Value} {base : Heap} (T : TX K mg)
set_option maxHeartbeats 1000000 in
theorem ok__law_places : ∀ n : Nat, FnOk P w K mg base CX0 n T.f__law_places T.d__law_places ["thing"] (sp__law_places n)
  | 0 => ⟨fun _ _ _ _ h => by obtain ⟨_, t, _, _, h1, _⟩ := h; have := t.tall_eq; (first | lia | omega), fun _ _ _ _ _ _ _ _ _ _ _ _ _ h => by obtain ⟨_, t, _, _, h1, _⟩ := h; have := t.tall_eq; (first | lia | omega)⟩
  | n + 1 => by
    have ih := ok__law_places n
    refine T.F__law_places.ok sc__law_places (fun vs H Q E h => ?_) (fun cdv A outer s H vs Q E hr h => ?_)
    · obtain ⟨a, t, rfl, _⟩ := h
      rfl
    obtain ⟨a, t, rfl, hA, htl, hsz, q⟩ := h
    refine ⟨_, (pss_cons (ps_set (i := 1) sc__law_places.nd rfl (Or.inl rfl) (pe_lst (pa_cons (pe_tup pa_nil) pa_nil)))
      (pss_cons (ps_if (pt_cmpR op_ne (pe_ix ix_tup (pv 0) pe_int (fun _ _ => rfl)) pe_str (nomark _)) (pss_one (ps_for PassesOwn.never rfl (pi_range2 rfl T.n_range (pa_cons pe_int (pa_cons (pe_callB call_len_seq rfl T.n_len PySem.boot_len (pa_cons (pv 0) pa_nil)) pa_nil))) (pg_name (i := 2) sc__law_places.nd rfl (Or.inr rfl)) (pss_one (ps_set (i := 1) sc__law_places.nd rfl (Or.inl rfl) (pe_op op_cat (pv 1) (pe_comp (N := [Str.ofString "place", Str.ofString "k"]) (js := [none, some 2]) (g := (gName 0)) (tt := tNoTest) (te := (tOp (rCatA K) (tTup (tCons (tOp (rI0 fun i j => .int (i - j)) (tVar 1) (tC (.int 1))) tNil)) (tVar 0))) rfl (cs_mk rfl (by decide +kernel) (by decide +kernel) rfl rfl rfl) (pi_list (pe_call (ih) (hr.mono (Nat.le_refl _)) rfl T.m__law_places T.F__law_places.kp T.b__law_places .nil pass0 (pa_cons (pe_ix ix_tup (pv 0) (pv 2) (fun _ _ => rfl)) pa_nil))) (fun _ _ _ _ _ _ => (pg_name (i := 0) nd_3 rfl (Or.inl rfl))) (gk_name rfl) (fun _ _ _ _ _ _ => pts_nil) (fun _ _ _ _ _ _ => (pe_op op_catA (pe_tup (pa_cons (pe_op op_sub (pv 1) pe_int) pa_nil)) (pv 0))))))))) pss_nil)
      (pss_one (ps_ret (pv 1))))), ?_⟩
    try dsimp only [cxK, cxKn]
    refine ⟨line_le (by show 0 ≤ 1000000; decide), fun ep hep => ?_⟩
    have s1 : L2.Same H (upd H ep (.tup [])) := same_new hep _
    have e1 : PlAt (upd H ep (.tup [])) [] ep := upd_same
    generalize (upd H ep (.tup [])) = H1 at s1 e1 ⊢
    refine ⟨line_le (by show 1 ≤ 1000000; decide), fun fl hfl => ?_⟩
    have s2 : L2.Same H1 (upd H1 fl (.lst [.ref ep])) := same_new hfl _
    have e2 : (upd H1 fl (.lst [.ref ep])) fl = some (.lst ([ep].map V.ref)) := upd_same
    have nfl : H fl = none := s1.free hfl
    try dsimp only [gName]
    generalize (upd H1 fl (.lst [.ref ep])) = H2 at s2 e2 ⊢
    have s12 := s1.trans s2
    have hA2 := hA.mono (Same.kt s12)
    cases t with
    | call sn kn =>
      rw [At] at hA2
      refine ⟨_, rfl, a, _, 0, .str BB.q, rfl, rfl, SqT.of hA2, at0, rfl, _, rfl, ?_⟩
      refine iteF ?_
      refine ⟨_, rfl, q fl [[]] [ep] H2 s12 nfl e2 (.cons (e1.mono (Same.kt s2)) .nil) (Nat.le_refl _) (by rw [Th.size]; exact Nat.le_refl _) (fun p hp => ?_)⟩
      rw [List.mem_singleton.mp hp, Th.tall]
      exact ⟨Nat.le_refl _, _, sub_nil _⟩
    | knot m ks =>
      rw [At] at hA2
      refine hid fun ZZ kZ => ?_
      obtain ⟨hmq, kas, ea, hkas⟩ := hA2
      refine kZ ?_
      rw [Th.tall] at htl
      rw [Th.size] at hsz
      have hkl := hkas.length
      have hks := len_sizes ks
      refine ⟨_, rfl, a, _, 0, .str m, rfl, rfl, SqT.of ea, at0, rfl, _, rfl, ?_⟩
      have hne : (!decide (V.str m = V.str (Str.ofString "?"))) = true := by
        have : decide (V.str m = V.str (Str.ofString "?")) = false := decide_eq_false fun z => hmq (V.str.inj z)
        rw [this]; rfl
      rw [hne]
      refine iteT ?_
      refine ⟨_, rfl, a, _, rfl, .inr (SqT.of ea), 1, _, rfl, ⟨by decide, by decide, by rw [List.length_cons, List.length_map]; (first | lia | omega), by rw [List.length_cons, List.length_map]; (first | lia | omega)⟩, ?_⟩
      have hrn : ((((V.str m :: kas.map V.ref).length : Nat) : Int) - 1).toNat = ks.length := by rw [List.length_cons, List.length_map]; (first | lia | omega)
      rw [hrn]
      refine for_range (n := ks.length) (fun i σ H3 => Ex4 fun (kv : Option V) (fl : Addr) (ps : List (List Int)) (bs : List Addr) => An9 (σ = [some (.ref a), some (.ref fl), kv]) (L2.Same H H3) (H fl = none) (H3 fl = some (.lst (bs.map V.ref))) (Paired (PlAt H3) ps bs) (1 ≤ ps.length) (ps.length ≤ 1 + sizes (ks.take i)) ((∀ p ∈ ps, p.length + 1 ≤ talls ks + 1 ∧ ∃ u, (Th.knot m ks).sub p = some u)) (L2.Same H2 H3))
        ⟨none, fl, [[]], [ep], rfl, s12, nfl, e2, .cons (e1.mono (Same.kt s2)) .nil, Nat.le_refl _, by rw [List.take_zero, sizes]; exact Nat.le_refl _, (fun p hp => by rw [List.mem_singleton.mp hp]; exact ⟨by show 0 + 1 ≤ talls ks + 1; (first | lia | omega), _, sub_nil _⟩), .refl _⟩ ?_ ?_
      · rintro i σ H3 hi ⟨kv, fl, ps, bs, rfl, s3, nfl, e3, hps, hp1, hpl, hall, s23⟩
        have hi' : i < ks.length := hi
        have ea3 := s23 _ _ ea
        have hkas3 := hkas.mono (Same.kt s23)
        refine hid fun ZZ kZ => ?_
        obtain ⟨ka, hka⟩ : ∃ ka, kas[i]? = some ka := ⟨_, List.getElem?_eq_getElem (by (first | lia | omega))⟩
        obtain ⟨u, hu, atu⟩ := hkas3.get hka
        refine kZ ?_
        have hum := List.mem_of_getElem? hu
        have htu := talls_le hum
        have hsu := size_mem hum
        have hst : sizes (ks.take i) + u.size ≤ sizes ks := by
          have h1 : sizes (ks.take (i + 1)) + sizes (ks.drop (i + 1)) = sizes ks := by rw [← sizes_append, List.take_append_drop]
          rw [take_snoc hu, sizes_append, sizes, sizes] at h1
          (first | lia | omega)
        refine ⟨_, rfl, _, rfl, _, rfl, a, _, _, .ref ka, rfl, rfl, SqT.of ea3, at_nonneg (by (first | lia | omega)) (by rw [show (1 + (i : Int)).toNat = i + 1 by (first | lia | omega), List.getElem?_cons_succ, List.getElem?_map, hka]; rfl), ka, u, rfl, atu, by (first | lia | omega), by (first | lia | omega), fun r ps2 bs2 H4 s4 nr er hps2 hp21 hp2l hall2 => ?_⟩
        have hbl2 : ps2.length = bs2.length := Paired.length hps2
        have hbl : ps.length = bs.length := Paired.length hps
        refine ⟨r, rfl, ⟨_, SqL.of er⟩, comp_nw (F := PlAt) (xs := bs2.map V.ref) (ps2.map fun p => (i : Int) :: p) (fun H1 H2 z p kt h => h.mono kt) (by rw [List.length_map, List.length_map]; exact hbl2) (by rw [List.length_map]; (first | lia | omega)) (fun j Hx sx hj => ⟨_, _, SqL.of (sx _ _ er), List.getElem?_eq_getElem hj⟩) (fun Hx sx => ⟨_, SqL.of (sx _ _ er), Nat.le_refl _⟩) (fun j Hx x Hy sx hj hy => ⟨hy.1, hy.2 _ (SqL.of (sx _ _ er))⟩) (fun j x z Hx R W' hx hzz sx hR => ?_) (fun D H5 bs3 hD s5 eD hpD => ?_)⟩
        · obtain ⟨pb, rfl, hpb⟩ := get_ref hx
          rw [List.getElem?_map] at hzz
          obtain ⟨p, hp, rfl⟩ := Option.map_eq_some_iff.mp hzz
          have ep2 : PlAt Hx p pb := (pair_at hps2 hp hpb).mono (Same.kt sx)
          have hpl2 := (hall2 p (List.mem_of_getElem? hp)).1
          have htsu := tall_size u
          refine ⟨_, rfl, _, _, rfl, rfl, line_le (by show 1 ≤ 1000000; decide), fun k1 hk1 => ?_⟩
          have t1 : L2.Same Hx (upd Hx k1 (.tup [.int (1 + (i : Int) - 1)])) := same_new hk1 _
          have f1 : (upd Hx k1 (.tup [.int (1 + (i : Int) - 1)])) k1 = some (.tup [.int (i : Int)]) := by rw [upd_same, show 1 + (i : Int) - 1 = (i : Int) by (first | lia | omega)]
          try dsimp only
          generalize (upd Hx k1 (.tup [.int (1 + (i : Int) - 1)])) = Hy at t1 f1 ⊢
          refine ⟨_, rfl, ?_⟩
          refine catT f1 (t1 _ _ ep2) (by rw [List.length_map]; show 1 + p.length ≤ 1000000; (first | lia | omega)) fun p3 H7 s7 e7 => ?_
          exact hR H7 p3 (t1.trans s7) e7
        have hbl3 : (ps2.map fun p => (i : Int) :: p).length = bs3.length := Paired.length hpD
        rw [List.length_map] at hbl3
        have e35 := (s4.trans s5) _ _ e3
        refine ⟨fl, D, _, _, rfl, rfl, e35, eD, line_le (by rw [List.length_map, List.length_map]; (first | lia | omega)), fun nl hnl => ?_⟩
        have s6 : L2.Same H5 (upd H5 nl (.lst (bs.map V.ref ++ bs3.map V.ref))) := same_new hnl _
        have s46 := s4.trans (s5.trans s6)
        refine ⟨_, nl, ps ++ ps2.map (fun p => (i : Int) :: p), bs ++ bs3, rfl, s3.trans s46, (s3.trans (s4.trans s5)).free hnl, by rw [upd_same, List.map_append], ?_, ?_, ?_, fun p hp => ?_, s23.trans s46⟩
        · exact P2.append (P2.mp (fun _ _ e => PlAt.mono (Same.kt s46) e) hps) (P2.mp (fun _ _ e => PlAt.mono (Same.kt s6) e) hpD)
        · rw [List.length_append]; (first | lia | omega)
        · rw [List.length_append, List.length_map, take_snoc hu, sizes_append, sizes, sizes]
          (first | lia | omega)
        · rcases List.mem_append.mp hp with hp | hp
          · exact hall p hp
          · obtain ⟨p2, hp2, rfl⟩ := List.mem_map.mp hp
            obtain ⟨h1, v, hv⟩ := hall2 p2 hp2
            refine ⟨by rw [List.length_cons]; (first | lia | omega), v, ?_⟩
            rw [sub_cons (u := u) (by (first | lia | omega)) (by show ks[(i : Int).toNat]? = some u; rw [Int.toNat_natCast]; exact hu)]
            exact hv
      · rintro σ H3 ⟨kv, fl, ps, bs, rfl, s3, nfl, e3, hps, hp1, hpl, hall, s23⟩
        rw [List.take_of_length_le (Nat.le_refl _)] at hpl
        exact ⟨_, rfl, q fl ps bs H3 s3 nfl e3 hps hp1 (by rw [Th.size]; (first | lia | omega)) (by rw [Th.tall]; exact hall)⟩
end
inductive Isp__law_put (n : Nat) (vs : List V) (H : Hp) (Q : VK) (_E : XK) : Prop
  | mk (a pa oa : Addr) (t o u : Th) (p : List Int) (zz0 : vs = [.ref a, .ref pa, .ref oa]) (zz1 : At H t a) (zz2 : H pa = some (.tup (p.map V.int))) (zz3 : At H o oa) (zz4 : t.sub p = some u) (zz5 : p.length < n) (zz6 : t.size ≤ 1000) (zz7 : ∀ (r : Addr) (H' : Hp), L2.Same H H' → At H' (t.put p o) r → Q (.ref r) H') : Isp__law_put n vs H Q _E
noncomputable def sp__law_put (n : Nat) : Sp := Isp__law_put n
section
variable {P : Program} {w : World} {K : PySem.W.Frag} {mg : Str → Option Value} {base : Heap} (T : TX K mg)
set_option maxHeartbeats 1000000 in
theorem ok__law_put : ∀ n : Nat, FnOk P w K mg base CX0 n T.f__law_put T.d__law_put ["thing", "place", "other"] (sp__law_put n)
  | 0 => ⟨fun _ _ _ _ h => by obtain ⟨_, _, _, _, _, _, _, _, _, _, _, _, h1, _⟩ := h; (first | lia | omega), fun _ _ _ _ _ _ _ _ _ _ _ _ _ h => by obtain ⟨_, _, _, _, _, _, _, _, _, _, _, _, h1, _⟩ := h; (first | lia | omega)⟩
  | n + 1 => by
    have ih := ok__law_put n
    refine T.F__law_put.ok sc__law_put (fun vs H Q E h => ?_) (fun cdv A outer s H vs Q E hr h => ?_)
    · obtain ⟨a, pa, oa, t, o, u, p, rfl, _⟩ := h
      rfl
    obtain ⟨a, pa, oa, t, o, u, p, rfl, hA, epa, hO, hsub, hpl, hsz, q⟩ := h
    refine ⟨_, (pss_cons (ps_if (pt_cmpR op_eq (pe_callB call_len_seq rfl T.n_len PySem.boot_len (pa_cons (pv 1) pa_nil)) pe_int (nomark _)) (pss_one (ps_ret (pv 2))) pss_nil)
      (pss_cons (ps_set (i := 3) sc__law_put.nd rfl (Or.inl rfl) (pe_op op_add (pe_ix ix_tup (pv 1) pe_int (fun _ _ => rfl)) pe_int))
      (pss_one (ps_ret (pe_op op_catA (pe_op op_catA (pe_slice sl_tup (pv 0) po_none (po_some (pv 3))) (pe_tup (pa_cons (pe_call (ih) (hr.mono (Nat.le_refl _)) rfl T.m__law_put T.F__law_put.kp T.b__law_put .nil pass0 (pa_cons (pe_ix ix_tup (pv 0) (pv 3) (fun _ _ => rfl)) (pa_cons (pe_slice sl_tup (pv 1) (po_some pe_int) po_none) (pa_cons (pv 2) pa_nil)))) pa_nil))) (pe_slice sl_tup (pv 0) (po_some (pe_op op_add (pv 3) pe_int)) po_none)))))), ?_⟩
    try dsimp only [cxK, cxKn]
    refine ⟨_, rfl, pa, _, rfl, .inr (SqT.of epa), rfl, _, rfl, ?_⟩
    cases p with
    | nil =>
      refine iteT ?_
      exact ⟨_, rfl, q oa H (.refl _) (by rw [put_nil]; exact hO)⟩
    | cons i r =>
      have hl0 : decide (V.int (((((i :: r).map V.int).length : Nat)) : Int) = V.int 0) = false := decide_eq_false fun z => by
        have := V.int.inj z
        rw [List.length_map, List.length_cons] at this
        (first | lia | omega)
      rw [hl0]
      refine iteF ?_
      refine hid fun ZZ kZ => ?_
      obtain ⟨h0, v, hv, hsv⟩ := sub_inv hsub
      refine kZ ?_
      cases t with
      | call sn kn => rw [Th.kids] at hv; simp at hv
      | knot m ks =>
      rw [Th.kids] at hv
      have hA' := hA
      rw [At] at hA'
      obtain ⟨hmq, kas, ea, hkas⟩ := hA'
      rw [Th.size] at hsz
      have hkl := hkas.length
      have hks := len_sizes ks
      have hil := (List.getElem?_eq_some_iff.mp hv).1
      obtain ⟨j, rfl⟩ : ∃ j : Nat, i = (j : Int) := ⟨_, (Int.toNat_of_nonneg h0).symm⟩
      rw [Int.toNat_natCast] at hv hil
      refine ⟨_, rfl, pa, _, 0, .int (j : Int), rfl, rfl, SqT.of epa, at0, _, _, rfl, rfl, ?_⟩
      try dsimp only [gName]
      have ej : (j : Int) + 1 = ((j + 1 : Nat) : Int) := by (first | lia | omega)
      rw [ej]
      refine ⟨_, rfl, _, rfl, _, rfl, a, _, rfl, SqT.of ea, ?_, fun p1 hp1 => ?_⟩
      · rintro ⟨_, z⟩
        rw [HT.sIx_nat, List.length_cons, List.length_map] at z
        (first | lia | omega)
      try dsimp only
      have hc1 : cutV (V.str m :: kas.map V.ref) none (some ((j + 1 : Nat) : Int)) = V.str m :: (kas.take j).map V.ref := by
        rw [cutV_to (by rw [List.length_cons, List.length_map]; (first | lia | omega)), List.take_succ_cons, List.map_take]
      rw [hc1]
      have s1 : L2.Same H (upd H p1 (.tup (V.str m :: (kas.take j).map V.ref))) := same_new hp1 _
      have e1 : (upd H p1 (.tup (V.str m :: (kas.take j).map V.ref))) p1 = some (.tup (V.str m :: (kas.take j).map V.ref)) := upd_same
      generalize (upd H p1 (.tup (V.str m :: (kas.take j).map V.ref))) = H1 at s1 e1 ⊢
      have ea1 := s1 _ _ ea
      refine hid fun ZZ kZ => ?_
      obtain ⟨ka, hka⟩ : ∃ ka, kas[j]? = some ka := ⟨_, List.getElem?_eq_getElem (by (first | lia | omega))⟩
      obtain ⟨v', hv', atv⟩ := (hkas.mono (Same.kt s1)).get hka
      refine kZ ?_
      rw [hv] at hv'
      cases hv'
      refine ⟨_, rfl, _, rfl, a, _, _, .ref ka, rfl, rfl, SqT.of ea1, at_nonneg (by (first | lia | omega)) (by rw [Int.toNat_natCast, List.getElem?_cons_succ, List.getElem?_map, hka]; rfl), ?_⟩
      refine ⟨_, rfl, 1, rfl, pa, _, rfl, SqT.of (s1 _ _ epa), ?_, fun p2 hp2 => ?_⟩
      · rintro ⟨z, _⟩
        rw [List.map_cons, List.length_cons, show (1 : Int) = ((1 : Nat) : Int) by rfl, HT.sIx_nat] at z
        (first | lia | omega)
      try dsimp only
      rw [List.map_cons, cut_tail]
      have s2 : L2.Same H1 (upd H1 p2 (.tup (r.map V.int))) := same_new hp2 _
      have e2 : (upd H1 p2 (.tup (r.map V.int))) p2 = some (.tup (r.map V.int)) := upd_same
      generalize (upd H1 p2 (.tup (r.map V.int))) = H2 at s2 e2 ⊢
      have s12 := s1.trans s2
      have hvs := size_mem (List.mem_of_getElem? hv)
      rw [List.length_cons] at hpl
      refine ⟨_, rfl, ka, p2, oa, v, o, u, r, rfl, atv.mono (Same.kt s2), e2, hO.mono (Same.kt s12), hsv, by (first | lia | omega), by (first | lia | omega), fun r3 H3 s3 h3 => ?_⟩
      refine ⟨line_le (by show 1 ≤ 1000000; decide), fun p4 hp4 => ?_⟩
      have s4 : L2.Same H3 (upd H3 p4 (.tup [.ref r3])) := same_new hp4 _
      have e4 : (upd H3 p4 (.tup [.ref r3])) p4 = some (.tup [.ref r3]) := upd_same
      generalize (upd H3 p4 (.tup [.ref r3])) = H4 at s4 e4 ⊢
      refine catT ((s2.trans (s3.trans s4)) _ _ e1) e4 (by rw [List.length_cons, List.length_map, List.length_take]; show min j kas.length + 1 + 1 ≤ 1000000; (first | lia | omega)) fun p5 H5 s5 e5 => ?_
      have s05 := s12.trans (s3.trans (s4.trans s5))
      refine ⟨_, rfl, _, rfl, _, _, rfl, rfl, _, rfl, a, _, rfl, SqT.of (s05 _ _ ea), ?_, fun p6 hp6 => ?_⟩
      · rintro ⟨z, _⟩
        have ej2 : ((j + 1 : Nat) : Int) + 1 = ((j + 2 : Nat) : Int) := by (first | lia | omega)
        rw [ej2, HT.sIx_nat, List.length_cons, List.length_map] at z
        (first | lia | omega)
      try dsimp only
      have hc2 : cutV (V.str m :: kas.map V.ref) (some (((j + 1 : Nat) : Int) + 1)) none = (kas.drop (j + 1)).map V.ref := by
        rw [show ((j + 1 : Nat) : Int) + 1 = ((j + 2 : Nat) : Int) by (first | lia | omega), cutV_from (by rw [List.length_cons, List.length_map]; (first | lia | omega)), List.drop_succ_cons, List.map_drop]
      rw [hc2]
      have s6 : L2.Same H5 (upd H5 p6 (.tup ((kas.drop (j + 1)).map V.ref))) := same_new hp6 _
      have e6 : (upd H5 p6 (.tup ((kas.drop (j + 1)).map V.ref))) p6 = some (.tup ((kas.drop (j + 1)).map V.ref)) := upd_same
      generalize (upd H5 p6 (.tup ((kas.drop (j + 1)).map V.ref))) = H6 at s6 e6 ⊢
      refine catT (s6 _ _ e5) e6 (by rw [List.length_append, List.length_cons, List.length_map, List.length_take, List.length_map, List.length_drop]; show min j kas.length + 1 + 1 + (kas.length - (j + 1)) ≤ 1000000; (first | lia | omega)) fun p7 H7 s7 e7 => ?_
      have s37 := s4.trans (s5.trans (s6.trans s7))
      have s07 := s05.trans (s6.trans s7)
      refine q p7 H7 s07 ?_
      have hv2 : (Th.knot m ks).kids[(j : Int).toNat]? = some v := by rw [Int.toNat_natCast]; exact hv
      rw [put_cons hv2, At]
      refine ⟨hmq, kas.set j r3, ?_, ?_⟩
      · rw [e7]
        have : kas.set j r3 = kas.take j ++ r3 :: kas.drop (j + 1) := List.set_eq_take_append_cons_drop .. |>.trans (if_pos (by (first | lia | omega)))
        rw [this]
        simp [Th.nm]
      · rw [Int.toNat_natCast]
        exact (hkas.mono (Same.kt s07)).set _ (h3.mono (Same.kt s37))
end
theorem sameB_new {l : Addr} {o : HO} {H H' : Hp} (hl : H l = none) (h : SameB l (upd H l o) H') : L2.Same H H' := fun b ob e => h b ob (ne_of_none e hl) (by rw [upd_ne (ne_of_none e hl)]; exact e)
noncomputable def RowsW (ins outs : List (Str × Int)) (S : Int) (m : Nat) (rows : List (List Th)) : Prop := ∀ row ∈ rows, row.length = ins.length ∧ ∀ (j : Nat) (t : Th) (k : Str × Int), row[j]? = some t → ins[j]? = some k → t.FitS outs S k.2 ∧ t.size ≤ m
inductive Isp__law_rows (vs : List V) (H : Hp) (Q : VK) (_E : XK) : Prop
  | mk (ca ia oa : Addr) (cs : List Int) (ias oas : List Addr) (ins outs : List (Str × Int)) (S : Int) (zz0 : vs = [.ref ca, .ref ia, .ref oa, .int S]) (zz1 : H ca = some (.lst (cs.map V.int))) (zz2 : H ia = some (.tup (ias.map V.ref))) (zz3 : KsAt H ins ias) (zz4 : GoodN ins) (zz5 : H oa = some (.tup (oas.map V.ref))) (zz6 : KsAt H outs oas) (zz7 : GoodN outs) (zz8 : 0 ≤ S) (zz9 : S ≤ 1000) (zz10 : S.toNat * (ins.length + 1) ≤ cs.length) (zz11 : cs.length ≤ 100000) (zz12 : ∀ (r : Addr) (ras : List Addr) (rows : List (List Th)) (H' : Hp), L2.Same H H' → H' r = some (.tup (ras.map V.ref)) → Paired (RowAt H') rows ras → (rows.length : Int) = S → RowsW ins outs S 7 rows → Q (.ref r) H') : Isp__law_rows  vs H Q _E
noncomputable def sp__law_rows : Sp := Isp__law_rows 
section
variable {P : Program} {w : World} {K : PySem.W.Frag} {mg : Str → Option Value} {base : Heap} (T : TX K mg)
set_option maxHeartbeats 4000000 in
theorem ok__law_rows : FnOk P w K mg base CX0 10 T.f__law_rows T.d__law_rows ["cells", "ins", "outs", "states"] sp__law_rows := by
  refine T.F__law_rows.ok sc__law_rows (fun vs H Q E h => ?_) (fun cdv A outer s H vs Q E hr h => ?_)
  · obtain ⟨ca, ia, oa, cs, ias, oas, ins, outs, S, rfl, _⟩ := h
    rfl
  obtain ⟨ca, ia, oa, cs, ias, oas, ins, outs, S, rfl, eca, eia, hki, gi, eoa, hko, go, S0, S1, hcl, hcm, q⟩ := h
  refine ⟨_, (pss_cons (ps_set (i := 4) sc__law_rows.nd rfl (Or.inl rfl) (pe_lst pa_nil))
      (pss_cons (ps_for PassesOwn.never rfl (pi_range1 rfl T.n_range (pa_cons (pv 3) pa_nil)) (pg_name (i := 5) sc__law_rows.nd rfl (Or.inl rfl)) (pss_cons (ps_set (i := 6) sc__law_rows.nd rfl (Or.inl rfl) (pe_slice sl_list (pv 0) (po_some (pe_op op_mul (pv 5) (pe_op op_add (pe_callB call_len_seq rfl T.n_len PySem.boot_len (pa_cons (pv 1) pa_nil)) pe_int))) po_none))
      (pss_cons (ps_set (i := 7) sc__law_rows.nd rfl (Or.inl rfl) (pe_call (ok__law_thing T 6) (hr.mono (by first | decide | (first | lia | omega))) rfl T.m__law_thing T.F__law_thing.kp T.b__law_thing .nil pass0 (pa_cons (pe_lst (pa_cons (pe_call (ok__law_mixed T) (hr.mono (by first | decide | (first | lia | omega))) rfl T.m__law_mixed T.F__law_mixed.kp T.b__law_mixed .nil pass0 (pa_cons (pe_ix ix_list (pv 6) pe_int (fun _ _ => rfl)) (pa_cons (pe_op op_mul pe_int (pv 5)) pa_nil))) (pa_cons pe_int pa_nil))) (pa_cons (pv 2) (pa_cons pe_int (pa_cons pe_int pa_nil))))))
      (pss_cons (ps_set (i := 8) sc__law_rows.nd rfl (Or.inl rfl) (pe_call (ok__law_places T 8) (hr.mono (by first | decide | (first | lia | omega))) rfl T.m__law_places T.F__law_places.kp T.b__law_places .nil pass0 (pa_cons (pv 7) pa_nil)))
      (pss_cons (ps_set (i := 9) sc__law_rows.nd rfl (Or.inl rfl) (pe_lst pa_nil))
      (pss_cons (ps_for PassesOwn.never rfl (pi_range1 rfl T.n_range (pa_cons (pe_callB call_len_seq rfl T.n_len PySem.boot_len (pa_cons (pv 1) pa_nil)) pa_nil)) (pg_name (i := 10) sc__law_rows.nd rfl (Or.inl rfl)) (pss_cons (ps_set (i := 11) sc__law_rows.nd rfl (Or.inl rfl) (pe_call (ok__law_mixed T) (hr.mono (by first | decide | (first | lia | omega))) rfl T.m__law_mixed T.F__law_mixed.kp T.b__law_mixed .nil pass0 (pa_cons (pe_ix ix_list (pv 6) (pe_op op_add (pv 10) pe_int) (fun _ _ => rfl)) (pa_cons (pe_op op_add (pe_op op_mul pe_int (pv 10)) (pv 5)) pa_nil))))
      (pss_one (ps_if (pt_cmpR op_eq (pe_op op_mod (pv 11) pe_int) pe_int (nomark _)) (pss_one (ps_expr (pe_bm PySem.F.plainAttrs_list PySem.F.slot_list_append PySem.F.type_list_append mt_append (pv 9) (pa_cons (pe_call (ok__law_thing T 6) (hr.mono (by first | decide | (first | lia | omega))) rfl T.m__law_thing T.F__law_thing.kp T.b__law_thing .nil pass0 (pa_cons (pe_lst (pa_cons (pe_op op_fdiv (pv 11) pe_int) (pa_cons pe_int pa_nil))) (pa_cons (pv 2) (pa_cons (pv 3) (pa_cons (pe_ix ix_tup (pe_ix ix_tup (pv 1) (pv 10) (fun _ _ => rfl)) pe_int (fun _ _ => rfl)) pa_nil))))) pa_nil)))) (pss_cons (ps_set (i := 12) sc__law_rows.nd rfl (Or.inl rfl) (pe_ix ix_list (pv 8) (pe_op op_mod (pe_op op_fdiv (pv 11) pe_int) (pe_callB call_len_seq rfl T.n_len PySem.boot_len (pa_cons (pv 8) pa_nil))) (fun _ _ => rfl)))
      (pss_cons (ps_set (i := 13) sc__law_rows.nd rfl (Or.inl rfl) (pe_call (ok__law_thing T 6) (hr.mono (by first | decide | (first | lia | omega))) rfl T.m__law_thing T.F__law_thing.kp T.b__law_thing .nil pass0 (pa_cons (pe_lst (pa_cons (pe_op op_fdiv (pe_op op_fdiv (pv 11) pe_int) (pe_callB call_len_seq rfl T.n_len PySem.boot_len (pa_cons (pv 8) pa_nil))) (pa_cons pe_int pa_nil))) (pa_cons (pv 2) (pa_cons (pv 3) (pa_cons (pe_ix ix_tup (pe_ix ix_tup (pv 1) (pv 10) (fun _ _ => rfl)) pe_int (fun _ _ => rfl)) pa_nil))))))
      (pss_one (ps_expr (pe_bm PySem.F.plainAttrs_list PySem.F.slot_list_append PySem.F.type_list_append mt_append (pv 9) (pa_cons (pe_call (ok__law_put T 8) (hr.mono (by first | decide | (first | lia | omega))) rfl T.m__law_put T.F__law_put.kp T.b__law_put .nil pass0 (pa_cons (pv 7) (pa_cons (pv 12) (pa_cons (pv 13) pa_nil)))) pa_nil))))))))))
      (pss_one (ps_expr (pe_bm PySem.F.plainAttrs_list PySem.F.slot_list_append PySem.F.type_list_append mt_append (pv 4) (pa_cons (pe_callTy call_tuple_of rfl T.n_tuple PyProof.Rows.boot_tuple (pa_cons (pv 9) pa_nil)) pa_nil))))))))))
      (pss_one (ps_ret (pe_callTy call_tuple_of rfl T.n_tuple PyProof.Rows.boot_tuple (pa_cons (pv 4) pa_nil)))))), ?_⟩
  try dsimp only [cxK, cxKn]
  have hil : ins.length = ias.length := Paired.length hki
  have hi8 := gi.le
  refine ⟨line_le (by show 0 ≤ 1000000; decide), fun rl hrl => ?_⟩
  refine ⟨_, rfl, S, rfl, by (first | lia | omega), by (first | lia | omega), ?_⟩
  refine for_range (n := S.toNat) (fun i σ H3 => Ex11 fun (c5 c6 c7 c8 c9 c10 c11 c12 c13 : Option V) (ras : List Addr) (rows : List (List Th)) => An6 (σ = [some (.ref ca), some (.ref ia), some (.ref oa), some (.int S), some (.ref rl), c5, c6, c7, c8, c9, c10, c11, c12, c13]) (L2.Same H H3) (H3 rl = some (.lst (ras.map V.ref))) (Paired (RowAt H3) rows ras) (rows.length = i) (RowsW ins outs S 7 rows))
    ⟨none, none, none, none, none, none, none, none, none, [], [], rfl, same_new hrl _, upd_same, .nil, rfl, fun row h => by cases h⟩ ?_ ?_
  · rintro i σ H3 hi ⟨c5, c6, c7, c8, c9, c10, c11, c12, c13, ras, rows, rfl, s3, e3, hra, hrn, hrw⟩
    have hiS : i < S.toNat := hi
    have hmul : i * (ins.length + 1) + (ins.length + 1) ≤ cs.length := by
      have h1 : (i + 1) * (ins.length + 1) ≤ S.toNat * (ins.length + 1) := Nat.mul_le_mul_right _ (by (first | lia | omega))
      rw [Nat.add_mul, Nat.one_mul] at h1
      (first | lia | omega)
    have eca3 := s3 _ _ eca
    have eia3 := s3 _ _ eia
    refine ⟨_, rfl, _, rfl, _, rfl, ia, _, rfl, .inr (SqT.of eia3), _, _, rfl, rfl, _, _, rfl, rfl, .inl ⟨by (first | lia | omega), by (first | lia | omega)⟩, _, rfl, ca, _, rfl, SqL.of eca3, fun ow how => ?_⟩
    have hix : (0 + (i : Int)) * ((((ias.map V.ref).length : Nat) : Int) + 1) = ((i * (ins.length + 1) : Nat) : Int) := by
      rw [List.length_map, ← hil, Int.zero_add]
      simp
    try dsimp only [gName]
    rw [hix, cutV_from (by rw [List.length_map]; (first | lia | omega)), ← List.map_drop]
    have hdl : (cs.drop (i * (ins.length + 1))).length = cs.length - i * (ins.length + 1) := List.length_drop
    generalize cs.drop (i * (ins.length + 1)) = ds at hdl ⊢
    have s4 : L2.Same H3 (upd H3 ow (.lst (ds.map V.int))) := same_new how _
    have e4 : (upd H3 ow (.lst (ds.map V.int))) ow = some (.lst (ds.map V.int)) := upd_same
    generalize (upd H3 ow (.lst (ds.map V.int))) = H4 at s4 e4 ⊢
    obtain ⟨d0, hd0⟩ : ∃ d0, ds[0]? = some d0 := ⟨_, List.getElem?_eq_getElem (by (first | lia | omega))⟩
    refine ⟨_, rfl, ow, _, 0, .int d0, rfl, rfl, SqL.of e4, at_nonneg (by decide) (by show (ds.map V.int)[0]? = _; rw [List.getElem?_map, hd0]; rfl), _, rfl, _, _, rfl, rfl, .inl ⟨by decide, by decide⟩, _, _, rfl, fun z => ?_⟩
    refine ⟨line_le (by show 2 ≤ 1000000; decide), fun l1 hl1 => ?_⟩
    have s5 : L2.Same H4 (upd H4 l1 (.lst [.int z, .int 4])) := same_new hl1 _
    have e5 : (upd H4 l1 (.lst [.int z, .int 4])) l1 = some (.lst [.int z, .int 4]) := upd_same
    have s35 := s4.trans s5
    refine ⟨_, rfl, l1, oa, z, 4, oas, outs, 0, 0, rfl, e5, (s3.trans s35) _ _ eoa, hko.mono (Same.kt (s3.trans s35)), go, by decide, by decide, by decide, by decide, fun bt ba x' b' H6 s6 el6 hbA hbF hb0 hbz => ?_⟩
    have s46 : L2.Same H4 H6 := sameB_new hl1 s6
    clear s5 e5 s35 s6
    have hbs : bt.size ≤ 5 := by (first | lia | omega)
    have hbt := tall_size bt
    refine ⟨_, rfl, ba, bt, rfl, hbA, by (first | lia | omega), by (first | lia | omega), fun sp ps bs H7 s7 _ esp hps hp1 hpl hall => ?_⟩
    have hbl : ps.length = bs.length := Paired.length hps
    have s47 := s46.trans s7
    have hbA7 := hbA.mono (Same.kt s7)
    refine ⟨line_le (by show 0 ≤ 1000000; decide), fun rwl hrwl => ?_⟩
    have s37 := s4.trans s47
    refine ⟨_, rfl, ia, _, rfl, .inr (SqT.of (same_new hrwl _ _ _ (s37 _ _ eia3))), _, rfl, by (first | lia | omega), by rw [List.length_map]; (first | lia | omega), ?_⟩
    refine for_range (n := (((ias.map V.ref).length : Nat) : Int).toNat) (fun j σ H8 => Ex6 fun (c10 c11 c12 c13 : Option V) (tas : List Addr) (ts : List Th) => An6 (σ = [some (.ref ca), some (.ref ia), some (.ref oa), some (.int S), some (.ref rl), some (.int (0 + (i : Int))), some (.ref ow), some (.ref ba), some (.ref sp), some (.ref rwl), c10, c11, c12, c13]) (L2.Same H7 H8) (H8 rwl = some (.lst (tas.map V.ref))) (Ats H8 ts tas) (ts.length = j) (∀ (j : Nat) (t : Th) (k : Str × Int), ts[j]? = some t → ins[j]? = some k → t.FitS outs S k.2 ∧ t.size ≤ 7))
      ⟨_, _, _, _, [], [], rfl, same_new hrwl _, upd_same, .nil, rfl, fun j t k h => by simp at h⟩ ?_ ?_
    · rintro j σ H8 hj ⟨c10, c11, c12, c13, tas, ts, rfl, s8, e8, hts, htn, hti⟩
      have hj' : j < ins.length := by
        have h1 : j < (((ias.map V.ref).length : Nat) : Int).toNat := hj
        rw [List.length_map] at h1
        (first | lia | omega)
      have s38 := s37.trans s8
      have e48 := (s47.trans s8) _ _ e4
      obtain ⟨d1, hd1⟩ : ∃ d1, ds[j + 1]? = some d1 := ⟨_, List.getElem?_eq_getElem (by (first | lia | omega))⟩
      refine ⟨_, rfl, _, rfl, _, _, rfl, rfl, ow, _, _, .int d1, rfl, rfl, SqL.of e48, at_nonneg (by (first | lia | omega)) (by rw [show (0 + (j : Int) + 1).toNat = j + 1 by (first | lia | omega), List.getElem?_map, hd1]; rfl), _, rfl, _, _, rfl, rfl, .inl ⟨by decide, by decide⟩, _, rfl, _, _, rfl, rfl, _, _, rfl, fun nb => ?_⟩
      refine hid fun ZZ kZ => ?_
      obtain ⟨k0, hk0⟩ : ∃ k0, ins[j]? = some k0 := ⟨_, List.getElem?_eq_getElem hj'⟩
      obtain ⟨ka, hka, eka⟩ := P2.get hki hk0
      refine kZ ?_
      have hnum := gi.num k0 (List.mem_of_getElem? hk0)
      have eka8 : H8 ka = some (.tup [.str k0.1, .int k0.2]) := (s3.trans s38) _ _ eka
      have eia8 := s38 _ _ eia3
      have hbl2 := hts.length
      have hgo : ∀ (t : Th) (ta : Addr) (H9 : Hp) (c12 c13 : Option V), L2.Same H8 H9 → At H9 t ta → t.FitS outs S k0.2 → t.size ≤ 7 → ∀ σ', σ' = [some (.ref ca), some (.ref ia), some (.ref oa), some (.int S), some (.ref rl), some (.int (0 + (i : Int))), some (.ref ow), some (.ref ba), some (.ref sp), some (.ref rwl), some (.int (0 + (j : Int))), some (.int nb), c12, c13] → Ex6 fun (c10 c11 c12 c13 : Option V) (tas' : List Addr) (ts' : List Th) => An6 (σ' = [some (.ref ca), some (.ref ia), some (.ref oa), some (.int S), some (.ref rl), some (.int (0 + (i : Int))), some (.ref ow), some (.ref ba), some (.ref sp), some (.ref rwl), c10, c11, c12, c13]) (L2.Same H7 (upd H9 rwl (.lst (tas.map V.ref ++ [.ref ta])))) ((upd H9 rwl (.lst (tas.map V.ref ++ [.ref ta]))) rwl = some (.lst (tas'.map V.ref))) (Ats (upd H9 rwl (.lst (tas.map V.ref ++ [.ref ta]))) ts' tas') (ts'.length = j + 1) (∀ (j : Nat) (t : Th) (k : Str × Int), ts'[j]? = some t → ins[j]? = some k → t.FitS outs S k.2 ∧ t.size ≤ 7) := fun t ta H9 c12 c13 s9 hat hfit hsz σ' hσ => by
        have e9 := s9 _ _ e8
        have kt : KT H9 (upd H9 rwl (.lst (tas.map V.ref ++ [.ref ta]))) := kt_lst e9
        refine ⟨_, _, _, _, tas ++ [ta], ts ++ [t], hσ, same_upd (s8.trans s9) hrwl, by rw [upd_same, List.map_append]; rfl, (hts.mono ((Same.kt s9).trans kt)).append (.cons (hat.mono kt) .nil), by rw [List.length_append, htn]; rfl, fun m u k hu hk => ?_⟩
        by_cases hm : m < ts.length
        · rw [List.getElem?_append_left hm] at hu
          exact hti m u k hu hk
        · have hml := (List.getElem?_eq_some_iff.mp hu).1
          rw [List.length_append] at hml
          have : m = ts.length := by
            have : ([t] : List Th).length = 1 := rfl
            (first | lia | omega)
          subst this
          rw [List.getElem?_append_right (Nat.le_refl _), Nat.sub_self] at hu
          have e1 : t = u := by simpa using hu
          rw [htn, hk0] at hk
          cases hk
          rw [← e1]
          exact ⟨hfit, hsz⟩
      refine ⟨_, rfl, _, _, rfl, rfl, (by show (0 : Int) < 4; decide), rfl, _, rfl, ?_⟩
      refine ite2 (fun c1 => ?_) (fun c1 => ?_)
      · refine ⟨_, rfl, .inl ⟨rfl, _, SqL.of e8⟩, _, rfl, _, _, rfl, rfl, ⟨by decide, by decide⟩, line_le (by show 2 ≤ 1000000; decide), fun l2 hl2 => ?_⟩
        have s9 : L2.Same H8 (upd H8 l2 (.lst [.int (nb / 4), .int 4])) := same_new hl2 _
        have s39 := (s3.trans s38).trans s9
        refine ⟨_, rfl, _, rfl, _, rfl, _, rfl, ia, _, _, .ref ka, rfl, rfl, SqT.of (s9 _ _ eia8), at_nonneg (by (first | lia | omega)) (by rw [show (0 + (j : Int)).toNat = j by (first | lia | omega), List.getElem?_map, hka]; rfl), ka, _, 1, .int k0.2, rfl, rfl, SqT.of (s9 _ _ eka8), at1, ?_⟩
        refine ⟨l2, oa, _, 4, oas, outs, S, k0.2, rfl, upd_same, s39 _ _ eoa, hko.mono (Same.kt s39), go, by (first | lia | omega), by (first | lia | omega), by decide, by decide, fun pt pa x2 b2 H10 s10 el10 hpA hpF hp0 hpz => ?_⟩
        have s810 : L2.Same H8 H10 := sameB_new hl2 s10
        refine ⟨rwl, _, _, rfl, rfl, s810 _ _ e8, line_big (by rw [List.length_map]; (first | lia | omega)), ?_⟩
        exact hgo pt pa H10 _ _ s810 hpA hpF (by (first | lia | omega)) _ rfl
      · have esp8 := s8 _ _ esp
        have hlm : 0 < (((bs.map V.ref).length : Nat) : Int) := by rw [List.length_map]; (first | lia | omega)
        have y0 := Int.emod_nonneg (nb / 4) (show (((bs.map V.ref).length : Nat) : Int) ≠ 0 by (first | lia | omega))
        have y1 := Int.emod_lt_of_pos (nb / 4) hlm
        refine hid fun ZZ kZ => ?_
        obtain ⟨m, hm⟩ : ∃ m : Nat, nb / 4 % (((bs.map V.ref).length : Nat) : Int) = (m : Int) := ⟨_, (Int.toNat_of_nonneg y0).symm⟩
        have hml : m < bs.length := by rw [hm, List.length_map] at y1; (first | lia | omega)
        obtain ⟨pb, hpb⟩ : ∃ pb, bs[m]? = some pb := ⟨_, List.getElem?_eq_getElem hml⟩
        obtain ⟨p, hp⟩ : ∃ p, ps[m]? = some p := ⟨_, List.getElem?_eq_getElem (by (first | lia | omega))⟩
        have hpp : PlAt H8 p pb := (pair_at hps hp hpb).mono (Same.kt s8)
        obtain ⟨hplen, u, hsub⟩ := hall p (List.mem_of_getElem? hp)
        refine kZ ?_
        refine ⟨_, rfl, _, rfl, _, _, rfl, rfl, ⟨by decide, by decide⟩, _, rfl, sp, _, rfl, .inl (SqL.of esp8), _, _, rfl, rfl, hlm, sp, _, _, .ref pb, rfl, rfl, SqL.of esp8, at_nonneg y0 (by rw [hm, Int.toNat_natCast, List.getElem?_map, hpb]; rfl), ?_⟩
        refine ⟨_, rfl, _, _, rfl, rfl, ⟨by decide, by decide⟩, _, rfl, sp, _, rfl, .inl (SqL.of esp8), _, _, rfl, rfl, ⟨hlm, by rw [List.length_map]; (first | lia | omega)⟩, line_le (by show 2 ≤ 1000000; decide), fun l2 hl2 => ?_⟩
        have s9 : L2.Same H8 (upd H8 l2 (.lst [.int (nb / 4 / (((bs.map V.ref).length : Nat) : Int)), .int 2])) := same_new hl2 _
        have s39 := (s3.trans s38).trans s9
        refine ⟨_, rfl, _, rfl, _, rfl, _, rfl, ia, _, _, .ref ka, rfl, rfl, SqT.of (s9 _ _ eia8), at_nonneg (by (first | lia | omega)) (by rw [show (0 + (j : Int)).toNat = j by (first | lia | omega), List.getElem?_map, hka]; rfl), ka, _, 1, .int k0.2, rfl, rfl, SqT.of (s9 _ _ eka8), at1, ?_⟩
        refine ⟨l2, oa, _, 2, oas, outs, S, k0.2, rfl, upd_same, s39 _ _ eoa, hko.mono (Same.kt s39), go, by (first | lia | omega), by (first | lia | omega), by decide, by decide, fun pt pa x2 b2 H10 s10 el10 hpA hpF hp0 hpz => ?_⟩
        have s810 : L2.Same H8 H10 := sameB_new hl2 s10
        refine ⟨_, rfl, .inl ⟨rfl, _, SqL.of (s810 _ _ e8)⟩, _, rfl, _, rfl, _, rfl, ?_⟩
        refine ⟨ba, pb, pa, bt, pt, u, p, rfl, hbA7.mono (Same.kt (s8.trans s810)), hpp.mono (Same.kt s810), hpA, hsub, by (first | lia | omega), by (first | lia | omega), fun ra H11 s11 hra11 => ?_⟩
        have s811 := s810.trans s11
        have hpsz := put_size p bt u pt hsub
        have husz := size_pos u
        refine ⟨rwl, _, _, rfl, rfl, s811 _ _ e8, line_big (by rw [List.length_map]; (first | lia | omega)), ?_⟩
        exact hgo (bt.put p pt) ra H11 _ _ s811 hra11 (put_fitS p bt u pt hsub (FitS.up hbF) hpF) (by (first | lia | omega)) _ rfl
    · rintro σ H8 ⟨c10, c11, c12, c13, tas, ts, rfl, s8, e8, hts, htn, hti⟩
      have htn' : ts.length = ins.length := by
        rw [htn, List.length_map]
        (first | lia | omega)
      have s38 := s37.trans s8
      have e38 := s38 _ _ e3
      refine ⟨_, rfl, .inl ⟨rfl, _, SqL.of e38⟩, _, rfl, rwl, _, rfl, .inl ⟨SqL.of e8, fun tp htp => ?_⟩⟩
      have s9 : L2.Same H8 (upd H8 tp (.tup (tas.map V.ref))) := same_new htp _
      have e9 : (upd H8 tp (.tup (tas.map V.ref))) tp = some (.tup (tas.map V.ref)) := upd_same
      generalize (upd H8 tp (.tup (tas.map V.ref))) = H9 at s9 e9 ⊢
      have e39 := s9 _ _ e38
      have hral : rows.length = ras.length := Paired.length hra
      refine ⟨rl, _, _, rfl, rfl, e39, line_big (by rw [List.length_map]; (first | lia | omega)), ?_⟩
      have kt : KT H9 (upd H9 rl (.lst (ras.map V.ref ++ [.ref tp]))) := kt_lst e39
      have s39 := s38.trans s9
      refine ⟨_, _, _, _, _, _, _, _, _, ras ++ [tp], rows ++ [ts], rfl, same_upd (s3.trans s39) hrl, by rw [upd_same, List.map_append]; rfl, ?_, by rw [List.length_append, hrn]; rfl, fun row hrow => ?_⟩
      · refine P2.append (P2.mp (fun _ _ e => RowAt.mono ((Same.kt s39).trans kt) e) hra) (.cons ⟨tas, kt _ _ e9, hts.mono ((Same.kt s9).trans kt)⟩ .nil)
      · rcases List.mem_append.mp hrow with h | h
        · exact hrw row h
        · rw [List.mem_singleton.mp h]
          exact ⟨htn', hti⟩
  · rintro σ H3 ⟨c5, c6, c7, c8, c9, c10, c11, c12, c13, ras, rows, rfl, s3, e3, hra, hrn, hrw⟩
    refine ⟨_, rfl, rl, _, rfl, .inl ⟨SqL.of e3, fun p hp => ?_⟩⟩
    have s4 := same_new hp (.tup (ras.map V.ref))
    exact q p ras rows _ (s3.trans s4) upd_same (P2.mp (fun _ _ e => RowAt.mono (Same.kt s4) e) hra) (by (first | lia | omega)) hrw
end
inductive Isp__law_cell (K : PySem.W.Frag) (vs : List V) (H : Hp) (Q : VK) (_E : XK) : Prop
  | mk (a : Addr) (ns : List Int) (k : Int) (zz0 : vs = [.ref a, .int k]) (zz1 : SqL K H a (ns.map V.int)) (zz2 : 0 ≤ k) (zz3 : ∀ c : Int, Q (.int c) H) : Isp__law_cell K vs H Q _E
noncomputable def sp__law_cell (K : PySem.W.Frag) : Sp := Isp__law_cell K
section
variable {P : Program} {w : World} {K : PySem.W.Frag} {mg : Str → Option Value} {base : Heap} (T : TX K mg)
theorem ok__law_cell : FnOk P w K mg base CX0 1 T.f__law_cell T.d__law_cell ["script", "k"] (sp__law_cell K) := by
  refine T.F__law_cell.ok sc__law_cell (fun vs H Q E h => ?_) (fun cdv A outer s H vs Q E hr h => ?_)
  · obtain ⟨a, ns, k, rfl, _⟩ := h
    rfl
  obtain ⟨a, ns, k, rfl, hS, h0, q⟩ := h
  refine ⟨_, (pss_cons (ps_if (pt_cmpR op_lt (pv 1) (pe_callB call_len_seq rfl T.n_len PySem.boot_len (pa_cons (pv 0) pa_nil)) (nomark _)) (pss_one (ps_ret (pe_ix ix_list (pv 0) (pv 1) (fun _ _ => rfl)))) pss_nil)
      (pss_one (ps_ret pe_int))), ?_⟩
  try dsimp only [cxK, cxKn]
  refine ⟨_, rfl, _, rfl, a, _, rfl, .inl hS, _, _, rfl, rfl, _, rfl, ?_⟩
  refine ite2 (fun c => ?_) (fun c => q 0)
  have c' : k < (((ns.map V.int).length : Nat) : Int) := of_decide_eq_true c
  rw [List.length_map] at c'
  exact ⟨_, rfl, _, rfl, a, _, k, _, rfl, rfl, hS, int_at h0 c', q _⟩
end
inductive Isp__law_book (vs : List V) (H : Hp) (Q : VK) (_E : XK) : Prop
  | mk (ca ia oa : Addr) (cs : List Int) (ias oas : List Addr) (ins outs : List (Str × Int)) (S : Int) (zz0 : vs = [.ref ca, .ref ia, .ref oa, .int S]) (zz1 : H ca = some (.lst (cs.map V.int))) (zz2 : H ia = some (.tup (ias.map V.ref))) (zz3 : KsAt H ins ias) (zz4 : GoodN ins) (zz5 : H oa = some (.tup (oas.map V.ref))) (zz6 : KsAt H outs oas) (zz7 : GoodN outs) (zz8 : 0 ≤ S) (zz9 : S ≤ 1000) (zz10 : 1 + S.toNat * (ins.length + 1) ≤ cs.length) (zz11 : cs.length ≤ 100000) (zz12 : ∀ (r : Addr) (head : Th) (rows : List (List Th)) (H' : Hp), L2.Same H H' → Bk H' ins outs head rows r → BookW ins outs S 7 head rows → head.size ≤ 4 → Q (.ref r) H') : Isp__law_book  vs H Q _E
noncomputable def sp__law_book : Sp := Isp__law_book 
section
variable {P : Program} {w : World} {K : PySem.W.Frag} {mg : Str → Option Value} {base : Heap} (T : TX K mg)
set_option maxHeartbeats 1000000 in
theorem ok__law_book : FnOk P w K mg base CX0 11 T.f__law_book T.d__law_book ["cells", "ins", "outs", "states"] sp__law_book := by
  refine T.F__law_book.ok sc__law_book (fun vs H Q E h => ?_) (fun cdv A outer s H vs Q E hr h => ?_)
  · obtain ⟨ca, ia, oa, cs, ias, oas, ins, outs, S, rfl, _⟩ := h
    rfl
  obtain ⟨ca, ia, oa, cs, ias, oas, ins, outs, S, rfl, eca, eia, hki, gi, eoa, hko, go, S0, S1, hcl, hcm, q⟩ := h
  refine ⟨_, (pss_cons (ps_set (i := 4) sc__law_book.nd rfl (Or.inl rfl) (pe_call (ok__law_thing T 6) (hr.mono (by first | decide | (first | lia | omega))) rfl T.m__law_thing T.F__law_thing.kp T.b__law_thing .nil pass0 (pa_cons (pe_lst (pa_cons (pe_call (ok__law_mixed T) (hr.mono (by first | decide | (first | lia | omega))) rfl T.m__law_mixed T.F__law_mixed.kp T.b__law_mixed .nil pass0 (pa_cons (pe_ix ix_list (pv 0) pe_int (fun _ _ => rfl)) (pa_cons pe_int pa_nil))) (pa_cons pe_int pa_nil))) (pa_cons (pv 2) (pa_cons (pv 3) (pa_cons pe_int pa_nil))))))
      (pss_one (ps_ret (pe_tup (pa_cons (pv 1) (pa_cons (pv 2) (pa_cons (pv 4) (pa_cons (pe_call (ok__law_rows T) (hr.mono (by first | decide | (first | lia | omega))) rfl T.m__law_rows T.F__law_rows.kp T.b__law_rows .nil pass0 (pa_cons (pe_slice sl_list (pv 0) (po_some pe_int) po_none) (pa_cons (pv 1) (pa_cons (pv 2) (pa_cons (pv 3) pa_nil))))) pa_nil)))))))), ?_⟩
  try dsimp only [cxK, cxKn]
  obtain ⟨d0, hd0⟩ : ∃ d0, cs[0]? = some d0 := ⟨_, List.getElem?_eq_getElem (by (first | lia | omega))⟩
  refine ⟨_, rfl, ca, _, 0, .int d0, rfl, rfl, SqL.of eca, at_nonneg (by decide) (by show (cs.map V.int)[0]? = _; rw [List.getElem?_map, hd0]; rfl), _, _, rfl, fun z => ?_⟩
  refine ⟨line_le (by show 2 ≤ 1000000; decide), fun l1 hl1 => ?_⟩
  have s5 : L2.Same H (upd H l1 (.lst [.int z, .int 3])) := same_new hl1 _
  refine ⟨_, rfl, _, rfl, l1, oa, z, 3, oas, outs, S, 1, rfl, upd_same, s5 _ _ eoa, hko.mono (Same.kt s5), go, by (first | lia | omega), by decide, by decide, by decide, fun ht ha x' b' H1 s1' el1 hA hF hb0 hz => ?_⟩
  have s1 : L2.Same H H1 := sameB_new hl1 s1'
  refine ⟨_, rfl, _, rfl, _, rfl, _, rfl, 1, rfl, ca, _, rfl, SqL.of (s1 _ _ eca), fun cl hcl' => ?_⟩
  try dsimp only
  rw [show (some (1 : Int)) = some ((1 : Nat) : Int) from rfl, cutV_from (by rw [List.length_map]; (first | lia | omega)), ← List.map_drop]
  have s2 : L2.Same H1 (upd H1 cl (.lst ((cs.drop 1).map V.int))) := same_new hcl' _
  have e2 : (upd H1 cl (.lst ((cs.drop 1).map V.int))) cl = some (.lst ((cs.drop 1).map V.int)) := upd_same
  generalize (upd H1 cl (.lst ((cs.drop 1).map V.int))) = H2 at s2 e2 ⊢
  have s12 := s1.trans s2
  refine ⟨_, rfl, _, rfl, _, rfl, cl, ia, oa, cs.drop 1, ias, oas, ins, outs, S, rfl, e2, s12 _ _ eia, hki.mono (Same.kt s12), gi, s12 _ _ eoa, hko.mono (Same.kt s12), go, S0, S1, by rw [List.length_drop]; (first | lia | omega), by rw [List.length_drop]; (first | lia | omega), fun r ras rows H3 s3 er hra hrn hrw => ?_⟩
  refine ⟨line_le (by show 4 ≤ 1000000; decide), fun p hp => ?_⟩
  have s4 := same_new hp (.tup [.ref ia, .ref oa, .ref ha, .ref r])
  have s34 := s3.trans s4
  have s04 := s12.trans s34
  refine q p ht rows _ s04 ⟨ia, oa, ha, r, ias, oas, ras, upd_same, s04 _ _ eia, hki.mono (Same.kt s04), s04 _ _ eoa, hko.mono (Same.kt s04), hA.mono (Same.kt (s2.trans s34)), s4 _ _ er, P2.mp (fun _ _ e => RowAt.mono (Same.kt s4) e) hra⟩ ⟨hrn, fun row h => (hrw row h).1, fun row h => (hrw row h).2, hF, by (first | lia | omega)⟩ (by (first | lia | omega))
end
inductive Isp__law_drawn (K : PySem.W.Frag) (vs : List V) (H : Hp) (Q : VK) (_E : XK) : Prop
  | mk (a : Addr) (ns : List Int) (most : Int) (zz0 : vs = [.ref a, .int most]) (zz1 : SqL K H a (ns.map V.int)) (zz2 : ns.length ≤ 63) (zz3 : 1 ≤ most) (zz4 : most ≤ 100) (zz5 : ∀ (r : Addr) (ins outs : List (Str × Int)) (S : Int) (head : Th) (rows : List (List Th)) (H' : Hp), L2.Same H H' → Bk H' ins outs head rows r → GoodN ins → GoodN outs → BookW ins outs S 7 head rows → head.size ≤ 4 → Q (.ref r) H') : Isp__law_drawn K vs H Q _E
noncomputable def sp__law_drawn (K : PySem.W.Frag) : Sp := Isp__law_drawn K
section
variable {P : Program} {w : World} {K : PySem.W.Frag} {mg : Str → Option Value} {base : Heap} (T : TX K mg)
set_option maxHeartbeats 1000000 in
theorem ok__law_drawn : FnOk P w K mg base CX0 12 T.f__law_drawn T.d__law_drawn ["script", "most"] (sp__law_drawn K) := by
  refine T.F__law_drawn.ok sc__law_drawn (fun vs H Q E h => ?_) (fun cdv A outer s H vs Q E hr h => ?_)
  · obtain ⟨a, ns, most, rfl, _⟩ := h
    rfl
  obtain ⟨a, ns, most, rfl, hS, hns, m1, m2, q⟩ := h
  refine ⟨_, (pss_cons (ps_set (i := 2) sc__law_drawn.nd rfl (Or.inl rfl) (pe_call (ok__law_kinds T) (hr.mono (by first | decide | (first | lia | omega))) rfl T.m__law_kinds T.F__law_kinds.kp T.b__law_kinds .nil pass0 (pa_cons (pe_call (ok__law_cell T) (hr.mono (by first | decide | (first | lia | omega))) rfl T.m__law_cell T.F__law_cell.kp T.b__law_cell .nil pass0 (pa_cons (pv 0) (pa_cons pe_int pa_nil))) (pa_cons (pe_call (ok__law_names T) (hr.mono (by first | decide | (first | lia | omega))) rfl T.m__law_names T.F__law_names.kp T.b__law_names .nil pass0 (pa_cons (pe_call (ok__law_cell T) (hr.mono (by first | decide | (first | lia | omega))) rfl T.m__law_cell T.F__law_cell.kp T.b__law_cell .nil pass0 (pa_cons (pv 0) (pa_cons pe_int pa_nil))) pa_nil)) pa_nil))))
      (pss_cons (ps_set (i := 3) sc__law_drawn.nd rfl (Or.inl rfl) (pe_call (ok__law_kinds T) (hr.mono (by first | decide | (first | lia | omega))) rfl T.m__law_kinds T.F__law_kinds.kp T.b__law_kinds .nil pass0 (pa_cons (pe_call (ok__law_cell T) (hr.mono (by first | decide | (first | lia | omega))) rfl T.m__law_cell T.F__law_cell.kp T.b__law_cell .nil pass0 (pa_cons (pv 0) (pa_cons pe_int pa_nil))) (pa_cons (pe_call (ok__law_names T) (hr.mono (by first | decide | (first | lia | omega))) rfl T.m__law_names T.F__law_names.kp T.b__law_names .nil pass0 (pa_cons (pe_op op_add (pe_op op_fdiv (pe_call (ok__law_cell T) (hr.mono (by first | decide | (first | lia | omega))) rfl T.m__law_cell T.F__law_cell.kp T.b__law_cell .nil pass0 (pa_cons (pv 0) (pa_cons pe_int pa_nil))) pe_int) pe_int) pa_nil)) pa_nil))))
      (pss_cons (ps_set (i := 4) sc__law_drawn.nd rfl (Or.inl rfl) (pe_op op_add pe_int (pe_op op_mod (pe_call (ok__law_cell T) (hr.mono (by first | decide | (first | lia | omega))) rfl T.m__law_cell T.F__law_cell.kp T.b__law_cell .nil pass0 (pa_cons (pv 0) (pa_cons pe_int pa_nil))) (pv 1))))
      (pss_cons (ps_if (pt_cmpR op_eq (pe_op op_mod (pe_op op_fdiv (pe_call (ok__law_cell T) (hr.mono (by first | decide | (first | lia | omega))) rfl T.m__law_cell T.F__law_cell.kp T.b__law_cell .nil pass0 (pa_cons (pv 0) (pa_cons pe_int pa_nil))) pe_int) pe_int) pe_int (nomark _)) (pss_one (ps_set (i := 4) sc__law_drawn.nd rfl (Or.inl rfl) (pe_op op_add pe_int (pe_op op_mod (pe_op op_fdiv (pe_call (ok__law_cell T) (hr.mono (by first | decide | (first | lia | omega))) rfl T.m__law_cell T.F__law_cell.kp T.b__law_cell .nil pass0 (pa_cons (pv 0) (pa_cons pe_int pa_nil))) pe_int) pe_int)))) pss_nil)
      (pss_cons (ps_set (i := 5) sc__law_drawn.nd rfl (Or.inl rfl) (pe_call (ok__law_folded T) (hr.mono (by first | decide | (first | lia | omega))) rfl T.m__law_folded T.F__law_folded.kp T.b__law_folded .nil pass0 (pa_cons (pe_slice sl_list (pv 0) (po_some pe_int) po_none) (pa_cons (pe_op op_add pe_int (pe_op op_mul (pv 4) (pe_op op_add (pe_callB call_len_seq rfl T.n_len PySem.boot_len (pa_cons (pv 2) pa_nil)) pe_int))) pa_nil))))
      (pss_one (ps_ret (pe_call (ok__law_book T) (hr.mono (by first | decide | (first | lia | omega))) rfl T.m__law_book T.F__law_book.kp T.b__law_book .nil pass0 (pa_cons (pv 5) (pa_cons (pv 2) (pa_cons (pv 3) (pa_cons (pv 4) pa_nil)))))))))))), ?_⟩
  try dsimp only [cxK, cxKn]
  refine ⟨_, rfl, a, ns, 1, rfl, hS, by decide, fun c1 => ?_⟩
  refine ⟨_, rfl, a, ns, 0, rfl, hS, by decide, fun c0 => ⟨c0, rfl, fun na ws H1 s1 ena hws => ?_⟩⟩
  refine ⟨c1, na, ws, rfl, ena, hws, fun ia ias ins H2 s2 eia hki gi hi4 => ?_⟩
  have s12 := s1.trans s2
  refine ⟨_, rfl, a, ns, 2, rfl, s12.seq hS, by decide, fun c2 => ?_⟩
  refine ⟨_, rfl, a, ns, 0, rfl, s12.seq hS, by decide, fun c0' => ⟨_, _, rfl, rfl, ⟨by decide, by decide⟩, _, _, rfl, rfl, _, rfl, fun nb wo H3 s3 enb hwo => ?_⟩⟩
  refine ⟨c2, nb, wo, rfl, enb, hwo, fun oa oas outs H4 s4 eoa hko go ho4 => ?_⟩
  have s34 := s3.trans s4
  have s14 := s12.trans s34
  have hil : ins.length = ias.length := Paired.length hki
  refine ⟨_, rfl, a, ns, 3, rfl, s14.seq hS, by decide, fun c3 => ?_⟩
  have z0 := Int.emod_nonneg c3 (show most ≠ 0 by (first | lia | omega))
  have z1 := Int.emod_lt_of_pos c3 (show 0 < most by (first | lia | omega))
  refine ⟨_, rfl, _, _, rfl, rfl, (by show 0 < most; (first | lia | omega)), _, _, rfl, rfl, ?_⟩
  try dsimp only [gName]
  refine seq_intro (fun σ' H' => An2 (H4 = H') (Ex1 fun (S : Int) => An3 (1 ≤ S) (S ≤ 100) (σ' = [some (.ref a), some (.int most), some (.ref ia), some (.ref oa), some (.int S), none]))) (fun kk hk => ?_) ?_
  · refine ⟨_, rfl, a, ns, 3, rfl, s14.seq hS, by decide, fun c3' => ⟨_, _, rfl, rfl, ⟨by decide, by decide⟩, _, _, rfl, rfl, (by show (0 : Int) < 4; decide), rfl, _, rfl, ?_⟩⟩
    refine ite2 (fun _ => ?_) (fun _ => hk _ _ ⟨rfl, _, by (first | lia | omega), by (first | lia | omega), rfl⟩)
    refine ⟨_, rfl, a, ns, 3, rfl, s14.seq hS, by decide, fun c4 => ?_⟩
    have y0 := Int.emod_nonneg (c4 / 48) (show (17 : Int) ≠ 0 by decide)
    have y1 := Int.emod_lt_of_pos (c4 / 48) (show (0 : Int) < 17 by decide)
    exact ⟨_, _, rfl, rfl, ⟨by decide, by decide⟩, _, _, rfl, rfl, (by show (0 : Int) < 17; decide), _, _, rfl, rfl, hk _ _ ⟨rfl, _, by (first | lia | omega), by (first | lia | omega), rfl⟩⟩
  rintro σ' H' ⟨rfl, S, S1, S2, rfl⟩
  refine ⟨_, rfl, 4, rfl, a, _, rfl, s14.seq hS, fun cl hcl => ?_⟩
  obtain ⟨cs, hcs, hcsl⟩ := cutV_ints ns (some 4) none
  try dsimp only
  rw [hcs]
  have s5 : L2.Same H4 (upd H4 cl (.lst (cs.map V.int))) := same_new hcl _
  have e5 : (upd H4 cl (.lst (cs.map V.int))) cl = some (.lst (cs.map V.int)) := upd_same
  generalize (upd H4 cl (.lst (cs.map V.int))) = H5 at s5 e5 ⊢
  have s25 := s34.trans s5
  have eia5 := s25 _ _ eia
  have hms : S * ((((ias.map V.ref).length : Nat) : Int) + 1) = ((S.toNat * (ins.length + 1) : Nat) : Int) := by
    rw [List.length_map, ← hil]
    have : ((S.toNat : Nat) : Int) = S := by (first | lia | omega)
    simp [this]
  have hmb : S.toNat * (ins.length + 1) ≤ 100 * 5 := Nat.mul_le_mul (by (first | lia | omega)) (by (first | lia | omega))
  refine ⟨_, rfl, _, rfl, ia, _, rfl, .inr (SqT.of eia5), _, _, rfl, rfl, _, _, rfl, rfl, .inl ⟨by (first | lia | omega), by (first | lia | omega)⟩, _, _, rfl, rfl, cl, cs, _, rfl, e5, by (first | lia | omega), by rw [hms]; (first | lia | omega), by rw [hms]; (first | lia | omega), fun r ds H6 s6 er hdl => ?_⟩
  rw [hms] at hdl
  have s26 := s25.trans s6
  have s46 := s5.trans s6
  refine ⟨_, rfl, _, rfl, _, rfl, _, rfl, r, ia, oa, ds, ias, oas, ins, outs, S, rfl, er, s26 _ _ eia, hki.mono (Same.kt s26), gi, s46 _ _ eoa, hko.mono (Same.kt s46), go, by (first | lia | omega), by (first | lia | omega), by (first | lia | omega), by (first | lia | omega), fun bk head rows H7 s7 hbk hok hhz => ?_⟩
  exact q bk ins outs S head rows H7 (s12.trans (s26.trans s7)) hbk gi go hok hhz
end
inductive Isp__law_tree (n : Nat) (vs : List V) (H : Hp) (Q : VK) (_E : XK) : Prop
  | mk (l ia : Addr) (x b deep : Int) (ias : List Addr) (ins : List (Str × Int)) (zz0 : vs = [.ref l, .ref ia, .int deep]) (zz1 : H l = some (.lst [.int x, .int b])) (zz2 : H ia = some (.tup (ias.map V.ref))) (zz3 : KsAt H ins ias) (zz4 : GoodN ins) (zz5 : 0 ≤ b) (zz6 : 1 ≤ deep) (zz7 : deep ≤ (n : Int)) (zz8 : ∀ (t : Th) (r : Addr) (x' b' : Int) (H' : Hp), SameB l H H' → H' l = some (.lst [.int x', .int b']) → At H' t r → t.Fit ins → 0 ≤ b' → (t.size : Int) + b' = b + 1 → (t.tall : Int) ≤ deep → Q (.ref r) H') : Isp__law_tree n vs H Q _E
noncomputable def sp__law_tree (n : Nat) : Sp := Isp__law_tree n
section
variable {P : Program} {w : World} {K : PySem.W.Frag} {mg : Str → Option Value} {base : Heap} (T : TX K mg)
set_option maxHeartbeats 2000000 in
theorem ok__law_tree : ∀ n : Nat, FnOk P w K mg base CX0 n T.f__law_tree T.d__law_tree ["left", "ins", "deep"] (sp__law_tree n)
  | 0 => ⟨fun _ _ _ _ h => by obtain ⟨_, _, _, _, _, _, _, _, _, _, _, _, _, h1, h2, _⟩ := h; (first | lia | omega), fun _ _ _ _ _ _ _ _ _ _ _ _ _ h => by obtain ⟨_, _, _, _, _, _, _, _, _, _, _, _, _, h1, h2, _⟩ := h; (first | lia | omega)⟩
  | n + 1 => by
    have ih := ok__law_tree n
    refine T.F__law_tree.ok sc__law_tree (fun vs H Q E h => ?_) (fun cdv A outer s H vs Q E hr h => ?_)
    · obtain ⟨l, ia, x, b, deep, ias, ins, rfl, _⟩ := h
      rfl
    obtain ⟨l, ia, x1, b, deep, ias, ins, rfl, e1, eo1, hks1, g, b0, d0, d1, q⟩ := h
    refine ⟨_, (pss_cons (ps_setC (i := 3) (N := [Str.ofString "kind", Str.ofString "deep", Str.ofString "left"]) (js := [none, some 2, some 0]) (g := (gName 0)) (tt := (tOr (tTest (tOp (rEq) (tOp (rIxT K) (tVar 0) (tC (.int 1))) (tC (.int 0)))) (tAnd (tTest (tOp (rI0 fun i j => .bl (decide (j < i))) (tVar 1) (tC (.int 1)))) (tTest (tOp (rI0 fun i j => .bl (decide (i ≤ j))) (tOp (rIxT K) (tVar 0) (tC (.int 1))) (tOp (rIxL K) (tVar 2) (tC (.int 1)))))))) (te := (tVar 0)) sc__law_tree.nd rfl (Or.inl rfl) rfl (cs_mk rfl (by decide +kernel) (by decide +kernel) rfl rfl rfl) (pi_tup (pv 1)) (fun _ _ _ _ _ _ => (pg_name (i := 0) nd_4 rfl (Or.inl rfl))) (gk_name rfl) (fun _ _ _ _ _ _ => pts_one (PW.pt (pw_or (pt_cmpR op_eq (pe_ix ix_tup (pv 0) pe_int (fun _ _ => rfl)) pe_int (nomark _)) (pw_or1 (PW.pt (pw_and (pt_cmpR op_gt (pv 1) pe_int (nomark _)) (pw_and1 (pt_cmpR op_le (pe_ix ix_tup (pv 0) pe_int (fun _ _ => rfl)) (pe_ix ix_list (pv 2) pe_int (fun _ _ => rfl)) (nomark _))))))))) (fun _ _ _ _ _ _ => (pv 0)))
      (pss_cons (ps_set (i := 4) sc__law_tree.nd rfl (Or.inl rfl) (pe_ix ix_list (pv 3) (pe_op op_mod (pe_ix ix_list (pv 0) pe_int (fun _ _ => rfl)) (pe_callB call_len_seq rfl T.n_len PySem.boot_len (pa_cons (pv 3) pa_nil))) (fun _ _ => rfl)))
      (pss_cons (ps_asg (pe_op op_fdiv (pe_ix ix_list (pv 0) pe_int (fun _ _ => rfl)) (pe_callB call_len_seq rfl T.n_len PySem.boot_len (pa_cons (pv 3) pa_nil))) (pg_sub (pv 0) pe_int set_list))
      (pss_cons (ps_asg (pe_op op_sub (pe_ix ix_list (pv 0) pe_int (fun _ _ => rfl)) (pe_ix ix_tup (pv 4) pe_int (fun _ _ => rfl))) (pg_sub (pv 0) pe_int set_list))
      (pss_cons (ps_set (i := 5) sc__law_tree.nd rfl (Or.inl rfl) (pe_tup (pa_cons (pe_ix ix_tup (pv 4) pe_int (fun _ _ => rfl)) pa_nil)))
      (pss_cons (ps_for PassesOwn.never rfl (pi_range1 rfl T.n_range (pa_cons (pe_ix ix_tup (pv 4) pe_int (fun _ _ => rfl)) pa_nil)) (pg_name (i := 6) sc__law_tree.nd rfl (Or.inl rfl)) (pss_one (ps_set (i := 5) sc__law_tree.nd rfl (Or.inl rfl) (pe_op op_catA (pv 5) (pe_tup (pa_cons (pe_call (ih) (hr.mono (Nat.le_refl _)) rfl T.m__law_tree T.F__law_tree.kp T.b__law_tree .nil pass0 (pa_cons (pv 0) (pa_cons (pv 1) (pa_cons (pe_op op_sub (pv 2) pe_int) pa_nil)))) pa_nil))))))
      (pss_one (ps_ret (pv 5))))))))), ?_⟩
    try dsimp only [cxK, cxKn]
    have hkl : ins.length = ias.length := Paired.length hks1
    have hk8 := g.le
    have hk1 := g.ne
    have hlo : ia ≠ l := ne_of eo1 e1 (by intro z; cases z)
    obtain ⟨kz, hkz, hkz0⟩ := g.zero
    refine ⟨_, rfl, ia, rfl, ⟨_, SqT.of eo1⟩, pick_kinds (K := K) (fun k => decide (V.int k.2 = V.int 0) || (decide (1 < deep) && decide (k.2 ≤ b))) eo1 hks1 (by (first | lia | omega)) ⟨kz, hkz, by rw [hkz0]; rfl⟩ (fun z ka H2 R sm hz r => ?_) (fun ka H2 R r => ⟨_, rfl, r⟩) (fun D bs H2 hD e' hb1 hb8 hbs => ?_)⟩
    · refine ⟨_, rfl, ka, _, 1, _, rfl, rfl, SqT.of hz, at1, rfl, _, rfl, ?_⟩
      refine ite2 (fun c => ?_) (fun c => ?_)
      · rw [c] at r
        exact r
      · rw [Bool.eq_false_iff.mpr c] at r
        refine ⟨_, rfl, _, _, rfl, rfl, _, rfl, ?_⟩
        refine ite2 (fun c2 => ?_) (fun c2 => ?_)
        · rw [c2] at r
          exact ⟨_, rfl, ka, _, 1, _, rfl, rfl, SqT.of hz, at1, _, rfl, l, _, 1, .int b, rfl, rfl, SqL.of (sm _ _ e1), at1, _, _, rfl, rfl, _, rfl, r⟩
        · rw [Bool.eq_false_iff.mpr c2] at r
          exact r
    have s2 : L2.Same H H2 := by rw [e']; exact same_new hD _
    have eD : H2 D = some (.lst (bs.map fun z => V.ref z.2)) := by rw [e']; exact upd_same
    have hDl : D ≠ l := fun z => by rw [z, e1] at hD; cases hD
    have el2 := s2 _ _ e1
    clear e'
    have hlm : 0 < ((bs.map fun z => V.ref z.2).length : Int) := by rw [List.length_map]; (first | lia | omega)
    have y0 := Int.emod_nonneg x1 (show ((bs.map fun z => V.ref z.2).length : Int) ≠ 0 by (first | lia | omega))
    have y1 := Int.emod_lt_of_pos x1 hlm
    refine hid fun ZZ kZ => ?_
    obtain ⟨z, hz⟩ : ∃ z, bs[(x1 % ((bs.map fun z => V.ref z.2).length : Int)).toNat]? = some z := ⟨_, List.getElem?_eq_getElem (by rw [List.length_map] at y1 ⊢; (first | lia | omega))⟩
    obtain ⟨hmem, gp, eka⟩ := hbs z (List.mem_of_getElem? hz)
    obtain ⟨k0, ka⟩ := z
    refine kZ ?_
    dsimp only at hmem gp eka hz
    have hnum := g.num k0 hmem
    have hkb : k0.2 = 0 ∨ (1 < deep ∧ k0.2 ≤ b) := by
      rcases Bool.or_eq_true .. |>.mp gp with h | h
      · exact .inl (V.int.inj (of_decide_eq_true h))
      · obtain ⟨h1, h2⟩ := Bool.and_eq_true .. |>.mp h
        exact .inr ⟨of_decide_eq_true h1, of_decide_eq_true h2⟩
    refine ⟨_, rfl, _, rfl, l, _, 0, .int x1, rfl, rfl, SqL.of el2, at0, _, rfl, D, _, rfl, .inl (SqL.of eD), _, _, rfl, rfl, hlm, D, _, _, .ref ka, rfl, rfl, SqL.of eD, at_nonneg y0 (by rw [List.getElem?_map, hz]; rfl), ?_⟩
    try dsimp only [gName]
    refine ⟨_, rfl, l, _, 0, .int x1, rfl, rfl, SqL.of el2, at0, _, rfl, D, _, rfl, .inl (SqL.of eD), _, _, rfl, rfl, ⟨hlm, by rw [List.length_map]; (first | lia | omega)⟩, _, rfl, l, _, _, 0, rfl, rfl, el2, rfl, ?_⟩
    have s3 : SameB l H2 (upd H2 l (.lst [.int (x1 / ((bs.map fun z => V.ref z.2).length : Int)), .int b])) := .set
    have e3 : (upd H2 l (.lst [.int (x1 / ((bs.map fun z => V.ref z.2).length : Int)), .int b])) l = some (.lst [.int (x1 / ((bs.map fun z => V.ref z.2).length : Int)), .int b]) := upd_same
    try dsimp only [List.set]
    generalize (upd H2 l (.lst [.int (x1 / ((bs.map fun z => V.ref z.2).length : Int)), .int b])) = H3 at s3 e3 ⊢
    generalize x1 / ((bs.map fun z => V.ref z.2).length : Int) = x3 at e3
    have kt3 : KT H2 H3 := s3.kt el2
    have eka3 : H3 ka = some (.tup [.str k0.1, .int k0.2]) := kt3 _ _ (s2 _ _ eka)
    refine ⟨_, rfl, l, _, 1, .int b, rfl, rfl, SqL.of e3, at1, _, rfl, ka, _, 1, .int k0.2, rfl, rfl, SqT.of eka3, at1, _, _, rfl, rfl, _, rfl, l, _, _, 1, rfl, rfl, e3, rfl, ?_⟩
    have s4 : SameB l H3 (upd H3 l (.lst [.int x3, .int (b - k0.2)])) := .set
    have e4 : (upd H3 l (.lst [.int x3, .int (b - k0.2)])) l = some (.lst [.int x3, .int (b - k0.2)]) := upd_same
    try dsimp only [List.set]
    generalize (upd H3 l (.lst [.int x3, .int (b - k0.2)])) = H4 at s4 e4 ⊢
    have kt4 : KT H3 H4 := s4.kt e3
    have eka4 := kt4 _ _ eka3
    refine ⟨_, rfl, ka, _, 0, .str k0.1, rfl, rfl, SqT.of eka4, at0, line_le (by show 1 ≤ 1000000; decide), fun ma hma => ?_⟩
    have s5 : L2.Same H4 (upd H4 ma (.tup [.str k0.1])) := same_new hma _
    have e5 : (upd H4 ma (.tup [.str k0.1])) ma = some (.tup (.str k0.1 :: ([] : List Addr).map V.ref)) := upd_same
    try dsimp only
    generalize (upd H4 ma (.tup [.str k0.1])) = H5 at s5 e5 ⊢
    have kt15 : KT H H5 := (Same.kt s2).trans (kt3.trans (kt4.trans (Same.kt s5)))
    have eka5 := s5 _ _ eka4
    have el5 := s5 _ _ e4
    have s05 : SameB l H H5 := (SameB.of s2).trans (s3.trans (s4.trans (.of s5)))
    refine ⟨_, rfl, ka, _, 1, _, rfl, rfl, SqT.of eka5, at1, k0.2, rfl, by (first | lia | omega), by (first | lia | omega), ?_⟩
    refine for_range (n := k0.2.toNat) (fun i σ H6 => Ex6 fun (kv : Option V) (ma : Addr) (bs' : List Addr) (ts : List Th) (x' b' : Int) => An9 (σ = [some (.ref l), some (.ref ia), some (.int deep), some (.ref D), some (.ref ka), some (.ref ma), kv]) (SameB l H5 H6) (H6 l = some (.lst [.int x', .int b'])) (H6 ma = some (.tup (.str k0.1 :: bs'.map V.ref))) (Ats H6 ts bs') (ts.length = i) ((∀ t ∈ ts, t.Fit ins ∧ (t.tall : Int) ≤ deep - 1)) (0 ≤ b') ((sizes ts : Int) + b' = b - k0.2 + (i : Int)))
      ⟨none, ma, [], [], x3, b - k0.2, rfl, .refl, el5, e5, .nil, rfl, (fun t ht => by cases ht), by (first | lia | omega), by rw [sizes]; show (0 : Int) + (b - k0.2) = b - k0.2 + 0; (first | lia | omega)⟩ ?_ ?_
    · rintro i σ H6 hi ⟨kv, ma, bs', ts, x', b', rfl, s6, el6, ema, hts, htl, hall, hb0, hsum⟩
      have hi3 : i < k0.2.toNat := hi
      have kt6 : KT H5 H6 := s6.kt el5
      refine ⟨_, rfl, _, rfl, _, rfl, _, rfl, _, _, rfl, rfl, l, ia, x', b', deep - 1, ias, ins, rfl, el6, (kt15.trans kt6) _ _ eo1, hks1.mono (kt15.trans kt6), g, hb0, by (first | lia | omega), by (first | lia | omega), fun t r x7 b7 H7 s7 el7 hat hfit hb7 hsz7 htall7 => ?_⟩
      have kt7 : KT H6 H7 := s7.kt el6
      refine ⟨line_le (by show 1 ≤ 1000000; decide), fun p1 hp1 => ?_⟩
      have s8 : L2.Same H7 (upd H7 p1 (.tup [.ref r])) := same_new hp1 _
      have e8 : (upd H7 p1 (.tup [.ref r])) p1 = some (.tup [.ref r]) := upd_same
      generalize (upd H7 p1 (.tup [.ref r])) = H8 at s8 e8 ⊢
      have hbl : bs'.length = ts.length := hts.length
      refine catT (s8 _ _ (kt7 _ _ ema)) e8 (by rw [List.length_cons, List.length_map]; show bs'.length + 1 + 1 ≤ 1000000; (first | lia | omega)) fun p H9 s9 e9 => ?_
      have s89 := s8.trans s9
      refine ⟨_, p, bs' ++ [r], ts ++ [t], x7, b7, rfl, s6.trans (s7.trans (.of s89)), s89 _ _ el7, ?_, ?_, ?_, ?_, hb7, ?_⟩
      · rw [e9, List.map_append]; rfl
      · exact (hts.mono (kt7.trans (Same.kt s89))).append (.cons (hat.mono (Same.kt s89)) .nil)
      · rw [List.length_append, htl]; rfl
      · intro u hu
        rcases List.mem_append.mp hu with hu | hu
        · exact hall u hu
        · rw [List.mem_singleton.mp hu]
          exact ⟨hfit, htall7⟩
      · rw [sizes_append, sizes, sizes]
        (first | lia | omega)
    · rintro σ H6 ⟨kv, ma, bs', ts, x', b', rfl, s6, el6, ema, hts, htl, hall, hb0, hsum⟩
      have hlow := (g.low k0 hmem).1
      refine ⟨_, rfl, q (.knot k0.1 ts) ma x' b' H6 (s05.trans s6) el6 ?_ ?_ hb0 ?_ ?_⟩
      · rw [At]
        exact ⟨low_q hlow, bs', ema, hts⟩
      · rw [Th.Fit]
        refine ⟨?_, Fits.of fun t ht => (hall t ht).1⟩
        have : (k0.1, (ts.length : Int)) = k0 := by
          rw [htl]
          exact Prod.ext rfl (by show ((k0.2.toNat : Nat) : Int) = k0.2; (first | lia | omega))
        rw [this]
        exact hmem
      · rw [Th.size]
        have : ((k0.2.toNat : Nat) : Int) = k0.2 := by (first | lia | omega)
        (first | lia | omega)
      · rw [Th.tall]
        have h1 : talls ts ≤ (deep - 1).toNat := talls_all fun t ht => by have := (hall t ht).2; (first | lia | omega)
        (first | lia | omega)
end
inductive Isp__law_written (n : Nat) (vs : List V) (H : Hp) (Q : VK) (_E : XK) : Prop
  | mk (b pa kl sa fl : Addr) (ins outs : List (Str × Int)) (S : Int) (hd tt : Th) (rows : List (List Th)) (p : Th) (nm : Str) (ks : List Th) (s : Int) (w pl : List Int) (kas es : List Addr) (E : List Ent) (zz0 : vs = [.ref b, .ref pa, .ref kl, .ref sa, .ref fl]) (zz1 : Bk H ins outs hd rows b) (zz2 : GoodN ins) (zz3 : BookW ins outs S 7 hd rows) (zz4 : At H p pa) (zz5 : H kl = some (.lst (kas.map V.ref))) (zz6 : Paired (KidAt H) (kidsW ks w) kas) (zz7 : kl ≠ fl) (zz8 : SpotAt H s (w.drop 1) pl sa) (zz9 : H fl = some (.lst (es.map V.ref))) (zz10 : Paired (EntAt H) E es) (zz11 : Arr ins rows hd tt pl p (.knot nm ks) s w) (zz12 : p.FitS outs S (ks.length : Int)) (zz13 : (∀ h ∈ ks, h.Fit ins)) (zz14 : p.tall + 8 * (Th.knot nm ks).tall ≤ n) (zz15 : pl.length + n ≤ 1000) (zz16 : w.length + n ≤ 1000) (zz17 : E.length + p.size * 7 ^ (Th.knot nm ks).tall ≤ 100000) (zz18 : ∀ (es' : List Addr) (M : List Ent) (H' : Hp), SameB fl H H' → H' fl = some (.lst (es'.map V.ref)) → Paired (EntAt H') (E ++ M) es' → 1 ≤ M.length → M.length ≤ p.size * 7 ^ (Th.knot nm ks).tall → (∀ e ∈ M, RightE ins rows hd tt e) → Q .non H') : Isp__law_written n vs H Q _E
noncomputable def sp__law_written (n : Nat) : Sp := Isp__law_written n
section
variable {P : Program} {w : World} {K : PySem.W.Frag} {mg : Str → Option Value} {base : Heap} (T : TX K mg)
set_option maxHeartbeats 4000000 in
theorem ok__law_written : ∀ n : Nat, FnOk P w K mg base CX0 n T.f__law_written T.d__law_written ["book", "pattern", "kids", "spot", "found"] (sp__law_written n)
  | 0 => ⟨fun _ _ _ _ h => by obtain ⟨_, _, _, _, _, _, _, _, _, _, _, p, _, _, _, _, _, _, _, _, _, _, _, _, _, _, _, _, _, _, _, _, _, _, h1, _⟩ := h; have := p.tall_eq; (first | lia | omega), fun _ _ _ _ _ _ _ _ _ _ _ _ _ h => by obtain ⟨_, _, _, _, _, _, _, _, _, _, _, p, _, _, _, _, _, _, _, _, _, _, _, _, _, _, _, _, _, _, _, _, _, _, h1, _⟩ := h; have := p.tall_eq; (first | lia | omega)⟩
  | n + 1 => by
    have ih := ok__law_written n
    refine T.F__law_written.ok sc__law_written (fun vs H Q E h => ?_) (fun cdv A outer s H vs Q E hr h => ?_)
    · obtain ⟨b, pa, kl, sa, fl, ins, outs, S, hd, tt, rows, p, nm, ks, s, w, pl, kas, es, EE, rfl, _⟩ := h
      rfl
    obtain ⟨b, pa, kl, sa, fl, ins, outs, S, hd, tt, rows, p, nm, ks, s, w, pl, kas, es, EE, rfl, hb, g, hok, hp, ekl, hkids, hkf, hspot, efl, hE, harr, hfit, hkfit, hms, hplb, hwb, hcnt, q⟩ := h
    refine ⟨_, (pss_one (ps_if (pt_cmpR op_eq (pe_ix ix_tup (pv 1) pe_int (fun _ _ => rfl)) pe_str (nomark _)) (pss_cons (ps_asg (pe_ix ix_list (pv 2) (pe_ix ix_tup (pv 1) pe_int (fun _ _ => rfl)) (fun _ _ => rfl)) (pg_tup rfl (pgs_cons (pg_name (i := 5) sc__law_written.nd rfl (Or.inr rfl)) (pgs_cons (pg_name (i := 6) sc__law_written.nd rfl (Or.inr rfl)) pgs_nil))))
      (pss_cons (ps_setC (i := 7) (N := [Str.ofString "kind"]) (js := [none]) (g := (gName 0)) (tt := tNoTest) (te := (tOp (rIxT K) (tVar 0) (tC (.int 0)))) sc__law_written.nd rfl (Or.inl rfl) rfl (cs_mk rfl (by decide +kernel) (by decide +kernel) rfl rfl rfl) (pi_tup (pe_ix ix_tup (pv 0) pe_int (fun _ _ => rfl))) (fun _ _ _ _ _ _ => (pg_name (i := 0) nd_0 rfl (Or.inl rfl))) (gk_name rfl) (fun _ _ _ _ _ _ => pts_nil) (fun _ _ _ _ _ _ => (pe_ix ix_tup (pv 0) pe_int (fun _ _ => rfl))))
      (pss_cons (ps_setC (i := 8) (N := [Str.ofString "k", Str.ofString "tree", Str.ofString "where"]) (js := [none, some 5, some 6]) (g := (gName 0)) (tt := tNoTest) (te := (tTup (tCons (tOp (rIxT K) (tVar 1) (tOp (rI0 fun i j => .int (i + j)) (tVar 0) (tC (.int 1)))) (tCons (tOp (rCatA K) (tVar 2) (tTup (tCons (tVar 0) tNil))) tNil)))) sc__law_written.nd rfl (Or.inl rfl) rfl (cs_mk rfl (by decide +kernel) (by decide +kernel) rfl rfl rfl) (pi_range1 rfl T.n_range (pa_cons (pe_op op_sub (pe_callB call_len_seq rfl T.n_len PySem.boot_len (pa_cons (pv 5) pa_nil)) pe_int) pa_nil)) (fun _ _ _ _ _ _ => (pg_name (i := 0) nd_5 rfl (Or.inl rfl))) (gk_name rfl) (fun _ _ _ _ _ _ => pts_nil) (fun _ _ _ _ _ _ => (pe_tup (pa_cons (pe_ix ix_tup (pv 1) (pe_op op_add (pv 0) pe_int) (fun _ _ => rfl)) (pa_cons (pe_op op_catA (pv 2) (pe_tup (pa_cons (pv 0) pa_nil))) pa_nil)))))
      (pss_cons (ps_set (i := 9) sc__law_written.nd rfl (Or.inl rfl) (pe_ix ix_tup (pe_ix ix_tup (pe_ix ix_tup (pv 0) pe_int (fun _ _ => rfl)) (pe_ix ix_tup (pv 1) pe_int (fun _ _ => rfl)) (fun _ _ => rfl)) (pe_bm PySem.F.plainAttrs_list PySem.F.slot_list_index PySem.F.type_list_index mt_lindex (pv 7) (pa_cons (pe_ix ix_tup (pv 5) pe_int (fun _ _ => rfl)) pa_nil)) (fun _ _ => rfl)))
      (pss_one (ps_expr (pe_call (ih) (hr.mono (Nat.le_refl _)) rfl T.m__law_written T.F__law_written.kp T.b__law_written .nil pass0 (pa_cons (pv 0) (pa_cons (pv 9) (pa_cons (pv 8) (pa_cons (pe_tup (pa_cons (pe_tup (pa_cons (pe_ix ix_tup (pv 1) pe_int (fun _ _ => rfl)) (pa_cons (pv 6) pa_nil))) (pa_cons (pe_ix ix_tup (pv 3) pe_int (fun _ _ => rfl)) pa_nil))) (pa_cons (pv 4) pa_nil)))))))))))) (pss_cons (ps_expr (pe_bm PySem.F.plainAttrs_list PySem.F.slot_list_append PySem.F.type_list_append mt_append (pv 4) (pa_cons (pe_tup (pa_cons (pe_ix ix_tup (pv 3) pe_int (fun _ _ => rfl)) (pa_cons (pe_ix ix_tup (pv 3) pe_int (fun _ _ => rfl)) (pa_cons (pe_op op_sub (pe_callB call_len_seq rfl T.n_len PySem.boot_len (pa_cons (pv 1) pa_nil)) pe_int) pa_nil)))) pa_nil)))
      (pss_one (ps_for PassesOwn.never rfl (pi_range2 rfl T.n_range (pa_cons pe_int (pa_cons (pe_callB call_len_seq rfl T.n_len PySem.boot_len (pa_cons (pv 1) pa_nil)) pa_nil))) (pg_name (i := 10) sc__law_written.nd rfl (Or.inl rfl)) (pss_one (ps_expr (pe_call (ih) (hr.mono (Nat.le_refl _)) rfl T.m__law_written T.F__law_written.kp T.b__law_written .nil pass0 (pa_cons (pv 0) (pa_cons (pe_ix ix_tup (pv 1) (pv 10) (fun _ _ => rfl)) (pa_cons (pv 2) (pa_cons (pe_tup (pa_cons (pe_ix ix_tup (pv 3) pe_int (fun _ _ => rfl)) (pa_cons (pe_op op_catA (pe_ix ix_tup (pv 3) pe_int (fun _ _ => rfl)) (pe_tup (pa_cons (pe_op op_sub (pv 10) pe_int) pa_nil))) pa_nil))) (pa_cons (pv 4) pa_nil))))))))))))), ?_⟩
    try dsimp only [cxK, cxKn]
    refine hid fun ZZ kZ => ?_
    obtain ⟨ia, oa, hda, ra, ias, oas, ras, bk⟩ := id hb
    have hil : ins.length = ias.length := Paired.length bk.inK
    have hi8 := g.le
    have hEl : EE.length = es.length := Paired.length hE
    have hkal : (kidsW ks w).length = kas.length := Paired.length hkids
    rw [kidsW_len] at hkal
    obtain ⟨soa, swa, sqa, esa, esoa, eswa, esqa⟩ := id hspot
    refine kZ ?_
    have hX : 7 ^ 0 ≤ 7 ^ (Th.knot nm ks).tall := Nat.pow_le_pow_right (by decide) (Nat.zero_le _)
    rw [Nat.pow_zero] at hX
    have htk : (Th.knot nm ks).tall = talls ks + 1 := by rw [Th.tall]
    cases p with
    | call s' c =>
      have epa := hp
      rw [At] at epa
      refine hid fun ZZ kZ => ?_
      obtain ⟨p1, m, hs, st, hf1, hz1, hhs, hmem⟩ := step_exW hok hfit hkfit
      obtain ⟨s0, c0, hh, m', hs', cc, j, row, hme, hj, hrow, hp1⟩ := id st
      refine kZ ?_
      cases hme
      refine ⟨_, rfl, pa, _, 0, .str (Str.ofString "?"), rfl, rfl, SqT.of epa, at0, rfl, _, rfl, ?_⟩
      refine iteTd rfl ?_
      have hcl := (List.getElem?_eq_some_iff.mp hh).1
      refine hid fun ZZ kZ => ?_
      obtain ⟨kp, hkp⟩ : ∃ kp, kas[c.toNat]? = some kp := ⟨_, List.getElem?_eq_getElem (by (first | lia | omega))⟩
      obtain ⟨ta, wa, ekp, htA, ewa⟩ := pair_at hkids (kidsW_get hh) hkp
      have ecc : ((c.toNat : Nat) : Int) = c := by (first | lia | omega)
      dsimp only at htA ewa
      rw [ecc] at ewa
      have htA' := htA
      rw [At] at htA'
      obtain ⟨hmq, bs, eta, hbs⟩ := htA'
      refine kZ ?_
      have hbl := hbs.length
      refine ⟨_, rfl, _, rfl, pa, _, 2, .int c, rfl, rfl, SqT.of epa, at2, kl, _, _, .ref kp, rfl, rfl, SqL.of ekl, at_nonneg c0 (by rw [List.getElem?_map, hkp]; rfl), kp, _, rfl, SqT.of ekp, rfl, _, _, rfl, _, _, rfl, rfl, ?_⟩
      refine ⟨_, rfl, b, _, 0, .ref ia, rfl, rfl, SqT.of bk.bk, at0, ia, rfl, ⟨_, SqT.of bk.inE⟩, comp_sm_tup ins (fun k => V.str k.1) (SqT.of bk.inE) (by rw [List.length_map]; exact hil) (by rw [List.length_map]; (first | lia | omega)) (fun i x z H2 R W' hx hz s2 hR => ?_) (fun D H1 hD s1 e1 => ?_)⟩
      · obtain ⟨ka, rfl, hka⟩ := get_ref hx
        obtain ⟨z', hz', ez⟩ := P2.get' bk.inK hka
        rw [hz] at hz'
        cases hz'
        exact ⟨_, rfl, ka, _, 0, .str z.1, rfl, rfl, SqT.of (s2 _ _ ez), at0, hR H2 (.refl _)⟩
      have en : ins.map (fun k => V.str k.1) = (ins.map (·.1)).map V.str := by rw [List.map_map]; rfl
      rw [en] at e1
      have hln : ((((V.str m :: bs.map V.ref).length : Nat) : Int) - 1).toNat = hs.length := by rw [List.length_cons, List.length_map]; (first | lia | omega)
      have hw1 : (w ++ [c]).length = w.length + 1 := by rw [List.length_append]; rfl
      have htlh := talls_le hmem
      have hsl : hs.length ≤ 100 := by
        have h1 := hok.fit row (List.mem_of_getElem? hrow) j p1 _ hp1 hj
        have h2 := hkfit _ hmem
        rw [Th.Fit] at h2
        have h3 := g.num _ h2.1
        dsimp only at h3
        (first | lia | omega)
      have eta1 := s1 _ _ eta
      refine ⟨_, rfl, ta, _, rfl, .inr (SqT.of eta1), _, _, rfl, rfl, _, rfl, by rw [List.length_cons, List.length_map]; (first | lia | omega), by rw [List.length_cons, List.length_map]; (first | lia | omega), comp_nw (F := KidAt) (xs := (List.range hs.length).map fun (i : Nat) => V.int (0 + (i : Int))) (kidsW hs (w ++ [c])) (fun H1 H2 z p kt h => h.mono kt) (by rw [kidsW_len, List.length_map, List.length_range]) (by rw [List.length_map, List.length_range]; (first | lia | omega)) (fun i Hx sx hi => by rw [List.length_map, List.length_range] at hi; show i < _; (first | lia | omega)) (fun Hx sx => by rw [List.length_map, List.length_range]; show _ ≤ _; (first | lia | omega)) (fun i Hx x Hy sx hi hy => ⟨hy.1, ?_⟩) (fun i x z Hx R W' hx hzz sx hR => ?_) (fun D2 H2 kas2 hD2 s2 eD2 hpD2 => ?_)⟩
      · rw [List.length_map, List.length_range] at hi
        rw [hy.2, List.getElem?_map, List.getElem?_range hi]
        rfl
      · have hi : i < hs.length := by
          have := (List.getElem?_eq_some_iff.mp hx).1
          rw [List.length_map, List.length_range] at this
          exact this
        rw [List.getElem?_map, List.getElem?_range hi] at hx
        cases hx
        obtain ⟨hi', hhi⟩ : ∃ v, hs[i]? = some v := ⟨_, List.getElem?_eq_getElem hi⟩
        rw [kidsW_get hhi] at hzz
        cases hzz
        obtain ⟨bi, hbi⟩ : ∃ v, bs[i]? = some v := ⟨_, List.getElem?_eq_getElem (by (first | lia | omega))⟩
        have sx1 := s1.trans sx
        obtain ⟨u', hu', atb⟩ := (hbs.mono (Same.kt sx1)).get hbi
        rw [hhi] at hu'
        cases hu'
        refine ⟨_, rfl, _, rfl, _, _, rfl, rfl, ta, _, _, .ref bi, rfl, rfl, SqT.of (sx1 _ _ eta), at_nonneg (by (first | lia | omega)) (by rw [show (0 + (i : Int) + 1).toNat = i + 1 by (first | lia | omega), List.getElem?_cons_succ, List.getElem?_map, hbi]; rfl), _, rfl, _, rfl, line_le (by show 1 ≤ 1000000; decide), fun k1 hk1 => ?_⟩
        have t1 : L2.Same Hx (upd Hx k1 (.tup [.int (0 + (i : Int))])) := same_new hk1 _
        have f1 : (upd Hx k1 (.tup [.int (0 + (i : Int))])) k1 = some (.tup [.int (i : Int)]) := by rw [upd_same, Int.zero_add]
        try dsimp only
        generalize (upd Hx k1 (.tup [.int (0 + (i : Int))])) = Hy at t1 f1 ⊢
        have hdl : ((w ++ [c]).drop 1).length ≤ 1000 := by rw [List.length_drop]; (first | lia | omega)
        refine catT ((sx1.trans t1) _ _ ewa) f1 (by rw [List.length_map]; show _ + 1 ≤ 1000000; (first | lia | omega)) fun p3 H7 s7 e7 => ?_
        refine ⟨line_le (by show 2 ≤ 1000000; decide), fun p4 hp4 => ?_⟩
        have s8 := same_new hp4 (.tup [.ref bi, .ref p3])
        refine hR _ p4 (t1.trans (s7.trans s8)) ⟨bi, p3, upd_same, atb.mono (Same.kt (t1.trans (s7.trans s8))), ?_⟩
        rw [s8 _ _ e7]
        have : (w ++ [c] ++ [(i : Int)]).drop 1 = (w ++ [c]).drop 1 ++ [(i : Int)] := by
          rw [List.drop_append_of_le_length (by (first | lia | omega))]
        try dsimp only
        rw [this, List.map_append]
        rfl
      have s12 := s1.trans s2
      have bk2 := bk.mono (Same.kt s12)
      have epa2 := s12 _ _ epa
      refine hid fun ZZ kZ => ?_
      obtain ⟨rowA, hrowA, tas, erow, htas⟩ := P2.get bk2.rw hrow
      have hl2 := htas.length
      have hkl2 := (List.getElem?_eq_some_iff.mp hp1).1
      obtain ⟨pa1, hpa1⟩ : ∃ a, tas[j]? = some a := ⟨_, List.getElem?_eq_getElem (by (first | lia | omega))⟩
      obtain ⟨t2, ht2, hat2⟩ := htas.get hpa1
      refine kZ ?_
      rw [hp1] at ht2
      cases ht2
      have eD := s2 _ _ e1
      refine ⟨_, rfl, b, _, 3, .ref ra, rfl, rfl, SqT.of bk2.bk, atI_nat (j := 3) rfl, _, rfl, pa, _, 1, .int s', rfl, rfl, SqT.of epa2, at1, ra, _, _, .ref rowA, rfl, rfl, SqT.of bk2.rl, at_nonneg s0 (by rw [List.getElem?_map, hrowA]; rfl), _, rfl, .inl ⟨rfl, _, SqL.of eD⟩, _, rfl, ta, _, 0, .str m, rfl, rfl, SqT.of (s12 _ _ eta), at0, D, ins.map (·.1), m, j, rfl, rfl, SqL.of eD, by rw [List.getElem?_map, hj]; rfl, fun i hi hz => ?_, by rw [List.length_map]; (first | lia | omega), rowA, _, (j : Int), .ref pa1, rfl, rfl, SqT.of erow, atI_nat (by rw [List.getElem?_map, hpa1]; rfl), ?_⟩
      · rw [List.getElem?_map] at hz
        obtain ⟨k', hk', e⟩ := Option.map_eq_some_iff.mp hz
        have := g.nd i j k' (m, cc) hk' hj e
        (first | lia | omega)
      refine ⟨_, rfl, _, rfl, _, rfl, _, rfl, pa, _, 1, .int s', rfl, rfl, SqT.of epa2, at1, _, rfl, line_le (by show 2 ≤ 1000000; decide), fun o1 ho1 => ?_⟩
      have s3 : L2.Same H2 (upd H2 o1 (.tup [.int s', .ref wa])) := same_new ho1 _
      have e3 : (upd H2 o1 (.tup [.int s', .ref wa])) o1 = some (.tup [.int s', .ref wa]) := upd_same
      generalize (upd H2 o1 (.tup [.int s', .ref wa])) = H3 at s3 e3 ⊢
      have s13 := s12.trans s3
      refine ⟨_, rfl, sa, _, 1, .ref sqa, rfl, rfl, SqT.of (s13 _ _ esa), at1, line_le (by show 2 ≤ 1000000; decide), fun o2 ho2 => ?_⟩
      have s4 : L2.Same H3 (upd H3 o2 (.tup [.ref o1, .ref sqa])) := same_new ho2 _
      have e4 : (upd H3 o2 (.tup [.ref o1, .ref sqa])) o2 = some (.tup [.ref o1, .ref sqa]) := upd_same
      generalize (upd H3 o2 (.tup [.ref o1, .ref sqa])) = H4 at s4 e4 ⊢
      have s14 := s13.trans s4
      have s24 := s3.trans s4
      have hDf : D2 ≠ fl := fun z => by
        have := s1 _ _ efl
        rw [z, this] at hD2
        cases hD2
      have hpow : p1.size * 7 ^ (Th.knot m hs).tall ≤ 7 ^ (Th.knot nm ks).tall := by
        have h1 : p1.size * 7 ^ (Th.knot m hs).tall ≤ 7 * 7 ^ (Th.knot m hs).tall := Nat.mul_le_mul_right _ hz1
        have h2 : 7 * 7 ^ (Th.knot m hs).tall = 7 ^ ((Th.knot m hs).tall + 1) := by rw [Nat.pow_succ, Nat.mul_comm]
        have h3 : (7 : Nat) ^ ((Th.knot m hs).tall + 1) ≤ 7 ^ (Th.knot nm ks).tall := Nat.pow_le_pow_right (by decide) (by rw [htk]; (first | lia | omega))
        (first | lia | omega)
      have htp := tall_size p1
      rw [show (Th.call s' c).tall = 1 by rw [Th.tall]] at hms
      rw [show (Th.call s' c).size = 1 by rw [Th.size], Nat.one_mul] at hcnt q
      refine ⟨_, rfl, b, pa1, D2, o2, fl, ins, outs, S, hd, tt, rows, p1, m, hs, s', w ++ [c], pl, kas2, es, EE, rfl, hb.mono (Same.kt s14), g, hok, hat2.mono (Same.kt s24), s24 _ _ eD2, P2.mp (fun _ _ e => KidAt.mono (Same.kt s24) e) hpD2, hDf, ⟨o1, wa, sqa, e4, s4 _ _ e3, s14 _ _ ewa, s14 _ _ esqa⟩, s14 _ _ efl, P2.mp (fun _ _ e => EntAt.mono (Same.kt s14) e) hE, .call harr st, hf1, hhs, by (first | lia | omega), by (first | lia | omega), by (first | lia | omega), by (first | lia | omega), fun es' M H' sB ef hEM h1 h2 h3 => ?_⟩
      exact q es' M H' ((SameB.of s14).trans sB) ef hEM h1 (by (first | lia | omega)) h3
    | knot pn ts =>
      have hp' := hp
      rw [At] at hp'
      refine hid fun ZZ kZ => ?_
      obtain ⟨hpq, tas, epa, hts⟩ := hp'
      refine kZ ?_
      have htl := hts.length
      refine ⟨_, rfl, pa, _, 0, .str pn, rfl, rfl, SqT.of epa, at0, rfl, _, rfl, ?_⟩
      refine iteFd (fun z : V.str pn = V.str (Str.ofString "?") => hpq (V.str.inj z)) ?_
      rw [Th.size] at hcnt q
      rw [Th.tall] at hms
      rw [Th.FitS] at hfit
      refine ⟨_, rfl, .inl ⟨rfl, _, SqL.of efl⟩, _, rfl, sa, _, 1, .ref sqa, rfl, rfl, SqT.of esa, at1, _, rfl, sa, _, 0, .ref soa, rfl, rfl, SqT.of esa, at0, _, rfl, pa, _, rfl, .inr (SqT.of epa), _, _, rfl, rfl, line_le (by show 3 ≤ 1000000; decide), fun en hen => ?_⟩
      have s1 : L2.Same H (upd H en (.tup [.ref sqa, .ref soa, .int ((((V.str pn :: tas.map V.ref).length : Nat) : Int) - 1)])) := same_new hen _
      have e1 : (upd H en (.tup [.ref sqa, .ref soa, .int ((((V.str pn :: tas.map V.ref).length : Nat) : Int) - 1)])) en = some (.tup [.ref sqa, .ref soa, .int ((ts.length : Nat) : Int)]) := by
        have : ((((V.str pn :: tas.map V.ref).length : Nat) : Int) - 1) = ((ts.length : Nat) : Int) := by rw [List.length_cons, List.length_map]; (first | lia | omega)
        rw [upd_same, this]
      try dsimp only
      generalize (upd H en (.tup [.ref sqa, .ref soa, .int ((((V.str pn :: tas.map V.ref).length : Nat) : Int) - 1)])) = H1 at s1 e1 ⊢
      have efl1 := s1 _ _ efl
      have hsz0 : 0 < (sizes ts + 1) * 7 ^ (Th.knot nm ks).tall := Nat.mul_pos (by (first | lia | omega)) (by (first | lia | omega))
      refine ⟨fl, _, _, rfl, rfl, efl1, line_big (by rw [List.length_map]; (first | lia | omega)), ?_⟩
      have kt2 : KT H1 (upd H1 fl (.lst (es.map V.ref ++ [.ref en]))) := kt_lst efl1
      have s2 : SameB fl H1 (upd H1 fl (.lst (es.map V.ref ++ [.ref en]))) := .set
      have e2 : (upd H1 fl (.lst (es.map V.ref ++ [.ref en]))) fl = some (.lst ((es ++ [en]).map V.ref)) := by rw [upd_same, List.map_append]; rfl
      generalize (upd H1 fl (.lst (es.map V.ref ++ [.ref en]))) = H2 at kt2 s2 e2 ⊢
      have kt02 : KT H H2 := (Same.kt s1).trans kt2
      have s02 : SameB fl H H2 := (SameB.of s1).trans s2
      have hent : EntAt H2 ⟨pl, s, w.drop 1, ts.length⟩ en := ⟨sqa, soa, swa, kt2 _ _ e1, kt02 _ _ esqa, kt02 _ _ esoa, kt02 _ _ eswa⟩
      have epa2 := kt02 _ _ epa
      have hlz := len_sizes ts
      have hszle : sizes ts ≤ 100000 := by
        have : (sizes ts + 1) * 1 ≤ (sizes ts + 1) * 7 ^ (Th.knot nm ks).tall := Nat.mul_le_mul_left _ hX
        (first | lia | omega)
      refine ⟨_, rfl, pa, _, rfl, .inr (SqT.of epa2), 1, _, rfl, ⟨by decide, by decide, by rw [List.length_cons, List.length_map]; (first | lia | omega), by rw [List.length_cons, List.length_map]; (first | lia | omega)⟩, ?_⟩
      have hrn : ((((V.str pn :: tas.map V.ref).length : Nat) : Int) - 1).toNat = ts.length := by rw [List.length_cons, List.length_map]; (first | lia | omega)
      rw [hrn]
      refine for_range (n := ts.length) (fun i σ H3 => Ex3 fun (kv : Option V) (es' : List Addr) (M : List Ent) => An7 (σ = [some (.ref b), some (.ref pa), some (.ref kl), some (.ref sa), some (.ref fl), none, none, none, none, none, kv]) (SameB fl H2 H3) (H3 fl = some (.lst (es'.map V.ref))) (Paired (EntAt H3) (EE ++ M) es') (1 ≤ M.length) (M.length ≤ 1 + sizes (ts.take i) * 7 ^ (Th.knot nm ks).tall) (∀ e ∈ M, RightE ins rows hd tt e))
        ⟨none, es ++ [en], [⟨pl, s, w.drop 1, ts.length⟩], rfl, .refl, e2, P2.append (P2.mp (fun _ _ e => EntAt.mono kt02 e) hE) (.cons hent .nil), Nat.le_refl _, by show 1 ≤ _; (first | lia | omega), (fun e he => by rw [List.mem_singleton.mp he]; exact ⟨pn, ts, _, w, harr, rfl, rfl⟩)⟩ ?_ ?_
      · rintro i σ H3 hi ⟨kv, es', M, rfl, s3, e3, hEM, hM1, hMl, hMr⟩
        have hi' : i < ts.length := hi
        have kt3 : KT H2 H3 := s3.kt e2
        have kt03 := kt02.trans kt3
        refine hid fun ZZ kZ => ?_
        obtain ⟨ka, hka⟩ : ∃ ka, tas[i]? = some ka := ⟨_, List.getElem?_eq_getElem (by (first | lia | omega))⟩
        obtain ⟨u, hu, atu⟩ := (hts.mono kt03).get hka
        refine kZ ?_
        have hum := List.mem_of_getElem? hu
        have htu := talls_le hum
        have hst : sizes (ts.take i) + u.size ≤ sizes ts := by
          have h1 : sizes (ts.take (i + 1)) + sizes (ts.drop (i + 1)) = sizes ts := by rw [← sizes_append, List.take_append_drop]
          rw [take_snoc hu, sizes_append, sizes, sizes] at h1
          (first | lia | omega)
        have hmul : sizes (ts.take i) * 7 ^ (Th.knot nm ks).tall + u.size * 7 ^ (Th.knot nm ks).tall + 7 ^ (Th.knot nm ks).tall ≤ (sizes ts + 1) * 7 ^ (Th.knot nm ks).tall := by
          rw [← Nat.add_mul, ← Nat.succ_mul]
          exact Nat.mul_le_mul_right _ (by (first | lia | omega))
        refine ⟨_, rfl, _, rfl, _, rfl, pa, _, _, .ref ka, rfl, rfl, SqT.of (kt3 _ _ epa2), at_nonneg (by (first | lia | omega)) (by rw [show (1 + (i : Int)).toNat = i + 1 by (first | lia | omega), List.getElem?_cons_succ, List.getElem?_map, hka]; rfl), _, rfl, _, rfl, sa, _, 0, .ref soa, rfl, rfl, SqT.of (kt03 _ _ esa), at0, _, rfl, sa, _, 1, .ref sqa, rfl, rfl, SqT.of (kt03 _ _ esa), at1, _, rfl, _, _, rfl, rfl, line_le (by show 1 ≤ 1000000; decide), fun k1 hk1 => ?_⟩
        have t1 : L2.Same H3 (upd H3 k1 (.tup [.int (1 + (i : Int) - 1)])) := same_new hk1 _
        have f1 : (upd H3 k1 (.tup [.int (1 + (i : Int) - 1)])) k1 = some (.tup [.int (i : Int)]) := by rw [upd_same, show 1 + (i : Int) - 1 = (i : Int) by (first | lia | omega)]
        try dsimp only
        generalize (upd H3 k1 (.tup [.int (1 + (i : Int) - 1)])) = H4 at t1 f1 ⊢
        refine catT (t1 _ _ (kt03 _ _ esqa)) f1 (by rw [List.length_map]; show pl.length + 1 ≤ 1000000; (first | lia | omega)) fun p3 H5 s5 e5 => ?_
        refine ⟨line_le (by show 2 ≤ 1000000; decide), fun o2 ho2 => ?_⟩
        have s6 : L2.Same H5 (upd H5 o2 (.tup [.ref soa, .ref p3])) := same_new ho2 _
        have e6 : (upd H5 o2 (.tup [.ref soa, .ref p3])) o2 = some (.tup [.ref soa, .ref p3]) := upd_same
        generalize (upd H5 o2 (.tup [.ref soa, .ref p3])) = H6 at s6 e6 ⊢
        have s36 := t1.trans (s5.trans s6)
        have kt36 : KT H3 H6 := Same.kt s36
        have kt06 := kt03.trans kt36
        have ekl6 : H6 kl = some (.lst (kas.map V.ref)) := s36 _ _ (s3 _ _ hkf (s02 _ _ hkf ekl))
        refine ⟨_, rfl, b, ka, kl, o2, fl, ins, outs, S, hd, tt, rows, u, nm, ks, s, w, pl ++ [(i : Int)], kas, es', EE ++ M, rfl, hb.mono kt06, g, hok, atu.mono kt36, ekl6, P2.mp (fun _ _ e => KidAt.mono kt06 e) hkids, hkf, ⟨soa, swa, p3, e6, kt06 _ _ esoa, kt06 _ _ eswa, ?_⟩, s36 _ _ e3, P2.mp (fun _ _ e => EntAt.mono kt36 e) hEM, .kid harr (by (first | lia | omega)) (by rw [Int.toNat_natCast]; exact hu), fitSs_mem hfit.2 u hum, hkfit, by (first | lia | omega), by rw [List.length_append]; show pl.length + 1 + n ≤ 1000; (first | lia | omega), by (first | lia | omega), by rw [List.length_append]; (first | lia | omega), fun es2 M2 H7 sB ef hEM2 h1 h2 h3 => ?_⟩
        · rw [s6 _ _ e5, List.map_append]; rfl
        refine ⟨_, es2, M ++ M2, rfl, s3.trans ((SameB.of s36).trans sB), ef, by rw [← List.append_assoc]; exact hEM2, by rw [List.length_append]; (first | lia | omega), ?_, fun e he => ?_⟩
        · rw [List.length_append, take_snoc hu, sizes_append, sizes, sizes, Nat.add_zero, Nat.add_mul]
          (first | lia | omega)
        · rcases List.mem_append.mp he with he | he
          · exact hMr e he
          · exact h3 e he
      · rintro σ H3 ⟨kv, es', M, rfl, s3, e3, hEM, hM1, hMl, hMr⟩
        rw [List.take_of_length_le (Nat.le_refl _)] at hMl
        refine q es' M H3 (s02.trans s3) e3 hEM hM1 ?_ hMr
        rw [Nat.add_mul, Nat.one_mul]
        (first | lia | omega)
end
inductive Isp__law_double (vs : List V) (H : Hp) (Q : VK) (_E : XK) : Prop
  | mk (na : Addr) (n0 n1 n2 n3 : Str) (u : Bool) (zz0 : vs = [.ref na, .bl u]) (zz1 : H na = some (.lst ([n0, n1, n2, n3].map V.str))) (zz2 : NamesOk [n0, n1, n2, n3]) (zz3 : ∀ (r : Addr) (H' : Hp), L2.Same H H' → Bk H' [(n0, 0), (n1, 1)] [(n2, 0), (n3, 2)] (if u = true then .knot n3 [.call 0 0, .call 0 0] else .call 0 0) [[.knot n2 [], .knot n3 [.call 0 0, .call 0 0]]] r → Q (.ref r) H') : Isp__law_double  vs H Q _E
noncomputable def sp__law_double : Sp := Isp__law_double 
inductive Isp__law_chain (vs : List V) (H : Hp) (Q : VK) (_E : XK) : Prop
  | mk (na : Addr) (n0 n1 n2 n3 : Str) (many : Int) (zz0 : vs = [.ref na, .int many]) (zz1 : H na = some (.lst ([n0, n1, n2, n3].map V.str))) (zz2 : NamesOk [n0, n1, n2, n3]) (zz3 : 0 ≤ many) (zz4 : many ≤ 1000) (zz5 : ∀ (r : Addr) (H' : Hp), L2.Same H H' → At H' (chainT n0 n1 many.toNat) r → Q (.ref r) H') : Isp__law_chain  vs H Q _E
noncomputable def sp__law_chain : Sp := Isp__law_chain 
inductive Isp__law_bits (vs : List V) (H : Hp) (Q : VK) (_E : XK) : Prop
  | mk (c many : Int) (zz0 : vs = [.int c, .int many]) (zz1 : 0 ≤ many) (zz2 : many ≤ 1000) (zz3 : ∀ (r : Addr) (xs : List Int) (H' : Hp), L2.Same H H' → H' r = some (.tup (xs.map V.int)) → xs.length = many.toNat → (∀ x ∈ xs, x = 0 ∨ x = 1) → Q (.ref r) H') : Isp__law_bits  vs H Q _E
noncomputable def sp__law_bits : Sp := Isp__law_bits 
section
variable {P : Program} {w : World} {K : PySem.W.Frag} {mg : Str → Option Value} {base : Heap} (T : TX K mg)
theorem ok__law_chain : FnOk P w K mg base CX0 1 T.f__law_chain T.d__law_chain ["names", "many"] sp__law_chain := by
  refine T.F__law_chain.ok sc__law_chain (fun vs H Q E h => ?_) (fun cdv A outer s H vs Q E hr h => ?_)
  · obtain ⟨na, n0, n1, n2, n3, many, rfl, _⟩ := h
    rfl
  obtain ⟨na, n0, n1, n2, n3, many, rfl, ena, hok, m0, m1, q⟩ := h
  refine ⟨_, (pss_cons (ps_set (i := 2) sc__law_chain.nd rfl (Or.inl rfl) (pe_tup (pa_cons (pe_ix ix_list (pv 0) pe_int (fun _ _ => rfl)) pa_nil)))
      (pss_cons (ps_for PassesOwn.never rfl (pi_range1 rfl T.n_range (pa_cons (pv 1) pa_nil)) (pg_name (i := 3) sc__law_chain.nd rfl (Or.inl rfl)) (pss_one (ps_set (i := 2) sc__law_chain.nd rfl (Or.inl rfl) (pe_tup (pa_cons (pe_ix ix_list (pv 0) pe_int (fun _ _ => rfl)) (pa_cons (pv 2) pa_nil))))))
      (pss_one (ps_ret (pv 2))))), ?_⟩
  try dsimp only [cxK, cxKn]
  have l0 : n0 ≠ BB.q := low_q (hok.low n0 (by simp)).1
  have l1 : n1 ≠ BB.q := low_q (hok.low n1 (by simp)).1
  refine ⟨_, rfl, na, _, 0, .str n0, rfl, rfl, SqL.of ena, at_nonneg (by decide) rfl, line_le (by show 1 ≤ 1000000; decide), fun t1 ht1 => ?_⟩
  refine ⟨_, rfl, many, rfl, by (first | lia | omega), by (first | lia | omega), ?_⟩
  refine for_range (n := many.toNat) (fun i σ H3 => Ex2 fun (kv : Option V) (ta : Addr) => An3 (σ = [some (.ref na), some (.int many), some (.ref ta), kv]) (L2.Same H H3) (At H3 (chainT n0 n1 i) ta))
    ⟨none, t1, rfl, same_new ht1 _, by rw [chainT, At]; exact ⟨l0, [], upd_same, .nil⟩⟩ ?_ ?_
  · rintro i σ H3 hi ⟨kv, ta, rfl, s3, hA⟩
    refine ⟨_, rfl, na, _, 1, .str n1, rfl, rfl, SqL.of (s3 _ _ ena), at_nonneg (by decide) rfl, _, rfl, line_le (by show 2 ≤ 1000000; decide), fun t2 ht2 => ?_⟩
    have s4 := same_new ht2 (.tup [.str n1, .ref ta])
    refine ⟨_, t2, rfl, s3.trans s4, ?_⟩
    rw [chainT, At]
    exact ⟨l1, [ta], upd_same, .cons (hA.mono (Same.kt s4)) .nil⟩
  · rintro σ H3 ⟨kv, ta, rfl, s3, hA⟩
    exact ⟨_, rfl, q ta H3 s3 hA⟩
theorem ok__law_bits : FnOk P w K mg base CX0 1 T.f__law_bits T.d__law_bits ["cell", "many"] sp__law_bits := by
  refine T.F__law_bits.ok sc__law_bits (fun vs H Q E h => ?_) (fun cdv A outer s H vs Q E hr h => ?_)
  · obtain ⟨c, many, rfl, _⟩ := h
    rfl
  obtain ⟨c, many, rfl, m0, m1, q⟩ := h
  refine ⟨_, (pss_cons (ps_set (i := 2) sc__law_bits.nd rfl (Or.inl rfl) (pe_tup pa_nil))
      (pss_cons (ps_for PassesOwn.never rfl (pi_range1 rfl T.n_range (pa_cons (pv 1) pa_nil)) (pg_name (i := 3) sc__law_bits.nd rfl (Or.inl rfl)) (pss_cons (ps_set (i := 2) sc__law_bits.nd rfl (Or.inl rfl) (pe_op op_catA (pv 2) (pe_tup (pa_cons (pe_op op_mod (pv 0) pe_int) pa_nil))))
      (pss_one (ps_set (i := 0) sc__law_bits.nd rfl (Or.inl rfl) (pe_op op_fdiv (pv 0) pe_int)))))
      (pss_one (ps_ret (pv 2))))), ?_⟩
  try dsimp only [cxK, cxKn]
  refine ⟨line_le (by show 0 ≤ 1000000; decide), fun t1 ht1 => ?_⟩
  refine ⟨_, rfl, many, rfl, by (first | lia | omega), by (first | lia | omega), ?_⟩
  refine for_range (n := many.toNat) (fun i σ H3 => Ex4 fun (c : Int) (kv : Option V) (pa : Addr) (xs : List Int) => An5 (σ = [some (.int c), some (.int many), some (.ref pa), kv]) (L2.Same H H3) (H3 pa = some (.tup (xs.map V.int))) (xs.length = i) (∀ x ∈ xs, x = 0 ∨ x = 1))
    ⟨c, none, t1, [], rfl, same_new ht1 _, upd_same, rfl, fun x hx => by cases hx⟩ ?_ ?_
  · rintro i σ H3 hi ⟨c, kv, pa, xs, rfl, s3, e3, hxl, hxs⟩
    have hi' : i < many.toNat := hi
    refine ⟨_, rfl, _, rfl, _, _, rfl, rfl, (by show (0 : Int) < 2; decide), line_le (by show 1 ≤ 1000000; decide), fun t2 ht2 => ?_⟩
    have s4 : L2.Same H3 (upd H3 t2 (.tup [.int (c % 2)])) := same_new ht2 _
    have e4 : (upd H3 t2 (.tup [.int (c % 2)])) t2 = some (.tup [.int (c % 2)]) := upd_same
    try dsimp only
    generalize (upd H3 t2 (.tup [.int (c % 2)])) = H4 at s4 e4 ⊢
    refine catT (s4 _ _ e3) e4 (by rw [List.length_map]; show xs.length + 1 ≤ 1000000; (first | lia | omega)) fun p H5 s5 e5 => ?_
    refine ⟨_, rfl, _, _, rfl, rfl, ⟨by decide, by decide⟩, _, _, p, xs ++ [c % 2], rfl, s3.trans (s4.trans s5), by rw [e5, List.map_append]; rfl, by rw [List.length_append, hxl]; rfl, fun x hx => ?_⟩
    rcases List.mem_append.mp hx with hx | hx
    · exact hxs x hx
    · rw [List.mem_singleton.mp hx]
      have := Int.emod_nonneg c (show (2 : Int) ≠ 0 by decide)
      have := Int.emod_lt_of_pos c (show (0 : Int) < 2 by decide)
      (first | lia | omega)
  · rintro σ H3 ⟨c, kv, pa, xs, rfl, s3, e3, hxl, hxs⟩
    exact ⟨_, rfl, q pa xs H3 s3 e3 hxl hxs⟩
set_option maxHeartbeats 1000000 in
theorem ok__law_double : FnOk P w K mg base CX0 1 T.f__law_double T.d__law_double ["names", "under"] sp__law_double := by
  refine T.F__law_double.ok sc__law_double (fun vs H Q E h => ?_) (fun cdv A outer s H vs Q E hr h => ?_)
  · obtain ⟨na, n0, n1, n2, n3, u, rfl, _⟩ := h
    rfl
  obtain ⟨na, n0, n1, n2, n3, u, rfl, ena, hok, q⟩ := h
  refine ⟨_, (pss_cons (ps_set (i := 2) sc__law_double.nd rfl (Or.inl rfl) (pe_tup (pa_cons pe_str (pa_cons pe_int (pa_cons pe_int pa_nil)))))
      (pss_cons (ps_set (i := 3) sc__law_double.nd rfl (Or.inl rfl) (pe_tup (pa_cons (pe_tup (pa_cons (pe_ix ix_list (pv 0) pe_int (fun _ _ => rfl)) (pa_cons pe_int pa_nil))) (pa_cons (pe_tup (pa_cons (pe_ix ix_list (pv 0) pe_int (fun _ _ => rfl)) (pa_cons pe_int pa_nil))) pa_nil))))
      (pss_cons (ps_set (i := 4) sc__law_double.nd rfl (Or.inl rfl) (pe_tup (pa_cons (pe_tup (pa_cons (pe_ix ix_list (pv 0) pe_int (fun _ _ => rfl)) (pa_cons pe_int pa_nil))) (pa_cons (pe_tup (pa_cons (pe_ix ix_list (pv 0) pe_int (fun _ _ => rfl)) (pa_cons pe_int pa_nil))) pa_nil))))
      (pss_cons (ps_set (i := 5) sc__law_double.nd rfl (Or.inl rfl) (pv 2))
      (pss_cons (ps_if (pt_truth (pv 1) (fun _ => rfl)) (pss_one (ps_set (i := 5) sc__law_double.nd rfl (Or.inl rfl) (pe_tup (pa_cons (pe_ix ix_list (pv 0) pe_int (fun _ _ => rfl)) (pa_cons (pv 2) (pa_cons (pv 2) pa_nil)))))) pss_nil)
      (pss_one (ps_ret (pe_tup (pa_cons (pv 3) (pa_cons (pv 4) (pa_cons (pv 5) (pa_cons (pe_tup (pa_cons (pe_tup (pa_cons (pe_tup (pa_cons (pe_ix ix_list (pv 0) pe_int (fun _ _ => rfl)) pa_nil)) (pa_cons (pe_tup (pa_cons (pe_ix ix_list (pv 0) pe_int (fun _ _ => rfl)) (pa_cons (pv 2) (pa_cons (pv 2) pa_nil)))) pa_nil))) pa_nil)) pa_nil)))))))))))), ?_⟩
  try dsimp only [cxK, cxKn]
  have l2 : n2 ≠ BB.q := low_q (hok.low n2 (by simp)).1
  have l3 : n3 ≠ BB.q := low_q (hok.low n3 (by simp)).1
  refine ⟨line_le (by show 3 ≤ 1000000; decide), fun ca hca => ?_⟩
  have s1 : L2.Same H (upd H ca (.tup [.str BB.q, .int 0, .int 0])) := same_new hca _
  have e1 : At (upd H ca (.tup [.str BB.q, .int 0, .int 0])) (.call 0 0) ca := by rw [At]; exact upd_same
  try dsimp only [gName]
  have hq : (Str.ofString "?") = BB.q := rfl
  rw [hq]
  generalize (upd H ca (.tup [.str BB.q, .int 0, .int 0])) = H1 at s1 e1 ⊢
  have ena1 := s1 _ _ ena
  refine ⟨_, rfl, na, _, 0, .str n0, rfl, rfl, SqL.of ena1, at_nonneg (by decide) rfl, line_le (by show 2 ≤ 1000000; decide), fun k0 hk0 => ?_⟩
  have s2 : L2.Same H1 (upd H1 k0 (.tup [.str n0, .int 0])) := same_new hk0 _
  have e2 : KAt (upd H1 k0 (.tup [.str n0, .int 0])) (n0, 0) k0 := upd_same
  generalize (upd H1 k0 (.tup [.str n0, .int 0])) = H2 at s2 e2 ⊢
  refine ⟨_, rfl, na, _, 1, .str n1, rfl, rfl, SqL.of (s2 _ _ ena1), at_nonneg (by decide) rfl, line_le (by show 2 ≤ 1000000; decide), fun k1 hk1 => ?_⟩
  have s3 : L2.Same H2 (upd H2 k1 (.tup [.str n1, .int 1])) := same_new hk1 _
  have e3 : KAt (upd H2 k1 (.tup [.str n1, .int 1])) (n1, 1) k1 := upd_same
  generalize (upd H2 k1 (.tup [.str n1, .int 1])) = H3 at s3 e3 ⊢
  refine ⟨line_le (by show 2 ≤ 1000000; decide), fun ia hia => ?_⟩
  have s4 : L2.Same H3 (upd H3 ia (.tup [.ref k0, .ref k1])) := same_new hia _
  have e4 : (upd H3 ia (.tup [.ref k0, .ref k1])) ia = some (.tup ([k0, k1].map V.ref)) := upd_same
  try dsimp only [gName]
  generalize (upd H3 ia (.tup [.ref k0, .ref k1])) = H4 at s4 e4 ⊢
  have s14 := s2.trans (s3.trans s4)
  refine ⟨_, rfl, na, _, 2, .str n2, rfl, rfl, SqL.of (s14 _ _ ena1), at_nonneg (by decide) rfl, line_le (by show 2 ≤ 1000000; decide), fun k2 hk2 => ?_⟩
  have s5 : L2.Same H4 (upd H4 k2 (.tup [.str n2, .int 0])) := same_new hk2 _
  have e5 : KAt (upd H4 k2 (.tup [.str n2, .int 0])) (n2, 0) k2 := upd_same
  generalize (upd H4 k2 (.tup [.str n2, .int 0])) = H5 at s5 e5 ⊢
  have s15 := s14.trans s5
  refine ⟨_, rfl, na, _, 3, .str n3, rfl, rfl, SqL.of (s15 _ _ ena1), at_nonneg (by decide) rfl, line_le (by show 2 ≤ 1000000; decide), fun k3 hk3 => ?_⟩
  have s6 : L2.Same H5 (upd H5 k3 (.tup [.str n3, .int 2])) := same_new hk3 _
  have e6 : KAt (upd H5 k3 (.tup [.str n3, .int 2])) (n3, 2) k3 := upd_same
  generalize (upd H5 k3 (.tup [.str n3, .int 2])) = H6 at s6 e6 ⊢
  refine ⟨line_le (by show 2 ≤ 1000000; decide), fun oa hoa => ?_⟩
  have s7 : L2.Same H6 (upd H6 oa (.tup [.ref k2, .ref k3])) := same_new hoa _
  have e7 : (upd H6 oa (.tup [.ref k2, .ref k3])) oa = some (.tup ([k2, k3].map V.ref)) := upd_same
  try dsimp only [gName]
  generalize (upd H6 oa (.tup [.ref k2, .ref k3])) = H7 at s7 e7 ⊢
  have s57 := s6.trans s7
  have s47 := s5.trans s57
  have s17 := s14.trans s47
  refine ⟨_, rfl, ?_⟩
  try dsimp only [gName]
  refine seq_intro (fun σ' H' => Ex1 fun (ha : Addr) => An3 (σ' = [some (.ref na), some (.bl u), some (.ref ca), some (.ref ia), some (.ref oa), some (.ref ha)]) (L2.Same H7 H') (At H' (if u = true then .knot n3 [.call 0 0, .call 0 0] else .call 0 0) ha)) (fun kk hk => ?_) ?_
  · refine ⟨_, rfl, u, rfl, ?_⟩
    cases u with
    | true =>
      refine iteT ?_
      refine ⟨_, rfl, na, _, 3, .str n3, rfl, rfl, SqL.of (s17 _ _ ena1), at_nonneg (by decide) rfl, _, rfl, _, rfl, line_le (by show 3 ≤ 1000000; decide), fun ha hha => ?_⟩
      have s8 := same_new hha (.tup [.str n3, .ref ca, .ref ca])
      have hc := e1.mono (Same.kt (s17.trans s8))
      refine hk _ _ ⟨ha, rfl, s8, ?_⟩
      rw [if_pos rfl, At]
      exact ⟨l3, [ca, ca], upd_same, .cons hc (.cons hc .nil)⟩
    | false =>
      refine iteF ?_
      refine hk _ _ ⟨ca, rfl, .refl _, ?_⟩
      rw [if_neg (by decide)]
      exact e1.mono (Same.kt s17)
  rintro σ' H8 ⟨ha, rfl, s8, hhA⟩
  have s18 := s17.trans s8
  refine ⟨_, rfl, _, rfl, _, rfl, _, rfl, na, _, 2, .str n2, rfl, rfl, SqL.of (s18 _ _ ena1), at_nonneg (by decide) rfl, line_le (by show 1 ≤ 1000000; decide), fun p1 hp1 => ?_⟩
  have s9 : L2.Same H8 (upd H8 p1 (.tup [.str n2])) := same_new hp1 _
  have e9 : At (upd H8 p1 (.tup [.str n2])) (.knot n2 []) p1 := by rw [At]; exact ⟨l2, [], upd_same, .nil⟩
  generalize (upd H8 p1 (.tup [.str n2])) = H9 at s9 e9 ⊢
  have s19 := s18.trans s9
  refine ⟨_, rfl, na, _, 3, .str n3, rfl, rfl, SqL.of (s19 _ _ ena1), at_nonneg (by decide) rfl, _, rfl, _, rfl, line_le (by show 3 ≤ 1000000; decide), fun p2 hp2 => ?_⟩
  have s10 : L2.Same H9 (upd H9 p2 (.tup [.str n3, .ref ca, .ref ca])) := same_new hp2 _
  have hc := e1.mono (Same.kt (s19.trans s10))
  have e10 : At (upd H9 p2 (.tup [.str n3, .ref ca, .ref ca])) (.knot n3 [.call 0 0, .call 0 0]) p2 := by rw [At]; exact ⟨l3, [ca, ca], upd_same, .cons hc (.cons hc .nil)⟩
  generalize (upd H9 p2 (.tup [.str n3, .ref ca, .ref ca])) = H10 at s10 e10 hc ⊢
  refine ⟨line_le (by show 2 ≤ 1000000; decide), fun ro hro => ?_⟩
  have s11 : L2.Same H10 (upd H10 ro (.tup [.ref p1, .ref p2])) := same_new hro _
  have e11 : (upd H10 ro (.tup [.ref p1, .ref p2])) ro = some (.tup ([p1, p2].map V.ref)) := upd_same
  generalize (upd H10 ro (.tup [.ref p1, .ref p2])) = H11 at s11 e11 ⊢
  refine ⟨line_le (by show 1 ≤ 1000000; decide), fun ra hra => ?_⟩
  have s12 : L2.Same H11 (upd H11 ra (.tup [.ref ro])) := same_new hra _
  have e12 : (upd H11 ra (.tup [.ref ro])) ra = some (.tup ([ro].map V.ref)) := upd_same
  generalize (upd H11 ra (.tup [.ref ro])) = H12 at s12 e12 ⊢
  refine ⟨line_le (by show 4 ≤ 1000000; decide), fun bk hbk => ?_⟩
  have s13 := same_new hbk (.tup [.ref ia, .ref oa, .ref ha, .ref ra])
  have t12 := s12.trans s13
  have t11 := s11.trans t12
  have t10 := s10.trans t11
  have t9 := s9.trans t10
  have t8 := s8.trans t9
  have t7 := s7.trans t8
  have t6 := s6.trans t7
  have t5 := s5.trans t6
  have t4 := s4.trans t5
  have t3 := s3.trans t4
  have t2 := s2.trans t3
  refine q bk _ (s1.trans t2) ⟨ia, oa, ha, ra, [k0, k1], [k2, k3], [ro], upd_same, t5 _ _ e4, .cons (t3 _ _ e2) (.cons (t4 _ _ e3) .nil), t8 _ _ e7, .cons (t6 _ _ e5) (.cons (t7 _ _ e6) .nil), hhA.mono (Same.kt t9), s13 _ _ e12, .cons ⟨[p1, p2], t12 _ _ e11, .cons (e9.mono (Same.kt t10)) (.cons (e10.mono (Same.kt t11)) .nil)⟩ .nil⟩
end
theorem arr_pl {ins outs : List (Str × Int)} {S : Int} {m : Nat} {head t : Th} {rows : List (List Th)} (ok : BookW ins outs S m head rows) {pl : List Int} {p k : Th} {s : Int} {w : List Int} (h : Arr ins rows head t pl p k s w) : pl.length + p.tall ≤ head.tall + m * w.length := by
  induction h with
  | root => rw [List.length_nil]; (first | lia | omega)
  | @call pl s' c n ks p h s w h1 h2 ih =>
    refine hid fun ZZ kZ => ?_
    obtain ⟨_, _, _, n2, hs, c2, j, row, _, hj, hrow, hp⟩ := h2
    refine kZ ?_
    have hz := (ok.fit row (List.mem_of_getElem? hrow) j p _ hp hj).2
    have ht := tall_size p
    have e : m * (w ++ [c]).length = m * w.length + m := by rw [List.length_append]; show m * (w.length + 1) = _; rw [Nat.mul_add, Nat.mul_one]
    rw [e]
    (first | lia | omega)
  | @kid pl n ts k s w x u h1 h2 h3 ih =>
    have := talls_le (List.mem_of_getElem? h3)
    rw [Th.tall] at ih
    rw [List.length_append]
    show pl.length + 1 + _ ≤ _
    (first | lia | omega)
theorem names4 {ws : List Str} (h : NamesOk ws) : ∃ n0 n1 n2 n3, ws = [n0, n1, n2, n3] := by
  have hl := h.len
  match ws, hl with
  | [a, b, c, d], _ => exact ⟨a, b, c, d, rfl⟩
theorem good2 {n0 n1 n2 n3 : Str} (h : NamesOk [n0, n1, n2, n3]) : GoodN [(n0, 0), (n1, 1)] := by
  refine ⟨by show 1 ≤ 2; decide, by show 2 ≤ 8; decide, fun k hk => ?_, fun k hk => ?_, ⟨(n0, 0), by simp, rfl⟩, fun i j k l hk hl e => ?_⟩
  · rcases List.mem_cons.mp hk with rfl | hk
    · exact h.low n0 (by simp)
    · rw [List.mem_singleton.mp hk]
      exact h.low n1 (by simp)
  · rcases List.mem_cons.mp hk with rfl | hk
    · exact ⟨by show (0 : Int) ≤ 0; decide, by show (0 : Int) ≤ 3; decide⟩
    · rw [List.mem_singleton.mp hk]
      exact ⟨by show (0 : Int) ≤ 1; decide, by show (1 : Int) ≤ 3; decide⟩
  · have hi := (List.getElem?_eq_some_iff.mp hk).1
    have hj := (List.getElem?_eq_some_iff.mp hl).1
    have hg : ∀ (m : Nat) (z : Str × Int), [(n0, (0 : Int)), (n1, 1)][m]? = some z → [n0, n1, n2, n3][m]? = some z.1 := fun m z hm => by
      match m, hm with
      | 0, hm => cases hm; rfl
      | 1, hm => cases hm; rfl
    exact h.inj i j k.1 (hg i k hk) (by rw [e]; exact hg j l hl)
theorem far_bad {n0 n1 n2 n3 : Str} {m : Nat} {xs : List Int} {x : Int} (hx : ∀ x ∈ xs, x = 0 ∨ x = 1) (hl : xs.length ≤ m) (hb : xs.length = m ∨ ¬ (0 ≤ x ∧ x < 2)) :
    OP [(n0, 0), (n1, 1)] [[.knot n2 [], .knot n3 [.call 0 0, .call 0 0]]] (.call 0 0) (.knot (Str.ofString "") [chainT n0 n1 m]) (-1) [] (xs ++ [x]) none := by
  refine dbl_op (n0 := n0) (n1 := n1) (n2 := n2) (n3 := n3) xs m (-1) [] (Str.ofString "") [] [x] none hx hl ?_
  rcases hb with hb | hb
  · rw [hb, Nat.sub_self, dblP]
    refine .bad ?_
    rintro ⟨h1, h2⟩
    have h2 : x < 0 := h2
    (first | lia | omega)
  · cases hk : m - xs.length with
    | zero =>
      rw [dblP]
      refine .bad ?_
      rintro ⟨h1, h2⟩
      have h2 : x < 0 := h2
      (first | lia | omega)
    | succ k =>
      rw [dblP]
      exact .bad hb
theorem three_at {j far : Int} (h0 : 0 ≤ j) (h3 : j < 3) (hf : 0 ≤ far) : ∃ x : Int, atI [V.int 2, .int (-1), .int (2 + far)] j = some (.int x) ∧ ¬ (0 ≤ x ∧ x < 2) := by
  have : j = 0 ∨ j = 1 ∨ j = 2 := by (first | lia | omega)
  rcases this with rfl | rfl | rfl
  · exact ⟨2, at_nonneg (by decide) rfl, by (first | lia | omega)⟩
  · exact ⟨-1, at_nonneg (by decide) rfl, by (first | lia | omega)⟩
  · exact ⟨2 + far, at_nonneg (by decide) rfl, by (first | lia | omega)⟩
theorem four_at {j far m : Int} (h0 : 0 ≤ j) (h4 : j < 4) (hf : 0 ≤ far) : ∃ x : Int, atI [V.int m, .int (m + 1 + far), .int (-1), .int (-1 - far)] j = some (.int x) ∧ ¬ (0 ≤ x ∧ x < m) := by
  have : j = 0 ∨ j = 1 ∨ j = 2 ∨ j = 3 := by (first | lia | omega)
  rcases this with rfl | rfl | rfl | rfl
  · exact ⟨m, at_nonneg (by decide) rfl, by (first | lia | omega)⟩
  · exact ⟨m + 1 + far, at_nonneg (by decide) rfl, by (first | lia | omega)⟩
  · exact ⟨-1, at_nonneg (by decide) rfl, by (first | lia | omega)⟩
  · exact ⟨-1 - far, at_nonneg (by decide) rfl, by (first | lia | omega)⟩
theorem ints_deep : ∀ ns : List Int, deeps (ns.map Dv.int) = 0
  | [] => by rw [List.map_nil, deeps]
  | n :: ns => by rw [List.map_cons, deeps, ints_deep ns, Dv.deep]; rfl
theorem cut_m1 {xs : List Int} {x : Int} : cutV ((xs ++ [x]).map V.int) none (some (-1)) = xs.map V.int ∧ HT.sIx ((xs ++ [x]).map V.int).length ((xs ++ [x]).map V.int).length (some (-1)) ≠ ((xs ++ [x]).map V.int).length := by
  have hl : ((xs ++ [x]).map V.int).length = xs.length + 1 := by rw [List.length_map, List.length_append]; rfl
  have e : HT.sIx ((xs ++ [x]).map V.int).length ((xs ++ [x]).map V.int).length (some (-1)) = xs.length := by
    show (if (-1 : Int) < 0 then ((-1 : Int) + (((xs ++ [x]).map V.int).length : Int)).toNat else min (-1 : Int).toNat ((xs ++ [x]).map V.int).length) = _
    rw [if_pos (by decide), hl]
    (first | lia | omega)
  refine ⟨?_, by rw [e, hl]; (first | lia | omega)⟩
  unfold cutV
  rw [e, HT.sIx_none, List.drop_zero, Nat.sub_zero, List.map_append]
  exact List.take_left' (by rw [List.length_map])
inductive Isp__law_far (K : PySem.W.Frag) (vs : List V) (H : Hp) (Q : VK) (_E : XK) : Prop
  | mk (a : Addr) (ns : List Int) (zz0 : vs = [.ref a]) (zz1 : SqL K H a (ns.map V.int)) (zz2 : ns.length ≤ 63) (zz3 : ∀ H', L2.Same H H' → Q (.bl true) H') : Isp__law_far K vs H Q _E
noncomputable def sp__law_far (K : PySem.W.Frag) : Sp := Isp__law_far K
inductive Isp_law (K : PySem.W.Frag) (vs : List V) (H : Hp) (Q : VK) (_E : XK) : Prop
  | mk (a : Addr) (ns : List Int) (zz0 : vs = [.ref a]) (zz1 : SqL K H a (ns.map V.int)) (zz2 : ns.length ≤ 63) (zz3 : ∀ H', Q (.bl true) H') : Isp_law K vs H Q _E
noncomputable def sp_law (K : PySem.W.Frag) : Sp := Isp_law K
section
variable {P : Program} {w : World} {K : PySem.W.Frag} {mg : Str → Option Value} {base : Heap} (T : TX K mg)
set_option maxHeartbeats 4000000 in
theorem ok__law_far : FnOk P w K mg base CX0 10 T.f__law_far T.d__law_far ["script"] (sp__law_far K) := by
  refine T.F__law_far.ok sc__law_far (fun vs H Q E h => ?_) (fun cdv A outer s H vs Q E hr h => ?_)
  · obtain ⟨a, ns, rfl, _⟩ := h
    rfl
  obtain ⟨a, ns, rfl, hS, hns, k⟩ := h
  refine ⟨_, (pss_cons (ps_set (i := 1) sc__law_far.nd rfl (Or.inl rfl) (pe_call (ok__law_names T) (hr.mono (by first | decide | (first | lia | omega))) rfl T.m__law_names T.F__law_names.kp T.b__law_names .nil pass0 (pa_cons (pe_call (ok__law_cell T) (hr.mono (by first | decide | (first | lia | omega))) rfl T.m__law_cell T.F__law_cell.kp T.b__law_cell .nil pass0 (pa_cons (pv 0) (pa_cons pe_int pa_nil))) pa_nil)))
      (pss_cons (ps_for PassesOwn.never rfl (pi_list (pe_op op_cat (pe_lst (pa_cons pe_int pa_nil)) (pe_slice sl_list (pv 0) po_none (po_some pe_int)))) (pg_name (i := 2) sc__law_far.nd rfl (Or.inl rfl)) (pss_cons (ps_set (i := 3) sc__law_far.nd rfl (Or.inl rfl) (pe_op op_add pe_int (pe_op op_mod (pe_op op_fdiv (pv 2) pe_int) pe_int)))
      (pss_cons (ps_set (i := 4) sc__law_far.nd rfl (Or.inl rfl) (pe_op op_mod (pe_op op_fdiv (pv 2) pe_int) (pe_op op_add (pv 3) pe_int)))
      (pss_cons (ps_set (i := 5) sc__law_far.nd rfl (Or.inl rfl) (pe_op op_catA (pe_call (ok__law_bits T) (hr.mono (by first | decide | (first | lia | omega))) rfl T.m__law_bits T.F__law_bits.kp T.b__law_bits .nil pass0 (pa_cons (pe_op op_fdiv (pv 2) pe_int) (pa_cons (pv 4) pa_nil))) (pe_tup (pa_cons (pe_ix ix_list (pe_lst (pa_cons pe_int (pa_cons (pe_un un_neg pe_int) (pa_cons (pe_op op_add pe_int (pe_op op_mod (pv 2) (pe_op op_pow pe_int pe_int))) pa_nil)))) (pe_op op_mod (pe_op op_fdiv (pv 2) pe_int) pe_int) (fun _ _ => rfl)) pa_nil))))
      (pss_cons (ps_if (pt_cmpR op_eq (pv 4) (pv 3) (nomark _)) (pss_one (ps_set (i := 5) sc__law_far.nd rfl (Or.inl rfl) (pe_op op_catA (pe_slice sl_tup (pv 5) po_none (po_some (pe_un un_neg pe_int))) (pe_tup (pa_cons (pe_op op_mod (pv 2) pe_int) pa_nil))))) pss_nil)
      (pss_one (ps_if (pt_not (pt_truth (pe_call (ok__law_refused T) (hr.mono (by first | decide | (first | lia | omega))) rfl T.m__law_refused T.F__law_refused.kp T.b__law_refused .nil pass0 (pa_cons (pe_call (ok__law_double T) (hr.mono (by first | decide | (first | lia | omega))) rfl T.m__law_double T.F__law_double.kp T.b__law_double .nil pass0 (pa_cons (pv 1) (pa_cons pe_bl pa_nil))) (pa_cons (pe_call (ok__law_chain T) (hr.mono (by first | decide | (first | lia | omega))) rfl T.m__law_chain T.F__law_chain.kp T.b__law_chain .nil pass0 (pa_cons (pv 1) (pa_cons (pv 3) pa_nil))) (pa_cons (pv 5) pa_nil)))) (fun _ => rfl))) (pss_one (ps_ret pe_bl)) pss_nil)))))))
      (pss_one (ps_ret pe_bl)))), ?_⟩
  try dsimp only [cxK, cxKn]
  refine ⟨_, rfl, a, ns, 0, rfl, hS, by decide, fun c0 => ⟨c0, rfl, fun na ws H1 s1 ena hws => ?_⟩⟩
  obtain ⟨n0, n1, n2, n3, rfl⟩ := names4 hws
  have g2 := good2 hws
  refine ⟨line_le (by show 1 ≤ 1000000; decide), fun l1 hl1 => ?_⟩
  have s2 : L2.Same H1 (upd H1 l1 (.lst [.int 29])) := same_new hl1 _
  have e2 : (upd H1 l1 (.lst [.int 29])) l1 = some (.lst ([29].map V.int)) := upd_same
  generalize (upd H1 l1 (.lst [.int 29])) = H2 at s2 e2 ⊢
  refine ⟨_, rfl, 10, rfl, a, _, rfl, (s1.trans s2).seq hS, fun l2 hl2 => ?_⟩
  obtain ⟨cs, hcs, hcl⟩ := cutV_ints ns none (some 10)
  have s3 : L2.Same H2 (upd H2 l2 (.lst (cutV (ns.map V.int) none (some 10)))) := same_new hl2 _
  have e3 : (upd H2 l2 (.lst (cutV (ns.map V.int) none (some 10)))) l2 = some (.lst (cs.map V.int)) := by rw [upd_same, hcs]
  generalize (upd H2 l2 (.lst (cutV (ns.map V.int) none (some 10)))) = H3 at s3 e3 ⊢
  refine ⟨l1, l2, _, _, rfl, rfl, s3 _ _ e2, e3, line_le (by rw [List.length_map, List.length_map]; show 1 + cs.length ≤ 1000000; (first | lia | omega)), fun l3 hl3 => ?_⟩
  have s4 : L2.Same H3 (upd H3 l3 (.lst ([29].map V.int ++ cs.map V.int))) := same_new hl3 _
  have e4 : (upd H3 l3 (.lst ([29].map V.int ++ cs.map V.int))) l3 = some (.lst ((29 :: cs).map V.int)) := upd_same
  generalize (upd H3 l3 (.lst ([29].map V.int ++ cs.map V.int))) = H4 at s4 e4 ⊢
  have s14 := s2.trans (s3.trans s4)
  have ena4 := s14 _ _ ena
  refine ⟨l3, rfl, ⟨_, SqL.of e4⟩, ?_⟩
  refine for_list (K := K) (a := l3) (xs := (29 :: cs).map V.int) (fun i σ H5 => Ex4 fun (c2 c3 c4 c5 : Option V) => An2 (σ = [some (.ref a), some (.ref na), c2, c3, c4, c5]) (L2.Same H4 H5)) ⟨none, none, none, none, rfl, .refl _⟩ (fun i σ H5 _ ⟨_, _, _, _, _, s5⟩ => SqL.of (s5 _ _ e4)) ?_ ?_
  · rintro i x σ H5 hx ⟨c2, c3, c4, c5, rfl, s5⟩
    rw [List.getElem?_map] at hx
    obtain ⟨c, _, rfl⟩ := Option.map_eq_some_iff.mp hx
    have ena5 := s5 _ _ ena4
    try dsimp only [gName]
    have z0 := Int.emod_nonneg (c / 2) (show (18 : Int) ≠ 0 by decide)
    have z1 := Int.emod_lt_of_pos (c / 2) (show (0 : Int) < 18 by decide)
    refine ⟨_, rfl, _, _, rfl, rfl, ⟨by decide, by decide⟩, _, _, rfl, rfl, (by show (0 : Int) < 18; decide), _, _, rfl, rfl, ?_⟩
    try dsimp only [gName]
    have m12 : 12 ≤ 12 + c / 2 % 18 := by (first | lia | omega)
    have m30 : 12 + c / 2 % 18 < 30 := by (first | lia | omega)
    generalize 12 + c / 2 % 18 = many at m12 m30 ⊢
    have y0 := Int.emod_nonneg (c / 36) (show many + 1 ≠ 0 by (first | lia | omega))
    have y1 := Int.emod_lt_of_pos (c / 36) (show 0 < many + 1 by (first | lia | omega))
    refine ⟨_, rfl, _, _, rfl, rfl, ⟨by decide, by decide⟩, _, rfl, _, _, rfl, rfl, _, _, rfl, rfl, (by show 0 < many + 1; (first | lia | omega)), ?_⟩
    try dsimp only [gName]
    generalize c / 36 % (many + 1) = deep at y0 y1 ⊢
    refine ⟨_, rfl, _, _, rfl, rfl, ⟨by decide, by decide⟩, _, rfl, _, _, rfl, by (first | lia | omega), by (first | lia | omega), fun pa xs H6 s6 epa hxl hxs => ?_⟩
    -- the number behind it
    have f0 := Int.emod_nonneg c (show (10 : Int) ^ Int.toNat 30 ≠ 0 by decide)
    have j0 := Int.emod_nonneg (c / 3) (show (3 : Int) ≠ 0 by decide)
    have j1 := Int.emod_lt_of_pos (c / 3) (show (0 : Int) < 3 by decide)
    refine ⟨_, rfl, _, rfl, _, _, rfl, rfl, ⟨by decide, by decide, by decide⟩, _, _, rfl, rfl, (by show (0 : Int) < 10 ^ Int.toNat 30; decide), _, _, rfl, rfl, line_le (by show 3 ≤ 1000000; decide), fun l4 hl4 => ?_⟩
    try dsimp only
    generalize c % 10 ^ Int.toNat 30 = far at f0 hl4 ⊢
    obtain ⟨x, hxa, hxb⟩ := three_at j0 j1 f0
    have s7 : L2.Same H6 (upd H6 l4 (.lst [.int 2, .int (-1), .int (2 + far)])) := same_new hl4 _
    have e7 : (upd H6 l4 (.lst [.int 2, .int (-1), .int (2 + far)])) l4 = some (.lst [.int 2, .int (-1), .int (2 + far)]) := upd_same
    generalize (upd H6 l4 (.lst [.int 2, .int (-1), .int (2 + far)])) = H7 at s7 e7 ⊢
    refine ⟨_, rfl, _, _, rfl, rfl, ⟨by decide, by decide⟩, _, _, rfl, rfl, (by show (0 : Int) < 3; decide), l4, _, _, .int x, rfl, rfl, SqL.of e7, hxa, line_le (by show 1 ≤ 1000000; decide), fun t8 ht8 => ?_⟩
    have s8 : L2.Same H7 (upd H7 t8 (.tup [.int x])) := same_new ht8 _
    have e8 : (upd H7 t8 (.tup [.int x])) t8 = some (.tup [.int x]) := upd_same
    generalize (upd H7 t8 (.tup [.int x])) = H8 at s8 e8 ⊢
    have s68 := s7.trans s8
    refine catT (s68 _ _ epa) e8 (by rw [List.length_map]; show xs.length + 1 ≤ 1000000; (first | lia | omega)) fun p9 H9 s9 e9 => ?_
    have e9 : H9 p9 = some (.tup ((xs ++ [x]).map V.int)) := by rw [e9, List.map_append]; rfl
    have s59 := s6.trans (s68.trans s9)
    try dsimp only [gName]
    refine seq_intro (fun σ' H' => Ex2 fun (pp : Addr) (y : Int) => An4 (σ' = [some (.ref a), some (.ref na), some (.int c), some (.int many), some (.int deep), some (.ref pp)]) (L2.Same H9 H') (H' pp = some (.tup ((xs ++ [y]).map V.int))) ((deep = many ∨ ¬ (0 ≤ y ∧ y < 2)))) (fun kk hk => ?_) ?_
    · refine ⟨_, rfl, _, rfl, rfl, _, rfl, ?_⟩
      refine ite2 (fun cc => ?_) (fun cc => hk _ _ ⟨p9, x, rfl, .refl _, e9, .inr hxb⟩)
      have cc' : deep = many := V.int.inj (of_decide_eq_true cc)
      obtain ⟨hc1, hc2⟩ := cut_m1 (xs := xs) (x := x)
      refine ⟨_, rfl, _, rfl, _, rfl, p9, _, rfl, SqT.of e9, fun z => hc2 z.2, fun p10 hp10 => ?_⟩
      have s10 : L2.Same H9 (upd H9 p10 (.tup (cutV ((xs ++ [x]).map V.int) none (some (-1))))) := same_new hp10 _
      have e10 : (upd H9 p10 (.tup (cutV ((xs ++ [x]).map V.int) none (some (-1))))) p10 = some (.tup (xs.map V.int)) := by rw [upd_same, hc1]
      generalize (upd H9 p10 (.tup (cutV ((xs ++ [x]).map V.int) none (some (-1))))) = H10 at s10 e10 ⊢
      refine ⟨_, rfl, _, _, rfl, rfl, (by show (0 : Int) < 2; decide), line_le (by show 1 ≤ 1000000; decide), fun t11 ht11 => ?_⟩
      have s11 : L2.Same H10 (upd H10 t11 (.tup [.int (c % 2)])) := same_new ht11 _
      have e11 : (upd H10 t11 (.tup [.int (c % 2)])) t11 = some (.tup [.int (c % 2)]) := upd_same
      try dsimp only
      generalize (upd H10 t11 (.tup [.int (c % 2)])) = H11 at s11 e11 ⊢
      refine catT (s11 _ _ e10) e11 (by rw [List.length_map]; show xs.length + 1 ≤ 1000000; (first | lia | omega)) fun p12 H12 s12 e12 => ?_
      exact hk _ _ ⟨p12, c % 2, rfl, s10.trans (s11.trans s12), by rw [e12, List.map_append]; rfl, .inl cc'⟩
    rintro σ' H10 ⟨pp, y, rfl, s10, e10, hy⟩
    have s510 := s59.trans s10
    refine ⟨_, rfl, na, n0, n1, n2, n3, false, rfl, s510 _ _ ena5, hws, fun b H11 s11 hb => ?_⟩
    rw [if_neg (by decide)] at hb
    refine ⟨_, rfl, _, rfl, na, n0, n1, n2, n3, many, rfl, (s510.trans s11) _ _ ena5, hws, by (first | lia | omega), by (first | lia | omega), fun ta H12 s12 hA => ?_⟩
    have hct := chainT_tall n0 n1 many.toNat
    refine ⟨_, rfl, b, ta, pp, _, _, _, _, _, xs ++ [y], rfl, hb.mono (Same.kt s12), g2, hA, (s11.trans s12) _ _ e10, by (first | lia | omega), far_bad hxs (by (first | lia | omega)) (by (first | lia | omega)), fun H13 s13 => ⟨_, rfl, iteF ?_⟩⟩
    exact ⟨_, _, _, _, rfl, s5.trans (s510.trans (s11.trans (s12.trans s13)))⟩
  · rintro σ H5 ⟨c2, c3, c4, c5, rfl, s5⟩
    exact k _ (s1.trans (s14.trans s5))
set_option maxHeartbeats 4000000 in
theorem ok_law : FnOk P w K mg base CX0 60 T.f_law T.d_law ["script"] (sp_law K) := by
  refine T.F_law.ok sc_law (fun vs H Q E h => ?_) (fun cdv A outer s H vs Q E hr h => ?_)
  · obtain ⟨a, ns, rfl, _⟩ := h
    rfl
  obtain ⟨a, ns, rfl, hS, hns, k⟩ := h
  refine ⟨_, (pss_cons (ps_set (i := 1) sc_law.nd rfl (Or.inl rfl) (pe_call (ok__law_drawn T) (hr.mono (by first | decide | (first | lia | omega))) rfl T.m__law_drawn T.F__law_drawn.kp T.b__law_drawn .nil pass0 (pa_cons (pv 0) (pa_cons pe_int pa_nil))))
      (pss_cons (ps_set (i := 2) sc_law.nd rfl (Or.inl rfl) (pe_call (ok__law_tree T 6) (hr.mono (by first | decide | (first | lia | omega))) rfl T.m__law_tree T.F__law_tree.kp T.b__law_tree .nil pass0 (pa_cons (pe_lst (pa_cons (pe_call (ok__law_mixed T) (hr.mono (by first | decide | (first | lia | omega))) rfl T.m__law_mixed T.F__law_mixed.kp T.b__law_mixed .nil pass0 (pa_cons (pe_call (ok__law_cell T) (hr.mono (by first | decide | (first | lia | omega))) rfl T.m__law_cell T.F__law_cell.kp T.b__law_cell .nil pass0 (pa_cons (pv 0) (pa_cons pe_int pa_nil))) (pa_cons pe_int pa_nil))) (pa_cons pe_int pa_nil))) (pa_cons (pe_ix ix_tup (pv 1) pe_int (fun _ _ => rfl)) (pa_cons pe_int pa_nil)))))
      (pss_cons (ps_set (i := 3) sc_law.nd rfl (Or.inl rfl) (pe_lst pa_nil))
      (pss_cons (ps_expr (pe_call (ok__law_written T 50) (hr.mono (by first | decide | (first | lia | omega))) rfl T.m__law_written T.F__law_written.kp T.b__law_written .nil pass0 (pa_cons (pv 1) (pa_cons (pe_ix ix_tup (pv 1) pe_int (fun _ _ => rfl)) (pa_cons (pe_lst (pa_cons (pe_tup (pa_cons (pv 2) (pa_cons (pe_tup pa_nil) pa_nil))) pa_nil)) (pa_cons (pe_tup (pa_cons (pe_tup (pa_cons (pe_un un_neg pe_int) (pa_cons (pe_tup pa_nil) pa_nil))) (pa_cons (pe_tup pa_nil) pa_nil))) (pa_cons (pv 3) pa_nil)))))))
      (pss_cons (ps_for PassesOwn.never rfl (pi_list (pe_op op_cat (pe_lst (pa_cons pe_int pa_nil)) (pe_slice sl_list (pv 0) po_none (po_some pe_int)))) (pg_name (i := 4) sc_law.nd rfl (Or.inl rfl)) (pss_cons (ps_asg (pe_ix ix_list (pv 3) (pe_op op_mod (pe_op op_fdiv (pv 4) pe_int) (pe_callB call_len_seq rfl T.n_len PySem.boot_len (pa_cons (pv 3) pa_nil))) (fun _ _ => rfl)) (pg_tup rfl (pgs_cons (pg_name (i := 5) sc_law.nd rfl (Or.inl rfl)) (pgs_cons (pg_name (i := 6) sc_law.nd rfl (Or.inl rfl)) (pgs_cons (pg_name (i := 7) sc_law.nd rfl (Or.inl rfl)) pgs_nil)))))
      (pss_cons (ps_set (i := 8) sc_law.nd rfl (Or.inl rfl) (pe_op op_mod (pe_op op_fdiv (pv 4) pe_int) (pe_op op_pow pe_int pe_int)))
      (pss_cons (ps_set (i := 9) sc_law.nd rfl (Or.inl rfl) (pe_op op_catA (pv 5) (pe_tup (pa_cons (pe_ix ix_list (pe_lst (pa_cons (pv 7) (pa_cons (pe_op op_add (pe_op op_add (pv 7) pe_int) (pv 8)) (pa_cons (pe_un un_neg pe_int) (pa_cons (pe_op op_sub (pe_un un_neg pe_int) (pv 8)) pa_nil))))) (pe_op op_mod (pv 4) pe_int) (fun _ _ => rfl)) pa_nil))))
      (pss_cons (ps_if (pt_cmpR op_eq (pe_op op_mod (pe_op op_fdiv (pv 4) pe_int) pe_int) pe_int (nomark _)) (pss_one (ps_set (i := 9) sc_law.nd rfl (Or.inl rfl) (pe_op op_catA (pv 9) (pe_tup (pa_cons pe_int (pa_cons (pe_op op_mod (pe_op op_fdiv (pv 4) pe_int) pe_int) pa_nil)))))) pss_nil)
      (pss_one (ps_if (PW.pt (pw_or (pt_not (pt_truth (pe_call (ok__law_refused T) (hr.mono (by first | decide | (first | lia | omega))) rfl T.m__law_refused T.F__law_refused.kp T.b__law_refused .nil pass0 (pa_cons (pv 1) (pa_cons (pv 2) (pa_cons (pv 9) pa_nil)))) (fun _ => rfl))) (pw_or1 (pt_cmpR (op_neS (B := 150) (room_150 hr)) (pe_call (ok_origin_at T) (hr.mono (by first | decide | (first | lia | omega))) rfl T.m_origin_at T.F_origin_at.kp T.b_origin_at .nil pass0 (pa_cons (pv 1) (pa_cons (pv 2) (pa_cons (pv 5) pa_nil)))) (pv 6) (nomark _))))) (pss_one (ps_ret pe_bl)) pss_nil)))))))
      (pss_one (ps_ret (pe_call (ok__law_far T) (hr.mono (by first | decide | (first | lia | omega))) rfl T.m__law_far T.F__law_far.kp T.b__law_far .nil pass0 (pa_cons (pv 0) pa_nil))))))))), ?_⟩
  try dsimp only [cxK, cxKn]
  refine ⟨_, rfl, a, ns, 3, rfl, hS, hns, by decide, by decide, fun b ins outs S head rows H1 s1 hb gi go hok hhz => ?_⟩
  refine hid fun ZZ kZ => ?_
  obtain ⟨ia, oa, hda, ra, ias, oas, ras, bk⟩ := id hb
  refine kZ ?_
  refine ⟨_, rfl, a, ns, 2, rfl, s1.seq hS, by decide, fun c2 => ⟨_, _, rfl, fun z => ?_⟩⟩
  refine ⟨line_le (by show 2 ≤ 1000000; decide), fun l1 hl1 => ?_⟩
  have s2 : L2.Same H1 (upd H1 l1 (.lst [.int z, .int 4])) := same_new hl1 _
  refine ⟨_, rfl, b, _, 0, .ref ia, rfl, rfl, SqT.of (s2 _ _ bk.bk), at0, l1, ia, z, 4, 4, ias, ins, rfl, upd_same, s2 _ _ bk.inE, bk.inK.mono (Same.kt s2), gi, by decide, by decide, by decide, fun t ta x' b' H2 s2' el2 hA hF hb0 hsz htl => ?_⟩
  have s12 : L2.Same H1 H2 := sameB_new hl1 s2'
  clear s2 s2'
  refine ⟨line_le (by show 0 ≤ 1000000; decide), fun fl hfl => ?_⟩
  have s3 : L2.Same H2 (upd H2 fl (.lst [])) := same_new hfl _
  have e3 : (upd H2 fl (.lst [])) fl = some (.lst (([] : List Addr).map V.ref)) := upd_same
  try dsimp only [gName]
  generalize (upd H2 fl (.lst [])) = H3 at s3 e3 ⊢
  have s13 := s12.trans s3
  refine ⟨_, rfl, _, rfl, b, _, 2, .ref hda, rfl, rfl, SqT.of (s13 _ _ bk.bk), at2, _, rfl, line_le (by show 0 ≤ 1000000; decide), fun ep hep => ?_⟩
  have s4 : L2.Same H3 (upd H3 ep (.tup [])) := same_new hep _
  have e4 : (upd H3 ep (.tup [])) ep = some (.tup (([] : List Int).map V.int)) := upd_same
  generalize (upd H3 ep (.tup [])) = H4 at s4 e4 ⊢
  refine ⟨line_le (by show 2 ≤ 1000000; decide), fun kp hkp => ?_⟩
  have s5 : L2.Same H4 (upd H4 kp (.tup [.ref ta, .ref ep])) := same_new hkp _
  have e5 : (upd H4 kp (.tup [.ref ta, .ref ep])) kp = some (.tup [.ref ta, .ref ep]) := upd_same
  generalize (upd H4 kp (.tup [.ref ta, .ref ep])) = H5 at s5 e5 ⊢
  refine ⟨line_le (by show 1 ≤ 1000000; decide), fun kl hkl => ?_⟩
  have s6 : L2.Same H5 (upd H5 kl (.lst [.ref kp])) := same_new hkl _
  have e6 : (upd H5 kl (.lst [.ref kp])) kl = some (.lst ([kp].map V.ref)) := upd_same
  have hkf : kl ≠ fl := fun z => by rw [z, (s4.trans s5) _ _ e3] at hkl; cases hkl
  generalize (upd H5 kl (.lst [.ref kp])) = H6 at s6 e6 ⊢
  refine ⟨_, rfl, line_le (by show 0 ≤ 1000000; decide), fun ep2 hep2 => ?_⟩
  have s7 : L2.Same H6 (upd H6 ep2 (.tup [])) := same_new hep2 _
  have e7 : (upd H6 ep2 (.tup [])) ep2 = some (.tup (([] : List Int).map V.int)) := upd_same
  generalize (upd H6 ep2 (.tup [])) = H7 at s7 e7 ⊢
  refine ⟨line_le (by show 2 ≤ 1000000; decide), fun og hog => ?_⟩
  have s8 : L2.Same H7 (upd H7 og (.tup [.int (-1), .ref ep2])) := same_new hog _
  have e8 : (upd H7 og (.tup [.int (-1), .ref ep2])) og = some (.tup [.int (-1), .ref ep2]) := upd_same
  generalize (upd H7 og (.tup [.int (-1), .ref ep2])) = H8 at s8 e8 ⊢
  refine ⟨line_le (by show 0 ≤ 1000000; decide), fun ep3 hep3 => ?_⟩
  have s9 : L2.Same H8 (upd H8 ep3 (.tup [])) := same_new hep3 _
  have e9 : (upd H8 ep3 (.tup [])) ep3 = some (.tup (([] : List Int).map V.int)) := upd_same
  generalize (upd H8 ep3 (.tup [])) = H9 at s9 e9 ⊢
  refine ⟨line_le (by show 2 ≤ 1000000; decide), fun sp hsp => ?_⟩
  have s10 : L2.Same H9 (upd H9 sp (.tup [.ref og, .ref ep3])) := same_new hsp _
  have e10 : (upd H9 sp (.tup [.ref og, .ref ep3])) sp = some (.tup [.ref og, .ref ep3]) := upd_same
  generalize (upd H9 sp (.tup [.ref og, .ref ep3])) = H10 at s10 e10 ⊢
  have t9 := s9.trans s10
  have t8 := s8.trans t9
  have t7 := s7.trans t8
  have t6 := s6.trans t7
  have t5 := s5.trans t6
  have t4 := s4.trans t5
  have t3 := s3.trans t4
  have s110 := s12.trans t3
  have htt : (Th.knot (Str.ofString "") [t]).tall = t.tall + 1 := by rw [Th.tall, talls, talls]; (first | lia | omega)
  have hkw : kidsW [t] [] = [(t, [])] := rfl
  have hht := tall_size head
  have hpow : (7 : Nat) ^ (Th.knot (Str.ofString "") [t]).tall ≤ 7 ^ 5 := Nat.pow_le_pow_right (by decide) (by (first | lia | omega))
  have hmul : head.size * 7 ^ (Th.knot (Str.ofString "") [t]).tall ≤ 4 * 7 ^ 5 := Nat.mul_le_mul hhz hpow
  have h75 : 4 * 7 ^ 5 = 67228 := by decide
  have hA10 := hA.mono (Same.kt t3)
  refine ⟨_, rfl, b, hda, kl, sp, fl, ins, outs, S, head, t, rows, head, Str.ofString "", [t], -1, [], [], [kp], [], [], rfl, hb.mono (Same.kt s110), gi, hok, bk.hd.mono (Same.kt s110), t7 _ _ e6, ?_, hkf, ⟨og, ep2, ep3, e10, t9 _ _ e8, t8 _ _ e7, s10 _ _ e9⟩, t4 _ _ e3, .nil, .root, hok.hdf, (fun h hh => by rw [List.mem_singleton.mp hh]; exact hF), by show head.tall + 8 * _ ≤ 50; (first | lia | omega), by decide, by decide, by rw [List.length_nil]; (first | lia | omega), fun es M H11 sB efl hE hM1 hM2 hMr => ?_⟩
  · rw [hkw]
    exact .cons ⟨ta, ep, t6 _ _ e5, hA10, t5 _ _ e4⟩ .nil
  rw [List.nil_append] at hE
  have hel : M.length = es.length := Paired.length hE
  have kt11 : KT H10 H11 := sB.kt (t4 _ _ e3)
  have hb11 := hb.mono ((Same.kt s110).trans kt11)
  have hA11 := hA10.mono kt11
  have hfl0 : H fl = none := (s1.trans s12).free hfl
  have s011 : L2.Same H H11 := fun b' o' e' => sB b' o' (ne_of_none e' hfl0) ((s1.trans s110) b' o' e')
  have hlm : 0 < (((es.map V.ref).length : Nat) : Int) := by rw [List.length_map]; (first | lia | omega)
  refine ⟨line_le (by show 1 ≤ 1000000; decide), fun l1' hl1' => ?_⟩
  have u2 : L2.Same H11 (upd H11 l1' (.lst [.int 3])) := same_new hl1' _
  have f2 : (upd H11 l1' (.lst [.int 3])) l1' = some (.lst ([3].map V.int)) := upd_same
  generalize (upd H11 l1' (.lst [.int 3])) = H12 at u2 f2 ⊢
  refine ⟨_, rfl, 30, rfl, a, _, rfl, (s011.trans u2).seq hS, fun l2' hl2' => ?_⟩
  obtain ⟨cs, hcs, hcl⟩ := cutV_ints ns none (some 30)
  have u3 : L2.Same H12 (upd H12 l2' (.lst (cutV (ns.map V.int) none (some 30)))) := same_new hl2' _
  have f3 : (upd H12 l2' (.lst (cutV (ns.map V.int) none (some 30)))) l2' = some (.lst (cs.map V.int)) := by rw [upd_same, hcs]
  generalize (upd H12 l2' (.lst (cutV (ns.map V.int) none (some 30)))) = H13 at u3 f3 ⊢
  refine ⟨l1', l2', _, _, rfl, rfl, u3 _ _ f2, f3, line_le (by rw [List.length_map, List.length_map]; show 1 + cs.length ≤ 1000000; (first | lia | omega)), fun l3' hl3' => ?_⟩
  have u4 : L2.Same H13 (upd H13 l3' (.lst ([3].map V.int ++ cs.map V.int))) := same_new hl3' _
  have f4 : (upd H13 l3' (.lst ([3].map V.int ++ cs.map V.int))) l3' = some (.lst ((3 :: cs).map V.int)) := upd_same
  generalize (upd H13 l3' (.lst ([3].map V.int ++ cs.map V.int))) = H14 at u4 f4 ⊢
  have u14 := u2.trans (u3.trans u4)
  refine ⟨l3', rfl, ⟨_, SqL.of f4⟩, ?_⟩
  refine for_list (K := K) (a := l3') (xs := (3 :: cs).map V.int) (fun i σ H16 => Ex6 fun (c4 c5 c6 c7 c8 c9 : Option V) => An2 (σ = [some (.ref a), some (.ref b), some (.ref ta), some (.ref fl), c4, c5, c6, c7, c8, c9]) (L2.Same H14 H16)) ⟨none, none, none, none, none, none, rfl, .refl _⟩ (fun i σ H16 _ ⟨_, _, _, _, _, _, _, s16⟩ => SqL.of (s16 _ _ f4)) ?_ ?_
  · rintro i x σ H16 hx ⟨c4, c5, c6, c7, c8, c9, rfl, s16⟩
    rw [List.getElem?_map] at hx
    obtain ⟨c, _, rfl⟩ := Option.map_eq_some_iff.mp hx
    have s1116 := u14.trans s16
    have y0 := Int.emod_nonneg (c / 4) (show (((es.map V.ref).length : Nat) : Int) ≠ 0 by (first | lia | omega))
    have y1 := Int.emod_lt_of_pos (c / 4) hlm
    have hjl : (c / 4 % (((es.map V.ref).length : Nat) : Int)).toNat < es.length := by
      have hh : (es.map V.ref).length = es.length := List.length_map _
      (first | lia | omega)
    have hj := List.getElem?_eq_getElem hjl
    generalize hea : es[(c / 4 % (((es.map V.ref).length : Nat) : Int)).toNat] = ea at hj
    refine hid fun ZZ kZ => ?_
    obtain ⟨e, he, hent⟩ := P2.get' hE hj
    obtain ⟨pa, oa2, wa, h1, h2, h3, h4⟩ := hent.mono (Same.kt s1116)
    obtain ⟨n, ts, kk, w0, harr, hw, hmany⟩ := hMr e (List.mem_of_getElem? he)
    refine kZ ?_
    have hop := harr.op (.nil n ts kk e.s w0)
    rw [List.append_nil] at hop
    try dsimp only [gName]
    refine ⟨_, rfl, _, rfl, _, _, rfl, rfl, ⟨by decide, by decide⟩, _, rfl, fl, _, rfl, .inl (SqL.of (s1116 _ _ efl)), _, _, rfl, rfl, hlm, fl, _, _, .ref ea, rfl, rfl, SqL.of (s1116 _ _ efl), at_nonneg y0 (by rw [List.getElem?_map, hj]; rfl), ?_⟩
    refine ⟨ea, _, rfl, SqT.of h1, rfl, _, _, rfl, _, _, rfl, _, _, rfl, rfl, ?_⟩
    -- far
    have f0 := Int.emod_nonneg (c / 28) (show (10 : Int) ^ Int.toNat 60 ≠ 0 by decide)
    refine ⟨_, rfl, _, _, rfl, rfl, ⟨by decide, by decide⟩, _, _, rfl, rfl, ⟨by decide, by decide, by decide⟩, _, _, rfl, rfl, (by show (0 : Int) < 10 ^ Int.toNat 60; decide), ?_⟩
    try dsimp only [gName]
    generalize c / 28 % 10 ^ Int.toNat 60 = far at f0 ⊢
    -- bad
    have j0 := Int.emod_nonneg c (show (4 : Int) ≠ 0 by decide)
    have j1 := Int.emod_lt_of_pos c (show (0 : Int) < 4 by decide)
    refine ⟨_, rfl, _, rfl, _, rfl, _, _, rfl, rfl, _, rfl, _, _, rfl, rfl, _, rfl, _, rfl, _, rfl, _, _, rfl, rfl, line_le (by show 4 ≤ 1000000; decide), fun l4 hl4 => ?_⟩
    try dsimp only
    obtain ⟨x, hxa, hxb⟩ := four_at (m := ((e.many : Nat) : Int)) j0 j1 f0
    have s17 : L2.Same H16 (upd H16 l4 (.lst [.int ((e.many : Nat) : Int), .int (((e.many : Nat) : Int) + 1 + far), .int (-1), .int (-1 - far)])) := same_new hl4 _
    have e17 : (upd H16 l4 (.lst [.int ((e.many : Nat) : Int), .int (((e.many : Nat) : Int) + 1 + far), .int (-1), .int (-1 - far)])) l4 = some (.lst [.int ((e.many : Nat) : Int), .int (((e.many : Nat) : Int) + 1 + far), .int (-1), .int (-1 - far)]) := upd_same
    generalize (upd H16 l4 (.lst [.int ((e.many : Nat) : Int), .int (((e.many : Nat) : Int) + 1 + far), .int (-1), .int (-1 - far)])) = H17 at s17 e17 ⊢
    refine ⟨_, rfl, _, _, rfl, rfl, (by show (0 : Int) < 4; decide), l4, _, _, .int x, rfl, rfl, SqL.of e17, hxa, line_le (by show 1 ≤ 1000000; decide), fun t8 ht8 => ?_⟩
    have s18 : L2.Same H17 (upd H17 t8 (.tup [.int x])) := same_new ht8 _
    have e18 : (upd H17 t8 (.tup [.int x])) t8 = some (.tup [.int x]) := upd_same
    generalize (upd H17 t8 (.tup [.int x])) = H18 at s18 e18 ⊢
    have s68 := s17.trans s18
    have hpl : e.pl.length ≤ 900000 := by
      have q1 := arr_pl hok harr
      have q2 := harr.len
      have q3 : 7 * w0.length ≤ 7 * 100 := Nat.mul_le_mul_left _ (by (first | lia | omega))
      (first | lia | omega)
    refine catT (s68 _ _ h2) e18 (by rw [List.length_map]; show e.pl.length + 1 ≤ 1000000; (first | lia | omega)) fun p9 H19 s19 e19 => ?_
    have e19 : H19 p9 = some (.tup ((e.pl ++ [x]).map V.int)) := by rw [e19, List.map_append]; rfl
    have s1619 := s68.trans s19
    try dsimp only [gName]
    refine seq_intro (fun σ' H' => Ex2 fun (pp : Addr) (r : List Int) => An3 (σ' = [some (.ref a), some (.ref b), some (.ref ta), some (.ref fl), some (.int c), some (.ref pa), some (.ref oa2), some (.int ((e.many : Nat) : Int)), some (.int far), some (.ref pp)]) (L2.Same H19 H') (H' pp = some (.tup ((e.pl ++ x :: r).map V.int)))) (fun kk hk => ?_) ?_
    · refine ⟨_, rfl, _, _, rfl, rfl, ⟨by decide, by decide⟩, _, _, rfl, rfl, (by show (0 : Int) < 3; decide), rfl, _, rfl, ?_⟩
      refine ite2 (fun cc => ?_) (fun cc => hk _ _ ⟨p9, [], rfl, .refl _, e19⟩)
      refine ⟨_, rfl, _, rfl, _, _, rfl, rfl, ⟨by decide, by decide⟩, _, _, rfl, rfl, (by show (0 : Int) < 4; decide), line_le (by show 2 ≤ 1000000; decide), fun t11 ht11 => ?_⟩
      have s11 : L2.Same H19 (upd H19 t11 (.tup [.int 0, .int (c / 7 % 4)])) := same_new ht11 _
      have e11 : (upd H19 t11 (.tup [.int 0, .int (c / 7 % 4)])) t11 = some (.tup [.int 0, .int (c / 7 % 4)]) := upd_same
      try dsimp only
      generalize (upd H19 t11 (.tup [.int 0, .int (c / 7 % 4)])) = H20 at s11 e11 ⊢
      refine catT (s11 _ _ e19) e11 (by rw [List.length_map, List.length_append]; show e.pl.length + 1 + 2 ≤ 1000000; (first | lia | omega)) fun p12 H21 s12 e12 => ?_
      refine hk _ _ ⟨p12, [0, c / 7 % 4], rfl, s11.trans s12, ?_⟩
      rw [e12, List.map_append, List.map_append, List.append_assoc]
      rfl
    rintro σ' H20 ⟨pp, r, rfl, s20, e20⟩
    have s1620 := s1619.trans s20
    have s1120 := s1116.trans s1620
    have hbad := harr.op (.bad (n := n) (ts := ts) (k := kk) (s := e.s) (w := w0) (x := x) (r := r) (by rw [← hmany]; exact hxb))
    refine ⟨_, rfl, _, rfl, _, rfl, b, ta, pp, ins, outs, head, rows, t, e.pl ++ x :: r, rfl, hb11.mono (Same.kt s1120), gi, hA11.mono (Same.kt s1120), e20, by (first | lia | omega), hbad, fun H21 s21 => ⟨_, rfl, iteF ?_⟩⟩
    have s1121 := s1120.trans s21
    have s1621 := s1620.trans s21
    refine ⟨_, rfl, _, rfl, _, rfl, b, ta, pa, ins, outs, head, rows, t, e.pl, e.s, w0, rfl, hb11.mono (Same.kt s1121), gi, hA11.mono (Same.kt s1121), s1621 _ _ h2, by (first | lia | omega), hop, fun rr wr H22 s22 er ewr => ?_⟩
    have s1622 := s1621.trans s22
    refine ⟨_, rfl, rr, oa2, _, _, [.int e.s, .tup ((w0.drop 1).map Dv.int)], [.int e.s, .tup (e.wh.map Dv.int)], rfl, rfl, SqT.of er, SqT.of (s1622 _ _ h3), .cons (by rw [DAt]) (.cons (by rw [DAt]; exact ⟨wr, _, rfl, ewr, ints_dv _⟩) .nil), .cons (by rw [DAt]) (.cons (by rw [DAt]; exact ⟨wa, _, rfl, s1622 _ _ h4, ints_dv _⟩) .nil), ?_, fun bb hbb => ?_⟩
    · rw [deeps, deeps, Dv.deep, Dv.deep, ints_deep, deeps]
      decide
    have hbf : bb = false := by
      cases bb with
      | false => rfl
      | true => exact absurd (by rw [hw]) (hbb.mp rfl)
    subst hbf
    refine ⟨false, rfl, iteF ?_⟩
    exact ⟨_, _, _, _, _, _, rfl, s16.trans s1622⟩
  · rintro σ H16 ⟨c4, c5, c6, c7, c8, c9, rfl, s16⟩
    exact ⟨_, rfl, a, ns, rfl, (s011.trans (u14.trans s16)).seq hS, hns, fun H17 s17 => k _⟩
end
set_option maxHeartbeats 8000000 in
theorem all_mk {l : PySem.W.OpenLaw} {w : World} {K : PySem.W.Frag} {h : Heap} {mg : Str → Option Value} {fa : Addr} (X : K.In h) (G : h.Ns mainGlobals mg) (hfa : mg "law" = some (.ref fa))
    {f0 : Addr} {od0 an0 : Option Addr} {sl0 : Array (Option Value)} {oc0 kV0 dc0 pm0 cd0 ct0 : Value} {f1 : Addr} {od1 an1 : Option Addr} {sl1 : Array (Option Value)} {oc1 kV1 dc1 pm1 cd1 ct1 : Value} {f2 : Addr} {od2 an2 : Option Addr} {sl2 : Array (Option Value)} {oc2 kV2 dc2 pm2 cd2 ct2 : Value} {f3 : Addr} {od3 an3 : Option Addr} {sl3 : Array (Option Value)} {oc3 kV3 dc3 pm3 cd3 ct3 : Value} {f4 : Addr} {od4 an4 : Option Addr} {sl4 : Array (Option Value)} {oc4 kV4 dc4 pm4 cd4 ct4 : Value} {f5 : Addr} {od5 an5 : Option Addr} {sl5 : Array (Option Value)} {oc5 kV5 dc5 pm5 cd5 ct5 : Value} {f6 : Addr} {od6 an6 : Option Addr} {sl6 : Array (Option Value)} {oc6 kV6 dc6 pm6 cd6 ct6 : Value} {f7 : Addr} {od7 an7 : Option Addr} {sl7 : Array (Option Value)} {oc7 kV7 dc7 pm7 cd7 ct7 : Value} {f8 : Addr} {od8 an8 : Option Addr} {sl8 : Array (Option Value)} {oc8 kV8 dc8 pm8 cd8 ct8 : Value} {f9 : Addr} {od9 an9 : Option Addr} {sl9 : Array (Option Value)} {oc9 kV9 dc9 pm9 cd9 ct9 : Value} {f10 : Addr} {od10 an10 : Option Addr} {sl10 : Array (Option Value)} {oc10 kV10 dc10 pm10 cd10 ct10 : Value} {f11 : Addr} {od11 an11 : Option Addr} {sl11 : Array (Option Value)} {oc11 kV11 dc11 pm11 cd11 ct11 : Value} {f12 : Addr} {od12 an12 : Option Addr} {sl12 : Array (Option Value)} {oc12 kV12 dc12 pm12 cd12 ct12 : Value} {f13 : Addr} {od13 an13 : Option Addr} {sl13 : Array (Option Value)} {oc13 kV13 dc13 pm13 cd13 ct13 : Value} {f14 : Addr} {od14 an14 : Option Addr} {sl14 : Array (Option Value)} {oc14 kV14 dc14 pm14 cd14 ct14 : Value} {f15 : Addr} {od15 an15 : Option Addr} {sl15 : Array (Option Value)} {oc15 kV15 dc15 pm15 cd15 ct15 : Value} {f16 : Addr} {od16 an16 : Option Addr} {sl16 : Array (Option Value)} {oc16 kV16 dc16 pm16 cd16 ct16 : Value} {f17 : Addr} {od17 an17 : Option Addr} {sl17 : Array (Option Value)} {oc17 kV17 dc17 pm17 cd17 ct17 : Value} {f18 : Addr} {od18 an18 : Option Addr} {sl18 : Array (Option Value)} {oc18 kV18 dc18 pm18 cd18 ct18 : Value} {f19 : Addr} {od19 an19 : Option Addr} {sl19 : Array (Option Value)} {oc19 kV19 dc19 pm19 cd19 ct19 : Value} {f20 : Addr} {od20 an20 : Option Addr} {sl20 : Array (Option Value)} {oc20 kV20 dc20 pm20 cd20 ct20 : Value} {f21 : Addr} {od21 an21 : Option Addr} {sl21 : Array (Option Value)} {oc21 kV21 dc21 pm21 cd21 ct21 : Value} {f22 : Addr} {od22 an22 : Option Addr} {sl22 : Array (Option Value)} {oc22 kV22 dc22 pm22 cd22 ct22 : Value} {f23 : Addr} {od23 an23 : Option Addr} {sl23 : Array (Option Value)} {oc23 kV23 dc23 pm23 cd23 ct23 : Value} {f24 : Addr} {od24 an24 : Option Addr} {sl24 : Array (Option Value)} {oc24 kV24 dc24 pm24 cd24 ct24 : Value} {f25 : Addr} {od25 an25 : Option Addr} {sl25 : Array (Option Value)} {oc25 kV25 dc25 pm25 cd25 ct25 : Value} {f26 : Addr} {od26 an26 : Option Addr} {sl26 : Array (Option Value)} {oc26 kV26 dc26 pm26 cd26 ct26 : Value} {f27 : Addr} {od27 an27 : Option Addr} {sl27 : Array (Option Value)} {oc27 kV27 dc27 pm27 cd27 ct27 : Value} {f28 : Addr} {od28 an28 : Option Addr} {sl28 : Array (Option Value)} {oc28 kV28 dc28 pm28 cd28 ct28 : Value} {f29 : Addr} {od29 an29 : Option Addr} {sl29 : Array (Option Value)} {oc29 kV29 dc29 pm29 cd29 ct29 : Value} {f30 : Addr} {od30 an30 : Option Addr} {sl30 : Array (Option Value)} {oc30 kV30 dc30 pm30 cd30 ct30 : Value} {f31 : Addr} {od31 an31 : Option Addr} {sl31 : Array (Option Value)} {oc31 kV31 dc31 pm31 cd31 ct31 : Value} {f32 : Addr} {od32 an32 : Option Addr} {sl32 : Array (Option Value)} {oc32 kV32 dc32 pm32 cd32 ct32 : Value} {f33 : Addr} {od33 an33 : Option Addr} {sl33 : Array (Option Value)} {oc33 kV33 dc33 pm33 cd33 ct33 : Value} {tk0 : Tok} {tk1 : Tok} {ex_BookError : Addr} {ex_NoKinds : Addr} {ex_NoTree : Addr} {ex_NoPlace : Addr} {ex_NoBook : Addr} {ex_NoText : Addr} {ex_NotOne : Addr} {ex_Great : Addr} {ex_Many : Addr} {ex_NoName : Addr}
    (a0 : PySem.W.nsIn K mainGlobals "is_number" = some (some (.ref f0))) (l0 : K.lookup f0 = some ⟨oc0, od0, .func (PySem.W.fnOf "is_number" "is_number" (defArgs s_is_number) (defBody s_is_number) (defScope s_is_number) .none kV0 dc0 pm0 an0 cd0 ct0), sl0⟩) (c0 : PySem.W.codeIn K cd0 "is_number" = true) (k0 : PySem.W.keepIn K (.ref f0) = true)
    (a1 : PySem.W.nsIn K mainGlobals "is_below" = some (some (.ref f1))) (l1 : K.lookup f1 = some ⟨oc1, od1, .func (PySem.W.fnOf "is_below" "is_below" (defArgs s_is_below) (defBody s_is_below) (defScope s_is_below) .none kV1 dc1 pm1 an1 cd1 ct1), sl1⟩) (c1 : PySem.W.codeIn K cd1 "is_below" = true) (k1 : PySem.W.keepIn K (.ref f1) = true)
    (a2 : PySem.W.nsIn K mainGlobals "kids_of" = some (some (.ref f2))) (l2 : K.lookup f2 = some ⟨oc2, od2, .func (PySem.W.fnOf "kids_of" "kids_of" (defArgs s_kids_of) (defBody s_kids_of) (defScope s_kids_of) .none kV2 dc2 pm2 an2 cd2 ct2), sl2⟩) (c2 : PySem.W.codeIn K cd2 "kids_of" = true) (k2 : PySem.W.keepIn K (.ref f2) = true)
    (a3 : PySem.W.nsIn K mainGlobals "kid_at" = some (some (.ref f3))) (l3 : K.lookup f3 = some ⟨oc3, od3, .func (PySem.W.fnOf "kid_at" "kid_at" (defArgs s_kid_at) (defBody s_kid_at) (defScope s_kid_at) .none kV3 dc3 pm3 an3 cd3 ct3), sl3⟩) (c3 : PySem.W.codeIn K cd3 "kid_at" = true) (k3 : PySem.W.keepIn K (.ref f3) = true)
    (a4 : PySem.W.nsIn K mainGlobals "is_call" = some (some (.ref f4))) (l4 : K.lookup f4 = some ⟨oc4, od4, .func (PySem.W.fnOf "is_call" "is_call" (defArgs s_is_call) (defBody s_is_call) (defScope s_is_call) .none kV4 dc4 pm4 an4 cd4 ct4), sl4⟩) (c4 : PySem.W.codeIn K cd4 "is_call" = true) (k4 : PySem.W.keepIn K (.ref f4) = true)
    (a5 : PySem.W.nsIn K mainGlobals "called_by" = some (some (.ref f5))) (l5 : K.lookup f5 = some ⟨oc5, od5, .func (PySem.W.fnOf "called_by" "called_by" (defArgs s_called_by) (defBody s_called_by) (defScope s_called_by) .none kV5 dc5 pm5 an5 cd5 ct5), sl5⟩) (c5 : PySem.W.codeIn K cd5 "called_by" = true) (k5 : PySem.W.keepIn K (.ref f5) = true)
    (a6 : PySem.W.nsIn K mainGlobals "ins_of" = some (some (.ref f6))) (l6 : K.lookup f6 = some ⟨oc6, od6, .func (PySem.W.fnOf "ins_of" "ins_of" (defArgs s_ins_of) (defBody s_ins_of) (defScope s_ins_of) .none kV6 dc6 pm6 an6 cd6 ct6), sl6⟩) (c6 : PySem.W.codeIn K cd6 "ins_of" = true) (k6 : PySem.W.keepIn K (.ref f6) = true)
    (a7 : PySem.W.nsIn K mainGlobals "head_of" = some (some (.ref f7))) (l7 : K.lookup f7 = some ⟨oc7, od7, .func (PySem.W.fnOf "head_of" "head_of" (defArgs s_head_of) (defBody s_head_of) (defScope s_head_of) .none kV7 dc7 pm7 an7 cd7 ct7), sl7⟩) (c7 : PySem.W.codeIn K cd7 "head_of" = true) (k7 : PySem.W.keepIn K (.ref f7) = true)
    (a8 : PySem.W.nsIn K mainGlobals "rules_of" = some (some (.ref f8))) (l8 : K.lookup f8 = some ⟨oc8, od8, .func (PySem.W.fnOf "rules_of" "rules_of" (defArgs s_rules_of) (defBody s_rules_of) (defScope s_rules_of) .none kV8 dc8 pm8 an8 cd8 ct8), sl8⟩) (c8 : PySem.W.codeIn K cd8 "rules_of" = true) (k8 : PySem.W.keepIn K (.ref f8) = true)
    (a9 : PySem.W.nsIn K mainGlobals "pattern_of" = some (some (.ref f9))) (l9 : K.lookup f9 = some ⟨oc9, od9, .func (PySem.W.fnOf "pattern_of" "pattern_of" (defArgs s_pattern_of) (defBody s_pattern_of) (defScope s_pattern_of) .none kV9 dc9 pm9 an9 cd9 ct9), sl9⟩) (c9 : PySem.W.codeIn K cd9 "pattern_of" = true) (k9 : PySem.W.keepIn K (.ref f9) = true)
    (a10 : PySem.W.nsIn K mainGlobals "above" = some (some (.ref f10))) (l10 : K.lookup f10 = some ⟨oc10, od10, .func (PySem.W.fnOf "above" "above" (defArgs s_above) (defBody s_above) (defScope s_above) .none kV10 dc10 pm10 an10 cd10 ct10), sl10⟩) (c10 : PySem.W.codeIn K cd10 "above" = true) (k10 : PySem.W.keepIn K (.ref f10) = true)
    (a11 : PySem.W.nsIn K mainGlobals "led_on" = some (some (.ref f11))) (l11 : K.lookup f11 = some ⟨oc11, od11, .func (PySem.W.fnOf "led_on" "led_on" (defArgs s_led_on) (defBody s_led_on) (defScope s_led_on) .none kV11 dc11 pm11 an11 cd11 ct11), sl11⟩) (c11 : PySem.W.codeIn K cd11 "led_on" = true) (k11 : PySem.W.keepIn K (.ref f11) = true)
    (a12 : PySem.W.nsIn K mainGlobals "written" = some (some (.ref f12))) (l12 : K.lookup f12 = some ⟨oc12, od12, .func (PySem.W.fnOf "written" "written" (defArgs s_written) (defBody s_written) (defScope s_written) .none kV12 dc12 pm12 an12 cd12 ct12), sl12⟩) (c12 : PySem.W.codeIn K cd12 "written" = true) (k12 : PySem.W.keepIn K (.ref f12) = true)
    (a13 : PySem.W.nsIn K mainGlobals "origin_at" = some (some (.ref f13))) (l13 : K.lookup f13 = some ⟨oc13, od13, .func (PySem.W.fnOf "origin_at" "origin_at" (defArgs s_origin_at) (defBody s_origin_at) (defScope s_origin_at) .none kV13 dc13 pm13 an13 cd13 ct13), sl13⟩) (c13 : PySem.W.codeIn K cd13 "origin_at" = true) (k13 : PySem.W.keepIn K (.ref f13) = true)
    (a14 : PySem.W.nsIn K mainGlobals "_law_cell" = some (some (.ref f14))) (l14 : K.lookup f14 = some ⟨oc14, od14, .func (PySem.W.fnOf "_law_cell" "_law_cell" (defArgs s__law_cell) (defBody s__law_cell) (defScope s__law_cell) .none kV14 dc14 pm14 an14 cd14 ct14), sl14⟩) (c14 : PySem.W.codeIn K cd14 "_law_cell" = true) (k14 : PySem.W.keepIn K (.ref f14) = true)
    (a15 : PySem.W.nsIn K mainGlobals "_law_folded" = some (some (.ref f15))) (l15 : K.lookup f15 = some ⟨oc15, od15, .func (PySem.W.fnOf "_law_folded" "_law_folded" (defArgs s__law_folded) (defBody s__law_folded) (defScope s__law_folded) .none kV15 dc15 pm15 an15 cd15 ct15), sl15⟩) (c15 : PySem.W.codeIn K cd15 "_law_folded" = true) (k15 : PySem.W.keepIn K (.ref f15) = true)
    (a16 : PySem.W.nsIn K mainGlobals "_law_names" = some (some (.ref f16))) (l16 : K.lookup f16 = some ⟨oc16, od16, .func (PySem.W.fnOf "_law_names" "_law_names" (defArgs s__law_names) (defBody s__law_names) (defScope s__law_names) .none kV16 dc16 pm16 an16 cd16 ct16), sl16⟩) (c16 : PySem.W.codeIn K cd16 "_law_names" = true) (k16 : PySem.W.keepIn K (.ref f16) = true)
    (a17 : PySem.W.nsIn K mainGlobals "_law_kinds" = some (some (.ref f17))) (l17 : K.lookup f17 = some ⟨oc17, od17, .func (PySem.W.fnOf "_law_kinds" "_law_kinds" (defArgs s__law_kinds) (defBody s__law_kinds) (defScope s__law_kinds) .none kV17 dc17 pm17 an17 cd17 ct17), sl17⟩) (c17 : PySem.W.codeIn K cd17 "_law_kinds" = true) (k17 : PySem.W.keepIn K (.ref f17) = true)
    (a18 : PySem.W.nsIn K mainGlobals "_law_thing" = some (some (.ref f18))) (l18 : K.lookup f18 = some ⟨oc18, od18, .func (PySem.W.fnOf "_law_thing" "_law_thing" (defArgs s__law_thing) (defBody s__law_thing) (defScope s__law_thing) .none kV18 dc18 pm18 an18 cd18 ct18), sl18⟩) (c18 : PySem.W.codeIn K cd18 "_law_thing" = true) (k18 : PySem.W.keepIn K (.ref f18) = true)
    (a19 : PySem.W.nsIn K mainGlobals "_law_places" = some (some (.ref f19))) (l19 : K.lookup f19 = some ⟨oc19, od19, .func (PySem.W.fnOf "_law_places" "_law_places" (defArgs s__law_places) (defBody s__law_places) (defScope s__law_places) .none kV19 dc19 pm19 an19 cd19 ct19), sl19⟩) (c19 : PySem.W.codeIn K cd19 "_law_places" = true) (k19 : PySem.W.keepIn K (.ref f19) = true)
    (a20 : PySem.W.nsIn K mainGlobals "_law_put" = some (some (.ref f20))) (l20 : K.lookup f20 = some ⟨oc20, od20, .func (PySem.W.fnOf "_law_put" "_law_put" (defArgs s__law_put) (defBody s__law_put) (defScope s__law_put) .none kV20 dc20 pm20 an20 cd20 ct20), sl20⟩) (c20 : PySem.W.codeIn K cd20 "_law_put" = true) (k20 : PySem.W.keepIn K (.ref f20) = true)
    (a21 : PySem.W.nsIn K mainGlobals "_law_mixed" = some (some (.ref f21))) (l21 : K.lookup f21 = some ⟨oc21, od21, .func (PySem.W.fnOf "_law_mixed" "_law_mixed" (defArgs s__law_mixed) (defBody s__law_mixed) (defScope s__law_mixed) .none kV21 dc21 pm21 an21 cd21 ct21), sl21⟩) (c21 : PySem.W.codeIn K cd21 "_law_mixed" = true) (k21 : PySem.W.keepIn K (.ref f21) = true)
    (a22 : PySem.W.nsIn K mainGlobals "_law_rows" = some (some (.ref f22))) (l22 : K.lookup f22 = some ⟨oc22, od22, .func (PySem.W.fnOf "_law_rows" "_law_rows" (defArgs s__law_rows) (defBody s__law_rows) (defScope s__law_rows) .none kV22 dc22 pm22 an22 cd22 ct22), sl22⟩) (c22 : PySem.W.codeIn K cd22 "_law_rows" = true) (k22 : PySem.W.keepIn K (.ref f22) = true)
    (a23 : PySem.W.nsIn K mainGlobals "_law_book" = some (some (.ref f23))) (l23 : K.lookup f23 = some ⟨oc23, od23, .func (PySem.W.fnOf "_law_book" "_law_book" (defArgs s__law_book) (defBody s__law_book) (defScope s__law_book) .none kV23 dc23 pm23 an23 cd23 ct23), sl23⟩) (c23 : PySem.W.codeIn K cd23 "_law_book" = true) (k23 : PySem.W.keepIn K (.ref f23) = true)
    (a24 : PySem.W.nsIn K mainGlobals "_law_drawn" = some (some (.ref f24))) (l24 : K.lookup f24 = some ⟨oc24, od24, .func (PySem.W.fnOf "_law_drawn" "_law_drawn" (defArgs s__law_drawn) (defBody s__law_drawn) (defScope s__law_drawn) .none kV24 dc24 pm24 an24 cd24 ct24), sl24⟩) (c24 : PySem.W.codeIn K cd24 "_law_drawn" = true) (k24 : PySem.W.keepIn K (.ref f24) = true)
    (a25 : PySem.W.nsIn K mainGlobals "_law_tree" = some (some (.ref f25))) (l25 : K.lookup f25 = some ⟨oc25, od25, .func (PySem.W.fnOf "_law_tree" "_law_tree" (defArgs s__law_tree) (defBody s__law_tree) (defScope s__law_tree) .none kV25 dc25 pm25 an25 cd25 ct25), sl25⟩) (c25 : PySem.W.codeIn K cd25 "_law_tree" = true) (k25 : PySem.W.keepIn K (.ref f25) = true)
    (a26 : PySem.W.nsIn K mainGlobals "_law_written" = some (some (.ref f26))) (l26 : K.lookup f26 = some ⟨oc26, od26, .func (PySem.W.fnOf "_law_written" "_law_written" (defArgs s__law_written) (defBody s__law_written) (defScope s__law_written) .none kV26 dc26 pm26 an26 cd26 ct26), sl26⟩) (c26 : PySem.W.codeIn K cd26 "_law_written" = true) (k26 : PySem.W.keepIn K (.ref f26) = true)
    (a27 : PySem.W.nsIn K mainGlobals "_law_other" = some (some (.ref f27))) (l27 : K.lookup f27 = some ⟨oc27, od27, .func (PySem.W.fnOf "_law_other" "_law_other" (defArgs s__law_other) (defBody s__law_other) (defScope s__law_other) .none kV27 dc27 pm27 an27 cd27 ct27), sl27⟩) (c27 : PySem.W.codeIn K cd27 "_law_other" = true) (k27 : PySem.W.keepIn K (.ref f27) = true)
    (a28 : PySem.W.nsIn K mainGlobals "_law_refused" = some (some (.ref f28))) (l28 : K.lookup f28 = some ⟨oc28, od28, .func (PySem.W.fnOf "_law_refused" "_law_refused" (defArgs s__law_refused) (defBody s__law_refused) (defScope s__law_refused) .none kV28 dc28 pm28 an28 cd28 ct28), sl28⟩) (c28 : PySem.W.codeIn K cd28 "_law_refused" = true) (k28 : PySem.W.keepIn K (.ref f28) = true)
    (a29 : PySem.W.nsIn K mainGlobals "_law_double" = some (some (.ref f29))) (l29 : K.lookup f29 = some ⟨oc29, od29, .func (PySem.W.fnOf "_law_double" "_law_double" (defArgs s__law_double) (defBody s__law_double) (defScope s__law_double) .none kV29 dc29 pm29 an29 cd29 ct29), sl29⟩) (c29 : PySem.W.codeIn K cd29 "_law_double" = true) (k29 : PySem.W.keepIn K (.ref f29) = true)
    (a30 : PySem.W.nsIn K mainGlobals "_law_chain" = some (some (.ref f30))) (l30 : K.lookup f30 = some ⟨oc30, od30, .func (PySem.W.fnOf "_law_chain" "_law_chain" (defArgs s__law_chain) (defBody s__law_chain) (defScope s__law_chain) .none kV30 dc30 pm30 an30 cd30 ct30), sl30⟩) (c30 : PySem.W.codeIn K cd30 "_law_chain" = true) (k30 : PySem.W.keepIn K (.ref f30) = true)
    (a31 : PySem.W.nsIn K mainGlobals "_law_bits" = some (some (.ref f31))) (l31 : K.lookup f31 = some ⟨oc31, od31, .func (PySem.W.fnOf "_law_bits" "_law_bits" (defArgs s__law_bits) (defBody s__law_bits) (defScope s__law_bits) .none kV31 dc31 pm31 an31 cd31 ct31), sl31⟩) (c31 : PySem.W.codeIn K cd31 "_law_bits" = true) (k31 : PySem.W.keepIn K (.ref f31) = true)
    (a32 : PySem.W.nsIn K mainGlobals "_law_far" = some (some (.ref f32))) (l32 : K.lookup f32 = some ⟨oc32, od32, .func (PySem.W.fnOf "_law_far" "_law_far" (defArgs s__law_far) (defBody s__law_far) (defScope s__law_far) .none kV32 dc32 pm32 an32 cd32 ct32), sl32⟩) (c32 : PySem.W.codeIn K cd32 "_law_far" = true) (k32 : PySem.W.keepIn K (.ref f32) = true)
    (a33 : PySem.W.nsIn K mainGlobals "law" = some (some (.ref f33))) (l33 : K.lookup f33 = some ⟨oc33, od33, .func (PySem.W.fnOf "law" "law" (defArgs s_law) (defBody s_law) (defScope s_law) .none kV33 dc33 pm33 an33 cd33 ct33), sl33⟩) (c33 : PySem.W.codeIn K cd33 "law" = true) (k33 : PySem.W.keepIn K (.ref f33) = true)
    (z0 : PySem.W.nsIn K mainGlobals "ValueError" = some none)
    (z1 : PySem.W.nsIn K mainGlobals "bool" = some none)
    (z2 : PySem.W.nsIn K mainGlobals "int" = some none)
    (z3 : PySem.W.nsIn K mainGlobals "isinstance" = some none)
    (z4 : PySem.W.nsIn K mainGlobals "len" = some none)
    (z5 : PySem.W.nsIn K mainGlobals "range" = some none)
    (z6 : PySem.W.nsIn K mainGlobals "tuple" = some none)
    (y0 : PySem.W.nsIn K mainGlobals "CALL_SIGN" = some (some (.str (Str.ofString "?") tk0)))
    (y1 : PySem.W.nsIn K mainGlobals "HEAD" = some (some (.int (-1) tk1)))
    (xn_BookError : PySem.W.nsIn K mainGlobals "BookError" = some (some (.ref ex_BookError)))
    (xn_NoKinds : PySem.W.nsIn K mainGlobals "NoKinds" = some (some (.ref ex_NoKinds)))
    (xn_NoTree : PySem.W.nsIn K mainGlobals "NoTree" = some (some (.ref ex_NoTree)))
    (xn_NoPlace : PySem.W.nsIn K mainGlobals "NoPlace" = some (some (.ref ex_NoPlace)))
    (xn_NoBook : PySem.W.nsIn K mainGlobals "NoBook" = some (some (.ref ex_NoBook)))
    (xn_NoText : PySem.W.nsIn K mainGlobals "NoText" = some (some (.ref ex_NoText)))
    (xn_NotOne : PySem.W.nsIn K mainGlobals "NotOne" = some (some (.ref ex_NotOne)))
    (xn_Great : PySem.W.nsIn K mainGlobals "Great" = some (some (.ref ex_Great)))
    (xn_Many : PySem.W.nsIn K mainGlobals "Many" = some (some (.ref ex_Many)))
    (xn_NoName : PySem.W.nsIn K mainGlobals "NoName" = some (some (.ref ex_NoName)))
    (xe_NoPlace : PySem.W.excIn K ex_NoPlace [.type "ValueError", .type "Exception", .type "BaseException", .type "object"] "ValueError.__new__" = true)
    (xg_NoPlace : PySem.W.findIn K (.ref ex_NoPlace) "__getattribute__" = some (some (.builtin "BaseException.__getattribute__")))
    (xh_NoPlace : PySem.W.findIn K (.ref ex_NoPlace) "__getattr__" = some none)
    (xc_NoPlace : PySem.W.findIn K (.ref ex_NoPlace) "__class__" = some (some (.builtin "object.__class__")))
    (xo_NoPlace : PySem.W.mroIn K ex_NoPlace (.type "object") = some true)
    (xb_NoPlace : PySem.W.mroIn K ex_NoPlace (.type "BaseException") = some true)
    (hit_NoPlace_BookError : PySem.W.exmOne K (.ref ex_NoPlace) (.ref ex_BookError) = some true)
    (kit_NoPlace_NoPlace : PySem.W.kitOne K (.ref ex_NoPlace) (.ref ex_NoPlace) = some true)
    (kit_NoPlace_ValueError : PySem.W.kitOne K (.ref ex_NoPlace) (.type "ValueError") = some true)
    (kit_NoPlace_Great : PySem.W.kitOne K (.ref ex_NoPlace) (.ref ex_Great) = some false)
    (kit_NoPlace_Many : PySem.W.kitOne K (.ref ex_NoPlace) (.ref ex_Many) = some false)
    (kit_NoPlace_NoBook : PySem.W.kitOne K (.ref ex_NoPlace) (.ref ex_NoBook) = some false)
    (kit_NoPlace_NoKinds : PySem.W.kitOne K (.ref ex_NoPlace) (.ref ex_NoKinds) = some false)
    (kit_NoPlace_NoName : PySem.W.kitOne K (.ref ex_NoPlace) (.ref ex_NoName) = some false)
    (kit_NoPlace_NoText : PySem.W.kitOne K (.ref ex_NoPlace) (.ref ex_NoText) = some false)
    (kit_NoPlace_NoTree : PySem.W.kitOne K (.ref ex_NoPlace) (.ref ex_NoTree) = some false)
    (kit_NoPlace_NotOne : PySem.W.kitOne K (.ref ex_NoPlace) (.ref ex_NotOne) = some false) :
    ∃ fd : FuncData, (∀ (s : Shared) (v : Value), BindsTo s fd ⟨[v], []⟩ [("script", v)]) ∧ ∀ base : Heap, K.In base → base.Ns mainGlobals mg → FnOk l.prog w K mg base CX0 60 fa fd ["script"] (sp_law K) := by
  have e0 := hfa.symm.trans (PySem.W.mg_of X G a33)
  have e : f33 = fa := (Value.ref.inj (Option.some.inj e0)).symm
  subst e
  have F0 := fun_mk (st := s_is_number) l0 c0 k0
  have b0 := F0.binds (ps := ["thing"]) fun _ _ _ _ _ _ us hl => by obtain ⟨y0, rfl⟩ := us1 hl; rfl
  have F1 := fun_mk (st := s_is_below) l1 c1 k1
  have b1 := F1.binds (ps := ["number", "bound"]) fun _ _ _ _ _ _ us hl => by obtain ⟨y0, y1, rfl⟩ := us2 hl; rfl
  have F2 := fun_mk (st := s_kids_of) l2 c2 k2
  have b2 := F2.binds (ps := ["thing"]) fun _ _ _ _ _ _ us hl => by obtain ⟨y0, rfl⟩ := us1 hl; rfl
  have F3 := fun_mk (st := s_kid_at) l3 c3 k3
  have b3 := F3.binds (ps := ["thing", "number"]) fun _ _ _ _ _ _ us hl => by obtain ⟨y0, y1, rfl⟩ := us2 hl; rfl
  have F4 := fun_mk (st := s_is_call) l4 c4 k4
  have b4 := F4.binds (ps := ["thing"]) fun _ _ _ _ _ _ us hl => by obtain ⟨y0, rfl⟩ := us1 hl; rfl
  have F5 := fun_mk (st := s_called_by) l5 c5 k5
  have b5 := F5.binds (ps := ["call"]) fun _ _ _ _ _ _ us hl => by obtain ⟨y0, rfl⟩ := us1 hl; rfl
  have F6 := fun_mk (st := s_ins_of) l6 c6 k6
  have b6 := F6.binds (ps := ["book"]) fun _ _ _ _ _ _ us hl => by obtain ⟨y0, rfl⟩ := us1 hl; rfl
  have F7 := fun_mk (st := s_head_of) l7 c7 k7
  have b7 := F7.binds (ps := ["book"]) fun _ _ _ _ _ _ us hl => by obtain ⟨y0, rfl⟩ := us1 hl; rfl
  have F8 := fun_mk (st := s_rules_of) l8 c8 k8
  have b8 := F8.binds (ps := ["book"]) fun _ _ _ _ _ _ us hl => by obtain ⟨y0, rfl⟩ := us1 hl; rfl
  have F9 := fun_mk (st := s_pattern_of) l9 c9 k9
  have b9 := F9.binds (ps := ["book", "state", "name"]) fun _ _ _ _ _ _ us hl => by obtain ⟨y0, y1, y2, rfl⟩ := us3 hl; rfl
  have F10 := fun_mk (st := s_above) l10 c10 k10
  have b10 := F10.binds (ps := ["tree"]) fun _ _ _ _ _ _ us hl => by obtain ⟨y0, rfl⟩ := us1 hl; rfl
  have F11 := fun_mk (st := s_led_on) l11 c11 k11
  have b11 := F11.binds (ps := ["book", "call", "knot"]) fun _ _ _ _ _ _ us hl => by obtain ⟨y0, y1, y2, rfl⟩ := us3 hl; rfl
  have F12 := fun_mk (st := s_written) l12 c12 k12
  have b12 := F12.binds (ps := ["book", "part", "knot", "origin"]) fun _ _ _ _ _ _ us hl => by obtain ⟨y0, y1, y2, y3, rfl⟩ := us4 hl; rfl
  have F13 := fun_mk (st := s_origin_at) l13 c13 k13
  have b13 := F13.binds (ps := ["book", "tree", "place"]) fun _ _ _ _ _ _ us hl => by obtain ⟨y0, y1, y2, rfl⟩ := us3 hl; rfl
  have F14 := fun_mk (st := s__law_cell) l14 c14 k14
  have b14 := F14.binds (ps := ["script", "k"]) fun _ _ _ _ _ _ us hl => by obtain ⟨y0, y1, rfl⟩ := us2 hl; rfl
  have F15 := fun_mk (st := s__law_folded) l15 c15 k15
  have b15 := F15.binds (ps := ["cells", "many"]) fun _ _ _ _ _ _ us hl => by obtain ⟨y0, y1, rfl⟩ := us2 hl; rfl
  have F16 := fun_mk (st := s__law_names) l16 c16 k16
  have b16 := F16.binds (ps := ["cell"]) fun _ _ _ _ _ _ us hl => by obtain ⟨y0, rfl⟩ := us1 hl; rfl
  have F17 := fun_mk (st := s__law_kinds) l17 c17 k17
  have b17 := F17.binds (ps := ["cell", "names"]) fun _ _ _ _ _ _ us hl => by obtain ⟨y0, y1, rfl⟩ := us2 hl; rfl
  have F18 := fun_mk (st := s__law_thing) l18 c18 k18
  have b18 := F18.binds (ps := ["left", "outs", "states", "kids"]) fun _ _ _ _ _ _ us hl => by obtain ⟨y0, y1, y2, y3, rfl⟩ := us4 hl; rfl
  have F19 := fun_mk (st := s__law_places) l19 c19 k19
  have b19 := F19.binds (ps := ["thing"]) fun _ _ _ _ _ _ us hl => by obtain ⟨y0, rfl⟩ := us1 hl; rfl
  have F20 := fun_mk (st := s__law_put) l20 c20 k20
  have b20 := F20.binds (ps := ["thing", "place", "other"]) fun _ _ _ _ _ _ us hl => by obtain ⟨y0, y1, y2, rfl⟩ := us3 hl; rfl
  have F21 := fun_mk (st := s__law_mixed) l21 c21 k21
  have b21 := F21.binds (ps := ["cell", "k"]) fun _ _ _ _ _ _ us hl => by obtain ⟨y0, y1, rfl⟩ := us2 hl; rfl
  have F22 := fun_mk (st := s__law_rows) l22 c22 k22
  have b22 := F22.binds (ps := ["cells", "ins", "outs", "states"]) fun _ _ _ _ _ _ us hl => by obtain ⟨y0, y1, y2, y3, rfl⟩ := us4 hl; rfl
  have F23 := fun_mk (st := s__law_book) l23 c23 k23
  have b23 := F23.binds (ps := ["cells", "ins", "outs", "states"]) fun _ _ _ _ _ _ us hl => by obtain ⟨y0, y1, y2, y3, rfl⟩ := us4 hl; rfl
  have F24 := fun_mk (st := s__law_drawn) l24 c24 k24
  have b24 := F24.binds (ps := ["script", "most"]) fun _ _ _ _ _ _ us hl => by obtain ⟨y0, y1, rfl⟩ := us2 hl; rfl
  have F25 := fun_mk (st := s__law_tree) l25 c25 k25
  have b25 := F25.binds (ps := ["left", "ins", "deep"]) fun _ _ _ _ _ _ us hl => by obtain ⟨y0, y1, y2, rfl⟩ := us3 hl; rfl
  have F26 := fun_mk (st := s__law_written) l26 c26 k26
  have b26 := F26.binds (ps := ["book", "pattern", "kids", "spot", "found"]) fun _ _ _ _ _ _ us hl => by obtain ⟨y0, y1, y2, y3, y4, rfl⟩ := us5 hl; rfl
  have F27 := fun_mk (st := s__law_other) l27 c27 k27
  have b27 := F27.binds (ps := ["e"]) fun _ _ _ _ _ _ us hl => by obtain ⟨y0, rfl⟩ := us1 hl; rfl
  have F28 := fun_mk (st := s__law_refused) l28 c28 k28
  have b28 := F28.binds (ps := ["book", "tree", "place"]) fun _ _ _ _ _ _ us hl => by obtain ⟨y0, y1, y2, rfl⟩ := us3 hl; rfl
  have F29 := fun_mk (st := s__law_double) l29 c29 k29
  have b29 := F29.binds (ps := ["names", "under"]) fun _ _ _ _ _ _ us hl => by obtain ⟨y0, y1, rfl⟩ := us2 hl; rfl
  have F30 := fun_mk (st := s__law_chain) l30 c30 k30
  have b30 := F30.binds (ps := ["names", "many"]) fun _ _ _ _ _ _ us hl => by obtain ⟨y0, y1, rfl⟩ := us2 hl; rfl
  have F31 := fun_mk (st := s__law_bits) l31 c31 k31
  have b31 := F31.binds (ps := ["cell", "many"]) fun _ _ _ _ _ _ us hl => by obtain ⟨y0, y1, rfl⟩ := us2 hl; rfl
  have F32 := fun_mk (st := s__law_far) l32 c32 k32
  have b32 := F32.binds (ps := ["script"]) fun _ _ _ _ _ _ us hl => by obtain ⟨y0, rfl⟩ := us1 hl; rfl
  have F33 := fun_mk (st := s_law) l33 c33 k33
  have b33 := F33.binds (ps := ["script"]) fun _ _ _ _ _ _ us hl => by obtain ⟨y0, rfl⟩ := us1 hl; rfl
  let T : TX K mg := ⟨⟨tk0, PySem.W.mg_of X G y0⟩, ⟨tk1, PySem.W.mg_of X G y1⟩, ex_BookError, PySem.W.mg_of X G xn_BookError, ex_NoKinds, PySem.W.mg_of X G xn_NoKinds, ex_NoTree, PySem.W.mg_of X G xn_NoTree, ex_NoPlace, PySem.W.mg_of X G xn_NoPlace, ex_NoBook, PySem.W.mg_of X G xn_NoBook, ex_NoText, PySem.W.mg_of X G xn_NoText, ex_NotOne, PySem.W.mg_of X G xn_NotOne, ex_Great, PySem.W.mg_of X G xn_Great, ex_Many, PySem.W.mg_of X G xn_Many, ex_NoName, PySem.W.mg_of X G xn_NoName, xe_NoPlace, xg_NoPlace, xh_NoPlace, xc_NoPlace, xo_NoPlace, xb_NoPlace, hit_NoPlace_BookError, kit_NoPlace_NoPlace, kit_NoPlace_ValueError, kit_NoPlace_Great, kit_NoPlace_Many, kit_NoPlace_NoBook, kit_NoPlace_NoKinds, kit_NoPlace_NoName, kit_NoPlace_NoText, kit_NoPlace_NoTree, kit_NoPlace_NotOne, ⟨f0, _, F0, b0, PySem.W.mg_of X G a0⟩, ⟨f1, _, F1, b1, PySem.W.mg_of X G a1⟩, ⟨f2, _, F2, b2, PySem.W.mg_of X G a2⟩, ⟨f3, _, F3, b3, PySem.W.mg_of X G a3⟩, ⟨f4, _, F4, b4, PySem.W.mg_of X G a4⟩, ⟨f5, _, F5, b5, PySem.W.mg_of X G a5⟩, ⟨f6, _, F6, b6, PySem.W.mg_of X G a6⟩, ⟨f7, _, F7, b7, PySem.W.mg_of X G a7⟩, ⟨f8, _, F8, b8, PySem.W.mg_of X G a8⟩, ⟨f9, _, F9, b9, PySem.W.mg_of X G a9⟩, ⟨f10, _, F10, b10, PySem.W.mg_of X G a10⟩, ⟨f11, _, F11, b11, PySem.W.mg_of X G a11⟩, ⟨f12, _, F12, b12, PySem.W.mg_of X G a12⟩, ⟨f13, _, F13, b13, PySem.W.mg_of X G a13⟩, ⟨f14, _, F14, b14, PySem.W.mg_of X G a14⟩, ⟨f15, _, F15, b15, PySem.W.mg_of X G a15⟩, ⟨f16, _, F16, b16, PySem.W.mg_of X G a16⟩, ⟨f17, _, F17, b17, PySem.W.mg_of X G a17⟩, ⟨f18, _, F18, b18, PySem.W.mg_of X G a18⟩, ⟨f19, _, F19, b19, PySem.W.mg_of X G a19⟩, ⟨f20, _, F20, b20, PySem.W.mg_of X G a20⟩, ⟨f21, _, F21, b21, PySem.W.mg_of X G a21⟩, ⟨f22, _, F22, b22, PySem.W.mg_of X G a22⟩, ⟨f23, _, F23, b23, PySem.W.mg_of X G a23⟩, ⟨f24, _, F24, b24, PySem.W.mg_of X G a24⟩, ⟨f25, _, F25, b25, PySem.W.mg_of X G a25⟩, ⟨f26, _, F26, b26, PySem.W.mg_of X G a26⟩, ⟨f27, _, F27, b27, PySem.W.mg_of X G a27⟩, ⟨f28, _, F28, b28, PySem.W.mg_of X G a28⟩, ⟨f29, _, F29, b29, PySem.W.mg_of X G a29⟩, ⟨f30, _, F30, b30, PySem.W.mg_of X G a30⟩, ⟨f31, _, F31, b31, PySem.W.mg_of X G a31⟩, ⟨f32, _, F32, b32, PySem.W.mg_of X G a32⟩, ⟨f33, _, F33, b33, PySem.W.mg_of X G a33⟩, PySem.W.mg_none_of X G z0, PySem.W.mg_none_of X G z1, PySem.W.mg_none_of X G z2, PySem.W.mg_none_of X G z3, PySem.W.mg_none_of X G z4, PySem.W.mg_none_of X G z5, PySem.W.mg_none_of X G z6⟩
  refine ⟨PySem.W.fnOf "law" "law" (defArgs s_law) (defBody s_law) (defScope s_law) .none kV33 dc33 pm33 an33 cd33 ct33, fun s v => .of_eq rfl, fun base _ _ => ?_⟩
  exact ok_law T
theorem walk {l : PySem.W.OpenLaw} {q : Program} {loose : List Str} {XP : (Str → Option Value) → Heap → Prop} {YP : World → Heap → Prop} {d : DefRec} {K : Params → PySem.W.Frag} (hn : l.most = some 63) (hdf : d.params.defaults = [])
    (hY : ∀ (w : World) (h : Heap), YP w h → (K w.params).In h)
    (F : ∀ (w : World) (mg : Str → Option Value) (fa : Addr) (h : Heap), (K w.params).In h → h.Ns mainGlobals mg → mg d.name = some (.ref fa) →
      ∃ fd : FuncData, (∀ (s : Shared) (u : Value), BindsTo s fd ⟨[u], []⟩ [("script", u)]) ∧ ∀ base : Heap, (K w.params).In base → base.Ns mainGlobals mg → FnOk l.prog w (K w.params) mg base CX0 60 fa fd ["script"] (sp_law (K w.params))) :
    PySem.W.WalkO q loose XP YP l.row.toRowW d [] (fun f vs => PySem.call f vs) :=
  L2.walk_of (n := 63) (k := 60) (x := "script") (CX := fun _ => CX0) (sp := fun w => sp_law (K w.params)) hn (by decide) hdf ⟨rfl, by decide, by decide⟩ hY F (fun _ _ a ns hl _ hS => ⟨a, ns, rfl, hS, hl, fun _ => rfl⟩) fun _ _ _ _ _ z => z
end LAW
open PySem PySem.W PyProof.Rows
set_option maxRecDepth 100000 in
set_option maxHeartbeats 0 in
theorem PySem.Challenge.cw_boughbook_k92_no_origin_holds : PySem.Challenge.rw_boughbook_k92_no_origin.Holds := by
  w_on; o_law; k_head; (case hw => w_witness2)
  k_fill
  refine LAW.walk (l := PySem.Challenge.rw_boughbook_k92_no_origin) rfl rfl (fun w h Y => PySem.W.kIn_of Y) ?F
  case F =>
    intro w mg fa h KX G hmg
    refine' LAW.all_mk KX G hmg ?a0 ?l0 ?c0 ?k0 ?a1 ?l1 ?c1 ?k1 ?a2 ?l2 ?c2 ?k2 ?a3 ?l3 ?c3 ?k3 ?a4 ?l4 ?c4 ?k4 ?a5 ?l5 ?c5 ?k5 ?a6 ?l6 ?c6 ?k6 ?a7 ?l7 ?c7 ?k7 ?a8 ?l8 ?c8 ?k8 ?a9 ?l9 ?c9 ?k9 ?a10 ?l10 ?c10 ?k10 ?a11 ?l11 ?c11 ?k11 ?a12 ?l12 ?c12 ?k12 ?a13 ?l13 ?c13 ?k13 ?a14 ?l14 ?c14 ?k14 ?a15 ?l15 ?c15 ?k15 ?a16 ?l16 ?c16 ?k16 ?a17 ?l17 ?c17 ?k17 ?a18 ?l18 ?c18 ?k18 ?a19 ?l19 ?c19 ?k19 ?a20 ?l20 ?c20 ?k20 ?a21 ?l21 ?c21 ?k21 ?a22 ?l22 ?c22 ?k22 ?a23 ?l23 ?c23 ?k23 ?a24 ?l24 ?c24 ?k24 ?a25 ?l25 ?c25 ?k25 ?a26 ?l26 ?c26 ?k26 ?a27 ?l27 ?c27 ?k27 ?a28 ?l28 ?c28 ?k28 ?a29 ?l29 ?c29 ?k29 ?a30 ?l30 ?c30 ?k30 ?a31 ?l31 ?c31 ?k31 ?a32 ?l32 ?c32 ?k32 ?a33 ?l33 ?c33 ?k33 ?z0 ?z1 ?z2 ?z3 ?z4 ?z5 ?z6 ?y0 ?y1 ?xn_BookError ?xn_NoKinds ?xn_NoTree ?xn_NoPlace ?xn_NoBook ?xn_NoText ?xn_NotOne ?xn_Great ?xn_Many ?xn_NoName ?xe_NoPlace ?xg_NoPlace ?xh_NoPlace ?xc_NoPlace ?xo_NoPlace ?xb_NoPlace ?hit_NoPlace_BookError ?kit_NoPlace_NoPlace ?kit_NoPlace_ValueError ?kit_NoPlace_Great ?kit_NoPlace_Many ?kit_NoPlace_NoBook ?kit_NoPlace_NoKinds ?kit_NoPlace_NoName ?kit_NoPlace_NoText ?kit_NoPlace_NoTree ?kit_NoPlace_NotOne
    (case a0 => k_is)
    (case l0 => k_is)
    (case c0 => k_is)
    (case k0 => k_is)
    (case a1 => k_is)
    (case l1 => k_is)
    (case c1 => k_is)
    (case k1 => k_is)
    (case a2 => k_is)
    (case l2 => k_is)
    (case c2 => k_is)
    (case k2 => k_is)
    (case a3 => k_is)
    (case l3 => k_is)
    (case c3 => k_is)
    (case k3 => k_is)
    (case a4 => k_is)
    (case l4 => k_is)
    (case c4 => k_is)
    (case k4 => k_is)
    (case a5 => k_is)
    (case l5 => k_is)
    (case c5 => k_is)
    (case k5 => k_is)
    (case a6 => k_is)
    (case l6 => k_is)
    (case c6 => k_is)
    (case k6 => k_is)
    (case a7 => k_is)
    (case l7 => k_is)
    (case c7 => k_is)
    (case k7 => k_is)
    (case a8 => k_is)
    (case l8 => k_is)
    (case c8 => k_is)
    (case k8 => k_is)
    (case a9 => k_is)
    (case l9 => k_is)
    (case c9 => k_is)
    (case k9 => k_is)
    (case a10 => k_is)
    (case l10 => k_is)
    (case c10 => k_is)
    (case k10 => k_is)
    (case a11 => k_is)
    (case l11 => k_is)
    (case c11 => k_is)
    (case k11 => k_is)
    (case a12 => k_is)
    (case l12 => k_is)
    (case c12 => k_is)
    (case k12 => k_is)
    (case a13 => k_is)
    (case l13 => k_is)
    (case c13 => k_is)
    (case k13 => k_is)
    (case a14 => k_is)
    (case l14 => k_is)
    (case c14 => k_is)
    (case k14 => k_is)
    (case a15 => k_is)
    (case l15 => k_is)
    (case c15 => k_is)
    (case k15 => k_is)
    (case a16 => k_is)
    (case l16 => k_is)
    (case c16 => k_is)
    (case k16 => k_is)
    (case a17 => k_is)
    (case l17 => k_is)
    (case c17 => k_is)
    (case k17 => k_is)
    (case a18 => k_is)
    (case l18 => k_is)
    (case c18 => k_is)
    (case k18 => k_is)
    (case a19 => k_is)
    (case l19 => k_is)
    (case c19 => k_is)
    (case k19 => k_is)
    (case a20 => k_is)
    (case l20 => k_is)
    (case c20 => k_is)
    (case k20 => k_is)
    (case a21 => k_is)
    (case l21 => k_is)
    (case c21 => k_is)
    (case k21 => k_is)
    (case a22 => k_is)
    (case l22 => k_is)
    (case c22 => k_is)
    (case k22 => k_is)
    (case a23 => k_is)
    (case l23 => k_is)
    (case c23 => k_is)
    (case k23 => k_is)
    (case a24 => k_is)
    (case l24 => k_is)
    (case c24 => k_is)
    (case k24 => k_is)
    (case a25 => k_is)
    (case l25 => k_is)
    (case c25 => k_is)
    (case k25 => k_is)
    (case a26 => k_is)
    (case l26 => k_is)
    (case c26 => k_is)
    (case k26 => k_is)
    (case a27 => k_is)
    (case l27 => k_is)
    (case c27 => k_is)
    (case k27 => k_is)
    (case a28 => k_is)
    (case l28 => k_is)
    (case c28 => k_is)
    (case k28 => k_is)
    (case a29 => k_is)
    (case l29 => k_is)
    (case c29 => k_is)
    (case k29 => k_is)
    (case a30 => k_is)
    (case l30 => k_is)
    (case c30 => k_is)
    (case k30 => k_is)
    (case a31 => k_is)
    (case l31 => k_is)
    (case c31 => k_is)
    (case k31 => k_is)
    (case a32 => k_is)
    (case l32 => k_is)
    (case c32 => k_is)
    (case k32 => k_is)
    (case a33 => k_is)
    (case l33 => k_is)
    (case c33 => k_is)
    (case k33 => k_is)
    (case z0 => k_is)
    (case z1 => k_is)
    (case z2 => k_is)
    (case z3 => k_is)
    (case z4 => k_is)
    (case z5 => k_is)
    (case z6 => k_is)
    (case y0 => k_is)
    (case y1 => k_is)
    (case xn_BookError => k_is)
    (case xn_NoKinds => k_is)
    (case xn_NoTree => k_is)
    (case xn_NoPlace => k_is)
    (case xn_NoBook => k_is)
    (case xn_NoText => k_is)
    (case xn_NotOne => k_is)
    (case xn_Great => k_is)
    (case xn_Many => k_is)
    (case xn_NoName => k_is)
    (case xe_NoPlace => k_exc)
    (case xg_NoPlace => k_is)
    (case xh_NoPlace => k_is)
    (case xc_NoPlace => k_is)
    (case xo_NoPlace => k_is)
    (case xb_NoPlace => k_is)
    (case hit_NoPlace_BookError => kts_exm)
    (case kit_NoPlace_NoPlace => kit_is)
    (case kit_NoPlace_ValueError => kit_is)
    (case kit_NoPlace_Great => kit_is)
    (case kit_NoPlace_Many => kit_is)
    (case kit_NoPlace_NoBook => kit_is)
    (case kit_NoPlace_NoKinds => kit_is)
    (case kit_NoPlace_NoName => kit_is)
    (case kit_NoPlace_NoText => kit_is)
    (case kit_NoPlace_NoTree => kit_is)
    (case kit_NoPlace_NotOne => kit_is)

