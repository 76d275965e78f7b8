import PyProof.Rows.All
import Wide.All
import OpenK.AllK
import Wide.FinOn
import Lean
import PyProof.EqAt
import PyProof.EqKinds
import PyProof.TupleCall
import KE.KRevIter
import PyProof.ListNew
import PyProof.Draws
import PyProof.EnumMake
import PyProof.Rows.EnumRows
import PyProof.ZipIter
import PyProof.ConsumeWalk
import KE.LcSums
import PyProof.AttrMissHeap
import KE.KDictOf
import PyProof.DictWalks
import PyProof.ListMulRoad
import PyProof.FactsAll.tuple
import PyProof.NeKinds
import KE.RegKTryMore
import KE.RegKIsAll
import PyProof.StrWalks
import PyProof.Rows.SetFrom
import PyProof.FString5
import Wide.Txt
import PyProof.Rows.SeqMore
import PyProof.StrOps2
import KE.KEqDict
import PyProof.CollectIter
import PyProof.JoinWalk
import PyProof.CallStr
import PyProof.DictRoadsH
import PyProof.MeetsDictList
import PyProof.DictTruth
import PyProof.StrLawsChain
import PyProof.StrCalls6
import PyProof.ToksMono
import PyProof.StrCalls2
import KE.KWords
import PyProof.MeetsStr2
import KE.KLam
import KE.KDictLaws
import PySem.Challenge.RW_boughbook_k41_beside_the_same_book
set_option Elab.async false
set_option linter.all false
set_option maxRecDepth 100000
namespace L2
open PySem PySem.Spec PyProof.Rows
abbrev Key:=Sum Int Str
def gj:Key->Value->Bool
 | .inl k,v=>Value.isInt k v
 | .inr x,v=>Value.isStrOf x v
def yj (w:World):Key->Int
 | .inl k=>hashInt k
 | .inr x=>hashStr w x
theorem aW:∀ {k:Key} {v:Value},gj k v=true->(∃ i t,k=Sum.inl i/\v=Value.int i t)∨(∃ x t,k=Sum.inr x/\v=Value.str x t)
 | .inl i,v,h=>by
   obtain ⟨t,e⟩:=Value.isInt_shape (k:=i) (v:=v) h;exact .inl ⟨i,t,rfl,e⟩
 | .inr x,v,h=>by
   obtain ⟨t,e⟩:=Value.isStrOf_shape (x:=x) (v:=v) h;exact .inr ⟨x,t,rfl,e⟩
theorem rE (i:Int) (t:Tok):gj (.inl i) (.int i t)=true:=by simp [gj,Value.isInt]
theorem rG (x:Str) (t:Tok):gj (.inr x) (.str x t)=true:=by simp [gj,Value.isStrOf]
theorem wz (a b:Int):decide ((Sum.inl a:Key)=Sum.inl b)=(a == b):=by
 by_cases e:a=b
 · subst e;simp
 · have h:¬ (Sum.inl a:Key)=Sum.inl b:=fun q=>e (Sum.inl.inj q);rw [decide_eq_false h];exact (beq_eq_false_iff_ne.mpr e).symm
theorem wB (a b:Str):decide ((Sum.inr a:Key)=Sum.inr b)=decide (a=b):=by
 by_cases e:a=b
 · subst e;simp
 · have h:¬ (Sum.inr a:Key)=Sum.inr b:=fun q=>e (Sum.inr.inj q);rw [decide_eq_false h,decide_eq_false e]
theorem wF (a:Int) (b:Str):decide ((Sum.inl a:Key)=Sum.inr b)=false:=decide_eq_false (fun q=>nomatch q)
theorem wH (a:Str) (b:Int):decide ((Sum.inr a:Key)=Sum.inl b)=false:=decide_eq_false (fun q=>nomatch q)
def az (prog:Program) (w:World):PySem.KeyKind prog w Key where
 is:=gj
 hash:=yj w
 inj:=fun v a b ha hb=>by
  rcases aW ha with ⟨i,t,rfl,rfl⟩ | ⟨x,t,rfl,rfl⟩
  · rcases aW hb with ⟨j,u,rfl,e⟩ | ⟨y,u,rfl,e⟩
    · injection e with e1 _;rw [e1]
    · exact nomatch e
  · rcases aW hb with ⟨j,u,rfl,e⟩ | ⟨y,u,rfl,e⟩
    · exact nomatch e
    · injection e with e1 _;rw [e1]
 byValue:=fun k v h=>by
  rcases aW h with ⟨i,t,rfl,rfl⟩ | ⟨x,t,rfl,rfl⟩ <;> rfl
 pyHash:=fun hv h=>by
  rcases aW hv with ⟨i,t,rfl,rfl⟩ | ⟨x,t,rfl,rfl⟩
  · exact wpAny_pyHash_int h
  · exact wpAny_pyHash_str h
 eqBool:=fun hu hv h=>by
  rcases aW hu with ⟨i,t,rfl,rfl⟩ | ⟨x,t,rfl,rfl⟩
  · rcases aW hv with ⟨j,u,rfl,rfl⟩ | ⟨y,u,rfl,rfl⟩
    · rw [wz] at h;exact wpAny_eqBool_int h
    · rw [wF] at h;exact SeqAt.EqAt.int_str i t y u _ _ _ _ h
  · rcases aW hv with ⟨j,u,rfl,rfl⟩ | ⟨y,u,rfl,rfl⟩
    · rw [wH] at h;exact SeqAt.EqAt.str_int x t j u _ _ _ _ h
    · rw [wB] at h;exact wpAny_eqBool_str h
 «strs»:=fun k x t v h=>by
  rcases aW h with ⟨i,u,rfl,e⟩ | ⟨y,u,rfl,e⟩
  · exact nomatch e
  · injection e with e1 _;subst e1;cases v <;> rfl
theorem og (prog:Program) (w:World) (i:Int) (t:Tok):(az prog w).is (.inl i) (.int i t)=true:=rE i t
theorem ox (prog:Program) (w:World) (x:Str) (t:Tok):(az prog w).is (.inr x) (.str x t)=true:=rG x t
end L2
namespace L2
open PySem PySem.Spec PyProof.Rows
inductive V where
 | non | bl (b:Bool) | int (i:Int) | str (x:Str) | byt (b:Array UInt8) | flt (b:UInt64) | ref (a:Addr) | ty (n:String)
 deriving DecidableEq
def RelV:V->Value->Prop
 | .non,u=>u=Value.none
 | .bl b,u=>u=Value.bool b
 | .int i,u=>∃ t,u=Value.int i t
 | .str x,u=>∃ t,u=Value.str x t
 | .byt b,u=>∃ t,u=Value.bytes b t
 | .flt b,u=>∃ t,u=Value.float b t
 | .ref a,u=>u=Value.ref a
 | .ty n,u=>u=Value.type n
abbrev Vals:List V->List Value->Prop:=Paired RelV
theorem Vals.length {xs:List V} {us:List Value} (r:Vals xs us):xs.length=us.length:=Paired.length r
theorem Vals.get:∀ {xs:List V} {us:List Value} {i:Nat} {x:V},Vals xs us->xs[i]?=some x->∃ u,us[i]?=some u/\RelV x u
 | _,_,_,_,.nil,e=>by simp at e
 | _,_,0,_,.cons r _,e=>by simp at e;subst e;exact ⟨_,rfl,r⟩
 | _,_,i+1,x,.cons _ t,e=>by
   obtain ⟨u,h1,h2⟩:=Vals.get (i:=i) (x:=x) t (by simpa using e);exact ⟨u,by simpa using h1,h2⟩
theorem Vals.set {x:V} {u:Value} (r:RelV x u):∀ {xs:List V} {us:List Value} (i:Nat),Vals xs us->Vals (xs.set i x) (us.set i u)
 | _,_,_,.nil=>.nil
 | _,_,0,.cons _ t=>.cons r t
 | _,_,i+1,.cons q t=>.cons q (Vals.set r i t)
theorem Vals.append:∀ {xs ys:List V} {us ws:List Value},Vals xs us->Vals ys ws->Vals (xs++ys) (us++ws)
 | _,_,_,_,.nil,s=>s
 | _,_,_,_,.cons r t,s=>.cons r (Vals.append t s)
theorem Vals.take:∀ {xs:List V} {us:List Value} (n:Nat),Vals xs us->Vals (xs.take n) (us.take n)
 | _,_,0,_=>.nil
 | _,_,_+1,.nil=>.nil
 | _,_,n+1,.cons r t=>.cons r (Vals.take n t)
theorem Vals.drop:∀ {xs:List V} {us:List Value} (n:Nat),Vals xs us->Vals (xs.drop n) (us.drop n)
 | _,_,0,r=>r
 | _,_,_+1,.nil=>.nil
 | _,_,n+1,.cons _ t=>Vals.drop n t
def RelO:Option V->Option Value->Prop
 | some v,some u=>RelV v u
 | none,none=>True
 | _,_=>False
def KV {κ:Type}:List (κ×V)->List (κ×Value)->Prop:=Paired fun (p:κ×V) (q:κ×Value)=>p.1=q.1/\RelV p.2 q.2
def kV:Key->V
 | .inl i=>.int i
 | .inr x=>.str x
inductive HO where
 /-- a list -/
 | lst (xs:List V)
 /-- a tuple (never changes) -/
 | tup (xs:List V)
 /-- a dict whose keys are ints and texts;one whose keys are tuples of ints and texts (the empty one is both) -/
 | dK (kvs:List (Key×V)) | dT (kvs:List (List Key×V))
 /-- a set of ints: its members,its size -/
 | set (S:Int->Bool) (n:Nat)
 /-- an instance of the class at C,its dict at dx,its attributes -/
 | ins (C dx:Addr) (fs:List (Str×V))
 /-- the dict of the instance at x -/
 | own (x:Addr)
 /-- the dict of an exception -/
 | xd (fs:List (Str×V))
 /-- a bound method,f of x -/
 | met (f x:Addr)
 /-- a range object lo,lo+1,.. below hi -/
 | rng (lo hi:Int)
 /-- a thing that is known to the object (the script;a dict while a loop walks it): read,never written while it is so -/
 | frz (o:Obj) (u:HO)
 /-- a code object's table -/
 | tbl (ps:Array Value)
 /-- any other thing,by what is true of its one object (a def of one's own: SetO a S n:=HO.ext fun h=>..) -/
 | ext (φ:Heap->Prop)
abbrev Hp:=Addr->Option HO
def upd (H:Hp) (a:Addr) (o:HO):Hp:=fun b=>if b=a then some o else H b
theorem ad {H:Hp} {a:Addr} {o:HO}:upd H a o a=some o:=by unfold upd;rw [if_pos rfl]
theorem ak {H:Hp} {a b:Addr} {o:HO} (h:b≠a):upd H a o b=H b:=by unfold upd;rw [if_neg h]
theorem ul {H:Hp} {a:Addr} {o u:HO}:upd (upd H a o) a u=upd H a u:=by
 funext b;unfold upd;split <;> rfl
theorem cK {H:Hp} {a b:Addr} {o u:HO} (h:H a=some o) (h':H b=some u) (d:o≠u):a≠b:=by
 intro e;subst e;rw [h] at h';exact d (Option.some.inj h')
theorem ao {H:Hp} {a b:Addr} {o:HO} (h:H a=some o) (h':H b=none):a≠b:=by
 intro e;subst e;rw [h] at h';cases h'
section
variable (P:Program) (w:World)
def ObjOk (H:Hp) (h:Heap) (a:Addr):HO->Prop
 | .lst xs=>xs.length<=sizeLine/\∃ (its:List Value) (n:Nat),Vals xs its/\h.get? a=some { cls:=.type "list",data:=.seq its.toArray n }
 | .tup xs=>xs.length<=sizeLine/\∃ (its:List Value) (n:Nat),Vals xs its/\h.get? a=some { cls:=.type "tuple",data:=.seq its.toArray n }
 | .dK kvs=>kvs.length<=sizeLine/\(a == sysModules)=false/\∃ vs,KV kvs vs/\h.DictOf (az P w) a vs
 | .dT kvs=>kvs.length<=sizeLine/\(a == sysModules)=false/\∃ xs:List (List Key×Addr×Value),
  Paired (fun (p:List Key×V) (q:List Key×Addr×Value)=>p.1=q.1/\H q.2.1=some (.tup (p.1.map kV))/\RelV p.2 q.2.2) kvs xs ∧
  ∃ o es ep,h.get? a=some o/\o.ExactDict/\o.data=.dict es ep/\es.toList=xs.map (entryOfKey (tupleKind (az P w)))/\(xs.map (·.1)).Nodup
 | .set S n=>h.SetOf (intKind P w) a S n
 | .ins C dx fs=>H dx=some (.own a)/\fs.length<=1000/\dx≠a/\h.get? a=some (PySem.W.instObj C dx) ∧
  ∃ mA,h.Ns1 dx mA/\(∀ f,RelO (fs.lookup f) (mA f))/\PySem.Within mA (fs.map (·.1))
 | .own _=>∃ o,h.get? a=some o
 | .xd fs=>∃ mA,h.Ns1 a mA/\∀ f,RelO (fs.lookup f) (mA f)
 | .rng lo hi=>∃ t u v,h.get? a=some { cls:=.type "range",data:=.fields #[.int lo t,.int hi u,.int 1 v] }
 | .frz o u=>h.get? a=some o/\ObjOk H h a u
 | .tbl ps=>h.get? a=some { cls:=.none,data:=.fields ps }
 | .met f x=>h.get? a=some (PySem.W.methodObj (.ref f) (.ref x))
 | .ext φ=>φ h/\(∃ o,h.get? a=some o)/\∀ h1 h2:Heap,φ h1->(∀ o,h1.get? a=some o->h2.get? a=some o)->φ h2
def HOk (H:Hp) (h:Heap):Prop:=∀ a o,H a=some o->ObjOk P w H h a o
end
section
variable {P:Program} {w:World} {H H':Hp} {h h':Heap} {a:Addr} {o:HO}
theorem ObjOk.lt (x:ObjOk P w H h a o):a<h.objs.size:=by
 cases o with
 | lst xs=>obtain ⟨_,_,_,_,e⟩:=x;exact Heap.lt_size e
 | tup xs=>obtain ⟨_,_,_,_,e⟩:=x;exact Heap.lt_size e
 | dK kvs=>obtain ⟨_,_,_,_,o,_,_,e,_⟩:=x;exact Heap.lt_size e
 | dT kvs=>obtain ⟨_,_,_,_,o,_,_,e,_⟩:=x;exact Heap.lt_size e
 | set S n=>obtain ⟨o,_,_,_,e,_⟩:=x;exact Heap.lt_size e
 | ins C dx fs=>obtain ⟨_,_,_,e,_⟩:=x;exact Heap.lt_size e
 | own y=>obtain ⟨_,e⟩:=x;exact Heap.lt_size e
 | xd fs=>obtain ⟨_,⟨_,_,_,e,_⟩,_⟩:=x;exact Heap.lt_size e
 | rng lo hi=>obtain ⟨_,_,_,e⟩:=x;exact Heap.lt_size e
 | frz ob u=>obtain ⟨e,_⟩:=x;exact Heap.lt_size e
 | tbl ps=>exact Heap.lt_size (show h.get? a=some _ from x)
 | met f y=>exact Heap.lt_size (show h.get? a=some _ from x)
 | ext φ=>obtain ⟨_,⟨_,e⟩,_⟩:=x;exact Heap.lt_size e
theorem Paired.mapP {α β:Type} {F G:α->β->Prop}:∀ {l₁:List α} {l₂:List β},Paired F l₁ l₂->(∀ a b,F a b->G a b)->Paired G l₁ l₂
 | _,_,.nil,_=>.nil
 | _,_,.cons r t,f=>.cons (f _ _ r) (Paired.mapP t f)
theorem ObjOk.stay (x:ObjOk P w H h a o) (k:∀ b u,(b=a∨H b=some (.own a))->h.get? b=some u->h'.get? b=some u)
 (ho:∀ b,H b=some (.own a)->H' b=some (.own a)) (ht:∀ b xs,H b=some (.tup xs)->H' b=some (.tup xs)):ObjOk P w H' h' a o:=by
 induction o with
 | lst xs=>obtain ⟨z,its,n,r,e⟩:=x;exact ⟨z,its,n,r,k _ _ (.inl rfl) e⟩
 | tup xs=>obtain ⟨z,its,n,r,e⟩:=x;exact ⟨z,its,n,r,k _ _ (.inl rfl) e⟩
 | dK kvs=>obtain ⟨z,y,vs,r,ob,es,ep,e,c⟩:=x;exact ⟨z,y,vs,r,ob,es,ep,k _ _ (.inl rfl) e,c⟩
 | dT kvs =>
   obtain ⟨z,y,xs,r,ob,es,ep,e,c⟩:=x;exact ⟨z,y,xs,Paired.mapP r fun p q z=>⟨z.1,ht _ _ z.2.1,z.2.2⟩,ob,es,ep,k _ _ (.inl rfl) e,c⟩
 | set S n=>obtain ⟨ob,es,ep,t,e,c⟩:=x;exact ⟨ob,es,ep,t,k _ _ (.inl rfl) e,c⟩
 | ins C dx fs =>
   obtain ⟨d,z,ne,e,mA,⟨od,es,ep,e2,c⟩,r⟩:=x;exact ⟨ho _ d,z,ne,k _ _ (.inl rfl) e,mA,⟨od,es,ep,k _ _ (.inr d) e2,c⟩,r⟩
 | own y=>obtain ⟨ob,e⟩:=x;exact ⟨ob,k _ _ (.inl rfl) e⟩
 | xd fs=>obtain ⟨mA,⟨od,es,ep,e,c⟩,r⟩:=x;exact ⟨mA,⟨od,es,ep,k _ _ (.inl rfl) e,c⟩,r⟩
 | rng lo hi=>obtain ⟨t,u,v,e⟩:=x;exact ⟨t,u,v,k _ _ (.inl rfl) e⟩
 | frz ob u ih=>obtain ⟨e,q⟩:=x;exact ⟨k _ _ (.inl rfl) e,ih q⟩
 | tbl ps =>
   have e:h.get? a=some { cls:=.none,data:=.fields ps }:=x;show h'.get? a=some { cls:=.none,data:=.fields ps };exact k a _ (.inl rfl) e
 | met f y =>
   have e:h.get? a=some (PySem.W.methodObj (.ref f) (.ref y)):=x;show h'.get? a=some (PySem.W.methodObj (.ref f) (.ref y));exact k a _ (.inl rfl) e
 | ext φ=>obtain ⟨p,⟨o,e⟩,st⟩:=x;exact ⟨st _ _ p fun o q=>k _ _ (.inl rfl) q,⟨o,k _ _ (.inl rfl) e⟩,st⟩
theorem HOk.lt (x:HOk P w H h) (e:H a=some o):a<h.objs.size:=(x a o e).lt
theorem HOk.fresh (x:HOk P w H h) (e:h.objs.size<=a):H a=none:=by
 cases q:H a with
 | none=>rfl
 | some u=>exact absurd (Nat.lt_of_lt_of_le (x.lt q) e) (Nat.lt_irrefl _)
theorem HOk.kept (x:HOk P w H h) (k:∀ b u,h.get? b=some u->h'.get? b=some u):HOk P w H h':=fun a o e =>
 (x a o e).stay (fun b u _ q=>k b u q) (fun _ q=>q) fun _ _ q=>q
theorem HOk.laid (x:HOk P w H h) (k:∀ b u,h.get? b=some u->h'.get? b=some u) (hp:h.objs.size<=a) (new:ObjOk P w (upd H a o) h' a o):HOk P w (upd H a o) h':=fun b u e=>by
 have hn:=x.fresh hp;by_cases hb:b=a
 · subst hb;rw [ad] at e;cases e;exact new
 · rw [ak hb] at e;exact (x b u e).stay (fun c v _ q=>k c v q) (fun c q=>by rw [ak (ao q hn)];exact q) fun c xs q=>by rw [ak (ao q hn)];exact q
end
def Rd (H:Hp) (a:Addr) (u:HO):Prop:=H a=some u∨∃ o,H a=some (.frz o u)
theorem Rd.ok {P:Program} {w:World} {H:Hp} {h:Heap} {a:Addr} {u:HO} (r:Rd H a u) (x:HOk P w H h):ObjOk P w H h a u:=by
 rcases r with r | ⟨o,r⟩
 · exact x a u r
 · obtain ⟨_,q⟩:=x a _ r;exact q
def Mut:Option HO->Prop
 | some (.lst _)=>True
 | some (.dK _)=>True
 | some (.dT _)=>True
 | some (.set _ _)=>True
 | some (.ins _ _ _)=>True
 | some (.ext _)=>True
 | _=>False
section
variable {P:Program} {w:World} {H:Hp} {h h':Heap} {x e:Addr} {o':HO}
theorem HOk.write (ok:HOk P w H h) (mu:Mut (H x)) (he:e=x∨H e=some (.own x)) (k:∀ b u,b≠e->h.get? b=some u->h'.get? b=some u) (heo:∃ u,h'.get? e=some u)
 (new:ObjOk P w (upd H x o') h' x o'):HOk P w (upd H x o') h':=fun b u q=>by
 have nown:∀ c y,H c=some (.own y)->c≠x:=fun c y r z=>by subst z;rw [r] at mu;exact mu
 have ntup:∀ c xs,H c=some (.tup xs)->c≠x:=fun c xs r z=>by subst z;rw [r] at mu;exact mu
 by_cases hb:b=x
 · subst hb;rw [ad] at q;cases q;exact new
 · rw [ak hb] at q;by_cases hbe:b=e
   · have q':H b=some (.own x):=by
      rcases he with z | z
      · exact absurd (hbe.trans z) hb
      · rw [hbe];exact z
     rw [q] at q';cases q';obtain ⟨v,hv⟩:=heo;exact ⟨v,by rw [hbe];exact hv⟩
   · refine (ok b u q).stay (fun c v hc r=>k c v ?_ r) (fun c r=>by rw [ak (nown c b r)];exact r) fun c xs r=>by rw [ak (ntup c xs r)];exact r
     rcases hc with rfl | hc
     · exact hbe
     · rintro rfl;rcases he with z | z
       · exact nown c b hc z
       · rw [hc] at z;cases z;exact hb rfl
end
structure Un (fs ex:List Addr) (H H':Hp) (h h':Heap):Prop where
 keep:∀ b o,h.get? b=some o->H b=none->b∉fs->b∉ex->h'.get? b=some o
 slot:∀ b o,h.get? b=some o->H b=none->b∈fs->b∉ex->∃ sl,h'.get? b=some { o with slots:=sl }
 free:∀ b o,h.get? b=some o->H b=none->b∉ex->H' b=none
 there:∀ b o,h.get? b=some o->b∉ex->∃ o',h'.get? b=some o'
 tups:∀ b xs,H b=some (.tup xs)->H' b=some (.tup xs)
 frzs:∀ b o u,H b=some (.frz o u)->H' b=some (.frz o u)
 tbls:∀ b ps,H b=some (.tbl ps)->∃ more,H' b=some (.tbl (ps++more))
section
variable {fs fs' ex ex':List Addr} {H H1 H2:Hp} {h h1 h2 h':Heap} {a x e:Addr} {o:HO}
theorem Un.any (u:Un fs ex H H1 h h1) {b:Addr} {ob:Obj} (q:h.get? b=some ob) (n:H b=none) (hx:b∉ex):∃ sl,h1.get? b=some { ob with slots:=sl }:=by
 by_cases hb:b∈fs
 · exact u.slot b ob q n hb hx
 · exact ⟨ob.slots,u.keep b ob q n hb hx⟩
theorem Un.kept (k:∀ b u,h.get? b=some u->h'.get? b=some u):Un fs ex H H h h' :=
 ⟨fun b ob q _ _ _=>k b ob q,fun b ob q _ _ _=>⟨ob.slots,k b ob q⟩,fun _ _ _ n _=>n,fun b ob q _=>⟨ob,k b ob q⟩,fun _ _ q=>q,fun _ _ _ q=>q,fun _ ps q=>⟨#[],by rw [q];simp⟩⟩
theorem Un.refl:Un fs ex H H h h:=Un.kept fun _ _ q=>q
theorem Un.laid (k:∀ b u,h.get? b=some u->h'.get? b=some u) (hp:h.objs.size<=a) (hn:H a=none):Un fs ex H (upd H a o) h h' where
 keep:=fun b u q _ _ _=>k b u q
 slot:=fun b u q _ _ _=>⟨u.slots,k b u q⟩
 free:=fun b u q n _=>by rw [ak (Nat.ne_of_lt (Nat.lt_of_lt_of_le (Heap.lt_size q) hp))];exact n
 there:=fun b u q _=>⟨u,k b u q⟩
 tups:=fun b xs q=>by rw [ak (ao q hn)];exact q
 frzs:=fun b u xs q=>by rw [ak (ao q hn)];exact q
 tbls:=fun b ps q=>⟨#[],by rw [ak (ao q hn),q];simp⟩
theorem Un.write (mu:Mut (H x)) (he:e=x∨H e=some (.own x)) (k:∀ b u,b≠e->h.get? b=some u->h'.get? b=some u) (heo:∃ u,h'.get? e=some u):Un fs ex H (upd H x o) h h':=by
 have hx:∀ b,H b=none->b≠x:=fun b n z=>by subst z;rw [n] at mu;exact mu
 have hb:∀ b,H b=none->b≠e:=fun b n z=>by
  subst z;rcases he with r | r
  · exact hx b n r
  · rw [n] at r;cases r
 have hm:∀ b u,H b=some u->¬ Mut (some u)->b≠x:=fun b u q nm z=>by subst z;rw [q] at mu;exact nm mu
 refine ⟨fun b u q n _ _=>k b u (hb b n) q,fun b u q n _ _=>⟨u.slots,k b u (hb b n) q⟩,fun b u q n _=>by rw [ak (hx b n)];exact n,fun b u q _=>?_,
  fun b xs q=>by rw [ak (hm b _ q fun z=>z)];exact q,fun b u xs q=>by rw [ak (hm b _ q fun z=>z)];exact q,fun b ps q=>⟨#[],by rw [ak (hm b _ q fun z=>z),q];simp⟩⟩
 by_cases hbe:b=e
 · subst hbe;exact heo
 · exact ⟨u,k b u hbe q⟩
end
def trk (h:Heap) (H:Hp):List Addr:=(List.range h.objs.size).filter fun a=>(H a).isSome
def lH (h:Heap) (H:Hp):Heap:=PySem.W.hideAll h (trk h H)
theorem rm (h:Heap) (H:Hp):(lH h H).objs.size=h.objs.size:=PySem.W.hideAll_size _ _
theorem tW {h:Heap} {H:Hp} {b:Addr} {o:Obj} (e:h.get? b=some o) (n:H b=none):(lH h H).get? b=some o :=
 PySem.W.hideAll_get _ e fun hm=>by
  have q:(H b).isSome=true:=(List.mem_filter.mp hm).2;rw [n] at q;simp at q
theorem uy {h:Heap} {H:Hp} {b:Addr} {o:Obj} (e:(lH h H).get? b=some o):h.get? b=some o/\H b=none:=by
 have e':h.get? b=some o:=PySem.W.of_hideAll (trk h H) e;refine ⟨e',?_⟩;cases q:H b with
 | none=>rfl
 | some x =>
   have hm:b∈trk h H:=List.mem_filter.mpr ⟨List.mem_range.mpr (Heap.lt_size e'),by simp [q]⟩;have z:(lH h H).get? b=none:=PySem.W.hideAll_none (trk h H) hm;rw [z] at e;cases e
end L2
namespace L2
open PySem PySem.Spec PyProof.Rows
structure Mod (K:PySem.W.Frag) (mg:Str->Option Value) (base:Heap):Prop where
 kin:K.In base
 glob:base.Ns mainGlobals mg
 blt:∃ mb,base.Ns builtinsNs mb/\∀ x:Str,x≠"__name__"->mb x=bootBuiltins x
 nolimit:base.NoLimit
structure Cx where
 prog:Program
 w:World
 K:PySem.W.Frag
 mg:Str->Option Value
 base:Heap
 A:Around
 N:List Str
 s₀:Shared
 H₀:Hp
 env:Env
 outer:List Env
 stack:List Env
 ex:List Addr
 fn:Str->Bool
 calm:Bool
 pn:List (Addr×Obj)
 xe:Value->Shared->Prop
def frs (l:List Env):List Addr:=l.filterMap (·.frame)
abbrev Cx.fs (X:Cx):List Addr:=frs X.outer
def Vis (sc:Scope) (x:Str):Prop:=sc.names.lookup x=some .local∨sc.names.lookup x=some .cell∨sc.names.lookup x=some .free
def Loc (sc:Scope) (x:Str):Prop:=sc.names.lookup x=some .local∨sc.names.lookup x=some .cell
def Look (env:Env) (h:Heap) (m:Str->Option Value) (x:Str) (u:Value):Prop :=
 (env.kindOf x=some .local/\m x=some u)∨((env.kindOf x=some .cell∨env.kindOf x=some .free)/\∃ c,env.cells.lookup x=some c/\h.IsCell c (some u))
structure Cx.Ok (X:Cx):Prop where
 mod:Mod X.K X.mg X.base
 kind:X.env.scope.kind=.function
 glob:X.env.globals=mainGlobals
 blt:X.env.builtins=builtinsNs
 above:X.s₀.heap.objs.size<=X.env.locals
 inj:∀ x y c,X.env.cells.lookup x=some c->X.env.cells.lookup y=some c->x=y
 has:∀ x,(X.env.kindOf x=some .cell∨X.env.kindOf x=some .free)->∃ c,X.env.cells.lookup x=some c
 cab:∀ x c,X.fn x=true->X.env.cells.lookup x=some c->X.s₀.heap.objs.size<=c
 hd:X.calm=true->X.A.handled=none
 frames:X.A.frames=some X.stack
 stk:X.stack=X.outer∨(X.stack=X.env::X.outer/\X.env.frame=some X.env.locals)
 exf:∀ b∈X.ex,b≠X.env.locals/\∀ x c,X.env.cells.lookup x=some c->c≠b
 bs:∀ b o,X.base.get? b=some o->X.s₀.heap.get? b=some o/\X.H₀ b=none
 bsz:X.base.objs.size<=X.s₀.heap.objs.size
 noex:∀ b o,X.base.get? b=some o->b∉X.ex
 exfs:∀ b∈X.ex,b∉X.fs
 funs:X.s₀.heap.FunFrames X.base X.outer
 frf:∀ b∈X.fs,X.H₀ b=none
structure Inv (X:Cx) (pins:List (Addr×Obj)) (σ:List (Option V)) (H:Hp) (s:Shared):Prop where
 ok:X.Ok
 os:s.os=X.s₀.os
 bare:AllBare s.gens
 base:Un X.fs X.ex X.H₀ H X.s₀.heap s.heap
 loc:∃ m,s.heap.Ns X.env.locals m/\∀ (i:Nat) (x:Str) (v:V),X.N[i]?=some x->σ[i]?=some (some v)->Vis X.env.scope x->∃ u,RelV v u/\Look X.env s.heap m x u
 cell:∀ x c,X.env.cells.lookup x=some c->∃ v,s.heap.IsCell c v
 free:H X.env.locals=none
 freeC:∀ x c,X.env.cells.lookup x=some c->H c=none
 pin:∀ p∈X.pn++pins,s.heap.get? p.1=some p.2/\H p.1=none/\p.1≠X.env.locals/\p.1∉X.fs/\∀ v,p.2.data≠.cell v
 hok:HOk X.prog X.w H s.heap
 len:σ.length=X.N.length
section
variable {X:Cx} {pins:List (Addr×Obj)} {σ:List (Option V)} {H H':Hp} {s:Shared} {h':Heap}
theorem Cx.Ok.nofr (ok:X.Ok) {b:Addr} {o:Obj} (e:X.base.get? b=some o):b∉X.fs:=fun hb=>by
 have:=(ok.funs.mem hb).1;rw [e] at this;cases this
theorem Inv.bs (I:Inv X pins σ H s):∀ b o,X.base.get? b=some o->s.heap.get? b=some o/\H b=none:=fun b o e =>
 ⟨I.base.keep b o (I.ok.bs b o e).1 (I.ok.bs b o e).2 (I.ok.nofr e) (I.ok.noex b o e),I.base.free b o (I.ok.bs b o e).1 (I.ok.bs b o e).2 (I.ok.noex b o e)⟩
theorem Inv.bk (I:Inv X pins σ H s):∀ b o,X.base.get? b=some o->s.heap.get? b=some o:=fun b o e=>(I.bs b o e).1
theorem Inv.mod (I:Inv X pins σ H s):Mod X.K X.mg X.base:=I.ok.mod
theorem Inv.kIn (I:Inv X pins σ H s):X.K.In s.heap:=I.ok.mod.kin.keeps I.bk
theorem Inv.lt (I:Inv X pins σ H s):X.env.locals<s.heap.objs.size:=let ⟨_,hn,_⟩:=I.loc;hn.lt
theorem Inv.sz (I:Inv X pins σ H s):X.s₀.heap.objs.size<=s.heap.objs.size:=Nat.le_trans I.ok.above (Nat.le_of_lt I.lt)
theorem Inv.nofs (I:Inv X pins σ H s) {a:Addr} (h:s.heap.objs.size<=a):a∉X.fs:=fun hb=>by
 obtain ⟨_,o,ho,_⟩:=I.ok.funs.mem hb;exact absurd (Nat.lt_of_lt_of_le (Heap.lt_size ho) (Nat.le_trans I.sz h)) (Nat.lt_irrefl _)
theorem Inv.cne (I:Inv X pins σ H s):∀ x c,X.env.cells.lookup x=some c->c≠X.env.locals:=fun x c e z=>by
 obtain ⟨v,o,ho,hd⟩:=I.cell x c e;obtain ⟨m,⟨o',es,ep,ho',hd',_⟩,_⟩:=I.loc;rw [z,ho'] at ho;cases ho;rw [hd'] at hd;cases hd
theorem Inv.funs (I:Inv X pins σ H s):s.heap.FunFrames X.base X.outer:=by
 have all:∀ (l:List Env),(∀ b∈frs l,b∈X.fs)->X.s₀.heap.FunFrames X.base l->s.heap.FunFrames X.base l:=by
  intro l;induction l with
  | nil=>intro _ _;trivial
  | cons env r ih =>
    intro hs hl;obtain ⟨hk,⟨L,o,hf,hn,ho,hd⟩,hr⟩:=hl;have hL:L∈X.fs:=hs L (by unfold frs;rw [List.filterMap_cons,hf];exact List.mem_cons_self);obtain ⟨sl,e⟩:=I.base.slot L o ho (I.ok.frf L hL) hL fun z=>I.ok.exfs L z hL;exact ⟨hk,⟨L,_,hf,hn,e,hd⟩,ih (fun b hb=>hs b (by unfold frs;rw [List.filterMap_cons,hf];exact List.mem_cons_of_mem _ hb)) hr⟩
 exact all X.outer (fun _ hb=>hb) I.ok.funs
theorem Inv.stack (I:Inv X pins σ H s):s.heap.FunFrames X.base X.stack:=by
 rcases I.ok.stk with e | ⟨e,hf⟩
 · rw [e];exact I.funs
 · rw [e];obtain ⟨m,hn,_⟩:=I.loc;refine .cons (by rw [I.ok.kind];decide) hf hn ?_ I.funs;exact Heap.get?_none_of_le (Nat.le_trans I.ok.bsz I.ok.above)
theorem Inv.stkSub (I:Inv X pins σ H s):∀ b∈frs X.stack,b∈X.env.locals::X.fs:=fun b hb=>by
 rcases I.ok.stk with e | ⟨e,hf⟩
 · rw [e] at hb;exact List.mem_cons_of_mem _ hb
 · rw [e] at hb;unfold frs at hb;rw [List.filterMap_cons,hf] at hb;exact hb
theorem Inv.stkFree (I:Inv X pins σ H s):∀ b∈frs X.stack,H b=none:=fun b hb=>by
 rcases List.mem_cons.mp (I.stkSub b hb) with e | hb
 · rw [e];exact I.free
 · obtain ⟨_,o,ho,_⟩:=I.ok.funs.mem hb;exact I.base.free b o ho (I.ok.frf b hb) fun z=>I.ok.exfs b z hb
theorem Inv.step {g':Array GenState} {t':Nat} {d':Drawn} {ch:List Addr} (I:Inv X pins σ H s)
 (hch:∀ b∈ch,(b∈X.ex∨X.s₀.heap.objs.size<=b)/\b≠X.env.locals/\(∀ x c,X.env.cells.lookup x=some c->c≠b)/\∀ p∈X.pn++pins,p.1≠b)
 (keep:∀ b o,b≠X.env.locals->b∉X.fs->b∉ch->s.heap.get? b=some o->H b=none->h'.get? b=some o)
 (slot:∀ b o,b≠X.env.locals->b∈X.fs->b∉ch->s.heap.get? b=some o->H b=none->∃ sl,h'.get? b=some { o with slots:=sl }) (free:∀ b o,b∉ch->s.heap.get? b=some o->H b=none->H' b=none)
 (there:∀ b o,b∉ch->s.heap.get? b=some o->∃ o',h'.get? b=some o')
 (tups:∀ b xs,H b=some (.tup xs)->H' b=some (.tup xs)) (frzs:∀ b o u,H b=some (.frz o u)->H' b=some (.frz o u)) (tbls:∀ b ps,H b=some (.tbl ps)->∃ more,H' b=some (.tbl (ps++more)))
 (ns:∀ m,s.heap.Ns X.env.locals m->h'.Ns X.env.locals m) (hok:HOk X.prog X.w H' h') (hg:AllBare g') :
 Inv X pins σ H' { s with heap:=h',gens:=g',drawn:=d',toks:=t' }:=by
 have neL:∀ b o,X.s₀.heap.get? b=some o->b≠X.env.locals:=fun b o e=>Nat.ne_of_lt (Nat.lt_of_lt_of_le (Heap.lt_size e) I.ok.above)
 have neC:∀ b o,X.s₀.heap.get? b=some o->b∉X.ex->b∉ch:=fun b o e hx hb=>by
  rcases (hch b hb).1 with z | z
  · exact hx z
  · exact absurd (Nat.lt_of_lt_of_le (Heap.lt_size e) z) (Nat.lt_irrefl _)
 have cellK:∀ x c,X.env.cells.lookup x=some c->∀ v,s.heap.IsCell c v->h'.IsCell c v:=fun x c e v ⟨o,ho,hd⟩=>by
  have nch:c∉ch:=fun z=>(hch c z).2.2.1 x c e rfl;by_cases hc:c∈X.fs
  · obtain ⟨sl,q⟩:=slot c o (I.cne x c e) hc nch ho (I.freeC x c e);exact ⟨_,q,hd⟩
  · exact ⟨o,keep c o (I.cne x c e) hc nch ho (I.freeC x c e),hd⟩
 refine ⟨I.ok,I.os,hg,⟨fun b o e n hb hx=>?_,fun b o e n hb hx=>?_,fun b o e n hx=>?_,fun b o e hx=>?_,fun b xs e=>tups b xs (I.base.tups b xs e),fun b o xs e=>frzs b o xs (I.base.frzs b o xs e),fun b ps e=>?_⟩,?_,fun x c e=>?_,?_,fun x c e=>?_,fun p hp=>?_,hok,I.len⟩
 · exact keep b o (neL b o e) hb (neC b o e hx) (I.base.keep b o e n hb hx) (I.base.free b o e n hx)
 · obtain ⟨sl,e1⟩:=I.base.slot b o e n hb hx;obtain ⟨sl',e2⟩:=slot b _ (neL b o e) hb (neC b o e hx) e1 (I.base.free b o e n hx);exact ⟨sl',e2⟩
 · obtain ⟨o',e1⟩:=I.base.there b o e hx;exact free b o' (neC b o e hx) e1 (I.base.free b o e n hx)
 · obtain ⟨o',e1⟩:=I.base.there b o e hx;exact there b o' (neC b o e hx) e1
 · obtain ⟨m1,e1⟩:=I.base.tbls b ps e;obtain ⟨m2,e2⟩:=tbls b _ e1;exact ⟨m1++m2,by rw [e2,Array.append_assoc]⟩
 · obtain ⟨m,hn,hl⟩:=I.loc;refine ⟨m,ns m hn,fun i x v e1 e2 e3=>?_⟩;obtain ⟨u,r,l⟩:=hl i x v e1 e2 e3;refine ⟨u,r,?_⟩;rcases l with l | ⟨k,c,e,z⟩
   · exact .inl l
   · exact .inr ⟨k,c,e,cellK x c e _ z⟩
 · obtain ⟨v,z⟩:=I.cell x c e;exact ⟨v,cellK x c e v z⟩
 · obtain ⟨m,⟨o,_,_,ho,_⟩,_⟩:=I.loc;exact free _ o (fun z=>(hch _ z).2.1 rfl) ho I.free
 · obtain ⟨v,o,ho,hd⟩:=I.cell x c e;exact free c o (fun z=>(hch c z).2.2.1 x c e rfl) ho (I.freeC x c e)
 · obtain ⟨e,n,ne,nf,d⟩:=I.pin p hp;have nch:p.1∉ch:=fun z=>(hch p.1 z).2.2.2 p hp rfl;exact ⟨keep p.1 p.2 ne nf nch e n,free p.1 p.2 nch e n,ne,nf,d⟩
theorem Inv.un {t':Nat} (I:Inv X pins σ H s) (u:Un X.fs [] H H' s.heap h') (hok:HOk X.prog X.w H' h'):Inv X pins σ H' { s with heap:=h',toks:=t' }:=by
 obtain ⟨m,⟨o,es,ep,ho,r⟩,_⟩:=id I.loc;obtain ⟨sl,hL⟩:=u.any ho I.free (by simp)
 exact I.step (g':=s.gens) (d':=s.drawn) (ch:=[]) (fun _ z=>nomatch z) (fun b o _ hb _ e n=>u.keep b o e n hb (by simp)) (fun b o _ hb _ e n=>u.slot b o e n hb (by simp)) (fun b o _ e n=>u.free b o e n (by simp)) (fun b o _ e=>u.there b o e (by simp)) u.tups u.frzs u.tbls (fun m' hm=>by
  obtain ⟨o',es',ep',ho',r'⟩:=hm;rw [ho] at ho';cases ho';exact ⟨_,es',ep',hL,r'⟩) hok I.bare
theorem Inv.call {g':Array GenState} {t':Nat} {d':Drawn} {ch:List Addr} (I:Inv X pins σ H s) (u:Un (frs X.stack) ch H H' s.heap h') (hok:HOk X.prog X.w H' h') (hg:AllBare g')
 (hch:∀ b∈ch,(b∈X.ex∨X.s₀.heap.objs.size<=b)/\b≠X.env.locals/\(∀ x c,X.env.cells.lookup x=some c->c≠b)/\∀ p∈X.pn++pins,p.1≠b) :
 Inv X pins σ H' { s with heap:=h',gens:=g',drawn:=d',toks:=t' }:=by
 obtain ⟨m,⟨o,es,ep,ho,r⟩,_⟩:=id I.loc;obtain ⟨sl,hL⟩:=u.any ho I.free fun z=>(hch _ z).2.1 rfl
 exact I.step (ch:=ch) hch (fun b o hL hb hc e n=>u.keep b o e n (fun z=>(List.mem_cons.mp (I.stkSub b z)).elim hL hb) hc) (fun b o _ _ hc e n=>u.any e n hc) (fun b o hc e n=>u.free b o e n hc) (fun b o hc e=>u.there b o e hc) u.tups u.frzs u.tbls (fun m' hm=>by
  obtain ⟨o',es',ep',ho',r'⟩:=hm;rw [ho] at ho';cases ho';exact ⟨_,es',ep',hL,r'⟩) hok hg
theorem Inv.turned {t':Nat} {it:Addr} (I:Inv X pins σ H s) (k:∀ b o,b≠it->s.heap.get? b=some o->h'.get? b=some o) (hn:H it=none) (hL:it≠X.env.locals)
 (h1:it∈X.ex∨X.s₀.heap.objs.size<=it) (h2:∀ x c,X.env.cells.lookup x=some c->c≠it) (h3:∀ p∈X.pn++pins,p.1≠it):Inv X pins σ H { s with heap:=h',toks:=t' }:=by
 have nit:∀ b u,H b=some u->b≠it:=fun b u e z=>by rw [z,hn] at e;cases e
 refine I.step (g':=s.gens) (d':=s.drawn) (ch:=[it]) (fun b hb=>?_) (fun b o _ _ hc e _=>k b o (fun z=>hc (by simp [z])) e) (fun b o _ _ hc e _=>⟨o.slots,k b o (fun z=>hc (by simp [z])) e⟩) (fun _ _ _ _ n=>n)
  (fun b o hc e=>⟨o,k b o (fun z=>hc (by simp [z])) e⟩) (fun _ _ e=>e) (fun _ _ _ e=>e) (fun b ps e=>⟨#[],by rw [e];simp⟩) (fun m hm=>?_) (fun b u e=>?_) I.bare
 · have e:b=it:=by simpa using hb
   subst e;exact ⟨h1,hL,h2,h3⟩
 · obtain ⟨o,es,ep,ho,r⟩:=hm;exact ⟨o,es,ep,k _ o (Ne.symm hL) ho,r⟩
 · refine (I.hok b u e).stay (fun c v hc q=>k c v ?_ q) (fun _ q=>q) fun _ _ q=>q;rcases hc with z | z
   · rw [z];exact nit b u e
   · exact nit c _ z
theorem Inv.tok (I:Inv X pins σ H s) (t:Nat):Inv X pins σ H { s with toks:=t }:=I.un (h':=s.heap) (t':=t) Un.refl I.hok
theorem Inv.kept {t':Nat} (I:Inv X pins σ H s) (k:∀ b u,s.heap.get? b=some u->h'.get? b=some u):Inv X pins σ H { s with heap:=h',toks:=t' }:=I.un (Un.kept k) (I.hok.kept k)
theorem Inv.laid {a:Addr} {o:HO} {t':Nat} (I:Inv X pins σ H s) (k:∀ b u,s.heap.get? b=some u->h'.get? b=some u) (hp:s.heap.objs.size<=a) (new:ObjOk X.prog X.w (upd H a o) h' a o) :
 Inv X pins σ (upd H a o) { s with heap:=h',toks:=t' }:=I.un (Un.laid k hp (I.hok.fresh hp)) (I.hok.laid k hp new)
theorem Inv.write {x e:Addr} {o:HO} {t':Nat} (I:Inv X pins σ H s) (mu:Mut (H x)) (he:e=x∨H e=some (.own x)) (k:∀ b u,b≠e->s.heap.get? b=some u->h'.get? b=some u) (heo:∃ u,h'.get? e=some u)
 (new:ObjOk X.prog X.w (upd H x o) h' x o):Inv X pins σ (upd H x o) { s with heap:=h',toks:=t' }:=I.un (Un.write mu he k heo) (I.hok.write mu he k heo new)
theorem Inv.weak {σ':List (Option V)} (I:Inv X pins σ H s) (hl:σ'.length=σ.length) (w:∀ (i:Nat) v,σ'[i]?=some (some v)->σ[i]?=some (some v)):Inv X pins σ' H s :=
 ⟨I.ok,I.os,I.bare,I.base,let ⟨m,hn,hl'⟩:=I.loc;⟨m,hn,fun i x v e1 e2 e3=>hl' i x v e1 (w i v e2) e3⟩,I.cell,I.free,I.freeC,I.pin,I.hok,hl.trans I.len⟩
theorem Inv.pins_of {pins':List (Addr×Obj)} (I:Inv X pins σ H s) (h:∀ p∈pins',s.heap.get? p.1=some p.2/\H p.1=none/\p.1≠X.env.locals/\p.1∉X.fs/\∀ v,p.2.data≠.cell v):Inv X pins' σ H s :=
 ⟨I.ok,I.os,I.bare,I.base,I.loc,I.cell,I.free,I.freeC,fun p hp=>(List.mem_append.mp hp).elim (fun z=>I.pin p (List.mem_append_left _ z)) (h p),I.hok,I.len⟩
theorem oU {N:List Str} (hN:N.Nodup) {i j:Nat} {x:Str} (a:N[i]?=some x) (b:N[j]?=some x):i=j:=by
 obtain ⟨h1,e1⟩:=List.getElem?_eq_some_iff.mp a;obtain ⟨h2,e2⟩:=List.getElem?_eq_some_iff.mp b;exact (List.getElem_inj hN).mp (e1.trans e2.symm)
theorem lS {M:Model} {A:Around} {E:Value->Shared->Prop} {i:Nat} {x:Str} {v:V} {u:Value} {Q:Unit->Shared->Prop} (I:Inv X pins σ H s) (hN:X.N.Nodup) (hi:X.N[i]?=some x) (hx:Loc X.env.scope x) (r:RelV v u)
 (h:∀ s',Inv X pins (σ.set i (some v)) H s'->(∃ a,Heap.SameBut a s.heap s'.heap/\(a=X.env.locals∨X.env.cells.lookup x=some a))->Q () s') (hf:X.fn x=true∨X.env.scope.names.lookup x=some .local:=by first | exact .inl rfl | exact .inr rfl | assumption):wpAny M A (storeName X.env x u) Q E s:=by
 obtain ⟨m,hn,hl⟩:=id I.loc;have hcls:(X.env.scope.kind == .class || (X.env.scope.kind == .module && X.env.locals != X.env.globals))=false:=by rw [I.ok.kind];rfl
 have hiσ:i<σ.length:=by rw [I.len];exact (List.getElem?_eq_some_iff.mp hi).1
 have cne:=I.cne
 have tracked:∀ {a:Addr} {h':Heap},(∃ o,s.heap.get? a=some o/\H a=none)->Heap.SameBut a s.heap h'->HOk X.prog X.w H h':=fun {a h'} ha hs b ob e=>by
  obtain ⟨_,_,hfree⟩:=ha;refine (I.hok b ob e).stay (fun c w' hc q=>(hs.2 c ?_).trans q) (fun _ q=>q) fun _ _ q=>q;rintro rfl;rcases hc with rfl | hc
  · rw [hfree] at e;cases e
  · rw [hfree] at hc;cases hc
 rcases hx with hk | hk
 · refine wpAny_storeName_local hk hn (fun h' hn' hs=>?_) hcls;obtain ⟨oL,_,_,hoL,_⟩:=id hn;refine h _ ⟨I.ok,I.os,I.bare,⟨fun b o e n hb hx=>?_,fun b o e n hb hx=>?_,I.base.free,fun b o e hx=>?_,I.base.tups,I.base.frzs,I.base.tbls⟩,⟨_,hn',fun j y v' e1 e2 e3=>?_⟩,fun y c e=>?_,I.free,I.freeC,fun p hp=>?_,tracked ⟨oL,hoL,I.free⟩ hs,by simpa using I.len⟩ ⟨_,hs,.inl rfl⟩
   · exact (hs.2 b (Nat.ne_of_lt (Nat.lt_of_lt_of_le (Heap.lt_size e) I.ok.above))).trans (I.base.keep b o e n hb hx)
   · obtain ⟨sl,e1⟩:=I.base.slot b o e n hb hx;exact ⟨sl,(hs.2 b (Nat.ne_of_lt (Nat.lt_of_lt_of_le (Heap.lt_size e) I.ok.above))).trans e1⟩
   · obtain ⟨o',e1⟩:=I.base.there b o e hx;exact ⟨o',(hs.2 b (Nat.ne_of_lt (Nat.lt_of_lt_of_le (Heap.lt_size e) I.ok.above))).trans e1⟩
   · by_cases hj:j=i
     · subst hj;rw [hi] at e1;cases e1;rw [List.getElem?_set_self hiσ] at e2;cases e2;exact ⟨u,r,.inl ⟨hk,by simp⟩⟩
     · rw [List.getElem?_set_ne (Ne.symm hj)] at e2;obtain ⟨u',r',q⟩:=hl j y v' e1 e2 e3;refine ⟨u',r',?_⟩;rcases q with ⟨k,e⟩ | ⟨k,c,e,z⟩
       · refine .inl ⟨k,?_⟩;have:y≠x:=fun e=>hj (oU hN e1 (e ▸ hi));simp [this,e]
       · exact .inr ⟨k,c,e,z.sameBut hs (cne y c e)⟩
   · obtain ⟨w',z⟩:=I.cell y c e;exact ⟨w',z.sameBut hs (cne y c e)⟩
   · obtain ⟨e,n,ne,nf,d⟩:=I.pin p hp;exact ⟨(hs.2 p.1 ne).trans e,n,ne,nf,d⟩
 · have hfn:X.fn x=true:=by
    rcases hf with z | z
    · exact z
    · rw [z] at hk;cases hk
   obtain ⟨c,hc⟩:=I.ok.has x (.inl hk);obtain ⟨w',z⟩:=I.cell x c hc;refine wpAny_storeName_cell I.ok.kind hk hc z (fun h' hc' hs=>?_);obtain ⟨oc,hoc,hocd⟩:=id z;refine h { s with heap:=h' } ⟨I.ok,I.os,I.bare,⟨fun b o e n hb hx=>?_,fun b o e n hb hx=>?_,I.base.free,fun b o e hx=>?_,I.base.tups,I.base.frzs,I.base.tbls⟩,⟨m,hn.sameBut hs (Ne.symm (cne x c hc)),fun j y v' e1 e2 e3=>?_⟩,fun y c' e=>?_,I.free,I.freeC,fun p hp=>?_,tracked ⟨oc,hoc,I.freeC x c hc⟩ hs,by simpa using I.len⟩ ⟨c,hs,.inr hc⟩
   · exact (hs.2 b (Nat.ne_of_lt (Nat.lt_of_lt_of_le (Heap.lt_size e) (I.ok.cab x c hfn hc)))).trans (I.base.keep b o e n hb hx)
   · obtain ⟨sl,e1⟩:=I.base.slot b o e n hb hx;exact ⟨sl,(hs.2 b (Nat.ne_of_lt (Nat.lt_of_lt_of_le (Heap.lt_size e) (I.ok.cab x c hfn hc)))).trans e1⟩
   · obtain ⟨o',e1⟩:=I.base.there b o e hx;exact ⟨o',(hs.2 b (Nat.ne_of_lt (Nat.lt_of_lt_of_le (Heap.lt_size e) (I.ok.cab x c hfn hc)))).trans e1⟩
   · by_cases hj:j=i
     · subst hj;rw [hi] at e1;cases e1;rw [List.getElem?_set_self hiσ] at e2;cases e2;exact ⟨u,r,.inr ⟨.inl hk,c,hc,hc'⟩⟩
     · rw [List.getElem?_set_ne (Ne.symm hj)] at e2;obtain ⟨u',r',q⟩:=hl j y v' e1 e2 e3;refine ⟨u',r',?_⟩;rcases q with q | ⟨k,c',e,z'⟩
       · exact .inl q
       · refine .inr ⟨k,c',e,z'.sameBut hs ?_⟩;rintro rfl;exact hj (oU hN e1 (I.ok.inj _ _ _ e hc ▸ hi))
   · by_cases hcc:c'=c
     · subst hcc;exact ⟨_,hc'⟩
     · obtain ⟨w2,z2⟩:=I.cell y c' e;exact ⟨w2,z2.sameBut hs hcc⟩
   · obtain ⟨e,n,ne,nf,d⟩:=I.pin p hp;refine ⟨(hs.2 p.1 ?_).trans e,n,ne,nf,d⟩;intro q;rw [q,hoc] at e;have q':oc=p.2:=Option.some.inj e;exact d w' (by rw [<- q'];exact hocd)
theorem ik {M:Model} {A:Around} {E:Value->Shared->Prop} {i:Nat} {x:Str} {v:V} {u:Value} {Q:Unit->Shared->Prop} (I:Inv X pins σ H s) (hN:X.N.Nodup) (hi:X.N[i]?=some x) (hx:Loc X.env.scope x) (r:RelV v u)
 (h:∀ s',Inv X pins (σ.set i (some v)) H s'->Q () s') (hf:X.fn x=true∨X.env.scope.names.lookup x=some .local:=by first | exact .inl rfl | exact .inr rfl | assumption):wpAny M A (storeName X.env x u) Q E s :=
 lS I hN hi hx r (fun s' I' _=>h s' I') hf
theorem Inv.call' {s':Shared} {ch:List Addr} (I:Inv X pins σ H s) (ho:s'.os=s.os) (u:Un (frs X.stack) ch H H' s.heap s'.heap) (hok:HOk X.prog X.w H' s'.heap) (hg:AllBare s'.gens)
 (hch:∀ b∈ch,(b∈X.ex∨X.s₀.heap.objs.size<=b)/\b≠X.env.locals/\(∀ x c,X.env.cells.lookup x=some c->c≠b)/\∀ p∈X.pn++pins,p.1≠b):Inv X pins σ H' s':=by
 obtain ⟨h',g',d',t',o'⟩:=s';have e:o'=s.os:=ho;subst e;exact I.call (g':=g') (t':=t') (d':=d') u hok hg hch
end
abbrev XK:=Value->Option Addr->Hp->Prop
abbrev St:=List (Option V)
abbrev VK:=V->Hp->Prop
abbrev TE:=St->Hp->VK->Prop
abbrev TT:=St->Hp->(Bool->Hp->Prop)->Prop
abbrev TA:=St->Hp->(List V->Hp->Prop)->Prop
structure Ends where
 nx:St->Hp->Prop
 rt:VK
 bk:St->Hp->Prop:=fun _ _=>False
 ct:St->Hp->Prop:=fun _ _=>False
abbrev TS:=Ends->St->Hp->Prop
def EP (X:Cx) (pins:List (Addr×Obj)) (σ:St) (Q:VK) (u:Value) (s':Shared):Prop:=∃ v H',Inv X pins σ H' s'/\RelV v u/\Q v H'
def TP (X:Cx) (pins:List (Addr×Obj)) (σ:St) (Q:Bool->Hp->Prop) (b:Bool) (s':Shared):Prop:=∃ H',Inv X pins σ H' s'/\Q b H'
def AP (X:Cx) (pins:List (Addr×Obj)) (σ:St) (Q:List V->Hp->Prop) (us:List Value) (s':Shared):Prop:=∃ vs H',Inv X pins σ H' s'/\Vals vs us/\Q vs H'
def SP (X:Cx) (pins:List (Addr×Obj)) (D:Ends) (f:Flow) (s':Shared):Prop :=
 match f with
 | .next=>∃ σ' H',Inv X pins σ' H' s'/\D.nx σ' H'
 | .brk=>∃ σ' H',Inv X pins σ' H' s'/\D.bk σ' H'
 | .cont=>∃ σ' H',Inv X pins σ' H' s'/\D.ct σ' H'
 | .ret u=>∃ v σ' H',Inv X pins σ' H' s'/\RelV v u/\D.rt v H'
def PE (X:Cx) (e:Expr) (t:TE):Prop :=
 ∀ (pins:List (Addr×Obj)) (s:Shared) (σ:St) (H:Hp) (Q:VK),Inv X pins σ H s->t σ H Q->wpAny (model X.prog X.w) X.A (eval e X.env) (EP X pins σ Q) X.xe s
def PT (X:Cx) (e:Expr) (t:TT):Prop :=
 ∀ (pins:List (Addr×Obj)) (s:Shared) (σ:St) (H:Hp) (Q:Bool->Hp->Prop),Inv X pins σ H s->t σ H Q->wpAny (model X.prog X.w) X.A (isTrue e X.env (eval e X.env)) (TP X pins σ Q) X.xe s
def PW (X:Cx) (e:Expr) (t:TT):Prop :=
 ∀ (whole:Sem Value) (pins:List (Addr×Obj)) (s:Shared) (σ:St) (H:Hp) (Q:Bool->Hp->Prop),Inv X pins σ H s->t σ H Q->wpAny (model X.prog X.w) X.A (isTrue e X.env whole) (TP X pins σ Q) X.xe s
theorem PW.pt {X:Cx} {e:Expr} {t:TT} (h:PW X e t):PT X e t:=h _
def PA (X:Cx) (es:List Expr) (t:TA):Prop :=
 ∀ (pos:Pos) (pins:List (Addr×Obj)) (s:Shared) (σ:St) (H:Hp) (Q:List V->Hp->Prop),Inv X pins σ H s->t σ H Q->wpAny (model X.prog X.w) X.A (spliced (backTo pos (starEach es X.env))) (AP X pins σ Q) X.xe s
def PS (X:Cx) (st:Stmt) (t:TS):Prop :=
 ∀ (pins:List (Addr×Obj)) (s:Shared) (σ:St) (H:Hp) (D:Ends),Inv X pins σ H s->t D σ H->wpAny (model X.prog X.w) X.A (exec st X.env) (SP X pins D) X.xe s
def PSs (X:Cx) (st:List Stmt) (t:TS):Prop :=
 ∀ (pins:List (Addr×Obj)) (s:Shared) (σ:St) (H:Hp) (D:Ends),Inv X pins σ H s->t D σ H->wpAny (model X.prog X.w) X.A (execs st X.env) (SP X pins D) X.xe s
theorem thn {α:Type} {t:Sem α} {Q Q':α->Shared->Prop} {M:Model} {A:Around} {E:Value->Shared->Prop} {s:Shared} (h:wpAny M A t Q E s) (hQ:∀ a s,Q a s->Q' a s):wpAny M A t Q' E s:=wpAny_mono h hQ fun _ _ x=>x
end L2
namespace L2
open PySem PySem.Spec PyProof.Rows
section
variable {X:Cx}
inductive vB (i:Nat) (σ:St) (H:Hp) (Q:VK):Prop
 | mk (v:_) (zz0:σ[i]?=some (some v)) (zz1:Q v H):vB i σ H Q
def b9 (i:Nat):TE:=vB i
def tC (v:V):TE:=fun _ H Q=>Q v H
theorem tN {i:Nat} {x:Str} {pos:Pos} (hN:X.N[i]?=some x) (hv:Vis X.env.scope x) (hd:(x == ("__debug__":Str))=false:=by decide) (hcd:(x == ("__classdict__":Str))=false:=by decide):PE X (.Name x pos) (b9 i):=by
 intro pins s σ H Q I h;obtain ⟨v,e,h⟩:=h;obtain ⟨m,hn,hl⟩:=I.loc;obtain ⟨u,r,l⟩:=hl i x v hN e hv;have fin:EP X pins σ Q u s:=⟨v,H,I,r,h⟩;rcases l with ⟨hk,hm⟩ | ⟨hk,c,hc,hcell⟩
 · exact wpAny_Name (wpAny_loadName_local I.ok.kind hk hn hm fin) hd
 · rcases hk with hk | hk
   · exact wpAny_Name (wpAny_loadName_cell I.ok.kind hk hc hcell fin) hd
   · exact wpAny_Name (wpAny_loadName_free I.ok.kind hk hc hcell fin hcd) hd
theorem ai {i j pos}:PE X (.Constant (.int i) j pos) (tC (.int i)):=fun _ _ _ H _ I h=>wpAny_Constant_int ⟨.int i,H,I.tok _,⟨_,rfl⟩,h⟩
theorem im {b j pos}:PE X (.Constant (.bool b) j pos) (tC (.bl b)):=fun _ _ _ H _ I h=>Constant_bool ⟨.bl b,H,I,rfl,h⟩
theorem eC {x j pos}:PE X (.Constant (.str x) j pos) (tC (.str x)):=fun _ _ _ H _ I h=>Calls.Constant_str ⟨.str x,H,I.tok _,⟨_,rfl⟩,h⟩
def Gl (X:Cx) (x:Str):Prop:=X.env.kindOf x=some .globalImplicit
theorem jY {E:Value->Shared->Prop} {pins:List (Addr×Obj)} {s:Shared} {σ:St} {H:Hp} {x:Str} {u:Value} {pos:Pos} {Q:Value->Shared->Prop} (I:Inv X pins σ H s) (hg:Gl X x) (hm:X.mg x=some u) (h:Q u s)
 (hd:(x == ("__debug__":Str))=false:=by decide):wpAny (model X.prog X.w) X.A (eval (.Name x pos) X.env) Q E s :=
 Calls.Name_function_global I.ok.kind hg (Calls.loadGlobal_global (by rw [I.ok.glob];exact I.mod.glob.keeps I.bk) hm h) hd
theorem gW {E:Value->Shared->Prop} {pins:List (Addr×Obj)} {s:Shared} {σ:St} {H:Hp} {x:Str} {u:Value} {pos:Pos} {Q:Value->Shared->Prop} (I:Inv X pins σ H s) (hg:Gl X x) (hm:X.mg x=none) (hv:bootBuiltins x=some u) (h:Q u s)
 (hn:x≠"__name__":=by decide) (hd:(x == ("__debug__":Str))=false:=by decide):wpAny (model X.prog X.w) X.A (eval (.Name x pos) X.env) Q E s:=by
 obtain ⟨mb,h1,h2⟩:=I.mod.blt;exact Calls.Name_function_global I.ok.kind hg (Calls.loadGlobal_builtin (by rw [I.ok.glob];exact I.mod.glob.keeps I.bk) hm (by rw [I.ok.blt];exact h1.keeps I.bk) ((h2 x hn).trans hv) h) hd
theorem bF {x:Str} {v:V} {u:Value} {pos:Pos} (hg:Gl X x) (hm:X.mg x=some u) (r:RelV v u) (hd:(x == ("__debug__":Str))=false:=by decide):PE X (.Name x pos) (tC v) :=
 fun _ _ _ H _ I h=>jY I hg hm ⟨v,H,I,r,h⟩ hd
theorem mP {x:Str} {v:V} {u:Value} {pos:Pos} (hg:Gl X x) (hm:X.mg x=none) (hv:bootBuiltins x=some u) (r:RelV v u) (hn:x≠"__name__":=by decide) (hd:(x == ("__debug__":Str))=false:=by decide):PE X (.Name x pos) (tC v) :=
 fun _ _ _ H _ I h=>gW I hg hm hv ⟨v,H,I,r,h⟩ hn hd
variable {a b:Expr} {ta tb:TE} {pos:Pos}
variable {tA tB':TT} {rest:List Expr}
def yd (t u:TT):TT:=fun σ H Q=>t σ H fun c H1=>if c=true then u σ H1 Q else Q false H1
def tOr (t u:TT):TT:=fun σ H Q=>t σ H fun c H1=>if c=true then Q true H1 else u σ H1 Q
def yf (t:TT):TT:=fun σ H Q=>t σ H fun c H1=>Q (!c) H1
theorem mR (ha:PT X a tA):PW X (.BoolOp .And [a] pos) tA:=by
 intro wh pins s σ H Q I h;refine isTrue_and (thn (ha pins s σ H Q I h) fun c s1 e=>?_);cases c with
 | true=>exact isTrue_and_nil e
 | false=>exact e
theorem lr (ha:PT X a tA):PW X (.BoolOp .Or [a] pos) tA:=by
 intro wh pins s σ H Q I h;refine isTrue_or (thn (ha pins s σ H Q I h) fun c s1 e=>?_);cases c with
 | false=>exact isTrue_or_nil e
 | true=>exact e
theorem kY (ha:PT X a tA) (hb:PW X (.BoolOp .And (b::rest) pos) tB'):PW X (.BoolOp .And (a::b::rest) pos) (yd tA tB'):=by
 intro wh pins s σ H Q I h;refine isTrue_and (thn (ha pins s σ H _ I h) fun c s1 ⟨H1,I1,q1⟩=>?_);cases c with
 | true=>exact hb wh pins s1 σ H1 Q I1 q1
 | false=>exact ⟨H1,I1,q1⟩
theorem n5 (ha:PT X a tA) (hb:PW X (.BoolOp .Or (b::rest) pos) tB'):PW X (.BoolOp .Or (a::b::rest) pos) (tOr tA tB'):=by
 intro wh pins s σ H Q I h;refine isTrue_or (thn (ha pins s σ H _ I h) fun c s1 ⟨H1,I1,q1⟩=>?_);cases c with
 | true=>exact ⟨H1,I1,q1⟩
 | false=>exact hb wh pins s1 σ H1 Q I1 q1
theorem dO (ha:PT X a tA):PT X (.UnaryOp .Not a pos) (yf tA):=by
 intro pins s σ H Q I h;exact isTrue_not (ha pins s σ H (fun c H1=>Q (!c) H1) I h)
def xb (ta tb:TE):TE:=fun σ H Q=>ta σ H fun x H1=>∃ c,x=.bl c/\if c=true then tb σ H1 Q else Q (.bl false) H1
def wX (ta:TE):TE:=fun σ H Q=>ta σ H fun x H1=>∃ c,x=.bl c/\Q (.bl (!c)) H1
theorem lD {op} {t:TE} (h:PE X a t):PE X (.BoolOp op [a] pos) t:=fun pins s σ H Q I hw=>BoolOp_one (h pins s σ H Q I hw)
theorem gQ (ha:PE X a ta) (hb:PE X (.BoolOp .And (b::rest) pos) tb):PE X (.BoolOp .And (a::b::rest) pos) (xb ta tb):=by
 intro pins s σ H Q I h;refine BoolOp_and (thn (ha pins s σ H _ I h) fun v s1 ⟨x,H1,I1,r1,q1⟩=>?_);obtain ⟨c,rfl,q1⟩:=q1;cases r1;refine wpAny_truthy_bool ?_;cases c with
 | true=>exact hb pins s1 σ H1 Q I1 q1
 | false=>exact ⟨.bl false,H1,I1,rfl,q1⟩
theorem vK (ha:PE X a ta):PE X (.UnaryOp .Not a pos) (wX ta):=by
 intro pins s σ H Q I h;refine UnaryOp_ (thn (ha pins s σ H _ I h) fun v s1 ⟨x,H1,I1,r1,q1⟩=>?_);obtain ⟨c,rfl,q1⟩:=q1;cases r1;exact not_of (wpAny_truthy_bool ⟨.bl (!c),H1,I1,rfl,q1⟩)
end
end L2
namespace L2
open PySem PySem.Spec PyProof.Rows
def SqL (K:PySem.W.Frag) (H:Hp) (a:Addr) (xs:List V):Prop :=
 Rd H a (.lst xs) ∨
  ∃ (o:Obj) (its:Array Value) (n:Nat),K.lookup a=some o/\o.cls=.type "list"/\o.dict=none/\o.data=.seq its n/\its.size<=sizeLine/\Vals xs its.toList
def SqT (K:PySem.W.Frag) (H:Hp) (a:Addr) (xs:List V):Prop :=
 Rd H a (.tup xs) ∨
  ∃ (o:Obj) (its:Array Value) (n:Nat),K.lookup a=some o/\o.cls=.type "tuple"/\o.data=.seq its n/\its.size<=sizeLine/\Vals xs its.toList
def xL:Value->Option V
 | .none=>some .non
 | .bool b=>some (.bl b)
 | .int i _=>some (.int i)
 | .str x _=>some (.str x)
 | .bytes b _=>some (.byt b)
 | .float b _=>some (.flt b)
 | .ref a=>some (.ref a)
 | .type n=>some (.ty n)
 | _=>none
theorem RelV.abs {x:V} {u:Value} (r:RelV x u):xL u=some x:=by
 cases x with
 | non=>cases r;rfl
 | bl _=>cases r;rfl
 | int _=>obtain ⟨t,rfl⟩:=r;rfl
 | str _=>obtain ⟨t,rfl⟩:=r;rfl
 | byt _=>obtain ⟨t,rfl⟩:=r;rfl
 | flt _=>obtain ⟨t,rfl⟩:=r;rfl
 | ref _=>cases r;rfl
 | ty _=>cases r;rfl
theorem RelV.inj {x y:V} {u:Value} (r:RelV x u) (q:RelV y u):x=y:=Option.some.inj (r.abs.symm.trans q.abs)
theorem Vals.inj:∀ {xs ys:List V} {us:List Value},Vals xs us->Vals ys us->xs=ys
 | _,_,_,.nil,.nil=>rfl
 | _,_,_,.cons r t,.cons r' t'=>by rw [r.inj r',Vals.inj t t']
section
variable {X:Cx} {pins:List (Addr×Obj)} {σ:St} {H:Hp} {s:Shared} {a:Addr} {xs ys:List V}
theorem SqL.of {K:PySem.W.Frag} (h:H a=some (.lst xs)):SqL K H a xs:=.inl (.inl h)
theorem SqT.of {K:PySem.W.Frag} (h:H a=some (.tup xs)):SqT K H a xs:=.inl (.inl h)
theorem Inv.list (I:Inv X pins σ H s) (h:SqL X.K H a xs):∃ its:List Value,Vals xs its/\PlainL s.heap a its.toArray/\xs.length<=sizeLine:=by
 rcases h with h | ⟨o,its,n,hk,hc,hd,hs,hz,r⟩
 · obtain ⟨z,its,n,r,e⟩:=h.ok I.hok;exact ⟨its,r,⟨_,n,e,rfl,rfl,rfl⟩,z⟩
 · refine ⟨its.toList,r,⟨o,n,I.kIn a o hk,hc,hd,by simpa using hs⟩,?_⟩;have e:=r.length;simp only [Array.length_toList] at e;omega
theorem Inv.tuple (I:Inv X pins σ H s) (h:SqT X.K H a xs):∃ its:List Value,Vals xs its/\IsTup s.heap a its.toArray/\xs.length<=sizeLine:=by
 rcases h with h | ⟨o,its,n,hk,hc,hs,hz,r⟩
 · obtain ⟨z,its,n,r,p⟩:=h.ok I.hok;exact ⟨its,r,⟨_,p,rfl,n,rfl⟩,z⟩
 · refine ⟨its.toList,r,⟨o,I.kIn a o hk,hc,n,by simpa using hs⟩,?_⟩;have e:=r.length;simp only [Array.length_toList] at e;omega
theorem Inv.list_inj (I:Inv X pins σ H s) (h:SqL X.K H a xs) (h':SqL X.K H a ys):xs=ys:=by
 obtain ⟨its,r,⟨o,n,e,_,_,d⟩,_⟩:=I.list h;obtain ⟨its',r',⟨o',n',e',_,_,d'⟩,_⟩:=I.list h';rw [e] at e';cases e';rw [d] at d';injection d' with d1 _;have:its=its':=by simpa using congrArg Array.toList d1
 subst this;exact r.inj r'
theorem Inv.tuple_inj (I:Inv X pins σ H s) (h:SqT X.K H a xs) (h':SqT X.K H a ys):xs=ys:=by
 obtain ⟨its,r,⟨o,e,_,n,d⟩,_⟩:=I.tuple h;obtain ⟨its',r',⟨o',e',_,n',d'⟩,_⟩:=I.tuple h';rw [e] at e';cases e';rw [d] at d';injection d' with d1 _;have:its=its':=by simpa using congrArg Array.toList d1
 subst this;exact r.inj r'
end
abbrev Cx.wish (X:Cx) (E:Value->Shared->Prop):Cx:={ X with xe:=E }
abbrev Cx.nox (X:Cx):Cx:=X.wish fun _ _=>False
theorem Cx.Ok.wish {X:Cx} (ok:X.Ok) (E:Value->Shared->Prop):(X.wish E).Ok :=
 ⟨ok.mod,ok.kind,ok.glob,ok.blt,ok.above,ok.inj,ok.has,ok.cab,ok.hd,ok.frames,ok.stk,ok.exf,ok.bs,ok.bsz,ok.noex,ok.exfs,ok.funs,ok.frf⟩
theorem Cx.Ok.unwish {X:Cx} {E:Value->Shared->Prop} (ok:(X.wish E).Ok):X.Ok :=
 ⟨ok.mod,ok.kind,ok.glob,ok.blt,ok.above,ok.inj,ok.has,ok.cab,ok.hd,ok.frames,ok.stk,ok.exf,ok.bs,ok.bsz,ok.noex,ok.exfs,ok.funs,ok.frf⟩
section
variable {X:Cx} {pins:List (Addr×Obj)} {σ:St} {H:Hp} {s:Shared} {E:Value->Shared->Prop}
theorem Inv.wish (I:Inv X pins σ H s) (E:Value->Shared->Prop):Inv (X.wish E) pins σ H s:=⟨I.ok.wish E,I.os,I.bare,I.base,I.loc,I.cell,I.free,I.freeC,I.pin,I.hok,I.len⟩
theorem Inv.unwish (I:Inv (X.wish E) pins σ H s):Inv X pins σ H s:=⟨I.ok.unwish,I.os,I.bare,I.base,I.loc,I.cell,I.free,I.freeC,I.pin,I.hok,I.len⟩
theorem SP.unwish {D:Ends} {f:Flow} {s':Shared} (h:SP (X.wish E) pins D f s'):SP X pins D f s':=by
 cases f with
 | next=>obtain ⟨σ',H',I,q⟩:=h;exact ⟨σ',H',I.unwish,q⟩
 | brk=>obtain ⟨σ',H',I,q⟩:=h;exact ⟨σ',H',I.unwish,q⟩
 | cont=>obtain ⟨σ',H',I,q⟩:=h;exact ⟨σ',H',I.unwish,q⟩
 | ret u=>obtain ⟨v,σ',H',I,r,q⟩:=h;exact ⟨v,σ',H',I.unwish,r,q⟩
theorem PSs.nox {st:List Stmt} {t:TS} (h:PSs X.nox st t):PSs X st t:=fun pins s σ H D I hw =>
 wpAny_mono (h pins s σ H D (I.wish _) hw) (fun _ _ q=>q.unwish) fun _ _ z=>False.elim z
end
section
variable {X:Cx} {st:Stmt} {rest:List Stmt} {t u:TS} {e:Expr} {te:TE} {pos:Pos}
def sC:TS:=fun D σ H=>D.nx σ H
def xz (t u:TS):TS:=fun D σ H=>t { D with nx:=u D } σ H
theorem aR:PSs X [] sC:=fun _ _ σ H _ I h=>wpAny_execs_nil ⟨σ,H,I,h⟩
theorem ae (h1:PS X st t) (h2:PSs X rest u):PSs X (st::rest) (xz t u):=by
 intro pins s σ H D I h;refine wpAny_execs_cons (thn (h1 pins s σ H { D with nx:=u D } I h) fun f s1 q=>?_);cases f with
 | next =>
   obtain ⟨σ',H',I',q⟩:=q;exact h2 pins s1 σ' H' D I' q
 | ret v=>exact q
 | brk=>exact q
 | cont=>exact q
theorem ag (h1:PS X st t):PSs X [st] t:=by
 intro pins s σ H D I h;refine wpAny_execs_cons (thn (h1 pins s σ H D I h) fun f s1 q=>?_);cases f with
 | next=>exact wpAny_execs_nil q
 | ret v=>exact q
 | brk=>exact q
 | cont=>exact q
theorem Inv.quiet {pins:List (Addr×Obj)} {σ:St} {H:Hp} {s:Shared} (I:Inv X pins σ H s):interactive X.env=false:=by simp [interactive,I.ok.kind]
def vd (te:TE):TS:=fun D σ H=>te σ H fun _ H1=>D.nx σ H1
theorem aS (he:PE X e te) (hs:swapsWith e none pos.line X.env=pure false:=by rfl):PS X (.Expr e pos) (vd te):=by
 intro pins s σ H D I h;exact wpAny_Expr_any (thn (he pins s σ H _ I h) fun v s1 ⟨x,H1,I1,r1,q1⟩=>⟨σ,H1,I1,q1⟩) I.quiet hs
def yc (te:TE):TS:=fun D σ H=>te σ H D.rt
theorem au (he:PE X e te):PS X (.Return (some e) pos) (yc te):=by
 intro pins s σ H D I h;exact wpAny_Return_some (thn (he pins s σ H _ I h) fun v s1 ⟨x,H1,I1,r1,q1⟩=>⟨x,σ,H1,I1,r1,q1⟩)
def wQ (c:TT) (t u:TS):TS:=fun D σ H=>c σ H fun b H1=>if b=true then t D σ H1 else u D σ H1
theorem br {c:Expr} {a b:List Stmt} {tc:TT} (hc:PT X c tc) (ha:PSs X a t) (hb:PSs X b u):PS X (.If c a b pos) (wQ tc t u):=by
 intro pins s σ H D I h;refine wpAny_If (thn (hc pins s σ H _ I h) fun d s1 ⟨H1,I1,q1⟩=>?_);cases d with
 | true=>exact ha pins s1 σ H1 D I1 q1
 | false=>exact hb pins s1 σ H1 D I1 q1
def wx:TS:=fun _ _ _=>False
theorem cF:PS X st wx:=fun _ _ _ _ _ _ h=>h.elim
end
abbrev TG:=V->St->Hp->(St->Hp->Prop)->Prop
abbrev TGs:=List V->St->Hp->(St->Hp->Prop)->Prop
def PG (X:Cx) (target:Expr) (t:TG):Prop :=
 ∀ (pins:List (Addr×Obj)) (s:Shared) (σ:St) (H:Hp) (v:V) (u:Value) (Q:St->Hp->Prop),Inv X pins σ H s->RelV v u->t v σ H Q →
   wpAny (model X.prog X.w) X.A (assign target X.env u) (fun _ s'=>∃ σ' H',Inv X pins σ' H' s'/\Q σ' H') X.xe s
def PGs (X:Cx) (ts:List Expr) (t:TGs):Prop :=
 ∀ (pins:List (Addr×Obj)) (s:Shared) (σ:St) (H:Hp) (vs:List V) (us:List Value) (Q:St->Hp->Prop),Inv X pins σ H s->Vals vs us->t vs σ H Q →
   wpAny (model X.prog X.w) X.A (assignInOrder ((assignEach ts X.env).map (·.2)) us) (fun _ s'=>∃ σ' H',Inv X pins σ' H' s'/\Q σ' H') X.xe s
abbrev wc:=V->V->V->Hp->(Hp->Prop)->Prop
def xc (X:Cx) (t:wc):Prop :=
 ∀ (pins:List (Addr×Obj)) (s:Shared) (σ:St) (H:Hp) (o i v:V) (ov iv u:Value) (Q:Hp->Prop),Inv X pins σ H s->RelV o ov->RelV i iv->RelV v u->t o i v H Q →
   wpAny (model X.prog X.w) X.A (setItem ov iv u) (fun _ s'=>∃ H',Inv X pins σ H' s'/\Q H') X.xe s
section
variable {X:Cx} {pos:Pos}
def aH (i:Nat):TG:=fun v σ H Q=>Q (σ.set i (some v)) H
theorem am {i:Nat} {x:Str} (hN:X.N.Nodup) (hi:X.N[i]?=some x) (hx:Loc X.env.scope x) (hf:X.fn x=true∨X.env.scope.names.lookup x=some .local:=by first | exact .inl rfl | exact .inr rfl | assumption):PG X (.Name x pos) (aH i):=by
 intro pins s σ H v u Q I r h;exact wpAny_assign_Name (ik I hN hi hx r (fun s' I'=>⟨_,H,I',h⟩) hf)
def wd:TGs:=fun vs σ H Q=>vs=[]/\Q σ H
def qz (t:TG) (u:TGs):TGs:=fun vs σ H Q=>∃ v r,vs=v::r/\t v σ H fun σ' H'=>u r σ' H' Q
theorem bX:PGs X [] wd:=by
 intro pins s σ H vs us Q I r h;obtain ⟨e,h⟩:=h;subst e;cases r;exact assignInOrder_nil ⟨σ,H,I,h⟩
theorem aE {e:Expr} {es:List Expr} {t:TG} {u:TGs} (h1:PG X e t) (h2:PGs X es u)
 (hs:(assignEach (e::es) X.env).map (·.2)=assign e X.env::(assignEach es X.env).map (·.2):=by rfl):PGs X (e::es) (qz t u):=by
 intro pins s σ H vs us Q I r h;obtain ⟨v,vr,e1,h⟩:=h;subst e1;cases r with
 | cons r rr =>
   rw [hs];refine assignInOrder_cons (thn (h1 pins s σ H _ _ _ I r h) fun _ s1 ⟨σ1,H1,I1,q1⟩=>?_);exact h2 pins s1 σ1 H1 _ _ Q I1 rr q1
def vX (K:PySem.W.Frag) (n:Nat) (t:TGs):TG:=fun v σ H Q=>∃ a xs,v=.ref a/\SqT K H a xs/\xs.length=n/\t xs σ H Q
theorem cH {es:List Expr} {k:Nat} {t:TGs} {n:Nat} (hc:X.calm=true) (h:PGs X es t)
 (hn:(assignEach es X.env).length=n:=by rfl) (hst:(assignEach es X.env).findIdx? (·.1)=none:=by rfl):PG X (.Tuple es k pos) (vX X.K n t):=by
 intro pins s σ H v u Q I r hw;obtain ⟨a,xs,e1,hq,hl,hw⟩:=hw;subst e1;cases r;obtain ⟨its,rv,ht,hz⟩:=I.tuple hq;refine assign_Tuple_tuple (I.ok.hd hc) ht (by simp [hn,<- hl,rv.length]) hst fun h' hx=>?_;have I1:Inv X pins σ H { s with heap:=h' }:=I.kept (t':=s.toks) fun b o e=>hx b o (Nat.ne_of_lt (Heap.lt_size e)) e;exact h pins _ σ H xs _ Q I1 (by simpa using rv) hw
def yh (to ti:TE) (t:wc):TG:=fun v σ H Q=>to σ H fun o H1=>ti σ H1 fun i H2=>t o i v H2 fun H3=>Q σ H3
theorem wn {o i:Expr} {to ti:TE} {t:wc} (ho:PE X o to) (hi:PE X i ti) (hs:xc X t)
 (ha:∀ v,assign (.Subscript o i pos) X.env v=(do
  let ov ← holding [v] (eval o X.env)
  let iv ← holding [v,ov] (eval i X.env)
  standAt pos
  holding [v,ov,iv] (setItem ov iv v)
  release [v,ov,iv] []):=by intro _;rfl):PG X (.Subscript o i pos) (yh to ti t):=by
 intro pins s σ H v u Q I r h;rw [ha];refine wpAny_bind (wpAny_holding (thn (ho pins s σ H _ I h) fun ov s1 ⟨x,H1,I1,r1,q1⟩=>?_));refine wpAny_bind (wpAny_holding (thn (hi pins s1 σ H1 _ I1 q1) fun iv s2 ⟨y,H2,I2,r2,q2⟩=>?_));refine wpAny_bind (wpAny_standAt (wpAny_bind (wpAny_holding (thn (hs pins s2 σ H2 x y v ov iv u _ I2 r1 r2 r q2) fun _ s3 ⟨H3,I3,q3⟩=>?_))));exact wpAny_release ⟨σ,H3,I3,q3⟩
def wb (te:TE) (g:TG):TS:=fun D σ H=>te σ H fun x H1=>g x σ H1 D.nx
theorem g9 {tg e:Expr} {te:TE} {g:TG} (he:PE X e te) (hg:PG X tg g) (hs:swapsWithSole [tg] e pos.line X.env=pure false:=by rfl) (hw:swappedStores [tg] e X.env=pure none:=by rfl)
 (h1:(assignEach [tg] X.env).map (·.2)=[assign tg X.env]:=by rfl):PS X (.Assign [tg] e pos) (wb te g):=by
 intro pins s σ H D I h;refine wpAny_Assign_stores (thn (he pins s σ H _ I h) fun v s1 ⟨x,H1,I1,r1,q1⟩=>?_) hs hw;rw [h1];exact thn (hg pins s1 σ H1 x v _ I1 r1 q1) fun _ s2 q=>q
theorem ar {i:Nat} {x:Str} {e:Expr} {te:TE} {pos':Pos} (hN:X.N.Nodup) (hi:X.N[i]?=some x) (hx:Loc X.env.scope x) (he:PE X e te) (hs:swapsWith e (some (.Name x pos')) pos.line X.env=pure false:=by rfl) (hf:X.fn x=true∨X.env.scope.names.lookup x=some .local:=by first | exact .inl rfl | exact .inr rfl | assumption) :
 PS X (.Assign [.Name x pos'] e pos) (wb te (aH i)):=by
 intro pins s σ H D I h;refine wpAny_Assign_Name (thn (he pins s σ H _ I h) fun v s1 ⟨y,H1,I1,r1,q1⟩=>?_) hs;exact ik I1 hN hi hx r1 (fun s2 I2=>⟨_,H1,I2,q1⟩) hf
end
section
variable {X:Cx} {pos:Pos}
def vN (c:TT) (tb:TS):TS:=fun D σ H=>∃ W:Nat->St->Hp->Prop,(∃ m,W m σ H)/\∀ m σ H,W m σ H →
 c σ H fun b H1=>if b=true then ∃ N:St->Hp->Prop,(∀ σ' H',N σ' H'->∃ m',m'<m/\W m' σ' H')/\tb { D with nx:=N,ct:=N,bk:=D.nx } σ H1 else D.nx σ H1
theorem eT {c:Expr} {body:List Stmt} {tc:TT} {tb:TS} (hp:PassesOwn (model X.prog X.w) X.A X.env X.xe) (hc:PT X c tc) (hb:PSs X body tb):PS X (.While c body [] pos) (vN tc tb):=by
 intro pins s σ H D I h;obtain ⟨W,⟨m0,w0⟩,turn⟩:=h;refine wpAny_While (codeAny_whileLoop (fun n s'=>∃ σ' H',Inv X pins σ' H' s'/\W n σ' H') ?_ m0 ⟨σ,H,I,w0⟩);rintro n s1 ⟨σ1,H1,I1,w1⟩;refine wpAny_passesOwn hp (thn (hc pins s1 σ1 H1 _ I1 (turn n σ1 H1 w1)) fun b s2 ⟨H2,I2,q2⟩=>?_);cases b with
 | true =>
   obtain ⟨N,hN,q2⟩:=q2;rw [if_pos rfl];refine wpAny_passesOwn hp (thn (hb pins s2 σ1 H2 _ I2 q2) fun f s3 q3=>?_);cases f with
   | next =>
     obtain ⟨σ3,H3,I3,n3⟩:=q3;obtain ⟨m',hm,w3⟩:=hN σ3 H3 n3;exact ⟨m',hm,σ3,H3,I3,w3⟩
   | cont =>
     obtain ⟨σ3,H3,I3,n3⟩:=q3;obtain ⟨m',hm,w3⟩:=hN σ3 H3 n3;exact ⟨m',hm,σ3,H3,I3,w3⟩
   | brk=>exact q3
   | ret v=>exact q3
 | false =>
   rw [if_neg Bool.false_ne_true];exact wpAny_execs_nil ⟨σ1,H2,I2,q2⟩
end
structure It where
 go:Nat->Hp->Prop
 yld:Nat->Hp->V->Hp->Prop
 stop:Nat->Hp->Prop
def jc (X:Cx) (pins:List (Addr×Obj)) (H:Hp) (b:Addr):Prop :=
 H b=none/\b≠X.env.locals/\b∉X.fs/\(b∈X.ex∨X.s₀.heap.objs.size<=b)/\(∀ x c,X.env.cells.lookup x=some c->c≠b)/\∀ p∈X.pn++pins,p.1≠b
theorem Inv.fpOk {X:Cx} {pins:List (Addr×Obj)} {σ:St} {H H':Hp} {s:Shared} {b:Addr} (I:Inv X pins σ H s) (hb:s.heap.objs.size<=b) (hn:H' b=none):jc X pins H' b:=by
 refine ⟨hn,Nat.ne_of_gt (Nat.lt_of_lt_of_le I.lt hb),I.nofs hb,.inr (Nat.le_trans I.sz hb),fun x c e z=>?_,fun p hp z=>?_⟩
 · obtain ⟨v,q⟩:=I.cell x c e;exact absurd (Nat.lt_of_lt_of_le q.lt (by rw [z];exact hb)) (Nat.lt_irrefl _)
 · exact absurd (Nat.lt_of_lt_of_le (Heap.lt_size (I.pin p hp).1) (by rw [z];exact hb)) (Nat.lt_irrefl _)
structure Turn (P:Program) (w:World) (K:PySem.W.Frag) (tg:Expr) (J:It) (fp:List Addr) (it:Addr) (tn:Nat->Heap->Prop):Prop where
 mem:it∈fp
 obj:∀ i h,tn i h->∀ b∈fp,∃ o,h.get? b=some o/\∀ v,o.data≠.cell v
 keep:∀ i h h',tn i h->(∀ b∈fp,∀ o,h.get? b=some o->h'.get? b=some o)->tn i h'
 item:∀ (X:Cx),X.prog=P->X.w=w->X.K=K->X.calm=true->∀ (i:Nat) (pins:List (Addr×Obj)) (s:Shared) (σ:St) (H:Hp) (E:Value->Shared->Prop),Inv X pins σ H s->(∀ b∈fp,jc X pins H b)->tn i s.heap->J.go i H →
  wpAny (model P w) X.A (pyNext (.ref it)) (fun r s1=>∃ u,r=some u ∧
   wpAny (model P w) X.A (letOwnedTupleGo tg (.ref it) u) (fun _ s2=>∃ x H',Inv X pins σ H' s2/\RelV x u/\J.yld i H x H'/\tn (i+1) s2.heap/\∀ b∈fp,H' b=none) E s1) E s
 done:∀ (X:Cx),X.prog=P->X.w=w->X.K=K->X.calm=true->∀ (i:Nat) (pins:List (Addr×Obj)) (s:Shared) (σ:St) (H:Hp) (E:Value->Shared->Prop),Inv X pins σ H s->(∀ b∈fp,jc X pins H b)->tn i s.heap->J.stop i H →
  wpAny (model P w) X.A (pyNext (.ref it)) (fun r s1=>r=none/\Inv X pins σ H s1) E s
 self:∀ (A:Around) (i:Nat) (s:Shared) (Q:Value->Shared->Prop) (E:Value->Shared->Prop),tn i s.heap->Q (.ref it) s->wpAny (model P w) A (pyIter (.ref it)) Q E s
abbrev TI:=St->Hp->(It->Hp->Prop)->Prop
def PIE (X:Cx) (pins:List (Addr×Obj)) (σ:St) (tg:Expr) (R:It->Hp->Prop) (itv:Value) (s2:Shared):Prop :=
 ∃ (it:Addr) (fp:List Addr) (tn:Nat->Heap->Prop) (J:It) (H':Hp),itv=.ref it/\Inv X pins σ H' s2/\Turn X.prog X.w X.K tg J fp it tn/\tn 0 s2.heap/\(∀ b∈fp,jc X pins H' b)/\R J H'
def PI (X:Cx) (tg iter:Expr) (wi:TI):Prop :=
 ∀ (pins:List (Addr×Obj)) (s:Shared) (σ:St) (H:Hp) (R:It->Hp->Prop),Inv X pins σ H s->wi σ H R →
   wpAny (model X.prog X.w) X.A (eval iter X.env) (fun v s1=>wpAny (model X.prog X.w) X.A (pyIter v) (PIE X pins σ tg R) X.xe s1) X.xe s
theorem kg {M:Model} {A:Around} {E:Value->Shared->Prop} {s:Shared} {tg:Expr} {it:Addr} {u:Value} {o:Obj} {n:String} {vs:Array Value} {Q:Unit->Shared->Prop} (ho:s.heap.get? it=some o) (hc:o.cls=.type n) (hd:o.data=.fields vs)
 (hn:["enumerate","zip","dict_itemiterator","dict_reverseitemiterator","odict_iterator","itertools.zip_longest","itertools.pairwise"].contains n=false) (hQ:Q () s):wpAny M A (letOwnedTupleGo tg (.ref it) u) Q E s:=by
 unfold letOwnedTupleGo
 cases tg <;> first
  | exact wpAny_pure hQ
  | (cases u <;> first
   | exact wpAny_pure hQ
   | (refine wpAny_bind (wpAny_load ho ?_)
      rw [hc,hd];show wpAny M A (if (["enumerate","zip","dict_itemiterator","dict_reverseitemiterator","odict_iterator","itertools.zip_longest","itertools.pairwise"].contains n && vs[0]? == some (rawInt _))=true then _ else _) Q E s;rw [if_neg (by intro h;rw [hn,Bool.false_and] at h;cases h)];exact wpAny_pure hQ))
def Itl (K:PySem.W.Frag) (a:Addr):It :=
 ⟨fun i H=>∃ xs x,SqL K H a xs/\xs[i]?=some x,fun i H x H'=>H'=H/\∀ xs,SqL K H a xs->xs[i]?=some x,fun i H=>∃ xs,SqL K H a xs/\xs.length<=i⟩
def Itt (K:PySem.W.Frag) (a:Addr):It :=
 ⟨fun i H=>∃ xs x,SqT K H a xs/\xs[i]?=some x,fun i H x H'=>H'=H/\∀ xs,SqT K H a xs->xs[i]?=some x,fun i H=>∃ xs,SqT K H a xs/\xs.length<=i⟩
def Itr (lo:Int) (n:Nat):It:=⟨fun i _=>i<n,fun i H x H'=>H'=H/\x=.int (lo+i),fun i _=>n<=i⟩
theorem lM {P:Program} {w:World} {K:PySem.W.Frag} {tg:Expr} (a it:Addr):Turn P w K tg (Itl K a) [it] it (fun i h=>h.IsListIter it a i) where
 mem:=by simp
 obj:=fun i h st b hb=>by
  have e:b=it:=by simpa using hb
  subst e;obtain ⟨o,e,c,d⟩:=st;exact ⟨o,e,fun v z=>by rw [d] at z;cases z⟩
 keep:=fun i h h' st k=>st.at fun o e=>k it (by simp) o e
 item:=by
  intro X hP hw hK hc i pins s σ H E I hf st hg;subst hP hw hK;obtain ⟨xs,x,hq,hx⟩:=hg;obtain ⟨its,rv,p,hz⟩:=I.list hq;obtain ⟨u,hu,ru⟩:=rv.get hx;obtain ⟨f0,f1,f2,f3,f4,f5⟩:=hf it (by simp);refine wpAny_pyNext_list_item st p.isList (x:=u) (by simpa using hu) fun h' st' sb=>?_;have I1:Inv X pins σ H { s with heap:=h' }:=I.turned (t':=s.toks) (fun b o hb e=>(sb.2 b hb).trans e) f0 f1 f3 f4 f5;obtain ⟨o,e,c,d⟩:=id st';exact ⟨u,rfl,kg (s:={ s with heap:=h' }) e c d (by decide) ⟨x,H,I1,ru,⟨rfl,fun ys hy=>by rw [I.list_inj hy hq];exact hx⟩,st',fun b hb=>(hf b hb).1⟩⟩
 done:=by
  intro X hP hw hK hc i pins s σ H E I hf st hg;subst hP hw hK;obtain ⟨xs,hq,hx⟩:=hg;obtain ⟨its,rv,p,hz⟩:=I.list hq;obtain ⟨f0,f1,f2,f3,f4,f5⟩:=hf it (by simp);have hl:=rv.length;exact wpAny_pyNext_list_end (I.ok.hd hc) st p.isList (by simp;omega) fun h' eb=>⟨rfl,I.turned (t':=s.toks) (fun b o hb e=>eb b o hb e) f0 f1 f3 f4 f5⟩
 self:=fun _ _ _ _ _ st h=>wpAny_pyIter_listiter st h
theorem ld {P:Program} {w:World} {K:PySem.W.Frag} {tg:Expr} (a it:Addr):Turn P w K tg (Itt K a) [it] it (fun i h=>h.IsTupleIter it a i) where
 mem:=by simp
 obj:=fun i h st b hb=>by
  have e:b=it:=by simpa using hb
  subst e;obtain ⟨o,e,c,d⟩:=st;exact ⟨o,e,fun v z=>by rw [d] at z;cases z⟩
 keep:=fun i h h' st k=>st.at fun o e=>k it (by simp) o e
 item:=by
  intro X hP hw hK hc i pins s σ H E I hf st hg;subst hP hw hK;obtain ⟨xs,x,hq,hx⟩:=hg;obtain ⟨its,rv,p,hz⟩:=I.tuple hq;obtain ⟨u,hu,ru⟩:=rv.get hx;obtain ⟨f0,f1,f2,f3,f4,f5⟩:=hf it (by simp);refine wpAny_pyNext_tuple_item st (show s.heap.IsTuple a its.toArray from p) (x:=u) (by simpa using hu) fun h' st' sb=>?_;have I1:Inv X pins σ H { s with heap:=h' }:=I.turned (t':=s.toks) (fun b o hb e=>(sb.2 b hb).trans e) f0 f1 f3 f4 f5;obtain ⟨o,e,c,d⟩:=id st';exact ⟨u,rfl,kg (s:={ s with heap:=h' }) e c d (by decide) ⟨x,H,I1,ru,⟨rfl,fun ys hy=>by rw [I.tuple_inj hy hq];exact hx⟩,st',fun b hb=>(hf b hb).1⟩⟩
 done:=by
  intro X hP hw hK hc i pins s σ H E I hf st hg;subst hP hw hK;obtain ⟨xs,hq,hx⟩:=hg;obtain ⟨its,rv,p,hz⟩:=I.tuple hq;obtain ⟨f0,f1,f2,f3,f4,f5⟩:=hf it (by simp);have hl:=rv.length;exact wpAny_pyNext_tuple_end (I.ok.hd hc) st (show s.heap.IsTuple a its.toArray from p) (by simp;omega) fun h' eb=>⟨rfl,I.turned (t':=s.toks) (fun b o hb e=>eb b o hb e) f0 f1 f3 f4 f5⟩
 self:=fun _ _ _ _ _ st h=>wpAny_pyIter_tupleiter st h
theorem pX {P:Program} {w:World} {K:PySem.W.Frag} {tg:Expr} (it:Addr) (lo:Int) (n:Nat):Turn P w K tg (Itr lo n) [it] it (fun i h=>IsRangeIter h it (lo+(i:Nat) * 1) ((n:Int) - (i:Nat)) 1) where
 mem:=by simp
 obj:=fun i h st b hb=>by
  have e:b=it:=by simpa using hb
  subst e
  exact ⟨_,st,fun v z=>by
   have z':Data.fields _=Data.cell v:=z;cases z'⟩
 keep:=fun i h h' st k=>k it (by simp) _ st
 item:=by
  intro X hP hw hK hc i pins s σ H E I hf st hg;subst hP hw hK;obtain ⟨f0,f1,f2,f3,f4,f5⟩:=hf it (by simp);have W:=Walks.range (prog:=X.prog) (w:=X.w) (I.ok.hd hc) it lo 1 n;refine W.item i s _ _ hg st fun v h' tk hv st' kk=>?_;obtain ⟨t,rfl⟩:=hv;have I1:Inv X pins σ H { s with heap:=h',toks:=tk }:=I.turned (fun b o hb e=>kk b o (by simpa using hb) e) f0 f1 f3 f4 f5;refine ⟨_,rfl,kg (s:={ s with heap:=h',toks:=tk }) (n:="range_iterator") st' rfl rfl (by decide) ⟨.int (lo+i),H,I1,⟨t,?_⟩,⟨rfl,rfl⟩,st',fun b hb=>(hf b hb).1⟩⟩;rw [Int.mul_one]
 done:=by
  intro X hP hw hK hc i pins s σ H E I hf st hg;subst hP hw hK;obtain ⟨f0,f1,f2,f3,f4,f5⟩:=hf it (by simp);exact wpAny_pyNext_range_end (I.ok.hd hc) st (by have:n<=i:=hg;omega) fun h' eb=>⟨rfl,I.turned (t':=s.toks) (fun b o hb e=>eb b o hb e) f0 f1 f3 f4 f5⟩
 self:=fun _ _ _ _ _ st h=>wpAny_pyIter_rangeiter st h
end L2
namespace L2
open PySem PySem.Spec PyProof.Rows
section
variable {X:Cx} {tg:Expr}
def xC (K:PySem.W.Frag) (tl:TE):TI:=fun σ H R=>tl σ H fun x H1=>∃ a,x=.ref a/\(∃ xs,SqL K H1 a xs)/\R (Itl K a) H1
def xI (K:PySem.W.Frag) (tl:TE):TI:=fun σ H R=>tl σ H fun x H1=>∃ a,x=.ref a/\(∃ xs,SqT K H1 a xs)/\R (Itt K a) H1
theorem cR {l:Expr} {tl:TE} (hl:PE X l tl):PI X tg l (xC X.K tl):=by
 intro pins s σ H R I h;refine thn (hl pins s σ H _ I h) fun v s1 ⟨x,H1,I1,r1,q1⟩=>?_;obtain ⟨a,e,⟨xs,hq⟩,q⟩:=q1;subst e;cases r1;obtain ⟨its,rv,p,hz⟩:=I1.list hq;refine wpAny_pyIter_list p.isList ?_;refine ⟨s1.heap.objs.size,[s1.heap.objs.size],_,_,H1,rfl,I1.kept (t':=s1.toks) fun b o e=>Heap.get?_push_of_some _ e,lM a _,⟨_,Heap.get?_push_size _ rfl,rfl,rfl⟩,fun b hb=>?_,q⟩;have e:b=s1.heap.objs.size:=by simpa using hb
 subst e;exact I1.fpOk (Nat.le_refl _) (I1.hok.fresh (Nat.le_refl _))
theorem dX {l:Expr} {tl:TE} (hl:PE X l tl):PI X tg l (xI X.K tl):=by
 intro pins s σ H R I h;refine thn (hl pins s σ H _ I h) fun v s1 ⟨x,H1,I1,r1,q1⟩=>?_;obtain ⟨a,e,⟨xs,hq⟩,q⟩:=q1;subst e;cases r1;obtain ⟨its,rv,p,hz⟩:=I1.tuple hq;refine wpAny_pyIter_tuple (show s1.heap.IsTuple a its.toArray from p) ?_;refine ⟨s1.heap.objs.size,[s1.heap.objs.size],_,_,H1,rfl,I1.kept (t':=s1.toks) fun b o e=>Heap.get?_push_of_some _ e,ld a _,⟨_,Heap.get?_push_size _ rfl,rfl,rfl⟩,fun b hb=>?_,q⟩;have e:b=s1.heap.objs.size:=by simpa using hb
 subst e;exact I1.fpOk (Nat.le_refl _) (I1.hok.fresh (Nat.le_refl _))
theorem tK {pins:List (Addr×Obj)} {σ:St} {H:Hp} {s:Shared} {R:It->Hp->Prop} {E:Value->Shared->Prop} {lo hi:Int} {t u v:Tok} {tk:Nat} (I:Inv X pins σ H s) (h1:-(2 ^ 62)<=lo) (h2:lo<2 ^ 62) (h3:-(2 ^ 62)<=hi) (h4:hi<2 ^ 62)
 (q:R (Itr lo (hi - lo).toNat) H):wpAny (model X.prog X.w) X.A (pyIter (.ref s.heap.objs.size)) (PIE X pins σ tg R) E { s with heap:=s.heap.push { cls:=.type "range",data:=.fields #[.int lo t,.int hi u,.int 1 v] },toks:=tk }:=by
 refine wpAny_pyIter_range (IsRange.new ..) (small_one h1 h2 h3 h4) ?_;have I1:Inv X pins σ H { s with heap:=s.heap.push { cls:=.type "range",data:=.fields #[.int lo t,.int hi u,.int 1 v] },toks:=tk }:=I.kept fun b o e=>Heap.get?_push_of_some _ e
 refine ⟨(s.heap.push { cls:=.type "range",data:=.fields #[.int lo t,.int hi u,.int 1 v] }).objs.size,[(s.heap.push { cls:=.type "range",data:=.fields #[.int lo t,.int hi u,.int 1 v] }).objs.size],_,_,H,rfl,
  I1.kept (t':=tk) fun b o e=>Heap.get?_push_of_some _ e,pX _ lo (hi - lo).toNat,?_,fun b hb=>?_,q⟩
 · have e1:lo+((0:Nat):Int) * 1=lo:=by simp
   have e2:(((hi - lo).toNat:Nat):Int) - ((0:Nat):Int)=Builtin.Range.rangeSize lo hi 1:=by rw [rangeSize_one];split <;> omega
   show IsRangeIter _ _ (lo+((0:Nat):Int) * 1) ((((hi - lo).toNat:Nat):Int) - ((0:Nat):Int)) 1;rw [e1,e2];exact Heap.get?_push_size _ rfl
 · have e:b=(s.heap.push { cls:=.type "range",data:=.fields #[.int lo t,.int hi u,.int 1 v] }).objs.size:=by simpa using hb
   subst e;exact I1.fpOk (Nat.le_refl _) (I1.hok.fresh (Nat.le_refl _))
def wY (ta:TA):TI:=fun σ H R=>ta σ H fun vs H1=>∃ j:Int,vs=[.int j]/\-(2 ^ 62)<=j/\j<2 ^ 62/\R (Itr 0 j.toNat) H1
theorem cg {a:Expr} {ta:TA} {p pos:Pos} (hg:Gl X "range") (hm:X.mg "range"=none) (ha:PA X [a] ta) (hs:starEach [a] X.env=[(false,eval a X.env)]:=by rfl):PI X tg (.Call (.Name "range" p) [a] [] pos) (wY ta):=by
 intro pins s σ H R I h;refine Call_ (gW I hg hm boot_range (PyProof.Rows.callWith_type1 (thn (ha pos pins s σ H _ I h) fun us s1 ⟨vs,H1,I1,r1,q1⟩=>?_) hs rfl));obtain ⟨j,e,q1,q2,q⟩:=q1;subst e;cases r1 with
 | cons r rr =>
   cases rr;obtain ⟨t,rfl⟩:=r;exact call_range_1 (tK I1 (by omega) (by omega) q1 q2 (by simpa using q))
def xZ (wi:TI) (g:TG) (tb:TS):TS:=fun D σ H=>wi σ H fun J H1=>∃ W:Nat->Nat->St->Hp->Prop,(∃ m,W 0 m σ H1)/\∀ i m σ H,W i m σ H →
 (J.stop i H/\D.nx σ H)∨(J.go i H/\∃ N:St->Hp->Prop,(∀ σ' H',N σ' H'->∃ m',m'<m/\W (i+1) m' σ' H')/\∀ x H',J.yld i H x H'->g x σ H' fun σ2 H2=>tb { D with nx:=N,ct:=N,bk:=D.nx } σ2 H2)
def km (fp:List Addr) (h:Heap):List (Addr×Obj):=fp.filterMap fun b=>(h.get? b).map fun o=>(b,o)
theorem fb {fp:List Addr} {h:Heap} {b:Addr} {o:Obj} (hb:b∈fp) (e:h.get? b=some o):(b,o)∈km fp h:=List.mem_filterMap.mpr ⟨b,hb,by rw [e];rfl⟩
theorem qU {fp:List Addr} {h:Heap} {p:Addr×Obj} (hp:p∈km fp h):p.1∈fp/\h.get? p.1=some p.2:=by
 obtain ⟨b,hb,e⟩:=List.mem_filterMap.mp hp;cases q:h.get? b with
 | none=>rw [q] at e;cases e
 | some o =>
   rw [q] at e;have e':(b,o)=p:=Option.some.inj e;subst e';exact ⟨hb,q⟩
theorem Inv.pinned {pins:List (Addr×Obj)} {σ:St} {H:Hp} {s:Shared} {fp:List Addr} (I:Inv X pins σ H s) (hf:∀ b∈fp,jc X pins H b) (ho:∀ b∈fp,∃ o,s.heap.get? b=some o/\∀ v,o.data≠.cell v):Inv X (pins++km fp s.heap) σ H s :=
 I.pins_of fun p hp=>(List.mem_append.mp hp).elim (fun z=>I.pin p (List.mem_append_right _ z)) fun z=>by
  obtain ⟨hb,e⟩:=qU z;obtain ⟨f0,f1,f2,_⟩:=hf p.1 hb;obtain ⟨o,e',d⟩:=ho p.1 hb;rw [e] at e';cases e';exact ⟨e,f0,f1,f2,d⟩
theorem Inv.unpinned {pins pl:List (Addr×Obj)} {σ:St} {H:Hp} {s:Shared} (I:Inv X (pins++pl) σ H s):Inv X pins σ H s:=I.pins_of fun p hp=>I.pin p (List.mem_append_right _ (List.mem_append_left _ hp))
theorem bP {iter:Expr} {body:List Stmt} {wi:TI} {g:TG} {tb:TS} {pos:Pos} (hp:PassesOwn (model X.prog X.w) X.A X.env X.xe) (hc:X.calm=true) (hi:PI X tg iter wi) (hg:PG X tg g) (hb:PSs X body tb)
 (hs:∀ x,foldedSetIterable iter X.env x=pure x:=by intro _;rfl):PS X (.For tg iter body [] pos) (xZ wi g tb):=by
 intro pins s σ H D I h;refine wpAny_For (thn (hi pins s σ H _ I h) fun v s1 h1=>thn h1 fun itv s2 h2=>?_) hs;obtain ⟨it,fp,tn,J,H2,e,I2,T,st2,f2,W,⟨m0,w0⟩,turn⟩:=h2;subst e
 -- what stays true of the iterator's objects through the loop
 have stat:∀ {H':Hp},(∀ b∈fp,H' b=none)->∀ b∈fp,jc X pins H' b:=fun hn b hb=>⟨hn b hb,(f2 b hb).2⟩;refine codeAny_forLoop_any (fun n s'=>∃ i σ' H',Inv X pins σ' H' s'/\tn i s'.heap/\(∀ b∈fp,H' b=none)/\W i n σ' H') ?_ m0 ⟨0,σ,H2,I2,st2,fun b hb=>(f2 b hb).1,w0⟩;rintro n s3 ⟨i,σ3,H3,I3,st3,fr3,w3⟩;rcases turn i n σ3 H3 w3 with ⟨stop,qn⟩ | ⟨go,N,hN,step⟩
 · refine wpAny_passesOwn hp (thn (T.done X rfl rfl rfl hc i pins s3 σ3 H3 X.xe I3 (stat fr3) st3 stop) fun r s4 ⟨hr,I4⟩=>?_);subst hr;exact wpAny_execs_nil ⟨σ3,H3,I4,qn⟩
 · refine wpAny_passesOwn hp (thn (T.item X rfl rfl rfl hc i pins s3 σ3 H3 X.xe I3 (stat fr3) st3 go) fun r s4 ⟨u,hr,h4⟩=>?_);subst hr;refine wpAny_passesOwn hp (thn h4 fun _ s5 ⟨x,H5,I5,r5,y5,st5,fr5⟩=>?_);have I5':=I5.pinned (stat fr5) (T.obj _ _ st5);refine wpAny_passesOwn hp (thn (hg _ s5 σ3 H5 x u _ I5' r5 (step x H5 y5)) fun _ s6 ⟨σ6,H6,I6,q6⟩=>?_);refine wpAny_passesOwn hp (thn (hb _ s6 σ6 H6 _ I6 q6) fun f s7 q7=>?_)
   have again:∀ {σ7:St} {H7:Hp},Inv X (pins++km fp s5.heap) σ7 H7 s7->N σ7 H7->∃ m,m<n/\∃ i σ' H',Inv X pins σ' H' s7/\tn i s7.heap/\(∀ b∈fp,H' b=none)/\W i m σ' H':=fun {σ7 H7} I7 n7=>by
    obtain ⟨m',hm,w7⟩:=hN σ7 H7 n7;refine ⟨m',hm,i+1,σ7,H7,I7.unpinned,T.keep _ _ _ st5 fun b hb o e=>(I7.pin (b,o) (List.mem_append_right _ (List.mem_append_right _ (fb hb e)))).1,fun b hb=>?_,w7⟩;obtain ⟨o,e,d⟩:=T.obj _ _ st5 b hb;exact (I7.pin (b,o) (List.mem_append_right _ (List.mem_append_right _ (fb hb e)))).2.1
   cases f with
   | next=>obtain ⟨σ7,H7,I7,n7⟩:=q7;exact again I7 n7
   | cont=>obtain ⟨σ7,H7,I7,n7⟩:=q7;exact again I7 n7
   | brk=>obtain ⟨σ7,H7,I7,q7⟩:=q7;exact ⟨σ7,H7,I7.unpinned,q7⟩
   | ret v=>obtain ⟨x7,σ7,H7,I7,r7,q7⟩:=q7;exact ⟨x7,σ7,H7,I7.unpinned,r7,q7⟩
end
theorem dj {K:PySem.W.Frag} {a:Addr} {xs:List V} {g:TG} {tb:TS} {D:Ends} {σ:St} {H:Hp} (Pv:Nat->St->Hp->Prop) (h0:Pv 0 σ H) (hl:∀ i σ H,i<=xs.length->Pv i σ H->SqL K H a xs)
 (hs:∀ i x σ H,xs[i]?=some x->Pv i σ H->g x σ H fun σ2 H2=>tb { D with nx:=Pv (i+1),ct:=Pv (i+1),bk:=D.nx } σ2 H2) (hd:∀ σ H,Pv xs.length σ H->D.nx σ H) :
 ∃ W:Nat->Nat->St->Hp->Prop,(∃ m,W 0 m σ H)/\∀ i m σ H,W i m σ H →
   ((Itl K a).stop i H/\D.nx σ H)∨((Itl K a).go i H/\∃ N:St->Hp->Prop,(∀ σ' H',N σ' H'->∃ m',m'<m/\W (i+1) m' σ' H')/\∀ x H',(Itl K a).yld i H x H'->g x σ H' fun σ2 H2=>tb { D with nx:=N,ct:=N,bk:=D.nx } σ2 H2):=by
 refine ⟨fun i m σ H=>m=xs.length - i/\i<=xs.length/\Pv i σ H,⟨xs.length,by simp,Nat.zero_le _,h0⟩,?_⟩;rintro i m σ H ⟨rfl,hi,p⟩;have q:=hl i σ H hi p;by_cases hlt:i<xs.length
 · refine .inr ⟨⟨xs,xs[i],q,by simp [hlt]⟩,Pv (i+1),fun σ' H' p'=>⟨xs.length - (i+1),by omega,rfl,hlt,p'⟩,fun x H' y=>?_⟩;obtain ⟨e,y⟩:=y;subst e;exact hs i x σ _ (y xs q) p
 · have e:i=xs.length:=by omega
   subst e;exact .inl ⟨⟨xs,q,Nat.le_refl _⟩,hd σ H p⟩
theorem qB {K:PySem.W.Frag} {a:Addr} {xs:List V} {g:TG} {tb:TS} {D:Ends} {σ:St} {H:Hp} (Pv:Nat->St->Hp->Prop) (h0:Pv 0 σ H) (hl:∀ i σ H,i<=xs.length->Pv i σ H->SqT K H a xs)
 (hs:∀ i x σ H,xs[i]?=some x->Pv i σ H->g x σ H fun σ2 H2=>tb { D with nx:=Pv (i+1),ct:=Pv (i+1),bk:=D.nx } σ2 H2) (hd:∀ σ H,Pv xs.length σ H->D.nx σ H) :
 ∃ W:Nat->Nat->St->Hp->Prop,(∃ m,W 0 m σ H)/\∀ i m σ H,W i m σ H →
   ((Itt K a).stop i H/\D.nx σ H)∨((Itt K a).go i H/\∃ N:St->Hp->Prop,(∀ σ' H',N σ' H'->∃ m',m'<m/\W (i+1) m' σ' H')/\∀ x H',(Itt K a).yld i H x H'->g x σ H' fun σ2 H2=>tb { D with nx:=N,ct:=N,bk:=D.nx } σ2 H2):=by
 refine ⟨fun i m σ H=>m=xs.length - i/\i<=xs.length/\Pv i σ H,⟨xs.length,by simp,Nat.zero_le _,h0⟩,?_⟩;rintro i m σ H ⟨rfl,hi,p⟩;have q:=hl i σ H hi p;by_cases hlt:i<xs.length
 · refine .inr ⟨⟨xs,xs[i],q,by simp [hlt]⟩,Pv (i+1),fun σ' H' p'=>⟨xs.length - (i+1),by omega,rfl,hlt,p'⟩,fun x H' y=>?_⟩;obtain ⟨e,y⟩:=y;subst e;exact hs i x σ _ (y xs q) p
 · have e:i=xs.length:=by omega
   subst e;exact .inl ⟨⟨xs,q,Nat.le_refl _⟩,hd σ H p⟩
theorem cN {lo:Int} {n:Nat} {g:TG} {tb:TS} {D:Ends} {σ:St} {H:Hp} (Pv:Nat->St->Hp->Prop) (h0:Pv 0 σ H)
 (hs:∀ i σ H,i<n->Pv i σ H->g (.int (lo+i)) σ H fun σ2 H2=>tb { D with nx:=Pv (i+1),ct:=Pv (i+1),bk:=D.nx } σ2 H2) (hd:∀ σ H,Pv n σ H->D.nx σ H) :
 ∃ W:Nat->Nat->St->Hp->Prop,(∃ m,W 0 m σ H)/\∀ i m σ H,W i m σ H →
   ((Itr lo n).stop i H/\D.nx σ H)∨((Itr lo n).go i H/\∃ N:St->Hp->Prop,(∀ σ' H',N σ' H'->∃ m',m'<m/\W (i+1) m' σ' H')/\∀ x H',(Itr lo n).yld i H x H'->g x σ H' fun σ2 H2=>tb { D with nx:=N,ct:=N,bk:=D.nx } σ2 H2):=by
 refine ⟨fun i m σ H=>m=n - i/\i<=n/\Pv i σ H,⟨n,by simp,Nat.zero_le _,h0⟩,?_⟩;rintro i m σ H ⟨rfl,hi,p⟩;by_cases hlt:i<n
 · refine .inr ⟨hlt,Pv (i+1),fun σ' H' p'=>⟨n - (i+1),by omega,rfl,hlt,p'⟩,fun x H' y=>?_⟩;obtain ⟨e,y⟩:=y;subst e y;exact hs i σ _ hlt p
 · have e:i=n:=by omega
   subst e;exact .inl ⟨Nat.le_refl _,hd σ H p⟩
end L2
namespace L2
open PySem PySem.Spec PyProof.Rows
abbrev R2:=V->V->Hp->VK->Prop
def OpR (X:Cx) (f:Value->Value->Sem Value) (r:R2):Prop :=
 ∀ (pins:List (Addr×Obj)) (s:Shared) (σ:St) (H:Hp) (x y:V) (v u:Value) (Q:VK),Inv X pins σ H s->RelV x v->RelV y u->r x y H Q →
   wpAny (model X.prog X.w) X.A (f v u) (EP X pins σ Q) X.xe s
def UnR (X:Cx) (f:Value->Sem Value) (r:V->Hp->VK->Prop):Prop :=
 ∀ (pins:List (Addr×Obj)) (s:Shared) (σ:St) (H:Hp) (x:V) (v:Value) (Q:VK),Inv X pins σ H s->RelV x v->r x H Q →
   wpAny (model X.prog X.w) X.A (f v) (EP X pins σ Q) X.xe s
def dQ (X:Cx) (f:Value) (r:List V->Hp->VK->Prop):Prop :=
 ∀ (pins:List (Addr×Obj)) (s:Shared) (σ:St) (H:Hp) (xs:List V) (us:List Value) (Q:VK),Inv X pins σ H s->Vals xs us->r xs H Q →
   wpAny (model X.prog X.w) X.A (call f us) (EP X pins σ Q) X.xe s
def xU (X:Cx) (r:V->Hp->(Bool->Hp->Prop)->Prop):Prop :=
 ∀ (pins:List (Addr×Obj)) (s:Shared) (σ:St) (H:Hp) (x:V) (v:Value) (Q:Bool->Hp->Prop),Inv X pins σ H s->RelV x v->r x H Q →
   wpAny (model X.prog X.w) X.A (truthy v) (TP X pins σ Q) X.xe s
def tOp (r:R2) (ta tb:TE):TE:=fun σ H Q=>ta σ H fun x H1=>tb σ H1 fun y H2=>r x y H2 Q
def tUn (r:V->Hp->VK->Prop) (ta:TE):TE:=fun σ H Q=>ta σ H fun x H1=>r x H1 Q
inductive IrI (C:Int->Int->Prop) (g:Int->Int->V) (x:V) (y:V) (H:Hp) (Q:VK):Prop
 | mk (i:_) (j:_) (zz0:x=.int i) (zz1:y=.int j) (zz2:C i j) (zz3:Q (g i j) H):IrI C g x y H Q
def rI (C:Int->Int->Prop) (g:Int->Int->V):R2:=IrI C g
inductive wR (g:Int->Int->V) (x:V) (y:V) (H:Hp) (Q:VK):Prop
 | mk (i:_) (j:_) (zz0:x=.int i) (zz1:y=.int j) (zz2:Q (g i j) H):wR g x y H Q
def rI0 (g:Int->Int->V):R2:=wR g
inductive IrU (g:Int->V) (x:V) (H:Hp) (Q:VK):Prop
 | mk (i:_) (zz0:x=.int i) (zz1:Q (g i) H):IrU g x H Q
def rU (g:Int->V):V->Hp->VK->Prop:=IrU g
section
variable {X:Cx} {a b c:Expr} {ta tb tc:TE} {pos:Pos}
theorem vU (ha:PE X a ta) (hb:PE X b tb) {pins:List (Addr×Obj)} {s:Shared} {σ:St} {H:Hp} {R:V->V->Hp->Prop} (I:Inv X pins σ H s)
 (h:ta σ H fun x H1=>tb σ H1 fun y H2=>R x y H2) {Q:Value->Shared->Prop} {f:Value->Value->Sem Value}
 (hf:∀ v u s2 x y H2,Inv X pins σ H2 s2->RelV x v->RelV y u->R x y H2->wpAny (model X.prog X.w) X.A (f v u) Q X.xe s2) :
 wpAny (model X.prog X.w) X.A (eval a X.env) (fun v s₁=>wpAny (model X.prog X.w) X.A (eval b X.env) (fun u s₂=>wpAny (model X.prog X.w) X.A (f v u) Q X.xe s₂) X.xe s₁) X.xe s:=by
 refine thn (ha pins s σ H _ I h) fun v s1 ⟨x,H1,I1,r1,q1⟩=>?_;refine thn (hb pins s1 σ H1 _ I1 q1) fun u s2 ⟨y,H2,I2,r2,q2⟩=>?_;exact hf v u s2 x y H2 I2 r1 r2 q2
theorem av {op:Operator} {r:R2} (ho:OpR X (binaryOp op) r) (ha:PE X a ta) (hb:PE X b tb):PE X (.BinOp a op b pos) (tOp r ta tb):=by
 intro pins s σ H Q I h;exact wpAny_BinOp (vU ha hb I h fun v u s2 x y H2 I2 rx ry q=>ho pins s2 σ H2 x y v u Q I2 rx ry q)
theorem vp {op:UnaryOp} {r:V->Hp->VK->Prop} (ho:UnR X (unaryOp op) r) (ha:PE X a ta):PE X (.UnaryOp op a pos) (tUn r ta):=by
 intro pins s σ H Q I h;exact UnaryOp_ (thn (ha pins s σ H _ I h) fun v s1 ⟨x,H1,I1,r1,q1⟩=>ho pins s1 σ H1 x v Q I1 r1 q1)
theorem opI {f:Value->Value->Sem Value} {C:Int->Int->Prop} {g:Int->Int->Int}
 (rule:∀ (i j:Int) (t u:Tok) (s:Shared) (Q:Value->Shared->Prop) (E:Value->Shared->Prop),C i j->Q (.int (g i j) s.toks) { s with toks:=s.toks+1 }->wpAny (model X.prog X.w) X.A (f (.int i t) (.int j u)) Q E s) :
 OpR X f (rI C fun i j=>.int (g i j)):=by
 intro pins s σ H x y v u Q I rx ry h;obtain ⟨i,j,rfl,rfl,hc,q⟩:=h;obtain ⟨t,rfl⟩:=rx;obtain ⟨t',rfl⟩:=ry;exact rule i j t t' s _ _ hc ⟨.int (g i j),H,I.tok _,⟨_,rfl⟩,q⟩
theorem xE {f:Value->Value->Sem Value} {g:Int->Int->Int}
 (rule:∀ (i j:Int) (t u:Tok) (s:Shared) (Q:Value->Shared->Prop) (E:Value->Shared->Prop),Q (.int (g i j) s.toks) { s with toks:=s.toks+1 }->wpAny (model X.prog X.w) X.A (f (.int i t) (.int j u)) Q E s) :
 OpR X f (rI0 fun i j=>.int (g i j)):=by
 intro pins s σ H x y v u Q I rx ry h;obtain ⟨i,j,rfl,rfl,q⟩:=h;obtain ⟨t,rfl⟩:=rx;obtain ⟨t',rfl⟩:=ry;exact rule i j t t' s _ _ ⟨.int (g i j),H,I.tok _,⟨_,rfl⟩,q⟩
theorem uj {f:Value->Value->Sem Value} {g:Int->Int->Bool}
 (rule:∀ (i j:Int) (t u:Tok) (s:Shared) (Q:Value->Shared->Prop) (E:Value->Shared->Prop),Q (.bool (g i j)) s->wpAny (model X.prog X.w) X.A (f (.int i t) (.int j u)) Q E s) :
 OpR X f (rI0 fun i j=>.bl (g i j)):=by
 intro pins s σ H x y v u Q I rx ry h;obtain ⟨i,j,rfl,rfl,q⟩:=h;obtain ⟨t,rfl⟩:=rx;obtain ⟨t',rfl⟩:=ry;exact rule i j t t' s _ _ ⟨.bl (g i j),H,I,rfl,q⟩
def ye (i j:Int):Prop:=0<j/\j<1073741824
def CMul (i j:Int):Prop:=(-(2 ^ 64)<i/\i<2 ^ 64)∨(-(2 ^ 64)<j/\j<2 ^ 64)
theorem CMul.ok {i j:Int} (h:CMul i j):IntMulOk i j:=by
 rcases h with ⟨h1,h2⟩ | ⟨h1,h2⟩
 · exact .of_left (intBits_le_64 h1 h2)
 · exact .of_right (intBits_le_64 h1 h2)
theorem bO:OpR X (binaryOp .Add) (rI0 fun i j=>.int (i+j)):=xE fun _ _ _ _ _ _ _ q=>add_int q
theorem mY:OpR X (binaryOp .Sub) (rI0 fun i j=>.int (i - j)):=xE fun _ _ _ _ _ _ _ q=>sub_int q
theorem eG:OpR X (binaryOp .Mult) (rI CMul fun i j=>.int (i * j)):=opI fun _ _ _ _ _ _ _ hc q=>mul_int q hc.ok
theorem bW:OpR X (binaryOp .FloorDiv) (rI ye fun i j=>.int (i / j)):=opI fun i j _ _ _ _ _ hc q=>by
 have h1:(0:Int)<j:=hc.1;have h2:j<1073741824:=hc.2;exact floordiv_int (by omega) (by rw [Int.fdiv_eq_ediv_of_nonneg i (by omega)];exact q) (.inl (PyProof.noPylong_small (by omega)))
theorem bD:OpR X (binaryOp .Mod) (rI (fun _ j=>0<j) fun i j=>.int (i%j)):=opI fun i j _ _ _ _ _ hc q=>by
 have h1:(0:Int)<j:=hc;exact mod_int' (by omega) (by rw [Int.fmod_eq_emod_of_nonneg i (by omega)];exact q)
theorem unI {f:Value->Sem Value} {g:Int->Int}
 (rule:∀ (i:Int) (t:Tok) (s:Shared) (Q:Value->Shared->Prop) (E:Value->Shared->Prop),Q (.int (g i) s.toks) { s with toks:=s.toks+1 }->wpAny (model X.prog X.w) X.A (f (.int i t)) Q E s) :
 UnR X f (rU fun i=>.int (g i)):=by
 intro pins s σ H x v Q I rx h;obtain ⟨i,rfl,q⟩:=h;obtain ⟨t,rfl⟩:=rx;exact rule i t s _ _ ⟨.int (g i),H,I.tok _,⟨_,rfl⟩,q⟩
theorem sf:UnR X (unaryOp .USub) (rU fun i=>.int (-i)):=unI fun _ _ _ _ _ q=>neg_int q
end
def xo:V->V->Bool
 | .non,.non=>true | .non,.int _=>true | .int _,.non=>true | .non,.bl _=>true | .bl _,.non=>true | .non,.str _=>true | .str _,.non=>true
 | .int _,.int _=>true | .bl _,.bl _=>true | .str _,.str _=>true | .byt _,.byt _=>true
 | .int _,.str _=>true | .str _,.int _=>true | .bl _,.str _=>true | .str _,.bl _=>true
 | _,_=>false
inductive xw (x:V) (y:V) (H:Hp) (Q:VK):Prop
 | mk  (zz0:xo x y=true) (zz1:Q (.bl (decide (x=y))) H):xw  x y H Q
def rEq:R2:=xw
inductive xF (x:V) (y:V) (H:Hp) (Q:VK):Prop
 | mk  (zz0:xo x y=true) (zz1:Q (.bl (!decide (x=y))) H):xF  x y H Q
def rNe:R2:=xF
theorem qH {i j:Int}:decide (V.int i=V.int j)=(i == j):=by
 rw [Bool.eq_iff_iff];simp
theorem se {i j:Bool}:decide (V.bl i=V.bl j)=(i == j):=by
 rw [Bool.eq_iff_iff];simp
theorem qF {i j:Str}:decide (V.str i=V.str j)=(i == j):=by
 rw [Bool.eq_iff_iff];simp
theorem qq {i j:Array UInt8}:decide (V.byt i=V.byt j)=(i.toList == j.toList):=by
 rw [Bool.eq_iff_iff];cases i;cases j;simp
section
variable {X:Cx} {a b c:Expr} {ta tb tc:TE} {pos:Pos}
theorem aZ {pins:List (Addr×Obj)} {σ:St} {H:Hp} {s:Shared} {Q:VK} {k k':Bool} (I:Inv X pins σ H s) (q:Q (.bl k) H) (e:k=k'):EP X pins σ Q (.bool k') s:=by
 subst e;exact ⟨.bl k,H,I,rfl,q⟩
theorem fZ:OpR X (compareOp .Eq) rEq:=by
 intro pins s σ H x y v u Q I rx ry h;obtain ⟨hs,q⟩:=h;cases x with
 | non =>
   cases rx;cases y with
   | non=>cases ry;exact PySem.EqNone.eq_none_none (aZ I q (by simp))
   | bl j=>cases ry;exact PySem.EqNone.eq_none_bool (aZ I q (by simp))
   | int j=>obtain ⟨t',rfl⟩:=ry;exact PySem.EqNone.eq_none_int (aZ I q (by simp))
   | str j=>obtain ⟨t',rfl⟩:=ry;exact PySem.EqNone.eq_none_str (aZ I q (by simp))
   | _=>exact absurd (show false=true from hs) Bool.false_ne_true
 | bl i =>
   cases rx;cases y with
   | non=>cases ry;exact PySem.EqNone.eq_bool_none (aZ I q (by simp))
   | bl j=>cases ry;exact eq_bool (aZ I q se)
   | str j=>obtain ⟨t',rfl⟩:=ry;exact PySem.EqMixed.eq_bool_str (aZ I q (by simp))
   | _=>exact absurd (show false=true from hs) Bool.false_ne_true
 | int i =>
   obtain ⟨t,rfl⟩:=rx;cases y with
   | non=>cases ry;exact PySem.EqNone.eq_int_none (aZ I q (by simp))
   | int j=>obtain ⟨t',rfl⟩:=ry;exact eq_int (aZ I q qH)
   | str j=>obtain ⟨t',rfl⟩:=ry;exact PySem.EqMixed.eq_int_str (aZ I q (by simp))
   | _=>exact absurd (show false=true from hs) Bool.false_ne_true
 | str i =>
   obtain ⟨t,rfl⟩:=rx;cases y with
   | non=>cases ry;exact PySem.EqNone.eq_str_none (aZ I q (by simp))
   | bl j=>cases ry;exact PySem.EqMixed.eq_str_bool (aZ I q (by simp))
   | int j=>obtain ⟨t',rfl⟩:=ry;exact PySem.EqMixed.eq_str_int (aZ I q (by simp))
   | str j=>obtain ⟨t',rfl⟩:=ry;exact eq_str (aZ I q qF)
   | _=>exact absurd (show false=true from hs) Bool.false_ne_true
 | byt i =>
   obtain ⟨t,rfl⟩:=rx;cases y with
   | byt j=>obtain ⟨t',rfl⟩:=ry;exact PySem.W.eq_bytes (aZ I q qq)
   | _=>exact absurd (show false=true from hs) Bool.false_ne_true
 | _=>cases y <;> exact absurd (show false=true from hs) Bool.false_ne_true
theorem tu:OpR X (compareOp .NotEq) rNe:=by
 intro pins s σ H x y v u Q I rx ry h;obtain ⟨hs,q⟩:=h;cases x with
 | non =>
   cases rx;cases y with
   | non=>cases ry;exact PySem.EqNone.ne_none_none (aZ I q (by simp))
   | bl j=>cases ry;exact PySem.EqNone.ne_none_bool (aZ I q (by simp))
   | int j=>obtain ⟨t',rfl⟩:=ry;exact PySem.EqNone.ne_none_int (aZ I q (by simp))
   | str j=>obtain ⟨t',rfl⟩:=ry;exact PySem.EqNone.ne_none_str (aZ I q (by simp))
   | _=>exact absurd (show false=true from hs) Bool.false_ne_true
 | bl i =>
   cases rx;cases y with
   | non=>cases ry;exact PySem.EqNone.ne_bool_none (aZ I q (by simp))
   | bl j=>cases ry;exact ne_bool (aZ I q (congrArg not se))
   | str j=>obtain ⟨t',rfl⟩:=ry;exact PySem.EqMixed.ne_bool_str (aZ I q (by simp))
   | _=>exact absurd (show false=true from hs) Bool.false_ne_true
 | int i =>
   obtain ⟨t,rfl⟩:=rx;cases y with
   | non=>cases ry;exact PySem.EqNone.ne_int_none (aZ I q (by simp))
   | int j=>obtain ⟨t',rfl⟩:=ry;exact ne_int (aZ I q (congrArg not qH))
   | str j=>obtain ⟨t',rfl⟩:=ry;exact PySem.EqMixed.ne_int_str (aZ I q (by simp))
   | _=>exact absurd (show false=true from hs) Bool.false_ne_true
 | str i =>
   obtain ⟨t,rfl⟩:=rx;cases y with
   | non=>cases ry;exact PySem.EqNone.ne_str_none (aZ I q (by simp))
   | bl j=>cases ry;exact PySem.EqMixed.ne_str_bool (aZ I q (by simp))
   | int j=>obtain ⟨t',rfl⟩:=ry;exact PySem.EqMixed.ne_str_int (aZ I q (by simp))
   | str j=>obtain ⟨t',rfl⟩:=ry;exact ne_str (aZ I q (congrArg not qF))
   | _=>exact absurd (show false=true from hs) Bool.false_ne_true
 | byt i =>
   obtain ⟨t,rfl⟩:=rx;cases y with
   | byt j=>obtain ⟨t',rfl⟩:=ry;exact PySem.W.ne_bytes (aZ I q (congrArg not qq))
   | _=>exact absurd (show false=true from hs) Bool.false_ne_true
 | _=>cases y <;> exact absurd (show false=true from hs) Bool.false_ne_true
theorem oZ:OpR X (compareOp .Lt) (rI0 fun i j=>.bl (decide (i<j))):=uj fun _ _ _ _ _ _ _ q=>lt_int q
theorem jv:OpR X (compareOp .LtE) (rI0 fun i j=>.bl (decide (i<=j))):=uj fun _ _ _ _ _ _ _ q=>le_int q
theorem fI:OpR X (compareOp .Gt) (rI0 fun i j=>.bl (decide (j<i))):=uj fun _ _ _ _ _ _ _ q=>gt_int q
theorem w6:OpR X (compareOp .GtE) (rI0 fun i j=>.bl (decide (j<=i))):=uj fun _ _ _ _ _ _ _ q=>ge_int q
theorem aJ (b:Expr) {op:CmpOp} (h:op≠.In:=by decide) (h2:op≠.NotIn:=by decide):behindInMarks op b=false:=by
 have e1:(op == CmpOp.In)=false:=by cases op <;> first | rfl | exact absurd rfl h
 have e2:(op == CmpOp.NotIn)=false:=by cases op <;> first | rfl | exact absurd rfl h2
 cases b <;> simp [behindInMarks,e1,e2]
theorem cS {op:CmpOp} {r:R2} (ho:OpR X (compareOp op) r) (ha:PE X a ta) (hb:PE X b tb) (hm:behindInMarks op b=false):PE X (.Compare a [op] [b] pos) (tOp r ta tb):=by
 intro pins s σ H Q I h;exact wpAny_Compare1 (vU ha hb I h fun v u s2 x y H2 I2 rx ry q=>ho pins s2 σ H2 x y v u Q I2 rx ry q) hm
inductive vx (x:V) (Q:Bool->Hp->Prop) (H':Hp):Prop
 | mk (k:Bool) (zz0:x=.bl k) (zz1:Q k H'):vx x Q H'
def oG (t:TE):TT:=fun σ H Q=>t σ H fun x H'=>vx x Q H'
theorem aN {op:CmpOp} {r:R2} (ho:OpR X (compareOp op) r) (ha:PE X a ta) (hb:PE X b tb) (hm:behindInMarks op b=false):PT X (.Compare a [op] [b] pos) (oG (tOp r ta tb)):=by
 intro pins s σ H Q I h
 refine wpAny_isTrue_Compare1 (thn (ha pins s σ H _ I h) fun v s1 ⟨x,H1,I1,r1,q1⟩=>thn (hb pins s1 σ H1 _ I1 q1) fun u s2 ⟨y,H2,I2,r2,q2⟩ =>
  thn (ho pins s2 σ H2 x y v u _ I2 r1 r2 q2) fun c s3 ⟨z,H3,I3,r3,k,e,q3⟩=>?_) hm
 subst e;cases r3;exact wpAny_truthy_bool ⟨H3,I3,q3⟩
def px (r r':R2) (ta tb tc:TE):TE:=fun σ H Q=>ta σ H fun x H1=>tb σ H1 fun y H2=>r x y H2 fun z H3=>∃ k,z=.bl k ∧
 (if k=true then tc σ H3 fun w' H4=>r' y w' H4 Q else Q (.bl false) H3)
theorem oz {op op':CmpOp} {r r':R2} (ho:OpR X (compareOp op) r) (ho':OpR X (compareOp op') r') (ha:PE X a ta) (hb:PE X b tb) (hc:PE X c tc)
 (hm:lastMarks [op,op'] [b,c]=false:=by with_unfolding_all rfl):PE X (.Compare a [op,op'] [b,c] pos) (px r r' ta tb tc):=by
 intro pins s σ H Q I h
 refine Compare_chain (thn (ha pins s σ H _ I h) fun v s1 ⟨x,H1,I1,r1,q1⟩=>chain_link (thn (hb pins s1 σ H1 _ I1 q1) fun u s2 ⟨y,H2,I2,r2,q2⟩ =>
  thn (ho pins s2 σ H2 x y v u _ I2 r1 r2 q2) fun d s3 ⟨z,H3,I3,r3,k,e,q3⟩=>?_)) hm
 subst e;cases r3;refine wpAny_truthy_bool ?_;cases k with
 | false=>exact ite_ff ⟨.bl false,H3,I3,rfl,q3⟩
 | true=>exact ite_tt (chain_last (thn (hc pins s3 σ H3 _ I3 q3) fun w' s4 ⟨z',H4,I4,r4,q4⟩=>ho' pins s4 σ H4 y z' u w' Q I4 r2 r4 q4))
theorem om {op op':CmpOp} {r r':R2} (ho:OpR X (compareOp op) r) (ho':OpR X (compareOp op') r') (ha:PE X a ta) (hb:PE X b tb) (hc:PE X c tc)
 (hm:lastMarks [op,op'] [b,c]=false:=by with_unfolding_all rfl):PT X (.Compare a [op,op'] [b,c] pos) (oG (px r r' ta tb tc)):=by
 intro pins s σ H Q I h
 refine isTrue_chain (thn (ha pins s σ H _ I h) fun v s1 ⟨x,H1,I1,r1,q1⟩=>test_link (thn (hb pins s1 σ H1 _ I1 q1) fun u s2 ⟨y,H2,I2,r2,q2⟩ =>
  thn (ho pins s2 σ H2 x y v u _ I2 r1 r2 q2) fun d s3 ⟨z,H3,I3,r3,k,e,q3⟩=>?_)) hm
 subst e;cases r3;refine wpAny_truthy_bool ?_;cases k with
 | false =>
   obtain ⟨k',e',q'⟩:=q3;cases e';exact ite_ff ⟨H3,I3,q'⟩
 | true =>
   refine ite_tt (test_last (thn (hc pins s3 σ H3 _ I3 q3) fun w' s4 ⟨z',H4,I4,r4,q4⟩=>thn (ho' pins s4 σ H4 y z' u w' _ I4 r2 r4 q4) fun d' s5 ⟨z2,H5,I5,r5,k2,e2,q5⟩=>?_));subst e2;cases r5;exact wpAny_truthy_bool ⟨H5,I5,q5⟩
def vW (K:PySem.W.Frag) (x:V) (H:Hp) (k:Bool):Prop :=
 match x with
 | .non=>k=false
 | .bl b=>k=b
 | .int i=>k=(i != 0)
 | .str y=>y.length<=sizeLine/\k=((y.length:Int) != 0)
 | .byt y=>y.size<=sizeLine/\k=((y.size:Int) != 0)
 | .ref p=>(∃ xs,SqL K H p xs/\k=!xs.isEmpty)∨(∃ xs,SqT K H p xs/\k=!xs.isEmpty)∨∃ kvs,H p=some (.dK kvs)/\k=!kvs.isEmpty
 | _=>False
theorem pR {κ:Type} {kvs:List (κ×V)} {vs:List (κ×Value)} (r:KV kvs vs):(!vs.isEmpty)=!kvs.isEmpty:=by
 cases r <;> rfl
theorem li {xs:List V} {its:List Value} (r:Vals xs its):(!its.toArray.isEmpty)=!xs.isEmpty:=by
 cases r <;> simp
theorem fe:(sizeLine:Nat)<2 ^ 63:=by rw [sizeLine_eq];decide
theorem vS:xU X (fun x H Q=>∃ k,vW X.K x H k/\Q k H):=by
 intro pins s σ H x v Q I rx h;obtain ⟨k,e,q⟩:=h;have hl:=fe;have hs:sizeLine=16777216:=sizeLine_eq;cases x with
 | non =>
   cases rx;have e':k=false:=e;subst e';exact truthy_none ⟨H,I,q⟩
 | bl b =>
   cases rx;have e':k=b:=e;subst e';exact wpAny_truthy_bool ⟨H,I,q⟩
 | int i =>
   obtain ⟨t,rfl⟩:=rx;have e':k=(i != 0):=e;subst e';exact PySem.P.truthy_int ⟨H,I,q⟩
 | str y =>
   obtain ⟨t,rfl⟩:=rx;obtain ⟨hy,e'⟩:y.length<=sizeLine/\k=((y.length:Int) != 0):=e;subst e';exact PySem.P.truthy_str (by omega) ⟨H,I.tok _,q⟩
 | byt y =>
   obtain ⟨t,rfl⟩:=rx;obtain ⟨hy,e'⟩:y.size<=sizeLine/\k=((y.size:Int) != 0):=e;subst e';exact PySem.W.truthy_bytes (by omega) ⟨H,I.tok _,q⟩
 | ref p =>
   cases rx;have e':(∃ xs,SqL X.K H p xs/\k=!xs.isEmpty)∨(∃ xs,SqT X.K H p xs/\k=!xs.isEmpty)∨∃ kvs,H p=some (.dK kvs)/\k=!kvs.isEmpty:=e;rcases e' with ⟨xs,hx,e'⟩ | ⟨xs,hx,e'⟩ | ⟨kvs,hx,e'⟩
   · subst e';obtain ⟨its,r,pl,hz⟩:=I.list hx;have hlen:=r.length;exact wpAny_truthy_list pl.isList (by simp only [List.size_toArray];omega) ⟨H,I.tok _,by rw [li r];exact q⟩
   · subst e';obtain ⟨its,r,pl,hz⟩:=I.tuple hx;have hlen:=r.length;exact truthy_tuple pl (by simp only [List.size_toArray];omega) ⟨H,I.tok _,by rw [li r];exact q⟩
   · subst e';obtain ⟨hz,hS,vs,r,m⟩:kvs.length<=sizeLine/\(p == sysModules)=false/\∃ vs,KV kvs vs/\s.heap.DictOf (az X.prog X.w) p vs:=I.hok p _ hx;have hlen:kvs.length=vs.length:=Paired.length r;exact wpAny_truthy_dict hS m (by omega) ⟨H,I.tok _,by rw [pR r];exact q⟩
 | _=>exact (show False from e).elim
theorem aV (ha:PE X a ta) (he:∀ whole,isTrue a X.env whole=(do let v ← whole;standAt a.pos;holding [v] (truthy v))) :
 PT X a (fun σ H Q=>ta σ H fun x H'=>∃ k,vW X.K x H' k/\Q k H'):=by
 intro pins s σ H Q I h;exact isTrue_plain (thn (ha pins s σ H _ I h) fun v s1 ⟨x,H1,I1,r1,q1⟩=>vS pins s1 σ H1 x v Q I1 r1 q1) (he _)
theorem hG:OpR X (binaryOp .Add) (fun x y H Q=>∃ i j,x=.str i/\y=.str j/\i.length+j.length<=sizeLine/\Q (.str (i++j)) H):=by
 intro pins s σ H x y v u Q I rx ry h;obtain ⟨i,j,rfl,rfl,hz,q⟩:=h;obtain ⟨t,rfl⟩:=rx;obtain ⟨t',rfl⟩:=ry;exact add_str (fun t' tk=>⟨.str (i++j),H,I.tok _,⟨_,rfl⟩,q⟩) hz
theorem vals1 {x:V} {us:List Value} (r:Vals [x] us):∃ u,us=[u]/\RelV x u:=by
 cases r with
 | cons r1 r2=>cases r2;exact ⟨_,rfl,r1⟩
theorem vals2 {x y:V} {us:List Value} (r:Vals [x,y] us):∃ u w',us=[u,w']/\RelV x u/\RelV y w':=by
 cases r with
 | cons r1 r2 =>
   cases r2 with
   | cons r3 r4=>cases r4;exact ⟨_,_,rfl,r1,r3⟩
theorem me:dQ X (.type "int") (fun xs H Q=>(∃ i,xs=[.int i]/\Q (.int i) H)∨∃ k,xs=[.bl k]/\Q (.int (if k then 1 else 0)) H):=by
 intro pins s σ H xs us Q I r h;rcases h with ⟨i,rfl,q⟩ | ⟨k,rfl,q⟩
 · obtain ⟨u,rfl,t,rfl⟩:=vals1 r;exact call_int_int ⟨.int i,H,I,⟨_,rfl⟩,q⟩
 · obtain ⟨u,rfl,r1⟩:=vals1 r;cases r1;exact call_int_bool ⟨.int (if k then 1 else 0),H,I.tok _,⟨_,rfl⟩,q⟩
end
end L2
namespace L2
open PySem PySem.Spec PyProof.Rows
structure ObjM (h:Heap) (x dx C:Addr) (mA:Str->Option Value):Prop where
 obj:h.get? x=some (PySem.W.instObj C dx)
 ns:h.Ns1 dx mA
 ne:dx≠x
theorem rF {h:Heap} {dx:Addr} {mA:Str->Option Value} (n:h.Ns1 dx mA):∃ od,h.get? dx=some od/\∀ name,PySem.W.lookIn name od=some (mA name):=by
 obtain ⟨o,es,ep,ho,hd,hk,_,hm⟩:=n;refine ⟨o,ho,fun name=>?_⟩;have e:=hm name;unfold nsFind findBy at e;rw [<- Array.find?_toList] at e;unfold PySem.W.lookIn;rw [hd];dsimp only;split
 · rename_i y q
   rw [q] at e;exact congrArg some e
 · rename_i q
   rw [q] at e
   have a:es.toList.any (·.refKey)=false:=by
    rw [List.any_eq_false];intro y hy;obtain ⟨z,t,hkey⟩:=hk y (Array.mem_toList_iff.mp hy);simp [DictEntry.refKey,hkey]
   have a':¬ es.toList.any (·.refKey)=true:=by rw [a];exact Bool.false_ne_true
   rw [if_neg a'];exact congrArg some e
theorem ObjM.look {h:Heap} {x dx C:Addr} {mA:Str->Option Value} (I:ObjM h x dx C mA):∃ od,PySem.W.InstAt h x (PySem.W.instObj C dx) C (some od)/\∀ name,PySem.W.lookIn name od=some (mA name) :=
 let ⟨od,ho,hl⟩:=rF I.ns
 ⟨od,⟨I.obj,rfl,rfl,ho⟩,hl⟩
section
variable {prog:Program} {w:World} {A:Around} {E:Value->Shared->Prop} {s:Shared} {K:PySem.W.Frag} {x dx C f:Addr} {mA:Str->Option Value} {name:Str} {v:Value}
theorem ur {expr:Bool} {Q:Value->Shared->Prop} (X:K.In s.heap) (I:ObjM s.heap x dx C mA) (hg:PySem.W.plainGet K C name=true) (hh:PySem.W.hasDictIn K C=true)
 (ha:PySem.W.findIn K (.ref C) name=some none) (hv:mA name=some v) (hv':PySem.W.handedIn v=true) (h:Q v { s with toks:=s.toks+1 }) :
 wpAny (model prog w) A (getAttr (.ref x) name expr) Q E s:=by
 obtain ⟨od,J,hl⟩:=I.look;exact PySem.W.get_value X J (PySem.W.plainGet_of hg).1 (PySem.W.findObj_own hh ha rfl (by rw [hl,hv])) hv' h
theorem rN {pl:Sem Bool} {Q:Value×List Value->Shared->Prop} (X:K.In s.heap) (I:ObjM s.heap x dx C mA) (hg:PySem.W.plainGet K C name=true)
 (hf:PySem.W.findIn K (.ref C) name=some (some (.ref f))) (ht:PySem.W.isFn K (.ref f)=true) (hv:mA name=none) (h:Q (.ref f,[.ref x]) s) :
 wpAny (model prog w) A (getMethod (.ref x) name pl) Q E s:=by
 obtain ⟨od,J,hl⟩:=I.look;exact PySem.W.method_fn X J (PySem.W.plainGet_of hg).1 (PySem.W.plainGet_of hg).2 hf (beq_iff_eq.mp ht) (by show (PySem.W.lookIn name od).map (·.isSome)=some false;rw [hl,hv];rfl) h
theorem ut {ns:List Str} {Q:Unit->Shared->Prop} (X:K.In s.heap) (I:ObjM s.heap x dx C mA)
 (hs:PySem.W.findIn K (.ref C) "__setattr__"=some (some (.builtin "object.__setattr__"))) (hp:PySem.W.plainOver K C=true) (ht:PySem.W.takerIn K C name=some none) (hh:PySem.W.hasDictIn K C=true)
 (hw:PySem.Within mA ns) (hsz:ns.length<=sizeLine)
 (h:∀ h',ObjM h' x dx C (fun y=>if y=name then some v else mA y)->Heap.SameBut dx s.heap h'->Q () { s with heap:=h',toks:=s.toks+2 }) :
 wpAny (model prog w) A (setAttr (.ref x) name v) Q E s:=by
 obtain ⟨od,J,hl⟩:=I.look;refine PySem.W.set_plain X J hs (PySem.W.osa_open (s:={ s with toks:=s.toks+1 }) (r:=none) X J hp ht fun b=>?_);obtain ⟨cd,hc,hd'⟩:=PySem.W.any_some hh;have hx:s.heap.get? x=some ⟨.ref C,some dx,.plain,#[]⟩:=I.obj;refine wpAny_bind (wpAny_pure (wpAny_bind (wpAny_bind (wpAny_loadPart hx (wpAny_bind (PySem.W.Looks.here (s:={ s with toks:=s.toks+1 }) (PySem.W.looks_clsIn X hc) ?_))))));rw [hd'];refine wpAny_pure (a:=some dx) (wpAny_bind (wpAny_pure (wpAny_bind ?_)));refine wpAny_nsSet1 (s:={ s with toks:=s.toks+1 }) I.ns fun h' hn2 hs2=>?_;obtain ⟨oD,esD,epD,hoD,hdD,hcD⟩:=hn2.count (PySem.Within.cons name v hw);refine wpAny_bind (wpAny_lookBehind hoD (by rw [hdD];exact pastItsLine_dict (Nat.le_trans hcD (by rw [List.length_cons];omega))) ?_);exact wpAny_pure (h _ ⟨(hs2.2 _ (Ne.symm I.ne)).trans I.obj,hn2,I.ne⟩ hs2)
theorem sJ {R:Result->Shared->Prop} {vs:List Value} {kw:List (Str×Value)} (X:K.In s.heap) (hm:PySem.W.makesIn K C=true)
 (hi:PySem.W.findIn K (.ref C) "__init__"=some (some (.ref f))) (hf:PySem.W.typeIn K (.ref f)=some (.type "function"))
 (h:codeAny (model prog w) (A.under (.builtin "type.__call__" ⟨.ref C::vs,kw⟩)) (.call (.ref f) ⟨.ref (s.heap.objs.size+1)::vs,kw⟩) (PySem.W.InitBack (s.heap.objs.size+1) R)
  { s with heap:=(s.heap.push PySem.W.emptyDict).push (PySem.W.instObj C s.heap.objs.size) }) :
 codeAny (model prog w) A (.call (.ref C) ⟨vs,kw⟩) R s:=by
 obtain ⟨hh,g,d,t,os⟩:=s;exact PySem.W.make_core (PySem.W.makes_of X hm) (PySem.W.looks_findIn X hi) (fun self=>PySem.W.bind_fn X self hf) (.inl rfl) h
end
def cV (f:Str) (v:V):List (Str×V)->List (Str×V)
 | []=>[(f,v)]
 | (g,x)::r=>if g=f then (g,v)::r else (g,x)::cV f v r
theorem jG (f g:Str) (v:V):∀ fs:List (Str×V),(cV f v fs).lookup g=if g=f then some v else fs.lookup g
 | []=>by
   show List.lookup g [(f,v)]=_;by_cases h:g=f
   · have hb:(g == f)=true:=beq_iff_eq.mpr h;simp only [List.lookup,hb,if_pos h]
   · have hb:(g == f)=false:=beq_eq_false_iff_ne.mpr h;simp only [List.lookup,hb,if_neg h]
 | (k,x)::r=>by
   have ih:=jG f g v r;rw [show cV f v ((k,x)::r)=(if k=f then (k,v)::r else (k,x)::cV f v r) from rfl];by_cases hk:k=f
   · rw [if_pos hk];by_cases h:g=k
     · have hb:(g == k)=true:=beq_iff_eq.mpr h;simp only [List.lookup,hb,if_pos (h.trans hk)]
     · have hb:(g == k)=false:=beq_eq_false_iff_ne.mpr h;simp only [List.lookup,hb,if_neg (fun e:g=f=>h (e.trans hk.symm))]
   · rw [if_neg hk];by_cases h:g=k
     · have hb:(g == k)=true:=beq_iff_eq.mpr h;simp only [List.lookup,hb,if_neg (fun e:g=f=>hk (h.symm.trans e))]
     · have hb:(g == k)=false:=beq_eq_false_iff_ne.mpr h;simp only [List.lookup,hb];exact ih
theorem iL (f:Str) (v:V):∀ fs:List (Str×V),f∈(cV f v fs).map (·.1)/\∀ g,g∈fs.map (·.1)->g∈(cV f v fs).map (·.1)
 | []=>⟨by simp [cV],fun g h=>by simp at h⟩
 | (k,x)::r=>by
   obtain ⟨i1,i2⟩:=iL f v r;rw [show cV f v ((k,x)::r)=(if k=f then (k,v)::r else (k,x)::cV f v r) from rfl];by_cases hk:k=f
   · rw [if_pos hk];subst hk;exact ⟨by simp,fun g h=>by simpa using h⟩
   · rw [if_neg hk];refine ⟨?_,fun g h=>?_⟩
     · rw [List.map_cons];exact List.mem_cons_of_mem _ i1
     · rw [List.map_cons] at h ⊢;rcases List.mem_cons.mp h with e | e
       · exact List.mem_cons.mpr (.inl e)
       · exact List.mem_cons_of_mem _ (i2 g e)
theorem jw (f:Str) (v:V):∀ fs:List (Str×V),(cV f v fs).length<=fs.length+1
 | []=>by simp [cV]
 | (k,x)::r=>by
   have ih:=jw f v r;rw [show cV f v ((k,x)::r)=(if k=f then (k,v)::r else (k,x)::cV f v r) from rfl];by_cases hk:k=f
   · rw [if_pos hk,List.length_cons,List.length_cons];omega
   · rw [if_neg hk,List.length_cons,List.length_cons];omega
theorem RelO.some_of {v:V} {o:Option Value} (r:RelO (some v) o):∃ u,o=some u/\RelV v u:=by
 cases o with
 | none=>exact (show False from r).elim
 | some u=>exact ⟨u,rfl,r⟩
theorem RelO.none_of {o:Option Value} (r:RelO none o):o=none:=by
 cases o with
 | none=>rfl
 | some u=>exact (show False from r).elim
theorem rj {v:V} {u:Value} (r:RelV v u):PySem.W.handedIn u=true:=by
 cases v with
 | non=>cases (show u=Value.none from r);rfl
 | bl b=>cases (show u=Value.bool b from r);rfl
 | int i=>obtain ⟨t,e⟩:=(show ∃ t,u=Value.int i t from r);cases e;rfl
 | str x=>obtain ⟨t,e⟩:=(show ∃ t,u=Value.str x t from r);cases e;rfl
 | byt b=>obtain ⟨t,e⟩:=(show ∃ t,u=Value.bytes b t from r);cases e;rfl
 | flt b=>obtain ⟨t,e⟩:=(show ∃ t,u=Value.float b t from r);cases e;rfl
 | ref a=>cases (show u=Value.ref a from r);rfl
 | ty n=>cases (show u=Value.type n from r);rfl
section
variable {P:Program} {w:World} {H H':Hp} {h h':Heap} {a C dx:Addr} {fs fs':List (Str×V)}
theorem jS (hok:HOk P w H h) (e:H a=some (.ins C dx fs)):∃ mA,ObjM h a dx C mA/\(∀ f,RelO (fs.lookup f) (mA f))/\PySem.Within mA (fs.map (·.1))/\fs.length<=1000/\H dx=some (.own a):=by
 obtain ⟨d,z,ne,ob,mA,n,r,q⟩:=(show ObjOk P w H h a (.ins C dx fs) from hok a _ e);exact ⟨mA,⟨ob,n,ne⟩,r,q,z,d⟩
end
structure Cls (K:PySem.W.Frag) (C:Addr):Prop where
 pg:PySem.W.plainGet K C Str.empty=true
 hd:PySem.W.hasDictIn K C=true
 po:PySem.W.plainOver K C=true
 sa:PySem.W.findIn K (.ref C) "__setattr__"=some (some (.builtin "object.__setattr__"))
theorem Cls.get {K:PySem.W.Frag} {C:Addr} (c:Cls K C) (f:Str):PySem.W.plainGet K C f=true:=c.pg
def NoAttr (K:PySem.W.Frag) (C:Addr) (f:Str):Prop:=PySem.W.findIn K (.ref C) f=some none
theorem NoAttr.taker {K:PySem.W.Frag} {C:Addr} {f:Str} (n:NoAttr K C f):PySem.W.takerIn K C f=some none:=by
 unfold PySem.W.takerIn;rw [show PySem.W.findIn K (.ref C) f=some none from n];rfl
structure wG (K:PySem.W.Frag) (C:Addr) (m:Str) (f:Addr):Prop where
 at_:PySem.W.findIn K (.ref C) m=some (some (.ref f))
 fn:PySem.W.isFn K (.ref f)=true
 kp:PySem.W.keepIn K (.ref f)=true
section
variable {X:Cx} {pins:List (Addr×Obj)} {σ:St} {H:Hp} {s:Shared} {a C dx:Addr} {fs:List (Str×V)} {f:Str} {v:V} {A:Around} {E:Value->Shared->Prop}
theorem j1 {b:Bool} {Q:Value->Shared->Prop} (I:Inv X pins σ H s) (e:H a=some (.ins C dx fs)) (c:Cls X.K C) (n:NoAttr X.K C f) (l:fs.lookup f=some v)
 (h:∀ u s',Inv X pins σ H s'->RelV v u->Q u s'):wpAny (model X.prog X.w) A (getAttr (.ref a) f b) Q E s:=by
 obtain ⟨mA,O,r,_,_,_⟩:=jS I.hok e;obtain ⟨u,hu,ru⟩:=RelO.some_of (v:=v) (o:=mA f) (by rw [<- l];exact r f);exact ur I.kIn O (c.get f) c.hd n hu (rj ru) (h u _ (I.tok _) ru)
theorem pZ {m:Str} {g:Addr} {pl:Sem Bool} {Q:Value×List Value->Shared->Prop} (I:Inv X pins σ H s) (e:H a=some (.ins C dx fs)) (c:Cls X.K C) (k:wG X.K C m g) (l:fs.lookup m=none)
 (h:Q (.ref g,[.ref a]) s):wpAny (model X.prog X.w) A (getMethod (.ref a) m pl) Q E s:=by
 obtain ⟨mA,O,r,_,_,_⟩:=jS I.hok e;have hn:mA m=none:=RelO.none_of (by rw [<- l];exact r m);exact rN I.kIn O (c.get m) k.at_ k.fn hn h
theorem lv {y:V} {u:Value} {Q:Unit->Shared->Prop} (I:Inv X pins σ H s) (e:H a=some (.ins C dx fs)) (c:Cls X.K C) (n:NoAttr X.K C f) (hl:fs.length<1000) (ry:RelV y u)
 (h:∀ s',Inv X pins σ (upd H a (.ins C dx (cV f y fs))) s'->Q () s'):wpAny (model X.prog X.w) A (setAttr (.ref a) f u) Q E s:=by
 obtain ⟨mA,O,r,wi,_,ho⟩:=jS I.hok e;have hz:(fs.map (·.1)).length<=sizeLine:=by rw [List.length_map,sizeLine_eq];omega
 refine ut I.kIn O c.sa c.po n.taker c.hd wi hz fun h' O' sb=>h _ ?_;have hd:∃ o,h'.get? dx=some o:=let ⟨o,_,_,e',_⟩:=O'.ns;⟨o,e'⟩
 refine I.write (x:=a) (e:=dx) (by rw [e];exact True.intro) (.inr ho) (fun b q hb z=>(sb.2 b hb).trans z) hd ?_;refine ⟨by rw [ak O.ne];exact ho,?_,O.ne,O'.obj,_,O'.ns,fun g=>?_,fun g hg=>?_⟩
 · have:=jw f y fs;omega
 · show RelO ((cV f y fs).lookup g) (if g=f then some u else mA g);rw [jG];by_cases q:g=f
   · rw [if_pos q,if_pos q];exact ry
   · rw [if_neg q,if_neg q];exact r g
 · by_cases q:g=f
   · rw [q];exact (iL f y fs).1
   · refine (iL f y fs).2 g (wi g fun z=>hg ?_);show (if g=f then some u else mA g)=none;rw [if_neg q];exact z
theorem Inv.made (I:Inv X pins σ H s):Inv X pins σ (upd (upd H s.heap.objs.size (.own (s.heap.objs.size+1))) (s.heap.objs.size+1) (.ins C s.heap.objs.size []))
 { s with heap:=(s.heap.push PySem.W.emptyDict).push (PySem.W.instObj C s.heap.objs.size) }:=by
 have e1:(s.heap.push PySem.W.emptyDict).get? s.heap.objs.size=some PySem.W.emptyDict:=Heap.get?_push_size s.heap rfl
 have e2:((s.heap.push PySem.W.emptyDict).push (PySem.W.instObj C s.heap.objs.size)).get? (s.heap.objs.size+1)=some (PySem.W.instObj C s.heap.objs.size):=by
  have:=Heap.get?_push_size (s.heap.push PySem.W.emptyDict) (o:=PySem.W.instObj C s.heap.objs.size) rfl
  rwa [Heap.size_push] at this
 have e3:(s.heap.push PySem.W.emptyDict).Ns s.heap.objs.size (fun _=>none):=⟨PySem.W.emptyDict,#[],_,e1,rfl,(fun e he=>absurd he (by simp)),fun _=>rfl⟩;have I1:=I.laid (a:=s.heap.objs.size) (o:=.own (s.heap.objs.size+1)) (h':=s.heap.push PySem.W.emptyDict) (t':=s.toks) (fun b u q=>Heap.get?_push_of_some _ q) (Nat.le_refl _) ⟨_,e1⟩;refine I1.laid (a:=s.heap.objs.size+1) (o:=.ins C s.heap.objs.size []) (t':=s.toks) (fun b u q=>Heap.get?_push_of_some _ q) (Nat.le_of_eq (Heap.size_push _ _)) ?_;have ne:s.heap.objs.size≠s.heap.objs.size+1:=Nat.ne_of_lt (Nat.lt_succ_self _);refine ⟨by rw [ak ne,ad],Nat.zero_le _,ne,e2,fun _=>none,(Heap.Ns1.of_empty e3).at fun o q=>Heap.get?_push_of_some _ q,fun _=>True.intro,fun y hy=>absurd rfl hy⟩
theorem ub {prog:Program} {w:World} {env:Env} {e:Expr} {f:Str} {pos:Pos} {s:Shared} {Q:Value->Shared->Prop} (hb:attributeBase e f env (eval e env)=eval e env)
 (h:wpAny (model prog w) A (eval e env) (fun o s₁=>wpAny (model prog w) A (getAttr o f true) Q E s₁) E s):wpAny (model prog w) A (eval (.Attribute e f pos) env) Q E s :=
 Attribute_any_ h (by rw [arm_eval_Attribute,hb])
end
def xW (K:PySem.W.Frag) (ta:TE) (f:Str):TE:=fun σ H Q=>ta σ H fun x H1=>∃ a C dx fs v,x=.ref a/\H1 a=some (.ins C dx fs)/\Cls K C/\NoAttr K C f/\fs.lookup f=some v/\Q v H1
def xY (K:PySem.W.Frag) (ta tv:TE) (f:Str):TS:=fun D σ H=>tv σ H fun y H1=>ta σ H1 fun x H2=>∃ a C dx fs,x=.ref a/\H2 a=some (.ins C dx fs)/\Cls K C/\NoAttr K C f/\fs.length<1000 ∧
 D.nx σ (upd H2 a (.ins C dx (cV f y fs)))
def xn (X:Cx) (op:Operator) (rd:V->V->Hp->VK->Prop):Prop :=
 ∀ (pins:List (Addr×Obj)) (s:Shared) (σ:St) (H:Hp) (x y:V) (u v:Value) (Q:VK),Inv X pins σ H s->RelV x u->RelV y v->rd x y H Q->wpAny (model X.prog X.w) X.A (inplaceOp op u v) (EP X pins σ Q) X.xe s
def uA (K:PySem.W.Frag) (ta tv:TE) (rd:V->V->Hp->VK->Prop) (f:Str):TS:=fun D σ H=>ta σ H fun x H1=>∃ a C dx fs v,x=.ref a/\H1 a=some (.ins C dx fs)/\Cls K C/\NoAttr K C f/\fs.lookup f=some v ∧
 tv σ H1 fun y H2=>rd v y H2 fun z H3=>∃ dx' fs',H3 a=some (.ins C dx' fs')/\fs'.length<1000/\D.nx σ (upd H3 a (.ins C dx' (cV f z fs')))
section
variable {X:Cx} {o e value:Expr} {f:Str} {pos pos' tpos:Pos} {ta tv:TE}
theorem tR (he:PE X e ta) (hb:attributeBase e f X.env (eval e X.env)=eval e X.env):PE X (.Attribute e f pos) (xW X.K ta f):=by
 intro pins s σ H Q I h;refine ub hb (thn (he pins s σ H _ I h) fun u s1 ⟨x,H1,I1,rx,a,C,dx,fs,v,ex,ea,c,n,l,q⟩=>?_);subst ex;obtain rfl:u=Value.ref a:=rx;exact j1 I1 ea c n l fun u' s2 I2 ru=>⟨v,H1,I2,ru,q⟩
theorem tX (ha:PE X o ta) (hv:PE X value tv) (hs:swapsWith value (some (.Attribute o f pos')) pos.line X.env=pure false):PS X (.Assign [.Attribute o f pos'] value pos) (xY X.K ta tv f):=by
 intro pins s σ H D I h;refine plainObj_wpAny_Assign_Attribute (thn (hv pins s σ H _ I h) fun u s1 ⟨y,H1,I1,ry,q⟩=>thn (ha pins s1 σ H1 _ I1 q) fun ov s2 ⟨x,H2,I2,rx,a,C,dx,fs,ex,ea,c,n,l,q2⟩=>?_) hs;subst ex;obtain rfl:ov=Value.ref a:=rx;exact lv I2 ea c n l ry fun s3 I3=>⟨σ,_,I3,q2⟩
theorem ma {op:Operator} {rd:V->V->Hp->VK->Prop} (ha:PE X o ta) (hv:PE X value tv) (hop:xn X op rd):PS X (.AugAssign (.Attribute o f tpos) op value pos) (uA X.K ta tv rd f):=by
 intro pins s σ H D I h;refine wpAny_AugAssign_AttributeAny (thn (ha pins s σ H _ I h) fun ov s1 ⟨x,H1,I1,rx,a,C,dx,fs,v,ex,ea,c,n,l,q⟩=>?_);subst ex;obtain rfl:ov=Value.ref a:=rx;refine j1 I1 ea c n l fun u s2 I2 ru=>thn (hv pins s2 σ H1 _ I2 q) fun w3 s3 ⟨y,H2,I3,ry,q3⟩=>thn (hop pins s3 σ H2 v y u w3 _ I3 ru ry q3) fun w4 s4 ⟨z,H3,I4,rz,dx',fs',ea',l',q4⟩=>?_;exact lv I4 ea' c n l' rz fun s5 I5=>⟨σ,_,I5,q4⟩
def yt:V->V->Hp->VK->Prop:=fun x y H Q=>∃ i j,x=.int i/\y=.int j/\Q (.int (i+j)) H
theorem sD:xn X .Add yt:=by
 rintro pins s σ H x y u v Q I rx ry ⟨i,j,rfl,rfl,q⟩;obtain ⟨t,rfl⟩:=(show ∃ t,u=Value.int i t from rx);obtain ⟨t',rfl⟩:=(show ∃ t',v=Value.int j t' from ry);exact PyProof.Rows.iadd_int ⟨.int (i+j),H,I.tok _,⟨_,rfl⟩,q⟩
end
section
variable {X:Cx} {pins:List (Addr×Obj)} {σ:St} {H:Hp} {s:Shared} {A:Around} {E:Value->Shared->Prop} {Q:Value->Shared->Prop} {c:Value} {b:Bool}
inductive iF (K:PySem.W.Frag) (H:Hp):V->Value->Prop where
 | non:iF K H .non (.type "NoneType")
 | bl (x:Bool):iF K H (.bl x) (.type "bool")
 | int (i:Int):iF K H (.int i) (.type "int")
 | str (x:Str):iF K H (.str x) (.type "str")
 | flt (x:UInt64):iF K H (.flt x) (.type "float")
 | lst {a:Addr} {xs:List V} (e:H a=some (.lst xs)):iF K H (.ref a) (.type "list")
 | frz {a:Addr} {o:Obj} {xs:List V} (e:H a=some (.frz o (.lst xs))):iF K H (.ref a) (.type "list")
 | tup {a:Addr} {xs:List V} (e:H a=some (.tup xs)):iF K H (.ref a) (.type "tuple")
 | dK {a:Addr} {kvs:List (Key×V)} (e:H a=some (.dK kvs)):iF K H (.ref a) (.type "dict")
 | dT {a:Addr} {kvs:List (List Key×V)} (e:H a=some (.dT kvs)):iF K H (.ref a) (.type "dict")
 | ins {a C dx:Addr} {fs:List (Str×V)} (e:H a=some (.ins C dx fs)) (cl:Cls K C) (ha:PySem.W.findIn K (.ref C) "__class__"=some (some (.builtin "object.__class__")))
  (hn:PySem.W.specialIn K (.builtin "object.__class__") "__get__"=some (some (.builtin "getset_descriptor.__get__"))) (htk:PySem.W.takesIn K (.builtin "object.__class__")=some true)
  (hm:PySem.W.mroIn K C (.type "object")=some true):iF K H (.ref a) (.ref C)
theorem rB {x:V} {u t:Value} (I:Inv X pins σ H s) (rx:RelV x u) (ty:iF X.K H x t) (e:PySem.W.kitOne X.K t c=some b) (h:∀ tk,Q (.bool b) { s with toks:=tk }) :
 wpAny (model X.prog X.w) A (call (.builtin "isinstance") [u,c]) Q E s:=by
 cases ty with
 | non=>cases (show u=Value.none from rx);exact PySem.W.kia_one PySem.W.kitx_none I.kIn True.intro e (fun z=>nomatch z) h
 | bl y=>cases (show u=Value.bool y from rx);exact PySem.W.kia_one PySem.W.kitx_bool I.kIn True.intro e (fun z=>nomatch z) h
 | int i=>obtain ⟨t,q⟩:=(show ∃ t,u=Value.int i t from rx);cases q;exact PySem.W.kia_one PySem.W.kitx_int I.kIn True.intro e (fun z=>nomatch z) h
 | str y=>obtain ⟨t,q⟩:=(show ∃ t,u=Value.str y t from rx);cases q;exact PySem.W.kia_one PySem.W.kitx_str I.kIn True.intro e (fun z=>nomatch z) h
 | flt y=>obtain ⟨t,q⟩:=(show ∃ t,u=Value.float y t from rx);cases q;exact PySem.W.kia_one PySem.W.kitx_float I.kIn True.intro e (fun z=>nomatch z) h
 | @lst a xs ea =>
   cases (show u=Value.ref a from rx);obtain ⟨_,_,n,_,h1⟩:=(show ObjOk X.prog X.w H s.heap a (.lst xs) from I.hok a _ ea);exact PySem.W.kia_one PySem.W.kitx_list I.kIn ⟨_,h1,rfl⟩ e (fun z=>nomatch z) h
 | @frz a ob xs ea =>
   cases (show u=Value.ref a from rx);obtain ⟨_,_,_,n,_,h1⟩:=(show ObjOk X.prog X.w H s.heap a (.frz ob (.lst xs)) from I.hok a _ ea);exact PySem.W.kia_one PySem.W.kitx_list I.kIn ⟨_,h1,rfl⟩ e (fun z=>nomatch z) h
 | @tup a xs ea =>
   cases (show u=Value.ref a from rx);obtain ⟨_,_,_,_,h1⟩:=(show ObjOk X.prog X.w H s.heap a (.tup xs) from I.hok a _ ea);exact PySem.W.kia_one PySem.W.kitx_tuple I.kIn ⟨_,h1,rfl⟩ e (fun z=>nomatch z) h
 | @dK a kvs ea =>
   cases (show u=Value.ref a from rx);obtain ⟨_,_,vs,_,p⟩:=(show ObjOk X.prog X.w H s.heap a (.dK kvs) from I.hok a _ ea);obtain ⟨o,es,ep,h1,h2,_⟩:=p;exact PySem.W.kia_one PySem.W.kitx_dict I.kIn ⟨o,h1,h2.1⟩ e (fun z=>nomatch z) h
 | @dT a kvs ea =>
   cases (show u=Value.ref a from rx);obtain ⟨_,_,xs,_,o,es,ep,h1,h2,_⟩:=(show ObjOk X.prog X.w H s.heap a (.dT kvs) from I.hok a _ ea);exact PySem.W.kia_one PySem.W.kitx_dict I.kIn ⟨o,h1,h2.1⟩ e (fun z=>nomatch z) h
 | @ins a C dx fs ea cl ha hn htk hm =>
   cases (show u=Value.ref a from rx);obtain ⟨mA,O,_⟩:=jS I.hok ea;obtain ⟨od,J,_⟩:=O.look;exact PySem.W.kia_one (PySem.W.kitx_own (cl.get _) cl.hd ha hn htk hm) I.kIn J e (fun z=>nomatch z) h
end
end L2
namespace L2
open PySem PySem.Spec PyProof.Rows
structure Room (k:Nat) (A:Around):Prop where
 hd:A.handled=none
 dp:A.depth+3 * k+5<recursionLimit
 un:A.units+16 * k+200<cLine
theorem Room.mono {j k:Nat} {A:Around} (r:Room k A) (h:j<=k):Room j A:=⟨r.hd,by have:=r.dp;omega,by have:=r.un;omega⟩
theorem Room.deeper {k:Nat} {A:Around} (r:Room (k+1) A) (env:Env):Room k (A.deeper env) :=
 ⟨r.hd,by have:=r.dp;show A.depth+1+3 * k+5<_;omega,by have:=r.un;show A.units+3+16 * k+200<_;omega⟩
theorem pN {A:Around} {C:Addr} {us:List Value} {kw:List (Str×Value)}:(A.under (.builtin "type.__call__" ⟨.ref C::us,kw⟩)).depth=A.depth+1:=by
 first | rfl | simp [Around.under,Code.weight,Code.isCreation,Code.isGuard,Code.isCaller,Code.frames,Code.isFrame,guardIds]
theorem pC {A:Around} {C:Addr} {us:List Value} {kw:List (Str×Value)}:(A.under (.builtin "type.__call__" ⟨.ref C::us,kw⟩)).units=A.units+1:=by
 first | rfl | simp [Around.under,Code.cUnits,Code.frames,Code.isFrame]
theorem Room.make {k:Nat} {A:Around} (r:Room (k+1) A) (C:Addr) (us:List Value) (kw:List (Str×Value)):Room k (A.under (.builtin "type.__call__" ⟨.ref C::us,kw⟩)) :=
 ⟨r.hd,by have:=r.dp;rw [pN];omega,by have:=r.un;rw [pC];omega⟩
theorem Room.depth {k:Nat} {A:Around} (r:Room k A):A.depth<recursionLimit:=by have:=r.dp;omega
theorem Room.units {k:Nat} {A:Around} (r:Room k A):A.units+64<cLine:=by have:=r.un;omega
def fu:TA:=fun _ H Q=>Q [] H
def bH (ta:TE) (tr:TA):TA:=fun σ H Q=>ta σ H fun x H1=>tr σ H1 fun xs H2=>Q (x::xs) H2
section
variable {X:Cx} {e:Expr} {es:List Expr} {te:TE} {t:TA} {pos:Pos}
theorem ac:PA X [] fu:=fun _ _ _ _ H Q I h=>Calls.spliced_nil ⟨[],H,I,.nil,h⟩
theorem aa (ha:PE X e te) (hr:PA X es t) (hs:starEach (e::es) X.env=(false,eval e X.env)::starEach es X.env:=by rfl):PA X (e::es) (bH te t):=by
 intro pos pins s σ H Q I h;rw [hs];show wpAny _ _ (spliced ((false,eval e X.env)::backTo pos (starEach es X.env))) _ _ s;refine Calls.spliced_cons (thn (ha pins s σ H _ I h) fun u s1 ⟨x,H1,I1,r1,q1⟩=>?_);exact thn (hr pos pins s1 σ H1 _ I1 q1) fun us s2 ⟨xs,H2,I2,r2,q2⟩=>⟨x::xs,H2,I2,.cons r1 r2,q2⟩
def uo (t:TA):TE:=fun σ H Q=>t σ H fun xs H1=>xs.length<=sizeLine/\∀ p,H1 p=none->Q (.ref p) (upd H1 p (.tup xs))
def xH (t:TA):TE:=fun σ H Q=>t σ H fun xs H1=>xs.length<=sizeLine/\∀ p,H1 p=none->Q (.ref p) (upd H1 p (.lst xs))
theorem aU {x1} (h:PA X es t):PE X (.Tuple es x1 pos) (uo t):=by
 intro pins s σ H Q I hq;refine wpAny_Tuple_spliced (thn (h pos pins s σ H _ I hq) fun us s1 ⟨xs,H1,I1,r,z,q⟩=>⟨by rw [<- r.length];exact z,?_⟩);have hf:H1 s1.heap.objs.size=none:=I1.hok.fresh (Nat.le_refl _);refine ⟨.ref s1.heap.objs.size,upd H1 s1.heap.objs.size (.tup xs),I1.laid (t':=s1.toks) (fun b u e=>Heap.get?_push_of_some _ e) (Nat.le_refl _) ?_,rfl,q _ hf⟩;exact ⟨z,us,0,r,Heap.get?_push_size _ rfl⟩
theorem bt (h:PA X es t):PE X (.List es pos) (xH t):=by
 intro pins s σ H Q I hq;refine wpAny_List_spliced (thn (h pos pins s σ H _ I hq) fun us s1 ⟨xs,H1,I1,r,z,q⟩=>⟨by rw [<- r.length];exact z,?_⟩);have hf:H1 s1.heap.objs.size=none:=I1.hok.fresh (Nat.le_refl _);refine ⟨.ref s1.heap.objs.size,upd H1 s1.heap.objs.size (.lst xs),I1.laid (t':=s1.toks) (fun b u e=>Heap.get?_push_of_some _ e) (Nat.le_refl _) ?_,rfl,q _ hf⟩;exact ⟨z,us,0,r,Heap.get?_push_size _ rfl⟩
end
abbrev Sp:=List V->Hp->VK->XK->Prop
abbrev CXT:=List Env->Hp->Shared->XK->Value->Shared->Prop
structure Env0 (P:Program) (w:World) (K:PySem.W.Frag) (mg:Str->Option Value) (base:Heap) (A:Around) (outer:List Env) (s:Shared) (H:Hp):Prop where
 frames:A.frames=some outer
 mod:Mod K mg base
 bs:∀ b o,base.get? b=some o->s.heap.get? b=some o/\H b=none
 bsz:base.objs.size<=s.heap.objs.size
 funs:s.heap.FunFrames base outer
 frf:∀ b∈frs outer,H b=none
 hok:HOk P w H s.heap
 bare:AllBare s.gens
def CE (outer:List Env) (P:Program) (w:World) (H:Hp) (s:Shared) (Q:VK) (u:Value) (s':Shared):Prop :=
 ∃ v H',s'.os=s.os/\AllBare s'.gens/\Un (frs outer) [] H H' s.heap s'.heap/\HOk P w H' s'.heap/\RelV v u/\Q v H'
def CR (CX:CXT) (outer:List Env) (P:Program) (w:World) (H:Hp) (s:Shared) (Q:VK) (E:XK) (r:Result) (s':Shared):Prop :=
 match r with
 | .ok (.ret u)=>CE outer P w H s Q u s'
 | .ok _=>False
 | .error e=>CX outer H s E e s'
structure FnOk (P:Program) (w:World) (K:PySem.W.Frag) (mg:Str->Option Value) (base:Heap) (CX:CXT) (k:Nat) (f:Addr) (fd:FuncData) (ps:List Str) (sp:Sp):Prop where
 len:∀ vs H Q E,sp vs H Q E->vs.length=ps.length
 run:∀ (A:Around) (outer:List Env) (s:Shared) (H:Hp) (args:Args) (us:List Value) (vs:List V) (Q:VK) (E:XK),Room k A->Env0 P w K mg base A outer s H->BindsTo s fd args (ps.zip us)->Vals vs us->sp vs H Q E →
  codeAny (model P w) A (.call (.ref f) args) (CR CX outer P w H s Q E) s
theorem FnOk.imp {P:Program} {w:World} {K:PySem.W.Frag} {mg:Str->Option Value} {base:Heap} {CX:CXT} {k:Nat} {f:Addr} {fd:FuncData} {ps:List Str} {sp sp':Sp} (F:FnOk P w K mg base CX k f fd ps sp)
 (h:∀ vs H Q E,sp' vs H Q E->sp vs H Q E):FnOk P w K mg base CX k f fd ps sp' :=
 ⟨fun vs H Q E q=>F.len vs H Q E (h _ _ _ _ q),fun A outer s H args us vs Q E hr he hb hv hs=>F.run A outer s H args us vs Q E hr he hb hv (h _ _ _ _ hs)⟩
theorem Env0.make {P:Program} {w:World} {K:PySem.W.Frag} {mg:Str->Option Value} {base:Heap} {A:Around} {outer:List Env} {s:Shared} {H:Hp} (e:Env0 P w K mg base A outer s H) (C:Addr) (us:List Value) (kw:List (Str×Value)) :
 Env0 P w K mg base (A.under (.builtin "type.__call__" ⟨.ref C::us,kw⟩)) outer s H:=⟨by first | exact e.frames | (simpa [Around.under,Code.envs,Code.isFrame,pushEnvs] using e.frames),e.mod,e.bs,e.bsz,e.funs,e.frf,e.hok,e.bare⟩
section
variable {X:Cx} {pins:List (Addr×Obj)} {σ:St} {H:Hp} {s s':Shared}
theorem Inv.env0 (I:Inv X pins σ H s):Env0 X.prog X.w X.K X.mg X.base X.A X.stack s H :=
 ⟨I.ok.frames,I.ok.mod,I.bs,Nat.le_trans I.ok.bsz I.sz,I.stack,I.stkFree,I.hok,I.bare⟩
theorem Inv.after {Q:VK} {u:Value} (I:Inv X pins σ H s) (h:CE X.stack X.prog X.w H s Q u s'):EP X pins σ Q u s':=by
 obtain ⟨v,H',os,bare,un,hok,r,q⟩:=h;obtain ⟨hh,g,d,t,os'⟩:=s';obtain rfl:os'=s.os:=os;exact ⟨v,H',I.call (h':=hh) (g':=g) (d':=d) (t':=t) (ch:=[]) un hok bare (fun b z=>absurd z (by simp)),r,q⟩
end
def gA (sp:Sp) (dvs:List V) (E:XK) (t:TA):TE:=fun σ H Q=>t σ H fun vs H1=>sp (vs++dvs) H1 Q E
def xq (C:Addr) (m:Str) (sp:Sp) (dvs:List V) (E:XK) (ta:TE) (t:TA):TE:=fun σ H Q=>ta σ H fun x H1=>∃ a dx fs,x=.ref a/\H1 a=some (.ins C dx fs)/\fs.lookup m=none ∧
 t σ H1 fun vs H2=>sp (x::(vs++dvs)) H2 Q E
def wW (C:Addr) (sp:Sp) (dvs:List V) (E:XK) (t:TA):TE:=fun σ H Q=>t σ H fun vs H1=>∀ x dx,H1 x=none->H1 dx=none->dx≠x →
 sp (.ref x::(vs++dvs)) (upd (upd H1 dx (.own x)) x (.ins C dx [])) (fun v H2=>v=.non/\Q (.ref x) H2) E
def Binds (K:PySem.W.Frag) (fd:FuncData) (ps:List Str) (ds:List Value):Prop :=
 ∀ (s:Shared) (us:List Value),K.In s.heap->(us++ds).length=ps.length->BindsTo s fd ⟨us,[]⟩ (ps.zip (us++ds))
theorem Binds.all {K:PySem.W.Frag} {fd:FuncData} {ps:List Str} (h:∀ us:List Value,us.length=ps.length->bindArgs fd ⟨us,[]⟩=pure (ps.zip us)):Binds K fd ps []:=fun s us _ hl=>by
 rw [List.append_nil] at hl ⊢;exact .of_eq (h us hl)
def gJ (CX:CXT) (X:Cx) (E:XK):Prop:=∀ (pins:List (Addr×Obj)) (σ:St) (H:Hp) (s:Shared) (e:Value) (s':Shared),Inv X pins σ H s->CX X.stack H s E e s'->X.xe e s'
section
variable {X:Cx} {CX:CXT} {k:Nat} {f C:Addr} {fd:FuncData} {ps:List Str} {sp:Sp} {dvs:List V} {ds:List Value} {E:XK} {x m:Str} {p pos apos:Pos} {e o:Expr} {es:List Expr} {ta:TE} {t:TA}
theorem tY {pins:List (Addr×Obj)} {σ:St} {H:Hp} {s:Shared} {Q:VK} {us:List Value} {vs:List V} (F:FnOk X.prog X.w X.K X.mg X.base CX k f fd ps sp) (hr:Room k X.A) (hb:Binds X.K fd ps ds) (hd:Vals dvs ds) (hx:gJ CX X E)
 (I:Inv X pins σ H s) (r:Vals vs us) (h:sp (vs++dvs) H Q E):wpAny (model X.prog X.w) X.A (call (.ref f) us) (EP X pins σ Q) X.xe s:=by
 have r2:Vals (vs++dvs) (us++ds):=r.append hd;have hl:(us++ds).length=ps.length:=by rw [<- r2.length];exact F.len _ _ _ _ h
 refine wpAny_call (codeAny_mono (F.run X.A X.stack s H ⟨us,[]⟩ (us++ds) (vs++dvs) Q E hr I.env0 (hb s us I.kIn hl) r2 h) fun r s' hq=>?_);cases r with
 | error e=>exact hx pins σ H s e s' I hq
 | ok fl =>
   cases fl with
   | ret u=>exact I.after hq
   | next=>exact False.elim hq
   | brk=>exact False.elim hq
   | cont=>exact False.elim hq
theorem dw (F:FnOk X.prog X.w X.K X.mg X.base CX k f fd ps sp) (hr:Room k X.A) (hg:Gl X x) (hm:X.mg x=some (.ref f)) (hk:PySem.W.keepIn X.K (.ref f)=true) (hb:Binds X.K fd ps ds) (hd:Vals dvs ds) (hx:gJ CX X E)
 (ha:PA X (e::es) t) (hdb:(x == ("__debug__":Str))=false:=by decide) (he:starEach (e::es) X.env=(false,eval e X.env)::starEach es X.env:=by rfl) (hpl:(backTo pos (starEach es X.env)).any (·.1)=false:=by rfl) :
 PE X (.Call (.Name x p) (e::es) [] pos) (gA sp dvs E t):=by
 intro pins s σ H Q I h;refine wpAny_Call_Name_kw (jY I hg hm ?_ hdb);refine PySem.W.callWith_K (h₀:=X.base) I.ok.mod.kin hk (thn (ha pos pins s σ H _ I h) fun us s1 ⟨vs,H1,I1,r,q⟩=>⟨I1.kIn,?_⟩) he hpl;exact tY F hr hb hd hx I1 r q
theorem qT {pl:Sem Bool} (he:PE X o ta) (c:Cls X.K C) (hm:wG X.K C m f) (F:FnOk X.prog X.w X.K X.mg X.base CX k f fd ps sp) (hr:Room k X.A) (hb:Binds X.K fd ps ds) (hd:Vals dvs ds) (hx:gJ CX X E) (ha:PA X (e::es) t)
 (hst:starEach (e::es) X.env=(false,eval e X.env)::starEach es X.env:=by rfl) (hpl:(backTo pos (starEach es X.env)).any (·.1)=false:=by rfl)
 (ht:eval (.Call (.Attribute o m apos) (e::es) [] pos) X.env=(do
  let ov ← eval o X.env
  standAt apos.atName
  let (f,first) ← holding [ov] (getMethod ov m pl)
  callWith pos f first (backTo pos (starEach (e::es) X.env)) (backToKw pos (keywordEach [] X.env))):=by rfl) :
 PE X (.Call (.Attribute o m apos) (e::es) [] pos) (xq C m sp dvs E ta t):=by
 intro pins s σ H Q I h;refine PySem.W.methodCall_KW (pl:=pl) (thn (he pins s σ H _ I h) fun u s1 ⟨x,H1,I1,rx,a,dx,fs,ex,ea,l,q⟩=>?_) ht;subst ex;obtain rfl:u=Value.ref a:=rx;refine pZ I1 ea c hm l ?_;refine PySem.W.callWith_K (first:=[.ref a]) (h₀:=X.base) I.ok.mod.kin hm.kp (thn (ha pos pins s1 σ H1 _ I1 q) fun us s2 ⟨vs,H2,I2,r,q2⟩=>⟨I2.kIn,?_⟩) hst hpl;exact tY (us:=.ref a::us) (vs:=.ref a::vs) F hr hb hd hx I2 (.cons rfl r) q2
structure Mk (K:PySem.W.Frag) (C f:Addr):Prop where
 makes:PySem.W.makesIn K C=true
 init:PySem.W.findIn K (.ref C) "__init__"=some (some (.ref f))
 fn:PySem.W.isFn K (.ref f)=true
 kp:PySem.W.keepIn K (.ref C)=true
theorem rX {pins:List (Addr×Obj)} {σ:St} {H:Hp} {s:Shared} {Q:VK} {us:List Value} {vs:List V} (M:Mk X.K C f) (F:FnOk X.prog X.w X.K X.mg X.base CX k f fd ps sp) (hr:Room (k+1) X.A) (hb:Binds X.K fd ps ds) (hd:Vals dvs ds)
 (hx:gJ CX X E) (I:Inv X pins σ H s) (r:Vals vs us)
 (h:∀ x dx,H x=none->H dx=none->dx≠x->sp (.ref x::(vs++dvs)) (upd (upd H dx (.own x)) x (.ins C dx [])) (fun v H2=>v=.non/\Q (.ref x) H2) E) :
 wpAny (model X.prog X.w) X.A (call (.ref C) us) (EP X pins σ Q) X.xe s:=by
 have hq:=h (s.heap.objs.size+1) s.heap.objs.size (I.hok.fresh (Nat.le_succ _)) (I.hok.fresh (Nat.le_refl _)) (Nat.ne_of_lt (Nat.lt_succ_self _));have I2:=Inv.made (C:=C) I;have r2:Vals (V.ref (s.heap.objs.size+1)::(vs++dvs)) (Value.ref (s.heap.objs.size+1)::(us++ds)):=.cons rfl (r.append hd)
 have hl:(Value.ref (s.heap.objs.size+1)::us++ds).length=ps.length:=by
  have e:=r2.length;rw [F.len _ _ _ _ hq] at e;exact e.symm
 refine wpAny_call (sJ (f:=f) I.kIn M.makes M.init (beq_iff_eq.mp M.fn) (codeAny_mono (F.run _ X.stack _ _ ⟨Value.ref (s.heap.objs.size+1)::us,[]⟩ (Value.ref (s.heap.objs.size+1)::(us++ds)) _ _ E (hr.make C us [])
  (I2.env0.make C us []) (hb _ (Value.ref (s.heap.objs.size+1)::us) I2.kIn hl) r2 hq) fun r s' hq'=>?_))
 cases r with
 | error e=>exact hx pins σ _ _ e s' I2 hq'
 | ok fl =>
   cases fl with
   | ret u =>
     obtain ⟨v,H',I3,rv,ev,q3⟩:=I2.after hq';subst ev;exact ⟨rv,⟨V.ref (s.heap.objs.size+1),H',I3,rfl,q3⟩⟩
   | next=>exact False.elim hq'
   | brk=>exact False.elim hq'
   | cont=>exact False.elim hq'
theorem nX (M:Mk X.K C f) (F:FnOk X.prog X.w X.K X.mg X.base CX k f fd ps sp) (hr:Room (k+1) X.A) (hg:Gl X x) (hm:X.mg x=some (.ref C)) (hb:Binds X.K fd ps ds) (hd:Vals dvs ds) (hx:gJ CX X E)
 (hdb:(x == ("__debug__":Str))=false:=by decide):PE X (.Call (.Name x p) [] [] pos) (wW C sp dvs E fu):=by
 intro pins s σ H Q I h;refine wpAny_Call_Name_kw (jY I hg hm ?_ hdb);exact PySem.W.callWith_K0 I.kIn M.kp (rX (us:=[]) M F hr hb hd hx I .nil h)
end
section
variable {X:Cx} {CX:CXT} {k:Nat} {f C:Addr} {fd:FuncData} {ps ks:List Str} {sp:Sp} {E:XK} {x m:Str} {p pos apos kpos:Pos} {e o:Expr} {es:List Expr} {kws:List Keyword} {te ta:TE} {t tk:TA} {nm:Option Str}
variable {g:List Value->List Value->List Value} {gV:List V->List V->List V}
end
structure aq (N P:List Str) (sc:Scope):Prop where
 kind:sc.kind=.function
 co:sc.isCoroutine=false
 gen:sc.isGenerator=false
 nd:N.Nodup
 pre:N.take P.length=P
 par:∀ x∈P,sc.names.lookup x=some .local∨sc.names.lookup x=some .cell
 nofree:∀ y∈sc.names,y.2≠.free
theorem lQ {kindOf:Str->Option NameKind} {x:Str}:∀ {binds:List (Str×Value)} {m:Str->Option Value},(∀ v,(x,v)∉binds)->bindL kindOf binds m x=m x
 | [],_,_=>rfl
 | (n,v)::r,m,h=>by
   unfold bindL;rw [lQ fun w hw=>h w (List.mem_cons_of_mem _ hw)];split
   · have:x≠n:=by rintro rfl;exact h v List.mem_cons_self
     simp [this]
   · rfl
theorem md {kindOf:Str->Option NameKind} {x:Str}:∀ {binds:List (Str×Value)} {m:Str->Option Value},(∀ v,(x,v)∉binds)->bindC kindOf binds m x=m x
 | [],_,_=>rfl
 | (n,v)::r,m,h=>by
   unfold bindC;rw [md fun w hw=>h w (List.mem_cons_of_mem _ hw)];split
   · rfl
   · have:x≠n:=by rintro rfl;exact h v List.mem_cons_self
     simp [this]
theorem mr {kindOf:Str->Option NameKind} {x:Str} {v:Value}:∀ {P:List Str} {vs:List Value} {i:Nat} {m:Str->Option Value},P.Nodup->P[i]?=some x->vs[i]?=some v->kindOf x=some .local →
 bindL kindOf (P.zip vs) m x=some v
 | [],_,_,_,_,h,_,_=>by simp at h
 | _::_,[],_,_,_,_,h,_=>by simp at h
 | p::P,w::vs,0,m,nd,h1,h2,hk=>by
   simp at h1 h2;subst h1;subst h2;show bindL kindOf ((p,w)::P.zip vs) m p=_;unfold bindL;rw [lQ fun v hv=>(List.nodup_cons.mp nd).1 (List.of_mem_zip hv).1,if_pos hk];simp
 | p::P,w::vs,i+1,m,nd,h1,h2,hk=>by
   show bindL kindOf ((p,w)::P.zip vs) m x=_;unfold bindL;exact mr (i:=i) (List.nodup_cons.mp nd).2 (by simpa using h1) (by simpa using h2) hk
theorem mw {kindOf:Str->Option NameKind} {x:Str} {v:Value}:∀ {P:List Str} {vs:List Value} {i:Nat} {m:Str->Option Value},P.Nodup->P[i]?=some x->vs[i]?=some v->kindOf x≠some .local →
 bindC kindOf (P.zip vs) m x=some v
 | [],_,_,_,_,h,_,_=>by simp at h
 | _::_,[],_,_,_,_,h,_=>by simp at h
 | p::P,w::vs,0,m,nd,h1,h2,hk=>by
   simp at h1 h2;subst h1;subst h2;show bindC kindOf ((p,w)::P.zip vs) m p=_;unfold bindC;rw [md fun v hv=>(List.nodup_cons.mp nd).1 (List.of_mem_zip hv).1,if_neg hk];simp
 | p::P,w::vs,i+1,m,nd,h1,h2,hk=>by
   show bindC kindOf ((p,w)::P.zip vs) m x=_;unfold bindC;exact mw (i:=i) (List.nodup_cons.mp nd).2 (by simpa using h1) (by simpa using h2) hk
def start (N:List Str) (vs:List V):St:=vs.map some++List.replicate (N.length - vs.length) none
def pS (CX:CXT) (P:Program) (w:World) (K:PySem.W.Frag) (mg:Str->Option Value) (base:Heap) (N:List Str) (qual:Str) (scope:Scope) (f:Addr) (cd:Value) (A:Around) (outer:List Env) (s:Shared) (H:Hp) (E:XK):Cx where
 prog:=P
 w:=w
 K:=K
 mg:=mg
 base:=base
 A:=A.deeper (envOfC qual scope s.heap.objs.size f cd)
 N:=N
 s₀:=s
 H₀:=H
 env:=envOfC qual scope s.heap.objs.size f cd
 outer:=outer
 stack:=envOfC qual scope s.heap.objs.size f cd::outer
 ex:=[]
 calm:=true
 fn:=fun _=>true
 pn:=[]
 xe:=fun e s'=>wpAny (model P w) (A.deeper (envOfC qual scope s.heap.objs.size f cd)) (leaving (envOfC qual scope s.heap.objs.size f cd) e) (fun _ s''=>CX outer H s E e s'') (fun e' s''=>CX outer H s E e' s'') s'
theorem oJ {sc:Scope} {n:Nat} {x:Str} (h:sc.names.lookup x=some .cell):∃ c,(cellsFrom n sc.names []).lookup x=some c:=by
 have q:=PySem.W.cellsFrom_some sc.names n [] (.inl h);exact Option.isSome_iff_exists.mp q
theorem rJ {CX:CXT} {P:Program} {w:World} {K:PySem.W.Frag} {mg:Str->Option Value} {base:Heap} {N ps:List Str} {qual:Str} {scope:Scope} {f:Addr} {cd:Value} {A:Around} {outer:List Env} {s s1:Shared} {H:Hp} {E:XK} {us:List Value} {vs:List V}
 (S:aq N ps scope) (hd:A.handled=none) (e0:Env0 P w K mg base A outer s H) (hl:vs.length=ps.length) (r:Vals vs us)
 (x:InCallC s s.heap.objs.size (bindL (envOfC qual scope s.heap.objs.size f cd).kindOf (ps.zip us) fun _=>none) (cellsFrom (s.heap.objs.size+1) scope.names []) (bindC (envOfC qual scope s.heap.objs.size f cd).kindOf (ps.zip us) fun _=>none) s1) :
 Inv (pS CX P w K mg base N qual scope f cd A outer s H E) [] (start N vs) H s1:=by
 have hpl:ps.length<=N.length:=by have:=congrArg List.length S.pre;rw [List.length_take] at this;omega
 obtain ⟨h1,tk,rfl,hk⟩:=x.done;have noA:∀ b:Addr,b∉(pS CX P w K mg base N qual scope f cd A outer s H E).ex:=fun b z=>absurd (show b∈([]:List Addr) from z) (by simp)
 refine ⟨⟨e0.mod,S.kind,rfl,rfl,Nat.le_refl _,fun y z c h1 h2=>?_,fun y hy=>?_,fun y c _ h=>?_,fun _=>hd,Around.frames_deeper e0.frames,.inr ⟨rfl,rfl⟩,fun b z=>absurd z (noA b),e0.bs,e0.bsz,fun b _ _=>noA b,fun b z=>absurd z (noA b),e0.funs,e0.frf⟩,
  rfl,e0.bare,Un.kept hk,⟨_,x.toInCall.ns,fun i y v h1 h2 h3=>?_⟩,fun y c h=>⟨_,x.cell y c h⟩,e0.hok.fresh (Nat.le_refl _),fun y c h=>?_,fun p hp=>absurd (show p∈([]:List (Addr×Obj)) from hp) (by simp),e0.hok.kept hk,?_⟩
 · exact name_of_addr x.apart (PySem.mem_of_lookup h1) (PySem.mem_of_lookup h2)
 · have hy:scope.names.lookup y=some .cell∨scope.names.lookup y=some .free:=hy;rcases hy with hy | hy
   · exact oJ hy
   · exact absurd rfl (S.nofree _ (PySem.mem_of_lookup hy))
 · exact Nat.le_of_lt (x.above y c (PySem.mem_of_lookup h))
 · have hi:i<vs.length:=by
    unfold start at h2;by_cases hi:i<vs.length
    · exact hi
    · rw [List.getElem?_append_right (by simpa using hi)] at h2;rw [List.getElem?_replicate] at h2;split at h2 <;> cases h2
   have ha:vs[i]?=some v:=by
    unfold start at h2;rw [List.getElem?_append_left (by simpa using hi),List.getElem?_map] at h2;cases e:vs[i]? with
    | none=>rw [e] at h2;cases h2
    | some a=>rw [e] at h2;cases h2;rfl
   obtain ⟨u,hu,rv⟩:=r.get ha
   have hp:ps[i]?=some y:=by
    rw [<- S.pre,List.getElem?_take_of_lt (by omega)];exact h1
   have ndP:ps.Nodup:=by rw [<- S.pre];exact S.nd.sublist (List.take_sublist _ _)
   refine ⟨u,rv,?_⟩;rcases S.par y (List.mem_of_getElem? hp) with k | k
   · exact .inl ⟨k,mr ndP hp hu k⟩
   · obtain ⟨c,e⟩:=oJ (n:=s.heap.objs.size+1) k;refine .inr ⟨.inl k,c,e,?_⟩;have q:=x.cell y c e;rw [mw ndP hp hu (by show scope.names.lookup y≠_;rw [k];decide)] at q;exact q
 · exact e0.hok.fresh (Nat.le_of_lt (x.above y c (PySem.mem_of_lookup h)))
 · unfold start;show _=N.length;rw [List.length_append,List.length_map,List.length_replicate];omega
theorem vg {CX:CXT} {P:Program} {w:World} {K:PySem.W.Frag} {mg:Str->Option Value} {base:Heap} {k:Nat} {f:Addr} {name qual:Str} {params:Arguments} {body:List Stmt} {scope:Scope} {dV kV doc pm cdv ct oc:Value} {an od:Option Addr}
 {osl:Array (Option Value)} {N ps:List Str} {sp:Sp} (lk:K.lookup f=some ⟨oc,od,.func (PySem.W.fnOf name qual params body scope dV kV doc pm an cdv ct),osl⟩) (hcd:PySem.W.codeIn K cdv qual=true) (S:aq N ps scope)
 (len:∀ vs H Q E,sp vs H Q E->vs.length=ps.length)
 (hbody:∀ (A:Around) (outer:List Env) (s:Shared) (H:Hp) (vs:List V) (Q:VK) (E:XK),Room k (A.deeper (envOfC qual scope s.heap.objs.size f cdv))->sp vs H Q E →
  ∃ t,PSs (pS CX P w K mg base N qual scope f cdv A outer s H E) body t/\t { nx:=fun _ H'=>Q .non H',rt:=Q } (start N vs) H) :
 FnOk P w K mg base CX (k+1) f (PySem.W.fnOf name qual params body scope dV kV doc pm an cdv ct) ps sp:=by
 refine ⟨len,fun A outer s H args us vs Q E hr e0 hb r hsp=>?_⟩;have hl:=len _ _ _ _ hsp;have KX:K.In s.heap:=e0.mod.kin.keeps fun b o e=>(e0.bs b o e).1;have lim:s.heap.NoLimit:=e0.mod.nolimit.keeps fun b o e=>(e0.bs b o e).1
 have hkind:∀ y∈ps.zip us,scope.names.lookup y.1=some .local∨(scope.names.lookup y.1=some .cell/\((cellsFrom (s.heap.objs.size+1) scope.names []).lookup y.1).isSome=true):=fun ⟨n,v⟩ hy=>by
  rcases S.par n (List.of_mem_zip hy).1 with q | q
  · exact .inl q
  · exact .inr ⟨q,PySem.W.cellsFrom_some _ _ _ (.inl q)⟩
 refine codeAny_call_function hr.depth (KX _ _ lk) rfl S.co S.gen rfl (PySem.W.codeRec_of KX hcd) (hb _ _ _ _ ?_);refine wpAny_newFunctionEnv_cells S.kind hkind fun env he s1 x=>?_;subst he;refine ⟨lim.keeps x.toInCall.keep,codeAny_func ?_⟩;obtain ⟨t,ht,hq⟩:=hbody A outer s H vs Q E (hr.deeper _) hsp;have I:Inv (pS CX P w K mg base N qual scope f cdv A outer s H E) [] (start N vs) H s1:=rJ S hr.hd e0 hl r x;refine wpAny_mono (ht [] s1 (start N vs) H _ I hq) (fun fl s' hs=>?_) fun e s' hs=>hs
 have fin:∀ {σ':St} {H':Hp} {v:V} {u:Value},Inv (pS CX P w K mg base N qual scope f cdv A outer s H E) [] σ' H' s'->RelV v u->Q v H'->CE outer P w H s Q u s' :=
  fun {σ' H' v u} J rv q=>⟨v,H',J.os,J.bare,J.base,J.hok,rv,q⟩
 cases fl with
 | ret u =>
   obtain ⟨v,σ',H',J,rv,q⟩:=hs;exact fin J rv q
 | next =>
   obtain ⟨σ',H',J,q⟩:=hs;exact fin (v:=V.non) (u:=Value.none) J rfl q
 | brk =>
   obtain ⟨_,_,_,q⟩:=hs;exact False.elim q
 | cont =>
   obtain ⟨_,_,_,q⟩:=hs;exact False.elim q
end L2
namespace L2
open PySem PySem.Spec PyProof.Rows
section
variable {X:Cx} {x:Str} {p pos:Pos} {e:Expr} {es:List Expr} {t:TA} {id T:String} {r:List V->Hp->VK->Prop}
def tCB (r:List V->Hp->VK->Prop) (t:TA):TE:=fun σ H Q=>t σ H fun vs H1=>r vs H1 Q
theorem ax (hc:dQ X (.builtin id) r) (hg:Gl X x) (hm:X.mg x=none) (hv:bootBuiltins x=some (.builtin id)) (ha:PA X (e::es) t) (hn:x≠"__name__":=by decide) (hdb:(x == ("__debug__":Str))=false:=by decide)
 (he:starEach (e::es) X.env=(false,eval e X.env)::starEach es X.env:=by rfl) (hpl:(backTo pos (starEach es X.env)).any (·.1)=false:=by rfl):PE X (.Call (.Name x p) (e::es) [] pos) (tCB r t):=by
 intro pins s σ H Q I h;refine wpAny_Call_Name_kw (gW I hg hm hv ?_ hn hdb);exact PyProof.Rows.callWith_builtin1 (thn (ha pos pins s σ H _ I h) fun us s1 ⟨vs,H1,I1,r1,q1⟩=>hc pins s1 σ H1 vs us Q I1 r1 q1) he hpl
theorem aG (hc:dQ X (.type T) r) (hg:Gl X x) (hm:X.mg x=none) (hv:bootBuiltins x=some (.type T)) (ha:PA X (e::es) t) (hn:x≠"__name__":=by decide) (hdb:(x == ("__debug__":Str))=false:=by decide)
 (he:starEach (e::es) X.env=(false,eval e X.env)::starEach es X.env:=by rfl) (hpl:(backTo pos (starEach es X.env)).any (·.1)=false:=by rfl):PE X (.Call (.Name x p) (e::es) [] pos) (tCB r t):=by
 intro pins s σ H Q I h;refine wpAny_Call_Name_kw (gW I hg hm hv ?_ hn hdb);exact PyProof.Rows.callWith_type1 (thn (ha pos pins s σ H _ I h) fun us s1 ⟨vs,H1,I1,r1,q1⟩=>hc pins s1 σ H1 vs us Q I1 r1 q1) he hpl
end
end L2
namespace HT
open PySem PyProof.Rows
section
open PySem.SeqAt
open PySem.AutoSeq1 (wpAny_loadPart')
open PySem.MeetsSeq PySem.MeetsSeq2 PySem.MeetsSeq3
end
section
variable {prog:Program} {w:World} {A:Around} {E:Value->Shared->Prop} {s:Shared}
theorem cat_tup {t b:Addr} {vs ws:List Value} {Q:Value->Shared->Prop} (ht:IsTup s.heap t vs.toArray) (hb:IsTup s.heap b ws.toArray) (hv:vs≠[])
 (h1:ws=[]->Q (.ref t) s) (h2:ws≠[]->Q (.ref s.heap.objs.size) { s with heap:=s.heap.push { cls:=.type "tuple",data:=.seq (vs++ws).toArray } })
 (hsz:vs.length+ws.length<=sizeLine):wpAny (model prog w) A (binaryOp .Add (.ref t) (.ref b)) Q E s:=by
 obtain ⟨⟨cls,dd,data,sl⟩,ho,hc,n,hd⟩:=id ht;obtain ⟨⟨cls2,dd2,data2,sl2⟩,ho2,hc2,n2,hd2⟩:=id hb;simp only at hc hd hc2 hd2;subst hc hd hc2 hd2;have e:vs.toArray++ws.toArray=(vs++ws).toArray:=by simp
 by_cases hw:ws=[]
 · exact concat_meets ⟨_,ho,rfl⟩ ⟨_,ho2,rfl⟩ noFill_tuple_add seq_tuple_add PySem.F.slot_tuple_add PySem.F.entry_tuple_add (PySem.F.args_tuple_add_2 _ _)
    (tuple_addW1 t b vs.toArray ws.toArray n n2 dd dd2 sl sl2 (by simpa using hv) (by simp [hw])) ⟨ho,ho2,h1 hw⟩
 · refine concat_meets ⟨_,ho,rfl⟩ ⟨_,ho2,rfl⟩ noFill_tuple_add seq_tuple_add PySem.F.slot_tuple_add PySem.F.entry_tuple_add (PySem.F.args_tuple_add_2 _ _)
    (tuple_addW2 t b vs.toArray ws.toArray n n2 dd dd2 sl sl2 (by simpa using hv) (by simpa using hw) (by rw [List.size_toArray,List.size_toArray];exact hsz)) ⟨ho,ho2,?_⟩
   rw [e];exact h2 hw
def sIx (n d:Nat):Option Int->Nat
 | none=>d
 | some v=>if v<0 then (v+(n:Int)).toNat else min v.toNat n
theorem sIx_none (n d:Nat):sIx n d none=d:=rfl
theorem sIx_nat (n d k:Nat):sIx n d (some (k:Int))=min k n:=by
 show (if (k:Int)<0 then ((k:Int)+(n:Int)).toNat else min (k:Int).toNat n)=min k n;rw [if_neg (by omega),Int.toNat_natCast]
theorem sIx_le (n d:Nat) (hd:d<=n) (o:Option Int):sIx n d o<=n:=by
 cases o with
 | none=>exact hd
 | some v =>
   show (if v<0 then (v+(n:Int)).toNat else min v.toNat n)<=n;by_cases hv:v<0
   · rw [if_pos hv];omega
   · rw [if_neg hv];exact Nat.min_le_right _ _
theorem clip_eq (v:Int) (n d:Nat):(if v<0 then max (v+(n:Int)) 0 else min v (n:Int))=((sIx n d (some v):Nat):Int):=by
 show (if v<0 then max (v+(n:Int)) 0 else min v (n:Int))=(((if v<0 then (v+(n:Int)).toNat else min v.toNat n):Nat):Int);by_cases hv:v<0
 · simp only [if_pos hv];omega
 · simp only [if_neg hv];omega
theorem adjust_gen (lo hi:Option Int) (n:Nat):Builtin.Slice.sliceAdjust lo hi 1 (n:Int)=(((sIx n 0 lo:Nat):Int),((sIx n n hi:Nat):Int)):=by
 have h1:¬ ((1:Int)<0):=by omega
 unfold Builtin.Slice.sliceAdjust;simp only [h1,if_false];refine Prod.ext ?_ ?_
 · cases lo with
   | none=>rfl
   | some v=>exact clip_eq v n 0
 · cases hi with
   | none=>rfl
   | some v=>exact clip_eq v n n
theorem places_gen (i j:Nat):Builtin.Slice.slicePlaces (i:Int) (j:Int) 1=j - i:=by
 unfold Builtin.Slice.slicePlaces;have h1:(1:Int) > 0:=by omega
 simp only [h1,if_true,Int.ediv_one];split <;> omega
theorem slicePart_ {v:Value} {o:Option Int} {Q:Option Int->Shared->Prop} (p:IsPart v o) (h:Q o s):wpAny (model prog w) A (Builtin.Slice.slicePartIndex v) Q E s:=by
 cases p with
 | none=>exact slicePart_none h
 | int i t=>exact slicePart_int h
theorem sliceApplied_gen {sl:Addr} {vl vu:Value} {lo hi:Option Int} {n:Nat} {Q:Int×Int×Nat->Shared->Prop} (hs:s.heap.IsSliceOf sl vl vu .none) (pl:IsPart vl lo) (pu:IsPart vu hi)
 (h:Q (((sIx n 0 lo:Nat):Int),1,sIx n n hi - sIx n 0 lo) s):wpAny (model prog w) A (Builtin.Slice.sliceApplied (.ref sl) (pure (n:Int))) Q E s:=by
 obtain ⟨os,hos,hcs,hds⟩:=id hs;unfold Builtin.Slice.sliceApplied Builtin.Slice.sliceFields;refine wpAny_bind (wpAny_bind (wpAny_field hos hds (x:=vl) rfl (wpAny_bind (wpAny_field hos hds (x:=vu) rfl (wpAny_bind (wpAny_field hos hds (x:=.none) rfl (wpAny_pure ?_)))))));refine wpAny_bind (slicePart_none ?_);show wpAny _ _ (if ((1:Int) == 0)=true then _ else _) _ _ s;rw [if_neg (by decide)];refine wpAny_bind (slicePart_ pl (wpAny_bind (slicePart_ pu (wpAny_bind (wpAny_pure ?_)))));show wpAny _ _ (match Builtin.Slice.sliceAdjust lo hi 1 (n:Int) with | (lo,hi)=>pure (lo,(1:Int),Builtin.Slice.slicePlaces lo hi 1)) _ _ s;rw [adjust_gen lo hi n];show wpAny _ _ (pure (((sIx n 0 lo:Nat):Int),(1:Int),Builtin.Slice.slicePlaces ((sIx n 0 lo:Nat):Int) ((sIx n n hi:Nat):Int) 1)) _ _ s;rw [places_gen];exact wpAny_pure h
theorem pick_gen (xs:Array Value) (i k:Nat):((List.range k).filterMap fun (m:Nat)=>xs[((i:Int)+(m:Int) * 1).toNat]?).toArray=((xs.toList.drop i).take k).toArray:=by
 have e:(fun (m:Nat)=>xs[((i:Int)+(m:Int) * 1).toNat]?)=fun m=>xs[i+m]?:=by
  funext m;have:((i:Int)+(m:Int) * 1).toNat=i+m:=by omega
  rw [this]
 rw [e];have:=pick_run xs i k;rw [List.filterMap_map] at this;have e2:((fun x=>xs[x]?) ∘ fun x=>i+x)=fun m=>xs[i+m]?:=rfl;rw [e2] at this;rw [this]
theorem getItem_tuple_cut {t sl:Addr} {items:Array Value} {vl vu:Value} {lo hi:Option Int} {Q:Value->Shared->Prop} (ht:IsTup s.heap t items) (hs:s.heap.IsSliceOf sl vl vu .none) (pl:IsPart vl lo) (pu:IsPart vu hi)
 (hw:¬ (sIx items.size 0 lo=0/\sIx items.size items.size hi=items.size))
 (h:Q (.ref s.heap.objs.size) { s with heap:=s.heap.push { cls:=.type "tuple",data:=.seq ((items.toList.drop (sIx items.size 0 lo)).take (sIx items.size items.size hi - sIx items.size 0 lo)).toArray } })
 (hsz:items.size<=sizeLine):wpAny (model prog w) A (getItem (.ref t) (.ref sl)) Q E s:=by
 have htake:sizeOk (.seq ((items.toList.drop (sIx items.size 0 lo)).take (sIx items.size items.size hi - sIx items.size 0 lo)).toArray):=by
  show ((items.toList.drop (sIx items.size 0 lo)).take (sIx items.size items.size hi - sIx items.size 0 lo)).toArray.size<=sizeLine;rw [List.size_toArray,List.length_take,List.length_drop,Array.length_toList];omega
 have hj:sIx items.size items.size hi<=items.size:=sIx_le _ _ (Nat.le_refl _) hi;obtain ⟨os,hos,hcs,hds⟩:=id hs;have hTs:s.TypeIs (.ref sl) "slice":=⟨os,hos,hcs⟩;unfold getItem
 try with_reducible refine wpAny_holding ?_
 first | refine wpAny_bind (wpAny_pure ?_) | skip
 refine wpAny_bind (wpAny_sequenceKey ht.typeIs (by decide) ?_)
 refine wpAny_bind (wpAny_callSpecial?_slot (name:=Str.ofString "__getitem__") ht.typeIs PyProof.Rows.slot_tuple_getitem
  (wpAny_call_entry PyProof.Rows.slot_tuple_getitem ht.typeIs entry_tuple_getitem ?_ (args_tuple_getitem _ _)))
 show wpAny _ _ (Builtin.Tuple.tupleItemsOf (.ref t) >>= _) _ _ s;refine wpAny_bind (tupleItemsOf_ ht ?_);refine wpAny_bind (wpAny_typeOf hTs ?_);rw [if_pos (by decide)];refine wpAny_bind (sliceApplied_gen hs pl pu ?_)
 have hno:¬ ((((sIx items.size 0 lo:Nat):Int) == 0 && (1:Int) == 1 && (sIx items.size items.size hi - sIx items.size 0 lo) == items.size)=true):=by
  intro q;rw [Bool.and_eq_true,Bool.and_eq_true] at q;have q1:((sIx items.size 0 lo:Nat):Int)=0:=eq_of_beq q.1.1;have q2:sIx items.size items.size hi - sIx items.size 0 lo=items.size:=eq_of_beq q.2;exact hw ⟨by omega,by omega⟩
 show wpAny _ _ (if (((sIx items.size 0 lo:Nat):Int) == 0 && (1:Int) == 1 && (sIx items.size items.size hi - sIx items.size 0 lo) == items.size)=true then _ else _) _ _ s;rw [if_neg hno,pick_gen]
 first
  | exact wpAny_bind (m:=Builtin.Tuple.tupleExact _) (wpAny_newObj_type (wpAny_pure ⟨_,rfl,wpAny_pure h⟩) htake)
  | exact wpAny_bind (m:=Builtin.Tuple.tupleExact _) (wpAny_newObj_type (wpAny_bind (wpAny_pure (wpAny_pure ⟨_,rfl,wpAny_pure h⟩))) htake)
  | exact wpAny_bind (wpAny_bind (m:=Builtin.Tuple.tupleExact _) (wpAny_newObj_type (wpAny_pure (wpAny_pure ⟨_,rfl,wpAny_pure h⟩)) htake))
  | exact wpAny_bind (wpAny_bind (m:=Builtin.Tuple.tupleExact _) (wpAny_newObj_type (wpAny_pure ⟨_,rfl,wpAny_pure h⟩) htake))
end
end HT
namespace L2
open PySem PySem.Spec PyProof.Rows
abbrev TO:=St->Hp->(Option Int->Hp->Prop)->Prop
def PO (X:Cx) (e:Option Expr) (t:TO):Prop :=
 ∀ (pins:List (Addr×Obj)) (s:Shared) (σ:St) (H:Hp) (Q:Option Int->Hp->Prop),Inv X pins σ H s->t σ H Q →
   wpAny (model X.prog X.w) X.A (evalPart e X.env) (fun u s'=>∃ o H',Inv X pins σ H' s'/\IsPart u o/\Q o H') X.xe s
def uM:TO:=fun _ H Q=>Q none H
inductive vD (x:V) (Q:Option Int->Hp->Prop) (H1:Hp):Prop
 | mk (i:Int) (zz0:x=.int i) (zz1:Q (some i) H1):vD x Q H1
def vh (t:TE):TO:=fun σ H Q=>t σ H fun x H1=>vD x Q H1
section
variable {X:Cx} {e:Expr} {te:TE} {lo hi:Option Expr} {tl th:TO} {pos p2:Pos}
theorem eh:PO X none uM:=by
 intro pins s σ H Q I h;rw [evalPart_none];exact wpAny_pure ⟨none,H,I,.none,h⟩
theorem dB (h:PE X e te):PO X (some e) (vh te):=by
 intro pins s σ H Q I hw;rw [evalPart_some];refine thn (h pins s σ H _ I hw) fun u s1 ⟨x,H1,I1,r1,q1⟩=>?_;obtain ⟨i,rfl,q⟩:=q1;obtain ⟨t,rfl⟩:=r1;exact ⟨some i,H1,I1,.int i t,q⟩
def SlR (X:Cx) (r:V->Option Int->Option Int->Hp->VK->Prop):Prop :=
 ∀ (pins:List (Addr×Obj)) (s:Shared) (σ:St) (H:Hp) (x:V) (v vl vu:Value) (lo hi:Option Int) (sl:Addr) (Q:VK),Inv X pins σ H s->RelV x v->s.heap.IsSliceOf sl vl vu .none->IsPart vl lo->IsPart vu hi->r x lo hi H Q →
   ∃ T id,typeLookup (.type T) "__getitem__"=pure (some (.builtin id))/\s.TypeIs v T/\wpAny (model X.prog X.w) X.A (getItem v (.ref sl)) (EP X pins σ Q) X.xe s
def tSl (r:V->Option Int->Option Int->Hp->VK->Prop) (te:TE) (tl th:TO):TE:=fun σ H Q=>te σ H fun x H1=>tl σ H1 fun l H2=>th σ H2 fun u H3=>r x l u H3 Q
theorem c9 {r:V->Option Int->Option Int->Hp->VK->Prop} (hr:SlR X r) (he:PE X e te) (hl:PO X lo tl) (hu:PO X hi th):PE X (.Subscript e (.Slice lo hi none p2) pos) (tSl r te tl th):=by
 intro pins s σ H Q I h;refine Subscript_ (thn (he pins s σ H _ I h) fun v s1 ⟨x,H1,I1,r1,q1⟩=>?_);refine wpAny_Slice (thn (hl pins s1 σ H1 _ I1 q1) fun vl s2 ⟨l,H2,I2,pl,q2⟩=>thn (hu pins s2 σ H2 _ I2 q2) fun vu s3 ⟨u,H3,I3,pu,q3⟩=>?_);rw [evalPart_none];refine wpAny_pure ?_;have I4:Inv X pins σ H3 { s3 with heap:=s3.heap.push { cls:=.type "slice",data:=.fields #[vl,vu,.none] } }:=I3.kept (t':=s3.toks) fun b ob q=>Heap.get?_push_of_some _ q;obtain ⟨T,id,hT,ht,hg⟩:=hr pins { s3 with heap:=s3.heap.push { cls:=.type "slice",data:=.fields #[vl,vu,.none] } } σ H3 x v vl vu l u s3.heap.objs.size Q I4 r1 (Heap.IsSliceOf.new ..) pl pu q3;show wpAny (model X.prog X.w) X.A (subscriptTail e (.Slice lo hi none p2) v (.ref s3.heap.objs.size)) (EP X pins σ Q) X.xe { s3 with heap:=s3.heap.push { cls:=.type "slice",data:=.fields #[vl,vu,.none] } };exact tail_any (ops:=[.ref s3.heap.objs.size,v]) ht hT hg (by with_unfolding_all rfl)
def d7 (xs:List V) (lo hi:Option Int):List V:=(xs.drop (HT.sIx xs.length 0 lo)).take (HT.sIx xs.length xs.length hi - HT.sIx xs.length 0 lo)
theorem jC (xs:List V) (lo hi:Option Int):(d7 xs lo hi).length<=xs.length:=by
 unfold d7;rw [List.length_take,List.length_drop];omega
inductive vG (K:PySem.W.Frag) (x:V) (lo:Option Int) (hi:Option Int) (H:Hp) (Q:VK):Prop
 | mk (a:_) (xs:_) (zz0:x=.ref a) (zz1:SqT K H a xs) (zz2:¬ (HT.sIx xs.length 0 lo=0/\HT.sIx xs.length xs.length hi=xs.length)) (zz3:∀ p,H p=none->Q (.ref p) (upd H p (.tup (d7 xs lo hi)))):vG K x lo hi H Q
def xN (K:PySem.W.Frag):V->Option Int->Option Int->Hp->VK->Prop:=vG K
theorem sd:SlR X (xN X.K):=by
 intro pins s σ H x v vl vu lo hi sl Q I rx hs pl pu h;obtain ⟨a,xs,rfl,hx,hw,q⟩:=h;cases rx;obtain ⟨its,r,ht,hz⟩:=I.tuple hx;have hlen:its.toArray.size=xs.length:=by rw [List.size_toArray];exact r.length.symm
 refine ⟨"tuple",_,PyProof.Rows.slot_tuple_getitem.lookup,ht.typeIs,?_⟩;refine HT.getItem_tuple_cut ht hs pl pu (by rw [hlen];exact hw) ?_ (by rw [hlen];exact hz);rw [hlen];refine ⟨.ref s.heap.objs.size,_,I.laid (t':=s.toks) (o:=.tup (d7 xs lo hi)) (fun b ob q=>Heap.get?_push_of_some _ q) (Nat.le_refl _) ?_,rfl,q _ (I.hok.fresh (Nat.le_refl _))⟩;exact ⟨Nat.le_trans (jC xs lo hi) hz,_,0,(r.drop (HT.sIx xs.length 0 lo)).take (HT.sIx xs.length xs.length hi - HT.sIx xs.length 0 lo),Heap.get?_push_size _ rfl⟩
def wS (K:PySem.W.Frag):R2:=fun x y H Q=>∃ a b xs ys,x=.ref a/\y=.ref b/\SqT K H a xs/\SqT K H b ys/\xs≠[]/\xs.length+ys.length<=sizeLine ∧
 (ys=[]->Q (.ref a) H)/\(ys≠[]->∀ p,H p=none->Q (.ref p) (upd H p (.tup (xs++ys))))
theorem Vals.nil_iff {xs:List V} {us:List Value} (r:Vals xs us):us=[]↔xs=[]:=by
 cases r with
 | nil=>simp
 | cons _ _=>simp
theorem ui:OpR X (binaryOp .Add) (wS X.K):=by
 intro pins s σ H x y v u Q I rx ry h;obtain ⟨a,b,xs,ys,rfl,rfl,ha,hb,hx,hz,q1,q2⟩:=h;cases rx;cases ry;obtain ⟨its,r1,p1,_⟩:=I.tuple ha;obtain ⟨its2,r2,p2,_⟩:=I.tuple hb;refine HT.cat_tup p1 p2 (fun z=>hx (r1.nil_iff.mp z)) (fun z=>⟨.ref a,H,I,rfl,q1 (r2.nil_iff.mp z)⟩) (fun z=>?_) (by rw [<- r1.length,<- r2.length];exact hz);refine ⟨.ref s.heap.objs.size,_,I.laid (t':=s.toks) (o:=.tup (xs++ys)) (fun b ob q=>Heap.get?_push_of_some _ q) (Nat.le_refl _) ?_,rfl,q2 (fun w=>z (r2.nil_iff.mpr w)) _ (I.hok.fresh (Nat.le_refl _))⟩;exact ⟨by rw [List.length_append];exact hz,_,0,r1.append r2,Heap.get?_push_size _ rfl⟩
end
end L2
namespace L2
open PySem PySem.Spec PyProof.Rows
def ixN (n:Nat) (i:Int):Option Nat:=if 0<=i then (if i<n then some i.toNat else none) else if -(n:Int)<=i then some (i+n).toNat else none
def atI {α:Type} (xs:List α) (i:Int):Option α:=(ixN xs.length i).bind fun j=>xs[j]?
theorem nG {n:Nat} {i:Int} {j:Nat} (h:ixN n i=some j):seqIndex? i n=some j/\j<n/\-(n:Int)<=i/\i<n:=by
 unfold ixN at h;by_cases h0:0<=i
 · rw [if_pos h0] at h;by_cases h1:i<n
   · rw [if_pos h1] at h;have e:i.toNat=j:=Option.some.inj h;exact ⟨by rw [seqIndex_of h0 h1,e],by omega,by omega,h1⟩
   · rw [if_neg h1] at h;cases h
 · rw [if_neg h0] at h;by_cases h1:-(n:Int)<=i
   · rw [if_pos h1] at h;have e:(i+n).toNat=j:=Option.some.inj h;exact ⟨by rw [seqIndex_neg (by omega) h1,e],by omega,h1,by omega⟩
   · rw [if_neg h1] at h;cases h
theorem nC {α:Type} {xs:List α} {i:Int} {v:α} (h:atI xs i=some v):∃ j,seqIndex? i xs.length=some j/\xs[j]?=some v/\j<xs.length/\-(xs.length:Int)<=i/\i<xs.length:=by
 unfold atI at h;cases e:ixN xs.length i with
 | none=>rw [e] at h;cases h
 | some j =>
   rw [e] at h;obtain ⟨h1,h2,h3,h4⟩:=nG e;exact ⟨j,h1,h,h2,h3,h4⟩
theorem cP {α:Type} {xs:List α} {j:Nat} {v:α} (h:xs[j]?=some v):atI xs (j:Int)=some v:=by
 have hj:j<xs.length:=(List.getElem?_eq_some_iff.mp h).1
 have e:ixN xs.length (j:Int)=some j:=by
  unfold ixN;rw [if_pos (by omega),if_pos (by omega)];simp
 unfold atI;rw [e];exact h
def uh (b:Expr):Prop:=∀ o i,subscripted b false o i=operate [o,i] (getItem o i)
def IxR (X:Cx) (r:R2):Prop :=
 ∀ (value slice:Expr) (pins:List (Addr×Obj)) (s:Shared) (σ:St) (H:Hp) (x y:V) (v u:Value) (Q:VK),Inv X pins σ H s->RelV x v->RelV y u->r x y H Q →
   subscripted slice false v u=operate [v,u] (getItem v u)->wpAny (model X.prog X.w) X.A (subscriptTail value slice v u) (EP X pins σ Q) X.xe s
def MtR (X:Cx) (id:String) (r:V->List V->Hp->VK->Prop):Prop :=
 ∀ (pins:List (Addr×Obj)) (s:Shared) (σ:St) (H:Hp) (x:V) (xs:List V) (v:Value) (us:List Value) (Q:VK),Inv X pins σ H s->RelV x v->Vals xs us->r x xs H Q →
   wpAny (model X.prog X.w) X.A (call (.builtin id) (v::us)) (EP X pins σ Q) X.xe s
section
variable {X:Cx} {a b:Expr} {ta tb:TE} {pos:Pos}
theorem aK {r:R2} (hr:IxR X r) (ha:PE X a ta) (hb:PE X b tb) (hs:uh b):PE X (.Subscript a b pos) (tOp r ta tb):=by
 intro pins s σ H Q I h;exact Subscript_ (vU ha hb I h fun v u s2 x y H2 I2 rx ry q=>hr a b pins s2 σ H2 x y v u Q I2 rx ry q (hs _ _))
inductive vA (K:PySem.W.Frag) (x:V) (y:V) (H:Hp) (Q:VK):Prop
 | mk (p:_) (xs:_) (i:_) (v:_) (zz0:x=.ref p) (zz1:y=.int i) (zz2:SqL K H p xs) (zz3:atI xs i=some v) (zz4:Q v H):vA K x y H Q
def xV (K:PySem.W.Frag):R2:=vA K
inductive vy (K:PySem.W.Frag) (x:V) (y:V) (H:Hp) (Q:VK):Prop
 | mk (p:_) (xs:_) (i:_) (v:_) (zz0:x=.ref p) (zz1:y=.int i) (zz2:SqT K H p xs) (zz3:atI xs i=some v) (zz4:Q v H):vy K x y H Q
def rK (K:PySem.W.Frag):R2:=vy K
inductive vk (x:V) (y:V) (H:Hp) (Q:VK):Prop
 | mk (z:_) (i:_) (c:_) (zz0:x=.str z) (zz1:y=.int i) (zz2:z.length<=sizeLine) (zz3:atI z.cps.toList i=some c) (zz4:Q (.str ⟨#[c]⟩) H):vk  x y H Q
def yq:R2:=vk
theorem cT:IxR X (xV X.K):=by
 intro value slice pins s σ H x y v u Q I rx ry h hs;obtain ⟨p,xs,i,z,rfl,rfl,hq,he,q⟩:=h;cases rx;obtain ⟨t,rfl⟩:=ry;obtain ⟨its,r,pl,hz⟩:=I.list hq;obtain ⟨j,h1,h2,h3,h4,h5⟩:=nC he;obtain ⟨w,ew,rw'⟩:=r.get h2;have hl:=r.length;have hn:=fe;have fin:EP X pins σ Q w s:=⟨z,H,I,rw',q⟩;by_cases h0:0<=i
 · have hj:i.toNat=j:=by
    rw [seqIndex_of h0 h5] at h1;exact Option.some.inj h1
   exact item_listR pl.isList h0 (by omega) (by rw [hj];simpa using ew) fin hs
 · have hj:(i+(its.toArray.size:Int)).toNat=j:=by
    rw [seqIndex_neg (by omega) h4] at h1;rw [List.size_toArray,<- hl];exact Option.some.inj h1
   exact subscriptTail_builtinR (x:=w) pl.isList.typeIs slot_list_getitem.lookup
    (wpAny_getItem_list_neg (Q:=fun r s'=>r=w/\EP X pins σ Q r s') pl.isList (by omega) (by rw [List.size_toArray] <;> omega) (by omega) (by rw [hj];simpa using ew) ⟨rfl,fin⟩) hs
theorem aL:IxR X (rK X.K):=by
 intro value slice pins s σ H x y v u Q I rx ry h hs;obtain ⟨p,xs,i,z,rfl,rfl,hq,he,q⟩:=h;cases rx;obtain ⟨t,rfl⟩:=ry;obtain ⟨its,r,pl,hz⟩:=I.tuple hq;obtain ⟨j,h1,h2,h3,h4,h5⟩:=nC he;obtain ⟨w,ew,rw'⟩:=r.get h2;have hl:=r.length;have hn:=fe;have fin:EP X pins σ Q w s:=⟨z,H,I,rw',q⟩
 exact subscriptTail_builtinR (x:=w) pl.typeIs slot_tuple_getitem.lookup
  (getItem_tuple (j:=j) (Q:=fun r s'=>r=w/\EP X pins σ Q r s') pl (by omega) (by omega) (by rw [List.size_toArray,<- hl];exact h1) (by simpa using ew) ⟨rfl,fin⟩) hs
theorem sh:IxR X yq:=by
 intro value slice pins s σ H x y v u Q I rx ry h hs;obtain ⟨z,i,c,rfl,rfl,hz,he,q⟩:=h;obtain ⟨t,rfl⟩:=rx;obtain ⟨t',rfl⟩:=ry;obtain ⟨j,h1,h2,h3,h4,h5⟩:=nC he;have hl:z.cps.toList.length=z.length:=by simp [Str.length]
 rw [hl] at h1 h4 h5;have hn:=fe
 exact tail_any (typeIs_str s z t) slot_str_getitem.lookup (getItem_str (c:=c) (by
  have e1:decide (i < -(2 ^ 63:Int))=false:=decide_eq_false (by omega);have e2:decide (i ≥ 2 ^ 63)=false:=decide_eq_false (by omega);rw [e1,e2,Bool.or_false]) (by rw [h1];simpa using h2) ⟨.str ⟨#[c]⟩,H,I.tok _,⟨_,rfl⟩,q⟩) hs
theorem pJ (its:List Value) (n j:Nat) (u:Value):Obj.mapSeq (·.setIfInBounds j u) { cls:=.type "list",data:=.seq its.toArray n }={ cls:=.type "list",data:=.seq (its.set j u).toArray n }:=by
 simp [Obj.mapSeq]
theorem Inv.lst {pins:List (Addr×Obj)} {σ:St} {H:Hp} {s:Shared} {p:Addr} {xs:List V} (I:Inv X pins σ H s) (h:H p=some (.lst xs)) :
 ∃ (its:List Value) (n:Nat),Vals xs its/\s.heap.get? p=some { cls:=.type "list",data:=.seq its.toArray n }/\xs.length<=sizeLine:=by
 obtain ⟨z,its,n,r,e⟩:=I.hok p _ h;exact ⟨its,n,r,e,z⟩
theorem Inv.lstUpd {pins:List (Addr×Obj)} {σ:St} {H:Hp} {s:Shared} {p:Addr} {xs ys:List V} {its its':List Value} {n n':Nat} {f:Obj->Obj} (I:Inv X pins σ H s) (h:H p=some (.lst xs))
 (ho:s.heap.get? p=some { cls:=.type "list",data:=.seq its.toArray n }) (hf:f { cls:=.type "list",data:=.seq its.toArray n }={ cls:=.type "list",data:=.seq its'.toArray n' }) (r:Vals ys its') (hz:ys.length<=sizeLine) (t:Nat) :
 Inv X pins σ (upd H p (.lst ys)) { s with heap:=s.heap.update p f,toks:=t }:=by
 have e:(s.heap.update p f).get? p=some { cls:=.type "list",data:=.seq its'.toArray n' }:=by
  rw [Heap.get?_update_self f ho (by rw [hf] <;> rfl),hf]
 refine I.write (x:=p) (e:=p) (by rw [h];trivial) (.inl rfl) (fun b u hb q=>(Heap.get?_update_other _ _ (Ne.symm hb)).trans q) ⟨_,e⟩ ?_;exact ⟨hz,its',n',r,e⟩
def xu:V->V->V->Hp->(Hp->Prop)->Prop:=fun o i v H Q=>∃ p xs k j,o=.ref p/\i=.int k/\H p=some (.lst xs)/\ixN xs.length k=some j/\Q (upd H p (.lst (xs.set j v)))
theorem set_list:xc X xu:=by
 intro pins s σ H o i v ov iv u Q I ro ri rv h;obtain ⟨p,xs,k,j,rfl,rfl,hp,hj,q⟩:=h;cases ro;obtain ⟨t,rfl⟩:=ri;obtain ⟨its,n,r,ho,hz⟩:=I.lst hp;obtain ⟨h1,h2,h3,h4⟩:=nG hj;have hl:=r.length;have hn:=fe
 have I':Inv X pins σ (upd H p (.lst (xs.set j v))) { s with heap:=s.heap.update p (Obj.mapSeq (·.setIfInBounds j u)) } :=
  I.lstUpd hp ho (pJ its n j u) (r.set rv j) (by rw [List.length_set];exact hz) s.toks
 by_cases h0:0<=k
 · have hk:k.toNat=j:=by
    rw [seqIndex_of h0 h4] at h1;exact Option.some.inj h1
   exact PySem.W.ki_setAt ho h0 (by omega) (by rw [List.size_toArray,<- hl];exact h4) (by rw [hk];exact ⟨_,I',q⟩)
 · have hk:(k+(its.toArray.size:Int)).toNat=j:=by
    rw [seqIndex_neg (by omega) h3] at h1;rw [List.size_toArray,<- hl];exact Option.some.inj h1
   exact PySem.W.ki_setBack ho (by omega) (by rw [List.size_toArray,<- hl];exact h3) (by omega) (by rw [hk];exact ⟨_,I',q⟩)
theorem mV (lo hi:Option Int) (n:Nat):(sliceBounds lo hi none n).1=((HT.sIx n 0 lo:Nat):Int)/\(sliceBounds lo hi none n).2.1=((HT.sIx n n hi:Nat):Int)/\(sliceBounds lo hi none n).2.2=1:=by
 refine ⟨?_,?_,rfl⟩
 · cases lo with
   | none=>simp [sliceBounds,HT.sIx]
   | some i =>
     simp only [sliceBounds,HT.sIx,Option.getD_none,show (1:Int) > 0 by decide,if_true];by_cases h:i<0
     · simp only [h,if_true] <;> omega
     · simp only [h,if_false] <;> omega
 · cases hi with
   | none=>simp [sliceBounds,HT.sIx]
   | some i =>
     simp only [sliceBounds,HT.sIx,Option.getD_none,show (1:Int) > 0 by decide,if_true];by_cases h:i<0
     · simp only [h,if_true] <;> omega
     · simp only [h,if_false] <;> omega
theorem lL (its:List Value) (lo hi:Option Int):slicePick its.toArray lo hi none=((its.drop (HT.sIx its.length 0 lo)).take (HT.sIx its.length its.length hi - HT.sIx its.length 0 lo)).toArray:=by
 obtain ⟨h1,h2,h3⟩:=mV lo hi its.toArray.size;unfold slicePick;rw [h1,h2,h3];simp only [sliceRange_one,pick_run,List.size_toArray] <;> rfl
inductive vC (K:PySem.W.Frag) (x:V) (lo:Option Int) (hi:Option Int) (H:Hp) (Q:VK):Prop
 | mk (a:_) (xs:_) (zz0:x=.ref a) (zz1:SqL K H a xs) (zz2:∀ p,H p=none->Q (.ref p) (upd H p (.lst (d7 xs lo hi)))):vC K x lo hi H Q
def ym (K:PySem.W.Frag):V->Option Int->Option Int->Hp->VK->Prop:=vC K
theorem qj:SlR X (ym X.K):=by
 intro pins s σ H x v vl vu lo hi sl Q I rx hs pl pu h;obtain ⟨a,xs,rfl,hx,q⟩:=h;cases rx;obtain ⟨its,r,ht,hz⟩:=I.list hx;have hlen:=r.length;refine ⟨"list",_,slot_list_getitem.lookup,ht.isList.typeIs,?_⟩;refine wpAny_getItem_list_slice ht.isList hs pl pu .none (by simp) ?_ (by rw [List.size_toArray] <;> omega);rw [lL,<- hlen];refine ⟨.ref s.heap.objs.size,_,I.laid (t':=s.toks) (o:=.lst (d7 xs lo hi)) (fun b ob q=>Heap.get?_push_of_some _ q) (Nat.le_refl _) ?_,rfl,q _ (I.hok.fresh (Nat.le_refl _))⟩;exact ⟨Nat.le_trans (jC xs lo hi) hz,_,0,(r.drop (HT.sIx xs.length 0 lo)).take (HT.sIx xs.length xs.length hi - HT.sIx xs.length 0 lo),Heap.get?_push_size _ rfl⟩
def jt:V->Bool
 | .non=>true
 | .bl _=>true
 | .int _=>true
 | .str _=>true
 | _=>false
def eqV:V->V->Bool
 | .non,.non=>true
 | .bl a,.bl b=>a == b
 | .bl a,.int b=>(if a then 1 else 0) == b
 | .int a,.bl b=>a == (if b then 1 else 0)
 | .int a,.int b=>a == b
 | .str a,.str b=>a == b
 | _,_=>false
theorem v7 {A:Around} {s:Shared} {y x:V} {u v:Value} (ry:RelV y u) (rx:RelV x v) (fy:jt y=true) (fx:jt x=true):SeqAt.EqAt A s u v (eqV y x):=by
 cases y with
 | non =>
   cases ry;cases x with
   | non=>cases rx;exact SeqAt.EqAt.same _
   | bl b=>cases rx;exact SeqAt.EqAt.none_bool b
   | int b=>obtain ⟨t,rfl⟩:=rx;exact SeqAt.EqAt.none_int b t
   | str b=>obtain ⟨t,rfl⟩:=rx;exact SeqAt.EqAt.none_str b t
   | _=>exact absurd (show false=true from fx) Bool.false_ne_true
 | bl a =>
   cases ry;cases x with
   | non=>cases rx;exact SeqAt.EqAt.bool_none a
   | bl b=>cases rx;exact SeqAt.EqAt.bool_bool a b
   | int b=>obtain ⟨t,rfl⟩:=rx;exact SeqAt.EqAt.bool_int a b t
   | str b=>obtain ⟨t,rfl⟩:=rx;exact SeqAt.EqAt.bool_str a b t
   | _=>exact absurd (show false=true from fx) Bool.false_ne_true
 | int a =>
   obtain ⟨t',rfl⟩:=ry;cases x with
   | non=>cases rx;exact SeqAt.EqAt.int_none a t'
   | bl b=>cases rx;exact SeqAt.EqAt.int_bool a t' b
   | int b=>obtain ⟨t,rfl⟩:=rx;exact SeqAt.EqAt.int_int a t' b t
   | str b=>obtain ⟨t,rfl⟩:=rx;exact SeqAt.EqAt.int_str a t' b t
   | _=>exact absurd (show false=true from fx) Bool.false_ne_true
 | str a =>
   obtain ⟨t',rfl⟩:=ry;cases x with
   | non=>cases rx;exact SeqAt.EqAt.str_none a t'
   | bl b=>cases rx;exact SeqAt.EqAt.str_bool a t' b
   | int b=>obtain ⟨t,rfl⟩:=rx;exact SeqAt.EqAt.str_int a t' b t
   | str b=>obtain ⟨t,rfl⟩:=rx;exact SeqAt.EqAt.str_str a t' b t
   | _=>exact absurd (show false=true from fx) Bool.false_ne_true
 | _=>exact absurd (show false=true from fy) Bool.false_ne_true
def eqU (x:V) (u:Value):Bool:=match u with
 | .none=>eqV .non x
 | .bool b=>eqV (.bl b) x
 | .int i _=>eqV (.int i) x
 | .str z _=>eqV (.str z) x
 | _=>false
theorem sq {x y:V} {u:Value} (r:RelV y u) (f:jt y=true):eqU x u=eqV y x:=by
 cases y with
 | non=>cases r;rfl
 | bl b=>cases r;rfl
 | int i=>obtain ⟨t,rfl⟩:=r;rfl
 | str z=>obtain ⟨t,rfl⟩:=r;rfl
 | _=>exact absurd (show false=true from f) Bool.false_ne_true
theorem ny {x:V}:∀ {xs:List V} {us:List Value},Vals xs us->xs.all jt=true->us.any (eqU x)=xs.any fun y=>eqV y x
 | _,_,.nil,_=>rfl
 | y::xs,u::us,.cons r t,f=>by
   rw [List.all_cons,Bool.and_eq_true] at f;rw [List.any_cons,List.any_cons,sq r f.1,ny t f.2]
theorem j3 {A:Around} {s:Shared} {x:V} {v:Value} (rx:RelV x v) (fx:jt x=true):∀ {xs:List V} {us:List Value},Vals xs us->xs.all jt=true->∀ u∈us,SeqAt.EqAt A s u v (eqU x u)
 | _,_,.nil,_=>fun u hu=>by cases hu
 | y::xs,u::us,.cons r t,f=>fun u' hu=>by
   rw [List.all_cons,Bool.and_eq_true] at f;rcases List.mem_cons.mp hu with rfl | hu
   · rw [sq r f.1];exact v7 r rx f.1 fx
   · exact j3 rx fx t f.2 u' hu
def inV (x:V) (xs:List V):Bool:=xs.any fun y=>eqV y x
def rIn (K:PySem.W.Frag) (neg:Bool):R2:=fun x y H Q=>∃ p xs,y=.ref p/\(SqL K H p xs∨SqT K H p xs)/\jt x=true/\xs.all jt=true/\Q (.bl (if neg then !inV x xs else inV x xs)) H
theorem rg:OpR X (compareOp .In) (rIn X.K false):=by
 intro pins s σ H x y v u Q I rx ry h;obtain ⟨p,xs,rfl,hq,fx,fs,q⟩:=h;cases ry;rcases hq with hq | hq
 · obtain ⟨its,r,pl,hz⟩:=I.list hq;refine SeqAt.in_listAt (eqU x) pl.isList (fun w hw=>j3 rx fx r fs w (by simpa using hw)) ⟨.bl _,H,I,rfl,?_⟩;rw [show its.toArray.any (eqU x)=its.any (eqU x) by simp,ny r fs];exact q
 · obtain ⟨its,r,pl,hz⟩:=I.tuple hq;refine SeqAt.in_tupleAt (eqU x) pl (fun w hw=>j3 rx fx r fs w (by simpa using hw)) ⟨.bl _,H,I,rfl,?_⟩;rw [show its.toArray.any (eqU x)=its.any (eqU x) by simp,ny r fs];exact q
inductive vt (K:PySem.W.Frag) (xs:List V) (H:Hp) (Q:VK):Prop
 | mk (p:Addr) (ys:List V) (zz0:xs=[.ref p]) (zz1:SqL K H p ys∨SqT K H p ys) (zz2:Q (.int ys.length) H):vt K xs H Q
theorem ay:dQ X (.builtin "len") (vt X.K):=by
 intro pins s σ H xs us Q I r h;obtain ⟨p,ys,rfl,hq,q⟩:=h;obtain ⟨u,rfl,rx⟩:=vals1 r;cases rx;have hn:=fe;rcases hq with hq | hq
 · obtain ⟨its,r',pl,hz⟩:=I.list hq;have hlen:=r'.length;exact Calls.call_len_list pl.isList (by simp only [List.size_toArray] <;> omega) ⟨.int ys.length,H,I.tok _,⟨s.toks+1,by rw [List.size_toArray,hlen]⟩,q⟩
 · obtain ⟨its,r',pl,hz⟩:=I.tuple hq;have hlen:=r'.length;exact len_tuple pl (by simp only [List.size_toArray] <;> omega) ⟨.int ys.length,H,I.tok _,⟨s.toks+1,by rw [List.size_toArray,hlen]⟩,q⟩
theorem fk:dQ X (.builtin "len") (fun xs H Q=>∃ z,xs=[.str z]/\z.length<=sizeLine/\Q (.int z.length) H):=by
 intro pins s σ H xs us Q I r h;obtain ⟨z,rfl,hz,q⟩:=h;obtain ⟨u,rfl,t,rfl⟩:=vals1 r;have hn:=fe;exact len_str (by omega) ⟨.int z.length,H,I.tok _,⟨_,rfl⟩,q⟩
theorem aB:dQ X (.type "tuple") (fun xs H Q=>∃ p ys,xs=[.ref p]/\((SqL X.K H p ys/\∀ l,H l=none->Q (.ref l) (upd H l (.tup ys)))∨(SqT X.K H p ys/\Q (.ref p) H))):=by
 intro pins s σ H xs us Q I r h;obtain ⟨p,ys,rfl,h⟩:=h;obtain ⟨u,rfl,rx⟩:=vals1 r;cases rx;rcases h with ⟨hq,q⟩ | ⟨hq,q⟩
 · obtain ⟨its,r',pl,hz⟩:=I.list hq;have hlen:=r'.length;refine call_tuple_list pl.isList (fun h' kp=>?_) (by simp only [List.size_toArray] <;> omega);have I1:Inv X pins σ H { s with heap:=h' }:=I.kept (t':=s.toks) kp
   have I2:Inv X pins σ (upd H h'.objs.size (.tup ys)) { s with heap:=h'.push { cls:=.type "tuple",data:=.seq its.toArray } } :=
    I1.laid (t':=s.toks) (fun b o e=>Heap.get?_push_of_some _ e) (Nat.le_refl _) (show ObjOk X.prog X.w _ _ _ (.tup ys) from ⟨hz,its,0,r',Heap.get?_push_size _ rfl⟩)
   exact ⟨.ref h'.objs.size,_,I2,rfl,q _ (I1.hok.fresh (Nat.le_refl _))⟩
 · obtain ⟨its,r',pl,hz⟩:=I.tuple hq;exact call_tuple_same pl ⟨.ref p,H,I,rfl,q⟩
def tyV (K:PySem.W.Frag) (T:String) (x:V) (H:Hp):Prop:=match x with
 | .str _=>T="str"
 | .int _=>T="int"
 | .ref p=>(T="list"/\∃ xs,SqL K H p xs)∨(T="tuple"/\∃ o,K.lookup p=some o/\o.cls=.type "tuple"/\o.dict=none) ∨
  (T="dict"/\((∃ kvs,H p=some (.dK kvs))∨∃ kvs,H p=some (.dT kvs)))∨(T="set"/\∃ S n,H p=some (.set S n))
 | _=>False
theorem sG {pins:List (Addr×Obj)} {σ:St} {H:Hp} {s:Shared} {T:String} {x:V} {v:Value} (I:Inv X pins σ H s) (r:RelV x v) (ty:tyV X.K T x H) :
 s.TypeIs v T/\∀ a,v=.ref a->∃ ob,s.heap.get? a=some ob/\ob.dict=none:=by
 cases x with
 | str z =>
   obtain ⟨t,rfl⟩:=r;cases (show T="str" from ty);exact ⟨typeIs_str s z t,fun _ e=>nomatch e⟩
 | int i =>
   obtain ⟨t,rfl⟩:=r;cases (show T="int" from ty);exact ⟨typeIs_int s i t,fun _ e=>nomatch e⟩
 | ref p =>
   cases r;rcases ty with ⟨rfl,xs,hq⟩ | ⟨rfl,o,hk,hc,hd⟩ | ⟨rfl,hk⟩ | ⟨rfl,S,n,hk⟩
   · obtain ⟨its,_,pl,_⟩:=I.list hq;refine ⟨pl.isList.typeIs,fun a e=>?_⟩;cases e;obtain ⟨o,n,e,c,hd,_⟩:=pl;exact ⟨o,e,hd⟩
   · refine ⟨⟨o,I.kIn p o hk,hc⟩,fun a e=>?_⟩;cases e;exact ⟨o,I.kIn _ o hk,hd⟩
   · have z:∃ o,s.heap.get? p=some o/\o.ExactDict:=by
      rcases hk with ⟨kvs,hk⟩ | ⟨kvs,hk⟩
      · obtain ⟨_,_,_,_,o,_,_,e,ex,_⟩:=I.hok p _ hk;exact ⟨o,e,ex⟩
      · obtain ⟨_,_,_,_,o,_,_,e,ex,_⟩:=I.hok p _ hk;exact ⟨o,e,ex⟩
     obtain ⟨o,e,ex⟩:=z;refine ⟨⟨o,e,ex.1⟩,fun a e2=>?_⟩;cases e2;exact ⟨o,e,ex.2.1⟩
   · obtain ⟨o,_,_,_,e,ex,_⟩:=I.hok p _ hk;refine ⟨⟨o,e,ex.1⟩,fun a e2=>?_⟩;cases e2;exact ⟨o,e,ex.2.1⟩
 | _=>exact False.elim ty
def xB (K:PySem.W.Frag) (T:String) (r:V->List V->Hp->VK->Prop) (to:TE):TE:=fun σ H Q=>to σ H fun x H1=>tyV K T x H1/\r x [] H1 Q
def tBM (K:PySem.W.Frag) (T:String) (r:V->List V->Hp->VK->Prop) (to:TE) (t:TA):TE:=fun σ H Q=>to σ H fun x H1=>tyV K T x H1/\t σ H1 fun xs H2=>r x xs H2 Q
variable {o e:Expr} {es:List Expr} {to:TE} {t:TA} {name:Str} {apos cpos:Pos} {T id:String} {r:V->List V->Hp->VK->Prop}
theorem nb (pa:PlainAttrs T) (slot:Slot T name id) (hty:typeOf (.builtin id)=pure (.type "method_descriptor")) (hm:MtR X id r) (ho:PE X o to)
 (hbase:attributeBase o name X.env (eval o X.env)=eval o X.env:=by rfl) (hline:(apos.endLine == cpos.line)=true:=by rfl):PE X (.Call (.Attribute o name apos) [] [] cpos) (xB X.K T r to):=by
 intro pins s σ H Q I h;refine wpAny_Call_method0_late hbase hline (thn (ho pins s σ H _ I h) fun v s1 ⟨x,H1,I1,r1,ty,q1⟩=>?_);obtain ⟨h1,h2⟩:=sG I1 r1 ty;exact ⟨T,id,pa,slot,hty,h1,h2,Calls.callWith_builtin rfl (PySem.evalArgs_none (hm pins s1 σ H1 x [] v [] Q I1 r1 .nil q1))⟩
theorem ce (pa:PlainAttrs T) (slot:Slot T name id) (hty:typeOf (.builtin id)=pure (.type "method_descriptor")) (hm:MtR X id r) (ho:PE X o to) (ha:PA X (e::es) t)
 (hbase:attributeBase o name X.env (eval o X.env)=eval o X.env:=by rfl)
 (hfew:((backTo cpos (starEach (e::es) X.env)).all (fun x=>!x.1) && (backToKw cpos (keywordEach [] X.env)).all (fun x=>x.1.isSome)
  && decide ((e::es).length+([]:List Keyword).length+(if ([]:List Keyword).isEmpty then 0 else 1)<30))=true:=by rfl)
 (hline:(apos.endLine == cpos.line)=true:=by rfl) (hs:starEach (e::es) X.env=(false,eval e X.env)::starEach es X.env:=by rfl) (hplain:(backTo cpos (starEach es X.env)).any (·.1)=false:=by rfl) :
 PE X (.Call (.Attribute o name apos) (e::es) [] cpos) (tBM X.K T r to t):=by
 intro pins s σ H Q I h;refine wpAny_Call_method_late hbase hfew hline rfl (thn (ho pins s σ H _ I h) fun v s1 ⟨x,H1,I1,r1,ty,q1⟩=>?_);obtain ⟨h1,h2⟩:=sG I1 r1 ty;refine ⟨T,id,pa,slot,hty,h1,h2,?_⟩;have hA:=ha cpos pins s1 σ H1 _ I1 q1;rw [hs] at hA ⊢;refine Calls.callWith_builtin (by show (false || (backTo cpos (starEach es X.env)).any (·.1))=false;rw [hplain] <;> rfl) (Calls.evalArgs_plain ?_);exact thn hA fun us s2 ⟨vs,H2,I2,r2,q2⟩=>hm pins s2 σ H2 x vs v us Q I2 r1 r2 q2
end
end L2
namespace L2
open PySem PySem.Spec PyProof.Rows
def MtM (X:Cx) (id:String) (r:V->List V->Hp->VK->Prop):Prop :=
 ∀ (pins:List (Addr×Obj)) (s:Shared) (σ:St) (H:Hp) (x:V) (xs:List V) (v:Value) (us:List Value) (Q:VK),Inv X pins σ H s->RelV x v->Vals xs us->r x xs H Q →
   wpAny (model X.prog X.w) X.A (call (.builtin id) (v::us)) (EP X pins σ Q) X.xe s
theorem Vals.one:∀ {x:V} {us:List Value},Vals [x] us->∃ u,us=[u]/\RelV x u
 | _,_,.cons r .nil=>⟨_,rfl,r⟩
theorem Vals.zero:∀ {us:List Value},Vals [] us->us=[]
 | _,.nil=>rfl
theorem Vals.dropLast {xs:List V} {us:List Value} (h:Vals xs us):Vals xs.dropLast us.dropLast:=by
 induction h with
 | nil=>exact .nil
 | cons r t ih =>
   cases t with
   | nil=>exact .nil
   | cons q t'=>exact .cons r ih
theorem p7 {α:Type} (l:List α):l.eraseIdx (l.length - 1)=l.dropLast:=by
 induction l with
 | nil=>rfl
 | cons a r ih =>
   cases r with
   | nil=>rfl
   | cons b r =>
     have e:(a::b::r).length - 1=((b::r).length - 1)+1:=by
      have h1:(a::b::r).length=r.length+2:=rfl;have h2:(b::r).length=r.length+1:=rfl;omega
     rw [e,List.eraseIdx_cons_succ,ih]
     all_goals rfl
section
variable {X:Cx} {pins:List (Addr×Obj)} {σ:St} {H:Hp} {s:Shared} {l b:Addr} {xs ys zs:List V}
theorem Inv.lset {its its':List Value} {n:Nat} {f:Array Value->Array Value} {t':Nat} (I:Inv X pins σ H s) (hH:H l=some (.lst xs))
 (e:s.heap.get? l=some { cls:=.type "list",data:=.seq its.toArray n }) (hf:f its.toArray=its'.toArray) (hv:Vals ys its') (hz:ys.length<=sizeLine) :
 Inv X pins σ (upd H l (.lst ys)) { s with heap:=s.heap.update l (Obj.mapSeq f),toks:=t' }:=by
 have q:=PySem.IsL.update e f;rw [hf] at q;refine I.write (x:=l) (e:=l) (by rw [hH];exact trivial) (.inl rfl) (fun b' u hb hu=>(Heap.get?_update_other s.heap (Obj.mapSeq f) (Ne.symm hb)).trans hu) ⟨_,q⟩ ?_;exact ⟨hz,its',_,hv,q⟩
theorem Inv.lnew {its:List Value} {t':Nat} (I:Inv X pins σ H s) (hv:Vals ys its) (hz:ys.length<=sizeLine) :
 Inv X pins σ (upd H s.heap.objs.size (.lst ys)) { s with heap:=s.heap.push { cls:=.type "list",data:=.seq its.toArray },toks:=t' } :=
 I.laid (fun _ _ q=>Heap.get?_push_of_some _ q) (Nat.le_refl _) ⟨hz,its,0,hv,Heap.get?_push_size _ rfl⟩
theorem Inv.fresh (I:Inv X pins σ H s):H s.heap.objs.size=none:=I.hok.fresh (Nat.le_refl _)
theorem Inv.lstM (I:Inv X pins σ H s) (hH:H l=some (.lst xs)):xs.length<=sizeLine/\∃ (its:List Value) (n:Nat),Vals xs its/\xs.length=its.length/\s.heap.get? l=some { cls:=.type "list",data:=.seq its.toArray n }:=by
 obtain ⟨z,its,n,r,e⟩:=I.hok l _ hH;exact ⟨z,its,n,r,r.length,e⟩
theorem oK {n:Nat} (h:n<=sizeLine):Builtin.List.listTooLong n=false:=by
 unfold Builtin.List.listTooLong;exact decide_eq_false (by omega)
end
section
variable {X:Cx}
inductive oF (x:V) (vs:List V) (H:Hp) (Q:VK):Prop
 | mk (l:_) (xs:_) (y:_) (zz0:x=.ref l) (zz1:vs=[y]) (zz2:H l=some (.lst xs)) (zz3:xs.length<sizeLine) (zz4:Q .non (upd H l (.lst (xs++[y])))):oF  x vs H Q
def uC:V->List V->Hp->VK->Prop:=oF
theorem aQ:MtM X "list.append" uC:=by
 intro pins s σ H x vs v us Q I rx rv h;obtain ⟨l,xs,y,rfl,rfl,hH,hz,q⟩:=h;cases rx;obtain ⟨u,rfl,ru⟩:=rv.one;obtain ⟨z,its,n,r,hl,e⟩:=I.lstM hH;refine call_meets F.slot_list_append ⟨_,e,rfl⟩ F.entry_list_append (F.args_list_append_2 _ _) (PySem.list_append l its.toArray n u (by rw [List.size_toArray];omega)) ⟨e,?_⟩;refine ⟨.non,_,I.lset (its':=its++[u]) hH e (by simp) (r.append (.cons ru .nil)) ?_,rfl,q⟩;rw [List.length_append,List.length_singleton];omega
inductive oj (x:V) (vs:List V) (H:Hp) (Q:VK):Prop
 | mk (l:_) (b:_) (xs:_) (zs:_) (zz0:x=.ref l) (zz1:vs=[.ref b]) (zz2:H l=some (.lst xs)) (zz3:H b=some (.lst zs)) (zz4:xs.length+zs.length<=sizeLine) (zz5:Q .non (upd H l (.lst (xs++zs)))):oj  x vs H Q
def uX:V->List V->Hp->VK->Prop:=oj
theorem mj:MtM X "list.extend" uX:=by
 intro pins s σ H x vs v us Q I rx rv h;obtain ⟨l,b,xs,zs,rfl,rfl,hH,hB,hz,q⟩:=h;cases rx;obtain ⟨u,rfl,ru⟩:=rv.one;cases ru;obtain ⟨z,its,n,r,hl,e⟩:=I.lstM hH;obtain ⟨z2,its2,n2,r2,hl2,e2⟩:=I.lstM hB;have hsz:its.toArray.size+its2.toArray.size<=sizeLine:=by rw [List.size_toArray,List.size_toArray];omega
 have hlong:¬ (!its.toArray.isEmpty && Builtin.List.listTooLong (its.toArray.size+its2.toArray.size))=true:=by
  rw [oK hsz,Bool.and_false];exact Bool.false_ne_true
 refine call_meets F.slot_list_extend ⟨_,e,rfl⟩ F.entry_list_extend (F.args_list_extend_2 _ _)
  (AutoSeq1.list_extend_list_list_0 l its.toArray n b its2.toArray n2 hlong (by rw [List.size_toArray];omega) (by omega)) ⟨e,e2,?_⟩
 refine ⟨.non,_,I.lset (its':=its++its2) hH e (by simp) (r.append r2) ?_,rfl,q⟩;rw [List.length_append];omega
inductive ve (x:V) (vs:List V) (H:Hp) (Q:VK):Prop
 | mk (l:_) (xs:_) (y:_) (zz0:x=.ref l) (zz1:vs=[]) (zz2:H l=some (.lst xs)) (zz3:xs[xs.length - 1]?=some y) (zz4:Q y (upd H l (.lst xs.dropLast))):ve  x vs H Q
def w8:V->List V->Hp->VK->Prop:=ve
theorem mG:MtM X "list.pop" w8:=by
 intro pins s σ H x vs v us Q I rx rv h;obtain ⟨l,xs,y,rfl,rfl,hH,hy,q⟩:=h;cases rx;have hus:=rv.zero;subst hus;obtain ⟨z,its,n,r,hl,e⟩:=I.lstM hH;obtain ⟨u,hu,ru⟩:=r.get hy
 have hy':its.toArray[its.toArray.size - 1]?=some u:=by
  show its.toArray[its.length - 1]?=some u;rw [<- Array.getElem?_toList,<- hl];exact hu
 refine call_meets F.slot_list_pop ⟨_,e,rfl⟩ F.entry_list_pop (F.args_list_pop_1 _) (MeetsSeq.list_pop_last l its.toArray n u hy' (by rw [List.size_toArray];omega)) ⟨e,?_⟩;refine ⟨y,_,I.lset (its':=its.dropLast) hH e ?_ r.dropLast ?_,ru,q⟩
 · show its.toArray.eraseIdxIfInBounds (its.toArray.size - 1)=its.dropLast.toArray;rw [List.size_toArray,List.eraseIdxIfInBounds_toArray,p7]
 · rw [List.length_dropLast];omega
end
section
variable {prog:Program} {w:World} {A:Around} {E:Value->Shared->Prop} {s:Shared}
end
section
variable {X:Cx}
end
end L2
namespace Att
open PySem PySem.W PySem.Calls PyProof.Rows
theorem ints_of_wellAll {P:Params} {h:Heap}:∀ (ns:List Int) (vs:List Value),WellAll P h vs (ns.map WData.int)->IntsAre vs ns:=by
 intro ns;induction ns with
 | nil =>
   intro vs w;rw [List.map_nil] at w;cases w;exact .nil
 | cons n ns ih =>
   intro vs w;rw [List.map_cons] at w;cases w with
   | cons a b =>
     cases a;exact .cons _ _ (ih _ b)
theorem script_of {l:OpenLaw} {n:Nat} (hn:l.most=some n) {P:Params} {h:Heap} {args:List WData} {vals:List Value}
 (hpre:l.row.toRowW.claim.pre args=true) (hwl:WellAll P h vals args) :
 ∃ a vs ns,vals=[Value.ref a]/\args=[WData.list (ns.map WData.int)]/\h.get? a=some { cls:=.type "list",data:=.seq vs.toArray }/\IntsAre vs ns/\ns.length<=n:=by
 have hsh:WShape.hasAll [] args [.list .int]=true:=(pre_splitW hpre).1;have hc:l.pre.holds [] { args:=args }=true:=(pre_splitW hpre).2;obtain ⟨d,r,rfl,h1,h2⟩:=hasAllW_cons hsh;obtain rfl:=hasAllW_nil h2;obtain ⟨xs,rfl,h3⟩:=hasW_list h1;obtain ⟨ns,rfl⟩:=items_int h3
 have hlen:ns.length<=n:=by
  unfold OpenLaw.pre at hc
  have h4:(WTm.not (.lt (.lit (.int (n:Int))) (.len (.arg 0)))).holds [] { args:=[.list (ns.map .int)] }=true:=by
   have h4:=(holds_andW hc).1;rw [hn] at h4;exact h4
  have h5:=condW_of h4 (w_not (w_lt w_lit (w_len_list (w_arg rfl))));rw [List.length_map] at h5;refine Nat.le_of_not_lt fun q=>?_;have q':(n:Int)<((ns.length:Nat):Int):=by omega
  first
   | (rw [decide_eq_true q'] at h5;exact absurd h5 (by decide))
   | (simp at h5;omega)
 cases hwl with
 | cons w1 w2 =>
   cases w2;cases w1 with
   | list ho hall=>exact ⟨_,_,ns,rfl,rfl,ho,ints_of_wellAll ns _ hall,hlen⟩
theorem post_true (l:OpenLaw) (args:List WData):l.row.toRowW.claim.post args (.bool true) args=true :=
 postW_of (r:=l.row.toRowW) (X:=(true == true))
  (show WShape.has [] (.bool true) .bool=true by first | rfl | decide | simp [WShape.has,WShape.arms,WShape.armsAll])
  (show (WTm.eq .res (.lit (.bool true))).value [] { args:=args,res:=some (.bool true),after:=args }=some (.bool (true == true)) from w_eq_bool (w_res rfl) w_lit) rfl
theorem attach_call {l:OpenLaw} {n:Nat} {q:Program} {loose:List Str} {XP:(Str->Option Value)->Heap->Prop} {YP:World->Heap->Prop} {d:DefRec}
 (hn:l.most=some n) (hdf:d.params.defaults=[])
 (call:∀ (w:World) (s₀ s₁:Shared) (mg mb:Str->Option Value) (fa:Addr) (o:Obj) (pm cd doc:Value) (a:Addr) (vs:List Value) (ns:List Int),
  Ground q loose [] XP w s₀ mg mb s₁.heap->YP w s₁.heap →
  s₁.heap.get? fa=some o->o.data=.func (docDef d.name d.params d.body d.scope pm cd doc)->s₁.heap.CodeRec cd d.name->mg d.name=some (.ref fa) →
  s₁.heap.get? a=some { cls:=.type "list",data:=.seq vs.toArray }->IntsAre vs ns->ns.length<=n->s₁.gens=#[] →
  codeAny (model l.prog w) callerA (.call (.ref fa) ⟨[.ref a],[]⟩) (fun r s'=>r=.ok (.ret (.bool true))/\OldK s₁.heap s'.heap/\s'.os=s₁.os/\AllBare s'.gens) s₁) :
 WalkO q loose XP YP l.row.toRowW d [] (fun f vs=>PySem.call f vs):=by
 intro w s₀ s₁ mg mb G Y fa o pm cd doc dV kV ho hd hcd hD hmg hg args vals as hpre hlay hrd hwl hlo;obtain rfl:dV=.none:=Dflts.none hD hdf;obtain rfl:kV=.none:=Dflts.noKw hD;obtain ⟨a,vs,ns,rfl,rfl,hobj,hints,hlen⟩:=script_of hn hpre hwl;refine enter_call (codeAny_mono (call w s₀ s₁ mg mb fa o pm cd doc a vs ns G Y ho (fd_plain hd) hcd hmg hobj hints hlen hg) fun r s' hq=>?_);obtain ⟨rfl,h2,h3,h4⟩:=hq;exact ⟨.inl ⟨.bool true,.bool true,[],rfl,fun _=>rfl,.bool true,post_true l _,fun _=>⟨List.Pairwise.nil,fun _ hm=>(nomatch hm)⟩⟩,h2,h3,h4⟩
section
variable {prog:Program} {w:World} {A:Around} {E:Value->Shared->Prop} {s:Shared} {K:Frag}
end
end Att
namespace L2
open PySem PySem.Spec PyProof.Rows
theorem lP:∀ {vs:List Value} {ns:List Int},IntsAre vs ns->Vals (ns.map V.int) vs
 | _,_,.nil=>.nil
 | _,_,.cons n t h=>.cons ⟨t,rfl⟩ (lP h)
end L2
namespace L2
open PySem PySem.Spec PyProof.Rows
end L2
namespace L2
open PySem PySem.Spec PyProof.Rows
def inClass (s:Stmt) (j:Nat):Stmt:=match s with
 | .ClassDef _ _ _ body _ _ _ _ _ _ _=>body.getD j (.Pass ⟨0,0,0,0⟩)
 | _=>.Pass ⟨0,0,0,0⟩
def bf (s:Stmt):Arguments:=match s with
 | .FunctionDef _ a _ _ _ _ _ _ _ _=>a
 | _=>{ posonlyargs:=[],args:=[],vararg:=none,kwonlyargs:=[],kw_defaults:=[],kwarg:=none,defaults:=[] }
def aY (s:Stmt):List Stmt:=match s with
 | .FunctionDef _ _ b _ _ _ _ _ _ _=>b
 | _=>[]
def aj (s:Stmt):Scope:=match s with
 | .FunctionDef _ _ _ _ _ _ sc _ _ _=>sc
 | _=>{ kind:=.function,names:=[],isGenerator:=false,isCoroutine:=false }
abbrev CX0:CXT:=fun _ _ _ _ _ _=>False
abbrev E0:XK:=fun _ _ _=>False
theorem dM {X:Cx}:gJ CX0 X E0:=fun _ _ _ _ _ _ _ h=>h.elim
structure Fun (K:PySem.W.Frag) (x qual:Str) (st:Stmt) (f:Addr) (fd:FuncData):Prop where
 ex:∃ (oc:Value) (od:Option Addr) (kV doc pm:Value) (an:Option Addr) (cdv ct:Value) (osl:Array (Option Value)),
  fd=PySem.W.fnOf x qual (bf st) (aY st) (aj st) .none kV doc pm an cdv ct/\K.lookup f=some ⟨oc,od,.func fd,osl⟩/\PySem.W.codeIn K cdv qual=true
 kp:PySem.W.keepIn K (.ref f)=true
section
variable {P:Program} {w:World} {K:PySem.W.Frag} {mg:Str->Option Value} {base:Heap}
theorem Fun.ok {x qual:Str} {st:Stmt} {f:Addr} {fd:FuncData} {N ps:List Str} {k:Nat} {sp:Sp} (F:Fun K x qual st f fd) (S:aq N ps (aj st)) (len:∀ vs H Q E,sp vs H Q E->vs.length=ps.length)
 (hbody:∀ (cdv:Value) (A:Around) (outer:List Env) (s:Shared) (H:Hp) (vs:List V) (Q:VK) (E:XK),Room k (A.deeper (envOfC qual (aj st) s.heap.objs.size f cdv))->sp vs H Q E →
  ∃ t,PSs (pS CX0 P w K mg base N qual (aj st) f cdv A outer s H E).nox (aY st) t/\t { nx:=fun _ H'=>Q .non H',rt:=Q } (start N vs) H):FnOk P w K mg base CX0 (k+1) f fd ps sp:=by
 obtain ⟨oc,od,kV,doc,pm,an,cdv,ct,osl,rfl,lk,hcd⟩:=F.ex;refine vg lk hcd S len fun A outer s H vs Q E hr hsp=>?_;obtain ⟨t,h,q⟩:=hbody cdv A outer s H vs Q E hr hsp;exact ⟨t,h.nox,q⟩
theorem Fun.binds {x qual:Str} {st:Stmt} {f:Addr} {fd:FuncData} {ps:List Str} (F:Fun K x qual st f fd)
 (h:∀ (kV doc pm:Value) (an:Option Addr) (cdv ct:Value) (us:List Value),us.length=ps.length->bindArgs (PySem.W.fnOf x qual (bf st) (aY st) (aj st) .none kV doc pm an cdv ct) ⟨us,[]⟩=pure (ps.zip us)):Binds K fd ps []:=by
 obtain ⟨oc,od,kV,doc,pm,an,cdv,ct,osl,rfl,lk,hcd⟩:=F.ex;exact .all (h kV doc pm an cdv ct)
theorem cy {x qual:Str} {st:Stmt} {f:Addr} {oc:Value} {od an:Option Addr} {osl:Array (Option Value)} {kV doc pm cdv ct:Value} (l:K.lookup f=some ⟨oc,od,.func (PySem.W.fnOf x qual (bf st) (aY st) (aj st) .none kV doc pm an cdv ct),osl⟩)
 (c:PySem.W.codeIn K cdv qual=true) (k:PySem.W.keepIn K (.ref f)=true):Fun K x qual st f (PySem.W.fnOf x qual (bf st) (aY st) (aj st) .none kV doc pm an cdv ct):=⟨⟨oc,od,kV,doc,pm,an,cdv,ct,osl,rfl,l,c⟩,k⟩
end
theorem pe {A:Around} {k:Nat} (hr:Room k A):A.units+1<cLine:=Nat.lt_of_le_of_lt (Nat.add_le_add_left (by decide:1<=64) _) hr.units
section
variable {X:Cx}
theorem pv (i:Nat) {x:Str} {pos:Pos} (hN:X.N[i]?=some x:=by rfl) (hv:Vis X.env.scope x:=by first | exact Or.inl rfl | exact Or.inr (Or.inl rfl) | exact Or.inr (Or.inr rfl)) (hd:(x == ("__debug__":Str))=false:=by decide)
 (hcd:(x == ("__classdict__":Str))=false:=by decide):PE X (.Name x pos) (b9 i):=tN hN hv hd hcd
end
theorem gE {A B:Prop} (h:B):if false=true then A else B:=by
 rw [if_neg Bool.false_ne_true];exact h
theorem iy {A B:Prop} (h:A):if true=true then A else B:=by
 rw [if_pos rfl];exact h
theorem cq {c A B:Prop} [Decidable c] (h1:c->A) (h2:¬ c->B):if c then A else B:=by
 by_cases h:c
 · rw [if_pos h];exact h1 h
 · rw [if_neg h];exact h2 h
def Same (H H':Hp):Prop:=∀ b o,H b=some o->H' b=some o
theorem Same.refl (H:Hp):Same H H:=fun _ _ h=>h
theorem Same.trans {H H1 H2:Hp} (a:Same H H1) (b:Same H1 H2):Same H H2:=fun c o h=>b c o (a c o h)
theorem Same.free {H H':Hp} (e:Same H H') {l:Addr} (h:H' l=Option.none):H l=Option.none:=by
 cases q:H l with
 | none=>rfl
 | some o =>
   rw [e l o q] at h;cases h
theorem Same.seq {K:PySem.W.Frag} {H H':Hp} {a:Addr} {xs:List V} (e:Same H H') (h:SqL K H a xs):SqL K H' a xs:=by
 rcases h with (h | ⟨o,h⟩) | h
 · exact .inl (.inl (e _ _ h))
 · exact .inl (.inr ⟨o,e _ _ h⟩)
 · exact .inr h
end L2
namespace L2
open PySem PySem.Spec PyProof.Rows
theorem gZ (env:Env):∀ (ns:List (Str×NameKind)) (acc:List (Str×Addr)),(∀ n,(n,NameKind.free)∈ns->∃ c,env.cells.lookup n=some c) →
 (∀ x c,acc.lookup x=some c->env.cells.lookup x=some c) →
 ∃ cl,(forIn ns acc fun (x:Str×NameKind) (cs:List (Str×Addr))=>(if (x.2 == NameKind.free)=true then (do let a ← cellOf env x.1;pure (ForInStep.yield ((x.1,a)::cs))) else pure (ForInStep.yield cs):Sem _))=pure cl ∧
   (∀ x c,cl.lookup x=some c->env.cells.lookup x=some c)/\(∀ n,(n,NameKind.free)∈ns->∃ c,cl.lookup n=some c)/\∀ n c,acc.lookup n=some c->cl.lookup n=some c
 | [],acc,_,ha=>⟨acc,rfl,ha,fun _ h=>by simp at h,fun _ _ h=>h⟩
 | (n,k)::r,acc,hf,ha=>by
   by_cases hk:k=NameKind.free
   · subst hk;obtain ⟨c,hc⟩:=hf n List.mem_cons_self
     have ha':∀ x c',((n,c)::acc).lookup x=some c'->env.cells.lookup x=some c':=fun x c' e=>by
      rw [List.lookup_cons] at e;cases hx:x == n with
      | true =>
        rw [hx] at e;have e1:x=n:=by simpa using hx
        cases e;rw [e1];exact hc
      | false=>rw [hx] at e;exact ha x c' e
     obtain ⟨cl,h1,h2,h3,h4⟩:=gZ env r ((n,c)::acc) (fun m hm=>hf m (List.mem_cons_of_mem _ hm)) ha';have up:∀ m c',((n,c)::acc).lookup m=some c'->cl.lookup m=some c':=h4;refine ⟨cl,?_,h2,?_,?_⟩
     · rw [List.forIn_cons];have e0:cellOf env n=pure c:=by unfold cellOf;rw [hc]
       simp only [beq_self_eq_true,if_true,e0,pure_bind];exact h1
     · intro m hm;rcases List.mem_cons.mp hm with e | e
       · have:m=n:=by simpa using (Prod.mk.inj e).1
         subst this;exact ⟨c,up m c (by rw [List.lookup_cons];simp)⟩
       · exact h3 m e
     · intro m c' e;by_cases hm:m=n
       · subst hm;have:=ha m c' e;rw [hc] at this;cases this;exact up m c (by rw [List.lookup_cons];simp)
       · have hmn:(m == n)=false:=by simpa using hm
         exact up m c' (by rw [List.lookup_cons,hmn];exact e)
   · have hb:(k == NameKind.free)=false:=by simpa using hk
     obtain ⟨cl,h1,h2,h3,h4⟩:=gZ env r acc (fun m hm=>hf m (List.mem_cons_of_mem _ hm)) ha;refine ⟨cl,?_,h2,?_,h4⟩
     · rw [List.forIn_cons];simp only [hb,Bool.false_eq_true,if_false,pure_bind];exact h1
     · intro m hm;rcases List.mem_cons.mp hm with e | e
       · exact absurd (Prod.mk.inj e).2.symm hk
       · exact h3 m e
theorem j5 {env:Env} {sc:Scope} (hf:∀ n,(n,NameKind.free)∈sc.names->∃ c,env.cells.lookup n=some c) :
 ∃ cl,closureFor sc env=pure cl/\(∀ x c,cl.lookup x=some c->env.cells.lookup x=some c)/\∀ n,(n,NameKind.free)∈sc.names->∃ c,cl.lookup n=some c:=by
 obtain ⟨cl,h1,h2,h3,_⟩:=gZ env sc.names [] hf (fun x c e=>by simp at e);refine ⟨cl,?_,h2,h3⟩;unfold closureFor;have e:(forIn sc.names ([]:List (Str×Addr)) fun (x:Str×NameKind) (cs:List (Str×Addr))=>(do if (x.2 == NameKind.free)=true then (do let a ← cellOf env x.1;pure (ForInStep.yield ((x.1,a)::cs))) else pure (ForInStep.yield cs):Sem _))=pure cl:=h1
 first
  | (rw [show (forIn sc.names ([]:List (Str×Addr)) _:Sem _)=pure cl from h1];rfl)
  | (simp only [h1,pure_bind])
theorem kc {f:Str×NameKind->Str×NameKind} (hf:∀ p,(f p).1=p.1):∀ {l:List (Str×NameKind)} {x:Str} {k:NameKind},l.lookup x=some k->(l.map f).lookup x=some (f (x,k)).2
 | [],_,_,h=>by simp at h
 | (n,k0)::r,x,k,h=>by
   have ih:=@kc f hf r x k;rw [List.map_cons];obtain ⟨a,b,e⟩:∃ a b,f (n,k0)=(a,b):=⟨_,_,rfl⟩;have ea:a=n:=by have:=hf (n,k0);rw [e] at this;exact this
   subst ea;rw [e,List.lookup_cons];cases hx:x == a with
   | true =>
     rw [List.lookup_cons,hx] at h;cases h;have:x=a:=by simpa using hx
     subst this;rw [e]
   | false=>rw [List.lookup_cons,hx] at h;exact ih h
theorem eB {f:Str×NameKind->Str×NameKind} (hf:∀ p,(f p).1=p.1):∀ {l:List (Str×NameKind)} {x:Str} {k:NameKind},(l.map f).lookup x=some k->∃ k0,(x,k0)∈l/\(f (x,k0)).2=k
 | [],_,_,h=>by simp at h
 | (n,k0)::r,x,k,h=>by
   have ih:=@eB f hf r x k;rw [List.map_cons] at h;obtain ⟨a,b,e⟩:∃ a b,f (n,k0)=(a,b):=⟨_,_,rfl⟩;have ea:a=n:=by have:=hf (n,k0);rw [e] at this;exact this
   subst ea;rw [e,List.lookup_cons] at h;cases hx:x == a with
   | true =>
     rw [hx] at h;cases h;have:x=a:=by simpa using hx
     subst this;exact ⟨k0,List.mem_cons_self,by rw [e]⟩
   | false =>
     rw [hx] at h;obtain ⟨k1,h1,h2⟩:=ih h;exact ⟨k1,List.mem_cons_of_mem _ h1,h2⟩
def rlb (env:Env) (p:Str×NameKind):Str×NameKind:=if (p.2 == NameKind.free && env.scope.kind == .function && env.kindOf p.1 == some .cell) then (p.1,NameKind.cell) else (p.1,p.2)
theorem np (env:Env) (p:Str×NameKind):(rlb env p).1=p.1:=by unfold rlb;split <;> rfl
theorem gg (sc:Scope) (env:Env):(relabel sc env).names=sc.names.map (rlb env):=rfl
theorem ir {sc:Scope} {env:Env} {x:Str} (h:sc.names.lookup x=some .free):(relabel sc env).names.lookup x=some .cell∨(relabel sc env).names.lookup x=some .free:=by
 rw [gg,kc (np env) h];unfold rlb;split
 · exact .inl rfl
 · exact .inr rfl
theorem kI {sc:Scope} {env:Env} {x:Str} (hn:∀ y∈sc.names,y.2≠NameKind.cell) (h:(relabel sc env).names.lookup x=some .cell∨(relabel sc env).names.lookup x=some .free):(x,NameKind.free)∈sc.names:=by
 rw [gg] at h
 have:∃ k0,(x,k0)∈sc.names/\((rlb env (x,k0)).2=.cell∨(rlb env (x,k0)).2=.free):=by
  rcases h with h | h
  · obtain ⟨k0,a,b⟩:=eB (np env) h;exact ⟨k0,a,.inl b⟩
  · obtain ⟨k0,a,b⟩:=eB (np env) h;exact ⟨k0,a,.inr b⟩
 obtain ⟨k0,hm,hk⟩:=this;have nc:=hn _ hm;cases k0 with
 | free=>exact hm
 | cell=>exact absurd rfl nc
 | _=>simp [rlb] at hk
def bQ (X:Cx) (N:List Str) (sc:Scope) (cl:List (Str×Addr)) (C:Addr) (s:Shared) (H:Hp) (fp:List Addr) (pins:List (Addr×Obj)):Cx :=
 { X with N:=N,s₀:=s,H₀:=H,env:=compEnvC sc cl C X.env,outer:=X.stack,ex:=fp,fn:=fun _=>false,pn:=X.pn++pins,xe:=fun _ _=>False }
def cσ (js:List (Option Nat)) (σ:St):St:=js.map fun o=>o.bind fun j=>(σ[j]?).join
structure eU (X:Cx) (sc:Scope) (N:List Str) (js:List (Option Nat)):Prop where
 kind:sc.kind=.function
 nocell:∀ y∈sc.names,y.2≠NameKind.cell
 names:∀ y∈sc.names,y.2=NameKind.local->sc.names.lookup y.1=some .local
 frees:∀ y∈sc.names,y.2=NameKind.free->X.env.kindOf y.1=some .cell∨X.env.kindOf y.1=some .free
 len:js.length=N.length
 slots:∀ (i j:Nat) (x:Str),js[i]?=some (some j)->N[i]?=some x->X.N[j]?=some x/\sc.names.lookup x=some .free/\(X.env.kindOf x=some .cell∨X.env.kindOf x=some .free)
theorem cJ {X:Cx} {sc:Scope} {N:List Str} {js:List (Option Nat)} (k:sc.kind=.function) (nc:∀ y∈sc.names,y.2≠NameKind.cell) (nm:∀ y∈sc.names,y.2=NameKind.local->sc.names.lookup y.1=some .local)
 (fr:(sc.names.all fun y=>y.2 != NameKind.free || X.env.kindOf y.1 == some NameKind.cell || X.env.kindOf y.1 == some NameKind.free)=true) (ln:js.length=N.length)
 (sl:((js.zip N).all fun p=>match p.1 with | none=>true | some j=>X.N[j]? == some p.2 && sc.names.lookup p.2 == some NameKind.free && (X.env.kindOf p.2 == some NameKind.cell || X.env.kindOf p.2 == some NameKind.free))=true):eU X sc N js:=by
 refine ⟨k,nc,nm,fun y hy hf=>?_,ln,fun i j x e1 e2=>?_⟩
 · have h:=List.all_eq_true.mp fr y hy;rw [hf] at h;simpa using h
 · have hm:(some j,x)∈js.zip N:=by
    have:(js.zip N)[i]?=some (some j,x):=by rw [List.getElem?_zip_eq_some];exact ⟨e1,e2⟩
    exact List.mem_of_getElem? this
   have h:=List.all_eq_true.mp sl _ hm;simp at h;exact ⟨h.1.1,h.1.2,h.2⟩
def PTs (X:Cx) (ifs:List Expr) (t:TT):Prop :=
 ∀ (pins:List (Addr×Obj)) (s:Shared) (σ:St) (H:Hp) (Q:Bool->Hp->Prop),Inv X pins σ H s->t σ H Q →
   wpAny (model X.prog X.w) X.A (forIn ifs true fun c r=>if r=true then do let ok ← isTrue c X.env (eval c X.env);pure (ForInStep.yield ok) else pure (ForInStep.yield r)) (TP X pins σ Q) X.xe s
def bn:TT:=fun _ H Q=>Q true H
theorem bN {X:Cx}:PTs X [] bn:=fun _ _ _ H _ I h=>wpAny_tests_nil ⟨H,I,h⟩
theorem na {X:Cx} {c:Expr} {t:TT} (h:PT X c t):PTs X [c] t:=fun pins s σ H Q I q=>wpAny_tests_one (h pins s σ H Q I q)
def Keep (σ σ':St):Prop:=σ.length=σ'.length/\∀ (i:Nat) (v:V),σ[i]?=some (some v)->σ'[i]?=some (some v)
def lY (js:List (Option Nat)) (g:TG):Prop:=∀ (σ σ1:St) (x:V) (H:Hp) (Q:St->Hp->Prop),Keep (cσ js σ) σ1->g x σ1 H Q->g x σ1 H fun σ2 H2=>Keep (cσ js σ) σ2/\Q σ2 H2
def mZ (js:List (Option Nat)) (g:TGs):Prop:=∀ (σ σ1:St) (x:List V) (H:Hp) (Q:St->Hp->Prop),Keep (cσ js σ) σ1->g x σ1 H Q->g x σ1 H fun σ2 H2=>Keep (cσ js σ) σ2/\Q σ2 H2
theorem Keep.refl (σ:St):Keep σ σ:=⟨rfl,fun _ _ h=>h⟩
theorem uY {js:List (Option Nat)} {σ:St} {i:Nat} (h:js[i]?=some none):(cσ js σ)[i]?=some none:=by
 unfold cσ;rw [List.getElem?_map,h];rfl
theorem bo {js:List (Option Nat)} {i:Nat} (h:js[i]?=some none):lY js (aH i):=fun σ σ1 x H Q k q=>by
 refine ⟨⟨by rw [List.length_set];exact k.1,fun j v e=>?_⟩,q⟩;by_cases hj:i=j
 · subst hj;rw [uY h] at e;cases e
 · rw [List.getElem?_set_ne hj];exact k.2 j v e
theorem wA {js:List (Option Nat)}:mZ js wd:=fun σ σ1 x H Q k ⟨e,q⟩=>⟨e,k,q⟩
theorem qe {js:List (Option Nat)} {t:TG} {u:TGs} (mono:∀ x σ H (Q Q':St->Hp->Prop),(∀ a b,Q a b->Q' a b)->t x σ H Q->t x σ H Q') (h1:lY js t) (h2:mZ js u):mZ js (qz t u):=fun σ σ1 x H Q k ⟨v,r,e,q⟩ =>
 ⟨v,r,e,mono _ _ _ _ _ (fun a b ⟨k',q'⟩=>h2 σ a r b Q k' q') (h1 σ σ1 v H _ k q)⟩
theorem kH {i:Nat}:∀ x σ H (Q Q':St->Hp->Prop),(∀ a b,Q a b->Q' a b)->aH i x σ H Q->aH i x σ H Q':=fun _ _ _ _ _ h q=>h _ _ q
theorem wt {js:List (Option Nat)} {K:PySem.W.Frag} {n:Nat} {t:TGs} (h:mZ js t):lY js (vX K n t):=fun σ σ1 x H Q k ⟨a,xs,e,hs,hl,q⟩=>⟨a,xs,e,hs,hl,h σ σ1 xs H Q k q⟩
def ft (js:List (Option Nat)) (g:TG) (tt:TT) (te:TE) (σ:St) (J:It) (D:Addr) (n:Nat) (W:Nat->Hp->Prop) (fin:Hp->Prop):Prop :=
 ∀ i H,W i H->(J.stop i H/\fin H)∨(i<n/\J.go i H/\∀ x H1,J.yld i H x H1->g x (cσ js σ) H1 fun σ2 H2=>tt σ2 H2 fun b H3 =>
   if b=true then te σ2 H3 fun v H4=>∃ ys,H4 D=some (.lst ys)/\ys.length<sizeLine/\W (i+1) (upd H4 D (.lst (ys++[v]))) else W (i+1) H3)
def vF (js:List (Option Nat)) (wi:TI) (g:TG) (tt:TT) (te:TE):TE:=fun σ H Q=>wi σ H fun J H1=>∀ D,H1 D=none →
 ∃ (n:Nat) (W:Nat->Hp->Prop),W 0 (upd H1 D (.lst []))/\ft js g tt te σ J D n W fun H'=>Q (.ref D) H'
section
variable {X:Cx} {pins:List (Addr×Obj)} {σ:St} {s:Shared} {H:Hp}
theorem sY {sc:Scope} {N:List Str} {js:List (Option Nat)} {cl:List (Str×Addr)} {fp:List Addr} {h1:Heap} {t':Nat} (S:eU X sc N js) (I:Inv X pins σ H s)
 (hcl:∀ x c,cl.lookup x=some c->X.env.cells.lookup x=some c) (hcl2:∀ n,(n,NameKind.free)∈sc.names->∃ c,cl.lookup n=some c)
 (hf:∀ b∈fp,jc X pins H b) (hlt:∀ b∈fp,b<s.heap.objs.size) (hns:h1.Ns s.heap.objs.size fun x=>List.lookup x ([]:List (Str×Value)))
 (hsb:∀ b o,s.heap.get? b=some o->h1.get? b=some o) :
 Inv (bQ X N sc cl s.heap.objs.size s H fp pins) [] (cσ js σ) H { s with heap:=h1,toks:=t' }:=by
 have hok:(bQ X N sc cl s.heap.objs.size s H fp pins).Ok :=
  { mod:=I.ok.mod
    kind:=S.kind
    glob:=I.ok.glob
    blt:=I.ok.blt
    above:=Nat.le_refl _
    inj:=fun x y c a b=>I.ok.inj x y c (hcl x c a) (hcl y c b)
    has:=fun x h=>hcl2 x (kI S.nocell h)
    cab:=fun x c h=>by cases h
    hd:=I.ok.hd
    frames:=I.ok.frames
    stk:=.inl rfl
    exf:=fun b hb=>⟨fun e=>absurd (hlt b hb) (by rw [e];exact Nat.lt_irrefl _),fun x c e z=>(hf b hb).2.2.2.2.1 x c (hcl x c e) z⟩
    bs:=I.bs
    bsz:=Nat.le_trans I.ok.bsz I.sz
    noex:=fun b o e hb=>by
     rcases (hf b hb).2.2.2.1 with h | h
     · exact I.ok.noex b o e h
     · exact absurd (Nat.lt_of_lt_of_le (Nat.lt_of_lt_of_le (Heap.lt_size e) I.ok.bsz) h) (Nat.lt_irrefl _)
    exfs:=fun b hb hm=>by
     rcases List.mem_cons.mp (I.stkSub b hm) with e | e
     · exact (hf b hb).2.1 e
     · exact (hf b hb).2.2.1 e
    funs:=I.stack
    frf:=I.stkFree }
 have hC:H s.heap.objs.size=none:=I.hok.fresh (Nat.le_refl _);obtain ⟨m0,hn0,hl0⟩:=I.loc
 exact
  { ok:=hok
    os:=rfl
    bare:=I.bare
    base:=Un.kept hsb
    loc:=⟨_,hns,fun i x v e1 e2 vis=>by
     have e2':∃ j,js[i]?=some (some j)/\σ[j]?=some (some v):=by
      unfold cσ at e2;rw [List.getElem?_map] at e2;cases q:js[i]? with
      | none=>rw [q] at e2;cases e2
      | some o =>
        rw [q] at e2;cases o with
        | none=>cases e2
        | some j =>
          refine ⟨j,rfl,?_⟩;have e3:(σ[j]?).join=some v:=Option.some.inj e2;cases r:σ[j]? with
          | none=>rw [r] at e3;cases e3
          | some z=>rw [r] at e3;exact congrArg some e3
     obtain ⟨j,q1,q2⟩:=e2';obtain ⟨n1,n2,n3⟩:=S.slots i j x q1 e1;obtain ⟨u,ru,look⟩:=hl0 j x v n1 q2 (by rcases n3 with z | z;exact .inr (.inl z);exact .inr (.inr z));refine ⟨u,ru,.inr ⟨ir n2,?_⟩⟩;have hm:(x,NameKind.free)∈sc.names:=kI (env:=X.env) S.nocell (ir n2);obtain ⟨c,hc⟩:=hcl2 x hm;refine ⟨c,hc,?_⟩;rcases look with ⟨k1,_⟩ | ⟨_,c',hc',ic⟩
     · rcases n3 with z | z <;> (rw [k1] at z;cases z)
     · have:=hcl x c hc;rw [hc'] at this;cases this;exact ic.keeps hsb⟩
    cell:=fun x c e=>by
     obtain ⟨v,q⟩:=I.cell x c (hcl x c e);exact ⟨v,q.keeps hsb⟩
    free:=hC
    freeC:=fun x c e=>I.freeC x c (hcl x c e)
    pin:=fun p hp=>by
     have hp':p∈X.pn++pins:=by simpa [bQ] using hp
     obtain ⟨a1,a2,a3,a4,a5⟩:=I.pin p hp';refine ⟨hsb _ _ a1,a2,fun e=>?_,fun hm=>?_,a5⟩
     · have e':p.1=s.heap.objs.size:=e;exact absurd (Heap.lt_size a1) (by rw [e'];exact Nat.lt_irrefl _)
     · rcases List.mem_cons.mp (I.stkSub p.1 hm) with e | e
       · exact a3 e
       · exact a4 e
    hok:=I.hok.kept hsb
    len:=by
     show (cσ js σ).length=N.length;unfold cσ;rw [List.length_map];exact S.len }
theorem rh {prog:Program} {w:World} {A:Around} {R:Result->Shared->Prop} {elt target iter:Expr} {ifs:List Expr} {scope:Scope} {pos:Pos} {it acc:Value} {env:Env} (J:Nat->Shared->Prop)
 (turn:∀ n s,J n s->wpAny (model prog w) A (pyNext it) (fun r s₁=>(r=none/\R (.ok .next) s₁)∨∃ v,r=some v ∧
  wpAny (model prog w) A (letOwnedTupleGo target it v) (fun _ s₂=>wpAny (model prog w) A (assign target env v) (fun _ s₃ =>
   wpAny (model prog w) A (forIn ifs true fun c r=>if r=true then do let ok ← isTrue c env (eval c env);pure (ForInStep.yield ok) else pure (ForInStep.yield r)) (fun ok s₄ =>
    (ok=false/\∃ m,m<n/\J m s₄)∨(ok=true/\wpAny (model prog w) A (eval elt env) (fun x s₅=>wpAny (model prog w) A (call (.builtin "list.append") [acc,x]) (fun _ s₆=>∃ m,m<n/\J m s₆) (fun _ _=>False) s₅) (fun _ _=>False) s₄))
    (fun _ _=>False) s₃) (fun _ _=>False) s₂) (fun _ _=>False) s₁) (fun _ _=>False) s)
 {s:Shared} (n:Nat) (h:J n s):codeAny (model prog w) A (.compLoop (.ListComp elt [⟨target,iter,ifs,0⟩] scope pos) 0 it acc env) R s:=by
 refine codeAny_loop rfl J (fun n s hJ=>?_) n h;show wpAny _ A ((compTurn (.ListComp elt [⟨target,iter,ifs,0⟩] scope pos) 0 it acc env).onRaise _) _ _ s;refine wpAny_noted ?_;rw [compTurn_list];have up:∀ {α:Type} {m:Sem α} {Q:α->Shared->Prop} {E:Value->Shared->Prop} {s:Shared},wpAny (model prog w) A m Q (fun _ _=>False) s->wpAny (model prog w) A m Q E s:=fun q=>wpAny_mono q (fun _ _ z=>z) fun _ _ z=>z.elim;refine wpAny_bind (wpAny_standAt (wpAny_bind (wpAny_mono (up (turn n s hJ)) (fun r s₁ h₁=>?_) fun _ _ z=>z)));rcases h₁ with ⟨rfl,h₁⟩ | ⟨v,rfl,h₁⟩
 · exact wpAny_pure h₁
 · refine wpAny_bind (wpAny_mono (up h₁) (fun _ s₂ h₂=>?_) fun _ _ z=>z);refine wpAny_bind (wpAny_mono (up h₂) (fun _ s₃ h₃=>?_) fun _ _ z=>z);refine wpAny_bind (wpAny_mono (up h₃) (fun ok s₄ h₄=>?_) fun _ _ z=>z);rcases h₄ with ⟨rfl,h₄⟩ | ⟨rfl,h₄⟩
   · exact wpAny_pure ⟨rfl,h₄⟩
   · exact wpAny_bind (wpAny_bind (wpAny_mono (up h₄) (fun x s₅ h₅=>wpAny_bind (wpAny_mono (up h₅) (fun _ s₆ h₆=>wpAny_pure (wpAny_pure ⟨rfl,h₆⟩)) fun _ _ z=>z)) fun _ _ z=>z))
theorem kK {elt tg iter:Expr} {ifs:List Expr} {sc:Scope} {pos:Pos} {N:List Str} {js:List (Option Nat)} {g:TG} {tt:TT} {te:TE} {cl:List (Str×Addr)} {fp:List Addr} {it:Addr} {tn:Nat->Heap->Prop} {J:It} {n:Nat} {W:Nat->Hp->Prop} {fin:Hp->Prop}
 {R:Value->Addr->Result->Shared->Prop} (hc:X.calm=true) (S:eU X sc N js) (I:Inv X pins σ H s) (T:Turn X.prog X.w X.K tg J fp it tn) (st:tn 0 s.heap) (hf:∀ b∈fp,jc X pins H b)
 (hcl:∀ x c,cl.lookup x=some c->X.env.cells.lookup x=some c) (hcl2:∀ n,(n,NameKind.free)∈sc.names->∃ c,cl.lookup n=some c)
 (hg:∀ cl C s H fp pins,PG (bQ X N sc cl C s H fp pins) tg g) (gk:lY js g) (ht:∀ cl C s H fp pins,PTs (bQ X N sc cl C s H fp pins) ifs tt) (he:∀ cl C s H fp pins,PE (bQ X N sc cl C s H fp pins) elt te)
 (w0:W 0 (upd H s.heap.objs.size (.lst []))) (turn:ft js g tt te σ J s.heap.objs.size n W fin)
 (hR:∀ C H' s',C≠X.env.locals->s.heap.objs.size<C->(∃ m,s'.heap.Ns C m)->H' C=none->(∀ h' t',Heap.SameBut C s'.heap h'->Inv X pins σ H' { s' with heap:=h',toks:=t' })->fin H'->R (.ref s.heap.objs.size) C (.ok .next) s') {E:Value->Shared->Prop} :
 wpAny (model X.prog X.w) X.A (newList []) (fun acc s₃=>wpAny (model X.prog X.w) X.A (newFunctionEnv sc X.env.globals cl [] X.env.qual none .none (some X.env)) (fun cenv s₄ =>
  codeAny (model X.prog X.w) X.A (.compStart (.ListComp elt [⟨tg,iter,ifs,0⟩] sc pos) 0 (.ref it) acc { cenv with scope:=relabel sc X.env }) (R acc cenv.locals) s₄) E s₃) E s:=by
 refine wpAny_newObj_type (wpAny_newFunctionEnv S.nocell (by intro y hy;simp at hy) (fun h₁ hns₁ hsb₁=>?_) S.kind);dsimp only at hns₁ hsb₁ ⊢;have I3:Inv X pins σ (upd H s.heap.objs.size (.lst [])) { s with heap:=s.heap.push { cls:=.type "list",dict:=none,data:=.seq ([]:List Value).toArray } }:=I.lnew (t':=s.toks) (its:=[]) .nil (by decide)
 have hlt:∀ b∈fp,b<s.heap.objs.size:=fun b hb=>by
  obtain ⟨o,ho,_⟩:=T.obj _ _ st b hb;exact Heap.lt_size ho
 have hpush:∀ b o,s.heap.get? b=some o->(s.heap.push { cls:=.type "list",dict:=none,data:=.seq ([]:List Value).toArray }).get? b=some o:=fun b o e=>Heap.get?_push_of_some _ e;have hsz:(s.heap.push { cls:=.type "list",dict:=none,data:=.seq ([]:List Value).toArray }).objs.size=s.heap.objs.size+1:=Heap.size_push ..;generalize hs3:({ s with heap:=s.heap.push { cls:=.type "list",dict:=none,data:=.seq ([]:List Value).toArray } }:Shared)=s3 at I3;have hs3h:s.heap.push { cls:=.type "list",dict:=none,data:=.seq ([]:List Value).toArray }=s3.heap:=by rw [<- hs3]
 rw [hs3h] at hns₁ hsb₁ hpush hsz;rw [hs3h];have est:∀ t',({ s with heap:=h₁,toks:=t' }:Shared)={ s3 with heap:=h₁,toks:=t' }:=fun t'=>by rw [<- hs3]
 rw [est];have hsb:∀ b o,s3.heap.get? b=some o->h₁.get? b=some o:=fun b o e=>hsb₁.extBut b o (Nat.ne_of_lt (Heap.lt_size e)) (Heap.get?_push_of_some _ e);have hf3:∀ b∈fp,jc X pins (upd H s.heap.objs.size (.lst [])) b:=fun b hb=>⟨by rw [ak (Nat.ne_of_lt (hlt b hb))];exact (hf b hb).1,(hf b hb).2⟩;have I4:=sY (t':=s.toks+([]:List (Str×Value)).length) S I3 hcl hcl2 hf3 (fun b hb=>by rw [hsz];exact Nat.lt_succ_of_lt (hlt b hb)) hns₁ hsb;generalize hH3:upd H s.heap.objs.size (.lst [])=H3 at I3 I4 hf3 w0;have hst:tn 0 h₁:=T.keep _ _ _ st fun b hb o e=>hsb _ _ (hpush _ _ e)
 have stat:∀ {H':Hp},(∀ b∈fp,H' b=none)->∀ b∈fp,jc (bQ X N sc cl s3.heap.objs.size s3 H3 fp pins) [] H' b:=fun {H'} hn b hb=>by
  obtain ⟨f0,f1,f2,f3,f4,f5⟩:=hf b hb;refine ⟨hn b hb,fun e=>?_,fun hm=>?_,.inl hb,fun x c e=>f4 x c (hcl x c e),fun p hp=>f5 p (by simpa [bQ] using hp)⟩
  · have e':b=s3.heap.objs.size:=e;have h9:b<s.heap.objs.size:=hlt b hb;rw [e',hsz] at h9;exact absurd h9 (Nat.not_lt.mpr (Nat.le_succ _))
  · rcases List.mem_cons.mp (I.stkSub b hm) with e | e
    · exact f1 e
    · exact f2 e
 have loop:codeAny (model X.prog X.w) X.A (.compLoop (.ListComp elt [⟨tg,iter,ifs,0⟩] sc pos) 0 (.ref it) (.ref s.heap.objs.size) (compEnvC sc cl s3.heap.objs.size X.env)) (R (.ref s.heap.objs.size) s3.heap.objs.size)
  { s3 with heap:=h₁,toks:=s.toks+([]:List (Str×Value)).length }:=by
  refine rh (fun k s'=>∃ i H',Inv (bQ X N sc cl s3.heap.objs.size s3 H3 fp pins) [] (cσ js σ) H' s'/\tn i s'.heap/\(∀ b∈fp,H' b=none)/\W i H'/\k=n - i) ?_ n ⟨0,H3,I4,hst,fun b hb=>(hf3 b hb).1,w0,rfl⟩;rintro k s5 ⟨i,H5,I5,st5,fr5,w5,rfl⟩;rcases turn i H5 w5 with ⟨stop,qn⟩ | ⟨hin,go,step⟩
  · refine thn (T.done (bQ X N sc cl s3.heap.objs.size s3 H3 fp pins) rfl rfl rfl hc i [] s5 (cσ js σ) H5 _ I5 (stat fr5) st5 stop) fun r s6 ⟨hr,I6⟩=>.inl ⟨hr,?_⟩;have I7:Inv X pins σ H5 s6:=I3.call' (ch:=fp) (I6.os.trans rfl) I6.base I6.hok I6.bare fun b hb=>⟨(hf b hb).2.2.2.1,(hf b hb).2.1,(hf b hb).2.2.2.2.1,(hf b hb).2.2.2.2.2⟩;have hC5:H5 s3.heap.objs.size=none:=I6.free;have hCl:s3.heap.objs.size≠X.env.locals:=Nat.ne_of_gt I3.lt;obtain ⟨m6,hn6,_⟩:=I6.loc;refine hR s3.heap.objs.size H5 s6 hCl (by omega) ⟨m6,hn6⟩ hC5 (fun h' t' sb=>?_) qn;refine I7.turned (it:=s3.heap.objs.size) (fun b o hb e=>sb.extBut b o hb e) hC5 hCl (.inr I3.sz) (fun x c e z=>?_) fun p hp z=>?_
    · obtain ⟨v,q⟩:=I3.cell x c e;exact absurd q.lt (by rw [z];exact Nat.lt_irrefl _)
    · exact absurd (Heap.lt_size (I3.pin p hp).1) (by rw [z];exact Nat.lt_irrefl _)
  · refine thn (T.item (bQ X N sc cl s3.heap.objs.size s3 H3 fp pins) rfl rfl rfl hc i [] s5 (cσ js σ) H5 _ I5 (stat fr5) st5 go) fun r s6 ⟨u,hr,h6⟩=>.inr ⟨u,hr,?_⟩;refine thn h6 fun _ s7 ⟨x,H7,I7,r7,y7,st7,fr7⟩=>?_;have I7':=I7.pinned (stat fr7) (T.obj _ _ st7);refine thn (hg cl s3.heap.objs.size s3 H3 fp pins _ s7 (cσ js σ) H7 x u _ I7' r7 (gk σ (cσ js σ) x H7 _ (.refl _) (step x H7 y7))) fun _ s8 ⟨σ8,H8,I8,k8,q8⟩=>?_;refine thn (ht cl s3.heap.objs.size s3 H3 fp pins _ s8 σ8 H8 _ I8 q8) fun ok s9 ⟨H9,I9,q9⟩=>?_
    have again:∀ {s':Shared} {σ':St} {H':Hp},Keep (cσ js σ) σ'->Inv (bQ X N sc cl s3.heap.objs.size s3 H3 fp pins) ([]++km fp s7.heap) σ' H' s'->W (i+1) H'->∃ m,m<n - i/\∃ i H',Inv (bQ X N sc cl s3.heap.objs.size s3 H3 fp pins) [] (cσ js σ) H' s'/\tn i s'.heap/\(∀ b∈fp,H' b=none)/\W i H'/\m=n - i:=fun {s' σ' H'} kp I' w'=>by
     refine ⟨n - (i+1),by omega,i+1,H',(I'.unpinned).weak kp.1 kp.2,T.keep _ _ _ st7 fun b hb o e=>(I'.pin (b,o) (List.mem_append_right _ (List.mem_append_right _ (fb hb e)))).1,fun b hb=>?_,w',rfl⟩;obtain ⟨o,e,d⟩:=T.obj _ _ st7 b hb;exact (I'.pin (b,o) (List.mem_append_right _ (List.mem_append_right _ (fb hb e)))).2.1
    cases ok with
    | false =>
      refine .inl ⟨rfl,again k8 I9 ?_⟩;have q9':if false=true then _ else W (i+1) H9:=q9
      rw [if_neg Bool.false_ne_true] at q9';exact q9'
    | true =>
      refine .inr ⟨rfl,?_⟩;rw [if_pos rfl] at q9;refine thn (he cl s3.heap.objs.size s3 H3 fp pins _ s9 σ8 H9 _ I9 q9) fun vv s10 ⟨v,H10,I10,rv,ys,hD,hys,w10⟩=>?_;refine thn (aQ _ s10 σ8 H10 (.ref s.heap.objs.size) [v] (.ref s.heap.objs.size) [vv] (fun _ H'=>W (i+1) H') I10 rfl (.cons rv .nil) ⟨_,ys,v,rfl,rfl,hD,hys,w10⟩) fun _ s11 ⟨_,H11,I11,_,w11⟩=>?_;exact again k8 I11 w11
 exact codeAny_compStart_list loop (T.self X.A 0 _ _ _ hst loop)
theorem bY {elt tg iter:Expr} {ifs:List Expr} {sc:Scope} {pos:Pos} {N:List Str} {js:List (Option Nat)} {wi:TI} {g:TG} {tt:TT} {te:TE} (hc:X.calm=true) (S:eU X sc N js) (hi:PI X tg iter wi)
 (hg:∀ cl C s H fp pins,PG (bQ X N sc cl C s H fp pins) tg g) (gk:lY js g) (ht:∀ cl C s H fp pins,PTs (bQ X N sc cl C s H fp pins) ifs tt) (he:∀ cl C s H fp pins,PE (bQ X N sc cl C s H fp pins) elt te)
 (hs:∀ x,foldedSetIterable iter X.env x=pure x:=by intro _;rfl):PE X (.ListComp elt [⟨tg,iter,ifs,0⟩] sc pos) (vF js wi g tt te):=by
 intro pins s σ H Q I h;obtain ⟨cl,e1,e2,e3⟩:=j5 (env:=X.env) (sc:=sc) fun n hn=>I.ok.has n (S.frees _ hn rfl);rw [eval_ListComp];refine wpAny_comprehension_free (use:=none) rfl hs e1 S.kind S.names (thn (hi pins s σ H _ I h) fun v s1 h1=>thn h1 fun itv s2 h2=>?_);obtain ⟨it,fp,tn,J,H2,rfl,I2,T,st2,f2,R2⟩:=h2;obtain ⟨n,W,w0,turn⟩:=R2 s2.heap.objs.size I2.fresh;refine kK (R:=fun acc C=>compPost (model X.prog X.w) X.A X.xe none (EP X pins σ Q) acc C) hc S I2 T st2 f2 e2 e3 hg gk ht he w0 turn fun C H' s' _ _ hn _ inv fi=>?_;obtain ⟨m,hm⟩:=hn;exact ⟨m,hm,fun h' sb=>⟨.ref s2.heap.objs.size,H',inv h' s'.toks sb,rfl,fi⟩⟩
theorem jX {i:Nat} {y:Str} {elt tg iter:Expr} {ifs:List Expr} {sc:Scope} {pos spos py:Pos} {N:List Str} {js:List (Option Nat)} {wi:TI} {g:TG} {tt:TT} {te:TE} (hN:X.N.Nodup) (hy:X.N[i]?=some y) (hyl:Loc X.env.scope y) (hc:X.calm=true) (S:eU X sc N js) (hi:PI X tg iter wi)
 (hg:∀ cl C s H fp pins,PG (bQ X N sc cl C s H fp pins) tg g) (gk:lY js g) (ht:∀ cl C s H fp pins,PTs (bQ X N sc cl C s H fp pins) ifs tt) (he:∀ cl C s H fp pins,PE (bQ X N sc cl C s H fp pins) elt te)
 (hsw:swapsWith (.ListComp elt [⟨tg,iter,ifs,0⟩] sc pos) (some (.Name y py)) spos.line X.env=pure true:=by rfl)
 (hs:∀ x,foldedSetIterable iter X.env x=pure x:=by intro _;rfl) (hf:X.fn y=true∨X.env.scope.names.lookup y=some .local:=by first | exact .inl rfl | exact .inr rfl | assumption) :
 PS X (.Assign [.Name y py] (.ListComp elt [⟨tg,iter,ifs,0⟩] sc pos) spos) (wb (vF js wi g tt te) (aH i)):=by
 intro pins s σ H D I h;obtain ⟨cl,e1,e2,e3⟩:=j5 (env:=X.env) (sc:=sc) fun n hn=>I.ok.has n (S.frees _ hn rfl);rw [exec_Assign_Name_used _ _ _ _ hsw];refine wpAny_bind (wpAny_standAt (wpAny_bind ?_));show wpAny _ X.A (do let _ ← comprehension (.ListComp elt [⟨tg,iter,ifs,0⟩] sc pos) sc X.env _ (newList []) false (eval iter X.env) (some (assign (.Name y py) X.env))) _ _ s;refine wpAny_bind (wpAny_mono (wpAny_comprehension_free (use:=some (assign (.Name y py) X.env)) (Q:=fun _ s'=>SP X pins D .next s') rfl hs e1 S.kind S.names (thn (hi pins s σ H _ I h) fun v s1 h1=>thn h1 fun itv s2 h2=>?_)) (fun _ s' hq=>wpAny_pure (wpAny_pure hq)) fun _ _ z=>z);obtain ⟨it,fp,tn,J,H2,rfl,I2,T,st2,f2,R2⟩:=h2;obtain ⟨n,W,w0,turn⟩:=R2 s2.heap.objs.size I2.fresh;refine kK (R:=fun acc C=>compPost (model X.prog X.w) X.A X.xe (some (assign (.Name y py) X.env)) (fun _ s'=>SP X pins D .next s') acc C) hc S I2 T st2 f2 e2 e3 hg gk ht he w0 turn fun C H' s' hCL hC hn hC' inv fi=>?_;obtain ⟨m,hm⟩:=hn
 have I5:Inv X pins σ H' s':=by
  have q:=inv s'.heap s'.toks (.refl ..);exact q
 refine wpAny_assign_Name (lS (v:=.ref s2.heap.objs.size) I5 hN hy hyl rfl (fun s6 I6 ⟨a,sb,ha⟩=>?_) hf)
 have haC:C≠a:=by
  rcases ha with ha | ha
  · rw [ha];exact hCL
  · intro z;obtain ⟨v,q⟩:=I2.cell y a ha;exact absurd (Nat.lt_trans q.lt hC) (by rw [z];exact Nat.lt_irrefl _)
 refine ⟨m,hm.sameBut sb haC,fun h' sb'=>⟨_,H',I6.turned (it:=C) (t':=s6.toks) (fun b o hb e=>sb'.extBut b o hb e) hC' hCL (.inr (Nat.le_trans I2.sz (Nat.le_of_lt hC))) (fun x c e z=>?_) fun p hp z=>?_,fi⟩⟩
 · obtain ⟨v,q⟩:=I2.cell x c e;exact absurd (Nat.lt_trans q.lt hC) (by rw [z];exact Nat.lt_irrefl _)
 · exact absurd (Nat.lt_trans (Heap.lt_size (I2.pin p hp).1) hC) (by rw [z];exact Nat.lt_irrefl _)
end
end L2
namespace L2
open PySem PySem.Spec PyProof.Rows
def jN {α:Type} (xs:List α) (lo hi:Option Int):List α:=(xs.drop (HT.sIx xs.length 0 lo)).take (HT.sIx xs.length xs.length hi - HT.sIx xs.length 0 lo)
def cw (z:Str) (lo hi:Option Int):Str:=⟨(jN z.cps.toList lo hi).toArray⟩
theorem sX {α:Type} (xs:List α) (a n:Nat):((List.range n).map fun (k:Nat)=>a+k).filterMap (xs[·]?)=(xs.drop a).take n:=by
 induction n with
 | zero=>simp
 | succ n ih =>
   rw [List.range_succ,List.map_append,List.filterMap_append,ih,List.take_add_one];congr 1;rw [List.getElem?_drop];cases h:xs[a+n]? <;> simp [h]
theorem rL (n d:Nat) (i:Int):max 0 (min (if i<0 then i+(n:Int) else i) (n:Int))=((HT.sIx n d (some i):Nat):Int):=by
 show max 0 (min (if i<0 then i+(n:Int) else i) (n:Int))=(((if i<0 then (i+(n:Int)).toNat else min i.toNat n):Nat):Int);by_cases h:i<0
 · rw [if_pos h,if_pos h];omega
 · rw [if_neg h,if_neg h];omega
theorem tU (A B:Int) (a b:Nat) (hA:A=(a:Int)) (hB:B=(b:Int)):sliceRange A B 1=(List.range (b - a)).map fun (k:Nat)=>a+k:=by
 subst hA;subst hB;unfold sliceRange;simp only [show (1:Int) > 0 by decide,if_true]
 have c:(if (a:Int)<(b:Int) then ((b:Int) - a+1 - 1) / 1 else 0).toNat=b - a:=by
  split
  · rw [Int.ediv_one];omega
  · omega
 rw [c];refine List.map_congr_left fun k _=>?_;omega
theorem qR (lo hi:Option Int) (n:Nat):Builtin.Str.strSliceIndices lo hi 1 n=(List.range (HT.sIx n n hi - HT.sIx n 0 lo)).map fun (k:Nat)=>HT.sIx n 0 lo+k:=by
 unfold Builtin.Str.strSliceIndices;simp only [show (1:Int) > 0 by decide,if_true];cases lo <;> cases hi <;> refine tU _ _ _ _ ?_ ?_ <;> first | rfl | exact rL _ _ _
theorem fz (z:Str) (lo hi:Option Int):(cw z lo hi).length<=z.length:=by
 show (jN z.cps.toList lo hi).toArray.size<=z.cps.size;unfold jN;rw [List.size_toArray,List.length_take,List.length_drop,Array.length_toList];omega
theorem lE (x:Str) (t:Tok) (l u:Option (Int×Tok)) {Q:Value->Shared->Prop} {s:Shared} (hz:x.length<=sizeLine) (h:∀ t' k,Q (.str (cw x (l.map (·.1)) (u.map (·.1))) t') { s with toks:=k }):(sliceMade x t l u none).post Q s:=by
 have e:(slicePicked x l u none).filterMap (x.cps[·]?)=jN x.cps.toList (l.map (·.1)) (u.map (·.1)):=by
  unfold slicePicked jN;show (Builtin.Str.strSliceIndices (l.map (·.1)) (u.map (·.1)) 1 x.length).filterMap (x.cps[·]?)=_;rw [qR,show (x.cps[·]?)=(x.cps.toList[·]?) from funext fun i=>(Array.getElem?_toList ..).symm,sX,Array.length_toList];rfl
 unfold sliceMade;split
 · rename_i hc
   have hl:(slicePicked x l u none).length=x.length:=by
    have:=(Bool.and_eq_true _ _ ▸ hc).2;simpa using this
   have hw:cw x (l.map (·.1)) (u.map (·.1))=x:=by
    have e2:(jN x.cps.toList (l.map (·.1)) (u.map (·.1)))=x.cps.toList:=by
     have hp:slicePicked x l u none=(List.range (HT.sIx x.length x.length (u.map (·.1)) - HT.sIx x.length 0 (l.map (·.1)))).map fun (k:Nat)=>HT.sIx x.length 0 (l.map (·.1))+k:=qR _ _ _;rw [hp,List.length_map,List.length_range] at hl;have b1:=HT.sIx_le x.length x.length (Nat.le_refl _) (u.map (·.1));have hx:x.cps.toList.length=x.length:=Array.length_toList;unfold jN;rw [hx,hl];have hz0:HT.sIx x.length 0 (l.map (·.1))=0∨x.length=0:=by omega
     rcases hz0 with h0 | h0
     · rw [h0,List.drop_zero,List.take_of_length_le (by rw [hx];exact Nat.le_refl _)]
     · have:x.cps.toList=[]:=List.length_eq_zero_iff.mp (by rw [hx];exact h0);rw [this];simp
    unfold cw;rw [e2]
   have:=h t s.toks;rw [hw] at this;exact this
 · show (⟨((slicePicked x l u none).filterMap (x.cps[·]?)).toArray⟩:Str).length<=sizeLine/\Q _ _;rw [e];exact ⟨Nat.le_trans (fz x _ _) hz,h s.toks (s.toks+1)⟩
section
variable {X:Cx}
inductive vn (x:V) (lo:Option Int) (hi:Option Int) (H:Hp) (Q:VK):Prop
 | mk (z:_) (zz0:x=.str z) (zz1:z.length<=sizeLine) (zz2:Q (.str (cw z lo hi)) H):vn  x lo hi H Q
def xO:V->Option Int->Option Int->Hp->VK->Prop:=vn
theorem part_of {v:Value} {o:Option Int} (h:IsPart v o):∃ l:Option (Int×Tok),v=partValue l/\l.map (·.1)=o:=by
 cases h with
 | none=>exact ⟨none,rfl,rfl⟩
 | int i t=>exact ⟨some (i,t),rfl,rfl⟩
theorem nw:SlR X xO:=by
 intro pins s σ H x v vl vu lo hi sl Q I rx hs pl pu h;obtain ⟨z,rfl,hz,q⟩:=h;obtain ⟨t,rfl⟩:=rx;obtain ⟨l,rfl,rfl⟩:=part_of pl;obtain ⟨u,rfl,rfl⟩:=part_of pu;refine ⟨"str",_,F.slot_str_getitem.lookup,typeIs_str s z t,wpAny_getItem_str_slice (l:=l) (u:=u) (st:=none) ?_ rfl (lE z t l u hz fun t' k=>?_)⟩
 · obtain ⟨o,ho,hc,hd⟩:=hs;exact ⟨o,ho,hc,hd⟩
 · exact ⟨.str (cw z (l.map (·.1)) (u.map (·.1))),H,I.tok k,⟨_,rfl⟩,q⟩
theorem tZ {T:String} {b:Bool} {t:Value}:dQ X (.builtin "isinstance") (fun xs H Q=>∃ x,xs=[x,.ty T]/\iF X.K H x t/\PySem.W.kitOne X.K t (.type T)=some b/\Q (.bl b) H):=by
 intro pins s σ H xs us Q I r h;obtain ⟨x,rfl,ty,k,q⟩:=h;obtain ⟨u,w',rfl,r1,r2⟩:=vals2 r;cases r2;exact rB I r1 ty k fun tk=>⟨.bl b,H,I.tok tk,rfl,q⟩
end
end L2
namespace PySem
namespace F
theorem bb_owner_rev:Manifest.owners.lookup (String.ofList ['d','e','s','r','e','v','e','r'].reverse)=some Manifest.sig_reversed:=by kernel_rfl
theorem bb_slot_rev_next:Slot "reversed" "__next__" "reversed.__next__" :=
 .of (owner:="reversed") (n:="__next__") (by rw [typeLookup_type,builtinLookup_eq_fast];kernel_rfl) (by decide +kernel) (by decide +kernel) (by decide +kernel)
  (by first | exact .inl (by decide +kernel) | exact .inr (by decide +kernel)) (by rw [isSubtype_type];kernel_rfl)
theorem bb_entry_rev_next:entryFor table "reversed.__next__"=some Builtin.«reversed.__next__»:=entryFor_of_tree (by kernel_rfl)
theorem bb_args_rev_next (a:Value):argsOk "reversed.__next__" ⟨[a],[]⟩:=by
 unfold argsOk;rw [signature?_of (id:="reversed.__next__") (n:=['_','_','t','x','e','n','_','_']) (o:=['d','e','s','r','e','v','e','r']) (by kernel_rfl) bb_owner_rev];kernel_rfl
theorem bb_slot_rev_iter:Slot "reversed" "__iter__" "reversed.__iter__" :=
 .of (owner:="reversed") (n:="__iter__") (by rw [typeLookup_type,builtinLookup_eq_fast];kernel_rfl) (by decide +kernel) (by decide +kernel) (by decide +kernel)
  (by first | exact .inl (by decide +kernel) | exact .inr (by decide +kernel)) (by rw [isSubtype_type];kernel_rfl)
theorem bb_args_rev_iter (a:Value):argsOk "reversed.__iter__" ⟨[a],[]⟩:=by
 unfold argsOk;rw [signature?_of (id:="reversed.__iter__") (n:=['_','_','r','e','t','i','_','_']) (o:=['d','e','s','r','e','v','e','r']) (by kernel_rfl) bb_owner_rev];kernel_rfl
theorem bb_entry_rev_iter:entryFor table "reversed.__iter__"=some Builtin.«dict_keyiterator.__iter__» :=
 entryFor_alias (id':="dict_keyiterator.__iter__") (by kernel_rfl) (by first | rfl | decide +kernel | (unfold String.splitOn;simp +decide [String.splitOnAux])) (by decide +kernel) (by kernel_rfl)
theorem bb_tuple_norev:typeLookup (.type "tuple") "__reversed__"=pure none:=by rw [typeLookup_type,builtinLookup_eq_fast];kernel_rfl
theorem bb_sub_rev_rev:isSubtype (.type "reversed") (.type "reversed")=pure true:=by rw [isSubtype_type];kernel_rfl
theorem bb_sub_tuple_dict:isSubtype (.type "tuple") (.type "dict")=pure false:=by rw [isSubtype_type];kernel_rfl
end F
end PySem
namespace PySem
open Sem (wp)
section
variable {prog:Program} {w:World} {A:Around} {E:Value->Shared->Prop} {s:Shared}
theorem bb_slot_rev_init:Slot "reversed" "__init__" "object.__init__" :=
 .of (owner:="object") (n:="__init__") (by rw [typeLookup_type,builtinLookup_eq_fast];kernel_rfl) (by decide +kernel) (by decide +kernel) (by decide +kernel)
  (by first | exact .inl (by decide +kernel) | exact .inr (by decide +kernel)) (by rw [isSubtype_type];kernel_rfl)
theorem bb_called_rev:TypeCalled "reversed" "reversed.__new__" "object.__init__" :=
 ⟨by decide +kernel,by decide +kernel,⟨_,_,F.mro_reversed⟩,F.made_reversed,by decide +kernel,F.bb_sub_rev_rev,bb_slot_rev_init⟩
def revTup (t:Addr) (i:Int):Obj:={ cls:=.type "reversed",data:=.fields #[.ref t,rawInt i] }
theorem bb_meets_rev_tuple (t:Addr) (items:Array Value) (hz:(items.size:Int)<2 ^ 63) :
 Meets (Builtin.«reversed.__new__» ⟨[.type "reversed",.ref t],[]⟩) (fun _ R s=>PyProof.Rows.IsTup s.heap t items/\∀ tk,R (.ok (.ret (.ref s.heap.objs.size))) { s with heap:=s.heap.push (revTup t ((items.size:Int) - 1)),toks:=tk }):=by
 refine .of_wp fun prog w A R s h=>?_;obtain ⟨ht,h⟩:=h;unfold Builtin.«reversed.__new__»;refine wpAny_bind (wpAny_of_eq (newClass_reversed _) ?_)
 try dsimp only
 refine wpAny_bind (wpAny_of_eq (a:=()) (by first | rfl | kernel_rfl) ?_);refine wpAny_bind (wpAny_of_eq (a:=()) (by first | rfl | kernel_rfl) ?_)
 try dsimp only
 refine wpAny_bind (wpAny_specialOf ht.typeIs F.bb_tuple_norev ?_)
 try dsimp only
 have hsd:=F.bb_sub_tuple_dict;have hgi:=PyProof.Rows.slot_tuple_getitem.lookup;have hT:s.TypeIs (.ref t) "tuple":=ht.typeIs
 wp_walk using PyProof.Rows.len_tuple ht hz,wpAny_typeOf hT
 exact ⟨_,rfl,h _⟩
theorem bb_call_rev_tuple {t:Addr} {items:Array Value} {Q:Value->Shared->Prop} (ht:PyProof.Rows.IsTup s.heap t items) (hz:(items.size:Int)<2 ^ 63)
 (h:∀ tk,Q (.ref s.heap.objs.size) { s with heap:=s.heap.push (revTup t ((items.size:Int) - 1)),toks:=tk }):wpAny (model prog w) A (call (.type "reversed") [.ref t]) Q E s :=
 callType_new bb_called_rev (by decide) (F.typeCall_reversed_1 _) (F.newCall_reversed_1 _) (fun obj=>F.args_object_init_2 obj _) F.entry_reversed_new (bb_meets_rev_tuple t items hz)
  ⟨ht,fun tk=>⟨⟨_,Heap.get?_push_size _ rfl,rfl⟩,h tk⟩⟩
def IsRevT (h:Heap) (a t:Addr) (i:Int):Prop:=∃ o,h.get? a=some o/\o.cls=.type "reversed"/\o.data=.fields #[.ref t,rawInt i]
theorem IsRevT.typeIs {a t:Addr} {i:Int} (x:IsRevT s.heap a t i):s.TypeIs (.ref a) "reversed":=let ⟨o,ho,hc,_⟩:=x;⟨o,ho,hc⟩
theorem IsRevT.at {h h':Heap} {a t:Addr} {i:Int} (x:IsRevT h a t i) (e:∀ o,h.get? a=some o->h'.get? a=some o):IsRevT h' a t i:=let ⟨o,ho,r⟩:=x;⟨o,e _ ho,r⟩
theorem bb_rev_iter {it t:Addr} {i:Int} {Q:Value->Shared->Prop} (hit:IsRevT s.heap it t i) (h:Q (.ref it) s):wpAny (model prog w) A (pyIter (.ref it)) Q E s:=by
 refine wpAny_pyIter_slot hit.typeIs F.bb_slot_rev_iter (wpAny_call_entry F.bb_slot_rev_iter hit.typeIs F.bb_entry_rev_iter ?_ (F.bb_args_rev_iter _));show wpAny _ _ (ret (.ref it)) _ _ s;exact wpAny_pure ⟨_,rfl,"reversed",_,hit.typeIs,F.bb_slot_rev_next.lookup,h⟩
theorem bb_rev_next {it t:Addr} {i:Nat} {items:Array Value} {x:Value} {Q:Option Value->Shared->Prop} (hit:IsRevT s.heap it t (i:Int)) (ht:PyProof.Rows.IsTup s.heap t items) (hx:items[i]?=some x) (hz:(items.size:Int)<2 ^ 63)
 (hQ:∀ h' tk,IsRevT h' it t ((i:Int) - 1)->Heap.SameBut it s.heap h'->Q (some x) { s with heap:=h',toks:=tk }):wpAny (model prog w) A (pyNext (.ref it)) Q E s:=by
 obtain ⟨o,ho,hc,hd⟩:=id hit;have hi:i<items.size:=(Array.getElem?_eq_some_iff.mp hx).1;unfold pyNext
 refine wpAny_bind (wpAny_attempt (wpAny_callSpecial?_slot (name:=Str.ofString "__next__") hit.typeIs F.bb_slot_rev_next
  (wpAny_call_entry F.bb_slot_rev_next hit.typeIs F.bb_entry_rev_next ?_ (F.bb_args_rev_next _))))
 unfold Builtin.«reversed.__next__»;refine wpAny_bind (wpAny_of_eq (a:=(Value.ref it,[])) rfl ?_)
 try dsimp only
 refine wpAny_bind (wpAny_field ho hd (x:=.ref t) rfl ?_);refine wpAny_bind (wpAny_field ho hd (x:=rawInt (i:Int)) rfl ?_);show wpAny _ _ (if (i:Int)<0 then _ else _) _ _ s;rw [if_neg (by omega)];refine wpAny_bind (wpAny_specialOf ht.typeIs PyProof.Rows.slot_tuple_getitem.lookup ?_)
 try dsimp only
 rw [if_neg (by decide)];refine wpAny_bind (m:=mkInt (i:Int)) (wpAny_mkInt ?_);refine wpAny_bind (wpAny_attempt (PyProof.Rows.getItem_tuple (j:=i) (x:=x) ht (by omega) (by omega) ?_ hx ?_))
 · refine (L2.nG (n:=items.size) (i:=(i:Int)) (j:=i) ?_).1;unfold L2.ixN;rw [if_pos (by omega),if_pos (by omega)];simp
 · try dsimp only
   refine wpAny_bind (wpAny_field ho hd (x:=rawInt (i:Int)) rfl ?_)
   try dsimp only
   refine wpAny_bind (wpAny_setField ho hd (by simp) ?_);refine wpAny_pure ⟨x,rfl,wpAny_pure (hQ _ _ ?_ (Heap.SameBut.update ..))⟩;exact ⟨_,Heap.get?_update_self _ ho (Obj.isFreed_of_fields (Obj.data_mapFields hd _)),(Obj.cls_mapFields ..).trans hc,by rw [Obj.data_mapFields hd];simp⟩
theorem bb_rev_end {it t:Addr} {Q:Option Value->Shared->Prop} (hh:A.handled=none) (hit:IsRevT s.heap it t (-1))
 (hQ:∀ h' tk,Heap.ExtBut it s.heap h'->Q none { s with heap:=h',toks:=tk }):wpAny (model prog w) A (pyNext (.ref it)) Q E s:=by
 obtain ⟨o,ho,hc,hd⟩:=id hit;unfold pyNext
 refine wpAny_bind (wpAny_attempt (wpAny_callSpecial?_slot (name:=Str.ofString "__next__") hit.typeIs F.bb_slot_rev_next
  (wpAny_call_entry F.bb_slot_rev_next hit.typeIs F.bb_entry_rev_next ?_ (F.bb_args_rev_next _))))
 unfold Builtin.«reversed.__next__»;refine wpAny_bind (wpAny_of_eq (a:=(Value.ref it,[])) rfl ?_)
 try dsimp only
 refine wpAny_bind (wpAny_field ho hd (x:=.ref t) rfl ?_);refine wpAny_bind (wpAny_field ho hd (x:=rawInt (-1)) rfl ?_);show wpAny _ _ (if (-1:Int)<0 then _ else _) _ _ s;rw [if_pos (by decide)];refine wpAny_bind (wpAny_rule ?_);refine wpAny_bind ?_
 wp_delta
 refine wpAny_bind (wpAny_setField ho hd (by simp) ?_);have ho2:=Heap.get?_update_self (Obj.mapFields (·.setIfInBounds 1 (rawInt (-1)))) ho (Obj.isFreed_of_fields (Obj.data_mapFields hd _));refine wpAny_setField ho2 (Obj.data_mapFields hd _) (by simp) ?_;refine wpAny_bind ?_
 wp_delta
 refine wpAny_bind ?_;simp only [newExc,newTuple];refine wpAny_bind (wpAny_newObj_type ?_ (by size_fits));refine wpAny_bind (m:=firstArgMember _ _) (wpAny_of_eq (a:=Value.none) (by first | rfl | (simp only [firstArgMember];rfl)) ?_);refine wpAny_newObj_type ?_ (by size_fits);simp only [raiseNew];refine wpAny_bind (wpAny_handled ?_)
 first | rw [show A.in1.handled=none from hh] | rw [hh]
 refine wpAny_bind (wpAny_pure (wpAny_throw ?_));refine wpAny_bind (wpAny_isInstance (T:="StopIteration") (b:=true) ⟨_,Heap.get?_push_size _ rfl,rfl⟩ isSubtype_stop ?_);refine wpAny_pure (hQ _ _ ?_);refine Heap.ExtBut.push (Heap.ExtBut.push ?_ _) _;intro b o' hb e;rw [Heap.get?_update_other _ _ (Ne.symm hb),Heap.get?_update_other _ _ (Ne.symm hb)];exact e
end
end PySem
namespace L2
open PySem PySem.Spec PyProof.Rows
section
variable {X:Cx} {e:Expr} {te:TE} {p p2 pos pos2:Pos}
def Itv (K:PySem.W.Frag) (a:Addr) (n:Nat):It:=⟨fun i H=>i<n/\∃ xs,SqL K H a xs/\xs.length=n,fun i H x H'=>H'=H/\∀ xs,SqL K H a xs->xs[n - 1 - i]?=some x,fun i _=>i=n⟩
theorem t6 {P:Program} {w:World} {K:PySem.W.Frag} {tg:Expr} (a it:Addr) (n:Nat):Turn P w K tg (Itv K a n) [it] it (fun i h=>h.IsRevIter it a ((n:Int) - 1 - (i:Nat))) where
 mem:=by simp
 obj:=fun i h st b hb=>by
  have e:b=it:=by simpa using hb
  subst e;obtain ⟨o,e,c,d⟩:=st;exact ⟨o,e,fun v z=>by rw [d] at z;cases z⟩
 keep:=fun i h h' st k=>st.at fun o e=>k it (by simp) o e
 item:=by
  intro X hP hw hK hc i pins s σ H E I hf st hg;subst hP hw hK;obtain ⟨hi,xs,hq,hx⟩:=hg;obtain ⟨its,rv,p,hz⟩:=I.list hq;have hl:=rv.length;obtain ⟨x,hx'⟩:∃ x,xs[n - 1 - i]?=some x:=⟨_,List.getElem?_eq_getElem (by omega)⟩;obtain ⟨u,hu,ru⟩:=rv.get hx';obtain ⟨f0,f1,f2,f3,f4,f5⟩:=hf it (by simp);have e1:(n:Int) - 1 - (i:Nat)=((n - 1 - i:Nat):Int):=by omega
  rw [e1] at st;refine wpAny_pyNext_rev_item st p.isList (x:=u) (by simpa using hu) fun h' st' sb=>?_;have I1:Inv X pins σ H { s with heap:=h' }:=I.turned (t':=s.toks) (fun b o hb e=>(sb.2 b hb).trans e) f0 f1 f3 f4 f5;have e2:((n - 1 - i:Nat):Int) - 1=(n:Int) - 1 - ((i+1:Nat):Int):=by omega
  rw [e2] at st';obtain ⟨o,e,c,d⟩:=id st';exact ⟨u,rfl,kg (s:={ s with heap:=h' }) e c d (by decide) ⟨x,H,I1,ru,⟨rfl,fun ys hy=>by rw [I.list_inj hy hq];exact hx'⟩,st',fun b hb=>(hf b hb).1⟩⟩
 done:=by
  intro X hP hw hK hc i pins s σ H E I hf st hg;subst hP hw hK;have hg':i=n:=hg;subst hg';obtain ⟨f0,f1,f2,f3,f4,f5⟩:=hf it (by simp);rw [show (i:Int) - 1 - (i:Nat)=-1 by omega] at st;exact wpAny_pyNext_rev_end (I.ok.hd hc) st fun h' eb=>⟨rfl,I.turned (t':=s.toks) (fun b o hb e=>eb b o hb e) f0 f1 f3 f4 f5⟩
 self:=fun _ _ _ _ _ st h=>wpAny_pyIter_revIter st h
def xX (K:PySem.W.Frag) (tl:TE):TI:=fun σ H R=>tl σ H fun x H1=>∃ a xs,x=.ref a/\SqL K H1 a xs/\R (Itv K a xs.length) H1
theorem wM {tg:Expr} (g2:Gl X "reversed") (m2:X.mg "reversed"=none) (he:PE X e te) (h2:starEach [e] X.env=[(false,eval e X.env)]:=by rfl):PI X tg (.Call (.Name "reversed" p2) [e] [] pos2) (xX X.K te):=by
 intro pins s σ H R I h;refine wpAny_Call_Name_kw (gW I g2 m2 boot_reversed (PyProof.Rows.callWith_type1 ?_ h2 rfl));rw [h2];show wpAny _ _ (spliced ((false,eval e X.env)::[])) _ _ s;refine Calls.spliced_cons (thn (he pins s σ H _ I h) fun u s1 ⟨x,H1,I1,r1,a,ys,ex,hq,q⟩=>Calls.spliced_nil ?_);subst ex;cases r1;obtain ⟨its,rv,p,hz⟩:=I1.list hq;have hl:=rv.length;refine call_reversed_list p.isList ?_
 have hit:(s1.heap.push (revObj a ((its.toArray.size:Int) - 1))).IsRevIter s1.heap.objs.size a ((ys.length:Int) - 1 - ((0:Nat):Int)):=by
  rw [hl,show (its.length:Int) - 1 - ((0:Nat):Int)=(its.toArray.size:Int) - 1 by rw [List.size_toArray];omega];exact ⟨_,Heap.get?_push_size _ rfl,rfl,rfl⟩
 refine wpAny_pyIter_revIter (s:={ s1 with heap:=s1.heap.push (revObj a ((its.toArray.size:Int) - 1)) }) hit ?_;refine ⟨s1.heap.objs.size,[s1.heap.objs.size],_,_,H1,rfl,I1.kept (t':=s1.toks) fun b o e=>Heap.get?_push_of_some _ e,t6 a _ ys.length,hit,fun b hb=>?_,q⟩;have e:b=s1.heap.objs.size:=by simpa using hb
 subst e;exact I1.fpOk (Nat.le_refl _) (I1.hok.fresh (Nat.le_refl _))
theorem uD {K:PySem.W.Frag} {a:Addr} {xs:List V} {g:TG} {tb:TS} {D:Ends} {σ:St} {H:Hp} (Pv:Nat->St->Hp->Prop) (h0:Pv 0 σ H) (hl:∀ i σ H,i<=xs.length->Pv i σ H->SqL K H a xs)
 (hs:∀ i x σ H,i<xs.length->xs[xs.length - 1 - i]?=some x->Pv i σ H->g x σ H fun σ2 H2=>tb { D with nx:=Pv (i+1),ct:=Pv (i+1),bk:=D.nx } σ2 H2) (hd:∀ σ H,Pv xs.length σ H->D.nx σ H) :
 ∃ W:Nat->Nat->St->Hp->Prop,(∃ m,W 0 m σ H)/\∀ i m σ H,W i m σ H →
   ((Itv K a xs.length).stop i H/\D.nx σ H)∨((Itv K a xs.length).go i H/\∃ N:St->Hp->Prop,(∀ σ' H',N σ' H'->∃ m',m'<m/\W (i+1) m' σ' H')/\∀ x H',(Itv K a xs.length).yld i H x H'->g x σ H' fun σ2 H2=>tb { D with nx:=N,ct:=N,bk:=D.nx } σ2 H2):=by
 refine ⟨fun i m σ H=>i<=xs.length/\m=xs.length - i/\Pv i σ H,⟨xs.length,Nat.zero_le _,rfl,h0⟩,?_⟩;rintro i m σ H ⟨hi,rfl,p⟩;by_cases h:i=xs.length
 · left;exact ⟨h,hd σ H (by rw [<- h];exact p)⟩
 · right;have hi':i<xs.length:=by omega
   refine ⟨⟨hi',xs,hl i σ H hi p,rfl⟩,Pv (i+1),fun σ' H' q=>⟨xs.length - (i+1),by omega,by omega,rfl,q⟩,?_⟩;rintro x H' ⟨rfl,hx⟩;exact hs i x σ H' hi' (hx xs (hl i σ H' hi p)) p
end
end L2
namespace BB
open PySem L2
inductive Th where
 | knot (n:Str) (ks:List Th)
 | call (s k:Int)
def q:Str:=Str.ofString "?"
def Th.kids:Th->List Th
 | .knot _ ks=>ks
 | .call _ _=>[]
mutual
def Th.size:Th->Nat
 | .knot _ ks=>aw ks+1
 | .call _ _=>1
def aw:List Th->Nat
 | []=>0
 | t::ts=>t.size+aw ts
end
mutual
def Th.tall:Th->Nat
 | .knot _ ks=>aI ks+1
 | .call _ _=>1
def aI:List Th->Nat
 | []=>0
 | t::ts=>max t.tall (aI ts)
end
mutual
/-- by places ascending -/
def Th.walk:Th->List Th
 | .knot n ks=>.knot n ks::walks ks
 | .call s k=>[.call s k]
def walks:List Th->List Th
 | []=>[]
 | t::ts=>t.walk++walks ts
end
theorem Th.walk_eq (t:Th):t.walk=t::walks t.kids:=by
 cases t with
 | knot n ks=>rw [Th.walk];rfl
 | call s k=>rw [Th.walk];simp [Th.kids,walks]
theorem Th.size_eq (t:Th):t.size=aw t.kids+1:=by
 cases t with
 | knot n ks=>rw [Th.size];rfl
 | call s k=>rw [Th.size];simp [Th.kids,aw]
theorem Th.tall_eq (t:Th):t.tall=aI t.kids+1:=by
 cases t with
 | knot n ks=>rw [Th.tall];rfl
 | call s k=>rw [Th.tall];simp [Th.kids,aI]
theorem eY:∀ a b:List Th,walks (a++b)=walks a++walks b
 | [],b=>by simp [walks]
 | t::a,b=>by rw [List.cons_append,walks,walks,eY a b,List.append_assoc]
theorem ba:∀ a b:List Th,aw (a++b)=aw a+aw b
 | [],b=>by simp [aw]
 | t::a,b=>by rw [List.cons_append,aw,aw,ba a b,Nat.add_assoc]
mutual
theorem Th.walk_len:∀ t:Th,t.walk.length=t.size
 | .knot n ks=>by rw [Th.walk,Th.size,List.length_cons,f9 ks]
 | .call s k=>by rw [Th.walk,Th.size];rfl
theorem f9:∀ ts:List Th,(walks ts).length=aw ts
 | []=>rfl
 | t::ts=>by rw [walks,aw,List.length_append,t.walk_len,f9 ts]
end
theorem Th.size_pos (t:Th):1<=t.size:=by rw [t.size_eq];omega
mutual
def At (H:Hp):Th->Addr->Prop
 | .knot n ks,a=>n≠q/\∃ as:List Addr,H a=some (.tup (.str n::as.map V.ref))/\Ats H ks as
 | .call s k,a=>H a=some (.tup [.str q,.int s,.int k])
def Ats (H:Hp):List Th->List Addr->Prop
 | [],as=>as=[]
 | t::ts,as=>∃ a r,as=a::r/\At H t a/\Ats H ts r
end
def KT (H H':Hp):Prop:=∀ b xs,H b=some (.tup xs)->H' b=some (.tup xs)
theorem KT.trans {H H1 H2:Hp} (a:KT H H1) (b:KT H1 H2):KT H H2:=fun c o h=>b c o (a c o h)
theorem Same.kt {H H':Hp} (h:L2.Same H H'):KT H H':=fun b xs e=>h b _ e
theorem fD {H:Hp} {l:Addr} {o:HO} (h:H l=none):KT H (upd H l o):=fun b xs e=>by rw [ak (ao e h)];exact e
theorem bc {H:Hp} {l:Addr} {o:HO} {xs:List V} (h:H l=some (.lst xs)):KT H (upd H l o):=fun b ys e=>by rw [ak (cK e h (by intro z;cases z))];exact e
mutual
theorem At.mono {H H':Hp} (k:KT H H'):∀ {t:Th} {a:Addr},At H t a->At H' t a
 | .knot n ks,a,h=>by
   rw [At] at h ⊢;obtain ⟨h0,as,h1,h2⟩:=h;exact ⟨h0,as,k _ _ h1,Ats.mono k h2⟩
 | .call s c,a,h=>by
   rw [At] at h ⊢;exact k _ _ h
theorem Ats.mono {H H':Hp} (k:KT H H'):∀ {ts:List Th} {as:List Addr},Ats H ts as->Ats H' ts as
 | [],as,h=>by rw [Ats] at h ⊢;exact h
 | t::ts,as,h=>by
   rw [Ats] at h ⊢;obtain ⟨a,r,e,h1,h2⟩:=h;exact ⟨a,r,e,At.mono k h1,Ats.mono k h2⟩
end
theorem Ats.nil {H:Hp}:Ats H [] []:=by rw [Ats]
theorem Ats.cons {H:Hp} {t:Th} {ts:List Th} {a:Addr} {as:List Addr} (h1:At H t a) (h2:Ats H ts as):Ats H (t::ts) (a::as):=by rw [Ats];exact ⟨a,as,rfl,h1,h2⟩
theorem Ats.append {H:Hp}:∀ {ts us:List Th} {as bs:List Addr},Ats H ts as->Ats H us bs->Ats H (ts++us) (as++bs)
 | [],us,as,bs,h,g=>by rw [Ats] at h;subst h;exact g
 | t::ts,us,as,bs,h,g=>by
   rw [Ats] at h;obtain ⟨a,r,rfl,h1,h2⟩:=h;exact .cons h1 (h2.append g)
theorem Ats.length {H:Hp}:∀ {ts:List Th} {as:List Addr},Ats H ts as->as.length=ts.length
 | [],as,h=>by rw [Ats] at h;subst h;rfl
 | t::ts,as,h=>by
   rw [Ats] at h;obtain ⟨a,r,rfl,h1,h2⟩:=h;rw [List.length_cons,List.length_cons,h2.length]
theorem Ats.get {H:Hp}:∀ {ts:List Th} {as:List Addr} {i:Nat} {a:Addr},Ats H ts as->as[i]?=some a->∃ t,ts[i]?=some t/\At H t a
 | [],as,i,a,h,e=>by rw [Ats] at h;subst h;simp at e
 | t::ts,as,i,a,h,e=>by
   rw [Ats] at h;obtain ⟨b,r,rfl,h1,h2⟩:=h;cases i with
   | zero=>simp at e;subst e;exact ⟨t,rfl,h1⟩
   | succ i=>exact h2.get (i:=i) (by simpa using e)
theorem Ats.at {H:Hp}:∀ {ts:List Th} {as:List Addr} {i:Nat} {t:Th},Ats H ts as->ts[i]?=some t->∃ a,as[i]?=some a/\At H t a
 | [],as,i,a,h,e=>by simp at e
 | t::ts,as,i,a,h,e=>by
   rw [Ats] at h;obtain ⟨b,r,rfl,h1,h2⟩:=h;cases i with
   | zero=>simp at e;subst e;exact ⟨b,rfl,h1⟩
   | succ i=>exact h2.at (i:=i) (by simpa using e)
end BB
namespace BB
open PySem L2
end BB
namespace BB
open PySem L2
theorem at_nonneg {α:Type} {xs:List α} {i:Int} {v:α} (h0:0<=i) (h:xs[i.toNat]?=some v):atI xs i=some v:=by
 have e:i=((i.toNat:Nat):Int):=by omega
 rw [e];exact cP h
def Low (x:Str):Prop:=∀ c∈x.cps.toList,97<=c/\c<=122
theorem my {x:Str} (h:Low x) (lo hi:Option Int):Low (cw x lo hi):=by
 intro c hc;have hc':c∈jN x.cps.toList lo hi:=by simpa [cw] using hc
 exact h c (List.mem_of_mem_drop (List.mem_of_mem_take hc'))
theorem qy {x y:Str} (hx:Low x) (hy:Low y):Low (x++y):=by
 intro c hc;have hc':c∈(x.cps++y.cps).toList:=hc;rw [Array.toList_append,List.mem_append] at hc';rcases hc' with h | h
 · exact hx c h
 · exact hy c h
theorem uH {c:Nat} (h1:97<=c) (h2:c<=122):Low ⟨#[c]⟩:=by
 intro d hd;have:d=c:=by simpa using hd
 omega
theorem sg {x:Str} (h:Low x):x≠q:=by
 intro e;subst e;have:=h 63 (by decide +kernel);omega
end BB
namespace L2
open PySem PySem.Spec PyProof.Rows
theorem Same.seqT {K:PySem.W.Frag} {H H':Hp} {a:Addr} {xs:List V} (e:Same H H') (h:SqT K H a xs):SqT K H' a xs:=by
 rcases h with (h | ⟨o,h⟩) | h
 · exact .inl (.inl (e _ _ h))
 · exact .inl (.inr ⟨o,e _ _ h⟩)
 · exact .inr h
theorem af {H:Hp} {p:Addr} (h:H p=none) (o:HO):Same H (upd H p o):=fun b u q=>by rw [ak (ao q h)];exact q
theorem aF {H H1:Hp} {l:Addr} {o:HO} (h:Same H H1) (n:H l=none):Same H (upd H1 l o):=fun b u e=>by rw [ak (ao e n)];exact h b u e
theorem uE {α:Type} {js:List (Option Nat)} {tt:TT} {te:TE} {σ:St} {J:It} {H:Hp} {xs:List V} {fin:Addr->Hp->Prop} (zs:List α) (p:α->Bool) (f:α->V) (hz:zs.length=xs.length) (hn:xs.length<=1000000)
 (hgo:∀ i H2,Same H H2->i<xs.length->J.go i H2) (hstop:∀ H2,Same H H2->J.stop xs.length H2) (hyld:∀ (i:Nat) H2 x H3,Same H H2->i<xs.length->J.yld i H2 x H3->H3=H2/\xs[i]?=some x)
 (htt:∀ (i:Nat) x z H2 (R:Bool->Hp->Prop),xs[i]?=some x->zs[i]?=some z->Same H H2->R (p z) H2->tt ((cσ js σ).set 0 (some x)) H2 R)
 (hte:∀ (i:Nat) x z H2 (R:VK),xs[i]?=some x->zs[i]?=some z->p z=true->Same H H2->R (f z) H2->te ((cσ js σ).set 0 (some x)) H2 R)
 (q:∀ D,H D=none->fin D (upd H D (.lst ((zs.filter p).map f)))) :
 ∀ D,H D=none->∃ (n:Nat) (W:Nat->Hp->Prop),W 0 (upd H D (.lst []))/\ft js (aH 0) tt te σ J D n W fun H'=>fin D H':=by
 intro D hD;refine ⟨xs.length,fun i H2=>i<=xs.length/\H2=upd H D (.lst (((zs.take i).filter p).map f)),⟨Nat.zero_le _,by simp⟩,?_⟩;rintro i H2 ⟨hi,rfl⟩;have sm:∀ o,Same H (upd H D o):=fun o=>af hD o;by_cases h:i=xs.length
 · left;subst h;refine ⟨hstop _ (sm _),?_⟩;rw [<- hz,List.take_length];exact q D hD
 · right;have hi':i<xs.length:=by omega
   refine ⟨hi',hgo i _ (sm _) hi',fun x H1 hy=>?_⟩;obtain ⟨rfl,hx⟩:=hyld i _ x H1 (sm _) hi' hy;have hzi:i<zs.length:=by omega
   have e1:zs[i]?=some zs[i]:=List.getElem?_eq_getElem hzi
   have e2:(zs.take (i+1)).filter p=(zs.take i).filter p++(if p zs[i]=true then [zs[i]] else []):=by
    rw [List.take_add_one,e1,List.filter_append];show _++List.filter p [zs[i]]=_;rw [List.filter_cons,List.filter_nil]
   refine htt i x zs[i] _ _ hx e1 (sm _) ?_
   have hlen:(((zs.take i).filter p).map f).length<=1000000:=by
    rw [List.length_map];have:=List.length_filter_le p (zs.take i);rw [List.length_take] at this;omega
   by_cases hp:p zs[i]=true
   · rw [if_pos hp];refine hte i x zs[i] _ _ hx e1 hp (sm _) ⟨_,ad,Nat.lt_of_le_of_lt hlen (by decide),hi',?_⟩;rw [ul,e2,if_pos hp,List.map_append];rfl
   · rw [if_neg hp];refine ⟨hi',?_⟩;rw [e2,if_neg hp,List.append_nil]
theorem oO {α:Type} {K:PySem.W.Frag} {a:Addr} {js:List (Option Nat)} {tt:TT} {te:TE} {σ:St} {H:Hp} {xs:List V} {fin:Addr->Hp->Prop} (zs:List α) (p:α->Bool) (f:α->V) (hS:SqT K H a xs) (hz:zs.length=xs.length) (hn:xs.length<=1000000)
 (htt:∀ (i:Nat) x z H2 (R:Bool->Hp->Prop),xs[i]?=some x->zs[i]?=some z->Same H H2->R (p z) H2->tt ((cσ js σ).set 0 (some x)) H2 R)
 (hte:∀ (i:Nat) x z H2 (R:VK),xs[i]?=some x->zs[i]?=some z->p z=true->Same H H2->R (f z) H2->te ((cσ js σ).set 0 (some x)) H2 R)
 (q:∀ D,H D=none->fin D (upd H D (.lst ((zs.filter p).map f)))) :
 ∀ D,H D=none->∃ (n:Nat) (W:Nat->Hp->Prop),W 0 (upd H D (.lst []))/\ft js (aH 0) tt te σ (Itt K a) D n W fun H'=>fin D H' :=
 uE zs p f hz hn (fun i H2 s hi=>⟨xs,xs[i],s.seqT hS,List.getElem?_eq_getElem hi⟩) (fun H2 s=>⟨xs,s.seqT hS,Nat.le_refl _⟩) (fun i H2 x H3 s hi hy=>⟨hy.1,hy.2 xs (s.seqT hS)⟩) htt hte q
end L2
namespace BB
open PySem L2
theorem at0 {α:Type} {x:α} {xs:List α}:atI (x::xs) 0=some x:=cP (j:=0) rfl
theorem at1 {α:Type} {x y:α} {xs:List α}:atI (x::y::xs) 1=some y:=cP (j:=1) rfl
theorem at2 {α:Type} {x y z:α} {xs:List α}:atI (x::y::z::xs) 2=some z:=cP (j:=2) rfl
theorem sS (x:V) (xs:List V):d7 (x::xs) (some 1) none=xs:=by
 unfold d7;simp [HT.sIx]
theorem cz:∀ ts:List Th,ts.length<=aw ts
 | []=>Nat.zero_le _
 | t::ts=>by
   have:=t.size_pos;have:=cz ts;rw [List.length_cons,aw];omega
theorem l8 (ts:List Th):aw ts.reverse=aw ts:=by
 induction ts with
 | nil=>rfl
 | cons x xs ih=>rw [List.reverse_cons,ba,ih,aw,aw,aw];omega
theorem aD {n:Nat} (h:n<=1000000):n<sizeLine:=Nat.lt_of_le_of_lt h (by decide)
theorem al {n:Nat} (h:n<=1000000):n<=sizeLine:=Nat.le_of_lt (aD h)
theorem int_at {ns:List Int} {k:Int} (h0:0<=k) (h:k<(ns.length:Int)):atI (ns.map V.int) k=some (.int (ns.getD k.toNat 0)):=by
 refine at_nonneg h0 ?_;have hk:k.toNat<ns.length:=by omega
 rw [List.getElem?_map,List.getElem?_eq_getElem hk,List.getD_eq_getElem?_getD,List.getElem?_eq_getElem hk];rfl
end BB
namespace BB
open PySem L2
section
variable {α β:Type} {F G:α->β->Prop}
theorem P2.append:∀ {a c:List α} {b d:List β},Paired F a b->Paired F c d->Paired F (a++c) (b++d)
 | _,_,_,_,.nil,h=>h
 | _,_,_,_,.cons r t,h=>.cons r (P2.append t h)
theorem P2.get:∀ {a:List α} {b:List β} {i:Nat} {x:α},Paired F a b->a[i]?=some x->∃ y,b[i]?=some y/\F x y
 | _,_,_,_,.nil,e=>by simp at e
 | _,_,0,_,.cons r _,e=>by simp at e;subst e;exact ⟨_,rfl,r⟩
 | _,_,i+1,x,.cons _ t,e=>by
   obtain ⟨u,h1,h2⟩:=P2.get (i:=i) (x:=x) t (by simpa using e);exact ⟨u,by simpa using h1,h2⟩
theorem P2.get':∀ {a:List α} {b:List β} {i:Nat} {y:β},Paired F a b->b[i]?=some y->∃ x,a[i]?=some x/\F x y
 | _,_,_,_,.nil,e=>by simp at e
 | _,_,0,_,.cons r _,e=>by simp at e;subst e;exact ⟨_,rfl,r⟩
 | _,_,i+1,y,.cons _ t,e=>by
   obtain ⟨u,h1,h2⟩:=P2.get' (i:=i) (y:=y) t (by simpa using e);exact ⟨u,by simpa using h1,h2⟩
theorem P2.mp (f:∀ x y,F x y->G x y):∀ {a:List α} {b:List β},Paired F a b->Paired G a b
 | _,_,.nil=>.nil
 | _,_,.cons r t=>.cons (f _ _ r) (P2.mp f t)
end
def KAt (H:Hp) (k:Str×Int) (a:Addr):Prop:=H a=some (.tup [.str k.1,.int k.2])
def KsAt (H:Hp) (ks:List (Str×Int)) (as:List Addr):Prop:=Paired (KAt H) ks as
theorem KsAt.mono {H H':Hp} (k:KT H H') {ks:List (Str×Int)} {as:List Addr} (h:KsAt H ks as):KsAt H' ks as:=P2.mp (fun x y e=>k _ _ e) h
end BB
namespace L2
open PySem
theorem bJ {t u:TS} {D:Ends} {σ:St} {H:Hp} (R:St->Hp->Prop) (h1:∀ k:St->Hp->Prop,(∀ σ' H',R σ' H'->k σ' H')->t { D with nx:=k } σ H) (h2:∀ σ' H',R σ' H'->u D σ' H'):xz t u D σ H:=h1 _ h2
theorem d8 {c:TT} {t u:TS} {D:Ends} {σ:St} {H:Hp} (R:Bool->Hp->Prop) (h1:∀ k:Bool->Hp->Prop,(∀ b H',R b H'->k b H')->c σ H k) (h2:∀ H',R true H'->t D σ H') (h3:∀ H',R false H'->u D σ H'):wQ c t u D σ H :=
 h1 _ fun b H' r=>by
  cases b with
  | true=>rw [if_pos rfl];exact h2 H' r
  | false=>rw [if_neg Bool.false_ne_true];exact h3 H' r
end L2
namespace BB
open PySem L2
section
variable {ext:Th->List V} {H H':Hp} {t:Th} {a:Addr} {ts:List Th} {es:List Addr}
end
theorem ii:∀ {ts:List Th} {t:Th},t∈ts->t.tall<=aI ts
 | u::ts,t,h=>by
   rw [aI];rcases List.mem_cons.mp h with rfl | h
   · omega
   · have:=ii h;omega
theorem take_snoc {α:Type} {xs:List α} {n:Nat} {x:α} (h:xs[n]?=some x):xs.take (n+1)=xs.take n++[x]:=by rw [List.take_add_one,h];rfl
theorem aP {xs:List Addr} {i:Nat} {x:V} (h:(xs.map V.ref)[i]?=some x):∃ a,x=.ref a/\xs[i]?=some a:=by
 rw [List.getElem?_map] at h;obtain ⟨a,h1,h2⟩:=Option.map_eq_some_iff.mp h;exact ⟨a,h2.symm,h1⟩
end BB
namespace PySem
open Sem (wp)
section
variable {prog:Program} {w:World} {A:Around} {E:Value->Shared->Prop} {s:Shared}
theorem bb_tupNext {cur tp:Addr} {i:Nat} {items:Array Value} {x:Value} {Q:Value->Shared->Prop} (g:s.heap.IsTupleIter cur tp i) (gt:s.heap.IsTuple tp items) (hx:items[i]?=some x)
 (fin:∀ h',h'.IsTupleIter cur tp (i+1)->Heap.SameBut cur s.heap h'->Q x { s with heap:=h' }):wpAny (model prog w) A (Builtin.SmallTypes.nextOf (.ref cur)) Q E s:=by
 obtain ⟨ob,e1,e2,e3⟩:=id g;obtain ⟨ot,e4,_,nt,e5⟩:=gt;unfold Builtin.SmallTypes.nextOf;refine wpAny_bind (wpAny_callSpecial?_slot (name:=Str.ofString "__next__") g.typeIs F.slot_tuple_iterator_next (wpAny_call_entry F.slot_tuple_iterator_next g.typeIs F.entry_tuple_iterator_next ?_ (F.args_tuple_iterator_next_1 _)));show wpAny _ _ (field (.ref cur) 0 >>= _) _ _ s;refine wpAny_bind (wpAny_field e1 e3 (x:=.ref tp) rfl ?_);show wpAny _ _ (if (Value.ref tp == Value.none)=true then _ else _) _ _ s;rw [if_neg (show ¬ ((Value.ref tp == Value.none)=true) from Bool.false_ne_true)];show wpAny _ _ (field (.ref cur) 1 >>= _) _ _ s;refine wpAny_bind (wpAny_field e1 e3 (x:=.int i 0) rfl ?_);show wpAny _ _ (seqItems? (.ref tp) >>= _) _ _ s;refine wpAny_bind (wpAny_seqItems e4 e5 ?_);simp only [Int.toNat_natCast,hx];refine wpAny_bind (wpAny_setField e1 e3 (by simp) (wpAny_pure ⟨x,rfl,wpAny_pure (fin _ ?_ (Heap.SameBut.update ..))⟩));exact ⟨_,Heap.get?_update_self _ e1 (Obj.isFreed_of_fields (Obj.data_mapFields e3 _)),(Obj.cls_mapFields ..).trans e2,by rw [Obj.data_mapFields e3];simp [rawInt]⟩
theorem bb_tupEnd {cur tp:Addr} {i:Nat} {items:Array Value} {Q:Value->Shared->Prop} (calm:A.handled=none) (g:s.heap.IsTupleIter cur tp i) (gt:s.heap.IsTuple tp items) (hx:items[i]?=none)
 (fin:∀ h' e,Heap.ExtBut cur s.heap h'->(∃ o,h'.get? e=some o/\o.cls=.type "StopIteration")->E (.ref e) { s with heap:=h' }):wpAny (model prog w) A (Builtin.SmallTypes.nextOf (.ref cur)) Q E s:=by
 obtain ⟨ob,e1,e2,e3⟩:=id g;obtain ⟨ot,e4,_,nt,e5⟩:=gt;unfold Builtin.SmallTypes.nextOf;refine wpAny_bind (wpAny_callSpecial?_slot (name:=Str.ofString "__next__") g.typeIs F.slot_tuple_iterator_next (wpAny_call_entry F.slot_tuple_iterator_next g.typeIs F.entry_tuple_iterator_next ?_ (F.args_tuple_iterator_next_1 _)));show wpAny _ _ (field (.ref cur) 0 >>= _) _ _ s;refine wpAny_bind (wpAny_field e1 e3 (x:=.ref tp) rfl ?_);show wpAny _ _ (if (Value.ref tp == Value.none)=true then _ else _) _ _ s;rw [if_neg (show ¬ ((Value.ref tp == Value.none)=true) from Bool.false_ne_true)];show wpAny _ _ (field (.ref cur) 1 >>= _) _ _ s;refine wpAny_bind (wpAny_field e1 e3 (x:=.int i 0) rfl ?_);show wpAny _ _ (seqItems? (.ref tp) >>= _) _ _ s;refine wpAny_bind (wpAny_seqItems e4 e5 ?_);simp only [Int.toNat_natCast,hx];refine wpAny_bind (wpAny_rule (wpAny_bind (wpAny_setField e1 e3 (by simp) ?_)));show wpAny _ _ (newExc (.type "StopIteration") [] >>= _) _ _ _;refine wpAny_bind ?_;simp only [newExc,newTuple];refine wpAny_bind (wpAny_newObj_type ?_ (by size_fits));refine wpAny_bind (m:=firstArgMember _ _) (wpAny_of_eq (a:=Value.none) (by first | rfl | (simp only [firstArgMember];rfl)) ?_);refine wpAny_newObj_type ?_ (by size_fits);simp only [raiseNew];refine wpAny_bind (wpAny_handled ?_)
 first | rw [show A.in1.handled=none from calm] | rw [calm]
 refine wpAny_bind (wpAny_pure (wpAny_throw ?_));exact fin _ _ (((Heap.SameBut.update ..).extBut.push _).push _) ⟨_,Heap.get?_push_size _ rfl,rfl⟩
end
section
variable {prog:Program} {w:World} {A:Around} {E:Value->Shared->Prop} {s:Shared}
end
end PySem
namespace L2
open PySem PySem.Spec PyProof.Rows
theorem Inv.turnedL {X:Cx} {pins:List (Addr×Obj)} {σ:St} {H:Hp} {s:Shared} {h':Heap} {t':Nat} {fp:List Addr} (I:Inv X pins σ H s) (k:∀ b o,b∉fp->s.heap.get? b=some o->h'.get? b=some o) (hf:∀ b∈fp,jc X pins H b) :
 Inv X pins σ H { s with heap:=h',toks:=t' }:=by
 have nit:∀ b u,H b=some u->b∉fp:=fun b u e z=>by rw [(hf b z).1] at e;cases e
 refine I.step (g':=s.gens) (d':=s.drawn) (ch:=fp) (fun b hb=>?_) (fun b o _ _ hc e _=>k b o hc e) (fun b o _ _ hc e _=>⟨o.slots,k b o hc e⟩) (fun _ _ _ _ n=>n)
  (fun b o hc e=>⟨o,k b o hc e⟩) (fun _ _ e=>e) (fun _ _ _ e=>e) (fun b ps e=>⟨#[],by rw [e];simp⟩) (fun m hm=>?_) (fun b u e=>?_) I.bare
 · obtain ⟨f0,f1,f2,f3,f4,f5⟩:=hf b hb;exact ⟨f3,f1,f4,f5⟩
 · obtain ⟨o,es,ep,ho,r⟩:=hm;exact ⟨o,es,ep,k _ o (fun z=>(hf _ z).2.1 rfl) ho,r⟩
 · refine (I.hok b u e).stay (fun c v hc q=>k c v ?_ q) (fun _ q=>q) fun _ _ q=>q;rcases hc with z | z
   · rw [z];exact nit b u e
   · exact nit c _ z
section
variable {X:Cx} {e:Expr} {te:TE} {p2 pos2:Pos}
inductive sk (K:PySem.W.Frag) (x:V) (y:V) (H:Hp) (Q:VK):Prop
 | mk (a:_) (b:_) (xs:_) (ys:_) (zz0:x=.ref a) (zz1:y=.ref b) (zz2:SqT K H a xs) (zz3:SqT K H b ys) (zz4:xs.length+ys.length<=sizeLine) (zz5:(xs=[]->Q (.ref b) H)) (zz6:(xs≠[]->ys=[]->Q (.ref a) H)) (zz7:(xs≠[]->ys≠[]->∀ p,H p=none->Q (.ref p) (upd H p (.tup (xs++ys))))):sk K x y H Q
def vq (K:PySem.W.Frag):R2:=sk K
theorem jZ:OpR X (binaryOp .Add) (vq X.K):=by
 intro pins s σ H x y v u Q I rx ry h;obtain ⟨a,b,xs,ys,e1,e2,ha,hb,hz,q0,q1,q2⟩:=h;by_cases hx:xs=[]
 · subst e1 e2;cases rx;cases ry;obtain ⟨its,r1,p1,_⟩:=I.tuple ha;obtain ⟨its2,r2,p2,_⟩:=I.tuple hb;have hi:its=[]:=r1.nil_iff.mpr hx;obtain ⟨⟨cls,dd,data,sl⟩,ho,hc,n,hd⟩:=p1;obtain ⟨⟨cls2,dd2,data2,sl2⟩,ho2,hc2,n2,hd2⟩:=p2;simp only at hc hd hc2 hd2;subst hc hd hc2 hd2;exact concat_meets ⟨_,ho,rfl⟩ ⟨_,ho2,rfl⟩ noFill_tuple_add seq_tuple_add PySem.F.slot_tuple_add PySem.F.entry_tuple_add (PySem.F.args_tuple_add_2 _ _) (tuple_addW0 a b its.toArray its2.toArray n n2 dd dd2 sl sl2 (by simp [hi])) ⟨ho,ho2,⟨.ref b,H,I,rfl,q0 hx⟩⟩
 · exact ui pins s σ H x y v u Q I rx ry ⟨a,b,xs,ys,e1,e2,ha,hb,hx,hz,q1 hx,q2 hx⟩
end
end L2
namespace PySem
open Sem (wp)
abbrev tzH1 (h:Heap) (l1:Addr):Heap:=h.push { cls:=.type "tuple_iterator",data:=.fields #[.ref l1,.int 0 0] }
abbrev tzH2 (h:Heap) (l1 l2:Addr):Heap:=(tzH1 h l1).push { cls:=.type "tuple_iterator",data:=.fields #[.ref l2,.int 0 0] }
abbrev tzH3 (h:Heap) (l1 l2:Addr):Heap:=(tzH2 h l1 l2).push { cls:=.type "tuple",data:=.seq #[.ref h.objs.size,.ref (tzH1 h l1).objs.size] }
abbrev tzH4 (h:Heap) (l1 l2:Addr):Heap:=(tzH3 h l1 l2).push { cls:=.type "tuple",data:=.seq #[.none,.none] }
abbrev tzH5 (h:Heap) (l1 l2:Addr):Heap:=(tzH4 h l1 l2).push { cls:=.type "zip",data:=.fields #[.none,.bool false,.bool false,.ref (tzH2 h l1 l2).objs.size,.ref (tzH3 h l1 l2).objs.size] }
theorem IsTuple.push' {h:Heap} {l:Addr} {xs:Array Value} (x:h.IsTuple l xs) (o:Obj):(h.push o).IsTuple l xs:=let ⟨ob,e,r⟩:=x;⟨ob,Heap.get?_push_of_some _ e,r⟩
theorem bb_meets_zip (l1 l2:Addr) (xs ys:Array Value) :
 Meets (Builtin.«zip.__new__» ⟨[.type "zip",.ref l1,.ref l2],[]⟩) (fun _ R s=>s.heap.IsTuple l1 xs/\s.heap.IsTuple l2 ys ∧
  R (.ok (.ret (.ref (tzH4 s.heap l1 l2).objs.size))) { s with heap:=tzH5 s.heap l1 l2 }) :=
 .of_wp fun prog w A R s h=>by
  obtain ⟨hp,g,d,tk,os⟩:=s;obtain ⟨hl1,hl2,h⟩:=h;have hsub:=sub_zip;have hL1:Heap.IsTuple (Shared.heap ⟨hp,g,d,tk,os⟩) l1 xs:=hl1;have hL2:Heap.IsTuple (Shared.heap ⟨hp.push { cls:=.type "tuple_iterator",data:=.fields #[.ref l1,.int 0 0] },g,d,tk,os⟩) l2 ys:=IsTuple.push' hl2 _
  wp_walk using wpAny_pyIter_tuple hL1,wpAny_pyIter_tuple hL2
  exact ⟨_,rfl,h⟩
section
variable {prog:Program} {w:World} {A:Around} {E:Value->Shared->Prop} {s:Shared}
theorem bb_call_zip {l1 l2:Addr} {xs ys:Array Value} {Q:Value->Shared->Prop} (hl1:s.heap.IsTuple l1 xs) (hl2:s.heap.IsTuple l2 ys)
 (h:∀ h',IsZip h' (s.heap.objs.size+4) (s.heap.objs.size+2) (s.heap.objs.size+3) .none->IsPair h' (s.heap.objs.size+2) (.ref s.heap.objs.size) (.ref (s.heap.objs.size+1)) →
  IsPair h' (s.heap.objs.size+3) .none .none->h'.IsTupleIter s.heap.objs.size l1 0->h'.IsTupleIter (s.heap.objs.size+1) l2 0->h'.objs.size=s.heap.objs.size+5 →
  (∀ c o,s.heap.get? c=some o->h'.get? c=some o)->Q (.ref (s.heap.objs.size+4)) { s with heap:=h' }) :
 wpAny (model prog w) A (call (.type "zip") [.ref l1,.ref l2]) Q E s:=by
 refine callType_new F.called_zip (by decide) (F.typeCall_zip_2 _ _) (F.newCall_zip_2 _ _) (fun obj=>F.args_object_init_3 obj _ _) F.entry_zip_new
  (bb_meets_zip l1 l2 xs ys) ⟨hl1,hl2,?_⟩
 have z1:(tzH1 s.heap l1).objs.size=s.heap.objs.size+1:=Heap.size_push ..;have z2:(tzH2 s.heap l1 l2).objs.size=s.heap.objs.size+2:=by rw [Heap.size_push,z1]
 have z3:(tzH3 s.heap l1 l2).objs.size=s.heap.objs.size+3:=by rw [Heap.size_push,z2]
 have z4:(tzH4 s.heap l1 l2).objs.size=s.heap.objs.size+4:=by rw [Heap.size_push,z3]
 have z5:(tzH5 s.heap l1 l2).objs.size=s.heap.objs.size+5:=by rw [Heap.size_push,z4]
 have g5:(tzH5 s.heap l1 l2).get? (tzH4 s.heap l1 l2).objs.size=some _:=Heap.get?_push_size _ rfl;have g4:(tzH5 s.heap l1 l2).get? (tzH3 s.heap l1 l2).objs.size=some _:=Heap.get?_push_of_some _ (Heap.get?_push_size _ rfl);have g3:(tzH5 s.heap l1 l2).get? (tzH2 s.heap l1 l2).objs.size=some _:=Heap.get?_push_of_some _ (Heap.get?_push_of_some _ (Heap.get?_push_size _ rfl));have g2:(tzH5 s.heap l1 l2).get? (tzH1 s.heap l1).objs.size=some _:=Heap.get?_push_of_some _ (Heap.get?_push_of_some _ (Heap.get?_push_of_some _ (Heap.get?_push_size _ rfl)));have g1:(tzH5 s.heap l1 l2).get? s.heap.objs.size=some _:=Heap.get?_push_of_some _ (Heap.get?_push_of_some _ (Heap.get?_push_of_some _ (Heap.get?_push_of_some _ (Heap.get?_push_size _ rfl))));show _/\_;rw [z2,z3,z4] at g5;rw [z1,z2] at g3;rw [z3] at g4;rw [z1] at g2;rw [z4]
 exact ⟨⟨_,g5,rfl⟩,h _ g5 g3 g4 ⟨_,g1,rfl,rfl⟩ ⟨_,g2,rfl,rfl⟩ z5 fun c o x =>
  Heap.get?_push_of_some _ (Heap.get?_push_of_some _ (Heap.get?_push_of_some _ (Heap.get?_push_of_some _ (Heap.get?_push_of_some _ x))))⟩
structure ZSt (xs ys:Array Value) (z TI TO i1 i2 l1 l2:Addr) (k:Nat) (h:Heap):Prop where
 ap:ZipApart z TI TO i1 i2 l1 l2
 zip:IsZip h z TI TO .none∨∃ (T:Addr) (b:Bool) (x y:Value),h.get? z=some { cls:=.type "zip",data:=.fields #[rawInt T,.bool b,.bool false,.ref TI,.ref TO] }/\IsPair h T x y/\T≠TO
 hTI:IsPair h TI (.ref i1) (.ref i2)
 hTO:∃ a b,IsPair h TO a b
 h1:h.IsTupleIter i1 l1 k
 h2:h.IsTupleIter i2 l2 k
 t1:h.IsTuple l1 xs
 t2:h.IsTuple l2 ys
theorem ZSt.typeIs {xs ys:Array Value} {z TI TO i1 i2 l1 l2:Addr} {k:Nat} (x:ZSt xs ys z TI TO i1 i2 l1 l2 k s.heap):s.TypeIs (.ref z) "zip":=by
 rcases x.zip with e | ⟨T,b,u,v,e,_⟩
 · exact ⟨_,e,rfl⟩
 · exact ⟨_,e,rfl⟩
theorem IsTuple.but {h h':Heap} {c l:Addr} {xs:Array Value} (x:h.IsTuple l xs) (e:Heap.ExtBut c h h') (n:l≠c):h'.IsTuple l xs:=let ⟨ob,q,r⟩:=x;⟨ob,e _ _ n q,r⟩
theorem IsTupleIter.but {h h':Heap} {c i l:Addr} {k:Nat} (x:h.IsTupleIter i l k) (e:Heap.ExtBut c h h') (n:i≠c):h'.IsTupleIter i l k:=let ⟨ob,q,r⟩:=x;⟨ob,e _ _ n q,r⟩
end
end PySem
namespace PySem
open Sem (wp)
section
variable {prog:Program} {w:World} {A:Around} {E:Value->Shared->Prop} {s:Shared}
theorem bb_zip_itemA {z TI TO i1 i2 l1 l2:Addr} {k:Nat} {xs ys:Array Value} {x y a b:Value} {Q:Value->Shared->Prop} (D:ZipApart z TI TO i1 i2 l1 l2)
 (hz:IsZip s.heap z TI TO .none) (hTI:IsPair s.heap TI (.ref i1) (.ref i2)) (hTO:IsPair s.heap TO a b)
 (h1:s.heap.IsTupleIter i1 l1 k) (h2:s.heap.IsTupleIter i2 l2 k) (hl1:s.heap.IsTuple l1 xs) (hl2:s.heap.IsTuple l2 ys) (hx:xs[k]?=some x) (hy:ys[k]?=some y)
 (hQ:∀ h',IsZip h' z TI TO (rawInt s.heap.objs.size)->IsPair h' TO x y->h'.IsTupleIter i1 l1 (k+1)->h'.IsTupleIter i2 l2 (k+1)->IsPair h' s.heap.objs.size x y->h'.objs.size=s.heap.objs.size+1 →
  (∀ c o,c≠z->c≠TO->c≠i1->c≠i2->s.heap.get? c=some o->h'.get? c=some o)->Q (.ref s.heap.objs.size) { s with heap:=h' }) :
 wpAny (model prog w) A (Builtin.«zip.__next__» ⟨[.ref z],[]⟩) (fun fin s'=>∃ v,fin=.done (.ret v)/\Q v s') E s:=by
 show wpAny _ _ (field (.ref z) 2 >>= _) _ _ _;refine wpAny_bind (wpAny_field hz rfl (x:=.bool false) rfl ?_);show wpAny _ _ (field (.ref z) 3 >>= _) _ _ _;refine wpAny_bind (wpAny_field hz rfl (x:=.ref TI) rfl ?_);refine wpAny_bind (wpAny_seqItems hTI rfl ?_);show wpAny _ _ (Builtin.SmallTypes.ownedTupleIsFree (.ref z) >>= _) _ _ _;refine wpAny_bind ?_;unfold Builtin.SmallTypes.ownedTupleIsFree;refine wpAny_bind (wpAny_field hz rfl (x:=.none) rfl (wpAny_pure ?_));simp only [if_true];refine wpAny_bind (wpAny_rule ?_);refine wpAny_bind (wpAny_field hz rfl (x:=.ref TO) rfl ?_);refine wpAny_bind (wpAny_setField_rec hz (by simp) fun h₁ hz₁ hs₁=>?_);replace hz₁:IsZip h₁ z TI TO .ellipsis:=hz₁;refine wpAny_bind ?_;simp only [List.zipIdx_cons,List.zipIdx_nil,List.forIn_cons,List.forIn_nil];refine wpAny_bind (wpAny_bind (wpAny_onRaise ?_));show wpAny _ _ (Builtin.SmallTypes.nextOf (.ref i1) >>= _) _ _ _;refine wpAny_bind (bb_tupNext (IsTupleIter.but h1 hs₁.extBut D.i1z) (IsTuple.but hl1 hs₁.extBut D.l1z) hx fun h₂ h1₂ hs₂=>wpAny_pure ?_);have hTO₂:IsPair h₂ TO a b:=hs₂.extBut _ _ D.TOi1 (hs₁.extBut _ _ D.TOz hTO);refine wpAny_bind (wpAny_seqItems hTO₂ rfl ?_);refine wpAny_bind (wpAny_updateSeq_pair hTO₂ fun h₃ hTO₃ hs₃=>?_);replace hTO₃:IsPair h₃ TO x b:=hTO₃;refine wpAny_bind (wpAny_letGo (wpAny_pure ?_));refine wpAny_bind (wpAny_bind (wpAny_onRaise ?_));show wpAny _ _ (Builtin.SmallTypes.nextOf (.ref i2) >>= _) _ _ _
 refine wpAny_bind (bb_tupNext (IsTupleIter.but (IsTupleIter.but (IsTupleIter.but h2 hs₁.extBut D.i2z) hs₂.extBut D.i12.symm) hs₃.extBut D.TOi2.symm)
  (IsTuple.but (IsTuple.but (IsTuple.but hl2 hs₁.extBut D.l2z) hs₂.extBut D.l2i1) hs₃.extBut D.l2TO) hy fun h₄ h2₄ hs₄=>wpAny_pure ?_)
 have hTO₄:IsPair h₄ TO x b:=hs₄.extBut _ _ D.TOi2 hTO₃;refine wpAny_bind (wpAny_seqItems hTO₄ rfl ?_);refine wpAny_bind (wpAny_updateSeq_pair hTO₄ fun h₅ hTO₅ hs₅=>?_);replace hTO₅:IsPair h₅ TO x y:=hTO₅;refine wpAny_bind (wpAny_letGo (wpAny_pure (wpAny_pure ?_)));refine wpAny_bind (wpAny_seqItems hTO₅ rfl ?_);refine wpAny_bind (wpAny_newTuple ?_);have hsz:h₅.objs.size=s.heap.objs.size:=by rw [hs₅.1,hs₄.1,hs₃.1,hs₂.1,hs₁.1]
 have hz₅:IsZip h₅ z TI TO .ellipsis:=hs₅.extBut _ _ D.TOz.symm (hs₄.extBut _ _ D.i2z.symm (hs₃.extBut _ _ D.TOz.symm (hs₂.extBut _ _ D.i1z.symm hz₁)))
 have hk₅:∀ c o,c≠z->c≠TO->c≠i1->c≠i2->s.heap.get? c=some o->h₅.get? c=some o:=fun c o c1 c2 c3 c4 e =>
  hs₅.extBut _ _ c2 (hs₄.extBut _ _ c4 (hs₃.extBut _ _ c2 (hs₂.extBut _ _ c3 (hs₁.extBut _ _ c1 e))))
 have h1₅:h₅.IsTupleIter i1 l1 (k+1):=IsTupleIter.but (IsTupleIter.but (IsTupleIter.but h1₂ hs₃.extBut D.TOi1.symm) hs₄.extBut D.i12) hs₅.extBut D.TOi1.symm;have h2₅:h₅.IsTupleIter i2 l2 (k+1):=IsTupleIter.but h2₄ hs₅.extBut D.TOi2.symm;have hzlt:z<h₅.objs.size:=Heap.lt_size hz₅;show wpAny _ _ (Builtin.SmallTypes.ownedTupleHandOut (.ref z) (.ref h₅.objs.size) >>= _) _ _ _;refine wpAny_bind ?_;unfold Builtin.SmallTypes.ownedTupleHandOut;have hz₆:IsZip (h₅.push { cls:=.type "tuple",data:=.seq #[x,y] }) z TI TO .ellipsis:=Heap.get?_push_of_some _ hz₅;refine wpAny_bind (wpAny_setField_rec hz₆ (by simp) fun h₇ hz₇ hs₇=>?_);replace hz₇:IsZip h₇ z TI TO (rawInt h₅.objs.size):=hz₇;refine wpAny_setField_rec hz₇ (by simp) fun h₈ hz₈ hs₈=>?_;replace hz₈:IsZip h₈ z TI TO (rawInt h₅.objs.size):=hz₈;have up:∀ c o,c≠z->h₅.get? c=some o->h₈.get? c=some o:=fun c o c1 e=>hs₈.extBut _ _ c1 (hs₇.extBut _ _ c1 (Heap.get?_push_of_some _ e));have hT₈:IsPair h₈ h₅.objs.size x y:=hs₈.extBut _ _ (Nat.ne_of_gt hzlt) (hs₇.extBut _ _ (Nat.ne_of_gt hzlt) (Heap.get?_push_size _ rfl));have hz8:h₈.objs.size=h₅.objs.size+1:=by rw [hs₈.1,hs₇.1,Heap.size_push]
 rw [hsz] at hz₈ hT₈ hz8;refine wpAny_pure ⟨_,rfl,?_⟩;show Q (.ref h₅.objs.size) _;rw [hsz];refine hQ h₈ hz₈ (up _ _ D.TOz hTO₅) ?_ ?_ hT₈ hz8 fun c o c1 c2 c3 c4 e=>up c o c1 (hk₅ c o c1 c2 c3 c4 e)
 · obtain ⟨o,e,r⟩:=h1₅;exact ⟨o,up _ o D.i1z e,r⟩
 · obtain ⟨o,e,r⟩:=h2₅;exact ⟨o,up _ o D.i2z e,r⟩
theorem bb_loadIfAlive {a:Addr} {o:Obj} {Q:Option Obj->Shared->Prop} (hQ:∀ u,some o=some u->Q (some u) s) (h:s.heap.get? a=some o):wpAny (model prog w) A (loadIfAlive a) Q E s:=by
 intro Γ p hΓ;show Sem.wp _ _ (.loadIfAlive a .pure) _ _ _ _;rw [Sem.wp_loadIfAlive,h];exact hQ o rfl
theorem bb_notfree {z T:Addr} {b:Bool} {f2 TI TO u v:Value} (hz:s.heap.get? z=some { cls:=.type "zip",data:=.fields #[rawInt T,.bool b,f2,TI,TO] }) (hT:IsPair s.heap T u v) :
 wpAny (model prog w) A (Builtin.SmallTypes.ownedTupleIsFree (.ref z)) (fun a s1=>a=false/\∃ h₁,s1={ s with heap:=h₁ }/\h₁.get? z=some { cls:=.type "zip",data:=.fields #[rawInt T,.bool true,f2,TI,TO] }/\Heap.SameBut z s.heap h₁) E s:=by
 unfold Builtin.SmallTypes.ownedTupleIsFree;refine wpAny_bind (wpAny_field hz rfl (x:=rawInt T) rfl ?_);show wpAny _ _ (loadIfAlive (T:Int).toNat >>= _) _ _ _;rw [Int.toNat_natCast];refine wpAny_bind (bb_loadIfAlive (fun o (e:some _=some o)=>?_) hT);cases e;show wpAny _ _ (if (some _:Option Obj).isNone=true then _ else _) _ _ _;rw [if_neg (show ¬ ((some _:Option Obj).isNone=true) from Bool.false_ne_true)];refine wpAny_bind (wpAny_field hz rfl (x:=.bool b) rfl ?_);cases b with
 | true=>exact wpAny_pure ⟨rfl,s.heap,rfl,hz,rfl,fun _ _=>rfl⟩
 | false=>exact wpAny_bind (wpAny_setField_rec hz (by simp) fun h₁ hz₁ hs₁=>wpAny_pure ⟨rfl,h₁,rfl,hz₁,hs₁⟩)
theorem bb_zip_end {z TI TO i1 i2 l1 l2:Addr} {k:Nat} {xs ys:Array Value} {Q:Fin->Shared->Prop} (hh:A.handled=none)
 (S:ZSt xs ys z TI TO i1 i2 l1 l2 k s.heap) (hend:xs[k]?=none∨ys[k]?=none)
 (hE:∀ h' e,(∀ c o,c≠z->c≠TO->c≠i1->c≠i2->s.heap.get? c=some o->h'.get? c=some o)->(∃ o,h'.get? e=some o/\o.cls=.type "StopIteration")->E (.ref e) { s with heap:=h' }) :
 wpAny (model prog w) A (Builtin.«zip.__next__» ⟨[.ref z],[]⟩) Q E s:=by
 obtain ⟨D,hz,hTI,⟨a,b,hTO⟩,h1,h2,hl1,hl2⟩:=S;rcases hz with hz | ⟨T,bb,u,v,hz,hT,hTT⟩
 · show wpAny _ _ (field (.ref z) 2 >>= _) _ _ _;refine wpAny_bind (wpAny_field hz rfl (x:=.bool false) rfl ?_);show wpAny _ _ (field (.ref z) 3 >>= _) _ _ _;refine wpAny_bind (wpAny_field hz rfl (x:=.ref TI) rfl ?_);refine wpAny_bind (wpAny_seqItems hTI rfl ?_);show wpAny _ _ (Builtin.SmallTypes.ownedTupleIsFree (.ref z) >>= _) _ _ _;refine wpAny_bind ?_;unfold Builtin.SmallTypes.ownedTupleIsFree;refine wpAny_bind (wpAny_field hz rfl (x:=.none) rfl (wpAny_pure ?_));simp only [if_true];refine wpAny_bind (wpAny_rule ?_);refine wpAny_bind (wpAny_field hz rfl (x:=.ref TO) rfl ?_);refine wpAny_bind (wpAny_setField_rec hz (by simp) fun h₁ hz₁ hs₁=>?_);replace hz₁:IsZip h₁ z TI TO .ellipsis:=hz₁;refine wpAny_bind ?_;simp only [List.zipIdx_cons,List.zipIdx_nil,List.forIn_cons,List.forIn_nil];refine wpAny_bind (wpAny_bind (wpAny_onRaise ?_));show wpAny _ _ (Builtin.SmallTypes.nextOf (.ref i1) >>= _) _ _ _;cases hx:xs[k]? with
   | none =>
     refine wpAny_bind (bb_tupEnd hh (IsTupleIter.but h1 hs₁.extBut D.i1z) (IsTuple.but hl1 hs₁.extBut D.l1z) hx fun h₂ e hs₂ he=>?_);obtain ⟨oe,hoe,hce⟩:=he;have hz₂:IsZip h₂ z TI TO .ellipsis:=hs₂ _ _ D.i1z.symm hz₁;have hez:e≠z:=fun x=>by subst x;rw [hz₂] at hoe;cases hoe;simp at hce
     refine wpAny_setField_rec hz₂ (by simp) fun h₃ _ hs₃=>hE h₃ e (fun c o c1 _ c3 _ x=>hs₃.extBut _ _ c1 (hs₂ _ _ c3 (hs₁.extBut _ _ c1 x))) ⟨oe,hs₃.extBut _ _ hez hoe,hce⟩
   | some x =>
     have hy:ys[k]?=none:=by rcases hend with h | h;rw [hx] at h;cases h;exact h
     refine wpAny_bind (bb_tupNext (IsTupleIter.but h1 hs₁.extBut D.i1z) (IsTuple.but hl1 hs₁.extBut D.l1z) hx fun h₂ h1₂ hs₂=>wpAny_pure ?_);have hTO₂:IsPair h₂ TO a b:=hs₂.extBut _ _ D.TOi1 (hs₁.extBut _ _ D.TOz hTO);refine wpAny_bind (wpAny_seqItems hTO₂ rfl ?_);refine wpAny_bind (wpAny_updateSeq_pair hTO₂ fun h₃ hTO₃ hs₃=>?_);refine wpAny_bind (wpAny_letGo (wpAny_pure ?_));refine wpAny_bind (wpAny_bind (wpAny_onRaise ?_));show wpAny _ _ (Builtin.SmallTypes.nextOf (.ref i2) >>= _) _ _ _
     refine wpAny_bind (bb_tupEnd hh (IsTupleIter.but (IsTupleIter.but (IsTupleIter.but h2 hs₁.extBut D.i2z) hs₂.extBut D.i12.symm) hs₃.extBut D.TOi2.symm)
      (IsTuple.but (IsTuple.but (IsTuple.but hl2 hs₁.extBut D.l2z) hs₂.extBut D.l2i1) hs₃.extBut D.l2TO) hy fun h₄ e hs₄ he=>?_)
     obtain ⟨oe,hoe,hce⟩:=he;have hz₄:IsZip h₄ z TI TO .ellipsis:=hs₄ _ _ D.i2z.symm (hs₃.extBut _ _ D.TOz.symm (hs₂.extBut _ _ D.i1z.symm hz₁));have hez:e≠z:=fun x=>by subst x;rw [hz₄] at hoe;cases hoe;simp at hce
     refine wpAny_setField_rec hz₄ (by simp) fun h₅ _ hs₅=>hE h₅ e (fun c o c1 c2 c3 c4 x=>hs₅.extBut _ _ c1 (hs₄ _ _ c4 (hs₃.extBut _ _ c2 (hs₂.extBut _ _ c3 (hs₁.extBut _ _ c1 x))))) ⟨oe,hs₅.extBut _ _ hez hoe,hce⟩
 · show wpAny _ _ (field (.ref z) 2 >>= _) _ _ _;refine wpAny_bind (wpAny_field hz rfl (x:=.bool false) rfl ?_);show wpAny _ _ (field (.ref z) 3 >>= _) _ _ _;refine wpAny_bind (wpAny_field hz rfl (x:=.ref TI) rfl ?_);refine wpAny_bind (wpAny_seqItems hTI rfl ?_);show wpAny _ _ (Builtin.SmallTypes.ownedTupleIsFree (.ref z) >>= _) _ _ _;refine wpAny_bind (wpAny_mono (bb_notfree hz hT) (fun a s1 ⟨e1,h₁,e2,hz₁,hs₁⟩=>?_) fun _ _ x=>x);subst e1 e2;simp only [Bool.false_eq_true,if_false];rw [<- Array.forIn_toList];refine wpAny_bind ?_;simp only [List.forIn_cons,List.forIn_nil];refine wpAny_bind (wpAny_bind (wpAny_holding ?_));show wpAny _ _ (Builtin.SmallTypes.nextOf (.ref i1) >>= _) _ _ _;cases hx:xs[k]? with
   | none =>
     refine wpAny_bind (bb_tupEnd hh (IsTupleIter.but h1 hs₁.extBut D.i1z) (IsTuple.but hl1 hs₁.extBut D.l1z) hx fun h₂ e hs₂ he=>?_);exact hE h₂ e (fun c o c1 _ c3 _ x=>hs₂ _ _ c3 (hs₁.extBut _ _ c1 x)) he
   | some x =>
     have hy:ys[k]?=none:=by rcases hend with h | h;rw [hx] at h;cases h;exact h
     refine wpAny_bind (bb_tupNext (IsTupleIter.but h1 hs₁.extBut D.i1z) (IsTuple.but hl1 hs₁.extBut D.l1z) hx fun h₂ h1₂ hs₂=>wpAny_pure (wpAny_pure ?_));refine wpAny_bind (wpAny_bind (wpAny_holding ?_));show wpAny _ _ (Builtin.SmallTypes.nextOf (.ref i2) >>= _) _ _ _;refine wpAny_bind (bb_tupEnd hh (IsTupleIter.but (IsTupleIter.but h2 hs₁.extBut D.i2z) hs₂.extBut D.i12.symm) (IsTuple.but (IsTuple.but hl2 hs₁.extBut D.l2z) hs₂.extBut D.l2i1) hy fun h₄ e hs₄ he=>?_);exact hE h₄ e (fun c o c1 _ c3 c4 x=>hs₄ _ _ c4 (hs₂.extBut _ _ c3 (hs₁.extBut _ _ c1 x))) he
theorem bb_zip_done {z TI TO i1 i2 l1 l2:Addr} {k:Nat} {xs ys:Array Value} {Q:Option Value->Shared->Prop} (hh:A.handled=none) (S:ZSt xs ys z TI TO i1 i2 l1 l2 k s.heap) (hend:xs[k]?=none∨ys[k]?=none)
 (hQ:∀ h',(∀ c o,c∉[z,TO,i1,i2]->s.heap.get? c=some o->h'.get? c=some o)->Q none { s with heap:=h' }):wpAny (model prog w) A (pyNext (.ref z)) Q E s:=by
 have hT:=S.typeIs;unfold pyNext
 refine wpAny_bind (wpAny_attempt (wpAny_callSpecial?_slot (name:=Str.ofString "__next__") hT F.slot_zip_next
  (wpAny_call_entry F.slot_zip_next hT F.entry_zip_next (bb_zip_end hh S hend fun h' e hk he=>?_) (F.args_zip_next_1 _))))
 obtain ⟨o,ho,hc⟩:=he;refine wpAny_bind (wpAny_isInstance (T:="StopIteration") (b:=true) ⟨o,ho,hc⟩ isSubtype_stop ?_);exact wpAny_pure (hQ _ fun c o hc=>hk c o (fun q=>hc (by simp [q])) (fun q=>hc (by simp [q])) (fun q=>hc (by simp [q])) (fun q=>hc (by simp [q])))
end
end PySem
namespace PySem
open Sem (wp)
namespace F
end F
section
variable {prog:Program} {w:World} {A:Around} {R:Result->Shared->Prop}
end
section
variable {prog:Program} {w:World} {A:Around} {E:Value->Shared->Prop} {s:Shared}
end
end PySem
namespace L2
open PySem PySem.Spec PyProof.Rows
section
variable {X:Cx} {e1 e2:Expr} {t:TA} {p p2 pos pos2:Pos}
end
end L2
namespace L2
open PySem PySem.Spec PyProof.Rows
section
variable {κ:Type} [DecidableEq κ]
def bE (kvs:List (κ×V)) (k:κ):Option V:=(kvs.find? fun kv=>decide (kv.1=k)).map (·.2)
def putK (kvs:List (κ×V)) (k:κ) (v:V):List (κ×V) :=
 if (kvs.any fun kv=>decide (kv.1=k))=true then kvs.map (fun kv=>if kv.1=k then (kv.1,v) else kv) else kvs++[(k,v)]
theorem bz {p:κ×V} {r:List (κ×V)} {k:κ} (e:p.1=k):bE (p::r) k=some p.2:=by simp [bE,List.find?_cons,e]
theorem bC {p:κ×V} {r:List (κ×V)} {k:κ} (e:¬ p.1=k):bE (p::r) k=bE r k:=by simp [bE,List.find?_cons,e]
theorem eV (k:κ):∀ kvs:List (κ×V),(kvs.any fun kv=>decide (kv.1=k))=(bE kvs k).isSome
 | []=>rfl
 | p::r=>by
   rw [List.any_cons];by_cases e:p.1=k
   · simp only [bz e,decide_eq_true e,Bool.true_or,Option.isSome_some]
   · rw [bC e,decide_eq_false e,Bool.false_or];exact eV k r
theorem o6 (k j:κ) (y:V):∀ kvs:List (κ×V),bE (kvs.map fun kv=>if kv.1=k then (kv.1,y) else kv) j=(bE kvs j).map fun x=>if j=k then y else x
 | []=>rfl
 | p::r=>by
   have ih:=o6 k j y r;rw [List.map_cons];by_cases h:p.1=k
   · rw [if_pos h];by_cases e:p.1=j
     · rw [bz (p:=(p.1,y)) e,bz e,Option.map_some,if_pos (e.symm.trans h)]
     · rw [bC (p:=(p.1,y)) e,bC e,ih]
   · rw [if_neg h];by_cases e:p.1=j
     · rw [bz (p:=p) e,bz e,Option.map_some,if_neg (fun z=>h (e.trans z))]
     · rw [bC (p:=p) e,bC e,ih]
theorem lW (k j:κ) (y:V):∀ kvs:List (κ×V),bE kvs k=none->bE (kvs++[(k,y)]) j=if j=k then some y else bE kvs j
 | [],_=>by
   by_cases e:k=j
   · rw [if_pos e.symm];exact bz (p:=(k,y)) e
   · rw [if_neg (fun z=>e z.symm)];exact bC (p:=(k,y)) e
 | p::r,hn=>by
   rw [List.cons_append];have hk:¬ p.1=k:=fun z=>by rw [bz z] at hn;cases hn
   rw [bC hk] at hn;have ih:=lW k j y r hn;by_cases e:p.1=j
   · rw [bz e,bz e,if_neg (fun z=>hk (e.trans z))]
   · rw [bC e,bC e,ih]
theorem oS (kvs:List (κ×V)) (k j:κ) (y:V):bE (putK kvs k y) j=if j=k then some y else bE kvs j:=by
 unfold putK;by_cases a:(kvs.any fun kv=>decide (kv.1=k))=true
 · rw [if_pos a,o6];rw [eV] at a;by_cases e:j=k
   · obtain ⟨x,hx⟩:=Option.isSome_iff_exists.mp a;rw [if_pos e,e,hx,Option.map_some,if_pos rfl]
   · rw [if_neg e];cases bE kvs j with
     | none=>rfl
     | some x=>rw [Option.map_some,if_neg e]
 · rw [if_neg a];refine lW k j y kvs ?_;rw [eV] at a;cases q:bE kvs k with
   | none=>rfl
   | some x=>rw [q] at a;exact (a rfl).elim
theorem b7 (kvs:List (κ×V)) (k:κ) (v:V):(putK kvs k v).length<=kvs.length+1:=by
 unfold putK;split
 · rw [List.length_map];omega
 · rw [List.length_append,List.length_cons,List.length_nil];omega
theorem lp {kvs:List (κ×V)} {k:κ} (v:V) (h:bE kvs k=none):putK kvs k v=kvs++[(k,v)]:=by
 unfold putK;rw [eV,h];exact if_neg (by decide)
theorem RelO.isSome_eq {o:Option V} {u:Option Value} (r:RelO o u):o.isSome=u.isSome:=by
 cases o with
 | none=>cases u with
   | none=>rfl
   | some _=>exact (show False from r).elim
 | some _=>cases u with
   | none=>exact (show False from r).elim
   | some _=>rfl
theorem KV.val {kvs:List (κ×V)} {vs:List (κ×Value)} (r:KV kvs vs) (k:κ):RelO (bE kvs k) (valueAt vs k):=by
 unfold KV at r;induction r with
 | nil=>exact True.intro
 | @cons p q ps qs h t ih =>
   obtain ⟨h1,h2⟩:=h;by_cases e:p.1=k
   · have e':q.1=k:=h1.symm.trans e;have b:valueAt (q::qs) k=some q.2:=by simp [valueAt,List.find?_cons,e']
     rw [bz e,b];exact h2
   · have e':¬ q.1=k:=fun z=>e (h1.trans z);have b:valueAt (q::qs) k=valueAt qs k:=by simp [valueAt,List.find?_cons,e']
     rw [bC e,b];exact ih
theorem KV.any {kvs:List (κ×V)} {vs:List (κ×Value)} (r:KV kvs vs) (k:κ):(kvs.any fun kv=>decide (kv.1=k))=vs.any fun kv=>decide (kv.1=k):=by
 unfold KV at r;induction r with
 | nil=>rfl
 | cons h t ih=>rw [List.any_cons,List.any_cons,ih,h.1]
theorem KV.repl {kvs:List (κ×V)} {vs:List (κ×Value)} (r:KV kvs vs) (k:κ) {y:V} {u:Value} (ry:RelV y u) :
 KV (kvs.map fun kv=>if kv.1=k then (kv.1,y) else kv) (vs.map fun kv=>if kv.1=k then (kv.1,u) else kv):=by
 unfold KV at r ⊢;induction r with
 | nil=>exact .nil
 | @cons p q ps qs h t ih =>
   rw [List.map_cons,List.map_cons];refine .cons ?_ ih;obtain ⟨h1,h2⟩:=h;by_cases e:p.1=k
   · rw [if_pos e,if_pos (h1.symm.trans e)];exact ⟨h1,ry⟩
   · rw [if_neg e,if_neg (fun z=>e (h1.trans z))];exact ⟨h1,h2⟩
theorem KV.put {kvs:List (κ×V)} {vs:List (κ×Value)} (r:KV kvs vs) (k:κ) {y:V} {u:Value} (ry:RelV y u):KV (putK kvs k y) (stored vs k u):=by
 unfold putK stored;rw [r.any k];by_cases e:(vs.any fun kv=>decide (kv.1=k))=true
 · rw [if_pos e,if_pos e];exact r.repl k ry
 · rw [if_neg e,if_neg e];exact Paired.snoc r ⟨rfl,ry⟩
theorem KV.length {kvs:List (κ×V)} {vs:List (κ×Value)} (r:KV kvs vs):kvs.length=vs.length:=Paired.length r
end
theorem nR {P:Program} {w:World} {k:Key} {u:Value} (r:RelV (kV k) u):(az P w).is k u=true:=by
 cases k with
 | inl i=>obtain ⟨t,e⟩:=(show ∃ t,u=Value.int i t from r);subst e;exact og P w i t
 | inr x=>obtain ⟨t,e⟩:=(show ∃ t,u=Value.str x t from r);subst e;exact ox P w x t
theorem mn {P:Program} {w:World}:∀ {ks:List Key} {us:List Value},Vals (ks.map kV) us->ItemsAre (az P w) ks us
 | [],_,r=>by rw [List.map_nil] at r;cases r;exact .nil
 | k::ks,_,r=>by
   rw [List.map_cons] at r;cases r with
   | cons h t=>exact .cons (nR h) (mn t)
abbrev KTd (H:Hp):List (List Key×V)->List (List Key×Addr×Value)->Prop:=Paired fun p q=>p.1=q.1/\H q.2.1=some (.tup (p.1.map kV))/\RelV p.2 q.2.2
theorem KTd.val {H:Hp} {kvs:List (List Key×V)} {xs:List (List Key×Addr×Value)} (r:KTd H kvs xs) (k:List Key):RelO (bE kvs k) ((atKey xs k).map (·.2)):=by
 induction r with
 | nil=>exact True.intro
 | @cons p q ps qs h t ih =>
   obtain ⟨h1,_,h2⟩:=h;by_cases e:p.1=k
   · have e':q.1=k:=h1.symm.trans e;have b:atKey (q::qs) k=some q.2:=by simp [atKey,List.find?_cons,e']
     rw [bz e,b];exact h2
   · have e':¬ q.1=k:=fun z=>e (h1.trans z);have b:atKey (q::qs) k=atKey qs k:=by simp [atKey,List.find?_cons,e']
     rw [bC e,b];exact ih
theorem KTd.repl {H:Hp} {kvs:List (List Key×V)} {xs:List (List Key×Addr×Value)} (r:KTd H kvs xs) (k:List Key) {y:V} {u:Value} (ry:RelV y u) :
 KTd H (kvs.map fun kv=>if kv.1=k then (kv.1,y) else kv) (xs.map (putAt k u)):=by
 induction r with
 | nil=>exact .nil
 | @cons p q ps qs h t ih =>
   rw [List.map_cons,List.map_cons];refine .cons ?_ ih;obtain ⟨h1,h2,h3⟩:=h;unfold putAt;by_cases e:p.1=k
   · rw [if_pos e,if_pos (h1.symm.trans e)];exact ⟨h1,h2,ry⟩
   · rw [if_neg e,if_neg (fun z=>e (h1.trans z))];exact ⟨h1,h2,h3⟩
theorem KTd.put {H:Hp} {kvs:List (List Key×V)} {xs:List (List Key×Addr×Value)} (r:KTd H kvs xs) (k:List Key) {b:Addr} {y:V} {u:Value} (hb:H b=some (.tup (k.map kV))) (ry:RelV y u) :
 KTd H (putK kvs k y) (storedH xs k b u):=by
 have e:(kvs.any fun kv=>decide (kv.1=k))=(atKey xs k).isSome:=by
  rw [eV,(r.val k).isSome_eq,Option.isSome_map]
 unfold putK storedH;rw [e];by_cases q:(atKey xs k).isSome=true
 · rw [if_pos q,if_pos q];exact r.repl k ry
 · rw [if_neg q,if_neg q];exact Paired.snoc r ⟨rfl,hb,ry⟩
theorem KTd.keeps {H H':Hp} {kvs:List (List Key×V)} {xs:List (List Key×Addr×Value)} (r:KTd H kvs xs) (ht:∀ b ys,H b=some (.tup ys)->H' b=some (.tup ys)):KTd H' kvs xs :=
 Paired.mapP r fun _ _ z=>⟨z.1,ht _ _ z.2.1,z.2.2⟩
section
variable {P:Program} {w:World} {H:Hp} {h:Heap} {a:Addr}
theorem vz {u:HO} (ok:HOk P w H h) (e:Rd H a u):ObjOk P w H h a u:=e.ok ok
theorem qf {kvs:List (Key×V)} (ok:HOk P w H h) (e:Rd H a (.dK kvs)):kvs.length<=sizeLine/\(a == sysModules)=false/\∃ vs,KV kvs vs/\h.DictOf (az P w) a vs :=
 show ObjOk P w H h a (.dK kvs) from vz ok e
theorem rR {kvs:List (Key×V)} (ok:HOk P w H h) (e:H a=some (.dK kvs)):kvs.length<=sizeLine/\(a == sysModules)=false/\∃ vs,KV kvs vs/\h.DictOf (az P w) a vs:=qf ok (.inl e)
theorem kU {ks:List Key} (ok:HOk P w H h) (e:H a=some (.tup (ks.map kV))):(tupleKind (az P w)).is h ks a:=by
 obtain ⟨_,its,n,r,h1⟩:=(show ObjOk P w H h a (.tup (ks.map kV)) from ok a _ e);exact ⟨_,its.toArray,n,h1,rfl,rfl,by simpa using mn r⟩
theorem rP {kvs:List (List Key×V)} (ok:HOk P w H h) (e:Rd H a (.dT kvs)):kvs.length<=sizeLine/\(a == sysModules)=false ∧
 ∃ xs,KTd H kvs xs/\h.DictOfH (tupleKind (az P w)) a xs:=by
 obtain ⟨z,y,xs,r,o,es,ep,h1,h2,h3,h4,h5⟩:=(show ObjOk P w H h a (.dT kvs) from vz ok e);refine ⟨z,y,xs,r,o,es,ep,h1,h2,h3,h4,fun x hx=>?_,h5⟩
 have all:∀ {l:List (List Key×V)} {m:List (List Key×Addr×Value)},KTd H l m->∀ x∈m,(tupleKind (az P w)).is h x.1 x.2.1:=by
  intro l m q;induction q with
  | nil=>intro x hx;exact nomatch hx
  | @cons p q ps qs hq t ih =>
    intro x hx;rcases List.mem_cons.mp hx with e | hx
    · subst e;exact kU ok (by rw [<- hq.1];exact hq.2.1)
    · exact ih x hx
 exact all r x hx
theorem qr {kvs:List (List Key×V)} (ok:HOk P w H h) (e:H a=some (.dT kvs)):kvs.length<=sizeLine/\(a == sysModules)=false ∧
 ∃ xs,KTd H kvs xs/\h.DictOfH (tupleKind (az P w)) a xs:=rP ok (.inl e)
end
def vJ (H:Hp) (a:Addr) (y:V) (r:Option V):Prop :=
 (∃ kvs k,Rd H a (.dK kvs)/\y=kV k/\r=bE kvs k)∨∃ kvs k b,Rd H a (.dT kvs)/\y=.ref b/\H b=some (.tup (k.map kV))/\r=bE kvs k
def DPut (H:Hp) (a:Addr) (y v:V) (H':Hp):Prop :=
 (∃ kvs k,H a=some (.dK kvs)/\y=kV k/\kvs.length<sizeLine/\H'=upd H a (.dK (putK kvs k v))) ∨
 ∃ kvs k b,H a=some (.dT kvs)/\y=.ref b/\H b=some (.tup (k.map kV))/\kvs.length<sizeLine/\H'=upd H a (.dT (putK kvs k v))
theorem DPut.t {H:Hp} {a b:Addr} {kvs:List (List Key×V)} {k:List Key} {v:V} (e:H a=some (.dT kvs)) (eb:H b=some (.tup (k.map kV))) (hl:kvs.length<sizeLine) :
 DPut H a (.ref b) v (upd H a (.dT (putK kvs k v))):=.inr ⟨kvs,k,b,e,rfl,eb,hl,rfl⟩
section
variable {X:Cx} {pins:List (Addr×Obj)} {σ:St} {H:Hp} {s:Shared} {a:Addr} {y v:V} {u r:Value} {o:Option V} {A:Around} {E:Value->Shared->Prop}
theorem Inv.big (I:Inv X pins σ H s):sysModules<s.heap.objs.size:=by
 have h:mainGlobals<s.heap.objs.size:=(I.mod.glob.keeps I.bk).lt;exact Nat.lt_trans (by decide) h
theorem rD {Q:Value->Shared->Prop} (hu:A.units+1<cLine) (I:Inv X pins σ H s) (g:vJ H a y (some v)) (ry:RelV y u) (h:∀ w' s',Inv X pins σ H s'->RelV v w'->Q w' s') :
 wpAny (model X.prog X.w) A (getItem (.ref a) u) Q E s:=by
 rcases g with ⟨kvs,k,e,ey,l⟩ | ⟨kvs,k,b,e,ey,eb,l⟩
 · subst ey;obtain ⟨z,hd,vs,rel,dd⟩:=qf I.hok e;obtain ⟨w',hw,rw'⟩:=RelO.some_of (v:=v) (o:=valueAt vs k) (by rw [l];exact rel.val k);exact wpAny_getItem_of (nR ry) dd.mapOf hw (h w' _ (I.tok _) rw')
 · subst ey;cases (show u=Value.ref b from ry);obtain ⟨z,hd,xs,rel,dd⟩:=rP I.hok e;obtain ⟨w',hw,rw'⟩:=RelO.some_of (v:=v) (o:=(atKey xs k).map (·.2)) (by rw [l];exact rel.val k);obtain ⟨p,hp,hp2⟩:=Option.map_eq_some_iff.mp hw;refine wpAny_getItem_heap (tupleKind_room_in1 hu) (kU I.hok eb) dd hp ?_;rw [hp2];exact h w' _ (I.tok _) rw'
theorem iB {h':Heap} {t':Nat} {ob:HO} (I:Inv X pins σ H s) (mu:Mut (H a)) (hs:Heap.SameBut a s.heap h') (he:∃ q,h'.get? a=some q) (new:ObjOk X.prog X.w (upd H a ob) h' a ob) :
 Inv X pins σ (upd H a ob) { s with heap:=h',toks:=t' } :=
 I.write (x:=a) (e:=a) mu (.inl rfl) (fun b q hb z=>(hs.2 b hb).trans z) he new
theorem vP {P:Program} {w:World} {H':Hp} {h':Heap} {kvs:List (Key×V)} {vs:List (Key×Value)} (z:kvs.length<=sizeLine) (hd:(a == sysModules)=false) (rel:KV kvs vs) (dd:h'.DictOf (az P w) a vs) :
 ObjOk P w H' h' a (.dK kvs):=⟨z,hd,vs,rel,dd⟩
theorem rf {H':Hp} {Q:Unit->Shared->Prop} (hu:A.units+1<cLine) (I:Inv X pins σ H s) (g:DPut H a y v H') (ry:RelV y u) (rv:RelV v r) (h:∀ s',Inv X pins σ H' s'->Q () s') :
 wpAny (model X.prog X.w) A (setItem (.ref a) u r) Q E s:=by
 rcases g with ⟨kvs,k,e,ey,l,eH⟩ | ⟨kvs,k,b,e,ey,eb,l,eH⟩
 · subst ey eH;obtain ⟨z,hd,vs,rel,dd⟩:=rR I.hok e;have hz:vs.length<=sizeLine:=by rw [<- rel.length];exact z
   have hl:(putK kvs k v).length<=sizeLine:=by have:=b7 kvs k v;omega
   refine wpAny_setItem_pairs (hsz:=hz) (nR ry) dd fun h' dd' hs=>h _ ?_;have he:∃ q,h'.get? a=some q:=let ⟨q,_,_,hq,_⟩:=dd';⟨q,hq⟩
   exact iB I (by rw [e];exact True.intro) hs he (vP hl hd (rel.put k rv) dd')
 · subst ey eH;cases (show u=Value.ref b from ry);obtain ⟨z,hd,xs,rel,dd⟩:=qr I.hok e;have hz:xs.length<=sizeLine:=by rw [<- Paired.length rel];exact z
   have hl:(putK kvs k v).length<=sizeLine:=by have:=b7 kvs k v;omega
   refine wpAny_setItem_heap (hsz:=hz) (tupleKind_room_in1 hu) (kU I.hok eb) dd fun h' dd' hs=>h _ ?_;obtain ⟨q,es,ep,hq,h2,h3,h4,_,h5⟩:=dd';refine iB I (by rw [e];exact True.intro) hs ⟨q,hq⟩ ⟨hl,hd,_,(rel.put k eb rv).keeps fun c ys ec=>?_,q,es,ep,hq,h2,h3,h4,h5⟩;rw [ak (cK ec e (fun z=>nomatch z))];exact ec
end
section
variable {X:Cx} {pins:List (Addr×Obj)} {σ:St} {H:Hp} {s:Shared} {a:Addr} {kvs:List (Key×V)} {k:Key} {u:Value} {A:Around} {E:Value->Shared->Prop}
theorem wU {Q:Value->Shared->Prop} (I:Inv X pins σ H s) (e:Rd H a (.dK kvs)) (h:∀ t s',Inv X pins σ H s'->Q (.int kvs.length t) s'):wpAny (model X.prog X.w) A (call (.builtin "len") [.ref a]) Q E s:=by
 obtain ⟨z,hd,vs,rel,dd⟩:=qf I.hok e;refine call_len_dict hd dd (by rw [<- rel.length];rw [sizeLine_eq] at z;omega) ?_;rw [<- rel.length];exact h _ _ (I.tok _)
end
def vZ (i:Expr):Prop:=∀ ov iv,subscripted i false ov iv=operate [ov,iv] (getItem ov iv)
theorem qg {prog:Program} {w:World} {A:Around} {E:Value->Shared->Prop} {s:Shared} {env:Env} {value slice:Expr} {pos:Pos} {T id:String} {Q:Value->Shared->Prop}
 (hl:typeLookup (.type T) "__getitem__"=pure (some (.builtin id))) (hs:vZ slice)
 (h:wpAny (model prog w) A (eval value env) (fun o s₁=>wpAny (model prog w) A (eval slice env) (fun i s₂=>s₂.TypeIs o T/\wpAny (model prog w) A (getItem o i) Q E s₂) E s₁) E s) :
 wpAny (model prog w) A (eval (.Subscript value slice pos) env) Q E s:=by
 refine Subscript_ (wpAny_mono h (fun o s₁ h₁=>wpAny_mono h₁ (fun i s₂ h₂=>?_) fun _ _ x=>x) fun _ _ x=>x);obtain ⟨hT,h₂⟩:=h₂;unfold subscriptTail;refine wpAny_bind ?_;rw [getitemInPython_of_ne hT.not_modules];refine wpAny_bind (wpAny_specialOf hT hl ?_)
 have fin:wpAny (model prog w) A (subscripted slice false o i) (fun r s₃=>wpAny (model prog w) A (letTemporaryGo value o r >>= fun _=>pure r) Q E s₃) E s₂:=by
  rw [hs o i];exact wpAny_operating (wpAny_mono h₂ (fun r s₃ h₃=>wpAny_bind (wpAny_letTemporaryGo (wpAny_pure h₃))) fun _ _ x=>x)
 first
  | exact wpAny_pure (wpAny_bind fin)
  | exact wpAny_bind (wpAny_pure (wpAny_bind fin))
  | exact wpAny_bind fin
theorem oA {X:Cx} {pins:List (Addr×Obj)} {σ:St} {H:Hp} {s:Shared} {a:Addr} {y:V} {o:Option V} (I:Inv X pins σ H s) (g:vJ H a y o):s.TypeIs (.ref a) "dict":=by
 rcases g with ⟨kvs,k,e,_,_⟩ | ⟨kvs,k,b,e,_,_,_⟩
 · obtain ⟨_,_,vs,_,dd⟩:=qf I.hok e;exact dd.typeIs
 · obtain ⟨_,_,xs,_,dd⟩:=rP I.hok e;exact dd.typeIs
def xk (td ty:TE):TE:=fun σ H Q=>td σ H fun x H1=>ty σ H1 fun y H2=>∃ a v,x=.ref a/\vJ H2 a y (some v)/\Q v H2
def xm (td ty tv:TE):TS:=fun D σ H=>tv σ H fun v H1=>td σ H1 fun x H2=>ty σ H2 fun y H3=>∃ a H4,x=.ref a/\DPut H3 a y v H4/\D.nx σ H4
section
variable {X:Cx} {o i e value:Expr} {pos pos' tpos:Pos} {td ty tv:TE}
theorem mW (hu:X.A.units+1<cLine) (ho:PE X o td) (hi:PE X i ty) (hs:vZ i):PE X (.Subscript o i pos) (xk td ty):=by
 intro pins s σ H Q I h;refine qg PySem.F.slot_dict_getitem.lookup hs (thn (ho pins s σ H _ I h) fun u s1 ⟨x,H1,I1,rx,q1⟩=>thn (hi pins s1 σ H1 _ I1 q1) fun iv s2 ⟨y,H2,I2,ry,a,v,ex,g,q2⟩=>?_);subst ex;obtain rfl:u=Value.ref a:=rx;exact ⟨oA I2 g,rD hu I2 g ry fun w' s3 I3 rw'=>⟨v,H2,I3,rw',q2⟩⟩
theorem uB (hu:X.A.units+1<cLine) (ho:PE X o td) (hi:PE X i ty) (hv:PE X value tv) (hs:swapsWith value (some (.Subscript o i pos')) pos.line X.env=pure false) :
 PS X (.Assign [.Subscript o i pos'] value pos) (xm td ty tv):=by
 intro pins s σ H D I h;refine wpAny_Assign_Subscript (thn (hv pins s σ H _ I h) fun r s1 ⟨v,H1,I1,rv,q1⟩=>thn (ho pins s1 σ H1 _ I1 q1) fun u s2 ⟨x,H2,I2,rx,q2⟩=>thn (hi pins s2 σ H2 _ I2 q2) fun iv s3 ⟨y,H3,I3,ry,a,H4,ex,g,q3⟩=>?_) hs;subst ex;obtain rfl:u=Value.ref a:=rx;exact rf hu I3 g ry rv fun s4 I4=>⟨σ,H4,I4,q3⟩
end
theorem sI {P:Program} {w:World} {H:Hp} (h:Heap) (hb:sysModules<h.objs.size):ObjOk P w H (h.push { cls:=.type "dict",data:=.dict #[] }) h.objs.size (.dK []) :=
 ⟨Nat.zero_le _,beq_eq_false_iff_ne.mpr (Ne.symm (Nat.ne_of_lt hb)),[],.nil,Heap.DictOf.new h⟩
theorem sU {P:Program} {w:World} {H:Hp} (h:Heap) (hb:sysModules<h.objs.size):ObjOk P w H (h.push { cls:=.type "dict",data:=.dict #[] }) h.objs.size (.dT []) :=
 ⟨Nat.zero_le _,beq_eq_false_iff_ne.mpr (Ne.symm (Nat.ne_of_lt hb)),[],.nil,_,#[],0,Heap.get?_push_size _ rfl,⟨rfl,rfl,rfl⟩,rfl,rfl,List.nodup_nil⟩
def wK:TE:=fun _ H Q=>∀ p,H p=none->Q (.ref p) (upd H p (.dK []))
def wf:TE:=fun _ H Q=>∀ p,H p=none->Q (.ref p) (upd H p (.dT []))
section
variable {X:Cx} {pos:Pos}
theorem rO:PE X (.Dict [] [] pos) wK:=fun pins s σ H Q I h =>
 wpAny_Dict_empty ⟨.ref s.heap.objs.size,_,I.laid (a:=s.heap.objs.size) (o:=.dK []) (t':=s.toks) (fun _ _ q=>Heap.get?_push_of_some _ q) (Nat.le_refl _) (sI s.heap I.big),rfl,h _ (I.hok.fresh (Nat.le_refl _))⟩
theorem nY:PE X (.Dict [] [] pos) wf:=fun pins s σ H Q I h =>
 wpAny_Dict_empty ⟨.ref s.heap.objs.size,_,I.laid (a:=s.heap.objs.size) (o:=.dT []) (t':=s.toks) (fun _ _ q=>Heap.get?_push_of_some _ q) (Nat.le_refl _) (sU s.heap I.big),rfl,h _ (I.hok.fresh (Nat.le_refl _))⟩
end
section
variable {X:Cx} {pins:List (Addr×Obj)} {σ:St} {H:Hp} {s:Shared} {a:Addr} {y d:V} {u r:Value} {o:Option V} {A:Around} {E:Value->Shared->Prop}
end
section
variable {X:Cx} {o e f:Expr} {apos cpos:Pos} {td ty tx:TE}
end
section
variable {X:Cx} {pins:List (Addr×Obj)} {σ:St} {H:Hp} {s:Shared} {a:Addr} {kvs:List (Key×V)} {A:Around} {E:Value->Shared->Prop}
end
section
variable {X:Cx} {pins:List (Addr×Obj)} {σ:St} {H:Hp} {s:Shared} {a:Addr} {y:V} {u:Value} {A:Around} {E:Value->Shared->Prop}
end
end L2
namespace L2
open PySem PySem.Spec PyProof.Rows
inductive vf (K:PySem.W.Frag) (T:String) (xs:List V) (H:Hp) (Q:VK):Prop
 | mk (x:_) (b:_) (t:_) (zz0:xs=[x,.ty T]) (zz1:iF K H x t) (zz2:PySem.W.kitOne K t (.type T)=some b) (zz3:Q (.bl b) H):vf K T xs H Q
def yg (K:PySem.W.Frag) (T:String):List V->Hp->VK->Prop:=vf K T
theorem i0 {X:Cx} {T:String}:dQ X (.builtin "isinstance") (yg X.K T):=by
 intro pins s σ H xs us Q I r h;obtain ⟨x,b,t,e,ty,k,q⟩:=h;exact tZ (T:=T) (b:=b) (t:=t) pins s σ H xs us Q I r ⟨x,e,ty,k,q⟩
variable {K:PySem.W.Frag}
theorem v8:PySem.W.kitOne K (.type "str") (.type "str")=some true:=rfl
theorem vL:PySem.W.kitOne K (.type "int") (.type "int")=some true:=rfl
theorem wL:PySem.W.kitOne K (.type "int") (.type "bool")=some false:=by with_unfolding_all rfl
end L2
namespace BB
open PySem L2
inductive Dv where
 | int (i:Int)
 | str (x:Str)
 | tup (ds:List Dv)
mutual
def Dv.deep:Dv->Nat
 | .int _=>0
 | .str _=>0
 | .tup ds=>bZ ds+1
def bZ:List Dv->Nat
 | []=>0
 | d::ds=>max d.deep (bZ ds)
end
mutual
def Dv.tot:Dv->Nat
 | .int _=>1
 | .str _=>1
 | .tup ds=>u8 ds+1
def u8:List Dv->Nat
 | []=>0
 | d::ds=>d.tot+u8 ds
end
mutual
def DAt (H:Hp):Dv->V->Prop
 | .int i,v=>v=.int i
 | .str x,v=>v=.str x
 | .tup ds,v=>∃ a vs,v=.ref a/\H a=some (.tup vs)/\DAts H ds vs
def DAts (H:Hp):List Dv->List V->Prop
 | [],vs=>vs=[]
 | d::ds,vs=>∃ v r,vs=v::r/\DAt H d v/\DAts H ds r
end
theorem DAts.nil {H:Hp}:DAts H [] []:=by rw [DAts]
theorem DAts.cons {H:Hp} {d:Dv} {ds:List Dv} {v:V} {vs:List V} (h1:DAt H d v) (h2:DAts H ds vs):DAts H (d::ds) (v::vs):=by rw [DAts];exact ⟨v,vs,rfl,h1,h2⟩
theorem DAts.length {H:Hp}:∀ {ds:List Dv} {vs:List V},DAts H ds vs->vs.length=ds.length
 | [],vs,h=>by rw [DAts] at h;subst h;rfl
 | d::ds,vs,h=>by
   rw [DAts] at h;obtain ⟨v,r,rfl,h1,h2⟩:=h;rw [List.length_cons,List.length_cons,h2.length]
theorem DAts.at {H:Hp}:∀ {ds:List Dv} {vs:List V} {i:Nat} {d:Dv},DAts H ds vs->ds[i]?=some d->∃ v,vs[i]?=some v/\DAt H d v
 | [],vs,i,d,h,e=>by simp at e
 | d0::ds,vs,i,d,h,e=>by
   rw [DAts] at h;obtain ⟨v,r,rfl,h1,h2⟩:=h;cases i with
   | zero=>simp at e;subst e;exact ⟨v,rfl,h1⟩
   | succ i =>
     obtain ⟨u,g1,g2⟩:=h2.at (i:=i) (by simpa using e);exact ⟨u,by simpa using g1,g2⟩
theorem j8:∀ {ds:List Dv} {i:Nat} {d:Dv},ds[i]?=some d->d.deep<=bZ ds
 | [],i,d,e=>by simp at e
 | d0::ds,i,d,e=>by
   rw [bZ];cases i with
   | zero=>simp at e;subst e;omega
   | succ i =>
     have:=j8 (ds:=ds) (i:=i) (by simpa using e);omega
theorem qo:∀ {ds:List Dv} {i:Nat} {d:Dv},ds[i]?=some d->d.tot<=u8 ds
 | [],i,d,e=>by simp at e
 | d0::ds,i,d,e=>by
   rw [u8];cases i with
   | zero=>simp at e;subst e;omega
   | succ i =>
     have:=qo (ds:=ds) (i:=i) (by simpa using e);omega
theorem Dv.tot_pos (d:Dv):1<=d.tot:=by
 cases d with
 | int i=>rw [Dv.tot];omega
 | str x=>rw [Dv.tot];omega
 | tup ds=>rw [Dv.tot];omega
mutual
def Th.dv:Th->Dv
 | .knot n ks=>.tup (.str n::dvs ks)
 | .call s k=>.tup [.str q,.int s,.int k]
def dvs:List Th->List Dv
 | []=>[]
 | t::ts=>t.dv::dvs ts
end
mutual
theorem At.dv {H:Hp}:∀ {t:Th} {a:Addr},At H t a->DAt H t.dv (.ref a)
 | .knot n ks,a,h=>by
   rw [At] at h;obtain ⟨_,as,h1,h2⟩:=h;rw [Th.dv,DAt];exact ⟨a,_,rfl,h1,.cons (by rw [DAt]) (Ats.dvs h2)⟩
 | .call s k,a,h=>by
   rw [At] at h;rw [Th.dv,DAt];exact ⟨a,_,rfl,h,.cons (by rw [DAt]) (.cons (by rw [DAt]) (.cons (by rw [DAt]) .nil))⟩
theorem Ats.dvs {H:Hp}:∀ {ts:List Th} {as:List Addr},Ats H ts as->DAts H (dvs ts) (as.map V.ref)
 | [],as,h=>by rw [Ats] at h;subst h;rw [BB.dvs];exact .nil
 | t::ts,as,h=>by
   rw [Ats] at h;obtain ⟨a,r,rfl,h1,h2⟩:=h;rw [BB.dvs,List.map_cons];exact .cons (At.dv h1) (Ats.dvs h2)
end
mutual
theorem Th.dv_deep:∀ t:Th,t.dv.deep<=t.tall
 | .knot n ks=>by
   have:=j0 ks;rw [Th.dv,Dv.deep,bZ,Dv.deep,Th.tall];omega
 | .call s k=>by rw [Th.dv,Th.tall];simp [Dv.deep,bZ]
theorem j0:∀ ts:List Th,bZ (dvs ts)<=aI ts
 | []=>by rw [dvs,bZ];exact Nat.zero_le _
 | t::ts=>by
   have:=t.dv_deep;have:=j0 ts;rw [dvs,bZ,aI];omega
end
theorem ux {K:PySem.W.Frag} {H:Hp} {a b:Addr} {xs ys:List V} {Q:VK} (ha:H a=some (.tup xs)) (hb:H b=some (.tup ys)) (hz:xs.length+ys.length<=1000000) (q:∀ p H',L2.Same H H'->H' p=some (.tup (xs++ys))->Q (.ref p) H'):vq K (.ref a) (.ref b) H Q:=by
 refine ⟨a,b,xs,ys,rfl,rfl,SqT.of ha,SqT.of hb,al hz,fun e=>?_,fun _ e=>?_,fun _ _ p hp=>?_⟩
 · exact q b H (.refl _) (by rw [e];exact hb)
 · exact q a H (.refl _) (by rw [e,List.append_nil];exact ha)
 · exact q p _ (af hp _) ad
theorem P2.reverse {α β:Type} {F:α->β->Prop}:∀ {a:List α} {b:List β},Paired F a b->Paired F a.reverse b.reverse
 | _,_,.nil=>.nil
 | _,_,.cons r t=>by
   rw [List.reverse_cons,List.reverse_cons];exact P2.append (P2.reverse t) (.cons r .nil)
theorem P2.snoc_inv {α β:Type} {F:α->β->Prop} {a:List α} {b:List β} {y:β} (h:Paired F a (b++[y])):∃ us x,a=us++[x]/\Paired F us b/\F x y:=by
 have r:=P2.reverse h;rw [List.reverse_append,List.reverse_singleton,List.singleton_append] at r;cases e:a.reverse with
 | nil=>rw [e] at r;cases r
 | cons x us =>
   rw [e] at r;cases r with
   | cons h1 h2 =>
     refine ⟨us.reverse,x,?_,?_,h1⟩
     · rw [<- List.reverse_cons,<- e,List.reverse_reverse]
     · have:=P2.reverse h2;rw [List.reverse_reverse] at this;exact this
end BB
namespace BB
open PySem L2
mutual
def Th.kn:Th->Nat
 | .knot _ ks=>kns ks+1
 | .call _ _=>0
def kns:List Th->Nat
 | []=>0
 | t::ts=>t.kn+kns ts
end
section
variable {ext:Th->List V} {H H':Hp} {t:Th} {a:Addr} {ts:List Th} {es:List Addr}
end
def Th.isCall:Th->Bool
 | .knot _ _=>false
 | .call _ _=>true
end BB
namespace BB
open PySem PySem.Spec PyProof.Rows L2
mutual
theorem DAt.inj {H:Hp}:∀ {d e:Dv} {v:V},DAt H d v->DAt H e v->d=e
 | .int i,.int j,v,h,g=>by rw [DAt] at h;rw [DAt] at g;rw [h] at g;cases g;rfl
 | .int i,.str y,v,h,g=>by rw [DAt] at h;rw [DAt] at g;rw [h] at g;cases g
 | .int i,.tup es,v,h,g=>by rw [DAt] at h;rw [DAt] at g;obtain ⟨a,vs,e,_⟩:=g;rw [h] at e;cases e
 | .str x,.int j,v,h,g=>by rw [DAt] at h;rw [DAt] at g;rw [h] at g;cases g
 | .str x,.str y,v,h,g=>by rw [DAt] at h;rw [DAt] at g;rw [h] at g;cases g;rfl
 | .str x,.tup es,v,h,g=>by rw [DAt] at h;rw [DAt] at g;obtain ⟨a,vs,e,_⟩:=g;rw [h] at e;cases e
 | .tup ds,.int j,v,h,g=>by rw [DAt] at h;rw [DAt] at g;obtain ⟨a,vs,e,_⟩:=h;rw [e] at g;cases g
 | .tup ds,.str y,v,h,g=>by rw [DAt] at h;rw [DAt] at g;obtain ⟨a,vs,e,_⟩:=h;rw [e] at g;cases g
 | .tup ds,.tup es,v,h,g=>by
   rw [DAt] at h;rw [DAt] at g;obtain ⟨a,vs,e1,h1,h2⟩:=h;obtain ⟨b,ws,e2,g1,g2⟩:=g;rw [e1] at e2;cases e2;rw [h1] at g1;cases g1;rw [DAts.inj h2 g2]
theorem DAts.inj {H:Hp}:∀ {ds es:List Dv} {vs:List V},DAts H ds vs->DAts H es vs->ds=es
 | [],[],vs,h,g=>rfl
 | [],e::es,vs,h,g=>by rw [DAts] at h;rw [DAts] at g;obtain ⟨v,r,z,_⟩:=g;rw [h] at z;cases z
 | d::ds,[],vs,h,g=>by rw [DAts] at h;rw [DAts] at g;obtain ⟨v,r,z,_⟩:=h;rw [g] at z;cases z
 | d::ds,e::es,vs,h,g=>by
   rw [DAts] at h;rw [DAts] at g;obtain ⟨v,r,z,h1,h2⟩:=h;obtain ⟨v',r',z',g1,g2⟩:=g;rw [z] at z';cases z';rw [DAt.inj h1 g1,DAts.inj h2 g2]
end
end BB
namespace L2
open PySem PySem.Spec PySem.SeqAt PyProof.Rows BB
open Classical in
theorem r9 {X:Cx} {pins:List (Addr×Obj)} {σ:St} {H:Hp} {s:Shared} (I:Inv X pins σ H s) {ds es:List Dv} {a b:Addr} {vs ws:List V} {A:Around} (ha:SqT X.K H a vs) (hb:SqT X.K H b ws) (hvs:DAts H ds vs) (hws:DAts H es ws) (hu:A.units<cLine)
 (ih:∀ (j:Nat) (d e:Dv) (x y:V) (u v:Value),ds[j]?=some d->DAt H d x->DAt H e y->RelV x u->RelV y v->EqAt A.in1 s u v (decide (d=e))):RcAt A s (.ref a) (.ref b) (decide (Dv.tup ds=Dv.tup es)):=by
 obtain ⟨its,r1,p1,_⟩:=I.tuple ha;obtain ⟨its2,r2,p2,_⟩:=I.tuple hb;have l1:its.length=ds.length:=by rw [<- r1.length,hvs.length]
 have l2:its2.length=es.length:=by rw [<- r2.length,hws.length]
 have hcmp:RcAt A s (.ref a) (.ref b) ((List.range (min its.toArray.size its2.toArray.size)).all (fun j=>decide (ds[j]?=es[j]?)) && its.toArray.size == its2.toArray.size):=by
  refine RcAt.tuples (show s.heap.IsTuple a its.toArray from p1) (show s.heap.IsTuple b its2.toArray from p2) hu fun j h1 h2=>?_;have h1':j<ds.length:=by rw [<- l1];simpa using h1
  have h2':j<es.length:=by rw [<- l2];simpa using h2
  have e1:ds[j]?=some ds[j]:=List.getElem?_eq_getElem h1';have e2:es[j]?=some es[j]:=List.getElem?_eq_getElem h2';obtain ⟨x',hx',dx⟩:=hvs.at e1;obtain ⟨y',hy',dy⟩:=hws.at e2;obtain ⟨u',hu',ru'⟩:=r1.get hx';obtain ⟨v',hv',rv'⟩:=r2.get hy';have e3:decide (ds[j]?=es[j]?)=decide (ds[j]=es[j]):=by rw [e1,e2];simp
  have e4:its.toArray[j]=u':=by
   rw [List.getElem?_eq_getElem (by rw [l1];exact h1')] at hu';simpa using hu'
  have e5:its2.toArray[j]=v':=by
   rw [List.getElem?_eq_getElem (by rw [l2];exact h2')] at hv';simpa using hv'
  rw [e3,e4,e5];exact ih j ds[j] es[j] x' y' u' v' e1 dx dy ru' rv'
 have e:decide (Dv.tup ds=Dv.tup es)=((List.range (min its.toArray.size its2.toArray.size)).all (fun j=>decide (ds[j]?=es[j]?)) && its.toArray.size == its2.toArray.size):=by
  rw [List.size_toArray,List.size_toArray,l1,l2];by_cases h:ds=es
  · subst h;rw [decide_eq_true rfl];symm;simp
  · rw [decide_eq_false (fun z=>h (Dv.tup.inj z))];symm;by_cases hl:ds.length=es.length
    · rw [hl,Nat.min_self]
      have:¬ ((List.range es.length).all (fun j=>decide (ds[j]?=es[j]?)))=true:=by
       intro z;apply h;apply List.ext_getElem?;intro j;by_cases hj:j<es.length
       · have:=List.all_eq_true.mp z j (List.mem_range.mpr hj);exact of_decide_eq_true this
       · rw [List.getElem?_eq_none (by omega),List.getElem?_eq_none (by omega)]
      rw [Bool.eq_false_iff.mpr this];rfl
    · have:(ds.length == es.length)=false:=by simpa using hl
      rw [this,Bool.and_false]
 rw [e];exact hcmp
open Classical in
theorem qP {X:Cx} {pins:List (Addr×Obj)} {σ:St} {H:Hp} {s:Shared} (I:Inv X pins σ H s):∀ (n:Nat) (d e:Dv),d.tot<=n->∀ (x y:V) (u v:Value) (A:Around),DAt H d x->DAt H e y->RelV x u->RelV y v->A.units+d.deep<cLine->EqAt A s u v (decide (d=e))
 | 0,d,e,hn,x,y,u,v,A,hd,he,ru,rv,hu=>by have:=d.tot_pos;omega
 | n+1,.int i,.int j,hn,x,y,u,v,A,hd,he,ru,rv,hu=>by
   rw [DAt] at hd;rw [DAt] at he;subst hd he;obtain ⟨t,rfl⟩:=ru;obtain ⟨t',rfl⟩:=rv
   have e:decide (Dv.int i=Dv.int j)=(i == j):=by
    by_cases h:i=j
    · subst h;simp
    · rw [decide_eq_false (fun z=>h (Dv.int.inj z))];simp [h]
   rw [e];exact EqAt.int_int i t j t'
 | n+1,.int i,.str b,hn,x,y,u,v,A,hd,he,ru,rv,hu=>by
   rw [DAt] at hd;rw [DAt] at he;subst hd he;obtain ⟨t,rfl⟩:=ru;obtain ⟨t',rfl⟩:=rv;rw [decide_eq_false (fun z=>by cases z)];exact EqAt.int_str i t b t'
 | n+1,.int i,.tup es,hn,x,y,u,v,A,hd,he,ru,rv,hu=>by
   rw [DAt] at hd;rw [DAt] at he;obtain ⟨a,vs,rfl,ha,_⟩:=he;subst hd;obtain ⟨t,rfl⟩:=ru;cases rv;obtain ⟨its,_,p,_⟩:=I.tuple (SqT.of (K:=X.K) ha);rw [decide_eq_false (fun z=>by cases z)];exact EqAt.int_tuple i t (show s.heap.IsTuple a its.toArray from p) (by omega)
 | n+1,.str b,.int j,hn,x,y,u,v,A,hd,he,ru,rv,hu=>by
   rw [DAt] at hd;rw [DAt] at he;subst hd he;obtain ⟨t,rfl⟩:=ru;obtain ⟨t',rfl⟩:=rv;rw [decide_eq_false (fun z=>by cases z)];exact EqAt.str_int b t j t'
 | n+1,.str b,.str c,hn,x,y,u,v,A,hd,he,ru,rv,hu=>by
   rw [DAt] at hd;rw [DAt] at he;subst hd he;obtain ⟨t,rfl⟩:=ru;obtain ⟨t',rfl⟩:=rv
   have e:decide (Dv.str b=Dv.str c)=(b == c):=by
    by_cases h:b=c
    · subst h;simp
    · rw [decide_eq_false (fun z=>h (Dv.str.inj z))];simp [h]
   rw [e];exact EqAt.str_str b t c t'
 | n+1,.str b,.tup es,hn,x,y,u,v,A,hd,he,ru,rv,hu=>by
   rw [DAt] at hd;rw [DAt] at he;obtain ⟨a,vs,rfl,ha,_⟩:=he;subst hd;obtain ⟨t,rfl⟩:=ru;cases rv;obtain ⟨its,_,p,_⟩:=I.tuple (SqT.of (K:=X.K) ha);rw [decide_eq_false (fun z=>by cases z)];exact EqAt.str_tuple b t (show s.heap.IsTuple a its.toArray from p) (by omega)
 | n+1,.tup ds,.int j,hn,x,y,u,v,A,hd,he,ru,rv,hu=>by
   rw [DAt] at hd;rw [DAt] at he;obtain ⟨a,vs,rfl,ha,_⟩:=hd;subst he;cases ru;obtain ⟨t,rfl⟩:=rv;obtain ⟨its,_,p,_⟩:=I.tuple (SqT.of (K:=X.K) ha);rw [decide_eq_false (fun z=>by cases z)];exact EqAt.tuple_int j t (show s.heap.IsTuple a its.toArray from p) (by omega)
 | n+1,.tup ds,.str b,hn,x,y,u,v,A,hd,he,ru,rv,hu=>by
   rw [DAt] at hd;rw [DAt] at he;obtain ⟨a,vs,rfl,ha,_⟩:=hd;subst he;cases ru;obtain ⟨t,rfl⟩:=rv;obtain ⟨its,_,p,_⟩:=I.tuple (SqT.of (K:=X.K) ha);rw [decide_eq_false (fun z=>by cases z)];exact EqAt.tuple_str b t (show s.heap.IsTuple a its.toArray from p) (by omega)
 | n+1,.tup ds,.tup es,hn,x,y,u,v,A,hd,he,ru,rv,hu=>by
   have hd0:=hd;have he0:=he;rw [DAt] at hd;rw [DAt] at he;obtain ⟨a,vs,rfl,ha,hvs⟩:=hd;obtain ⟨b,ws,rfl,hb,hws⟩:=he;cases ru;cases rv;by_cases hab:a=b
   · subst hab;rw [decide_eq_true (DAt.inj hd0 he0)];exact EqAt.same _
   rw [Dv.tot] at hn;rw [Dv.deep] at hu;refine EqAt.of_refs hab (r9 I (SqT.of ha) (SqT.of hb) hvs hws (by omega) fun j d e x' y' u' v' e1 dx dy ru' rv'=>?_);have q1:=qo e1;have q2:=j8 e1;refine qP I n d e (by omega) x' y' u' v' A.in1 dx dy ru' rv' ?_;show A.units+1+_<cLine;omega
end L2
namespace BB
open PySem L2
end BB
namespace PySem
theorem bb_extendT (l:Addr) (items:Array Value) (n:Nat) (b:Addr) (items2:Array Value) (n2:Nat) (dd:Option Addr) (sl:Array (Option Value)) (g0:¬(!items.isEmpty && Builtin.List.listTooLong (items.size+items2.size))=true) (g1:items.size<=sizeLine) (g2:items.size+items2.size<=sizeLine+1) :
 Meets (Builtin.«list.extend» ⟨[.ref l,.ref b],[]⟩) (fun _ R s=>s.heap.get? l=some { cls:=.type "list",dict:=none,data:=.seq items n,slots:=#[] }/\s.heap.get? b=some { cls:=.type "tuple",dict:=dd,data:=.seq items2 n2,slots:=sl }/\R (.ok (.ret Value.none)) { s with heap:=s.heap.update l (Obj.mapSeq fun x=>x++items2),toks:=s.toks }) :=
 .of_wp fun prog w A R s h=>by
  obtain ⟨hp,g,d,tk,os⟩:=s;obtain ⟨hl,hb,h⟩:=h;have f1:=AutoSeq1.idx_int;have f2:=AutoSeq1.sub_tuple_tuple;have f3:=AutoSeq1.sub_list_list;have f4:=AutoSeq1.sub_tuple_list;have f5:=AutoSeq1.sub_list_tuple;have z2:(items++items2).size<=sizeLine+1:=by rw [Array.size_append];exact g2
  wp_walk using (wpAny_updateSeq hl rfl (hz:=g1) (_hz':=z2)),AutoSeq1.wpAny_loadPart' hl,AutoSeq1.wpAny_loadPart' hb
  exact ⟨_,rfl,h⟩
end PySem
namespace L2
open PySem PySem.Spec PyProof.Rows
section
variable {X:Cx}
def tj (K:PySem.W.Frag):V->List V->Hp->VK->Prop:=fun x vs H Q=>∃ l b xs zs,x=.ref l/\vs=[.ref b]/\H l=some (.lst xs)/\SqT K H b zs/\xs.length+zs.length<=sizeLine/\Q .non (upd H l (.lst (xs++zs)))
theorem pV:MtM X "list.extend" (tj X.K):=by
 intro pins s σ H x vs v us Q I rx rv h;obtain ⟨l,b,xs,zs,rfl,rfl,hH,hB,hz,q⟩:=h;cases rx;obtain ⟨u,rfl,ru⟩:=rv.one;cases ru;obtain ⟨z,its,n,r,hl,e⟩:=I.lstM hH;obtain ⟨its2,r2,p2,_⟩:=I.tuple hB;have hl2:=r2.length;obtain ⟨⟨cls2,dd2,data2,sl2⟩,e2,hc2,n2,hd2⟩:=p2;simp only at hc2 hd2;subst hc2 hd2;have hsz:its.toArray.size+its2.toArray.size<=sizeLine:=by rw [List.size_toArray,List.size_toArray];omega
 have hlong:¬ (!its.toArray.isEmpty && Builtin.List.listTooLong (its.toArray.size+its2.toArray.size))=true:=by
  rw [oK hsz,Bool.and_false];exact Bool.false_ne_true
 refine call_meets F.slot_list_extend ⟨_,e,rfl⟩ F.entry_list_extend (F.args_list_extend_2 _ _)
  (bb_extendT l its.toArray n b its2.toArray n2 dd2 sl2 hlong (by rw [List.size_toArray];omega) (by omega)) ⟨e,e2,?_⟩
 refine ⟨.non,_,I.lset (its':=its++its2) hH e (by simp) (r.append r2) ?_,rfl,q⟩;rw [List.length_append];omega
theorem qX {bs:List Bool} {its:List Value} (r:Vals (bs.map V.bl) its) {i:Nat} {v:Value} (h:its[i]?=some v):∃ b,bs[i]?=some b/\v=.bool b:=by
 have hl:=r.length;have hi:i<its.length:=(List.getElem?_eq_some_iff.mp h).1;rw [List.length_map] at hl;obtain ⟨u,hu,ru⟩:=r.get (i:=i) (x:=.bl bs[i]) (by rw [List.getElem?_map,List.getElem?_eq_getElem (by omega)];rfl);rw [h] at hu;cases hu;cases ru;exact ⟨_,List.getElem?_eq_getElem (by omega),rfl⟩
def yr (K:PySem.W.Frag):List V->Hp->VK->Prop:=fun xs H Q=>∃ (p:Addr) (bs:List Bool),xs=[.ref p]/\SqL K H p (bs.map V.bl)/\Q (.bl (bs.all id)) H
theorem oI (hc:X.calm=true):dQ X (.builtin "all") (yr X.K):=by
 intro pins s σ H xs us Q I r h;obtain ⟨p,bs,rfl,hl,q⟩:=h;obtain ⟨u,rfl,rx⟩:=vals1 r;cases rx;obtain ⟨its,rv,pl,_⟩:=I.list hl;have hlen:=rv.length;rw [List.length_map] at hlen;have hlt:p<s.heap.objs.size:=by obtain ⟨_,_,e,_⟩:=pl;exact Heap.lt_size e
 refine call_all_walk (wpAny_pyIter_list pl.isList ?_);refine ⟨s.heap.objs.size,[s.heap.objs.size,p],[s.heap.objs.size],its.toArray.size,_,_,fun i=>(bs[i]?).getD true,rfl,Walks.list (A:=X.A.in1) (I.ok.hd hc) _ p (Nat.ne_of_lt hlt) its.toArray,⟨⟨_,Heap.get?_push_size _ rfl,rfl,rfl⟩,pl.isList.push _⟩,fun i v s' Q' E' hP hQ=>?_,fun h' tk hk=>?_⟩
 · obtain ⟨b,e,rfl⟩:=qX rv (i:=i) (v:=v) (by simpa using hP);simp only [e,Option.getD_some] at hQ;exact wpAny_truthy_bool hQ
 · have e:((List.range its.toArray.size).all fun i=>(bs[i]?).getD true)=bs.all id:=by
    rw [List.size_toArray,<- hlen];exact LSm.range_all bs
   rw [e];exact ⟨.bl (bs.all id),H,I.kept (LSm.kept_iter hk),rfl,q⟩
end
end L2
namespace BB
open PySem L2
def dl:List (Str×Int)->Str->Int
 | [],_=>-1
 | k::r,n=>if k.1=n then k.2 else dl r n
theorem ly {n:Str} {m:Nat}:∀ {ks:List (Str×Int)},(ks.map (·.1)).Nodup->(dl ks n=(m:Int)↔(n,(m:Int))∈ks)
 | [],_=>by
   rw [dl];constructor
   · intro h;omega
   · intro h;cases h
 | (a,b)::r,nd=>by
   rw [List.map_cons,List.nodup_cons] at nd;rw [dl];by_cases h:a=n
   · rw [if_pos h];subst h;constructor
     · intro e;have e':b=(m:Int):=e;rw [e'];exact List.mem_cons_self ..
     · intro e;rcases List.mem_cons.mp e with e | e
       · exact (Prod.mk.inj e).2.symm
       · exact absurd (List.mem_map.mpr ⟨_,e,rfl⟩) nd.1
   · rw [if_neg h,ly nd.2];constructor
     · exact List.mem_cons_of_mem _
     · intro e;rcases List.mem_cons.mp e with e | e
       · exact absurd (Prod.mk.inj e).1.symm h
       · exact e
def okP (ks:List (Str×Int)) (st kd:Int):Th->Bool
 | .knot n ts=>decide (dl ks n=((ts.length:Nat):Int))
 | .call s k=>decide (0<=s/\s<st) && decide (0<=k/\k<kd)
def fpb (ks:List (Str×Int)) (st kd:Int) (t:Th):Bool:=t.walk.all (okP ks st kd)
def sK (ks:List (Str×Int)) (st kd:Int) (ts:List Th):Bool:=(walks ts).all (okP ks st kd)
theorem sF (ks:List (Str×Int)) (st kd:Int) (t:Th):fpb ks st kd t=(okP ks st kd t && sK ks st kd t.kids):=by
 unfold fpb sK;rw [t.walk_eq,List.all_cons]
theorem lh (ks:List (Str×Int)) (st kd:Int):∀ ts:List Th,sK ks st kd ts=(ts.map (fpb ks st kd)).all id
 | []=>by rfl
 | t::ts=>by
   rw [List.map_cons,List.all_cons,<- lh ks st kd ts];unfold sK fpb;rw [walks,List.all_append];rfl
def kDv (k:Str×Int):Dv:=.tup [.str k.1,.int k.2]
theorem oy {H:Hp}:∀ {ks:List (Str×Int)} {as:List Addr},Paired (KAt H) ks as->DAts H (ks.map kDv) (as.map V.ref)
 | _,_,.nil=>.nil
 | _,_,.cons r h=>by
   rw [List.map_cons,List.map_cons];refine .cons ?_ (oy h);rw [kDv,DAt];exact ⟨_,_,rfl,r,.cons (by rw [DAt]) (.cons (by rw [DAt]) .nil)⟩
theorem iI:∀ ks:List (Str×Int),bZ (ks.map kDv)<=1
 | []=>by rw [List.map_nil,bZ];exact Nat.zero_le _
 | k::ks=>by
   have:=iI ks;rw [List.map_cons,bZ,kDv];simp only [Dv.deep,bZ];omega
theorem xf {p:Prop} [Decidable p] (h:(!decide p)=true):¬ p:=by
 intro z;rw [decide_eq_true z] at h;cases h
theorem vR {p:Prop} [Decidable p] (h:¬ (!decide p)=true):p:=by
 by_cases z:p
 · exact z
 · exfalso;apply h;rw [decide_eq_false z];rfl
end BB
namespace PySem
open Sem (wp)
namespace F
end F
section
variable {prog:Program} {w:World} {A:Around} {E:Value->Shared->Prop} {s:Shared} {a:Addr} {xs:Array Value} {k:Nat}
end
end PySem
namespace L2
open PySem PySem.Spec PyProof.Rows BB
section
variable {X:Cx}
end
end L2
namespace BB
open PySem L2
end BB
namespace HT
open PySem PySem.Spec PyProof.Rows
section
variable {prog:Program} {w:World} {A:Around} {E:Value->Shared->Prop} {s:Shared}
theorem getItem_tuple_whole {t sl:Addr} {items:Array Value} {vl vu:Value} {lo hi:Option Int} {Q:Value->Shared->Prop} (ht:IsTup s.heap t items) (hs:s.heap.IsSliceOf sl vl vu .none) (pl:IsPart vl lo) (pu:IsPart vu hi)
 (hw:sIx items.size 0 lo=0/\sIx items.size items.size hi=items.size) (h:Q (.ref t) s):wpAny (model prog w) A (getItem (.ref t) (.ref sl)) Q E s:=by
 obtain ⟨os,hos,hcs,hds⟩:=id hs;have hTs:s.TypeIs (.ref sl) "slice":=⟨os,hos,hcs⟩;have hT:s.TypeIs (.ref t) "tuple":=ht.typeIs;unfold getItem
 try with_reducible refine wpAny_holding ?_
 first | refine wpAny_bind (wpAny_pure ?_) | skip
 refine wpAny_bind (wpAny_sequenceKey ht.typeIs (by decide) ?_)
 refine wpAny_bind (wpAny_callSpecial?_slot (name:=Str.ofString "__getitem__") ht.typeIs PyProof.Rows.slot_tuple_getitem
  (wpAny_call_entry PyProof.Rows.slot_tuple_getitem ht.typeIs entry_tuple_getitem ?_ (args_tuple_getitem _ _)))
 show wpAny _ _ (Builtin.Tuple.tupleItemsOf (.ref t) >>= _) _ _ s;refine wpAny_bind (tupleItemsOf_ ht ?_);refine wpAny_bind (wpAny_typeOf hTs ?_);rw [if_pos (by decide)];refine wpAny_bind (sliceApplied_gen hs pl pu ?_)
 have hyes:(((sIx items.size 0 lo:Nat):Int) == 0 && (1:Int) == 1 && (sIx items.size items.size hi - sIx items.size 0 lo) == items.size)=true:=by
  rw [hw.1,hw.2];simp
 show wpAny _ _ (if (((sIx items.size 0 lo:Nat):Int) == 0 && (1:Int) == 1 && (sIx items.size items.size hi - sIx items.size 0 lo) == items.size)=true then _ else _) _ _ s;rw [if_pos hyes];refine wpAny_bind (m:=Builtin.Tuple.tupleIsExact _) ?_;unfold Builtin.Tuple.tupleIsExact;refine wpAny_bind (wpAny_typeOf hT (wpAny_pure ?_));rw [if_pos (by decide)];exact wpAny_bind (wpAny_rule (wpAny_pure ⟨_,rfl,wpAny_pure h⟩))
end
end HT
namespace L2
open PySem PySem.Spec PyProof.Rows
inductive vi (x:V) (lo:Option Int) (hi:Option Int) (H:Hp) (Q:VK):Prop
 | mk (a:_) (xs:_) (zz0:x=.ref a) (zz1:H a=some (.tup xs)) (zz2:∀ p H',Same H H'->H' p=some (.tup (d7 xs lo hi))->Q (.ref p) H'):vi  x lo hi H Q
def yl:V->Option Int->Option Int->Hp->VK->Prop:=vi
theorem uc {X:Cx}:SlR X yl:=by
 intro pins s σ H x v vl vu lo hi sl Q I rx hs pl pu h;obtain ⟨a,xs,rfl,ha,q⟩:=h;by_cases hw:HT.sIx xs.length 0 lo=0/\HT.sIx xs.length xs.length hi=xs.length
 · obtain ⟨its,r,p1,hz⟩:=I.tuple (SqT.of (K:=X.K) ha);have hl:=r.length;cases rx
   have e:d7 xs lo hi=xs:=by
    unfold d7;rw [hw.1,hw.2,List.drop_zero,Nat.sub_zero,List.take_length]
   refine ⟨"tuple",_,PyProof.Rows.slot_tuple_getitem.lookup,p1.typeIs,HT.getItem_tuple_whole p1 hs pl pu (by rw [List.size_toArray,<- hl];exact hw) ⟨.ref a,H,I,rfl,q a H (.refl _) (by rw [e];exact ha)⟩⟩
 · exact sd pins s σ H _ v vl vu lo hi sl Q I rx hs pl pu ⟨a,xs,rfl,SqT.of ha,hw,fun p hp=>q p _ (af hp _) ad⟩
end L2
namespace PySem
open Sem (wp)
section
variable {prog:Program} {w:World} {A:Around} {E:Value->Shared->Prop} {s:Shared} {it d:Addr} {i ep:Nat} {od:Obj} {es:Array DictEntry}
theorem bb_keyNext {en:DictEntry} {Q:Option Value->Shared->Prop} (g:s.heap.IsKeyIter it d i es.size ep) (g1:s.heap.get? d=some od) (g2:od.data=.dict es ep) (hx:es[i]?=some en)
 (fin:∀ h',h'.IsKeyIter it d (i+1) es.size ep->Heap.SameBut it s.heap h'->Q (some en.key) { s with heap:=h' }):wpAny (model prog w) A (pyNext (.ref it)) Q E s:=by
 obtain ⟨o,q1,q2,q3⟩:=id g;unfold pyNext;refine wpAny_bind (wpAny_attempt (wpAny_callSpecial?_slot (name:=Str.ofString "__next__") g.typeIs F.slot_dict_keyiterator_next (wpAny_call_entry F.slot_dict_keyiterator_next g.typeIs F.entry_dict_keyiterator_next ?_ (F.args_dict_keyiterator_next_1 _))));refine wpAny_bind (wpAny_pure ?_);refine wpAny_bind ?_;refine wpAny_bind ?_
 first | refine wpAny_bind (wpAny_typeNameOfWhole_keyiter g.typeIs (wpAny_pure ?_)) | refine wpAny_bind (wpAny_typeNameOf_keyiter g.typeIs (wpAny_pure ?_))
 refine wpAny_bind (wpAny_fieldsOf q1 q3 ?_);have own:Builtin.Dict_items.ownsTuple "dict_keyiterator"=false:=by decide
 simp only [own,Bool.false_eq_true,if_false];show wpAny _ _ (if (Value.ref d == Value.none)=true then _ else _) _ _ s;rw [if_neg (show ¬ ((Value.ref d == Value.none)=true) from Bool.false_ne_true)];refine wpAny_bind (wpAny_pure ?_);refine wpAny_bind (wpAny_dictEntries g1 g2 ?_);rw [if_neg (by simp)];refine wpAny_bind (wpAny_pure ?_);refine wpAny_bind (wpAny_dictEpoch g1 g2 ?_);rw [if_neg (by simp)];refine wpAny_pure ?_;have lt:i<es.size:=(Array.getElem?_eq_some_iff.mp hx).1;have ee:es[i]=en:=(Array.getElem?_eq_some_iff.mp hx).2;simp only [show ¬ ((i:Int)<0) from by omega,if_false,Int.toNat_natCast,Array.getElem?_eq_getElem lt];refine wpAny_bind ?_
 first | refine wpAny_bind (wpAny_typeNameOfWhole_keyiter g.typeIs (wpAny_pure ?_)) | refine wpAny_bind (wpAny_typeNameOf_keyiter g.typeIs (wpAny_pure ?_))
 refine wpAny_bind (wpAny_isOneOf_keyiter g.typeIs ?_);show wpAny _ _ (setField (.ref it) 1 (rawInt ((i:Int)+1)) >>= _) _ _ s;refine wpAny_bind (wpAny_setField q1 q3 (by simp) ?_);have g':(s.heap.update it (Obj.mapFields (·.setIfInBounds 1 (rawInt ((i:Int)+1))))).IsKeyIter it d (i+1) es.size ep:=⟨_,Heap.get?_update_self _ q1 (Obj.isFreed_of_fields (Obj.data_mapFields q3 _)),(Obj.cls_mapFields ..).trans q2,by rw [Obj.data_mapFields q3];simp [rawInt]⟩;refine wpAny_bind (wpAny_holding ?_);refine wpAny_bind (wpAny_isOneOf_keyiter (s:={ s with heap:=s.heap.update it (Obj.mapFields (·.setIfInBounds 1 (rawInt ((i:Int)+1)))) }) g'.typeIs ?_);show wpAny _ _ (pure es[i].key) _ _ _;rw [ee];exact wpAny_pure (wpAny_pure ⟨_,rfl,wpAny_pure (fin _ g' (Heap.SameBut.update ..))⟩)
theorem bb_keyEnd {Q:Option Value->Shared->Prop} (calm:A.handled=none) (g:s.heap.IsKeyIter it d i es.size ep) (g1:s.heap.get? d=some od) (g2:od.data=.dict es ep) (hx:es.size<=i)
 (fin:∀ h',Heap.ExtBut it s.heap h'->Q none { s with heap:=h' }):wpAny (model prog w) A (pyNext (.ref it)) Q E s:=by
 obtain ⟨o,q1,q2,q3⟩:=id g;unfold pyNext;refine wpAny_bind (wpAny_attempt (wpAny_callSpecial?_slot (name:=Str.ofString "__next__") g.typeIs F.slot_dict_keyiterator_next (wpAny_call_entry F.slot_dict_keyiterator_next g.typeIs F.entry_dict_keyiterator_next ?_ (F.args_dict_keyiterator_next_1 _))));refine wpAny_bind (wpAny_pure ?_);refine wpAny_bind ?_;refine wpAny_bind ?_
 first | refine wpAny_bind (wpAny_typeNameOfWhole_keyiter g.typeIs (wpAny_pure ?_)) | refine wpAny_bind (wpAny_typeNameOf_keyiter g.typeIs (wpAny_pure ?_))
 refine wpAny_bind (wpAny_fieldsOf q1 q3 ?_);have own:Builtin.Dict_items.ownsTuple "dict_keyiterator"=false:=by decide
 simp only [own,Bool.false_eq_true,if_false];show wpAny _ _ (if (Value.ref d == Value.none)=true then _ else _) _ _ s;rw [if_neg (show ¬ ((Value.ref d == Value.none)=true) from Bool.false_ne_true)];refine wpAny_bind (wpAny_pure ?_);refine wpAny_bind (wpAny_dictEntries g1 g2 ?_);rw [if_neg (by simp)];refine wpAny_bind (wpAny_pure ?_);refine wpAny_bind (wpAny_dictEpoch g1 g2 ?_);rw [if_neg (by simp)];refine wpAny_pure ?_;simp only [show ¬ ((i:Int)<0) from by omega,if_false,Int.toNat_natCast,Array.getElem?_eq_none hx];refine wpAny_bind ?_
 first | refine wpAny_bind (wpAny_typeNameOfWhole_keyiter g.typeIs (wpAny_pure ?_)) | refine wpAny_bind (wpAny_typeNameOf_keyiter g.typeIs (wpAny_pure ?_))
 show wpAny _ _ (setField (.ref it) 0 .none >>= _) _ _ s;refine wpAny_bind (wpAny_setField q1 q3 (by simp) ?_);show wpAny _ _ (newExc (.type "StopIteration") [] >>= _) _ _ _;refine wpAny_bind ?_;simp only [newExc,newTuple];refine wpAny_bind (wpAny_newObj_type ?_ (by size_fits));refine wpAny_bind (m:=firstArgMember _ _) (wpAny_of_eq (a:=Value.none) (by first | rfl | (simp only [firstArgMember];rfl)) ?_);refine wpAny_newObj_type ?_ (by size_fits);simp only [raiseNew];refine wpAny_bind (wpAny_handled ?_)
 first | rw [show A.in1.handled=none from calm] | rw [calm]
 refine wpAny_bind (wpAny_pure (wpAny_throw ?_));refine wpAny_bind (wpAny_isInstance (T:="StopIteration") (b:=true) ⟨_,Heap.get?_push_size _ rfl,rfl⟩ isSubtype_stop ?_);exact wpAny_pure (fin _ (((Heap.SameBut.update ..).extBut.push _).push _))
theorem bb_keyIter {Q:Value->Shared->Prop} (ns:(d == sysModules)=false) (g1:s.heap.get? d=some od) (gc:od.cls=.type "dict") (g2:od.data=.dict es ep)
 (fin:Q (.ref s.heap.objs.size) { s with heap:=s.heap.push { cls:=.type "dict_keyiterator",data:=.fields #[.ref d,.int 0 0,.int es.size 0,.int ep 0] } }):wpAny (model prog w) A (pyIter (.ref d)) Q E s:=by
 have gT:s.TypeIs (.ref d) "dict":=⟨_,g1,gc⟩;refine wpAny_pyIter_slot gT F.slot_dict_iter (wpAny_call_entry F.slot_dict_iter gT F.entry_dict_iter ?_ (F.args_dict_iter_1 _));unfold Builtin.«dict.__iter__»;refine wpAny_bind ?_;unfold Builtin.Dict.dictSlotNone;refine wpAny_bind (wpAny_notOrdered_dict gT ?_);show wpAny _ _ (pure (Value.ref d)) _ _ s;refine wpAny_pure ?_;show wpAny _ _ (Builtin.Dict.showsAll d >>= _) _ _ s;unfold Builtin.Dict.showsAll;rw [if_neg (by rw [ns];exact Bool.false_ne_true)];refine wpAny_bind (wpAny_pure ?_);refine wpAny_bind (wpAny_dictEntries g1 g2 ?_);refine wpAny_bind (wpAny_dictEpoch g1 g2 ?_);refine wpAny_bind (wpAny_newObj_type (wpAny_pure ⟨_,rfl,"dict_keyiterator",_,⟨_,Heap.get?_push_size _ rfl,rfl⟩,F.slot_dict_keyiterator_next.lookup,?_⟩));simpa [rawInt] using fin
end
end PySem
namespace L2
open PySem PySem.Spec PyProof.Rows
section
variable {X:Cx} {e:Expr} {te:TE}
end
end L2
namespace BB
open PySem L2
inductive Top where
 | nm (n:Str) (m:Nat)
 | th (t:Th)
def bl:List Top->List Th
 | []=>[]
 | .nm n m::S=>.knot n ((bl S).take m)::(bl S).drop m
 | .th t::S=>t::bl S
def TopsOk:List Top->Prop
 | []=>True
 | .nm _ m::S=>m<=(bl S).length/\TopsOk S
 | .th _::S=>TopsOk S
theorem TopsOk.drop:∀ {l:List Top} (i:Nat),TopsOk l->TopsOk (l.drop i)
 | l,0,h=>by rw [List.drop_zero];exact h
 | [],i+1,h=>by rw [List.drop_nil];exact h
 | .nm n m::S,i+1,h=>by
   rw [TopsOk] at h;rw [List.drop_succ_cons];exact TopsOk.drop i h.2
 | .th t::S,i+1,h=>by
   rw [TopsOk] at h;rw [List.drop_succ_cons];exact TopsOk.drop i h
theorem pM:∀ l:List Top,(bl l).length<=l.length
 | []=>Nat.le_refl _
 | .nm n m::S=>by
   have:=pM S;rw [bl,List.length_cons,List.length_cons,List.length_drop];omega
 | .th t::S=>by
   have:=pM S;rw [bl,List.length_cons,List.length_cons];omega
def TopAt (H:Hp):Top->Addr->Prop
 | .nm n m,a=>∃ ta,H a=some (.tup [.ref ta,.int (m:Nat)])/\n≠q/\H ta=some (.tup [.str n])
 | .th t,a=>∃ ta,H a=some (.tup [.ref ta,.int 0])/\At H t ta
theorem TopAt.mono {H H':Hp} (k:KT H H'):∀ {x:Top} {a:Addr},TopAt H x a->TopAt H' x a
 | .nm n m,a,h=>by
   obtain ⟨ta,h1,h2,h3⟩:=h;exact ⟨ta,k _ _ h1,h2,k _ _ h3⟩
 | .th t,a,h=>by
   obtain ⟨ta,h1,h2⟩:=h;exact ⟨ta,k _ _ h1,h2.mono k⟩
theorem rk {H H':Hp} (k:KT H H') {l:List Top} {as:List Addr} (h:Paired (TopAt H) l as):Paired (TopAt H') l as:=P2.mp (fun _ _ e=>TopAt.mono k e) h
mutual
def Th.fill (f:Int->Int->Th):Th->Th
 | .knot n ks=>.knot n (fills f ks)
 | .call s k=>f s k
def fills (f:Int->Int->Th):List Th->List Th
 | []=>[]
 | t::ts=>t.fill f::fills f ts
end
theorem iU (f:Int->Int->Th):∀ ts:List Th,(fills f ts).length=ts.length
 | []=>by rw [fills]
 | t::ts=>by rw [fills,List.length_cons,List.length_cons,iU f ts]
mutual
theorem qJ:∀ t:Th,t.fill Th.call=t
 | .knot n ks=>by rw [Th.fill,o5 ks]
 | .call s k=>by rw [Th.fill]
theorem o5:∀ ts:List Th,fills Th.call ts=ts
 | []=>by rw [fills]
 | t::ts=>by rw [fills,qJ t,o5 ts]
end
def topOf (f:Int->Int->Th):Th->Top
 | .knot n ks=>.nm n ks.length
 | .call s k=>.th (f s k)
theorem kj (f:Int->Int->Th):∀ (n:Nat) (ts:List Th),aw ts<=n->∀ S,bl ((walks ts).map (topOf f)++S)=fills f ts++bl S/\(TopsOk S->TopsOk ((walks ts).map (topOf f)++S))
 | _,[],_,S=>by rw [walks,fills];exact ⟨rfl,fun h=>h⟩
 | 0,t::ts,hn,S=>by
   have:=t.size_pos;rw [aw] at hn;omega
 | n+1,t::ts,hn,S=>by
   have hs:=t.size_eq;rw [aw] at hn;have h2:=kj f n ts (by omega) S;have e:(walks (t::ts)).map (topOf f)++S=topOf f t::((walks t.kids).map (topOf f)++((walks ts).map (topOf f)++S)):=by rw [walks,t.walk_eq];simp
   have h1:=kj f n t.kids (by omega) ((walks ts).map (topOf f)++S);rw [e];cases t with
   | knot nm ks =>
     simp only [Th.kids] at h1 ⊢;refine ⟨?_,fun hS=>?_⟩
     · show bl (.nm nm ks.length::_)=_;rw [bl,h1.1,h2.1,<- iU f ks,List.take_left,List.drop_left,fills,Th.fill];rfl
     · show TopsOk (.nm nm ks.length::_);rw [TopsOk];refine ⟨?_,h1.2 (h2.2 hS)⟩;rw [h1.1,List.length_append,iU];exact Nat.le_add_right _ _
   | call s k =>
     simp only [Th.kids,walks,List.map_nil,List.nil_append] at h1 ⊢;refine ⟨?_,fun hS=>?_⟩
     · show bl (.th (f s k)::_)=_;rw [bl,h2.1,fills,Th.fill];rfl
     · show TopsOk (.th (f s k)::_);rw [TopsOk];exact h2.2 hS
theorem nn (f:Int->Int->Th) (t:Th):bl (t.walk.map (topOf f))=[t.fill f]/\TopsOk (t.walk.map (topOf f)):=by
 have h:=kj f _ [t] (Nat.le_refl _) [];have e:walks [t]=t.walk:=by simp [walks]
 rw [e,List.append_nil] at h;refine ⟨?_,h.2 (by rw [TopsOk];trivial)⟩;rw [h.1,fills,fills,bl];rfl
theorem uG (x:V) (xs:List V):d7 (x::xs) none (some 1)=[x]:=by
 unfold d7;rw [show (some (1:Int))=some ((1:Nat):Int) from rfl,HT.sIx_nat,HT.sIx_none,List.length_cons,Nat.min_eq_left (by omega)];rfl
end BB
namespace PySem
open Sem (wp)
end PySem
namespace L2
open PySem PySem.Spec PyProof.Rows BB
end L2
namespace BB
open PySem L2
theorem kW {k:Nat} {A:Around} (hr:L2.Room k A):A.units+150+2<cLine:=by
 have:=hr.un;omega
end BB
namespace BB
open PySem L2
end BB
namespace BB
open PySem L2
end BB
namespace L2
open PySem PySem.Spec PySem.SeqAt PyProof.Rows BB
open Classical in
theorem ss {X:Cx} {pins:List (Addr×Obj)} {σ:St} {H:Hp} {s:Shared} (I:Inv X pins σ H s) {ds es:List Dv} {vs ws:List V} {its its2:List Value} {A:Around} (r1:Vals vs its) (r2:Vals ws its2) (hvs:DAts H ds vs) (hws:DAts H es ws) (hu:A.units+bZ ds+2<cLine) :
 ∀ j (h1:j<its.toArray.size) (h2:j<its2.toArray.size),EqAt A.in1 s its.toArray[j] its2.toArray[j] (decide (ds[j]?=es[j]?)):=by
 intro j h1 h2;have l1:its.length=ds.length:=by rw [<- r1.length,hvs.length]
 have l2:its2.length=es.length:=by rw [<- r2.length,hws.length]
 have h1':j<ds.length:=by rw [<- l1];simpa using h1
 have h2':j<es.length:=by rw [<- l2];simpa using h2
 have e1:ds[j]?=some ds[j]:=List.getElem?_eq_getElem h1';have e2:es[j]?=some es[j]:=List.getElem?_eq_getElem h2';obtain ⟨x',hx',dx⟩:=hvs.at e1;obtain ⟨y',hy',dy⟩:=hws.at e2;obtain ⟨u',hu',ru'⟩:=r1.get hx';obtain ⟨v',hv',rv'⟩:=r2.get hy';have e3:decide (ds[j]?=es[j]?)=decide (ds[j]=es[j]):=by rw [e1,e2];simp
 have e4:its.toArray[j]=u':=by
  rw [List.getElem?_eq_getElem (by rw [l1];exact h1')] at hu';simpa using hu'
 have e5:its2.toArray[j]=v':=by
  rw [List.getElem?_eq_getElem (by rw [l2];exact h2')] at hv';simpa using hv'
 rw [e3,e4,e5];have q2:=j8 e1;refine qP I _ ds[j] es[j] (Nat.le_refl _) x' y' u' v' A.in1 dx dy ru' rv' ?_;show A.units+1+_<cLine;omega
open Classical in
theorem pQ {ds es:List Dv} (hl:ds.length=es.length):(List.range ds.length).all (fun j=>decide (ds[j]?=es[j]?))=decide (ds=es):=by
 by_cases h:ds=es
 · subst h;rw [decide_eq_true rfl];simp
 · rw [decide_eq_false h];refine Bool.eq_false_iff.mpr fun z=>h (List.ext_getElem? fun j=>?_);by_cases hj:j<ds.length
   · exact of_decide_eq_true (List.all_eq_true.mp z j (List.mem_range.mpr hj))
   · rw [List.getElem?_eq_none (by omega),List.getElem?_eq_none (by omega)]
def ya (K:PySem.W.Frag) (B:Nat):R2:=fun x y H Q=>∃ a b vs ws ds es,x=.ref a/\y=.ref b/\SqT K H a vs/\SqT K H b ws/\DAts H ds vs/\DAts H es ws/\bZ ds<=B/\∀ b:Bool,(b=true↔ds≠es)->Q (.bl b) H
open Classical in
theorem p5 {X:Cx} {B:Nat} (hu:X.A.units+B+2<cLine):OpR X (compareOp .NotEq) (ya X.K B):=by
 intro pins s σ H x y v u Q I rx ry h;obtain ⟨a,b,vs,ws,ds,es,rfl,rfl,ha,hb,hvs,hws,hB,q⟩:=h;cases rx;cases ry;obtain ⟨its,r1,p1,_⟩:=I.tuple ha;obtain ⟨its2,r2,p2,_⟩:=I.tuple hb;have l1:its.length=ds.length:=by rw [<- r1.length,hvs.length]
 have l2:its2.length=es.length:=by rw [<- r2.length,hws.length]
 refine RcNeAt.tuples (show s.heap.IsTuple a its.toArray from p1) (show s.heap.IsTuple b its2.toArray from p2) (by omega) (ss I r1 r2 hvs hws (by omega)) X.prog X.w X.xe _ ?_
 have e:((List.range (min its.toArray.size its2.toArray.size)).all (fun j=>decide (ds[j]?=es[j]?)) && its.toArray.size == its2.toArray.size)=decide (ds=es):=by
  rw [List.size_toArray,List.size_toArray,l1,l2];by_cases hl:ds.length=es.length
  · rw [<- hl,Nat.min_self,pQ hl];simp
  · rw [decide_eq_false (fun z=>hl (by rw [z]))];simp [hl]
 refine ⟨.bl (!decide (ds=es)),H,I,by rw [e];rfl,q _ ?_⟩;simp
end L2
namespace BB
open PySem L2
end BB
namespace BB
open PySem L2
end BB
namespace L2
open PySem PySem.Spec PySem.SeqAt PyProof.Rows BB
end L2
namespace BB
open PySem L2
end BB
namespace BB
open PySem L2
end BB
namespace L2
open PySem PySem.Spec PyProof.Rows BB
end L2
namespace BB
open PySem L2
end BB
namespace BB
open PySem L2
theorem u9 {xs:List V} {n:Nat} (h:n<=xs.length):d7 xs none (some (n:Int))=xs.take n:=by
 unfold d7;rw [HT.sIx_none,HT.sIx_nat,Nat.min_eq_left h,List.drop_zero,Nat.sub_zero]
end BB
namespace L2
open PySem PySem.Spec PySem.Calls PyProof.Rows PySem.W
section
variable {prog:Program} {w:World} {A:Around} {E:Value->Shared->Prop} {h:Heap} {g:Array GenState} {d:Drawn} {t:Nat} {os:OsState} {a C:Addr} {o:Obj} {K:Frag}
end
end L2
namespace L2
open PySem PySem.Spec PySem.Calls PyProof.Rows PySem.W
section
variable {P:Program} {w:World} {K:PySem.W.Frag} {mg:Str->Option Value} {base:Heap} {N:List Str} {qual:Str} {scope:Scope} {f:Addr} {cd:Value} {A:Around} {outer:List Env} {s:Shared} {H:Hp} {E:XK}
end
end L2
namespace L2
open PySem PySem.Spec PySem.Calls PyProof.Rows PySem.W
section
variable {X:Cx} {pins:List (Addr×Obj)} {σ:St} {H:Hp} {s:Shared}
end
end L2
namespace L2
open PySem PySem.Spec PySem.Calls PyProof.Rows PySem.W
section
variable {P:Program} {w:World} {K:PySem.W.Frag} {mg:Str->Option Value} {base:Heap}
end
end L2
namespace L2
open PySem PySem.Spec PySem.Calls PyProof.Rows PySem.SeqAt
theorem sj {k:Nat} {A:Around} (hr:Room k A):A.units+2<cLine:=by
 have:=hr.units;omega
end L2
namespace L2
open PySem PySem.Spec PySem.Calls PyProof.Rows
def Its (x:Str):It:=⟨fun i _=>i<x.cps.size,fun i H v H'=>H'=H/\∃ c,x.cps[i]?=some c/\v=.str ⟨#[c]⟩,fun i _=>x.cps.size=i⟩
theorem pz {P:Program} {w:World} {K:PySem.W.Frag} {tg:Expr} (x:Str) (t:Tok) (it:Addr):Turn P w K tg (Its x) [it] it (fun i h=>h.IsStrIter it "str_ascii_iterator" x t i) where
 mem:=by simp
 obj:=fun i h st b hb=>by
  have e:b=it:=by simpa using hb
  subst e;obtain ⟨o,e,c,d⟩:=st;exact ⟨o,e,fun v z=>by rw [d] at z;cases z⟩
 keep:=fun i h h' st k=>let ⟨o,ho,r⟩:=st;⟨o,k it (by simp) o ho,r⟩
 item:=by
  intro X hP hw hK hc i pins s σ H E I hf st hg;subst hP hw hK;obtain ⟨f0,f1,f2,f3,f4,f5⟩:=hf it (by simp);have hg:i<x.cps.size:=hg;refine wpAny_pyNext_ascii_item st (c:=x.cps[i]) (by simp [hg]) fun h' st' sb=>?_;have I1:Inv X pins σ H { s with heap:=h',toks:=s.toks+1 }:=I.turned (fun b o hb e=>(sb.2 b hb).trans e) f0 f1 f3 f4 f5;obtain ⟨o,e,c,d⟩:=id st';exact ⟨_,rfl,kg (s:={ s with heap:=h',toks:=s.toks+1 }) e c d (by decide) ⟨.str ⟨#[x.cps[i]]⟩,H,I1,⟨_,rfl⟩,⟨rfl,_,by simp [hg],rfl⟩,st',fun b hb=>(hf b hb).1⟩⟩
 done:=by
  intro X hP hw hK hc i pins s σ H E I hf st hg;subst hP hw hK;obtain ⟨f0,f1,f2,f3,f4,f5⟩:=hf it (by simp);have hg:x.cps.size=i:=hg;exact wpAny_pyNext_ascii_end (I.ok.hd hc) st (by simp [<- hg]) fun h' eb=>⟨rfl,I.turned (t':=s.toks) (fun b o hb e=>eb b o hb e) f0 f1 f3 f4 f5⟩
 self:=fun _ _ _ _ _ st h=>wpAny_pyIter_striter_ascii st h
theorem rA {P:Program} {w:World} {K:PySem.W.Frag} {tg:Expr} (x:Str) (t:Tok) (it:Addr):Turn P w K tg (Its x) [it] it (fun i h=>h.IsStrIter it "str_iterator" x t i) where
 mem:=by simp
 obj:=fun i h st b hb=>by
  have e:b=it:=by simpa using hb
  subst e;obtain ⟨o,e,c,d⟩:=st;exact ⟨o,e,fun v z=>by rw [d] at z;cases z⟩
 keep:=fun i h h' st k=>let ⟨o,ho,r⟩:=st;⟨o,k it (by simp) o ho,r⟩
 item:=by
  intro X hP hw hK hc i pins s σ H E I hf st hg;subst hP hw hK;obtain ⟨f0,f1,f2,f3,f4,f5⟩:=hf it (by simp);have hg:i<x.cps.size:=hg;refine wpAny_pyNext_wide_item st (c:=x.cps[i]) (by simp [hg]) fun h' st' sb=>?_;have I1:Inv X pins σ H { s with heap:=h',toks:=s.toks+1 }:=I.turned (fun b o hb e=>(sb.2 b hb).trans e) f0 f1 f3 f4 f5;obtain ⟨o,e,c,d⟩:=id st';exact ⟨_,rfl,kg (s:={ s with heap:=h',toks:=s.toks+1 }) e c d (by decide) ⟨.str ⟨#[x.cps[i]]⟩,H,I1,⟨_,rfl⟩,⟨rfl,_,by simp [hg],rfl⟩,st',fun b hb=>(hf b hb).1⟩⟩
 done:=by
  intro X hP hw hK hc i pins s σ H E I hf st hg;subst hP hw hK;obtain ⟨f0,f1,f2,f3,f4,f5⟩:=hf it (by simp);have hg:x.cps.size=i:=hg;exact wpAny_pyNext_wide_end (I.ok.hd hc) st (by simp [<- hg]) fun h' eb=>⟨rfl,I.turned (t':=s.toks) (fun b o hb e=>eb b o hb e) f0 f1 f3 f4 f5⟩
 self:=fun _ _ _ _ _ st h=>wpAny_pyIter_striter_wide st h
def xP (tl:TE):TI:=fun σ H R=>tl σ H fun v H1=>∃ x,v=.str x/\R (Its x) H1
theorem wq {X:Cx} {tg l:Expr} {tl:TE} (hl:PE X l tl):PI X tg l (xP tl):=by
 intro pins s σ H R I h;refine thn (hl pins s σ H _ I h) fun v s1 ⟨y,H1,I1,r1,q1⟩=>?_;obtain ⟨x,rfl,q⟩:=q1;obtain ⟨t,rfl⟩:=r1
 have fp:∀ b∈[s1.heap.objs.size],jc X pins H1 b:=fun b hb=>by
  have e:b=s1.heap.objs.size:=by simpa using hb
  subst e;exact I1.fpOk (Nat.le_refl _) (I1.hok.fresh (Nat.le_refl _))
 cases ha:x.cps.all (·<128)
 · refine wpAny_pyIter_wide ha ?_;exact ⟨s1.heap.objs.size,[s1.heap.objs.size],_,_,H1,rfl,I1.kept (t':=s1.toks) fun b o e=>Heap.get?_push_of_some _ e,rA x t _,⟨_,Heap.get?_push_size _ rfl,rfl,rfl⟩,fp,q⟩
 · refine wpAny_pyIter_ascii ha ?_;exact ⟨s1.heap.objs.size,[s1.heap.objs.size],_,_,H1,rfl,I1.kept (t':=s1.toks) fun b o e=>Heap.get?_push_of_some _ e,pz x t _,⟨_,Heap.get?_push_size _ rfl,rfl,rfl⟩,fp,q⟩
end L2
namespace BB
open PySem
def dn (zs:List Str):Nat->Nat
 | 0=>0
 | i+1=>if zs.getD i default∈zs.take i then dn zs i else dn zs i+1
theorem tV (zs:List Str):∀ i,dn zs i<=i
 | 0=>Nat.le_refl _
 | i+1=>by
   have:=tV zs i;rw [dn];split <;> omega
theorem take_succ_get {zs:List Str} {i:Nat} (h:i<zs.length):zs.take (i+1)=zs.take i++[zs.getD i default]:=by
 rw [List.take_succ_eq_append_getElem h];congr 2;simp [List.getD,h]
theorem oH (zs:List Str):∀ i,i<=zs.length->(dn zs i=i↔(zs.take i).Nodup)
 | 0,_=>by simp [dn]
 | i+1,h=>by
   have ih:=oH zs i (by omega);have hle:=tV zs i;rw [take_succ_get (by omega),dn,List.nodup_append];by_cases hm:zs.getD i default∈zs.take i
   · rw [if_pos hm];constructor
     · intro z;omega
     · intro z;exact absurd rfl (z.2.2 _ hm _ (List.mem_singleton.mpr rfl))
   · rw [if_neg hm];constructor
     · intro z;refine ⟨ih.mp (by omega),List.nodup_cons.mpr ⟨by simp,List.nodup_nil⟩,fun a ha b hb=>?_⟩;rw [List.mem_singleton.mp hb];rintro rfl;exact hm ha
     · intro z;have:=ih.mpr z.1;omega
end BB
namespace L2
open PySem PySem.Spec PySem.Calls PyProof.Rows BB
section
variable {prog:Program} {w:World} {A:Around} {R:Result->Shared->Prop}
theorem nK {l I S:Addr} {items:Array Value} {zs:List Str} (hh:A.in1.handled=none) (hne:l≠I) (hSI:S≠I) (hSl:S≠l) (hi:∀ (i:Nat) (v:Value),items[i]?=some v->∃ t,v=.str (zs.getD i default) t) (hlen:zs.length=items.size) (hb:items.size+1<scanBound) :
 ∀ (k i:Nat) (s:Shared),items.size - i=k->i<=items.size->s.heap.IsListIter I l i->s.heap.IsList l items->s.heap.SetOf (strKind prog w) S (fun x=>decide (x∈zs.take i)) (dn zs i) →
   (∀ h' tk,(∀ b o,b≠S->b≠I->s.heap.get? b=some o->h'.get? b=some o)->h'.SetOf (strKind prog w) S (fun x=>decide (x∈zs)) (dn zs zs.length)->R (.ok (.ret .none)) { s with heap:=h',toks:=tk }) →
   codeAny (model prog w) A (.builtin "set.update.loop" ⟨[.ref S,.ref I],[]⟩) R s:=by
 intro k;induction k with
 | zero =>
   intro i s hk hile hst hl hS hR;have hin:i=items.size:=by omega
   subst hin;refine codeAny_builtin PyProof.Rows.F.entry_set_update_loop ?_;rw [Around.under_plainId PyProof.Rows.F.plain_set_update_loop _];show wpAny _ A.in1 (pyNext (.ref I) >>= _) _ _ s;refine wpAny_bind (wpAny_pyNext_list_end hh hst hl (by simp) fun h' eb=>?_);show wpAny _ A.in1 (ret Value.none) _ _ _;refine wpAny_pure (hR h' s.toks (fun b o _ hbI e=>eb b o hbI e) ?_);obtain ⟨o,es,ep,t,ho,rest⟩:=hS;rw [<- hlen,List.take_length] at rest;exact ⟨o,es,ep,t,eb S o hSI ho,rest⟩
 | succ k ih =>
   intro i s hk hile hst hl hS hR;have hlt:i<items.size:=by omega
   refine codeAny_builtin PyProof.Rows.F.entry_set_update_loop ?_;rw [Around.under_plainId PyProof.Rows.F.plain_set_update_loop _];show wpAny _ A.in1 (pyNext (.ref I) >>= _) _ _ s;have hget:items[i]?=some items[i]:=by simp [hlt]
   refine wpAny_bind (wpAny_pyNext_list_item hst hl hget fun h' st' sb=>?_);obtain ⟨t,ht⟩:=hi i _ hget;rw [ht];have hl':h'.IsList l items:=let ⟨o,e,r⟩:=hl;⟨o,(sb.2 l hne).trans e,r⟩
   have hS':h'.SetOf (strKind prog w) S (fun x=>decide (x∈zs.take i)) (dn zs i):=by
    obtain ⟨o,es,ep,tb,ho,rest⟩:=hS;exact ⟨o,es,ep,tb,(sb.2 S hSI).trans ho,rest⟩
   show wpAny _ A.in1 (holding [Value.str (zs.getD i default) t] (setAdd S (.str (zs.getD i default) t)) >>= _) _ _ _;refine wpAny_bind (wpAny_holding ?_);unfold setAdd;refine wpAny_holding ?_;refine wpAny_bind ((strKind prog w).pyHash (k:=zs.getD i default) (strKind_is _ _ _ _) ?_);have hroom:dn zs i+1<scanBound:=by have:=tV zs i;omega
   refine wpAny_setAddHashed_of (knd:=strKind prog w) (strKind_is _ _ _ _) rfl hS' hroom fun h2 hsb hS2=>?_
   have hS3:h2.SetOf (strKind prog w) S (fun x=>decide (x∈zs.take (i+1))) (dn zs (i+1)):=by
    refine PyProof.Rows.SetOf_congr hS2 (fun x=>?_) ?_
    · rw [take_succ_get (by omega)];simp
    · rw [dn];by_cases hm:zs.getD i default∈zs.take i
      · rw [if_pos hm,if_pos (by simpa using hm)]
      · rw [if_neg hm,if_neg (by simpa using hm)]
   have st2:h2.IsListIter I l (i+1):=let ⟨o,e,r⟩:=st';⟨o,(hsb.2 I (Ne.symm hSI)).trans e,r⟩
   have hl2:h2.IsList l items:=let ⟨o,e,r⟩:=hl';⟨o,(hsb.2 l (Ne.symm hSl)).trans e,r⟩
   refine wpAny_pure ⟨plainId_quiet PyProof.Rows.F.plain_set_update_loop _,ih (i+1) _ (by omega) hlt st2 hl2 hS3 fun h4 tk k4 S4=>?_⟩;exact hR h4 tk (fun b o hbS hbI e=>k4 b o hbS hbI ((hsb.2 b hbS).trans ((sb.2 b hbI).trans e))) S4
end
end L2
namespace PySem
section
variable {prog:Program} {w:World} {A:Around} {E:Value->Shared->Prop} {s:Shared}
set_option maxHeartbeats 3200000 in
theorem bb_set_strs {l:Addr} {items:Array Value} {zs:List Str} {Q:Value->Shared->Prop} (hh:A.handled=none) (hl:s.heap.IsList l items) (hi:∀ (i:Nat) (v:Value),items[i]?=some v->∃ t,v=.str (zs.getD i default) t) (hlen:zs.length=items.size) (hb:items.size+1<scanBound)
 (h:∀ (h':Heap) (tk:Nat),h'.SetOf (strKind prog w) s.heap.objs.size (fun x=>decide (x∈zs)) (BB.dn zs zs.length)->(∀ b o,b<s.heap.objs.size->s.heap.get? b=some o->h'.get? b=some o)->Q (.ref s.heap.objs.size) { s with heap:=h',toks:=tk }) :
 wpAny (model prog w) A (call (.type "set") [.ref l]) Q E s:=by
 obtain ⟨c,tl,hmro⟩:=F.called_set.mro;have hmade:=F.called_set.made;have hsub:=F.called_set.sub;have h1:=F.called_set.notType;have h2:=F.called_set.canCreate;have hct:=F.typeCall_set_1 (.ref l);refine wpAny_call (codeAny_of_tree ?_);show wpAny _ _ (callAny (.type "set") _) _ _ _;refine wpAny_pure ⟨Code.quiet_builtin _ (by decide +kernel),codeAny_builtin F.entry_type_call ?_⟩;rw [Around.under_plain (weight_type_call_type "set" [.ref l] []) rfl]
 repeat (any_goals (first | assumption | wp_step))
 refine codeAny_mono (code_set_new_1 (.ref l) (E:=E) (Q₁:=fun obj s₁=>∃ led:Bool,obj=.ref s.heap.objs.size/\s₁={ s with heap:=s.heap.push { cls:=.type "set",dict:=none,data:=.set #[] 0 (.fresh 0 0 led) } }) fun led=>⟨led,rfl,rfl⟩) fun r s₁ hr=>?_;cases r with
 | error e=>exact hr
 | ok fl =>
   cases fl with
   | next=>exact hr.elim
   | brk=>exact hr.elim
   | cont=>exact hr.elim
   | ret obj =>
     obtain ⟨led,rfl,rfl⟩:=hr;have hS:(s.heap.push { cls:=.type "set",dict:=none,data:=.set #[] 0 (.fresh 0 0 led) }).get? s.heap.objs.size=some { cls:=.type "set",dict:=none,data:=.set #[] 0 (.fresh 0 0 led) }:=Heap.get?_push_size _ rfl;have hT:Shared.TypeIs { s with heap:=s.heap.push { cls:=.type "set",dict:=none,data:=.set #[] 0 (.fresh 0 0 led) } } (.ref s.heap.objs.size) "set":=⟨_,hS,rfl⟩;have hli:=F.called_set.init.lookup;have hbi:=F.called_set.init.bind (.ref s.heap.objs.size)
     repeat (any_goals (first | assumption | wp_step))
     refine codeAny_mono (codeAny_call_builtin (R:=wants (fun r s₂=>r=.none/\∃ h' tk,s₂={ s with heap:=h',toks:=tk }/\h'.SetOf (strKind prog w) s.heap.objs.size (fun x=>decide (x∈zs)) (BB.dn zs zs.length) ∧
      (∀ b o,b<s.heap.objs.size->s.heap.get? b=some o->h'.get? b=some o)) E) F.called_set.init.plain F.entry_set_init (check_set_init_1 hT ?_)) fun r₂ s₂ hr₂=>?_
     · obtain ⟨ol,hol,hcl,nl,hdl⟩:=hl;obtain ⟨ocls,odict,odata,oslots⟩:=ol;simp only at hcl hdl;subst hcl;subst hdl;have hlS:l<s.heap.objs.size:=Heap.lt_size hol;have hol':(s.heap.push { cls:=.type "set",dict:=none,data:=.set #[] 0 (.fresh 0 0 led) }).get? l=some { cls:=.type "list",dict:=odict,data:=.seq items nl,slots:=oslots }:=Heap.get?_push_of_some _ hol;have hsls:=F.sub_list_set;have hslf:=F.sub_list_frozenset;have hdic:(Value.type "list" == Value.type "dict")=false:=by decide
       have hl1:(s.heap.push { cls:=.type "set",dict:=none,data:=.set #[] 0 (.fresh 0 0 led) }).IsList l items:=⟨_,hol',rfl,nl,rfl⟩;unfold Builtin.«set.__init__» noKeywords Builtin.Frozenset.updateFrom;generalize hPI:pyIter=PI
       wp_walk
       subst hPI;refine wpAny_pyIter_list hl1 ?_;refine wpAny_bind (wpAny_runValue ?_);have hsz:(s.heap.push { cls:=.type "set",dict:=none,data:=.set #[] 0 (.fresh 0 0 led) }).objs.size=s.heap.objs.size+1:=Heap.size_push ..;refine L2.nK (l:=l) (zs:=zs) (items:=items) (by simp [hh]) (by rw [hsz];exact Nat.ne_of_lt (Nat.lt_succ_of_lt hlS)) (by rw [hsz];exact Nat.ne_of_lt (Nat.lt_succ_self _)) (Nat.ne_of_gt hlS) hi hlen hb (items.size - 0) 0 _ (by omega) (Nat.zero_le _) ⟨_,Heap.get?_push_size _ rfl,rfl,rfl⟩ (hl1.push _) ?_ ?_
       · have hget:((s.heap.push { cls:=.type "set",dict:=none,data:=.set #[] 0 (.fresh 0 0 led) }).push { cls:=.type "list_iterator",data:=.fields #[.ref l,.int 0 0] }).get? s.heap.objs.size=some { cls:=.type "set",dict:=none,data:=.set #[] 0 (.fresh 0 0 led) }:=Heap.get?_push_of_some _ hS;exact PyProof.Rows.SetOf_congr ((PyProof.Rows.setObjOf_fresh (knd:=strKind prog w) led).setOf hget (by unfold scanBound;omega)) (fun x=>by simp) rfl
       · intro h' tk kk S';show wpAny _ _ _ _ _ _;refine wpAny_pure ?_;show wpAny _ _ (ret Value.none) _ _ _;refine wpAny_pure ⟨rfl,h',tk,rfl,S',fun b o hb' e=>?_⟩;exact kk b o (Nat.ne_of_lt hb') (by rw [hsz];exact Nat.ne_of_lt (Nat.lt_succ_of_lt hb')) (Heap.get?_push_of_some _ (Heap.get?_push_of_some _ e))
     · cases r₂ with
       | error e=>exact hr₂
       | ok fl₂ =>
         cases fl₂ with
         | ret r =>
           obtain ⟨rfl,h',tk,rfl,hS',hk'⟩:=hr₂
           repeat (any_goals (first | assumption | wp_step))
           exact h _ _ hS' hk'
         | next=>exact hr₂.elim
         | brk=>exact hr₂.elim
         | cont=>exact hr₂.elim
end
end PySem
namespace L2
open PySem PySem.Spec PySem.Calls PyProof.Rows BB
def uT (P:Program) (w:World) (a:Addr) (zs:List Str) (h:Heap):Prop:=h.SetOf (strKind P w) a (fun x=>decide (x∈zs)) (dn zs zs.length)
theorem rH {X:Cx} (hc:X.calm=true):dQ X (.type "set") (fun xs H Q=>∃ p zs,xs=[.ref p]/\SqL X.K H p (zs.map V.str)/\zs.length<=4000/\∀ a,H a=none->Q (.ref a) (upd H a (.ext (uT X.prog X.w a zs)))):=by
 intro pins s σ H xs us Q I r h;obtain ⟨p,zs,rfl,hq,hz,q⟩:=h;obtain ⟨u,rfl,rx⟩:=vals1 r;cases rx;obtain ⟨its,r',pl,_⟩:=I.list hq;have hlen:=r'.length;rw [List.length_map] at hlen;refine bb_set_strs (I.ok.hd hc) pl.isList (zs:=zs) (fun i v hv=>?_) (by simpa using hlen) (by rw [List.size_toArray,<- hlen];show zs.length+1<4096;omega) fun h' tk hS kp=>?_
 · have hv':its[i]?=some v:=by simpa using hv
   have hil:i<its.length:=(List.getElem?_eq_some_iff.mp hv').1
   have hz':(zs.map V.str)[i]?=some (.str (zs.getD i default)):=by
    rw [List.getElem?_map,List.getD,List.getElem?_eq_getElem (by omega)];rfl
   obtain ⟨u,hu,ru⟩:=r'.get hz';rw [hv'] at hu;cases hu;exact ru
 · have hk:∀ b o,s.heap.get? b=some o->h'.get? b=some o:=fun b o e=>kp b o (Heap.lt_size e) e;refine ⟨.ref s.heap.objs.size,_,I.laid (t':=tk) (o:=.ext (uT X.prog X.w s.heap.objs.size zs)) hk (Nat.le_refl _) ?_,rfl,q _ (I.hok.fresh (Nat.le_refl _))⟩;refine ⟨hS,?_,fun g1 g2 gs gk=>?_⟩
   · obtain ⟨o,_,_,_,ho,_⟩:=hS;exact ⟨o,ho⟩
   · obtain ⟨o,es,ep,t,ho,rest⟩:=gs;exact ⟨o,es,ep,t,gk o ho,rest⟩
theorem re {X:Cx}:dQ X (.builtin "len") (fun xs H Q=>∃ a zs,xs=[.ref a]/\H a=some (.ext (uT X.prog X.w a zs))/\Q (.int (dn zs zs.length)) H):=by
 intro pins s σ H xs us Q I r h;obtain ⟨a,zs,rfl,ha,q⟩:=h;obtain ⟨u,rfl,rx⟩:=vals1 r;cases rx;obtain ⟨⟨o,es,ep,t,ho,hex,hd,_,_,hb,hf,hn⟩,_⟩:=(show ObjOk X.prog X.w H s.heap a (.ext (uT X.prog X.w a zs)) from I.hok a _ ha);have hb':es.size<4096:=hb;refine call_len_set ho hex hd hf (by omega) ?_;exact ⟨.int es.size,H,I.tok _,⟨_,rfl⟩,by rw [hn];exact q⟩
end L2
namespace L2
open PySem PySem.Spec PySem.Calls PyProof.Rows BB
section
variable {X:Cx}
def wm:R2:=fun x y H Q=>∃ i j,x=.str i/\y=.str j/\Q (.bl (!decide (j.cps.toList<i.cps.toList))) H
theorem lZ:OpR X (compareOp .LtE) wm:=by
 intro pins s σ H x y v u Q I rx ry h;obtain ⟨i,j,rfl,rfl,q⟩:=h;obtain ⟨t,rfl⟩:=rx;obtain ⟨t',rfl⟩:=ry;exact PySem.P.le_str ⟨.bl _,H,I,rfl,q⟩
def xR (K:PySem.W.Frag) (tl:TE):TI:=fun σ H R=>tl σ H fun x H1=>∃ a,x=.ref a/\(((∃ xs,SqL K H1 a xs)/\R (Itl K a) H1)∨((∃ xs,SqT K H1 a xs)/\R (Itt K a) H1))
theorem pE {tg l:Expr} {tl:TE} (hl:PE X l tl):PI X tg l (xR X.K tl):=by
 intro pins s σ H R I h;refine thn (hl pins s σ H _ I h) fun v s1 ⟨x,H1,I1,r1,q1⟩=>?_;obtain ⟨a,e,q⟩:=q1;subst e;cases r1
 have fp:∀ b∈[s1.heap.objs.size],jc X pins H1 b:=fun b hb=>by
  have e:b=s1.heap.objs.size:=by simpa using hb
  subst e;exact I1.fpOk (Nat.le_refl _) (I1.hok.fresh (Nat.le_refl _))
 rcases q with ⟨⟨xs,hq⟩,q⟩ | ⟨⟨xs,hq⟩,q⟩
 · obtain ⟨its,rv,p,hz⟩:=I1.list hq;refine wpAny_pyIter_list p.isList ?_;exact ⟨s1.heap.objs.size,[s1.heap.objs.size],_,_,H1,rfl,I1.kept (t':=s1.toks) fun b o e=>Heap.get?_push_of_some _ e,lM a _,⟨_,Heap.get?_push_size _ rfl,rfl,rfl⟩,fp,q⟩
 · obtain ⟨its,rv,p,hz⟩:=I1.tuple hq;refine wpAny_pyIter_tuple (show s1.heap.IsTuple a its.toArray from p) ?_;exact ⟨s1.heap.objs.size,[s1.heap.objs.size],_,_,H1,rfl,I1.kept (t':=s1.toks) fun b o e=>Heap.get?_push_of_some _ e,ld a _,⟨_,Heap.get?_push_size _ rfl,rfl,rfl⟩,fp,q⟩
end
end L2
namespace BB
open PySem L2
theorem pq {js:List (Option Nat)} {g:TG} {tt:TT} {te:TE} {σ:St} {H:Hp} {x:Str} {fin:Addr->Hp->Prop} (f:Nat->Bool) (hz:x.cps.size<=100000)
 (hstep:∀ c H1 (Q:VK) (W':Hp->Prop),c∈x.cps.toList->Q (.bl (f c)) H1->g (.str ⟨#[c]⟩) (cσ js σ) H1 fun σ2 H2=>tt σ2 H2 fun b H3=>if b=true then te σ2 H3 Q else W' H3)
 (hfin:∀ D H',H D=none->L2.Same H H'->H' D=some (.lst ((x.cps.toList.map f).map V.bl))->fin D H') :
 ∀ D,H D=none->∃ (n:Nat) (W:Nat->Hp->Prop),W 0 (upd H D (.lst []))/\ft js g tt te σ (Its x) D n W fun H'=>fin D H':=by
 intro D hD;refine ⟨x.cps.size,fun i H'=>i<=x.cps.size/\L2.Same H H'/\H' D=some (.lst (((x.cps.toList.take i).map f).map V.bl)),⟨Nat.zero_le _,af hD _,by rw [ad];rfl⟩,?_⟩;rintro i H' ⟨hi,s1,e1⟩;by_cases hlt:i<x.cps.size
 · refine .inr ⟨hlt,hlt,fun v H1 hy=>?_⟩;obtain ⟨rfl,c,hc,rfl⟩:=hy;have hc':x.cps.toList[i]?=some c:=by rw [Array.getElem?_toList];exact hc
   refine hstep c _ _ _ (List.mem_of_getElem? hc') ⟨_,e1,?_,hlt,?_,?_⟩
   · rw [List.length_map,List.length_map,List.length_take,Array.length_toList];have:sizeLine=16777216:=sizeLine_eq;omega
   · exact aF s1 hD
   · rw [ad,take_snoc hc'];simp
 · have hi':i=x.cps.size:=by omega
   subst hi';refine .inl ⟨rfl,hfin D H' hD s1 ?_⟩;rw [e1,List.take_of_length_le (by rw [Array.length_toList];exact Nat.le_refl _)]
theorem qE {α:Type} {js:List (Option Nat)} {g:TG} {tt:TT} {te:TE} {σ:St} {J:It} {H:Hp} {xs:List V} {fin:Addr->Hp->Prop} (zs:List α) (f:α->V) (hz:zs.length=xs.length) (hn:xs.length<=1000000)
 (hgo:∀ i H2,L2.Same H H2->i<xs.length->J.go i H2) (hstop:∀ H2,L2.Same H H2->J.stop xs.length H2) (hyld:∀ (i:Nat) H2 x H3,L2.Same H H2->i<xs.length->J.yld i H2 x H3->H3=H2/\xs[i]?=some x)
 (hb:∀ (i:Nat) x z H2 (R:VK) (W':Hp->Prop),xs[i]?=some x->zs[i]?=some z->L2.Same H H2->(∀ H3,L2.Same H2 H3->R (f z) H3)->g x (cσ js σ) H2 fun σ2 H3=>tt σ2 H3 fun b H4=>if b=true then te σ2 H4 R else W' H4)
 (hfin:∀ D H',H D=none->L2.Same H H'->H' D=some (.lst (zs.map f))->fin D H') :
 ∀ D,H D=none->∃ (n:Nat) (W:Nat->Hp->Prop),W 0 (upd H D (.lst []))/\ft js g tt te σ J D n W fun H'=>fin D H':=by
 intro D hD;refine ⟨xs.length,fun i H'=>i<=xs.length/\L2.Same H H'/\H' D=some (.lst ((zs.take i).map f)),⟨Nat.zero_le _,af hD _,by rw [ad];rfl⟩,?_⟩;rintro i H' ⟨hi,s1,e1⟩;by_cases hlt:i<xs.length
 · refine .inr ⟨hlt,hgo i H' s1 hlt,fun v H1 hy=>?_⟩;obtain ⟨e,hx⟩:=hyld i H' v H1 s1 hlt hy;subst e;obtain ⟨z,hz'⟩:∃ z,zs[i]?=some z:=⟨_,List.getElem?_eq_getElem (by omega)⟩;refine hb i v z _ _ _ hx hz' s1 fun H3 s3=>⟨_,s3 _ _ e1,?_,hlt,aF (s1.trans s3) hD,?_⟩
   · rw [List.length_map,List.length_take];have:sizeLine=16777216:=sizeLine_eq;omega
   · rw [ad,take_snoc hz',List.map_append];rfl
 · have hi':i=xs.length:=by omega
   subst hi';refine .inl ⟨hstop _ s1,hfin D H' hD s1 ?_⟩;rw [e1,List.take_of_length_le (by omega)]
theorem cZ {α:Type} {K:PySem.W.Frag} {a:Addr} {js:List (Option Nat)} {g:TG} {tt:TT} {te:TE} {σ:St} {H:Hp} {xs:List V} {fin:Addr->Hp->Prop} (zs:List α) (f:α->V) (hS:SqT K H a xs) (hz:zs.length=xs.length) (hn:xs.length<=1000000)
 (hb:∀ (i:Nat) x z H2 (R:VK) (W':Hp->Prop),xs[i]?=some x->zs[i]?=some z->L2.Same H H2->(∀ H3,L2.Same H2 H3->R (f z) H3)->g x (cσ js σ) H2 fun σ2 H3=>tt σ2 H3 fun b H4=>if b=true then te σ2 H4 R else W' H4)
 (hfin:∀ D H',H D=none->L2.Same H H'->H' D=some (.lst (zs.map f))->fin D H') :
 ∀ D,H D=none->∃ (n:Nat) (W:Nat->Hp->Prop),W 0 (upd H D (.lst []))/\ft js g tt te σ (Itt K a) D n W fun H'=>fin D H' :=
 qE zs f hz hn (fun i H2 s hi=>⟨xs,xs[i],s.seqT hS,List.getElem?_eq_getElem hi⟩) (fun H2 s=>⟨xs,s.seqT hS,Nat.le_refl _⟩) (fun i H2 x H3 s hi hy=>⟨hy.1,hy.2 xs (s.seqT hS)⟩) hb hfin
theorem mO {α:Type} {K:PySem.W.Frag} {a:Addr} {js:List (Option Nat)} {g:TG} {tt:TT} {te:TE} {σ:St} {H:Hp} {xs:List V} {fin:Addr->Hp->Prop} (zs:List α) (f:α->V) (hS:SqL K H a xs) (hz:zs.length=xs.length) (hn:xs.length<=1000000)
 (hb:∀ (i:Nat) x z H2 (R:VK) (W':Hp->Prop),xs[i]?=some x->zs[i]?=some z->L2.Same H H2->(∀ H3,L2.Same H2 H3->R (f z) H3)->g x (cσ js σ) H2 fun σ2 H3=>tt σ2 H3 fun b H4=>if b=true then te σ2 H4 R else W' H4)
 (hfin:∀ D H',H D=none->L2.Same H H'->H' D=some (.lst (zs.map f))->fin D H') :
 ∀ D,H D=none->∃ (n:Nat) (W:Nat->Hp->Prop),W 0 (upd H D (.lst []))/\ft js g tt te σ (Itl K a) D n W fun H'=>fin D H' :=
 qE zs f hz hn (fun i H2 s hi=>⟨xs,xs[i],s.seq hS,List.getElem?_eq_getElem hi⟩) (fun H2 s=>⟨xs,s.seq hS,Nat.le_refl _⟩) (fun i H2 x H3 s hi hy=>⟨hy.1,hy.2 xs (s.seq hS)⟩) hb hfin
def low (z:Str):Bool:=z.cps.toList.all fun c=>decide (97<=c/\c<=122)
def dH (z:Str):Bool:=decide (1<=z.length/\z.length<=8) && low z
theorem sL (c d:Nat):(!decide (([d]:List Nat)<[c]))=decide (c<=d):=by
 have h:(([d]:List Nat)<[c])↔d<c:=by
  constructor
  · intro h;cases h with
    | rel h=>exact h
    | cons h=>cases h
  · intro h;exact List.Lex.rel h
 by_cases hc:c<=d
 · rw [decide_eq_true hc,decide_eq_false (fun z=>by have:=h.mp z;omega)];rfl
 · rw [decide_eq_false hc,decide_eq_true (h.mpr (by omega))];rfl
end BB
namespace HT
open PySem PySem.Spec PyProof.Rows
section
variable {prog:Program} {w:World} {A:Around} {E:Value->Shared->Prop} {s:Shared}
theorem adjust_back (n:Nat):Builtin.Slice.sliceAdjust none none (-1) (n:Int)=((n:Int) - 1,-1):=rfl
theorem places_back (n:Nat):Builtin.Slice.slicePlaces ((n:Int) - 1) (-1) (-1)=n:=by
 unfold Builtin.Slice.slicePlaces;have h1:¬ ((-1:Int) > 0):=by omega
 simp only [h1,if_false];by_cases h:n=0
 · subst h;decide
 · have h2:((n:Int) - 1) > -1:=by omega
   simp only [h2,if_true];rw [show (- -1:Int)=1 by decide,Int.ediv_one];omega
theorem pick_back (xs:Array Value):((List.range xs.size).filterMap fun (m:Nat)=>xs[(((xs.size:Nat):Int) - 1+(m:Int) * (-1)).toNat]?).toArray=xs.toList.reverse.toArray:=by
 congr 1
 have e:∀ m∈List.range xs.size,xs[(((xs.size:Nat):Int) - 1+(m:Int) * (-1)).toNat]?=xs.toList.reverse[m]?:=by
  intro m hm;have hm':=List.mem_range.mp hm;rw [List.getElem?_reverse (by rw [Array.length_toList];exact hm'),Array.getElem?_toList,Array.length_toList];congr 1;omega
 have f:∀ (l:List Nat) (f g:Nat->Option Value),(∀ m∈l,f m=g m)->l.filterMap f=l.filterMap g:=by
  intro l f g;induction l with
  | nil=>intro _;rfl
  | cons y ys ih =>
    intro h;rw [List.filterMap_cons,List.filterMap_cons,h y (by simp),ih (fun m hm=>h m (by simp [hm]))]
 rw [f _ _ _ e]
 have gl:∀ (ys:List Value),(List.range ys.length).filterMap (fun m=>ys[m]?)=ys:=by
  intro ys;have:=pick_run ys.toArray 0 ys.length;simp only [List.filterMap_map] at this
  have e3:((fun x=>ys.toArray[x]?) ∘ fun x=>0+x)=fun m=>ys[m]?:=by
   funext m;simp
  rw [e3] at this;rw [this];simp
 have:=gl xs.toList.reverse;rw [List.length_reverse,Array.length_toList] at this;exact this
theorem sliceApplied_back {sl:Addr} {n:Nat} {t:Tok} {Q:Int×Int×Nat->Shared->Prop} (hs:s.heap.IsSliceOf sl .none .none (.int (-1) t))
 (h:Q ((n:Int) - 1,-1,n) s):wpAny (model prog w) A (Builtin.Slice.sliceApplied (.ref sl) (pure (n:Int))) Q E s:=by
 obtain ⟨os,hos,hcs,hds⟩:=id hs;unfold Builtin.Slice.sliceApplied Builtin.Slice.sliceFields;refine wpAny_bind (wpAny_bind (wpAny_field hos hds (x:=.none) rfl (wpAny_bind (wpAny_field hos hds (x:=.none) rfl (wpAny_bind (wpAny_field hos hds (x:=.int (-1) t) rfl (wpAny_pure ?_)))))));refine wpAny_bind (slicePart_int ?_);show wpAny _ _ (if ((-1:Int) == 0)=true then _ else _) _ _ s;rw [if_neg (by decide)];refine wpAny_bind (slicePart_none (wpAny_bind (slicePart_none (wpAny_bind (wpAny_pure ?_)))));show wpAny _ _ (match Builtin.Slice.sliceAdjust none none (-1) (n:Int) with | (lo,hi)=>pure (lo,(-1:Int),Builtin.Slice.slicePlaces lo hi (-1))) _ _ s;rw [adjust_back n];show wpAny _ _ (pure ((n:Int) - 1,(-1:Int),Builtin.Slice.slicePlaces ((n:Int) - 1) (-1) (-1))) _ _ s;rw [places_back];exact wpAny_pure h
theorem getItem_tuple_back {t sl:Addr} {items:Array Value} {tk:Tok} {Q:Value->Shared->Prop} (ht:IsTup s.heap t items) (hs:s.heap.IsSliceOf sl .none .none (.int (-1) tk))
 (h:Q (.ref s.heap.objs.size) { s with heap:=s.heap.push { cls:=.type "tuple",data:=.seq items.toList.reverse.toArray } })
 (hsz:items.size<=sizeLine):wpAny (model prog w) A (getItem (.ref t) (.ref sl)) Q E s:=by
 have htake:sizeOk (.seq items.toList.reverse.toArray):=by
  show items.toList.reverse.toArray.size<=sizeLine;rw [List.size_toArray,List.length_reverse,Array.length_toList];exact hsz
 obtain ⟨os,hos,hcs,hds⟩:=id hs;have hTs:s.TypeIs (.ref sl) "slice":=⟨os,hos,hcs⟩;unfold getItem
 try with_reducible refine wpAny_holding ?_
 first | refine wpAny_bind (wpAny_pure ?_) | skip
 refine wpAny_bind (wpAny_sequenceKey ht.typeIs (by decide) ?_)
 refine wpAny_bind (wpAny_callSpecial?_slot (name:=Str.ofString "__getitem__") ht.typeIs PyProof.Rows.slot_tuple_getitem
  (wpAny_call_entry PyProof.Rows.slot_tuple_getitem ht.typeIs entry_tuple_getitem ?_ (args_tuple_getitem _ _)))
 show wpAny _ _ (Builtin.Tuple.tupleItemsOf (.ref t) >>= _) _ _ s;refine wpAny_bind (tupleItemsOf_ ht ?_);refine wpAny_bind (wpAny_typeOf hTs ?_);rw [if_pos (by decide)];refine wpAny_bind (sliceApplied_back hs ?_)
 have hno:¬ ((((items.size:Nat):Int) - 1 == 0 && (-1:Int) == 1 && items.size == items.size)=true):=by
  simp
 show wpAny _ _ (if (((items.size:Nat):Int) - 1 == 0 && (-1:Int) == 1 && items.size == items.size)=true then _ else _) _ _ s;rw [if_neg hno,pick_back]
 first
  | exact wpAny_bind (m:=Builtin.Tuple.tupleExact _) (wpAny_newObj_type (wpAny_pure ⟨_,rfl,wpAny_pure h⟩) htake)
  | exact wpAny_bind (m:=Builtin.Tuple.tupleExact _) (wpAny_newObj_type (wpAny_bind (wpAny_pure (wpAny_pure ⟨_,rfl,wpAny_pure h⟩))) htake)
  | exact wpAny_bind (wpAny_bind (m:=Builtin.Tuple.tupleExact _) (wpAny_newObj_type (wpAny_pure (wpAny_pure ⟨_,rfl,wpAny_pure h⟩)) htake))
  | exact wpAny_bind (wpAny_bind (m:=Builtin.Tuple.tupleExact _) (wpAny_newObj_type (wpAny_pure ⟨_,rfl,wpAny_pure h⟩) htake))
end
end HT
namespace L2
open PySem PySem.Spec PyProof.Rows
section
variable {X:Cx} {e:Expr} {te:TE} {pos p2 p3 p4:Pos}
def BkR (X:Cx) (r:V->Hp->VK->Prop):Prop :=
 ∀ (pins:List (Addr×Obj)) (s:Shared) (σ:St) (H:Hp) (x:V) (v:Value) (t:Tok) (sl:Addr) (Q:VK),Inv X pins σ H s->RelV x v->s.heap.IsSliceOf sl .none .none (.int (-1) t)->r x H Q →
   ∃ T id,typeLookup (.type T) "__getitem__"=pure (some (.builtin id))/\s.TypeIs v T/\wpAny (model X.prog X.w) X.A (getItem v (.ref sl)) (EP X pins σ Q) X.xe s
def tBk (r:V->Hp->VK->Prop) (te:TE):TE:=fun σ H Q=>te σ H fun x H1=>r x H1 Q
theorem va {r:V->Hp->VK->Prop} (hr:BkR X r) (he:PE X e te):PE X (.Subscript e (.Slice none none (some (.UnaryOp .USub (.Constant (.int 1) 0 p3) p4)) p2) pos) (tBk r te):=by
 intro pins s σ H Q I h;refine Subscript_ (thn (he pins s σ H _ I h) fun v s1 ⟨x,H1,I1,r1,q1⟩=>?_);refine wpAny_Slice ?_;rw [evalPart_none];refine wpAny_pure ?_;refine wpAny_pure ?_;have hs1:PO X (some (.UnaryOp .USub (.Constant (.int 1) 0 p3) p4)) (vh (tUn (rU fun i=>.int (-i)) (tC (.int 1)))):=dB (vp sf ai);refine thn (hs1 pins s1 σ H1 (fun o H'=>o=some (-1)/\r x H' Q) I1 ⟨1,rfl,_,rfl,rfl,q1⟩) fun vs s2 ⟨o,H2,I2,ps,ho,q2⟩=>?_;subst ho;cases ps with
 | int i t =>
   have I4:Inv X pins σ H2 { s2 with heap:=s2.heap.push { cls:=.type "slice",data:=.fields #[.none,.none,.int (-1) t] } }:=I2.kept (t':=s2.toks) fun b ob q=>Heap.get?_push_of_some _ q;obtain ⟨T,id,hT,ht,hg⟩:=hr pins { s2 with heap:=s2.heap.push { cls:=.type "slice",data:=.fields #[.none,.none,.int (-1) t] } } σ H2 x v t s2.heap.objs.size Q I4 r1 (Heap.IsSliceOf.new ..) q2;show wpAny (model X.prog X.w) X.A (subscriptTail e (.Slice none none (some (.UnaryOp .USub (.Constant (.int 1) 0 p3) p4)) p2) v (.ref s2.heap.objs.size)) (EP X pins σ Q) X.xe { s2 with heap:=s2.heap.push { cls:=.type "slice",data:=.fields #[.none,.none,.int (-1) t] } };exact tail_any (ops:=[v,.ref s2.heap.objs.size]) ht hT hg (by with_unfolding_all rfl)
def yn (K:PySem.W.Frag):V->Hp->VK->Prop:=fun x H Q=>∃ a xs,x=.ref a/\SqT K H a xs/\∀ p,H p=none->Q (.ref p) (upd H p (.tup xs.reverse))
theorem Vals.rev {xs:List V} {us:List Value} (r:Vals xs us):Vals xs.reverse us.reverse:=by
 induction r with
 | nil=>exact .nil
 | cons r1 r2 ih=>rw [List.reverse_cons,List.reverse_cons];exact ih.append (.cons r1 .nil)
theorem wj:BkR X (yn X.K):=by
 intro pins s σ H x v t sl Q I rx hs h;obtain ⟨a,xs,rfl,hx,q⟩:=h;cases rx;obtain ⟨its,r,ht,hz⟩:=I.tuple hx;have hlen:its.toArray.size=xs.length:=by rw [List.size_toArray];exact r.length.symm
 refine ⟨"tuple",_,PyProof.Rows.slot_tuple_getitem.lookup,ht.typeIs,?_⟩;refine HT.getItem_tuple_back ht hs ?_ (by rw [hlen];exact hz);refine ⟨.ref s.heap.objs.size,_,I.laid (t':=s.toks) (o:=.tup xs.reverse) (fun b ob q=>Heap.get?_push_of_some _ q) (Nat.le_refl _) ?_,rfl,q _ (I.hok.fresh (Nat.le_refl _))⟩;exact ⟨by rw [List.length_reverse];exact hz,_,0,r.rev,Heap.get?_push_size _ rfl⟩
end
end L2
namespace L2
open PySem PySem.Spec PySem.Calls PyProof.Rows
section
variable {X:Cx}
def xD (K:PySem.W.Frag):R2:=fun x y H Q=>∃ a b xs ys,x=.ref a/\y=.ref b/\SqL K H a xs/\SqL K H b ys/\xs.length+ys.length<=sizeLine/\∀ p,H p=none->Q (.ref p) (upd H p (.lst (xs++ys)))
theorem uF:OpR X (binaryOp .Add) (xD X.K):=by
 intro pins s σ H x y v u Q I rx ry h;obtain ⟨a,b,xs,ys,rfl,rfl,ha,hb,hz,q⟩:=h;cases rx;cases ry;obtain ⟨its,r1,p1,_⟩:=I.list ha;obtain ⟨its2,r2,p2,_⟩:=I.list hb;have l1:=r1.length;have l2:=r2.length;obtain ⟨⟨cls,dd,data,sl⟩,ho,hc,n,hd⟩:=p1.isList;obtain ⟨⟨cls2,dd2,data2,sl2⟩,ho2,hc2,n2,hd2⟩:=p2.isList;simp only at hc hd hc2 hd2;subst hc hd hc2 hd2;have e:its.toArray++its2.toArray=(its++its2).toArray:=by simp
 refine concat_meets ⟨_,ho,rfl⟩ ⟨_,ho2,rfl⟩ noFill_list_add seq_list_add PySem.F.slot_list_add PySem.F.entry_list_add (PySem.F.args_list_add_2 _ _) (list_addW a b its.toArray its2.toArray n n2 dd dd2 sl sl2 (by rw [List.size_toArray,List.size_toArray];omega)) ⟨ho,ho2,?_⟩;rw [e];refine ⟨.ref s.heap.objs.size,_,I.laid (t':=s.toks) (o:=.lst (xs++ys)) (fun b o e=>Heap.get?_push_of_some _ e) (Nat.le_refl _) ?_,rfl,q _ (I.hok.fresh (Nat.le_refl _))⟩;exact ⟨by rw [List.length_append];exact hz,its++its2,0,r1.append r2,Heap.get?_push_size _ rfl⟩
end
end L2
namespace L2
open PySem PySem.Spec PySem.Calls PyProof.Rows
def oQ (z:Str) (n:Nat):Str:=⟨(List.replicate n z.cps).foldl (·++·) #[]⟩
theorem nO (c:Nat):∀ (n:Nat) (a:Array Nat),(List.replicate n #[c]).foldl (·++·) a=a++(List.replicate n c).toArray
 | 0,a=>by simp
 | n+1,a=>by
   rw [List.replicate_succ,List.foldl_cons,nO c n,List.replicate_succ,Array.append_assoc];congr 1;simp
theorem kR (c n:Nat):oQ ⟨#[c]⟩ n=⟨(List.replicate n c).toArray⟩:=by
 unfold oQ;rw [nO];simp
theorem fP (c n:Nat):(oQ ⟨#[c]⟩ n).length=n:=by
 rw [kR];show (List.replicate n c).toArray.size=n;simp
section
variable {X:Cx}
def xy:R2:=fun x y H Q=>∃ (c:Nat) (n:Int),x=.str ⟨#[c]⟩/\y=.int n/\1<=n/\n<=1000/\Q (.str (oQ ⟨#[c]⟩ n.toNat)) H
theorem um:OpR X (binaryOp .Mult) xy:=by
 intro pins s σ H x y v u Q I rx ry h;obtain ⟨c,n,rfl,rfl,h1,h2,q⟩:=h;obtain ⟨t,rfl⟩:=rx;obtain ⟨t',rfl⟩:=ry;have hlen:(⟨#[c]⟩:Str).length=1:=rfl;refine PySem.P.mul_str ?_ ?_ ?_ ?_
 · rw [decide_eq_false (by omega),decide_eq_false (by omega)];rfl
 · intro _ _;rw [hlen]
   have:(1:Int)<=(2 ^ 63 - 1) / n:=by
    rw [Int.le_ediv_iff_mul_le (by omega)];omega
   show ¬ ((1:Nat):Int) > (2 ^ 63 - 1) / n;omega
 · intro _ _;rw [hlen,Nat.one_mul];have:sizeLine=16777216:=sizeLine_eq;exact decide_eq_false (by omega)
 · rw [if_neg (by omega)];by_cases hn:n=1
   · subst hn;rw [if_pos (by rfl)];exact ⟨.str ⟨#[c]⟩,H,I,⟨_,rfl⟩,by rw [show oQ ⟨#[c]⟩ (1:Int).toNat=⟨#[c]⟩ from kR c 1] at q;exact q⟩
   · rw [if_neg (by rw [hlen];simp;omega)];refine ⟨?_,⟨.str (oQ ⟨#[c]⟩ n.toNat),H,I.tok _,⟨_,rfl⟩,q⟩⟩;show (oQ ⟨#[c]⟩ n.toNat).length<=sizeLine;have:sizeLine=16777216:=sizeLine_eq;rw [fP];omega
def wT (i j:Int):Prop:=0<j/\j<2 ^ 62
theorem tw:OpR X (binaryOp .FloorDiv) (rI wT fun i j=>.int (i / j)):=opI fun i j _ _ _ _ _ hc q=>by
 have h1:(0:Int)<j:=hc.1;have h2:j<2 ^ 62:=hc.2;refine floordiv_int (by omega) (by rw [Int.fdiv_eq_ediv_of_nonneg i (by omega)];exact q) (.inl (PyProof.noPylong_of_log2 ?_));have:j.natAbs.log2<62:=(Nat.log2_lt (by omega)).mpr (by omega);omega
def isStr (z:Str):Value->Bool
 | .str y _=>y == z
 | _=>false
def uf (K:PySem.W.Frag):V->List V->Hp->VK->Prop:=fun x vs H Q=>∃ (l:Addr) (zs:List Str) (z:Str) (j:Nat),x=.ref l/\vs=[.str z]/\SqL K H l (zs.map V.str)/\zs[j]?=some z/\(∀ i,i<j->zs[i]?≠some z)/\zs.length<=100000/\Q (.int (j:Nat)) H
theorem qV:MtM X "list.index" (uf X.K):=by
 intro pins s σ H x vs v us Q I rx rv h;obtain ⟨l,zs,z,j,rfl,rfl,hS,hj,hno,hz,q⟩:=h;cases rx;obtain ⟨u,rfl,t,rfl⟩:=rv.one;obtain ⟨its,r,pl,_⟩:=I.list hS;have hlen:=r.length;rw [List.length_map] at hlen;obtain ⟨⟨cls,dd,data,sl⟩,ho,hc,n,hd⟩:=pl.isList;simp only at hc hd;subst hc hd;have hjl:j<zs.length:=(List.getElem?_eq_some_iff.mp hj).1
 have get:∀ m,m<zs.length->∃ y t',its[m]?=some (.str y t')/\zs[m]?=some y:=fun m hm=>by
  obtain ⟨v,hv,rv⟩:=r.get (i:=m) (x:=.str zs[m]) (by rw [List.getElem?_map,List.getElem?_eq_getElem hm];rfl);obtain ⟨t',rfl⟩:=rv;exact ⟨_,t',hv,List.getElem?_eq_getElem hm⟩
 refine call_meets PySem.F.slot_list_index ⟨_,ho,rfl⟩ PySem.F.entry_list_index (PySem.F.args_list_index_2 _ _)
  (SeqAt.list_indexAt l its.toArray n dd sl (.str z t) (isStr z) j (by rw [List.size_toArray];omega) (by omega) ?_ ?_) ⟨ho,fun y hy=>?_,⟨.int (j:Nat),H,I.tok _,⟨_,rfl⟩,q⟩⟩
 · obtain ⟨y,t',h1,h2⟩:=get j hjl;rw [hj] at h2;cases h2
   have h3:its.toArray[j]'(by rw [List.size_toArray];omega)=.str z t':=by
    rw [List.getElem?_eq_getElem (by omega)] at h1;simpa using h1
   rw [h3];show (z == z)=true;simp
 · intro m hm hlt;obtain ⟨y,t',h1,h2⟩:=get m (by omega)
   have h3:its.toArray[m]'hm=.str y t':=by
    rw [List.getElem?_eq_getElem (by omega)] at h1;simpa using h1
   rw [h3];show (y == z)=false;refine Bool.eq_false_iff.mpr fun e=>hno m hlt ?_;rw [h2,beq_iff_eq.mp e]
 · have hy':y∈its:=by simpa using hy
   obtain ⟨m,hm,rfl⟩:=List.getElem_of_mem hy';obtain ⟨y,t',h1,h2⟩:=get m (by omega);rw [List.getElem?_eq_getElem hm] at h1;have h3:=Option.some.inj h1;rw [h3];exact SeqAt.EqAt.str_str _ _ _ _
end
end L2
namespace BB
open PySem L2
structure aT (ks:List (Str×Int)):Prop where
 ne:1<=ks.length
 le:ks.length<=8
 low:∀ k∈ks,Low k.1/\k.1.length<=8
 num:∀ k∈ks,0<=k.2/\k.2<=3
 zero:∃ k∈ks,k.2=0
 nd:∀ (i j:Nat) (k l:Str×Int),ks[i]?=some k->ks[j]?=some l->k.1=l.1->i=j
mutual
/-- a pattern over kinds,its calls of so many states and kids -/
def Th.FitS (ks:List (Str×Int)) (S C:Int):Th->Prop
 | .knot n ts=>(n,(ts.length:Int))∈ks/\FitSs ks S C ts
 | .call s k=>0<=s/\s<S/\0<=k/\k<C
def FitSs (ks:List (Str×Int)) (S C:Int):List Th->Prop
 | []=>True
 | t::ts=>t.FitS ks S C/\FitSs ks S C ts
end
theorem FitSs.of {ks:List (Str×Int)} {S C:Int}:∀ {ts:List Th},(∀ t∈ts,t.FitS ks S C)->FitSs ks S C ts
 | [],_=>by rw [FitSs];trivial
 | t::ts,h=>by
   rw [FitSs];exact ⟨h t (List.mem_cons_self ..),FitSs.of fun u hu=>h u (List.mem_cons_of_mem _ hu)⟩
theorem mh {ts:List Th} {n:Nat} (h:∀ t∈ts,t.tall<=n):aI ts<=n:=by
 induction ts with
 | nil=>rw [aI];exact Nat.zero_le _
 | cons t ts ih =>
   rw [aI];have h1:=h t (List.mem_cons_self ..);have h2:=ih fun u hu=>h u (List.mem_cons_of_mem _ hu);omega
def SameB (l:Addr) (H H':Hp):Prop:=∀ b o,b≠l->H b=some o->H' b=some o
theorem SameB.refl {l:Addr} {H:Hp}:SameB l H H:=fun _ _ _ e=>e
theorem SameB.trans {l:Addr} {A B C:Hp} (h:SameB l A B) (k:SameB l B C):SameB l A C:=fun b o hb e=>k b o hb (h b o hb e)
theorem SameB.of {l:Addr} {H H':Hp} (h:L2.Same H H'):SameB l H H':=fun b o _ e=>h b o e
theorem SameB.set {l:Addr} {H:Hp} {o:HO}:SameB l H (upd H l o):=fun b o hb e=>by rw [ak hb];exact e
theorem SameB.kt {l:Addr} {H H':Hp} {xs:List V} (h:SameB l H H') (e:H l=some (.lst xs)):KT H H':=fun b ys eb=>h b _ (cK eb e (by intro z;cases z)) eb
theorem SameB.free {l p:Addr} {H H':Hp} {o:HO} (h:SameB l H H') (e:H' l=some o) (hp:H' p=none):H p=none:=by
 cases hh:H p with
 | none=>rfl
 | some o' =>
   by_cases z:p=l
   · rw [z,e] at hp;cases hp
   · rw [h p o' z hh] at hp;cases hp
def RowAt (H:Hp) (row:List Th) (a:Addr):Prop:=∃ as:List Addr,H a=some (.tup (as.map V.ref))/\Ats H row as
theorem RowAt.mono {H H':Hp} (k:KT H H') {row:List Th} {a:Addr} (h:RowAt H row a):RowAt H' row a:=by
 obtain ⟨as,h1,h2⟩:=h;exact ⟨as,k _ _ h1,h2.mono k⟩
structure t9 (ins outs:List (Str×Int)) (S:Int) (deep:Nat) (row:List Th):Prop where
 len:row.length=ins.length
 fit:∀ (j:Nat) (t:Th) (k:Str×Int),row[j]?=some t->ins[j]?=some k->t.FitS outs S k.2/\t.tall<=deep+1
structure BookAt (H:Hp) (ins outs:List (Str×Int)) (head:Th) (rows:List (List Th)) (r ia oa ha ra:Addr) (ias oas ras:List Addr):Prop where
 bk:H r=some (.tup [.ref ia,.ref oa,.ref ha,.ref ra])
 inE:H ia=some (.tup (ias.map V.ref))
 inK:KsAt H ins ias
 outE:H oa=some (.tup (oas.map V.ref))
 outK:KsAt H outs oas
 hd:At H head ha
 rl:H ra=some (.tup (ras.map V.ref))
 rw:Paired (RowAt H) rows ras
theorem BookAt.mono {H H':Hp} (k:KT H H') {ins outs:List (Str×Int)} {head:Th} {rows:List (List Th)} {r ia oa ha ra:Addr} {ias oas ras:List Addr} (b:BookAt H ins outs head rows r ia oa ha ra ias oas ras):BookAt H' ins outs head rows r ia oa ha ra ias oas ras :=
 ⟨k _ _ b.bk,k _ _ b.inE,b.inK.mono k,k _ _ b.outE,b.outK.mono k,b.hd.mono k,k _ _ b.rl,P2.mp (fun _ _ e=>e.mono k) b.rw⟩
structure BookOk (ins outs:List (Str×Int)) (S:Int) (deep:Nat) (head:Th) (rows:List (List Th)):Prop where
 len:(rows.length:Int)=S
 row:∀ row∈rows,t9 ins outs S deep row
 hdf:head.FitS outs S 1
 hdt:head.tall<=2
def dz:Str:=Str.ofString "aeio"
def gum:Str:=Str.ofString "gumleafs"
theorem uV:Low gum:=by unfold Low;decide +kernel
theorem jm {z:Str} {n:Nat} (h:n<=z.length):(cw z none (some (n:Int))).cps.toList=z.cps.toList.take n/\(cw z none (some (n:Int))).length=n:=by
 have hz:z.cps.toList.length=z.length:=Array.length_toList
 have e:(cw z none (some (n:Int))).cps.toList=z.cps.toList.take n:=by
  show (jN z.cps.toList none (some (n:Int))).toArray.toList=_;rw [List.toList_toArray];unfold jN;rw [HT.sIx_nat,HT.sIx_none,hz,Nat.min_eq_left h];simp
 refine ⟨e,?_⟩;show (cw z none (some (n:Int))).cps.size=n;rw [<- Array.length_toList,e,List.length_take,hz];omega
def iM (begun:Bool) (c0:Nat) (stem:Str) (at':Int) (L:List Nat) (p:Nat):Str :=
 if begun then oQ ⟨#[c0]⟩ (1+p) else cw stem none (some at')++⟨#[L.getD p 0]⟩++cw stem (some at') none
theorem vQ {begun:Bool} {c0:Nat} {stem:Str} {at':Int} {L:List Nat} (hL:∀ (p r:Nat) (c:Nat),L[p]?=some c->L[r]?=some c->p=r) {p r:Nat} (hp:p<L.length) (hr:r<L.length) (h:iM begun c0 stem at' L p=iM begun c0 stem at' L r):p=r:=by
 unfold iM at h;cases begun with
 | true =>
   simp only [if_true] at h;have:=congrArg Str.length h;rw [fP,fP] at this;omega
 | false =>
   simp only [Bool.false_eq_true,if_false] at h;have h2:=congrArg (fun z:Str=>z.cps.toList) h;have h3:((cw stem none (some at')).cps++#[L.getD p 0]++(cw stem (some at') none).cps).toList=((cw stem none (some at')).cps++#[L.getD r 0]++(cw stem (some at') none).cps).toList:=h2;rw [Array.toList_append,Array.toList_append,Array.toList_append,Array.toList_append] at h3;have h4:=List.append_cancel_right h3;have h5:=List.append_cancel_left h4;have h6:L.getD p 0=L.getD r 0:=by simpa using h5
   refine hL p r (L.getD r 0) ?_ ?_
   · rw [<- h6,List.getD,List.getElem?_eq_getElem hp];rfl
   · rw [List.getD,List.getElem?_eq_getElem hr];rfl
theorem wv {begun:Bool} {c0:Nat} {stem:Str} {at':Int} {L:List Nat} (hc:97<=c0/\c0<=122) (hs:Low stem) (hL:∀ c∈L,97<=c/\c<=122) {p:Nat} (hp:p<L.length):Low (iM begun c0 stem at' L p):=by
 unfold iM;cases begun with
 | true =>
   simp only [if_true];rw [kR];intro c hc';have hc'':c∈List.replicate (1+p) c0:=by simpa using hc'
   rw [List.eq_of_mem_replicate hc''];exact hc
 | false =>
   simp only [Bool.false_eq_true,if_false];have h1:L.getD p 0∈L:=by rw [List.getD,List.getElem?_eq_getElem hp];exact List.getElem_mem hp
   have h2:=hL _ h1;exact qy (qy (my hs _ _) (uH h2.1 h2.2)) (my hs _ _)
structure oW (letters:Str):Prop where
 len:letters.length=4
 low:Low (letters++dz)
 inj:∀ (p r c:Nat),(letters++dz).cps.toList[p]?=some c->(letters++dz).cps.toList[r]?=some c->p=r
theorem o0 {letters:Str} (h1:letters.length=4) (h2:((letters++dz).cps.toList.all fun c=>decide (97<=c/\c<=122))=true) (h3:(letters++dz).cps.toList.Nodup):oW letters:=by
 refine ⟨h1,fun c hc=>of_decide_eq_true (List.all_eq_true.mp h2 c hc),fun p r c hp hr=>?_⟩;obtain ⟨p1,p2⟩:=List.getElem?_eq_some_iff.mp hp;obtain ⟨r1,r2⟩:=List.getElem?_eq_some_iff.mp hr;exact (List.getElem_inj h3).mp (p2.trans r2.symm)
theorem qp:oW (Str.ofString "bdhk"):=o0 (by decide +kernel) (by decide +kernel) (by decide +kernel)
theorem uI:oW (Str.ofString "npwz"):=o0 (by decide +kernel) (by decide +kernel) (by decide +kernel)
end BB
namespace BB
open PySem L2
def Bk (H:Hp) (ins outs:List (Str×Int)) (head:Th) (rows:List (List Th)) (r:Addr):Prop:=∃ ia oa ha ra ias oas ras,BookAt H ins outs head rows r ia oa ha ra ias oas ras
theorem Bk.mono {H H':Hp} (k:KT H H') {ins outs:List (Str×Int)} {head:Th} {rows:List (List Th)} {r:Addr} (b:Bk H ins outs head rows r):Bk H' ins outs head rows r:=by
 obtain ⟨ia,oa,ha,ra,ias,oas,ras,b⟩:=b;exact ⟨ia,oa,ha,ra,ias,oas,ras,b.mono k⟩
end BB
namespace L2
open PySem PySem.Spec PySem.Calls PyProof.Rows PySem.SeqAt
end L2
namespace BB
open PySem L2
structure Job where
 p:Th
 k:Th
 r:Nat
 o:Th
def jos (js:List Job):List Th:=js.map (·.o)
theorem lj (l:List Th):aw l.reverse=aw l:=by
 induction l with
 | nil=>rfl
 | cons t l ih=>rw [List.reverse_cons,ba,ih,aw,aw,aw];omega
end BB
namespace L2
open PySem PySem.Spec PyProof.Rows
section
variable {X:Cx} {e:Expr} {te:TE} {p p2 pos pos2:Pos}
def xA (K:PySem.W.Frag) (a:Addr) (n:Nat):It:=⟨fun i H=>i<n/\∃ xs,SqT K H a xs/\xs.length=n,fun i H x H'=>H'=H/\∀ xs,SqT K H a xs->xs[n - 1 - i]?=some x,fun i _=>i=n⟩
theorem qZ {P:Program} {w:World} {K:PySem.W.Frag} {tg:Expr} (a it:Addr) (n:Nat):Turn P w K tg (xA K a n) [it] it (fun i h=>IsRevT h it a ((n:Int) - 1 - (i:Nat))) where
 mem:=by simp
 obj:=fun i h st b hb=>by
  have e:b=it:=by simpa using hb
  subst e;obtain ⟨o,e,c,d⟩:=st;exact ⟨o,e,fun v z=>by rw [d] at z;cases z⟩
 keep:=fun i h h' st k=>st.at fun o e=>k it (by simp) o e
 item:=by
  intro X hP hw hK hc i pins s σ H E I hf st hg;subst hP hw hK;obtain ⟨hi,xs,hq,hx⟩:=hg;obtain ⟨its,rv,p,hz⟩:=I.tuple hq;have hl:=rv.length;have hn:=fe;obtain ⟨x,hx'⟩:∃ x,xs[n - 1 - i]?=some x:=⟨_,List.getElem?_eq_getElem (by omega)⟩;obtain ⟨u,hu,ru⟩:=rv.get hx';obtain ⟨f0,f1,f2,f3,f4,f5⟩:=hf it (by simp);have e1:(n:Int) - 1 - (i:Nat)=((n - 1 - i:Nat):Int):=by omega
  rw [e1] at st;refine bb_rev_next st p (x:=u) (by simpa using hu) (by rw [List.size_toArray];omega) fun h' tk st' sb=>?_;have I1:Inv X pins σ H { s with heap:=h',toks:=tk }:=I.turned (t':=tk) (fun b o hb e=>(sb.2 b hb).trans e) f0 f1 f3 f4 f5;have e2:((n - 1 - i:Nat):Int) - 1=(n:Int) - 1 - ((i+1:Nat):Int):=by omega
  rw [e2] at st';obtain ⟨o,e,c,d⟩:=id st';exact ⟨u,rfl,kg (s:={ s with heap:=h',toks:=tk }) e c d (by decide) ⟨x,H,I1,ru,⟨rfl,fun ys hy=>by rw [I.tuple_inj hy hq];exact hx'⟩,st',fun b hb=>(hf b hb).1⟩⟩
 done:=by
  intro X hP hw hK hc i pins s σ H E I hf st hg;subst hP hw hK;have hg':i=n:=hg;subst hg';obtain ⟨f0,f1,f2,f3,f4,f5⟩:=hf it (by simp);rw [show (i:Int) - 1 - (i:Nat)=-1 by omega] at st;exact bb_rev_end (I.ok.hd hc) st fun h' tk eb=>⟨rfl,I.turned (t':=tk) (fun b o hb e=>eb b o hb e) f0 f1 f3 f4 f5⟩
 self:=fun _ _ _ _ _ st h=>bb_rev_iter st h
def xv (K:PySem.W.Frag) (tl:TE):TI:=fun σ H R=>tl σ H fun x H1=>∃ a xs,x=.ref a/\SqT K H1 a xs/\R (xA K a xs.length) H1
theorem u7 {tg:Expr} (g2:Gl X "reversed") (m2:X.mg "reversed"=none) (he:PE X e te) (h2:starEach [e] X.env=[(false,eval e X.env)]:=by rfl):PI X tg (.Call (.Name "reversed" p2) [e] [] pos2) (xv X.K te):=by
 intro pins s σ H R I h;refine wpAny_Call_Name_kw (gW I g2 m2 boot_reversed (PyProof.Rows.callWith_type1 ?_ h2 rfl));rw [h2];show wpAny _ _ (spliced ((false,eval e X.env)::[])) _ _ s;refine Calls.spliced_cons (thn (he pins s σ H _ I h) fun u s1 ⟨x,H1,I1,r1,a,ys,ex,hq,q⟩=>Calls.spliced_nil ?_);subst ex;cases r1;obtain ⟨its,rv,p,hz⟩:=I1.tuple hq;have hl:=rv.length;have hn:=fe;refine bb_call_rev_tuple p (by rw [List.size_toArray];omega) fun tk=>?_
 have hit:IsRevT (s1.heap.push (revTup a ((its.toArray.size:Int) - 1))) s1.heap.objs.size a ((ys.length:Int) - 1 - ((0:Nat):Int)):=by
  rw [hl,show (its.length:Int) - 1 - ((0:Nat):Int)=(its.toArray.size:Int) - 1 by rw [List.size_toArray];omega];exact ⟨_,Heap.get?_push_size _ rfl,rfl,rfl⟩
 refine bb_rev_iter (s:={ s1 with heap:=s1.heap.push (revTup a ((its.toArray.size:Int) - 1)),toks:=tk }) hit ?_;refine ⟨s1.heap.objs.size,[s1.heap.objs.size],_,_,H1,rfl,I1.kept (t':=tk) fun b o e=>Heap.get?_push_of_some _ e,qZ a _ ys.length,hit,fun b hb=>?_,q⟩;have e:b=s1.heap.objs.size:=by simpa using hb
 subst e;exact I1.fpOk (Nat.le_refl _) (I1.hok.fresh (Nat.le_refl _))
end
end L2
namespace BB
open PySem L2
theorem gd {α:Type} {F:Hp->α->Addr->Prop} {js:List (Option Nat)} {g:TG} {tt:TT} {te:TE} {σ:St} {J:It} {H:Hp} {xs:List V} {fin:Addr->Hp->Prop} (zs:List α) (hF:∀ H1 H2 z p,KT H1 H2->F H1 z p->F H2 z p) (hz:zs.length=xs.length) (hn:xs.length<=1000000)
 (hgo:∀ i H2,L2.Same H H2->i<xs.length->J.go i H2) (hstop:∀ H2,L2.Same H H2->J.stop xs.length H2) (hyld:∀ (i:Nat) H2 x H3,L2.Same H H2->i<xs.length->J.yld i H2 x H3->H3=H2/\xs[i]?=some x)
 (hb:∀ (i:Nat) x z H2 (R:VK) (W':Hp->Prop),xs[i]?=some x->zs[i]?=some z->L2.Same H H2->(∀ H3 p,L2.Same H2 H3->F H3 z p->R (.ref p) H3)->g x (cσ js σ) H2 fun σ2 H3=>tt σ2 H3 fun b H4=>if b=true then te σ2 H4 R else W' H4)
 (hfin:∀ D H' as,H D=none->L2.Same H H'->H' D=some (.lst (as.map V.ref))->Paired (F H') zs as->fin D H') :
 ∀ D,H D=none->∃ (n:Nat) (W:Nat->Hp->Prop),W 0 (upd H D (.lst []))/\ft js g tt te σ J D n W fun H'=>fin D H':=by
 intro D hD;refine ⟨xs.length,fun i H'=>i<=xs.length/\L2.Same H H'/\∃ as:List Addr,H' D=some (.lst (as.map V.ref))/\Paired (F H') (zs.take i) as,⟨Nat.zero_le _,af hD _,[],by rw [ad];rfl,.nil⟩,?_⟩;rintro i H' ⟨hi,s1,as,e1,hp⟩;by_cases hlt:i<xs.length
 · refine .inr ⟨hlt,hgo i H' s1 hlt,fun v H1 hy=>?_⟩;obtain ⟨e,hx⟩:=hyld i H' v H1 s1 hlt hy;subst e;obtain ⟨z,hz'⟩:∃ z,zs[i]?=some z:=⟨_,List.getElem?_eq_getElem (by omega)⟩;have hl:(zs.take i).length=as.length:=Paired.length hp;rw [List.length_take] at hl;refine hb i v z _ _ _ hx hz' s1 fun H3 p s3 hF3=>⟨_,s3 _ _ e1,?_,hlt,aF (s1.trans s3) hD,as++[p],?_,?_⟩
   · rw [List.length_map];have:sizeLine=16777216:=sizeLine_eq;omega
   · rw [ad,List.map_append];rfl
   · have kt:KT H3 (upd H3 D (.lst (as.map V.ref++[.ref p]))):=bc (s3 _ _ e1);rw [take_snoc hz'];exact P2.append (P2.mp (fun x y e=>hF _ _ _ _ ((Same.kt s3).trans kt) e) hp) (.cons (hF _ _ _ _ kt hF3) .nil)
 · have hi':i=xs.length:=by omega
   subst hi';refine .inl ⟨hstop _ s1,hfin D H' as hD s1 e1 ?_⟩;rw [List.take_of_length_le (by omega)] at hp;exact hp
end BB
namespace L2
open PySem PySem.Spec PyProof.Rows
end L2
namespace L2
open PySem
theorem us1 {α:Type}:∀ {us:List α},us.length=1->∃ a,us=[a]
 | [a],_=>⟨a,rfl⟩
theorem us2 {α:Type}:∀ {us:List α},us.length=2->∃ a b,us=[a,b]
 | [a,b],_=>⟨a,b,rfl⟩
theorem us3 {α:Type}:∀ {us:List α},us.length=3->∃ a b c,us=[a,b,c]
 | [a,b,c],_=>⟨a,b,c,rfl⟩
theorem us4 {α:Type}:∀ {us:List α},us.length=4->∃ a b c d,us=[a,b,c,d]
 | [a,b,c,d],_=>⟨a,b,c,d,rfl⟩
theorem us5 {α:Type}:∀ {us:List α},us.length=5->∃ a b c d e,us=[a,b,c,d,e]
 | [a,b,c,d,e],_=>⟨a,b,c,d,e,rfl⟩
end L2
namespace PySem
open Sem (wp)
section
variable {prog:Program} {w:World} {K:Type} [DecidableEq K] {knd:HeapKind prog w K} {A:Around} {E:Value->Shared->Prop} {s:Shared}
end
end PySem
namespace L2
open PySem PySem.Spec PyProof.Rows BB
end L2
namespace BB
open PySem L2
end BB
namespace PySem
open Sem (wp)
section
variable {prog:Program} {w:World} {A:Around} {E:Value->Shared->Prop} {s:Shared} {I:Addr} {fp wr:List Addr} {G:Array GenState->Array GenState->Prop} {n:Nat} {P:Nat->Value->Prop} {St:Nat->Shared->Prop}
end
end PySem
namespace L2
open PySem PySem.Spec PyProof.Rows
section
variable {X:Cx} {o e:Expr} {to te:TE} {p2 pos2 apos cpos:Pos}
end
end L2
namespace PySem
open Sem (wp)
namespace F
end F
section
variable {prog:Program} {w:World} {A:Around} {E:Value->Shared->Prop} {s:Shared} {a:Addr} {xs:Array Value} {k:Nat}
end
end PySem
namespace L2
open PySem PySem.Spec PyProof.Rows
section
variable {X:Cx} {pins:List (Addr×Obj)} {σ:St}
end
end L2
namespace BB
open PySem L2
end BB
namespace PySem
section
variable {prog:Program} {w:World} {A:Around} {E:Value->Shared->Prop} {s:Shared}
theorem bb_zip_next0 {z TI TO i1 i2 l1 l2:Addr} {k:Nat} {xs ys:Array Value} {x y a b:Value} {Q:Option Value->Shared->Prop} (D:ZipApart z TI TO i1 i2 l1 l2)
 (hz:IsZip s.heap z TI TO .none) (hTI:IsPair s.heap TI (.ref i1) (.ref i2)) (hTO:IsPair s.heap TO a b)
 (h1:s.heap.IsTupleIter i1 l1 k) (h2:s.heap.IsTupleIter i2 l2 k) (hl1:s.heap.IsTuple l1 xs) (hl2:s.heap.IsTuple l2 ys) (hx:xs[k]?=some x) (hy:ys[k]?=some y)
 (hQ:∀ h',IsZip h' z TI TO (rawInt s.heap.objs.size)->IsPair h' TO x y->h'.IsTupleIter i1 l1 (k+1)->h'.IsTupleIter i2 l2 (k+1)->IsPair h' s.heap.objs.size x y->h'.objs.size=s.heap.objs.size+1 →
  (∀ c o,c≠z->c≠TO->c≠i1->c≠i2->s.heap.get? c=some o->h'.get? c=some o)->Q (some (.ref s.heap.objs.size)) { s with heap:=h' }) :
 wpAny (model prog w) A (pyNext (.ref z)) Q E s:=by
 have hT:s.TypeIs (.ref z) "zip":=⟨_,hz,rfl⟩;unfold pyNext;refine wpAny_bind (wpAny_attempt (wpAny_callSpecial?_slot (name:=Str.ofString "__next__") hT F.slot_zip_next (wpAny_call_entry F.slot_zip_next hT F.entry_zip_next ?_ (F.args_zip_next_1 _))));exact bb_zip_itemA D hz hTI hTO h1 h2 hl1 hl2 hx hy fun h' a1 a2 a3 a4 a5 a6 a7=>wpAny_pure (hQ h' a1 a2 a3 a4 a5 a6 a7)
end
end PySem
namespace L2
open PySem PySem.Spec PyProof.Rows
def Itz (K:PySem.W.Frag) (a b:Addr):It:=⟨fun i H=>∃ xs ys x y,SqT K H a xs/\SqT K H b ys/\xs[i]?=some x/\ys[i]?=some y,fun i H v H'=>∃ p x y,H p=none/\v=.ref p/\H'=upd H p (.tup [x,y])/\(∀ xs,SqT K H a xs->xs[i]?=some x)/\(∀ ys,SqT K H b ys->ys[i]?=some y),fun i H=>∃ xs ys,SqT K H a xs/\SqT K H b ys/\(xs.length<=i∨ys.length<=i)⟩
structure ZTn (z TI TO i1 i2 a b:Addr) (i:Nat) (h:Heap):Prop where
 ap:ZipApart z TI TO i1 i2 a b
 zip:IsZip h z TI TO .none
 hTI:IsPair h TI (.ref i1) (.ref i2)
 hTO:∃ u v,IsPair h TO u v
 h1:h.IsTupleIter i1 a i
 h2:h.IsTupleIter i2 b i
theorem rS {P:Program} {w:World} {K:PySem.W.Frag} {elts:List Expr} {k1} {pos:Pos} (a b z TI TO i1 i2:Addr):Turn P w K (.Tuple elts k1 pos) (Itz K a b) [z,TI,TO,i1,i2] z (ZTn z TI TO i1 i2 a b) where
 mem:=by simp
 obj:=fun i h st c hc=>by
  obtain ⟨D,hz,hTI,⟨u,v,hTO⟩,⟨o1,a1,a2,a3⟩,⟨o2,b1,b2,b3⟩⟩:=st;simp only [List.mem_cons,List.not_mem_nil,or_false] at hc;rcases hc with rfl | rfl | rfl | rfl | rfl
  · exact ⟨_,hz,fun v z=>by cases z⟩
  · exact ⟨_,hTI,fun v z=>by cases z⟩
  · exact ⟨_,hTO,fun v z=>by cases z⟩
  · exact ⟨o1,a1,fun v z=>by rw [a3] at z;cases z⟩
  · exact ⟨o2,b1,fun v z=>by rw [b3] at z;cases z⟩
 keep:=fun i h h' st k=>by
  obtain ⟨D,hz,hTI,⟨u,v,hTO⟩,⟨o1,a1,a2⟩,⟨o2,b1,b2⟩⟩:=st;exact ⟨D,k _ (by simp) _ hz,k _ (by simp) _ hTI,⟨u,v,k _ (by simp) _ hTO⟩,⟨o1,k _ (by simp) _ a1,a2⟩,⟨o2,k _ (by simp) _ b1,b2⟩⟩
 item:=by
  intro X hP hw hK hc i pins s σ H E I hf st hg;subst hP hw hK;obtain ⟨xs,ys,x,y,hqa,hqb,hx,hy⟩:=hg;obtain ⟨ia,rva,pa,hza⟩:=I.tuple hqa;obtain ⟨ib,rvb,pb,hzb⟩:=I.tuple hqb;obtain ⟨u,hu,ru⟩:=rva.get hx;obtain ⟨v,hv,rv⟩:=rvb.get hy;obtain ⟨D,hz,hTI,⟨ta,tb,hTO⟩,h1,h2⟩:=st
  have lt:∀ c∈[z,TI,TO,i1,i2],c<s.heap.objs.size:=fun c hc=>by
   simp only [List.mem_cons,List.not_mem_nil,or_false] at hc;rcases hc with rfl | rfl | rfl | rfl | rfl
   · exact Heap.lt_size hz
   · exact Heap.lt_size hTI
   · exact Heap.lt_size hTO
   · obtain ⟨o,e,_⟩:=h1;exact Heap.lt_size e
   · obtain ⟨o,e,_⟩:=h2;exact Heap.lt_size e
  refine bb_zip_next0 D hz hTI hTO h1 h2 (show s.heap.IsTuple a ia.toArray from pa) (show s.heap.IsTuple b ib.toArray from pb) (by simpa using hu) (by simpa using hv) fun h1' a1 a2 a3 a4 a5 a6 a7=>?_;refine ⟨_,rfl,wpAny_letOwnedTupleGo_zip a1 fun h2' g1 sb=>?_⟩;replace sb:Heap.SameBut z h1' h2':=sb;have hHn:H s.heap.objs.size=none:=I.hok.fresh (Nat.le_refl _)
  have IA:Inv X pins σ (upd H s.heap.objs.size (.tup [x,y])) { s with heap:=s.heap.push { cls:=.type "tuple",data:=.seq #[u,v] },toks:=s.toks } :=
   I.laid (o:=.tup [x,y]) (fun b ob q=>Heap.get?_push_of_some _ q) (Nat.le_refl _) ⟨by show 2<=sizeLine;decide,[u,v],0,.cons ru (.cons rv .nil),Heap.get?_push_size _ rfl⟩
  have hzT:s.heap.objs.size≠z:=Nat.ne_of_gt (lt z (by simp));refine ⟨.ref s.heap.objs.size,upd H s.heap.objs.size (.tup [x,y]),?_,rfl,⟨_,x,y,hHn,rfl,rfl,fun zs hzs=>by rw [I.tuple_inj hzs hqa];exact hx,fun zs hzs=>by rw [I.tuple_inj hzs hqb];exact hy⟩,?_,fun c hc=>?_⟩
  · have IB:Inv X pins σ (upd H s.heap.objs.size (.tup [x,y])) { s with heap:=h2',toks:=s.toks }:=by
     refine Inv.turnedL (s:={ s with heap:=s.heap.push { cls:=.type "tuple",data:=.seq #[u,v] },toks:=s.toks }) (h':=h2') (fp:=[z,TI,TO,i1,i2]) (t':=s.toks) IA (fun c o hc q=>?_) fun c hc=>?_
     · have n1:c≠z:=fun e=>hc (by simp [e]);have n2:c≠TO:=fun e=>hc (by simp [e]);have n3:c≠i1:=fun e=>hc (by simp [e]);have n4:c≠i2:=fun e=>hc (by simp [e]);rw [sb.2 c n1];by_cases hb2:c=s.heap.objs.size
       · subst hb2;have q':(s.heap.push { cls:=.type "tuple",data:=.seq #[u,v] }).get? s.heap.objs.size=some o:=q;rw [Heap.get?_push_size _ rfl] at q';rw [<- q'];exact a5
       · have q':(s.heap.push { cls:=.type "tuple",data:=.seq #[u,v] }).get? c=some o:=q;rw [Heap.get?_push_ne _ _ _ hb2] at q';exact a7 c o n1 n2 n3 n4 q'
     · obtain ⟨f0,f1⟩:=hf c hc;exact ⟨by rw [ak (Nat.ne_of_lt (lt c hc))];exact f0,f1⟩
    exact IB
  · have sT:∀ c o,c≠z->h1'.get? c=some o->h2'.get? c=some o:=fun c o hc e=>(sb.2 c hc).trans e;refine ⟨D,g1,sT _ _ D.TIz (a7 _ _ D.TIz D.TITO D.TIi1 D.TIi2 hTI),⟨_,_,sT _ _ D.TOz a2⟩,?_,?_⟩
    · obtain ⟨o,e,r⟩:=a3;exact ⟨o,sT _ _ D.i1z e,r⟩
    · obtain ⟨o,e,r⟩:=a4;exact ⟨o,sT _ _ D.i2z e,r⟩
  · rw [ak (Nat.ne_of_lt (lt c hc))];exact (hf c hc).1
 done:=by
  intro X hP hw hK hc i pins s σ H E I hf st hg;subst hP hw hK;obtain ⟨xs,ys,hqa,hqb,hend⟩:=hg;obtain ⟨ia,rva,pa,hza⟩:=I.tuple hqa;obtain ⟨ib,rvb,pb,hzb⟩:=I.tuple hqb;have hla:=rva.length;have hlb:=rvb.length;obtain ⟨D,hz,hTI,hTO,h1,h2⟩:=st;refine bb_zip_done (show X.A.handled=none from I.ok.hd hc) ⟨D,.inl hz,hTI,hTO,h1,h2,pa,pb⟩ ?_ fun h' kp=>⟨rfl,?_⟩
  · rcases hend with h | h
    · exact .inl (by simp;omega)
    · exact .inr (by simp;omega)
  exact I.turnedL (fp:=[z,TI,TO,i1,i2]) (t':=s.toks) (fun c o hc q=>kp c o (fun hm=>hc (by simp only [List.mem_cons,List.not_mem_nil,or_false] at hm ⊢;rcases hm with h | h | h | h <;> simp [h])) q) hf
 self:=fun _ _ _ _ _ st h=>wpAny_pyIter_zip st.zip h
section
variable {X:Cx} {e1 e2:Expr} {t:TA} {p2 pos2:Pos}
def xM (K:PySem.W.Frag) (t:TA):TI:=fun σ H R=>t σ H fun vs H1=>∃ a b,vs=[.ref a,.ref b]/\(∃ xs,SqT K H1 a xs)/\(∃ ys,SqT K H1 b ys)/\R (Itz K a b) H1
theorem v5 {elts:List Expr} {k1} {pos:Pos} (g2:Gl X "zip") (m2:X.mg "zip"=none) (ha:PA X [e1,e2] t)
 (h2:starEach [e1,e2] X.env=(false,eval e1 X.env)::starEach [e2] X.env:=by rfl) (h3:(backTo pos2 (starEach [e2] X.env)).any (·.1)=false:=by rfl):PI X (.Tuple elts k1 pos) (.Call (.Name "zip" p2) [e1,e2] [] pos2) (xM X.K t):=by
 intro pins s σ H R I h;refine wpAny_Call_Name_kw (gW I g2 m2 boot_zip ?_);refine PyProof.Rows.callWith_type1 (thn (ha pos2 pins s σ H _ I h) fun us s2 ⟨vs,H2,I2,r,a,b,ev,⟨xs,hqa⟩,⟨ys,hqb⟩,q⟩=>?_) h2 h3;subst ev;obtain ⟨u1,u2,rfl,r1,r2⟩:=vals2 r;cases r1;cases r2;obtain ⟨ia,rva,pa,hza⟩:=I2.tuple hqa;obtain ⟨ib,rvb,pb,hzb⟩:=I2.tuple hqb;have hal:a<s2.heap.objs.size:=by obtain ⟨o,e,_⟩:=pa;exact Heap.lt_size e
 have hbl:b<s2.heap.objs.size:=by obtain ⟨o,e,_⟩:=pb;exact Heap.lt_size e
 refine bb_call_zip (show s2.heap.IsTuple a ia.toArray from pa) (show s2.heap.IsTuple b ib.toArray from pb) fun h' z1 z2 z3 z4 z5 z6 z7=>?_;have D:ZipApart (s2.heap.objs.size+4) (s2.heap.objs.size+2) (s2.heap.objs.size+3) s2.heap.objs.size (s2.heap.objs.size+1) a b:=zipApart_new hal hbl;refine wpAny_pyIter_zip (s:={ s2 with heap:=h' }) z1 ?_;refine ⟨s2.heap.objs.size+4,[s2.heap.objs.size+4,s2.heap.objs.size+2,s2.heap.objs.size+3,s2.heap.objs.size,s2.heap.objs.size+1],_,_,H2,rfl,I2.kept (t':=s2.toks) z7,rS a b _ _ _ _ _,⟨D,z1,z2,⟨_,_,z3⟩,z4,z5⟩,fun c hc=>?_,q⟩
 have hc':s2.heap.objs.size<=c:=by
  simp only [List.mem_cons,List.not_mem_nil,or_false] at hc;rcases hc with h | h | h | h | h <;> rw [h]
  · exact Nat.le_add_right _ _
  · exact Nat.le_add_right _ _
  · exact Nat.le_add_right _ _
  · exact Nat.le_refl _
  · exact Nat.le_add_right _ _
 exact I2.fpOk hc' (I2.hok.fresh hc')
end
end L2
namespace BB
open PySem L2
theorem wE {J:It} {g:TG} {tb:TS} {D:Ends} {σ:St} {H:Hp} (n:Nat) (Pv:Nat->St->Hp->Prop) (h0:Pv 0 σ H) (hgo:∀ i σ H,i<n->Pv i σ H->J.go i H) (hstop:∀ σ H,Pv n σ H->J.stop n H)
 (hs:∀ i x σ H H',i<n->Pv i σ H->J.yld i H x H'->g x σ H' fun σ2 H2=>tb { D with nx:=Pv (i+1),ct:=Pv (i+1),bk:=D.nx } σ2 H2) (hd:∀ σ H,Pv n σ H->D.nx σ H) :
 ∃ W:Nat->Nat->St->Hp->Prop,(∃ m,W 0 m σ H)/\∀ i m σ H,W i m σ H →
   (J.stop i H/\D.nx σ H)∨(J.go i H/\∃ N:St->Hp->Prop,(∀ σ' H',N σ' H'->∃ m',m'<m/\W (i+1) m' σ' H')/\∀ x H',J.yld i H x H'->g x σ H' fun σ2 H2=>tb { D with nx:=N,ct:=N,bk:=D.nx } σ2 H2):=by
 refine ⟨fun i m σ H=>i<=n/\m=n - i/\Pv i σ H,⟨n,Nat.zero_le _,rfl,h0⟩,?_⟩;rintro i m σ H ⟨hi,rfl,p⟩;by_cases h:i=n
 · left;subst h;exact ⟨hstop σ H p,hd σ H p⟩
 · right;have hi':i<n:=by omega
   exact ⟨hgo i σ H hi' p,Pv (i+1),fun σ' H' q=>⟨n - (i+1),by omega,by omega,rfl,q⟩,fun x H' y=>hs i x σ H H' hi' p y⟩
end BB
namespace BB
open PySem L2
noncomputable section
local instance:DecidableEq Th:=fun _ _=>Classical.propDecidable _
end
end BB
namespace PySem
open Sem (wp)
section
variable {prog:Program} {w:World} {K:Type} [DecidableEq K] {knd:HeapKind prog w K} {A:Around} {E:Value->Shared->Prop} {s:Shared}
theorem bb_setDefault_heap {d a:Addr} {xs:List (K×Addr×Value)} {k:K} {v:Value} {Q:Value->Shared->Prop} (hu:knd.room A) (hkey:knd.is s.heap k a) (hm:s.heap.DictOfH knd d xs)
 (hthere:∀ p,atKey xs k=some p->Q p.2 { s with toks:=s.toks+knd.draws k })
 (hnew:atKey xs k=none->∀ h',h'.DictOfH knd d (storedH xs k a v)->Heap.SameBut d s.heap h'->Q v { s with heap:=h',toks:=s.toks+knd.draws k })
 (hsz:xs.length<=sizeLine):wpAny (model prog w) A (dictSetDefault d (.ref a) v) Q E s:=by
 obtain ⟨o,es,ep,ho,hc,hd,he,his,hn⟩:=hm;unfold dictSetDefault
 try with_reducible refine wpAny_holding ?_
 refine wpAny_bind (knd.pyHash hu hkey ?_);refine wpAny_bind (wpAny_dictFind_heap (s:={ s with toks:=s.toks+knd.draws k }) hu hkey ho hd he his hn ?_ ?_)
 · intro hno;have hnot:k∉xs.map (·.1):=not_mem_keys_of_get hno
   refine wpAny_bind (wpAny_rule (wpAny_bind (wpAny_updateDictKeys (hz:=by have e:=size_of_entries he;omega) (s:={ s with toks:=s.toks+knd.draws k }) ho hd (wpAny_pure (hnew (atKey_none_of_get hno) _ ⟨_,_,ep+1,Heap.get?_update_self _ ho (Obj.isFreed_of_dict (Obj.data_mapDictKeys hd _)),
    hc.mapDictKeys _,Obj.data_mapDictKeys hd _,?_,?_,?_⟩ (Heap.SameBut.update ..))))))
   · rw [storedH_new (atKey_none_of_get hno)];simp [he,entryOfKey]
   · rw [storedH_new (atKey_none_of_get hno)];intro x hx;rcases List.mem_append.mp hx with hx | hx
     · exact knd.keeps (his x hx) ho hd (Heap.SameBut.update ..)
     · simp only [List.mem_singleton] at hx;subst hx;exact knd.keeps hkey ho hd (Heap.SameBut.update ..)
   · rw [storedH_new (atKey_none_of_get hno)];rw [List.map_append,List.nodup_append];refine ⟨hn,by simp,?_⟩;intro x hx y hy;simp only [List.map_cons,List.map_nil,List.mem_singleton] at hy;subst hy;exact fun e=>hnot (e ▸ hx)
 · intro j p hj;have h1:=hthere _ (atKey_of_get hn hj);refine wpAny_bind (wpAny_dictEntries (s:={ s with toks:=s.toks+knd.draws k }) ho hd ?_);rw [entry_at he j,hj];exact wpAny_bind (wpAny_rule (wpAny_pure h1))
theorem bb_meets_setdefault (knd:HeapKind prog w K) (d a:Addr) (dflt:Value) (hd:(d == sysModules)=false) :
 MeetsIn prog w (Builtin.«dict.setdefault» ⟨[.ref d,.ref a,dflt],[]⟩) (fun A R s=>knd.room A.in1/\∃ k xs,knd.is s.heap k a/\s.heap.DictOfH knd d xs/\xs.length<=sizeLine ∧
  (∀ p,atKey xs k=some p->R (.ok (.ret p.2)) { s with toks:=s.toks+knd.draws k }) ∧
  (atKey xs k=none->∀ h',h'.DictOfH knd d (storedH xs k a dflt)->Heap.SameBut d s.heap h'->R (.ok (.ret dflt)) { s with heap:=h',toks:=s.toks+knd.draws k })) :=
 .of_wp fun A R s ⟨hu,k,xs,hkey,hm,hz,h1,h2⟩=>by
  unfold Builtin.«dict.setdefault»;refine wpAny_bind ?_;unfold Builtin.Dict.keyAndDefault;have hT:s.TypeIs (.ref d) "dict":=hm.typeIs;refine wpAny_bind (wpAny_notOrdered_dict hT ?_);show wpAny _ _ (pure (d,Value.ref a,some dflt)) _ _ s;refine wpAny_pure ?_;show wpAny _ _ (if (d == sysModules)=true then _ else (dictSetDefault d (.ref a) dflt >>= _)) _ _ s;rw [if_neg (by rw [hd];exact Bool.false_ne_true)];exact wpAny_bind (bb_setDefault_heap hu hkey hm (fun p hp=>wpAny_pure ⟨_,rfl,h1 p hp⟩) (fun hn h' hm' hs'=>wpAny_pure ⟨_,rfl,h2 hn h' hm' hs'⟩) hz)
end
end PySem
namespace L2
open PySem PySem.Spec PyProof.Rows
def uw:V->List V->Hp->VK->Prop:=fun x vs H Q=>∃ (a b:Addr) (v:V) (k:List Key) (kvs:List (List Key×V)),x=.ref a/\vs=[.ref b,v]/\H a=some (.dT kvs)/\H b=some (.tup (k.map kV))/\kvs.length<sizeLine ∧
 (∀ u,bE kvs k=some u->Q u H)/\(bE kvs k=none->Q v (upd H a (.dT (putK kvs k v))))
theorem lK {X:Cx} (hu:X.A.units+1<cLine):MtM X "dict.setdefault" uw:=by
 intro pins s σ H x vs v us Q I rx rv h;obtain ⟨a,b,y,k,kvs,rfl,rfl,e,eb,l,q1,q2⟩:=h;cases rx;cases rv with
 | cons r1 rv =>
 cases rv with
 | cons r2 rv =>
 cases rv;cases r1;obtain ⟨z,hd,xs,rel,dd⟩:=qr I.hok e;have hz:xs.length<=sizeLine:=by rw [<- Paired.length rel];exact z
 have hl:(putK kvs k y).length<=sizeLine:=by have:=b7 kvs k y;omega
 have hT:s.TypeIs (.ref a) "dict":=dd.typeIs;refine call_meetsIn PySem.F.slot_dict_setdefault hT PySem.F.entry_dict_setdefault (PySem.F.args_dict_setdefault_3 _ _ _) (bb_meets_setdefault (tupleKind (az X.prog X.w)) a b _ hd) ⟨tupleKind_room_in1 hu,k,xs,kU I.hok eb,dd,hz,fun p hp=>?_,fun hn h' dd' hs=>?_⟩
 · have hr:=rel.val k;rw [hp] at hr;cases hv:bE kvs k with
   | none=>rw [hv] at hr;exact hr.elim
   | some u =>
     rw [hv] at hr;exact ⟨u,H,I.tok _,hr,q1 u hv⟩
 · have hr:=rel.val k;rw [hn] at hr;cases hv:bE kvs k with
   | some u=>rw [hv] at hr;exact hr.elim
   | none =>
     refine ⟨y,_,?_,r2,q2 hv⟩;obtain ⟨q,es,ep,hq,h2,h3,h4,_,h5⟩:=dd';refine iB I (by rw [e];exact True.intro) hs ⟨q,hq⟩ ⟨hl,hd,_,(rel.put k eb r2).keeps fun c ys ec=>?_,q,es,ep,hq,h2,h3,h4,h5⟩;rw [ak (cK ec e (fun z=>nomatch z))];exact ec
end L2
namespace PySem
open Sem (wp)
section
variable {prog:Program} {w:World} {A:Around} {R:Result->Shared->Prop}
theorem bb_key_loop {S it d:Addr} {es:Array DictEntry} {ep:Nat} {od:Obj} (hh:A.in1.handled=none) (hz:es.size<=sizeLine) (hSit:S≠it) (hSd:S≠d) (hdi:d≠it) (g2:od.data=.dict es ep) (res:Value) :
 ∀ (k i:Nat) (s:Shared) (acc:Array Value) (c:Nat),es.size - i=k->i<=es.size->s.heap.IsKeyIter it d i es.size ep->s.heap.get? d=some od->s.heap.get? S=some { cls:=.type "list",dict:=none,data:=.seq acc c,slots:=#[] }->acc.toList=(es.toList.take i).map (·.key) →
 (∀ h' acc' c',(∀ b o,b≠S->b≠it->s.heap.get? b=some o->h'.get? b=some o)->h'.get? S=some { cls:=.type "list",dict:=none,data:=.seq acc' c',slots:=#[] }->acc'.toList=es.toList.map (·.key)->R (.ok (.ret res)) { s with heap:=h' }) →
 codeAny (model prog w) A (.builtin "list.extend.loop" ⟨[.ref S,.ref it,res],[]⟩) R s:=by
 intro k;induction k with
 | zero =>
   intro i s acc c hk hi hit hd hS hacc hR;have hin:i=es.size:=by omega
   subst hin;refine codeAny_builtin F.entry_extend_loop ?_;rw [Around.under_plainId F.plain_extend_loop _];show wpAny _ A.in1 (pyNext (.ref it) >>= _) _ _ s;refine wpAny_bind (bb_keyEnd hh hit hd g2 (Nat.le_refl _) fun h' hk'=>wpAny_pure ?_);refine hR h' acc c (fun b o _ hb e=>hk' b o hb e) (hk' _ _ hSit hS) ?_;rw [hacc,List.take_of_length_le (by rw [Array.length_toList];omega)]
 | succ k ih =>
   intro i s acc c hk hi hit hd hS hacc hR;have hlt:i<es.size:=by omega
   refine codeAny_builtin F.entry_extend_loop ?_;rw [Around.under_plainId F.plain_extend_loop _];show wpAny _ A.in1 (pyNext (.ref it) >>= _) _ _ s;have hx:es[i]?=some es[i]:=Array.getElem?_eq_getElem hlt
   have hal:acc.size=i:=by
    have:=congrArg List.length hacc;rw [Array.length_toList,List.length_map,List.length_take,Array.length_toList] at this;omega
   refine wpAny_bind (bb_keyNext hit hd g2 hx fun h' hit' hk'=>?_);have hS':=(hk'.2 S hSit).trans hS;have hd':=(hk'.2 d hdi).trans hd;show wpAny _ A.in1 (updateSeq S (·.push es[i].key) >>= _) _ _ _;refine wpAny_bind ?_;have oth:∀ b o,b≠S->h'.get? b=some o->(h'.update S (Obj.mapSeq (·.push es[i].key))).get? b=some o:=fun b o hb e=>(Heap.get?_update_other _ _ (Ne.symm hb)).trans e
   refine wpAny_updateSeq hS' rfl (wpAny_pure ⟨plainId_quiet F.plain_extend_loop _,ih (i+1) _ (acc.push es[i].key) _ (by omega) hlt (hit'.at fun o e=>oth _ _ (Ne.symm hSit) e) (oth _ _ (Ne.symm hSd) hd') (Heap.get?_update_self _ hS' rfl) ?_ fun h'' acc' c' hm'' hS'' hacc'=>?_⟩)
    (by rw [hal];omega) (by show (acc.push _).size<=sizeLine+1;rw [Array.size_push,hal];omega)
   · rw [Array.toList_push,hacc,List.take_add_one,List.getElem?_eq_getElem (by rw [Array.length_toList];exact hlt),List.map_append];simp
   · exact hR h'' acc' c' (fun b o hb hb2 e=>hm'' b o hb hb2 (oth b o hb ((hk'.2 b hb2).trans e))) hS'' hacc'
end
section
variable {prog:Program} {w:World} {A:Around} {E:Value->Shared->Prop} {s:Shared}
theorem bb_list_keys {d:Addr} {es:Array DictEntry} {ep:Nat} {od:Obj} {Q:Value->Shared->Prop} (hh:A.in1.in1.handled=none) (ns:(d == sysModules)=false) (hd:s.heap.get? d=some od) (gc:od.cls=.type "dict") (g2:od.data=.dict es ep) (hz:es.size<=sizeLine)
 (hQ:∀ h' acc c,(∀ b o,s.heap.get? b=some o->h'.get? b=some o)->h'.get? s.heap.objs.size=some { cls:=.type "list",dict:=none,data:=.seq acc c,slots:=#[] }->acc.toList=es.toList.map (·.key)->Q (.ref s.heap.objs.size) { s with heap:=h' }) :
 wpAny (model prog w) A (call (.type "list") [.ref d]) Q E s:=by
 have hdl:=Heap.lt_size hd;have hSd:s.heap.objs.size≠d:=Nat.ne_of_gt hdl
 refine callType_codes (Q₁:=fun obj s₁=>obj=.ref s.heap.objs.size/\s₁={ s with heap:=s.heap.push { cls:=.type "list",data:=.seq #[] } }) F.called_list (F.typeCall_list_1 _) F.entry_list_init
  (code_list_new _ ⟨rfl,rfl⟩) fun obj s₁ h₁=>?_
 obtain ⟨rfl,rfl⟩:=h₁;have hS:(s.heap.push { cls:=.type "list",data:=.seq #[] }).get? s.heap.objs.size=some { cls:=.type "list",data:=.seq #[] }:=Heap.get?_push_size _ rfl;refine ⟨⟨_,hS,rfl⟩,F.args_list_init_2 _ _,?_⟩;show wpAny _ A.in1.in1 (do let old ← Builtin.List.listItems (.ref s.heap.objs.size);Builtin.List.listUpdate (.ref s.heap.objs.size) (fun _=>#[]);letGo old.toList.reverse;Builtin.List.listExtendWith (.ref s.heap.objs.size) (.ref d) .none) _ _ _;refine wpAny_bind ?_;unfold Builtin.List.listItems;refine wpAny_bind (wpAny_seqItems hS rfl (wpAny_pure ?_));refine wpAny_bind (wpAny_updateSeq hS rfl ?_);have hS₂:=Heap.get?_update_self (Obj.mapSeq (fun _=>(#[]:Array Value))) hS rfl;refine wpAny_bind (wpAny_letGo ?_);have hsz2:((s.heap.push { cls:=.type "list",data:=.seq #[] }).update s.heap.objs.size (Obj.mapSeq (fun _=>(#[]:Array Value)))).objs.size=s.heap.objs.size+1:=by rw [Heap.size_update,Heap.size_push]
 generalize hH:(s.heap.push { cls:=.type "list",data:=.seq #[] }).update s.heap.objs.size (Obj.mapSeq (fun _=>(#[]:Array Value)))=H2 at hS₂ hsz2 ⊢
 have old:∀ b o,s.heap.get? b=some o->H2.get? b=some o:=fun b o e=>by
  rw [<- hH,Heap.get?_update_other _ _ (Ne.symm (Nat.ne_of_lt (Heap.lt_size e)))];exact Heap.get?_push_of_some _ e
 obtain ⟨c2,hS2⟩:∃ c,H2.get? s.heap.objs.size=some { cls:=.type "list",data:=.seq #[] c }:=⟨_,hS₂⟩;have hd2:=old _ _ hd;have ty2:({ s with heap:=H2 }:Shared).TypeIs (.ref d) "dict":=⟨_,hd2,gc⟩;unfold Builtin.List.listExtendWith;refine wpAny_bind (wpAny_typeOf ty2 ?_);have h1:Builtin.List.listSameRef (.ref s.heap.objs.size) (.ref d)=false:=by simp [Builtin.List.listSameRef,hSd]
 have h2:(Value.type "dict" == Value.type "list")=false:=by decide
 have h3:(Value.type "dict" == Value.type "tuple")=false:=by decide
 simp only [h1,h2,h3,Bool.or_false,Bool.false_eq_true,if_false];refine wpAny_bind (bb_keyIter (s:={ s with heap:=H2 }) ns hd2 gc g2 ?_);refine wpAny_bind (wpAny_holding ?_);have hit3:(H2.push { cls:=.type "dict_keyiterator",data:=.fields #[.ref d,.int 0 0,.int es.size 0,.int ep 0] }).IsKeyIter H2.objs.size d 0 es.size ep:=⟨_,Heap.get?_push_size _ rfl,rfl,rfl⟩;have hk3:∀ b o,H2.get? b=some o->(H2.push { cls:=.type "dict_keyiterator",data:=.fields #[.ref d,.int 0 0,.int es.size 0,.int ep 0] }).get? b=some o:=fun b o e=>Heap.get?_push_of_some _ e;have hne2:s.heap.objs.size≠H2.objs.size:=by rw [hsz2];omega
 have hdn2:d≠H2.objs.size:=by rw [hsz2];exact Nat.ne_of_lt (Nat.lt_succ_of_lt hdl)
 show wpAny _ _ _ _ _ ({ s with heap:=H2.push { cls:=.type "dict_keyiterator",data:=.fields #[.ref d,.int 0 0,.int es.size 0,.int ep 0] } }:Shared);generalize H2.push { cls:=.type "dict_keyiterator",data:=.fields #[.ref d,.int 0 0,.int es.size 0,.int ep 0] }=H3 at hit3 hk3 ⊢;have hd3:=hk3 _ _ hd2;have hS3:=hk3 _ _ hS2;have ty3:({ s with heap:=H3 }:Shared).TypeIs (.ref d) "dict":=⟨_,hd3,gc⟩
 have key:∀ (h:Heap) (c₁:Nat),h.IsKeyIter H2.objs.size d 0 es.size ep->(∀ b o,b≠s.heap.objs.size->H3.get? b=some o->h.get? b=some o)->h.get? s.heap.objs.size=some { cls:=.type "list",data:=.seq #[] c₁ } →
  codeAny (model prog w) A.in1 (.builtin "list.extend.loop" ⟨[.ref s.heap.objs.size,.ref H2.objs.size,.none],[]⟩) (wants (fun r s₂=>r=.none/\Q (.ref s.heap.objs.size) s₂) E) { s with heap:=h }:=by
  intro h c₁ hit hk hS₁;refine bb_key_loop hh hz hne2 hSd hdn2 g2 .none es.size 0 _ #[] c₁ rfl (Nat.zero_le _) hit (hk _ _ (Ne.symm hSd) hd3) hS₁ rfl fun h' acc' c' hm hS' hacc=>?_;refine ⟨rfl,hQ h' acc' c' (fun b o e=>?_) hS' hacc⟩;have hb:=Nat.ne_of_lt (Heap.lt_size e);exact hm b o hb (by rw [hsz2];exact Nat.ne_of_lt (Nat.lt_succ_of_lt (Heap.lt_size e))) (hk b o hb (hk3 b o (old b o e)))
 unfold Builtin.List.listLengthHint;refine wpAny_bind (wpAny_specialOf ty3 F.slot_dict_len.lookup ?_);generalize hid:("dict.__len__":String)=id0
 wp_delta
 rw [show splitId id0=some ("dict","__len__") from by subst hid;decide +kernel];subst hid;refine wpAny_bind (wpAny_isInstance (T:="dict") (b:=true) ty3 (by rw [isSubtype_type];kernel_rfl) ?_);refine wpAny_ite_split (fun hab=>absurd hab (by decide)) (fun _=>?_);refine wpAny_ite_split (fun _=>?_) (fun hab=>absurd (by decide +kernel) hab);refine wpAny_bind (wpAny_typeOf ty3 ?_);refine wpAny_pure ?_;refine wpAny_ite_split (fun _=>?_) (fun _=>wpAny_pure ⟨plainId_quiet F.plain_extend_loop _,key _ c2 hit3 (fun b o _ e=>e) hS3⟩);refine wpAny_bind (wpAny_rule ?_);refine wpAny_bind ?_;show wpAny _ _ (updateSeq s.heap.objs.size (·.push .none) >>= fun _=>updateSeq s.heap.objs.size (·.pop)) _ _ _;refine wpAny_bind (wpAny_updateSeq hS3 rfl ?_);have hS₃:=Heap.get?_update_self (Obj.mapSeq (·.push Value.none)) hS3 rfl;refine wpAny_updateSeq (hz:=by seq_fits) hS₃ rfl ?_;have hS₄:=Heap.get?_update_self (Obj.mapSeq (·.pop)) hS₃ rfl
 have oth:∀ b o,b≠s.heap.objs.size->H3.get? b=some o->((H3.update s.heap.objs.size (Obj.mapSeq (·.push Value.none))).update s.heap.objs.size (Obj.mapSeq (·.pop))).get? b=some o :=
  fun b o hb e=>(Heap.get?_update_other _ _ (Ne.symm hb)).trans ((Heap.get?_update_other _ _ (Ne.symm hb)).trans e)
 exact wpAny_pure ⟨plainId_quiet F.plain_extend_loop _,key _ _ (hit3.at fun o e=>oth _ _ (Ne.symm hne2) e) oth hS₄⟩
end
end PySem
namespace L2
open PySem PySem.Spec PyProof.Rows
def wa:List V->Hp->VK->Prop:=fun xs H Q=>∃ (a:Addr) (kvs:List (List Key×V)),xs=[.ref a]/\H a=some (.dT kvs)/\∀ (l:Addr) (bs:List Addr),H l=none->Paired (fun kv b=>H b=some (.tup (kv.1.map kV))) kvs bs->Q (.ref l) (upd H l (.lst (bs.map V.ref)))
theorem tI {H:Hp} {kvs:List (List Key×V)} {ys:List (List Key×Addr×Value)} (rel:KTd H kvs ys):Paired (fun kv b=>H b=some (.tup (kv.1.map kV))) kvs (ys.map fun y=>y.2.1):=by
 induction rel with
 | nil=>exact .nil
 | cons h t ih=>exact .cons h.2.1 ih
theorem kL {X:Cx} (hc:X.calm=true):dQ X (.type "list") wa:=by
 intro pins s σ H xs us Q I r h;obtain ⟨a,kvs,rfl,e,q⟩:=h;obtain ⟨u,rfl,rx⟩:=vals1 r;cases rx;obtain ⟨z,hd,ys,rel,dd⟩:=qr I.hok e;have hT:=dd.typeIs;obtain ⟨o,es,ep,ho,hcx,hdt,he,his,hn⟩:=dd;obtain ⟨o',ho',hcl⟩:=hT;have eo:o'=o:=Option.some.inj (ho'.symm.trans ho);subst eo;have hl:kvs.length=ys.length:=Paired.length rel
 have hes:es.toList.map (·.key)=ys.map fun y=>Value.ref y.2.1:=by
  rw [he,List.map_map];rfl
 have hsz:es.size<=sizeLine:=by
  have:=congrArg List.length hes;rw [List.length_map,List.length_map,Array.length_toList] at this;omega
 have hh:X.A.in1.in1.handled=none:=I.ok.hd hc;refine bb_list_keys hh hd ho' hcl hdt hsz fun h' acc c hk hS hacc=>?_;have hp:Paired (fun kv b=>H b=some (.tup (kv.1.map kV))) kvs (ys.map fun y=>y.2.1):=tI rel;refine ⟨.ref s.heap.objs.size,upd H s.heap.objs.size (.lst ((ys.map fun y=>y.2.1).map V.ref)),?_,rfl,q _ _ I.fresh hp⟩;refine I.laid (t':=s.toks) hk (Nat.le_refl _) ⟨by rw [List.length_map,List.length_map];omega,acc.toList,c,?_,hS⟩;rw [hacc,hes];clear hn his he hes hacc hS hl z rel hp q;induction ys with
 | nil=>exact .nil
 | cons y ys ih=>exact .cons rfl ih
end L2
namespace L2
open PySem PySem.Spec PyProof.Rows BB
end L2
namespace PySem
open Sem (wp)
section
variable {prog:Program} {w:World} {K:Type} [DecidableEq K] (knd:HeapKind prog w K) (d:Addr)
theorem bb_meets_len (hd:(d == sysModules)=false) :
 MeetsIn prog w (Builtin.«dict.__len__» ⟨[.ref d],[]⟩) (fun _ R s=>∃ xs,s.heap.DictOfH knd d xs/\R (.ok (.ret (.int xs.length s.toks))) { s with toks:=s.toks+1 }) :=
 .of_wp fun A R s ⟨xs,hm,h⟩=>by
  obtain ⟨o,es,ep,ho,hc,hdat,he,hp,hn⟩:=hm;show wpAny _ _ (dictSize d >>= _) _ _ s;unfold dictSize;refine wpAny_bind (wpAny_bind (wpAny_dictEntries ho hdat (wpAny_pure ?_)));show wpAny _ _ (Builtin.Dict.pendingCount d >>= _) _ _ s;refine wpAny_bind (wpAny_pendingCount_other hd ?_);refine wpAny_ret_mkInt ?_
  have:es.size=xs.length:=by
   have:=congrArg List.length he;rw [List.length_map,Array.length_toList] at this;exact this
  rw [Nat.add_zero,this];exact h
end
section
variable {prog:Program} {w:World} {K:Type} [DecidableEq K] {knd:HeapKind prog w K} {A:Around} {E:Value->Shared->Prop} {s:Shared}
theorem bb_call_len {d:Addr} {xs:List (K×Addr×Value)} {Q:Value->Shared->Prop} (hd:(d == sysModules)=false) (hm:s.heap.DictOfH knd d xs) (hfit:(xs.length:Int)<2 ^ 63)
 (h:Q (.int xs.length (s.toks+1)) { s with toks:=s.toks+1+1 }):wpAny (model prog w) A (call (.builtin "len") [.ref d]) Q E s:=by
 refine Calls.call_function_entry kind_len plain_len entry_len (args_len1 _) ?_;unfold Builtin.«len»;refine wpAny_bind (m:=oneArg "len" _) (wpAny_pure ?_)
 refine wpAny_bind (m:=callSpecial? (.ref d) (Str.ofString "__len__")) (wpAny_callSpecial?_slot (name:=Str.ofString "__len__") hm.typeIs F.slot_dict_len
  (call_meetsIn F.slot_dict_len hm.typeIs F.entry_dict_len (F.args_dict_len_1 _) (bb_meets_len knd d hd) ⟨xs,hm,?_⟩))
 show wpAny _ _ _ _ _ { s with toks:=s.toks+1 };refine wpAny_bind (wpAny_holding (wpAny_pure ?_));refine wpAny_bind (wpAny_letGo ?_);show wpAny _ _ (if ((xs.length:Nat):Int)<0 then _ else _) _ _ _;rw [if_neg (by omega)];show wpAny _ _ (if ((xs.length:Nat):Int) ≥ 2 ^ 63 then _ else _) _ _ _;rw [if_neg (by omega)];exact wpAny_bind (wpAny_mkInt (wpAny_pure ⟨_,rfl,h⟩))
end
end PySem
namespace L2
open PySem PySem.Spec PyProof.Rows
def xx:List V->Hp->VK->Prop:=fun xs H Q=>∃ (a:Addr) (kvs:List (List Key×V)),xs=[.ref a]/\H a=some (.dT kvs)/\Q (.int kvs.length) H
theorem jb {X:Cx}:dQ X (.builtin "len") xx:=by
 intro pins s σ H xs us Q I r h;obtain ⟨a,kvs,rfl,e,q⟩:=h;obtain ⟨u,rfl,rx⟩:=vals1 r;cases rx;obtain ⟨z,hd,ys,rel,dd⟩:=qr I.hok e;have hl:kvs.length=ys.length:=Paired.length rel;refine bb_call_len hd dd (by rw [sizeLine_eq] at z;omega) ?_;rw [<- hl];exact ⟨.int kvs.length,H,I.tok _,⟨_,rfl⟩,q⟩
end L2
namespace BB
open PySem L2
end BB
namespace BB
open PySem L2
end BB
namespace BB
open PySem L2
end BB
namespace BB
open PySem L2
end BB
namespace BB
open PySem L2 PySem.Builtin PySem.Builtin.Str
end BB
namespace L2
open PySem PySem.Spec PySem.Calls PyProof.Rows BB
section
variable {X:Cx} {pins:List (Addr×Obj)} {σ:List (Option V)} {H:Hp} {s:Shared}
end
end L2
namespace L2
open PySem PySem.Spec PySem.Calls PyProof.Rows PySem.Builtin PySem.Builtin.Str BB
variable {X:Cx}
end L2
namespace BB
open PySem L2
end BB
namespace BB
open PySem L2
section
variable {H H':Hp} {t:Th} {a:Addr} {ts:List Th} {es:List Addr}
end
end BB
namespace L2
open PySem PySem.Spec PyProof.Rows BB
variable {X:Cx}
end L2
namespace L2
open PySem PySem.Spec PyProof.Rows PySem.W
end L2
namespace L2
open PySem PySem.Spec PyProof.Rows BB
variable {X:Cx}
end L2
namespace L2
open PySem PySem.Spec PySem.Calls PyProof.Rows PySem.W
end L2
namespace BB
open PySem L2 PySem.Builtin PySem.Builtin.Str
end BB
namespace L2
open PySem PySem.Spec PySem.Calls PyProof.Rows PySem.Builtin PySem.Builtin.Str BB
variable {X:Cx}
end L2
namespace L2
open PySem PySem.Spec PyProof.Rows
end L2
namespace BB
open PySem L2
theorem eA {ks:List (Str×Int)} (g:aT ks):(ks.map (·.1)).Nodup:=by
 refine List.pairwise_iff_getElem.mpr fun i j hi hj hij e=>?_;rw [List.length_map] at hi hj;rw [List.getElem_map,List.getElem_map] at e;have:=g.nd i j _ _ (List.getElem?_eq_getElem hi) (List.getElem?_eq_getElem hj) e;omega
mutual
theorem lx {ks:List (Str×Int)} {S C:Int} (hn:(ks.map (·.1)).Nodup):∀ {t:Th},t.FitS ks S C->fpb ks S C t=true
 | .knot n ts,h=>by
   rw [Th.FitS] at h;rw [sF,okP,decide_eq_true ((ly hn).mpr h.1),Bool.true_and];exact lq hn h.2
 | .call s k,h=>by
   rw [Th.FitS] at h;rw [sF,okP,decide_eq_true ⟨h.1,h.2.1⟩,decide_eq_true ⟨h.2.2.1,h.2.2.2⟩];rfl
theorem lq {ks:List (Str×Int)} {S C:Int} (hn:(ks.map (·.1)).Nodup):∀ {ts:List Th},FitSs ks S C ts->sK ks S C ts=true
 | [],_=>rfl
 | t::ts,h=>by
   rw [FitSs] at h;rw [lh,List.map_cons,List.all_cons,lx hn h.1,<- lh,lq hn h.2];rfl
end
theorem qd {a b:Nat} (h:a<=b):4 ^ a<=4 ^ b:=Nat.pow_le_pow_right (by decide) h
mutual
theorem iQ {ks:List (Str×Int)} {S C:Int} (g:aT ks):∀ {t:Th},t.FitS ks S C->t.size<=4 ^ t.tall
 | .knot n ts,h=>by
   rw [Th.FitS] at h;have h1:=kJ g h.2;have h2:=(g.num _ h.1).2
   have h3:ts.length<=3:=by
    have:(ts.length:Int)<=3:=h2;omega
   rw [Th.size,Th.tall,Nat.pow_succ];have h4:ts.length * 4 ^ aI ts<=3 * 4 ^ aI ts:=Nat.mul_le_mul_right _ h3;have h5:0<4 ^ aI ts:=Nat.pow_pos (by decide);omega
 | .call s k,h=>by rw [Th.size,Th.tall];decide
theorem kJ {ks:List (Str×Int)} {S C:Int} (g:aT ks):∀ {ts:List Th},FitSs ks S C ts->aw ts<=ts.length * 4 ^ aI ts
 | [],_=>by rw [aw];exact Nat.zero_le _
 | t::ts,h=>by
   rw [FitSs] at h;have h1:=iQ g h.1;have h2:=kJ g h.2;rw [aw,List.length_cons,aI,Nat.succ_mul];have a1:=qd (Nat.le_max_left t.tall (aI ts));have a2:=qd (Nat.le_max_right t.tall (aI ts));have a3:ts.length * 4 ^ aI ts<=ts.length * 4 ^ max t.tall (aI ts):=Nat.mul_le_mul_left _ a2;omega
end
def kx (rows:List (List Th)):List Dv:=rows.map fun row=>.tup (dvs row)
def nh (ins outs:List (Str×Int)) (head:Th) (rows:List (List Th)):List Dv:=[.tup (ins.map kDv),.tup (outs.map kDv),head.dv,.tup (kx rows)]
theorem qi {H:Hp}:∀ {rows:List (List Th)} {ras:List Addr},Paired (RowAt H) rows ras->DAts H (kx rows) (ras.map V.ref)
 | _,_,.nil=>.nil
 | _,_,.cons (a:=row) (b:=a) r h=>by
   obtain ⟨as,e,h1⟩:=r;show DAts H (Dv.tup (dvs row)::kx _) (V.ref a::_);refine .cons ?_ (qi h);rw [DAt];exact ⟨a,_,rfl,e,h1.dvs⟩
theorem jW {H:Hp} {ins outs:List (Str×Int)} {head:Th} {rows:List (List Th)} {r ia oa ha ra:Addr} {ias oas ras:List Addr} (b:BookAt H ins outs head rows r ia oa ha ra ias oas ras):DAts H (nh ins outs head rows) [.ref ia,.ref oa,.ref ha,.ref ra]:=by
 refine .cons ?_ (.cons ?_ (.cons b.hd.dv (.cons ?_ .nil)))
 · rw [DAt];exact ⟨ia,_,rfl,b.inE,oy b.inK⟩
 · rw [DAt];exact ⟨oa,_,rfl,b.outE,oy b.outK⟩
 · rw [DAt];exact ⟨ra,_,rfl,b.rl,qi b.rw⟩
theorem jK {m:Nat}:∀ {rows:List (List Th)},(∀ row∈rows,∀ t∈row,t.tall<=m)->bZ (kx rows)<=m+1
 | [],_=>by show bZ []<=_;rw [bZ];exact Nat.zero_le _
 | row::rows,h=>by
   have h1:=jK (rows:=rows) fun r hr=>h r (List.mem_cons_of_mem _ hr);have h2:=j0 row
   have h3:aI row<=m:=by
    have:=h row (List.mem_cons_self ..);clear h h1 h2;induction row with
    | nil=>rw [aI];exact Nat.zero_le _
    | cons t ts ih =>
      rw [aI];have a:=this t (List.mem_cons_self ..);have b:=ih fun u hu=>this u (List.mem_cons_of_mem _ hu);omega
   show bZ (Dv.tup (dvs row)::kx rows)<=_;rw [bZ,Dv.deep];omega
theorem oi {ins outs:List (Str×Int)} {head:Th} {rows:List (List Th)} {m:Nat} (hm:1<=m) (h1:head.tall<=m) (h2:∀ row∈rows,∀ t∈row,t.tall<=m):bZ (nh ins outs head rows)<=m+2:=by
 have a1:=iI ins;have a2:=iI outs;have a3:=head.dv_deep;have a4:=jK h2;unfold nh;simp only [bZ,Dv.deep];omega
end BB
namespace L2
open PySem PySem.Spec PyProof.Rows
end L2
namespace L2
open PySem PySem.Spec PySem.Calls PyProof.Rows
structure pi (P:Program) (w:World) (K:PySem.W.Frag) (mg:Str->Option Value) (base:Heap) (CX:CXT) (k:Nat) (f:Addr) (sp:Sp):Prop where
 fn:∀ (A:Around) (outer:List Env) (s:Shared) (H:Hp) (vs:List V) (Q:VK) (E:XK),Env0 P w K mg base A outer s H->sp vs H Q E->PySem.W.FnAt f s.heap
 run:∀ (A:Around) (outer:List Env) (s:Shared) (H:Hp) (us:List Value) (vs:List V) (Q:VK) (E:XK),Room k A->Env0 P w K mg base A outer s H->Vals vs us->sp vs H Q E →
  codeAny (model P w) A (.call (.ref f) ⟨us,[]⟩) (CR CX outer P w H s Q E) s
section
variable {X:Cx} {CX:CXT} {k i:Nat} {E:XK} {x:Str} {p pos:Pos} {e:Expr} {es:List Expr} {t:TA}
def wD (P:Program) (w:World) (K:PySem.W.Frag) (mg:Str->Option Value) (base:Heap) (CX:CXT) (k i:Nat) (E:XK) (t:TA):TE:=fun σ H Q=>∃ f sp,σ[i]?=some (some (.ref f))/\pi P w K mg base CX k f sp/\t σ H fun vs H1=>sp vs H1 Q E
theorem p6 {M:Model} {A:Around} {E:Value->Shared->Prop} {s:Shared} {env:Env} {pos:Pos} {Q:Value->Shared->Prop} {q:Addr} {e:Expr} {rest:List Expr} (h:wpAny M A (spliced (backTo pos (starEach (e::rest) env))) (fun vs s₁=>PySem.W.FnAt q s₁.heap/\wpAny M A (call (.ref q) ([]++vs)) Q E s₁) E s)
 (he:starEach (e::rest) env=(false,eval e env)::starEach rest env) (hplain:(backTo pos (starEach rest env)).any (·.1)=false) :
 wpAny M A (callWith pos (.ref q) [] (backTo pos (starEach (e::rest) env)) []) Q E s:=by
 rw [he] at h ⊢;exact PySem.W.callWith_of (by show ((false || (backTo pos (starEach rest env)).any (·.1)) || false)=false;rw [hplain];rfl) PySem.W.keeps_F (evalArgs_plain h)
theorem nV (hN:X.N[i]?=some x) (hv:Vis X.env.scope x) (hr:Room k X.A) (hx:gJ CX X E) (ha:PA X (e::es) t) (hdb:(x == ("__debug__":Str))=false:=by decide) (hcd:(x == ("__classdict__":Str))=false:=by decide)
 (he:starEach (e::es) X.env=(false,eval e X.env)::starEach es X.env:=by rfl) (hpl:(backTo pos (starEach es X.env)).any (·.1)=false:=by rfl) :
 PE X (.Call (.Name x p) (e::es) [] pos) (wD X.prog X.w X.K X.mg X.base CX k i E t):=by
 intro pins s σ H Q I h;obtain ⟨f,sp,hσ,F,q⟩:=h;refine wpAny_Call_Name_kw (thn (tN (X:=X) hN hv hdb hcd pins s σ H (fun v H1=>v=.ref f/\t σ H1 fun vs H2=>sp vs H2 Q E) I ⟨_,hσ,rfl,q⟩) fun u s1 ⟨v,H1,I1,r,e1,q1⟩=>?_);subst e1;obtain rfl:u=Value.ref f:=r;refine p6 (thn (ha pos pins s1 σ H1 _ I1 q1) fun us s2 ⟨vs,H2,I2,r2,q2⟩=>⟨F.fn X.A X.stack s2 H2 vs Q E I2.env0 q2,?_⟩) he hpl;refine wpAny_call (codeAny_mono (F.run X.A X.stack s2 H2 ([]++us) vs Q E hr I2.env0 r2 q2) fun r s' hq=>?_);cases r with
 | error e=>exact hx pins σ H2 s2 e s' I2 hq
 | ok fl =>
   cases fl with
   | ret u=>exact I2.after hq
   | next=>exact False.elim hq
   | brk=>exact False.elim hq
   | cont=>exact False.elim hq
end
def fgt (S:List Addr) (H:Hp):Hp:=fun b=>if b∈S then none else H b
def rst (S:List Addr) (H H':Hp):Hp:=fun b=>if b∈S then H b else H' b
theorem eF {S:List Addr} {H:Hp} {b:Addr} (h:b∈S):fgt S H b=none:=if_pos h
theorem be {S:List Addr} {H:Hp} {b:Addr} (h:b∉S):fgt S H b=H b:=if_neg h
theorem pI {S:List Addr} {H H':Hp} {b:Addr} (h:b∈S):rst S H H' b=H b:=if_pos h
theorem bV {S:List Addr} {H H':Hp} {b:Addr} (h:b∉S):rst S H H' b=H' b:=if_neg h
theorem uK (S:List Addr) (H:Hp):rst S H (fgt S H)=H:=by
 funext b;by_cases h:b∈S
 · exact pI h
 · rw [bV h,be h]
theorem sE {S:List Addr} {H:Hp} {b:Addr} {o:HO} (h:fgt S H b=some o):b∉S/\H b=some o:=by
 by_cases hb:b∈S
 · rw [eF hb] at h;cases h
 · exact ⟨hb,by rw [be hb] at h;exact h⟩
def Exts (S:List Addr) (H:Hp):Prop:=∀ b∈S,∃ φ,H b=some (.ext φ)
theorem Exts.out {S:List Addr} {H:Hp} (x:Exts S H) {b:Addr} {o:HO} (e:H b=some o) (n:∀ φ,o≠.ext φ):b∉S:=fun z=>by
 obtain ⟨φ,h⟩:=x b z;rw [e] at h;exact n φ (Option.some.inj h)
theorem HOk.fgt {P:Program} {w:World} {H:Hp} {h:Heap} {S:List Addr} (x:HOk P w H h) (hS:Exts S H):HOk P w (fgt S H) h:=fun a o e=>by
 obtain ⟨ha,e'⟩:=sE e;exact (x a o e').stay (fun _ _ _ q=>q) (fun b q=>by rw [be (hS.out q (by intro φ z;cases z))];exact q) fun b xs q=>by rw [be (hS.out q (by intro φ z;cases z))];exact q
theorem HOk.rst {P:Program} {w:World} {H H':Hp} {h h':Heap} {S:List Addr} (x:HOk P w H h) (x':HOk P w H' h') (hS:Exts S H) (hk:∀ b∈S,∀ o,h.get? b=some o->h'.get? b=some o) (hn:∀ b∈S,H' b=none):HOk P w (rst S H H') h':=fun a o e=>by
 by_cases ha:a∈S
 · rw [pI ha] at e;obtain ⟨φ,hφ⟩:=hS a ha;have e2:=hφ;rw [e] at e2;cases e2;obtain ⟨p,⟨ob,q⟩,st⟩:=x a _ e;exact ⟨st _ _ p (fun o z=>hk a ha o z),⟨ob,hk a ha ob q⟩,st⟩
 · rw [bV ha] at e;have out:∀ b u,H' b=some u->b∉S:=fun b u q z=>by rw [hn b z] at q;cases q
   exact (x' a o e).stay (fun _ _ _ q=>q) (fun b q=>by rw [bV (out b _ q)];exact q) fun b xs q=>by rw [bV (out b _ q)];exact q
def CellAt (H:Hp) (c:Addr) (v:V):Prop:=∃ φ,H c=some (.ext φ)/\∀ h:Heap,φ h->∃ u,RelV v u/\h.IsCell c (some u)
def CodeAt (H:Hp) (c:Addr) (qual:Str):Prop:=∃ φ,H c=some (.ext φ)/\∀ h:Heap,φ h->h.CodeRec (.ref c) qual
def qx (H:Hp) (cl:List (Str×Addr)) (ns:List Str) (ws:List V):Prop:=Paired (fun (x:Str) (v:V)=>∃ c,cl.lookup x=some c/\CellAt H c v) ns ws
def LamAt (H:Hp) (f c':Addr) (name qual:Str) (params:Arguments) (body:Expr) (scope:Scope) (cl:List (Str×Addr)):Prop:=∃ φ,H f=some (.ext φ)/\∀ h:Heap,φ h->∃ pm ctv,h.get? f=some (PySem.W.kla_obj name qual params body scope cl pm c' ctv)
theorem CellAt.mono {H H':Hp} (s:Same H H') {c:Addr} {v:V} (h:CellAt H c v):CellAt H' c v:=by
 obtain ⟨φ,h1,h2⟩:=h;exact ⟨φ,s _ _ h1,h2⟩
theorem CodeAt.mono {H H':Hp} (s:Same H H') {c:Addr} {q:Str} (h:CodeAt H c q):CodeAt H' c q:=by
 obtain ⟨φ,h1,h2⟩:=h;exact ⟨φ,s _ _ h1,h2⟩
theorem LamAt.mono {H H':Hp} (s:Same H H') {f c':Addr} {name qual:Str} {params:Arguments} {body:Expr} {scope:Scope} {cl:List (Str×Addr)} (h:LamAt H f c' name qual params body scope cl):LamAt H' f c' name qual params body scope cl:=by
 obtain ⟨φ,h1,h2⟩:=h;exact ⟨φ,s _ _ h1,h2⟩
theorem CellAt.now {P:Program} {w:World} {H:Hp} {h:Heap} {c:Addr} {v:V} (x:HOk P w H h) (z:CellAt H c v):∃ u,RelV v u/\h.IsCell c (some u):=by
 obtain ⟨φ,h1,h2⟩:=z;exact h2 h (x c _ h1).1
def cxL (P:Program) (w:World) (K:PySem.W.Frag) (mg:Str->Option Value) (base:Heap) (N:List Str) (qual:Str) (scope:Scope) (f:Addr) (cd:Value) (cl:List (Str×Addr)) (A:Around) (outer:List Env) (s:Shared) (H:Hp):Cx where
 prog:=P
 w:=w
 K:=K
 mg:=mg
 base:=base
 A:=A.deeper (PySem.W.envX qual scope s.heap.objs.size f cd cl)
 N:=N
 s₀:=s
 H₀:=fgt (cl.map (·.2)) H
 env:=PySem.W.envX qual scope s.heap.objs.size f cd cl
 outer:=outer
 stack:=PySem.W.envX qual scope s.heap.objs.size f cd cl::outer
 ex:=[]
 calm:=true
 fn:=fun _=>false
 pn:=[]
 xe:=fun _ _=>False
structure pd (N ps:List Str) (cl:List (Str×Addr)) (sc:Scope):Prop where
 kind:sc.kind=.function
 co:sc.isCoroutine=false
 gen:sc.isGenerator=false
 nocell:∀ x∈sc.names,x.2≠.cell
 nd:N.Nodup
 pre:N.take ps.length=ps
 par:∀ x∈ps,sc.names.lookup x=some .local
 fre:∀ x∈N.drop ps.length,sc.names.lookup x=some .free
 has:∀ x,sc.names.lookup x=some .free->∃ c,cl.lookup x=some c
 inj:∀ x y c,cl.lookup x=some c->cl.lookup y=some c->x=y
theorem fw {cl:List (Str×Addr)} {x:Str} {c:Addr} (h:cl.lookup x=some c):c∈cl.map (·.2):=List.mem_map.mpr ⟨(x,c),PySem.mem_of_lookup h,rfl⟩
theorem l7:∀ {l:List (Str×Value)} {x:Str} {u:Value},(l.map (·.1)).Nodup->(x,u)∈l->l.lookup x=some u
 | [],_,_,_,h=>by cases h
 | (y,v)::l,x,u,nd,h=>by
   rw [List.map_cons,List.nodup_cons] at nd;rw [List.lookup_cons];rcases List.mem_cons.mp h with e | e
   · cases e;rw [beq_self_eq_true]
   · have hne:(x == y)=false:=by
      rw [beq_eq_false_iff_ne];intro z;subst z;exact nd.1 (List.mem_map.mpr ⟨_,e,rfl⟩)
     rw [hne];exact l7 nd.2 e
theorem jz {ps:List Str} {us:List Value} {i:Nat} {x:Str} {u:Value} (nd:ps.Nodup) (hl:us.length=ps.length) (h1:ps[i]?=some x) (h2:us[i]?=some u):(ps.zip us).reverse.lookup x=some u:=by
 refine l7 ?_ ?_
 · rw [List.map_reverse,List.map_fst_zip (by omega)];exact (List.pairwise_reverse.mpr (nd.imp fun h z=>h z.symm))
 · rw [List.mem_reverse];exact List.mem_of_getElem? (List.getElem?_zip_eq_some.mpr ⟨h1,h2⟩)
theorem vT {P:Program} {w:World} {K:PySem.W.Frag} {mg:Str->Option Value} {base:Heap} {k:Nat} {f c':Addr} {sp:Sp} {name qual:Str} {params:Arguments} {body:Expr} {scope:Scope} {cl:List (Str×Addr)} {N ps:List Str}
 (S:pd N ps cl scope) (bind:∀ (pm ctv:Value) (us:List Value),us.length=ps.length->bindArgs (PySem.W.kla_fn name qual params body scope cl pm (.ref c') ctv) ⟨us,[]⟩=pure (ps.zip us))
 (hsp:∀ vs H Q E,sp vs H Q E->vs.length=ps.length/\LamAt H f c' name qual params body scope cl/\CodeAt H c' qual/\Exts (cl.map (·.2)) H/\∀ x c,cl.lookup x=some c->∃ v,CellAt H c v)
 (hbody:∀ (A:Around) (outer:List Env) (s:Shared) (H:Hp) (vs:List V) (Q:VK) (E:XK),Room k (A.deeper (PySem.W.envX qual scope s.heap.objs.size f (.ref c') cl))->sp vs H Q E →
  ∃ t ws,qx H cl (N.drop ps.length) ws/\PE (cxL P w K mg base N qual scope f (.ref c') cl A outer s H) body t/\t (vs.map some++ws.map some) (fgt (cl.map (·.2)) H) fun v H'=>Q v (rst (cl.map (·.2)) H H')) :
 pi P w K mg base CX0 (k+1) f sp where
 fn:=fun A outer s H vs Q E e0 h=>by
  obtain ⟨_,⟨φ,h1,h2⟩,_⟩:=hsp _ _ _ _ h;obtain ⟨pm,ctv,e⟩:=h2 _ (e0.hok f _ h1).1;exact ⟨_,_,_,_,e⟩
 run:=fun A outer s H us vs Q E hr e0 r h=>by
  obtain ⟨hl,⟨φ,h1,h2⟩,⟨ψ,g1,g2⟩,hx,hcv⟩:=hsp _ _ _ _ h;obtain ⟨pm,ctv,ef⟩:=h2 _ (e0.hok f _ h1).1;have hcr:=g2 _ (e0.hok c' _ g1).1;have hus:us.length=ps.length:=by rw [<- r.length];exact hl
  have hloc:∀ y∈ps.zip us,scope.names.lookup y.1=some .local:=fun ⟨n,v⟩ hy=>S.par n (List.of_mem_zip hy).1;refine PySem.W.kla_callFunE hr.depth ef rfl S.co S.gen rfl hcr ?_;rw [show bindArgs _ _=_ from bind pm ctv us hus];refine wpAny_pure (wpAny_newFunctionEnv S.nocell hloc (fun h₁ hns hsb=>?_) S.kind);have hk₁:∀ b o,s.heap.get? b=some o->h₁.get? b=some o:=fun b o e=>hsb.extBut b o (Nat.ne_of_lt (Heap.lt_size e)) (Heap.get?_push_of_some _ e);refine ⟨e0.mod.nolimit.keeps fun b o e=>hk₁ b o (e0.bs b o e).1,?_⟩;show codeAny _ _ (.expr body (PySem.W.envX qual scope s.heap.objs.size f (.ref c') cl)) _ _;obtain ⟨t,ws,hws,ht,hq⟩:=hbody A outer s H vs Q E (hr.deeper _) h;have hwl:(N.drop ps.length).length=ws.length:=Paired.length hws;have hpl:ps.length<=N.length:=by have:=congrArg List.length S.pre;rw [List.length_take] at this;omega
  have hcl:∀ x c,cl.lookup x=some c->c∈cl.map (·.2):=fun x c e=>fw e
  have hlt:∀ c∈cl.map (·.2),c<s.heap.objs.size:=fun c hc=>by
   obtain ⟨φ',e⟩:=hx c hc;exact e0.hok.lt e
  have hcells:∀ x c,cl.lookup x=some c->∃ v,h₁.IsCell c v:=fun x c e=>by
   obtain ⟨v,hv⟩:=hcv x c e;obtain ⟨u,_,o,ho,hd⟩:=hv.now e0.hok;exact ⟨_,o,hk₁ _ _ ho,hd⟩
  have fgn:∀ b,H b=none->fgt (cl.map (·.2)) H b=none:=fun b e=>by
   by_cases hb:b∈cl.map (·.2)
   · exact eF hb
   · rw [be hb];exact e
  have ndP:ps.Nodup:=by rw [<- S.pre];exact S.nd.sublist (List.take_sublist _ _)
  have I:Inv (cxL P w K mg base N qual scope f (.ref c') cl A outer s H) [] (vs.map some++ws.map some) (fgt (cl.map (·.2)) H) { s with heap:=h₁,toks:=s.toks+(ps.zip us).length }:=by
   refine ⟨⟨e0.mod,S.kind,rfl,rfl,Nat.le_refl _,S.inj,fun x hx=>?_,fun x c hf _=>(by cases hf),fun _=>hr.hd,Around.frames_deeper e0.frames,.inr ⟨rfl,rfl⟩,fun b z=>(by cases z),fun b o e=>⟨(e0.bs b o e).1,?_⟩,e0.bsz,fun b _ _ z=>(by cases z),fun b z=>(by cases z),e0.funs,fun b hb=>?_⟩,
    rfl,e0.bare,Un.kept hk₁,⟨_,hns,fun i x v e1 e2 e3=>?_⟩,hcells,?_,fun x c e=>eF (hcl x c e),fun p hp=>(by cases hp),?_,?_⟩
   · have hx':scope.names.lookup x=some .cell∨scope.names.lookup x=some .free:=hx;rcases hx' with z | z
     · exact absurd rfl (S.nocell _ (PySem.mem_of_lookup z))
     · exact S.has x z
   · exact fgn b (e0.bs b o e).2
   · exact fgn b (e0.frf b hb)
   · by_cases hi:i<vs.length
     · rw [List.getElem?_append_left (by rw [List.length_map];exact hi),List.getElem?_map] at e2;obtain ⟨v',hv',e4⟩:=Option.map_eq_some_iff.mp e2;cases e4;obtain ⟨u,hu,rv⟩:=r.get hv'
       have hp:ps[i]?=some x:=by
        rw [<- S.pre,List.getElem?_take_of_lt (by omega)];exact e1
       exact ⟨u,rv,.inl ⟨S.par x (List.mem_of_getElem? hp),jz ndP hus hp hu⟩⟩
     · rw [List.getElem?_append_right (by rw [List.length_map];omega),List.getElem?_map,List.length_map] at e2;obtain ⟨v',hv',e4⟩:=Option.map_eq_some_iff.mp e2;cases e4
       have hd:(N.drop ps.length)[i - vs.length]?=some x:=by
        rw [List.getElem?_drop,hl,show ps.length+(i - ps.length)=i by omega];exact e1
       obtain ⟨w',hw',c,hc,hcell⟩:=BB.P2.get hws hd;rw [hv'] at hw';cases hw';obtain ⟨u,ru,o,ho,hdc⟩:=hcell.now e0.hok;exact ⟨u,ru,.inr ⟨.inr (S.fre x (List.mem_of_getElem? hd)),c,hc,o,hk₁ _ _ ho,hdc⟩⟩
   · exact fgn _ (e0.hok.fresh (Nat.le_refl _))
   · exact (e0.hok.fgt hx).kept hk₁
   · show (vs.map some++ws.map some).length=N.length;rw [List.length_append,List.length_map,List.length_map,<- hwl,List.length_drop];omega
  refine PySem.W.kla_codeExpr (wpAny_mono (ht [] _ _ _ _ I hq) (fun u s' hl'=>?_) fun e s' z=>z.elim);obtain ⟨v,H',I',rv,q'⟩:=hl';have un:Un (frs outer) [] (fgt (cl.map (·.2)) H) H' s.heap s'.heap:=I'.base
  have kS:∀ b∈cl.map (·.2),∀ o,s.heap.get? b=some o->s'.heap.get? b=some o:=fun b hb o e=>un.keep b o e (eF hb) (fun z=>by
   obtain ⟨φ',e'⟩:=hx b hb;rw [e0.frf b z] at e';cases e') (by simp)
  have hnS:∀ b∈cl.map (·.2),H' b=none:=fun b hb=>by
   obtain ⟨φ',e'⟩:=hx b hb;obtain ⟨_,⟨o,ho⟩,_⟩:=e0.hok b _ e';exact un.free b o ho (eF hb) (by simp)
  have nS:∀ b,H b=none->b∉cl.map (·.2):=fun b e hb=>by
   obtain ⟨φ',e'⟩:=hx b hb;rw [e] at e';cases e'
  refine ⟨v,rst (cl.map (·.2)) H H',I'.os,I'.bare,⟨fun b o e n hb hx'=>un.keep b o e (fgn b n) hb hx',fun b o e n hb hx'=>un.slot b o e (fgn b n) hb hx',fun b o e n hx'=>?_,fun b o e hx'=>un.there b o e hx',fun b xs e=>?_,fun b o u' e=>?_,fun b pp e=>?_⟩,HOk.rst e0.hok I'.hok hx kS hnS,rv,q'⟩
  · rw [bV (nS b n)];exact un.free b o e (fgn b n) hx'
  · have hb:=hx.out e (by intro φ' z;cases z);rw [bV hb];exact un.tups b xs (by rw [be hb];exact e)
  · have hb:=hx.out e (by intro φ' z;cases z);rw [bV hb];exact un.frzs b o u' (by rw [be hb];exact e)
  · have hb:=hx.out e (by intro φ' z;cases z);rw [bV hb];exact un.tbls b pp (by rw [be hb];exact e)
structure Lam (mg:Str->Option Value) (base:Heap) (c P:Addr):Prop where
 hd:PySem.W.CodeHd base c P
 bl:base.BuiltinsAt mg P
def SameT (P:Addr) (H H':Hp):Prop:=∀ b o,b≠P->H b=some o->H' b=some o
def tabOf (pos:Pos) (c':Addr):Array Value:=#[rawInt pos.line,rawInt pos.col,.ref c']
def TabSt (H:Hp) (P:Addr) (pos:Pos) (qual:Str):Prop:=H P=some (.tbl #[])∨∃ c',H P=some (.tbl (tabOf pos c'))/\CodeAt H c' qual
theorem TabSt.mono {H H':Hp} (s:Same H H') {P:Addr} {pos:Pos} {qual:Str} (h:TabSt H P pos qual):TabSt H' P pos qual:=by
 rcases h with h | ⟨c',h1,h2⟩
 · exact .inl (s _ _ h)
 · exact .inr ⟨c',s _ _ h1,h2.mono s⟩
theorem SameT.trans {P:Addr} {H H1 H2:Hp} (a:SameT P H H1) (b:SameT P H1 H2):SameT P H H2:=fun c o n e=>b c o n (a c o n e)
theorem Same.t {H H':Hp} (s:Same H H') (P:Addr):SameT P H H':=fun b o _ e=>s b o e
theorem SameT.kt {P:Addr} {H H':Hp} (s:SameT P H H') {pp:Array Value} (hP:H P=some (.tbl pp)):BB.KT H H':=fun b xs e=>s b _ (fun z=>by rw [z,hP] at e;cases e) e
theorem TabSt.kt {P:Addr} {H H':Hp} {pos:Pos} {qual:Str} (t:TabSt H P pos qual) (s:SameT P H H'):BB.KT H H':=by
 rcases t with h | ⟨_,h,_⟩
 · exact s.kt h
 · exact s.kt h
theorem oE (pos:Pos) (c':Addr):TriplesOk (tabOf pos c').toList:=trivial
theorem mx (pos:Pos) (c':Addr):codeAmong pos (tabOf pos c').toList=some (.ref c'):=by
 show codeAmong pos [rawInt pos.line,rawInt pos.col,.ref c']=_;simp [codeAmong,rawInt]
def yb (X:Cx) (P:Addr) (pos:Pos) (params:Arguments) (body:Expr) (scope:Scope) (cl:List (Str×Addr)):TE:=fun _ H Q=>TabSt H P pos (X.env.qual++"<lambda>") ∧
 ∀ f c' H',SameT P H H'->H' P=some (.tbl (tabOf pos c'))->CodeAt H' c' (X.env.qual++"<lambda>")->LamAt H' f c' "<lambda>" (X.env.qual++"<lambda>") params body scope cl->H f=none->Q (.ref f) H'
theorem vI {X:Cx} {c P:Addr} {pos:Pos} {params:Arguments} {body:Expr} {scope:Scope} {cl:List (Str×Addr)} (L:Lam X.mg X.base c P) (hc:X.env.code=.ref c) (hcl:closureFor scope X.env=pure cl) (hdef:defaultsOf params X.env=([],[]):=by rfl) :
 PE X (.Lambda params body scope pos) (yb X P pos params body scope cl):=by
 intro pins s σ H Q I h;obtain ⟨tab,q⟩:=h;have hgl:s.heap.Ns mainGlobals X.mg:=I.mod.glob.keeps I.bk;have C:PySem.W.CodeHd s.heap c P:=L.hd.keeps I.bk
 have hb:s.heap.BuiltinsAt X.mg P:=by
  obtain ⟨bm,o,h1,h2,h3,h4,h5,h6⟩:=L.bl;exact ⟨bm,o,h1,h2,h3,h4,I.bk _ _ h5,h6⟩
 refine PySem.W.kla_eval hdef ?_;rcases tab with hP | ⟨c',hP,hcc⟩
 · have hPo:s.heap.get? P=some (PySem.W.tabObj #[]):=I.hok P _ hP
   have hgP:mainGlobals≠P:=fun z=>by
    obtain ⟨o,es,ep,e,d,_⟩:=hgl;rw [z,hPo] at e;cases e;cases d
   refine PySem.W.kla_makeFunction hcl I.ok.glob hgl hc C hPo trivial rfl hgP hb fun c' ctv h' tk hx hge hlt hrec htb=>?_;have hsz:s.heap.objs.size<=h'.objs.size:=Nat.le_trans hge (Nat.le_of_lt hlt);have nc':H c'=none:=I.hok.fresh hge;have nf:H h'.objs.size=none:=I.hok.fresh hsz;have ncf:c'≠h'.objs.size:=Nat.ne_of_lt hlt;have nPc:P≠c':=fun z=>by rw [z,nc'] at hP;cases hP
   have nPf:P≠h'.objs.size:=fun z=>by rw [z,nf] at hP;cases hP
   have kp:∀ b o,b≠P->s.heap.get? b=some o->(h'.push (PySem.W.kla_obj "<lambda>" (X.env.qual++"<lambda>") params body scope cl ((X.mg "__name__").getD .none) c' ctv)).get? b=some o:=fun b o n e=>Heap.get?_push_of_some _ (hx b o n e);obtain ⟨H',hH'⟩:∃ H',H'=upd (upd (upd H P (.tbl (tabOf pos c'))) c' (.ext fun h=>h.CodeRec (.ref c') (X.env.qual++"<lambda>"))) h'.objs.size (.ext fun h=>h.get? h'.objs.size=some (PySem.W.kla_obj "<lambda>" (X.env.qual++"<lambda>") params body scope cl ((X.mg "__name__").getD .none) c' ctv)):=⟨_,rfl⟩;have eP:H' P=some (.tbl (tabOf pos c')):=by rw [hH',ak nPf,ak nPc,ad]
   have ec:H' c'=some (.ext fun h=>h.CodeRec (.ref c') (X.env.qual++"<lambda>")):=by rw [hH',ak ncf,ad]
   have ef:H' h'.objs.size=some (.ext fun h=>h.get? h'.objs.size=some (PySem.W.kla_obj "<lambda>" (X.env.qual++"<lambda>") params body scope cl ((X.mg "__name__").getD .none) c' ctv)):=by rw [hH',ad]
   have eo:∀ b,b≠P->b≠c'->b≠h'.objs.size->H' b=H b:=fun b n1 n2 n3=>by rw [hH',ak n3,ak n2,ak n1]
   have es:∀ b o,H b=some o->b≠P->H' b=some o:=fun b o e n=>by rw [eo b n (fun z=>by rw [z,nc'] at e;cases e) (fun z=>by rw [z,nf] at e;cases e)];exact e
   have un:Un X.fs [] H H' s.heap (h'.push (PySem.W.kla_obj "<lambda>" (X.env.qual++"<lambda>") params body scope cl ((X.mg "__name__").getD .none) c' ctv)):=by
    have nP:∀ b,H b=none->b≠P:=fun b n z=>by rw [z,hP] at n;cases n
    refine ⟨fun b o e n _ _=>kp b o (nP b n) e,fun b o e n _ _=>⟨o.slots,kp b o (nP b n) e⟩,fun b o e n _=>?_,fun b o e _=>?_,fun b xs e=>es b _ e (fun z=>by rw [z,hP] at e;cases e),fun b o u e=>es b _ e (fun z=>by rw [z,hP] at e;cases e),fun b pp e=>?_⟩
    · rw [eo b (nP b n) (Nat.ne_of_lt (Nat.lt_of_lt_of_le (Heap.lt_size e) hge)) (Nat.ne_of_lt (Nat.lt_of_lt_of_le (Heap.lt_size e) hsz))];exact n
    · by_cases hb:b=P
      · exact ⟨_,by rw [hb];exact Heap.get?_push_of_some _ htb⟩
      · exact ⟨o,kp b o hb e⟩
    · by_cases hb:b=P
      · subst hb;rw [hP] at e;cases e;exact ⟨tabOf pos c',by rw [eP];simp⟩
      · exact ⟨#[],by rw [es b _ e hb];simp⟩
   have hok:HOk X.prog X.w H' (h'.push (PySem.W.kla_obj "<lambda>" (X.env.qual++"<lambda>") params body scope cl ((X.mg "__name__").getD .none) c' ctv)):=fun a o e=>by
    by_cases ha:a=P
    · subst ha;rw [eP] at e;cases e;exact Heap.get?_push_of_some _ htb
    by_cases hc':a=c'
    · subst hc';rw [ec] at e;cases e;refine ⟨hrec.push _,?_,fun h1 h2 z k=>?_⟩
      · obtain ⟨_,oc,_,_,e1,e2,_⟩:=hrec;cases e1;exact ⟨oc,Heap.get?_push_of_some _ e2⟩
      · obtain ⟨_,oc,vs,t,e1,e2,e3⟩:=z;cases e1;exact ⟨_,oc,vs,t,rfl,k _ e2,e3⟩
    by_cases hf':a=h'.objs.size
    · subst hf';rw [ef] at e;cases e;exact ⟨Heap.get?_push_size _ rfl,⟨_,Heap.get?_push_size _ rfl⟩,fun h1 h2 z k=>k _ z⟩
    rw [eo a ha hc' hf'] at e;refine (I.hok a o e).stay (fun b u hb z=>kp b u ?_ z) (fun b z=>es b _ z (fun y=>by rw [y,hP] at z;cases z)) fun b xs z=>es b _ z (fun y=>by rw [y,hP] at z;cases z);rcases hb with hb | hb
    · rw [hb];exact ha
    · exact fun y=>by rw [y,hP] at hb;cases hb
   refine ⟨.ref h'.objs.size,H',I.un un hok,rfl,q _ c' H' (fun b o n e=>es b o e n) eP ⟨_,ec,fun _ z=>z⟩ ⟨_,ef,fun _ z=>⟨_,_,z⟩⟩ nf⟩
 · have hPo:s.heap.get? P=some (PySem.W.tabObj (tabOf pos c')):=I.hok P _ hP;refine PySem.W.kla_makeFunctionHit hcl I.ok.glob hgl hc C hPo (oE pos c') (mx pos c') hb fun ctv h' tk hk hsz=>?_;have nf:H h'.objs.size=none:=I.hok.fresh hsz
   have I':=I.laid (h':=h'.push { cls:=.type "function",data:=.func (PySem.W.kla_fn "<lambda>" (X.env.qual++"<lambda>") params body scope cl ((X.mg "__name__").getD .none) (.ref c') ctv) }) (a:=h'.objs.size) (t':=tk)
    (o:=.ext fun h=>h.get? h'.objs.size=some (PySem.W.kla_obj "<lambda>" (X.env.qual++"<lambda>") params body scope cl ((X.mg "__name__").getD .none) c' ctv)) (fun b u e=>Heap.get?_push_of_some _ (hk b u e)) hsz ⟨Heap.get?_push_size _ rfl,⟨_,Heap.get?_push_size _ rfl⟩,fun h1 h2 z k=>k _ z⟩
   have sm:Same H (upd H h'.objs.size (.ext fun h=>h.get? h'.objs.size=some (PySem.W.kla_obj "<lambda>" (X.env.qual++"<lambda>") params body scope cl ((X.mg "__name__").getD .none) c' ctv))):=af nf _;exact ⟨.ref h'.objs.size,_,I',rfl,q _ c' _ (sm.t P) (sm _ _ hP) (hcc.mono sm) ⟨_,ad,fun _ z=>⟨_,_,z⟩⟩ nf⟩
section
variable {X:Cx} {k:Nat} {f:Addr} {fd:FuncData} {ps:List Str} {sp:Sp} {x:Str} {p pos:Pos} {e:Expr} {es:List Expr} {t:TA}
def Trk (X:Cx) (σ:St) (cl:List (Str×Addr)) (H H':Hp):Prop:=(∀ b∈cl.map (·.2),H b=none)/\(∀ b,b∉cl.map (·.2)->H' b=H b)/\Exts (cl.map (·.2)) H'/\∀ (i:Nat) (y:Str) (v:V) (c:Addr),X.N[i]?=some y->σ[i]?=some (some v)->cl.lookup y=some c->CellAt H' c v
def vV (X:Cx) (cl:List (Str×Addr)) (sp:Sp) (t:TA):TE:=fun σ H Q=>t σ H fun vs H1=>∀ H2,Trk X σ cl H1 H2->sp vs H2 (fun v H3=>(∀ b∈cl.map (·.2),H3 b=H2 b)/\Q v (fgt (cl.map (·.2)) H3)) E0
theorem Trk.same {X:Cx} {σ:St} {cl:List (Str×Addr)} {H H':Hp} (t:Trk X σ cl H H'):Same H H':=fun b o e=>by
 rw [t.2.1 b (fun z=>by rw [t.1 b z] at e;cases e)];exact e
theorem Trk.back {X:Cx} {σ:St} {cl:List (Str×Addr)} {H H' H3:Hp} (t:Trk X σ cl H H') (s:Same H' H3):Same H (fgt (cl.map (·.2)) H3):=fun b o e=>by
 rw [be (fun z=>by rw [t.1 b z] at e;cases e)];exact s _ _ (t.same _ _ e)
theorem Trk.kt {X:Cx} {σ:St} {cl:List (Str×Addr)} {H H' H3:Hp} (t:Trk X σ cl H H') (s:Same H' H3):BB.KT H3 (fgt (cl.map (·.2)) H3):=fun b xs e=>by
 rw [be fun z=>?_]
 · exact e
 obtain ⟨φ,h⟩:=t.2.2.1 b z;rw [s _ _ h] at e;cases e
structure lC (X:Cx) (cl:List (Str×Addr)):Prop where
 look:∀ y c,(y,c)∈cl->X.env.cells.lookup y=some c
 fn:∀ y c,(y,c)∈cl->X.fn y=true
 kind:∀ y c,(y,c)∈cl->X.env.kindOf y=some .cell
theorem yp {y:Str} {c:Addr} (h1:X.env.cells.lookup y=some c) (h2:X.fn y=true) (h3:X.env.kindOf y=some .cell):lC X [(y,c)] :=
 ⟨fun _ _ h=>by cases List.mem_singleton.mp h;exact h1,fun _ _ h=>by cases List.mem_singleton.mp h;exact h2,fun _ _ h=>by cases List.mem_singleton.mp h;exact h3⟩
theorem oo {cl:List (Str×Addr)} (F:FnOk X.prog X.w X.K X.mg X.base CX0 k f fd ps sp) (hr:Room k X.A) (hg:Gl X x) (hm:X.mg x=some (.ref f)) (hk:PySem.W.keepIn X.K (.ref f)=true) (hb:Binds X.K fd ps []) (oc:lC X cl)
 (ha:PA X (e::es) t) (hdb:(x == ("__debug__":Str))=false:=by decide) (he:starEach (e::es) X.env=(false,eval e X.env)::starEach es X.env:=by rfl) (hpl:(backTo pos (starEach es X.env)).any (·.1)=false:=by rfl) :
 PE X (.Call (.Name x p) (e::es) [] pos) (vV X cl sp t):=by
 intro pins s σ H Q I h;refine wpAny_Call_Name_kw (jY I hg hm ?_ hdb);refine PySem.W.callWith_K (h₀:=X.base) I.ok.mod.kin hk (thn (ha pos pins s σ H _ I h) fun us s1 ⟨vs,H1,I1,r,q⟩=>⟨I1.kIn,?_⟩) he hpl
 have hmem:∀ b∈cl.map (·.2),∃ y,(y,b)∈cl:=fun b hb=>by
  obtain ⟨⟨y,c⟩,h1,h2⟩:=List.mem_map.mp hb;cases h2;exact ⟨y,h1⟩
 have hcell:∀ b∈cl.map (·.2),∃ v o,s1.heap.get? b=some o/\o.data=.cell v:=fun b hb=>by
  obtain ⟨y,hy⟩:=hmem b hb;obtain ⟨v,o,h1,h2⟩:=I1.cell y b (oc.look y b hy);exact ⟨v,o,h1,h2⟩
 have hfree:∀ b∈cl.map (·.2),H1 b=none:=fun b hb=>by
  obtain ⟨y,hy⟩:=hmem b hb;exact I1.freeC y b (oc.look y b hy)
 obtain ⟨H2,hH2⟩:∃ H2:Hp,H2=fun b=>if b∈cl.map (·.2) then some (.ext fun h=>h.get? b=s1.heap.get? b/\(h.get? b).isSome=true) else H1 b:=⟨_,rfl⟩
 have ein:∀ b∈cl.map (·.2),H2 b=some (.ext fun h=>h.get? b=s1.heap.get? b/\(h.get? b).isSome=true):=fun b hb=>by rw [hH2];exact if_pos hb
 have eout:∀ b,b∉cl.map (·.2)->H2 b=H1 b:=fun b hb=>by rw [hH2];exact if_neg hb
 have hx2:Exts (cl.map (·.2)) H2:=fun b hb=>⟨_,ein b hb⟩;have nin:∀ b u,H1 b=some u->b∉cl.map (·.2):=fun b u z hb=>by rw [hfree b hb] at z;cases z
 have hok2:HOk X.prog X.w H2 s1.heap:=fun a o ea=>by
  by_cases hb:a∈cl.map (·.2)
  · rw [ein a hb] at ea;cases ea;obtain ⟨v,o,h1,h2⟩:=hcell a hb
    exact ⟨⟨rfl,by rw [h1];rfl⟩,⟨o,h1⟩,fun g1 g2 z y=>by
     obtain ⟨ob,hob⟩:=Option.isSome_iff_exists.mp z.2;have:=y ob hob;exact ⟨by rw [this,<- hob];exact z.1,by rw [this];rfl⟩⟩
  · rw [eout a hb] at ea;exact (I1.hok a o ea).stay (fun _ _ _ z=>z) (fun b z=>by rw [eout b (nin b _ z)];exact z) fun b xs z=>by rw [eout b (nin b _ z)];exact z
 have hbase:∀ b o,X.base.get? b=some o->b∉cl.map (·.2):=fun b o z hb=>by
  obtain ⟨y,hy⟩:=hmem b hb;have h1:=I1.ok.cab y b (oc.fn y b hy) (oc.look y b hy);exact absurd (Nat.lt_of_lt_of_le (Heap.lt_size z) (Nat.le_trans I1.ok.bsz h1)) (Nat.lt_irrefl _)
 have hfrs:∀ b∈frs X.stack,b∉cl.map (·.2):=fun b hb hc=>by
  obtain ⟨y,hy⟩:=hmem b hc;rcases List.mem_cons.mp (I1.stkSub b hb) with z | z
  · exact I1.cne y b (oc.look y b hy) z
  · obtain ⟨_,o,ho,_⟩:=I1.ok.funs.mem z;have h1:=I1.ok.cab y b (oc.fn y b hy) (oc.look y b hy);exact absurd (Nat.lt_of_lt_of_le (Heap.lt_size ho) h1) (Nat.lt_irrefl _)
 have e0:=I1.env0;have e2:Env0 X.prog X.w X.K X.mg X.base X.A X.stack s1 H2:=⟨e0.frames,e0.mod,fun b o z=>⟨(e0.bs b o z).1,by rw [eout b (hbase b o z)];exact (e0.bs b o z).2⟩,e0.bsz,e0.funs,fun b hb=>by rw [eout b (hfrs b hb)];exact e0.frf b hb,hok2,e0.bare⟩
 have htrk:Trk X σ cl H1 H2:=by
  refine ⟨hfree,eout,hx2,fun i y v c hN hσ hc=>?_⟩;have hyc:(y,c)∈cl:=PySem.mem_of_lookup hc;have hlk:=oc.look y c hyc;have hkd:=oc.kind y c hyc;obtain ⟨m,hn,hl⟩:=I1.loc;obtain ⟨u,ru,l⟩:=hl i y v hN hσ (.inr (.inl hkd));rcases l with ⟨z,_⟩ | ⟨_,c2,hc2,z⟩
  · rw [hkd] at z;cases z
  · rw [hlk] at hc2;cases hc2;refine ⟨_,ein c (fw hc),fun h z'=>⟨u,ru,?_⟩⟩;obtain ⟨o,ho,hd⟩:=z;exact ⟨o,by rw [z'.1];exact ho,hd⟩
 have hsp:=q H2 htrk;have hl:us.length=ps.length:=by rw [<- r.length];exact F.len _ _ _ _ hsp
 have hb':=hb s1 us I1.kIn (by rw [List.append_nil];exact hl);rw [List.append_nil] at hb';refine wpAny_call (codeAny_mono (F.run X.A X.stack s1 H2 ⟨us,[]⟩ us vs _ _ hr e2 hb' r hsp) fun rr s' hq=>?_);cases rr with
 | error e=>exact False.elim hq
 | ok fl =>
   cases fl with
   | next=>exact False.elim hq
   | brk=>exact False.elim hq
   | cont=>exact False.elim hq
   | ret u =>
     obtain ⟨v,H3,os,bare,un,hok3,rv,hS,q3⟩:=hq;have hx3:Exts (cl.map (·.2)) H3:=fun b hb=>⟨_,(hS b hb).trans (ein b hb)⟩;have kS:∀ b∈cl.map (·.2),s'.heap.get? b=s1.heap.get? b:=fun b hb=>((hok3 b _ ((hS b hb).trans (ein b hb))).1).1;refine ⟨v,fgt (cl.map (·.2)) H3,I1.call' (ch:=[]) os ⟨fun b o z n hb hx'=>?_,fun b o z n hb hx'=>?_,fun b o z n hx'=>?_,fun b o z hx'=>un.there b o z hx',fun b xs z=>?_,fun b o u' z=>?_,fun b pp z=>?_⟩ (hok3.fgt hx3) bare (fun b z=>by cases z),rv,q3⟩
     · by_cases hc:b∈cl.map (·.2)
       · rw [kS b hc];exact z
       · exact un.keep b o z (by rw [eout b hc];exact n) hb hx'
     · exact un.slot b o z (by rw [eout b (hfrs b hb)];exact n) hb hx'
     · by_cases hc:b∈cl.map (·.2)
       · exact eF hc
       · rw [be hc];exact un.free b o z (by rw [eout b hc];exact n) hx'
     · have hc:=nin b _ z;rw [be hc];exact un.tups b xs (by rw [eout b hc];exact z)
     · have hc:=nin b _ z;rw [be hc];exact un.frzs b o u' (by rw [eout b hc];exact z)
     · have hc:=nin b _ z;rw [be hc];exact un.tbls b pp (by rw [eout b hc];exact z)
end
theorem Fun.okT {P:Program} {w:World} {K:PySem.W.Frag} {mg:Str->Option Value} {base:Heap} {x qual:Str} {st:Stmt} {f c:Addr} {fd:FuncData} {N ps:List Str} {k:Nat} {sp:Sp} (F:Fun K x qual st f fd) (hc:fd.code=.ref c) (S:aq N ps (aj st)) (len:∀ vs H Q E,sp vs H Q E->vs.length=ps.length)
 (hbody:∀ (A:Around) (outer:List Env) (s:Shared) (H:Hp) (vs:List V) (Q:VK) (E:XK),Room k (A.deeper (envOfC qual (aj st) s.heap.objs.size f (.ref c)))->sp vs H Q E →
  ∃ t,PSs (pS CX0 P w K mg base N qual (aj st) f (.ref c) A outer s H E).nox (aY st) t/\t { nx:=fun _ H'=>Q .non H',rt:=Q } (start N vs) H):FnOk P w K mg base CX0 (k+1) f fd ps sp:=by
 obtain ⟨oc,od,kV,doc,pm,an,cdv,ct,osl,rfl,lk,hcd⟩:=F.ex;have hc':cdv=.ref c:=hc;subst hc';refine vg lk hcd S len fun A outer s H vs Q E hr hsp=>?_;obtain ⟨t,h,q⟩:=hbody A outer s H vs Q E hr hsp;exact ⟨t,h.nox,q⟩
theorem qK {K:PySem.W.Frag} {x qual:Str} {st:Stmt} {f c P:Addr} {fd:FuncData} (F:Fun K x qual st f fd) (hn:PySem.W.nsIn K mainGlobals x=some (some (.ref f))) (ht:PySem.W.tabIn K x=some (c,P)):fd.code=.ref c:=by
 obtain ⟨oc,od,kV,doc,pm,an,cdv,ct,osl,rfl,lk,hcd⟩:=F.ex;unfold PySem.W.tabIn at ht;rw [hn] at ht;simp only [lk] at ht;show cdv=.ref c;cases cdv with
 | ref c2 =>
   simp only [PySem.W.fnOf] at ht;split at ht
   · split at ht
     · cases ht;rfl
     · cases ht
   · cases ht
 | _=>simp [PySem.W.fnOf] at ht
end L2
namespace L2
open PySem PySem.Spec PyProof.Rows
def tabAt (o:Obj):Option Addr:=match o.data with
 | .fields vs=>(match (vs[11]?:Option Value) with
   | some (.ref P)=>some P
   | _=>none)
 | _=>none
theorem sV {K:PySem.W.Frag} {x:Str} {f c T:Addr} {oc:Value} {od:Option Addr} {sl:Array (Option Value)} {fd:FuncData} {ot:Obj} (hn:PySem.W.nsIn K mainGlobals x=some (some (.ref f))) (hl:K.lookup f=some ⟨oc,od,.func fd,sl⟩) (hc:fd.code=.ref c) (ho:K.lookup c=some ot) (ht:tabAt ot=some T):PySem.W.tabIn K x=some (c,T):=by
 unfold PySem.W.tabIn;rw [hn];simp only [hl,hc,ho];obtain ⟨o1,o2,o3,o4⟩:=ot;unfold tabAt at ht;cases o3 with
 | fields vs =>
   simp only at ht ⊢;split at ht
   · rename_i e
     cases ht;simp only [e]
   · cases ht
 | _=>cases ht
end L2
namespace L2
open PySem PySem.Spec PyProof.Rows
inductive lU (x:V) (vs:List V) (H:Hp) (Q:VK):Prop
 | mk (a:Addr) (v:V) (k:Key) (kvs:List (Key×V)) (zz0:x=.ref a) (zz1:vs=[kV k,v]) (zz2:H a=some (.dK kvs)) (zz3:kvs.length<sizeLine) (zz4:(∀ u,bE kvs k=some u->Q u H)) (zz5:(bE kvs k=none->Q v (upd H a (.dK (putK kvs k v))))):lU  x vs H Q
def sP:V->List V->Hp->VK->Prop:=lU
theorem ky {X:Cx}:MtM X "dict.setdefault" sP:=by
 intro pins s σ H x vs v us Q I rx rv h;obtain ⟨a,y,k,kvs,rfl,rfl,e,l,q1,q2⟩:=h;cases rx;cases rv with
 | cons r1 rv =>
 cases rv with
 | cons r2 rv =>
 cases rv;obtain ⟨z,hd,xs,rel,dd⟩:=rR I.hok e;have hz:xs.length<=sizeLine:=by rw [<- rel.length];exact z
 have hl:(putK kvs k y).length<=sizeLine:=by have:=b7 kvs k y;omega
 have hT:s.TypeIs (.ref a) "dict":=dd.typeIs;refine call_meetsIn PySem.F.slot_dict_setdefault hT PySem.F.entry_dict_setdefault (PySem.F.args_dict_setdefault_3 _ _ _) (kt_meets_setdefault (az X.prog X.w) a (nR r1) hd _) ⟨xs,dd,hz,fun p hp=>?_,fun hn h' dd' hs=>?_⟩
 · have hr:=rel.val k;rw [hp] at hr;cases hv:bE kvs k with
   | none=>rw [hv] at hr;exact hr.elim
   | some u =>
     rw [hv] at hr;exact ⟨u,H,I.tok _,hr,q1 u hv⟩
 · have hr:=rel.val k;rw [hn] at hr;cases hv:bE kvs k with
   | some u=>rw [hv] at hr;exact hr.elim
   | none =>
     refine ⟨y,_,?_,r2,q2 hv⟩;obtain ⟨q,es,ep,hq,rest⟩:=id dd';exact iB I (by rw [e];exact True.intro) hs ⟨q,hq⟩ ⟨hl,hd,_,rel.put k r2,dd'⟩
inductive sO (xs:List V) (H:Hp) (Q:VK):Prop
 | mk (a:Addr) (kvs:List (Key×V)) (zz0:xs=[.ref a]) (zz1:H a=some (.dK kvs)) (zz2:Q (.int kvs.length) H):sO  xs H Q
def xi:List V->Hp->VK->Prop:=sO
theorem jd {X:Cx}:dQ X (.builtin "len") xi:=by
 intro pins s σ H xs us Q I r h;obtain ⟨a,kvs,rfl,e,q⟩:=h;obtain ⟨u,rfl,rx⟩:=vals1 r;cases rx;exact wU I (.inl e) fun t s' I'=>⟨.int kvs.length,H,I',⟨_,rfl⟩,q⟩
inductive o7 (xs:List V) (H:Hp) (Q:VK):Prop
 | mk (a:Addr) (kvs:List (Key×V)) (zz0:xs=[.ref a]) (zz1:H a=some (.dK kvs)) (zz2:∀ l,H l=none->Q (.ref l) (upd H l (.lst (kvs.map fun kv=>kV kv.1)))):o7  xs H Q
def uJ:List V->Hp->VK->Prop:=o7
theorem lu {P:Program} {w:World}:∀ {es:List DictEntry} {kvs:List (Key×V)} {xs:List (Key×Value)},Pairs (az P w) es xs->KV kvs xs->Vals (kvs.map fun kv=>kV kv.1) (es.map (·.key))
 | _,_,_,.nil,.nil=>.nil
 | _,_,_,.cons hk _ ht,.cons h t=>by
   refine .cons ?_ (lu ht t);dsimp only;rw [h.1];rcases aW hk with ⟨i,tk,e1,e2⟩ | ⟨x,tk,e1,e2⟩
   · rw [e1];exact ⟨tk,e2⟩
   · rw [e1];exact ⟨tk,e2⟩
theorem o8 {X:Cx} (hc:X.calm=true):dQ X (.type "list") uJ:=by
 intro pins s σ H xs us Q I r h;obtain ⟨a,kvs,rfl,e,q⟩:=h;obtain ⟨u,rfl,rx⟩:=vals1 r;cases rx;obtain ⟨z,hd,ys,rel,dd⟩:=rR I.hok e;have hT:=dd.typeIs;obtain ⟨o,es,ep,ho,hcx,hdt,hk,hp,hn⟩:=dd;obtain ⟨o',ho',hcl⟩:=hT;have eo:o'=o:=Option.some.inj (ho'.symm.trans ho);subst eo;have hv:=lu hp rel
 have hsz:es.size<=sizeLine:=by
  have h1:=hv.length;simp only [List.length_map] at h1;have h2:es.toList.length=es.size:=by simp
  omega
 have hh:X.A.in1.in1.handled=none:=I.ok.hd hc;refine bb_list_keys hh hd ho' hcl hdt hsz fun h' acc c hk' hS hacc=>?_;refine ⟨.ref s.heap.objs.size,upd H s.heap.objs.size (.lst (kvs.map fun kv=>kV kv.1)),?_,rfl,q _ I.fresh⟩;exact I.laid (t':=s.toks) hk' (Nat.le_refl _) ⟨by rw [List.length_map];omega,acc.toList,c,by rw [hacc];exact hv,hS⟩
end L2
namespace BB
open PySem L2
def kM:Th->Option (Int×Int)
 | .knot _ _=>none
 | .call s k=>some (s,k)
def bu (t:Th):List (Int×Int):=t.walk.filterMap kM
def stT (t:Th):List Int:=(bu t).map (·.1)
def aX (ts:List Th):List Int:=ts.flatMap stT
theorem ie (s k:Int):stT (.call s k)=[s]:=rfl
theorem fX (n:Str) (ks:List Th):stT (.knot n ks)=aX ks:=by
 unfold stT bu aX;rw [Th.walk,List.filterMap_cons];show ((walks ks).filterMap kM).map (·.1)=_;induction ks with
 | nil=>rfl
 | cons t ts ih =>
   rw [walks,List.filterMap_append,List.map_append,ih];rfl
def dq (m:List Int) (s:Int):List Int:=if s∈m then m else m++[s]
def aC (m l:List Int):List Int:=l.foldl dq m
theorem bL (m a b:List Int):aC m (a++b)=aC (aC m a) b:=List.foldl_append
theorem lm (m:List Int) (s:Int):m <+: dq m s:=by
 unfold dq;split
 · exact List.prefix_refl _
 · exact List.prefix_append _ _
theorem df (l:List Int):∀ m:List Int,m <+: aC m l:=by
 induction l with
 | nil=>exact fun m=>List.prefix_refl _
 | cons s l ih=>exact fun m=>(lm m s).trans (ih _)
theorem nU {m:List Int} {s x:Int}:x∈dq m s↔x∈m∨x=s:=by
 unfold dq;split
 · rename_i h
   exact ⟨.inl,fun z=>z.elim id fun y=>y ▸ h⟩
 · rw [List.mem_append,List.mem_singleton]
theorem bj {l:List Int}:∀ {m:List Int} {x:Int},x∈aC m l↔x∈m∨x∈l:=by
 induction l with
 | nil=>intro m x;simp [aC]
 | cons s l ih =>
   intro m x;show x∈aC (dq m s) l↔_;rw [ih,nU,List.mem_cons,or_assoc]
theorem uu {m:List Int} {s:Int} (h:m.Nodup):(dq m s).Nodup:=by
 unfold dq;split
 · exact h
 · rename_i hs
   refine List.nodup_append.mpr ⟨h,by simp,fun a ha b hb e=>?_⟩;rw [List.mem_singleton.mp hb] at e;exact hs (e ▸ ha)
theorem ni {l:List Int}:∀ {m:List Int},m.Nodup->(aC m l).Nodup:=by
 induction l with
 | nil=>exact fun h=>h
 | cons s l ih=>exact fun h=>ih (uu h)
def bfs (R:Int->List Th):Nat->List Int->Nat->List Int
 | 0,m,_=>m
 | n+1,m,i=>match m[i]? with
   | none=>m
   | some s=>bfs R n (aC m (aX (R s))) (i+1)
theorem dD (R:Int->List Th):∀ (n:Nat) (m:List Int) (i:Nat),m <+: bfs R n m i
 | 0,m,i=>List.prefix_refl _
 | n+1,m,i=>by
   rw [bfs];split
   · exact List.prefix_refl _
   · exact (df _ _).trans (dD R n _ _)
theorem pY (R:Int->List Th):∀ (n:Nat) (m:List Int) (i:Nat),m.Nodup->(bfs R n m i).Nodup
 | 0,m,i,h=>h
 | n+1,m,i,h=>by
   rw [bfs];split
   · exact h
   · exact pY R n _ _ (ni h)
theorem nJ (R:Int->List Th) (p:Int->Prop) (hR:∀ s,p s->∀ x∈aX (R s),p x):∀ (n:Nat) (m:List Int) (i:Nat),(∀ x∈m,p x)->∀ x∈bfs R n m i,p x
 | 0,m,i,h=>h
 | n+1,m,i,h=>by
   rw [bfs];split
   · exact h
   · rename_i s hs
     refine nJ R p hR n _ _ fun x hx=>?_;rcases bj.mp hx with z | z
     · exact h x z
     · exact hR s (h s (List.mem_of_getElem? hs)) x z
theorem qm (R:Int->List Th) (n:Nat) (m:List Int) (i:Nat) (h:m.length<=i):bfs R n m i=m:=by
 cases n with
 | zero=>rfl
 | succ n=>rw [bfs,List.getElem?_eq_none h]
theorem lb:∀ (n:Nat) (l:List Nat),l.Nodup->(∀ x∈l,x<n)->l.length<=n
 | 0,l,_,h=>by
   cases l with
   | nil=>exact Nat.le_refl _
   | cons x l=>exact absurd (h x (List.mem_cons_self ..)) (Nat.not_lt_zero _)
 | n+1,l,nd,h=>by
   by_cases hn:n∈l
   · have h1:=lb n (l.erase n) (nd.sublist (List.erase_sublist ..)) fun x hx=>by
      have h2:=h x (List.mem_of_mem_erase hx)
      have h3:x≠n:=fun z=>by
       rw [z] at hx;exact (List.Nodup.not_mem_erase nd) hx
      omega
     rw [List.length_erase_of_mem hn] at h1;omega
   · have h1:=lb n l nd fun x hx=>by
      have h2:=h x hx;have h3:x≠n:=fun z=>hn (z ▸ hx);omega
     omega
theorem lR {m:List Int} {S:Nat} (nd:m.Nodup) (h:∀ x∈m,0<=x/\x<(S:Int)):m.length<=S:=by
 have h1:=lb S (m.map Int.toNat) (List.pairwise_map.mpr (nd.imp_of_mem fun {a b} ha hb hne z=>hne (by
  have:=h a ha;have:=h b hb
  omega))) fun x hx=>by
   obtain ⟨y,hy,rfl⟩:=List.mem_map.mp hx;have:=h y hy;omega
 rw [List.length_map] at h1;exact h1
def idx (M:List Int) (s:Int):Int:=(M.idxOf s:Nat)
theorem jV {m M:List Int} (h:m <+: M) {s:Int} (hs:s∈m):idx M s=idx m s:=by
 obtain ⟨r,rfl⟩:=h;unfold idx;rw [List.idxOf_append,if_pos hs]
theorem tB {M:List Int} {s:Int} (hs:s∈M):0<=idx M s/\idx M s<(M.length:Int):=by
 have:=List.idxOf_lt_length_of_mem hs;unfold idx;omega
def ren (g:Int->Int) (t:Th):Th:=t.fill fun s k=>.call (g s) k
theorem dg (g:Int->Int) (s k:Int):ren g (.call s k)=.call (g s) k:=by unfold ren;rw [Th.fill]
theorem gb (f:Int->Int->Th):∀ ts:List Th,fills f ts=ts.map (·.fill f)
 | []=>rfl
 | t::ts=>by rw [fills,gb f ts];rfl
theorem de (g:Int->Int) (n:Str) (ks:List Th):ren g (.knot n ks)=.knot n (ks.map (ren g)):=by
 unfold ren;rw [Th.fill,gb]
mutual
theorem nI (g:Int->Int):∀ t:Th,stT (ren g t)=(stT t).map g
 | .call s k=>by rw [dg,ie,ie];rfl
 | .knot n ks=>by rw [de,fX,fX,ig g ks]
theorem ig (g:Int->Int):∀ ts:List Th,aX (ts.map (ren g))=(aX ts).map g
 | []=>rfl
 | t::ts=>by
   show stT (ren g t)++aX (ts.map (ren g))=(stT t++aX ts).map g;rw [nI g t,ig g ts,List.map_append]
end
theorem rQ {ts:List Th} {t:Th} {x:Int} (ht:t∈ts) (hx:x∈stT t):x∈aX ts:=List.mem_flatMap.mpr ⟨t,ht,hx⟩
mutual
theorem i6 {g h:Int->Int}:∀ t:Th,(∀ s∈stT t,g s=h s)->ren g t=ren h t
 | .call s k,e=>by rw [dg,dg,e s (by rw [ie];exact List.mem_singleton.mpr rfl)]
 | .knot n ks,e=>by
   rw [de,de,qI ks fun s hs=>e s (by rw [fX];exact hs)]
theorem qI {g h:Int->Int}:∀ ts:List Th,(∀ s∈aX ts,g s=h s)->ts.map (ren g)=ts.map (ren h)
 | [],_=>rfl
 | t::ts,e=>by
   rw [List.map_cons,List.map_cons,i6 t fun s hs=>e s (List.mem_append_left _ hs),qI ts fun s hs=>e s (List.mem_append_right _ hs)]
end
mutual
theorem qv (g h:Int->Int):∀ t:Th,ren h (ren g t)=ren (fun s=>h (g s)) t
 | .call s k=>by rw [dg,dg,dg]
 | .knot n ks=>by rw [de,de,de,mq g h ks]
theorem mq (g h:Int->Int):∀ ts:List Th,(ts.map (ren g)).map (ren h)=ts.map (ren fun s=>h (g s))
 | []=>rfl
 | t::ts=>by
   rw [List.map_cons,List.map_cons,List.map_cons,qv g h t,mq g h ts]
end
mutual
theorem iu (g:Int->Int):∀ t:Th,(ren g t).size=t.size/\(ren g t).tall=t.tall
 | .call s k=>by rw [dg,Th.size,Th.size,Th.tall,Th.tall];exact ⟨rfl,rfl⟩
 | .knot n ks=>by
   have:=lV g ks;rw [de,Th.size,Th.size,Th.tall,Th.tall,this.1,this.2];exact ⟨rfl,rfl⟩
theorem lV (g:Int->Int):∀ ts:List Th,aw (ts.map (ren g))=aw ts/\aI (ts.map (ren g))=aI ts
 | []=>⟨rfl,rfl⟩
 | t::ts=>by
   have h1:=iu g t;have h2:=lV g ts;rw [List.map_cons,aw,aw,aI,aI,h1.1,h1.2,h2.1,h2.2];exact ⟨rfl,rfl⟩
end
theorem sM {g:Int->Int} {m:List Int} {s:Int} (h:∀ x∈m,g x=g s->x=s):dq (m.map g) (g s)=(dq m s).map g:=by
 unfold dq;by_cases hs:s∈m
 · rw [if_pos hs,if_pos (List.mem_map.mpr ⟨s,hs,rfl⟩)]
 · rw [if_neg hs,if_neg,List.map_append]
   · rfl
   · intro z;obtain ⟨x,hx,e⟩:=List.mem_map.mp z;exact hs (h x hx e ▸ hx)
theorem nT {g:Int->Int} {M:List Int} (hg:∀ x∈M,∀ y∈M,g x=g y->x=y):∀ {l m:List Int},(∀ x∈m,x∈M)->(∀ x∈l,x∈M)->aC (m.map g) (l.map g)=(aC m l).map g:=by
 intro l;induction l with
 | nil=>exact fun _ _=>rfl
 | cons s l ih =>
   intro m hm hl;have hs:=hl s (List.mem_cons_self ..);show aC (dq (m.map g) (g s)) (l.map g)=(aC (dq m s) l).map g;rw [sM fun x hx e=>hg x (hm x hx) s hs e];exact ih (fun x hx=>(nU.mp hx).elim (hm x) fun z=>z ▸ hs) fun x hx=>hl x (List.mem_cons_of_mem _ hx)
theorem qG {R R':Int->List Th} {g:Int->Int} {M:List Int} (hg:∀ x∈M,∀ y∈M,g x=g y->x=y) (hR:∀ s∈M,R' (g s)=(R s).map (ren g)) :
 ∀ (n:Nat) (m:List Int) (i:Nat),(∀ x∈bfs R n m i,x∈M)->bfs R' n (m.map g) i=(bfs R n m i).map g
 | 0,m,i,_=>rfl
 | n+1,m,i,h=>by
   rw [bfs] at h ⊢;rw [bfs];rw [List.getElem?_map];cases hi:m[i]? with
   | none=>rfl
   | some s =>
     rw [hi] at h;have h':∀ x∈bfs R n (aC m (aX (R s))) (i+1),x∈M:=h;have hpre:=(dD R n (aC m (aX (R s))) (i+1)).subset;have hm:∀ x∈aC m (aX (R s)),x∈M:=fun x hx=>h' x (hpre hx);have hs:s∈M:=hm s (bj.mpr (.inl (List.mem_of_getElem? hi)));show bfs R' n (aC (m.map g) (aX (R' (g s)))) (i+1)=(bfs R n (aC m (aX (R s))) (i+1)).map g;rw [hR s hs,ig,nT hg (fun x hx=>hm x (bj.mpr (.inl hx))) fun x hx=>hm x (bj.mpr (.inr hx))];exact qG hg hR n _ _ h'
def rowOf (rows:List (List Th)) (s:Int):List Th:=rows.getD s.toNat []
def met (head:Th) (rows:List (List Th)):List Int:=bfs (rowOf rows) 21 (aC [] (stT head)) 0
def dS (head:Th) (rows:List (List Th)):Th:=ren (idx (met head rows)) head
def eL (head:Th) (rows:List (List Th)):List (List Th):=(met head rows).map fun s=>(rowOf rows s).map (ren (idx (met head rows)))
structure CallsOk (head:Th) (rows:List (List Th)):Prop where
 le:rows.length<=20
 hd:∀ s∈stT head,0<=s/\s<(rows.length:Int)
 rw:∀ row∈rows,∀ s∈aX row,0<=s/\s<(rows.length:Int)
section
variable {head:Th} {rows:List (List Th)}
theorem CallsOk.row (h:CallsOk head rows) {s:Int}:∀ x∈aX (rowOf rows s),0<=x/\x<(rows.length:Int):=fun x hx=>by
 unfold rowOf at hx;rw [List.getD] at hx;cases e:rows[s.toNat]? with
 | none=>rw [e] at hx;cases hx
 | some r=>rw [e] at hx;exact h.rw r (List.mem_of_getElem? e) x hx
theorem CallsOk.nd (h:CallsOk head rows):(met head rows).Nodup:=pY _ _ _ _ (ni List.nodup_nil)
theorem CallsOk.rng (h:CallsOk head rows):∀ x∈met head rows,0<=x/\x<(rows.length:Int) :=
 nJ _ (fun x=>0<=x/\x<(rows.length:Int)) (fun s _=>h.row) _ _ _ fun x hx=>by
  rcases bj.mp hx with z | z
  · cases z
  · exact h.hd x z
theorem CallsOk.len (h:CallsOk head rows):(met head rows).length<=20:=Nat.le_trans (lR h.nd h.rng) h.le
theorem tM:∀ s∈stT head,s∈met head rows:=fun s hs=>(dD _ _ _ _).subset (bj.mpr (.inr hs))
theorem gG {R:Int->List Th}:∀ (n:Nat) (m:List Int) (i:Nat),(bfs R n m i).length<i+n->(∀ j s,j<i->m[j]?=some s->∀ x∈aX (R s),x∈bfs R n m i)->∀ s∈bfs R n m i,∀ x∈aX (R s),x∈bfs R n m i
 | 0,m,i,hl,h=>fun s hs x hx=>by
   obtain ⟨j,hj⟩:=List.mem_iff_getElem?.mp hs;have hjl:=(List.getElem?_eq_some_iff.mp hj).1;exact h j s (by rw [bfs] at hl hjl;omega) hj x hx
 | n+1,m,i,hl,h=>by
   rw [bfs] at hl h ⊢;cases hi:m[i]? with
   | none =>
     rw [hi] at h;intro s hs x hx;obtain ⟨j,hj⟩:=List.mem_iff_getElem?.mp (show s∈m from hs);have hjl:=(List.getElem?_eq_some_iff.mp hj).1;have:=List.getElem?_eq_none_iff.mp hi;exact h j s (by omega) hj x hx
   | some s0 =>
     rw [hi] at hl h
     have hl':(bfs R n (aC m (aX (R s0))) (i+1)).length<i+1+n:=by
      have:(bfs R n (aC m (aX (R s0))) (i+1)).length<i+(n+1):=hl;omega
     refine gG n (aC m (aX (R s0))) (i+1) hl' fun j s hj hjs x hx=>?_;have hp:=dD R n (aC m (aX (R s0))) (i+1);have hil:=(List.getElem?_eq_some_iff.mp hi).1
     have hm:m[j]?=some s:=by
      obtain ⟨r,hr⟩:=df (aX (R s0)) m;rw [<- hr,List.getElem?_append_left (by omega)] at hjs;exact hjs
     by_cases hji:j=i
     · rw [hji,hi] at hm;cases hm;exact hp.subset (bj.mpr (.inr hx))
     · exact h j s (by omega) hm x hx
theorem CallsOk.closed (h:CallsOk head rows):∀ s∈met head rows,∀ x∈aX (rowOf rows s),x∈met head rows :=
 gG 21 _ 0 (by have:=h.len;unfold met at this;omega) fun j s hj=>absurd hj (Nat.not_lt_zero _)
theorem i3:(eL head rows).length=(met head rows).length:=by unfold eL;rw [List.length_map]
theorem CallsOk.trim (h:CallsOk head rows):CallsOk (dS head rows) (eL head rows):=by
 refine ⟨by rw [i3];exact h.len,fun s hs=>?_,fun row hrow s hs=>?_⟩
 · unfold dS at hs;rw [nI] at hs;obtain ⟨x,hx,rfl⟩:=List.mem_map.mp hs;rw [i3];exact tB (tM x hx)
 · obtain ⟨y,hy,rfl⟩:=List.mem_map.mp hrow;rw [ig] at hs;obtain ⟨x,hx,rfl⟩:=List.mem_map.mp hs;rw [i3];exact tB (h.closed y hy x hx)
end
end BB
namespace L2
open PySem PySem.Spec PySem.SeqAt PyProof.Rows
theorem ls {α:Type} [DecidableEq α] {s:Shared} {A:Around} {a b:Addr} {its its2:List Value} {ds es:List α} (p1:s.heap.IsTuple a its.toArray) (p2:s.heap.IsTuple b its2.toArray) (l1:its.length=ds.length) (l2:its2.length=es.length) (hu:A.units<cLine)
 (ih:∀ (j:Nat) (d e:α) (u v:Value),ds[j]?=some d->es[j]?=some e->its[j]?=some u->its2[j]?=some v->EqAt A.in1 s u v (decide (d=e))):RcAt A s (.ref a) (.ref b) (decide (ds=es)):=by
 have hcmp:RcAt A s (.ref a) (.ref b) ((List.range (min its.toArray.size its2.toArray.size)).all (fun j=>decide (ds[j]?=es[j]?)) && its.toArray.size == its2.toArray.size):=by
  refine RcAt.tuples p1 p2 hu fun j h1 h2=>?_;have h1':j<ds.length:=by rw [<- l1];simpa using h1
  have h2':j<es.length:=by rw [<- l2];simpa using h2
  have e1:ds[j]?=some ds[j]:=List.getElem?_eq_getElem h1';have e2:es[j]?=some es[j]:=List.getElem?_eq_getElem h2';have e3:decide (ds[j]?=es[j]?)=decide (ds[j]=es[j]):=by rw [e1,e2];simp
  have g1:its[j]?=some its[j]:=List.getElem?_eq_getElem (by rw [l1];exact h1');have g2:its2[j]?=some its2[j]:=List.getElem?_eq_getElem (by rw [l2];exact h2');rw [e3];exact ih j ds[j] es[j] its[j] its2[j] e1 e2 g1 g2
 have e:decide (ds=es)=((List.range (min its.toArray.size its2.toArray.size)).all (fun j=>decide (ds[j]?=es[j]?)) && its.toArray.size == its2.toArray.size):=by
  rw [List.size_toArray,List.size_toArray,l1,l2];by_cases h:ds=es
  · subst h;rw [decide_eq_true rfl];symm;simp
  · rw [decide_eq_false h];symm;by_cases hl:ds.length=es.length
    · rw [hl,Nat.min_self]
      have:¬ ((List.range es.length).all (fun j=>decide (ds[j]?=es[j]?)))=true:=by
       intro z;apply h;apply List.ext_getElem?;intro j;by_cases hj:j<es.length
       · exact of_decide_eq_true (List.all_eq_true.mp z j (List.mem_range.mpr hj))
       · rw [List.getElem?_eq_none (by omega),List.getElem?_eq_none (by omega)]
      rw [Bool.eq_false_iff.mpr this];rfl
    · have:(ds.length == es.length)=false:=by simpa using hl
      rw [this,Bool.and_false]
 rw [e];exact hcmp
theorem oN {A:Around} {s:Shared} {k l:Key} {u v:Value} (hu:gj k u=true) (hv:gj l v=true):EqAt A s u v (decide (k=l)):=by
 rcases aW hu with ⟨i,t,rfl,rfl⟩ | ⟨x,t,rfl,rfl⟩
 · rcases aW hv with ⟨j,t',rfl,rfl⟩ | ⟨y,t',rfl,rfl⟩
   · have:decide ((Sum.inl i:Key)=Sum.inl j)=(i == j):=by
      by_cases h:i=j
      · subst h;simp
      · rw [decide_eq_false (fun z=>h (Sum.inl.inj z)),beq_eq_false_iff_ne.mpr h]
     rw [this];exact EqAt.int_int i t j t'
   · rw [decide_eq_false (fun z=>nomatch z)];exact EqAt.int_str i t y t'
 · rcases aW hv with ⟨j,t',rfl,rfl⟩ | ⟨y,t',rfl,rfl⟩
   · rw [decide_eq_false (fun z=>nomatch z)];exact EqAt.str_int x t j t'
   · have:decide ((Sum.inr x:Key)=Sum.inr y)=(x == y):=by
      by_cases h:x=y
      · subst h;simp
      · rw [decide_eq_false (fun z=>h (Sum.inr.inj z)),beq_eq_false_iff_ne.mpr h]
     rw [this];exact EqAt.str_str x t y t'
theorem jg {P:Program} {w:World}:∀ {ks:List Key} {vs:List Value} {j:Nat} {k:Key} {v:Value},ItemsAre (az P w) ks vs->ks[j]?=some k->vs[j]?=some v->gj k v=true
 | _,_,0,k,v,.cons h _,e1,e2=>by cases e1;cases e2;exact h
 | _,_,j+1,k,v,.cons _ h,e1,e2=>jg (j:=j) h e1 e2
theorem rC {P:Program} {w:World} {A:Around} {s:Shared} {x y:List Key} {a b:Addr} (hx:IsTupleKey (az P w) s.heap x a) (hy:IsTupleKey (az P w) s.heap y b) (hu:A.units<cLine):EqAt A s (.ref a) (.ref b) (decide (x=y)):=by
 by_cases hab:a=b
 · subst hab;obtain rfl:=hx.inj hy;rw [decide_eq_true rfl];exact EqAt.same _
 · obtain ⟨o,its,n,ho,hc,hd,hi⟩:=hx;obtain ⟨o',its',n',ho',hc',hd',hi'⟩:=hy;have p1:s.heap.IsTuple a its.toList.toArray:=⟨o,ho,hc,n,by rw [hd]⟩;have p2:s.heap.IsTuple b its'.toList.toArray:=⟨o',ho',hc',n',by rw [hd']⟩;have:=ls (ds:=x) (es:=y) p1 p2 hi.length.symm hi'.length.symm hu fun j d e u v e1 e2 e3 e4=>oN (A:=A.in1) (s:=s) (jg hi e1 e3) (jg hi' e2 e4);exact EqAt.of_refs hab this
abbrev bU:=List Key×Key
def IsNest (P:Program) (w:World) (h:Heap) (k:bU) (a:Addr):Prop:=∃ (o:Obj) (n:Nat) (b:Addr) (u:Value),h.get? a=some o/\o.cls=.type "tuple"/\o.data=.seq #[.ref b,u] n/\IsTupleKey (az P w) h k.1 b/\gj k.2 u=true
theorem IsNest.typeIs {P:Program} {w:World} {s:Shared} {k:bU} {a:Addr} (x:IsNest P w s.heap k a):s.TypeIs (.ref a) "tuple":=let ⟨o,_,_,_,ho,hc,_⟩:=x;⟨o,ho,hc⟩
theorem IsNest.inj {P:Program} {w:World} {h:Heap} {a:Addr} {x y:bU} (hx:IsNest P w h x a) (hy:IsNest P w h y a):x=y:=by
 obtain ⟨o,n,b,u,ho,_,hd,hb,hu⟩:=hx;obtain ⟨o',n',b',u',ho',_,hd',hb',hu'⟩:=hy;obtain rfl:o=o':=Option.some.inj (ho.symm.trans ho');rw [hd] at hd';injection hd' with h1 _;have h2:=congrArg Array.toList h1;cases h2;exact Prod.ext (hb.inj hb') ((az P w).inj _ _ _ hu hu')
theorem IsNest.keeps {P:Program} {w:World} {h h':Heap} {k:bU} {a d:Addr} {o:Obj} {es ep} (x:IsNest P w h k a) (ho:h.get? d=some o) (hd:o.data=.dict es ep) (hs:Heap.SameBut d h h'):IsNest P w h' k a:=by
 obtain ⟨o',n,b,u,ho',hc,hd',hb,hu⟩:=x
 have hne:a≠d:=by
  rintro rfl;obtain rfl:o'=o:=Option.some.inj (ho'.symm.trans ho);rw [hd] at hd';exact nomatch hd'
 exact ⟨o',n,b,u,(hs.2 a hne).trans ho',hc,hd',hb.keeps ho hd hs,hu⟩
theorem rn {P:Program} {w:World} {A:Around} {s:Shared} {x y:bU} {a b:Addr} (hx:IsNest P w s.heap x a) (hy:IsNest P w s.heap y b) (hu:A.units+1<cLine):EqAt A s (.ref a) (.ref b) (decide (x=y)):=by
 by_cases hab:a=b
 · subst hab;obtain rfl:=hx.inj hy;rw [decide_eq_true rfl];exact EqAt.same _
 · obtain ⟨o,n,c,u,ho,hc,hd,hb,hk⟩:=hx;obtain ⟨o',n',c',u',ho',hc',hd',hb',hk'⟩:=hy;have p1:s.heap.IsTuple a [Value.ref c,u].toArray:=⟨o,ho,hc,n,by rw [hd]⟩;have p2:s.heap.IsTuple b [Value.ref c',u'].toArray:=⟨o',ho',hc',n',by rw [hd']⟩
   have:=ls (A:=A) (ds:=[Sum.inl x.1,(Sum.inr x.2:Sum (List Key) Key)]) (es:=[Sum.inl y.1,Sum.inr y.2]) p1 p2 rfl rfl (by omega) fun j d e v v' e1 e2 e3 e4=>by
    match j with
    | 0 =>
      cases e1;cases e2;cases e3;cases e4;rw [show decide ((Sum.inl x.1:Sum (List Key) Key)=Sum.inl y.1)=decide (x.1=y.1) from decide_eq_decide.mpr ⟨fun z=>Sum.inl.inj z,fun z=>congrArg _ z⟩];exact rC (A:=A.in1) hb hb' (show A.units+1<cLine from hu)
    | 1 =>
      cases e1;cases e2;cases e3;cases e4;rw [show decide ((Sum.inr x.2:Sum (List Key) Key)=Sum.inr y.2)=decide (x.2=y.2) from decide_eq_decide.mpr ⟨fun z=>Sum.inr.inj z,fun z=>congrArg _ z⟩];exact oN (A:=A.in1) (s:=s) hk hk'
    | j+2=>cases e1
   refine EqAt.of_refs hab ?_
   rw [show decide (x=y)=decide ([Sum.inl x.1,(Sum.inr x.2:Sum (List Key) Key)]=[Sum.inl y.1,Sum.inr y.2]) from decide_eq_decide.mpr ⟨fun z=>by rw [z],fun z=>by
    injection z with z1 z2;injection z2 with z2 _;exact Prod.ext (Sum.inl.inj z1) (Sum.inr.inj z2)⟩]
   exact this
def lw (P:Program) (w:World) (k:bU):Int:=reduceHash (Builtin.Tuple.tupleHashOf [tupleKeyHash (az P w) k.1,(az P w).hash k.2])
theorem oY {P:Program} {w:World} {A:Around} {E:Value->Shared->Prop} {s:Shared} {k:bU} {a:Addr} {Q:Int->Shared->Prop} (hu:A.units+1<cLine) (hk:IsNest P w s.heap k a) (h:Q (lw P w k) { s with toks:=s.toks+(k.1.length+3) }) :
 wpAny (model P w) A (pyHash (.ref a)) Q E s:=by
 have hT:=hk.typeIs;obtain ⟨o,n,c,u,ho,hc,hd,hb,hk⟩:=hk;unfold pyHash
 first | unfold pyHashByItsType | skip
 first | refine wpAny_bind (wpAny_cRoomFor_or (.inr (by omega)) ?_) | skip
 refine wpAny_bind (wpAny_specialOf hT F.slot_tuple_hash.lookup ?_);show wpAny _ _ (if (some (Value.builtin "tuple.__hash__") == some Value.none)=true then _ else _) Q E s;rw [if_neg (by rw [beq_builtin_none];exact Bool.false_ne_true)];refine wpAny_bind (wpAny_specialOf hT F.slot_tuple_hash.lookup ?_);show wpAny _ _ (callSpecialIfBoundUnlessNone? (.ref a) "__hash__" _ >>= _) Q E s;refine wpAny_bind (wpAny_callSpecialIfBoundUnlessNone?_slot hT F.slot_tuple_hash (wpAny_call_entry F.slot_tuple_hash hT F.entry_tuple_hash ?_ (F.args_tuple_hash_1 _)));show wpAny _ _ (Builtin.Tuple.tupleItemsOf (.ref a) >>= _) _ _ s;refine wpAny_bind (wpAny_tupleItemsOf ho hd ?_);refine wpAny_bind ?_;rw [<- Array.forIn_toList]
 refine wpAny_forIn_list _
  (fun rest (b:Array Int) s'=>(rest=[.ref c,u]/\b=#[]/\s'=s)∨(rest=[u]/\b=#[tupleKeyHash (az P w) k.1]/\s'={ s with toks:=s.toks+(k.1.length+1) })∨(rest=[]/\b=#[tupleKeyHash (az P w) k.1,(az P w).hash k.2]/\s'={ s with toks:=s.toks+(k.1.length+1)+1 }))
  _ ?_ ?_ _ _ (.inl ⟨rfl,rfl,rfl⟩)
 · rintro x rest b s' (⟨e1,rfl,rfl⟩ | ⟨e1,rfl,rfl⟩ | ⟨e1,_⟩)
   · cases e1;refine wpAny_bind (wpAny_pyHash_tuple (by show _<cLine;first | exact hu | omega) hb ?_)
     first
      | exact wpAny_pure (.inr (.inl ⟨rfl,rfl,rfl⟩))
      | exact wpAny_bind (wpAny_pure (wpAny_pure (.inr (.inl ⟨rfl,rfl,rfl⟩))))
   · cases e1;refine wpAny_bind ((az P w).pyHash hk ?_)
     first
      | exact wpAny_pure (.inr (.inr ⟨rfl,rfl,rfl⟩))
      | exact wpAny_bind (wpAny_pure (wpAny_pure (.inr (.inr ⟨rfl,rfl,rfl⟩))))
   · cases e1
 · rintro b s' (⟨e1,_⟩ | ⟨e1,_⟩ | ⟨_,rfl,rfl⟩)
   · cases e1
   · cases e1
   show wpAny _ _ (retInt (Builtin.Tuple.tupleHashOf [tupleKeyHash (az P w) k.1,(az P w).hash k.2])) _ _ _;refine wpAny_ret_mkInt ?_;show wpAny _ _ (if (decide (-(2:Int) ^ 63<=Builtin.Tuple.tupleHashOf [tupleKeyHash (az P w) k.1,(az P w).hash k.2]) && decide (Builtin.Tuple.tupleHashOf [tupleKeyHash (az P w) k.1,(az P w).hash k.2]<2 ^ 63))=true then _ else _) Q E _;unfold lw reduceHash at h;by_cases hr:(decide (-(2:Int) ^ 63<=Builtin.Tuple.tupleHashOf [tupleKeyHash (az P w) k.1,(az P w).hash k.2]) && decide (Builtin.Tuple.tupleHashOf [tupleKeyHash (az P w) k.1,(az P w).hash k.2]<2 ^ 63))=true
   · rw [if_pos hr];rw [if_pos hr] at h;exact wpAny_pure (by simpa [Nat.add_assoc] using h)
   · rw [if_neg hr];rw [if_neg hr] at h;exact wpAny_bind (wpAny_rule (wpAny_pure (by simpa [Nat.add_assoc] using h)))
theorem pB {P:Program} {w:World} {A:Around} {E:Value->Shared->Prop} {s:Shared} {m:Nat} {ks:List Key} {a:Addr} {Q:Bool->Shared->Prop} (hk:IsTupleKey (az P w) s.heap ks a) (h:Q true s):wpAny (model P w) A (eqIsQuiet (m+1) (.ref a)) Q E s:=by
 have hT:=hk.typeIs;obtain ⟨o,items,n,ho,_,hd,hi⟩:=hk;unfold eqIsQuiet;refine wpAny_bind (wpAny_specialOf hT F.slot_tuple_eq.lookup ?_);show wpAny _ _ (isInstance (.ref a) (.type "tuple") >>= _) _ _ s;refine wpAny_bind (wpAny_isInstance hT isSubtype_tuple_tuple ?_);simp only [Bool.not_true,Bool.false_eq_true,if_false];refine wpAny_bind (wpAny_seqItems ho hd ?_);refine wpAny_bind ?_;show wpAny _ _ (forIn items _ _) _ _ s;rw [<- Array.forIn_toList];refine wpAny_forIn_list _ (fun rest r s'=>r.1=none/\s'=s/\∀ v∈rest,carriedByValue v=true) _ ?_ ?_ _ _ ⟨rfl,rfl,hi.byValue⟩
 · rintro v rest r s' ⟨hr,rfl,hall⟩;rw [eqIsQuiet_byValue _ (hall v List.mem_cons_self)];refine wpAny_bind (wpAny_pure ?_);simp only [Bool.not_true,Bool.false_eq_true,if_false];exact wpAny_pure ⟨rfl,rfl,fun u hu'=>hall u (List.mem_cons_of_mem _ hu')⟩
 · rintro ⟨r1,r2⟩ s' ⟨hr,rfl,_⟩;simp only at hr;subst hr;exact wpAny_pure h
theorem pP {P:Program} {w:World} {A:Around} {E:Value->Shared->Prop} {s:Shared} {k:bU} {a:Addr} {Q:Bool->Shared->Prop} (hk:IsNest P w s.heap k a) (h:Q true s):wpAny (model P w) A (eqIsQuiet 8 (.ref a)) Q E s:=by
 have hT:=hk.typeIs;obtain ⟨o,n,c,u,ho,hc,hd,hb,hk⟩:=hk;unfold eqIsQuiet;refine wpAny_bind (wpAny_specialOf hT F.slot_tuple_eq.lookup ?_);show wpAny _ _ (isInstance (.ref a) (.type "tuple") >>= _) _ _ s;refine wpAny_bind (wpAny_isInstance hT isSubtype_tuple_tuple ?_);simp only [Bool.not_true,Bool.false_eq_true,if_false];refine wpAny_bind (wpAny_seqItems ho hd ?_);refine wpAny_bind ?_;show wpAny _ _ (forIn #[Value.ref c,u] _ _) _ _ s;rw [<- Array.forIn_toList];refine wpAny_forIn_list _ (fun rest r s'=>r.1=none/\s'=s/\∀ v∈rest,v=.ref c∨v=u) _ ?_ ?_ _ _ ⟨rfl,rfl,fun v hv=>by simpa using hv⟩
 · rintro v rest r s' ⟨hr,rfl,hall⟩;have hrest:∀ z∈rest,z=.ref c∨z=u:=fun z hz=>hall z (List.mem_cons_of_mem _ hz);rcases hall v List.mem_cons_self with rfl | rfl
   · refine wpAny_bind (pB hb ?_);simp only [Bool.not_true,Bool.false_eq_true,if_false];exact wpAny_pure ⟨rfl,rfl,hrest⟩
   · rw [eqIsQuiet_byValue _ ((az P w).byValue _ _ hk)];refine wpAny_bind (wpAny_pure ?_);simp only [Bool.not_true,Bool.false_eq_true,if_false];exact wpAny_pure ⟨rfl,rfl,hrest⟩
 · rintro ⟨r1,r2⟩ s' ⟨hr,rfl,_⟩;simp only at hr;subst hr;exact wpAny_pure h
def eI (P:Program) (w:World):HeapKind P w bU where
 is:=IsNest P w
 hash:=lw P w
 draws:=fun k=>k.1.length+3
 room:=fun A=>A.units+1<cLine
 inj:=fun hx hy=>hx.inj hy
 keeps:=fun x ho hd hs=>x.keeps ho hd hs
 pyHash:=fun hu hk h=>oY hu hk h
 eqBool:=fun hu hx hy h=>rn hx hy hu _ _ _ _ h
 quiet:=fun hk h=>pP hk h
def qW (P:Program) (w:World) (xs:List (bU×Addr×Value)) (a:Addr) (h:Heap):Prop:=∃ o es ep,h.get? a=some o/\o.ExactDict/\o.data=.dict es ep/\es.toList=xs.map (entryOfKey (eI P w))/\(xs.map (·.1)).Nodup
def NKAt (H:Hp) (k:bU) (b:Addr):Prop:=∃ c,H b=some (.tup [.ref c,kV k.2])/\H c=some (.tup (k.1.map kV))
abbrev KTn (H:Hp):List (bU×V)->List (bU×Addr×Value)->Prop:=Paired fun p q=>p.1=q.1/\NKAt H q.1 q.2.1/\RelV p.2 q.2.2
def DN (P:Program) (w:World) (H:Hp) (a:Addr) (kvs:List (bU×V)):Prop:=kvs.length<=sizeLine/\(a == sysModules)=false/\∃ xs φ,H a=some (.ext φ)/\(∀ h,φ h->qW P w xs a h)/\KTn H kvs xs
theorem NKAt.mono {H H':Hp} (k:BB.KT H H') {n:bU} {b:Addr} (h:NKAt H n b):NKAt H' n b:=by
 obtain ⟨c,h1,h2⟩:=h;exact ⟨c,k _ _ h1,k _ _ h2⟩
theorem KTn.mono {H H':Hp} (k:BB.KT H H') {kvs:List (bU×V)} {xs:List (bU×Addr×Value)} (r:KTn H kvs xs):KTn H' kvs xs:=Paired.mapP r fun _ _ z=>⟨z.1,z.2.1.mono k,z.2.2⟩
theorem DN.mono {P:Program} {w:World} {H H':Hp} (s:Same H H') {a:Addr} {kvs:List (bU×V)} (h:DN P w H a kvs):DN P w H' a kvs:=by
 obtain ⟨z,hd,xs,φ,e,f,r⟩:=h;exact ⟨z,hd,xs,φ,s _ _ e,f,KTn.mono (BB.Same.kt s) r⟩
theorem mL {P:Program} {w:World} {H:Hp} {h:Heap} {k:bU} {b:Addr} (ok:HOk P w H h) (e:NKAt H k b):IsNest P w h k b:=by
 obtain ⟨c,h1,h2⟩:=e;obtain ⟨_,its,n,r,e1⟩:=(show ObjOk P w H h b (.tup [.ref c,kV k.2]) from ok b _ h1);cases r with
 | cons r1 r =>
 cases r with
 | cons r2 r =>
 cases r;cases r1;exact ⟨_,n,c,_,e1,rfl,rfl,kU ok h2,nR (P:=P) (w:=w) r2⟩
theorem vc {P:Program} {w:World} {H:Hp} {h:Heap} {a:Addr} {kvs:List (bU×V)} (ok:HOk P w H h) (e:DN P w H a kvs):kvs.length<=sizeLine/\(a == sysModules)=false/\∃ xs φ,H a=some (.ext φ)/\KTn H kvs xs/\h.DictOfH (eI P w) a xs:=by
 obtain ⟨z,y,xs,φ,ea,f,r⟩:=e;obtain ⟨o,es,ep,h1,h2,h3,h4,h5⟩:=f h (ok a _ ea).1;refine ⟨z,y,xs,φ,ea,r,o,es,ep,h1,h2,h3,h4,fun x hx=>?_,h5⟩
 have all:∀ {l:List (bU×V)} {m:List (bU×Addr×Value)},KTn H l m->∀ x∈m,(eI P w).is h x.1 x.2.1:=by
  intro l m q;induction q with
  | nil=>intro x hx;exact nomatch hx
  | @cons p q ps qs hq t ih =>
    intro x hx;rcases List.mem_cons.mp hx with e | hx
    · subst e;exact mL ok hq.2.1
    · exact ih x hx
 exact all r x hx
theorem KTn.val {H:Hp} {kvs:List (bU×V)} {xs:List (bU×Addr×Value)} (r:KTn H kvs xs) (k:bU):RelO (bE kvs k) ((atKey xs k).map (·.2)):=by
 induction r with
 | nil=>exact True.intro
 | @cons p q ps qs hq t ih =>
   by_cases e:p.1=k
   · rw [bz e];have:atKey (q::qs) k=some q.2:=by simp [atKey,List.find?_cons,<- hq.1,e]
     rw [this];exact hq.2.2
   · rw [bC e];have:atKey (q::qs) k=atKey qs k:=by simp [atKey,List.find?_cons,<- hq.1,e]
     rw [this];exact ih
theorem KTn.put {H:Hp} {kvs:List (bU×V)} {xs:List (bU×Addr×Value)} (r:KTn H kvs xs) (k:bU) {b:Addr} {y:V} {u:Value} (hb:NKAt H k b) (ry:RelV y u):KTn H (putK kvs k y) (storedH xs k b u):=by
 have hv:=KTn.val r k;cases e:bE kvs k with
 | none =>
   rw [e] at hv
   have hn:atKey xs k=none:=by
    cases q:atKey xs k with
    | none=>rfl
    | some p=>rw [q] at hv;exact hv.elim
   rw [lp y e,storedH_new hn];exact BB.P2.append r (.cons ⟨rfl,hb,ry⟩ .nil)
 | some v0 =>
   rw [e] at hv
   obtain ⟨p,hp⟩:∃ p,atKey xs k=some p:=by
    cases q:atKey xs k with
    | none=>rw [q] at hv;exact hv.elim
    | some p=>exact ⟨p,rfl⟩
   rw [storedH_old hp];unfold putK;rw [if_pos (by rw [eV,e];rfl)]
   have all:∀ {l:List (bU×V)} {m:List (bU×Addr×Value)},KTn H l m->KTn H (l.map fun kv=>if kv.1=k then (kv.1,y) else kv) (m.map (putAt k u)):=by
    intro l m q;induction q with
    | nil=>exact .nil
    | @cons p q ps qs hq t ih =>
      refine .cons ?_ ih;unfold putAt;dsimp only;by_cases z:p.1=k
      · rw [if_pos z,if_pos (by rw [<- hq.1];exact z)];exact ⟨hq.1,hq.2.1,ry⟩
      · rw [if_neg z,if_neg (by rw [<- hq.1];exact z)];exact hq
   exact all r
section
variable {X:Cx} {pins:List (Addr×Obj)} {σ:St} {H:Hp} {s:Shared} {o i value:Expr} {pos pos':Pos} {td ty tv:TE}
inductive tF (P:Program) (w:World) (x y:V) (H:Hp) (Q:VK):Prop
 | mk (a b:Addr) (k:bU) (kvs:List (bU×V)) (v:V) (z0:x=.ref a) (z1:y=.ref b) (z2:DN P w H a kvs) (z3:NKAt H k b) (z4:bE kvs k=some v) (z5:Q v H):tF P w x y H Q
def wg (P:Program) (w:World) (td ty:TE):TE:=fun σ H Q=>td σ H fun x H1=>ty σ H1 fun y H2=>tF P w x y H2 Q
theorem rZ (hu:X.A.units+2<cLine) (ho:PE X o td) (hi:PE X i ty) (hs:vZ i):PE X (.Subscript o i pos) (wg X.prog X.w td ty):=by
 intro pins s σ H Q I h;refine qg PySem.F.slot_dict_getitem.lookup hs (thn (ho pins s σ H _ I h) fun u s1 ⟨x,H1,I1,rx,q1⟩=>thn (hi pins s1 σ H1 _ I1 q1) fun iv s2 ⟨y,H2,I2,ry,q2⟩=>?_);obtain ⟨a,b,k,kvs,v,rfl,rfl,hd,hk,hv,q⟩:=q2;obtain rfl:u=Value.ref a:=rx;obtain rfl:iv=Value.ref b:=ry;obtain ⟨_,_,xs,φ,ea,rel,dd⟩:=vc I2.hok hd;obtain ⟨w',hw,rw'⟩:=RelO.some_of (v:=v) (o:=(atKey xs k).map (·.2)) (by rw [<- hv];exact KTn.val rel k);obtain ⟨p,hp,hp2⟩:=Option.map_eq_some_iff.mp hw;refine ⟨dd.typeIs,wpAny_getItem_heap (knd:=eI X.prog X.w) (show X.A.units+1+1<cLine from hu) (mL I2.hok hk) dd hp ?_⟩;rw [hp2];exact ⟨v,H2,I2.tok _,rw',q⟩
inductive tP (P:Program) (w:World) (x y v:V) (H:Hp) (R:Hp->Prop):Prop
 | mk (a b:Addr) (k:bU) (kvs:List (bU×V)) (z0:x=.ref a) (z1:y=.ref b) (z2:DN P w H a kvs) (z3:NKAt H k b) (z4:kvs.length<sizeLine) (z5:∀ H',(∀ c o,c≠a->H c=some o->H' c=some o)->DN P w H' a (putK kvs k v)->R H'):tP P w x y v H R
def vM (P:Program) (w:World) (td ty tv:TE):TS:=fun D σ H=>tv σ H fun v H1=>td σ H1 fun x H2=>ty σ H2 fun y H3=>tP P w x y v H3 fun H4=>D.nx σ H4
theorem sQ (hu:X.A.units+2<cLine) (ho:PE X o td) (hi:PE X i ty) (hv:PE X value tv) (hs:swapsWith value (some (.Subscript o i pos')) pos.line X.env=pure false) :
 PS X (.Assign [.Subscript o i pos'] value pos) (vM X.prog X.w td ty tv):=by
 intro pins s σ H D I h;refine wpAny_Assign_Subscript (thn (hv pins s σ H _ I h) fun r s1 ⟨v,H1,I1,rv,q1⟩=>thn (ho pins s1 σ H1 _ I1 q1) fun u s2 ⟨x,H2,I2,rx,q2⟩=>thn (hi pins s2 σ H2 _ I2 q2) fun iv s3 ⟨y,H3,I3,ry,q3⟩=>?_) hs;obtain ⟨a,b,k,kvs,rfl,rfl,hd,hk,hl,q⟩:=q3;obtain rfl:u=Value.ref a:=rx;obtain rfl:iv=Value.ref b:=ry;obtain ⟨z,hd',xs,φ,ea,rel,dd⟩:=vc I3.hok hd;have hz:xs.length<=sizeLine:=by rw [<- Paired.length rel];exact z
 have hl':(putK kvs k v).length<=sizeLine:=by have:=b7 kvs k v;omega
 refine wpAny_setItem_heap (knd:=eI X.prog X.w) (hsz:=hz) (show X.A.units+1+1<cLine from hu) (mL I3.hok hk) dd fun h' dd' hs=>?_;obtain ⟨ob,es,ep,hq,h2,h3,h4,_,h5⟩:=dd';have ne:qW X.prog X.w (storedH xs k b r) a h':=⟨ob,es,ep,hq,h2,h3,h4,h5⟩
 have I4:=iB (ob:=.ext (qW X.prog X.w (storedH xs k b r) a)) (t':=s3.toks+(eI X.prog X.w).draws k) I3 (by rw [ea];exact True.intro) hs ⟨ob,hq⟩ ⟨ne,⟨ob,hq⟩,fun h1 h2 p kk=>by
  obtain ⟨o1,es1,ep1,g1,g2⟩:=p;exact ⟨o1,es1,ep1,kk _ g1,g2⟩⟩
 have kt:BB.KT H3 (upd H3 a (.ext (qW X.prog X.w (storedH xs k b r) a))):=fun c ys ec=>by
  rw [ak (cK ec ea (fun z=>nomatch z))];exact ec
 exact ⟨σ,_,I4,q _ (fun c o hc e=>by rw [ak hc];exact e) ⟨hl',hd',_,_,ad,fun _ p=>p,KTn.mono kt (KTn.put rel k hk rv)⟩⟩
def wy (P:Program) (w:World):TE:=fun _ H Q=>∀ p H',H p=none->Same H H'->DN P w H' p []->Q (.ref p) H'
theorem tQ:PE X (.Dict [] [] pos) (wy X.prog X.w):=fun pins s σ H Q I h=>by
 have hn:H s.heap.objs.size=none:=I.hok.fresh (Nat.le_refl _);have ne:qW X.prog X.w [] s.heap.objs.size (s.heap.push { cls:=.type "dict",data:=.dict #[] }):=⟨_,#[],0,Heap.get?_push_size _ rfl,⟨rfl,rfl,rfl⟩,rfl,rfl,List.nodup_nil⟩;refine wpAny_Dict_empty ⟨.ref s.heap.objs.size,_,I.laid (a:=s.heap.objs.size) (o:=.ext (qW X.prog X.w [] s.heap.objs.size)) (t':=s.toks) (fun _ _ q=>Heap.get?_push_of_some _ q) (Nat.le_refl _) ⟨ne,⟨_,Heap.get?_push_size _ rfl⟩,fun h1 h2 p kk=>?_⟩,rfl,h _ _ hn (af hn _) ⟨Nat.zero_le _,beq_eq_false_iff_ne.mpr (Ne.symm (Nat.ne_of_lt I.big)),[],_,ad,fun _ p=>p,.nil⟩⟩;obtain ⟨o1,es1,ep1,g1,g2⟩:=p;exact ⟨o1,es1,ep1,kk _ g1,g2⟩
end
end L2
namespace BB
open PySem L2
inductive Rep where
 | i
 | p
def enc (s l:Int):Int:=1000 * s+l
def StV (r:Rep) (H:Hp) (s:Int) (v:V):Prop:=match r with
 | .i=>v=.int s
 | .p=>∃ (a:Addr) (x y:Int),v=.ref a/\H a=some (.tup [.int x,.int y])/\s=enc x y/\0<=x/\0<=y/\y<1000
theorem StV.mono {r:Rep} {H H':Hp} (k:KT H H') {s:Int} {v:V} (h:StV r H s v):StV r H' s v:=by
 cases r with
 | i=>exact h
 | p =>
   obtain ⟨a,x,y,e,h1,h2⟩:=h;exact ⟨a,x,y,e,k _ _ h1,h2⟩
theorem uP {x y x' y':Int} (h:enc x y=enc x' y') (h1:0<=y) (h2:y<1000) (h3:0<=y') (h4:y'<1000):x=x'/\y=y':=by
 unfold enc at h;omega
mutual
def AtG (r:Rep) (H:Hp):Th->Addr->Prop
 | .knot n ks,a=>n≠q/\∃ as:List Addr,H a=some (.tup (.str n::as.map V.ref))/\AtsG r H ks as
 | .call s k,a=>∃ v,H a=some (.tup [.str q,v,.int k])/\StV r H s v
def AtsG (r:Rep) (H:Hp):List Th->List Addr->Prop
 | [],as=>as=[]
 | t::ts,as=>∃ a z,as=a::z/\AtG r H t a/\AtsG r H ts z
end
mutual
theorem AtG.mono {r:Rep} {H H':Hp} (k:KT H H'):∀ {t:Th} {a:Addr},AtG r H t a->AtG r H' t a
 | .knot n ks,a,h=>by
   rw [AtG] at h ⊢;obtain ⟨h0,as,h1,h2⟩:=h;exact ⟨h0,as,k _ _ h1,AtsG.mono k h2⟩
 | .call s c,a,h=>by
   rw [AtG] at h ⊢;obtain ⟨v,h1,h2⟩:=h;exact ⟨v,k _ _ h1,h2.mono k⟩
theorem AtsG.mono {r:Rep} {H H':Hp} (k:KT H H'):∀ {ts:List Th} {as:List Addr},AtsG r H ts as->AtsG r H' ts as
 | [],as,h=>by rw [AtsG] at h ⊢;exact h
 | t::ts,as,h=>by
   rw [AtsG] at h ⊢;obtain ⟨a,r,e,h1,h2⟩:=h;exact ⟨a,r,e,AtG.mono k h1,AtsG.mono k h2⟩
end
theorem AtsG.nil {r:Rep} {H:Hp}:AtsG r H [] []:=by rw [AtsG]
theorem AtsG.cons {r:Rep} {H:Hp} {t:Th} {ts:List Th} {a:Addr} {as:List Addr} (h1:AtG r H t a) (h2:AtsG r H ts as):AtsG r H (t::ts) (a::as):=by rw [AtsG];exact ⟨a,as,rfl,h1,h2⟩
theorem AtsG.append {r:Rep} {H:Hp}:∀ {ts us:List Th} {as bs:List Addr},AtsG r H ts as->AtsG r H us bs->AtsG r H (ts++us) (as++bs)
 | [],us,as,bs,h,g=>by rw [AtsG] at h;subst h;exact g
 | t::ts,us,as,bs,h,g=>by
   rw [AtsG] at h;obtain ⟨a,r,rfl,h1,h2⟩:=h;exact .cons h1 (h2.append g)
theorem AtsG.length {r:Rep} {H:Hp}:∀ {ts:List Th} {as:List Addr},AtsG r H ts as->as.length=ts.length
 | [],as,h=>by rw [AtsG] at h;subst h;rfl
 | t::ts,as,h=>by
   rw [AtsG] at h;obtain ⟨a,r,rfl,h1,h2⟩:=h;rw [List.length_cons,List.length_cons,h2.length]
theorem AtsG.reverse {r:Rep} {H:Hp}:∀ {ts:List Th} {as:List Addr},AtsG r H ts as->AtsG r H ts.reverse as.reverse
 | [],as,h=>by rw [AtsG] at h;subst h;exact .nil
 | t::ts,as,h=>by
   rw [AtsG] at h;obtain ⟨a,r,rfl,h1,h2⟩:=h;rw [List.reverse_cons,List.reverse_cons];exact h2.reverse.append (.cons h1 .nil)
theorem AtsG.get {r:Rep} {H:Hp}:∀ {ts:List Th} {as:List Addr} {i:Nat} {a:Addr},AtsG r H ts as->as[i]?=some a->∃ t,ts[i]?=some t/\AtG r H t a
 | [],as,i,a,h,e=>by rw [AtsG] at h;subst h;simp at e
 | t::ts,as,i,a,h,e=>by
   rw [AtsG] at h;obtain ⟨b,r,rfl,h1,h2⟩:=h;cases i with
   | zero=>simp at e;subst e;exact ⟨t,rfl,h1⟩
   | succ i=>exact h2.get (i:=i) (by simpa using e)
theorem AtsG.at {r:Rep} {H:Hp}:∀ {ts:List Th} {as:List Addr} {i:Nat} {t:Th},AtsG r H ts as->ts[i]?=some t->∃ a,as[i]?=some a/\AtG r H t a
 | [],as,i,a,h,e=>by simp at e
 | t::ts,as,i,a,h,e=>by
   rw [AtsG] at h;obtain ⟨b,r,rfl,h1,h2⟩:=h;cases i with
   | zero=>simp at e;subst e;exact ⟨b,rfl,h1⟩
   | succ i=>exact h2.at (i:=i) (by simpa using e)
theorem AtsG.snoc_inv {r:Rep} {H:Hp} {ts:List Th} {as:List Addr} {a:Addr} (h:AtsG r H ts (as++[a])):∃ us t,ts=us++[t]/\AtsG r H us as/\AtG r H t a:=by
 have r:=h.reverse;rw [List.reverse_append,List.reverse_singleton,List.singleton_append] at r;cases e:ts.reverse with
 | nil=>rw [e,AtsG] at r;cases r
 | cons t us =>
   rw [e,AtsG] at r;obtain ⟨b,z,e1,h1,h2⟩:=r;cases e1;refine ⟨us.reverse,t,?_,?_,h1⟩
   · rw [<- List.reverse_cons,<- e,List.reverse_reverse]
   · have:=h2.reverse;rw [List.reverse_reverse] at this;exact this
theorem AtG.tup {r:Rep} {H:Hp} {t:Th} {a:Addr} (h:AtG r H t a):∃ n z,H a=some (.tup (.str n::z)):=by
 cases t with
 | knot n ks=>rw [AtG] at h;obtain ⟨_,as,h1,_⟩:=h;exact ⟨n,_,h1⟩
 | call s k=>rw [AtG] at h;obtain ⟨v,h1,_⟩:=h;exact ⟨q,_,h1⟩
mutual
theorem At.g {H:Hp}:∀ {t:Th} {a:Addr},At H t a->AtG .i H t a
 | .knot n ks,a,h=>by
   rw [At] at h;rw [AtG];obtain ⟨h0,as,h1,h2⟩:=h;exact ⟨h0,as,h1,Ats.g h2⟩
 | .call s c,a,h=>by
   rw [At] at h;rw [AtG];exact ⟨_,h,rfl⟩
theorem Ats.g {H:Hp}:∀ {ts:List Th} {as:List Addr},Ats H ts as->AtsG .i H ts as
 | [],as,h=>by rw [Ats] at h;rw [AtsG];exact h
 | t::ts,as,h=>by
   rw [Ats] at h;rw [AtsG];obtain ⟨a,z,e,h1,h2⟩:=h;exact ⟨a,z,e,At.g h1,Ats.g h2⟩
end
mutual
theorem AtG.i {H:Hp}:∀ {t:Th} {a:Addr},AtG .i H t a->At H t a
 | .knot n ks,a,h=>by
   rw [AtG] at h;rw [At];obtain ⟨h0,as,h1,h2⟩:=h;exact ⟨h0,as,h1,AtsG.i h2⟩
 | .call s c,a,h=>by
   rw [AtG] at h;rw [At];obtain ⟨v,h1,h2⟩:=h;rw [show v=V.int s from h2] at h1;exact h1
theorem AtsG.i {H:Hp}:∀ {ts:List Th} {as:List Addr},AtsG .i H ts as->Ats H ts as
 | [],as,h=>by rw [AtsG] at h;rw [Ats];exact h
 | t::ts,as,h=>by
   rw [AtsG] at h;rw [Ats];obtain ⟨a,z,e,h1,h2⟩:=h;exact ⟨a,z,e,AtG.i h1,AtsG.i h2⟩
end
def TopAtG (r:Rep) (H:Hp):Top->Addr->Prop
 | .nm n m,a=>∃ ta,H a=some (.tup [.ref ta,.int (m:Nat)])/\n≠q/\H ta=some (.tup [.str n])
 | .th t,a=>∃ ta,H a=some (.tup [.ref ta,.int 0])/\AtG r H t ta
theorem TopAtG.mono {r:Rep} {H H':Hp} (k:KT H H'):∀ {x:Top} {a:Addr},TopAtG r H x a->TopAtG r H' x a
 | .nm n m,a,h=>by
   obtain ⟨ta,h1,h2,h3⟩:=h;exact ⟨ta,k _ _ h1,h2,k _ _ h3⟩
 | .th t,a,h=>by
   obtain ⟨ta,h1,h2⟩:=h;exact ⟨ta,k _ _ h1,h2.mono k⟩
theorem gY {r:Rep} {H H':Hp} (k:KT H H') {xs:List Top} {as:List Addr} (h:Paired (TopAtG r H) xs as):Paired (TopAtG r H') xs as:=P2.mp (fun _ _ e=>e.mono k) h
theorem AtG.width {r:Rep} {H:Hp} {t:Th} {a:Addr} {xs:List V} (h:AtG r H t a) (ha:H a=some (.tup xs)):xs.length<=t.size+2:=by
 cases t with
 | knot n ks =>
   rw [AtG] at h;obtain ⟨_,as,h1,h2⟩:=h;rw [ha] at h1;cases h1;have:=h2.length;have:=cz ks;rw [List.length_cons,List.length_map,Th.size];omega
 | call s k =>
   rw [AtG] at h;obtain ⟨v,h1,_⟩:=h;rw [ha] at h1;cases h1;rw [Th.size];exact Nat.le_refl _
theorem AtG.same {r:Rep} {H:Hp} {t:Th} {a b:Addr} {xs:List V} (h:AtG r H t a) (ha:H a=some (.tup xs)) (hb:H b=some (.tup xs)):AtG r H t b:=by
 cases t with
 | knot n ks =>
   rw [AtG] at h ⊢;obtain ⟨h0,as,h1,h2⟩:=h;rw [ha] at h1;cases h1;exact ⟨h0,as,hb,h2⟩
 | call s k =>
   rw [AtG] at h ⊢;obtain ⟨v,h1,h2⟩:=h;rw [ha] at h1;cases h1;exact ⟨v,hb,h2⟩
end BB
namespace BB
open PySem L2
def lg (fs:List (Int->Th)) (s c:Int):Th:=(fs.getD c.toNat fun _=>.knot (Str.ofString "") []) s
mutual
/-- what a state makes of a pattern: its calls become calls of pairs -/
def kG (pat:Int->Str->Th):Th->Int->Th
 | .call l h,s=>.call (enc s l) h
 | .knot n ts,s=>(pat s n).fill (lg (jy pat ts))
def jy (pat:Int->Str->Th):List Th->List (Int->Th)
 | []=>[]
 | t::ts=>kG pat t::jy pat ts
end
theorem je (pat:Int->Str->Th):∀ ts:List Th,jy pat ts=ts.map (kG pat)
 | []=>by rw [jy];rfl
 | t::ts=>by rw [jy,je pat ts];rfl
def made (pat:Int->Str->Th) (p k:Th):Th:=p.fill (lg (jy pat k.kids))
theorem eO (pat:Int->Str->Th) (n:Str) (ks:List Th) (k:Th):made pat (.knot n ks) k=.knot n (ks.map fun p=>made pat p k):=by
 unfold made;rw [Th.fill,gb]
theorem eM (pat:Int->Str->Th) {s c:Int} {k k':Th} (h:k.kids[c.toNat]?=some k'):made pat (.call s c) k=kG pat k' s:=by
 unfold made;rw [Th.fill];unfold lg;rw [je,List.getD,List.getElem?_map,h];rfl
theorem ga (pat:Int->Str->Th) (l h s:Int):kG pat (.call l h) s=.call (enc s l) h:=by rw [kG]
theorem ja (pat:Int->Str->Th) (n:Str) (ts:List Th) (s:Int):kG pat (.knot n ts) s=made pat (pat s n) (.knot n ts):=by
 rw [kG];rfl
theorem FitSs.mem' {ks:List (Str×Int)} {S C:Int}:∀ {ts:List Th},FitSs ks S C ts->∀ t∈ts,t.FitS ks S C
 | [],_,t,ht=>by cases ht
 | u::us,h,t,ht=>by
   rw [FitSs] at h;rcases List.mem_cons.mp ht with e | e
   · rw [e];exact h.1
   · exact FitSs.mem' h.2 t e
def bq (ins:List (Str×Int)) (rows:List (List Th)) (s:Int) (n:Str):Th:=(rowOf rows s).getD ((ins.map (·.1)).idxOf n) (.knot (Str.ofString "") [])
theorem j6 {ins:List (Str×Int)} (g:aT ins) {rows:List (List Th)} {s:Int} {row:List Th} {j:Nat} {n:Str} {m:Int} {p:Th} (hr:rows[s.toNat]?=some row) (hj:ins[j]?=some (n,m)) (hp:row[j]?=some p):bq ins rows s n=p:=by
 have h1:(ins.map (·.1))[j]?=some n:=by rw [List.getElem?_map,hj];rfl
 obtain ⟨hl,he⟩:=List.getElem?_eq_some_iff.mp h1;have h2:(ins.map (·.1)).idxOf n=j:=by rw [<- he];exact List.Nodup.idxOf_getElem (eA g) j hl
 unfold bq rowOf;rw [h2,List.getD,List.getD,hr];show (row[j]?).getD _=p;rw [hp];rfl
structure mB (ins outs:List (Str×Int)) (S:Int) (rows:List (List Th)):Prop where
 len:(rows.length:Int)=S
 row:∀ row∈rows,row.length=ins.length/\∀ (j:Nat) (p:Th) (k:Str×Int),row[j]?=some p->ins[j]?=some k->p.FitS outs S k.2
theorem BookOk.fitB {ins outs:List (Str×Int)} {S:Int} {d:Nat} {head:Th} {rows:List (List Th)} (h:BookOk ins outs S d head rows):mB ins outs S rows :=
 ⟨h.len,fun row hr=>⟨(h.row row hr).len,fun j p k hp hk=>((h.row row hr).fit j p k hp hk).1⟩⟩
structure Lead (ins outs:List (Str×Int)) (S S1:Int) (p k:Th):Prop where
 fit:p.FitS outs S (k.kids.length:Int)
 kid:∀ u∈k.kids,∃ C,u.FitS ins S1 C
theorem Lead.call {ins outs:List (Str×Int)} {S S1:Int} {s c:Int} {k:Th} (h:Lead ins outs S S1 (.call s c) k):0<=s/\s<S/\0<=c/\∃ k',k.kids[c.toNat]?=some k'/\k'∈k.kids:=by
 have:=h.fit;rw [Th.FitS] at this;obtain ⟨h0,h1,h2,h3⟩:=this;have hl:c.toNat<k.kids.length:=by omega
 exact ⟨h0,h1,h2,_,List.getElem?_eq_getElem hl,List.getElem_mem hl⟩
theorem Lead.next {ins outs:List (Str×Int)} {S S1:Int} {rows:List (List Th)} (g:aT ins) (ok:mB ins outs S rows) {s c:Int} {k:Th} {n:Str} {ts:List Th} (h:Lead ins outs S S1 (.call s c) k) (hk:k.kids[c.toNat]?=some (.knot n ts)) :
 ∃ (j:Nat) (row:List Th) (p:Th),ins[j]?=some (n,(ts.length:Int))/\rows[s.toNat]?=some row/\row[j]?=some p/\bq ins rows s n=p/\Lead ins outs S S1 p (.knot n ts)/\made (bq ins rows) (.call s c) k=made (bq ins rows) p (.knot n ts):=by
 obtain ⟨h0,h1,h2,k',hk',hm⟩:=h.call;rw [hk] at hk';cases hk';obtain ⟨C,hC⟩:=h.kid _ hm;rw [Th.FitS] at hC;obtain ⟨j,hj⟩:=List.mem_iff_getElem?.mp hC.1;have hl:=ok.len;have hs:s.toNat<rows.length:=by omega
 have hr:=List.getElem?_eq_getElem hs;have hro:=ok.row _ (List.getElem_mem hs);have hjl:=(List.getElem?_eq_some_iff.mp hj).1;obtain ⟨p,hp⟩:∃ p,(rows[s.toNat])[j]?=some p:=⟨_,List.getElem?_eq_getElem (by rw [hro.1];exact hjl)⟩;have hf:=hro.2 j _ _ hp hj;have hpat:=j6 g hr hj hp;refine ⟨j,_,_,hj,hr,hp,hpat,⟨hf,fun u hu=>⟨C,FitSs.mem' hC.2 u hu⟩⟩,?_⟩;rw [eM _ hk,ja,hpat]
end BB
namespace BB
open PySem L2
mutual
/-- how many calls -/
def cnT:Th->Nat
 | .knot _ ks=>bI ks
 | .call _ _=>1
def bI:List Th->Nat
 | []=>0
 | t::ts=>cnT t+bI ts
end
structure Small (t:Th):Prop where
 tall:t.tall<=20
 kn:t.kn<=400
 cn:cnT t<=200
theorem vm (t:Th):t.kn=(if t.isCall=true then 0 else 1)+kns t.kids:=by
 cases t with
 | knot n ks=>rw [Th.kn,Th.isCall,Th.kids,if_neg Bool.false_ne_true];omega
 | call s k=>rw [Th.kn,Th.isCall,Th.kids,if_pos rfl,kns]
theorem vo (t:Th):cnT t=(if t.isCall=true then 1 else 0)+bI t.kids:=by
 cases t with
 | knot n ks=>rw [cnT,Th.isCall,Th.kids,if_neg Bool.false_ne_true];omega
 | call s k=>rw [cnT,Th.isCall,Th.kids,if_pos rfl,bI]
theorem dJ (a b:List Th):kns (a++b)=kns a+kns b:=by
 induction a with
 | nil=>rw [List.nil_append,kns];omega
 | cons x a ih=>rw [List.cons_append,kns,kns,ih];omega
theorem cX (a b:List Th):bI (a++b)=bI a+bI b:=by
 induction a with
 | nil=>rw [List.nil_append,bI];omega
 | cons x a ih=>rw [List.cons_append,bI,bI,ih];omega
theorem uS (l:List Th):kns l.reverse=kns l:=by
 induction l with
 | nil=>rfl
 | cons t l ih=>rw [List.reverse_cons,dJ,ih,kns,kns,kns];omega
theorem tm (l:List Th):bI l.reverse=bI l:=by
 induction l with
 | nil=>rfl
 | cons t l ih=>rw [List.reverse_cons,cX,ih,bI,bI,bI];omega
mutual
theorem jU:∀ t:Th,t.size=t.kn+cnT t
 | .knot n ks=>by rw [Th.size,Th.kn,cnT,oB ks];omega
 | .call s k=>by rw [Th.size,Th.kn,cnT]
theorem oB:∀ ts:List Th,aw ts=kns ts+bI ts
 | []=>by rw [aw,kns,bI]
 | t::ts=>by rw [aw,kns,bI,jU t,oB ts];omega
end
theorem Small.size {t:Th} (h:Small t):t.size<=600:=by
 have:=jU t;have:=h.kn;have:=h.cn;omega
structure MInv (o:Th) (done:List Th) (js:List Job) (k c:Int):Prop where
 wk:done++walks (jos js).reverse=o.walk
 low:∀ j∈js,j.r+j.o.tall<=o.tall+1
 kn:k+(kns (jos js):Int)=(o.kn:Int)
 cn:c+(bI (jos js):Int)=(cnT o:Int)
theorem MInv.start {p k o:Th}:MInv o [] [⟨p,k,1,o⟩] 0 0:=by
 refine ⟨by simp [jos,walks],fun j hj=>?_,?_,?_⟩
 · rw [List.mem_singleton.mp hj];show 1+o.tall<=o.tall+1;omega
 · show (0:Int)+((kns [o]:Nat):Int)=_;rw [kns,kns];omega
 · show (0:Int)+((bI [o]:Nat):Int)=_;rw [bI,bI];omega
theorem iz (js:List Job) (j:Job):jos (js++[j])=jos js++[j.o]:=by
 unfold jos;rw [List.map_append];rfl
theorem MInv.size {o:Th} {done:List Th} {js:List Job} {k c:Int} (h:MInv o done js k c):done.length+aw (jos js)=o.size:=by
 have:=congrArg List.length h.wk;rw [List.length_append,f9,lj,Th.walk_len] at this;exact this
theorem uL (js:List Job):js.length<=aw (jos js):=by
 have:=cz (jos js);unfold jos at this ⊢;rw [List.length_map] at this;exact this
theorem oq {k k':Int} {a c o:Nat} {i:Nat} (h:k+((a+(i+c+0):Nat):Int)=(o:Int)) (hk:k'=k+(i:Int)):k'+((a+c:Nat):Int)=(o:Int):=by omega
theorem tO {k:Int} {a o n:Nat} (h:k+(a:Int)=(o:Int)) (ho:o<=n):k<=(n:Int):=by omega
theorem MInv.kn' {o:Th} {done:List Th} {js:List Job} {j:Job} {k c k':Int} (h:MInv o done (js++[j]) k c) (hk:k'=if j.o.isCall=true then k else k+1):k'+((kns (jos js)+kns j.o.kids:Nat):Int)=(o.kn:Int):=by
 have h2:=h.kn;rw [iz,dJ,kns,kns,vm] at h2;refine oq h2 (hk.trans ?_);split
 · exact (Int.add_zero k).symm
 · rfl
theorem MInv.cn' {o:Th} {done:List Th} {js:List Job} {j:Job} {k c c':Int} (h:MInv o done (js++[j]) k c) (hc:c'=if j.o.isCall=true then c+1 else c):c'+((bI (jos js)+bI j.o.kids:Nat):Int)=(cnT o:Int):=by
 have h3:=h.cn;rw [iz,cX,bI,bI,vo] at h3;refine oq h3 (hc.trans ?_);split
 · rfl
 · exact (Int.add_zero c).symm
theorem MInv.takes {o:Th} {done:List Th} {js:List Job} {j:Job} {k c k' c':Int} (h:MInv o done (js++[j]) k c) (sm:Small o) (hk:k'=if j.o.isCall=true then k else k+1) (hc:c'=if j.o.isCall=true then c+1 else c):((j.r:Nat):Int)<=20/\k'<=400/\c'<=200:=by
 refine ⟨?_,tO (h.kn' hk) sm.kn,tO (h.cn' hc) sm.cn⟩;have h1:=h.low j (by simp);have h4:=j.o.tall_eq;have h5:=sm.tall;clear h sm hk hc;omega
theorem MInv.next {o:Th} {done:List Th} {js js2:List Job} {j:Job} {k c k' c':Int} (h:MInv o done (js++[j]) k c) (hk:k'=if j.o.isCall=true then k else k+1) (hc:c'=if j.o.isCall=true then c+1 else c) (h2:jos js2=j.o.kids.reverse) (hr:∀ i∈js2,i.r=j.r+1):MInv o (done++[j.o]) (js++js2) k' c':=by
 have e1:jos (js++js2)=jos js++j.o.kids.reverse:=by rw [<- h2];unfold jos;rw [List.map_append]
 refine ⟨?_,fun i hi=>?_,?_,?_⟩
 · rw [<- h.wk,iz,e1,List.reverse_append,List.reverse_append,List.reverse_reverse,List.append_assoc,eY];show done++([j.o]++_)=done++walks (j.o::(jos js).reverse);rw [walks,Th.walk_eq];rfl
 · rcases List.mem_append.mp hi with hi | hi
   · exact h.low i (List.mem_append_left _ hi)
   · have h1:=h.low j (by simp)
     have h3:i.o∈j.o.kids:=by
      rw [<- List.mem_reverse,<- h2];exact List.mem_map.mpr ⟨i,hi,rfl⟩
     have:=ii h3;have h4:=j.o.tall_eq;rw [hr i hi];omega
 · rw [e1,dJ,uS];exact h.kn' hk
 · rw [e1,cX,tm];exact h.cn' hc
theorem MInv.done {o:Th} {done:List Th} {k c:Int} (h:MInv o done [] k c):done=o.walk:=by simpa [jos,walks] using h.wk
def MJAt (H:Hp) (ins outs:List (Str×Int)) (S S1:Int) (pat:Int->Str->Th) (j:Job) (a:Addr):Prop:=∃ (pa ka:Addr) (n:Str) (ts:List Th),H a=some (.tup [.ref pa,.ref ka,.int (j.r:Nat)])/\AtG .i H j.p pa/\j.k=.knot n ts/\AtG .i H (.knot n ts) ka/\Lead ins outs S S1 j.p j.k/\j.o=made pat j.p j.k
theorem MJAt.mono {H H':Hp} (kt:KT H H') {ins outs:List (Str×Int)} {S S1:Int} {pat:Int->Str->Th} {j:Job} {a:Addr} (h:MJAt H ins outs S S1 pat j a):MJAt H' ins outs S S1 pat j a:=by
 obtain ⟨pa,ka,n,ts,h1,h2,h3,h4,h5⟩:=h;exact ⟨pa,ka,n,ts,kt _ _ h1,h2.mono kt,h3,h4.mono kt,h5⟩
theorem Lead.kids {ins outs:List (Str×Int)} {S S1:Int} {n:Str} {ks:List Th} {k:Th} (h:Lead ins outs S S1 (.knot n ks) k):∀ t∈ks,Lead ins outs S S1 t k:=fun t ht=>by
 have:=h.fit;rw [Th.FitS] at this;exact ⟨FitSs.mem' this.2 t ht,h.kid⟩
end BB
namespace BB
open PySem L2
theorem jH {r:Rep} {H:Hp}:∀ {ts:List Th} {as:List Addr},Paired (AtG r H) ts as->AtsG r H ts as
 | _,_,.nil=>.nil
 | _,_,.cons h g=>.cons h (jH g)
def sol (t:Th):Th:=.knot (Str.ofString "") [t]
def bd (R:Int->List Th) (head:Th):List Int:=bfs R 21 (aC [] (stT head)) 0
def joH (mid:List (Str×Int)) (rows2:List (List Th)) (head2 head1:Th):Th:=made (bq mid rows2) head2 (sol head1)
def joR (mid:List (Str×Int)) (rows2 rows1:List (List Th)) (s:Int):List Th:=(rowOf rows1 (s%1000)).map fun t=>made (bq mid rows2) (.call (s / 1000) 0) (sol t)
def PairOk (S S1 s:Int):Prop:=0<=s / 1000/\s / 1000<S/\0<=s%1000/\s%1000<S1
theorem PairOk.enc {S S1 st l:Int} (h0:0<=st) (h1:st<S) (g0:0<=l) (g1:l<S1) (hS:S1<=1000):PairOk S S1 (enc st l):=by
 unfold PairOk BB.enc;omega
theorem tH (t:Th):(sol t).kids=[t]:=rfl
theorem Lead.sol {ins outs:List (Str×Int)} {S S1 C:Int} {p t:Th} (hp:p.FitS outs S 1) (ht:t.FitS ins S1 C):Lead ins outs S S1 p (sol t) :=
 ⟨hp,fun u hu=>⟨C,by rw [tH] at hu;rw [List.mem_singleton.mp hu];exact ht⟩⟩
mutual
theorem qD {q:Int->Prop} (f:Int->Int->Th) {ks:List (Str×Int)} {S C:Int} (hf:∀ s c,0<=s->s<S->0<=c->c<C->∀ x∈stT (f s c),q x):∀ t:Th,t.FitS ks S C->∀ x∈stT (t.fill f),q x
 | .call s c,h,x,hx=>by
   rw [Th.FitS] at h;rw [Th.fill] at hx;exact hf s c h.1 h.2.1 h.2.2.1 h.2.2.2 x hx
 | .knot n ts,h,x,hx=>by
   rw [Th.FitS] at h;rw [Th.fill,fX] at hx;exact nQ f hf ts h.2 x hx
theorem nQ {q:Int->Prop} (f:Int->Int->Th) {ks:List (Str×Int)} {S C:Int} (hf:∀ s c,0<=s->s<S->0<=c->c<C->∀ x∈stT (f s c),q x):∀ ts:List Th,FitSs ks S C ts->∀ x∈aX (fills f ts),q x
 | [],_,x,hx=>by rw [fills] at hx;cases hx
 | t::ts,h,x,hx=>by
   rw [FitSs] at h;rw [fills] at hx;have hx':x∈stT (t.fill f)++aX (fills f ts):=hx;rcases List.mem_append.mp hx' with z | z
   · exact qD f hf t h.1 x z
   · exact nQ f hf ts h.2 x z
end
theorem nA {ins outs:List (Str×Int)} {S S1:Int} {rows:List (List Th)} (g:aT ins) (ok:mB ins outs S rows) (hS:S1<=1000):∀ (n:Nat) {p k:Th},k.size<=n->Lead ins outs S S1 p k->∀ x∈stT (made (bq ins rows) p k),PairOk S S1 x
 | 0,p,k,hn,_=>by have:=k.size_pos;omega
 | n+1,p,k,hn,h=>by
   unfold made;refine qD _ (fun s c h0 h1 h2 h3 x hx=>?_) p h.fit;have hl:Lead ins outs S S1 (.call s c) k:=⟨by rw [Th.FitS];exact ⟨h0,h1,h2,h3⟩,h.kid⟩;obtain ⟨_,_,_,k',hk,hm⟩:=hl.call;have e:lg (jy (bq ins rows) k.kids) s c=made (bq ins rows) (.call s c) k:=by unfold made;rw [Th.fill]
   rw [e] at hx
   have hsz:k'.size<=n:=by
    have h1:=size_mem hm;have h2:=k.size_eq;omega
   cases k' with
   | call l hh =>
     rw [eM _ hk,ga] at hx;obtain ⟨C,hC⟩:=h.kid _ hm;rw [Th.FitS] at hC;have hx':x∈[enc s l]:=hx;rw [List.mem_singleton.mp hx'];exact PairOk.enc h0 h1 hC.1 hC.2.1 hS
   | knot nm ts =>
     obtain ⟨j,row,p',hj,hr,hp',hpat,hl',hmade⟩:=Lead.next g ok hl hk;rw [hmade] at hx;exact nA g ok hS n hsz hl' x hx
where
 size_mem {ts:List Th} {t:Th} (h:t∈ts):t.size<=aw ts:=by
  induction ts with
  | nil=>cases h
  | cons u ts ih =>
    rw [aw];rcases List.mem_cons.mp h with rfl | h
    · omega
    · have:=ih h;omega
theorem f8 {ins outs:List (Str×Int)} {S:Int} {rows:List (List Th)} (ok:mB ins outs S rows) {l:Int} (h0:0<=l) (h1:l<S):∃ row,rows[l.toNat]?=some row/\rowOf rows l=row/\row.length=ins.length/\∀ t∈row,∃ C,t.FitS outs S C:=by
 have hl:=ok.len;have hs:l.toNat<rows.length:=by omega
 refine ⟨rows[l.toNat],List.getElem?_eq_getElem hs,?_,(ok.row _ (List.getElem_mem hs)).1,fun t ht=>?_⟩
 · unfold rowOf;rw [List.getD,List.getElem?_eq_getElem hs];rfl
 · obtain ⟨hlen,hfit⟩:=ok.row _ (List.getElem_mem hs);obtain ⟨j,hj⟩:=List.mem_iff_getElem?.mp ht;have hjl:=(List.getElem?_eq_some_iff.mp hj).1;exact ⟨_,hfit j t _ hj (List.getElem?_eq_getElem (by omega))⟩
structure JoinOk (ins mid outs:List (Str×Int)) (S1 S2:Int) (head1 head2:Th) (rows1 rows2:List (List Th)):Prop where
 gm:aT mid
 le:ins.length<=8
 f1:mB ins mid S1 rows1
 f2:mB mid outs S2 rows2
 h1:head1.FitS mid S1 1
 h2:head2.FitS outs S2 1
 s1:S1<=1000
 many:S1 * S2<=20
 smH:Small (joH mid rows2 head2 head1)
 smR:∀ l st:Int,0<=l->l<S1->0<=st->st<S2->∀ t∈rowOf rows1 l,Small (made (bq mid rows2) (.call st 0) (sol t))
section
variable {ins mid outs:List (Str×Int)} {S1 S2:Int} {head1 head2:Th} {rows1 rows2:List (List Th)}
theorem fR {outs:List (Str×Int)} {S st:Int} (h0:0<=st) (h1:st<S):(Th.call st 0).FitS outs S 1:=by
 rw [Th.FitS];exact ⟨h0,h1,Int.le_refl _,by decide⟩
theorem JoinOk.head (J:JoinOk ins mid outs S1 S2 head1 head2 rows1 rows2):∀ x∈stT (joH mid rows2 head2 head1),PairOk S2 S1 x :=
 nA J.gm J.f2 J.s1 _ (Nat.le_refl _) (Lead.sol J.h2 J.h1)
theorem JoinOk.rows (J:JoinOk ins mid outs S1 S2 head1 head2 rows1 rows2) (s:Int) (hs:PairOk S2 S1 s):∀ x∈aX (joR mid rows2 rows1 s),PairOk S2 S1 x:=fun x hx=>by
 obtain ⟨t,ht,hx⟩:=List.mem_flatMap.mp hx;obtain ⟨u,hu,rfl⟩:=List.mem_map.mp ht;obtain ⟨h0,h1,h2,h3⟩:=hs;obtain ⟨row,_,e,_,hf⟩:=f8 J.f1 h2 h3;rw [e] at hu;obtain ⟨C,hC⟩:=hf u hu;exact nA J.gm J.f2 J.s1 _ (Nat.le_refl _) (Lead.sol (fR h0 h1) hC) x hx
theorem JoinOk.met (J:JoinOk ins mid outs S1 S2 head1 head2 rows1 rows2):∀ x∈bd (joR mid rows2 rows1) (joH mid rows2 head2 head1),PairOk S2 S1 x :=
 nJ _ (PairOk S2 S1) (fun s hs x hx=>J.rows s hs x hx) _ _ _ fun x hx=>(bj.mp hx).elim (fun z=>by cases z) (J.head x)
theorem vb (R:Int->List Th) (h:Th):(bd R h).Nodup:=pY _ _ _ _ (ni List.nodup_nil)
theorem qM {S a b:Int} (h0:0<=b) (h1:b<S):(S * a+b) / S=a:=by
 rw [Int.mul_add_ediv_left _ _ (Int.ne_of_gt (Int.lt_of_le_of_lt h0 h1)),Int.ediv_eq_zero_of_lt h0 h1,Int.add_zero]
theorem sZ {x y S:Int} (hx0:0<=x%1000) (hx1:x%1000<S) (hy0:0<=y%1000) (hy1:y%1000<S) (e:S * (x / 1000)+x%1000=S * (y / 1000)+y%1000):x=y:=by
 have hd:x / 1000=y / 1000:=by rw [<- qM (a:=x / 1000) hx0 hx1,<- qM (a:=y / 1000) hy0 hy1,e]
 rw [hd] at e;omega
theorem uz {S1 S2 a b:Int} (h0:0<=a) (h1:a<S2) (g0:0<=b) (g1:b<S1):0<=S1 * a+b/\S1 * a+b<S1 * S2:=by
 have hs:0<=S1:=by omega
 have hm:S1 * a<=S1 * (S2 - 1):=Int.mul_le_mul_of_nonneg_left (by omega) hs;have hp:0<=S1 * a:=Int.mul_nonneg hs h0;have he:S1 * (S2 - 1)=S1 * S2 - S1:=by rw [Int.mul_sub,Int.mul_one]
 omega
theorem JoinOk.len2 (J:JoinOk ins mid outs S1 S2 head1 head2 rows1 rows2):(bd (joR mid rows2 rows1) (joH mid rows2 head2 head1)).length<=(S1 * S2).toNat:=by
 have key:((bd (joR mid rows2 rows1) (joH mid rows2 head2 head1)).map fun s=>S1 * (s / 1000)+s%1000).Nodup:=by
  refine List.pairwise_map.mpr ((vb _ _).imp_of_mem fun {x y} hx hy hne e=>hne ?_);obtain ⟨_,_,a3,a4⟩:=J.met x hx;obtain ⟨_,_,b3,b4⟩:=J.met y hy;exact sZ a3 a4 b3 b4 e
 have hb:=lR (S:=(S1 * S2).toNat) key fun z hz=>by
  obtain ⟨x,hx,rfl⟩:=List.mem_map.mp hz;obtain ⟨a1,a2,a3,a4⟩:=J.met x hx;obtain ⟨c1,c2⟩:=uz a1 a2 a3 a4;exact ⟨c1,Int.lt_of_lt_of_le c2 (Int.self_le_toNat _)⟩
 rw [List.length_map] at hb;exact hb
theorem JoinOk.len (J:JoinOk ins mid outs S1 S2 head1 head2 rows1 rows2):(bd (joR mid rows2 rows1) (joH mid rows2 head2 head1)).length<=20 :=
 Nat.le_trans J.len2 (Int.toNat_le.mpr J.many)
theorem JoinOk.small (J:JoinOk ins mid outs S1 S2 head1 head2 rows1 rows2) {s:Int} (hs:PairOk S2 S1 s):(joR mid rows2 rows1 s).length<=8/\∀ t∈joR mid rows2 rows1 s,Small t:=by
 obtain ⟨h0,h1,h2,h3⟩:=hs;obtain ⟨row,_,e,hl,hf⟩:=f8 J.f1 h2 h3;unfold joR;refine ⟨by rw [List.length_map,e,hl];exact J.le,fun t ht=>?_⟩;obtain ⟨u,hu,rfl⟩:=List.mem_map.mp ht;exact J.smR _ _ h2 h3 h0 h1 u hu
end
end BB
namespace L2
open PySem PySem.Spec PySem.Calls PyProof.Rows
abbrev kO:Obj:={ cls:=.type "frame",data:=.dict #[] }
abbrev qt:Obj:={ cls:=.type "cell",data:=.cell none }
theorem iR {M:Model} {A:Around} {E:Value->Shared->Prop} {s:Shared} {scope:Scope} {globals:Addr} {closure:List (Str×Addr)} {binds:List (Str×Value)} {qual:Str} {func:Option Addr} {code:Value} {builtins:Addr} {Q:Env->Shared->Prop}
 (hk:scope.kind=.function) (hl:∀ x∈binds,scope.names.lookup x.1=some .local)
 (hQ:∀ h',h'.Ns s.heap.objs.size (fun x=>binds.reverse.lookup x)->Heap.SameBut s.heap.objs.size (pushCells (s.heap.push kO) scope.names) h' →
  Q (newEnv scope s.heap.objs.size globals (cellsFrom (s.heap.objs.size+1) scope.names closure) qual func code none builtins) { s with heap:=h',toks:=s.toks+binds.length }) :
 wpAny M A (newFunctionEnv scope globals closure binds qual func code none builtins) Q E s:=by
 simp only [newFunctionEnv,Option.isSome_none,Bool.false_eq_true,if_false];refine wpAny_bind (wpAny_alloc ?_);refine wpAny_bind (wpAny_layCells _ (fun name kind cells=>by cases hkc:kind == NameKind.cell <;> simp [hkc]) _ _ _ _ ?_);rw [show ({ s with heap:=s.heap.push { cls:=.type "frame",data:=.dict #[] } }:Shared).heap.objs.size=s.heap.objs.size+1 from Heap.size_push ..];refine wpAny_bind ?_;generalize hcs:cellsFrom (s.heap.objs.size+1) scope.names closure=cs at hQ ⊢
 refine wpAny_forIn_list _
  (fun rest _ s'=>∃ done h',binds=done++rest/\s'={ s with heap:=h',toks:=s.toks+done.length } ∧
   h'.Ns s.heap.objs.size (fun x=>done.reverse.lookup x) ∧
   Heap.SameBut s.heap.objs.size (pushCells (s.heap.push kO) scope.names) h') _ ?_ ?_ binds _
  ⟨[],_,rfl,rfl,(Heap.Ns.new ..).keeps (pushCells_keeps _ _),Heap.SameBut.refl ..⟩
 · rintro ⟨name,v⟩ rest _ s' ⟨done,h',hb,rfl,hns,hsb⟩
   have hk':Env.kindOf { scope,locals:=s.heap.objs.size,globals,cells:=cs,qual,func,code,frame:=some s.heap.objs.size,builtins } name=some .local :=
    hl (name,v) (by rw [hb];simp)
   have hp:(({ scope,locals:=s.heap.objs.size,globals,cells:=cs,qual,func,code,frame:=some s.heap.objs.size,builtins }:Env).scope.kind == .class || (({ scope,locals:=s.heap.objs.size,globals,cells:=cs,qual,func,code,frame:=some s.heap.objs.size,builtins }:Env).scope.kind == .module &&
    ({ scope,locals:=s.heap.objs.size,globals,cells:=cs,qual,func,code,frame:=some s.heap.objs.size,builtins }:Env).locals != ({ scope,locals:=s.heap.objs.size,globals,cells:=cs,qual,func,code,frame:=some s.heap.objs.size,builtins }:Env).globals))=false:=by
    show (scope.kind == .class || (scope.kind == .module && _))=false;rw [hk];rfl
   simp only [storeName_local hk' hp];refine wpAny_bind (wpAny_nsSet hns fun h'' hns' hsb'=>wpAny_pure ⟨done++[(name,v)],h'',by simp [hb],?_,?_,hsb.trans hsb'⟩)
   · simp [Nat.add_assoc]
   · rw [lookup_reverse_snoc];exact hns'
 · rintro _ s' ⟨done,h',hb,rfl,hns,hsb⟩;rw [List.append_nil] at hb;subst hb;exact wpAny_pure (hQ h' hns hsb)
def NestAt (H:Hp) (f c':Addr) (name qual:Str) (params:Arguments) (body:List Stmt) (scope:Scope) (cl:List (Str×Addr)):Prop:=∃ φ,H f=some (.ext φ)/\∀ h:Heap,φ h->∃ doc pm ctv,h.get? f=some (PySem.W.fnMade name qual params body scope cl doc pm c' ctv)
theorem NestAt.mono {H H':Hp} (s:Same H H') {f c':Addr} {name qual:Str} {params:Arguments} {body:List Stmt} {scope:Scope} {cl:List (Str×Addr)} (h:NestAt H f c' name qual params body scope cl):NestAt H' f c' name qual params body scope cl:=by
 obtain ⟨φ,h1,h2⟩:=h;exact ⟨φ,s _ _ h1,h2⟩
def cxN (P:Program) (w:World) (K:PySem.W.Frag) (mg:Str->Option Value) (base:Heap) (N:List Str) (qual:Str) (scope:Scope) (f:Addr) (cd:Value) (y:Str) (cl:List (Str×Addr)) (A:Around) (outer:List Env) (s:Shared) (H:Hp):Cx where
 prog:=P
 w:=w
 K:=K
 mg:=mg
 base:=base
 A:=A.deeper (PySem.W.envX qual scope s.heap.objs.size f cd ((y,s.heap.objs.size+1)::cl))
 N:=N
 s₀:=s
 H₀:=fgt (cl.map (·.2)) H
 env:=PySem.W.envX qual scope s.heap.objs.size f cd ((y,s.heap.objs.size+1)::cl)
 outer:=outer
 stack:=PySem.W.envX qual scope s.heap.objs.size f cd ((y,s.heap.objs.size+1)::cl)::outer
 ex:=[]
 calm:=true
 fn:=fun x=>x == y
 pn:=[]
 xe:=fun _ _=>False
structure lO (N ps fs:List Str) (y:Str) (cl:List (Str×Addr)) (sc:Scope):Prop where
 kind:sc.kind=.function
 co:sc.isCoroutine=false
 gen:sc.isGenerator=false
 nd:N.Nodup
 pre:N.take (ps.length+fs.length)=ps++fs
 par:∀ x∈ps,sc.names.lookup x=some .local
 fre:∀ x∈fs,sc.names.lookup x=some .free
 cells:∀ n:Nat,cellsFrom n sc.names cl=(y,n)::cl
 push:∀ h:Heap,pushCells h sc.names=h.push qt
 cel:∀ x,sc.names.lookup x=some .cell->x=y
 has:∀ x,sc.names.lookup x=some .free->∃ c,cl.lookup x=some c
 inj:∀ x z c,cl.lookup x=some c->cl.lookup z=some c->x=z
 ney:∀ x∈fs,(x == y)=false
 neq:∀ x,sc.names.lookup x=some .free->(x == y)=false
theorem u6 {P:Program} {w:World} {K:PySem.W.Frag} {mg:Str->Option Value} {base:Heap} {k:Nat} {f c':Addr} {sp:Sp} {name qual y:Str} {params:Arguments} {body:List Stmt} {scope:Scope} {cl:List (Str×Addr)} {N ps fs:List Str}
 (S:lO N ps fs y cl scope) (bind:∀ (doc pm ctv:Value) (us:List Value),us.length=ps.length->bindArgs (PySem.W.fnX name qual params body scope cl .none .none doc pm none (.ref c') ctv) ⟨us,[]⟩=pure (ps.zip us))
 (hsp:∀ vs H Q E,sp vs H Q E->vs.length=ps.length/\NestAt H f c' name qual params body scope cl/\CodeAt H c' qual/\Exts (cl.map (·.2)) H/\∀ x c,cl.lookup x=some c->∃ v,CellAt H c v)
 (hbody:∀ (A:Around) (outer:List Env) (s:Shared) (H:Hp) (vs:List V) (Q:VK) (E:XK),Room k (A.deeper (PySem.W.envX qual scope s.heap.objs.size f (.ref c') ((y,s.heap.objs.size+1)::cl)))->sp vs H Q E →
  ∃ t ws,qx H cl fs ws/\PSs (cxN P w K mg base N qual scope f (.ref c') y cl A outer s H) body t/\t { nx:=fun _ H'=>(∀ b∈cl.map (·.2),H' b=none)->Q .non (rst (cl.map (·.2)) H H'),rt:=fun v H'=>(∀ b∈cl.map (·.2),H' b=none)->Q v (rst (cl.map (·.2)) H H') } (start N (vs++ws)) (fgt (cl.map (·.2)) H)) :
 pi P w K mg base CX0 (k+1) f sp where
 fn:=fun A outer s H vs Q E e0 h=>by
  obtain ⟨_,⟨φ,h1,h2⟩,_⟩:=hsp _ _ _ _ h;obtain ⟨doc,pm,ctv,e⟩:=h2 _ (e0.hok f _ h1).1;exact ⟨_,_,_,_,e⟩
 run:=fun A outer s H us vs Q E hr e0 r h=>by
  obtain ⟨hl,⟨φ,h1,h2⟩,⟨ψ,g1,g2⟩,hx,hcv⟩:=hsp _ _ _ _ h;obtain ⟨doc,pm,ctv,ef⟩:=h2 _ (e0.hok f _ h1).1;have hcr:=g2 _ (e0.hok c' _ g1).1;have hus:us.length=ps.length:=by rw [<- r.length];exact hl
  have hloc:∀ z∈ps.zip us,scope.names.lookup z.1=some .local:=fun ⟨n,v⟩ hy=>S.par n (List.of_mem_zip hy).1;refine codeAny_call_function hr.depth ef rfl S.co S.gen rfl hcr ?_;rw [show bindArgs _ _=_ from bind doc pm ctv us hus];refine wpAny_pure (iR S.kind hloc fun h₁ hns hsb=>?_);rw [S.push] at hsb;have hk₁:∀ b o,s.heap.get? b=some o->h₁.get? b=some o:=fun b o e=>hsb.extBut b o (Nat.ne_of_lt (Heap.lt_size e)) (Heap.get?_push_of_some _ (Heap.get?_push_of_some _ e));have hsz1:(s.heap.push kO).objs.size=s.heap.objs.size+1:=Heap.size_push ..;have hown:h₁.IsCell (s.heap.objs.size+1) none:=⟨qt,hsb.extBut _ _ (Nat.ne_of_gt (Nat.lt_succ_self _)) (by rw [<- hsz1];exact Heap.get?_push_size _ rfl),rfl⟩;refine ⟨e0.mod.nolimit.keeps fun b o e=>hk₁ b o (e0.bs b o e).1,codeAny_func ?_⟩;show wpAny _ (A.deeper (newEnv scope s.heap.objs.size mainGlobals (cellsFrom (s.heap.objs.size+1) scope.names cl) (qual++".<locals>.") (some f) (.ref c') none builtinsNs)) _ _ _ _;rw [S.cells];obtain ⟨t,ws,hws,ht,hq⟩:=hbody A outer s H vs Q E (hr.deeper _) h;have hwl:fs.length=ws.length:=Paired.length hws;have hpl:ps.length+fs.length<=N.length:=by have:=congrArg List.length S.pre;rw [List.length_take,List.length_append] at this;omega
  have hcl:∀ x c,cl.lookup x=some c->c∈cl.map (·.2):=fun x c e=>fw e
  have hlt:∀ c∈cl.map (·.2),c<s.heap.objs.size:=fun c hc=>by
   obtain ⟨φ',e⟩:=hx c hc;exact e0.hok.lt e
  have look:∀ x c,((y,s.heap.objs.size+1)::cl).lookup x=some c->(x=y/\c=s.heap.objs.size+1)∨((x == y)=false/\cl.lookup x=some c):=fun x c e=>by
   rw [List.lookup_cons] at e;cases hb:x == y with
   | true=>rw [hb] at e;cases e;exact .inl ⟨beq_iff_eq.mp hb,rfl⟩
   | false=>rw [hb] at e;exact .inr ⟨rfl,e⟩
  have look2:∀ x c,(x == y)=false->cl.lookup x=some c->((y,s.heap.objs.size+1)::cl).lookup x=some c:=fun x c hb e=>by
   rw [List.lookup_cons,hb];exact e
  have look1:((y,s.heap.objs.size+1)::cl).lookup y=some (s.heap.objs.size+1):=by
   rw [List.lookup_cons,beq_self_eq_true]
  have hcells:∀ x c,((y,s.heap.objs.size+1)::cl).lookup x=some c->∃ v,h₁.IsCell c v:=fun x c e=>by
   rcases look x c e with ⟨_,rfl⟩ | ⟨_,e⟩
   · exact ⟨_,hown⟩
   · obtain ⟨v,hv⟩:=hcv x c e;obtain ⟨u,_,o,ho,hd⟩:=hv.now e0.hok;exact ⟨_,o,hk₁ _ _ ho,hd⟩
  have fgn:∀ b,H b=none->fgt (cl.map (·.2)) H b=none:=fun b e=>by
   by_cases hb:b∈cl.map (·.2)
   · exact eF hb
   · rw [be hb];exact e
  have ndP:ps.Nodup:=by
   have:N.take (ps.length+fs.length)=ps++fs:=S.pre;have h2:(ps++fs).Nodup:=by rw [<- this];exact S.nd.sublist (List.take_sublist _ _)
   exact (List.nodup_append.mp h2).1
  have Nat_pre:∀ (i:Nat) (x:Str),i<ps.length+fs.length->N[i]?=some x->(ps++fs)[i]?=some x:=fun i x hi e=>by
   rw [<- S.pre,List.getElem?_take_of_lt hi];exact e
  have I:Inv (cxN P w K mg base N qual scope f (.ref c') y cl A outer s H) [] (start N (vs++ws)) (fgt (cl.map (·.2)) H) { s with heap:=h₁,toks:=s.toks+(ps.zip us).length }:=by
   refine ⟨⟨e0.mod,S.kind,rfl,rfl,Nat.le_refl _,fun x z c e1 e2=>?_,fun x hx=>?_,fun x c hf e=>?_,fun _=>hr.hd,Around.frames_deeper e0.frames,.inr ⟨rfl,rfl⟩,fun b z=>(by cases z),fun b o e=>⟨(e0.bs b o e).1,?_⟩,e0.bsz,fun b _ _ z=>(by cases z),fun b z=>(by cases z),e0.funs,fun b hb=>?_⟩,
    rfl,e0.bare,Un.kept hk₁,⟨_,hns,fun i x v e1 e2 e3=>?_⟩,hcells,?_,fun x c e=>?_,fun p hp=>(by cases hp),?_,?_⟩
   · rcases look x c e1 with ⟨rfl,h1⟩ | ⟨_,h1⟩ <;> rcases look z c e2 with ⟨rfl,h2⟩ | ⟨_,h2⟩
     · rfl
     · have:=hlt c (hcl _ _ h2);omega
     · have:=hlt c (hcl _ _ h1);omega
     · exact S.inj x z c h1 h2
   · have hx':scope.names.lookup x=some .cell∨scope.names.lookup x=some .free:=hx;rcases hx' with z | z
     · exact ⟨_,by rw [S.cel x z];exact look1⟩
     · obtain ⟨c,hc⟩:=S.has x z;exact ⟨c,look2 x c (S.neq x z) hc⟩
   · have hf':(x == y)=true:=hf;rcases look x c e with ⟨_,h1⟩ | ⟨h1,_⟩
     · show s.heap.objs.size<=c;omega
     · rw [h1] at hf';cases hf'
   · exact fgn b (e0.bs b o e).2
   · exact fgn b (e0.frf b hb)
   · have hin:i<(vs++ws).length:=by
      unfold start at e2;by_cases hi:i<(vs++ws).length
      · exact hi
      · rw [List.getElem?_append_right (by simpa using hi)] at e2;rw [List.getElem?_replicate] at e2;split at e2 <;> cases e2
     have ha:(vs++ws)[i]?=some v:=by
      unfold start at e2;rw [List.getElem?_append_left (by simpa using hin),List.getElem?_map] at e2;cases e:(vs++ws)[i]? with
      | none=>rw [e] at e2;cases e2
      | some a=>rw [e] at e2;cases e2;rfl
     rw [List.length_append] at hin;have hp:=Nat_pre i x (by omega) e1;by_cases hi:i<vs.length
     · rw [List.getElem?_append_left hi] at ha;rw [List.getElem?_append_left (by omega)] at hp;obtain ⟨u,hu,rv⟩:=r.get ha;exact ⟨u,rv,.inl ⟨S.par x (List.mem_of_getElem? hp),jz ndP hus hp hu⟩⟩
     · rw [List.getElem?_append_right (by omega)] at ha;rw [List.getElem?_append_right (by omega)] at hp;rw [hl] at ha;obtain ⟨w',hw',c,hc,hcell⟩:=BB.P2.get hws hp;rw [ha] at hw';cases hw';obtain ⟨u,ru,o,ho,hdc⟩:=hcell.now e0.hok;have hm:=List.mem_of_getElem? hp;exact ⟨u,ru,.inr ⟨.inr (S.fre x hm),c,look2 x c (S.ney x hm) hc,o,hk₁ _ _ ho,hdc⟩⟩
   · exact fgn _ (e0.hok.fresh (Nat.le_refl _))
   · rcases look x c e with ⟨_,rfl⟩ | ⟨_,e⟩
     · exact fgn _ (e0.hok.fresh (by omega))
     · exact eF (hcl x c e)
   · exact (e0.hok.fgt hx).kept hk₁
   · show (start N (vs++ws)).length=N.length;unfold start;rw [List.length_append,List.length_map,List.length_replicate,List.length_append];omega
  refine wpAny_mono (ht [] _ _ _ _ I hq) (fun fl s' hs=>?_) fun e s' z=>z.elim
  have fin:∀ {σ':St} {H':Hp} {v:V} {u:Value},Inv (cxN P w K mg base N qual scope f (.ref c') y cl A outer s H) [] σ' H' s'->RelV v u->((∀ b∈cl.map (·.2),H' b=none)->Q v (rst (cl.map (·.2)) H H'))->CE outer P w H s Q u s':=fun {σ' H' v u} I' rv q'=>by
   have un:Un (frs outer) [] (fgt (cl.map (·.2)) H) H' s.heap s'.heap:=I'.base
   have kS:∀ b∈cl.map (·.2),∀ o,s.heap.get? b=some o->s'.heap.get? b=some o:=fun b hb o e=>un.keep b o e (eF hb) (fun z=>by
    obtain ⟨φ',e'⟩:=hx b hb;rw [e0.frf b z] at e';cases e') (by simp)
   have hnS:∀ b∈cl.map (·.2),H' b=none:=fun b hb=>by
    obtain ⟨φ',e'⟩:=hx b hb;obtain ⟨_,⟨o,ho⟩,_⟩:=e0.hok b _ e';exact un.free b o ho (eF hb) (by simp)
   have nS:∀ b,H b=none->b∉cl.map (·.2):=fun b e hb=>by
    obtain ⟨φ',e'⟩:=hx b hb;rw [e] at e';cases e'
   refine ⟨v,rst (cl.map (·.2)) H H',I'.os,I'.bare,⟨fun b o e n hb hx'=>un.keep b o e (fgn b n) hb hx',fun b o e n hb hx'=>un.slot b o e (fgn b n) hb hx',fun b o e n hx'=>?_,fun b o e hx'=>un.there b o e hx',fun b xs e=>?_,fun b o u' e=>?_,fun b pp e=>?_⟩,HOk.rst e0.hok I'.hok hx kS hnS,rv,q' hnS⟩
   · rw [bV (nS b n)];exact un.free b o e (fgn b n) hx'
   · have hb:=hx.out e (by intro φ' z;cases z);rw [bV hb];exact un.tups b xs (by rw [be hb];exact e)
   · have hb:=hx.out e (by intro φ' z;cases z);rw [bV hb];exact un.frzs b o u' (by rw [be hb];exact e)
   · have hb:=hx.out e (by intro φ' z;cases z);rw [bV hb];exact un.tbls b pp (by rw [be hb];exact e)
  cases fl with
  | ret u =>
    obtain ⟨v,σ',H',J,rv,q⟩:=hs;exact fin J rv q
  | next =>
    obtain ⟨σ',H',J,q⟩:=hs;exact fin (v:=V.non) (u:=Value.none) J rfl q
  | brk =>
    obtain ⟨_,_,_,q⟩:=hs;exact False.elim q
  | cont =>
    obtain ⟨_,_,_,q⟩:=hs;exact False.elim q
theorem sN {S:List Addr} {H H':Hp} (s:Same (fgt S H) H'):Same H (rst S H H'):=fun b o e=>by
 by_cases hb:b∈S
 · rw [pI hb];exact e
 · rw [bV hb];exact s _ _ (by rw [be hb];exact e)
theorem tq {S:List Addr} {H H':Hp} (hn:∀ b∈S,H' b=none):Same H' (rst S H H'):=fun b o e=>by
 rw [bV fun z=>by rw [hn b z] at e;cases e];exact e
theorem wC {S:List Addr} {H:Hp} (hx:Exts S H):BB.KT H (fgt S H):=fun b xs e=>by
 rw [be (hx.out e fun φ z=>nomatch z)];exact e
def wZ (X:Cx) (P:Addr) (i:Nat) (name:Str) (pos:Pos) (params:Arguments) (body:List Stmt) (scope:Scope) (cl:List (Str×Addr)):TS:=fun D σ H=>TabSt H P pos (X.env.qual++name) ∧
 ∀ f c' H',SameT P H H'->H' P=some (.tbl (tabOf pos c'))->CodeAt H' c' (X.env.qual++name)->NestAt H' f c' name (X.env.qual++name) params body scope cl->H f=none->D.nx (σ.set i (some (.ref f))) H'
theorem uR {X:Cx} {c P:Addr} {i:Nat} {name:Str} {pos:Pos} {params:Arguments} {body:List Stmt} {scope:Scope} {cl:List (Str×Addr)} (L:Lam X.mg X.base c P) (hN:X.N.Nodup) (hi:X.N[i]?=some name) (hx0:Loc X.env.scope name) (hc:X.env.code=.ref c) (hcl:closureFor scope X.env=pure cl)
 (hd0:params.defaults=[]:=by rfl) (hk0:params.kw_defaults=[]:=by rfl) (ha:annTrees params none X.env=[]:=by rfl) (hq:qualnameIn X.env name name=X.env.qual++name:=by rfl) (hf0:X.fn name=true∨X.env.scope.names.lookup name=some .local:=by first | exact .inl rfl | exact .inr rfl | assumption) :
 PS X (.FunctionDef name params body [] none [] scope none name pos) (wZ X P i name pos params body scope cl):=by
 intro pins s σ H D I h;obtain ⟨tab,q⟩:=h;have hgl:s.heap.Ns mainGlobals X.mg:=I.mod.glob.keeps I.bk;have C:PySem.W.CodeHd s.heap c P:=L.hd.keeps I.bk
 have hb:s.heap.BuiltinsAt X.mg P:=by
  obtain ⟨bm,o,h1,h2,h3,h4,h5,h6⟩:=L.bl;exact ⟨bm,o,h1,h2,h3,h4,I.bk _ _ h5,h6⟩
 refine PySem.W.nestDef_K hd0 hk0 ha ?_;rw [hq];rcases tab with hP | ⟨c',hP,hcc⟩
 · have hPo:s.heap.get? P=some (PySem.W.tabObj #[]):=I.hok P _ hP
   have hgP:mainGlobals≠P:=fun z=>by
    obtain ⟨o,es,ep,e,d,_⟩:=hgl;rw [z,hPo] at e;cases e;cases d
   refine PySem.W.makeFunction_K hcl I.ok.glob hgl hc C hPo trivial rfl hgP hb fun c' ctv doc h' tk hx hge hlt hrec htb=>?_;have hsz:s.heap.objs.size<=h'.objs.size:=Nat.le_trans hge (Nat.le_of_lt hlt);have nc':H c'=none:=I.hok.fresh hge;have nf:H h'.objs.size=none:=I.hok.fresh hsz;have ncf:c'≠h'.objs.size:=Nat.ne_of_lt hlt;have nPc:P≠c':=fun z=>by rw [z,nc'] at hP;cases hP
   have nPf:P≠h'.objs.size:=fun z=>by rw [z,nf] at hP;cases hP
   obtain ⟨ob,hob⟩:∃ ob,ob=PySem.W.fnMade name (X.env.qual++name) params body scope cl doc ((X.mg "__name__").getD .none) c' ctv:=⟨_,rfl⟩;rw [<- hob];have kp:∀ b o,b≠P->s.heap.get? b=some o->(h'.push ob).get? b=some o:=fun b o n e=>Heap.get?_push_of_some _ (hx b o n e);obtain ⟨H',hH'⟩:∃ H',H'=upd (upd (upd H P (.tbl (tabOf pos c'))) c' (.ext fun h=>h.CodeRec (.ref c') (X.env.qual++name))) h'.objs.size (.ext fun h=>h.get? h'.objs.size=some ob):=⟨_,rfl⟩;have eP:H' P=some (.tbl (tabOf pos c')):=by rw [hH',ak nPf,ak nPc,ad]
   have ec:H' c'=some (.ext fun h=>h.CodeRec (.ref c') (X.env.qual++name)):=by rw [hH',ak ncf,ad]
   have ef:H' h'.objs.size=some (.ext fun h=>h.get? h'.objs.size=some ob):=by rw [hH',ad]
   have eo:∀ b,b≠P->b≠c'->b≠h'.objs.size->H' b=H b:=fun b n1 n2 n3=>by rw [hH',ak n3,ak n2,ak n1]
   have es:∀ b o,H b=some o->b≠P->H' b=some o:=fun b o e n=>by rw [eo b n (fun z=>by rw [z,nc'] at e;cases e) (fun z=>by rw [z,nf] at e;cases e)];exact e
   have un:Un X.fs [] H H' s.heap (h'.push ob):=by
    have nP:∀ b,H b=none->b≠P:=fun b n z=>by rw [z,hP] at n;cases n
    refine ⟨fun b o e n _ _=>kp b o (nP b n) e,fun b o e n _ _=>⟨o.slots,kp b o (nP b n) e⟩,fun b o e n _=>?_,fun b o e _=>?_,fun b xs e=>es b _ e (fun z=>by rw [z,hP] at e;cases e),fun b o u e=>es b _ e (fun z=>by rw [z,hP] at e;cases e),fun b pp e=>?_⟩
    · rw [eo b (nP b n) (Nat.ne_of_lt (Nat.lt_of_lt_of_le (Heap.lt_size e) hge)) (Nat.ne_of_lt (Nat.lt_of_lt_of_le (Heap.lt_size e) hsz))];exact n
    · by_cases hb:b=P
      · exact ⟨_,by rw [hb];exact Heap.get?_push_of_some _ htb⟩
      · exact ⟨o,kp b o hb e⟩
    · by_cases hb:b=P
      · subst hb;rw [hP] at e;cases e;exact ⟨tabOf pos c',by rw [eP];simp⟩
      · exact ⟨#[],by rw [es b _ e hb];simp⟩
   have hok:HOk X.prog X.w H' (h'.push ob):=fun a o e=>by
    by_cases ha:a=P
    · subst ha;rw [eP] at e;cases e;exact Heap.get?_push_of_some _ htb
    by_cases hc':a=c'
    · subst hc';rw [ec] at e;cases e;refine ⟨hrec.push _,?_,fun h1 h2 z k=>?_⟩
      · obtain ⟨_,oc,_,_,e1,e2,_⟩:=hrec;cases e1;exact ⟨oc,Heap.get?_push_of_some _ e2⟩
      · obtain ⟨_,oc,vs,t,e1,e2,e3⟩:=z;cases e1;exact ⟨_,oc,vs,t,rfl,k _ e2,e3⟩
    by_cases hf':a=h'.objs.size
    · subst hf';rw [ef] at e;cases e;have hfr:ob.isFreed=false:=by rw [hob];rfl
      exact ⟨Heap.get?_push_size _ hfr,⟨_,Heap.get?_push_size _ hfr⟩,fun h1 h2 z k=>k _ z⟩
    rw [eo a ha hc' hf'] at e;refine (I.hok a o e).stay (fun b u hb z=>kp b u ?_ z) (fun b z=>es b _ z (fun y=>by rw [y,hP] at z;cases z)) fun b xs z=>es b _ z (fun y=>by rw [y,hP] at z;cases z);rcases hb with hb | hb
    · rw [hb];exact ha
    · exact fun y=>by rw [y,hP] at hb;cases hb
   refine ik (v:=.ref h'.objs.size) (I.un un hok) hN hi hx0 rfl (fun s2 I2=>⟨_,H',I2,q _ c' H' (fun b o n e=>es b o e n) eP ⟨_,ec,fun _ z=>z⟩ ⟨_,ef,fun _ z=>⟨_,_,_,by rw [z,hob]⟩⟩ nf⟩) hf0
 · have hPo:s.heap.get? P=some (PySem.W.tabObj (tabOf pos c')):=I.hok P _ hP;refine PySem.W.makeFunction_hit hcl I.ok.glob hgl hc C hPo (oE pos c') (mx pos c') hb fun ctv doc h' tk hk hsz=>?_;have nf:H h'.objs.size=none:=I.hok.fresh hsz
   have I':=I.laid (h':=h'.push { cls:=.type "function",data:=.func (PySem.W.fnX name (X.env.qual++name) params body scope cl .none .none doc ((X.mg "__name__").getD .none) none (.ref c') ctv) }) (a:=h'.objs.size) (t':=tk)
    (o:=.ext fun h=>h.get? h'.objs.size=some (PySem.W.fnMade name (X.env.qual++name) params body scope cl doc ((X.mg "__name__").getD .none) c' ctv)) (fun b u e=>Heap.get?_push_of_some _ (hk b u e)) hsz ⟨Heap.get?_push_size _ rfl,⟨_,Heap.get?_push_size _ rfl⟩,fun h1 h2 z k=>k _ z⟩
   have sm:Same H (upd H h'.objs.size (.ext fun h=>h.get? h'.objs.size=some (PySem.W.fnMade name (X.env.qual++name) params body scope cl doc ((X.mg "__name__").getD .none) c' ctv))):=af nf _;exact ik (v:=.ref h'.objs.size) I' hN hi hx0 rfl (fun s2 I2=>⟨_,_,I2,q _ c' _ (sm.t P) (sm _ _ hP) (hcc.mono sm) ⟨_,ad,fun _ z=>⟨_,_,_,z⟩⟩ nf⟩) hf0
theorem xQ {X:Cx} {y z:Str} {c d:Addr} (h1:X.env.cells.lookup y=some c) (h2:X.fn y=true) (h3:X.env.kindOf y=some .cell) (g1:X.env.cells.lookup z=some d) (g2:X.fn z=true) (g3:X.env.kindOf z=some .cell):lC X [(y,c),(z,d)] :=
 ⟨fun a b h=>(List.mem_cons.mp h).elim (fun e=>by cases e;exact h1) fun e=>by cases List.mem_singleton.mp e;exact g1,
  fun a b h=>(List.mem_cons.mp h).elim (fun e=>by cases e;exact h2) fun e=>by cases List.mem_singleton.mp e;exact g2,
  fun a b h=>(List.mem_cons.mp h).elim (fun e=>by cases e;exact h3) fun e=>by cases List.mem_singleton.mp e;exact g3⟩
end L2
namespace BB
open PySem L2
mutual
/-- the row of the lowest call,0 where there is none -/
def lc:Th->Nat
 | .call _ _=>1
 | .knot _ ks=>if lcs ks=0 then 0 else lcs ks+1
def lcs:List Th->Nat
 | []=>0
 | t::ts=>max (lc t) (lcs ts)
end
mutual
theorem iJ:∀ t:Th,lc t<=t.tall
 | .call _ _=>by rw [lc,Th.tall];exact Nat.le_refl _
 | .knot _ ks=>by
   have:=lT ks;rw [lc,Th.tall];split <;> omega
theorem lT:∀ ts:List Th,lcs ts<=aI ts
 | []=>by rw [lcs];exact Nat.zero_le _
 | t::ts=>by
   have:=iJ t;have:=lT ts;rw [lcs,aI];omega
end
mutual
theorem iS {ks:List (Str×Int)} {S C:Int} (g:aT ks):∀ t:Th,t.FitS ks S C->2 * t.size+1<=3 ^ t.tall/\3 * cnT t<=3 ^ lc t
 | .call _ _,_=>by
   rw [Th.size,Th.tall,cnT,lc];exact ⟨by decide,by decide⟩
 | .knot n ts,h=>by
   rw [Th.FitS] at h;obtain ⟨h1,h2⟩:=ke g ts h.2
   have hw:ts.length<=3:=by
    have:=(g.num _ h.1).2;have h2:((ts.length:Nat):Int)<=3:=this;omega
   rw [Th.size,Th.tall,cnT,lc];refine ⟨?_,?_⟩
   · rw [Nat.pow_succ];have hp:1<=3 ^ aI ts:=Nat.pow_pos (by decide);have:ts.length * (3 ^ aI ts - 1)<=3 * (3 ^ aI ts - 1):=Nat.mul_le_mul_right _ hw;omega
   · have:ts.length * 3 ^ lcs ts<=3 * 3 ^ lcs ts:=Nat.mul_le_mul_right _ hw;split
     · rename_i hz
       rw [hz] at h2 this;have h3:=lX g ts h.2 hz;omega
     · rw [Nat.pow_succ];omega
theorem ke {ks:List (Str×Int)} {S C:Int} (g:aT ks):∀ ts:List Th,FitSs ks S C ts->2 * aw ts<=ts.length * (3 ^ aI ts - 1)/\3 * bI ts<=ts.length * 3 ^ lcs ts
 | [],_=>by
   rw [aw,bI];exact ⟨Nat.zero_le _,Nat.zero_le _⟩
 | t::ts,h=>by
   rw [FitSs] at h;obtain ⟨h1,h2⟩:=iS g t h.1;obtain ⟨h3,h4⟩:=ke g ts h.2;rw [aw,bI,aI,lcs,List.length_cons];have a1:3 ^ t.tall<=3 ^ max t.tall (aI ts):=Nat.pow_le_pow_right (by decide) (Nat.le_max_left ..);have a2:3 ^ aI ts<=3 ^ max t.tall (aI ts):=Nat.pow_le_pow_right (by decide) (Nat.le_max_right ..);have b1:3 ^ lc t<=3 ^ max (lc t) (lcs ts):=Nat.pow_le_pow_right (by decide) (Nat.le_max_left ..);have b2:3 ^ lcs ts<=3 ^ max (lc t) (lcs ts):=Nat.pow_le_pow_right (by decide) (Nat.le_max_right ..);have a3:ts.length * (3 ^ aI ts - 1)<=ts.length * (3 ^ max t.tall (aI ts) - 1):=Nat.mul_le_mul_left _ (by omega);have b3:ts.length * 3 ^ lcs ts<=ts.length * 3 ^ max (lc t) (lcs ts):=Nat.mul_le_mul_left _ b2;rw [Nat.add_mul,Nat.add_mul];omega
theorem lX {ks:List (Str×Int)} {S C:Int} (g:aT ks):∀ ts:List Th,FitSs ks S C ts->lcs ts=0->bI ts=0
 | [],_,_=>by rw [bI]
 | t::ts,h,hz=>by
   rw [FitSs] at h;rw [lcs] at hz;have h1:=(iS g t h.1).2;rw [show lc t=0 by omega] at h1;rw [bI,lX g ts h.2 (by omega)];omega
end
theorem vY {ts:List Th} {t:Th} (h:t∈ts):t.size<=aw ts:=by
 induction ts with
 | nil=>cases h
 | cons u ts ih =>
   rw [aw];rcases List.mem_cons.mp h with rfl | h
   · omega
   · have:=ih h;omega
end BB
namespace BB
open PySem L2
theorem nH (f:Int->Int->Th) (ts:List Th):(fills f ts).length=ts.length:=by rw [gb,List.length_map]
mutual
theorem nZ {ks:List (Str×Int)} {S C S' C':Int} (f:Int->Int->Th) (hf:∀ s c,0<=s->s<S->0<=c->c<C->(f s c).FitS ks S' C'):∀ t:Th,t.FitS ks S C->(t.fill f).FitS ks S' C'
 | .call s c,h=>by
   rw [Th.FitS] at h;rw [Th.fill];exact hf s c h.1 h.2.1 h.2.2.1 h.2.2.2
 | .knot n ts,h=>by
   rw [Th.FitS] at h;rw [Th.fill,Th.FitS,nH];exact ⟨h.1,l9 f hf ts h.2⟩
theorem l9 {ks:List (Str×Int)} {S C S' C':Int} (f:Int->Int->Th) (hf:∀ s c,0<=s->s<S->0<=c->c<C->(f s c).FitS ks S' C'):∀ ts:List Th,FitSs ks S C ts->FitSs ks S' C' (fills f ts)
 | [],_=>by rw [fills,FitSs];trivial
 | t::ts,h=>by
   rw [FitSs] at h;rw [fills,FitSs];exact ⟨nZ f hf t h.1,l9 f hf ts h.2⟩
end
theorem fU (pat:Int->Str->Th) (s:Int) (t:Th):made pat (.call s 0) (sol t)=kG pat t s:=eM (k:=sol t) pat rfl
theorem fK {ks:List (Str×Int)} {S C:Int} (g:aT ks) {t:Th} (h:t.FitS ks S C) (h1:t.tall<=6) (h2:lc t<=5):Small t:=by
 obtain ⟨a,b⟩:=iS g t h;have a2:3 ^ t.tall<=3 ^ 6:=Nat.pow_le_pow_right (by decide) h1;have b2:3 ^ lc t<=3 ^ 5:=Nat.pow_le_pow_right (by decide) h2;have c:=jU t;have a3:(3:Nat) ^ 6=729:=by decide
 have b3:(3:Nat) ^ 5=243:=by decide
 exact ⟨by omega,by omega,by omega⟩
section
variable {ins mid outs:List (Str×Int)} {S1 S2:Int} {head1 head2:Th} {rows1 rows2:List (List Th)} {τ1 κ1 η1 ι1 τ2 η2 ι2:Nat}
end
end BB
namespace BB
open PySem L2
theorem gS {H:Hp}:∀ {ts:List Th} {as:List Addr},Paired (At H) ts as->Ats H ts as
 | _,_,.nil=>.nil
 | _,_,.cons h g=>.cons h (gS g)
end BB
namespace BB
open PySem L2
end BB
namespace L2
open PySem PySem.Spec PySem.Calls PyProof.Rows
end L2
namespace L2
open PySem PySem.Spec PySem.Calls PyProof.Rows
end L2
namespace BB
open PySem L2
theorem ue {fs:List (Int->Th)} {s c:Int} {f:Int->Th} (h:fs[c.toNat]?=some f):lg fs s c=f s:=by
 unfold lg;rw [List.getD,h];rfl
mutual
/-- congruence over what fits -/
theorem jq {ks:List (Str×Int)} {S C:Int} {f g:Int->Int->Th}:∀ t:Th,t.FitS ks S C->(∀ s k,0<=s->s<S->0<=k->k<C->f s k=g s k)->t.fill f=t.fill g
 | .call s k,h,hf=>by
   rw [Th.FitS] at h;rw [Th.fill,Th.fill];exact hf s k h.1 h.2.1 h.2.2.1 h.2.2.2
 | .knot n ts,h,hf=>by
   rw [Th.FitS] at h;rw [Th.fill,Th.fill,ip ts h.2 hf]
theorem ip {ks:List (Str×Int)} {S C:Int} {f g:Int->Int->Th}:∀ ts:List Th,FitSs ks S C ts->(∀ s k,0<=s->s<S->0<=k->k<C->f s k=g s k)->fills f ts=fills g ts
 | [],_,_=>by rw [fills,fills]
 | t::ts,h,hf=>by
   rw [FitSs] at h;rw [fills,fills,jq t h.1 hf,ip ts h.2 hf]
end
mutual
theorem ix {ks:List (Str×Int)} {S C:Int}:∀ {t:Th},t.FitS ks S C->∀ x∈stT t,0<=x/\x<S
 | .call s k,h=>fun x hx=>by
   rw [Th.FitS] at h;rw [ie,List.mem_singleton] at hx;exact hx ▸ ⟨h.1,h.2.1⟩
 | .knot n ts,h=>fun x hx=>by
   rw [Th.FitS] at h;rw [fX] at hx;exact oC h.2 x hx
theorem oC {ks:List (Str×Int)} {S C:Int}:∀ {ts:List Th},FitSs ks S C ts->∀ x∈aX ts,0<=x/\x<S
 | [],_=>fun x hx=>by cases hx
 | t::ts,h=>fun x hx=>by
   rw [FitSs] at h;rcases List.mem_append.mp (show x∈stT t++aX ts from hx) with z | z
   · exact ix h.1 x z
   · exact oC h.2 x z
end
def sw (R:Int->List Th) (h:Th):Th:=ren (idx (bd R h)) h
def rT (R:Int->List Th) (h:Th):List (List Th):=(bd R h).map fun s=>(R s).map (ren (idx (bd R h)))
theorem ml {g:Int->Int}:∀ {M:List Int} {s:Int},(∀ x∈M,∀ y∈M,g x=g y->x=y)->s∈M->(M.map g).idxOf (g s)=M.idxOf s
 | [],s,_,hs=>by cases hs
 | y::M,s,hg,hs=>by
   rw [List.map_cons,List.idxOf_cons,List.idxOf_cons];by_cases h:y=s
   · rw [h,beq_self_eq_true,beq_self_eq_true];rfl
   · have h2:g y≠g s:=fun z=>h (hg y (List.mem_cons_self ..) s hs z);rw [beq_eq_false_iff_ne.mpr h,beq_eq_false_iff_ne.mpr h2];simp only [cond_false];have hs':s∈M:=(List.mem_cons.mp hs).elim (fun e=>absurd e.symm h) id;rw [ml (fun x hx y' hy=>hg x (List.mem_cons_of_mem _ hx) y' (List.mem_cons_of_mem _ hy)) hs']
theorem qw {R R':Int->List Th} {h h':Th} {g:Int->Int} (hl:(bd R' h').length<=20) (hg:∀ x∈bd R h,∀ y∈bd R h,g x=g y->x=y) (hR:∀ s∈bd R h,R' (g s)=(R s).map (ren g)) (hh:h'=ren g h):sw R' h'=sw R h/\rT R' h'=rT R h:=by
 have hhd:∀ x∈stT h,x∈bd R h:=fun x hx=>(dD R 21 _ 0).subset (bj.mpr (.inr hx))
 have hM:bd R' h'=(bd R h).map g:=by
  have:=qG hg hR 21 (aC [] (stT h)) 0 fun x hx=>hx;unfold bd;rw [hh,nI];have e:aC [] ((stT h).map g)=(aC [] (stT h)).map g:=nT (m:=[]) hg (fun x hx=>by cases hx) hhd;rw [e];exact this
 have hclo:∀ s∈bd R h,∀ x∈aX (R s),x∈bd R h:=gG 21 _ 0 (by show (bd R h).length<0+21;rw [hM,List.length_map] at hl;omega) fun j s hj=>absurd hj (Nat.not_lt_zero _)
 have hi:∀ s∈bd R h,idx (bd R' h') (g s)=idx (bd R h) s:=fun s hs=>by
  rw [hM];unfold idx;rw [ml hg hs]
 have key:∀ t:Th,(∀ x∈stT t,x∈bd R h)->ren (idx (bd R' h')) (ren g t)=ren (idx (bd R h)) t:=fun t ht=>by
  rw [qv];exact i6 t fun s hs=>hi s (ht s hs)
 refine ⟨?_,?_⟩
 · unfold sw;rw [hh] at hM hi key ⊢;exact key h hhd
 · unfold rT
   conv=>lhs;rw [hM]
   rw [List.map_map];refine List.map_congr_left fun s hs=>?_;show (R' (g s)).map _=_;rw [hR s hs,List.map_map];refine List.map_congr_left fun t ht=>?_;have:=key t fun x hx=>hclo s hs x (rQ ht hx);rw [<- this];show ren (idx ((bd R h).map g)) (ren g t)=_;rw [<- hM]
end BB
namespace BB
open PySem L2
section
variable {k0 k1 k2 k3:List (Str×Int)} {SA SB SC:Int} {a0 b0 c0:Th} {rowsA rowsB rowsC:List (List Th)}
end
end BB
namespace BB
open PySem L2
section
variable {ins mid outs:List (Str×Int)} {S1 S2:Int} {head1 head2:Th} {rows1 rows2:List (List Th)} {τ1 κ1 η1 ι1 τ2 η2 ι2:Nat}
end
end BB
namespace BB
theorem hid {G:Prop} (k:∀ F:Prop,(G->F)->F):G:=k G id
inductive Ex1 {A0:Type} (p:A0->Prop):Prop
 | mk (x0:A0) (h:p x0):Ex1 p
inductive Ex2 {A0 A1:Type} (p:A0->A1->Prop):Prop
 | mk (x0:A0) (x1:A1) (h:p x0 x1):Ex2 p
inductive Ex3 {A0 A1 A2:Type} (p:A0->A1->A2->Prop):Prop
 | mk (x0:A0) (x1:A1) (x2:A2) (h:p x0 x1 x2):Ex3 p
inductive Ex4 {A0 A1 A2 A3:Type} (p:A0->A1->A2->A3->Prop):Prop
 | mk (x0:A0) (x1:A1) (x2:A2) (x3:A3) (h:p x0 x1 x2 x3):Ex4 p
inductive Ex5 {A0 A1 A2 A3 A4:Type} (p:A0->A1->A2->A3->A4->Prop):Prop
 | mk (x0:A0) (x1:A1) (x2:A2) (x3:A3) (x4:A4) (h:p x0 x1 x2 x3 x4):Ex5 p
inductive Ex6 {A0 A1 A2 A3 A4 A5:Type} (p:A0->A1->A2->A3->A4->A5->Prop):Prop
 | mk (x0:A0) (x1:A1) (x2:A2) (x3:A3) (x4:A4) (x5:A5) (h:p x0 x1 x2 x3 x4 x5):Ex6 p
inductive Ex7 {A0 A1 A2 A3 A4 A5 A6:Type} (p:A0->A1->A2->A3->A4->A5->A6->Prop):Prop
 | mk (x0:A0) (x1:A1) (x2:A2) (x3:A3) (x4:A4) (x5:A5) (x6:A6) (h:p x0 x1 x2 x3 x4 x5 x6):Ex7 p
inductive Ex9 {A0 A1 A2 A3 A4 A5 A6 A7 A8:Type} (p:A0->A1->A2->A3->A4->A5->A6->A7->A8->Prop):Prop
 | mk (x0:A0) (x1:A1) (x2:A2) (x3:A3) (x4:A4) (x5:A5) (x6:A6) (x7:A7) (x8:A8) (h:p x0 x1 x2 x3 x4 x5 x6 x7 x8):Ex9 p
inductive An2 (a0 a1:Prop):Prop
 | mk (h0:a0) (h1:a1):An2 a0 a1
inductive An3 (a0 a1 a2:Prop):Prop
 | mk (h0:a0) (h1:a1) (h2:a2):An3 a0 a1 a2
inductive An4 (a0 a1 a2 a3:Prop):Prop
 | mk (h0:a0) (h1:a1) (h2:a2) (h3:a3):An4 a0 a1 a2 a3
inductive An5 (a0 a1 a2 a3 a4:Prop):Prop
 | mk (h0:a0) (h1:a1) (h2:a2) (h3:a3) (h4:a4):An5 a0 a1 a2 a3 a4
inductive An6 (a0 a1 a2 a3 a4 a5:Prop):Prop
 | mk (h0:a0) (h1:a1) (h2:a2) (h3:a3) (h4:a4) (h5:a5):An6 a0 a1 a2 a3 a4 a5
inductive An7 (a0 a1 a2 a3 a4 a5 a6:Prop):Prop
 | mk (h0:a0) (h1:a1) (h2:a2) (h3:a3) (h4:a4) (h5:a5) (h6:a6):An7 a0 a1 a2 a3 a4 a5 a6
inductive An8 (a0 a1 a2 a3 a4 a5 a6 a7:Prop):Prop
 | mk (h0:a0) (h1:a1) (h2:a2) (h3:a3) (h4:a4) (h5:a5) (h6:a6) (h7:a7):An8 a0 a1 a2 a3 a4 a5 a6 a7
inductive An9 (a0 a1 a2 a3 a4 a5 a6 a7 a8:Prop):Prop
 | mk (h0:a0) (h1:a1) (h2:a2) (h3:a3) (h4:a4) (h5:a5) (h6:a6) (h7:a7) (h8:a8):An9 a0 a1 a2 a3 a4 a5 a6 a7 a8
inductive tG (a0 a1 a2 a3 a4 a5 a6 a7 a8 a9:Prop):Prop
 | mk (h0:a0) (h1:a1) (h2:a2) (h3:a3) (h4:a4) (h5:a5) (h6:a6) (h7:a7) (h8:a8) (h9:a9):tG a0 a1 a2 a3 a4 a5 a6 a7 a8 a9
inductive wu (a0 a1 a2 a3 a4 a5 a6 a7 a8 a9 a10 a11 a12:Prop):Prop
 | mk (h0:a0) (h1:a1) (h2:a2) (h3:a3) (h4:a4) (h5:a5) (h6:a6) (h7:a7) (h8:a8) (h9:a9) (h10:a10) (h11:a11) (h12:a12):wu a0 a1 a2 a3 a4 a5 a6 a7 a8 a9 a10 a11 a12
end BB
namespace L2
open PySem PySem.Spec PyProof.Rows
end L2
namespace BB
open PySem L2
def cx (m:Int):List Th:=(List.range m.toNat).map fun i=>.call 0 (i:Nat)
def bG (ks:List (Str×Int)):List Th:=ks.map fun k=>.knot k.1 (cx k.2)
theorem gK {m c:Int} (h0:0<=c) (h1:c<m):(cx m)[c.toNat]?=some (.call 0 c):=by
 unfold cx;rw [List.getElem?_map,List.getElem?_range (by omega)];show some (Th.call 0 ((c.toNat:Nat):Int))=_;rw [Int.toNat_of_nonneg h0]
theorem dR (m:Int):(cx m).length=m.toNat:=by unfold cx;rw [List.length_map,List.length_range]
theorem dG {ks:List (Str×Int)} {j:Nat} {k:Str×Int} (h:ks[j]?=some k):(bG ks)[j]?=some (.knot k.1 (cx k.2)):=by
 unfold bG;rw [List.getElem?_map,h];rfl
theorem oP {ks:List (Str×Int)} {S C:Int}:∀ {ts:List Th},(∀ t∈ts,t.FitS ks S C)->FitSs ks S C ts
 | [],_=>by rw [FitSs];trivial
 | t::ts,h=>by
   rw [FitSs];exact ⟨h t (List.mem_cons_self ..),oP fun u hu=>h u (List.mem_cons_of_mem _ hu)⟩
theorem pW {ks:List (Str×Int)} {m:Int}:FitSs ks 1 m (cx m):=oP fun t ht=>by
 unfold cx at ht;obtain ⟨i,hi,rfl⟩:=List.mem_map.mp ht;rw [List.mem_range] at hi;rw [Th.FitS];omega
theorem mQ {ks:List (Str×Int)} (g:aT ks):mB ks ks 1 [bG ks]:=by
 refine ⟨rfl,fun row hr=>?_⟩;rw [List.mem_singleton.mp hr];refine ⟨by unfold bG;rw [List.length_map],fun j p k hp hk=>?_⟩;rw [dG hk] at hp;cases hp;have h2:=(g.num k (List.mem_of_getElem? hk)).1;rw [Th.FitS,dR,Int.toNat_of_nonneg h2];exact ⟨List.mem_of_getElem? hk,pW⟩
theorem tL (l:Int):enc 0 l=l:=by unfold enc;omega
theorem xG (s:Int):enc s 0=1000 * s:=by unfold enc;omega
theorem mX {outs:List (Str×Int)} (g:aT outs) {S:Int}:∀ (n:Nat) {C:Int} (t:Th),t.size<=n->t.FitS outs S C->kG (bq outs [bG outs]) t 0=t
 | 0,_,t,hn,_=>by have:=t.size_pos;omega
 | n+1,C,.call l h,_,_=>by rw [ga,tL]
 | n+1,C,.knot nm ts,hn,hf=>by
   rw [Th.FitS] at hf;obtain ⟨j,hj⟩:=List.mem_iff_getElem?.mp hf.1;have hp:bq outs [bG outs] 0 nm=.knot nm (cx (ts.length:Int)):=j6 g (s:=0) (row:=bG outs) rfl hj (dG hj);rw [ja,hp,eO];congr 1;refine List.ext_getElem? fun i=>?_;rw [List.getElem?_map];by_cases hi:i<ts.length
   · have h1:=gK (m:=(ts.length:Int)) (c:=(i:Int)) (by omega) (by omega);rw [Int.toNat_natCast] at h1;have h2:=List.getElem?_eq_getElem hi;rw [h1,h2];have hum:=List.getElem_mem hi;have hsz:=vY hum;rw [Th.size] at hn;show some (made _ _ _)=_;rw [eM (k:=.knot nm ts) (k':=ts[i]) _ (by rw [Int.toNat_natCast];exact h2),mX g n ts[i] (by omega) (FitSs.mem' hf.2 _ hum)]
   · rw [List.getElem?_eq_none (by rw [dR];omega),List.getElem?_eq_none (by omega)];rfl
theorem oV {outs:List (Str×Int)} {S m:Int} {pat:Int->Str->Th} {ks:List Th} (hk:∀ c:Int,0<=c->c<m->ks[c.toNat]?=some (.call 0 c)) {p:Th} (hp:p.FitS outs S m):p.fill (lg (jy pat ks))=ren (fun s=>1000 * s) p:=by
 unfold ren;refine jq p hp fun s c h0 h1 h2 h3=>?_;rw [je,ue (f:=kG pat (.call 0 c)) (by rw [List.getElem?_map,hk c h2 h3];rfl),ga,xG]
mutual
theorem p8:∀ t:Th,ren (fun s=>s) t=t
 | .call s k=>by rw [dg]
 | .knot n ts=>by rw [de,qN ts]
theorem qN:∀ ts:List Th,ts.map (ren fun s=>s)=ts
 | []=>rfl
 | t::ts=>by rw [List.map_cons,p8 t,qN ts]
end
theorem l5 {outs:List (Str×Int)} (go:aT outs) {S C:Int} {t:Th} (h:t.FitS outs S C) (ht:t.tall<=5):Small (ren (fun s=>1000 * s) t):=by
 have hf:(ren (fun s=>1000 * s) t).FitS outs (1000 * S) C:=nZ _ (fun s c h0 h1 h2 h3=>by rw [Th.FitS];dsimp only;omega) t h;have h1:(ren (fun s=>1000 * s) t).tall<=5:=by rw [(iu _ t).2];exact ht
 exact fK go hf (by omega) (Nat.le_trans (iJ _) h1)
section
variable {ins outs:List (Str×Int)} {S:Int} {d:Nat} {head:Th} {rows:List (List Th)}
theorem BookOk.rowAt (ok:BookOk ins outs S d head rows) {l:Int} (h0:0<=l) (h1:l<S):∃ row,rows[l.toNat]?=some row/\rowOf rows l=row/\row.length=ins.length/\∀ t∈row,∃ C,t.FitS outs S C/\t.tall<=d+1:=by
 obtain ⟨row,hr,e,hl,_⟩:=f8 ok.fitB h0 h1;refine ⟨row,hr,e,hl,fun t ht=>?_⟩;obtain ⟨j,hj⟩:=List.mem_iff_getElem?.mp ht;have hjl:=(List.getElem?_eq_some_iff.mp hj).1;exact ⟨_,(ok.row row (List.mem_of_getElem? hr)).fit j t _ hj (List.getElem?_eq_getElem (by omega))⟩
theorem BookOk.metR_rng (ok:BookOk ins outs S d head rows):∀ s∈bd (rowOf rows) head,0<=s/\s<S:=by
 have hh:∀ s∈stT head,0<=s/\s<S:=ix ok.hdf;refine nJ _ (fun s=>0<=s/\s<S) (fun s hs x hx=>?_) _ _ _ fun x hx=>(bj.mp hx).elim (fun z=>by cases z) (hh x);obtain ⟨row,_,e,_,hf⟩:=ok.rowAt hs.1 hs.2;rw [e] at hx;obtain ⟨t,ht,hx⟩:=List.mem_flatMap.mp hx;obtain ⟨C,hC,_⟩:=hf t ht;exact ix hC x hx
theorem qL (go:aT outs) (ok:BookOk ins outs S d head rows):joH outs [bG outs] (.call 0 0) head=head:=by
 unfold joH;rw [fU];exact mX go _ head (Nat.le_refl _) ok.hdf
theorem kh (gi:aT ins) (go:aT outs) (ok:BookOk ins outs S d head rows) (hd:d<=4) (hS:S<=20):JoinOk ins outs outs S 1 head (.call 0 0) rows [bG outs]:=by
 refine ⟨go,gi.le,ok.fitB,mQ go,ok.hdf,fR (by decide) (by decide),by omega,by omega,?_,fun l st h0 h1 g0 g1 t ht=>?_⟩
 · rw [qL go ok];have:=ok.hdt;exact fK go ok.hdf (by omega) (by have:=iJ head;omega)
 · obtain ⟨row,_,e,_,hf⟩:=ok.rowAt h0 h1;rw [e] at ht;obtain ⟨C,hC,ht2⟩:=hf t ht;obtain rfl:st=0:=by omega
   rw [fU,mX go _ t (Nat.le_refl _) hC];exact fK go hC (by omega) (by have:=iJ t;omega)
theorem tS (gi:aT ins) (go:aT outs) (ok:BookOk ins outs S d head rows) (hd:d<=4) (hS:S<=20):sw (joR outs [bG outs] rows) (joH outs [bG outs] (.call 0 0) head)=dS head rows/\rT (joR outs [bG outs] rows) (joH outs [bG outs] (.call 0 0) head)=eL head rows:=by
 refine qw (R:=rowOf rows) (h:=head) (g:=fun s=>s) (kh gi go ok hd hS).len (fun x _ y _ e=>e) (fun s hs=>?_) (by rw [qL go ok,p8]);obtain ⟨h0,h1⟩:=ok.metR_rng s hs;have e1:s%1000=s:=by omega
 have e2:s / 1000=0:=by omega
 unfold joR;rw [e1,e2];obtain ⟨row,_,e,_,hf⟩:=ok.rowAt h0 h1;rw [e];refine List.map_congr_left fun t ht=>?_;obtain ⟨C,hC,_⟩:=hf t ht;rw [fU,mX go _ t (Nat.le_refl _) hC,p8]
theorem qQ (ok:BookOk ins outs S d head rows):joH ins rows head (.call 0 0)=ren (fun s=>1000 * s) head:=by
 unfold joH made;refine oV (fun c h0 h1=>?_) ok.hdf;obtain rfl:c=0:=by omega
 rfl
theorem qk (ok:BookOk ins outs S d head rows) (gi:aT ins) {s:Int} (h0:0<=s) (h1:s<S) {j:Nat} {k:Str×Int} (hk:ins[j]?=some k):∃ t,(rowOf rows s)[j]?=some t/\t.FitS outs S k.2/\t.tall<=d+1/\kG (bq ins rows) (.knot k.1 (cx k.2)) s=ren (fun s=>1000 * s) t:=by
 obtain ⟨row,hr,e,hl,_⟩:=ok.rowAt h0 h1;have hjl:j<row.length:=by rw [hl];exact (List.getElem?_eq_some_iff.mp hk).1
 have hj:=List.getElem?_eq_getElem hjl;obtain ⟨f1,f2⟩:=(ok.row row (List.mem_of_getElem? hr)).fit j _ k hj hk;refine ⟨row[j],by rw [e];exact hj,f1,f2,?_⟩;rw [ja,j6 gi hr (m:=k.2) hk hj];exact oV (fun c a b=>gK a b) f1
theorem lz (gi:aT ins) (go:aT outs) (ok:BookOk ins outs S d head rows) (hd:d<=4) (hS:S<=20):JoinOk ins ins outs 1 S (.call 0 0) head [bG ins] rows:=by
 refine ⟨gi,gi.le,mQ gi,ok.fitB,fR (by decide) (by decide),ok.hdf,by decide,by omega,?_,fun l st h0 h1 g0 g1 t ht=>?_⟩
 · rw [qQ ok];have:=ok.hdt;exact l5 go ok.hdf (by omega)
 · obtain rfl:l=0:=by omega
   obtain ⟨j,hj⟩:=List.mem_iff_getElem?.mp (show t∈bG ins from ht);have hjl:j<ins.length:=by have:=(List.getElem?_eq_some_iff.mp hj).1;unfold bG at this;rwa [List.length_map] at this
   have hk:=List.getElem?_eq_getElem hjl;rw [dG hk] at hj;cases hj;obtain ⟨u,_,hu,ht2,e⟩:=qk ok gi g0 g1 hk;rw [fU,e];exact l5 go hu (by omega)
theorem tz (gi:aT ins) (go:aT outs) (ok:BookOk ins outs S d head rows) (hd:d<=4) (hS:S<=20):sw (joR ins rows [bG ins]) (joH ins rows head (.call 0 0))=dS head rows/\rT (joR ins rows [bG ins]) (joH ins rows head (.call 0 0))=eL head rows:=by
 refine qw (R:=rowOf rows) (h:=head) (g:=fun s=>1000 * s) (lz gi go ok hd hS).len (fun x _ y _ e=>by omega) (fun s hs=>?_) (qQ ok);obtain ⟨h0,h1⟩:=ok.metR_rng s hs;have e1:1000 * s%1000=0:=by omega
 have e2:1000 * s / 1000=s:=by omega
 unfold joR;rw [e1,e2];obtain ⟨row,_,e,hl,_⟩:=ok.rowAt h0 h1;refine List.ext_getElem? fun j=>?_;rw [List.getElem?_map,List.getElem?_map];show ((bG ins)[j]?).map _=_;by_cases hj:j<ins.length
 · have hk:=List.getElem?_eq_getElem hj;obtain ⟨u,hu,_,_,eu⟩:=qk ok gi h0 h1 hk;rw [dG hk,hu];show some (made _ _ _)=some _;rw [fU,eu]
 · rw [List.getElem?_eq_none (by unfold bG;rw [List.length_map];omega),List.getElem?_eq_none (by rw [e];omega)];rfl
end
end BB
namespace L2
open PySem PySem.Spec PyProof.Rows
theorem pA {P:Program} {w:World} {K:PySem.W.Frag} {mg mb:Str->Option Value} {CX:CXT} {k:Nat} {fa a:Addr} {cts:List (Addr×Addr)} {fd:FuncData} {x:Str} {sp:Sp} {s₁:Shared} {vs:List Value} {ns:List Int}
 (KX:K.In s₁.heap) (hns:s₁.heap.Ns mainGlobals mg) (hb:s₁.heap.Ns builtinsNs mb) (hbb:∀ x:Str,x≠"__name__"->mb x=bootBuiltins x) (hlim:s₁.heap.NoLimit) (hg:s₁.gens=#[])
 (ha:s₁.heap.get? a=some { cls:=.type "list",data:=.seq vs.toArray }) (hi:IntsAre vs ns) (hl:ns.length<=sizeLine) (hr:Room k callerA)
 (hC:∀ p∈cts,PySem.W.CodeHd s₁.heap p.1 p.2) (hT:∀ p∈cts,s₁.heap.get? p.2=some (PySem.W.tabObj #[])) (hbl:∀ p∈cts,s₁.heap.BuiltinsAt mg p.2) (hKT:∀ p∈cts,K.lookup p.2=none)
 (F:∀ base:Heap,K.In base->base.Ns mainGlobals mg->(∀ p∈cts,Lam mg base p.1 p.2)->FnOk P w K mg base CX k fa fd [x] sp) (hbind:∀ (s:Shared) (u:Value),BindsTo s fd ⟨[u],[]⟩ [(x,u)])
 (hsp:∀ H:Hp,SqL K H a (ns.map V.int)->(∀ p∈cts,H p.2=some (.tbl #[]))->sp [.ref a] H (fun v _=>v=.bl true) fun _ _ _=>False)
 (hCX:∀ H e s',CX [] H s₁ (fun _ _ _=>False) e s'->False) :
 codeAny (model P w) callerA (.call (.ref fa) ⟨[.ref a],[]⟩) (fun r s'=>r=.ok (.ret (.bool true))/\OldK s₁.heap s'.heap/\s'.os=s₁.os/\AllBare s'.gens) s₁:=by
 have rv:=lP hi;have lenV:=hi.length;have mT:∀ {b:Addr},b∈cts.map (·.2)->∃ p∈cts,p.2=b:=fun h=>List.mem_map.mp h;have hT':∀ {b:Addr},b∈cts.map (·.2)->s₁.heap.get? b=some (PySem.W.tabObj #[]):=fun h=>by obtain ⟨p,hp,rfl⟩:=mT h;exact hT p hp
 have haT:a∉cts.map (·.2):=fun z=>by rw [hT' z] at ha;cases ha
 have core:∀ H:Hp,(∀ b,H b=none∨(∃ o xs,H b=some (.frz o (.lst xs)))∨(b∈cts.map (·.2)/\H b=some (.tbl #[])))->(∀ p∈cts,H p.2=some (.tbl #[]))->SqL K H a (ns.map V.int)->HOk P w H s₁.heap->(∀ b,H b≠none->b=a∨b∈cts.map (·.2))->(H a≠none->K.lookup a=none) →
  codeAny (model P w) callerA (.call (.ref fa) ⟨[.ref a],[]⟩) (fun r s'=>r=.ok (.ret (.bool true))/\OldK s₁.heap s'.heap/\s'.os=s₁.os/\AllBare s'.gens) s₁:=by
  intro H hO hHT hS hok hA hK;have base_of:∀ {b:Addr} {o:Obj},s₁.heap.get? b=some o->H b=none->(lH s₁.heap H).get? b=some o:=fun e n=>tW e n
  have noH:∀ {b:Addr} {o:Obj},s₁.heap.get? b=some o->(∀ xs n,o.data≠.seq xs n)->(∀ xs,o.data≠.fields xs∨o.cls≠.none)->H b=none:=fun {b o} e d1 d2=>by
   cases q:H b with
   | none=>rfl
   | some u =>
     rcases hA b (by rw [q];simp) with e' | e'
     · subst e';rw [ha] at e;cases e;exact absurd rfl (d1 _ _)
     · rw [hT' e'] at e;cases e;rcases d2 #[] with z | z
       · exact absurd rfl z
       · exact absurd rfl z
  have nsK:∀ {b:Addr} {m:Str->Option Value},s₁.heap.Ns b m->(lH s₁.heap H).Ns b m:=fun {b m} ⟨o,es,ep,e,d,r⟩=>⟨o,es,ep,base_of e (noH e (fun xs n=>by rw [d];exact fun z=>nomatch z) (fun xs=>.inl (by rw [d];exact fun z=>nomatch z))),d,r⟩
  have hKb:K.In (lH s₁.heap H):=fun b o e=>base_of (KX b o e) (by
   cases q:H b with
   | none=>rfl
   | some u =>
     rcases hA b (by rw [q];simp) with e' | e'
     · subst e';rw [hK (by rw [q];simp)] at e;cases e
     · obtain ⟨p,hp,rfl⟩:=mT e';rw [hKT p hp] at e;cases e)
  have hM:Mod K mg (lH s₁.heap H):=⟨hKb,nsK hns,⟨mb,nsK hb,hbb⟩,let ⟨mc,h1,h2⟩:=hlim;⟨mc,nsK h1,h2⟩⟩
  have hL:∀ p∈cts,Lam mg (lH s₁.heap H) p.1 p.2:=fun p hp=>by
   refine ⟨?_,?_⟩
   · obtain ⟨o,vs',file,tf,flags,tg,inF,text,tt,e1,r1,r2,r3⟩:=hC p hp;exact ⟨o,vs',file,tf,flags,tg,inF,text,tt,base_of e1 (noH e1 (fun xs n=>by rw [r2];exact fun z=>nomatch z) (fun xs=>.inr (by rw [r1];exact fun z=>nomatch z))),r1,r2,r3⟩
   · obtain ⟨bm,o,h1,h2,h3,h4,h5,h6,h7,h8⟩:=hbl p hp;exact ⟨bm,o,h1,h2,h3,h4,base_of h5 (noH h5 (fun xs n=>by rw [h8];exact fun z=>nomatch z) (fun xs=>.inl (by rw [h8];exact fun z=>nomatch z))),h6,h7,h8⟩
  have e0:Env0 P w K mg (lH s₁.heap H) callerA [] s₁ H:=⟨rfl,hM,fun b o e=>uy e,Nat.le_of_eq (rm _ _),trivial,fun b hb=>absurd (show b∈([]:List Addr) from hb) (by simp),hok,.of_eq hg⟩;refine codeAny_mono ((F _ hKb (nsK hns) hL).run callerA [] s₁ H ⟨[.ref a],[]⟩ [.ref a] [.ref a] _ _ hr e0 (hbind s₁ (.ref a)) (.cons rfl .nil) (hsp H hS hHT)) fun r s' h=>?_;cases r with
  | error e=>exact (hCX H e s' h).elim
  | ok fl =>
    cases fl with
    | next=>exact False.elim h
    | brk=>exact False.elim h
    | cont=>exact False.elim h
    | ret u =>
      obtain ⟨v,H',os,bare,un,hok',r',q⟩:=h;have q':v=.bl true:=q;subst q';obtain rfl:u=Value.bool true:=r';refine ⟨rfl,⟨fun b o e=>?_,fun b o e=>un.there b o e (by simp)⟩,os,bare⟩;cases q:H b with
      | none=>exact .inl (un.keep b o e q (by intro z;exact absurd (show b∈([]:List Addr) from z) (by simp)) (by simp))
      | some u =>
        rcases hO b with z | ⟨ob,xs,z⟩ | ⟨hbT,z⟩
        · rw [q] at z;cases z
        · have z2:=un.frzs b ob _ z;obtain ⟨e1,_⟩:=hok b _ z;obtain ⟨e2,_⟩:=hok' b _ z2;rw [e] at e1;cases e1;exact .inl e2
        · obtain ⟨more,z2⟩:=un.tbls b _ z;have e2:s'.heap.get? b=some { cls:=.none,data:=.fields (#[]++more) }:=hok' b _ z2;obtain ⟨p,hp,rfl⟩:=mT hbT;rw [hT p hp] at e;cases e;exact .inr (.inl ⟨((hC p hp).tab (hT p hp)).isCodeTable,rfl,#[],more,rfl,e2⟩)
 have okT:∀ (H:Hp) (b:Addr),b∈cts.map (·.2)->ObjOk P w H s₁.heap b (.tbl #[]):=fun _ b hb=>hT' hb;cases hk:K.lookup a with
 | some o =>
   have e:=KX a o hk;rw [ha] at e;cases e;refine core (fun b=>if b∈cts.map (·.2) then some (.tbl #[]) else none) (fun b=>?_) (fun p hp=>if_pos (List.mem_map.mpr ⟨p,hp,rfl⟩)) (.inr ⟨_,vs.toArray,_,hk,rfl,rfl,rfl,by rw [List.size_toArray,lenV];exact hl,by simpa using rv⟩) (fun b u z=>?_) (fun b z=>?_) fun z=>absurd (if_neg haT) z
   · by_cases hb:b∈cts.map (·.2)
     · exact .inr (.inr ⟨hb,if_pos hb⟩)
     · exact .inl (if_neg hb)
   · by_cases hb:b∈cts.map (·.2)
     · have z':=(if_pos hb).symm.trans z;cases z';exact okT _ _ hb
     · have z':=(if_neg hb).symm.trans z;cases z'
   · by_cases hb:b∈cts.map (·.2)
     · exact .inr hb
     · exact absurd (if_neg hb) z
 | none =>
   refine core (fun b=>if b∈cts.map (·.2) then some (.tbl #[]) else if b=a then some (.frz { cls:=.type "list",data:=.seq vs.toArray } (.lst (ns.map V.int))) else none) (fun b=>?_) (fun p hp=>if_pos (List.mem_map.mpr ⟨p,hp,rfl⟩)) (.inl (.inr ⟨{ cls:=.type "list",data:=.seq vs.toArray },(if_neg haT).trans (if_pos rfl)⟩)) (fun b u z=>?_) (fun b z=>?_) fun _=>hk
   · by_cases hb:b∈cts.map (·.2)
     · exact .inr (.inr ⟨hb,if_pos hb⟩)
     · by_cases hb':b=a
       · exact .inr (.inl ⟨_,_,(if_neg hb).trans (if_pos hb')⟩)
       · exact .inl ((if_neg hb).trans (if_neg hb'))
   · by_cases hb:b∈cts.map (·.2)
     · have z':=(if_pos hb).symm.trans z;cases z';exact okT _ _ hb
     · have z':=(if_neg hb).symm.trans z;by_cases hb':b=a
       · have z2:=(if_pos hb').symm.trans z';cases z2;subst hb';exact ⟨ha,by rw [List.length_map];exact hl,vs,_,rv,ha⟩
       · have z2:=(if_neg hb').symm.trans z';cases z2
   · by_cases hb:b∈cts.map (·.2)
     · exact .inr hb
     · by_cases hb':b=a
       · exact .inl hb'
       · exact absurd ((if_neg hb).trans (if_neg hb')) z
theorem qY {l:PySem.W.OpenLaw} {n k:Nat} {q:Program} {loose:List Str} {XP:(Str->Option Value)->Heap->Prop} {YP:World->Heap->Prop} {d:DefRec} {K:Params->PySem.W.Frag} {CX:World->CXT} {sp:World->List (Addr×Addr)->Sp} {x:Str} {tns:List Str}
 (hn:l.most=some n) (hn2:n<=sizeLine) (hdf:d.params.defaults=[]) (hr:Room k callerA) (hq:∀ t∈tns,∃ dt,(recsOf q).find? (fun e=>e.name == t)=some dt)
 (hY:∀ (w:World) (h:Heap),YP w h->(K w.params).In h)
 (F:∀ (w:World) (mg:Str->Option Value) (fa:Addr) (h:Heap),(K w.params).In h->h.Ns mainGlobals mg->mg d.name=some (.ref fa) →
  ∃ (fd:FuncData) (cts:List (Addr×Addr)),(∀ (s:Shared) (u:Value),BindsTo s fd ⟨[u],[]⟩ [(x,u)])/\(∀ p∈cts,(∃ t∈tns,PySem.W.tabIn (K w.params) t=some p)/\(K w.params).lookup p.2=none) ∧
    ∀ base:Heap,(K w.params).In base->base.Ns mainGlobals mg->(∀ p∈cts,Lam mg base p.1 p.2)->FnOk l.prog w (K w.params) mg base (CX w) k fa fd [x] (sp w cts))
 (hsp:∀ (w:World) (cts:List (Addr×Addr)) (H:Hp) (a:Addr) (ns:List Int),ns.length<=n->SqL (K w.params) H a (ns.map V.int)->(∀ p∈cts,H p.2=some (.tbl #[]))->sp w cts [.ref a] H (fun v _=>v=.bl true) fun _ _ _=>False)
 (hCX:∀ (w:World) (H:Hp) (s:Shared) (e:Value) (s':Shared),CX w [] H s (fun _ _ _=>False) e s'->False) :
 PySem.W.WalkO q loose XP YP l.row.toRowW d [] (fun f vs=>PySem.call f vs):=by
 refine Att.attach_call hn hdf fun w s₀ s₁ mg mb fa o pm cd doc a vs ns G Y ho hd hcd hmg hobj hints hlen hg=>?_;have KX:=hY w _ Y;obtain ⟨fd,cts,hb,ht,hF⟩:=F w mg fa _ KX G.T.g hmg
 have hCT:∀ p∈cts,PySem.W.CodeHd s₁.heap p.1 p.2/\s₁.heap.get? p.2=some (PySem.W.tabObj #[]):=fun p hp=>by
  obtain ⟨⟨t,ht1,ht2⟩,_⟩:=ht p hp;obtain ⟨dt,hdt⟩:=hq t ht1;exact PySem.W.tab_of G.T KX hdt ht2
 have hbl:∀ p∈cts,s₁.heap.BuiltinsAt mg p.2:=fun p hp=>by
  obtain ⟨bm,ob,b1,b2,b3,b4,b5,b6⟩:=G.T.bmain;refine ⟨bm,ob,b1,b2,fun z=>?_,fun z=>?_,b3,b4,b5,b6⟩
  · obtain ⟨o',es,ep,e,d',_⟩:=G.T.g;rw [z,e] at b3;cases b3;rw [d'] at b6;cases b6
  · rw [z,(hCT p hp).2] at b3;cases b3;cases b4
 exact pA KX G.T.g G.T.b G.T.builtins G.T.nolimit hg hobj hints (Nat.le_trans hlen hn2) hr (fun p hp=>(hCT p hp).1) (fun p hp=>(hCT p hp).2) hbl (fun p hp=>(ht p hp).2) hF hb (fun H hS hHT=>hsp w cts H a ns hlen hS hHT) fun H e s'=>hCX w H s₁ e s'
end L2
namespace HD
open PySem PySem.W PySem.Calls PyProof.Rows
def jT (tb:String->Option Builtin) (p:Program) (w:World) (m:Nat) (ann:Option Value):Nat->SharedT->Thread->Option SharedT
 | 0,_,_=>none
 | n+1,s,t=>match through t with
   | true=>some s
   | false=>match stepOk m ann t with
     | false=>none
     | true=>match stepT (denote tb) p w s t with
       | some (s',t')=>jT tb p w m ann n s' t'
       | none=>none
theorem j9 {tb:String->Option Builtin} {p:Program} {w:World} {m:Nat} {ann:Option Value}:∀ {n:Nat} {s s':SharedT} {t:Thread},jT tb p w m ann n s t=some s'->topRun tb p w m ann n s.abs t=some s'.abs
 | 0,_,_,_,h=>by cases h
 | n+1,s,s',t,h=>by
   unfold jT at h;unfold topRun;cases he:through t with
   | true=>rw [he] at h;cases h;rfl
   | false =>
     rw [he] at h;cases hk:stepOk m ann t with
     | false=>rw [hk] at h;cases h
     | true =>
       rw [hk] at h;cases hs:stepT (denote tb) p w s t with
       | none=>rw [hs] at h;cases h
       | some r =>
         obtain ⟨s2,t2⟩:=r;rw [hs] at h;rw [stepT_spec hs];exact j9 h
def sr:List Obj->Nat->BT->BT
 | [],_,t=>t
 | o::l,n,t=>sr l (n+1) (t.ins n o)
def uU:List Obj->Nat->BT->Bool
 | [],_,_=>true
 | o::l,n,t=>((t.ins n o).get n).isSome && uU l (n+1) (t.ins n o)
theorem l6:∀ (l:List Obj) (n:Nat) (t:BT),uU l n t=true->(sr l n t).list (n+l.length)=t.list n++l
 | [],n,t,_=>by rw [List.append_nil];rfl
 | o::l,n,t,h=>by
   obtain ⟨h1,h2⟩:=Bool.and_eq_true_iff.mp h;have e:=absHeap_ins (life:=default) h1
   have e2:(t.ins n o).list (n+1)=t.list n++[o]:=by
    have:=congrArg (fun x:Heap=>x.objs.toList) e;simpa [absHeap,Heap.push] using this
   have ih:=l6 l (n+1) (t.ins n o) h2;rw [e2,List.append_assoc] at ih;rw [List.length_cons,show n+(l.length+1)=n+1+l.length by omega];exact ih
theorem wJ {h:Heap} (ok:uU h.objs.toList 0 .nil=true):absHeap (sr h.objs.toList 0 .nil) h.objs.size h.life=h:=by
 have e:=l6 _ _ _ ok;rw [Nat.zero_add] at e;unfold absHeap;rw [<- Array.length_toList,e];rfl
noncomputable abbrev p9 (p:Program) (N:Nat) (w:World) (os:OsState):Option SharedT :=
 jT treeTable p w 11 (some (.ref 6)) N ⟨sr (boot_heap w.params).objs.toList 0 .nil,11,(boot_heap w.params).life,Array.mk [],boot_drawn,boot_toks,os⟩ (topStub p)
theorem uq (P:Params):(uU (boot_heap P).objs.toList 0 .nil,(boot_heap P).isNs mainGlobals,(boot_heap P).objs.size,(boot_heap P).nsMap mainGlobals "__annotations__")=(true,true,11,some (.ref 6)):=by kernel_rfl
theorem map_some {α β:Type} {o:Option α} {a:α} {f:α->β} {b:β} (h:o=some a) (e:o.map f=some b):f a=b:=by rw [h] at e;exact Option.some.inj e
abbrev Tr0 (p q:Program) (loose:List Str) (Xt:Shared->Bool) (N:Nat) (g0:Bool):Prop:=∀ (w:World) (os:OsState),((p9 p N w os).map fun s=>(staticsOk (importedModules p.main.body) (boot_heap w.params) s.abs.heap && namesBound p s.abs.heap && gensDone s.abs && laidKept (boot_heap w.params) s.abs.heap,s.abs.heap.bltView,pinSeenD q (drecsOf q) s.abs,plainSeenD q loose s.abs,clsSeenW q loose s.abs,(s.abs.heap.accountedOkI (importedModules p.main.body),s.abs.heap.isNs mainGlobals,s.abs.heap.isNs builtinsNs,tablesOk q s.abs.heap,Xt s.abs,(if g0 then s.abs.gens.size == 0 else !leftWithCleanup s.abs.gens))))=some (true,bltViewBooted,pinGoodD (drecsOf q),plainGoodD q loose,clsGoodW q loose,(true,true,true,true,true,true))
abbrev Tr1 (p q:Program) (N:Nat):Prop:=∀ (w:World) (os:OsState),((p9 p N w os).map fun s=>seen ((recsOf q).map (·.name)) (ownsOf q) [] { s.abs with gens:=#[] })=some (expectedOf q)
abbrev Tr2 (p q:Program) (loose:List Str) (N:Nat):Prop:=∀ (w:World) (os:OsState),((p9 p N w os).map fun s=>s.abs.heap.keysOk (looseW q loose) ((recsOf q).map (·.name)) ((litsOf q).map (·.1)) ((clssOf q (looseW q loose)).map (·.name)))=some true
abbrev Tr3 (p q:Program) (N:Nat):Prop:=∀ (w:World) (os:OsState),((p9 p N w os).map fun s=>tabsOk q s.abs)=some true
abbrev Tr4 (p q:Program) (loose:List Str) (N:Nat):Prop:=∀ (w:World) (os:OsState),((p9 p N w os).map fun s=>plainSeenE q (looseW q loose) s.abs)=some (plainGoodE q (looseW q loose))
abbrev Tr5 (p q:Program) (N:Nat):Prop:=∀ (w:World) (os:OsState),((p9 p N w os).map fun s=>wideSeen q s.abs)=some (wideGood q)
theorem rq {p q:Program} {loose:List Str} {Xt:Shared->Bool} {α:Type} {Yf:Shared->α} {Ya:World->α} {N:Nat} {g0:Bool}
 (e:opening p=plainProg p.main.scope.names) (hN:Nat.ble 600 N=true) (f:∀ s,fenceModules? p s=some s)
 (r0:Tr0 p q loose Xt N g0)
 (r1:Tr1 p q N)
 (r2:Tr2 p q loose N)
 (r3:Tr3 p q N)
 (r4:Tr4 p q loose N)
 (r5:Tr5 p q N)
 (rY:∀ (w:World) (os:OsState),((p9 p N w os).map fun s=>Yf s.abs)=some (Ya w)) :
 LeftO p q loose Xt Yf Ya N g0:=fun w=>by
 obtain ⟨⟨h,gs,d,k,os⟩,e1,e'⟩:=Option.map_eq_some_iff.mp (boot_open e hN f w);obtain ⟨rfl,rfl,rfl,rfl⟩:h=boot_heap w.params/\gs=Array.mk []/\d=boot_drawn/\k=boot_toks:=by simpa using e'
 have okw:=uq w.params;have z0:=congrArg Prod.fst okw;have z1:=congrArg (fun x=>x.2.1) okw;have z2:=congrArg (fun x=>x.2.2.1) okw;have z3:=congrArg (fun x=>x.2.2.2) okw;dsimp only at z0 z1 z2 z3;obtain ⟨s1,r1',hY⟩:=Option.map_eq_some_iff.mp (rY w os);have q0:=map_some r1' (r0 w os);have q1:=map_some r1' (r1 w os);have q2:=map_some r1' (r2 w os);have q3:=map_some r1' (r3 w os);have q4:=map_some r1' (r4 w os);have q5:=map_some r1' (r5 w os);have rr:=j9 r1'
 have habs:SharedT.abs ⟨sr (boot_heap w.params).objs.toList 0 .nil,11,(boot_heap w.params).life,Array.mk [],boot_drawn,boot_toks,os⟩=⟨boot_heap w.params,Array.mk [],boot_drawn,boot_toks,os⟩:=by
  unfold SharedT.abs;dsimp only;rw [<- z2,wJ z0]
 rw [habs] at rr;have a0:=congrArg Prod.fst q0;have a1:=congrArg (fun x=>x.2.1) q0;have a2:=congrArg (fun x=>x.2.2.1) q0;have a3:=congrArg (fun x=>x.2.2.2.1) q0;have a4:=congrArg (fun x=>x.2.2.2.2.1) q0;have b0:=congrArg (fun x=>x.2.2.2.2.2.1) q0;have b1:=congrArg (fun x=>x.2.2.2.2.2.2.1) q0;have b2:=congrArg (fun x=>x.2.2.2.2.2.2.2.1) q0;have b3:=congrArg (fun x=>x.2.2.2.2.2.2.2.2.1) q0;have b4:=congrArg (fun x=>x.2.2.2.2.2.2.2.2.2.1) q0;have b5:=congrArg (fun x=>x.2.2.2.2.2.2.2.2.2.2) q0;dsimp only at a0 a1 a2 a3 a4 b0 b1 b2 b3 b4 b5
 have l2:openSeen q loose (importedModules p.main.body) Xt g0 s1.abs=openGood q loose:=by
  unfold openSeen openGood;rw [q1,a1,q2,b0,b1,b2,b3,b4,b5,q3,a2,q4,a3,q5,a4];rfl
 have t:topFrom treeTable p w N ⟨boot_heap w.params,Array.mk [],boot_drawn,boot_toks,os⟩=some s1.abs:=by
  unfold topFrom;dsimp only;rw [z1,z2,z3,rr];show (match staticsOk (importedModules p.main.body) (boot_heap w.params) s1.abs.heap && namesBound p s1.abs.heap && gensDone s1.abs && laidKept (boot_heap w.params) s1.abs.heap with | true=>_ | false=>_)=_;rw [a0]
 unfold openEnds;rw [e1];show (topFrom treeTable p w N _).map _=_;rw [t];exact congrArg some (Prod.ext l2 hY)
end HD
namespace LAW
open PySem L2 BB
def top (i:Nat):Stmt:=PySem.Challenge.pw_boughbook_k41_beside_the_same_book.main.body.getD i (.Pass ⟨0,0,0,0⟩)
theorem scm {N P:List Str} {sc:Scope} (a:sc.kind=.function:=by rfl) (b:sc.isCoroutine=false:=by rfl) (c:sc.isGenerator=false:=by rfl) (d:N.Nodup:=by decide +kernel) (e:N.take P.length=P:=by rfl) (f:∀ x∈P,sc.names.lookup x=some .local∨sc.names.lookup x=some .cell:=by decide +kernel) (g:∀ y∈sc.names,y.2≠.free:=by decide +kernel):aq N P sc:=⟨a,b,c,d,e,f,g⟩
abbrev fT:Stmt:=top 12
theorem nk:aq ["thing"] ["thing"] (aj fT):=scm
abbrev gP:Stmt:=top 13
theorem oX:aq ["number","bound"] ["number","bound"] (aj gP):=scm
abbrev iP:Stmt:=top 14
theorem pw:aq ["thing"] ["thing"] (aj iP):=scm
abbrev i8:Stmt:=top 15
theorem qc:aq ["pair"] ["pair"] (aj i8):=scm
abbrev fB:Stmt:=top 16
theorem io:aq ["kinds","names"] ["kinds"] (aj fB):=scm
abbrev gM:Stmt:=top 17
theorem ju:aq ["pairs","kinds"] ["pairs"] (aj gM):=scm
abbrev iV:Stmt:=top 18
theorem g8:aq ["kinds","name","kind","many"] ["kinds","name"] (aj iV):=scm
abbrev jf:Stmt:=top 19
theorem pD:aq ["thing"] ["thing"] (aj jf):=scm
abbrev j2:Stmt:=top 20
theorem f7:aq ["thing","met","ahead","part"] ["thing"] (aj j2):=scm
abbrev mC:Stmt:=top 21
theorem ij:aq ["tops","done","top","many"] ["tops"] (aj mC):=scm
abbrev jl:Stmt:=top 23
theorem ph:aq ["thing"] ["thing"] (aj jl):=scm
abbrev fG:Stmt:=top 24
theorem mN:aq ["call"] ["call"] (aj fG):=scm
abbrev d5:Stmt:=top 25
theorem fq:aq ["kinds","pattern","states","kids","part"] ["kinds","pattern","states","kids"] (aj d5):=scm
abbrev fA:Stmt:=top 26
theorem mJ:aq ["pattern"] ["pattern"] (aj fA):=scm
abbrev lA:Stmt:=top 27
theorem lN:aq ["part","many"] ["part"] (aj lA):=scm
abbrev kN:Stmt:=top 28
theorem dE:aq ["pattern","table","tops","part"] ["pattern","table"] (aj kN):=scm
abbrev gX:Stmt:=top 29
theorem bM:aq ["pattern","names","table","state","kid"] ["pattern","names"] (aj gX):=scm
abbrev bK:Stmt:=inClass (top 35) 0
theorem jO:aq ["self"] ["self"] (aj bK):=scm
abbrev bx:Stmt:=inClass (top 35) 1
theorem iX:aq ["self","part","row"] ["self","part","row"] (aj bx):=scm
abbrev g7:Stmt:=top 36
theorem db:aq ["pattern","measure","ahead","part","row"] ["pattern"] (aj g7):=scm
abbrev dk:Stmt:=top 37
theorem i4:aq ["outs","pattern","states","kids"] ["outs","pattern","states","kids"] (aj dk):=scm
abbrev eE:Stmt:=top 38
theorem d6:aq ["ins","outs","patterns","states","kind","pattern"] ["ins","outs","patterns","states"] (aj eE):=scm
abbrev fO:Stmt:=top 39
theorem cE:aq ["ins","outs","head","rules","taken","given","rows","patterns"] ["ins","outs","head","rules"] (aj fO):=scm
abbrev kT:Stmt:=top 40
theorem rs:aq ["book"] ["book"] (aj kT):=scm
abbrev i7:Stmt:=top 41
theorem qb:aq ["book"] ["book"] (aj i7):=scm
abbrev jn:Stmt:=top 42
theorem pG:aq ["book"] ["book"] (aj jn):=scm
abbrev gL:Stmt:=top 43
theorem oR:aq ["book"] ["book"] (aj gL):=scm
abbrev eZ:Stmt:=top 44
theorem gf:aq ["book","state","name","names"] ["book","state","name"] (aj eZ):=scm
abbrev i9:Stmt:=top 46
theorem cL:aq ["pattern","numbers","thing","kid"] ["pattern","numbers"] (aj i9):=scm
abbrev gN:Stmt:=top 47
theorem bp:aq ["ins","outs","head","patterns_of","numbers","fresh_head","rules","thing"] ["ins","outs","head","patterns_of"] (aj gN):=scm
abbrev mS:Stmt:=top 49
theorem sW:aq ["tree"] ["tree"] (aj mS):=scm
abbrev iY:Stmt:=top 50
theorem pL:aq ["state"] ["state"] (aj iY):=scm
abbrev fv:Stmt:=top 52
theorem nF:aq ["name","many"] ["name","many"] (aj fv):=scm
abbrev fC:Stmt:=top 53
theorem nM:aq ["kinds"] ["kinds"] (aj fC):=scm
abbrev gU:Stmt:=top 54
theorem b8:aq ["second","part","knot","state","kid","lower","handed"] ["second","part","knot"] (aj gU):=scm
abbrev gI:Stmt:=top 55
theorem bB:aq ["second","head","pattern","tops","measure","ahead","part","knot","row"] ["second","head","pattern"] (aj gI):=scm
abbrev cD:Stmt:=top 56
theorem jj:aq ["first","second","patterns_of","head"] ["first","second"] (aj cD):=scm
abbrev cf:Stmt:=top 57
theorem qa:aq ["book"] ["book"] (aj cf):=scm
abbrev fQ:Stmt:=top 59
theorem nE:aq ["script","k"] ["script","k"] (aj fQ):=scm
abbrev fE:Stmt:=top 60
theorem fj:aq ["cell","k","near"] ["cell","k"] (aj fE):=scm
abbrev eX:Stmt:=top 61
theorem aA:aq ["cell","letters","rest","size","more","stem","at","leaf","turn","begun","kinds","k","many","pick","name"] ["cell","letters"] (aj eX):=scm
abbrev fW:Stmt:=top 62
theorem hV:aq ["kinds","cell","leaves"] ["kinds","cell"] (aj fW):=scm
abbrev d9:Stmt:=top 63
theorem bw:aq ["cell","outs","states","kids","deep","rest","kind","parts","k"] ["cell","outs","states","kids","deep"] (aj d9):=scm
abbrev fg:Stmt:=top 64
theorem gD:aq ["left","many","digit"] ["left","many"] (aj fg):=scm
abbrev cM:Stmt:=top 65
theorem bh:aq ["left","outs","states","kids","deep","state","some","kind","parts","k"] ["left","outs","states","kids","deep"] (aj cM):=scm
abbrev bR:Stmt:=top 66
theorem aM:aq ["cell","ins","outs","states","deep","left","rules","state","row","k"] ["cell","ins","outs","states","deep"] (aj bR):=scm
abbrev fH:Stmt:=top 67
theorem cG:aq ["cell","ins","outs","states","deep","rules","state","row","k"] ["cell","ins","outs","states","deep"] (aj fH):=scm
abbrev iw:Stmt:=top 68
theorem iK:aq ["script","ins","outs","cell","book","due"] ["script"] (aj iw):=scm
set_option genInjectivity false in
set_option genSizeOf false in
structure FX (K:PySem.W.Frag) (mg:Str->Option Value) (n:Str) (s:Stmt) (ps:List Str) where
 f:Addr
 d:FuncData
 F:Fun K n n s f d
 b:Binds K d ps []
 m:mg n=some (.ref f)
section
open PySem.W
variable {K:Frag} {mg:Str->Option Value} {h:Heap} {n:Str} {st:Stmt} {f:Addr} {oc kV dc pm cd ct:Value} {od an:Option Addr} {sl:Array (Option Value)} (X:K.In h) (G:h.Ns mainGlobals mg)
noncomputable def fx1 {p0:Str} (a:nsIn K mainGlobals n=some (some (.ref f)):=by k_is) (l:K.lookup f=some ⟨oc,od,.func (fnOf n n (bf st) (aY st) (aj st) .none kV dc pm an cd ct),sl⟩:=by k_is) (c:codeIn K cd n=true:=by k_is) (k:keepIn K (.ref f)=true:=by k_is) (hb:∀ (kV dc pm:Value) (an:Option Addr) (cd ct u0:Value),bindArgs (fnOf n n (bf st) (aY st) (aj st) .none kV dc pm an cd ct) ⟨[u0],[]⟩=pure [(p0,u0)]:=by intros;rfl):FX K mg n st [p0] :=
 ⟨f,_,cy l c k,(cy l c k).binds fun a b c d e f us hl=>by obtain ⟨u0,rfl⟩:=us1 hl;exact hb a b c d e f u0,mg_of X G a⟩
noncomputable def fx2 {p0 p1:Str} (a:nsIn K mainGlobals n=some (some (.ref f)):=by k_is) (l:K.lookup f=some ⟨oc,od,.func (fnOf n n (bf st) (aY st) (aj st) .none kV dc pm an cd ct),sl⟩:=by k_is) (c:codeIn K cd n=true:=by k_is) (k:keepIn K (.ref f)=true:=by k_is) (hb:∀ (kV dc pm:Value) (an:Option Addr) (cd ct u0 u1:Value),bindArgs (fnOf n n (bf st) (aY st) (aj st) .none kV dc pm an cd ct) ⟨[u0,u1],[]⟩=pure [(p0,u0),(p1,u1)]:=by intros;rfl):FX K mg n st [p0,p1] :=
 ⟨f,_,cy l c k,(cy l c k).binds fun a b c d e f us hl=>by obtain ⟨u0,u1,rfl⟩:=us2 hl;exact hb a b c d e f u0 u1,mg_of X G a⟩
noncomputable def fx3 {p0 p1 p2:Str} (a:nsIn K mainGlobals n=some (some (.ref f)):=by k_is) (l:K.lookup f=some ⟨oc,od,.func (fnOf n n (bf st) (aY st) (aj st) .none kV dc pm an cd ct),sl⟩:=by k_is) (c:codeIn K cd n=true:=by k_is) (k:keepIn K (.ref f)=true:=by k_is) (hb:∀ (kV dc pm:Value) (an:Option Addr) (cd ct u0 u1 u2:Value),bindArgs (fnOf n n (bf st) (aY st) (aj st) .none kV dc pm an cd ct) ⟨[u0,u1,u2],[]⟩=pure [(p0,u0),(p1,u1),(p2,u2)]:=by intros;rfl):FX K mg n st [p0,p1,p2] :=
 ⟨f,_,cy l c k,(cy l c k).binds fun a b c d e f us hl=>by obtain ⟨u0,u1,u2,rfl⟩:=us3 hl;exact hb a b c d e f u0 u1 u2,mg_of X G a⟩
noncomputable def fx4 {p0 p1 p2 p3:Str} (a:nsIn K mainGlobals n=some (some (.ref f)):=by k_is) (l:K.lookup f=some ⟨oc,od,.func (fnOf n n (bf st) (aY st) (aj st) .none kV dc pm an cd ct),sl⟩:=by k_is) (c:codeIn K cd n=true:=by k_is) (k:keepIn K (.ref f)=true:=by k_is) (hb:∀ (kV dc pm:Value) (an:Option Addr) (cd ct u0 u1 u2 u3:Value),bindArgs (fnOf n n (bf st) (aY st) (aj st) .none kV dc pm an cd ct) ⟨[u0,u1,u2,u3],[]⟩=pure [(p0,u0),(p1,u1),(p2,u2),(p3,u3)]:=by intros;rfl):FX K mg n st [p0,p1,p2,p3] :=
 ⟨f,_,cy l c k,(cy l c k).binds fun a b c d e f us hl=>by obtain ⟨u0,u1,u2,u3,rfl⟩:=us4 hl;exact hb a b c d e f u0 u1 u2 u3,mg_of X G a⟩
noncomputable def fx5 {p0 p1 p2 p3 p4:Str} (a:nsIn K mainGlobals n=some (some (.ref f)):=by k_is) (l:K.lookup f=some ⟨oc,od,.func (fnOf n n (bf st) (aY st) (aj st) .none kV dc pm an cd ct),sl⟩:=by k_is) (c:codeIn K cd n=true:=by k_is) (k:keepIn K (.ref f)=true:=by k_is) (hb:∀ (kV dc pm:Value) (an:Option Addr) (cd ct u0 u1 u2 u3 u4:Value),bindArgs (fnOf n n (bf st) (aY st) (aj st) .none kV dc pm an cd ct) ⟨[u0,u1,u2,u3,u4],[]⟩=pure [(p0,u0),(p1,u1),(p2,u2),(p3,u3),(p4,u4)]:=by intros;rfl):FX K mg n st [p0,p1,p2,p3,p4] :=
 ⟨f,_,cy l c k,(cy l c k).binds fun a b c d e f us hl=>by obtain ⟨u0,u1,u2,u3,u4,rfl⟩:=us5 hl;exact hb a b c d e f u0 u1 u2 u3 u4,mg_of X G a⟩
end
theorem pcF {X:Cx} {kk k:Nat} {sp:Sp} {n:Str} {st:Stmt} {ps:List Str} {e:Expr} {es:List Expr} {t:TA} {p pos:Pos} (g:FX X.K X.mg n st ps) (F:FnOk X.prog X.w X.K X.mg X.base CX0 k g.f g.d ps sp) (hr:Room kk X.A) (ha:PA X (e::es) t) (hle:k<=kk:=by first | decide | omega) (hg:Gl X n:=by rfl) (hdb:(n == ("__debug__":Str))=false:=by decide) (he:starEach (e::es) X.env=(false,eval e X.env)::starEach es X.env:=by rfl) (hpl:(backTo pos (starEach es X.env)).any (·.1)=false:=by rfl):PE X (.Call (.Name n p) (e::es) [] pos) (gA sp [] E0 t) :=
 dw F (hr.mono hle) hg g.m g.F.kp g.b .nil dM ha hdb he hpl
set_option genInjectivity false in
set_option genSizeOf false in
structure TX (K:PySem.W.Frag) (mg:Str->Option Value) where
 c_CALL_SIGN:∃ tk,mg "CALL_SIGN"=some (.str (Str.ofString "?") tk)
 c_MOST_LETTERS:∃ tk,mg "MOST_LETTERS"=some (.int (8) tk)
 c_MOST_KINDS:∃ tk,mg "MOST_KINDS"=some (.int (8) tk)
 c_MOST_KIDS:∃ tk,mg "MOST_KIDS"=some (.int (3) tk)
 c_MOST_STATES:∃ tk,mg "MOST_STATES"=some (.int (20) tk)
 c_MOST_ROWS:∃ tk,mg "MOST_ROWS"=some (.int (20) tk)
 c_MOST_KNOTS:∃ tk,mg "MOST_KNOTS"=some (.int (400) tk)
 c_MOST_CALLS:∃ tk,mg "MOST_CALLS"=some (.int (200) tk)
 g_is_number:FX K mg "is_number" fT ["thing"]
 g_is_below:FX K mg "is_below" gP ["number","bound"]
 g_is_name:FX K mg "is_name" iP ["thing"]
 g_is_kind:FX K mg "is_kind" i8 ["pair"]
 g_are_kinds:FX K mg "are_kinds" fB ["kinds"]
 g_kinds_of:FX K mg "kinds_of" gM ["pairs"]
 g_many_of:FX K mg "many_of" iV ["kinds","name"]
 g_kids_of:FX K mg "kids_of" jf ["thing"]
 g_walked:FX K mg "walked" j2 ["thing"]
 g_built:FX K mg "built" mC ["tops"]
 g_is_call:FX K mg "is_call" jl ["thing"]
 g_called_by:FX K mg "called_by" fG ["call"]
 g_fits_pattern:FX K mg "fits_pattern" d5 ["kinds","pattern","states","kids"]
 g_called_in:FX K mg "called_in" fA ["pattern"]
 g_top_of:FX K mg "top_of" lA ["part"]
 g_filled:FX K mg "filled" kN ["pattern","table"]
 g_restated:FX K mg "restated" gX ["pattern","names"]
 f_Measure_init:Addr
 d_Measure_init:FuncData
 F_Measure_init:Fun K "__init__" "Measure.__init__" bK f_Measure_init d_Measure_init
 b_Measure_init:Binds K d_Measure_init ["self"] []
 f_Measure_takes:Addr
 d_Measure_takes:FuncData
 F_Measure_takes:Fun K "takes" "Measure.takes" bx f_Measure_takes d_Measure_takes
 b_Measure_takes:Binds K d_Measure_takes ["self","part","row"] []
 g_is_small:FX K mg "is_small" g7 ["pattern"]
 g_check_pattern:FX K mg "check_pattern" dk ["outs","pattern","states","kids"]
 g_check_state:FX K mg "check_state" eE ["ins","outs","patterns","states"]
 g_made_book:FX K mg "made_book" fO ["ins","outs","head","rules"]
 g_ins_of:FX K mg "ins_of" kT ["book"]
 g_outs_of:FX K mg "outs_of" i7 ["book"]
 g_head_of:FX K mg "head_of" jn ["book"]
 g_rules_of:FX K mg "rules_of" gL ["book"]
 g_pattern_of:FX K mg "pattern_of" eZ ["book","state","name"]
 g_renamed:FX K mg "renamed" i9 ["pattern","numbers"]
 g_numbered:FX K mg "numbered" gN ["ins","outs","head","patterns_of"]
 g_above:FX K mg "above" mS ["tree"]
 g_call_of:FX K mg "call_of" iY ["state"]
 g_same_knot:FX K mg "same_knot" fv ["name","many"]
 g_same_book:FX K mg "same_book" fC ["kinds"]
 g_led_over:FX K mg "led_over" gU ["second","part","knot"]
 g_run_over:FX K mg "run_over" gI ["second","head","pattern"]
 g_joined:FX K mg "joined" cD ["first","second"]
 tc_joined:Addr
 tp_joined:Addr
 th_joined:g_joined.d.code=.ref tc_joined
 g_trimmed:FX K mg "trimmed" cf ["book"]
 tc_trimmed:Addr
 tp_trimmed:Addr
 th_trimmed:g_trimmed.d.code=.ref tc_trimmed
 g__law_cell:FX K mg "_law_cell" fQ ["script","k"]
 g__law_turn:FX K mg "_law_turn" fE ["cell","k"]
 g__law_kinds:FX K mg "_law_kinds" eX ["cell","letters"]
 g__law_leaf:FX K mg "_law_leaf" fW ["kinds","cell"]
 g__law_pattern:FX K mg "_law_pattern" d9 ["cell","outs","states","kids","deep"]
 g__law_digit:FX K mg "_law_digit" fg ["left","many"]
 g__law_by_digits:FX K mg "_law_by_digits" cM ["left","outs","states","kids","deep"]
 g__law_book_by_digits:FX K mg "_law_book_by_digits" bR ["cell","ins","outs","states","deep"]
 g__law_book:FX K mg "_law_book" fH ["cell","ins","outs","states","deep"]
 g_law:FX K mg "law" iw ["script"]
 e_Measure:Addr
 x_Measure:mg "Measure"=some (.ref e_Measure)
 cl_Measure:Cls K e_Measure
 mk_Measure:Mk K e_Measure f_Measure_init
 na_Measure_met_knots:NoAttr K e_Measure "met_knots"
 na_Measure_met_calls:NoAttr K e_Measure "met_calls"
 me_Measure_takes:wG K e_Measure "takes" f_Measure_takes
 n_all:mg "all"=none
 n_bool:mg "bool"=none
 n_int:mg "int"=none
 n_isinstance:mg "isinstance"=none
 n_len:mg "len"=none
 n_list:mg "list"=none
 n_range:mg "range"=none
 n_reversed:mg "reversed"=none
 n_set:mg "set"=none
 n_state:mg "state"=none
 n_str:mg "str"=none
 n_tuple:mg "tuple"=none
 n_zip:mg "zip"=none
theorem xT:([Str.ofString "number",Str.ofString "done"]:List Str).Nodup:=by decide +kernel
theorem xJ:([Str.ofString "part"]:List Str).Nodup:=by decide +kernel
theorem w9:([Str.ofString "pattern",Str.ofString "numbers"]:List Str).Nodup:=by decide +kernel
theorem xh:([Str.ofString "kind"]:List Str).Nodup:=by decide +kernel
theorem xS:([Str.ofString "kid",Str.ofString "knot",Str.ofString "row"]:List Str).Nodup:=by decide +kernel
theorem yk:([Str.ofString "pattern",Str.ofString "second",Str.ofString "state"]:List Str).Nodup:=by decide +kernel
theorem yi:([Str.ofString "kid",Str.ofString "row"]:List Str).Nodup:=by decide +kernel
theorem xK:([Str.ofString "sign"]:List Str).Nodup:=by decide +kernel
theorem uk:([Str.ofString "pair"]:List Str).Nodup:=by decide +kernel
theorem x9:([Str.ofString "patterns"]:List Str).Nodup:=by decide +kernel
theorem xg:([Str.ofString "kind",Str.ofString "deep"]:List Str).Nodup:=by decide +kernel
theorem xr:([Str.ofString "kid"]:List Str).Nodup:=by decide +kernel
theorem vE:([Str.ofString "name",Str.ofString "many"]:List Str).Nodup:=by decide +kernel
section
variable {P:Program} {w:World} {K:PySem.W.Frag} {mg:Str->Option Value} {base:Heap} (T:TX K mg)
namespace G
inductive cW (vs:List V) (H:Hp) (Q:VK) (_E:XK):Prop
 | mk (rp:Rep) (a:Addr) (t:Th) (zz0:vs=[.ref a]) (zz1:AtG rp H t a) (zz2:∀ (r:Addr) (as:List Addr) (H':Hp),L2.Same H H'->H' r=some (.tup (as.map V.ref))->AtsG rp H' t.kids as->Q (.ref r) H'):cW  vs H Q _E
def gO:Sp:=cW
theorem ok_kids_of:FnOk P w K mg base CX0 1 T.g_kids_of.f T.g_kids_of.d ["thing"] gO:=by
 refine T.g_kids_of.F.ok pD (fun vs H Q E h=>?_) (fun cdv A outer s H vs Q E hr h=>?_)
 · obtain ⟨rp,a,t,rfl,_⟩:=h;rfl
 obtain ⟨rp,a,t,rfl,hA,k⟩:=h
 refine ⟨_,(ae (br (aN fZ (aK aL (pv 0) ai (fun _ _=>rfl)) (bF (v:=.str (Str.ofString "?")) rfl T.c_CALL_SIGN.choose_spec ⟨_,rfl⟩) (aJ _)) (ag (au (aU ac))) aR)
  (ag (au (c9 sd (pv 0) (dB ai) eh)))),?_⟩
 try dsimp only [cxK,cxKn]
 cases t with
 | knot n ks =>
   rw [AtG] at hA;refine hid fun ZZ kZ=>?_;obtain ⟨hn,as,h1,h2⟩:=hA;refine kZ ?_;refine ⟨_,rfl,a,_,0,.str n,rfl,rfl,SqT.of h1,at0,rfl,_,rfl,?_⟩;refine cq (fun c=>absurd (of_decide_eq_true c) (fun z=>hn (V.str.inj z))) (fun _=>?_);refine ⟨_,rfl,1,rfl,a,_,rfl,SqT.of h1,?_,fun r hr=>?_⟩
   · intro z;have:=z.1;simp [HT.sIx] at this
   · rw [sS];exact k r as _ (af hr _) ad (h2.mono (fD hr))
 | call sn kn =>
   rw [AtG] at hA;obtain ⟨v,hA,hst⟩:=hA;refine ⟨_,rfl,a,_,0,.str q,rfl,rfl,SqT.of hA,at0,rfl,_,rfl,?_⟩;refine cq (fun _=>?_) (fun c=>absurd (decide_eq_true rfl) c);refine ⟨by show 0<=sizeLine;decide,fun r hr=>?_⟩;exact k r [] _ (af hr _) ad .nil
inductive cU (vs:List V) (H:Hp) (Q:VK) (_E:XK):Prop
 | mk (rp:Rep) (a:Addr) (t:Th) (zz0:vs=[.ref a]) (zz1:AtG rp H t a) (zz2:Q (.bl t.isCall) H):cU  vs H Q _E
def fc:Sp:=cU
theorem ok_is_call:FnOk P w K mg base CX0 1 T.g_is_call.f T.g_is_call.d ["thing"] fc:=by
 refine T.g_is_call.F.ok ph (fun vs H Q E h=>?_) (fun cdv A outer s H vs Q E hr h=>?_)
 · obtain ⟨rp,a,t,rfl,_⟩:=h;rfl
 obtain ⟨rp,a,t,rfl,hA,k⟩:=h;refine ⟨_,(ag (au (cS fZ (aK aL (pv 0) ai (fun _ _=>rfl)) (bF (v:=.str (Str.ofString "?")) rfl T.c_CALL_SIGN.choose_spec ⟨_,rfl⟩) (aJ _)))),?_⟩
 try dsimp only [cxK,cxKn]
 cases t with
 | knot n ks =>
   rw [AtG] at hA;refine hid fun ZZ kZ=>?_;obtain ⟨hn,as,h1,h2⟩:=hA;refine kZ ?_;refine ⟨_,rfl,a,_,0,.str n,rfl,rfl,SqT.of h1,at0,rfl,?_⟩;have e:decide (V.str n=V.str (Str.ofString "?"))=false:=decide_eq_false (fun z=>hn (V.str.inj z));rw [e];exact k
 | call sn kn =>
   rw [AtG] at hA;obtain ⟨v,hA,hst⟩:=hA;refine ⟨_,rfl,a,_,0,.str q,rfl,rfl,SqT.of hA,at0,rfl,?_⟩;have e:decide (V.str q=V.str (Str.ofString "?"))=true:=decide_eq_true rfl;rw [e];exact k
inductive cm (vs:List V) (H:Hp) (Q:VK) (_E:XK):Prop
 | mk (rp:Rep) (a:Addr) (sn kn:Int) (zz0:vs=[.ref a]) (zz1:AtG rp H (.call sn kn) a) (zz2:∀ p v,StV rp H sn v->H p=none->Q (.ref p) (upd H p (.tup [v,.int kn]))):cm  vs H Q _E
def dC:Sp:=cm
theorem ok_called_by:FnOk P w K mg base CX0 1 T.g_called_by.f T.g_called_by.d ["call"] dC:=by
 refine T.g_called_by.F.ok mN (fun vs H Q E h=>?_) (fun cdv A outer s H vs Q E hr h=>?_)
 · obtain ⟨rp,a,sn,kn,rfl,_⟩:=h;rfl
 obtain ⟨rp,a,sn,kn,rfl,hA,k⟩:=h;refine ⟨_,(ag (au (aU (aa (aK aL (pv 0) ai (fun _ _=>rfl)) (aa (aK aL (pv 0) ai (fun _ _=>rfl)) ac))))),?_⟩
 try dsimp only [cxK,cxKn]
 rw [AtG] at hA;obtain ⟨v,hA,hst⟩:=hA;exact ⟨_,rfl,a,_,1,_,rfl,rfl,SqT.of hA,at1,_,rfl,a,_,2,_,rfl,rfl,SqT.of hA,at2,al (by show 2<=1000000;decide),fun p hp=>k p v hst hp⟩
inductive dW (vs:List V) (H:Hp) (Q:VK) (_E:XK):Prop
 | mk (rp:Rep) (a:Addr) (t:Th) (zz0:vs=[.ref a]) (zz1:AtG rp H t a) (zz2:t.size<=100000) (zz3:∀ (r:Addr) (as:List Addr) (H':Hp),L2.Same H H'->H r=none->H' r=some (.lst (as.map V.ref))->AtsG rp H' t.walk as->Q (.ref r) H'):dW  vs H Q _E
def ji:Sp:=dW
theorem ok_walked:FnOk P w K mg base CX0 2 T.g_walked.f T.g_walked.d ["thing"] ji:=by
 refine T.g_walked.F.ok f7 (fun vs H Q E h=>?_) (fun cdv A outer s H vs Q E hr h=>?_)
 · obtain ⟨rp,a,t,rfl,_⟩:=h;rfl
 obtain ⟨rp,a,t,rfl,hA,hsz,k⟩:=h
 refine ⟨_,(ae (ar (i:=1) f7.nd rfl (Or.inl rfl) (bt ac))
  (ae (ar (i:=2) f7.nd rfl (Or.inl rfl) (bt (aa (pv 0) ac)))
  (ae (eT PassesOwn.never (aV (pv 2) (fun _=>rfl)) (ae (ar (i:=3) f7.nd rfl (Or.inl rfl) (nb PySem.F.plainAttrs_list PySem.F.slot_list_pop PySem.F.type_list_pop mG (pv 2)))
  (ae (aS (ce PySem.F.plainAttrs_list PySem.F.slot_list_append PySem.F.type_list_append aQ (pv 1) (aa (pv 3) ac)))
  (ag (aS (ce PySem.F.plainAttrs_list PySem.F.slot_list_extend PySem.F.type_list_extend pV (pv 2) (aa (va wj (pcF T.g_kids_of (ok_kids_of T) hr (aa (pv 3) ac))) ac)))))))
  (ag (au (pv 1)))))),?_⟩
 try dsimp only [cxK,cxKn]
 refine ⟨by show 0<=sizeLine;decide,fun mt hmt=>?_⟩;refine ⟨_,rfl,by show 1<=sizeLine;decide,fun ah hah=>?_⟩;have nah:H ah=none:=(af hmt _).free hah;have hne:ah≠mt:=fun z=>by rw [z,ad] at hah;cases hah
 refine ⟨fun m σ H2=>Ex5 fun (ms as:List Addr) (Ms As:List Th) (p:Option V)=>An8 (σ=[some (.ref a),some (.ref mt),some (.ref ah),p]) (L2.Same H H2) (H2 mt=some (.lst (ms.map V.ref))) (H2 ah=some (.lst (as.map V.ref))) (AtsG rp H2 Ms ms) (AtsG rp H2 As as) (Ms++walks As.reverse=t.walk) (m=aw As),⟨_,[],[a],[],[t],none,rfl,?_,?_,?_,.nil,.cons (hA.mono ?_) .nil,?_,rfl⟩,?_⟩
 · exact aF (af hmt _) nah
 · rw [ak hne.symm,ad];rfl
 · rw [ad];rfl
 · exact Same.kt (aF (af hmt _) nah)
 · simp [walks]
 rintro m σ H2 ⟨ms,as,Ms,As,p,rfl,sm,e1,e2,a1,a2,hw,rfl⟩
 have hlen:ms.length+aw As<=100000:=by
  have h1:=congrArg List.length hw;rw [List.length_append,f9,Th.walk_len,<- a1.length] at h1;have h2:=l8 As;omega
 refine ⟨_,rfl,_,.inl ⟨_,SqL.of e2,rfl⟩,?_⟩;refine cq (fun c=>?_) (fun c=>?_)
 · -- a part is taken off
   refine ⟨fun σ' H'=>∃ m',m'<aw As/\Ex5 fun (ms as:List Addr) (Ms As:List Th) (p:Option V)=>An8 (σ'=[some (.ref a),some (.ref mt),some (.ref ah),p]) (L2.Same H H') (H' mt=some (.lst (ms.map V.ref))) (H' ah=some (.lst (as.map V.ref))) (AtsG rp H' Ms ms) (AtsG rp H' As as) (Ms++walks As.reverse=t.walk) (m'=aw As),fun σ' H' h=>h,?_⟩;have hne0:as≠[]:=by intro z;subst z;simp at c
   obtain ⟨as',b,rfl⟩:∃ as' b,as=as'++[b]:=⟨as.dropLast,as.getLast hne0,(List.dropLast_concat_getLast hne0).symm⟩;obtain ⟨Us,x,rfl,a3,a4⟩:=a2.snoc_inv;have hs:aw (Us++[x])=aw Us+x.size:=by rw [ba,aw,aw];omega
   have hxs:=x.size_eq;rw [hs] at hlen;refine ⟨_,rfl,.inl ⟨rfl,_,SqL.of e2⟩,ah,_,.ref b,rfl,rfl,e2,by simp,?_⟩;have d1:((as'++[b]).map V.ref).dropLast=as'.map V.ref:=by simp
   rw [d1];refine ⟨_,rfl,.inl ⟨rfl,_,SqL.of (by rw [ak hne.symm];exact e1)⟩,_,rfl,mt,_,.ref b,rfl,rfl,by rw [ak hne.symm];exact e1,aD (by rw [List.length_map];omega),?_⟩;have k1:KT H2 (upd (upd H2 ah (.lst (as'.map V.ref))) mt (.lst (ms.map V.ref++[.ref b]))):=(bc e2).trans (bc (xs:=ms.map V.ref) (by rw [ak hne.symm];exact e1));refine ⟨_,rfl,.inl ⟨rfl,_,SqL.of (by rw [ak hne,ad])⟩,_,rfl,rp,b,x,rfl,a4.mono k1,fun r ks H3 s3 e3 a5=>?_⟩;refine ⟨r,_,rfl,SqT.of e3,fun l hl=>?_⟩;have l1:l≠ah:=fun z=>by rw [z,s3 ah _ (by rw [ak hne,ad])] at hl;cases hl
   have l2:l≠mt:=fun z=>by rw [z,s3 mt _ ad] at hl;cases hl
   refine ⟨ah,l,_,_,rfl,rfl,by rw [ak l1.symm];exact s3 ah _ (by rw [ak hne,ad]),SqT.of ad,Nat.le_of_lt (aD ?_),?_⟩
   · have q1:=a3.length;have q2:=a5.length;have q3:=cz Us;have q4:=cz x.kids;rw [List.length_map,List.length_reverse,List.length_map];omega
   · have k2:KT H2 (upd (upd H3 l (.tup (ks.map V.ref).reverse)) ah (.lst (as'.map V.ref++(ks.map V.ref).reverse))) :=
      k1.trans ((Same.kt s3).trans ((fD hl).trans (bc (xs:=as'.map V.ref) (by rw [ak l1.symm];exact s3 ah _ (by rw [ak hne,ad])))))
     have k3:KT H3 (upd (upd H3 l (.tup (ks.map V.ref).reverse)) ah (.lst (as'.map V.ref++(ks.map V.ref).reverse))) :=
      (fD hl).trans (bc (xs:=as'.map V.ref) (by rw [ak l1.symm];exact s3 ah _ (by rw [ak hne,ad])))
     refine ⟨aw (Us++x.kids.reverse),?_,ms++[b],as'++ks.reverse,Ms++[x],Us++x.kids.reverse,some (.ref b),rfl,?_,?_,?_,?_,?_,?_,rfl⟩
     · rw [ba,l8,hs];omega
     · have s4:L2.Same H (upd (upd H2 ah (.lst (as'.map V.ref))) mt (.lst (ms.map V.ref++[.ref b]))):=aF (aF sm nah) hmt;have nl:H l=none:=s4.free (s3.free hl);exact aF (aF (s4.trans s3) nl) nah
     · rw [ak hne.symm,ak l2.symm,s3 mt _ ad,List.map_append];rfl
     · rw [ad,List.map_append,List.map_reverse]
     · exact (a1.mono k2).append (.cons (a4.mono k2) .nil)
     · exact (a3.mono k2).append (a5.mono k3).reverse
     · rw [<- hw,List.append_assoc,List.reverse_append,List.reverse_append,List.reverse_reverse,eY];show Ms++([x]++(walks x.kids++walks Us.reverse))=Ms++walks (x::Us.reverse);rw [walks,x.walk_eq];rfl
 · have hz:as=[]:=by
    cases as with
    | nil=>rfl
    | cons y ys=>simp at c
   subst hz;have hA0:As=[]:=List.length_eq_zero_iff.mp a2.length.symm;subst hA0;refine ⟨_,rfl,k mt ms H2 sm hmt e1 ?_⟩;have hw':Ms=t.walk:=by simpa [walks] using hw
   rw [<- hw'];exact a1
inductive dN (vs:List V) (H:Hp) (Q:VK) (_E:XK):Prop
 | mk (rp:Rep) (a:Addr) (t:Th) (zz0:vs=[.ref a]) (zz1:AtG rp H t a) (zz2:∀ (r:Addr) (H':Hp),L2.Same H H'->TopAtG rp H' (topOf Th.call t) r->Q (.ref r) H'):dN  vs H Q _E
def iZ:Sp:=dN
theorem ok_top_of:FnOk P w K mg base CX0 2 T.g_top_of.f T.g_top_of.d ["part"] iZ:=by
 refine T.g_top_of.F.ok lN (fun vs H Q E h=>?_) (fun cdv A outer s H vs Q E hr h=>?_)
 · obtain ⟨rp,a,t,rfl,_⟩:=h;rfl
 obtain ⟨rp,a,t,rfl,hA,k⟩:=h
 refine ⟨_,(ae (ar (i:=1) lN.nd rfl (Or.inl rfl) (ax ay rfl T.n_len PySem.boot_len (aa (pcF T.g_kids_of (ok_kids_of T) hr (aa (pv 0) ac)) ac)))
  (ag (au (aU (aa (c9 uc (pv 0) eh (dB (av mY (ax ay rfl T.n_len PySem.boot_len (aa (pv 0) ac)) (pv 1)))) (aa (pv 1) ac)))))),?_⟩
 try dsimp only [cxK,cxKn]
 refine ⟨_,rfl,rp,a,t,rfl,hA,fun r as H1 s1 er hks=>⟨r,_,rfl,.inr (SqT.of er),?_⟩⟩;obtain ⟨xs,ea⟩:∃ xs,H a=some (.tup xs):=⟨_,hA.tup.choose_spec.choose_spec⟩;refine ⟨_,rfl,_,rfl,a,_,rfl,.inr (SqT.of (s1 _ _ ea)),_,rfl,_,_,rfl,rfl,_,rfl,a,_,rfl,s1 _ _ ea,fun p H2 s2 e2=>?_⟩;have hal:as.length=t.kids.length:=hks.length;refine ⟨_,rfl,al (by show 2<=1000000;decide),fun l hl=>?_⟩;refine k l _ (s1.trans (s2.trans (af hl _))) ?_
 try dsimp only at e2
 cases t with
 | knot n ks =>
   rw [AtG] at hA;refine hid fun ZZ kZ=>?_;obtain ⟨hn,ka,ea',hka⟩:=hA;refine kZ ?_;rw [ea] at ea';cases ea';have hkl:ka.length=ks.length:=hka.length;have hal':as.length=ks.length:=hal
   have e1:((V.str n::ka.map V.ref).length:Int) - ((as.map V.ref).length:Int)=1:=by
    rw [List.length_cons,List.length_map,List.length_map,hkl,hal'];omega
   rw [e1,uG] at e2;exact ⟨p,by rw [ad,List.length_map,hal'],hn,af hl _ _ _ e2⟩
 | call sn kn =>
   have hal':as.length=0:=hal;have hA2:=hA;rw [AtG] at hA2;obtain ⟨v,ea',hst⟩:=hA2;rw [ea] at ea';cases ea'
   have e1:(([V.str q,v,V.int kn]).length:Int) - ((as.map V.ref).length:Int)=((3:Nat):Int):=by
    rw [List.length_map,hal'];rfl
   rw [e1,u9 (show 3<=3 from Nat.le_refl _)] at e2;have hA1:=hA.mono (Same.kt (s1.trans s2));have hp:AtG rp H2 (.call sn kn) p:=hA1.same ((s1.trans s2) _ _ ea) e2;refine ⟨p,?_,hp.mono (fD hl)⟩;rw [ad,List.length_map,hal'];rfl
inductive eK (vs:List V) (H:Hp) (Q:VK) (_E:XK):Prop
 | mk (rp:Rep) (l:Addr) (as:List Addr) (tops:List Top) (u:Th) (zz0:vs=[.ref l]) (zz1:H l=some (.lst (as.map V.ref))) (zz2:Paired (TopAtG rp H) tops as) (zz3:tops.length<=100000) (zz4:TopsOk tops) (zz5:(∀ t,Top.th t∈tops->t.size<=100000)) (zz6:bl tops=[u]) (zz7:∀ (r:Addr) (H':Hp),L2.Same H H'->AtG rp H' u r->Q (.ref r) H'):eK  vs H Q _E
def kD:Sp:=eK
theorem ok_built:FnOk P w K mg base CX0 1 T.g_built.f T.g_built.d ["tops"] kD:=by
 refine T.g_built.F.ok ij (fun vs H Q E h=>?_) (fun cdv A outer s H vs Q E hr h=>?_)
 · obtain ⟨rp,l,as,tops,u,rfl,_⟩:=h;rfl
 obtain ⟨rp,l,as,tops,u,rfl,el,hT,hlen,hok,hbig,hu,k⟩:=h
 refine ⟨_,(ae (ar (i:=1) ij.nd rfl (Or.inr rfl) (bt ac))
  (ae (bP PassesOwn.never rfl (wM rfl T.n_reversed (pv 0)) (cH rfl (aE (am (i:=2) ij.nd rfl (Or.inl rfl)) (aE (am (i:=3) ij.nd rfl (Or.inl rfl)) bX))) (ag (br (aN fI (pv 3) ai (aJ _)) (ag (aS (ce PySem.F.plainAttrs_list PySem.F.slot_list_append PySem.F.type_list_append aQ (pv 1) (aa (av jZ (pv 2) (aG aB rfl T.n_tuple PyProof.Rows.boot_tuple (aa (bY (N:=[Str.ofString "number",Str.ofString "done"]) (js:=[none,some 1]) (g:=(aH 0)) (tt:=bn) (te:=(xB K "list" (w8) (b9 1))) rfl (cJ rfl (by decide +kernel) (by decide +kernel) rfl rfl rfl) (cg rfl T.n_range (aa (pv 3) ac)) (fun _ _ _ _ _ _=>(am (i:=0) xT rfl (Or.inl rfl))) (bo rfl) (fun _ _ _ _ _ _=>bN) (fun _ _ _ _ _ _=>(nb PySem.F.plainAttrs_list PySem.F.slot_list_pop PySem.F.type_list_pop mG (pv 1)))) ac))) ac)))) (ag (aS (ce PySem.F.plainAttrs_list PySem.F.slot_list_append PySem.F.type_list_append aQ (pv 1) (aa (pv 2) ac)))))))
  (ag (au (aK cT (pv 1) ai (fun _ _=>rfl)))))),?_⟩
 try dsimp only [cxK,cxKn]
 have hal:tops.length=as.length:=Paired.length hT;refine ⟨al (by show 0<=1000000;decide),fun dn hdn=>?_⟩;refine ⟨_,rfl,l,_,rfl,SqL.of (af hdn _ _ _ el),?_⟩
 refine uD (K:=K) (a:=l) (xs:=as.map V.ref) (fun i σ H2=>Ex3 fun c2 c3 ds=>An4 (σ=[some (.ref l),some (.ref dn),c2,c3]) (L2.Same H H2) (H2 dn=some (.lst (ds.map V.ref))) (AtsG rp H2 (bl (tops.drop (tops.length - i))).reverse ds))
  ⟨none,none,[],rfl,af hdn _,ad,by rw [Nat.sub_zero,List.drop_length];exact .nil⟩ (fun i σ H2 _ ⟨_,_,_,_,s2,_,_⟩=>SqL.of (s2 _ _ el)) ?_ ?_
 · rintro i y σ H2 hi hy ⟨c2,c3,ds,rfl,s2,edn,hds⟩;rw [List.length_map,<- hal] at hi hy;obtain ⟨pr,rfl,hpr⟩:=aP hy;obtain ⟨x,hx,hxt0⟩:=P2.get' hT hpr;have hxt:=hxt0.mono (Same.kt s2);have hn:tops.length - 1 - i<tops.length:=by omega
   have hdr:tops.drop (tops.length - 1 - i)=x::tops.drop (tops.length - i):=by
    rw [List.drop_eq_getElem_cons hn,show tops.length - 1 - i+1=tops.length - i by omega];congr 1;rw [List.getElem?_eq_getElem hn] at hx;exact Option.some.inj hx
   have hokx:=hok.drop (tops.length - 1 - i);rw [hdr] at hokx;have hnext:tops.length - (i+1)=tops.length - 1 - i:=by omega
   have hSl:(bl (tops.drop (tops.length - i))).length<=100000:=by
    have:=pM (tops.drop (tops.length - i));rw [List.length_drop] at this;omega
   generalize tops.drop (tops.length - i)=S at hdr hds hokx hSl;refine hid fun ZZ kZ=>?_
   obtain ⟨ta,m,xs,epr,eta,hm,hxl,hfin⟩:∃ (ta:Addr) (m:Nat) (xs:List V),H2 pr=some (.tup [.ref ta,.int (m:Nat)])/\H2 ta=some (.tup xs)/\m<=(bl S).length/\xs.length<=200000/\∀ (H':Hp) (p:Addr) (ks:List Addr),KT H2 H'->AtsG rp H' ((bl S).take m) ks->H' p=some (.tup (xs++ks.map V.ref))->∃ u',bl (x::S)=u'::(bl S).drop m/\AtG rp H' u' p:=by
    cases x with
    | nm n m =>
      rw [TopsOk] at hokx;obtain ⟨ta,h1,h2,h3⟩:=hxt;refine ⟨ta,m,_,h1,h3,hokx.1,(by show 1<=200000;decide),fun H' p ks kt hk hp=>⟨_,by rw [bl],?_⟩⟩;rw [AtG];exact ⟨h2,ks,hp,hk⟩
    | th t =>
      obtain ⟨ta,h1,h2⟩:=hxt;obtain ⟨n',r',h3⟩:=h2.tup;have hw:=h2.width h3;have hb':=hbig t (List.mem_of_getElem? hx);refine ⟨ta,0,_,h1,h3,Nat.zero_le _,by omega,fun H' p ks kt hk hp=>⟨t,by rw [bl,List.drop_zero],?_⟩⟩;rw [List.take_zero,AtsG] at hk;subst hk;rw [List.map_nil,List.append_nil] at hp;exact (h2.mono kt).same (kt _ _ h3) hp
   refine kZ ?_;refine ⟨pr,_,rfl,SqT.of epr,rfl,_,_,rfl,_,_,rfl,rfl,?_⟩;have hdl0:=hds.length;rw [List.length_reverse] at hdl0;refine d8 (fun b H'=>An2 (H'=H2) (b=decide ((0:Int)<(m:Int)))) (fun kk hkk=>?_) (fun H' hb=>?_) (fun H' hb=>?_)
   · exact ⟨_,rfl,_,_,rfl,rfl,_,rfl,hkk _ _ ⟨rfl,rfl⟩⟩
   rotate_left
   · obtain ⟨rfl,hb⟩:=hb
     have hm0:m=0:=by
      have:=of_decide_eq_false hb.symm;omega
     subst hm0;obtain ⟨u',hu',hat⟩:=hfin H' ta [] (Same.kt (.refl _)) (by rw [List.take_zero];exact .nil) (by rw [List.map_nil,List.append_nil];exact eta);refine ⟨_,rfl,.inl ⟨rfl,_,SqL.of edn⟩,_,rfl,dn,_,_,rfl,rfl,edn,aD (by rw [List.length_map];omega),?_⟩;have k6:KT H' (upd H' dn (.lst (ds.map V.ref++[.ref ta]))):=bc edn;refine ⟨_,_,ds++[ta],rfl,?_,by rw [ad,List.map_append];rfl,?_⟩
     · intro b o e;rw [ak (ao e hdn)];exact s2 b o e
     · rw [hnext,hdr,hu',List.reverse_cons];rw [List.drop_zero];exact (hds.mono k6).append (.cons (hat.mono k6) .nil)
   obtain ⟨rfl,hb⟩:=hb;refine ⟨_,rfl,.inl ⟨rfl,_,SqL.of edn⟩,_,rfl,?_⟩;refine ⟨_,rfl,(m:Int),rfl,by omega,by omega,fun D hD=>?_⟩;have hDd:D≠dn:=fun z=>by rw [z,edn] at hD;cases hD
   have hmt:((m:Nat):Int).toNat=m:=Int.toNat_natCast m
   refine ⟨m,fun j H3=>An3 (j<=m) ((∀ b o,H' b=some o->b≠dn->H3 b=some o)) (Ex2 fun (ds' ks:List Addr)=>An4 (H3 dn=some (.lst (ds'.map V.ref))) (H3 D=some (.lst (ks.map V.ref))) (AtsG rp H3 ((bl S).drop j).reverse ds') (AtsG rp H3 ((bl S).take j) ks)),
    ⟨Nat.zero_le _,fun b o e hb=>?_,ds,[],?_,?_,?_,?_⟩,?_⟩
   · rw [ak (ao e hD)];exact e
   · rw [ak hDd.symm];exact edn
   · rw [ad];rfl
   · rw [List.drop_zero];exact hds.mono (fD hD)
   · rw [List.take_zero];exact .nil
   rintro j H3 ⟨hj,kp,ds',ks,ed,eD,hd1,hd2⟩;by_cases hjm:j=m
   · left;refine ⟨(by show ((m:Nat):Int).toNat<=j;rw [hmt,hjm];exact Nat.le_refl _),?_⟩;subst hjm;have kt23:KT H' H3:=fun b xs' e=>kp b _ e (cK e edn (by intro z;cases z));refine ⟨D,_,rfl,.inl ⟨SqL.of eD,fun tp htp=>?_⟩⟩;have s4:L2.Same H3 (upd H3 tp (.tup (ks.map V.ref))):=af htp _;have e4:(upd H3 tp (.tup (ks.map V.ref))) tp=some (.tup (ks.map V.ref)):=ad;generalize (upd H3 tp (.tup (ks.map V.ref)))=H4 at s4 e4 ⊢;have hkl:=hd2.length;refine ux (s4 _ _ (kt23 _ _ eta)) e4 (by rw [List.length_map,hkl,List.length_take];omega) fun p H5 s5 e5=>?_;have s35:=s4.trans s5;have ed5:=s35 _ _ ed;have kt25:=kt23.trans (Same.kt s35);obtain ⟨u',hu',hat⟩:=hfin H5 p ks kt25 (hd2.mono (Same.kt s35)) e5;have hdl:=hd1.length;rw [List.length_reverse,List.length_drop] at hdl;refine ⟨dn,_,_,rfl,rfl,ed5,aD (by rw [List.length_map];omega),?_⟩;have k6:KT H5 (upd H5 dn (.lst (ds'.map V.ref++[.ref p]))):=bc ed5;refine ⟨_,_,ds'++[p],rfl,?_,by rw [ad,List.map_append];rfl,?_⟩
     · intro b o e;have hb:b≠dn:=ao e hdn;rw [ak hb];exact s35 _ _ (kp b o (s2 b o e) hb)
     · rw [hnext,hdr,hu',List.reverse_cons];exact (hd1.mono ((Same.kt s35).trans k6)).append (.cons (hat.mono k6) .nil)
   · right;have hj':j<m:=by omega
     refine ⟨hj',(by show j<((m:Nat):Int).toNat;rw [hmt];exact hj'),?_⟩;rintro x' H4 ⟨e1,e2⟩;have e2':H4=H3:=e1;subst e2';have hjr:j<(bl S).length:=by omega
     have edr:(bl S).drop j=(bl S)[j]::(bl S).drop (j+1):=List.drop_eq_getElem_cons hjr;rw [edr,List.reverse_cons] at hd1
     have hne:ds'≠[]:=by
      intro z;subst z;have:=hd1.length;rw [List.length_append] at this;simp at this
     refine hid fun ZZ kZ=>?_;obtain ⟨ds2,b,rfl⟩:∃ ds2 b,ds'=ds2++[b]:=⟨ds'.dropLast,ds'.getLast hne,(List.dropLast_concat_getLast hne).symm⟩;obtain ⟨Us,x2,e3,hU,hb2⟩:=hd1.snoc_inv;have e4:=List.append_inj' e3 rfl;obtain ⟨e5,e6⟩:=e4;refine kZ ?_;cases e6;subst e5;refine ⟨_,rfl,.inl ⟨rfl,_,SqL.of ed⟩,dn,_,.ref b,rfl,rfl,ed,by simp,?_⟩;have d1:((ds2++[b]).map V.ref).dropLast=ds2.map V.ref:=by simp
     rw [d1];have eD2:(upd H4 dn (.lst (ds2.map V.ref))) D=some (.lst (ks.map V.ref)):=by rw [ak hDd];exact eD
     have k5:KT H4 (upd (upd H4 dn (.lst (ds2.map V.ref))) D (.lst (ks.map V.ref++[.ref b]))):=(bc ed).trans (bc eD2);refine ⟨_,eD2,aD (by rw [List.length_map,hd2.length,List.length_take];omega),hj',fun b' o e hb'=>?_,ds2,ks++[b],?_,?_,hU.mono k5,?_⟩
     · rw [ak (ao e hD),ak hb'];exact kp b' o e hb'
     · rw [ak hDd.symm,ad]
     · rw [ad,List.map_append];rfl
     · rw [List.take_add_one,List.getElem?_eq_getElem hjr];exact (hd2.mono k5).append (.cons (hb2.mono k5) .nil)
 · rintro σ H2 ⟨c2,c3,ds,rfl,s2,edn,hds⟩;rw [List.length_map,<- hal,Nat.sub_self,List.drop_zero,hu] at hds;have hds':AtsG rp H2 [u] ds:=hds;rw [AtsG] at hds';obtain ⟨b,r,rfl,hb,hr2⟩:=hds';exact ⟨_,rfl,dn,_,0,.ref b,rfl,rfl,SqL.of edn,at0,k b H2 s2 hb⟩
def CP (rp:Rep) (H:Hp) (c:Int×Int) (a:Addr):Prop:=∃ v,H a=some (.tup [v,.int c.2])/\StV rp H c.1 v
theorem CP.mono {rp:Rep} {H H':Hp} (k:KT H H') {c:Int×Int} {a:Addr} (h:CP rp H c a):CP rp H' c a:=by
 obtain ⟨v,h1,h2⟩:=h;exact ⟨v,k _ _ h1,h2.mono k⟩
inductive cr (vs:List V) (H:Hp) (Q:VK) (_E:XK):Prop
 | mk (rp:Rep) (a:Addr) (t:Th) (zz0:vs=[.ref a]) (zz1:AtG rp H t a) (zz2:t.size<=100000) (zz3:∀ (r:Addr) (as:List Addr) (H':Hp),L2.Same H H'->H r=none->H' r=some (.lst (as.map V.ref))->Paired (CP rp H') (bu t) as->Q (.ref r) H'):cr  vs H Q _E
def fm:Sp:=cr
theorem ok_called_in:FnOk P w K mg base CX0 3 T.g_called_in.f T.g_called_in.d ["pattern"] fm:=by
 refine T.g_called_in.F.ok mJ (fun vs H Q E h=>?_) (fun cdv A outer s H vs Q E hr h=>?_)
 · obtain ⟨rp,a,t,rfl,_⟩:=h;rfl
 obtain ⟨rp,a,t,rfl,hA,hsz,k⟩:=h;refine ⟨_,(ag (au (bY (N:=[Str.ofString "part"]) (js:=[none]) (g:=(aH 0)) (tt:=(fun σ H Q=>(gA fc [] E0 (bH (b9 0) fu)) σ H fun x H1=>∃ k,vW K x H1 k/\Q k H1)) (te:=(gA dC [] E0 (bH (b9 0) fu))) rfl (cJ rfl (by decide +kernel) (by decide +kernel) rfl rfl rfl) (cR (pcF T.g_walked (ok_walked T) hr (aa (pv 0) ac))) (fun _ _ _ _ _ _=>(am (i:=0) xJ rfl (Or.inl rfl))) (bo rfl) (fun _ _ _ _ _ _=>na (aV (pcF T.g_is_call (ok_is_call T) hr (aa (pv 0) ac)) (fun _=>rfl))) (fun _ _ _ _ _ _=>(pcF T.g_called_by (ok_called_by T) hr (aa (pv 0) ac)))))),?_⟩
 try dsimp only [cxK,cxKn]
 refine ⟨_,rfl,rp,a,t,rfl,hA,hsz,fun r as H1 s1 nr er hps=>⟨r,rfl,⟨_,SqL.of er⟩,?_⟩⟩;have hal:as.length=t.walk.length:=hps.length;have hpl:=Th.walk_len t;intro D hD;refine ⟨as.length,fun j H2=>An3 (j<=as.length) (L2.Same H1 H2) (Ex1 fun (bs:List Addr)=>An2 (H2 D=some (.lst (bs.map V.ref))) (Paired (CP rp H2) ((t.walk.take j).filterMap kM) bs)),⟨Nat.zero_le _,af hD _,[],ad,.nil⟩,?_⟩;rintro j H2 ⟨hj,s2,bs,eD,hbs⟩;by_cases hjk:j=as.length
 · left;refine ⟨⟨_,SqL.of (s2 _ _ er),by rw [List.length_map,hjk];exact Nat.le_refl _⟩,?_⟩;have hall:t.walk.take j=t.walk:=by rw [hjk,hal,List.take_length]
   rw [hall] at hbs;exact k D bs H2 (s1.trans s2) (s1.free hD) eD hbs
 · right;have hj':j<as.length:=by omega
   refine ⟨hj',⟨_,.ref as[j],SqL.of (s2 _ _ er),by rw [List.getElem?_map,List.getElem?_eq_getElem hj'];rfl⟩,?_⟩;rintro y H3 ⟨rfl,hv⟩;have hv':=hv _ (SqL.of (s2 _ _ er));obtain ⟨ta,rfl,hpr⟩:=aP hv';obtain ⟨u,hpu,e3⟩:=(hps.mono (Same.kt s2)).get hpr;have htk:t.walk.take (j+1)=t.walk.take j++[u]:=by rw [List.take_add_one,hpu];rfl
   have hbl:bs.length<=j:=by
    have g1:=Paired.length hbs;have g2:=List.length_filterMap_le kM (t.walk.take j);rw [List.length_take] at g2;omega
   refine ⟨_,rfl,rp,ta,u,rfl,e3,_,rfl,?_⟩;cases u with
   | knot n ks =>
     refine gE ⟨hj',s2,bs,eD,?_⟩;rw [htk,List.filterMap_append];show Paired (CP rp H3) ((t.walk.take j).filterMap kM++[]) bs;rw [List.append_nil];exact hbs
   | call sn kn =>
     refine iy ?_;refine ⟨_,rfl,rp,ta,sn,kn,rfl,e3,fun ca v hst hca=>?_⟩;have s4:L2.Same H3 (upd H3 ca (.tup [v,.int kn])):=af hca _;have eD4:=s4 _ _ eD;refine ⟨_,eD4,aD (by rw [List.length_map];omega),hj',aF (s2.trans s4) hD,bs++[ca],?_,?_⟩
     · rw [ad,List.map_append];rfl
     · have k5:KT (upd H3 ca (.tup [v,.int kn])) (upd (upd H3 ca (.tup [v,.int kn])) D (.lst (bs.map V.ref++[.ref ca]))):=bc eD4;rw [htk,List.filterMap_append];refine P2.append (P2.mp (fun _ _ e=>CP.mono ((Same.kt s4).trans k5) e) hbs) (.cons ⟨v,k5 _ _ ad,hst.mono ((Same.kt s4).trans k5)⟩ .nil)
def jF (x y k:Int):bU:=([Sum.inl x,Sum.inl y],Sum.inl k)
inductive dY (P:Program) (w:World) (vs:List V) (H:Hp) (Q:VK) (_E:XK):Prop
 | mk (a ta:Addr) (t:Th) (f:Int->Int->Th) (kvs:List (bU×V)) (zz0:vs=[.ref a,.ref ta]) (zz1:AtG .p H t a) (zz2:t.size<=100000) (zz3:DN P w H ta kvs) (zz4:(∀ x y k,Th.call (enc x y) k∈t.walk->0<=y->y<1000->∃ v,bE kvs (jF x y k)=some (.ref v)/\AtG .i H (f (enc x y) k) v/\(f (enc x y) k).size<=100000)) (zz5:∀ (r:Addr) (H':Hp),L2.Same H H'->AtG .i H' (t.fill f) r->Q (.ref r) H'):dY P w vs H Q _E
def iO (P:Program) (w:World):Sp:=dY P w
theorem iN:FnOk P w K mg base CX0 3 T.g_filled.f T.g_filled.d ["pattern","table"] (iO P w):=by
 refine T.g_filled.F.ok dE (fun vs H Q E h=>?_) (fun cdv A outer s H vs Q E hr h=>?_)
 · obtain ⟨a,ta,t,f,kvs,rfl,_⟩:=h;rfl
 obtain ⟨a,ta,t,f,kvs,rfl,hA,hsz,hrd,htab,k⟩:=h
 refine ⟨_,(ae (ar (i:=2) dE.nd rfl (Or.inl rfl) (bt ac))
  (ae (bP PassesOwn.never rfl (cR (pcF T.g_walked (ok_walked T) hr (aa (pv 0) ac))) (am (i:=3) dE.nd rfl (Or.inl rfl)) (ag (br (aV (pcF T.g_is_call (ok_is_call T) hr (aa (pv 3) ac)) (fun _=>rfl)) (ag (aS (ce PySem.F.plainAttrs_list PySem.F.slot_list_append PySem.F.type_list_append aQ (pv 2) (aa (aU (aa (rZ (sj hr) (pv 1) (pcF T.g_called_by (ok_called_by T) hr (aa (pv 3) ac)) (fun _ _=>rfl)) (aa ai ac))) ac)))) (ag (aS (ce PySem.F.plainAttrs_list PySem.F.slot_list_append PySem.F.type_list_append aQ (pv 2) (aa (pcF T.g_top_of (ok_top_of T) hr (aa (pv 3) ac)) ac)))))))
  (ag (au (pcF T.g_built (ok_built T) hr (aa (pv 2) ac)))))),?_⟩
 try dsimp only [cxK,cxKn]
 refine ⟨al (by show 0<=1000000;decide),fun tl htl=>?_⟩;refine ⟨_,rfl,.p,a,t,rfl,hA.mono (fD htl),hsz,fun wl as H1 s1 nwl ewl hw=>?_⟩;have hwl:as.length=t.walk.length:=hw.length;have hwz:=Th.walk_len t;have sH1:L2.Same H H1:=(af htl _).trans s1;have hwt:wl≠tl:=fun z=>by rw [z,ad] at nwl;cases nwl
 refine ⟨wl,rfl,⟨_,SqL.of ewl⟩,?_⟩
 refine dj (K:=K) (a:=wl) (xs:=as.map V.ref) (fun i σ H2=>Ex2 fun c bs=>An6 (σ=[some (.ref a),some (.ref ta),some (.ref tl),c]) (L2.Same H H2) (H2 wl=some (.lst (as.map V.ref))) (AtsG .p H2 t.walk as) (H2 tl=some (.lst (bs.map V.ref))) (Paired (TopAtG .i H2) ((t.walk.take i).map (topOf f)) bs))
  ⟨none,[],rfl,sH1,ewl,hw,s1 _ _ ad,.nil⟩ (fun i σ H2 _ ⟨_,_,_,_,e,_,_,_⟩=>SqL.of e) ?_ ?_
 · rintro i x σ H2 hx ⟨c,bs,rfl,s2,ewl2,hw2,etl,hbs⟩;obtain ⟨xa,rfl,hxa⟩:=aP hx;obtain ⟨tx,htx,atx⟩:=hw2.get hxa;have hxm:tx∈t.walk:=List.mem_of_getElem? htx;have htk:t.walk.take (i+1)=t.walk.take i++[tx]:=by rw [List.take_add_one,htx];rfl
   have hbl:bs.length<=100000:=by
    have:=Paired.length hbs;rw [List.length_map,List.length_take] at this;omega
   refine ⟨_,rfl,.p,xa,tx,rfl,atx,_,rfl,?_⟩
   have push:∀ (H3:Hp) (p:Addr),L2.Same H2 H3->TopAtG .i H3 (topOf f tx) p->Ex2 fun c bs'=>An6 (([some (.ref a),some (.ref ta),some (.ref tl),some (.ref xa)]:St)=[some (.ref a),some (.ref ta),some (.ref tl),c]) (L2.Same H (upd H3 tl (.lst (bs.map V.ref++[.ref p])))) ((upd H3 tl (.lst (bs.map V.ref++[.ref p]))) wl=some (.lst (as.map V.ref))) (AtsG .p (upd H3 tl (.lst (bs.map V.ref++[.ref p]))) t.walk as) ((upd H3 tl (.lst (bs.map V.ref++[.ref p]))) tl=some (.lst (bs'.map V.ref))) (Paired (TopAtG .i (upd H3 tl (.lst (bs.map V.ref++[.ref p])))) ((t.walk.take (i+1)).map (topOf f)) bs'):=by
    intro H3 p s3 hp;have k3:KT H3 (upd H3 tl (.lst (bs.map V.ref++[.ref p]))):=bc (s3 _ _ etl);refine ⟨_,bs++[p],rfl,aF (s2.trans s3) htl,by rw [ak hwt];exact s3 _ _ ewl2,hw2.mono ((Same.kt s3).trans k3),by rw [ad,List.map_append];rfl,?_⟩;rw [htk,List.map_append];exact P2.append (gY ((Same.kt s3).trans k3) hbs) (.cons (hp.mono k3) .nil)
   cases tx with
   | call sn kn =>
     refine iy ?_;refine ⟨_,rfl,.inl ⟨rfl,_,SqL.of etl⟩,_,rfl,_,rfl,.p,xa,sn,kn,rfl,atx,fun cb sv hst hcb=>?_⟩;refine hid fun ZZ kZ=>?_;obtain ⟨pa,x,y,rfl,epa,rfl,hx0,hy0,hy1⟩:=hst;obtain ⟨v,hv,hav,_⟩:=htab x y kn hxm hy0 hy1;refine kZ ?_;have s3:L2.Same H2 (upd H2 cb (.tup [.ref pa,.int kn])):=af hcb _;have hnk:NKAt (upd H2 cb (.tup [.ref pa,.int kn])) (jF x y kn) cb:=⟨pa,ad,s3 _ _ epa⟩;generalize (upd H2 cb (.tup [.ref pa,.int kn]))=H3 at s3 hnk ⊢;refine ⟨ta,cb,_,kvs,.ref v,rfl,rfl,hrd.mono (s2.trans s3),hnk,hv,al (by show 2<=1000000;decide),fun p hp=>?_⟩;have s4:=s3.trans (af hp (.tup [.ref v,.int 0]));refine ⟨tl,_,_,rfl,rfl,s4 _ _ etl,aD (by rw [List.length_map];omega),?_⟩;exact push _ p s4 ⟨v,ad,hav.mono (Same.kt (s2.trans s4))⟩
   | knot nm us =>
     refine gE ?_;refine ⟨_,rfl,.inl ⟨rfl,_,SqL.of etl⟩,_,rfl,.p,xa,.knot nm us,rfl,atx,fun p H3 s3 hp=>?_⟩;refine ⟨tl,_,_,rfl,rfl,s3 _ _ etl,aD (by rw [List.length_map];omega),?_⟩;exact push _ p s3 hp
 · rintro σ H2 ⟨c,bs,rfl,s2,ewl2,hw2,etl,hbs⟩;rw [List.length_map,hwl,List.take_length] at hbs;obtain ⟨b1,b2⟩:=nn f t;refine ⟨_,rfl,.i,tl,bs,_,t.fill f,rfl,etl,hbs,by rw [List.length_map];omega,b2,?_,b1,fun r H3 s3 hr3=>k r H3 (s2.trans s3) hr3⟩;intro u hu;obtain ⟨x,hx,e⟩:=List.mem_map.mp hu;cases x with
   | knot nm us=>cases e
   | call sn kn =>
     cases e;refine hid fun ZZ kZ=>?_;obtain ⟨xa,hxa,hat⟩:=hw2.at (List.mem_iff_getElem?.mp hx).choose_spec;rw [AtG] at hat;obtain ⟨sv,_,pa,x,y,_,_,rfl,_,hy0,hy1⟩:=hat;obtain ⟨v,_,_,hz⟩:=htab x y kn hx hy0 hy1;refine kZ ?_;exact hz
theorem jh {t:Th} {s k:Int} (h:Th.call s k∈t.walk):(s,k)∈bu t:=List.mem_filterMap.mpr ⟨_,h,rfl⟩
theorem kE {t:Th} {c:Int×Int} (h:c∈bu t):c.1∈stT t:=List.mem_map.mpr ⟨c,h,rfl⟩
inductive cB (P:Program) (w:World) (vs:List V) (H:Hp) (Q:VK) (_E:XK):Prop
 | mk (a nd:Addr) (t:Th) (g:Int->Int) (kvs:List (List Key×V)) (zz0:vs=[.ref a,.ref nd]) (zz1:AtG .p H t a) (zz2:t.size<=100000) (zz3:H nd=some (.dT kvs)) (zz4:(∀ x y,enc x y∈stT t->0<=x->0<=y->y<1000->bE kvs [Sum.inl x,Sum.inl y]=some (.int (g (enc x y))))) (zz5:∀ (r:Addr) (H':Hp),L2.Same H H'->AtG .i H' (ren g t) r->Q (.ref r) H'):cB P w vs H Q _E
def fN (P:Program) (w:World):Sp:=cB P w
set_option maxHeartbeats 1000000 in
theorem fV:FnOk P w K mg base CX0 4 T.g_restated.f T.g_restated.d ["pattern","names"] (fN P w):=by
 refine T.g_restated.F.ok bM (fun vs H Q E h=>?_) (fun cdv A outer s H vs Q E hr h=>?_)
 · obtain ⟨a,nd,t,g,kvs,rfl,_⟩:=h;rfl
 obtain ⟨a,nd,t,g,kvs,rfl,hA,hsz,end',hval,k⟩:=h
 refine ⟨_,(ae (ar (i:=2) bM.nd rfl (Or.inl rfl) tQ)
  (ae (bP PassesOwn.never rfl (cR (pcF T.g_called_in (ok_called_in T) hr (aa (pv 0) ac))) (cH rfl (aE (am (i:=3) bM.nd rfl (Or.inl rfl)) (aE (am (i:=4) bM.nd rfl (Or.inl rfl)) bX))) (ag (sQ (sj hr) (pv 2) (aU (aa (pv 3) (aa (pv 4) ac))) (aU (aa (bF (v:=.str (Str.ofString "?")) rfl T.c_CALL_SIGN.choose_spec ⟨_,rfl⟩) (aa (mW (pe hr) (pv 1) (pv 3) (fun _ _=>rfl)) (aa (pv 4) ac)))) rfl)))
  (ag (au (pcF T.g_filled (iN T) hr (aa (pv 0) (aa (pv 2) ac))))))),?_⟩
 try dsimp only [cxK,cxKn]
 intro td H1 htd s1 e1;dsimp only [aH];refine ⟨_,rfl,.p,a,t,rfl,hA.mono (Same.kt s1),hsz,fun r as H2 s2 nr er hcs=>⟨r,rfl,⟨_,SqL.of er⟩,?_⟩⟩;have hcl:(bu t).length=as.length:=Paired.length hcs
 have hcw:(bu t).length<=100000:=by
  have h1:=List.length_filterMap_le kM t.walk;have h2:=Th.walk_len t;unfold bu;omega
 have hrt:r≠td:=fun z=>by
  obtain ⟨_,_,_,φ,e,_⟩:=e1;rw [z,e] at nr;cases nr
 refine dj (K:=K) (a:=r) (xs:=as.map V.ref) (fun i σ H3=>Ex3 fun (c3 c4:Option V) (tk:List (bU×V))=>An7 (σ=[some (.ref a),some (.ref nd),some (.ref td),c3,c4]) (L2.Same H H3) (H3 r=some (.lst (as.map V.ref))) (Paired (CP .p H3) (bu t) as) (DN P w H3 td tk) (tk.length<=i) (∀ c∈(bu t).take i,∀ x y,c.1=enc x y->0<=y->y<1000->∃ v,bE tk (jF x y c.2)=some (.ref v)/\AtG .i H3 (.call (g c.1) c.2) v))
  ⟨none,none,[],rfl,s1.trans s2,er,hcs,e1.mono s2,Nat.le_refl _,fun c hc=>by rw [List.take_zero] at hc;cases hc⟩ (fun i σ H3 _ ⟨_,_,_,_,_,e,_,_,_,_⟩=>SqL.of e) ?_ ?_
 · rintro i x σ H3 hx ⟨c3,c4,tk,rfl,s3,er3,hcs3,et3,hlen,hall⟩;refine hid fun ZZ kZ=>?_;obtain ⟨ca,rfl,hca⟩:=aP hx;obtain ⟨⟨sn,kn⟩,hc,sv,ec',hst⟩:=P2.get' hcs3 hca;obtain ⟨pa,x,y,rfl,epa,hxy,hx0,hy0,hy1⟩:=hst;refine kZ ?_;dsimp only at hxy ec';subst hxy;have hil:i<100000:=by have:=(List.getElem?_eq_some_iff.mp hc).1;omega
   have hgs:=hval x y (kE (List.mem_of_getElem? hc)) hx0 hy0 hy1;refine ⟨ca,_,rfl,SqT.of ec',rfl,_,_,rfl,_,_,rfl,rfl,?_⟩;dsimp only [aH];have end3:=s3 _ _ end';refine ⟨_,rfl,_,rfl,nd,.int (g (enc x y)),rfl,.inr ⟨kvs,[.inl x,.inl y],pa,.inl end3,rfl,epa,hgs.symm⟩,_,rfl,al (by show 3<=1000000;decide),fun cv hcv=>?_⟩;have s4:L2.Same H3 (upd H3 cv (.tup [.str (Str.ofString "?"),.int (g (enc x y)),.int kn])):=af hcv _;have e4:AtG .i (upd H3 cv (.tup [.str (Str.ofString "?"),.int (g (enc x y)),.int kn])) (.call (g (enc x y)) kn) cv:=by rw [AtG];exact ⟨_,ad,rfl⟩
   generalize (upd H3 cv (.tup [.str (Str.ofString "?"),.int (g (enc x y)),.int kn]))=H4 at s4 e4 ⊢;refine ⟨_,rfl,_,rfl,_,rfl,al (by show 2<=1000000;decide),fun kp hkp=>?_⟩;have s5:L2.Same H4 (upd H4 kp (.tup [.ref pa,.int kn])):=af hkp _;have e5:NKAt (upd H4 kp (.tup [.ref pa,.int kn])) (jF x y kn) kp:=⟨pa,ad,s5 _ _ (s4 _ _ epa)⟩;generalize (upd H4 kp (.tup [.ref pa,.int kn]))=H5 at s5 e5 ⊢;have s35:=s4.trans s5;have et5:=et3.mono s35;refine ⟨td,kp,_,tk,rfl,rfl,et5,e5,aD (by omega),fun H6 sb6 et6=>?_⟩
   have k6:KT H5 H6:=fun b xs e=>sb6 b _ (fun z=>by
    obtain ⟨_,_,_,φ,e',_⟩:=et5;rw [z,e'] at e;cases e) e
   have k36:=(Same.kt s35).trans k6;refine ⟨_,_,_,rfl,fun b o e=>sb6 b o (ao e htd) ((s3.trans s35) b o e),sb6 _ _ hrt (s35 _ _ er3),P2.mp (fun _ _ e=>CP.mono k36 e) hcs3,et6,?_,fun c hc' x' y' hxy' hy0' hy1'=>?_⟩
   · have:=b7 tk (jF x y kn) (.ref cv);omega
   · rw [oS];by_cases hcc:jF x' y' c.2=jF x y kn
     · rw [if_pos hcc];unfold jF at hcc;injection hcc with h1 h2;injection h1 with h3 h4;injection h4 with h5 _;have e1:x'=x:=Sum.inl.inj h3;have e2:y'=y:=Sum.inl.inj h5;have e3:c.2=kn:=Sum.inl.inj h2;exact ⟨cv,rfl,by rw [hxy',e1,e2,e3];exact (e4.mono (Same.kt s5)).mono k6⟩
     · rw [if_neg hcc];rw [take_snoc hc] at hc';rcases List.mem_append.mp hc' with h | h
       · obtain ⟨v,h1,h2⟩:=hall c h x' y' hxy' hy0' hy1';exact ⟨v,h1,h2.mono k36⟩
       · refine absurd ?_ hcc;rw [List.mem_singleton.mp h] at hxy' ⊢;obtain ⟨h1,h2⟩:=uP hxy' hy0 hy1 hy0' hy1';rw [h1,h2]
 · rintro σ H3 ⟨c3,c4,tk,rfl,s3,er3,hcs3,et3,hlen,hall⟩;rw [List.take_of_length_le (by rw [List.length_map];omega)] at hall;refine ⟨_,rfl,_,rfl,a,td,t,fun s k=>.call (g s) k,tk,rfl,hA.mono (Same.kt s3),hsz,et3,fun x y k' hk' hy0 hy1=>?_,fun r' H4 s4 h4=>k r' H4 (s3.trans s4) h4⟩;obtain ⟨v,h1,h2⟩:=hall (enc x y,k') (jh hk') x y rfl hy0 hy1;exact ⟨v,h1,h2,by rw [Th.size];decide⟩
def kP (s:Int):List Key:=[Sum.inl (s / 1000),Sum.inl (s%1000)]
theorem r6 {x y:Int} (h0:0<=y) (h1:y<1000):kP (enc x y)=[Sum.inl x,Sum.inl y]:=by
 unfold kP enc;rw [show (1000 * x+y) / 1000=x by omega,show (1000 * x+y)%1000=y by omega]
theorem vH {a b:Int} (h:kP a=kP b):a=b:=by
 unfold kP at h;injection h with h1 h2;injection h2 with h2 _;have e1:=Sum.inl.inj h1;have e2:=Sum.inl.inj h2;omega
def bi (m:List Int):List (List Key×V):=m.zipIdx.map fun p=>(kP p.1,V.int (p.2:Nat))
theorem dU (m:List Int):(bi m).length=m.length:=by unfold bi;rw [List.length_map,List.length_zipIdx]
theorem iT (m:List Int) (s:Int):bi (m++[s])=bi m++[(kP s,V.int (m.length:Nat))]:=by
 unfold bi;rw [List.zipIdx_append,List.map_append];simp
theorem dI:∀ (m:List Int) (s:Int) (n:Nat),bE ((m.zipIdx n).map fun p=>(kP p.1,V.int (p.2:Nat))) (kP s)=if s∈m then some (.int ((n+m.idxOf s:Nat):Int)) else none
 | [],s,n=>rfl
 | x::m,s,n=>by
   rw [List.zipIdx_cons,List.map_cons];by_cases h:x=s
   · subst h;rw [bz rfl,if_pos (List.mem_cons_self ..),List.idxOf_cons_self];rfl
   · rw [bC (fun z=>h (vH z)),dI m s (n+1)];by_cases hm:s∈m
     · rw [if_pos hm,if_pos (List.mem_cons_of_mem _ hm),List.idxOf_cons,(beq_eq_false_iff_ne.mpr h:(x == s)=false)];simp only [cond_false];have:n+1+m.idxOf s=n+(m.idxOf s+1):=by omega
       rw [this]
     · rw [if_neg hm,if_neg (fun z=>(List.mem_cons.mp z).elim (fun y=>h y.symm) hm)]
theorem iC {m:List Int} {s:Int} (h:s∈m):bE (bi m) (kP s)=some (.int (idx m s)):=by
 unfold bi;rw [dI,if_pos h,Nat.zero_add];rfl
theorem kQ {m:List Int} {s:Int} (h:s∉m):bE (bi m) (kP s)=none:=by
 unfold bi;rw [dI,if_neg h]
inductive cY (P:Program) (w:World) (vs:List V) (H:Hp) (Q:VK) (_E:XK):Prop
 | mk (a nd:Addr) (t:Th) (m:List Int) (zz0:vs=[.ref a,.ref nd]) (zz1:AtG .p H t a) (zz2:t.size<=100000) (zz3:H nd=some (.dT (bi m))) (zz4:(aC m (stT t)).length<=20) (zz5:∀ (r:Addr) (H':Hp),SameB nd H H'->H' nd=some (.dT (bi (aC m (stT t))))->AtG .i H' (ren (idx (aC m (stT t))) t) r->Q (.ref r) H'):cY P w vs H Q _E
def d4 (P:Program) (w:World):Sp:=cY P w
theorem dZ:FnOk P w K mg base CX0 5 T.g_renamed.f T.g_renamed.d ["pattern","numbers"] (d4 P w):=by
 refine T.g_renamed.F.ok cL (fun vs H Q E h=>?_) (fun cdv A outer s H vs Q E hr h=>?_)
 · obtain ⟨a,nd,t,m,rfl,_⟩:=h;rfl
 obtain ⟨a,nd,t,m,rfl,hA,hsz,end',h20,k⟩:=h
 refine ⟨_,(ae (bP PassesOwn.never rfl (cR (pcF T.g_called_in (ok_called_in T) hr (aa (pv 0) ac))) (cH rfl (aE (am (i:=2) cL.nd rfl (Or.inl rfl)) (aE (am (i:=3) cL.nd rfl (Or.inl rfl)) bX))) (ag (aS (ce PySem.F.plainAttrs_dict PySem.F.slot_dict_setdefault PySem.F.type_dict_setdefault (lK (pe hr)) (pv 1) (aa (pv 2) (aa (ax jb rfl T.n_len PySem.boot_len (aa (pv 1) ac)) ac))))))
  (ae (br (aN fI (ax jb rfl T.n_len PySem.boot_len (aa (pv 1) ac)) (bF (v:=.int (20)) rfl T.c_MOST_STATES.choose_spec ⟨_,rfl⟩) (aJ _)) (ag cF) aR)
  (ag (au (pcF T.g_restated (fV T) hr (aa (pv 0) (aa (pv 1) ac))))))),?_⟩
 try dsimp only [cxK,cxKn]
 refine ⟨_,rfl,.p,a,t,rfl,hA,hsz,fun r as H1 s1 nr er hcs=>⟨r,rfl,⟨_,SqL.of er⟩,?_⟩⟩;have hcl:(bu t).length=as.length:=Paired.length hcs;have hrn:r≠nd:=fun z=>by rw [z,end'] at nr;cases nr
 refine dj (K:=K) (a:=r) (xs:=as.map V.ref) (fun i σ H3=>Ex2 fun c2 c3=>An6 (σ=[some (.ref a),some (.ref nd),c2,c3]) (SameB nd H H3) (KT H H3) (H3 r=some (.lst (as.map V.ref))) (Paired (CP .p H3) (bu t) as) (H3 nd=some (.dT (bi (aC m ((stT t).take i))))))
  ⟨none,none,rfl,SameB.of s1,Same.kt s1,er,hcs,by rw [List.take_zero];exact s1 _ _ end'⟩ (fun i σ H3 _ ⟨_,_,_,_,_,e,_,_⟩=>SqL.of e) ?_ ?_
 · rintro i x σ H3 hx ⟨c2,c3,rfl,s3,k3,er3,hcs3,en3⟩;refine hid fun ZZ kZ=>?_;obtain ⟨ca,rfl,hca⟩:=aP hx;obtain ⟨⟨sn,kn⟩,hc,sv,ec',hstv⟩:=P2.get' hcs3 hca;obtain ⟨pa,x,y,rfl,epa,hxy,hx0,hy0,hy1⟩:=hstv;refine kZ ?_;dsimp only at hxy ec';have hkp:[Sum.inl x,Sum.inl y]=kP sn:=by rw [hxy,r6 hy0 hy1]
   have hst:(stT t)[i]?=some sn:=by unfold stT;rw [List.getElem?_map,hc];rfl
   have htk:aC m ((stT t).take (i+1))=dq (aC m ((stT t).take i)) sn:=by
    rw [take_snoc hst,bL];rfl
   have hsub:(dq (aC m ((stT t).take i)) sn).length<=20:=by
    have h1:aC m (stT t)=aC (aC m ((stT t).take (i+1))) ((stT t).drop (i+1)):=by rw [<- bL,List.take_append_drop]
    have h2:=(df ((stT t).drop (i+1)) (aC m ((stT t).take (i+1)))).length_le;rw [<- h1,htk] at h2;omega
   generalize aC m ((stT t).take i)=mi at en3 htk hsub ⊢;have hmi:=(lm mi sn).length_le;refine ⟨ca,_,rfl,SqT.of ec',rfl,_,_,rfl,_,_,rfl,rfl,?_⟩;dsimp only [aH];have hl:=dU mi;refine ⟨_,rfl,.inr (.inr (.inl ⟨rfl,.inr ⟨_,en3⟩⟩)),_,rfl,_,rfl,nd,_,rfl,en3,nd,pa,.int ((bi mi).length:Nat),kP sn,bi mi,rfl,rfl,en3,by rw [<- hkp];exact epa,aD (by omega),fun u hu=>?_,fun hu=>?_⟩
   · have hin:sn∈mi:=by
      by_cases h:sn∈mi
      · exact h
      · rw [kQ h] at hu;cases hu
     refine ⟨_,_,rfl,s3,k3,er3,hcs3,?_⟩;rw [htk];unfold dq;rw [if_pos hin];exact en3
   · have hin:sn∉mi:=fun h=>by rw [iC h] at hu;cases hu
     have eput:putK (bi mi) (kP sn) (.int ((bi mi).length:Nat))=bi (dq mi sn):=by
      rw [lp _ hu];unfold dq;rw [if_neg hin,iT,hl]
     rw [eput];have k4:KT H3 (upd H3 nd (.dT (bi (dq mi sn)))):=fun b xs e=>by rw [ak (cK e en3 (fun z=>nomatch z))];exact e
     refine ⟨_,_,rfl,fun b o hb e=>by rw [ak hb];exact s3 b o hb e,k3.trans k4,by rw [ak hrn];exact er3,P2.mp (fun _ _ e=>CP.mono k4 e) hcs3,by rw [ad,htk]⟩
 · rintro σ H3 ⟨c2,c3,rfl,s3,k3,er3,hcs3,en3⟩;have hsl:(stT t).length=as.length:=by unfold stT;rw [List.length_map];omega
   rw [List.take_of_length_le (by rw [List.length_map];omega)] at en3;have hl:=dU (aC m (stT t));dsimp only [sC];refine bJ (fun σ' H'=>An2 (H3=H') (σ'=[some (.ref a),some (.ref nd),c2,c3])) (fun kk hk=>?_) ?_
   · refine ⟨_,rfl,nd,_,rfl,en3,_,_,rfl,rfl,_,rfl,?_⟩;refine cq (fun c=>?_) (fun c=>hk _ _ ⟨rfl,rfl⟩);have:=of_decide_eq_true c;omega
   rintro σ' H' ⟨rfl,rfl⟩;exact ⟨_,rfl,_,rfl,a,nd,t,idx (aC m (stT t)),_,rfl,hA.mono k3,hsz,en3,fun x y hs _ hy0 hy1=>by rw [<- r6 hy0 hy1];exact iC (bj.mpr (.inr hs)),fun r' H4 s4 h4=>k r' H4 (fun b o hb e=>s4 _ _ (s3 b o hb e)) (s4 _ _ en3) h4⟩
inductive cC (P:Program) (w:World) (K:PySem.W.Frag) (mg:Str->Option Value) (base:Heap) (vs:List V) (H:Hp) (Q:VK) (_E:XK):Prop
 | mk (ia oa ha f:Addr) (head:Th) (R:Int->List Th) (spf:Sp) (zz0:vs=[.ref ia,.ref oa,.ref ha,.ref f]) (zz1:AtG .p H head ha) (zz2:head.size<=1000) (zz3:(bd R head).length<=20) (zz4:(∀ s∈bd R head,(R s).length<=8/\∀ t∈R s,t.size<=1000)) (zz5:pi P w K mg base CX0 9 f spf) (zz6:(∀ (H1:Hp) (s:Int) (pa:Addr) (Z:VK),L2.Same H H1->s∈bd R head->H1 pa=some (.tup [.int (s / 1000),.int (s%1000)])->(∀ (r:Addr) (as:List Addr) (H2:Hp),L2.Same H1 H2->H2 r=some (.lst (as.map V.ref))->AtsG .p H2 (R s) as->Z (.ref r) H2)->spf [.ref pa] H1 Z E0)) (zz7:∀ (r fh rl:Addr) (rls:List Addr) (H':Hp),L2.Same H H'->H' r=some (.tup [.ref ia,.ref oa,.ref fh,.ref rl])->At H' (ren (idx (bd R head)) head) fh->H' rl=some (.tup (rls.map V.ref))->Paired (RowAt H') ((bd R head).map fun s=>(R s).map (ren (idx (bd R head)))) rls->Q (.ref r) H'):cC P w K mg base vs H Q _E
def fS (P:Program) (w:World) (K:PySem.W.Frag) (mg:Str->Option Value) (base:Heap):Sp:=cC P w K mg base
theorem da (a b:List Th):aX (a++b)=aX a++aX b:=List.flatMap_append
theorem r8 {m:List Int} {i:Nat} {s:Int} (h:m[i]?=some s):(bi m)[i]?=some (kP s,V.int (i:Nat)):=by
 unfold bi;rw [List.getElem?_map,List.getElem?_zipIdx,h];simp
set_option maxHeartbeats 2000000 in
theorem fL:FnOk P w K mg base CX0 12 T.g_numbered.f T.g_numbered.d ["ins","outs","head","patterns_of"] (fS P w K mg base):=by
 refine T.g_numbered.F.ok bp (fun vs H Q E h=>?_) (fun cdv A outer s H vs Q E hr h=>?_)
 · obtain ⟨ia,oa,ha,f,head,R,spf,rfl,_⟩:=h;rfl
 obtain ⟨ia,oa,ha,f,head,R,spf,rfl,hA,hsz,hM20,hrs,hfv,hspf,k⟩:=h
 refine ⟨_,(ae (ar (i:=4) bp.nd rfl (Or.inr rfl) nY)
  (ae (ar (i:=5) bp.nd rfl (Or.inl rfl) (pcF T.g_renamed (dZ T) hr (aa (pv 2) (aa (pv 4) ac))))
  (ae (ar (i:=6) bp.nd rfl (Or.inl rfl) (bt ac))
  (ae (eT PassesOwn.never (aN oZ (ax ay rfl T.n_len PySem.boot_len (aa (pv 6) ac)) (ax jb rfl T.n_len PySem.boot_len (aa (pv 4) ac)) (aJ _)) (ae (ar (i:=7) bp.nd rfl (Or.inl rfl) (aK cT (aG (kL rfl) rfl T.n_list PyProof.Rows.boot_list (aa (pv 4) ac)) (ax ay rfl T.n_len PySem.boot_len (aa (pv 6) ac)) (fun _ _=>rfl)))
  (ag (aS (ce PySem.F.plainAttrs_list PySem.F.slot_list_append PySem.F.type_list_append aQ (pv 6) (aa (aG aB rfl T.n_tuple PyProof.Rows.boot_tuple (aa (bY (N:=[Str.ofString "pattern",Str.ofString "numbers"]) (js:=[none,some 4]) (g:=(aH 0)) (tt:=bn) (te:=(gA (d4 P w) [] E0 (bH (b9 0) (bH (b9 1) fu)))) rfl (cJ rfl (by decide +kernel) (by decide +kernel) rfl rfl rfl) (pE (nV (k:=9) (i:=3) rfl (Or.inl rfl) (hr.mono (by first | decide | omega)) dM (aa (pv 7) ac))) (fun _ _ _ _ _ _=>(am (i:=0) w9 rfl (Or.inl rfl))) (bo rfl) (fun _ _ _ _ _ _=>bN) (fun _ _ _ _ _ _=>(pcF T.g_renamed (dZ T) hr (aa (pv 0) (aa (pv 1) ac))))) ac)) ac))))))
  (ag (au (aU (aa (pv 0) (aa (pv 1) (aa (pv 5) (aa (aG aB rfl T.n_tuple PyProof.Rows.boot_tuple (aa (pv 6) ac)) ac))))))))))),?_⟩
 try dsimp only [cxK,cxKn]
 have hpre0:aC [] (stT head) <+: bd R head:=dD _ _ _ _;intro nd hnd;dsimp only [aH];have s1:L2.Same H (upd H nd (.dT [])):=af hnd _;have e1:(upd H nd (.dT [])) nd=some (.dT (bi [])):=ad;generalize (upd H nd (.dT []))=H1 at s1 e1 ⊢;refine ⟨_,rfl,_,rfl,ha,nd,head,[],rfl,hA.mono (Same.kt s1),by omega,e1,Nat.le_trans hpre0.length_le hM20,fun fh H2 sb2 en2 h2=>?_⟩;dsimp only [aH];have eren:ren (idx (aC [] (stT head))) head=ren (idx (bd R head)) head:=i6 head fun x hx=>(jV hpre0 (bj.mpr (.inr hx))).symm;rw [eren] at h2;have h2:=h2.i;have s2:L2.Same H H2:=fun b o e=>sb2 b o (ao e hnd) (s1 b o e);refine ⟨al (by show 0<=1000000;decide),fun rl hrl=>?_⟩;have s3:L2.Same H2 (upd H2 rl (.lst [])):=af hrl _;have e3:(upd H2 rl (.lst [])) rl=some (.lst []):=ad;have hrlH:H rl=none:=s2.free hrl;have hndrl:nd≠rl:=fun z=>by rw [<- z,en2] at hrl;cases hrl
 generalize (upd H2 rl (.lst []))=H3 at s3 e3 ⊢
 refine ⟨fun mz σ H4=>Ex4 fun (i:Nat) (mm:List Int) (bs:List Addr) (tv:Option V)=>tG (σ=[some (.ref ia),some (.ref oa),some (.ref ha),some (.ref f),some (.ref nd),some (.ref fh),some (.ref rl),tv]) (L2.Same H H4) (H4 nd=some (.dT (bi mm))) (H4 rl=some (.lst (bs.map V.ref))) (Paired (RowAt H4) (((bd R head).take i).map fun s=>(R s).map (ren (idx (bd R head)))) bs) (At H4 (ren (idx (bd R head)) head) fh) (mm <+: bd R head) (bfs R (21 - i) mm i=bd R head) (i<=mm.length) (mz=21 - i),
  ⟨_,0,aC [] (stT head),[],none,rfl,s2.trans s3,s3 _ _ en2,e3,.nil,h2.mono (Same.kt s3),hpre0,rfl,Nat.zero_le _,rfl⟩,?_⟩
 rintro mz σ H4 ⟨i,mm,bs,tv,rfl,s4,en4,er4,hbs,hfh,hpre,hbfs,hi,rfl⟩;have hmm:=hpre.length_le
 have hbl:bs.length=i:=by
  have:=Paired.length hbs;rw [List.length_map,List.length_take] at this;omega
 have hnl:=dU mm;refine ⟨_,rfl,rl,_,rfl,.inl (SqL.of er4),_,rfl,nd,_,rfl,en4,_,_,rfl,rfl,_,rfl,?_⟩;refine cq (fun cc=>?_) (fun cc=>?_)
 · have hlt:i<mm.length:=by
    have:=of_decide_eq_true cc;rw [List.length_map] at this;omega
   refine ⟨fun σ' H'=>∃ m',m'<21 - i/\Ex4 fun (i:Nat) (mm:List Int) (bs:List Addr) (tv:Option V)=>tG (σ'=[some (.ref ia),some (.ref oa),some (.ref ha),some (.ref f),some (.ref nd),some (.ref fh),some (.ref rl),tv]) (L2.Same H H') (H' nd=some (.dT (bi mm))) (H' rl=some (.lst (bs.map V.ref))) (Paired (RowAt H') (((bd R head).take i).map fun s=>(R s).map (ren (idx (bd R head)))) bs) (At H' (ren (idx (bd R head)) head) fh) (mm <+: bd R head) (bfs R (21 - i) mm i=bd R head) (i<=mm.length) (m'=21 - i),fun σ' H' h=>h,?_⟩;obtain ⟨sn,hsn⟩:∃ sn,mm[i]?=some sn:=⟨_,List.getElem?_eq_getElem hlt⟩
   have hMi:(bd R head)[i]?=some sn:=by
    obtain ⟨rr,hrr⟩:=hpre;rw [<- hrr,List.getElem?_append_left hlt];exact hsn
   have hsM:sn∈bd R head:=List.mem_of_getElem? hMi;refine ⟨_,rfl,nd,_,rfl,en4,fun l bs' hl hbs'=>?_⟩;obtain ⟨pa,hpa,epa4⟩:=P2.get hbs' (r8 hsn);have s5:L2.Same H4 (upd H4 l (.lst (bs'.map V.ref))):=af hl _;have e5:(upd H4 l (.lst (bs'.map V.ref))) l=some (.lst (bs'.map V.ref)):=ad;generalize (upd H4 l (.lst (bs'.map V.ref)))=H5 at s5 e5 ⊢;have er5:=s5 _ _ er4;have en5:=s5 _ _ en4;have hbm:(bs.map V.ref).length=i:=by rw [List.length_map];exact hbl
   refine ⟨_,rfl,rl,_,rfl,.inl (SqL.of er5),l,_,_,.ref pa,rfl,rfl,SqL.of e5,at_nonneg (by omega) (by rw [hbm,Int.toNat_natCast,List.getElem?_map,hpa];rfl),?_⟩;dsimp only [aH];refine ⟨_,rfl,.inl ⟨rfl,_,SqL.of er5⟩,f,spf,rfl,hfv,_,rfl,hspf H5 sn pa _ (s4.trans s5) hsM (s5 _ _ epa4) fun r as H6 s6 er6 hats=>⟨r,rfl,.inl ⟨⟨_,SqL.of er6⟩,?_⟩⟩⟩;obtain ⟨hrow8,hrowz⟩:=hrs sn hsM;generalize hrow:R sn=row at hats hrow8 hrowz;have hal:=hats.length
   have hstep:bfs R (21 - i) mm i=bfs R (21 - (i+1)) (aC mm (aX row)) (i+1):=by
    rw [show 21 - i=(21 - (i+1))+1 by omega,bfs,hsn];show bfs R (21 - (i+1)) (aC mm (aX (R sn))) (i+1)=_;rw [hrow]
   rw [hstep] at hbfs;have hpre':aC mm (aX row) <+: bd R head:=by rw [<- hbfs];exact dD _ _ _ _
   have en6:=s6 _ _ en5;have er66:=s6 _ _ er5;have s06:=s4.trans (s5.trans s6);have hrnd:r≠nd:=fun z=>by rw [z,en6] at er6;cases er6
   intro D hD;have hDnd:D≠nd:=fun z=>by rw [z,en6] at hD;cases hD
   have hDrl:D≠rl:=fun z=>by rw [z,er66] at hD;cases hD
   have kt6:∀ (H7:Hp),SameB nd H6 H7->KT H6 H7:=fun H7 sb b xs e=>sb b _ (cK e en6 (fun z=>nomatch z)) e
   refine ⟨as.length,fun j H7=>An4 (j<=as.length) (SameB nd H6 H7) (H7 nd=some (.dT (bi (aC mm (aX (row.take j)))))) (Ex1 fun (ds:List Addr)=>An2 (H7 D=some (.lst (ds.map V.ref))) (Ats H7 ((row.take j).map (ren (idx (bd R head)))) ds)),
    ⟨Nat.zero_le _,SameB.of (af hD _),by rw [ak hDnd.symm];exact en6,[],ad,.nil⟩,?_⟩
   rintro j H7 ⟨hj,sb7,en7,ds,eD,hds⟩;have er7:H7 r=some (.lst (as.map V.ref)):=sb7 _ _ hrnd er6
   have hdl:ds.length=j:=by
    have:=hds.length;rw [List.length_map,List.length_take] at this;omega
   by_cases hjk:j=as.length
   · left;refine ⟨⟨_,SqL.of er7,by rw [List.length_map,hjk];exact Nat.le_refl _⟩,?_⟩;have hall:row.take j=row:=by rw [hjk,hal,List.take_length]
     rw [hall] at hds en7;have s07:L2.Same H H7:=fun b o e=>sb7 b o (ao e hnd) (s06 b o e);have er77:H7 rl=some (.lst (bs.map V.ref)):=sb7 _ _ hndrl.symm er66;refine ⟨D,_,rfl,.inl ⟨SqL.of eD,fun tp htp=>?_⟩⟩;have s8:L2.Same H7 (upd H7 tp (.tup (ds.map V.ref))):=af htp _;have e8:(upd H7 tp (.tup (ds.map V.ref))) tp=some (.tup (ds.map V.ref)):=ad;generalize (upd H7 tp (.tup (ds.map V.ref)))=H8 at s8 e8 ⊢;have er8:=s8 _ _ er77;refine ⟨rl,_,_,rfl,rfl,er8,aD (by rw [List.length_map];omega),?_⟩;have k9:KT H8 (upd H8 rl (.lst (bs.map V.ref++[.ref tp]))):=bc er8;have k49:KT H4 (upd H8 rl (.lst (bs.map V.ref++[.ref tp]))):=((Same.kt (s5.trans s6)).trans (kt6 H7 sb7)).trans ((Same.kt s8).trans k9);refine ⟨21 - (i+1),by omega,i+1,aC mm (aX row),bs++[tp],_,rfl,aF (s07.trans s8) hrlH,by rw [ak hndrl];exact s8 _ _ en7,by rw [ad,List.map_append];rfl,?_,hfh.mono k49,hpre',hbfs,Nat.le_trans hlt (df _ _).length_le,rfl⟩;rw [take_snoc hMi,List.map_append];refine P2.append (P2.mp (fun _ _ e=>RowAt.mono k49 e) hbs) (.cons ⟨ds,k9 _ _ e8,?_⟩ .nil);dsimp only;rw [hrow];exact hds.mono ((Same.kt s8).trans k9)
   · right;have hj':j<as.length:=by omega
     refine ⟨hj',⟨_,.ref as[j],SqL.of er7,by rw [List.getElem?_map,List.getElem?_eq_getElem hj'];rfl⟩,?_⟩;rintro y H8 ⟨rfl,hv⟩;have hv':=hv _ (SqL.of er7);obtain ⟨ta,rfl,hta⟩:=aP hv';obtain ⟨t,ht,hat⟩:=(hats.mono (kt6 _ sb7)).get hta;have htk:row.take (j+1)=row.take j++[t]:=by rw [List.take_add_one,ht];rfl
     have hadd:aC mm (aX (row.take (j+1)))=aC (aC mm (aX (row.take j))) (stT t):=by
      rw [htk,da,bL];show aC _ (stT t++[])=_;rw [List.append_nil]
     have hpj:aC mm (aX (row.take (j+1))) <+: bd R head:=by
      refine List.IsPrefix.trans ?_ hpre';have:aC mm (aX row)=aC (aC mm (aX (row.take (j+1)))) (aX (row.drop (j+1))):=by rw [<- bL,<- da,List.take_append_drop]
      rw [this];exact df _ _
     rw [hadd] at hpj;have hzt:=hrowz t (List.mem_of_getElem? ht);refine ⟨_,rfl,_,rfl,ta,nd,t,_,rfl,hat,by omega,en7,Nat.le_trans hpj.length_le hM20,fun r' H9 sb9 en9 h9=>?_⟩;have h9:=h9.i;have er':ren (idx (aC (aC mm (aX (row.take j))) (stT t))) t=ren (idx (bd R head)) t:=i6 t fun x hx=>(jV hpj (bj.mpr (.inr hx))).symm;rw [er'] at h9;have eD9:=sb9 _ _ hDnd eD;have k89:KT H8 H9:=fun b xs e=>sb9 b _ (cK e en7 (fun z=>nomatch z)) e;have kA:KT H9 (upd H9 D (.lst (ds.map V.ref++[.ref r']))):=bc eD9;refine ⟨_,eD9,aD (by rw [List.length_map];omega),hj',fun b o hb e=>?_,?_,ds++[r'],?_,?_⟩
     · rw [ak (ao e hD)];exact sb9 b o hb (sb7 b o hb e)
     · rw [ak hDnd.symm,hadd];exact en9
     · rw [ad,List.map_append];rfl
     · rw [htk,List.map_append];exact (hds.mono (k89.trans kA)).append (.cons (h9.mono kA) .nil)
 · have hge:i=mm.length:=by
    by_cases h:i<mm.length
    · exact absurd (decide_eq_true (by rw [List.length_map];omega)) cc
    · omega
   have hMm:bd R head=mm:=by rw [<- hbfs,qm _ _ _ _ (by omega)]
   have htk:(bd R head).take i=bd R head:=by rw [List.take_of_length_le (by rw [hMm];omega)]
   rw [htk] at hbs;refine ⟨_,rfl,_,rfl,_,rfl,_,rfl,rl,_,rfl,.inl ⟨SqL.of er4,fun rt hrt=>⟨al (by show 4<=1000000;decide),fun r hr'=>?_⟩⟩⟩;have t1:=af hrt (.tup (bs.map V.ref));have t2:=af hr' (.tup [.ref ia,.ref oa,.ref fh,.ref rt]);have t12:=t1.trans t2;exact k r fh rt bs _ (s4.trans t12) ad (hfh.mono (Same.kt t12)) (t2 _ _ ad) (P2.mp (fun _ _ e=>RowAt.mono (Same.kt t12) e) hbs)
inductive kF (vs:List V) (H:Hp) (Q:VK) (_E:XK):Prop
 | mk (b:Addr) (v1 v2 v3 v4:V) (zz0:vs=[.ref b]) (zz1:H b=some (.tup [v1,v2,v3,v4])) (zz2:Q v1 H):kF  vs H Q _E
def i5:Sp:=kF
inductive iA (vs:List V) (H:Hp) (Q:VK) (_E:XK):Prop
 | mk (b:Addr) (v1 v2 v3 v4:V) (zz0:vs=[.ref b]) (zz1:H b=some (.tup [v1,v2,v3,v4])) (zz2:Q v4 H):iA  vs H Q _E
def fM:Sp:=iA
theorem dF:FnOk P w K mg base CX0 1 T.g_ins_of.f T.g_ins_of.d ["book"] i5:=by
 refine T.g_ins_of.F.ok rs (fun vs H Q E h=>?_) (fun cdv A outer s H vs Q E hr h=>?_)
 · obtain ⟨b,v1,v2,v3,v4,rfl,_⟩:=h;rfl
 obtain ⟨b,v1,v2,v3,v4,rfl,e,q⟩:=h;refine ⟨_,(ag (au (aK aL (pv 0) ai (fun _ _=>rfl)))),?_⟩
 try dsimp only [cxK,cxKn]
 exact ⟨_,rfl,b,_,0,v1,rfl,rfl,SqT.of e,at0,q⟩
theorem di:FnOk P w K mg base CX0 1 T.g_rules_of.f T.g_rules_of.d ["book"] fM:=by
 refine T.g_rules_of.F.ok oR (fun vs H Q E h=>?_) (fun cdv A outer s H vs Q E hr h=>?_)
 · obtain ⟨b,v1,v2,v3,v4,rfl,_⟩:=h;rfl
 obtain ⟨b,v1,v2,v3,v4,rfl,e,q⟩:=h;refine ⟨_,(ag (au (aK aL (pv 0) ai (fun _ _=>rfl)))),?_⟩
 try dsimp only [cxK,cxKn]
 exact ⟨_,rfl,b,_,3,v4,rfl,rfl,SqT.of e,cP (j:=3) rfl,q⟩
inductive jE (vs:List V) (H:Hp) (Q:VK) (_E:XK):Prop
 | mk (b:Addr) (v1 v2 v3 v4:V) (zz0:vs=[.ref b]) (zz1:H b=some (.tup [v1,v2,v3,v4])) (zz2:Q v2 H):jE  vs H Q _E
def gF:Sp:=jE
theorem dL:FnOk P w K mg base CX0 1 T.g_outs_of.f T.g_outs_of.d ["book"] gF:=by
 refine T.g_outs_of.F.ok qb (fun vs H Q E h=>?_) (fun cdv A outer s H vs Q E hr h=>?_)
 · obtain ⟨b,v1,v2,v3,v4,rfl,_⟩:=h;rfl
 obtain ⟨b,v1,v2,v3,v4,rfl,e,q⟩:=h;refine ⟨_,(ag (au (aK aL (pv 0) ai (fun _ _=>rfl)))),?_⟩
 try dsimp only [cxK,cxKn]
 exact ⟨_,rfl,b,_,1,v2,rfl,rfl,SqT.of e,cP (j:=1) rfl,q⟩
inductive jA (vs:List V) (H:Hp) (Q:VK) (_E:XK):Prop
 | mk (b:Addr) (v1 v2 v3 v4:V) (zz0:vs=[.ref b]) (zz1:H b=some (.tup [v1,v2,v3,v4])) (zz2:Q v3 H):jA  vs H Q _E
def g6:Sp:=jA
def sy:Sp:=fun vs H Q _=>∃ v:V,vs=[v]/\∀ p,H p=none->Q (.ref p) (upd H p (.tup [.str (Str.ofString ""),v]))
def lB:Sp:=fun vs H Q _=>∃ s:Int,vs=[.int s]/\∀ p,H p=none->Q (.ref p) (upd H p (.tup [.str q,.int s,.int 0]))
theorem dP:FnOk P w K mg base CX0 1 T.g_head_of.f T.g_head_of.d ["book"] g6:=by
 refine T.g_head_of.F.ok pG (fun vs H Q E h=>?_) (fun cdv A outer s H vs Q E hr h=>?_)
 · obtain ⟨b,v1,v2,v3,v4,rfl,_⟩:=h;rfl
 obtain ⟨b,v1,v2,v3,v4,rfl,e,q⟩:=h;refine ⟨_,(ag (au (aK aL (pv 0) ai (fun _ _=>rfl)))),?_⟩
 try dsimp only [cxK,cxKn]
 exact ⟨_,rfl,b,_,2,v3,rfl,rfl,SqT.of e,cP (j:=2) rfl,q⟩
theorem si:FnOk P w K mg base CX0 1 T.g_above.f T.g_above.d ["tree"] sy:=by
 refine T.g_above.F.ok sW (fun vs H Q E h=>?_) (fun cdv A outer s H vs Q E hr h=>?_)
 · obtain ⟨v,rfl,_⟩:=h;rfl
 obtain ⟨v,rfl,q⟩:=h;refine ⟨_,(ag (au (aU (aa eC (aa (pv 0) ac))))),?_⟩
 try dsimp only [cxK,cxKn]
 exact ⟨_,rfl,al (by show 2<=1000000;decide),fun p hp=>q p hp⟩
theorem ok_call_of:FnOk P w K mg base CX0 1 T.g_call_of.f T.g_call_of.d ["state"] lB:=by
 refine T.g_call_of.F.ok pL (fun vs H Q E h=>?_) (fun cdv A outer s H vs Q E hr h=>?_)
 · obtain ⟨v,rfl,_⟩:=h;rfl
 obtain ⟨v,rfl,q⟩:=h;refine ⟨_,(ag (au (aU (aa (bF (v:=.str (Str.ofString "?")) rfl T.c_CALL_SIGN.choose_spec ⟨_,rfl⟩) (aa (pv 0) (aa ai ac)))))),?_⟩
 try dsimp only [cxK,cxKn]
 exact ⟨_,rfl,al (by show 3<=1000000;decide),fun p hp=>q p hp⟩
inductive f6 (vs:List V) (H:Hp) (Q:VK) (_E:XK):Prop
 | mk (b ia ra rowA ta:Addr) (v2 v3:V) (ias ras tas:List Addr) (ins:List (Str×Int)) (st:Int) (j:Nat) (k:Str×Int) (zz0:vs=[.ref b,.int st,.str k.1]) (zz1:H b=some (.tup [.ref ia,v2,v3,.ref ra])) (zz2:H ia=some (.tup (ias.map V.ref))) (zz3:KsAt H ins ias) (zz4:aT ins) (zz5:H ra=some (.tup (ras.map V.ref))) (zz6:0<=st) (zz7:ras[st.toNat]?=some rowA) (zz8:H rowA=some (.tup (tas.map V.ref))) (zz9:ins[j]?=some k) (zz10:tas[j]?=some ta) (zz11:∀ H',L2.Same H H'->Q (.ref ta) H'):f6  vs H Q _E
def lG:Sp:=f6
theorem lI:FnOk P w K mg base CX0 2 T.g_pattern_of.f T.g_pattern_of.d ["book","state","name"] lG:=by
 refine T.g_pattern_of.F.ok gf (fun vs H Q E h=>?_) (fun cdv A outer s H vs Q E hr h=>?_)
 · obtain ⟨b,ia,ra,rowA,ta,v2,v3,ias,ras,tas,ins,st,j,k,rfl,_⟩:=h;rfl
 obtain ⟨b,ia,ra,rowA,ta,v2,v3,ias,ras,tas,ins,st,j,k,rfl,eb,eia,hins,g,era,hst,hrow,erow,hj,hta,q⟩:=h
 refine ⟨_,(ae (jX (i:=3) (N:=[Str.ofString "kind"]) (js:=[none]) (g:=(aH 0)) (tt:=bn) (te:=(tOp (rK K) (b9 0) (tC (.int 0)))) gf.nd rfl (Or.inl rfl) rfl (cJ rfl (by decide +kernel) (by decide +kernel) rfl rfl rfl) (dX (pcF T.g_ins_of (dF T) hr (aa (pv 0) ac))) (fun _ _ _ _ _ _=>(am (i:=0) xh rfl (Or.inl rfl))) (bo rfl) (fun _ _ _ _ _ _=>bN) (fun _ _ _ _ _ _=>(aK aL (pv 0) ai (fun _ _=>rfl))))
  (ag (au (aK aL (aK aL (pcF T.g_rules_of (di T) hr (aa (pv 0) ac)) (pv 1) (fun _ _=>rfl)) (ce PySem.F.plainAttrs_list PySem.F.slot_list_index PySem.F.type_list_index qV (pv 3) (aa (pv 2) ac)) (fun _ _=>rfl))))),?_⟩
 try dsimp only [cxK,cxKn]
 have hil:ins.length=ias.length:=Paired.length hins;have hi8:=g.le;refine ⟨_,rfl,b,_,_,_,_,rfl,eb,ia,rfl,⟨_,SqT.of eia⟩,cZ ins (fun k=>V.str k.1) (SqT.of eia) (by rw [List.length_map];exact hil) (by rw [List.length_map];omega) (fun i x z H2 R W' hx hz s2 hR=>?_) (fun D H1 hD s1 e1=>?_)⟩
 · obtain ⟨ka,rfl,hka⟩:=aP hx;obtain ⟨z',hz',ez⟩:=P2.get' hins hka;rw [hz] at hz';cases hz';exact ⟨_,rfl,ka,_,0,.str z.1,rfl,rfl,SqT.of (s2 _ _ ez),at0,hR H2 (.refl _)⟩
 have en:ins.map (fun k=>V.str k.1)=(ins.map (·.1)).map V.str:=by rw [List.map_map];rfl
 rw [en] at e1;refine ⟨_,rfl,b,_,_,_,_,rfl,s1 _ _ eb,_,rfl,ra,_,st,.ref rowA,rfl,rfl,SqT.of (s1 _ _ era),at_nonneg hst (by rw [List.getElem?_map,hrow];rfl),_,rfl,.inl ⟨rfl,_,SqL.of e1⟩,_,rfl,?_⟩;refine ⟨D,ins.map (·.1),k.1,j,rfl,rfl,SqL.of e1,by rw [List.getElem?_map,hj];rfl,fun i hi hz=>?_,by rw [List.length_map];omega,?_⟩
 · rw [List.getElem?_map] at hz;obtain ⟨k',hk',e⟩:=Option.map_eq_some_iff.mp hz;have:=g.nd i j k' k hk' hj e;omega
 · exact ⟨rowA,_,(j:Int),.ref ta,rfl,rfl,SqT.of (s1 _ _ erow),cP (by rw [List.getElem?_map,hta];rfl),q H1 s1⟩
def mf (k c:Int):List (Str×V):=[("met_knots",.int k),("met_calls",.int c)]
theorem mkc:¬ (("met_knots":Str)="met_calls"):=by decide +kernel
theorem yo:¬ (("met_calls":Str)="met_knots"):=by decide +kernel
theorem ug:cV "met_knots" (.int 0) []=[(("met_knots":Str),V.int 0)]:=rfl
theorem ud:cV "met_calls" (.int 0) [(("met_knots":Str),V.int 0)]=mf 0 0:=by
 unfold mf;rw [cV,if_neg mkc,cV]
theorem uv (k c z:Int):cV "met_knots" (.int z) (mf k c)=mf z c:=by
 unfold mf;rw [cV,if_pos rfl]
theorem uW (k c z:Int):cV "met_calls" (.int z) (mf k c)=mf k z:=by
 unfold mf;rw [cV,if_neg mkc,cV,if_pos rfl]
theorem xl (k c:Int):(mf k c).lookup ("met_knots":Str)=some (V.int k):=by
 unfold mf;have hb:(("met_knots":Str) == "met_knots")=true:=beq_iff_eq.mpr rfl;simp only [List.lookup,hb]
theorem xj (k c:Int):(mf k c).lookup ("met_calls":Str)=some (V.int c):=by
 unfold mf;have hb:(("met_calls":Str) == "met_calls")=true:=beq_iff_eq.mpr rfl;have hc:(("met_calls":Str) == "met_knots")=false:=beq_eq_false_iff_ne.mpr yo;simp only [List.lookup,hb,hc]
theorem qh {m:Str} (k c:Int) (h1:(m == ("met_knots":Str))=false) (h2:(m == ("met_calls":Str))=false):(mf k c).lookup m=none:=by
 unfold mf;simp only [List.lookup,h1,h2]
theorem tE (k c:Int):(mf k c).length<1000:=by show 2<1000;decide
inductive eN (C:Addr) (vs:List V) (H:Hp) (Q:VK) (_E:XK):Prop
 | mk (x dx:Addr) (zz0:vs=[.ref x]) (zz1:H x=some (.ins C dx [])) (zz2:∀ H':Hp,(∀ b o,b≠x->H b=some o->H' b=some o)->H' x=some (.ins C dx (mf 0 0))->Q .non H'):eN C vs H Q _E
def dm (C:Addr):Sp:=eN C
theorem cu:FnOk P w K mg base CX0 1 T.f_Measure_init T.d_Measure_init ["self"] (dm T.e_Measure):=by
 refine T.F_Measure_init.ok jO (fun vs H Q E h=>?_) (fun cdv A outer s H vs Q E hr h=>?_)
 · obtain ⟨x,dx,rfl,_⟩:=h;rfl
 obtain ⟨x,dx,rfl,ex,q⟩:=h
 refine ⟨_,(ae (tX (pv 0) ai rfl)
  (ag (tX (pv 0) ai rfl))),?_⟩
 try dsimp only [cxK,cxKn]
 refine ⟨_,rfl,x,T.e_Measure,dx,_,rfl,ex,T.cl_Measure,T.na_Measure_met_knots,(by show 0<1000;decide),?_⟩;refine ⟨_,rfl,x,T.e_Measure,dx,_,rfl,ad,T.cl_Measure,T.na_Measure_met_calls,(by show 1<1000;decide),?_⟩;refine q _ (fun b o hb e=>?_) ?_
 · rw [ak hb,ak hb];exact e
 · rw [ad,ug,ud]
inductive bA (C:Addr) (vs:List V) (H:Hp) (Q:VK) (_E:XK):Prop
 | mk (x dx pa:Addr) (k c row:Int) (t:Th) (rp:Rep) (zz0:vs=[.ref x,.ref pa,.int row]) (zz1:H x=some (.ins C dx (mf k c))) (zz2:AtG rp H t pa) (zz3:∀ (k' c':Int) (H':Hp),k'=(if t.isCall=true then k else k+1)->c'=(if t.isCall=true then c+1 else c)->(∀ b o,b≠x->H b=some o->H' b=some o)->H' x=some (.ins C dx (mf k' c'))->Q (.bl (decide (row<=20/\k'<=400/\c'<=200))) H'):bA C vs H Q _E
def cO (C:Addr):Sp:=bA C
theorem ok_Measure_takes:FnOk P w K mg base CX0 2 T.f_Measure_takes T.d_Measure_takes ["self","part","row"] (cO T.e_Measure):=by
 refine T.F_Measure_takes.ok iX (fun vs H Q E h=>?_) (fun cdv A outer s H vs Q E hr h=>?_)
 · obtain ⟨x,dx,pa,k,c,row,t,rp,rfl,_⟩:=h;rfl
 obtain ⟨x,dx,pa,k,c,row,t,rp,rfl,ex,hA,q⟩:=h
 refine ⟨_,(ae (br (aV (pcF T.g_is_call (ok_is_call T) hr (aa (pv 1) ac)) (fun _=>rfl)) (ag (ma (pv 0) ai sD)) (ag (ma (pv 0) ai sD)))
  (ag (au (gQ (cS jv (pv 2) (bF (v:=.int (20)) rfl T.c_MOST_ROWS.choose_spec ⟨_,rfl⟩) (aJ _)) (gQ (cS jv (tR (pv 0) rfl) (bF (v:=.int (400)) rfl T.c_MOST_KNOTS.choose_spec ⟨_,rfl⟩) (aJ _)) (lD (cS jv (tR (pv 0) rfl) (bF (v:=.int (200)) rfl T.c_MOST_CALLS.choose_spec ⟨_,rfl⟩) (aJ _)))))))),?_⟩
 try dsimp only [cxK,cxKn]
 refine bJ (fun σ' H'=>Ex2 fun (k' c':Int)=>An5 (k'=(if t.isCall=true then k else k+1)) (c'=(if t.isCall=true then c+1 else c)) ((∀ b o,b≠x->H b=some o->H' b=some o)) (H' x=some (.ins T.e_Measure dx (mf k' c'))) (σ'=[some (.ref x),some (.ref pa),some (.int row)])) (fun kk hk=>?_) ?_
 · refine d8 (fun b H'=>An2 (H=H') (b=t.isCall)) (fun k2 hk2=>?_) (fun H' hb=>?_) (fun H' hb=>?_)
   · exact ⟨_,rfl,rp,pa,t,rfl,hA,_,rfl,hk2 _ _ ⟨rfl,rfl⟩⟩
   · obtain ⟨rfl,hb⟩:=hb;refine ⟨_,rfl,x,T.e_Measure,dx,_,_,rfl,ex,T.cl_Measure,T.na_Measure_met_calls,xj k c,c,1,rfl,rfl,dx,_,ex,tE k c,?_⟩;exact hk _ _ ⟨k,c+1,by rw [if_pos hb.symm],by rw [if_pos hb.symm],fun b o hb e=>by rw [ak hb];exact e,by rw [ad,uW],rfl⟩
   · obtain ⟨rfl,hb⟩:=hb;have hb':¬ t.isCall=true:=fun z=>by rw [<- hb] at z;cases z
     refine ⟨_,rfl,x,T.e_Measure,dx,_,_,rfl,ex,T.cl_Measure,T.na_Measure_met_knots,xl k c,k,1,rfl,rfl,dx,_,ex,tE k c,?_⟩;exact hk _ _ ⟨k+1,c,by rw [if_neg hb'],by rw [if_neg hb'],fun b o hb e=>by rw [ak hb];exact e,by rw [ad,uv],rfl⟩
 rintro σ' H' ⟨k',c',hk',hc',hs,ex',rfl⟩;have q':=q k' c' H' hk' hc' hs ex';clear q;refine ⟨_,rfl,_,_,rfl,rfl,?_⟩;refine ⟨_,rfl,?_⟩;by_cases c1:row<=20
 · rw [if_pos (decide_eq_true c1)];refine ⟨_,rfl,x,T.e_Measure,dx,_,_,rfl,ex',T.cl_Measure,T.na_Measure_met_knots,xl k' c',_,_,rfl,rfl,_,rfl,?_⟩;by_cases c2:k'<=400
   · rw [if_pos (decide_eq_true c2)];refine ⟨_,rfl,x,T.e_Measure,dx,_,_,rfl,ex',T.cl_Measure,T.na_Measure_met_calls,xj k' c',_,_,rfl,rfl,?_⟩;have e:decide (row<=20/\k'<=400/\c'<=200)=decide (c'<=200):=by simp [c1,c2]
     rw [e] at q';exact q'
   · rw [if_neg (fun z=>c2 (of_decide_eq_true z))];rw [decide_eq_false (fun z=>c2 z.2.1)] at q';exact q'
 · rw [if_neg (fun z=>c1 (of_decide_eq_true z))];rw [decide_eq_false (fun z=>c1 z.1)] at q';exact q'
inductive hW (vs:List V) (H:Hp) (Q:VK) (_E:XK):Prop
 | mk (b pa ka:Addr) (ins outs:List (Str×Int)) (S S1:Int) (head:Th) (rows:List (List Th)) (p:Th) (kn:Str) (kts:List Th) (zz0:vs=[.ref b,.ref pa,.ref ka]) (zz1:Bk H ins outs head rows b) (zz2:aT ins) (zz3:mB ins outs S rows) (zz4:S1<=1000) (zz5:AtG .i H p pa) (zz6:AtG .i H (.knot kn kts) ka) (zz7:Lead ins outs S S1 p (.knot kn kts)) (zz8:∀ (r pa' ka':Addr) (H':Hp),L2.Same H H'->H' r=some (.tup [.ref pa',.ref ka'])->((∃ n ks n' ts',AtG .i H' (.knot n ks) pa'/\AtG .i H' (.knot n' ts') ka'/\Lead ins outs S S1 (.knot n ks) (.knot n' ts')/\made (bq ins rows) p (.knot kn kts)=made (bq ins rows) (.knot n ks) (.knot n' ts'))∨∃ c h,AtG .p H' (.call c h) pa'/\made (bq ins rows) p (.knot kn kts)=.call c h)->Q (.ref r) H'):hW  vs H Q _E
def oh:Sp:=hW
set_option maxHeartbeats 1000000 in
theorem oM:FnOk P w K mg base CX0 3 T.g_led_over.f T.g_led_over.d ["second","part","knot"] oh:=by
 refine T.g_led_over.F.ok b8 (fun vs H Q E h=>?_) (fun cdv A outer s H vs Q E hr h=>?_)
 · obtain ⟨b,pa,ka,ins,outs,S,S1,head,rows,p,kn,kts,rfl,_⟩:=h;rfl
 obtain ⟨b,pa,ka,ins,outs,S,S1,head,rows,p,kn,kts,rfl,hb,g,hok,hS1,hp,hk,hl,q⟩:=h
 refine ⟨_,(ae (eT PassesOwn.never (aV (pcF T.g_is_call (ok_is_call T) hr (aa (pv 1) ac)) (fun _=>rfl)) (ae (g9 (pcF T.g_called_by (ok_called_by T) hr (aa (pv 1) ac)) (cH rfl (aE (am (i:=3) b8.nd rfl (Or.inl rfl)) (aE (am (i:=4) b8.nd rfl (Or.inl rfl)) bX))))
  (ae (ar (i:=2) b8.nd rfl (Or.inl rfl) (aK aL (pv 2) (av bO (pv 4) ai) (fun _ _=>rfl)))
  (ae (br (aV (pcF T.g_is_call (ok_is_call T) hr (aa (pv 2) ac)) (fun _=>rfl)) (ae (g9 (pcF T.g_called_by (ok_called_by T) hr (aa (pv 2) ac)) (cH rfl (aE (am (i:=5) b8.nd rfl (Or.inl rfl)) (aE (am (i:=6) b8.nd rfl (Or.inl rfl)) bX))))
  (ag (au (aU (aa (aU (aa (bF (v:=.str (Str.ofString "?")) rfl T.c_CALL_SIGN.choose_spec ⟨_,rfl⟩) (aa (aU (aa (pv 3) (aa (pv 5) ac))) (aa (pv 6) ac)))) (aa (pv 2) ac)))))) aR)
  (ag (ar (i:=1) b8.nd rfl (Or.inl rfl) (pcF T.g_pattern_of (lI T) hr (aa (pv 0) (aa (pv 3) (aa (aK aL (pv 2) ai (fun _ _=>rfl)) ac))))))))))
  (ag (au (aU (aa (pv 1) (aa (pv 2) ac)))))),?_⟩
 try dsimp only [cxK,cxKn]
 refine ⟨fun mz σ H2=>Ex7 fun (pa ka:Addr) (p2:Th) (n2:Str) (ts2:List Th) (v3 v4:Option V)=>An7 (σ=[some (.ref b),some (.ref pa),some (.ref ka),v3,v4,none,none]) (L2.Same H H2) (AtG .i H2 p2 pa) (AtG .i H2 (.knot n2 ts2) ka) (Lead ins outs S S1 p2 (.knot n2 ts2)) (made (bq ins rows) p (.knot kn kts)=made (bq ins rows) p2 (.knot n2 ts2)) (mz=(Th.knot n2 ts2).tall),⟨_,pa,ka,p,kn,kts,none,none,rfl,.refl _,hp,hk,hl,rfl,rfl⟩,?_⟩;rintro mz σ H2 ⟨pa,ka,p2,n2,ts2,v3,v4,rfl,s2,hp2,hk2,hl2,hm,rfl⟩;refine ⟨_,rfl,.i,pa,p2,rfl,hp2,_,rfl,?_⟩;cases p2 with
 | knot n ks =>
   refine gE ?_;refine ⟨_,rfl,_,rfl,al (by show 2<=1000000;decide),fun r hr'=>?_⟩;have s3:=af hr' (.tup [.ref pa,.ref ka]);exact q r pa ka _ (s2.trans s3) ad (.inl ⟨n,ks,n2,ts2,hp2.mono (Same.kt s3),hk2.mono (Same.kt s3),hl2,hm⟩)
 | call st kd =>
   refine iy ?_;refine ⟨fun σ' H'=>∃ m',m'<(Th.knot n2 ts2).tall/\Ex7 fun (pa ka:Addr) (p2:Th) (n2:Str) (ts2:List Th) (v3 v4:Option V)=>An7 (σ'=[some (.ref b),some (.ref pa),some (.ref ka),v3,v4,none,none]) (L2.Same H H') (AtG .i H' p2 pa) (AtG .i H' (.knot n2 ts2) ka) (Lead ins outs S S1 p2 (.knot n2 ts2)) (made (bq ins rows) p (.knot kn kts)=made (bq ins rows) p2 (.knot n2 ts2)) (m'=(Th.knot n2 ts2).tall),fun σ' H' h=>h,?_⟩;refine hid fun ZZ kZ=>?_;obtain ⟨hs0,hs1,hk0,k',hk',hkm⟩:=hl2.call;have hkd:(Th.knot n2 ts2).kids=ts2:=rfl;rw [hkd] at hk' hkm;have htl:=ii hkm;have hk2':=hk2;rw [AtG] at hk2';obtain ⟨hn2,as2,eka,has2⟩:=hk2';obtain ⟨ua,hua,atu⟩:=has2.at hk';refine kZ ?_;refine ⟨_,rfl,.i,pa,st,kd,rfl,hp2,fun c v hst hc=>⟨c,_,rfl,SqT.of ad,rfl,_,_,rfl,_,_,rfl,rfl,?_⟩⟩;obtain rfl:v=V.int st:=hst;have s3:L2.Same H2 (upd H2 c (.tup [.int st,.int kd])):=af hc _;generalize (upd H2 c (.tup [.int st,.int kd]))=H3 at s3 ⊢;have s03:=s2.trans s3;have atu3:=atu.mono (Same.kt s3);refine ⟨_,rfl,_,rfl,_,_,rfl,rfl,ka,_,_,.ref ua,rfl,rfl,SqT.of (s3 _ _ eka),at_nonneg (by omega) (by rw [show (kd+1).toNat=kd.toNat+1 by omega,List.getElem?_cons_succ,List.getElem?_map,hua];rfl),?_⟩;refine ⟨_,rfl,.i,ua,k',rfl,atu3,_,rfl,?_⟩;cases k' with
   | call l h =>
     refine iy ?_;refine ⟨_,rfl,.i,ua,l,h,rfl,atu3,fun c2 v2 hst2 hc2=>⟨c2,_,rfl,SqT.of ad,rfl,_,_,rfl,_,_,rfl,rfl,?_⟩⟩;obtain rfl:v2=V.int l:=hst2;have s4:L2.Same H3 (upd H3 c2 (.tup [.int l,.int h])):=af hc2 _;generalize (upd H3 c2 (.tup [.int l,.int h]))=H4 at s4 ⊢;refine ⟨_,rfl,_,rfl,al (by show 2<=1000000;decide),fun pp hpp=>⟨_,rfl,al (by show 3<=1000000;decide),fun cp hcp=>⟨_,rfl,al (by show 2<=1000000;decide),fun r hr'=>?_⟩⟩⟩;have t1:=af hpp (.tup [.int st,.int l]);have t2:=af hcp (.tup [.str (Str.ofString "?"),.ref pp,.int h]);have t3:=af hr' (.tup [.ref cp,.ref ua]);obtain ⟨C,hC⟩:=hl2.kid _ hkm;rw [Th.FitS] at hC;refine q r cp ua _ (s03.trans (s4.trans (t1.trans (t2.trans t3)))) ad (.inr ⟨enc st l,h,?_,?_⟩)
     · rw [AtG];exact ⟨.ref pp,t3 _ _ ad,pp,st,l,rfl,(t2.trans t3) _ _ ad,rfl,hs0,hC.1,by omega⟩
     · rw [hm,eM (k:=.knot n2 ts2) _ hk',ga]
   | knot n ts =>
     refine gE ?_;refine hid fun ZZ kZ=>?_;obtain ⟨j,row,p3,hj,hrow,hp3,hpat,hl3,hmade⟩:=Lead.next g hok hl2 hk';obtain ⟨ia,oa,hda,ra,ias,oas,ras,bk⟩:=id (hb.mono (Same.kt s03));obtain ⟨rowA,hrowA,tas,erow,htas⟩:=P2.get bk.rw hrow;obtain ⟨ta,hta,hat⟩:=htas.at hp3;have atu3':=atu3;rw [AtG] at atu3';obtain ⟨hnq,bs,eua,hbs⟩:=atu3';refine kZ ?_;refine ⟨_,rfl,_,rfl,_,rfl,ua,_,0,.str n,rfl,rfl,SqT.of eua,at0,b,ia,ra,rowA,ta,_,_,ias,ras,tas,ins,st,j,(n,(ts.length:Int)),rfl,bk.bk,bk.inE,bk.inK,g,bk.rl,hs0,hrowA,erow,hj,hta,fun H4 s4=>?_⟩;refine ⟨(Th.knot n ts).tall,by rw [show (Th.knot n2 ts2).tall=aI ts2+1 by rw [Th.tall]];omega,ta,ua,p3,n,ts,_,_,rfl,s03.trans s4,(hat.g).mono (Same.kt s4),atu3.mono (Same.kt s4),hl3,by rw [hm,hmade],rfl⟩
theorem n8:Str.ofString ""≠q:=by decide +kernel
inductive iq (vs:List V) (H:Hp) (Q:VK) (_E:XK):Prop
 | mk (b ha ta:Addr) (ins outs:List (Str×Int)) (S S1:Int) (head:Th) (rows:List (List Th)) (p t:Th) (zz0:vs=[.ref b,.ref ha,.ref ta]) (zz1:Bk H ins outs head rows b) (zz2:aT ins) (zz3:mB ins outs S rows) (zz4:S1<=1000) (zz5:AtG .i H p ha) (zz6:AtG .i H t ta) (zz7:Lead ins outs S S1 p (.knot (Str.ofString "") [t])) (zz8:Small (made (bq ins rows) p (.knot (Str.ofString "") [t]))) (zz9:∀ (r:Addr) (H':Hp),L2.Same H H'->AtG .p H' (made (bq ins rows) p (.knot (Str.ofString "") [t])) r->Q (.ref r) H'):iq  vs H Q _E
def jD:Sp:=iq
def vj (C:Addr) (b ha ta tl mo dx ah:Addr) (ins outs:List (Str×Int)) (S S1:Int) (rows:List (List Th)) (o:Th) (H:Hp) (m:Nat) (σ:St) (H2:Hp):Prop :=
 Ex9 fun (tls as:List Addr) (done:List Th) (js:List Job) (k c:Int) (c6 c7 c8:Option V)=>An9 (σ=[some (.ref b),some (.ref ha),some (.ref ta),some (.ref tl),some (.ref mo),some (.ref ah),c6,c7,c8]) (L2.Same H H2) (H2 tl=some (.lst (tls.map V.ref))) (H2 ah=some (.lst (as.map V.ref))) (H2 mo=some (.ins C dx (mf k c))) (Paired (TopAtG .p H2) (done.map (topOf Th.call)) tls) (Paired (MJAt H2 ins outs S S1 (bq ins rows)) js as) (MInv o done js k c) (m=aw (jos js))
set_option maxHeartbeats 4000000 in
theorem jM:FnOk P w K mg base CX0 6 T.g_run_over.f T.g_run_over.d ["second","head","pattern"] jD:=by
 refine T.g_run_over.F.ok bB (fun vs H Q E h=>?_) (fun cdv A outer s H vs Q E hr h=>?_)
 · obtain ⟨b,ha,ta,ins,outs,S,S1,head,rows,p,t,rfl,_⟩:=h;rfl
 obtain ⟨b,ha,ta,ins,outs,S,S1,head,rows,p,t,rfl,hb,gi,hok,hS1,hp,ht,hld,hsm,q⟩:=h
 refine ⟨_,(ae (ar (i:=3) bB.nd rfl (Or.inl rfl) (bt ac))
  (ae (ar (i:=4) bB.nd rfl (Or.inl rfl) (nX T.mk_Measure (cu T) (hr.mono (by first | decide | omega)) rfl T.x_Measure T.b_Measure_init .nil dM))
  (ae (ar (i:=5) bB.nd rfl (Or.inl rfl) (bt (aa (aU (aa (pv 1) (aa (pcF T.g_above (si T) hr (aa (pv 2) ac)) (aa ai ac)))) ac)))
  (ae (eT PassesOwn.never (aV (pv 5) (fun _=>rfl)) (ae (g9 (nb PySem.F.plainAttrs_list PySem.F.slot_list_pop PySem.F.type_list_pop mG (pv 5)) (cH rfl (aE (am (i:=6) bB.nd rfl (Or.inl rfl)) (aE (am (i:=7) bB.nd rfl (Or.inr rfl)) (aE (am (i:=8) bB.nd rfl (Or.inr rfl)) bX)))))
  (ae (g9 (pcF T.g_led_over (oM T) hr (aa (pv 0) (aa (pv 6) (aa (pv 7) ac)))) (cH rfl (aE (am (i:=6) bB.nd rfl (Or.inl rfl)) (aE (am (i:=7) bB.nd rfl (Or.inr rfl)) bX))))
  (ae (br (dO (aV (qT (pv 4) T.cl_Measure T.me_Measure_takes (ok_Measure_takes T) (hr.mono (by first | decide | omega)) T.b_Measure_takes .nil dM (aa (pv 6) (aa (pv 8) ac))) (fun _=>rfl))) (ag cF) aR)
  (ae (aS (ce PySem.F.plainAttrs_list PySem.F.slot_list_append PySem.F.type_list_append aQ (pv 3) (aa (pcF T.g_top_of (ok_top_of T) hr (aa (pv 6) ac)) ac)))
  (ag (aS (ce PySem.F.plainAttrs_list PySem.F.slot_list_extend PySem.F.type_list_extend mj (pv 5) (aa (bY (N:=[Str.ofString "kid",Str.ofString "knot",Str.ofString "row"]) (js:=[none,some 7,some 8]) (g:=(aH 0)) (tt:=bn) (te:=(uo (bH (b9 0) (bH (b9 1) (bH (tOp (rI0 fun i j=>.int (i+j)) (b9 2) (tC (.int 1))) fu))))) rfl (cJ rfl (by decide +kernel) (by decide +kernel) rfl rfl rfl) (u7 rfl T.n_reversed (pcF T.g_kids_of (ok_kids_of T) hr (aa (pv 6) ac))) (fun _ _ _ _ _ _=>(am (i:=0) xS rfl (Or.inl rfl))) (bo rfl) (fun _ _ _ _ _ _=>bN) (fun _ _ _ _ _ _=>(aU (aa (pv 0) (aa (pv 1) (aa (av bO (pv 2) ai) ac)))))) ac)))))))))
  (ag (au (pcF T.g_built (ok_built T) hr (aa (pv 3) ac)))))))),?_⟩
 try dsimp only [cxK,cxKn]
 generalize ho:made (bq ins rows) p (.knot (Str.ofString "") [t])=o at hsm q;have hosz:=hsm.size;refine ⟨al (by show 0<=1000000;decide),fun tl htl=>?_⟩;have s1:L2.Same H (upd H tl (.lst [])):=af htl _;have e1:(upd H tl (.lst [])) tl=some (.lst (([]:List Addr).map V.ref)):=ad;generalize (upd H tl (.lst []))=H1 at s1 e1 ⊢;intro mo dx hmo hdx hne;refine ⟨mo,dx,rfl,ad,fun H2 k2 emo=>⟨rfl,?_⟩⟩;have s2:L2.Same H1 H2:=fun b o e=>k2 b o (ao e hmo) (by rw [ak (ao e hmo),ak (ao e hdx)];exact e);have hmoH:H mo=none:=s1.free hmo;have htm:tl≠mo:=fun z=>by rw [z] at e1;rw [e1] at hmo;cases hmo
 refine ⟨_,rfl,_,rfl,.ref ta,rfl,fun ab hab=>⟨al (by show 3<=1000000;decide),fun tp htp=>⟨al (by show 1<=1000000;decide),fun ah hah=>?_⟩⟩⟩;have nah:H ah=none:=(s1.trans s2).free ((af hab _).free ((af htp _).free hah));have s3:L2.Same H2 (upd H2 ab (.tup [.str (Str.ofString ""),.ref ta])):=af hab _;have e3:(upd H2 ab (.tup [.str (Str.ofString ""),.ref ta])) ab=some (.tup [.str (Str.ofString ""),.ref ta]):=ad;generalize (upd H2 ab (.tup [.str (Str.ofString ""),.ref ta]))=H3 at s3 e3 htp hah ⊢;have s4:L2.Same H3 (upd H3 tp (.tup [.ref ha,.ref ab,.int 1])):=af htp _;have e4:(upd H3 tp (.tup [.ref ha,.ref ab,.int 1])) tp=some (.tup [.ref ha,.ref ab,.int 1]):=ad;generalize (upd H3 tp (.tup [.ref ha,.ref ab,.int 1]))=H4 at s4 e4 hah ⊢;have s5:L2.Same H4 (upd H4 ah (.lst [.ref tp])):=af hah _;have e5:(upd H4 ah (.lst [.ref tp])) ah=some (.lst ([tp].map V.ref)):=ad;generalize (upd H4 ah (.lst [.ref tp]))=H5 at s5 e5 ⊢;have s24:=s3.trans s4
 have hta:tl≠ah:=fun z=>by
  have:=s24 _ _ (s2 _ _ e1);rw [z,hah] at this;cases this
 have hma:mo≠ah:=fun z=>by
  have:=s24 _ _ emo;rw [z,hah] at this;cases this
 have s25:=s24.trans s5;have s05:=s1.trans (s2.trans s25);refine ⟨vj T.e_Measure b ha ta tl mo dx ah ins outs S S1 rows o H,⟨_,[],[tp],[],[⟨p,.knot (Str.ofString "") [t],1,o⟩],0,0,none,none,none,rfl,s05,s25 _ _ (s2 _ _ e1),e5,s25 _ _ emo,.nil,.cons ⟨ha,ab,_,_,s5 _ _ e4,hp.mono (Same.kt s05),rfl,?_,hld,ho.symm⟩ .nil,MInv.start,rfl⟩,?_⟩
 · rw [AtG];exact ⟨n8,[ta],(s4.trans s5) _ _ e3,.cons (ht.mono (Same.kt s05)) .nil⟩
 clear s05 s25 s24 s5 e5 s4 e4 s3 e3 s2 k2 emo s1 e1;rintro m σ H2 ⟨tls,as,done,js,k,c,c6,c7,c8,rfl,sm,et,ea,em,hT,hJ,J,rfl⟩;refine ⟨_,rfl,_,.inl ⟨_,SqL.of ea,rfl⟩,?_⟩;refine cq (fun cc=>?_) (fun cc=>?_)
 · have hne0:as≠[]:=by intro z;subst z;simp at cc
   refine hid fun ZZ kZ=>?_;obtain ⟨as',x,rfl⟩:∃ as' x,as=as'++[x]:=⟨as.dropLast,as.getLast hne0,(List.dropLast_concat_getLast hne0).symm⟩;obtain ⟨js',j,rfl,hJ',hj⟩:=P2.snoc_inv hJ;obtain ⟨jp,jk,jr,jo⟩:=j;obtain ⟨pa,ka,kn,kts,ex,hpa,ejk,hka,hlead,hjo⟩:=hj;refine kZ ?_;dsimp only at ex hpa ejk hlead hjo;subst ejk;have hsz:=J.size;have hjl:=uL (js'++[⟨jp,.knot kn kts,jr,jo⟩]);rw [List.length_append] at hjl;have hjl':js'.length=as'.length:=Paired.length hJ'
   have hdl:done.length=tls.length:=by
    have:=Paired.length hT;rw [List.length_map] at this;exact this
   refine ⟨fun σ' H'=>∃ m',m'<aw (jos (js'++[⟨jp,.knot kn kts,jr,jo⟩]))/\vj T.e_Measure b ha ta tl mo dx ah ins outs S S1 rows o H m' σ' H',fun σ' H' h=>h,?_⟩;refine ⟨_,rfl,.inl ⟨rfl,_,SqL.of ea⟩,ah,_,.ref x,rfl,rfl,ea,by simp,?_⟩;have d1:((as'++[x]).map V.ref).dropLast=as'.map V.ref:=by simp
   rw [d1];have k3:KT H2 (upd H2 ah (.lst (as'.map V.ref))):=bc ea;have s3:L2.Same H (upd H2 ah (.lst (as'.map V.ref))):=aF sm nah;have e3:(upd H2 ah (.lst (as'.map V.ref))) ah=some (.lst (as'.map V.ref)):=ad;have t3:(upd H2 ah (.lst (as'.map V.ref))) tl=some (.lst (tls.map V.ref)):=by rw [ak hta];exact et
   have m3:(upd H2 ah (.lst (as'.map V.ref))) mo=some (.ins T.e_Measure dx (mf k c)):=by rw [ak hma];exact em
   generalize (upd H2 ah (.lst (as'.map V.ref)))=H3 at k3 s3 e3 t3 m3 ⊢;refine ⟨x,_,rfl,SqT.of (k3 _ _ ex),rfl,_,_,rfl,_,_,rfl,_,_,rfl,rfl,?_⟩;refine ⟨_,rfl,_,rfl,_,rfl,b,pa,ka,ins,outs,S,S1,head,rows,jp,kn,kts,rfl,hb.mono (Same.kt s3),gi,hok,hS1,hpa.mono k3,hka.mono k3,hlead,fun r pa1 ka1 H4 s4 er hres=>?_⟩;refine ⟨r,_,rfl,SqT.of er,rfl,_,_,rfl,_,_,rfl,rfl,?_⟩;have t4:=s4 _ _ t3;have a4:=s4 _ _ e3;have m4:=s4 _ _ m3;have s04:=s3.trans s4;have k24:=k3.trans (Same.kt s4);rw [<- hjo] at hres
   -- what was told,as one
   refine hid fun ZZ kZ=>?_
   obtain ⟨rp,pt,hpt,htop,hcall,hkl,hkids⟩:∃ (rp:Rep) (pt:Th),AtG rp H4 pt pa1/\(∀ (H':Hp) (a:Addr),TopAtG rp H' (topOf Th.call pt) a->TopAtG .p H' (topOf Th.call jo) a)/\pt.isCall=jo.isCall/\pt.kids.length=jo.kids.length/\(∀ (i:Nat) (u ou:Th),pt.kids[i]?=some u->jo.kids[i]?=some ou->∀ (H':Hp) (a ua:Addr),KT H4 H'->H' a=some (.tup [.ref ua,.ref ka1,.int ((jr+1:Nat):Int)])->AtG rp H' u ua->∃ k',MJAt H' ins outs S S1 (bq ins rows) ⟨u,k',jr+1,ou⟩ a):=by
    rcases hres with ⟨n,ks,n',ts',h1,h2,h3,h4⟩ | ⟨cc,hh,h1,h2⟩
    · refine ⟨.i,.knot n ks,h1,?_,?_,?_,?_⟩
      · intro H' a h;rw [h4,eO];obtain ⟨ta,g1,g2,g3⟩:=h;exact ⟨ta,by rw [g1,List.length_map],g2,g3⟩
      · rw [h4,eO];rfl
      · rw [h4,eO];show ks.length=(ks.map _).length;rw [List.length_map]
      · intro i u ou hu hou H' a ua kt e hua;rw [h4,eO] at hou;have hou':(ks.map fun p=>made (bq ins rows) p (.knot n' ts'))[i]?=some ou:=hou;have hu':ks[i]?=some u:=hu;rw [List.getElem?_map,hu'] at hou';cases hou';exact ⟨.knot n' ts',ua,ka1,n',ts',e,hua,rfl,h2.mono kt,h3.kids u (List.mem_of_getElem? hu'),rfl⟩
    · refine ⟨.p,.call cc hh,h1,?_,?_,?_,?_⟩
      · intro H' a h;rw [h2];exact h
      · rw [h2]
      · rw [h2]
      · intro i u ou hu hou;have:([]:List Th)[i]?=some u:=hu;cases this
   refine kZ ?_;dsimp only [aH];refine bJ (fun σ' H6=>Ex2 fun (k' c':Int)=>An5 (k'=(if jo.isCall=true then k else k+1)) (c'=(if jo.isCall=true then c+1 else c)) ((∀ b o,b≠mo->H4 b=some o->H6 b=some o)) (H6 mo=some (.ins T.e_Measure dx (mf k' c'))) (σ'=[some (.ref b),some (.ref ha),some (.ref ta),some (.ref tl),some (.ref mo),some (.ref ah),some (.ref pa1),some (.ref ka1),some (.int (jr:Nat))])) (fun kk hkk=>?_) ?_
   · refine d8 (fun bb H6=>Ex2 fun (k' c':Int)=>An5 (k'=(if jo.isCall=true then k else k+1)) (c'=(if jo.isCall=true then c+1 else c)) ((∀ b o,b≠mo->H4 b=some o->H6 b=some o)) (H6 mo=some (.ins T.e_Measure dx (mf k' c'))) (bb=!decide (((jr:Nat):Int)<=20/\k'<=400/\c'<=200))) (fun k2 hk2=>?_) (fun H6 hb=>?_) (fun H6 hb=>?_)
     · refine ⟨_,rfl,mo,dx,_,rfl,m4,qh k c (by decide +kernel) (by decide +kernel),_,rfl,_,rfl,mo,dx,pa1,k,c,(jr:Nat),pt,rp,rfl,m4,hpt,fun k' c' H6 h1 h2 h3 h4=>?_⟩;rw [hcall] at h1 h2;exact ⟨_,rfl,hk2 _ _ ⟨k',c',h1,h2,h3,h4,rfl⟩⟩
     · obtain ⟨k',c',h1,h2,h3,h4,h5⟩:=hb;rw [decide_eq_true (J.takes hsm h1 h2)] at h5;cases h5
     · refine hid fun ZZ kZ=>?_;obtain ⟨k',c',h1,h2,h3,h4,h5⟩:=hb;refine kZ ?_;exact hkk _ _ ⟨k',c',h1,h2,h3,h4,rfl⟩
   rintro σ' H5 ⟨k',c',hk',hc',h3,m5,rfl⟩;have k45:KT H4 H5:=fun b xs e=>h3 b _ (fun z=>by rw [z,m4] at e;cases e) e;have s05:L2.Same H H5:=fun b o e=>h3 b o (ao e hmoH) (s04 b o e);have t5:H5 tl=some (.lst (tls.map V.ref)):=h3 _ _ htm t4;have a5:H5 ah=some (.lst (as'.map V.ref)):=h3 _ _ hma.symm a4;have k25:=k24.trans k45
   -- tops.append
   refine ⟨_,rfl,.inl ⟨rfl,_,SqL.of t5⟩,_,rfl,rp,pa1,pt,rfl,hpt.mono k45,fun tp2 H6 s6 htp2=>?_⟩;refine ⟨tl,_,_,rfl,rfl,s6 _ _ t5,aD (by rw [List.length_map];omega),?_⟩;have k7:KT H6 (upd H6 tl (.lst (tls.map V.ref++[.ref tp2]))):=bc (s6 _ _ t5);have s7:L2.Same H (upd H6 tl (.lst (tls.map V.ref++[.ref tp2]))):=aF (s05.trans s6) htl;have t7:(upd H6 tl (.lst (tls.map V.ref++[.ref tp2]))) tl=some (.lst ((tls++[tp2]).map V.ref)):=by rw [ad,List.map_append];rfl
   have a7:(upd H6 tl (.lst (tls.map V.ref++[.ref tp2]))) ah=some (.lst (as'.map V.ref)):=by rw [ak hta.symm];exact s6 _ _ a5
   have m7:(upd H6 tl (.lst (tls.map V.ref++[.ref tp2]))) mo=some (.ins T.e_Measure dx (mf k' c')):=by rw [ak htm.symm];exact s6 _ _ m5
   generalize (upd H6 tl (.lst (tls.map V.ref++[.ref tp2])))=H7 at k7 s7 t7 a7 m7 ⊢;have k57:=(Same.kt s6).trans k7;have k27:=k25.trans k57;have k47:=k45.trans k57
   have hT7:Paired (TopAtG .p H7) ((done++[jo]).map (topOf Th.call)) (tls++[tp2]):=by
    rw [List.map_append];exact P2.append (gY k27 hT) (.cons ((htop _ _ htp2).mono k7) .nil)
   -- ahead.extend
   refine ⟨_,rfl,.inl ⟨rfl,_,SqL.of a7⟩,_,rfl,rp,pa1,pt,rfl,hpt.mono k47,fun p3 kas H8 s8 e8 hkas=>?_⟩;have k48:=k47.trans (Same.kt s8);have hkal:kas.length=jo.kids.length:=by rw [hkas.length];exact hkl
   have hjs:=jo.size_eq;have hls:=cz jo.kids
   have hjoz:aw (jos (js'++[⟨jp,.knot kn kts,jr,jo⟩]))=aw (jos js')+jo.size:=by
    rw [iz,ba,aw,aw];rfl
   have hxl:((kas.map V.ref).reverse).length=jo.kids.length:=by rw [List.length_reverse,List.length_map];exact hkal
   refine ⟨p3,_,rfl,SqT.of e8,gd (F:=fun H (j:Th×Th) a=>∃ k',MJAt H ins outs S S1 (bq ins rows) ⟨j.1,k',jr+1,j.2⟩ a) (xs:=(kas.map V.ref).reverse) (pt.kids.zip jo.kids).reverse (fun H1 H2 z p kt ⟨k',h⟩=>⟨k',h.mono kt⟩) (by rw [List.length_reverse,List.length_zip,hxl];omega) (by omega) (fun i Hx sx hi=>⟨by rw [List.length_reverse] at hi;exact hi,_,SqT.of (sx _ _ e8),rfl⟩) (fun Hx sx=>by rw [List.length_reverse];rfl) (fun i Hx x Hy sx hi hy=>⟨hy.1,?_⟩) (fun i x z Hx R W' hx hzz sx hR=>?_) (fun D Hx as2 hD sx eD hpD=>?_)⟩
   · rw [List.length_reverse] at hi;rw [List.getElem?_reverse hi];exact hy.2 _ (SqT.of (sx _ _ e8))
   · have hi2:i<jo.kids.length:=by
      have:=(List.getElem?_eq_some_iff.mp hx).1;omega
     have hzl:(pt.kids.zip jo.kids).length=jo.kids.length:=by rw [List.length_zip];omega
     rw [List.getElem?_reverse (by omega),hzl] at hzz;have hi3:i<(kas.map V.ref).length:=by rw [List.length_map];omega
     rw [List.getElem?_reverse hi3,List.length_map,hkal] at hx;refine hid fun ZZ kZ=>?_;obtain ⟨xa,rfl,hxa⟩:=aP hx;obtain ⟨u,hu,hau⟩:=hkas.get hxa;obtain ⟨hz1,hz2⟩:=List.getElem?_zip_eq_some.mp hzz;refine kZ ?_;rw [hu] at hz1;obtain rfl:=(Option.some.inj hz1);refine ⟨_,rfl,_,rfl,_,rfl,_,_,rfl,rfl,al (by show 3<=1000000;decide),fun p4 hp4=>?_⟩;have s9:=af hp4 (.tup [.ref xa,.ref ka1,.int ((jr:Nat)+1)]);have k49:=k48.trans (Same.kt (sx.trans s9));exact hR _ p4 s9 (hkids _ _ _ hu hz2 _ p4 xa k49 (by rw [ad];rfl) (hau.mono (Same.kt (sx.trans s9))))
   · have hlD:=Paired.length hpD;rw [List.length_reverse,List.length_zip] at hlD
     obtain ⟨js2,hjs2,hpJ⟩:∃ js2:List Job,(jos js2=jo.kids.reverse/\∀ i∈js2,i.r=jr+1)/\Paired (MJAt Hx ins outs S S1 (bq ins rows)) js2 as2:=by
      have hz:((pt.kids.zip jo.kids).reverse).map (·.2)=jo.kids.reverse:=by
       rw [List.map_reverse,List.map_snd_zip (by omega)]
      rw [<- hz];generalize (pt.kids.zip jo.kids).reverse=zs at hpD;clear hlD hz eD sx hD;induction hpD with
      | nil=>exact ⟨[],⟨rfl,fun i hi=>by cases hi⟩,.nil⟩
      | cons h _ ih =>
        obtain ⟨k',h⟩:=h;obtain ⟨js2,⟨h1,h2⟩,h3⟩:=ih;exact ⟨_::js2,⟨by show _::jos js2=_;rw [h1];rfl,fun i hi=>(List.mem_cons.mp hi).elim (fun e=>by rw [e]) (h2 i)⟩,.cons h h3⟩
     refine ⟨ah,D,_,_,rfl,rfl,sx _ _ (s8 _ _ a7),eD,Nat.le_of_lt (aD (by rw [List.length_map,List.length_map];omega)),?_⟩;have a9:=sx _ _ (s8 _ _ a7);have k9:KT Hx (upd Hx ah (.lst (as'.map V.ref++as2.map V.ref))):=bc a9;have k79:=(Same.kt (s8.trans sx)).trans k9;refine ⟨aw (jos (js'++js2)),?_,tls++[tp2],as'++as2,done++[jo],js'++js2,k',c',_,_,_,rfl,aF (s7.trans (s8.trans sx)) nah,by rw [ak hta];exact sx _ _ (s8 _ _ t7),by rw [ad,List.map_append],by rw [ak hma];exact sx _ _ (s8 _ _ m7),gY k79 hT7,P2.append (P2.mp (fun _ _ e=>e.mono (k27.trans k79)) hJ') (P2.mp (fun _ _ e=>e.mono k9) hpJ),J.next hk' hc' hjs2.1 hjs2.2,rfl⟩;rw [hjoz];have:jos (js'++js2)=jos js'++jo.kids.reverse:=by rw [<- hjs2.1];unfold jos;rw [List.map_append]
     rw [this,ba,lj];omega
 · have hz:as=[]:=by
    cases as with
    | nil=>rfl
    | cons y ys=>simp at cc
   subst hz;have hj0:js=[]:=List.length_eq_zero_iff.mp (Paired.length hJ);subst hj0;have hdn:=J.done;subst hdn;obtain ⟨b1,b2⟩:=nn Th.call o;rw [qJ] at b1;have hsz:=Th.walk_len o;refine ⟨_,rfl,.p,tl,tls,_,o,rfl,et,hT,by rw [List.length_map];omega,b2,?_,b1,fun r H3 s3 hr3=>q r H3 (sm.trans s3) hr3⟩;intro u hu;obtain ⟨x,hx,e⟩:=List.mem_map.mp hu;cases x with
   | knot nm us=>cases e
   | call sn kn =>
     cases e;rw [Th.size];decide
def nd_joined:Stmt:=match aY cD with
 | [_,st,_,_]=>st
 | _=>.Pass ⟨0,0,0,0⟩
def ndP:Stmt->Arguments
 | .FunctionDef _ p _ _ _ _ _ _ _ _=>p
 | _=>bf cD
def ndB:Stmt->List Stmt
 | .FunctionDef _ _ b _ _ _ _ _ _ _=>b
 | _=>[]
def ndS:Stmt->Scope
 | .FunctionDef _ _ _ _ _ _ s _ _ _=>s
 | _=>aj cD
def ndPos:Stmt->Pos
 | .FunctionDef _ _ _ _ _ _ _ _ _ p=>p
 | _=>⟨0,0,0,0⟩
def ndQ:Str:="joined.<locals>."++"patterns_of"
inductive o9 (f c' c1 c2:Addr) (vs:List V) (H:Hp) (Q:VK) (_E:XK):Prop
 | mk (pa b1 b2:Addr) (st lo:Int) (ins mid outs:List (Str×Int)) (S1 S2:Int) (head1 head2:Th) (rows1 rows2:List (List Th)) (zz0:vs=[.ref pa]) (zz1:NestAt H f c' "patterns_of" ndQ (ndP nd_joined) (ndB nd_joined) (ndS nd_joined) [("second",c2),("first",c1)]) (zz2:CodeAt H c' ndQ) (zz3:CellAt H c1 (.ref b1)) (zz4:CellAt H c2 (.ref b2)) (zz5:H pa=some (.tup [.int st,.int lo])) (zz6:Bk H ins mid head1 rows1 b1) (zz7:Bk H mid outs head2 rows2 b2) (zz8:JoinOk ins mid outs S1 S2 head1 head2 rows1 rows2) (zz9:0<=st) (zz10:st<S2) (zz11:0<=lo) (zz12:lo<S1) (zz13:∀ (r:Addr) (as:List Addr) (H':Hp),L2.Same H H'->H' r=some (.lst (as.map V.ref))->AtsG .p H' ((rowOf rows1 lo).map fun t=>made (bq mid rows2) (.call st 0) (sol t)) as->Q (.ref r) H'):o9 f c' c1 c2 vs H Q _E
def qS (f c' c1 c2:Addr):Sp:=o9 f c' c1 c2
theorem mM:(["pair","first","second","state","lower"]:List Str).Nodup:=by decide +kernel
theorem uO (c1 c2:Addr) (hne:c1≠c2):lO ["pair","first","second","state","lower"] ["pair"] ["first","second"] "state" [("second",c2),("first",c1)] (ndS nd_joined):=by
 refine ⟨rfl,rfl,rfl,mM,rfl,by decide +kernel,by decide +kernel,fun n=>rfl,fun h=>rfl,fun x h=>?_,fun x h=>?_,fun x y c h1 h2=>?_,by decide +kernel,fun x h=>?_⟩
 · have hm:=PySem.mem_of_lookup h;have hall:∀ z∈(ndS nd_joined).names,z.2=.cell->z.1="state":=by decide +kernel
   exact hall _ hm rfl
 · have hm:=PySem.mem_of_lookup h;have hall:∀ z∈(ndS nd_joined).names,z.2=.free->z.1="first"∨z.1="second":=by decide +kernel
   rcases hall _ hm rfl with e | e
   · exact ⟨c1,by rw [show x="first" from e];rfl⟩
   · exact ⟨c2,by rw [show x="second" from e];rfl⟩
 · have e1:=PySem.mem_of_lookup h1;have e2:=PySem.mem_of_lookup h2;rcases List.mem_cons.mp e1 with e1 | e1 <;> rcases List.mem_cons.mp e2 with e2 | e2
   · exact (congrArg Prod.fst e1).trans (congrArg Prod.fst e2).symm
   · have e2:=List.mem_singleton.mp e2;exact absurd ((show c=c1 from congrArg Prod.snd e2).symm.trans (show c=c2 from congrArg Prod.snd e1)) hne
   · have e1:=List.mem_singleton.mp e1;exact absurd ((show c=c1 from congrArg Prod.snd e1).symm.trans (show c=c2 from congrArg Prod.snd e2)) hne
   · have e1:=List.mem_singleton.mp e1;have e2:=List.mem_singleton.mp e2;exact (congrArg Prod.fst e1).trans (congrArg Prod.fst e2).symm
 · have hm:=PySem.mem_of_lookup h;have hall:∀ z∈(ndS nd_joined).names,z.2=.free->(z.1 == ("state":Str))=false:=by decide +kernel
   exact hall _ hm rfl
include T in
set_option maxHeartbeats 2000000 in
theorem uN (f c' c1 c2:Addr) (hne:c1≠c2):pi P w K mg base CX0 9 f (qS f c' c1 c2):=by
 refine u6 (k:=8) (c':=c') (name:="patterns_of") (qual:=ndQ) (params:=ndP nd_joined) (body:=ndB nd_joined) (uO c1 c2 hne) (fun doc pm ctv us hl=>?_) (fun vs H Q E h=>?_) fun A outer s H vs Q E hr h=>?_
 · obtain ⟨u,rfl⟩:=us1 hl;rfl
 · obtain ⟨pa,b1,b2,st,lo,ins,mid,outs,S1,S2,head1,head2,rows1,rows2,rfl,hn,hc,h1,h2,_⟩:=h;refine ⟨rfl,hn,hc,fun b hb=>?_,fun x c hx=>?_⟩
   · rcases List.mem_cons.mp hb with e | e
     · obtain ⟨φ,z,_⟩:=h2;exact ⟨φ,by rw [e];exact z⟩
     · obtain ⟨φ,z,_⟩:=h1;exact ⟨φ,by rw [List.mem_singleton.mp e];exact z⟩
   · have e1:=PySem.mem_of_lookup hx;rcases List.mem_cons.mp e1 with e | e
     · cases e;exact ⟨_,h2⟩
     · cases List.mem_singleton.mp e;exact ⟨_,h1⟩
 · obtain ⟨pa,b1,b2,st,lo,ins,mid,outs,S1,S2,head1,head2,rows1,rows2,rfl,hn,hc,h1,h2,epa,bk1,bk2,J,hs0,hs1,hl0,hl1,kq⟩:=h
   have hx:Exts (([("second",c2),("first",c1)]:List (Str×Addr)).map (·.2)) H:=fun b hb=>by
    rcases List.mem_cons.mp hb with e | e
    · obtain ⟨φ,z,_⟩:=h2;exact ⟨φ,by rw [e];exact z⟩
    · obtain ⟨φ,z,_⟩:=h1;exact ⟨φ,by rw [List.mem_singleton.mp e];exact z⟩
   have kf:=wC hx
   refine ⟨_,[.ref b1,.ref b2],.cons ⟨c1,rfl,h1⟩ (.cons ⟨c2,rfl,h2⟩ .nil),(ae (g9 (pv 0) (cH rfl (aE (am (i:=3) mM rfl (Or.inr rfl)) (aE (am (i:=4) mM rfl (Or.inl rfl)) bX))))
    (ag (au (bY (N:=[Str.ofString "pattern",Str.ofString "second",Str.ofString "state"]) (js:=[none,some 2,some 3]) (g:=(aH 0)) (tt:=bn) (te:=(gA jD [] E0 (bH (b9 1) (bH (gA lB [] E0 (bH (b9 2) fu)) (bH (b9 0) fu))))) rfl (cJ rfl (by decide +kernel) (by decide +kernel) rfl rfl rfl) (dX (aK aL (pcF T.g_rules_of (di T) hr (aa (pv 1) ac)) (pv 4) (fun _ _=>rfl))) (fun _ _ _ _ _ _=>(am (i:=0) yk rfl (Or.inl rfl))) (bo rfl) (fun _ _ _ _ _ _=>bN) (fun _ _ _ _ _ _=>(pcF T.g_run_over (jM T) hr (aa (pv 1) (aa (pcF T.g_call_of (ok_call_of T) hr (aa (pv 2) ac)) (aa (pv 0) ac))))))))),?_⟩
   generalize hH0:fgt (([("second",c2),("first",c1)]:List (Str×Addr)).map (·.2)) H=H0 at kf ⊢;have bk1':=bk1.mono kf;have bk2':=bk2.mono kf;refine hid fun ZZ kZ=>?_;obtain ⟨ia,oa,ha,ra,ias,oas,ras,bk⟩:=id bk1';obtain ⟨row,hrow,erow,hlen,hfit⟩:=f8 J.f1 hl0 hl1;obtain ⟨rowA,hrowA,tas,etas,htas⟩:=P2.get bk.rw hrow;refine kZ ?_;have hsm:=J.smR lo st hl0 hl1 hs0 hs1;rw [erow] at hsm kq;have htl:tas.length=row.length:=htas.length;have hle:=J.le;refine ⟨_,rfl,pa,_,rfl,SqT.of (kf _ _ epa),rfl,_,_,rfl,_,_,rfl,rfl,?_⟩;refine ⟨_,rfl,b1,_,_,_,_,rfl,bk.bk,_,rfl,ra,_,_,.ref rowA,rfl,rfl,SqT.of bk.rl,at_nonneg hl0 (by rw [List.getElem?_map,hrowA];rfl),?_⟩;refine ⟨rowA,rfl,⟨_,SqT.of etas⟩,gd (F:=AtG .p) (xs:=tas.map V.ref) (row.map fun t=>made (bq mid rows2) (.call st 0) (sol t)) (fun H1 H2 z p kt h=>h.mono kt) (by rw [List.length_map,List.length_map];omega) (by rw [List.length_map];omega) (fun i Hx sx hi=>⟨_,_,SqT.of (sx _ _ etas),List.getElem?_eq_getElem hi⟩) (fun Hx sx=>⟨_,SqT.of (sx _ _ etas),Nat.le_refl _⟩) (fun i Hx x Hy sx hi hy=>⟨hy.1,hy.2 _ (SqT.of (sx _ _ etas))⟩) (fun i y z Hx R W' hy hzz sx hR=>?_) (fun D Hx as hD sx eD hpD=>?_)⟩
   · obtain ⟨ua,rfl,hua⟩:=aP hy;obtain ⟨u,hu,atu⟩:=htas.get hua;rw [List.getElem?_map,hu] at hzz;cases hzz;have hum:=List.mem_of_getElem? hu;obtain ⟨C,hC⟩:=hfit u hum;refine ⟨_,rfl,_,rfl,st,rfl,fun ca hca=>⟨_,rfl,?_⟩⟩;have s3:L2.Same Hx (upd Hx ca (.tup [.str q,.int st,.int 0])):=af hca _;have e3:(upd Hx ca (.tup [.str q,.int st,.int 0])) ca=some (.tup [.str q,.int st,.int 0]):=ad;generalize (upd Hx ca (.tup [.str q,.int st,.int 0]))=H3 at s3 e3 ⊢;have k3:=Same.kt (sx.trans s3);refine ⟨b2,ca,ua,mid,outs,S2,S1,head2,rows2,.call st 0,u,rfl,bk2'.mono k3,J.gm,J.f2,J.s1,?_,(atu.g).mono k3,Lead.sol (fR hs0 hs1) hC,hsm u hum,fun r H4 s4 hr4=>hR H4 r (s3.trans s4) hr4⟩;rw [AtG];exact ⟨_,e3,rfl⟩
   · intro hnS;subst hH0;have sR:=tq (H:=H) hnS;refine kq D as _ (sN sx) (sR _ _ eD) ?_;exact (show AtsG .p Hx _ as from jH hpD).mono (Same.kt sR)
inductive kb (tp:Addr) (vs:List V) (H:Hp) (Q:VK) (_E:XK):Prop
 | mk (b1 b2 ia1 oa1 ha1 ra1 ia2 oa2 ha2 ra2:Addr) (ias1 oas1 ras1 ias2 oas2 ras2:List Addr) (ins mid outs:List (Str×Int)) (S1 S2:Int) (head1 head2:Th) (rows1 rows2:List (List Th)) (zz0:vs=[.ref b1,.ref b2]) (zz1:BookAt H ins mid head1 rows1 b1 ia1 oa1 ha1 ra1 ias1 oas1 ras1) (zz2:BookAt H mid outs head2 rows2 b2 ia2 oa2 ha2 ra2 ias2 oas2 ras2) (zz3:JoinOk ins mid outs S1 S2 head1 head2 rows1 rows2) (zz4:TabSt H tp (ndPos nd_joined) ndQ) (zz5:∀ (r fh rl:Addr) (rls:List Addr) (H':Hp),SameT tp H H'->TabSt H' tp (ndPos nd_joined) ndQ->H' r=some (.tup [.ref ia1,.ref oa2,.ref fh,.ref rl])->At H' (ren (idx (bd (joR mid rows2 rows1) (joH mid rows2 head2 head1))) (joH mid rows2 head2 head1)) fh->H' rl=some (.tup (rls.map V.ref))->Paired (RowAt H') ((bd (joR mid rows2 rows1) (joH mid rows2 head2 head1)).map fun s=>(joR mid rows2 rows1 s).map (ren (idx (bd (joR mid rows2 rows1) (joH mid rows2 head2 head1))))) rls->Q (.ref r) H'):kb tp vs H Q _E
def rb (tp:Addr):Sp:=kb tp
set_option maxHeartbeats 2000000 in
theorem ok_joined (L:Lam mg base T.tc_joined T.tp_joined):FnOk P w K mg base CX0 13 T.g_joined.f T.g_joined.d ["first","second"] (rb T.tp_joined):=by
 refine T.g_joined.F.okT T.th_joined jj (fun vs H Q E h=>?_) (fun A outer s H vs Q E hr h=>?_)
 · obtain ⟨b1,b2,ia1,oa1,ha1,ra1,ia2,oa2,ha2,ra2,ias1,oas1,ras1,ias2,oas2,ras2,ins,mid,outs,S1,S2,head1,head2,rows1,rows2,rfl,_⟩:=h;rfl
 obtain ⟨b1,b2,ia1,oa1,ha1,ra1,ia2,oa2,ha2,ra2,ias1,oas1,ras1,ias2,oas2,ras2,ins,mid,outs,S1,S2,head1,head2,rows1,rows2,rfl,bk1,bk2,J,htab,q⟩:=h
 refine ⟨_,(ae (br (aN (p5 (B:=150) (kW hr)) (pcF T.g_outs_of (dL T) hr (aa (pv 0) ac)) (pcF T.g_ins_of (dF T) hr (aa (pv 1) ac)) (aJ _)) (ag cF) aR)
  (ae (uR (i:=2) (name:="patterns_of") (pos:=ndPos nd_joined) (params:=ndP nd_joined) (body:=ndB nd_joined) (scope:=ndS nd_joined) (cl:=[("second",s.heap.objs.size+2),("first",s.heap.objs.size+1)]) L jj.nd rfl (Or.inl rfl) rfl rfl)
  (ae (ar (i:=3) jj.nd rfl (Or.inl rfl) (pcF T.g_run_over (jM T) hr (aa (pv 1) (aa (pcF T.g_head_of (dP T) hr (aa (pv 1) ac)) (aa (pcF T.g_head_of (dP T) hr (aa (pv 0) ac)) ac)))))
  (ag (au (oo (cl:=[("second",s.heap.objs.size+2),("first",s.heap.objs.size+1)]) (fL T) (hr.mono (by decide)) rfl T.g_numbered.m T.g_numbered.F.kp T.g_numbered.b (xQ rfl rfl rfl rfl rfl rfl) (aa (dw (dF T) (hr.mono (by decide)) rfl T.g_ins_of.m T.g_ins_of.F.kp T.g_ins_of.b .nil dM (aa (pv 0) ac)) (aa (dw (dL T) (hr.mono (by decide)) rfl T.g_outs_of.m T.g_outs_of.F.kp T.g_outs_of.b .nil dM (aa (pv 1) ac)) (aa (pv 3) (aa (pv 2) ac)))))))))),?_⟩
 try dsimp only [cxK,cxKn]
 refine ⟨_,rfl,b1,_,_,_,_,rfl,bk1.bk,_,rfl,b2,_,_,_,_,rfl,bk2.bk,oa1,ia2,_,_,_,_,rfl,rfl,SqT.of bk1.outE,SqT.of bk2.inE,oy bk1.outK,oy bk2.inK,?_,fun bb hbb=>⟨_,rfl,?_⟩⟩
 · exact Nat.le_trans (iI mid) (by decide)
 have:bb=false:=by
  cases bb with
  | false=>rfl
  | true=>exact absurd rfl (hbb.mp rfl)
 subst this;refine gE ?_;refine ⟨htab,fun f c' H1 s1 et hcd hnest hf=>?_⟩;have k01:KT H H1:=htab.kt s1;refine ⟨_,rfl,_,rfl,b2,_,_,_,_,rfl,k01 _ _ bk2.bk,_,rfl,b1,_,_,_,_,rfl,k01 _ _ bk1.bk,?_⟩;refine ⟨b2,ha2,ha1,mid,outs,S2,S1,head2,rows2,head2,head1,rfl,⟨_,_,_,_,_,_,_,bk2.mono k01⟩,J.gm,J.f2,J.s1,(bk2.hd.g).mono k01,(bk1.hd.g).mono k01,Lead.sol J.h2 J.h1,J.smH,fun hd H2 s2 hhd=>?_⟩;have k02:KT H H2:=k01.trans (Same.kt s2);refine ⟨_,rfl,b1,_,_,_,_,rfl,k02 _ _ bk1.bk,_,rfl,b2,_,_,_,_,rfl,k02 _ _ bk2.bk,_,rfl,_,rfl,fun H3 trk=>?_⟩;have s23:=trk.same;have k03:KT H H3:=k02.trans (Same.kt s23);have s13:=s2.trans s23;have hcell1:CellAt H3 (s.heap.objs.size+1) (.ref b1):=trk.2.2.2 0 "first" (.ref b1) _ rfl rfl rfl;have hcell2:CellAt H3 (s.heap.objs.size+2) (.ref b2):=trk.2.2.2 1 "second" (.ref b2) _ rfl rfl rfl;have hzH:(joH mid rows2 head2 head1).size<=1000:=Nat.le_trans J.smH.size (by decide);refine ⟨ia1,oa2,hd,f,joH mid rows2 head2 head1,joR mid rows2 rows1,qS f c' (s.heap.objs.size+1) (s.heap.objs.size+2),rfl,hhd.mono (Same.kt s23),hzH,J.len,fun x hx=>?_,uN T f c' _ _ (Nat.ne_of_lt (Nat.lt_succ_self _)),fun H4 x pa Z s4 hx epa hZ=>?_,fun r fh rl rls H4 s4 e4 h4 el4 hp4=>?_⟩
 · obtain ⟨h1,h2⟩:=J.small (J.met x hx);exact ⟨h1,fun t ht=>Nat.le_trans (h2 t ht).size (by decide)⟩
 · refine hid fun ZZ kZ=>?_;obtain ⟨a1,a2,a3,a4⟩:=J.met x hx;refine kZ ?_;have k4:=k03.trans (Same.kt s4);exact ⟨pa,b1,b2,x / 1000,x%1000,ins,mid,outs,S1,S2,head1,head2,rows1,rows2,rfl,(hnest.mono s13).mono s4,(hcd.mono s13).mono s4,hcell1.mono s4,hcell2.mono s4,epa,⟨_,_,_,_,_,_,_,bk1.mono k4⟩,⟨_,_,_,_,_,_,_,bk2.mono k4⟩,J,a1,a2,a3,a4,fun r as H5 s5 er hats=>hZ r as H5 s5 er hats⟩
 · refine ⟨fun b' hb=>?_,q r fh rl rls _ (s1.trans ((s2.trans (trk.back s4)).t _)) ((show TabSt H1 _ _ _ from .inr ⟨c',et,hcd⟩).mono (s2.trans (trk.back s4))) (trk.kt s4 _ _ e4) (h4.mono (trk.kt s4)) (trk.kt s4 _ _ el4) (P2.mp (fun _ _ e=>RowAt.mono (trk.kt s4) e) hp4)⟩;obtain ⟨φ,e⟩:=trk.2.2.1 b' hb;rw [e,s4 _ _ e]
end G
open G (mf qh dm cu i5 dF fM di gF dL g6 dP)
inductive cW (vs:List V) (H:Hp) (Q:VK) (_E:XK):Prop
 | mk (a:Addr) (t:Th) (zz0:vs=[.ref a]) (zz1:At H t a) (zz2:∀ (r:Addr) (as:List Addr) (H':Hp),L2.Same H H'->H' r=some (.tup (as.map V.ref))->Ats H' t.kids as->Q (.ref r) H'):cW  vs H Q _E
def gO:Sp:=cW
inductive cU (vs:List V) (H:Hp) (Q:VK) (_E:XK):Prop
 | mk (a:Addr) (t:Th) (zz0:vs=[.ref a]) (zz1:At H t a) (zz2:Q (.bl t.isCall) H):cU  vs H Q _E
def fc:Sp:=cU
inductive cm (vs:List V) (H:Hp) (Q:VK) (_E:XK):Prop
 | mk (a:Addr) (sn kn:Int) (zz0:vs=[.ref a]) (zz1:At H (.call sn kn) a) (zz2:∀ p,H p=none->Q (.ref p) (upd H p (.tup [.int sn,.int kn]))):cm  vs H Q _E
def dC:Sp:=cm
inductive dW (vs:List V) (H:Hp) (Q:VK) (_E:XK):Prop
 | mk (a:Addr) (t:Th) (zz0:vs=[.ref a]) (zz1:At H t a) (zz2:t.size<=100000) (zz3:∀ (r:Addr) (as:List Addr) (H':Hp),L2.Same H H'->H r=none->H' r=some (.lst (as.map V.ref))->Ats H' t.walk as->Q (.ref r) H'):dW  vs H Q _E
def ji:Sp:=dW
inductive dN (vs:List V) (H:Hp) (Q:VK) (_E:XK):Prop
 | mk (a:Addr) (n:Str) (ks:List Th) (zz0:vs=[.ref a]) (zz1:At H (.knot n ks) a) (zz2:∀ (r:Addr) (H':Hp),L2.Same H H'->TopAt H' (.nm n ks.length) r->Q (.ref r) H'):dN  vs H Q _E
def iZ:Sp:=dN
inductive eK (vs:List V) (H:Hp) (Q:VK) (_E:XK):Prop
 | mk (l:Addr) (as:List Addr) (tops:List Top) (u:Th) (zz0:vs=[.ref l]) (zz1:H l=some (.lst (as.map V.ref))) (zz2:Paired (TopAt H) tops as) (zz3:tops.length<=100000) (zz4:TopsOk tops) (zz5:(∀ t,Top.th t∈tops->t.size<=100000)) (zz6:bl tops=[u]) (zz7:∀ (r:Addr) (H':Hp),L2.Same H H'->At H' u r->Q (.ref r) H'):eK  vs H Q _E
def kD:Sp:=eK
def CP (H:Hp) (c:Int×Int) (a:Addr):Prop:=H a=some (.tup [.int c.1,.int c.2])
inductive cr (vs:List V) (H:Hp) (Q:VK) (_E:XK):Prop
 | mk (a:Addr) (t:Th) (zz0:vs=[.ref a]) (zz1:At H t a) (zz2:t.size<=100000) (zz3:∀ (r:Addr) (as:List Addr) (H':Hp),L2.Same H H'->H r=none->H' r=some (.lst (as.map V.ref))->Paired (CP H') (bu t) as->Q (.ref r) H'):cr  vs H Q _E
def fm:Sp:=cr
inductive bA (C:Addr) (vs:List V) (H:Hp) (Q:VK) (_E:XK):Prop
 | mk (x dx pa:Addr) (k c row:Int) (t:Th) (zz0:vs=[.ref x,.ref pa,.int row]) (zz1:H x=some (.ins C dx (mf k c))) (zz2:At H t pa) (zz3:∀ (k' c':Int) (H':Hp),k'=(if t.isCall=true then k else k+1)->c'=(if t.isCall=true then c+1 else c)->(∀ b o,b≠x->H b=some o->H' b=some o)->H' x=some (.ins C dx (mf k' c'))->Q (.bl (decide (row<=20/\k'<=400/\c'<=200))) H'):bA C vs H Q _E
def cO (C:Addr):Sp:=bA C
theorem ok_kids_of:FnOk P w K mg base CX0 1 T.g_kids_of.f T.g_kids_of.d ["thing"] gO:=(G.ok_kids_of T).imp fun vs H Q E h=>by
 obtain ⟨a,t,e,h,k⟩:=h;exact ⟨.i,a,t,e,h.g,fun r as H' s e' hs=>k r as H' s e' hs.i⟩
theorem ok_is_call:FnOk P w K mg base CX0 1 T.g_is_call.f T.g_is_call.d ["thing"] fc:=(G.ok_is_call T).imp fun vs H Q E h=>by
 obtain ⟨a,t,e,h,k⟩:=h;exact ⟨.i,a,t,e,h.g,k⟩
theorem ok_called_by:FnOk P w K mg base CX0 1 T.g_called_by.f T.g_called_by.d ["call"] dC:=(G.ok_called_by T).imp fun vs H Q E h=>by
 obtain ⟨a,s,c,e,h,k⟩:=h;exact ⟨.i,a,s,c,e,h.g,fun p v hv hp=>by rw [show v=.int s from hv];exact k p hp⟩
theorem ok_walked:FnOk P w K mg base CX0 2 T.g_walked.f T.g_walked.d ["thing"] ji:=(G.ok_walked T).imp fun vs H Q E h=>by
 obtain ⟨a,t,e,h,hz,k⟩:=h;exact ⟨.i,a,t,e,h.g,hz,fun r as H' s n e' hs=>k r as H' s n e' hs.i⟩
theorem ok_top_of:FnOk P w K mg base CX0 2 T.g_top_of.f T.g_top_of.d ["part"] iZ:=(G.ok_top_of T).imp fun vs H Q E h=>by
 obtain ⟨a,n,ks,e,h,k⟩:=h;exact ⟨.i,a,.knot n ks,e,h.g,fun r H' s ht=>k r H' s ht⟩
theorem ok_built:FnOk P w K mg base CX0 1 T.g_built.f T.g_built.d ["tops"] kD:=(G.ok_built T).imp fun vs H Q E h=>by
 obtain ⟨l,as,tops,u,e,el,hp,hn,ho,hz,hb,k⟩:=h;refine ⟨.i,l,as,tops,u,e,el,P2.mp (fun x a hx=>?_) hp,hn,ho,hz,hb,fun r H' s hu=>k r H' s hu.i⟩;cases x with
 | nm n m=>exact hx
 | th t=>obtain ⟨ta,h1,h2⟩:=hx;exact ⟨ta,h1,h2.g⟩
theorem ok_called_in:FnOk P w K mg base CX0 3 T.g_called_in.f T.g_called_in.d ["pattern"] fm:=(G.ok_called_in T).imp fun vs H Q E h=>by
 obtain ⟨a,t,e,h,hz,k⟩:=h;refine ⟨.i,a,t,e,h.g,hz,fun r as H' s n e' hs=>k r as H' s n e' (P2.mp (fun x a hx=>?_) hs)⟩;obtain ⟨v,h1,h2⟩:=hx;rw [show v=.int x.1 from h2] at h1;exact h1
theorem ok_Measure_takes:FnOk P w K mg base CX0 2 T.f_Measure_takes T.d_Measure_takes ["self","part","row"] (cO T.e_Measure):=(G.ok_Measure_takes T).imp fun vs H Q E h=>by
 obtain ⟨x,dx,pa,k,c,row,t,e,hx,h,q⟩:=h;exact ⟨x,dx,pa,k,c,row,t,.i,e,hx,h.g,q⟩
inductive dY (vs:List V) (H:Hp) (Q:VK) (_E:XK):Prop
 | mk (a ta:Addr) (t:Th) (f:Int->Int->Th) (kvs:List (List Key×V)) (zz0:vs=[.ref a,.ref ta]) (zz1:At H t a) (zz2:t.size<=100000) (zz3:Rd H ta (.dT kvs)) (zz4:(∀ s k,Th.call s k∈t.walk->∃ v,bE kvs [Sum.inl s,Sum.inl k]=some (.ref v)/\At H (f s k) v/\(f s k).size<=100000)) (zz5:∀ (r:Addr) (H':Hp),L2.Same H H'->At H' (t.fill f) r->Q (.ref r) H'):dY  vs H Q _E
def iO:Sp:=dY
theorem iN:FnOk P w K mg base CX0 3 T.g_filled.f T.g_filled.d ["pattern","table"] iO:=by
 refine T.g_filled.F.ok dE (fun vs H Q E h=>?_) (fun cdv A outer s H vs Q E hr h=>?_)
 · obtain ⟨a,ta,t,f,kvs,rfl,_⟩:=h;rfl
 obtain ⟨a,ta,t,f,kvs,rfl,hA,hsz,hrd,htab,k⟩:=h
 refine ⟨_,(ae (ar (i:=2) dE.nd rfl (Or.inl rfl) (bt ac))
  (ae (bP PassesOwn.never rfl (cR (pcF T.g_walked (ok_walked T) hr (aa (pv 0) ac))) (am (i:=3) dE.nd rfl (Or.inl rfl)) (ag (br (aV (pcF T.g_is_call (ok_is_call T) hr (aa (pv 3) ac)) (fun _=>rfl)) (ag (aS (ce PySem.F.plainAttrs_list PySem.F.slot_list_append PySem.F.type_list_append aQ (pv 2) (aa (aU (aa (mW (pe hr) (pv 1) (pcF T.g_called_by (ok_called_by T) hr (aa (pv 3) ac)) (fun _ _=>rfl)) (aa ai ac))) ac)))) (ag (aS (ce PySem.F.plainAttrs_list PySem.F.slot_list_append PySem.F.type_list_append aQ (pv 2) (aa (pcF T.g_top_of (ok_top_of T) hr (aa (pv 3) ac)) ac)))))))
  (ag (au (pcF T.g_built (ok_built T) hr (aa (pv 2) ac)))))),?_⟩
 try dsimp only [cxK,cxKn]
 refine ⟨al (by show 0<=1000000;decide),fun tl htl=>?_⟩;refine ⟨_,rfl,a,t,rfl,hA.mono (fD htl),hsz,fun wl as H1 s1 nwl ewl hw=>?_⟩;have hwl:as.length=t.walk.length:=hw.length;have hwz:=Th.walk_len t;have sH1:L2.Same H H1:=(af htl _).trans s1;have hwt:wl≠tl:=fun z=>by rw [z,ad] at nwl;cases nwl
 refine ⟨wl,rfl,⟨_,SqL.of ewl⟩,?_⟩
 refine dj (K:=K) (a:=wl) (xs:=as.map V.ref) (fun i σ H2=>Ex2 fun c bs=>An6 (σ=[some (.ref a),some (.ref ta),some (.ref tl),c]) (L2.Same H H2) (H2 wl=some (.lst (as.map V.ref))) (Ats H2 t.walk as) (H2 tl=some (.lst (bs.map V.ref))) (Paired (TopAt H2) ((t.walk.take i).map (topOf f)) bs))
  ⟨none,[],rfl,sH1,ewl,hw,s1 _ _ ad,.nil⟩ (fun i σ H2 _ ⟨_,_,_,_,e,_,_,_⟩=>SqL.of e) ?_ ?_
 · rintro i x σ H2 hx ⟨c,bs,rfl,s2,ewl2,hw2,etl,hbs⟩;obtain ⟨xa,rfl,hxa⟩:=aP hx;obtain ⟨tx,htx,atx⟩:=hw2.get hxa;have hxm:tx∈t.walk:=List.mem_of_getElem? htx;have htk:t.walk.take (i+1)=t.walk.take i++[tx]:=by rw [List.take_add_one,htx];rfl
   have hbl:bs.length<=100000:=by
    have:=Paired.length hbs;rw [List.length_map,List.length_take] at this;omega
   refine ⟨_,rfl,xa,tx,rfl,atx,_,rfl,?_⟩
   have push:∀ (H3:Hp) (p:Addr),L2.Same H2 H3->TopAt H3 (topOf f tx) p->Ex2 fun c bs'=>An6 (([some (.ref a),some (.ref ta),some (.ref tl),some (.ref xa)]:St)=[some (.ref a),some (.ref ta),some (.ref tl),c]) (L2.Same H (upd H3 tl (.lst (bs.map V.ref++[.ref p])))) ((upd H3 tl (.lst (bs.map V.ref++[.ref p]))) wl=some (.lst (as.map V.ref))) (Ats (upd H3 tl (.lst (bs.map V.ref++[.ref p]))) t.walk as) ((upd H3 tl (.lst (bs.map V.ref++[.ref p]))) tl=some (.lst (bs'.map V.ref))) (Paired (TopAt (upd H3 tl (.lst (bs.map V.ref++[.ref p])))) ((t.walk.take (i+1)).map (topOf f)) bs'):=by
    intro H3 p s3 hp;have k3:KT H3 (upd H3 tl (.lst (bs.map V.ref++[.ref p]))):=bc (s3 _ _ etl);refine ⟨_,bs++[p],rfl,aF (s2.trans s3) htl,by rw [ak hwt];exact s3 _ _ ewl2,hw2.mono ((Same.kt s3).trans k3),by rw [ad,List.map_append];rfl,?_⟩;rw [htk,List.map_append];exact P2.append (rk ((Same.kt s3).trans k3) hbs) (.cons (hp.mono k3) .nil)
   cases tx with
   | call sn kn =>
     refine iy ?_;refine hid fun ZZ kZ=>?_;obtain ⟨v,hv,hav,_⟩:=htab sn kn hxm;refine kZ ?_;refine ⟨_,rfl,.inl ⟨rfl,_,SqL.of etl⟩,_,rfl,_,rfl,xa,sn,kn,rfl,atx,fun cb hcb=>?_⟩;have s3:L2.Same H2 (upd H2 cb (.tup [.int sn,.int kn])):=af hcb _
     have hrd3:Rd (upd H2 cb (.tup [.int sn,.int kn])) ta (.dT kvs):=by
      rcases hrd with h | ⟨o,h⟩
      · exact .inl (s3 _ _ (s2 _ _ h))
      · exact .inr ⟨o,s3 _ _ (s2 _ _ h)⟩
     refine ⟨ta,.ref v,rfl,.inr ⟨kvs,[Sum.inl sn,Sum.inl kn],cb,hrd3,rfl,ad,hv.symm⟩,al (by show 2<=1000000;decide),fun p hp=>?_⟩;have s4:=s3.trans (af hp (.tup [.ref v,.int 0]));refine ⟨tl,_,_,rfl,rfl,s4 _ _ etl,aD (by rw [List.length_map];omega),?_⟩;exact push _ p s4 ⟨v,ad,hav.mono (Same.kt (s2.trans s4))⟩
   | knot nm us =>
     refine gE ?_;refine ⟨_,rfl,.inl ⟨rfl,_,SqL.of etl⟩,_,rfl,xa,nm,us,rfl,atx,fun p H3 s3 hp=>?_⟩;refine ⟨tl,_,_,rfl,rfl,s3 _ _ etl,aD (by rw [List.length_map];omega),?_⟩;exact push _ p s3 hp
 · rintro σ H2 ⟨c,bs,rfl,s2,ewl2,hw2,etl,hbs⟩;rw [List.length_map,hwl,List.take_length] at hbs;obtain ⟨b1,b2⟩:=nn f t;refine ⟨_,rfl,tl,bs,_,t.fill f,rfl,etl,hbs,by rw [List.length_map];omega,b2,?_,b1,fun r H3 s3 hr3=>k r H3 (s2.trans s3) hr3⟩;intro u hu;obtain ⟨x,hx,e⟩:=List.mem_map.mp hu;cases x with
   | knot nm us=>cases e
   | call sn kn =>
     cases e;refine hid fun ZZ kZ=>?_;obtain ⟨v,_,_,hz⟩:=htab sn kn hx;refine kZ ?_;exact hz
theorem jh {t:Th} {s k:Int} (h:Th.call s k∈t.walk):(s,k)∈bu t:=List.mem_filterMap.mpr ⟨_,h,rfl⟩
theorem kE {t:Th} {c:Int×Int} (h:c∈bu t):c.1∈stT t:=List.mem_map.mpr ⟨c,h,rfl⟩
inductive cB (vs:List V) (H:Hp) (Q:VK) (_E:XK):Prop
 | mk (a nd:Addr) (t:Th) (g:Int->Int) (kvs:List (Key×V)) (zz0:vs=[.ref a,.ref nd]) (zz1:At H t a) (zz2:t.size<=100000) (zz3:H nd=some (.dK kvs)) (zz4:(∀ s∈stT t,bE kvs (.inl s)=some (.int (g s)))) (zz5:∀ (r:Addr) (H':Hp),L2.Same H H'->At H' (ren g t) r->Q (.ref r) H'):cB  vs H Q _E
def fN:Sp:=cB
theorem fV:FnOk P w K mg base CX0 4 T.g_restated.f T.g_restated.d ["pattern","names"] fN:=by
 refine T.g_restated.F.ok bM (fun vs H Q E h=>?_) (fun cdv A outer s H vs Q E hr h=>?_)
 · obtain ⟨a,nd,t,g,kvs,rfl,_⟩:=h;rfl
 obtain ⟨a,nd,t,g,kvs,rfl,hA,hsz,end',hval,k⟩:=h
 refine ⟨_,(ae (ar (i:=2) bM.nd rfl (Or.inl rfl) nY)
  (ae (bP PassesOwn.never rfl (cR (pcF T.g_called_in (ok_called_in T) hr (aa (pv 0) ac))) (cH rfl (aE (am (i:=3) bM.nd rfl (Or.inl rfl)) (aE (am (i:=4) bM.nd rfl (Or.inl rfl)) bX))) (ag (uB (pe hr) (pv 2) (aU (aa (pv 3) (aa (pv 4) ac))) (aU (aa (bF (v:=.str (Str.ofString "?")) rfl T.c_CALL_SIGN.choose_spec ⟨_,rfl⟩) (aa (mW (pe hr) (pv 1) (pv 3) (fun _ _=>rfl)) (aa (pv 4) ac)))) rfl)))
  (ag (au (pcF T.g_filled (iN T) hr (aa (pv 0) (aa (pv 2) ac))))))),?_⟩
 try dsimp only [cxK,cxKn]
 intro td htd;dsimp only [aH];have s1:L2.Same H (upd H td (.dT [])):=af htd _;have e1:(upd H td (.dT [])) td=some (.dT []):=ad;generalize (upd H td (.dT []))=H1 at s1 e1 ⊢;refine ⟨_,rfl,a,t,rfl,hA.mono (Same.kt s1),hsz,fun r as H2 s2 nr er hcs=>⟨r,rfl,⟨_,SqL.of er⟩,?_⟩⟩;have hcl:(bu t).length=as.length:=Paired.length hcs
 have hcw:(bu t).length<=100000:=by
  have h1:=List.length_filterMap_le kM t.walk;have h2:=Th.walk_len t;unfold bu;omega
 have hrt:r≠td:=fun z=>by rw [z,e1] at nr;cases nr
 refine dj (K:=K) (a:=r) (xs:=as.map V.ref) (fun i σ H3=>Ex3 fun (c3 c4:Option V) (tk:List (List Key×V))=>An7 (σ=[some (.ref a),some (.ref nd),some (.ref td),c3,c4]) (L2.Same H H3) (H3 r=some (.lst (as.map V.ref))) (Paired (CP H3) (bu t) as) (H3 td=some (.dT tk)) (tk.length<=i) (∀ c∈(bu t).take i,∃ v,bE tk [Sum.inl c.1,Sum.inl c.2]=some (.ref v)/\At H3 (.call (g c.1) c.2) v))
  ⟨none,none,[],rfl,s1.trans s2,er,hcs,s2 _ _ e1,Nat.le_refl _,fun c hc=>by rw [List.take_zero] at hc;cases hc⟩ (fun i σ H3 _ ⟨_,_,_,_,_,e,_,_,_,_⟩=>SqL.of e) ?_ ?_
 · rintro i x σ H3 hx ⟨c3,c4,tk,rfl,s3,er3,hcs3,et3,hlen,hall⟩;refine hid fun ZZ kZ=>?_;obtain ⟨ca,rfl,hca⟩:=aP hx;obtain ⟨⟨sn,kn⟩,hc,ec⟩:=P2.get' hcs3 hca;refine kZ ?_;have hil:i<100000:=by have:=(List.getElem?_eq_some_iff.mp hc).1;omega
   have hgs:=hval sn (kE (List.mem_of_getElem? hc));have ec':H3 ca=some (.tup [.int sn,.int kn]):=ec;refine ⟨ca,_,rfl,SqT.of ec',rfl,_,_,rfl,_,_,rfl,rfl,?_⟩;dsimp only [aH];have end3:=s3 _ _ end';refine ⟨_,rfl,_,rfl,nd,.int (g sn),rfl,.inl ⟨kvs,.inl sn,.inl end3,rfl,hgs.symm⟩,_,rfl,al (by show 3<=1000000;decide),fun cv hcv=>?_⟩;have s4:L2.Same H3 (upd H3 cv (.tup [.str (Str.ofString "?"),.int (g sn),.int kn])):=af hcv _;have e4:At (upd H3 cv (.tup [.str (Str.ofString "?"),.int (g sn),.int kn])) (.call (g sn) kn) cv:=by rw [At];exact ad
   generalize (upd H3 cv (.tup [.str (Str.ofString "?"),.int (g sn),.int kn]))=H4 at s4 e4 ⊢;refine ⟨_,rfl,_,rfl,_,rfl,al (by show 2<=1000000;decide),fun kp hkp=>?_⟩;have s5:L2.Same H4 (upd H4 kp (.tup [.int sn,.int kn])):=af hkp _;have e5:(upd H4 kp (.tup [.int sn,.int kn])) kp=some (.tup ([Sum.inl sn,Sum.inl kn].map kV)):=ad;generalize (upd H4 kp (.tup [.int sn,.int kn]))=H5 at s5 e5 ⊢;have s35:=s4.trans s5;have et5:=s35 _ _ et3;refine ⟨td,_,rfl,DPut.t et5 e5 (aD (by omega)),?_⟩;have k6:KT H5 (upd H5 td (.dT (putK tk [Sum.inl sn,Sum.inl kn] (.ref cv)))):=fun b xs e=>by rw [ak (cK e et5 (fun z=>nomatch z))];exact e
   have k36:=(Same.kt s35).trans k6;refine ⟨_,_,_,rfl,aF (s3.trans s35) htd,by rw [ak hrt];exact s35 _ _ er3,P2.mp (fun _ _ e=>k36 _ _ e) hcs3,ad,?_,fun c hc'=>?_⟩
   · have:=b7 tk [Sum.inl sn,Sum.inl kn] (.ref cv);omega
   · rw [oS];by_cases hcc:([Sum.inl c.1,Sum.inl c.2]:List Key)=[Sum.inl sn,Sum.inl kn]
     · rw [if_pos hcc]
       have h1:c.1=sn:=by
        have:=congrArg (fun l:List Key=>l[0]?) hcc;simpa using this
       have h2:c.2=kn:=by
        have:=congrArg (fun l:List Key=>l[1]?) hcc;simpa using this
       exact ⟨cv,rfl,by rw [h1,h2];exact (e4.mono (Same.kt s5)).mono k6⟩
     · rw [if_neg hcc];rw [take_snoc hc] at hc';rcases List.mem_append.mp hc' with h | h
       · obtain ⟨v,h1,h2⟩:=hall c h;exact ⟨v,h1,h2.mono k36⟩
       · exact absurd (by rw [List.mem_singleton.mp h]) hcc
 · rintro σ H3 ⟨c3,c4,tk,rfl,s3,er3,hcs3,et3,hlen,hall⟩;rw [List.take_of_length_le (by rw [List.length_map];omega)] at hall;refine ⟨_,rfl,_,rfl,a,td,t,fun s k=>.call (g s) k,tk,rfl,hA.mono (Same.kt s3),hsz,.inl et3,fun s k' hk'=>?_,fun r' H4 s4 h4=>k r' H4 (s3.trans s4) h4⟩;obtain ⟨v,h1,h2⟩:=hall (s,k') (jh hk');exact ⟨v,h1,h2,by rw [Th.size];decide⟩
def bi (m:List Int):List (Key×V):=m.zipIdx.map fun p=>(Sum.inl p.1,V.int (p.2:Nat))
theorem dU (m:List Int):(bi m).length=m.length:=by unfold bi;rw [List.length_map,List.length_zipIdx]
theorem iT (m:List Int) (s:Int):bi (m++[s])=bi m++[(Sum.inl s,V.int (m.length:Nat))]:=by
 unfold bi;rw [List.zipIdx_append,List.map_append];simp
theorem dI:∀ (m:List Int) (s:Int) (n:Nat),bE ((m.zipIdx n).map fun p=>((Sum.inl p.1:Key),V.int (p.2:Nat))) (Sum.inl s)=if s∈m then some (.int ((n+m.idxOf s:Nat):Int)) else none
 | [],s,n=>rfl
 | x::m,s,n=>by
   rw [List.zipIdx_cons,List.map_cons];by_cases h:x=s
   · subst h;rw [bz rfl,if_pos (List.mem_cons_self ..),List.idxOf_cons_self];rfl
   · rw [bC (fun z=>h (Sum.inl.inj z)),dI m s (n+1)];by_cases hm:s∈m
     · rw [if_pos hm,if_pos (List.mem_cons_of_mem _ hm),List.idxOf_cons,(beq_eq_false_iff_ne.mpr h:(x == s)=false)];simp only [cond_false];have:n+1+m.idxOf s=n+(m.idxOf s+1):=by omega
       rw [this]
     · rw [if_neg hm,if_neg (fun z=>(List.mem_cons.mp z).elim (fun y=>h y.symm) hm)]
theorem iC {m:List Int} {s:Int} (h:s∈m):bE (bi m) (Sum.inl s)=some (.int (idx m s)):=by
 unfold bi;rw [dI,if_pos h,Nat.zero_add];rfl
theorem kQ {m:List Int} {s:Int} (h:s∉m):bE (bi m) (Sum.inl s)=none:=by
 unfold bi;rw [dI,if_neg h]
inductive cY (vs:List V) (H:Hp) (Q:VK) (_E:XK):Prop
 | mk (a nd:Addr) (t:Th) (m:List Int) (zz0:vs=[.ref a,.ref nd]) (zz1:At H t a) (zz2:t.size<=100000) (zz3:H nd=some (.dK (bi m))) (zz4:(aC m (stT t)).length<=20) (zz5:∀ (r:Addr) (H':Hp),SameB nd H H'->H' nd=some (.dK (bi (aC m (stT t))))->At H' (ren (idx (aC m (stT t))) t) r->Q (.ref r) H'):cY  vs H Q _E
def d4:Sp:=cY
theorem dZ:FnOk P w K mg base CX0 5 T.g_renamed.f T.g_renamed.d ["pattern","numbers"] d4:=by
 refine T.g_renamed.F.ok cL (fun vs H Q E h=>?_) (fun cdv A outer s H vs Q E hr h=>?_)
 · obtain ⟨a,nd,t,m,rfl,_⟩:=h;rfl
 obtain ⟨a,nd,t,m,rfl,hA,hsz,end',h20,k⟩:=h
 refine ⟨_,(ae (bP PassesOwn.never rfl (cR (pcF T.g_called_in (ok_called_in T) hr (aa (pv 0) ac))) (cH rfl (aE (am (i:=2) cL.nd rfl (Or.inl rfl)) (aE (am (i:=3) cL.nd rfl (Or.inl rfl)) bX))) (ag (aS (ce PySem.F.plainAttrs_dict PySem.F.slot_dict_setdefault PySem.F.type_dict_setdefault ky (pv 1) (aa (pv 2) (aa (ax jd rfl T.n_len PySem.boot_len (aa (pv 1) ac)) ac))))))
  (ae (br (aN fI (ax jd rfl T.n_len PySem.boot_len (aa (pv 1) ac)) (bF (v:=.int (20)) rfl T.c_MOST_STATES.choose_spec ⟨_,rfl⟩) (aJ _)) (ag cF) aR)
  (ag (au (pcF T.g_restated (fV T) hr (aa (pv 0) (aa (pv 1) ac))))))),?_⟩
 try dsimp only [cxK,cxKn]
 refine ⟨_,rfl,a,t,rfl,hA,hsz,fun r as H1 s1 nr er hcs=>⟨r,rfl,⟨_,SqL.of er⟩,?_⟩⟩;have hcl:(bu t).length=as.length:=Paired.length hcs;have hrn:r≠nd:=fun z=>by rw [z,end'] at nr;cases nr
 refine dj (K:=K) (a:=r) (xs:=as.map V.ref) (fun i σ H3=>Ex2 fun c2 c3=>An6 (σ=[some (.ref a),some (.ref nd),c2,c3]) (SameB nd H H3) (KT H H3) (H3 r=some (.lst (as.map V.ref))) (Paired (CP H3) (bu t) as) (H3 nd=some (.dK (bi (aC m ((stT t).take i))))))
  ⟨none,none,rfl,SameB.of s1,Same.kt s1,er,hcs,by rw [List.take_zero];exact s1 _ _ end'⟩ (fun i σ H3 _ ⟨_,_,_,_,_,e,_,_⟩=>SqL.of e) ?_ ?_
 · rintro i x σ H3 hx ⟨c2,c3,rfl,s3,k3,er3,hcs3,en3⟩;refine hid fun ZZ kZ=>?_;obtain ⟨ca,rfl,hca⟩:=aP hx;obtain ⟨⟨sn,kn⟩,hc,ec⟩:=P2.get' hcs3 hca;refine kZ ?_;have ec':H3 ca=some (.tup [.int sn,.int kn]):=ec;have hst:(stT t)[i]?=some sn:=by unfold stT;rw [List.getElem?_map,hc];rfl
   have htk:aC m ((stT t).take (i+1))=dq (aC m ((stT t).take i)) sn:=by
    rw [take_snoc hst,bL];rfl
   have hsub:(dq (aC m ((stT t).take i)) sn).length<=20:=by
    have h1:aC m (stT t)=aC (aC m ((stT t).take (i+1))) ((stT t).drop (i+1)):=by rw [<- bL,List.take_append_drop]
    have h2:=(df ((stT t).drop (i+1)) (aC m ((stT t).take (i+1)))).length_le;rw [<- h1,htk] at h2;omega
   generalize aC m ((stT t).take i)=mi at en3 htk hsub ⊢;have hmi:=(lm mi sn).length_le;refine ⟨ca,_,rfl,SqT.of ec',rfl,_,_,rfl,_,_,rfl,rfl,?_⟩;dsimp only [aH];have hl:=dU mi;refine ⟨_,rfl,.inr (.inr (.inl ⟨rfl,.inl ⟨_,en3⟩⟩)),_,rfl,_,rfl,nd,_,rfl,en3,nd,.int ((bi mi).length:Nat),.inl sn,bi mi,rfl,rfl,en3,aD (by omega),fun u hu=>?_,fun hu=>?_⟩
   · have hin:sn∈mi:=by
      by_cases h:sn∈mi
      · exact h
      · rw [kQ h] at hu;cases hu
     refine ⟨_,_,rfl,s3,k3,er3,hcs3,?_⟩;rw [htk];unfold dq;rw [if_pos hin];exact en3
   · have hin:sn∉mi:=fun h=>by rw [iC h] at hu;cases hu
     have eput:putK (bi mi) (.inl sn) (.int ((bi mi).length:Nat))=bi (dq mi sn):=by
      rw [lp _ hu];unfold dq;rw [if_neg hin,iT,hl]
     rw [eput];have k4:KT H3 (upd H3 nd (.dK (bi (dq mi sn)))):=fun b xs e=>by rw [ak (cK e en3 (fun z=>nomatch z))];exact e
     refine ⟨_,_,rfl,fun b o hb e=>by rw [ak hb];exact s3 b o hb e,k3.trans k4,by rw [ak hrn];exact er3,P2.mp (fun _ _ e=>k4 _ _ e) hcs3,by rw [ad,htk]⟩
 · rintro σ H3 ⟨c2,c3,rfl,s3,k3,er3,hcs3,en3⟩;have hsl:(stT t).length=as.length:=by unfold stT;rw [List.length_map];omega
   rw [List.take_of_length_le (by rw [List.length_map];omega)] at en3;have hl:=dU (aC m (stT t));dsimp only [sC];refine bJ (fun σ' H'=>An2 (H3=H') (σ'=[some (.ref a),some (.ref nd),c2,c3])) (fun kk hk=>?_) ?_
   · refine ⟨_,rfl,nd,_,rfl,en3,_,_,rfl,rfl,_,rfl,?_⟩;refine cq (fun c=>?_) (fun c=>hk _ _ ⟨rfl,rfl⟩);have:=of_decide_eq_true c;omega
   rintro σ' H' ⟨rfl,rfl⟩;exact ⟨_,rfl,_,rfl,a,nd,t,idx (aC m (stT t)),_,rfl,hA.mono k3,hsz,en3,fun s hs=>iC (bj.mpr (.inr hs)),fun r' H4 s4 h4=>k r' H4 (fun b o hb e=>s4 _ _ (s3 b o hb e)) (s4 _ _ en3) h4⟩
inductive cC (P:Program) (w:World) (K:PySem.W.Frag) (mg:Str->Option Value) (base:Heap) (vs:List V) (H:Hp) (Q:VK) (_E:XK):Prop
 | mk (ia oa ha f:Addr) (head:Th) (rows:List (List Th)) (spf:Sp) (zz0:vs=[.ref ia,.ref oa,.ref ha,.ref f]) (zz1:At H head ha) (zz2:head.size<=1000) (zz3:CallsOk head rows) (zz4:(∀ row∈rows,row.length<=8/\∀ t∈row,t.size<=1000)) (zz5:pi P w K mg base CX0 5 f spf) (zz6:(∀ (H1:Hp) (s:Int) (R:VK),L2.Same H H1->s∈met head rows->(∀ (r:Addr) (as:List Addr) (H2:Hp),L2.Same H1 H2->H2 r=some (.tup (as.map V.ref))->Ats H2 (rowOf rows s) as->R (.ref r) H2)->spf [.int s] H1 R E0)) (zz7:∀ (r fh rl:Addr) (rls:List Addr) (H':Hp),L2.Same H H'->H' r=some (.tup [.ref ia,.ref oa,.ref fh,.ref rl])->At H' (dS head rows) fh->H' rl=some (.tup (rls.map V.ref))->Paired (RowAt H') (eL head rows) rls->Q (.ref r) H'):cC P w K mg base vs H Q _E
def fS (P:Program) (w:World) (K:PySem.W.Frag) (mg:Str->Option Value) (base:Heap):Sp:=cC P w K mg base
theorem su {rows:List (List Th)} (h:∀ row∈rows,row.length<=8/\∀ t∈row,t.size<=1000) (s:Int):(rowOf rows s).length<=8/\∀ t∈rowOf rows s,t.size<=1000:=by
 unfold rowOf;rw [List.getD];cases e:rows[s.toNat]? with
 | none=>exact ⟨Nat.zero_le _,fun t ht=>by cases ht⟩
 | some r=>exact h r (List.mem_of_getElem? e)
theorem da (a b:List Th):aX (a++b)=aX a++aX b:=List.flatMap_append
theorem rM (m:List Int):((bi m).map fun kv=>kV kv.1)=m.map V.int:=by
 have:∀ (l:List Int) (n:Nat),(((l.zipIdx n).map fun p=>((Sum.inl p.1:Key),V.int (p.2:Nat))).map fun kv=>kV kv.1)=l.map V.int:=by
  intro l;induction l with
  | nil=>exact fun _=>rfl
  | cons x l ih=>intro n;rw [List.zipIdx_cons,List.map_cons,List.map_cons,ih (n+1)];rfl
 exact this m 0
set_option maxHeartbeats 2000000 in
theorem fL:FnOk P w K mg base CX0 8 T.g_numbered.f T.g_numbered.d ["ins","outs","head","patterns_of"] (fS P w K mg base):=by
 refine T.g_numbered.F.ok bp (fun vs H Q E h=>?_) (fun cdv A outer s H vs Q E hr h=>?_)
 · obtain ⟨ia,oa,ha,f,head,rows,spf,rfl,_⟩:=h;rfl
 obtain ⟨ia,oa,ha,f,head,rows,spf,rfl,hA,hsz,hco,hrs,hfv,hspf,k⟩:=h
 refine ⟨_,(ae (ar (i:=4) bp.nd rfl (Or.inr rfl) rO)
  (ae (ar (i:=5) bp.nd rfl (Or.inl rfl) (pcF T.g_renamed (dZ T) hr (aa (pv 2) (aa (pv 4) ac))))
  (ae (ar (i:=6) bp.nd rfl (Or.inl rfl) (bt ac))
  (ae (eT PassesOwn.never (aN oZ (ax ay rfl T.n_len PySem.boot_len (aa (pv 6) ac)) (ax jd rfl T.n_len PySem.boot_len (aa (pv 4) ac)) (aJ _)) (ae (ar (i:=7) bp.nd rfl (Or.inl rfl) (aK cT (aG (o8 rfl) rfl T.n_list PyProof.Rows.boot_list (aa (pv 4) ac)) (ax ay rfl T.n_len PySem.boot_len (aa (pv 6) ac)) (fun _ _=>rfl)))
  (ag (aS (ce PySem.F.plainAttrs_list PySem.F.slot_list_append PySem.F.type_list_append aQ (pv 6) (aa (aG aB rfl T.n_tuple PyProof.Rows.boot_tuple (aa (bY (N:=[Str.ofString "pattern",Str.ofString "numbers"]) (js:=[none,some 4]) (g:=(aH 0)) (tt:=bn) (te:=(gA d4 [] E0 (bH (b9 0) (bH (b9 1) fu)))) rfl (cJ rfl (by decide +kernel) (by decide +kernel) rfl rfl rfl) (pE (nV (k:=5) (i:=3) rfl (Or.inl rfl) (hr.mono (by first | decide | omega)) dM (aa (pv 7) ac))) (fun _ _ _ _ _ _=>(am (i:=0) w9 rfl (Or.inl rfl))) (bo rfl) (fun _ _ _ _ _ _=>bN) (fun _ _ _ _ _ _=>(pcF T.g_renamed (dZ T) hr (aa (pv 0) (aa (pv 1) ac))))) ac)) ac))))))
  (ag (au (aU (aa (pv 0) (aa (pv 1) (aa (pv 5) (aa (aG aB rfl T.n_tuple PyProof.Rows.boot_tuple (aa (pv 6) ac)) ac))))))))))),?_⟩
 try dsimp only [cxK,cxKn]
 have hM20:=hco.len;have hpre0:aC [] (stT head) <+: met head rows:=dD _ _ _ _;intro nd hnd;dsimp only [aH];have s1:L2.Same H (upd H nd (.dK [])):=af hnd _;have e1:(upd H nd (.dK [])) nd=some (.dK (bi [])):=ad;generalize (upd H nd (.dK []))=H1 at s1 e1 ⊢;refine ⟨_,rfl,_,rfl,ha,nd,head,[],rfl,hA.mono (Same.kt s1),by omega,e1,Nat.le_trans hpre0.length_le hM20,fun fh H2 sb2 en2 h2=>?_⟩;dsimp only [aH];have eren:ren (idx (aC [] (stT head))) head=dS head rows:=i6 head fun x hx=>(jV hpre0 (bj.mpr (.inr hx))).symm;rw [eren] at h2;have s2:L2.Same H H2:=fun b o e=>sb2 b o (ao e hnd) (s1 b o e);refine ⟨al (by show 0<=1000000;decide),fun rl hrl=>?_⟩;have s3:L2.Same H2 (upd H2 rl (.lst [])):=af hrl _;have e3:(upd H2 rl (.lst [])) rl=some (.lst []):=ad;have hrlH:H rl=none:=s2.free hrl;have hndrl:nd≠rl:=fun z=>by rw [<- z,en2] at hrl;cases hrl
 generalize (upd H2 rl (.lst []))=H3 at s3 e3 ⊢
 refine ⟨fun mz σ H4=>Ex4 fun (i:Nat) (mm:List Int) (bs:List Addr) (tv:Option V)=>tG (σ=[some (.ref ia),some (.ref oa),some (.ref ha),some (.ref f),some (.ref nd),some (.ref fh),some (.ref rl),tv]) (L2.Same H H4) (H4 nd=some (.dK (bi mm))) (H4 rl=some (.lst (bs.map V.ref))) (Paired (RowAt H4) (((met head rows).take i).map fun s=>(rowOf rows s).map (ren (idx (met head rows)))) bs) (At H4 (dS head rows) fh) (mm <+: met head rows) (bfs (rowOf rows) (21 - i) mm i=met head rows) (i<=mm.length) (mz=21 - i),
  ⟨_,0,aC [] (stT head),[],none,rfl,s2.trans s3,s3 _ _ en2,e3,.nil,h2.mono (Same.kt s3),hpre0,rfl,Nat.zero_le _,rfl⟩,?_⟩
 rintro mz σ H4 ⟨i,mm,bs,tv,rfl,s4,en4,er4,hbs,hfh,hpre,hbfs,hi,rfl⟩;have hmm:=hpre.length_le
 have hbl:bs.length=i:=by
  have:=Paired.length hbs;rw [List.length_map,List.length_take] at this;omega
 have hnl:=dU mm;refine ⟨_,rfl,rl,_,rfl,.inl (SqL.of er4),_,rfl,nd,_,rfl,en4,_,_,rfl,rfl,_,rfl,?_⟩;refine cq (fun cc=>?_) (fun cc=>?_)
 · have hlt:i<mm.length:=by
    have:=of_decide_eq_true cc;rw [List.length_map] at this;omega
   refine ⟨fun σ' H'=>∃ m',m'<21 - i/\Ex4 fun (i:Nat) (mm:List Int) (bs:List Addr) (tv:Option V)=>tG (σ'=[some (.ref ia),some (.ref oa),some (.ref ha),some (.ref f),some (.ref nd),some (.ref fh),some (.ref rl),tv]) (L2.Same H H') (H' nd=some (.dK (bi mm))) (H' rl=some (.lst (bs.map V.ref))) (Paired (RowAt H') (((met head rows).take i).map fun s=>(rowOf rows s).map (ren (idx (met head rows)))) bs) (At H' (dS head rows) fh) (mm <+: met head rows) (bfs (rowOf rows) (21 - i) mm i=met head rows) (i<=mm.length) (m'=21 - i),fun σ' H' h=>h,?_⟩;obtain ⟨sn,hsn⟩:∃ sn,mm[i]?=some sn:=⟨_,List.getElem?_eq_getElem hlt⟩
   have hMi:(met head rows)[i]?=some sn:=by
    obtain ⟨rr,hrr⟩:=hpre;rw [<- hrr,List.getElem?_append_left hlt];exact hsn
   have hsM:sn∈met head rows:=List.mem_of_getElem? hMi;refine ⟨_,rfl,nd,_,rfl,en4,fun l hl=>?_⟩;have s5:L2.Same H4 (upd H4 l (.lst ((bi mm).map fun kv=>kV kv.1))):=af hl _;have e5:(upd H4 l (.lst ((bi mm).map fun kv=>kV kv.1))) l=some (.lst (mm.map V.int)):=by rw [ad,rM]
   generalize (upd H4 l (.lst ((bi mm).map fun kv=>kV kv.1)))=H5 at s5 e5 ⊢;have er5:=s5 _ _ er4;have en5:=s5 _ _ en4;have hbm:(bs.map V.ref).length=i:=by rw [List.length_map];exact hbl
   refine ⟨_,rfl,rl,_,rfl,.inl (SqL.of er5),l,_,_,.int sn,rfl,rfl,SqL.of e5,at_nonneg (by omega) (by rw [hbm,Int.toNat_natCast,List.getElem?_map,hsn];rfl),?_⟩;dsimp only [aH];refine ⟨_,rfl,.inl ⟨rfl,_,SqL.of er5⟩,f,spf,rfl,hfv,_,rfl,hspf H5 sn _ (s4.trans s5) hsM fun r as H6 s6 er6 hats=>⟨r,rfl,.inr ⟨⟨_,SqT.of er6⟩,?_⟩⟩⟩;obtain ⟨hrow8,hrowz⟩:=su hrs sn;generalize hrow:rowOf rows sn=row at hats hrow8 hrowz;have hal:=hats.length
   have hstep:bfs (rowOf rows) (21 - i) mm i=bfs (rowOf rows) (21 - (i+1)) (aC mm (aX row)) (i+1):=by
    rw [show 21 - i=(21 - (i+1))+1 by omega,bfs,hsn];show bfs (rowOf rows) (21 - (i+1)) (aC mm (aX (rowOf rows sn))) (i+1)=_;rw [hrow]
   rw [hstep] at hbfs;have hpre':aC mm (aX row) <+: met head rows:=by rw [<- hbfs];exact dD _ _ _ _
   have en6:=s6 _ _ en5;have er66:=s6 _ _ er5;have s06:=s4.trans (s5.trans s6);intro D hD;have hDnd:D≠nd:=fun z=>by rw [z,en6] at hD;cases hD
   have hDrl:D≠rl:=fun z=>by rw [z,er66] at hD;cases hD
   have kt6:∀ (H7:Hp),SameB nd H6 H7->KT H6 H7:=fun H7 sb b xs e=>sb b _ (cK e en6 (fun z=>nomatch z)) e
   refine ⟨as.length,fun j H7=>An4 (j<=as.length) (SameB nd H6 H7) (H7 nd=some (.dK (bi (aC mm (aX (row.take j)))))) (Ex1 fun (ds:List Addr)=>An2 (H7 D=some (.lst (ds.map V.ref))) (Ats H7 ((row.take j).map (ren (idx (met head rows)))) ds)),
    ⟨Nat.zero_le _,SameB.of (af hD _),by rw [ak hDnd.symm];exact en6,[],ad,.nil⟩,?_⟩
   rintro j H7 ⟨hj,sb7,en7,ds,eD,hds⟩;have er7:H7 r=some (.tup (as.map V.ref)):=kt6 H7 sb7 _ _ er6
   have hdl:ds.length=j:=by
    have:=hds.length;rw [List.length_map,List.length_take] at this;omega
   by_cases hjk:j=as.length
   · left;refine ⟨⟨_,SqT.of er7,by rw [List.length_map,hjk];exact Nat.le_refl _⟩,?_⟩;have hall:row.take j=row:=by rw [hjk,hal,List.take_length]
     rw [hall] at hds en7;have s07:L2.Same H H7:=fun b o e=>sb7 b o (ao e hnd) (s06 b o e);have er77:H7 rl=some (.lst (bs.map V.ref)):=sb7 _ _ hndrl.symm er66;refine ⟨D,_,rfl,.inl ⟨SqL.of eD,fun tp htp=>?_⟩⟩;have s8:L2.Same H7 (upd H7 tp (.tup (ds.map V.ref))):=af htp _;have e8:(upd H7 tp (.tup (ds.map V.ref))) tp=some (.tup (ds.map V.ref)):=ad;generalize (upd H7 tp (.tup (ds.map V.ref)))=H8 at s8 e8 ⊢;have er8:=s8 _ _ er77;refine ⟨rl,_,_,rfl,rfl,er8,aD (by rw [List.length_map];omega),?_⟩;have k9:KT H8 (upd H8 rl (.lst (bs.map V.ref++[.ref tp]))):=bc er8;have k49:KT H4 (upd H8 rl (.lst (bs.map V.ref++[.ref tp]))):=((Same.kt (s5.trans s6)).trans (kt6 H7 sb7)).trans ((Same.kt s8).trans k9);refine ⟨21 - (i+1),by omega,i+1,aC mm (aX row),bs++[tp],_,rfl,aF (s07.trans s8) hrlH,by rw [ak hndrl];exact s8 _ _ en7,by rw [ad,List.map_append];rfl,?_,hfh.mono k49,hpre',hbfs,Nat.le_trans hlt (df _ _).length_le,rfl⟩;rw [take_snoc hMi,List.map_append];refine P2.append (P2.mp (fun _ _ e=>RowAt.mono k49 e) hbs) (.cons ⟨ds,k9 _ _ e8,?_⟩ .nil);dsimp only;rw [hrow];exact hds.mono ((Same.kt s8).trans k9)
   · right;have hj':j<as.length:=by omega
     refine ⟨hj',⟨_,.ref as[j],SqT.of er7,by rw [List.getElem?_map,List.getElem?_eq_getElem hj'];rfl⟩,?_⟩;rintro y H8 ⟨rfl,hv⟩;have hv':=hv _ (SqT.of er7);obtain ⟨ta,rfl,hta⟩:=aP hv';obtain ⟨t,ht,hat⟩:=(hats.mono (kt6 _ sb7)).get hta;have htk:row.take (j+1)=row.take j++[t]:=by rw [List.take_add_one,ht];rfl
     have hadd:aC mm (aX (row.take (j+1)))=aC (aC mm (aX (row.take j))) (stT t):=by
      rw [htk,da,bL];show aC _ (stT t++[])=_;rw [List.append_nil]
     have hpj:aC mm (aX (row.take (j+1))) <+: met head rows:=by
      refine List.IsPrefix.trans ?_ hpre';have:aC mm (aX row)=aC (aC mm (aX (row.take (j+1)))) (aX (row.drop (j+1))):=by rw [<- bL,<- da,List.take_append_drop]
      rw [this];exact df _ _
     rw [hadd] at hpj;have hzt:=hrowz t (List.mem_of_getElem? ht);refine ⟨_,rfl,_,rfl,ta,nd,t,_,rfl,hat,by omega,en7,Nat.le_trans hpj.length_le hM20,fun r' H9 sb9 en9 h9=>?_⟩;have er':ren (idx (aC (aC mm (aX (row.take j))) (stT t))) t=ren (idx (met head rows)) t:=i6 t fun x hx=>(jV hpj (bj.mpr (.inr hx))).symm;rw [er'] at h9;have eD9:=sb9 _ _ hDnd eD;have k89:KT H8 H9:=fun b xs e=>sb9 b _ (cK e en7 (fun z=>nomatch z)) e;have kA:KT H9 (upd H9 D (.lst (ds.map V.ref++[.ref r']))):=bc eD9;refine ⟨_,eD9,aD (by rw [List.length_map];omega),hj',fun b o hb e=>?_,?_,ds++[r'],?_,?_⟩
     · rw [ak (ao e hD)];exact sb9 b o hb (sb7 b o hb e)
     · rw [ak hDnd.symm,hadd];exact en9
     · rw [ad,List.map_append];rfl
     · rw [htk,List.map_append];exact (hds.mono (k89.trans kA)).append (.cons (h9.mono kA) .nil)
 · have hge:i=mm.length:=by
    by_cases h:i<mm.length
    · exact absurd (decide_eq_true (by rw [List.length_map];omega)) cc
    · omega
   have hMm:met head rows=mm:=by rw [<- hbfs,qm _ _ _ _ (by omega)]
   have htk:(met head rows).take i=met head rows:=by rw [List.take_of_length_le (by rw [hMm];omega)]
   rw [htk] at hbs;refine ⟨_,rfl,_,rfl,_,rfl,_,rfl,rl,_,rfl,.inl ⟨SqL.of er4,fun rt hrt=>⟨al (by show 4<=1000000;decide),fun r hr'=>?_⟩⟩⟩;have t1:=af hrt (.tup (bs.map V.ref));have t2:=af hr' (.tup [.ref ia,.ref oa,.ref fh,.ref rt]);have t12:=t1.trans t2;exact k r fh rt bs _ (s4.trans t12) ad (hfh.mono (Same.kt t12)) (t2 _ _ ad) (P2.mp (fun _ _ e=>RowAt.mono (Same.kt t12) e) hbs)
def aO:Expr:=match aY cf with
 | [.Return (some (.Call _ [_,_,_,l] _ _)) _]=>l
 | _=>.Name "" ⟨0,0,0,0⟩
def wP:Expr->Arguments
 | .Lambda p _ _ _=>p
 | _=>bf cf
def wI:Expr->Expr
 | .Lambda _ b _ _=>b
 | e=>e
def uQ:Expr->Scope
 | .Lambda _ _ s _=>s
 | _=>aj cf
def nj:Expr->Pos
 | .Lambda _ _ _ p=>p
 | _=>⟨0,0,0,0⟩
def rc:Str:="trimmed.<locals>."++"<lambda>"
inductive qA (f c' c:Addr) (vs:List V) (H:Hp) (Q:VK) (_E:XK):Prop
 | mk (st:Int) (b:Addr) (v1 v2 v3:V) (ra:Addr) (xs:List V) (v:V) (zz0:vs=[.int st]) (zz1:LamAt H f c' "<lambda>" rc (wP aO) (wI aO) (uQ aO) [("book",c)]) (zz2:CodeAt H c' rc) (zz3:CellAt H c (.ref b)) (zz4:H b=some (.tup [v1,v2,v3,.ref ra])) (zz5:H ra=some (.tup xs)) (zz6:0<=st) (zz7:xs[st.toNat]?=some v) (zz8:Q v H):qA f c' c vs H Q _E
def rV (f c' c:Addr):Sp:=qA f c' c
theorem v6 (c:Addr):pd ["state","book"] ["state"] [("book",c)] (uQ aO):=by
 refine ⟨rfl,rfl,rfl,by decide +kernel,by decide +kernel,rfl,by decide +kernel,by decide +kernel,fun x h=>?_,fun x y c1 h1 h2=>?_⟩
 · by_cases hx:x="book"
   · exact ⟨c,by rw [hx];rfl⟩
   · exfalso;have hm:=PySem.mem_of_lookup h;have hall:∀ z∈(uQ aO).names,z.2=.free->z.1="book":=by decide +kernel
     exact hx (hall _ hm rfl)
 · have e1:=PySem.mem_of_lookup h1;have e2:=PySem.mem_of_lookup h2;rw [List.mem_singleton] at e1 e2;exact (congrArg Prod.fst e1).trans (congrArg Prod.fst e2).symm
include T in
set_option maxHeartbeats 1000000 in
theorem pf (f c' c:Addr):pi P w K mg base CX0 5 f (rV f c' c):=by
 refine vT (k:=4) (c':=c') (name:="<lambda>") (qual:=rc) (params:=wP aO) (body:=wI aO) (v6 c) (fun pm ctv us hl=>?_) (fun vs H Q E h=>?_) fun A outer s H vs Q E hr h=>?_
 · obtain ⟨u,rfl⟩:=us1 hl;rfl
 · obtain ⟨st,b,v1,v2,v3,ra,xs,v,rfl,hl,hc,hcell,_⟩:=h;refine ⟨rfl,hl,hc,fun b' hb=>?_,fun x c1 hx=>?_⟩
   · obtain rfl:b'=c:=List.mem_singleton.mp hb;obtain ⟨φ,e,_⟩:=hcell;exact ⟨φ,e⟩
   · have e1:=PySem.mem_of_lookup hx;rw [List.mem_singleton] at e1;cases e1;exact ⟨_,hcell⟩
 · obtain ⟨st,b,v1,v2,v3,ra,xs,v,rfl,hl,hc,hcell,eb,er,h0,hv,q⟩:=h
   have hx:Exts (([("book",c)]:List (Str×Addr)).map (·.2)) H:=fun b' hb=>by
    obtain rfl:b'=c:=List.mem_singleton.mp hb;obtain ⟨φ,e,_⟩:=hcell;exact ⟨φ,e⟩
   refine ⟨_,[.ref b],.cons ⟨c,rfl,hcell⟩ .nil,aK aL (dw (di T) (hr.mono (by decide)) rfl T.g_rules_of.m T.g_rules_of.F.kp T.g_rules_of.b .nil dM (aa (pv 1) ac)) (pv 0) (fun _ _=>rfl),?_⟩;have eb':fgt (([("book",c)]:List (Str×Addr)).map (·.2)) H b=some (.tup [v1,v2,v3,.ref ra]):=by rw [be (hx.out eb fun φ z=>nomatch z)];exact eb
   have er':fgt (([("book",c)]:List (Str×Addr)).map (·.2)) H ra=some (.tup xs):=by rw [be (hx.out er fun φ z=>nomatch z)];exact er
   refine ⟨_,rfl,b,v1,v2,v3,_,rfl,eb',_,rfl,ra,xs,st,v,rfl,rfl,SqT.of er',at_nonneg h0 hv,?_⟩;rw [uK];exact q
inductive jI (tp:Addr) (vs:List V) (H:Hp) (Q:VK) (_E:XK):Prop
 | mk (b ia oa ha ra:Addr) (ras:List Addr) (head:Th) (rows:List (List Th)) (zz0:vs=[.ref b]) (zz1:H b=some (.tup [.ref ia,.ref oa,.ref ha,.ref ra])) (zz2:At H head ha) (zz3:H ra=some (.tup (ras.map V.ref))) (zz4:Paired (RowAt H) rows ras) (zz5:head.size<=1000) (zz6:CallsOk head rows) (zz7:(∀ row∈rows,row.length<=8/\∀ t∈row,t.size<=1000)) (zz8:TabSt H tp (nj aO) rc) (zz9:∀ (r fh rl:Addr) (rls:List Addr) (H':Hp),SameT tp H H'->TabSt H' tp (nj aO) rc->H' r=some (.tup [.ref ia,.ref oa,.ref fh,.ref rl])->At H' (dS head rows) fh->H' rl=some (.tup (rls.map V.ref))->Paired (RowAt H') (eL head rows) rls->Q (.ref r) H'):jI tp vs H Q _E
def pU (tp:Addr):Sp:=jI tp
set_option maxHeartbeats 1000000 in
theorem pO (L:Lam mg base T.tc_trimmed T.tp_trimmed):FnOk P w K mg base CX0 9 T.g_trimmed.f T.g_trimmed.d ["book"] (pU T.tp_trimmed):=by
 refine T.g_trimmed.F.okT T.th_trimmed qa (fun vs H Q E h=>?_) (fun A outer s H vs Q E hr h=>?_)
 · obtain ⟨b,ia,oa,ha,ra,ras,head,rows,rfl,_⟩:=h;rfl
 obtain ⟨b,ia,oa,ha,ra,ras,head,rows,rfl,eb,hA,er,hrw,hsz,hco,hrs,htab,q⟩:=h;refine ⟨_,(ag (au (oo (cl:=[("book",s.heap.objs.size+1)]) (fL T) (hr.mono (by decide)) rfl T.g_numbered.m T.g_numbered.F.kp T.g_numbered.b (yp rfl rfl rfl) (aa (dw (dF T) (hr.mono (by decide)) rfl T.g_ins_of.m T.g_ins_of.F.kp T.g_ins_of.b .nil dM (aa (pv 0) ac)) (aa (dw (dL T) (hr.mono (by decide)) rfl T.g_outs_of.m T.g_outs_of.F.kp T.g_outs_of.b .nil dM (aa (pv 0) ac)) (aa (dw (dP T) (hr.mono (by decide)) rfl T.g_head_of.m T.g_head_of.F.kp T.g_head_of.b .nil dM (aa (pv 0) ac)) (aa (vI (pos:=nj aO) (params:=wP aO) (body:=wI aO) (scope:=uQ aO) (cl:=[("book",s.heap.objs.size+1)]) L rfl rfl) ac))))))),?_⟩
 try dsimp only [cxK,cxKn]
 refine ⟨_,rfl,b,_,_,_,_,rfl,eb,_,rfl,b,_,_,_,_,rfl,eb,_,rfl,b,_,_,_,_,rfl,eb,htab,fun f c' H1 s1 et hcd hlm hf=>fun H2 trk=>?_⟩;have k01:KT H H1:=htab.kt s1;have s12:=trk.same;have k02:KT H H2:=k01.trans (Same.kt s12);have hcell:CellAt H2 (s.heap.objs.size+1) (.ref b):=trk.2.2.2 0 "book" (.ref b) _ rfl rfl rfl;refine ⟨ia,oa,ha,f,head,rows,rV f c' (s.heap.objs.size+1),rfl,hA.mono k02,hsz,hco,hrs,pf T f c' _,fun H3 st R s3 hst hR=>?_,fun r fh rl rls H3 s3 e3 h3 el3 hp3=>?_⟩
 · have h0:=hco.rng st hst;have hlt:st.toNat<rows.length:=by omega
   refine hid fun ZZ kZ=>?_;obtain ⟨a,ha',as,ea,has⟩:=P2.get (P2.mp (fun _ _ e=>RowAt.mono (k02.trans (Same.kt s3)) e) hrw) (List.getElem?_eq_getElem hlt);refine kZ ?_;refine ⟨st,b,.ref ia,.ref oa,.ref ha,ra,ras.map V.ref,.ref a,rfl,(hlm.mono s12).mono s3,(hcd.mono s12).mono s3,hcell.mono s3,s3 _ _ (k02 _ _ eb),s3 _ _ (k02 _ _ er),h0.1,by rw [List.getElem?_map,ha'];rfl,?_⟩;refine hR a as H3 (.refl _) ea ?_;have:rowOf rows st=rows[st.toNat]:=by unfold rowOf;rw [List.getD,List.getElem?_eq_getElem hlt];rfl
   rw [this];exact has
 · refine ⟨fun b' hb=>?_,q r fh rl rls _ (s1.trans ((trk.back s3).t _)) ((show TabSt H1 _ _ _ from .inr ⟨c',et,hcd⟩).mono (trk.back s3)) (trk.kt s3 _ _ e3) (h3.mono (trk.kt s3)) (trk.kt s3 _ _ el3) (P2.mp (fun _ _ e=>RowAt.mono (trk.kt s3) e) hp3)⟩;obtain ⟨φ,e⟩:=trk.2.2.1 b' hb;rw [e,s3 _ _ e]
open G (mf qh dm cu i5 dF fM di gF dL g6 dP)
instance (t:Th):Decidable (Small t):=decidable_of_iff (t.tall<=20/\t.kn<=400/\cnT t<=200) ⟨fun h=>⟨h.1,h.2.1,h.2.2⟩,fun h=>⟨h.1,h.2,h.3⟩⟩
theorem tD {ts:List Th} (h:ts≠[]):∃ t∈ts,aI ts=t.tall:=by
 induction ts with
 | nil=>exact absurd rfl h
 | cons x ts ih =>
   rw [aI];by_cases hz:ts=[]
   · subst hz;exact ⟨x,List.mem_cons_self ..,by rw [aI];omega⟩
   · obtain ⟨t,ht,e⟩:=ih hz;by_cases hc:aI ts<=x.tall
     · exact ⟨x,List.mem_cons_self ..,by omega⟩
     · exact ⟨t,List.mem_cons_of_mem _ ht,by omega⟩
def RwAt (H:Hp) (e:Th×Int) (p:Addr):Prop:=∃ ta,H p=some (.tup [.ref ta,.int e.2])/\At H e.1 ta
theorem RwAt.mono {H H':Hp} (k:KT H H') {e:Th×Int} {p:Addr} (h:RwAt H e p):RwAt H' e p:=by
 obtain ⟨ta,h1,h2⟩:=h;exact ⟨ta,k _ _ h1,h2.mono k⟩
inductive iE (vs:List V) (H:Hp) (Q:VK) (_E:XK):Prop
 | mk (a:Addr) (t:Th) (zz0:vs=[.ref a]) (zz1:At H t a) (zz2:t.size<=100000) (zz3:∀ H',L2.Same H H'->Q (.bl (decide (Small t))) H'):iE  vs H Q _E
def n9:Sp:=iE
set_option maxHeartbeats 2000000 in
theorem nW:FnOk P w K mg base CX0 4 T.g_is_small.f T.g_is_small.d ["pattern"] n9:=by
 refine T.g_is_small.F.ok db (fun vs H Q E h=>?_) (fun cdv A outer s H vs Q E hr h=>?_)
 · obtain ⟨a,t,rfl,_⟩:=h;rfl
 obtain ⟨a,t,rfl,hA,hsz,q⟩:=h
 refine ⟨_,(ae (ar (i:=1) db.nd rfl (Or.inl rfl) (nX T.mk_Measure (cu T) (hr.mono (by first | decide | omega)) rfl T.x_Measure T.b_Measure_init .nil dM))
  (ae (ar (i:=2) db.nd rfl (Or.inl rfl) (bt (aa (aU (aa (pv 0) (aa ai ac))) ac)))
  (ae (eT PassesOwn.never (aV (pv 2) (fun _=>rfl)) (ae (g9 (nb PySem.F.plainAttrs_list PySem.F.slot_list_pop PySem.F.type_list_pop mG (pv 2)) (cH rfl (aE (am (i:=3) db.nd rfl (Or.inl rfl)) (aE (am (i:=4) db.nd rfl (Or.inr rfl)) bX))))
  (ae (br (dO (aV (qT (pv 1) T.cl_Measure T.me_Measure_takes (ok_Measure_takes T) (hr.mono (by first | decide | omega)) T.b_Measure_takes .nil dM (aa (pv 3) (aa (pv 4) ac))) (fun _=>rfl))) (ag (au im)) aR)
  (ag (aS (ce PySem.F.plainAttrs_list PySem.F.slot_list_extend PySem.F.type_list_extend mj (pv 2) (aa (bY (N:=[Str.ofString "kid",Str.ofString "row"]) (js:=[none,some 4]) (g:=(aH 0)) (tt:=bn) (te:=(uo (bH (b9 0) (bH (tOp (rI0 fun i j=>.int (i+j)) (b9 1) (tC (.int 1))) fu)))) rfl (cJ rfl (by decide +kernel) (by decide +kernel) rfl rfl rfl) (dX (pcF T.g_kids_of (ok_kids_of T) hr (aa (pv 3) ac))) (fun _ _ _ _ _ _=>(am (i:=0) yi rfl (Or.inl rfl))) (bo rfl) (fun _ _ _ _ _ _=>bN) (fun _ _ _ _ _ _=>(aU (aa (pv 0) (aa (av bO (pv 1) ai) ac))))) ac)))))))
  (ag (au im))))),?_⟩
 try dsimp only [cxK,cxKn]
 intro mo dx hmo hdx hne;refine ⟨mo,dx,rfl,ad,fun H1 k1 emo=>⟨rfl,?_⟩⟩
 have s0:L2.Same H (upd (upd H dx (.own mo)) mo (.ins T.e_Measure dx [])):=fun b o e=>by
  rw [ak (ao e hmo),ak (ao e hdx)];exact e
 have s1:L2.Same H H1:=fun b o e=>k1 b o (ao e hmo) (s0 b o e);refine ⟨_,rfl,al (by show 2<=1000000;decide),fun p0 hp0=>?_⟩;dsimp only [aH];have s2:L2.Same H1 (upd H1 p0 (.tup [.ref a,.int 1])):=af hp0 _;have e2:(upd H1 p0 (.tup [.ref a,.int 1])) p0=some (.tup [.ref a,.int 1]):=ad;generalize (upd H1 p0 (.tup [.ref a,.int 1]))=H2 at s2 e2 ⊢;refine ⟨al (by show 1<=1000000;decide),fun ah hah=>?_⟩;have s3:L2.Same H2 (upd H2 ah (.lst [.ref p0])):=af hah _;have e3:(upd H2 ah (.lst [.ref p0])) ah=some (.lst (([p0]:List Addr).map V.ref)):=ad;have hahH:H ah=none:=(s1.trans s2).free hah;have hma:mo≠ah:=fun z=>by rw [<- z,s2 _ _ emo] at hah;cases hah
 generalize (upd H2 ah (.lst [.ref p0]))=H3 at s3 e3 ⊢;have s13:=s2.trans s3;refine ⟨fun m σ H4=>Ex6 fun (ps:List Addr) (As:List (Th×Int)) (k c:Int) (pv rv:Option V)=>wu (σ=[some (.ref a),some (.ref mo),some (.ref ah),pv,rv]) (L2.Same H H4) (H4 ah=some (.lst (ps.map V.ref))) (Paired (RwAt H4) As ps) (H4 mo=some (.ins T.e_Measure dx (mf k c))) (k+(kns (As.map (·.1)):Int)=(t.kn:Int)) (c+(bI (As.map (·.1)):Int)=(cnT t:Int)) (k<=400) (c<=200) ((∀ e∈As,e.2+(e.1.tall:Int)<=(t.tall:Int)+1)) (((t.tall:Int)<=20∨∃ e∈As,(t.tall:Int)+1<=e.2+(e.1.tall:Int))) (aw (As.map (·.1))<=100000) (m=aw (As.map (·.1))),⟨_,[p0],[(t,1)],0,0,none,none,rfl,s1.trans s13,e3,.cons ⟨a,s3 _ _ e2,hA.mono (Same.kt (s1.trans s13))⟩ .nil,s13 _ _ emo,?_,?_,by decide,by decide,?_,?_,?_,rfl⟩,?_⟩
 · show (0:Int)+((kns [t]:Nat):Int)=_;rw [kns,kns];omega
 · show (0:Int)+((bI [t]:Nat):Int)=_;rw [bI,bI];omega
 · intro e he;rw [List.mem_singleton.mp he];show (1:Int)+(t.tall:Int)<=_;omega
 · exact .inr ⟨(t,1),List.mem_cons_self ..,by show _<=(1:Int)+(t.tall:Int);omega⟩
 · show aw [t]<=100000;rw [aw,aw];omega
 rintro m σ H4 ⟨ps,As,k,c,pv,rv,rfl,s4,e4,hAs,em,hk,hc,hk4,hc2,hle,hor,hss,rfl⟩;refine ⟨_,rfl,_,.inl ⟨_,SqL.of e4,rfl⟩,?_⟩;refine cq (fun cc=>?_) (fun cc=>?_)
 · refine ⟨fun σ' H'=>∃ m',m'<aw (As.map (·.1))/\Ex6 fun (ps:List Addr) (As:List (Th×Int)) (k c:Int) (pv rv:Option V)=>wu (σ'=[some (.ref a),some (.ref mo),some (.ref ah),pv,rv]) (L2.Same H H') (H' ah=some (.lst (ps.map V.ref))) (Paired (RwAt H') As ps) (H' mo=some (.ins T.e_Measure dx (mf k c))) (k+(kns (As.map (·.1)):Int)=(t.kn:Int)) (c+(bI (As.map (·.1)):Int)=(cnT t:Int)) (k<=400) (c<=200) ((∀ e∈As,e.2+(e.1.tall:Int)<=(t.tall:Int)+1)) (((t.tall:Int)<=20∨∃ e∈As,(t.tall:Int)+1<=e.2+(e.1.tall:Int))) (aw (As.map (·.1))<=100000) (m'=aw (As.map (·.1))),fun σ' H' h=>h,?_⟩;have hne0:ps≠[]:=by intro z;subst z;simp at cc
   refine hid fun ZZ kZ=>?_;obtain ⟨ps',b,rfl⟩:∃ ps' b,ps=ps'++[b]:=⟨ps.dropLast,ps.getLast hne0,(List.dropLast_concat_getLast hne0).symm⟩;obtain ⟨Us,⟨x,r⟩,rfl,hUs,ta,eb,hx⟩:=P2.snoc_inv hAs;refine kZ ?_;have hmap:(Us++[(x,r)]).map (·.1)=Us.map (·.1)++[x]:=by rw [List.map_append];rfl
   rw [hmap] at hk hc hss;rw [dJ,kns,kns,vm] at hk;rw [cX,bI,bI,vo] at hc;rw [ba,aw,aw,x.size_eq] at hss;have hxr:=hle (x,r) (List.mem_append_right _ (List.mem_cons_self ..));dsimp only at hxr;have hxt:=x.tall_eq;refine ⟨_,rfl,.inl ⟨rfl,_,SqL.of e4⟩,ah,_,.ref b,rfl,rfl,e4,by simp,?_⟩;have d1:((ps'++[b]).map V.ref).dropLast=ps'.map V.ref:=by simp
   rw [d1];have k5:KT H4 (upd H4 ah (.lst (ps'.map V.ref))):=bc e4;have s5:L2.Same H (upd H4 ah (.lst (ps'.map V.ref))):=aF s4 hahH;have e5:(upd H4 ah (.lst (ps'.map V.ref))) ah=some (.lst (ps'.map V.ref)):=ad;have em5:(upd H4 ah (.lst (ps'.map V.ref))) mo=some (.ins T.e_Measure dx (mf k c)):=by rw [ak hma];exact em
   generalize (upd H4 ah (.lst (ps'.map V.ref)))=H5 at k5 s5 e5 em5 ⊢;refine ⟨b,_,rfl,SqT.of (k5 _ _ eb),rfl,_,_,rfl,_,_,rfl,rfl,?_⟩;dsimp only [aH];refine bJ (fun σ' H6=>Ex2 fun (k' c':Int)=>An6 (k'=(if x.isCall=true then k else k+1)) (c'=(if x.isCall=true then c+1 else c)) ((∀ b o,b≠mo->H5 b=some o->H6 b=some o)) (H6 mo=some (.ins T.e_Measure dx (mf k' c'))) ((r<=20/\k'<=400/\c'<=200)) (σ'=[some (.ref a),some (.ref mo),some (.ref ah),some (.ref ta),some (.int r)])) (fun kk hkk=>?_) ?_
   · refine d8 (fun bb H6=>Ex2 fun (k' c':Int)=>An5 (k'=(if x.isCall=true then k else k+1)) (c'=(if x.isCall=true then c+1 else c)) ((∀ b o,b≠mo->H5 b=some o->H6 b=some o)) (H6 mo=some (.ins T.e_Measure dx (mf k' c'))) (bb=!decide (r<=20/\k'<=400/\c'<=200))) (fun k2 hk2=>?_) (fun H6 hb=>?_) (fun H6 hb=>?_)
     · refine ⟨_,rfl,mo,dx,_,rfl,em5,qh k c (by decide +kernel) (by decide +kernel),_,rfl,_,rfl,mo,dx,ta,k,c,r,x,rfl,em5,hx.mono k5,fun k' c' H6 h1 h2 h3 h4=>?_⟩;exact ⟨_,rfl,hk2 _ _ ⟨k',c',h1,h2,h3,h4,rfl⟩⟩
     · refine hid fun ZZ kZ=>?_;obtain ⟨k',c',h1,h2,h3,h4,h5⟩:=hb;refine kZ ?_;have hno:¬ (r<=20/\k'<=400/\c'<=200):=fun z=>by rw [decide_eq_true z] at h5;cases h5
       have hns:decide (Small t)=false:=decide_eq_false fun z=>hno (by
        obtain ⟨z1,z2,z3⟩:=z;refine ⟨by omega,?_,?_⟩
        · rw [h1];split at hk <;> split <;> first | omega | contradiction
        · rw [h2];split at hc <;> split <;> first | omega | contradiction)
       have s6:L2.Same H H6:=fun b o e=>h3 b o (ao e hmo) (s5 b o e);rw [hns] at q;exact q H6 s6
     · refine hid fun ZZ kZ=>?_;obtain ⟨k',c',h1,h2,h3,h4,h5⟩:=hb;refine kZ ?_
       have hyes:r<=20/\k'<=400/\c'<=200:=of_decide_eq_true (by
        cases hd:decide (r<=20/\k'<=400/\c'<=200) with
        | true=>rfl
        | false=>rw [hd] at h5;cases h5)
       exact hkk _ _ ⟨k',c',h1,h2,h3,h4,hyes,rfl⟩
   rintro σ' H6 ⟨k',c',h1,h2,h3,h4,⟨hr20,hk4',hc2'⟩,rfl⟩;have k6:KT H5 H6:=fun b xs e=>h3 b _ (fun z=>by rw [z,em5] at e;cases e) e;have s6:L2.Same H H6:=fun b o e=>h3 b o (ao e hmo) (s5 b o e);have e6:H6 ah=some (.lst (ps'.map V.ref)):=h3 _ _ hma.symm e5;have k46:=k5.trans k6;refine ⟨_,rfl,.inl ⟨rfl,_,SqL.of e6⟩,_,rfl,ta,x,rfl,hx.mono k46,fun ka kas H7 s7 ek hks=>?_⟩;have hkl:kas.length=x.kids.length:=hks.length;have hlz:=cz x.kids;refine ⟨ka,rfl,⟨_,SqT.of ek⟩,gd (F:=RwAt) (xs:=kas.map V.ref) (x.kids.map fun u=>(u,r+1)) (fun H1 H2 z p kt h=>h.mono kt) (by rw [List.length_map,List.length_map];omega) (by rw [List.length_map];omega) (fun i Hx sx hi=>⟨_,_,SqT.of (sx _ _ ek),List.getElem?_eq_getElem hi⟩) (fun Hx sx=>⟨_,SqT.of (sx _ _ ek),Nat.le_refl _⟩) (fun i Hx x Hy sx hi hy=>⟨hy.1,hy.2 _ (SqT.of (sx _ _ ek))⟩) (fun i y z Hx R W' hy hzz sx hR=>?_) (fun D H8 bs hD s8 eD hpD=>?_)⟩
   · obtain ⟨ua,rfl,hua⟩:=aP hy;obtain ⟨u,hu,atu⟩:=hks.get hua;rw [List.getElem?_map,hu] at hzz;cases hzz;refine ⟨_,rfl,_,rfl,_,_,rfl,rfl,al (by show 2<=1000000;decide),fun p1 hp1=>?_⟩;exact hR _ p1 (af hp1 _) ⟨ua,ad,atu.mono (Same.kt (sx.trans (af hp1 _)))⟩
   have hUl:Us.length=ps'.length:=Paired.length hUs;have hbl:(x.kids.map fun u=>(u,r+1)).length=bs.length:=Paired.length hpD;rw [List.length_map] at hbl;have hUz:=cz (Us.map (·.1));rw [List.length_map] at hUz;have s68:=s7.trans s8;have e8:=s68 _ _ e6;refine ⟨ah,D,_,_,rfl,rfl,e8,eD,Nat.le_of_lt (aD (by rw [List.length_map,List.length_map];omega)),?_⟩;have k9:KT H8 (upd H8 ah (.lst (ps'.map V.ref++bs.map V.ref))):=bc e8;have s9:L2.Same H (upd H8 ah (.lst (ps'.map V.ref++bs.map V.ref))):=aF (s6.trans s68) hahH
   have hm2:(Us++x.kids.map fun u=>(u,r+1)).map (·.1)=Us.map (·.1)++x.kids:=by
    rw [List.map_append,List.map_map];congr 1;exact List.map_id' _
   refine ⟨aw ((Us++x.kids.map fun u=>(u,r+1)).map (·.1)),?_,ps'++bs,Us++(x.kids.map fun u=>(u,r+1)),k',c',_,_,rfl,s9,?_,?_,?_,?_,?_,hk4',hc2',?_,?_,?_,rfl⟩
   · rw [hm2,hmap,ba,ba,aw,aw,x.size_eq];omega
   · rw [ad,List.map_append]
   · exact P2.append (P2.mp (fun _ _ e=>e.mono ((k46.trans (Same.kt s68)).trans k9)) hUs) (P2.mp (fun _ _ e=>e.mono k9) hpD)
   · rw [ak hma];exact s68 _ _ h4
   · rw [hm2,dJ,h1];split at hk <;> split <;> first | omega | contradiction
   · rw [hm2,cX,h2];split at hc <;> split <;> first | omega | contradiction
   · intro e he;rcases List.mem_append.mp he with he | he
     · exact hle e (List.mem_append_left _ he)
     · obtain ⟨u,hu,rfl⟩:=List.mem_map.mp he;have:=ii hu;dsimp only;omega
   · rcases hor with h | ⟨e,he,hee⟩
     · exact .inl h
     · rcases List.mem_append.mp he with he | he
       · exact .inr ⟨e,List.mem_append_left _ he,hee⟩
       · rw [List.mem_singleton.mp he] at hee;dsimp only at hee;by_cases hz:x.kids=[]
         · rw [hz,aI] at hxt;exact .inl (by omega)
         · obtain ⟨u,hu,eu⟩:=tD hz;exact .inr ⟨(u,r+1),List.mem_append_right _ (List.mem_map.mpr ⟨u,hu,rfl⟩),by dsimp only;omega⟩
   · rw [hm2,ba];omega
 · have hz:ps=[]:=by
    cases ps with
    | nil=>rfl
    | cons y ys=>simp at cc
   subst hz;have hA0:As=[]:=List.length_eq_zero_iff.mp (Paired.length hAs);subst hA0;have hk':k+((kns []:Nat):Int)=(t.kn:Int):=hk;have hc':c+((bI []:Nat):Int)=(cnT t:Int):=hc;rw [kns] at hk';rw [bI] at hc'
   have ht20:(t.tall:Int)<=20:=by
    rcases hor with h | ⟨e,he,_⟩
    · exact h
    · cases he
   have hsm:decide (Small t)=true:=decide_eq_true ⟨by omega,by omega,by omega⟩;rw [hsm] at q;exact q H4 s4
inductive gv (vs:List V) (H:Hp) (Q:VK) (_E:XK):Prop
 | mk (i:Int) (zz0:vs=[.int i]) (zz1:Q (.bl true) H):gv  vs H Q _E
def mI:Sp:=gv
theorem mF:FnOk P w K mg base CX0 1 T.g_is_number.f T.g_is_number.d ["thing"] mI:=by
 refine T.g_is_number.F.ok nk (fun vs H Q E h=>?_) (fun cdv A outer s H vs Q E hr h=>?_)
 · obtain ⟨i,rfl,_⟩:=h;rfl
 obtain ⟨i,rfl,k⟩:=h;refine ⟨_,(ag (au (gQ (ax (i0 (T:="int")) rfl T.n_isinstance PyProof.Rows.boot_isinstance (aa (pv 0) (aa (mP (v:=.ty "int") rfl T.n_int PyProof.Rows.boot_int rfl) ac))) (lD (vK (ax (i0 (T:="bool")) rfl T.n_isinstance PyProof.Rows.boot_isinstance (aa (pv 0) (aa (mP (v:=.ty "bool") rfl T.n_bool PyProof.Rows.boot_bool rfl) ac)))))))),?_⟩
 try dsimp only [cxK,cxKn]
 refine ⟨_,rfl,_,_,_,rfl,.int i,vL,_,rfl,?_⟩;refine iy ?_;exact ⟨_,rfl,_,_,_,rfl,.int i,wL,_,rfl,k⟩
inductive il (vs:List V) (H:Hp) (Q:VK) (_E:XK):Prop
 | mk (i b:Int) (zz0:vs=[.int i,.int b]) (zz1:Q (.bl (decide (0<=i/\i<b))) H):il  vs H Q _E
def n6:Sp:=il
theorem fJ:FnOk P w K mg base CX0 2 T.g_is_below.f T.g_is_below.d ["number","bound"] n6:=by
 refine T.g_is_below.F.ok oX (fun vs H Q E h=>?_) (fun cdv A outer s H vs Q E hr h=>?_)
 · obtain ⟨i,b,rfl,_⟩:=h;rfl
 obtain ⟨i,b,rfl,k⟩:=h;refine ⟨_,(ag (au (gQ (pcF T.g_is_number (mF T) hr (aa (pv 0) ac)) (lD (oz jv oZ ai (pv 0) (pv 1)))))),?_⟩
 try dsimp only [cxK,cxKn]
 refine ⟨_,rfl,i,rfl,_,rfl,?_⟩;refine iy ?_;refine ⟨_,rfl,_,_,rfl,rfl,_,rfl,?_⟩;refine cq (fun c=>?_) (fun c=>?_)
 · have c':0<=i:=of_decide_eq_true c;refine ⟨_,rfl,_,_,rfl,rfl,?_⟩;have e:decide (0<=i/\i<b)=decide (i<b):=by simp [c']
   rw [e] at k;exact k
 · have c':¬ 0<=i:=fun z=>c (decide_eq_true z);have e:decide (0<=i/\i<b)=false:=by simp [c']
   rw [e] at k;exact k
inductive jL (vs:List V) (H:Hp) (Q:VK) (_E:XK):Prop
 | mk (z:Str) (zz0:vs=[.str z]) (zz1:z.length<=100000) (zz2:∀ H',L2.Same H H'->Q (.bl (dH z)) H'):jL  vs H Q _E
def pF:Sp:=jL
theorem pK:FnOk P w K mg base CX0 1 T.g_is_name.f T.g_is_name.d ["thing"] pF:=by
 refine T.g_is_name.F.ok pw (fun vs H Q E h=>?_) (fun cdv A outer s H vs Q E hr h=>?_)
 · obtain ⟨z,rfl,_⟩:=h;rfl
 obtain ⟨z,rfl,hz,k⟩:=h
 refine ⟨_,(ae (br (PW.pt (n5 (dO (aV (ax (i0 (T:="str")) rfl T.n_isinstance PyProof.Rows.boot_isinstance (aa (pv 0) (aa (mP (v:=.ty "str") rfl T.n_str PyProof.Rows.boot_str rfl) ac))) (fun _=>rfl))) (lr (dO (om jv jv ai (ax fk rfl T.n_len PySem.boot_len (aa (pv 0) ac)) (bF (v:=.int (8)) rfl T.c_MOST_LETTERS.choose_spec ⟨_,rfl⟩)))))) (ag (au im)) aR)
  (ag (au (ax (oI rfl) rfl T.n_all PyProof.Rows.boot_all (aa (bY (N:=[Str.ofString "sign"]) (js:=[none]) (g:=(aH 0)) (tt:=bn) (te:=(px (wm) (wm) (tC (.str (Str.ofString "a"))) (b9 0) (tC (.str (Str.ofString "z"))))) rfl (cJ rfl (by decide +kernel) (by decide +kernel) rfl rfl rfl) (wq (pv 0)) (fun _ _ _ _ _ _=>(am (i:=0) xK rfl (Or.inl rfl))) (bo rfl) (fun _ _ _ _ _ _=>bN) (fun _ _ _ _ _ _=>(oz lZ lZ eC (pv 0) eC))) ac))))),?_⟩
 try dsimp only [cxK,cxKn]
 refine ⟨_,rfl,_,_,_,rfl,.str z,v8,_,rfl,?_⟩;refine gE ?_;refine ⟨_,rfl,_,rfl,al (by omega),_,_,rfl,rfl,_,rfl,?_⟩;refine cq (fun c1=>?_) (fun c1=>?_)
 · have c1':1<=(z.length:Int):=of_decide_eq_true c1;refine ⟨_,_,rfl,rfl,_,rfl,?_⟩;refine cq (fun c2=>?_) (fun c2=>?_)
   · have kk:=k H (.refl _)
     have e:dH z=false:=by
      unfold dH;rw [decide_eq_false (fun h=>?_)]
      · rfl
      · rw [decide_eq_true (show (z.length:Int)<=8 by omega)] at c2;cases c2
     rw [e] at kk;exact kk
   · have c2':z.length<=8:=by
      by_cases h:z.length<=8
      · exact h
      · rw [decide_eq_false (show ¬ (z.length:Int)<=8 by omega)] at c2;exact absurd rfl c2
     have e:dH z=low z:=by
      unfold dH;rw [decide_eq_true (show 1<=z.length/\z.length<=8 from ⟨by omega,c2'⟩)];rfl
     rw [e] at k;refine ⟨_,rfl,z,rfl,pq (fun c=>decide (97<=c/\c<=122)) (by show z.length<=100000;exact hz) (fun c H1 Q' W' _ hQ=>?_) (fun D H' hD s1 e1=>?_)⟩
     · refine ⟨_,rfl,_,_,rfl,rfl,_,rfl,?_⟩;rw [show (Str.ofString "a").cps.toList=[97] by decide +kernel];rw [sL 97 c];refine cq (fun d1=>?_) (fun d1=>?_)
       · have d1':97<=c:=of_decide_eq_true d1;refine ⟨_,_,rfl,rfl,?_⟩;rw [show (Str.ofString "z").cps.toList=[122] by decide +kernel,sL c 122];have e2:decide (97<=c/\c<=122)=decide (c<=122):=by simp [d1']
         rw [e2] at hQ;exact hQ
       · have d1':¬ 97<=c:=fun z=>d1 (decide_eq_true z);have e2:decide (97<=c/\c<=122)=false:=decide_eq_false fun z=>d1' z.1;rw [e2] at hQ;exact hQ
     · refine ⟨D,_,rfl,SqL.of e1,?_⟩;rw [show ((z.cps.toList.map fun c=>decide (97<=c/\c<=122)).all id)=low z by unfold low;rw [List.all_map];rfl];exact k H' s1
 · have kk:=k H (.refl _)
   have e:dH z=false:=by
    unfold dH;rw [decide_eq_false (fun h=>c1 (decide_eq_true (by omega)))];rfl
   rw [e] at kk;refine ⟨_,rfl,iy ?_⟩;exact kk
def ck (k:Str×Int):Bool:=dH k.1 && decide (0<=k.2/\k.2<4)
inductive jx (vs:List V) (H:Hp) (Q:VK) (_E:XK):Prop
 | mk (a:Addr) (k:Str×Int) (zz0:vs=[.ref a]) (zz1:H a=some (.tup [.str k.1,.int k.2])) (zz2:k.1.length<=100000) (zz3:∀ H',L2.Same H H'->Q (.bl (ck k)) H'):jx  vs H Q _E
def j4:Sp:=jx
theorem pT:FnOk P w K mg base CX0 3 T.g_is_kind.f T.g_is_kind.d ["pair"] j4:=by
 refine T.g_is_kind.F.ok qc (fun vs H Q E h=>?_) (fun cdv A outer s H vs Q E hr h=>?_)
 · obtain ⟨a,z,rfl,_⟩:=h;rfl
 obtain ⟨a,⟨z,n⟩,rfl,ha,hz,k⟩:=h;refine ⟨_,(ag (au (gQ (cS fZ (ax ay rfl T.n_len PySem.boot_len (aa (pv 0) ac)) ai (aJ _)) (gQ (pcF T.g_is_name (pK T) hr (aa (aK aL (pv 0) ai (fun _ _=>rfl)) ac)) (lD (pcF T.g_is_below (fJ T) hr (aa (aK aL (pv 0) ai (fun _ _=>rfl)) (aa (av bO (bF (v:=.int (3)) rfl T.c_MOST_KIDS.choose_spec ⟨_,rfl⟩) ai) ac)))))))),?_⟩
 try dsimp only [cxK,cxKn]
 refine ⟨_,rfl,a,_,rfl,.inr (SqT.of ha),rfl,_,rfl,?_⟩;refine iy ?_;refine ⟨_,rfl,a,_,0,.str z,rfl,rfl,SqT.of ha,at0,z,rfl,hz,fun H1 s1=>?_⟩;refine ⟨_,rfl,?_⟩;refine cq (fun c=>?_) (fun c=>?_)
 · refine ⟨_,rfl,a,_,1,.int n,rfl,rfl,SqT.of (s1 _ _ ha),at1,_,_,rfl,rfl,n,_,rfl,?_⟩;have kk:=k H1 s1;unfold ck at kk;rw [show dH z=true from c,Bool.true_and] at kk;exact kk
 · have kk:=k H1 s1;unfold ck at kk;have c':dH z=false:=Bool.eq_false_iff.mpr c;rw [c',Bool.false_and] at kk;exact kk
def ci (ks:List (Str×Int)):Bool:=decide (1<=ks.length/\ks.length<=8) && (ks.all ck && (decide ((ks.map (·.1)).Nodup) && decide ((0:Int)∈ks.map (·.2))))
inductive gy (K:PySem.W.Frag) (vs:List V) (H:Hp) (Q:VK) (_E:XK):Prop
 | mk (kr:Addr) (kas:List Addr) (ks:List (Str×Int)) (zz0:vs=[.ref kr]) (zz1:SqT K H kr (kas.map V.ref)) (zz2:KsAt H ks kas) (zz3:ks.length<=1000) (zz4:(∀ k∈ks,k.1.length<=100000)) (zz5:∀ H',L2.Same H H'->Q (.bl (ci ks)) H'):gy K vs H Q _E
def nu (K:PySem.W.Frag):Sp:=gy K
theorem m8:FnOk P w K mg base CX0 4 T.g_are_kinds.f T.g_are_kinds.d ["kinds"] (nu K):=by
 refine T.g_are_kinds.F.ok io (fun vs H Q E h=>?_) (fun cdv A outer s H vs Q E hr h=>?_)
 · obtain ⟨kr,kas,ks,rfl,_⟩:=h;rfl
 obtain ⟨kr,kas,ks,rfl,hK,hks,hlen,hnz,k⟩:=h
 refine ⟨_,(ae (br (PW.pt (n5 (dO (om jv jv ai (ax ay rfl T.n_len PySem.boot_len (aa (pv 0) ac)) (bF (v:=.int (8)) rfl T.c_MOST_KINDS.choose_spec ⟨_,rfl⟩))) (lr (dO (aV (ax (oI rfl) rfl T.n_all PyProof.Rows.boot_all (aa (bY (N:=[Str.ofString "pair"]) (js:=[none]) (g:=(aH 0)) (tt:=bn) (te:=(gA j4 [] E0 (bH (b9 0) fu))) rfl (cJ rfl (by decide +kernel) (by decide +kernel) rfl rfl rfl) (dX (pv 0)) (fun _ _ _ _ _ _=>(am (i:=0) uk rfl (Or.inl rfl))) (bo rfl) (fun _ _ _ _ _ _=>bN) (fun _ _ _ _ _ _=>(pcF T.g_is_kind (pT T) hr (aa (pv 0) ac)))) ac)) (fun _=>rfl)))))) (ag (au im)) aR)
  (ae (jX (i:=1) (N:=[Str.ofString "pair"]) (js:=[none]) (g:=(aH 0)) (tt:=bn) (te:=(tOp (rK K) (b9 0) (tC (.int 0)))) io.nd rfl (Or.inl rfl) rfl (cJ rfl (by decide +kernel) (by decide +kernel) rfl rfl rfl) (dX (pv 0)) (fun _ _ _ _ _ _=>(am (i:=0) uk rfl (Or.inl rfl))) (bo rfl) (fun _ _ _ _ _ _=>bN) (fun _ _ _ _ _ _=>(aK aL (pv 0) ai (fun _ _=>rfl))))
  (ag (au (gQ (cS fZ (ax re rfl T.n_len PySem.boot_len (aa (aG (rH rfl) rfl T.n_set PyProof.Rows.boot_set (aa (pv 1) ac)) ac)) (ax ay rfl T.n_len PySem.boot_len (aa (pv 1) ac)) (aJ _)) (lD (cS rg ai (bY (N:=[Str.ofString "pair"]) (js:=[none]) (g:=(aH 0)) (tt:=bn) (te:=(tOp (rK K) (b9 0) (tC (.int 1)))) rfl (cJ rfl (by decide +kernel) (by decide +kernel) rfl rfl rfl) (dX (pv 0)) (fun _ _ _ _ _ _=>(am (i:=0) uk rfl (Or.inl rfl))) (bo rfl) (fun _ _ _ _ _ _=>bN) (fun _ _ _ _ _ _=>(aK aL (pv 0) ai (fun _ _=>rfl)))) (by with_unfolding_all rfl)))))))),?_⟩
 try dsimp only [cxK,cxKn]
 have hkl:ks.length=kas.length:=Paired.length hks;refine ⟨_,rfl,kr,_,rfl,.inr hK,_,_,rfl,rfl,_,rfl,?_⟩;rw [List.length_map,<- hkl]
 have hno:∀ Hx,L2.Same H Hx->ci ks=false->Q (.bl false) Hx:=fun Hx sx e=>by
  have kk:=k Hx sx;rw [e] at kk;exact kk
 have bad:¬ (1<=ks.length/\ks.length<=8)->ci ks=false:=fun z=>by
  unfold ci;rw [decide_eq_false z];rfl
 refine cq (fun c1=>?_) (fun c1=>?_)
 · have c1':(1:Int)<=(ks.length:Int):=of_decide_eq_true c1;refine ⟨_,_,rfl,rfl,_,rfl,?_⟩;refine cq (fun c2=>?_) (fun c2=>?_)
   · refine iy (hno H (.refl _) (bad fun z=>?_));rw [decide_eq_true (show (ks.length:Int)<=8 by omega)] at c2;cases c2
   · have c2':ks.length<=8:=by
      by_cases h:ks.length<=8
      · exact h
      · rw [decide_eq_false (show ¬ (ks.length:Int)<=8 by omega)] at c2;exact absurd rfl c2
     have hok1:ci ks=(ks.all ck && (decide ((ks.map (·.1)).Nodup) && decide ((0:Int)∈ks.map (·.2)))):=by
      unfold ci;rw [decide_eq_true (show 1<=ks.length/\ks.length<=8 from ⟨by omega,c2'⟩)];rfl
     refine ⟨_,rfl,kr,rfl,⟨_,hK⟩,cZ ks (fun k=>V.bl (ck k)) hK (by rw [List.length_map];exact hkl) (by rw [List.length_map];omega) (fun i x z H2 R W' hx hz s2 hR=>?_) (fun D H1 hD s1 e1=>?_)⟩
     · obtain ⟨ka,rfl,hka⟩:=aP hx;obtain ⟨z',hz',ez⟩:=P2.get' hks hka;rw [hz] at hz';cases hz';exact ⟨_,rfl,ka,z,rfl,s2 _ _ ez,hnz z (List.mem_of_getElem? hz),fun H3 s3=>hR H3 s3⟩
     · have eall:ks.map (fun k=>V.bl (ck k))=(ks.map ck).map V.bl:=by rw [List.map_map];rfl
       rw [eall] at e1;refine ⟨D,_,rfl,SqL.of e1,_,rfl,?_⟩;rw [show (ks.map ck).all id=ks.all ck by rw [List.all_map];rfl];refine cq (fun c3=>?_) (fun c3=>?_)
       · refine hno H1 s1 ?_;rw [hok1]
         have:ks.all ck=false:=by
          cases h:ks.all ck with
          | false=>rfl
          | true=>rw [h] at c3;cases c3
         rw [this];rfl
       · have hall:ks.all ck=true:=by
          cases h:ks.all ck with
          | true=>rfl
          | false=>rw [h] at c3;exact absurd rfl c3
         rw [hall,Bool.true_and] at hok1;have hks1:=hks.mono (Same.kt s1);refine ⟨_,rfl,kr,rfl,⟨_,s1.seqT hK⟩,cZ ks (fun k=>V.str k.1) (s1.seqT hK) (by rw [List.length_map];exact hkl) (by rw [List.length_map];omega) (fun i x z H2 R W' hx hz s2 hR=>?_) (fun D1 H2 hD1 s2 e2=>?_)⟩
         · obtain ⟨ka,rfl,hka⟩:=aP hx;obtain ⟨z',hz',ez⟩:=P2.get' hks1 hka;rw [hz] at hz';cases hz';exact ⟨_,rfl,ka,_,0,.str z.1,rfl,rfl,SqT.of (s2 _ _ ez),at0,hR H2 (.refl _)⟩
         · have en:ks.map (fun k=>V.str k.1)=(ks.map (·.1)).map V.str:=by rw [List.map_map];rfl
           rw [en] at e2;have s12:=s1.trans s2;refine ⟨_,rfl,D1,ks.map (·.1),rfl,SqL.of e2,by rw [List.length_map];omega,fun sa hsa=>?_⟩;have s3:=fun o:HO=>af hsa o;have s13:=fun o:HO=>s12.trans (s3 o);refine ⟨sa,ks.map (·.1),rfl,ad,_,rfl,D1,_,rfl,.inl (SqL.of (s3 _ _ _ e2)),rfl,_,rfl,?_⟩;have hdn:=oH (ks.map (·.1)) (ks.map (·.1)).length (Nat.le_refl _);rw [List.take_length] at hdn;refine cq (fun c4=>?_) (fun c4=>?_)
           · have c4':((dn (ks.map (·.1)) (ks.map (·.1)).length:Nat):Int)=(((ks.map (·.1)).map V.str).length:Int):=V.int.inj (of_decide_eq_true c4);rw [List.length_map (f:=V.str)] at c4';have hnd:=hdn.mp (by omega);rw [decide_eq_true hnd,Bool.true_and] at hok1;refine ⟨_,rfl,kr,rfl,⟨_,(s13 _).seqT hK⟩,cZ ks (fun k=>V.int k.2) ((s13 _).seqT hK) (by rw [List.length_map];exact hkl) (by rw [List.length_map];omega) (fun i x z H4 R W' hx hz s4 hR=>?_) (fun D3 H4 hD3 s4 e4=>?_)⟩
             · obtain ⟨ka,rfl,hka⟩:=aP hx;obtain ⟨z',hz',ez⟩:=P2.get' (hks.mono (Same.kt ((s13 _).trans s4))) hka;rw [hz] at hz';cases hz';exact ⟨_,rfl,ka,_,1,.int z.2,rfl,rfl,SqT.of ez,at1,hR H4 (.refl _)⟩
             · have hin:inV (.int 0) (ks.map fun k=>V.int k.2)=decide ((0:Int)∈ks.map (·.2)):=by
                unfold inV;rw [List.any_map];by_cases h:(0:Int)∈ks.map (·.2)
                · rw [decide_eq_true h];obtain ⟨k',hk',e'⟩:=List.mem_map.mp h;exact List.any_eq_true.mpr ⟨k',hk',by show eqV (.int k'.2) (.int 0)=true;rw [e'];rfl⟩
                · rw [decide_eq_false h];refine Bool.eq_false_iff.mpr fun z=>h ?_;obtain ⟨k',hk',e'⟩:=List.any_eq_true.mp z;have e2':eqV (.int k'.2) (.int 0)=true:=e';exact List.mem_map.mpr ⟨k',hk',by simpa [eqV] using e2'⟩
               refine ⟨D3,_,rfl,.inl (SqL.of e4),rfl,?_,?_⟩
               · rw [List.all_map];exact List.all_eq_true.mpr fun _ _=>rfl
               · have kk:=k H4 ((s13 _).trans s4);rw [hok1,<- hin] at kk;exact kk
           · refine hno _ (s13 _) ?_;rw [hok1,decide_eq_false (fun z=>c4 (decide_eq_true ?_))]
             · rfl
             · show V.int ((dn (ks.map (·.1)) (ks.map (·.1)).length:Nat):Int)=V.int (((ks.map (·.1)).map V.str).length:Int);rw [hdn.mpr z,List.length_map (f:=V.str)]
 · refine ⟨_,rfl,iy (hno H (.refl _) (bad fun z=>c1 (decide_eq_true (by omega))))⟩
def j7 (K:PySem.W.Frag) (H:Hp) (ks:List (Str×Int)) (a:Addr) (kas:List Addr):Prop:=(SqL K H a (kas.map V.ref)∨SqT K H a (kas.map V.ref))/\KsAt H ks kas/\ks.length<=1000/\∀ k∈ks,k.1.length<=100000
inductive iH (K:PySem.W.Frag) (vs:List V) (H:Hp) (Q:VK) (_E:XK):Prop
 | mk (pr:Addr) (kas:List Addr) (ks:List (Str×Int)) (zz0:vs=[.ref pr]) (zz1:j7 K H ks pr kas) (zz2:ci ks=true) (zz3:∀ (r:Addr) (H':Hp),L2.Same H H'->H' r=some (.tup (kas.map V.ref))->Q (.ref r) H'):iH K vs H Q _E
def ow (K:PySem.W.Frag):Sp:=iH K
theorem no {σ:St} {H:Hp} {ks:List (Str×Int)} {pr:Addr} {kas:List Addr} {fin:Addr->Hp->Prop} (h:j7 K H ks pr kas) (hq:∀ D H',L2.Same H H'->H' D=some (.lst (kas.map V.ref))->fin D H') :
 ((∃ xs,SqL K H pr xs)/\∀ D,H D=none->∃ (n:Nat) (W:Nat->Hp->Prop),W 0 (upd H D (.lst []))/\ft [none] (aH 0) bn (tCB (fun xs H Q=>∃ p ys,xs=[.ref p]/\((SqL K H p ys/\∀ l,H l=none->Q (.ref l) (upd H l (.tup ys)))∨(SqT K H p ys/\Q (.ref p) H))) (bH (b9 0) fu)) σ (Itl K pr) D n W fun H'=>fin D H') ∨
 ((∃ xs,SqT K H pr xs)/\∀ D,H D=none->∃ (n:Nat) (W:Nat->Hp->Prop),W 0 (upd H D (.lst []))/\ft [none] (aH 0) bn (tCB (fun xs H Q=>∃ p ys,xs=[.ref p]/\((SqL K H p ys/\∀ l,H l=none->Q (.ref l) (upd H l (.tup ys)))∨(SqT K H p ys/\Q (.ref p) H))) (bH (b9 0) fu)) σ (Itt K pr) D n W fun H'=>fin D H'):=by
 obtain ⟨hS,hks,hlen,_⟩:=h;have hkl:ks.length=kas.length:=Paired.length hks
 have step:∀ (i:Nat) (x:V) (z:Addr) (H2:Hp) (R:VK) (W':Hp->Prop),(kas.map V.ref)[i]?=some x->kas[i]?=some z->L2.Same H H2->(∀ H3,L2.Same H2 H3->R (.ref z) H3) →
  aH 0 x (cσ [none] σ) H2 fun σ2 H3=>bn σ2 H3 fun b H4=>if b=true then (tCB (fun xs H Q=>∃ p ys,xs=[.ref p]/\((SqL K H p ys/\∀ l,H l=none->Q (.ref l) (upd H l (.tup ys)))∨(SqT K H p ys/\Q (.ref p) H))) (bH (b9 0) fu)) σ2 H4 R else W' H4:=by
  intro i x z H2 R W' hx hz s2 hR;obtain ⟨ka,rfl,hka⟩:=aP hx;rw [hz] at hka;cases hka;obtain ⟨z',hz',ez⟩:=P2.get' hks hz;exact ⟨_,rfl,z,_,rfl,.inr ⟨SqT.of (s2 _ _ ez),hR H2 (.refl _)⟩⟩
 rcases hS with hS | hS
 · exact .inl ⟨⟨_,hS⟩,mO kas V.ref hS (by rw [List.length_map]) (by rw [List.length_map];omega) step fun D H' hD s1 e1=>hq D H' s1 e1⟩
 · exact .inr ⟨⟨_,hS⟩,cZ kas V.ref hS (by rw [List.length_map]) (by rw [List.length_map];omega) step fun D H' hD s1 e1=>hq D H' s1 e1⟩
theorem jB:FnOk P w K mg base CX0 5 T.g_kinds_of.f T.g_kinds_of.d ["pairs"] (ow K):=by
 refine T.g_kinds_of.F.ok ju (fun vs H Q E h=>?_) (fun cdv A outer s H vs Q E hr h=>?_)
 · obtain ⟨pr,kas,ks,rfl,_⟩:=h;rfl
 obtain ⟨pr,kas,ks,rfl,hp,hok,k⟩:=h
 refine ⟨_,(ae (ar (i:=1) ju.nd rfl (Or.inl rfl) (aG aB rfl T.n_tuple PyProof.Rows.boot_tuple (aa (bY (N:=[Str.ofString "pair"]) (js:=[none]) (g:=(aH 0)) (tt:=bn) (te:=(tCB (fun xs H Q=>∃ p ys,xs=[.ref p]/\((SqL K H p ys/\∀ l,H l=none->Q (.ref l) (upd H l (.tup ys)))∨(SqT K H p ys/\Q (.ref p) H))) (bH (b9 0) fu))) rfl (cJ rfl (by decide +kernel) (by decide +kernel) rfl rfl rfl) (pE (pv 0)) (fun _ _ _ _ _ _=>(am (i:=0) uk rfl (Or.inl rfl))) (bo rfl) (fun _ _ _ _ _ _=>bN) (fun _ _ _ _ _ _=>(aG aB rfl T.n_tuple PyProof.Rows.boot_tuple (aa (pv 0) ac)))) ac)))
  (ae (br (dO (aV (pcF T.g_are_kinds (m8 T) hr (aa (pv 1) ac)) (fun _=>rfl))) (ag cF) aR)
  (ag (au (pv 1))))),?_⟩
 try dsimp only [cxK,cxKn]
 refine ⟨_,rfl,pr,rfl,no hp fun D H1 s1 e1=>?_⟩;refine ⟨D,_,rfl,.inl ⟨SqL.of e1,fun r hr'=>?_⟩⟩;have s2:=s1.trans (af hr' (.tup (kas.map V.ref)));refine hid fun ZZ kZ=>?_;obtain ⟨hS,hks,hlen,hnz⟩:=hp;refine kZ ?_;refine ⟨_,rfl,r,kas,ks,rfl,SqT.of ad,hks.mono (Same.kt s2),hlen,hnz,fun H3 s3=>?_⟩;rw [hok];refine ⟨_,rfl,gE ?_⟩;exact ⟨_,rfl,k r H3 (s2.trans s3) (s3 _ _ ad)⟩
inductive jJ (K:PySem.W.Frag) (vs:List V) (H:Hp) (Q:VK) (_E:XK):Prop
 | mk (kr:Addr) (kas:List Addr) (ks:List (Str×Int)) (n:Str) (zz0:vs=[.ref kr,.str n]) (zz1:SqT K H kr (kas.map V.ref)) (zz2:KsAt H ks kas) (zz3:Q (.int (dl ks n)) H):jJ K vs H Q _E
def pj (K:PySem.W.Frag):Sp:=jJ K
theorem pH:FnOk P w K mg base CX0 1 T.g_many_of.f T.g_many_of.d ["kinds","name"] (pj K):=by
 refine T.g_many_of.F.ok g8 (fun vs H Q E h=>?_) (fun cdv A outer s H vs Q E hr h=>?_)
 · obtain ⟨kr,kas,ks,n,rfl,_⟩:=h;rfl
 obtain ⟨kr,kas,ks,n,rfl,hK,hks,k⟩:=h
 refine ⟨_,(ae (bP PassesOwn.never rfl (dX (pv 0)) (cH rfl (aE (am (i:=2) g8.nd rfl (Or.inl rfl)) (aE (am (i:=3) g8.nd rfl (Or.inl rfl)) bX))) (ag (br (aN fZ (pv 2) (pv 1) (aJ _)) (ag (au (pv 3))) aR)))
  (ag (au (vp sf ai)))),?_⟩
 try dsimp only [cxK,cxKn]
 refine ⟨_,rfl,kr,rfl,⟨_,hK⟩,?_⟩;have hkl:ks.length=kas.length:=Paired.length hks;refine qB (K:=K) (a:=kr) (xs:=kas.map V.ref) (fun i σ H2=>Ex2 fun c1 c2=>An3 (σ=[some (.ref kr),some (.str n),c1,c2]) (H2=H) (dl ks n=dl (ks.drop i) n)) ⟨none,none,rfl,rfl,by rw [List.drop_zero]⟩ (fun i σ H2 _ ⟨_,_,_,e,_⟩=>by rw [e];exact hK) ?_ ?_
 · rintro i x σ H2 hx ⟨c1,c2,rfl,rfl,hm⟩;obtain ⟨ka,rfl,hka⟩:=aP hx;obtain ⟨kd,hkd,ekd⟩:=P2.get' hks hka;have hi:i<ks.length:=(List.getElem?_eq_some_iff.mp hkd).1
   have hd:ks.drop i=kd::ks.drop (i+1):=by
    rw [List.drop_eq_getElem_cons hi];congr 1;rw [List.getElem?_eq_getElem hi] at hkd;exact Option.some.inj hkd
   rw [hd,dl] at hm;refine ⟨ka,_,rfl,SqT.of ekd,rfl,_,_,rfl,_,_,rfl,rfl,?_⟩;refine ⟨_,rfl,_,rfl,rfl,_,rfl,?_⟩;refine cq (fun c=>?_) (fun c=>?_)
   · have c':kd.1=n:=V.str.inj (of_decide_eq_true c);rw [if_pos c'] at hm;rw [hm] at k;exact ⟨_,rfl,k⟩
   · have c':¬ kd.1=n:=fun z=>c (decide_eq_true (congrArg V.str z));rw [if_neg c'] at hm;exact ⟨_,_,rfl,rfl,hm⟩
 · rintro σ H2 ⟨c1,c2,rfl,rfl,hm⟩;rw [List.length_map,<- hkl,List.drop_length,dl] at hm;rw [hm] at k;exact ⟨_,rfl,k⟩
inductive eS (K:PySem.W.Frag) (vs:List V) (H:Hp) (Q:VK) (_E:XK):Prop
 | mk (kr a:Addr) (kas:List Addr) (ks:List (Str×Int)) (t:Th) (st kd:Int) (zz0:vs=[.ref kr,.ref a,.int st,.int kd]) (zz1:SqT K H kr (kas.map V.ref)) (zz2:KsAt H ks kas) (zz3:At H t a) (zz4:t.size<=100000) (zz5:∀ H',L2.Same H H'->Q (.bl (fpb ks st kd t)) H'):eS K vs H Q _E
def jP (K:PySem.W.Frag):Sp:=eS K
theorem jR:FnOk P w K mg base CX0 3 T.g_fits_pattern.f T.g_fits_pattern.d ["kinds","pattern","states","kids"] (jP K):=by
 refine T.g_fits_pattern.F.ok fq (fun vs H Q E h=>?_) (fun cdv A outer s H vs Q E hr h=>?_)
 · obtain ⟨kr,a,kas,ks,t,st,kd,rfl,_⟩:=h;rfl
 obtain ⟨kr,a,kas,ks,t,st,kd,rfl,hK,hks,hA,hsz,k⟩:=h
 refine ⟨_,(ae (bP PassesOwn.never rfl (cR (pcF T.g_walked (ok_walked T) hr (aa (pv 1) ac))) (am (i:=4) fq.nd rfl (Or.inl rfl)) (ag (br (aV (pcF T.g_is_call (ok_is_call T) hr (aa (pv 4) ac)) (fun _=>rfl)) (ag (br (PW.pt (n5 (dO (aV (pcF T.g_is_below (fJ T) hr (aa (aK aL (pv 4) ai (fun _ _=>rfl)) (aa (pv 2) ac))) (fun _=>rfl))) (lr (dO (aV (pcF T.g_is_below (fJ T) hr (aa (aK aL (pv 4) ai (fun _ _=>rfl)) (aa (pv 3) ac))) (fun _=>rfl)))))) (ag (au im)) aR)) (ag (br (aN tu (pcF T.g_many_of (pH T) hr (aa (pv 0) (aa (aK aL (pv 4) ai (fun _ _=>rfl)) ac))) (av mY (ax ay rfl T.n_len PySem.boot_len (aa (pv 4) ac)) ai) (aJ _)) (ag (au im)) aR)))))
  (ag (au im))),?_⟩
 try dsimp only [cxK,cxKn]
 refine ⟨_,rfl,a,t,rfl,hA,hsz,fun r as H1 s1 nr er hw=>⟨r,rfl,⟨_,SqL.of er⟩,?_⟩⟩;have hwl:as.length=t.walk.length:=hw.length
 refine dj (K:=K) (a:=r) (xs:=as.map V.ref) (fun i σ H2=>Ex1 fun c=>An3 (σ=[some (.ref kr),some (.ref a),some (.int st),some (.int kd),c]) (L2.Same H1 H2) ((t.walk.take i).all (okP ks st kd)=true))
  ⟨none,rfl,.refl _,by rw [List.take_zero];rfl⟩ (fun i σ H2 _ ⟨_,_,s2,_⟩=>SqL.of (s2 _ _ er)) ?_ ?_
 · rintro i x σ H2 hx ⟨c,rfl,s2,hall⟩;obtain ⟨xa,rfl,hxa⟩:=aP hx;obtain ⟨tx,htx,atx0⟩:=hw.get hxa;have atx:=atx0.mono (Same.kt s2);have s12:=s1.trans s2;have htk:t.walk.take (i+1)=t.walk.take i++[tx]:=by rw [List.take_add_one,htx];rfl
   have hno:okP ks st kd tx=false->fpb ks st kd t=false:=by
    intro z;unfold fpb;rw [Bool.eq_false_iff];intro y;rw [List.all_eq_true] at y;rw [y tx (List.mem_of_getElem? htx)] at z;cases z
   have hyes:okP ks st kd tx=true->(t.walk.take (i+1)).all (okP ks st kd)=true:=by
    intro z;rw [htk,List.all_append,hall];simp [z]
   refine ⟨_,rfl,xa,tx,rfl,atx,_,rfl,?_⟩;cases tx with
   | call sn kn =>
     refine iy ?_;have atx':=atx;rw [At] at atx';refine ⟨_,rfl,xa,_,1,_,rfl,rfl,SqT.of atx',at1,_,rfl,sn,st,rfl,_,rfl,?_⟩;refine cq (fun c1=>?_) (fun c1=>?_)
     · have e:fpb ks st kd t=false:=hno (by rw [okP];rw [Bool.not_eq_true'] at c1;rw [c1];rfl);have:=k H2 s12;rw [e] at this;exact iy this
     · refine ⟨_,rfl,xa,_,2,_,rfl,rfl,SqT.of atx',at2,_,rfl,kn,kd,rfl,_,rfl,?_⟩
       have c1':decide (0<=sn/\sn<st)=true:=by
        cases h:decide (0<=sn/\sn<st) with
        | true=>rfl
        | false=>rw [h] at c1;exact absurd rfl c1
       refine cq (fun c2=>?_) (fun c2=>?_)
       · have e:fpb ks st kd t=false:=hno (by rw [okP];rw [Bool.not_eq_true'] at c2;rw [c1',c2];rfl);have:=k H2 s12;rw [e] at this;exact this
       · have c2':decide (0<=kn/\kn<kd)=true:=by
          cases h:decide (0<=kn/\kn<kd) with
          | true=>rfl
          | false=>rw [h] at c2;exact absurd rfl c2
         exact ⟨_,rfl,s2,hyes (by rw [okP,c1',c2'];rfl)⟩
   | knot nm us =>
     refine gE ?_;have atx':=atx;rw [At] at atx';refine hid fun ZZ kZ=>?_;obtain ⟨hnm,ka,ek,hka⟩:=atx';refine kZ ?_;have hkl:ka.length=us.length:=hka.length;refine ⟨_,rfl,_,rfl,xa,_,0,.str nm,rfl,rfl,SqT.of ek,at0,kr,kas,ks,nm,rfl,s12.seqT hK,hks.mono (Same.kt s12),_,rfl,xa,_,rfl,.inr (SqT.of ek),_,_,rfl,rfl,rfl,_,rfl,?_⟩;have hlen:((V.str nm::ka.map V.ref).length:Int) - 1=(us.length:Int):=by rw [List.length_cons,List.length_map,hkl];omega
     refine cq (fun c=>?_) (fun c=>?_)
     · have hm:¬ dl ks nm=((us.length:Nat):Int):=fun z=>xf c (by rw [z,<- hlen]);have e:fpb ks st kd t=false:=hno (by rw [okP];exact decide_eq_false hm);have:=k H2 s12;rw [e] at this;exact this
     · have hm:dl ks nm=((us.length:Nat):Int):=by
        have:=V.int.inj (vR c);rw [this];exact hlen
       exact ⟨_,rfl,s2,hyes (by rw [okP];exact decide_eq_true hm)⟩
 · rintro σ H2 ⟨c,rfl,s2,hall⟩;rw [List.length_map,hwl,List.take_length] at hall;have e:fpb ks st kd t=true:=hall;have:=k H2 (s1.trans s2);rw [e] at this;exact this
def oT (outs:List (Str×Int)) (st kd:Int) (t:Th):Prop:=Small t/\fpb outs st kd t=true
instance (outs:List (Str×Int)) (st kd:Int) (t:Th):Decidable (oT outs st kd t):=inferInstanceAs (Decidable (_/\_))
inductive ej (K:PySem.W.Frag) (vs:List V) (H:Hp) (Q:VK) (_E:XK):Prop
 | mk (oa pa:Addr) (oas:List Addr) (outs:List (Str×Int)) (t:Th) (st kd:Int) (zz0:vs=[.ref oa,.ref pa,.int st,.int kd]) (zz1:SqT K H oa (oas.map V.ref)) (zz2:KsAt H outs oas) (zz3:At H t pa) (zz4:t.size<=100000) (zz5:oT outs st kd t) (zz6:∀ H',L2.Same H H'->Q .non H'):ej K vs H Q _E
def iW (K:PySem.W.Frag):Sp:=ej K
theorem eJ:FnOk P w K mg base CX0 5 T.g_check_pattern.f T.g_check_pattern.d ["outs","pattern","states","kids"] (iW K):=by
 refine T.g_check_pattern.F.ok i4 (fun vs H Q E h=>?_) (fun cdv A outer s H vs Q E hr h=>?_)
 · obtain ⟨oa,pa,oas,outs,t,st,kd,rfl,_⟩:=h;rfl
 obtain ⟨oa,pa,oas,outs,t,st,kd,rfl,hS,hks,hA,hsz,hok,q⟩:=h
 refine ⟨_,(ae (br (dO (aV (pcF T.g_is_small (nW T) hr (aa (pv 1) ac)) (fun _=>rfl))) (ag cF) aR)
  (ag (br (dO (aV (pcF T.g_fits_pattern (jR T) hr (aa (pv 0) (aa (pv 1) (aa (pv 2) (aa (pv 3) ac))))) (fun _=>rfl))) (ag cF) aR))),?_⟩
 try dsimp only [cxK,cxKn]
 refine ⟨_,rfl,pa,t,rfl,hA,hsz,fun H1 s1=>⟨_,rfl,?_⟩⟩;rw [decide_eq_true hok.1];refine gE ?_;refine ⟨_,rfl,_,rfl,_,rfl,_,rfl,oa,pa,oas,outs,t,st,kd,rfl,s1.seqT hS,hks.mono (Same.kt s1),hA.mono (Same.kt s1),hsz,fun H2 s2=>⟨_,rfl,?_⟩⟩;rw [hok.2];exact gE (q H2 (s1.trans s2))
def nN (ins outs:List (Str×Int)) (st:Int) (row:List Th):Prop:=row.length=ins.length/\∀ (j:Nat) (t:Th) (k:Str×Int),row[j]?=some t->ins[j]?=some k->oT outs st k.2 t
inductive fo (K:PySem.W.Frag) (vs:List V) (H:Hp) (Q:VK) (_E:XK):Prop
 | mk (ia oa ra:Addr) (ias oas tas:List Addr) (ins outs:List (Str×Int)) (row:List Th) (st:Int) (zz0:vs=[.ref ia,.ref oa,.ref ra,.int st]) (zz1:SqT K H ia (ias.map V.ref)) (zz2:KsAt H ins ias) (zz3:SqT K H oa (oas.map V.ref)) (zz4:KsAt H outs oas) (zz5:H ra=some (.tup (tas.map V.ref))) (zz6:Ats H row tas) (zz7:(∀ t∈row,t.size<=100000)) (zz8:nN ins outs st row) (zz9:∀ H',L2.Same H H'->Q .non H'):fo K vs H Q _E
def kX (K:PySem.W.Frag):Sp:=fo K
theorem ku:FnOk P w K mg base CX0 6 T.g_check_state.f T.g_check_state.d ["ins","outs","patterns","states"] (kX K):=by
 refine T.g_check_state.F.ok d6 (fun vs H Q E h=>?_) (fun cdv A outer s H vs Q E hr h=>?_)
 · obtain ⟨ia,oa,ra,ias,oas,tas,ins,outs,row,st,rfl,_⟩:=h;rfl
 obtain ⟨ia,oa,ra,ias,oas,tas,ins,outs,row,st,rfl,hI,hki,hO,hko,er,hrow,hsz,hst,q⟩:=h
 refine ⟨_,(ae (br (aN tu (ax ay rfl T.n_len PySem.boot_len (aa (pv 2) ac)) (ax ay rfl T.n_len PySem.boot_len (aa (pv 0) ac)) (aJ _)) (ag cF) aR)
  (ag (bP PassesOwn.never rfl (v5 rfl T.n_zip (aa (pv 0) (aa (pv 2) ac))) (cH rfl (aE (am (i:=4) d6.nd rfl (Or.inl rfl)) (aE (am (i:=5) d6.nd rfl (Or.inl rfl)) bX))) (ag (aS (pcF T.g_check_pattern (eJ T) hr (aa (pv 1) (aa (pv 5) (aa (pv 3) (aa (aK aL (pv 4) ai (fun _ _=>rfl)) ac)))))))))),?_⟩
 try dsimp only [cxK,cxKn]
 have hil:ins.length=ias.length:=Paired.length hki;have htl:tas.length=row.length:=hrow.length;refine ⟨_,rfl,ra,_,rfl,.inr (SqT.of er),_,rfl,ia,_,rfl,.inr hI,rfl,_,rfl,?_⟩;refine cq (fun c=>?_) (fun c=>?_)
 · exfalso
   have hz:((tas.map V.ref).length:Int)=((ias.map V.ref).length:Int):=by
    rw [List.length_map,List.length_map];have:=hst.1;omega
   rw [hz] at c;simp at c
 · have hlen:row.length=ins.length:=by
    by_cases z:V.int ((tas.map V.ref).length:Int)=V.int ((ias.map V.ref).length:Int)
    · have z':=V.int.inj z;rw [List.length_map,List.length_map] at z';omega
    · exact absurd (by simpa using z) c
   refine ⟨_,rfl,_,rfl,ia,ra,rfl,⟨_,hI⟩,⟨_,SqT.of er⟩,?_⟩
   refine wE ins.length (fun j σ H7=>Ex2 fun c4 c5=>An2 (σ=[some (.ref ia),some (.ref oa),some (.ref ra),some (.int st),c4,c5]) (L2.Same H H7))
    ⟨none,none,rfl,.refl _⟩ (fun j σ H7 hj ⟨_,_,_,s7⟩=>⟨_,_,_,_,s7.seqT hI,SqT.of (s7 _ _ er),List.getElem?_eq_getElem (by rw [List.length_map];omega),List.getElem?_eq_getElem (by rw [List.length_map];omega)⟩) (fun σ H7 ⟨_,_,_,s7⟩=>⟨_,_,s7.seqT hI,SqT.of (s7 _ _ er),.inl (by rw [List.length_map];omega)⟩) ?_ ?_
   · rintro j x σ H7 H8 hj ⟨c4,c5,rfl,s7⟩ ⟨p2,x1,y1,hp2,rfl,rfl,hx1,hy1⟩;refine hid fun ZZ kZ=>?_;obtain ⟨ka,rfl,hka⟩:=aP (hx1 _ (s7.seqT hI));obtain ⟨ta,rfl,hta⟩:=aP (hy1 _ (SqT.of (s7 _ _ er)));obtain ⟨k,hk,ek⟩:=P2.get' hki hka;obtain ⟨t,ht,hat⟩:=hrow.get hta;refine kZ ?_;have s8:L2.Same H7 (upd H7 p2 (.tup [.ref ka,.ref ta])):=af hp2 _;have e8:(upd H7 p2 (.tup [.ref ka,.ref ta])) p2=some (.tup [.ref ka,.ref ta]):=ad;generalize (upd H7 p2 (.tup [.ref ka,.ref ta]))=H8 at s8 e8 ⊢;have s08:=s7.trans s8;refine ⟨p2,_,rfl,SqT.of e8,rfl,_,_,rfl,_,_,rfl,rfl,?_⟩;refine ⟨_,rfl,_,rfl,_,rfl,_,rfl,ka,_,1,_,rfl,rfl,SqT.of (s08 _ _ ek),at1,oa,ta,oas,outs,t,st,k.2,rfl,s08.seqT hO,hko.mono (Same.kt s08),hat.mono (Same.kt s08),hsz t (List.mem_of_getElem? ht),hst.2 j t k ht hk,fun H9 s9=>⟨_,_,rfl,s08.trans s9⟩⟩
   · rintro σ H7 ⟨c4,c5,rfl,s7⟩;exact q H7 s7
def LRow (H:Hp) (row:List Th) (a:Addr):Prop:=∃ tas:List Addr,H a=some (.lst (tas.map V.ref))/\Ats H row tas
theorem LRow.mono {H H':Hp} (s:L2.Same H H') {row:List Th} {a:Addr} (h:LRow H row a):LRow H' row a:=by
 obtain ⟨tas,h1,h2⟩:=h;exact ⟨tas,s _ _ h1,h2.mono (Same.kt s)⟩
def rW (ins outs:List (Str×Int)) (head:Th) (rows:List (List Th)):Prop:=rows.length<=20/\oT outs (rows.length:Nat) 1 head/\∀ row∈rows,nN ins outs (rows.length:Nat) row
inductive gn (K:PySem.W.Frag) (vs:List V) (H:Hp) (Q:VK) (_E:XK):Prop
 | mk (ia oa ha ru:Addr) (ias oas rls:List Addr) (ins outs:List (Str×Int)) (head:Th) (rows:List (List Th)) (zz0:vs=[.ref ia,.ref oa,.ref ha,.ref ru]) (zz1:j7 K H ins ia ias) (zz2:ci ins=true) (zz3:j7 K H outs oa oas) (zz4:ci outs=true) (zz5:At H head ha) (zz6:head.size<=100000) (zz7:H ru=some (.lst (rls.map V.ref))) (zz8:Paired (LRow H) rows rls) (zz9:rows.length<=1000) (zz10:(∀ row∈rows,∀ t∈row,t.size<=100000)) (zz11:rW ins outs head rows) (zz12:∀ (r:Addr) (H':Hp),L2.Same H H'->Bk H' ins outs head rows r->Q (.ref r) H'):gn K vs H Q _E
def mH (K:PySem.W.Frag):Sp:=gn K
set_option maxHeartbeats 2000000 in
theorem mU:FnOk P w K mg base CX0 7 T.g_made_book.f T.g_made_book.d ["ins","outs","head","rules"] (mH K):=by
 refine T.g_made_book.F.ok cE (fun vs H Q E h=>?_) (fun cdv A outer s H vs Q E hr h=>?_)
 · obtain ⟨ia,oa,ha,ru,ias,oas,rls,ins,outs,head,rows,rfl,_⟩:=h;rfl
 obtain ⟨ia,oa,ha,ru,ias,oas,rls,ins,outs,head,rows,rfl,hI,gi,hO,go,hd,hdz,eru,hrows,hrn,hrz,hok,q⟩:=h
 refine ⟨_,(ae (ar (i:=4) cE.nd rfl (Or.inl rfl) (pcF T.g_kinds_of (jB T) hr (aa (pv 0) ac)))
  (ae (ar (i:=5) cE.nd rfl (Or.inl rfl) (pcF T.g_kinds_of (jB T) hr (aa (pv 1) ac)))
  (ae (ar (i:=6) cE.nd rfl (Or.inl rfl) (aG aB rfl T.n_tuple PyProof.Rows.boot_tuple (aa (bY (N:=[Str.ofString "patterns"]) (js:=[none]) (g:=(aH 0)) (tt:=bn) (te:=(tCB (fun xs H Q=>∃ p ys,xs=[.ref p]/\((SqL K H p ys/\∀ l,H l=none->Q (.ref l) (upd H l (.tup ys)))∨(SqT K H p ys/\Q (.ref p) H))) (bH (b9 0) fu))) rfl (cJ rfl (by decide +kernel) (by decide +kernel) rfl rfl rfl) (cR (pv 3)) (fun _ _ _ _ _ _=>(am (i:=0) x9 rfl (Or.inl rfl))) (bo rfl) (fun _ _ _ _ _ _=>bN) (fun _ _ _ _ _ _=>(aG aB rfl T.n_tuple PyProof.Rows.boot_tuple (aa (pv 0) ac)))) ac)))
  (ae (br (aN fI (ax ay rfl T.n_len PySem.boot_len (aa (pv 6) ac)) (bF (v:=.int (20)) rfl T.c_MOST_STATES.choose_spec ⟨_,rfl⟩) (aJ _)) (ag cF) aR)
  (ae (aS (pcF T.g_check_pattern (eJ T) hr (aa (pv 5) (aa (pv 2) (aa (ax ay rfl T.n_len PySem.boot_len (aa (pv 6) ac)) (aa ai ac))))))
  (ae (bP PassesOwn.never rfl (dX (pv 6)) (am (i:=7) cE.nd rfl (Or.inl rfl)) (ag (aS (pcF T.g_check_state (ku T) hr (aa (pv 4) (aa (pv 5) (aa (pv 7) (aa (ax ay rfl T.n_len PySem.boot_len (aa (pv 6) ac)) ac))))))))
  (ag (au (aU (aa (pv 4) (aa (pv 5) (aa (pv 2) (aa (pv 6) ac))))))))))))),?_⟩
 try dsimp only [cxK,cxKn]
 have hrl:rows.length=rls.length:=Paired.length hrows;refine hid fun ZZ kZ=>?_;obtain ⟨hI1,hki,hI3,hI4⟩:=hI;obtain ⟨hO1,hko,hO3,hO4⟩:=hO;refine kZ ?_;refine ⟨_,rfl,ia,ias,ins,rfl,⟨hI1,hki,hI3,hI4⟩,gi,fun ti H1 s1 ei=>?_⟩;refine ⟨_,rfl,oa,oas,outs,rfl,⟨?_,hko.mono (Same.kt s1),hO3,hO4⟩,go,fun to H2 s2 eo=>?_⟩
 · rcases hO1 with h | h
   · exact .inl (s1.seq h)
   · exact .inr (s1.seqT h)
 have s02:=s1.trans s2;have eru2:=s02 _ _ eru;refine ⟨_,rfl,ru,rfl,⟨_,SqL.of eru2⟩,gd (F:=RowAt) (xs:=rls.map V.ref) rows (fun H1 H2 z p kt h=>h.mono kt) (by rw [List.length_map];omega) (by rw [List.length_map];omega) (fun i Hx sx hi=>⟨_,_,SqL.of (sx _ _ eru2),List.getElem?_eq_getElem hi⟩) (fun Hx sx=>⟨_,SqL.of (sx _ _ eru2),Nat.le_refl _⟩) (fun i Hx x Hy sx hi hy=>⟨hy.1,hy.2 _ (SqL.of (sx _ _ eru2))⟩) (fun i y row Hx R W' hy hzz sx hR=>?_) (fun D H3 bs hD s3 eD hpD=>?_)⟩
 · obtain ⟨la,rfl,hla⟩:=aP hy;obtain ⟨row',hrow',hl⟩:=P2.get' hrows hla;rw [hzz] at hrow';cases hrow';obtain ⟨tas,e1,h1⟩:=hl.mono (s02.trans sx);exact ⟨_,rfl,la,_,rfl,.inl ⟨SqL.of e1,fun l hl'=>hR _ l (af hl' _) ⟨tas,ad,h1.mono (Same.kt (af hl' _))⟩⟩⟩
 have hbl:rows.length=bs.length:=Paired.length hpD;refine ⟨D,_,rfl,.inl ⟨SqL.of eD,fun rt hrt=>?_⟩⟩;have s4:L2.Same H3 (upd H3 rt (.tup (bs.map V.ref))):=af hrt _;have e4:(upd H3 rt (.tup (bs.map V.ref))) rt=some (.tup (bs.map V.ref)):=ad;generalize (upd H3 rt (.tup (bs.map V.ref)))=H4 at s4 e4 ⊢;have s24:=s3.trans s4;have s04:=s02.trans s24;have hpR:Paired (RowAt H4) rows bs:=P2.mp (fun _ _ e=>e.mono (Same.kt s4)) hpD;have hnl:((bs.map V.ref).length:Int)=(rows.length:Nat):=by rw [List.length_map,hbl]
 refine ⟨_,rfl,rt,_,rfl,.inr (SqT.of e4),_,_,rfl,rfl,_,rfl,?_⟩;rw [hnl];have h20:=hok.1;have c20:decide (((rows.length:Nat):Int) > 20)=false:=decide_eq_false (by omega);rw [c20];refine gE ?_;have eo4:=s24 _ _ eo;have ei4:=(s2.trans s24) _ _ ei;refine ⟨_,rfl,_,rfl,_,rfl,rt,_,rfl,.inr (SqT.of e4),to,ha,oas,outs,head,_,1,rfl,SqT.of eo4,hko.mono (Same.kt s04),hd.mono (Same.kt s04),hdz,?_,?_⟩
 · rw [hnl];exact hok.2.1
 · intro H5 s5;dsimp only [vd];have s05:=s04.trans s5;refine ⟨_,rfl,rt,rfl,⟨_,SqT.of (s5 _ _ e4)⟩,?_⟩
   refine qB (K:=K) (a:=rt) (xs:=bs.map V.ref) (fun i σ H6=>Ex1 fun c7=>An2 (σ=[some (.ref ia),some (.ref oa),some (.ref ha),some (.ref ru),some (.ref ti),some (.ref to),some (.ref rt),c7]) (L2.Same H4 H6))
    ⟨none,rfl,s5⟩ (fun i σ H6 _ ⟨_,_,s6⟩=>SqT.of (s6 _ _ e4)) ?_ ?_
   · rintro i x σ H6 hx ⟨c7,rfl,s6⟩;refine hid fun ZZ kZ=>?_;obtain ⟨ra,rfl,hra⟩:=aP hx;obtain ⟨row,hrow,tas,er,hat⟩:=P2.get' hpR hra;refine kZ ?_;have hrm:=List.mem_of_getElem? hrow;have s06:=s04.trans s6;refine ⟨_,rfl,_,rfl,_,rfl,_,rfl,rt,_,rfl,.inr (SqT.of (s6 _ _ e4)),ti,to,ra,ias,oas,tas,ins,outs,row,_,rfl,SqT.of (s6 _ _ ei4),hki.mono (Same.kt s06),SqT.of (s6 _ _ eo4),hko.mono (Same.kt s06),s6 _ _ er,hat.mono (Same.kt s6),hrz row hrm,?_,fun H7 s7=>⟨_,rfl,s6.trans s7⟩⟩;rw [hnl];exact hok.2.2 row hrm
   · rintro σ H6 ⟨c7,rfl,s6⟩;refine ⟨_,rfl,_,rfl,_,rfl,_,rfl,al (by show 4<=1000000;decide),fun r hr'=>?_⟩;have s7:=s6.trans (af hr' (.tup [.ref ti,.ref to,.ref ha,.ref rt]));have s07:=s04.trans s7;exact q r _ s07 ⟨ti,to,ha,rt,ias,oas,bs,ad,s7 _ _ ei4,hki.mono (Same.kt s07),s7 _ _ eo4,hko.mono (Same.kt s07),hd.mono (Same.kt s07),s7 _ _ e4,P2.mp (fun _ _ e=>e.mono (Same.kt s7)) hpR⟩
inductive gz (K:PySem.W.Frag) (vs:List V) (H:Hp) (Q:VK) (_E:XK):Prop
 | mk (a:Addr) (ns:List Int) (k:Int) (zz0:vs=[.ref a,.int k]) (zz1:SqL K H a (ns.map V.int)) (zz2:0<=k) (zz3:∀ c:Int,Q (.int c) H):gz K vs H Q _E
def nB (K:PySem.W.Frag):Sp:=gz K
theorem dA:FnOk P w K mg base CX0 1 T.g__law_cell.f T.g__law_cell.d ["script","k"] (nB K):=by
 refine T.g__law_cell.F.ok nE (fun vs H Q E h=>?_) (fun cdv A outer s H vs Q E hr h=>?_)
 · obtain ⟨a,ns,k,rfl,_⟩:=h;rfl
 obtain ⟨a,ns,k,rfl,hS,h0,q⟩:=h
 refine ⟨_,(ae (br (aN oZ (pv 1) (ax ay rfl T.n_len PySem.boot_len (aa (pv 0) ac)) (aJ _)) (ag (au (aK cT (pv 0) (pv 1) (fun _ _=>rfl)))) aR)
  (ag (au ai))),?_⟩
 try dsimp only [cxK,cxKn]
 refine ⟨_,rfl,_,rfl,a,_,rfl,.inl hS,_,_,rfl,rfl,_,rfl,?_⟩;refine cq (fun c=>?_) (fun c=>q 0);have c':k<(((ns.map V.int).length:Nat):Int):=of_decide_eq_true c;rw [List.length_map] at c';exact ⟨_,rfl,_,rfl,a,_,k,_,rfl,rfl,hS,int_at h0 c',q _⟩
inductive gw (vs:List V) (H:Hp) (Q:VK) (_E:XK):Prop
 | mk (c k:Int) (zz0:vs=[.int c,.int k]) (zz1:0<=k) (zz2:k<=100000) (zz3:∀ r:Int,0<=r->r<2147483629->Q (.int r) H):gw  vs H Q _E
def nL:Sp:=gw
theorem cj:FnOk P w K mg base CX0 1 T.g__law_turn.f T.g__law_turn.d ["cell","k"] nL:=by
 refine T.g__law_turn.F.ok fj (fun vs H Q E h=>?_) (fun cdv A outer s H vs Q E hr h=>?_)
 · obtain ⟨c,k,rfl,_⟩:=h;rfl
 obtain ⟨c,k,rfl,h0,h1,q⟩:=h
 refine ⟨_,(ae (ar (i:=2) fj.nd rfl (Or.inl rfl) (av bD (av bO (av bO (av bO (pv 0) (av eG (av eG ai (pv 1)) (pv 1))) (av eG ai (pv 1))) ai) ai))
  (ae (ar (i:=2) fj.nd rfl (Or.inl rfl) (av bD (av eG (pv 2) (pv 2)) ai))
  (ag (au (av bD (av eG (av bO (pv 2) (av eG ai (av bO (pv 1) ai))) ai) ai))))),?_⟩
 try dsimp only [cxK,cxKn]
 refine ⟨_,rfl,_,rfl,_,_,rfl,rfl,.inl ⟨by decide,by decide⟩,_,rfl,_,_,rfl,rfl,.inr ⟨by omega,by omega⟩,_,_,rfl,rfl,_,rfl,_,_,rfl,rfl,.inl ⟨by decide,by decide⟩,_,_,rfl,rfl,_,_,rfl,rfl,_,_,rfl,rfl,(by show (0:Int)<2147483647;decide),?_⟩;have n0:=Int.emod_nonneg (c+977 * k * k+31 * k+1) (show (2147483647:Int)≠0 by decide);have n1:=Int.emod_lt_of_pos (c+977 * k * k+31 * k+1) (show (0:Int)<2147483647 by decide);dsimp only;generalize (c+977 * k * k+31 * k+1)%2147483647=near at n0 n1;refine ⟨_,rfl,_,rfl,_,_,rfl,rfl,.inl ⟨by omega,by omega⟩,_,_,rfl,rfl,(by show (0:Int)<2147483647;decide),?_⟩;dsimp only;generalize near * near%2147483647=far;refine ⟨_,rfl,_,rfl,_,_,rfl,rfl,_,_,rfl,rfl,.inl ⟨by decide,by decide⟩,_,_,rfl,rfl,_,_,rfl,rfl,.inr ⟨by decide,by decide⟩,_,_,rfl,rfl,(by show (0:Int)<2147483629;decide),q _ (Int.emod_nonneg _ (by decide)) (Int.emod_lt_of_pos _ (by decide))⟩
inductive gq (vs:List V) (H:Hp) (Q:VK) (_E:XK):Prop
 | mk (kr:Addr) (kas:List Addr) (ks:List (Str×Int)) (cell:Int) (zz0:vs=[.ref kr,.int cell]) (zz1:H kr=some (.tup (kas.map V.ref))) (zz2:KsAt H ks kas) (zz3:aT ks) (zz4:∀ (k0:Str×Int) (ka:Addr) (H':Hp),L2.Same H H'->k0∈ks->k0.2=0->KAt H' k0 ka->Q (.ref ka) H'):gq  vs H Q _E
def nq:Sp:=gq
theorem ng {H:Hp}:∀ {ks:List (Str×Int)} {as:List Addr},KsAt H ks as->∀ z∈ks.zip as,z.1∈ks/\KAt H z.1 z.2
 | _,_,.nil,z,hz=>by simp at hz
 | _,_,.cons (a:=k) (b:=a) r t,z,hz=>by
   rw [List.zip_cons_cons] at hz;rcases List.mem_cons.mp hz with rfl | hz
   · exact ⟨List.mem_cons_self ..,r⟩
   · obtain ⟨h1,h2⟩:=ng t z hz;exact ⟨List.mem_cons_of_mem _ h1,h2⟩
theorem kC {js:List (Option Nat)} {tt:TT} {te:TE} {σ:St} {H:Hp} {kr:Addr} {kas:List Addr} {ks:List (Str×Int)} {fin:Addr->Hp->Prop} (p:Str×Int->Bool) (e:H kr=some (.tup (kas.map V.ref))) (hks:KsAt H ks kas) (hl:ks.length<=1000) (hp:∃ k∈ks,p k=true)
 (htt:∀ (z:Str×Int) (ka:Addr) (H2:Hp) (R:Bool->Hp->Prop),L2.Same H H2->KAt H2 z ka->R (p z) H2->tt ((cσ js σ).set 0 (some (.ref ka))) H2 R)
 (hte:∀ (ka:Addr) (H2:Hp) (R:VK),R (.ref ka) H2->te ((cσ js σ).set 0 (some (.ref ka))) H2 R)
 (q:∀ (D:Addr) (bs:List ((Str×Int)×Addr)) (H':Hp),H D=none->H'=upd H D (.lst (bs.map fun z=>V.ref z.2))->1<=bs.length->bs.length<=ks.length->(∀ z∈bs,z.1∈ks/\p z.1=true/\KAt H z.1 z.2)->fin D H') :
 ∀ D,H D=none->∃ (n:Nat) (W:Nat->Hp->Prop),W 0 (upd H D (.lst []))/\ft js (aH 0) tt te σ (Itt K kr) D n W fun H'=>fin D H':=by
 have hkl:ks.length=kas.length:=Paired.length hks;have hzl:(ks.zip kas).length=ks.length:=by rw [List.length_zip];omega
 have hza:∀ (i:Nat) (x:V) (z:(Str×Int)×Addr),(kas.map V.ref)[i]?=some x->(ks.zip kas)[i]?=some z->x=.ref z.2:=fun i x z hx hz=>by
  obtain ⟨ka,rfl,hka⟩:=aP hx;obtain ⟨h1,h2⟩:=List.getElem?_zip_eq_some.mp hz;rw [hka] at h2;cases h2;rfl
 refine oO (ks.zip kas) (fun z=>p z.1) (fun z=>.ref z.2) (SqT.of e) (by rw [hzl,List.length_map];exact hkl) (by rw [List.length_map];omega) (fun i x z H2 R hx hz sm r=>?_) (fun i x z H2 R hx hz _ sm r=>?_) (fun D hD=>?_)
 · rw [hza i x z hx hz];have:=(ng hks z (List.mem_of_getElem? hz)).2;exact htt z.1 z.2 H2 R sm (sm _ _ this) r
 · rw [hza i x z hx hz];exact hte z.2 H2 R r
 · refine q D _ _ hD rfl ?_ ?_ ?_
   · obtain ⟨k,hk,hpk⟩:=hp;obtain ⟨i,hi,rfl⟩:=List.getElem_of_mem hk;have hz:(ks.zip kas)[i]'(by omega)∈(ks.zip kas).filter fun z=>p z.1:=List.mem_filter.mpr ⟨List.getElem_mem _,by rw [List.getElem_zip];exact hpk⟩;exact List.length_pos_of_mem hz
   · exact Nat.le_trans (List.length_filter_le _ _) (by omega)
   · intro z hz;obtain ⟨h1,h2⟩:=List.mem_filter.mp hz;obtain ⟨h3,h4⟩:=ng hks z h1;exact ⟨h3,h2,h4⟩
theorem mD:FnOk P w K mg base CX0 1 T.g__law_leaf.f T.g__law_leaf.d ["kinds","cell"] nq:=by
 refine T.g__law_leaf.F.ok hV (fun vs H Q E h=>?_) (fun cdv A outer s H vs Q E hr h=>?_)
 · obtain ⟨kr,kas,ks,cell,rfl,_⟩:=h;rfl
 obtain ⟨kr,kas,ks,cell,rfl,ek,hks,g,k⟩:=h
 refine ⟨_,(ae (jX (i:=2) (N:=[Str.ofString "kind"]) (js:=[none]) (g:=(aH 0)) (tt:=(oG (tOp (rEq) (tOp (rK K) (b9 0) (tC (.int 1))) (tC (.int 0))))) (te:=(b9 0)) hV.nd rfl (Or.inl rfl) rfl (cJ rfl (by decide +kernel) (by decide +kernel) rfl rfl rfl) (dX (pv 0)) (fun _ _ _ _ _ _=>(am (i:=0) xh rfl (Or.inl rfl))) (bo rfl) (fun _ _ _ _ _ _=>na (aN fZ (aK aL (pv 0) ai (fun _ _=>rfl)) ai (aJ _))) (fun _ _ _ _ _ _=>(pv 0)))
  (ag (au (aK cT (pv 2) (av bD (pv 1) (ax ay rfl T.n_len PySem.boot_len (aa (pv 2) ac))) (fun _ _=>rfl))))),?_⟩
 try dsimp only [cxK,cxKn]
 have hk8:=g.le;obtain ⟨kz,hkz,hkz0⟩:=g.zero;refine ⟨_,rfl,kr,rfl,⟨_,SqT.of ek⟩,kC (K:=K) (fun k=>decide (V.int k.2=V.int 0)) ek hks (by omega) ⟨kz,hkz,by rw [hkz0];rfl⟩ (fun z ka H2 R sm hz r=>?_) (fun ka H2 R r=>⟨_,rfl,r⟩) (fun D bs H' hD e' hb1 hb8 hbs=>?_)⟩
 · exact ⟨_,rfl,ka,_,1,_,rfl,rfl,SqT.of hz,at1,rfl,_,rfl,r⟩
 subst e';have hlm:0<((bs.map fun z=>V.ref z.2).length:Int):=by rw [List.length_map];omega
 have hy0:=Int.emod_nonneg cell (Int.ne_of_gt hlm);have hy1:=Int.emod_lt_of_pos cell hlm;refine hid fun ZZ kZ=>?_;obtain ⟨z,hz⟩:∃ z,bs[(cell%((bs.map fun z=>V.ref z.2).length:Int)).toNat]?=some z:=⟨_,List.getElem?_eq_getElem (by rw [List.length_map] at hy0 hy1 ⊢;omega)⟩;obtain ⟨g1,g2,g3⟩:=hbs z (List.mem_of_getElem? hz);refine kZ ?_;refine ⟨_,rfl,_,rfl,_,rfl,D,_,rfl,.inl (SqL.of ad),_,_,rfl,rfl,hlm,D,_,_,.ref z.2,rfl,rfl,SqL.of ad,at_nonneg hy0 (by rw [List.getElem?_map,hz];rfl),?_⟩;exact k z.1 z.2 _ (af hD _) g1 (V.int.inj (of_decide_eq_true g2)) (af hD _ _ _ g3)
inductive fY (vs:List V) (H:Hp) (Q:VK) (_E:XK):Prop
 | mk (cell:Int) (lt:Str) (zz0:vs=[.int cell,.str lt]) (zz1:oW lt) (zz2:∀ (r:Addr) (as:List Addr) (ks:List (Str×Int)) (H':Hp),L2.Same H H'->H' r=some (.tup (as.map V.ref))->KsAt H' ks as->aT ks->ci ks=true->Q (.ref r) H'):fY  vs H Q _E
def lF:Sp:=fY
theorem v9 {begun:Bool} {c0:Nat} {stem:Str} {a':Int} {L:List Nat} (p:Nat):1<=(iM begun c0 stem a' L p).length:=by
 unfold iM;cases begun with
 | true =>
   simp only [if_true];rw [fP];omega
 | false =>
   simp only [Bool.false_eq_true,if_false];rw [strLen_append,strLen_append];show 1<=_+1+_;omega
theorem vO {ks:List (Str×Int)} (g:aT ks) (h1:∀ k∈ks,1<=k.1.length):ci ks=true:=by
 unfold ci;rw [decide_eq_true ⟨g.ne,g.le⟩,decide_eq_true (eA g),decide_eq_true (by obtain ⟨k,hk,e⟩:=g.zero;exact List.mem_map.mpr ⟨k,hk,e⟩)]
 have:ks.all ck=true:=by
  rw [List.all_eq_true];intro k hk;have a1:=g.low k hk;have a2:=g.num k hk;unfold ck dH;rw [decide_eq_true ⟨h1 k hk,a1.2⟩,decide_eq_true (show 0<=k.2/\k.2<4 by omega)]
  have:low k.1=true:=by
   unfold low;rw [List.all_eq_true];intro c hc;exact decide_eq_true (a1.1 c hc)
  rw [this];rfl
 rw [this];rfl
theorem we {begun:Bool} {c0:Nat} {stem:Str} {a':Nat} {L:List Nat} (hs:stem.length<=7) (ha:a'<=stem.length) {p:Nat} (hp:p<8):(iM begun c0 stem (a':Int) L p).length<=8:=by
 unfold iM;cases begun with
 | true =>
   simp only [if_true];rw [fP];omega
 | false =>
   simp only [Bool.false_eq_true,if_false];have h1:=(jm (z:=stem) ha).2
   have h2:(cw stem (some (a':Int)) none).length=stem.length - a':=by
    show (cw stem (some (a':Int)) none).cps.size=_;rw [<- Array.length_toList];show ((jN stem.cps.toList (some (a':Int)) none).toArray.toList).length=_;rw [List.toList_toArray];unfold jN;have hz:stem.cps.toList.length=stem.length:=Array.length_toList;rw [HT.sIx_nat,HT.sIx_none,hz,Nat.min_eq_left ha,List.length_take,List.length_drop,hz];omega
   rw [strLen_append,strLen_append,h1,h2];show a'+1+(stem.length - a')<=8;omega
theorem t8 {x:Int} (h0:0<=x) (h1:x<4):1<=1+x/\1+x<=8:=by omega
theorem ql {x:Int} (h0:0<=x) (h1:x<4):1<=5+x/\5+x<=8:=by omega
theorem ww {i j:Nat} {t:Int} (hi:i<4) (hj:j<4) (h:(3 * (i:Int)+t)%4=(3 * (j:Int)+t)%4):i=j:=by omega
theorem wo {i j:Nat} {t:Int} (hi:i<8) (hj:j<8) (h:(3 * (i:Int)+t)%8=(3 * (j:Int)+t)%8):i=j:=by omega
theorem qC {x:Int} {m:Nat} (h0:0<=x) (h1:x<(m:Int)):x.toNat<m:=by omega
def KInv (nm:Nat->Str) (turn leaf:Int) (m:Nat) (ks:List (Str×Int)):Prop :=
 ∀ (j:Nat) (k:Str×Int),ks[j]?=some k->k.1=nm ((3 * (j:Int)+turn)%(m:Int)).toNat/\0<=k.2/\k.2<=3/\((j:Int)=leaf->k.2=0)
theorem KInv.good {nm:Nat->Str} {turn leaf:Int} {m:Nat} {ks:List (Str×Int)} (h:KInv nm turn leaf m ks) (h1:1<=ks.length) (hm:(m=4/\ks.length<=4)∨(m=8/\ks.length<=8)) (ht:0<=turn) (hlf:0<=leaf/\leaf<(ks.length:Int))
 (hlow:∀ p,p<m->Low (nm p)/\(nm p).length<=8) (hinj:∀ p r,p<m->r<m->nm p=nm r->p=r):aT ks:=by
 have hm0:(0:Int)<(m:Int):=by rcases hm with ⟨rfl,_⟩ | ⟨rfl,_⟩ <;> decide
 have hb:∀ j:Nat,((3 * (j:Int)+turn)%(m:Int)).toNat<m:=fun j=>by
  exact qC (Int.emod_nonneg _ (Int.ne_of_gt hm0)) (Int.emod_lt_of_pos _ hm0)
 refine ⟨h1,(by rcases hm with ⟨_,h⟩ | ⟨_,h⟩;exact Nat.le_trans h (by decide);exact h),fun k hk=>?_,fun k hk=>?_,?_,fun i j k l hk hl e=>?_⟩
 · obtain ⟨i,hi⟩:=List.mem_iff_getElem?.mp hk;rw [(h i k hi).1];exact hlow _ (hb i)
 · obtain ⟨i,hi⟩:=List.mem_iff_getElem?.mp hk;exact ⟨(h i k hi).2.1,(h i k hi).2.2.1⟩
 · have hl:leaf.toNat<ks.length:=qC hlf.1 hlf.2;exact ⟨ks[leaf.toNat],List.getElem_mem hl,(h leaf.toNat _ (List.getElem?_eq_getElem hl)).2.2.2 (Int.toNat_of_nonneg hlf.1)⟩
 · have hi':i<ks.length:=(List.getElem?_eq_some_iff.mp hk).1;have hj':j<ks.length:=(List.getElem?_eq_some_iff.mp hl).1;rw [(h i k hk).1,(h j l hl).1] at e;have e2:=hinj _ _ (hb i) (hb j) e;have e3:(3 * (i:Int)+turn)%(m:Int)=(3 * (j:Int)+turn)%(m:Int):=by rw [<- Int.toNat_of_nonneg (Int.emod_nonneg (3 * (i:Int)+turn) (Int.ne_of_gt hm0)),e2,Int.toNat_of_nonneg (Int.emod_nonneg (3 * (j:Int)+turn) (Int.ne_of_gt hm0))]
   rcases hm with ⟨rfl,hm⟩ | ⟨rfl,hm⟩
   · exact ww (Nat.lt_of_lt_of_le hi' hm) (Nat.lt_of_lt_of_le hj' hm) e3
   · exact wo (Nat.lt_of_lt_of_le hi' hm) (Nat.lt_of_lt_of_le hj' hm) e3
set_option maxHeartbeats 4000000 in
theorem gx:FnOk P w K mg base CX0 2 T.g__law_kinds.f T.g__law_kinds.d ["cell","letters"] lF:=by
 refine T.g__law_kinds.F.ok aA (fun vs H Q E h=>?_) (fun cdv A outer s H vs Q E hr h=>?_)
 · obtain ⟨c,lt,rfl,_⟩:=h;rfl
 obtain ⟨cell,lt,rfl,pk,q⟩:=h
 refine ⟨_,(ae (ar (i:=2) aA.nd rfl (Or.inl rfl) (pcF T.g__law_turn (cj T) hr (aa (pv 0) (aa ai ac))))
  (ae (ar (i:=3) aA.nd rfl (Or.inl rfl) (av bO ai (av bD (pv 2) ai)))
  (ae (br (aN fZ (av bD (av bW (pv 2) ai) ai) ai (aJ _)) (ag (ar (i:=3) aA.nd rfl (Or.inl rfl) (av bO ai (av bD (av bW (pv 2) ai) ai)))) aR)
  (ae (ar (i:=4) aA.nd rfl (Or.inl rfl) (c9 nw (av hG (pv 1) eC) eh (dB (av bO ai (av eG ai (aG me rfl T.n_int PyProof.Rows.boot_int (aa (cS fI (pv 3) ai (aJ _)) ac)))))))
  (ae (ar (i:=5) aA.nd rfl (Or.inl rfl) (c9 nw eC eh (dB (av bD (av bW (pv 2) ai) ai))))
  (ae (ar (i:=6) aA.nd rfl (Or.inl rfl) (av bD (av bW (pv 2) ai) (av bO (ax fk rfl T.n_len PySem.boot_len (aa (pv 5) ac)) ai)))
  (ae (ar (i:=7) aA.nd rfl (Or.inl rfl) (av bD (av bW (pv 2) ai) (pv 3)))
  (ae (ar (i:=8) aA.nd rfl (Or.inl rfl) (av bD (av bW (pv 2) ai) ai))
  (ae (ar (i:=9) aA.nd rfl (Or.inl rfl) (cS fZ (av bD (av bW (pv 2) ai) ai) ai (aJ _)))
  (ae (ar (i:=10) aA.nd rfl (Or.inl rfl) (bt ac))
  (ae (bP PassesOwn.never rfl (cg rfl T.n_range (aa (pv 3) ac)) (am (i:=11) aA.nd rfl (Or.inl rfl)) (ae (ar (i:=2) aA.nd rfl (Or.inl rfl) (pcF T.g__law_turn (cj T) hr (aa (pv 2) (aa (av bO (pv 11) ai) ac))))
  (ae (ar (i:=12) aA.nd rfl (Or.inl rfl) (av eG (aK cT (bt (aa ai (aa ai (aa ai (aa ai (aa ai ac)))))) (av bD (pv 2) ai) (fun _ _=>rfl)) (aG me rfl T.n_int PyProof.Rows.boot_int (aa (cS tu (pv 11) (pv 7) (aJ _)) ac))))
  (ae (ar (i:=13) aA.nd rfl (Or.inl rfl) (av bD (av bO (av eG ai (pv 11)) (pv 8)) (ax fk rfl T.n_len PySem.boot_len (aa (pv 4) ac))))
  (ae (ar (i:=14) aA.nd rfl (Or.inl rfl) (av hG (av hG (c9 nw (pv 5) eh (dB (pv 6))) (aK sh (pv 4) (pv 13) (fun _ _=>rfl))) (c9 nw (pv 5) (dB (pv 6)) eh)))
  (ae (br (aV (pv 9) (fun _=>rfl)) (ag (ar (i:=14) aA.nd rfl (Or.inl rfl) (av um (aK sh (pv 1) ai (fun _ _=>rfl)) (av bO ai (pv 13))))) aR)
  (ag (aS (ce PySem.F.plainAttrs_list PySem.F.slot_list_append PySem.F.type_list_append aQ (pv 10) (aa (aU (aa (pv 14) (aa (pv 12) ac))) ac))))))))))
  (ag (au (aG aB rfl T.n_tuple PyProof.Rows.boot_tuple (aa (pv 10) ac))))))))))))))),?_⟩
 try dsimp only [cxK,cxKn]
 refine ⟨_,rfl,_,_,rfl,by decide,by decide,fun rest r0 r1=>?_⟩;have z0:=Int.emod_nonneg rest (show (4:Int)≠0 by decide);have z1:=Int.emod_lt_of_pos rest (show (0:Int)<4 by decide);refine ⟨_,rfl,_,_,rfl,rfl,(by show (0:Int)<4;decide),_,_,rfl,rfl,?_⟩;dsimp only [aH];refine bJ (fun σ' H'=>An2 (H=H') (Ex1 fun (size:Int)=>An3 (1<=size) (size<=8) (σ'=[some (.int cell),some (.str lt),some (.int rest),some (.int size),none,none,none,none,none,none,none,none,none,none,none]))) (fun kk hk=>?_) ?_
 · refine ⟨_,rfl,_,_,rfl,rfl,⟨by decide,by decide⟩,_,_,rfl,rfl,(by show (0:Int)<4;decide),rfl,_,rfl,?_⟩;refine cq (fun _=>?_) (fun _=>hk _ _ ⟨rfl,_,(t8 z0 z1).1,(t8 z0 z1).2,rfl⟩);have y0:=Int.emod_nonneg (rest / 55296) (show (4:Int)≠0 by decide);have y1:=Int.emod_lt_of_pos (rest / 55296) (show (0:Int)<4 by decide);exact ⟨_,rfl,_,_,rfl,rfl,⟨by decide,by decide⟩,_,_,rfl,rfl,(by show (0:Int)<4;decide),_,_,rfl,rfl,hk _ _ ⟨rfl,_,(ql y0 y1).1,(ql y0 y1).2,rfl⟩⟩
 rintro σ' H' ⟨rfl,size,sz1,sz8,rfl⟩
 -- more
 have hl4:=pk.len;have hL8:(lt++dz).length=8:=by rw [strLen_append,hl4];rfl
 have hsz0:(0:Int)<size:=sz1
 obtain ⟨m,hm,hm4⟩:∃ m:Nat,(4+4 * (if decide ((4:Int)<size) then 1 else 0):Int)=(m:Int)/\((m=4/\size<=4)∨(m=8/\size<=8)):=by
  by_cases c:(4:Int)<size
  · exact ⟨8,by rw [decide_eq_true c];rfl,.inr ⟨rfl,sz8⟩⟩
  · exact ⟨4,by rw [decide_eq_false c];rfl,.inl ⟨rfl,Int.not_lt.mp c⟩⟩
 refine ⟨_,rfl,_,_,rfl,rfl,al (by rw [hl4];decide +kernel),_,rfl,_,_,rfl,rfl,.inr ⟨_,rfl,?_⟩⟩;refine ⟨_,_,rfl,rfl,.inl ⟨by decide,by decide⟩,_,_,rfl,rfl,_,rfl,_,rfl,al (by show (lt++dz).length<=1000000;rw [hL8];decide),?_⟩;have hm8:m<=(lt++dz).length:=by rw [hL8];rcases hm4 with ⟨rfl,_⟩ | ⟨rfl,_⟩ <;> decide
 generalize (4+4 * (if decide ((4:Int)<size)=true then 1 else 0):Int)=x4 at hm ⊢;subst hm;obtain ⟨cl,cn⟩:(cw (lt++Str.ofString "aeio") none (some (m:Int))).cps.toList=(lt++dz).cps.toList.take m/\(cw (lt++Str.ofString "aeio") none (some (m:Int))).length=m:=jm (z:=lt++dz) (n:=m) hm8
 have hmore:∀ p:Nat,p<m->(lt++dz).cps.toList[p]?=some ((lt++dz).cps.toList.getD p 0)/\(cw (lt++Str.ofString "aeio") none (some (m:Int))).cps.toList[p]?=some ((lt++dz).cps.toList.getD p 0):=fun p hp=>by
  have hpl:p<(lt++dz).cps.toList.length:=by rw [Array.length_toList];exact Nat.lt_of_lt_of_le hp hm8
  have h1:(lt++dz).cps.toList[p]?=some ((lt++dz).cps.toList.getD p 0):=by rw [List.getD,List.getElem?_eq_getElem hpl];rfl
  refine ⟨h1,?_⟩;rw [cl,List.getElem?_take_of_lt hp];exact h1
 generalize cw (lt++Str.ofString "aeio") none (some (m:Int))=more at cn hmore cl ⊢
 -- stem
 have y0:=Int.emod_nonneg (rest / 4) (show (8:Int)≠0 by decide);have y1:=Int.emod_lt_of_pos (rest / 4) (show (0:Int)<8 by decide);refine ⟨_,rfl,_,_,rfl,rfl,⟨by decide,by decide⟩,_,_,rfl,rfl,(by show (0:Int)<8;decide),_,rfl,_,rfl,al (by decide +kernel),?_⟩;generalize rest / 4%8=x8 at y0 y1 ⊢;obtain ⟨sn,rfl⟩:∃ n:Nat,x8=(n:Int):=⟨_,(Int.toNat_of_nonneg y0).symm⟩
 have hsl:(cw (Str.ofString "gumleafs") none (some (sn:Int))).length<=7:=by
  show (cw gum none (some (sn:Int))).length<=7;rw [(jm (z:=gum) (n:=sn) (by show sn<=8;omega)).2];omega
 have hsw:Low (cw (Str.ofString "gumleafs") none (some (sn:Int))):=my uV _ _;generalize cw (Str.ofString "gumleafs") none (some (sn:Int))=stem at hsl hsw ⊢
 -- at
 have hst0:(0:Int)<(stem.length:Int)+1:=Int.lt_add_one_of_le (Int.natCast_nonneg _);have x0:=Int.emod_nonneg (rest / 32) (Int.ne_of_gt hst0);have x1:=Int.emod_lt_of_pos (rest / 32) hst0;refine ⟨_,rfl,_,_,rfl,rfl,⟨by decide,by decide⟩,_,rfl,_,rfl,al (Nat.le_trans hsl (by decide)),_,_,rfl,rfl,_,_,rfl,rfl,hst0,?_⟩;generalize rest / 32%((stem.length:Int)+1)=xa at x0 x1 ⊢;obtain ⟨a',rfl⟩:∃ n:Nat,xa=(n:Int):=⟨_,(Int.toNat_of_nonneg x0).symm⟩;have ha'':a'<=stem.length:=by omega
 -- leaf,turn,begun
 have l0:=Int.emod_nonneg (rest / 288) (Int.ne_of_gt hsz0);have l1:=Int.emod_lt_of_pos (rest / 288) hsz0;refine ⟨_,rfl,_,_,rfl,rfl,⟨by decide,by decide⟩,_,rfl,_,_,rfl,rfl,hsz0,?_⟩;generalize rest / 288%size=leaf at l0 l1 ⊢;have t0:=Int.emod_nonneg (rest / 1152) (show (4:Int)≠0 by decide);refine ⟨_,rfl,_,_,rfl,rfl,⟨by decide,by decide⟩,_,_,rfl,rfl,(by show (0:Int)<4;decide),?_⟩;generalize rest / 1152%4=turn at t0 ⊢;refine ⟨_,rfl,_,_,rfl,rfl,⟨by decide,by decide⟩,_,_,rfl,rfl,(by show (0:Int)<3;decide),rfl,?_⟩;generalize decide (V.int (rest / 4608%3)=V.int 1)=bg;refine ⟨al (by show 0<=1000000;decide),fun kl hkl=>?_⟩;obtain ⟨c0,hc0⟩:∃ c0,lt.cps.toList[0]?=some c0:=⟨_,List.getElem?_eq_getElem (by rw [Array.length_toList];show 0<lt.length;omega)⟩
 have hc0l:97<=c0/\c0<=122:=pk.low c0 (by
  show c0∈(lt.cps++dz.cps).toList;rw [Array.toList_append];exact List.mem_append_left _ (List.mem_of_getElem? hc0))
 refine ⟨_,rfl,size,rfl,by omega,by omega,?_⟩
 refine cN (n:=size.toNat) (fun i σ H2=>Ex7 fun (rest':Int) (kv mv pv nv:Option V) (as:List Addr) (ks:List (Str×Int))=>An6 (σ=[some (.int cell),some (.str lt),some (.int rest'),some (.int size),some (.str more),some (.str stem),some (.int (a':Int)),some (.int leaf),some (.int turn),some (.bl bg),some (.ref kl),kv,mv,pv,nv]) (L2.Same H H2) (H2 kl=some (.lst (as.map V.ref))) (KsAt H2 ks as) (ks.length=i) (KInv (iM bg c0 stem (a':Int) (lt++dz).cps.toList) turn leaf m ks))
  ⟨rest,none,none,none,none,[],[],rfl,af hkl _,ad,.nil,rfl,fun j k hj=>by simp at hj⟩ ?_ ?_
 · rintro i σ H2 hi ⟨rest',kv,mv,pv,nv,as,ks,rfl,sm,e,hp,hkn,hinv⟩;have hi8:i<size.toNat:=hi;have hl:ks.length=as.length:=Paired.length hp;refine ⟨_,rfl,_,rfl,_,_,rfl,rfl,_,_,rfl,by omega,by omega,fun rest2 _ _=>?_⟩;have v0:=Int.emod_nonneg rest2 (show (5:Int)≠0 by decide);have v1:=Int.emod_lt_of_pos rest2 (show (0:Int)<5 by decide);refine hid fun ZZ kZ=>?_
   obtain ⟨v,hv,hv0,hv3⟩:∃ v:Int,atI [V.int 0,V.int 2,V.int 1,V.int 3,V.int 2] (rest2%5)=some (.int v)/\0<=v/\v<=3:=by
    rcases (by omega:rest2%5=0∨rest2%5=1∨rest2%5=2∨rest2%5=3∨rest2%5=4) with z | z | z | z | z <;> rw [z]
    · exact ⟨0,rfl,by decide,by decide⟩
    · exact ⟨2,rfl,by decide,by decide⟩
    · exact ⟨1,rfl,by decide,by decide⟩
    · exact ⟨3,rfl,by decide,by decide⟩
    · exact ⟨2,rfl,by decide,by decide⟩
   refine kZ ?_;refine ⟨al (by show 5<=1000000;decide),fun ll hll=>?_⟩;refine ⟨_,rfl,_,_,rfl,rfl,(by show (0:Int)<5;decide),ll,_,_,.int v,rfl,rfl,SqL.of ad,hv,_,rfl,_,rfl,rfl,.inr ⟨_,rfl,_,_,rfl,rfl,.inl ⟨by omega,by omega⟩,?_⟩⟩;have s3:L2.Same H2 (upd H2 ll (.lst [.int 0,.int 2,.int 1,.int 3,.int 2])):=af hll _;generalize (upd H2 ll (.lst [.int 0,.int 2,.int 1,.int 3,.int 2]))=H3 at s3 ⊢;have e3:=s3 _ _ e;have hp3:=hp.mono (Same.kt s3);have sm3:=sm.trans s3
   have hmny:0<=(v * (if (!decide (V.int (0+(i:Int))=V.int leaf))=true then 1 else 0):Int)/\(v * (if (!decide (V.int (0+(i:Int))=V.int leaf))=true then 1 else 0):Int)<=3/\((i:Int)=leaf->(v * (if (!decide (V.int (0+(i:Int))=V.int leaf))=true then 1 else 0):Int)=0):=by
    by_cases c:(i:Int)=leaf
    · have:(!decide (V.int (0+(i:Int))=V.int leaf))=false:=by rw [Int.zero_add,c,decide_eq_true rfl];rfl
      rw [this];simp
    · have:(!decide (V.int (0+(i:Int))=V.int leaf))=true:=by
       rw [Int.zero_add,decide_eq_false (fun z=>c (V.int.inj z))];rfl
      rw [this];simp;exact ⟨hv0,hv3,fun z=>absurd z c⟩
   generalize (v * (if (!decide (V.int (0+(i:Int))=V.int leaf))=true then 1 else 0):Int)=mny at hmny ⊢;obtain ⟨hm0,hm3,hmz⟩:=hmny;have p0:=Int.emod_nonneg (3 * (0+(i:Int))+turn) (show (more.length:Int)≠0 by omega);have p1:=Int.emod_lt_of_pos (3 * (0+(i:Int))+turn) (show (0:Int)<(more.length:Int) by omega);refine ⟨_,rfl,_,_,rfl,rfl,.inl ⟨by decide,by decide⟩,_,rfl,_,_,rfl,rfl,_,rfl,_,rfl,al (by omega),_,_,rfl,rfl,(by show (0:Int)<(more.length:Int);omega),?_⟩;generalize hpc:(3 * (0+(i:Int))+turn)%(more.length:Int)=xp at p0 p1 ⊢;obtain ⟨pc,rfl⟩:∃ n:Nat,xp=(n:Int):=⟨_,(Int.toNat_of_nonneg p0).symm⟩
   have hpc2:((3 * (i:Int)+turn)%(m:Int)).toNat=pc:=by
    rw [cn,Int.zero_add] at hpc;omega
   have hpm:pc<m:=by omega
   obtain ⟨hL1,hL2⟩:=hmore pc hpm;have hc1:=(fz stem none (some (a':Int)));have hc2:=(fz stem (some (a':Int)) none);refine ⟨_,rfl,_,rfl,_,rfl,_,rfl,al (by omega),_,rfl,_,rfl,_,_,_,rfl,rfl,al (by omega),cP hL2,_,_,rfl,rfl,al (by show (cw stem none (some (a':Int))).length+1<=1000000;omega),_,rfl,_,rfl,_,rfl,_,rfl,al (by omega),_,_,rfl,rfl,al (by rw [strLen_append];show (cw stem none (some (a':Int))).length+1+(cw stem (some (a':Int)) none).length<=1000000;omega),?_⟩;dsimp only [aH];refine bJ (fun σ' H'=>An2 (H3=H') (σ'=[some (.int cell),some (.str lt),some (.int rest2),some (.int size),some (.str more),some (.str stem),some (.int (a':Int)),some (.int leaf),some (.int turn),some (.bl bg),some (.ref kl),some (.int (0+(i:Int))),some (.int mny),some (.int (pc:Int)),some (.str (iM bg c0 stem (a':Int) (lt++dz).cps.toList pc))])) (fun kk hk=>?_) ?_
   · refine ⟨_,rfl,bg,rfl,?_⟩;cases bg with
     | false=>exact gE (hk _ _ ⟨rfl,rfl⟩)
     | true =>
       refine iy ⟨_,rfl,_,_,c0,rfl,rfl,al (by omega),cP (j:=0) hc0,_,rfl,_,_,rfl,rfl,c0,_,rfl,rfl,by omega,by omega,hk _ _ ⟨rfl,?_⟩⟩;have:(1+(pc:Int)).toNat=1+pc:=by omega
       rw [this];rfl
   rintro σ' H' ⟨rfl,rfl⟩;refine ⟨_,rfl,.inl ⟨rfl,_,SqL.of e3⟩,_,rfl,_,rfl,al (by show 2<=1000000;decide),fun p hp'=>?_⟩;have hpk:kl≠p:=ao e3 hp';refine ⟨kl,_,_,rfl,rfl,by rw [ak hpk];exact e3,aD (by rw [List.length_map];omega),?_⟩;refine ⟨rest2,_,_,_,_,as++[p],ks++[(iM bg c0 stem (a':Int) (lt++dz).cps.toList pc,mny)],rfl,aF (aF sm3 (sm3.free hp')) hkl,?_,?_,?_,?_⟩
   · rw [ad,List.map_append];rfl
   · have kt:KT H3 (upd (upd H3 p (.tup [.str (iM bg c0 stem (a':Int) (lt++dz).cps.toList pc),.int mny])) kl (.lst (as.map V.ref++[.ref p]))):=(fD hp').trans (bc (xs:=as.map V.ref) (by rw [ak hpk];exact e3));refine P2.append (hp3.mono kt) (.cons ?_ .nil);show (upd (upd H3 p _) kl _) p=_;rw [ak hpk.symm,ad]
   · rw [List.length_append,hkn];rfl
   · intro j k hj;by_cases hji:j<ks.length
     · rw [List.getElem?_append_left hji] at hj;exact hinv j k hj
     · rw [List.getElem?_append_right (by omega)] at hj
       have hj0:j - ks.length=0:=by
        have:=(List.getElem?_eq_some_iff.mp hj).1;simp at this;omega
       rw [hj0] at hj;cases hj;have hji':j=i:=by omega
       subst hji';exact ⟨by rw [hpc2],hm0,hm3,hmz⟩
 · rintro σ H2 ⟨rest',kv,mv,pv,nv,as,ks,rfl,sm,e,hp,hkn,hinv⟩;refine ⟨_,rfl,kl,_,rfl,.inl ⟨SqL.of e,fun tp htp=>?_⟩⟩;have s3:=af htp (.tup (as.map V.ref))
   have hpos:∀ k∈ks,1<=k.1.length:=fun k hk=>by
    obtain ⟨i,hi⟩:=List.mem_iff_getElem?.mp hk;rw [(hinv i k hi).1];exact v9 _
   suffices hgood:aT ks by exact q tp as ks _ (sm.trans s3) ad (hp.mono (Same.kt s3)) hgood (vO hgood hpos)
   refine hinv.good (by omega) (by omega) t0 ⟨l0,by omega⟩ (fun p hp'=>⟨wv hc0l hsw (fun c hc=>pk.low c hc) (by rw [Array.length_toList];show p<(lt++dz).length;omega),we hsl ha'' (by omega)⟩) (fun p r hp' hr' e'=>vQ (fun p r c h1 h2=>pk.inj p r c h1 h2) (by rw [Array.length_toList];show p<(lt++dz).length;omega) (by rw [Array.length_toList];show r<(lt++dz).length;omega) e')
inductive fF (vs:List V) (H:Hp) (Q:VK) (_E:XK):Prop
 | mk (l:Addr) (x m:Int) (zz0:vs=[.ref l,.int m]) (zz1:H l=some (.lst [.int x])) (zz2:0<m) (zz3:m<1000000) (zz4:∀ d x':Int,0<=d->d<m->Q (.int d) (upd H l (.lst [.int x']))):fF  vs H Q _E
def lJ:Sp:=fF
theorem cQ:FnOk P w K mg base CX0 1 T.g__law_digit.f T.g__law_digit.d ["left","many"] lJ:=by
 refine T.g__law_digit.F.ok gD (fun vs H Q E h=>?_) (fun cdv A outer s H vs Q E hr h=>?_)
 · obtain ⟨l,x,m,rfl,_⟩:=h;rfl
 obtain ⟨l,x,m,rfl,e,h0,h1,q⟩:=h
 refine ⟨_,(ae (ar (i:=2) gD.nd rfl (Or.inl rfl) (av bD (aK cT (pv 0) ai (fun _ _=>rfl)) (pv 1)))
  (ae (g9 (av bW (aK cT (pv 0) ai (fun _ _=>rfl)) (pv 1)) (wn (pv 0) ai set_list))
  (ag (au (pv 2))))),?_⟩
 try dsimp only [cxK,cxKn]
 refine ⟨_,rfl,l,_,0,.int x,rfl,rfl,SqL.of e,at0,_,rfl,_,_,rfl,rfl,h0,?_⟩;refine ⟨_,rfl,l,_,0,.int x,rfl,rfl,SqL.of e,at0,_,rfl,_,_,rfl,rfl,⟨h0,by omega⟩,?_⟩;refine ⟨_,rfl,l,_,0,0,rfl,rfl,e,rfl,?_⟩;exact ⟨_,rfl,q _ _ (Int.emod_nonneg _ (by omega)) (Int.emod_lt_of_pos _ h0)⟩
inductive eQ (n:Nat) (vs:List V) (H:Hp) (Q:VK) (_E:XK):Prop
 | mk (cell:Int) (oa:Addr) (oas:List Addr) (outs:List (Str×Int)) (S C deep:Int) (zz0:vs=[.int cell,.ref oa,.int S,.int C,.int deep]) (zz1:H oa=some (.tup (oas.map V.ref))) (zz2:KsAt H outs oas) (zz3:aT outs) (zz4:0<=deep) (zz5:deep<(n:Int)) (zz6:∀ (t:Th) (r:Addr) (H':Hp),L2.Same H H'->At H' t r->t.FitS outs S C->t.tall<=deep.toNat+1->Q (.ref r) H'):eQ n vs H Q _E
def jQ (n:Nat):Sp:=eQ n
theorem du:∀ n:Nat,FnOk P w K mg base CX0 (n+2) T.g__law_pattern.f T.g__law_pattern.d ["cell","outs","states","kids","deep"] (jQ n)
 | 0=>⟨fun _ _ _ _ h=>by obtain ⟨_,_,_,_,_,_,_,_,_,_,_,h1,h2,_⟩:=h;omega,fun _ _ _ _ _ _ _ _ _ _ _ _ _ h=>by obtain ⟨_,_,_,_,_,_,_,_,_,_,_,h1,h2,_⟩:=h;omega⟩
 | n+1=>by
   have ih:=du n;refine T.g__law_pattern.F.ok bw (fun vs H Q E h=>?_) (fun cdv A outer s H vs Q E hr h=>?_)
   · obtain ⟨cell,oa,oas,outs,S,C,deep,rfl,_⟩:=h;rfl
   obtain ⟨cell,oa,oas,outs,S,C,deep,rfl,eo,hks,g,d0,d1,q⟩:=h
   refine ⟨_,(ae (ar (i:=5) bw.nd rfl (Or.inl rfl) (pcF T.g__law_turn (cj T) hr (aa (pv 0) (aa ai ac))))
    (ae (br (PW.pt (kY (aN fI (pv 2) ai (aJ _)) (kY (aN fI (pv 3) ai (aJ _)) (mR (aN oZ (av bD (pv 5) ai) ai (aJ _)))))) (ag (au (aU (aa eC (aa (av bD (av bW (pv 5) ai) (pv 2)) (aa (av bD (av bW (pv 5) ai) (pv 3)) ac)))))) aR)
    (ae (ar (i:=6) bw.nd rfl (Or.inl rfl) (aK aL (pv 1) (av bD (av bW (pv 5) ai) (ax ay rfl T.n_len PySem.boot_len (aa (pv 1) ac))) (fun _ _=>rfl)))
    (ae (br (PW.pt (kY (aN fZ (pv 4) ai (aJ _)) (mR (aN fI (aK aL (pv 6) ai (fun _ _=>rfl)) ai (aJ _))))) (ag (ar (i:=6) bw.nd rfl (Or.inl rfl) (pcF T.g__law_leaf (mD T) hr (aa (pv 1) (aa (av bW (pv 5) ai) ac))))) aR)
    (ae (ar (i:=7) bw.nd rfl (Or.inl rfl) (bt ac))
    (ae (bP PassesOwn.never rfl (cg rfl T.n_range (aa (aK aL (pv 6) ai (fun _ _=>rfl)) ac)) (am (i:=8) bw.nd rfl (Or.inl rfl)) (ag (aS (ce PySem.F.plainAttrs_list PySem.F.slot_list_append PySem.F.type_list_append aQ (pv 7) (aa (dw (ih) (hr.mono (Nat.le_refl _)) rfl T.g__law_pattern.m T.g__law_pattern.F.kp T.g__law_pattern.b .nil dM (aa (pcF T.g__law_turn (cj T) hr (aa (pv 5) (aa (av bO (pv 8) ai) ac))) (aa (pv 1) (aa (pv 2) (aa (pv 3) (aa (av mY (pv 4) ai) ac)))))) ac)))))
    (ag (au (av jZ (aU (aa (aK aL (pv 6) ai (fun _ _=>rfl)) ac)) (aG aB rfl T.n_tuple PyProof.Rows.boot_tuple (aa (pv 7) ac))))))))))),?_⟩
   try dsimp only [cxK,cxKn]
   have hkl:outs.length=oas.length:=Paired.length hks;have hk8:=g.le;have hk1:=g.ne;refine ⟨_,rfl,_,_,rfl,by decide,by decide,fun rest r0 r1=>?_⟩;dsimp only [aH];refine bJ (fun σ' H'=>An2 (H=H') (σ'=[some (.int cell),some (.ref oa),some (.int S),some (.int C),some (.int deep),some (.int rest),none,none,none])) (fun kk hk=>?_) ?_
   · refine d8 (fun b H'=>An2 (H=H') ((b=true->0<S/\0<C))) (fun k2 hk2=>?_) (fun H' hb=>?_) (fun H' hb=>?_)
     · refine ⟨_,rfl,_,_,rfl,rfl,_,rfl,?_⟩;refine cq (fun c1=>?_) (fun c1=>hk2 _ _ ⟨rfl,fun z=>by cases z⟩);refine ⟨_,rfl,_,_,rfl,rfl,_,rfl,?_⟩;refine cq (fun c2=>?_) (fun c2=>hk2 _ _ ⟨rfl,fun z=>by cases z⟩);exact ⟨_,rfl,_,_,rfl,rfl,(by show (0:Int)<5;decide),_,_,rfl,rfl,_,rfl,hk2 _ _ ⟨rfl,fun _=>⟨of_decide_eq_true c1,of_decide_eq_true c2⟩⟩⟩
     · obtain ⟨rfl,hb⟩:=hb;obtain ⟨hS,hC⟩:=hb rfl;refine ⟨_,rfl,_,_,rfl,rfl,⟨by decide,by decide⟩,_,rfl,_,_,rfl,rfl,hS,_,rfl,_,_,rfl,rfl,⟨by decide,by decide⟩,_,rfl,_,_,rfl,rfl,hC,al (by show 3<=1000000;decide),fun ca hca=>?_⟩;refine q (.call (rest / 5%S) (rest / 97%C)) ca _ (af hca _) ?_ ?_ ?_
       · rw [At];exact ad
       · rw [Th.FitS];exact ⟨Int.emod_nonneg _ (by omega),Int.emod_lt_of_pos _ hS,Int.emod_nonneg _ (by omega),Int.emod_lt_of_pos _ hC⟩
       · rw [Th.tall];omega
     · obtain ⟨rfl,_⟩:=hb;exact hk _ _ ⟨rfl,rfl⟩
   rintro σ' H' ⟨rfl,rfl⟩;have m0:=Int.emod_nonneg (rest / 5) (show ((oas.map V.ref).length:Int)≠0 by rw [List.length_map];omega);have m1:=Int.emod_lt_of_pos (rest / 5) (show (0:Int)<((oas.map V.ref).length:Int) by rw [List.length_map];omega);refine hid fun ZZ kZ=>?_;obtain ⟨k0,hk0⟩:∃ k0,outs[(rest / 5%((oas.map V.ref).length:Int)).toNat]?=some k0:=⟨_,List.getElem?_eq_getElem (by rw [List.length_map] at m0 m1 ⊢;omega)⟩;obtain ⟨ka,hka,eka⟩:=P2.get hks hk0;refine kZ ?_;refine ⟨_,rfl,_,rfl,_,_,rfl,rfl,⟨by decide,by decide⟩,_,rfl,oa,_,rfl,.inr (SqT.of eo),_,_,rfl,rfl,(by show (0:Int)<((oas.map V.ref).length:Int);rw [List.length_map];omega),oa,_,_,.ref ka,rfl,rfl,SqT.of eo,at_nonneg m0 (by rw [List.getElem?_map,hka];rfl),?_⟩;dsimp only [aH];refine bJ (fun σ' H'=>Ex2 fun (k0:Str×Int) (ka:Addr)=>An5 (k0∈outs) (KAt H' k0 ka) ((deep=0->k0.2=0)) (L2.Same H H') (σ'=[some (.int cell),some (.ref oa),some (.int S),some (.int C),some (.int deep),some (.int rest),some (.ref ka),none,none])) (fun kk hk=>?_) ?_
   · refine d8 (fun b H'=>An2 (H=H') ((b=false->deep=0->k0.2=0))) (fun k2 hk2=>?_) (fun H' hb=>?_) (fun H' hb=>?_)
     · refine ⟨_,rfl,rfl,_,rfl,?_⟩;refine cq (fun c1=>?_) (fun c1=>hk2 _ _ ⟨rfl,fun _ z=>absurd (decide_eq_true (congrArg V.int z)) c1⟩);refine ⟨_,rfl,ka,_,1,_,rfl,rfl,SqT.of eka,at1,_,_,rfl,rfl,_,rfl,hk2 _ _ ⟨rfl,fun z _=>?_⟩⟩;have z':¬ 0<k0.2:=of_decide_eq_false z;have:=(g.num k0 (List.mem_of_getElem? hk0)).1;omega
     · obtain ⟨rfl,_⟩:=hb;refine ⟨_,rfl,_,rfl,_,_,rfl,rfl,⟨by decide,by decide⟩,oa,oas,outs,_,rfl,eo,hks,g,fun k1 ka1 H1 s1 hm1 hz1 e1=>?_⟩;exact hk _ _ ⟨k1,ka1,hm1,e1,fun _=>hz1,s1,rfl⟩
     · obtain ⟨rfl,hb⟩:=hb;exact hk _ _ ⟨k0,ka,List.mem_of_getElem? hk0,eka,hb rfl,.refl _,rfl⟩
   rintro σ' H1 ⟨k0,ka,hmem,eka,hz,s1,rfl⟩;have hnum:=g.num k0 hmem;refine ⟨al (by show 0<=1000000;decide),fun pl hpl=>?_⟩;have s2:L2.Same H1 (upd H1 pl (.lst [])):=af hpl _;have e2:(upd H1 pl (.lst [])) pl=some (.lst []):=ad;generalize (upd H1 pl (.lst []))=H2 at s2 e2 ⊢;have eka2:=s2 _ _ eka;refine ⟨_,rfl,ka,_,1,_,rfl,rfl,SqT.of eka2,at1,k0.2,rfl,by omega,by omega,?_⟩
   refine cN (n:=k0.2.toNat) (fun i σ H3=>Ex3 fun (kv:Option V) (bs:List Addr) (ts:List Th)=>An6 (σ=[some (.int cell),some (.ref oa),some (.int S),some (.int C),some (.int deep),some (.int rest),some (.ref ka),some (.ref pl),kv]) ((∀ b o,b≠pl->H2 b=some o->H3 b=some o)) (H3 pl=some (.lst (bs.map V.ref))) (Ats H3 ts bs) (ts.length=i) (∀ t∈ts,t.FitS outs S C/\t.tall<=(deep - 1).toNat+1))
    ⟨none,[],[],rfl,fun _ _ _ e=>e,e2,.nil,rfl,fun t ht=>by cases ht⟩ ?_ ?_
   · rintro i σ H3 hi ⟨kv,bs,ts,rfl,s3,e3,hts,htl,hall⟩;have hi3:i<k0.2.toNat:=hi;have sB:∀ b o,H b=some o->H3 b=some o:=fun b o e=>s3 b o (ao (s1 _ _ e) hpl) (s2 _ _ (s1 _ _ e))
     have hdeep:1<=deep:=by
      by_cases z:deep=0
      · have:=hz z;omega
      · omega
     refine ⟨_,rfl,.inl ⟨rfl,_,SqL.of e3⟩,_,rfl,_,rfl,_,_,rfl,rfl,_,_,rfl,by omega,by omega,fun r2 _ _=>?_⟩;refine ⟨_,rfl,_,rfl,_,rfl,_,rfl,_,_,rfl,rfl,r2,oa,oas,outs,S,C,deep - 1,rfl,sB _ _ eo,hks.mono (fun b ys e=>sB b _ e),g,by omega,by omega,fun t r H4 s4 hat hfit htall=>?_⟩;have e4:=s4 _ _ e3;have hbl:bs.length=ts.length:=hts.length;refine ⟨pl,_,_,rfl,rfl,e4,aD (by rw [List.length_map];omega),?_⟩;have kt:KT H4 (upd H4 pl (.lst (bs.map V.ref++[.ref r]))):=bc e4;refine ⟨_,bs++[r],ts++[t],rfl,fun b o hb e=>?_,?_,?_,?_,?_⟩
     · rw [ak hb];exact s4 _ _ (s3 b o hb e)
     · rw [ad,List.map_append];rfl
     · exact (hts.mono ((Same.kt s4).trans kt)).append (.cons (hat.mono kt) .nil)
     · rw [List.length_append,htl];rfl
     · intro u hu;rcases List.mem_append.mp hu with hu | hu
       · exact hall u hu
       · rw [List.mem_singleton.mp hu];exact ⟨hfit,htall⟩
   · rintro σ H3 ⟨kv,bs,ts,rfl,s3,e3,hts,htl,hall⟩;have sH:L2.Same H H3:=fun b o e=>s3 b o (ao (s1 _ _ e) hpl) (s2 _ _ (s1 _ _ e));have eka3:H3 ka=some (.tup [.str k0.1,.int k0.2]):=s3 ka _ (ao eka hpl) eka2;have hbl:bs.length=ts.length:=hts.length;refine ⟨_,rfl,ka,_,0,.str k0.1,rfl,rfl,SqT.of eka3,at0,al (by show 1<=1000000;decide),fun p1 hp1=>?_⟩;have s4:L2.Same H3 (upd H3 p1 (.tup [.str k0.1])):=af hp1 _;have e4:(upd H3 p1 (.tup [.str k0.1])) p1=some (.tup [.str k0.1]):=ad;generalize (upd H3 p1 (.tup [.str k0.1]))=H4 at s4 e4 ⊢;refine ⟨_,rfl,pl,_,rfl,.inl ⟨SqL.of (s4 _ _ e3),fun tp htp=>?_⟩⟩;have s5:L2.Same H4 (upd H4 tp (.tup (bs.map V.ref))):=af htp _;have e5:(upd H4 tp (.tup (bs.map V.ref))) tp=some (.tup (bs.map V.ref)):=ad;generalize (upd H4 tp (.tup (bs.map V.ref)))=H5 at s5 e5 ⊢;refine ux (s5 _ _ e4) e5 (by rw [List.length_map];show 1+bs.length<=1000000;omega) fun p H6 s6 e6=>?_;have hlow:=(g.low k0 hmem).1;refine q (.knot k0.1 ts) p H6 (sH.trans (s4.trans (s5.trans s6))) ?_ ?_ ?_
     · rw [At];exact ⟨sg hlow,bs,e6,hts.mono (Same.kt (s4.trans (s5.trans s6)))⟩
     · rw [Th.FitS];refine ⟨?_,FitSs.of fun t ht=>(hall t ht).1⟩
       have:(k0.1,(ts.length:Int))=k0:=by
        rw [htl];exact Prod.ext rfl (by show ((k0.2.toNat:Nat):Int)=k0.2;omega)
       rw [this];exact hmem
     · rw [Th.tall];by_cases z:deep=0
       · have hk2:=hz z;have:ts=[]:=List.length_eq_zero_iff.mp (by omega);subst this;rw [aI];omega
       · have:=mh (n:=(deep - 1).toNat+1) fun t ht=>(hall t ht).2;omega
inductive d3 (n:Nat) (vs:List V) (H:Hp) (Q:VK) (_E:XK):Prop
 | mk (l:Addr) (x:Int) (oa:Addr) (oas:List Addr) (outs:List (Str×Int)) (S C deep:Int) (zz0:vs=[.ref l,.ref oa,.int S,.int C,.int deep]) (zz1:H l=some (.lst [.int x])) (zz2:H oa=some (.tup (oas.map V.ref))) (zz3:KsAt H outs oas) (zz4:aT outs) (zz5:S<1000000) (zz6:C<1000000) (zz7:0<=deep) (zz8:deep<(n:Int)) (zz9:∀ (t:Th) (r:Addr) (x':Int) (H':Hp),SameB l H H'->H' l=some (.lst [.int x'])->At H' t r->t.FitS outs S C->t.tall<=deep.toNat+1->Q (.ref r) H'):d3 n vs H Q _E
def hX (n:Nat):Sp:=d3 n
set_option maxHeartbeats 2000000 in
theorem cI:∀ n:Nat,FnOk P w K mg base CX0 (n+2) T.g__law_by_digits.f T.g__law_by_digits.d ["left","outs","states","kids","deep"] (hX n)
 | 0=>⟨fun _ _ _ _ h=>by obtain ⟨_,_,_,_,_,_,_,_,_,_,_,_,_,_,_,h1,h2,_⟩:=h;omega,fun _ _ _ _ _ _ _ _ _ _ _ _ _ h=>by obtain ⟨_,_,_,_,_,_,_,_,_,_,_,_,_,_,_,h1,h2,_⟩:=h;omega⟩
 | n+1=>by
   have ih:=cI n;refine T.g__law_by_digits.F.ok bh (fun vs H Q E h=>?_) (fun cdv A outer s H vs Q E hr h=>?_)
   · obtain ⟨l,x,oa,oas,outs,S,C,deep,rfl,_⟩:=h;rfl
   obtain ⟨l,x,oa,oas,outs,S,C,deep,rfl,el,eo,hks,g,hSm,hCm,d0,d1,q⟩:=h
   refine ⟨_,(ae (br (PW.pt (kY (aN fI (pv 2) ai (aJ _)) (kY (aN fI (pv 3) ai (aJ _)) (mR (aN fZ (pcF T.g__law_digit (cQ T) hr (aa (pv 0) (aa ai ac))) ai (aJ _)))))) (ae (ar (i:=5) bh.nd rfl (Or.inl rfl) (pcF T.g__law_digit (cQ T) hr (aa (pv 0) (aa (pv 2) ac))))
    (ag (au (aU (aa eC (aa (pv 5) (aa (pcF T.g__law_digit (cQ T) hr (aa (pv 0) (aa (pv 3) ac))) ac))))))) aR)
    (ae (jX (i:=6) (N:=[Str.ofString "kind",Str.ofString "deep"]) (js:=[none,some 4]) (g:=(aH 0)) (tt:=(tOr (oG (tOp (rEq) (tOp (rK K) (b9 0) (tC (.int 1))) (tC (.int 0)))) (oG (tOp (rI0 fun i j=>.bl (decide (j<i))) (b9 1) (tC (.int 0)))))) (te:=(b9 0)) bh.nd rfl (Or.inl rfl) rfl (cJ rfl (by decide +kernel) (by decide +kernel) rfl rfl rfl) (dX (pv 1)) (fun _ _ _ _ _ _=>(am (i:=0) xg rfl (Or.inl rfl))) (bo rfl) (fun _ _ _ _ _ _=>na (PW.pt (n5 (aN fZ (aK aL (pv 0) ai (fun _ _=>rfl)) ai (aJ _)) (lr (aN fI (pv 1) ai (aJ _)))))) (fun _ _ _ _ _ _=>(pv 0)))
    (ae (ar (i:=7) bh.nd rfl (Or.inl rfl) (aK cT (pv 6) (pcF T.g__law_digit (cQ T) hr (aa (pv 0) (aa (ax ay rfl T.n_len PySem.boot_len (aa (pv 6) ac)) ac))) (fun _ _=>rfl)))
    (ae (ar (i:=8) bh.nd rfl (Or.inl rfl) (bt ac))
    (ae (bP PassesOwn.never rfl (cg rfl T.n_range (aa (aK aL (pv 7) ai (fun _ _=>rfl)) ac)) (am (i:=9) bh.nd rfl (Or.inl rfl)) (ag (aS (ce PySem.F.plainAttrs_list PySem.F.slot_list_append PySem.F.type_list_append aQ (pv 8) (aa (dw (ih) (hr.mono (Nat.le_refl _)) rfl T.g__law_by_digits.m T.g__law_by_digits.F.kp T.g__law_by_digits.b .nil dM (aa (pv 0) (aa (pv 1) (aa (pv 2) (aa (pv 3) (aa (av mY (pv 4) ai) ac)))))) ac)))))
    (ag (au (av jZ (aU (aa (aK aL (pv 7) ai (fun _ _=>rfl)) ac)) (aG aB rfl T.n_tuple PyProof.Rows.boot_tuple (aa (pv 8) ac)))))))))),?_⟩
   try dsimp only [cxK,cxKn]
   have hkl:outs.length=oas.length:=Paired.length hks;have hk8:=g.le;have hk1:=g.ne;refine bJ (fun σ' H'=>(∃ x',SameB l H H'/\H' l=some (.lst [.int x']))/\σ'=[some (.ref l),some (.ref oa),some (.int S),some (.int C),some (.int deep),none,none,none,none,none]) (fun kk hk=>?_) ?_
   · refine d8 (fun b H'=>(∃ x',SameB l H H'/\H' l=some (.lst [.int x']))/\(b=true->0<S/\0<C)) (fun k2 hk2=>?_) (fun H' hb=>?_) (fun H' hb=>?_)
     · refine ⟨_,rfl,_,_,rfl,rfl,_,rfl,?_⟩;refine cq (fun c1=>?_) (fun c1=>hk2 _ _ ⟨⟨x,.refl,el⟩,fun z=>by cases z⟩);refine ⟨_,rfl,_,_,rfl,rfl,_,rfl,?_⟩;refine cq (fun c2=>?_) (fun c2=>hk2 _ _ ⟨⟨x,.refl,el⟩,fun z=>by cases z⟩);exact ⟨_,rfl,l,x,_,rfl,el,by decide,by decide,fun d x' _ _=>⟨rfl,_,rfl,hk2 _ _ ⟨⟨x',.set,ad⟩,fun _=>⟨of_decide_eq_true c1,of_decide_eq_true c2⟩⟩⟩⟩
     · refine hid fun ZZ kZ=>?_;obtain ⟨⟨x1,s1,e1⟩,hb⟩:=hb;obtain ⟨hS,hC⟩:=hb rfl;refine kZ ?_;refine ⟨_,rfl,_,rfl,l,x1,_,rfl,e1,hS,hSm,fun d x2 d0' d1'=>?_⟩;refine ⟨_,rfl,_,rfl,_,rfl,l,x2,_,rfl,ad,hC,hCm,fun c x3 c0' c1'=>?_⟩;refine ⟨al (by show 3<=1000000;decide),fun ca hca=>?_⟩;have hcl:l≠ca:=fun z=>by rw [<- z,ad] at hca;cases hca
       refine q (.call d c) ca x3 _ (s1.trans (SameB.set.trans (SameB.set.trans (.of (af hca _))))) (by rw [ak hcl];exact ad) ?_ ?_ ?_
       · rw [At];exact ad
       · rw [Th.FitS];exact ⟨d0',d1',c0',c1'⟩
       · rw [Th.tall];omega
     · obtain ⟨h1,_⟩:=hb;exact hk _ _ ⟨h1,rfl⟩
   rintro σ' H1 ⟨⟨x1,s1,e1⟩,rfl⟩;have eo1:H1 oa=some (.tup (oas.map V.ref)):=s1 _ _ (cK eo el (by intro z;cases z)) eo;have kt1:KT H H1:=s1.kt el;have hks1:=hks.mono kt1;obtain ⟨kz,hkz,hkz0⟩:=g.zero;refine ⟨_,rfl,oa,rfl,⟨_,SqT.of eo1⟩,kC (K:=K) (fun k=>decide (V.int k.2=V.int 0) || decide (0<deep)) eo1 hks1 (by omega) ⟨kz,hkz,by rw [hkz0];rfl⟩ (fun z ka H2 R sm hz r=>?_) (fun ka H2 R r=>⟨_,rfl,r⟩) (fun D bs H2 hD e' hb1 hb8 hbs=>?_)⟩
   · refine ⟨_,rfl,ka,_,1,_,rfl,rfl,SqT.of hz,at1,rfl,_,rfl,?_⟩;refine cq (fun c=>?_) (fun c=>?_)
     · rw [c] at r;exact r
     · rw [Bool.eq_false_iff.mpr c] at r;exact ⟨_,rfl,_,_,rfl,rfl,_,rfl,r⟩
   have s2:L2.Same H1 H2:=by rw [e'];exact af hD _
   have eD:H2 D=some (.lst (bs.map fun z=>V.ref z.2)):=by rw [e'];exact ad
   have hDl:D≠l:=fun z=>by rw [z,e1] at hD;cases hD
   have el2:=s2 _ _ e1;clear e';have hlm:0<((bs.map fun z=>V.ref z.2).length:Int):=by rw [List.length_map];omega
   refine ⟨_,rfl,_,rfl,_,rfl,D,_,rfl,.inl (SqL.of eD),l,x1,_,rfl,el2,hlm,(by rw [List.length_map];omega),fun d x2 d0' d1'=>?_⟩;have s3:SameB l H2 (upd H2 l (.lst [.int x2])):=.set;have el3:(upd H2 l (.lst [.int x2])) l=some (.lst [.int x2]):=ad;generalize (upd H2 l (.lst [.int x2]))=H3 at s3 el3 ⊢;refine hid fun ZZ kZ=>?_;obtain ⟨z,hz⟩:∃ z,bs[d.toNat]?=some z:=⟨_,List.getElem?_eq_getElem (by rw [List.length_map] at d1';omega)⟩;obtain ⟨hmem,gp,eka⟩:=hbs z (List.mem_of_getElem? hz);obtain ⟨k0,ka⟩:=z;refine kZ ?_;dsimp only at hmem gp eka hz;have kt3:KT H2 H3:=s3.kt el2;have eka3:H3 ka=some (.tup [.str k0.1,.int k0.2]):=kt3 _ _ (s2 _ _ eka);have s13:SameB l H H3:=s1.trans ((SameB.of s2).trans s3);have eo3:H3 oa=some (.tup (oas.map V.ref)):=kt3 _ _ (s2 _ _ eo1);have hks3:=hks1.mono ((Same.kt s2).trans kt3)
   have hz0:deep=0->k0.2=0:=fun z=>by
    rw [z] at gp;have:decide (V.int k0.2=V.int 0)=true:=by simpa using gp
    exact V.int.inj (of_decide_eq_true this)
   refine ⟨D,_,d,.ref ka,rfl,rfl,SqL.of (s3 _ _ hDl eD),at_nonneg d0' (by rw [List.getElem?_map,hz];rfl),?_⟩;have hnum:=g.num k0 hmem;refine ⟨al (by show 0<=1000000;decide),fun pl hpl=>?_⟩;have hpl':pl≠l:=fun z=>by rw [z,el3] at hpl;cases hpl
   have s4:L2.Same H3 (upd H3 pl (.lst [])):=af hpl _;have e4:(upd H3 pl (.lst [])) pl=some (.lst []):=ad;generalize (upd H3 pl (.lst []))=H4 at s4 e4 ⊢;have eka4:=s4 _ _ eka3;have el4:=s4 _ _ el3;have eo4:=s4 _ _ eo3;refine ⟨_,rfl,ka,_,1,_,rfl,rfl,SqT.of eka4,at1,k0.2,rfl,by omega,by omega,?_⟩
   refine cN (n:=k0.2.toNat) (fun i σ H5=>Ex4 fun (kv:Option V) (bs:List Addr) (ts:List Th) (x':Int)=>An7 (σ=[some (.ref l),some (.ref oa),some (.int S),some (.int C),some (.int deep),none,some (.ref D),some (.ref ka),some (.ref pl),kv]) ((∀ b o,b≠pl->b≠l->H4 b=some o->H5 b=some o)) (H5 l=some (.lst [.int x'])) (H5 pl=some (.lst (bs.map V.ref))) (Ats H5 ts bs) (ts.length=i) (∀ t∈ts,t.FitS outs S C/\t.tall<=(deep - 1).toNat+1))
    ⟨none,[],[],x2,rfl,fun _ _ _ _ e=>e,el4,e4,.nil,rfl,fun t ht=>by cases ht⟩ ?_ ?_
   · rintro i σ H5 hi ⟨kv,bs',ts,x',rfl,s5,el5,e5,hts,htl,hall⟩;have hi3:i<k0.2.toNat:=hi;have kt5:KT H4 H5:=fun b ys e=>s5 b _ (cK e e4 (by intro z;cases z)) (cK e el4 (by intro z;cases z)) e
     have hdeep:1<=deep:=by
      by_cases z:deep=0
      · have:=hz0 z;omega
      · omega
     refine ⟨_,rfl,.inl ⟨rfl,_,SqL.of e5⟩,_,rfl,_,rfl,_,rfl,_,rfl,_,rfl,_,_,rfl,rfl,l,x',oa,oas,outs,S,C,deep - 1,rfl,el5,kt5 _ _ eo4,hks3.mono ((Same.kt s4).trans kt5),g,hSm,hCm,by omega,by omega,fun t r x6 H6 s6 el6 hat hfit htall=>?_⟩;have e6:=s6 _ _ hpl' e5;have kt6:KT H5 H6:=s6.kt el5;have hbl:bs'.length=ts.length:=hts.length;refine ⟨pl,_,_,rfl,rfl,e6,aD (by rw [List.length_map];omega),?_⟩;have kt:KT H6 (upd H6 pl (.lst (bs'.map V.ref++[.ref r]))):=bc e6;refine ⟨_,bs'++[r],ts++[t],x6,rfl,fun b o hb hb2 e=>?_,?_,?_,?_,?_,?_⟩
     · rw [ak hb];exact s6 _ _ hb2 (s5 b o hb hb2 e)
     · rw [ak hpl'.symm];exact el6
     · rw [ad,List.map_append];rfl
     · exact (hts.mono (kt6.trans kt)).append (.cons (hat.mono kt) .nil)
     · rw [List.length_append,htl];rfl
     · intro u hu;rcases List.mem_append.mp hu with hu | hu
       · exact hall u hu
       · rw [List.mem_singleton.mp hu];exact ⟨hfit,htall⟩
   · rintro σ H5 ⟨kv,bs',ts,x',rfl,s5,el5,e5,hts,htl,hall⟩;have hpH:H pl=none:=s13.free el3 hpl;have sH:SameB l H H5:=fun b o hb e=>s5 b o (ao e hpH) hb (s4 _ _ (s13 b o hb e));have kt5:KT H4 H5:=fun b ys e=>s5 b _ (cK e e4 (by intro z;cases z)) (cK e el4 (by intro z;cases z)) e;have eka5:H5 ka=some (.tup [.str k0.1,.int k0.2]):=kt5 _ _ eka4;have hbl:bs'.length=ts.length:=hts.length;refine ⟨_,rfl,ka,_,0,.str k0.1,rfl,rfl,SqT.of eka5,at0,al (by show 1<=1000000;decide),fun p1 hp1=>?_⟩;have s6:L2.Same H5 (upd H5 p1 (.tup [.str k0.1])):=af hp1 _;have e6:(upd H5 p1 (.tup [.str k0.1])) p1=some (.tup [.str k0.1]):=ad;generalize (upd H5 p1 (.tup [.str k0.1]))=H6 at s6 e6 ⊢;refine ⟨_,rfl,pl,_,rfl,.inl ⟨SqL.of (s6 _ _ e5),fun tp htp=>?_⟩⟩;have s7:L2.Same H6 (upd H6 tp (.tup (bs'.map V.ref))):=af htp _;have e7:(upd H6 tp (.tup (bs'.map V.ref))) tp=some (.tup (bs'.map V.ref)):=ad;generalize (upd H6 tp (.tup (bs'.map V.ref)))=H7 at s7 e7 ⊢;refine ux (s7 _ _ e6) e7 (by rw [List.length_map];show 1+bs'.length<=1000000;omega) fun p H8 s8 e8=>?_;have s58:=s6.trans (s7.trans s8);have hlow:=(g.low k0 hmem).1;refine q (.knot k0.1 ts) p x' H8 (sH.trans (.of s58)) (s58 _ _ el5) ?_ ?_ ?_
     · rw [At];exact ⟨sg hlow,bs',e8,hts.mono (Same.kt s58)⟩
     · rw [Th.FitS];refine ⟨?_,FitSs.of fun t ht=>(hall t ht).1⟩
       have:(k0.1,(ts.length:Int))=k0:=by
        rw [htl];exact Prod.ext rfl (by show ((k0.2.toNat:Nat):Int)=k0.2;omega)
       rw [this];exact hmem
     · rw [Th.tall];by_cases z:deep=0
       · have hk2:=hz0 z;have:ts=[]:=List.length_eq_zero_iff.mp (by omega);subst this;rw [aI];omega
       · have:=mh (n:=(deep - 1).toNat+1) fun t ht=>(hall t ht).2;omega
inductive cA (vs:List V) (H:Hp) (Q:VK) (_E:XK):Prop
 | mk (cell:Int) (ia:Addr) (ias:List Addr) (ins:List (Str×Int)) (oa:Addr) (oas:List Addr) (outs:List (Str×Int)) (S deep:Int) (zz0:vs=[.int cell,.ref ia,.ref oa,.int S,.int deep]) (zz1:H ia=some (.tup (ias.map V.ref))) (zz2:KsAt H ins ias) (zz3:aT ins) (zz4:H oa=some (.tup (oas.map V.ref))) (zz5:KsAt H outs oas) (zz6:aT outs) (zz7:0<=S) (zz8:S<=1000) (zz9:0<=deep) (zz10:deep<5) (zz11:∀ (r ha ra:Addr) (ras:List Addr) (head:Th) (rows:List (List Th)) (H':Hp),L2.Same H H'->BookAt H' ins outs head rows r ia oa ha ra ias oas ras->BookOk ins outs S deep.toNat head rows->Q (.ref r) H'):cA  vs H Q _E
def eW:Sp:=cA
set_option maxHeartbeats 4000000 in
theorem ff:FnOk P w K mg base CX0 8 T.g__law_book_by_digits.f T.g__law_book_by_digits.d ["cell","ins","outs","states","deep"] eW:=by
 refine T.g__law_book_by_digits.F.ok aM (fun vs H Q E h=>?_) (fun cdv A outer s H vs Q E hr h=>?_)
 · obtain ⟨cell,ia,ias,ins,oa,oas,outs,S,deep,rfl,_⟩:=h;rfl
 obtain ⟨cell,ia,ias,ins,oa,oas,outs,S,deep,rfl,ei,hki,gi,eo,hko,go,hS0,hS1,d0,d1,q⟩:=h
 refine ⟨_,(ae (ar (i:=5) aM.nd rfl (Or.inl rfl) (bt (aa (pv 0) ac)))
  (ae (ar (i:=6) aM.nd rfl (Or.inl rfl) (bt ac))
  (ae (bP PassesOwn.never rfl (cg rfl T.n_range (aa (pv 3) ac)) (am (i:=7) aM.nd rfl (Or.inl rfl)) (ae (ar (i:=8) aM.nd rfl (Or.inl rfl) (bt ac))
  (ae (bP PassesOwn.never rfl (cg rfl T.n_range (aa (ax ay rfl T.n_len PySem.boot_len (aa (pv 1) ac)) ac)) (am (i:=9) aM.nd rfl (Or.inl rfl)) (ag (aS (ce PySem.F.plainAttrs_list PySem.F.slot_list_append PySem.F.type_list_append aQ (pv 8) (aa (pcF T.g__law_by_digits (cI T 5) hr (aa (pv 5) (aa (pv 2) (aa (pv 3) (aa (aK aL (aK aL (pv 1) (pv 9) (fun _ _=>rfl)) ai (fun _ _=>rfl)) (aa (pv 4) ac)))))) ac)))))
  (ag (aS (ce PySem.F.plainAttrs_list PySem.F.slot_list_append PySem.F.type_list_append aQ (pv 6) (aa (aG aB rfl T.n_tuple PyProof.Rows.boot_tuple (aa (pv 8) ac)) ac)))))))
  (ag (au (aU (aa (pv 1) (aa (pv 2) (aa (pcF T.g__law_by_digits (cI T 5) hr (aa (pv 5) (aa (pv 2) (aa (pv 3) (aa ai (aa ai ac)))))) (aa (aG aB rfl T.n_tuple PyProof.Rows.boot_tuple (aa (pv 6) ac)) ac)))))))))),?_⟩
 try dsimp only [cxK,cxKn]
 have hil:ins.length=ias.length:=Paired.length hki;have hi8:=gi.le;have hrl:((ias.map V.ref).length:Int)=(ins.length:Int):=by rw [List.length_map,hil]
 refine ⟨_,rfl,al (by show 1<=1000000;decide),fun lf hlf=>?_⟩;refine ⟨al (by show 0<=1000000;decide),fun rl hrl0=>?_⟩;have hrlf:rl≠lf:=fun z=>by rw [z,ad] at hrl0;cases hrl0
 have hrlH:H rl=none:=(af hlf _).free hrl0;have sm1:L2.Same H (upd (upd H lf (.lst [.int cell])) rl (.lst [])):=(af hlf _).trans (af hrl0 _);have el1:(upd (upd H lf (.lst [.int cell])) rl (.lst [])) lf=some (.lst [.int cell]):=by rw [ak hrlf.symm,ad]
 have er1:(upd (upd H lf (.lst [.int cell])) rl (.lst [])) rl=some (.lst []):=ad;generalize (upd (upd H lf (.lst [.int cell])) rl (.lst []))=H1 at sm1 el1 er1 ⊢;refine ⟨_,rfl,S,rfl,by omega,by omega,?_⟩
 refine cN (n:=S.toNat) (fun i σ H3=>Ex6 fun (sv rv kv:Option V) (ras:List Addr) (rows:List (List Th)) (x:Int)=>An7 (σ=[some (.int cell),some (.ref ia),some (.ref oa),some (.int S),some (.int deep),some (.ref lf),some (.ref rl),sv,rv,kv]) (L2.Same H H3) (H3 lf=some (.lst [.int x])) (H3 rl=some (.lst (ras.map V.ref))) (Paired (RowAt H3) rows ras) (rows.length=i) (∀ row∈rows,t9 ins outs S deep.toNat row))
  ⟨none,none,none,[],[],cell,rfl,sm1,el1,er1,.nil,rfl,fun t ht=>by cases ht⟩ ?_ ?_
 · rintro i σ H3 hi ⟨sv,rv,kv,ras,rows,x,rfl,s3,el3,er3,hrows,hrn,hall⟩;have hi3:i<S.toNat:=hi;have hrasl:rows.length=ras.length:=Paired.length hrows;refine ⟨al (by show 0<=1000000;decide),fun rw hrw=>?_⟩;have hrwH:H rw=none:=s3.free hrw;have hrwr:rw≠rl:=fun z=>by rw [z,er3] at hrw;cases hrw
   have hrwl:rw≠lf:=fun z=>by rw [z,el3] at hrw;cases hrw
   have s4:L2.Same H3 (upd H3 rw (.lst [])):=af hrw _;have ew4:(upd H3 rw (.lst [])) rw=some (.lst []):=ad;generalize (upd H3 rw (.lst []))=H4 at s4 ew4 ⊢;refine ⟨_,rfl,ia,_,rfl,.inr (SqT.of (s4 _ _ (s3 _ _ ei))),_,rfl,by omega,by omega,?_⟩
   refine cN (n:=((ias.map V.ref).length:Int).toNat) (fun j σ H5=>Ex4 fun (kv:Option V) (bs:List Addr) (ts:List Th) (x:Int)=>An9 (σ=[some (.int cell),some (.ref ia),some (.ref oa),some (.int S),some (.int deep),some (.ref lf),some (.ref rl),some (.int (0+(i:Int))),some (.ref rw),kv]) (L2.Same H H5) (H5 lf=some (.lst [.int x])) (H5 rl=some (.lst (ras.map V.ref))) (KT H4 H5) (H5 rw=some (.lst (bs.map V.ref))) (Ats H5 ts bs) (ts.length=j) (∀ (j:Nat) (t:Th) (k:Str×Int),ts[j]?=some t->ins[j]?=some k->t.FitS outs S k.2/\t.tall<=deep.toNat+1))
    ⟨kv,[],[],x,rfl,s3.trans s4,s4 _ _ el3,s4 _ _ er3,fun _ _ e=>e,ew4,.nil,rfl,fun j t k h=>by simp at h⟩ ?_ ?_
   · rintro j σ H5 hj ⟨kv,bs,ts,x5,rfl,s5,el5,er5,kt5,ew5,hts,htl,hfits⟩
     have hj3:j<ins.length:=by
      have:j<((ias.map V.ref).length:Int).toNat:=hj;omega
     refine hid fun ZZ kZ=>?_;obtain ⟨k0,hk0⟩:∃ k0,ins[j]?=some k0:=⟨_,List.getElem?_eq_getElem hj3⟩;obtain ⟨ka,hka,eka⟩:=P2.get hki hk0;refine kZ ?_;have hnum:=gi.num k0 (List.mem_of_getElem? hk0);have hat:atI (ias.map V.ref) (0+(j:Int))=some (.ref ka):=at_nonneg (by omega) (by rw [show (0+(j:Int)).toNat=j by omega,List.getElem?_map,hka];rfl);refine ⟨_,rfl,.inl ⟨rfl,_,SqL.of ew5⟩,_,rfl,_,rfl,_,rfl,_,rfl,_,rfl,ia,_,_,.ref ka,rfl,rfl,SqT.of (s5 _ _ ei),hat,ka,_,1,_,rfl,rfl,SqT.of (s5 _ _ eka),at1,_,rfl,lf,x5,oa,oas,outs,S,k0.2,deep,rfl,el5,s5 _ _ eo,hko.mono (Same.kt s5),go,by omega,by omega,d0,by omega,fun t r x6 H6 s6 el6 hat hfit htall=>?_⟩;have ew6:=s6 _ _ hrwl ew5;have er6:=s6 _ _ hrlf er5;have kt6:KT H5 H6:=s6.kt el5;have sH6:L2.Same H H6:=fun b o e=>s6 b o (ao e hlf) (s5 b o e);have hbl:bs.length=ts.length:=hts.length;refine ⟨rw,_,_,rfl,rfl,ew6,aD (by rw [List.length_map];omega),?_⟩;have kt:KT H6 (upd H6 rw (.lst (bs.map V.ref++[.ref r]))):=bc ew6;refine ⟨_,bs++[r],ts++[t],x6,rfl,aF sH6 hrwH,by rw [ak hrwl.symm];exact el6,by rw [ak hrwr.symm];exact er6,kt5.trans (kt6.trans kt),?_,?_,?_,?_⟩
     · rw [ad,List.map_append];rfl
     · exact (hts.mono (kt6.trans kt)).append (.cons (hat.mono kt) .nil)
     · rw [List.length_append,htl];rfl
     · intro j' t' k' ht' hk';by_cases hji:j'<ts.length
       · rw [List.getElem?_append_left hji] at ht';exact hfits j' t' k' ht' hk'
       · rw [List.getElem?_append_right (by omega)] at ht'
         have hj0:j' - ts.length=0:=by
          have:=(List.getElem?_eq_some_iff.mp ht').1;simp at this;omega
         rw [hj0] at ht';cases ht';have:j'=j:=by omega
         subst this;rw [hk0] at hk';cases hk';exact ⟨hfit,htall⟩
   · rintro σ H5 ⟨kv,bs,ts,x5,rfl,s5,el5,er5,kt5,ew5,hts,htl,hfits⟩;refine ⟨_,rfl,.inl ⟨rfl,_,SqL.of er5⟩,_,rfl,rw,_,rfl,.inl ⟨SqL.of ew5,fun tp htp=>?_⟩⟩;have s6:L2.Same H5 (upd H5 tp (.tup (bs.map V.ref))):=af htp _;have e6:(upd H5 tp (.tup (bs.map V.ref))) tp=some (.tup (bs.map V.ref)):=ad;generalize (upd H5 tp (.tup (bs.map V.ref)))=H6 at s6 e6 ⊢;have er6:=s6 _ _ er5;refine ⟨rl,_,_,rfl,rfl,er6,aD (by rw [List.length_map];omega),?_⟩;have kt:KT H6 (upd H6 rl (.lst (ras.map V.ref++[.ref tp]))):=bc er6;have ktA:KT H3 (upd H6 rl (.lst (ras.map V.ref++[.ref tp]))):=(Same.kt s4).trans (kt5.trans ((Same.kt s6).trans kt));refine ⟨_,_,_,ras++[tp],rows++[ts],x5,rfl,aF (s5.trans s6) hrlH,by rw [ak hrlf.symm];exact s6 _ _ el5,?_,?_,?_,?_⟩
     · rw [ad,List.map_append];rfl
     · exact P2.append (P2.mp (fun _ _ e=>RowAt.mono ktA e) hrows) (.cons ⟨bs,kt _ _ e6,hts.mono ((Same.kt s6).trans kt)⟩ .nil)
     · rw [List.length_append,hrn];rfl
     · intro row hrow;rcases List.mem_append.mp hrow with hrow | hrow
       · exact hall row hrow
       · rw [List.mem_singleton.mp hrow];exact ⟨by rw [htl];omega,hfits⟩
 · rintro σ H3 ⟨sv,rv,kv,ras,rows,x,rfl,s3,el3,er3,hrows,hrn,hall⟩;have hrasl:rows.length=ras.length:=Paired.length hrows;refine ⟨_,rfl,_,rfl,_,rfl,_,rfl,_,rfl,lf,x,oa,oas,outs,S,1,1,rfl,el3,s3 _ _ eo,hko.mono (Same.kt s3),go,by omega,by decide,by decide,by decide,fun t ha x6 H6 s6 el6 hat hfit htall=>?_⟩;have er6:=s6 _ _ hrlf er3;have kt6:KT H3 H6:=s6.kt el3;have sH6:L2.Same H H6:=fun b o e=>s6 b o (ao e hlf) (s3 b o e);refine ⟨_,rfl,rl,_,rfl,.inl ⟨SqL.of er6,fun ra hra=>?_⟩⟩;have s7:L2.Same H6 (upd H6 ra (.tup (ras.map V.ref))):=af hra _;have e7:(upd H6 ra (.tup (ras.map V.ref))) ra=some (.tup (ras.map V.ref)):=ad;generalize (upd H6 ra (.tup (ras.map V.ref)))=H7 at s7 e7 ⊢;refine ⟨al (by show 4<=1000000;decide),fun r hr'=>?_⟩;have s8:L2.Same H7 (upd H7 r (.tup [.ref ia,.ref oa,.ref ha,.ref ra])):=af hr' _;have sA:=sH6.trans (s7.trans s8);refine q r ha ra ras t rows _ sA ⟨ad,sA _ _ ei,hki.mono (Same.kt sA),sA _ _ eo,hko.mono (Same.kt sA),hat.mono (Same.kt (s7.trans s8)),s8 _ _ e7,P2.mp (fun _ _ e=>RowAt.mono (kt6.trans (Same.kt (s7.trans s8))) e) hrows⟩ ⟨by rw [hrn];omega,hall,hfit,htall⟩
inductive gB (vs:List V) (H:Hp) (Q:VK) (_E:XK):Prop
 | mk (cell:Int) (ia:Addr) (ias:List Addr) (ins:List (Str×Int)) (oa:Addr) (oas:List Addr) (outs:List (Str×Int)) (S deep:Int) (zz0:vs=[.int cell,.ref ia,.ref oa,.int S,.int deep]) (zz1:H ia=some (.tup (ias.map V.ref))) (zz2:KsAt H ins ias) (zz3:aT ins) (zz4:H oa=some (.tup (oas.map V.ref))) (zz5:KsAt H outs oas) (zz6:aT outs) (zz7:0<=S) (zz8:S<=1000) (zz9:0<=deep) (zz10:deep<5) (zz11:∀ (r ha ra:Addr) (ras:List Addr) (head:Th) (rows:List (List Th)) (H':Hp),L2.Same H H'->BookAt H' ins outs head rows r ia oa ha ra ias oas ras->BookOk ins outs S deep.toNat head rows->Q (.ref r) H'):gB  vs H Q _E
def nz:Sp:=gB
set_option maxHeartbeats 4000000 in
theorem mK:FnOk P w K mg base CX0 9 T.g__law_book.f T.g__law_book.d ["cell","ins","outs","states","deep"] nz:=by
 refine T.g__law_book.F.ok cG (fun vs H Q E h=>?_) (fun cdv A outer s H vs Q E hr h=>?_)
 · obtain ⟨cell,ia,ias,ins,oa,oas,outs,S,deep,rfl,_⟩:=h;rfl
 obtain ⟨cell,ia,ias,ins,oa,oas,outs,S,deep,rfl,ei,hki,gi,eo,hko,go,hS0,hS1,d0,d1,q⟩:=h
 refine ⟨_,(ae (br (aN w6 (pv 0) ai (aJ _)) (ag (au (pcF T.g__law_book_by_digits (ff T) hr (aa (av tw (pv 0) ai) (aa (pv 1) (aa (pv 2) (aa (pv 3) (aa (pv 4) ac)))))))) aR)
  (ae (ar (i:=5) cG.nd rfl (Or.inl rfl) (bt ac))
  (ae (bP PassesOwn.never rfl (cg rfl T.n_range (aa (pv 3) ac)) (am (i:=6) cG.nd rfl (Or.inl rfl)) (ae (ar (i:=7) cG.nd rfl (Or.inl rfl) (bt ac))
  (ae (bP PassesOwn.never rfl (cg rfl T.n_range (aa (ax ay rfl T.n_len PySem.boot_len (aa (pv 1) ac)) ac)) (am (i:=8) cG.nd rfl (Or.inl rfl)) (ag (aS (ce PySem.F.plainAttrs_list PySem.F.slot_list_append PySem.F.type_list_append aQ (pv 7) (aa (pcF T.g__law_pattern (du T 5) hr (aa (pcF T.g__law_turn (cj T) hr (aa (pv 0) (aa (av bO (av bO (av eG ai (pv 6)) (pv 8)) ai) ac))) (aa (pv 2) (aa (pv 3) (aa (aK aL (aK aL (pv 1) (pv 8) (fun _ _=>rfl)) ai (fun _ _=>rfl)) (aa (pv 4) ac)))))) ac)))))
  (ag (aS (ce PySem.F.plainAttrs_list PySem.F.slot_list_append PySem.F.type_list_append aQ (pv 5) (aa (aG aB rfl T.n_tuple PyProof.Rows.boot_tuple (aa (pv 7) ac)) ac)))))))
  (ag (au (aU (aa (pv 1) (aa (pv 2) (aa (pcF T.g__law_pattern (du T 5) hr (aa (pcF T.g__law_turn (cj T) hr (aa (pv 0) (aa ai ac))) (aa (pv 2) (aa (pv 3) (aa ai (aa ai ac)))))) (aa (aG aB rfl T.n_tuple PyProof.Rows.boot_tuple (aa (pv 5) ac)) ac)))))))))),?_⟩
 try dsimp only [cxK,cxKn]
 have hil:ins.length=ias.length:=Paired.length hki;have hi8:=gi.le;have hrl:((ias.map V.ref).length:Int)=(ins.length:Int):=by rw [List.length_map,hil]
 refine bJ (fun σ' H'=>An2 (H=H') (σ'=[some (.int cell),some (.ref ia),some (.ref oa),some (.int S),some (.int deep),none,none,none,none])) (fun kk hk=>?_) ?_
 · refine ⟨_,rfl,_,_,rfl,rfl,_,rfl,?_⟩;refine cq (fun c1=>?_) (fun c1=>hk _ _ ⟨rfl,rfl⟩);exact ⟨_,rfl,_,_,rfl,rfl,⟨by decide,by decide⟩,_,rfl,_,rfl,_,rfl,_,rfl,_,ia,ias,ins,oa,oas,outs,S,deep,rfl,ei,hki,gi,eo,hko,go,hS0,hS1,d0,d1,fun r ha ra ras head rows H' s1 b1 b2=>q r ha ra ras head rows H' s1 b1 b2⟩
 rintro σ' H' ⟨rfl,rfl⟩;refine ⟨al (by show 0<=1000000;decide),fun rl hrlH=>?_⟩;have sm1:L2.Same H (upd H rl (.lst [])):=af hrlH _;have er1:(upd H rl (.lst [])) rl=some (.lst []):=ad;generalize (upd H rl (.lst []))=H1 at sm1 er1 ⊢;refine ⟨_,rfl,S,rfl,by omega,by omega,?_⟩
 refine cN (n:=S.toNat) (fun i σ H3=>Ex5 fun (sv rv kv:Option V) (ras:List Addr) (rows:List (List Th))=>An6 (σ=[some (.int cell),some (.ref ia),some (.ref oa),some (.int S),some (.int deep),some (.ref rl),sv,rv,kv]) (L2.Same H H3) (H3 rl=some (.lst (ras.map V.ref))) (Paired (RowAt H3) rows ras) (rows.length=i) (∀ row∈rows,t9 ins outs S deep.toNat row))
  ⟨none,none,none,[],[],rfl,sm1,er1,.nil,rfl,fun t ht=>by cases ht⟩ ?_ ?_
 · rintro i σ H3 hi ⟨sv,rv,kv,ras,rows,rfl,s3,er3,hrows,hrn,hall⟩;have hi3:i<S.toNat:=hi;have hrasl:rows.length=ras.length:=Paired.length hrows;refine ⟨al (by show 0<=1000000;decide),fun rw hrw=>?_⟩;have hrwH:H rw=none:=s3.free hrw;have hrwr:rw≠rl:=fun z=>by rw [z,er3] at hrw;cases hrw
   have s4:L2.Same H3 (upd H3 rw (.lst [])):=af hrw _;have ew4:(upd H3 rw (.lst [])) rw=some (.lst []):=ad;generalize (upd H3 rw (.lst []))=H4 at s4 ew4 ⊢;refine ⟨_,rfl,ia,_,rfl,.inr (SqT.of (s4 _ _ (s3 _ _ ei))),_,rfl,by omega,by omega,?_⟩
   refine cN (n:=((ias.map V.ref).length:Int).toNat) (fun j σ H5=>Ex3 fun (kv:Option V) (bs:List Addr) (ts:List Th)=>An8 (σ=[some (.int cell),some (.ref ia),some (.ref oa),some (.int S),some (.int deep),some (.ref rl),some (.int (0+(i:Int))),some (.ref rw),kv]) (L2.Same H H5) (H5 rl=some (.lst (ras.map V.ref))) (KT H4 H5) (H5 rw=some (.lst (bs.map V.ref))) (Ats H5 ts bs) (ts.length=j) (∀ (j:Nat) (t:Th) (k:Str×Int),ts[j]?=some t->ins[j]?=some k->t.FitS outs S k.2/\t.tall<=deep.toNat+1))
    ⟨kv,[],[],rfl,s3.trans s4,s4 _ _ er3,fun _ _ e=>e,ew4,.nil,rfl,fun j t k h=>by simp at h⟩ ?_ ?_
   · rintro j σ H5 hj ⟨kv,bs,ts,rfl,s5,er5,kt5,ew5,hts,htl,hfits⟩
     have hj3:j<ins.length:=by
      have:j<((ias.map V.ref).length:Int).toNat:=hj;omega
     refine hid fun ZZ kZ=>?_;obtain ⟨k0,hk0⟩:∃ k0,ins[j]?=some k0:=⟨_,List.getElem?_eq_getElem hj3⟩;obtain ⟨ka,hka,eka⟩:=P2.get hki hk0;refine kZ ?_;have hnum:=gi.num k0 (List.mem_of_getElem? hk0);have hat:atI (ias.map V.ref) (0+(j:Int))=some (.ref ka):=at_nonneg (by omega) (by rw [show (0+(j:Int)).toNat=j by omega,List.getElem?_map,hka];rfl);refine ⟨_,rfl,.inl ⟨rfl,_,SqL.of ew5⟩,_,rfl,_,rfl,_,_,rfl,rfl,.inl ⟨by decide,by decide⟩,_,rfl,_,_,rfl,rfl,_,_,rfl,rfl,_,_,rfl,by omega,by omega,fun r2 _ _=>?_⟩;refine ⟨_,rfl,_,rfl,_,rfl,_,rfl,ia,_,_,.ref ka,rfl,rfl,SqT.of (s5 _ _ ei),hat,ka,_,1,_,rfl,rfl,SqT.of (s5 _ _ eka),at1,_,rfl,r2,oa,oas,outs,S,k0.2,deep,rfl,s5 _ _ eo,hko.mono (Same.kt s5),go,d0,by omega,fun t r H6 s6 hat hfit htall=>?_⟩;have ew6:=s6 _ _ ew5;have er6:=s6 _ _ er5;have kt6:KT H5 H6:=Same.kt s6;have sH6:L2.Same H H6:=s5.trans s6;have hbl:bs.length=ts.length:=hts.length;refine ⟨rw,_,_,rfl,rfl,ew6,aD (by rw [List.length_map];omega),?_⟩;have kt:KT H6 (upd H6 rw (.lst (bs.map V.ref++[.ref r]))):=bc ew6;refine ⟨_,bs++[r],ts++[t],rfl,aF sH6 hrwH,by rw [ak hrwr.symm];exact er6,kt5.trans (kt6.trans kt),?_,?_,?_,?_⟩
     · rw [ad,List.map_append];rfl
     · exact (hts.mono (kt6.trans kt)).append (.cons (hat.mono kt) .nil)
     · rw [List.length_append,htl];rfl
     · intro j' t' k' ht' hk';by_cases hji:j'<ts.length
       · rw [List.getElem?_append_left hji] at ht';exact hfits j' t' k' ht' hk'
       · rw [List.getElem?_append_right (by omega)] at ht'
         have hj0:j' - ts.length=0:=by
          have:=(List.getElem?_eq_some_iff.mp ht').1;simp at this;omega
         rw [hj0] at ht';cases ht';have:j'=j:=by omega
         subst this;rw [hk0] at hk';cases hk';exact ⟨hfit,htall⟩
   · rintro σ H5 ⟨kv,bs,ts,rfl,s5,er5,kt5,ew5,hts,htl,hfits⟩;refine ⟨_,rfl,.inl ⟨rfl,_,SqL.of er5⟩,_,rfl,rw,_,rfl,.inl ⟨SqL.of ew5,fun tp htp=>?_⟩⟩;have s6:L2.Same H5 (upd H5 tp (.tup (bs.map V.ref))):=af htp _;have e6:(upd H5 tp (.tup (bs.map V.ref))) tp=some (.tup (bs.map V.ref)):=ad;generalize (upd H5 tp (.tup (bs.map V.ref)))=H6 at s6 e6 ⊢;have er6:=s6 _ _ er5;refine ⟨rl,_,_,rfl,rfl,er6,aD (by rw [List.length_map];omega),?_⟩;have kt:KT H6 (upd H6 rl (.lst (ras.map V.ref++[.ref tp]))):=bc er6;have ktA:KT H3 (upd H6 rl (.lst (ras.map V.ref++[.ref tp]))):=(Same.kt s4).trans (kt5.trans ((Same.kt s6).trans kt));refine ⟨_,_,_,ras++[tp],rows++[ts],rfl,aF (s5.trans s6) hrlH,?_,?_,?_,?_⟩
     · rw [ad,List.map_append];rfl
     · exact P2.append (P2.mp (fun _ _ e=>RowAt.mono ktA e) hrows) (.cons ⟨bs,kt _ _ e6,hts.mono ((Same.kt s6).trans kt)⟩ .nil)
     · rw [List.length_append,hrn];rfl
     · intro row hrow;rcases List.mem_append.mp hrow with hrow | hrow
       · exact hall row hrow
       · rw [List.mem_singleton.mp hrow];exact ⟨by rw [htl];omega,hfits⟩
 · rintro σ H3 ⟨sv,rv,kv,ras,rows,rfl,s3,er3,hrows,hrn,hall⟩;have hrasl:rows.length=ras.length:=Paired.length hrows;refine ⟨_,rfl,_,rfl,_,rfl,_,_,rfl,by decide,by decide,fun r2 _ _=>?_⟩;refine ⟨_,rfl,_,rfl,r2,oa,oas,outs,S,1,1,rfl,s3 _ _ eo,hko.mono (Same.kt s3),go,by decide,by decide,fun t ha H6 s6 hat hfit htall=>?_⟩;have er6:=s6 _ _ er3;have kt6:KT H3 H6:=Same.kt s6;have sH6:L2.Same H H6:=s3.trans s6;refine ⟨_,rfl,rl,_,rfl,.inl ⟨SqL.of er6,fun ra hra=>?_⟩⟩;have s7:L2.Same H6 (upd H6 ra (.tup (ras.map V.ref))):=af hra _;have e7:(upd H6 ra (.tup (ras.map V.ref))) ra=some (.tup (ras.map V.ref)):=ad;generalize (upd H6 ra (.tup (ras.map V.ref)))=H7 at s7 e7 ⊢;refine ⟨al (by show 4<=1000000;decide),fun r hr'=>?_⟩;have s8:L2.Same H7 (upd H7 r (.tup [.ref ia,.ref oa,.ref ha,.ref ra])):=af hr' _;have sA:=sH6.trans (s7.trans s8);refine q r ha ra ras t rows _ sA ⟨ad,sA _ _ ei,hki.mono (Same.kt sA),sA _ _ eo,hko.mono (Same.kt sA),hat.mono (Same.kt (s7.trans s8)),s8 _ _ e7,P2.mp (fun _ _ e=>RowAt.mono (kt6.trans (Same.kt (s7.trans s8))) e) hrows⟩ ⟨by rw [hrn];omega,hall,hfit,htall⟩
inductive gu (vs:List V) (H:Hp) (Q:VK) (_E:XK):Prop
 | mk (n:Str) (m:Int) (zz0:vs=[.str n,.int m]) (zz1:Low n) (zz2:0<=m) (zz3:m<=3) (zz4:∀ (r:Addr) (H':Hp),L2.Same H H'->At H' (.knot n (cx m)) r->Q (.ref r) H'):gu  vs H Q _E
def iG:Sp:=gu
inductive gC (vs:List V) (H:Hp) (Q:VK) (_E:XK):Prop
 | mk (ka:Addr) (kas:List Addr) (ks:List (Str×Int)) (zz0:vs=[.ref ka]) (zz1:H ka=some (.tup (kas.map V.ref))) (zz2:KsAt H ks kas) (zz3:aT ks) (zz4:ci ks=true) (zz5:∀ (r:Addr) (H':Hp),L2.Same H H'->Bk H' ks ks (.call 0 0) [bG ks] r->Q (.ref r) H'):gC  vs H Q _E
def mE:Sp:=gC
theorem uZ (m:Int) (n:Str):(Th.knot n (cx m)).tall<=2:=by
 rw [Th.tall]
 have:∀ l:List Nat,aI (l.map fun i=>Th.call 0 (i:Nat))<=1:=fun l=>by
  induction l with
  | nil=>rw [List.map_nil,aI];decide
  | cons x l ih=>rw [List.map_cons,aI,Th.tall];omega
 have:=this (List.range m.toNat);unfold cx;omega
theorem wV {ks:List (Str×Int)} (g:aT ks):rW ks ks (.call 0 0) [bG ks]:=by
 have F:=mQ g;have hc:(Th.call 0 0).FitS ks 1 1:=fR (by decide) (by decide);refine ⟨(show 1<=20 by decide),(show oT ks 1 1 (.call 0 0) from ⟨fK g hc (by rw [Th.tall];decide) (by rw [lc];decide),lx (eA g) hc⟩),fun row hr=>(show nN ks ks 1 row from ?_)⟩;obtain ⟨h1,h2⟩:=F.row row hr;refine ⟨h1,fun j t k ht hk=>?_⟩;have hf:=h2 j t k ht hk
 have htl:t.tall<=2:=by
  rw [List.mem_singleton.mp hr,dG hk] at ht;cases ht;exact uZ _ _
 exact ⟨fK g hf (by omega) (by have:=iJ t;omega),lx (eA g) hf⟩
theorem m9:FnOk P w K mg base CX0 1 T.g_same_knot.f T.g_same_knot.d ["name","many"] iG:=by
 refine T.g_same_knot.F.ok nF (fun vs H Q E h=>?_) (fun cdv A outer s H vs Q E hr h=>?_)
 · obtain ⟨n,m,rfl,_⟩:=h;rfl
 obtain ⟨n,m,rfl,hn,h0,h3,q⟩:=h;refine ⟨_,(ag (au (av jZ (aU (aa (pv 0) ac)) (aG aB rfl T.n_tuple PyProof.Rows.boot_tuple (aa (bY (N:=[Str.ofString "kid"]) (js:=[none]) (g:=(aH 0)) (tt:=bn) (te:=(uo (bH (tC (.str (Str.ofString "?"))) (bH (tC (.int 0)) (bH (b9 0) fu))))) rfl (cJ rfl (by decide +kernel) (by decide +kernel) rfl rfl rfl) (cg rfl T.n_range (aa (pv 1) ac)) (fun _ _ _ _ _ _=>(am (i:=0) xr rfl (Or.inl rfl))) (bo rfl) (fun _ _ _ _ _ _=>bN) (fun _ _ _ _ _ _=>(aU (aa (bF (v:=.str (Str.ofString "?")) rfl T.c_CALL_SIGN.choose_spec ⟨_,rfl⟩) (aa ai (aa (pv 0) ac)))))) ac))))),?_⟩
 try dsimp only [cxK,cxKn]
 refine ⟨_,rfl,al (by show 1<=1000000;decide),fun p1 hp1=>?_⟩;have s1:L2.Same H (upd H p1 (.tup [.str n])):=af hp1 _;have e1:(upd H p1 (.tup [.str n])) p1=some (.tup [.str n]):=ad;generalize (upd H p1 (.tup [.str n]))=H1 at s1 e1 ⊢;have hlen:(cx m).length=((List.range m.toNat).map fun i=>V.int (i:Nat)).length:=by rw [dR,List.length_map,List.length_range]
 refine ⟨_,rfl,m,rfl,by omega,by omega,gd (F:=At) (xs:=(List.range m.toNat).map fun i=>V.int (i:Nat)) (cx m) (fun H1 H2 z p kt h=>h.mono kt) hlen (by rw [List.length_map,List.length_range];omega) (fun i Hx sx hi=>by rw [List.length_map,List.length_range] at hi;exact hi) (fun Hx sx=>by rw [List.length_map,List.length_range];exact Nat.le_refl _) (fun i Hx x Hy sx hi hy=>⟨hy.1,?_⟩) (fun i y z Hx R W' hy hzz sx hR=>?_) (fun D H2 as hD s2 eD hpD=>?_)⟩
 · rw [List.length_map,List.length_range] at hi;rw [List.getElem?_map,List.getElem?_range hi,hy.2];show some (V.int ((i:Nat):Int))=some (V.int (0+((i:Nat):Int)));rw [Int.zero_add]
 · have hi:i<m.toNat:=by have:=(List.getElem?_eq_some_iff.mp hzz).1;rwa [dR] at this
   rw [List.getElem?_map,List.getElem?_range hi] at hy;cases hy;have hz:=gK (m:=m) (c:=(i:Nat)) (by omega) (by omega);rw [Int.toNat_natCast,hzz] at hz;cases hz;refine ⟨_,rfl,al (by show 3<=1000000;decide),fun ca hca=>hR _ ca (af hca _) ?_⟩;rw [At];exact ad
 have hal:=Paired.length hpD;rw [dR] at hal;refine ⟨D,_,rfl,.inl ⟨SqL.of eD,fun tp htp=>?_⟩⟩;have s3:L2.Same H2 (upd H2 tp (.tup (as.map V.ref))):=af htp _;have e3:(upd H2 tp (.tup (as.map V.ref))) tp=some (.tup (as.map V.ref)):=ad;generalize (upd H2 tp (.tup (as.map V.ref)))=H3 at s3 e3 ⊢;refine ux ((s2.trans s3) _ _ e1) e3 (by rw [List.length_map];show 1+as.length<=1000000;omega) fun p H4 s4 e4=>?_;refine q p H4 (s1.trans (s2.trans (s3.trans s4))) ?_;rw [At];exact ⟨sg hn,as,e4,(gS hpD).mono (Same.kt (s3.trans s4))⟩
set_option maxHeartbeats 1000000 in
theorem iD:FnOk P w K mg base CX0 8 T.g_same_book.f T.g_same_book.d ["kinds"] mE:=by
 refine T.g_same_book.F.ok nM (fun vs H Q E h=>?_) (fun cdv A outer s H vs Q E hr h=>?_)
 · obtain ⟨ka,kas,ks,rfl,_⟩:=h;rfl
 obtain ⟨ka,kas,ks,rfl,ek,hks,g,gok,q⟩:=h;refine ⟨_,(ag (au (pcF T.g_made_book (mU T) hr (aa (pv 0) (aa (pv 0) (aa (pcF T.g_call_of (G.ok_call_of T) hr (aa ai ac)) (aa (bt (aa (bY (N:=[Str.ofString "name",Str.ofString "many"]) (js:=[none,none]) (g:=(vX K 2 (qz (aH 0) (qz (aH 1) wd)))) (tt:=bn) (te:=(gA iG [] E0 (bH (b9 0) (bH (b9 1) fu)))) rfl (cJ rfl (by decide +kernel) (by decide +kernel) rfl rfl rfl) (dX (pv 0)) (fun _ _ _ _ _ _=>(cH rfl (aE (am (i:=0) vE rfl (Or.inl rfl)) (aE (am (i:=1) vE rfl (Or.inl rfl)) bX)))) (wt (qe kH (bo rfl) (qe kH (bo rfl) wA))) (fun _ _ _ _ _ _=>bN) (fun _ _ _ _ _ _=>(pcF T.g_same_knot (m9 T) hr (aa (pv 0) (aa (pv 1) ac))))) ac)) ac))))))),?_⟩
 try dsimp only [cxK,cxKn]
 have hkl:ks.length=kas.length:=Paired.length hks;refine ⟨_,rfl,_,rfl,0,rfl,fun ca hca=>?_⟩;have s1:L2.Same H (upd H ca (.tup [.str BB.q,.int 0,.int 0])):=af hca _;have e1:(upd H ca (.tup [.str BB.q,.int 0,.int 0])) ca=some (.tup [.str BB.q,.int 0,.int 0]):=ad;generalize (upd H ca (.tup [.str BB.q,.int 0,.int 0]))=H1 at s1 e1 ⊢;have hk8:=g.le;refine ⟨_,rfl,ka,rfl,⟨_,SqT.of (s1 _ _ ek)⟩,gd (F:=At) (xs:=kas.map V.ref) (bG ks) (fun H1 H2 z p kt h=>h.mono kt) (by unfold bG;rw [List.length_map,List.length_map];omega) (by rw [List.length_map];omega) (fun i Hx sx hi=>⟨_,_,SqT.of (sx _ _ (s1 _ _ ek)),List.getElem?_eq_getElem hi⟩) (fun Hx sx=>⟨_,SqT.of (sx _ _ (s1 _ _ ek)),Nat.le_refl _⟩) (fun i Hx x Hy sx hi hy=>⟨hy.1,hy.2 _ (SqT.of (sx _ _ (s1 _ _ ek)))⟩) (fun i y z Hx R W' hy hzz sx hR=>?_) (fun D H2 as hD s2 eD hpD=>?_)⟩
 · obtain ⟨pa,rfl,hpa⟩:=aP hy;obtain ⟨k,hk,epk⟩:=P2.get' hks hpa;rw [dG hk] at hzz;cases hzz;have hm:=List.mem_of_getElem? hk;have hnum:=g.num k hm;exact ⟨pa,_,rfl,SqT.of ((s1.trans sx) _ _ epk),rfl,_,_,rfl,_,_,rfl,rfl,_,rfl,_,rfl,k.1,k.2,rfl,(g.low k hm).1,hnum.1,hnum.2,fun r H' s' hat=>hR H' r s' hat⟩
 refine ⟨al (by show 1<=1000000;decide),fun ru hru=>?_⟩;have s3:L2.Same H2 (upd H2 ru (.lst [.ref D])):=af hru _;have e3:(upd H2 ru (.lst [.ref D])) ru=some (.lst (([D]:List Addr).map V.ref)):=ad;generalize (upd H2 ru (.lst [.ref D]))=H3 at s3 e3 ⊢;have s03:=s1.trans (s2.trans s3);have hK:j7 K H3 ks ka kas:=⟨.inr (SqT.of (s03 _ _ ek)),hks.mono (Same.kt s03),by omega,fun k hk=>Nat.le_trans (g.low k hk).2 (by decide)⟩;have ok:=wV g;refine ⟨ka,ka,ca,ru,kas,kas,[D],ks,ks,.call 0 0,[bG ks],rfl,hK,gok,hK,gok,?_,by rw [Th.size];decide,e3,.cons ⟨as,s3 _ _ eD,(gS hpD).mono (Same.kt s3)⟩ .nil,(show 1<=1000 by decide),fun row hr t ht=>?_,ok,fun r H4 s4 bk=>q r H4 (s03.trans s4) bk⟩
 · rw [At];exact (s2.trans s3) _ _ e1
 · obtain ⟨j,hj⟩:=List.mem_iff_getElem?.mp ht;obtain ⟨h1,h2⟩:=ok.2.2 row hr;have hjl:=(List.getElem?_eq_some_iff.mp hj).1;have:=(h2 j t _ hj (List.getElem?_eq_getElem (by omega))).1;have h3:=jU t;have h4:=this.kn;have h5:=this.cn;omega
theorem qO {xs:List V} {lo hi:Option Int} {v:V} (h:v∈d7 xs lo hi):v∈xs:=by
 unfold d7 at h;exact List.mem_of_mem_drop (List.mem_of_mem_take h)
theorem u5 {ts:List Th} {S:Int} (h:∀ t∈ts,∀ x∈stT t,0<=x/\x<S):∀ x∈aX ts,0<=x/\x<S:=fun x hx=>by
 obtain ⟨t,ht,hx'⟩:=List.mem_flatMap.mp hx;exact h t ht x hx'
structure Bk41 (head:Th) (rows:List (List Th)):Prop where
 co:CallsOk head rows
 hd:head.size<=64/\head.tall<=3
 rw:∀ row∈rows,row.length<=8/\∀ t∈row,t.size<=64/\t.tall<=3
theorem yu {ins outs:List (Str×Int)} {S:Int} {head:Th} {rows:List (List Th)} (gi:aT ins) (go:aT outs) (hS:S<=20) (b:BookOk ins outs S 2 head rows):Bk41 head rows:=by
 have p2:∀ t:Th,t.tall<=3->4 ^ t.tall<=64:=fun t ht=>Nat.le_trans (Nat.pow_le_pow_right (by decide) ht) (by decide)
 have hrt:∀ row∈rows,∀ t∈row,(t.size<=64/\t.tall<=3)/\∀ x∈stT t,0<=x/\x<S:=fun row hr t ht=>by
  obtain ⟨j,hj⟩:=List.mem_iff_getElem?.mp ht;have hro:=b.row row hr;have hjl:=(List.getElem?_eq_some_iff.mp hj).1;rw [hro.len] at hjl;obtain ⟨f,tl⟩:=hro.fit j t ins[j] hj (List.getElem?_eq_getElem hjl);exact ⟨⟨Nat.le_trans (iQ go f) (p2 t tl),tl⟩,ix f⟩
 have hl:=b.len;have ht3:head.tall<=3:=Nat.le_trans b.hdt (by decide);refine ⟨⟨by omega,fun s hs=>by rw [hl];exact ix b.hdf s hs,fun row hr s hs=>by rw [hl];exact u5 (fun t ht=>(hrt row hr t ht).2) s hs⟩,⟨Nat.le_trans (iQ go b.hdf) (p2 head ht3),ht3⟩,fun row hr=>⟨?_,fun t ht=>(hrt row hr t ht).1⟩⟩;rw [(b.row row hr).len];exact gi.le
theorem Bk41.trim {head:Th} {rows:List (List Th)} (b:Bk41 head rows):Bk41 (dS head rows) (eL head rows):=by
 have h1:=iu (idx (met head rows)) head;refine ⟨b.co.trim,⟨by show (ren _ head).size<=64;rw [h1.1];exact b.hd.1,by show (ren _ head).tall<=3;rw [h1.2];exact b.hd.2⟩,fun row hr=>?_⟩;obtain ⟨s,hs,rfl⟩:=List.mem_map.mp hr;have hrng:=b.co.rng s hs;have hrl:s.toNat<rows.length:=by omega
 have hro:rowOf rows s=rows[s.toNat]:=by unfold rowOf;rw [List.getD,List.getElem?_eq_getElem hrl];rfl
 have h2:=b.rw _ (List.getElem_mem hrl);rw [<- hro] at h2;refine ⟨by rw [List.length_map];exact h2.1,fun t ht=>?_⟩;obtain ⟨u,hu,rfl⟩:=List.mem_map.mp ht;have h3:=iu (idx (met head rows)) u;rw [h3.1,h3.2];exact h2.2 u hu
theorem Bk41.sz {head:Th} {rows:List (List Th)} (b:Bk41 head rows):∀ row∈rows,row.length<=8/\∀ t∈row,t.size<=1000:=fun row hr=>⟨(b.rw row hr).1,fun t ht=>Nat.le_trans ((b.rw row hr).2 t ht).1 (by decide)⟩
theorem Bk41.deep {ins outs:List (Str×Int)} {head:Th} {rows:List (List Th)} (b:Bk41 head rows):bZ (nh ins outs head rows)<=150 :=
 Nat.le_trans (oi (m:=3) (by decide) b.hd.2 fun row hr t ht=>((b.rw row hr).2 t ht).2) (by decide)
theorem TabSt.other {H H':Hp} {tJ tT:Addr} {p p2:Pos} {qu q2:Str} (h:TabSt H tJ p qu) (hT:TabSt H tT p2 q2) (s:SameT tT H H') (hne:tJ≠tT):TabSt H' tJ p qu:=by
 have hc:∀ {c:Addr} {φ:Heap->Prop},H c=some (.ext φ)->c≠tT:=fun e z=>by
  rw [z] at e;rcases hT with h | ⟨_,h,_⟩ <;> rw [h] at e <;> cases e
 rcases h with h | ⟨c',h1,φ,h2,h3⟩
 · exact .inl (s _ _ hne h)
 · exact .inr ⟨c',s _ _ hne h1,φ,s _ _ (hc h2) h2,h3⟩
theorem TabSt.lst {H H':Hp} {tT l:Addr} {p2:Pos} {q2:Str} {xs:List V} (hT:TabSt H tT p2 q2) (s:SameT tT H H') (e:H l=some (.lst xs)):H' l=some (.lst xs):=s _ _ (fun z=>by
 rw [z] at e;rcases hT with h | ⟨_,h,_⟩ <;> rw [h] at e <;> cases e) e
def nD (K:PySem.W.Frag) (cts:List (Addr×Addr)):Sp:=fun vs H Q _=>∃ (a:Addr) (ns:List Int),vs=[.ref a]/\SqL K H a (ns.map V.int)/\ns.length<=63/\(∀ p∈cts,H p.2=some (.tbl #[]))/\∀ H',Q (.bl true) H'
set_option maxHeartbeats 2000000 in
theorem wN (hne:T.tp_joined≠T.tp_trimmed) (LJ:Lam mg base T.tc_joined T.tp_joined) (LT:Lam mg base T.tc_trimmed T.tp_trimmed):FnOk P w K mg base CX0 20 T.g_law.f T.g_law.d ["script"] (nD K [(T.tc_joined,T.tp_joined),(T.tc_trimmed,T.tp_trimmed)]):=by
 refine T.g_law.F.ok iK (fun vs H Q E h=>?_) (fun cdv A outer s H vs Q E hr h=>?_)
 · obtain ⟨a,ns,rfl,_⟩:=h;rfl
 obtain ⟨a,ns,rfl,hS,hns,htp,q⟩:=h
 refine ⟨_,(ae (ar (i:=1) iK.nd rfl (Or.inl rfl) (pcF T.g__law_kinds (gx T) hr (aa (pcF T.g__law_cell (dA T) hr (aa (pv 0) (aa ai ac))) (aa eC ac))))
  (ae (ar (i:=2) iK.nd rfl (Or.inl rfl) (pcF T.g__law_kinds (gx T) hr (aa (pcF T.g__law_cell (dA T) hr (aa (pv 0) (aa ai ac))) (aa (aK cT (bt (aa eC (aa eC ac))) (av bD (av bW (pcF T.g__law_cell (dA T) hr (aa (pv 0) (aa ai ac))) ai) ai) (fun _ _=>rfl)) ac))))
  (ae (bP PassesOwn.never rfl (cR (c9 qj (av uF (bt (aa (pcF T.g__law_cell (dA T) hr (aa (pv 0) (aa ai ac))) ac)) (c9 qj (pv 0) (dB ai) eh)) eh (dB ai))) (am (i:=3) iK.nd rfl (Or.inl rfl)) (ae (ar (i:=4) iK.nd rfl (Or.inl rfl) (pcF T.g__law_book (mK T) hr (aa (pv 3) (aa (pv 1) (aa (pv 2) (aa (av bD (av bW (pv 3) ai) ai) (aa ai ac)))))))
  (ae (ar (i:=5) iK.nd rfl (Or.inl rfl) (pcF T.g_trimmed (pO T LT) hr (aa (pv 4) ac)))
  (ag (br (PW.pt (n5 (aN (p5 (B:=150) (kW hr)) (pcF T.g_joined (G.ok_joined T LJ) hr (aa (pv 4) (aa (pcF T.g_same_book (iD T) hr (aa (pv 2) ac)) ac))) (pv 5) (aJ _)) (lr (aN (p5 (B:=150) (kW hr)) (pcF T.g_joined (G.ok_joined T LJ) hr (aa (pcF T.g_same_book (iD T) hr (aa (pv 1) ac)) (aa (pv 4) ac))) (pv 5) (aJ _))))) (ag (au im)) aR)))))
  (ag (au im))))),?_⟩
 try dsimp only [cxK,cxKn]
 refine ⟨_,rfl,a,ns,0,rfl,hS,by decide,fun c0=>?_⟩;refine ⟨_,_,rfl,qp,fun ia ias ins H1 s1 ei hki ki oki=>?_⟩;dsimp only [aH];refine ⟨_,rfl,a,ns,1,rfl,s1.seq hS,by decide,fun c1=>?_⟩;refine ⟨al (by show 2<=1000000;decide),fun ll hll=>?_⟩;have s1b:L2.Same H1 (upd H1 ll (.lst [.str (Str.ofString "npwz"),.str (Str.ofString "bdhk")])):=af hll _;have e1b:(upd H1 ll (.lst [.str (Str.ofString "npwz"),.str (Str.ofString "bdhk")])) ll=some (.lst [.str (Str.ofString "npwz"),.str (Str.ofString "bdhk")]):=ad;generalize (upd H1 ll (.lst [.str (Str.ofString "npwz"),.str (Str.ofString "bdhk")]))=H1b at s1b e1b ⊢;have s01b:=s1.trans s1b;refine ⟨_,rfl,a,ns,1,rfl,s01b.seq hS,by decide,fun c1'=>?_⟩;refine ⟨_,_,rfl,rfl,⟨by decide,by decide⟩,_,_,rfl,rfl,by decide,?_⟩
 obtain ⟨lt,hlt,hpk⟩:∃ lt,atI [V.str (Str.ofString "npwz"),.str (Str.ofString "bdhk")] (c1' / 3%2)=some (.str lt)/\oW lt:=by
  have h3:c1' / 3%2=0∨c1' / 3%2=1:=by omega
  rcases h3 with h | h <;> rw [h]
  · exact ⟨_,at0,uI⟩
  · exact ⟨_,at1,qp⟩
 refine ⟨ll,_,_,_,rfl,rfl,SqL.of e1b,hlt,?_⟩;refine ⟨c1,lt,rfl,hpk,fun oa oas outs H2 s2 eo hko ko oko=>?_⟩;have s02:=s01b.trans s2;refine ⟨_,rfl,a,ns,2,rfl,s02.seq hS,by decide,fun c2=>?_⟩;refine ⟨al (by show 1<=1000000;decide),fun l1 hl1=>?_⟩;have s3:L2.Same H2 (upd H2 l1 (.lst [.int c2])):=af hl1 _;have e3:(upd H2 l1 (.lst [.int c2])) l1=some (.lst [.int c2]):=ad;generalize (upd H2 l1 (.lst [.int c2]))=H3 at s3 e3 ⊢;refine ⟨_,rfl,3,rfl,a,_,rfl,(s02.trans s3).seq hS,fun l2 hl2=>?_⟩
 have hall:∀ v∈d7 (ns.map V.int) (some 3) none,∃ z,v=V.int z:=fun v hv=>by
  obtain ⟨z,_,rfl⟩:=List.mem_map.mp (qO hv);exact ⟨z,rfl⟩
 have hcl:(d7 (ns.map V.int) (some 3) none).length<=63:=by
  unfold d7;rw [List.length_take,List.length_drop,List.length_map];omega
 generalize d7 (ns.map V.int) (some 3) none=xs at hall hcl ⊢;have s4:L2.Same H3 (upd H3 l2 (.lst xs)):=af hl2 _;have e4:(upd H3 l2 (.lst xs)) l2=some (.lst xs):=ad;generalize (upd H3 l2 (.lst xs))=H4 at s4 e4 ⊢;refine ⟨l1,l2,_,_,rfl,rfl,SqL.of (s4 _ _ e3),SqL.of e4,al (by show 1+xs.length<=1000000;omega),fun l3 hl3=>?_⟩;have s5:L2.Same H4 (upd H4 l3 (.lst ([V.int c2]++xs))):=af hl3 _;have e5:(upd H4 l3 (.lst ([V.int c2]++xs))) l3=some (.lst ([V.int c2]++xs)):=ad;generalize (upd H4 l3 (.lst ([V.int c2]++xs)))=H5 at s5 e5 ⊢;refine ⟨24,rfl,l3,_,rfl,SqL.of e5,fun l4 hl4=>?_⟩
 have hall2:∀ v∈d7 ([V.int c2]++xs) none (some 24),∃ z,v=V.int z:=fun v hv=>by
  rcases List.mem_append.mp (qO hv) with h | h
  · exact ⟨c2,List.mem_singleton.mp h⟩
  · exact hall v h
 generalize d7 ([V.int c2]++xs) none (some 24)=ys at hall2 ⊢;have s6:L2.Same H5 (upd H5 l4 (.lst ys)):=af hl4 _;have e6:(upd H5 l4 (.lst ys)) l4=some (.lst ys):=ad;generalize (upd H5 l4 (.lst ys))=H6 at s6 e6 ⊢;have s26:=s3.trans (s4.trans (s5.trans s6));have s16:=s1b.trans (s2.trans s26);have s06:=s1.trans s16;have hJ6:H6 T.tp_joined=some (.tbl #[]):=s06 _ _ (htp (T.tc_joined,T.tp_joined) (List.mem_cons_self ..));have hT6:H6 T.tp_trimmed=some (.tbl #[]):=s06 _ _ (htp (T.tc_trimmed,T.tp_trimmed) (List.mem_cons_of_mem _ (List.mem_cons_self ..)));have ei6:=s16 _ _ ei;have eo6:=s26 _ _ eo;have hki6:=hki.mono (Same.kt s16);have hko6:=hko.mono (Same.kt s26);refine ⟨l4,rfl,⟨_,SqL.of e6⟩,?_⟩;refine dj (K:=K) (a:=l4) (xs:=ys) (fun i σ H7=>Ex3 fun cv bv dv=>An5 (σ=[some (.ref a),some (.ref ia),some (.ref oa),cv,bv,dv]) (KT H6 H7) (H7 l4=some (.lst ys)) (TabSt H7 T.tp_joined (G.ndPos G.nd_joined) G.ndQ) (TabSt H7 T.tp_trimmed (nj aO) rc)) ⟨none,none,none,rfl,fun _ _ e=>e,e6,.inl hJ6,.inl hT6⟩ (fun i σ H7 _ ⟨_,_,_,_,_,e7,_,_⟩=>SqL.of e7) ?_ ?_
 rotate_left
 · intro σ H7 _;exact q H7
 rintro i x σ H7 hx ⟨cv,bv,dv,rfl,k67,e7,tj7,tt7⟩;obtain ⟨cell,rfl⟩:=hall2 x (List.mem_of_getElem? hx);have hS1:0<=cell / 5%6:=Int.emod_nonneg _ (by decide);have hS2:cell / 5%6<6:=Int.emod_lt_of_pos _ (by decide);refine ⟨_,rfl,_,rfl,_,rfl,_,rfl,_,_,rfl,rfl,⟨by decide,by decide⟩,_,_,rfl,rfl,by decide,cell,ia,ias,ins,oa,oas,outs,_,2,rfl,k67 _ _ ei6,hki6.mono k67,ki,k67 _ _ eo6,hko6.mono k67,ko,hS1,by omega,by decide,by decide,fun b ha ra ras head rows H8 s8 bk ok=>?_⟩;have B:=yu ki ko (by omega) ok;have tj8:=tj7.mono s8;have tt8:=tt7.mono s8;have e8:=s8 _ _ e7;refine ⟨_,rfl,b,ia,oa,ha,ra,ras,head,rows,rfl,bk.bk,bk.hd,bk.rl,bk.rw,Nat.le_trans B.hd.1 (by decide),B.co,B.sz,tt8,fun d dh dr drs H9 s9 tt9 ed hdh edr hdr=>?_⟩;have k89:KT H8 H9:=tt8.kt s9;have tj9:=TabSt.other tj8 tt8 s9 hne;have e9:=TabSt.lst tt8 s9 e8;have bk9:=bk.mono k89;have dk9:BookAt H9 ins outs (dS head rows) (eL head rows) d ia oa dh dr ias oas drs:=⟨ed,bk9.inE,bk9.inK,bk9.outE,bk9.outK,hdh,edr,hdr⟩;have B':=B.trim;have k69:KT H6 H9:=(k67.trans (Same.kt s8)).trans k89;obtain ⟨eH,eR⟩:=tS ki ko ok (by decide) (by omega);obtain ⟨gH,gR⟩:=tz ki ko ok (by decide) (by omega);refine ⟨_,rfl,_,rfl,oa,oas,outs,rfl,k69 _ _ eo6,hko6.mono k69,ko,oko,fun sb H10 s10 bs=>?_⟩;refine hid fun ZZ kZ=>?_;obtain ⟨sia,soa,sha,sra,sias,soas,sras,bS⟩:=bs;refine kZ ?_;have bk10:=bk9.mono (Same.kt s10);have tj10:=tj9.mono s10;refine ⟨b,sb,ia,oa,ha,ra,sia,soa,sha,sra,ias,oas,ras,sias,soas,sras,ins,outs,outs,_,1,head,.call 0 0,rows,[bG outs],rfl,bk10,bS,kh ki ko ok (by decide) (by omega),tj10,fun f fh fr frs H11 s11 tj11 ef hfh efr hfr=>?_⟩;have hfh':At H11 (dS head rows) fh:=by rw [<- eH];exact hfh
 have hfr':Paired (RowAt H11) (eL head rows) frs:=by rw [<- eR];exact hfr
 have kA:KT H10 H11:=tj10.kt s11;have tt11:=TabSt.other (tt9.mono s10) tj10 s11 hne.symm;have e11:=TabSt.lst tj10 s11 (s10 _ _ e9);have bk11:=bk10.mono kA;have bS11:=bS.mono kA;have dk11:=dk9.mono ((Same.kt s10).trans kA);have k611:KT H6 H11:=k69.trans ((Same.kt s10).trans kA);have fk11:BookAt H11 ins outs (dS head rows) (eL head rows) f ia soa fh fr ias soas frs:=⟨ef,bk11.inE,bk11.inK,bS11.outE,bS11.outK,hfh',efr,hfr'⟩;refine ⟨_,rfl,f,d,_,_,_,_,rfl,rfl,SqT.of fk11.bk,SqT.of dk11.bk,jW fk11,jW dk11,B'.deep,fun bb hbb=>⟨_,rfl,?_⟩⟩
 have:bb=false:=by
  cases bb with
  | false=>rfl
  | true=>exact absurd rfl (hbb.mp rfl)
 subst this;refine gE ⟨_,rfl,ia,ias,ins,rfl,k611 _ _ ei6,hki6.mono k611,ki,oki,fun sc H12 s12 bs2=>?_⟩;refine hid fun ZZ kZ=>?_;obtain ⟨tia,toa,tha,tra,tias,toas,tras,bT⟩:=bs2;refine kZ ?_;have bk12:=bk11.mono (Same.kt s12);have tj12:=tj11.mono s12;refine ⟨_,rfl,sc,b,tia,toa,tha,tra,ia,oa,ha,ra,tias,toas,tras,ias,oas,ras,ins,ins,outs,1,_,.call 0 0,head,[bG ins],rows,rfl,bT,bk12,lz ki ko ok (by decide) (by omega),tj12,fun g gh gr grs H13 s13 tj13 eg hgh egr hgr=>?_⟩;have hgh':At H13 (dS head rows) gh:=by rw [<- gH];exact hgh
 have hgr':Paired (RowAt H13) (eL head rows) grs:=by rw [<- gR];exact hgr
 have kB:KT H12 H13:=tj12.kt s13;have tt13:=TabSt.other (tt11.mono s12) tj12 s13 hne.symm;have e13:=TabSt.lst tj12 s13 (s12 _ _ e11);have bk13:=bk12.mono kB;have bT13:=bT.mono kB;have dk13:=dk11.mono ((Same.kt s12).trans kB);have gk13:BookAt H13 ins outs (dS head rows) (eL head rows) g tia oa gh gr tias oas grs:=⟨eg,bT13.inE,bT13.inK,bk13.outE,bk13.outK,hgh',egr,hgr'⟩;refine ⟨_,rfl,g,d,_,_,_,_,rfl,rfl,SqT.of gk13.bk,SqT.of dk13.bk,jW gk13,jW dk13,B'.deep,fun bb hbb=>⟨_,rfl,?_⟩⟩
 have:bb=false:=by
  cases bb with
  | false=>rfl
  | true=>exact absurd rfl (hbb.mp rfl)
 subst this;exact gE ⟨_,_,_,rfl,k611.trans ((Same.kt s12).trans kB),e13,tj13,tt13⟩
end
set_option maxHeartbeats 8000000 in
theorem wO {l:PySem.W.OpenLaw} {w:World} {K:PySem.W.Frag} {h:Heap} {mg:Str->Option Value} {fa:Addr} (X:K.In h) (G:h.Ns mainGlobals mg) (hfa:mg "law"=some (.ref fa))
 {own_Measure:Addr} {f17:Addr} {od17 an17:Option Addr} {sl17:Array (Option Value)} {oc17 kV17 dc17 pm17 cd17 ct17:Value} {f18:Addr} {od18 an18:Option Addr} {sl18:Array (Option Value)} {oc18 kV18 dc18 pm18 cd18 ct18:Value} {f36:Addr} {od36 an36:Option Addr} {sl36:Array (Option Value)} {oc36 kV36 dc36 pm36 cd36 ct36:Value} {f37:Addr} {od37 an37:Option Addr} {sl37:Array (Option Value)} {oc37 kV37 dc37 pm37 cd37 ct37:Value} {f47:Addr} {od47 an47:Option Addr} {sl47:Array (Option Value)} {oc47 kV47 dc47 pm47 cd47 ct47:Value} {tc_joined tp_joined:Addr} {to_joined:Obj} {tc_trimmed tp_trimmed:Addr} {to_trimmed:Obj} {tk0:Tok} {tk1:Tok} {tk2:Tok} {tk3:Tok} {tk4:Tok} {tk5:Tok} {tk6:Tok} {tk7:Tok}
 (g_is_number:FX K mg "is_number" fT ["thing"])
 (g_is_below:FX K mg "is_below" gP ["number","bound"])
 (g_is_name:FX K mg "is_name" iP ["thing"])
 (g_is_kind:FX K mg "is_kind" i8 ["pair"])
 (g_are_kinds:FX K mg "are_kinds" fB ["kinds"])
 (g_kinds_of:FX K mg "kinds_of" gM ["pairs"])
 (g_many_of:FX K mg "many_of" iV ["kinds","name"])
 (g_kids_of:FX K mg "kids_of" jf ["thing"])
 (g_walked:FX K mg "walked" j2 ["thing"])
 (g_built:FX K mg "built" mC ["tops"])
 (g_is_call:FX K mg "is_call" jl ["thing"])
 (g_called_by:FX K mg "called_by" fG ["call"])
 (g_fits_pattern:FX K mg "fits_pattern" d5 ["kinds","pattern","states","kids"])
 (g_called_in:FX K mg "called_in" fA ["pattern"])
 (g_top_of:FX K mg "top_of" lA ["part"])
 (g_filled:FX K mg "filled" kN ["pattern","table"])
 (g_restated:FX K mg "restated" gX ["pattern","names"])
 (g_is_small:FX K mg "is_small" g7 ["pattern"])
 (g_check_pattern:FX K mg "check_pattern" dk ["outs","pattern","states","kids"])
 (g_check_state:FX K mg "check_state" eE ["ins","outs","patterns","states"])
 (g_made_book:FX K mg "made_book" fO ["ins","outs","head","rules"])
 (g_ins_of:FX K mg "ins_of" kT ["book"])
 (g_outs_of:FX K mg "outs_of" i7 ["book"])
 (g_head_of:FX K mg "head_of" jn ["book"])
 (g_rules_of:FX K mg "rules_of" gL ["book"])
 (g_pattern_of:FX K mg "pattern_of" eZ ["book","state","name"])
 (g_renamed:FX K mg "renamed" i9 ["pattern","numbers"])
 (g_numbered:FX K mg "numbered" gN ["ins","outs","head","patterns_of"])
 (g_above:FX K mg "above" mS ["tree"])
 (g_call_of:FX K mg "call_of" iY ["state"])
 (g_same_knot:FX K mg "same_knot" fv ["name","many"])
 (g_same_book:FX K mg "same_book" fC ["kinds"])
 (g_led_over:FX K mg "led_over" gU ["second","part","knot"])
 (g_run_over:FX K mg "run_over" gI ["second","head","pattern"])
 (g__law_cell:FX K mg "_law_cell" fQ ["script","k"])
 (g__law_turn:FX K mg "_law_turn" fE ["cell","k"])
 (g__law_kinds:FX K mg "_law_kinds" eX ["cell","letters"])
 (g__law_leaf:FX K mg "_law_leaf" fW ["kinds","cell"])
 (g__law_pattern:FX K mg "_law_pattern" d9 ["cell","outs","states","kids","deep"])
 (g__law_digit:FX K mg "_law_digit" fg ["left","many"])
 (g__law_by_digits:FX K mg "_law_by_digits" cM ["left","outs","states","kids","deep"])
 (g__law_book_by_digits:FX K mg "_law_book_by_digits" bR ["cell","ins","outs","states","deep"])
 (g__law_book:FX K mg "_law_book" fH ["cell","ins","outs","states","deep"])
 (on_Measure:PySem.W.nsIn K mainGlobals "Measure"=some (some (.ref own_Measure)))
 (pg_Measure:PySem.W.plainGet K own_Measure Str.empty=true)
 (hd_Measure:PySem.W.hasDictIn K own_Measure=true)
 (po_Measure:PySem.W.plainOver K own_Measure=true)
 (sa_Measure:PySem.W.findIn K (.ref own_Measure) "__setattr__"=some (some (.builtin "object.__setattr__")))
 (mk_Measure:PySem.W.makesIn K own_Measure=true)
 (kc_Measure:PySem.W.keepIn K (.ref own_Measure)=true)
 (na_Measure_met_knots:PySem.W.findIn K (.ref own_Measure) "met_knots"=some none)
 (na_Measure_met_calls:PySem.W.findIn K (.ref own_Measure) "met_calls"=some none)
 (a17:PySem.W.findIn K (.ref own_Measure) "__init__"=some (some (.ref f17))) (i17:PySem.W.isFn K (.ref f17)=true) (l17:K.lookup f17=some ⟨oc17,od17,.func (PySem.W.fnOf "__init__" "Measure.__init__" (bf bK) (aY bK) (aj bK) .none kV17 dc17 pm17 an17 cd17 ct17),sl17⟩) (c17:PySem.W.codeIn K cd17 "Measure.__init__"=true) (k17:PySem.W.keepIn K (.ref f17)=true)
 (a18:PySem.W.findIn K (.ref own_Measure) "takes"=some (some (.ref f18))) (i18:PySem.W.isFn K (.ref f18)=true) (l18:K.lookup f18=some ⟨oc18,od18,.func (PySem.W.fnOf "takes" "Measure.takes" (bf bx) (aY bx) (aj bx) .none kV18 dc18 pm18 an18 cd18 ct18),sl18⟩) (c18:PySem.W.codeIn K cd18 "Measure.takes"=true) (k18:PySem.W.keepIn K (.ref f18)=true)
 (a36:PySem.W.nsIn K mainGlobals "joined"=some (some (.ref f36))) (l36:K.lookup f36=some ⟨oc36,od36,.func (PySem.W.fnOf "joined" "joined" (bf cD) (aY cD) (aj cD) .none kV36 dc36 pm36 an36 cd36 ct36),sl36⟩) (c36:PySem.W.codeIn K cd36 "joined"=true) (k36:PySem.W.keepIn K (.ref f36)=true)
 (a37:PySem.W.nsIn K mainGlobals "trimmed"=some (some (.ref f37))) (l37:K.lookup f37=some ⟨oc37,od37,.func (PySem.W.fnOf "trimmed" "trimmed" (bf cf) (aY cf) (aj cf) .none kV37 dc37 pm37 an37 cd37 ct37),sl37⟩) (c37:PySem.W.codeIn K cd37 "trimmed"=true) (k37:PySem.W.keepIn K (.ref f37)=true)
 (a47:PySem.W.nsIn K mainGlobals "law"=some (some (.ref f47))) (l47:K.lookup f47=some ⟨oc47,od47,.func (PySem.W.fnOf "law" "law" (bf iw) (aY iw) (aj iw) .none kV47 dc47 pm47 an47 cd47 ct47),sl47⟩) (c47:PySem.W.codeIn K cd47 "law"=true) (k47:PySem.W.keepIn K (.ref f47)=true)
 (e_joined:cd36=.ref tc_joined) (v_joined:K.lookup tc_joined=some to_joined) (x_joined:tabAt to_joined=some tp_joined) (u_joined:K.lookup tp_joined=none)
 (e_trimmed:cd37=.ref tc_trimmed) (v_trimmed:K.lookup tc_trimmed=some to_trimmed) (x_trimmed:tabAt to_trimmed=some tp_trimmed) (u_trimmed:K.lookup tp_trimmed=none)
 (ne:tp_joined≠tp_trimmed)
 (z0:PySem.W.nsIn K mainGlobals "all"=some none)
 (z1:PySem.W.nsIn K mainGlobals "bool"=some none)
 (z2:PySem.W.nsIn K mainGlobals "int"=some none)
 (z3:PySem.W.nsIn K mainGlobals "isinstance"=some none)
 (z4:PySem.W.nsIn K mainGlobals "len"=some none)
 (z5:PySem.W.nsIn K mainGlobals "list"=some none)
 (z6:PySem.W.nsIn K mainGlobals "range"=some none)
 (z7:PySem.W.nsIn K mainGlobals "reversed"=some none)
 (z8:PySem.W.nsIn K mainGlobals "set"=some none)
 (z9:PySem.W.nsIn K mainGlobals "state"=some none)
 (z10:PySem.W.nsIn K mainGlobals "str"=some none)
 (z11:PySem.W.nsIn K mainGlobals "tuple"=some none)
 (z12:PySem.W.nsIn K mainGlobals "zip"=some none)
 (y0:PySem.W.nsIn K mainGlobals "CALL_SIGN"=some (some (.str (Str.ofString "?") tk0)))
 (y1:PySem.W.nsIn K mainGlobals "MOST_LETTERS"=some (some (.int (8) tk1)))
 (y2:PySem.W.nsIn K mainGlobals "MOST_KINDS"=some (some (.int (8) tk2)))
 (y3:PySem.W.nsIn K mainGlobals "MOST_KIDS"=some (some (.int (3) tk3)))
 (y4:PySem.W.nsIn K mainGlobals "MOST_STATES"=some (some (.int (20) tk4)))
 (y5:PySem.W.nsIn K mainGlobals "MOST_ROWS"=some (some (.int (20) tk5)))
 (y6:PySem.W.nsIn K mainGlobals "MOST_KNOTS"=some (some (.int (400) tk6)))
 (y7:PySem.W.nsIn K mainGlobals "MOST_CALLS"=some (some (.int (200) tk7))) :
 ∃ (fd:FuncData) (cts:List (Addr×Addr)),(∀ (s:Shared) (v:Value),BindsTo s fd ⟨[v],[]⟩ [("script",v)])/\(∀ p∈cts,(∃ t∈(["joined","trimmed"]:List Str),PySem.W.tabIn K t=some p)/\K.lookup p.2=none)/\∀ base:Heap,K.In base->base.Ns mainGlobals mg->(∀ p∈cts,Lam mg base p.1 p.2)->FnOk l.prog w K mg base CX0 20 fa fd ["script"] (nD K cts):=by
 have e0:=hfa.symm.trans (PySem.W.mg_of X G a47);have e:f47=fa:=(Value.ref.inj (Option.some.inj e0)).symm;subst e;have F17:=cy (st:=bK) l17 c17 k17;have b17:=F17.binds (ps:=["self"]) fun _ _ _ _ _ _ us hl=>by obtain ⟨y0,rfl⟩:=us1 hl;rfl
 have F18:=cy (st:=bx) l18 c18 k18;have b18:=F18.binds (ps:=["self","part","row"]) fun _ _ _ _ _ _ us hl=>by obtain ⟨y0,y1,y2,rfl⟩:=us3 hl;rfl
 have F36:=cy (st:=cD) l36 c36 k36;have b36:=F36.binds (ps:=["first","second"]) fun _ _ _ _ _ _ us hl=>by obtain ⟨y0,y1,rfl⟩:=us2 hl;rfl
 have F37:=cy (st:=cf) l37 c37 k37;have b37:=F37.binds (ps:=["book"]) fun _ _ _ _ _ _ us hl=>by obtain ⟨y0,rfl⟩:=us1 hl;rfl
 have F47:=cy (st:=iw) l47 c47 k47;have b47:=F47.binds (ps:=["script"]) fun _ _ _ _ _ _ us hl=>by obtain ⟨y0,rfl⟩:=us1 hl;rfl
 have t_joined:=sV a36 l36 e_joined v_joined x_joined;have t_trimmed:=sV a37 l37 e_trimmed v_trimmed x_trimmed
 let T:TX K mg:=⟨⟨tk0,PySem.W.mg_of X G y0⟩,⟨tk1,PySem.W.mg_of X G y1⟩,⟨tk2,PySem.W.mg_of X G y2⟩,⟨tk3,PySem.W.mg_of X G y3⟩,⟨tk4,PySem.W.mg_of X G y4⟩,⟨tk5,PySem.W.mg_of X G y5⟩,⟨tk6,PySem.W.mg_of X G y6⟩,⟨tk7,PySem.W.mg_of X G y7⟩,g_is_number,g_is_below,g_is_name,g_is_kind,g_are_kinds,g_kinds_of,g_many_of,g_kids_of,g_walked,g_built,g_is_call,g_called_by,g_fits_pattern,g_called_in,g_top_of,g_filled,g_restated,f17,_,F17,b17,f18,_,F18,b18,g_is_small,g_check_pattern,g_check_state,g_made_book,g_ins_of,g_outs_of,g_head_of,g_rules_of,g_pattern_of,g_renamed,g_numbered,g_above,g_call_of,g_same_knot,g_same_book,g_led_over,g_run_over,⟨f36,_,F36,b36,PySem.W.mg_of X G a36⟩,tc_joined,tp_joined,qK F36 a36 t_joined,⟨f37,_,F37,b37,PySem.W.mg_of X G a37⟩,tc_trimmed,tp_trimmed,qK F37 a37 t_trimmed,g__law_cell,g__law_turn,g__law_kinds,g__law_leaf,g__law_pattern,g__law_digit,g__law_by_digits,g__law_book_by_digits,g__law_book,⟨f47,_,F47,b47,PySem.W.mg_of X G a47⟩,own_Measure,PySem.W.mg_of X G on_Measure,⟨pg_Measure,hd_Measure,po_Measure,sa_Measure⟩,⟨mk_Measure,a17,i17,kc_Measure⟩,na_Measure_met_knots,na_Measure_met_calls,⟨a18,i18,k18⟩,PySem.W.mg_none_of X G z0,PySem.W.mg_none_of X G z1,PySem.W.mg_none_of X G z2,PySem.W.mg_none_of X G z3,PySem.W.mg_none_of X G z4,PySem.W.mg_none_of X G z5,PySem.W.mg_none_of X G z6,PySem.W.mg_none_of X G z7,PySem.W.mg_none_of X G z8,PySem.W.mg_none_of X G z9,PySem.W.mg_none_of X G z10,PySem.W.mg_none_of X G z11,PySem.W.mg_none_of X G z12⟩
 refine ⟨PySem.W.fnOf "law" "law" (bf iw) (aY iw) (aj iw) .none kV47 dc47 pm47 an47 cd47 ct47,[(tc_joined,tp_joined),(tc_trimmed,tp_trimmed)],fun s v=>.of_eq rfl,fun p hp=>?_,fun base _ _ L=>wN T ne (L _ (List.mem_cons_self ..)) (L _ (List.mem_cons_of_mem _ (List.mem_cons_self ..)))⟩;rcases List.mem_cons.mp hp with rfl | hp
 · exact ⟨⟨"joined",List.mem_cons_self ..,t_joined⟩,u_joined⟩
 rcases List.mem_cons.mp hp with rfl | hp
 · exact ⟨⟨"trimmed",List.mem_cons_of_mem _ (List.mem_cons_self ..),t_trimmed⟩,u_trimmed⟩
 cases hp
theorem walk {l:PySem.W.OpenLaw} {q:Program} {loose:List Str} {XP:(Str->Option Value)->Heap->Prop} {YP:World->Heap->Prop} {d:DefRec} {K:Params->PySem.W.Frag} (hn:l.most=some 63) (hdf:d.params.defaults=[]) (hq:∀ t∈(["joined","trimmed"]:List Str),∃ dt,(PyProof.Rows.recsOf q).find? (fun e=>e.name == t)=some dt)
 (hY:∀ (w:World) (h:Heap),YP w h->(K w.params).In h)
 (F:∀ (w:World) (mg:Str->Option Value) (fa:Addr) (h:Heap),(K w.params).In h->h.Ns mainGlobals mg->mg d.name=some (.ref fa) →
  ∃ (fd:FuncData) (cts:List (Addr×Addr)),(∀ (s:Shared) (u:Value),BindsTo s fd ⟨[u],[]⟩ [("script",u)])/\(∀ p∈cts,(∃ t∈(["joined","trimmed"]:List Str),PySem.W.tabIn (K w.params) t=some p)/\(K w.params).lookup p.2=none)/\∀ base:Heap,(K w.params).In base->base.Ns mainGlobals mg->(∀ p∈cts,Lam mg base p.1 p.2)->FnOk l.prog w (K w.params) mg base CX0 20 fa fd ["script"] (nD (K w.params) cts)) :
 PySem.W.WalkO q loose XP YP l.row.toRowW d [] (fun f vs=>PySem.call f vs) :=
 L2.qY (n:=63) (k:=20) (x:="script") (tns:=["joined","trimmed"]) (CX:=fun _=>CX0) (sp:=fun w cts=>nD (K w.params) cts) hn (by decide) hdf ⟨rfl,by decide,by decide⟩ hq hY F (fun _ _ _ a ns hl hS hT=>⟨a,ns,rfl,hS,hl,hT,fun _=>rfl⟩) fun _ _ _ _ _ z=>z
end LAW
open PySem PySem.W PyProof.Rows
def LAW.vw:Program:=PySem.W.view PySem.Challenge.pw_boughbook_k41_beside_the_same_book [1,2,3,4,5,6,8,9,10,11,12,13,14,15,16,17,18,19,20,21,23,24,25,26,27,28,29,31,32,33,34,35,36,37,38,39,40,41,42,43,44,46,47,49,50,52,53,54,55,56,57,59,60,61,62,63,64,65,66,67,68]
def LAW.xt (s:Shared):Bool:=xlAt LAW.vw [] s && recOk (RowW.records (OpenRow.toRowW (OpenLaw.row PySem.Challenge.rw_boughbook_k41_beside_the_same_book))) s
set_option maxHeartbeats 0 in
theorem LAW.lk0:HD.Tr0 PySem.Challenge.pw_boughbook_k41_beside_the_same_book LAW.vw [] LAW.xt 90000 true:=fun _ _=>by kernel_rfl
set_option maxHeartbeats 0 in
theorem LAW.lk1:HD.Tr1 PySem.Challenge.pw_boughbook_k41_beside_the_same_book LAW.vw 90000:=fun _ _=>by kernel_rfl
set_option maxHeartbeats 0 in
theorem LAW.lk2:HD.Tr2 PySem.Challenge.pw_boughbook_k41_beside_the_same_book LAW.vw [] 90000:=fun _ _=>by kernel_rfl
set_option maxHeartbeats 0 in
theorem LAW.lk3:HD.Tr3 PySem.Challenge.pw_boughbook_k41_beside_the_same_book LAW.vw 90000:=fun _ _=>by kernel_rfl
set_option maxHeartbeats 0 in
theorem LAW.lk4:HD.Tr4 PySem.Challenge.pw_boughbook_k41_beside_the_same_book LAW.vw [] 90000:=fun _ _=>by kernel_rfl
set_option maxHeartbeats 0 in
theorem LAW.lk5:HD.Tr5 PySem.Challenge.pw_boughbook_k41_beside_the_same_book LAW.vw 90000:=fun _ _=>by kernel_rfl
local macro_rules | `(tactic| o_head $H) => `(tactic| (
 refine holds_open (q := LAW.vw) (N := 90000) (loose := []) (XP := XL LAW.vw [])
  (Yf := Hook.obs $H) (Ya := Hook.val $H) (YP := Hook.says $H) (Xt := LAW.xt)
  (HD.rq (by kernel_rfl) (by kernel_rfl) (fun _ => by kernel_rfl) LAW.lk0 LAW.lk1 LAW.lk2 LAW.lk3 LAW.lk4 LAW.lk5 fun _ _ => by kernel_rfl)
  (Hook.of $H) (Hook.keeps $H)
  (fun s e => xl_of s (Bool.and_eq_true_iff.mp e).1) XL.keeps
  (by rfl) (by rfl) (by rfl)
  (fun s e => recFacts_of (Bool.and_eq_true_iff.mp e).2)
  (by rfl) (by assumption) (by decide +kernel) ⟨rfl, rfl, rfl, rfl, rfl, by decide +kernel⟩ ?_ ?_))
set_option maxRecDepth 100000 in
set_option maxHeartbeats 0 in
theorem PySem.Challenge.cw_boughbook_k41_beside_the_same_book_holds : PySem.Challenge.rw_boughbook_k41_beside_the_same_book.Holds := by
 w_on;o_law;k_head;w_witness2
 k_fill
 refine LAW.walk (l:=PySem.Challenge.rw_boughbook_k41_beside_the_same_book) rfl rfl (fun t ht=>by
  rcases List.mem_cons.mp ht with rfl | ht
  · exact ⟨_,rfl⟩
  rcases List.mem_cons.mp ht with rfl | ht
  · exact ⟨_,rfl⟩
  cases ht) (fun w h Y=>PySem.W.km_in_of Y) ?F
 case F =>
  intro w mg fa h KX G hmg;refine' LAW.wO KX G hmg (LAW.fx1 KX G) (LAW.fx2 KX G) (LAW.fx1 KX G) (LAW.fx1 KX G) (LAW.fx1 KX G) (LAW.fx1 KX G) (LAW.fx2 KX G) (LAW.fx1 KX G) (LAW.fx1 KX G) (LAW.fx1 KX G) (LAW.fx1 KX G) (LAW.fx1 KX G) (LAW.fx4 KX G) (LAW.fx1 KX G) (LAW.fx1 KX G) (LAW.fx2 KX G) (LAW.fx2 KX G) (LAW.fx1 KX G) (LAW.fx4 KX G) (LAW.fx4 KX G) (LAW.fx4 KX G) (LAW.fx1 KX G) (LAW.fx1 KX G) (LAW.fx1 KX G) (LAW.fx1 KX G) (LAW.fx3 KX G) (LAW.fx2 KX G) (LAW.fx4 KX G) (LAW.fx1 KX G) (LAW.fx1 KX G) (LAW.fx2 KX G) (LAW.fx1 KX G) (LAW.fx3 KX G) (LAW.fx3 KX G) (LAW.fx2 KX G) (LAW.fx2 KX G) (LAW.fx2 KX G) (LAW.fx2 KX G) (LAW.fx5 KX G) (LAW.fx2 KX G) (LAW.fx5 KX G) (LAW.fx5 KX G) (LAW.fx5 KX G) ?on_Measure ?pg_Measure ?hd_Measure ?po_Measure ?sa_Measure ?mk_Measure ?kc_Measure ?na_Measure_met_knots ?na_Measure_met_calls ?a17 ?i17 ?l17 ?c17 ?k17 ?a18 ?i18 ?l18 ?c18 ?k18 ?a36 ?l36 ?c36 ?k36 ?a37 ?l37 ?c37 ?k37 ?a47 ?l47 ?c47 ?k47 ?e_joined ?v_joined ?x_joined ?u_joined ?e_trimmed ?v_trimmed ?x_trimmed ?u_trimmed ?ne ?z0 ?z1 ?z2 ?z3 ?z4 ?z5 ?z6 ?z7 ?z8 ?z9 ?z10 ?z11 ?z12 ?y0 ?y1 ?y2 ?y3 ?y4 ?y5 ?y6 ?y7
  (case on_Measure=>k_is)
  (case pg_Measure=>k_is)
  (case hd_Measure=>k_is)
  (case po_Measure=>k_is)
  (case sa_Measure=>k_is)
  (case mk_Measure=>k_is)
  (case kc_Measure=>k_is)
  (case na_Measure_met_knots=>k_is)
  (case na_Measure_met_calls=>k_is)
  (case a17=>k_is)
  (case i17=>k_is)
  (case l17=>k_is)
  (case c17=>k_is)
  (case k17=>k_is)
  (case a18=>k_is)
  (case i18=>k_is)
  (case l18=>k_is)
  (case c18=>k_is)
  (case k18=>k_is)
  (case a36=>k_is)
  (case l36=>k_is)
  (case c36=>k_is)
  (case k36=>k_is)
  (case a37=>k_is)
  (case l37=>k_is)
  (case c37=>k_is)
  (case k37=>k_is)
  (case a47=>k_is)
  (case l47=>k_is)
  (case c47=>k_is)
  (case k47=>k_is)
  (case e_joined=>rfl)
  (case v_joined=>k_is)
  (case x_joined=>rfl)
  (case u_joined=>kernel_rfl)
  (case e_trimmed=>rfl)
  (case v_trimmed=>k_is)
  (case x_trimmed=>rfl)
  (case u_trimmed=>kernel_rfl)
  (case ne=>decide)
  (case z0=>k_is)
  (case z1=>k_is)
  (case z2=>k_is)
  (case z3=>k_is)
  (case z4=>k_is)
  (case z5=>k_is)
  (case z6=>k_is)
  (case z7=>k_is)
  (case z8=>k_is)
  (case z9=>k_is)
  (case z10=>k_is)
  (case z11=>k_is)
  (case z12=>k_is)
  (case y0=>k_is)
  (case y1=>k_is)
  (case y2=>k_is)
  (case y3=>k_is)
  (case y4=>k_is)
  (case y5=>k_is)
  (case y6=>k_is)
  (case y7=>k_is)
