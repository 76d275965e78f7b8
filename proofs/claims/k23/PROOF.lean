import PyProof.Rows.All
import Wide.All
import OpenK.AllK
import Wide.FinOn
import Lean
import PyProof.EqAt
import PyProof.EqKinds
import PyProof.TupleCall
import KE.KRevIter
import PyProof.ListNew
import PyProof.Draws
import PyProof.EnumMake
import PyProof.Rows.EnumRows
import PyProof.ZipIter
import PyProof.ConsumeWalk
import KE.LcSums
import PyProof.AttrMissHeap
import KE.KDictOf
import PyProof.DictWalks
import PyProof.ListMulRoad
import PyProof.FactsAll.tuple
import PyProof.NeKinds
import KE.RegKTryMore
import KE.RegKIsAll
import PyProof.StrWalks
import PyProof.Rows.SetFrom
import PyProof.FString5
import Wide.Txt
import PyProof.Rows.SeqMore
import PyProof.StrOps2
import KE.KEqDict
import PyProof.CollectIter
import PyProof.JoinWalk
import PyProof.CallStr
import PyProof.DictRoadsH
import PyProof.MeetsDictList
import PyProof.DictTruth
import PyProof.StrLawsChain
import PyProof.StrCalls6
import PyProof.ToksMono
import PyProof.StrCalls2
import KE.KWords
import PyProof.MeetsStr2
import KE.KLam
import KE.KDictLaws
import PyProof.DictItems
import PyProof.DictValues
import PyProof.DictItemsLoops
import PySem.Challenge.RW_boughbook_k23_outcomes_counted
set_option Elab.async false
set_option linter.all false
set_option maxRecDepth 100000
namespace L2
open PySem PySem.Spec PyProof.Rows
abbrev Key:=Sum Int Str
def kX:Key->Value->Bool
 | .inl k,v=>Value.isInt k v
 | .inr x,v=>Value.isStrOf x v
def vX (w:World):Key->Int
 | .inl k=>hashInt k
 | .inr x=>hashStr w x
theorem bw:∀ {k:Key} {v:Value},kX k v=true->(∃ i t,k=Sum.inl i/\v=Value.int i t)∨(∃ x t,k=Sum.inr x/\v=Value.str x t)
 | .inl i,v,h=>by
   obtain ⟨t,e⟩:=Value.isInt_shape (k:=i) (v:=v) h;exact .inl ⟨i,t,rfl,e⟩
 | .inr x,v,h=>by
   obtain ⟨t,e⟩:=Value.isStrOf_shape (x:=x) (v:=v) h;exact .inr ⟨x,t,rfl,e⟩
theorem qx (i:Int) (t:Tok):kX (.inl i) (.int i t)=true:=by simp [kX,Value.isInt]
theorem pO (x:Str) (t:Tok):kX (.inr x) (.str x t)=true:=by simp [kX,Value.isStrOf]
theorem uh (a b:Int):decide ((Sum.inl a:Key)=Sum.inl b)=(a == b):=by
 by_cases e:a=b
 · subst e;simp
 · have h:¬ (Sum.inl a:Key)=Sum.inl b:=fun q=>e (Sum.inl.inj q);rw [decide_eq_false h];exact (beq_eq_false_iff_ne.mpr e).symm
theorem ur (a b:Str):decide ((Sum.inr a:Key)=Sum.inr b)=decide (a=b):=by
 by_cases e:a=b
 · subst e;simp
 · have h:¬ (Sum.inr a:Key)=Sum.inr b:=fun q=>e (Sum.inr.inj q);rw [decide_eq_false h,decide_eq_false e]
theorem ui (a:Int) (b:Str):decide ((Sum.inl a:Key)=Sum.inr b)=false:=decide_eq_false (fun q=>nomatch q)
theorem ux (a:Str) (b:Int):decide ((Sum.inr a:Key)=Sum.inl b)=false:=decide_eq_false (fun q=>nomatch q)
def aT (prog:Program) (w:World):PySem.KeyKind prog w Key where
 is:=kX
 hash:=vX w
 inj:=fun v a b ha hb=>by
  rcases bw ha with ⟨i,t,rfl,rfl⟩ | ⟨x,t,rfl,rfl⟩
  · rcases bw hb with ⟨j,u,rfl,e⟩ | ⟨y,u,rfl,e⟩
    · injection e with e1 _;rw [e1]
    · exact nomatch e
  · rcases bw hb with ⟨j,u,rfl,e⟩ | ⟨y,u,rfl,e⟩
    · exact nomatch e
    · injection e with e1 _;rw [e1]
 byValue:=fun k v h=>by
  rcases bw h with ⟨i,t,rfl,rfl⟩ | ⟨x,t,rfl,rfl⟩ <;> rfl
 pyHash:=fun hv h=>by
  rcases bw hv with ⟨i,t,rfl,rfl⟩ | ⟨x,t,rfl,rfl⟩
  · exact wpAny_pyHash_int h
  · exact wpAny_pyHash_str h
 eqBool:=fun hu hv h=>by
  rcases bw hu with ⟨i,t,rfl,rfl⟩ | ⟨x,t,rfl,rfl⟩
  · rcases bw hv with ⟨j,u,rfl,rfl⟩ | ⟨y,u,rfl,rfl⟩
    · rw [uh] at h;exact wpAny_eqBool_int h
    · rw [ui] at h;exact SeqAt.EqAt.int_str i t y u _ _ _ _ h
  · rcases bw hv with ⟨j,u,rfl,rfl⟩ | ⟨y,u,rfl,rfl⟩
    · rw [ux] at h;exact SeqAt.EqAt.str_int x t j u _ _ _ _ h
    · rw [ur] at h;exact wpAny_eqBool_str h
 «strs»:=fun k x t v h=>by
  rcases bw h with ⟨i,u,rfl,e⟩ | ⟨y,u,rfl,e⟩
  · exact nomatch e
  · injection e with e1 _;subst e1;cases v <;> rfl
theorem nL (prog:Program) (w:World) (i:Int) (t:Tok):(aT prog w).is (.inl i) (.int i t)=true:=qx i t
theorem nE (prog:Program) (w:World) (x:Str) (t:Tok):(aT prog w).is (.inr x) (.str x t)=true:=pO x t
end L2
namespace L2
open PySem PySem.Spec PyProof.Rows
inductive V where
 | non | bl (b:Bool) | int (i:Int) | str (x:Str) | byt (b:Array UInt8) | flt (b:UInt64) | ref (a:Addr) | ty (n:String)
 deriving DecidableEq
def RelV:V->Value->Prop
 | .non,u=>u=Value.none
 | .bl b,u=>u=Value.bool b
 | .int i,u=>∃ t,u=Value.int i t
 | .str x,u=>∃ t,u=Value.str x t
 | .byt b,u=>∃ t,u=Value.bytes b t
 | .flt b,u=>∃ t,u=Value.float b t
 | .ref a,u=>u=Value.ref a
 | .ty n,u=>u=Value.type n
abbrev Vals:List V->List Value->Prop:=Paired RelV
theorem Vals.length {xs:List V} {us:List Value} (r:Vals xs us):xs.length=us.length:=Paired.length r
theorem Vals.get:∀ {xs:List V} {us:List Value} {i:Nat} {x:V},Vals xs us->xs[i]?=some x->∃ u,us[i]?=some u/\RelV x u
 | _,_,_,_,.nil,e=>by simp at e
 | _,_,0,_,.cons r _,e=>by simp at e;subst e;exact ⟨_,rfl,r⟩
 | _,_,i+1,x,.cons _ t,e=>by
   obtain ⟨u,h1,h2⟩:=Vals.get (i:=i) (x:=x) t (by simpa using e);exact ⟨u,by simpa using h1,h2⟩
theorem Vals.set {x:V} {u:Value} (r:RelV x u):∀ {xs:List V} {us:List Value} (i:Nat),Vals xs us->Vals (xs.set i x) (us.set i u)
 | _,_,_,.nil=>.nil
 | _,_,0,.cons _ t=>.cons r t
 | _,_,i+1,.cons q t=>.cons q (Vals.set r i t)
theorem Vals.append:∀ {xs ys:List V} {us ws:List Value},Vals xs us->Vals ys ws->Vals (xs++ys) (us++ws)
 | _,_,_,_,.nil,s=>s
 | _,_,_,_,.cons r t,s=>.cons r (Vals.append t s)
theorem Vals.take:∀ {xs:List V} {us:List Value} (n:Nat),Vals xs us->Vals (xs.take n) (us.take n)
 | _,_,0,_=>.nil
 | _,_,_+1,.nil=>.nil
 | _,_,n+1,.cons r t=>.cons r (Vals.take n t)
theorem Vals.drop:∀ {xs:List V} {us:List Value} (n:Nat),Vals xs us->Vals (xs.drop n) (us.drop n)
 | _,_,0,r=>r
 | _,_,_+1,.nil=>.nil
 | _,_,n+1,.cons _ t=>Vals.drop n t
def RelO:Option V->Option Value->Prop
 | some v,some u=>RelV v u
 | none,none=>True
 | _,_=>False
def KV {κ:Type}:List (κ×V)->List (κ×Value)->Prop:=Paired fun (p:κ×V) (q:κ×Value)=>p.1=q.1/\RelV p.2 q.2
def kV:Key->V
 | .inl i=>.int i
 | .inr x=>.str x
inductive HO where
 /-- a list -/
 | lst (xs:List V)
 /-- a tuple (never changes) -/
 | tup (xs:List V)
 /-- a dict whose keys are ints and texts;one whose keys are tuples of ints and texts (the empty one is both) -/
 | dK (kvs:List (Key×V)) | dT (kvs:List (List Key×V))
 /-- a set of ints: its members,its size -/
 | set (S:Int->Bool) (n:Nat)
 /-- an instance of the class at C,its dict at dx,its attributes -/
 | ins (C dx:Addr) (fs:List (Str×V))
 /-- the dict of the instance at x -/
 | own (x:Addr)
 /-- the dict of an exception -/
 | xd (fs:List (Str×V))
 /-- a bound method,f of x -/
 | met (f x:Addr)
 /-- a range object lo,lo+1,.. below hi -/
 | rng (lo hi:Int)
 /-- a thing that is known to the object (the script;a dict while a loop bi it): read,never written while it is so -/
 | frz (o:Obj) (u:HO)
 /-- a code object's table -/
 | tbl (ps:Array Value)
 /-- any other thing,by what is true of its one object (a def of one's own: SetO a S n:=HO.ext fun h=>..) -/
 | ext (φ:Heap->Prop)
abbrev Hp:=Addr->Option HO
def upd (H:Hp) (a:Addr) (o:HO):Hp:=fun b=>if b=a then some o else H b
theorem ac {H:Hp} {a:Addr} {o:HO}:upd H a o a=some o:=by unfold upd;rw [if_pos rfl]
theorem ae {H:Hp} {a b:Addr} {o:HO} (h:b≠a):upd H a o b=H b:=by unfold upd;rw [if_neg h]
theorem lQ {H:Hp} {a:Addr} {o u:HO}:upd (upd H a o) a u=upd H a u:=by
 funext b;unfold upd;split <;> rfl
theorem aJ {H:Hp} {a b:Addr} {o u:HO} (h:H a=some o) (h':H b=some u) (d:o≠u):a≠b:=by
 intro e;subst e;rw [h] at h';exact d (Option.some.inj h')
theorem au {H:Hp} {a b:Addr} {o:HO} (h:H a=some o) (h':H b=none):a≠b:=by
 intro e;subst e;rw [h] at h';cases h'
section
variable (P:Program) (w:World)
def ObjOk (H:Hp) (h:Heap) (a:Addr):HO->Prop
 | .lst xs=>xs.length<=sizeLine/\∃ (its:List Value) (n:Nat),Vals xs its/\h.get? a=some { cls:=.type "list",data:=.seq its.toArray n }
 | .tup xs=>xs.length<=sizeLine/\∃ (its:List Value) (n:Nat),Vals xs its/\h.get? a=some { cls:=.type "tuple",data:=.seq its.toArray n }
 | .dK kvs=>kvs.length<=sizeLine/\(a == sysModules)=false/\∃ vs,KV kvs vs/\h.DictOf (aT P w) a vs
 | .dT kvs=>kvs.length<=sizeLine/\(a == sysModules)=false/\∃ xs:List (List Key×Addr×Value),
  Paired (fun (p:List Key×V) (q:List Key×Addr×Value)=>p.1=q.1/\H q.2.1=some (.tup (p.1.map kV))/\RelV p.2 q.2.2) kvs xs ∧
  ∃ o es ep,h.get? a=some o/\o.ExactDict/\o.data=.dict es ep/\es.toList=xs.map (entryOfKey (tupleKind (aT P w)))/\(xs.map (·.1)).Nodup
 | .set S n=>h.SetOf (intKind P w) a S n
 | .ins C dx fs=>H dx=some (.own a)/\fs.length<=1000/\dx≠a/\h.get? a=some (PySem.W.instObj C dx) ∧
  ∃ mA,h.Ns1 dx mA/\(∀ f,RelO (fs.lookup f) (mA f))/\PySem.Within mA (fs.map (·.1))
 | .own _=>∃ o,h.get? a=some o
 | .xd fs=>∃ mA,h.Ns1 a mA/\∀ f,RelO (fs.lookup f) (mA f)
 | .rng lo hi=>∃ t u v,h.get? a=some { cls:=.type "range",data:=.fields #[.int lo t,.int hi u,.int 1 v] }
 | .frz o u=>h.get? a=some o/\ObjOk H h a u
 | .tbl ps=>h.get? a=some { cls:=.none,data:=.fields ps }
 | .met f x=>h.get? a=some (PySem.W.methodObj (.ref f) (.ref x))
 | .ext φ=>φ h/\(∃ o,h.get? a=some o)/\∀ h1 h2:Heap,φ h1->(∀ o,h1.get? a=some o->h2.get? a=some o)->φ h2
def HOk (H:Hp) (h:Heap):Prop:=∀ a o,H a=some o->ObjOk P w H h a o
end
section
variable {P:Program} {w:World} {H H':Hp} {h h':Heap} {a:Addr} {o:HO}
theorem ObjOk.lt (x:ObjOk P w H h a o):a<h.objs.size:=by
 cases o with
 | lst xs=>obtain ⟨_,_,_,_,e⟩:=x;exact Heap.lt_size e
 | tup xs=>obtain ⟨_,_,_,_,e⟩:=x;exact Heap.lt_size e
 | dK kvs=>obtain ⟨_,_,_,_,o,_,_,e,_⟩:=x;exact Heap.lt_size e
 | dT kvs=>obtain ⟨_,_,_,_,o,_,_,e,_⟩:=x;exact Heap.lt_size e
 | set S n=>obtain ⟨o,_,_,_,e,_⟩:=x;exact Heap.lt_size e
 | ins C dx fs=>obtain ⟨_,_,_,e,_⟩:=x;exact Heap.lt_size e
 | own y=>obtain ⟨_,e⟩:=x;exact Heap.lt_size e
 | xd fs=>obtain ⟨_,⟨_,_,_,e,_⟩,_⟩:=x;exact Heap.lt_size e
 | rng lo hi=>obtain ⟨_,_,_,e⟩:=x;exact Heap.lt_size e
 | frz ob u=>obtain ⟨e,_⟩:=x;exact Heap.lt_size e
 | tbl ps=>exact Heap.lt_size (show h.get? a=some _ from x)
 | met f y=>exact Heap.lt_size (show h.get? a=some _ from x)
 | ext φ=>obtain ⟨_,⟨_,e⟩,_⟩:=x;exact Heap.lt_size e
theorem Paired.mapP {α β:Type} {F G:α->β->Prop}:∀ {l₁:List α} {l₂:List β},Paired F l₁ l₂->(∀ a b,F a b->G a b)->Paired G l₁ l₂
 | _,_,.nil,_=>.nil
 | _,_,.cons r t,f=>.cons (f _ _ r) (Paired.mapP t f)
theorem ObjOk.stay (x:ObjOk P w H h a o) (k:∀ b u,(b=a∨H b=some (.own a))->h.get? b=some u->h'.get? b=some u)
 (ho:∀ b,H b=some (.own a)->H' b=some (.own a)) (ht:∀ b xs,H b=some (.tup xs)->H' b=some (.tup xs)):ObjOk P w H' h' a o:=by
 induction o with
 | lst xs=>obtain ⟨z,its,n,r,e⟩:=x;exact ⟨z,its,n,r,k _ _ (.inl rfl) e⟩
 | tup xs=>obtain ⟨z,its,n,r,e⟩:=x;exact ⟨z,its,n,r,k _ _ (.inl rfl) e⟩
 | dK kvs=>obtain ⟨z,y,vs,r,ob,es,ep,e,c⟩:=x;exact ⟨z,y,vs,r,ob,es,ep,k _ _ (.inl rfl) e,c⟩
 | dT kvs =>
   obtain ⟨z,y,xs,r,ob,es,ep,e,c⟩:=x;exact ⟨z,y,xs,Paired.mapP r fun p q z=>⟨z.1,ht _ _ z.2.1,z.2.2⟩,ob,es,ep,k _ _ (.inl rfl) e,c⟩
 | set S n=>obtain ⟨ob,es,ep,t,e,c⟩:=x;exact ⟨ob,es,ep,t,k _ _ (.inl rfl) e,c⟩
 | ins C dx fs =>
   obtain ⟨d,z,ne,e,mA,⟨od,es,ep,e2,c⟩,r⟩:=x;exact ⟨ho _ d,z,ne,k _ _ (.inl rfl) e,mA,⟨od,es,ep,k _ _ (.inr d) e2,c⟩,r⟩
 | own y=>obtain ⟨ob,e⟩:=x;exact ⟨ob,k _ _ (.inl rfl) e⟩
 | xd fs=>obtain ⟨mA,⟨od,es,ep,e,c⟩,r⟩:=x;exact ⟨mA,⟨od,es,ep,k _ _ (.inl rfl) e,c⟩,r⟩
 | rng lo hi=>obtain ⟨t,u,v,e⟩:=x;exact ⟨t,u,v,k _ _ (.inl rfl) e⟩
 | frz ob u ih=>obtain ⟨e,q⟩:=x;exact ⟨k _ _ (.inl rfl) e,ih q⟩
 | tbl ps =>
   have e:h.get? a=some { cls:=.none,data:=.fields ps }:=x;show h'.get? a=some { cls:=.none,data:=.fields ps };exact k a _ (.inl rfl) e
 | met f y =>
   have e:h.get? a=some (PySem.W.methodObj (.ref f) (.ref y)):=x;show h'.get? a=some (PySem.W.methodObj (.ref f) (.ref y));exact k a _ (.inl rfl) e
 | ext φ=>obtain ⟨p,⟨o,e⟩,st⟩:=x;exact ⟨st _ _ p fun o q=>k _ _ (.inl rfl) q,⟨o,k _ _ (.inl rfl) e⟩,st⟩
theorem HOk.lt (x:HOk P w H h) (e:H a=some o):a<h.objs.size:=(x a o e).lt
theorem HOk.fresh (x:HOk P w H h) (e:h.objs.size<=a):H a=none:=by
 cases q:H a with
 | none=>rfl
 | some u=>exact absurd (Nat.lt_of_lt_of_le (x.lt q) e) (Nat.lt_irrefl _)
theorem HOk.kept (x:HOk P w H h) (k:∀ b u,h.get? b=some u->h'.get? b=some u):HOk P w H h':=fun a o e =>
 (x a o e).stay (fun b u _ q=>k b u q) (fun _ q=>q) fun _ _ q=>q
theorem HOk.laid (x:HOk P w H h) (k:∀ b u,h.get? b=some u->h'.get? b=some u) (hp:h.objs.size<=a) (new:ObjOk P w (upd H a o) h' a o):HOk P w (upd H a o) h':=fun b u e=>by
 have hn:=x.fresh hp;by_cases hb:b=a
 · subst hb;rw [ac] at e;cases e;exact new
 · rw [ae hb] at e;exact (x b u e).stay (fun c v _ q=>k c v q) (fun c q=>by rw [ae (au q hn)];exact q) fun c xs q=>by rw [ae (au q hn)];exact q
end
def Rd (H:Hp) (a:Addr) (u:HO):Prop:=H a=some u∨∃ o,H a=some (.frz o u)
theorem Rd.ok {P:Program} {w:World} {H:Hp} {h:Heap} {a:Addr} {u:HO} (r:Rd H a u) (x:HOk P w H h):ObjOk P w H h a u:=by
 rcases r with r | ⟨o,r⟩
 · exact x a u r
 · obtain ⟨_,q⟩:=x a _ r;exact q
def Mut:Option HO->Prop
 | some (.lst _)=>True
 | some (.dK _)=>True
 | some (.dT _)=>True
 | some (.set _ _)=>True
 | some (.ins _ _ _)=>True
 | some (.ext _)=>True
 | _=>False
section
variable {P:Program} {w:World} {H:Hp} {h h':Heap} {x e:Addr} {o':HO}
theorem HOk.write (ok:HOk P w H h) (mu:Mut (H x)) (he:e=x∨H e=some (.own x)) (k:∀ b u,b≠e->h.get? b=some u->h'.get? b=some u) (heo:∃ u,h'.get? e=some u)
 (new:ObjOk P w (upd H x o') h' x o'):HOk P w (upd H x o') h':=fun b u q=>by
 have nown:∀ c y,H c=some (.own y)->c≠x:=fun c y r z=>by subst z;rw [r] at mu;exact mu
 have ntup:∀ c xs,H c=some (.tup xs)->c≠x:=fun c xs r z=>by subst z;rw [r] at mu;exact mu
 by_cases hb:b=x
 · subst hb;rw [ac] at q;cases q;exact new
 · rw [ae hb] at q;by_cases hbe:b=e
   · have q':H b=some (.own x):=by
      rcases he with z | z
      · exact absurd (hbe.trans z) hb
      · rw [hbe];exact z
     rw [q] at q';cases q';obtain ⟨v,hv⟩:=heo;exact ⟨v,by rw [hbe];exact hv⟩
   · refine (ok b u q).stay (fun c v hc r=>k c v ?_ r) (fun c r=>by rw [ae (nown c b r)];exact r) fun c xs r=>by rw [ae (ntup c xs r)];exact r
     rcases hc with rfl | hc
     · exact hbe
     · rintro rfl;rcases he with z | z
       · exact nown c b hc z
       · rw [hc] at z;cases z;exact hb rfl
end
structure Un (fs ex:List Addr) (H H':Hp) (h h':Heap):Prop where
 keep:∀ b o,h.get? b=some o->H b=none->b∉fs->b∉ex->h'.get? b=some o
 slot:∀ b o,h.get? b=some o->H b=none->b∈fs->b∉ex->∃ sl,h'.get? b=some { o with slots:=sl }
 free:∀ b o,h.get? b=some o->H b=none->b∉ex->H' b=none
 there:∀ b o,h.get? b=some o->b∉ex->∃ o',h'.get? b=some o'
 tups:∀ b xs,H b=some (.tup xs)->H' b=some (.tup xs)
 frzs:∀ b o u,H b=some (.frz o u)->H' b=some (.frz o u)
 tbls:∀ b ps,H b=some (.tbl ps)->∃ more,H' b=some (.tbl (ps++more))
section
variable {fs fs' ex ex':List Addr} {H H1 H2:Hp} {h h1 h2 h':Heap} {a x e:Addr} {o:HO}
theorem Un.any (u:Un fs ex H H1 h h1) {b:Addr} {ob:Obj} (q:h.get? b=some ob) (n:H b=none) (hx:b∉ex):∃ sl,h1.get? b=some { ob with slots:=sl }:=by
 by_cases hb:b∈fs
 · exact u.slot b ob q n hb hx
 · exact ⟨ob.slots,u.keep b ob q n hb hx⟩
theorem Un.kept (k:∀ b u,h.get? b=some u->h'.get? b=some u):Un fs ex H H h h' :=
 ⟨fun b ob q _ _ _=>k b ob q,fun b ob q _ _ _=>⟨ob.slots,k b ob q⟩,fun _ _ _ n _=>n,fun b ob q _=>⟨ob,k b ob q⟩,fun _ _ q=>q,fun _ _ _ q=>q,fun _ ps q=>⟨#[],by rw [q];simp⟩⟩
theorem Un.refl:Un fs ex H H h h:=Un.kept fun _ _ q=>q
theorem Un.laid (k:∀ b u,h.get? b=some u->h'.get? b=some u) (hp:h.objs.size<=a) (hn:H a=none):Un fs ex H (upd H a o) h h' where
 keep:=fun b u q _ _ _=>k b u q
 slot:=fun b u q _ _ _=>⟨u.slots,k b u q⟩
 free:=fun b u q n _=>by rw [ae (Nat.ne_of_lt (Nat.lt_of_lt_of_le (Heap.lt_size q) hp))];exact n
 there:=fun b u q _=>⟨u,k b u q⟩
 tups:=fun b xs q=>by rw [ae (au q hn)];exact q
 frzs:=fun b u xs q=>by rw [ae (au q hn)];exact q
 tbls:=fun b ps q=>⟨#[],by rw [ae (au q hn),q];simp⟩
theorem Un.write (mu:Mut (H x)) (he:e=x∨H e=some (.own x)) (k:∀ b u,b≠e->h.get? b=some u->h'.get? b=some u) (heo:∃ u,h'.get? e=some u):Un fs ex H (upd H x o) h h':=by
 have hx:∀ b,H b=none->b≠x:=fun b n z=>by subst z;rw [n] at mu;exact mu
 have hb:∀ b,H b=none->b≠e:=fun b n z=>by
  subst z;rcases he with r | r
  · exact hx b n r
  · rw [n] at r;cases r
 have hm:∀ b u,H b=some u->¬ Mut (some u)->b≠x:=fun b u q nm z=>by subst z;rw [q] at mu;exact nm mu
 refine ⟨fun b u q n _ _=>k b u (hb b n) q,fun b u q n _ _=>⟨u.slots,k b u (hb b n) q⟩,fun b u q n _=>by rw [ae (hx b n)];exact n,fun b u q _=>?_,
  fun b xs q=>by rw [ae (hm b _ q fun z=>z)];exact q,fun b u xs q=>by rw [ae (hm b _ q fun z=>z)];exact q,fun b ps q=>⟨#[],by rw [ae (hm b _ q fun z=>z),q];simp⟩⟩
 by_cases hbe:b=e
 · subst hbe;exact heo
 · exact ⟨u,k b u hbe q⟩
end
def trk (h:Heap) (H:Hp):List Addr:=(List.range h.objs.size).filter fun a=>(H a).isSome
def l6 (h:Heap) (H:Hp):Heap:=PySem.W.hideAll h (trk h H)
theorem qq (h:Heap) (H:Hp):(l6 h H).objs.size=h.objs.size:=PySem.W.hideAll_size _ _
theorem rn {h:Heap} {H:Hp} {b:Addr} {o:Obj} (e:h.get? b=some o) (n:H b=none):(l6 h H).get? b=some o :=
 PySem.W.hideAll_get _ e fun hm=>by
  have q:(H b).isSome=true:=(List.mem_filter.mp hm).2;rw [n] at q;simp at q
theorem sR {h:Heap} {H:Hp} {b:Addr} {o:Obj} (e:(l6 h H).get? b=some o):h.get? b=some o/\H b=none:=by
 have e':h.get? b=some o:=PySem.W.of_hideAll (trk h H) e;refine ⟨e',?_⟩;cases q:H b with
 | none=>rfl
 | some x =>
   have hm:b∈trk h H:=List.mem_filter.mpr ⟨List.mem_range.mpr (Heap.lt_size e'),by simp [q]⟩;have z:(l6 h H).get? b=none:=PySem.W.hideAll_none (trk h H) hm;rw [z] at e;cases e
end L2
namespace L2
open PySem PySem.Spec PyProof.Rows
structure Mod (K:PySem.W.Frag) (mg:Str->Option Value) (base:Heap):Prop where
 kin:K.In base
 glob:base.Ns mainGlobals mg
 blt:∃ mb,base.Ns builtinsNs mb/\∀ x:Str,x≠"__name__"->mb x=bootBuiltins x
 nolimit:base.NoLimit
structure Cx where
 prog:Program
 w:World
 K:PySem.W.Frag
 mg:Str->Option Value
 base:Heap
 A:Around
 N:List Str
 s₀:Shared
 H₀:Hp
 env:Env
 outer:List Env
 stack:List Env
 ex:List Addr
 fn:Str->Bool
 calm:Bool
 pn:List (Addr×Obj)
 xe:Value->Shared->Prop
def frs (l:List Env):List Addr:=l.filterMap (·.frame)
abbrev Cx.fs (X:Cx):List Addr:=frs X.outer
def Vis (sc:Scope) (x:Str):Prop:=sc.names.lookup x=some .local∨sc.names.lookup x=some .cell∨sc.names.lookup x=some .free
def Loc (sc:Scope) (x:Str):Prop:=sc.names.lookup x=some .local∨sc.names.lookup x=some .cell
def v5 (env:Env) (h:Heap) (m:Str->Option Value) (x:Str) (u:Value):Prop :=
 (env.kindOf x=some .local/\m x=some u)∨((env.kindOf x=some .cell∨env.kindOf x=some .free)/\∃ c,env.cells.lookup x=some c/\h.IsCell c (some u))
structure Cx.Ok (X:Cx):Prop where
 mod:Mod X.K X.mg X.base
 kind:X.env.scope.kind=.function
 glob:X.env.globals=mainGlobals
 blt:X.env.builtins=builtinsNs
 above:X.s₀.heap.objs.size<=X.env.locals
 inj:∀ x y c,X.env.cells.lookup x=some c->X.env.cells.lookup y=some c->x=y
 has:∀ x,(X.env.kindOf x=some .cell∨X.env.kindOf x=some .free)->∃ c,X.env.cells.lookup x=some c
 cab:∀ x c,X.fn x=true->X.env.cells.lookup x=some c->X.s₀.heap.objs.size<=c
 hd:X.calm=true->X.A.handled=none
 frames:X.A.frames=some X.stack
 stk:X.stack=X.outer∨(X.stack=X.env::X.outer/\X.env.frame=some X.env.locals)
 exf:∀ b∈X.ex,b≠X.env.locals/\∀ x c,X.env.cells.lookup x=some c->c≠b
 bs:∀ b o,X.base.get? b=some o->X.s₀.heap.get? b=some o/\X.H₀ b=none
 bsz:X.base.objs.size<=X.s₀.heap.objs.size
 noex:∀ b o,X.base.get? b=some o->b∉X.ex
 exfs:∀ b∈X.ex,b∉X.fs
 funs:X.s₀.heap.FunFrames X.base X.outer
 frf:∀ b∈X.fs,X.H₀ b=none
structure Inv (X:Cx) (pins:List (Addr×Obj)) (σ:List (Option V)) (H:Hp) (s:Shared):Prop where
 ok:X.Ok
 os:s.os=X.s₀.os
 bare:AllBare s.gens
 base:Un X.fs X.ex X.H₀ H X.s₀.heap s.heap
 loc:∃ m,s.heap.Ns X.env.locals m/\∀ (i:Nat) (x:Str) (v:V),X.N[i]?=some x->σ[i]?=some (some v)->Vis X.env.scope x->∃ u,RelV v u/\v5 X.env s.heap m x u
 cell:∀ x c,X.env.cells.lookup x=some c->∃ v,s.heap.IsCell c v
 free:H X.env.locals=none
 freeC:∀ x c,X.env.cells.lookup x=some c->H c=none
 pin:∀ p∈X.pn++pins,s.heap.get? p.1=some p.2/\H p.1=none/\p.1≠X.env.locals/\p.1∉X.fs/\∀ v,p.2.data≠.cell v
 hok:HOk X.prog X.w H s.heap
 len:σ.length=X.N.length
section
variable {X:Cx} {pins:List (Addr×Obj)} {σ:List (Option V)} {H H':Hp} {s:Shared} {h':Heap}
theorem Cx.Ok.nofr (ok:X.Ok) {b:Addr} {o:Obj} (e:X.base.get? b=some o):b∉X.fs:=fun hb=>by
 have:=(ok.funs.mem hb).1;rw [e] at this;cases this
theorem Inv.bs (I:Inv X pins σ H s):∀ b o,X.base.get? b=some o->s.heap.get? b=some o/\H b=none:=fun b o e =>
 ⟨I.base.keep b o (I.ok.bs b o e).1 (I.ok.bs b o e).2 (I.ok.nofr e) (I.ok.noex b o e),I.base.free b o (I.ok.bs b o e).1 (I.ok.bs b o e).2 (I.ok.noex b o e)⟩
theorem Inv.bk (I:Inv X pins σ H s):∀ b o,X.base.get? b=some o->s.heap.get? b=some o:=fun b o e=>(I.bs b o e).1
theorem Inv.mod (I:Inv X pins σ H s):Mod X.K X.mg X.base:=I.ok.mod
theorem Inv.kIn (I:Inv X pins σ H s):X.K.In s.heap:=I.ok.mod.kin.keeps I.bk
theorem Inv.lt (I:Inv X pins σ H s):X.env.locals<s.heap.objs.size:=let ⟨_,hn,_⟩:=I.loc;hn.lt
theorem Inv.sz (I:Inv X pins σ H s):X.s₀.heap.objs.size<=s.heap.objs.size:=Nat.le_trans I.ok.above (Nat.le_of_lt I.lt)
theorem Inv.nofs (I:Inv X pins σ H s) {a:Addr} (h:s.heap.objs.size<=a):a∉X.fs:=fun hb=>by
 obtain ⟨_,o,ho,_⟩:=I.ok.funs.mem hb;exact absurd (Nat.lt_of_lt_of_le (Heap.lt_size ho) (Nat.le_trans I.sz h)) (Nat.lt_irrefl _)
theorem Inv.cne (I:Inv X pins σ H s):∀ x c,X.env.cells.lookup x=some c->c≠X.env.locals:=fun x c e z=>by
 obtain ⟨v,o,ho,hd⟩:=I.cell x c e;obtain ⟨m,⟨o',es,ep,ho',hd',_⟩,_⟩:=I.loc;rw [z,ho'] at ho;cases ho;rw [hd'] at hd;cases hd
theorem Inv.funs (I:Inv X pins σ H s):s.heap.FunFrames X.base X.outer:=by
 have all:∀ (l:List Env),(∀ b∈frs l,b∈X.fs)->X.s₀.heap.FunFrames X.base l->s.heap.FunFrames X.base l:=by
  intro l;induction l with
  | nil=>intro _ _;trivial
  | cons env r ih =>
    intro hs hl;obtain ⟨hk,⟨L,o,hf,hn,ho,hd⟩,hr⟩:=hl;have hL:L∈X.fs:=hs L (by unfold frs;rw [List.filterMap_cons,hf];exact List.mem_cons_self);obtain ⟨sl,e⟩:=I.base.slot L o ho (I.ok.frf L hL) hL fun z=>I.ok.exfs L z hL;exact ⟨hk,⟨L,_,hf,hn,e,hd⟩,ih (fun b hb=>hs b (by unfold frs;rw [List.filterMap_cons,hf];exact List.mem_cons_of_mem _ hb)) hr⟩
 exact all X.outer (fun _ hb=>hb) I.ok.funs
theorem Inv.stack (I:Inv X pins σ H s):s.heap.FunFrames X.base X.stack:=by
 rcases I.ok.stk with e | ⟨e,hf⟩
 · rw [e];exact I.funs
 · rw [e];obtain ⟨m,hn,_⟩:=I.loc;refine .cons (by rw [I.ok.kind];decide) hf hn ?_ I.funs;exact Heap.get?_none_of_le (Nat.le_trans I.ok.bsz I.ok.above)
theorem Inv.stkSub (I:Inv X pins σ H s):∀ b∈frs X.stack,b∈X.env.locals::X.fs:=fun b hb=>by
 rcases I.ok.stk with e | ⟨e,hf⟩
 · rw [e] at hb;exact List.mem_cons_of_mem _ hb
 · rw [e] at hb;unfold frs at hb;rw [List.filterMap_cons,hf] at hb;exact hb
theorem Inv.stkFree (I:Inv X pins σ H s):∀ b∈frs X.stack,H b=none:=fun b hb=>by
 rcases List.mem_cons.mp (I.stkSub b hb) with e | hb
 · rw [e];exact I.free
 · obtain ⟨_,o,ho,_⟩:=I.ok.funs.mem hb;exact I.base.free b o ho (I.ok.frf b hb) fun z=>I.ok.exfs b z hb
theorem Inv.step {g':Array GenState} {t':Nat} {d':Drawn} {ch:List Addr} (I:Inv X pins σ H s)
 (hch:∀ b∈ch,(b∈X.ex∨X.s₀.heap.objs.size<=b)/\b≠X.env.locals/\(∀ x c,X.env.cells.lookup x=some c->c≠b)/\∀ p∈X.pn++pins,p.1≠b)
 (keep:∀ b o,b≠X.env.locals->b∉X.fs->b∉ch->s.heap.get? b=some o->H b=none->h'.get? b=some o)
 (slot:∀ b o,b≠X.env.locals->b∈X.fs->b∉ch->s.heap.get? b=some o->H b=none->∃ sl,h'.get? b=some { o with slots:=sl }) (free:∀ b o,b∉ch->s.heap.get? b=some o->H b=none->H' b=none)
 (there:∀ b o,b∉ch->s.heap.get? b=some o->∃ o',h'.get? b=some o')
 (tups:∀ b xs,H b=some (.tup xs)->H' b=some (.tup xs)) (frzs:∀ b o u,H b=some (.frz o u)->H' b=some (.frz o u)) (tbls:∀ b ps,H b=some (.tbl ps)->∃ more,H' b=some (.tbl (ps++more)))
 (ns:∀ m,s.heap.Ns X.env.locals m->h'.Ns X.env.locals m) (hok:HOk X.prog X.w H' h') (hg:AllBare g') :
 Inv X pins σ H' { s with heap:=h',gens:=g',drawn:=d',toks:=t' }:=by
 have neL:∀ b o,X.s₀.heap.get? b=some o->b≠X.env.locals:=fun b o e=>Nat.ne_of_lt (Nat.lt_of_lt_of_le (Heap.lt_size e) I.ok.above)
 have neC:∀ b o,X.s₀.heap.get? b=some o->b∉X.ex->b∉ch:=fun b o e hx hb=>by
  rcases (hch b hb).1 with z | z
  · exact hx z
  · exact absurd (Nat.lt_of_lt_of_le (Heap.lt_size e) z) (Nat.lt_irrefl _)
 have cellK:∀ x c,X.env.cells.lookup x=some c->∀ v,s.heap.IsCell c v->h'.IsCell c v:=fun x c e v ⟨o,ho,hd⟩=>by
  have nch:c∉ch:=fun z=>(hch c z).2.2.1 x c e rfl;by_cases hc:c∈X.fs
  · obtain ⟨sl,q⟩:=slot c o (I.cne x c e) hc nch ho (I.freeC x c e);exact ⟨_,q,hd⟩
  · exact ⟨o,keep c o (I.cne x c e) hc nch ho (I.freeC x c e),hd⟩
 refine ⟨I.ok,I.os,hg,⟨fun b o e n hb hx=>?_,fun b o e n hb hx=>?_,fun b o e n hx=>?_,fun b o e hx=>?_,fun b xs e=>tups b xs (I.base.tups b xs e),fun b o xs e=>frzs b o xs (I.base.frzs b o xs e),fun b ps e=>?_⟩,?_,fun x c e=>?_,?_,fun x c e=>?_,fun p hp=>?_,hok,I.len⟩
 · exact keep b o (neL b o e) hb (neC b o e hx) (I.base.keep b o e n hb hx) (I.base.free b o e n hx)
 · obtain ⟨sl,e1⟩:=I.base.slot b o e n hb hx;obtain ⟨sl',e2⟩:=slot b _ (neL b o e) hb (neC b o e hx) e1 (I.base.free b o e n hx);exact ⟨sl',e2⟩
 · obtain ⟨o',e1⟩:=I.base.there b o e hx;exact free b o' (neC b o e hx) e1 (I.base.free b o e n hx)
 · obtain ⟨o',e1⟩:=I.base.there b o e hx;exact there b o' (neC b o e hx) e1
 · obtain ⟨m1,e1⟩:=I.base.tbls b ps e;obtain ⟨m2,e2⟩:=tbls b _ e1;exact ⟨m1++m2,by rw [e2,Array.append_assoc]⟩
 · obtain ⟨m,hn,hl⟩:=I.loc;refine ⟨m,ns m hn,fun i x v e1 e2 e3=>?_⟩;obtain ⟨u,r,l⟩:=hl i x v e1 e2 e3;refine ⟨u,r,?_⟩;rcases l with l | ⟨k,c,e,z⟩
   · exact .inl l
   · exact .inr ⟨k,c,e,cellK x c e _ z⟩
 · obtain ⟨v,z⟩:=I.cell x c e;exact ⟨v,cellK x c e v z⟩
 · obtain ⟨m,⟨o,_,_,ho,_⟩,_⟩:=I.loc;exact free _ o (fun z=>(hch _ z).2.1 rfl) ho I.free
 · obtain ⟨v,o,ho,hd⟩:=I.cell x c e;exact free c o (fun z=>(hch c z).2.2.1 x c e rfl) ho (I.freeC x c e)
 · obtain ⟨e,n,ne,nf,d⟩:=I.pin p hp;have nch:p.1∉ch:=fun z=>(hch p.1 z).2.2.2 p hp rfl;exact ⟨keep p.1 p.2 ne nf nch e n,free p.1 p.2 nch e n,ne,nf,d⟩
theorem Inv.un {t':Nat} (I:Inv X pins σ H s) (u:Un X.fs [] H H' s.heap h') (hok:HOk X.prog X.w H' h'):Inv X pins σ H' { s with heap:=h',toks:=t' }:=by
 obtain ⟨m,⟨o,es,ep,ho,r⟩,_⟩:=id I.loc;obtain ⟨sl,hL⟩:=u.any ho I.free (by simp)
 exact I.step (g':=s.gens) (d':=s.drawn) (ch:=[]) (fun _ z=>nomatch z) (fun b o _ hb _ e n=>u.keep b o e n hb (by simp)) (fun b o _ hb _ e n=>u.slot b o e n hb (by simp)) (fun b o _ e n=>u.free b o e n (by simp)) (fun b o _ e=>u.there b o e (by simp)) u.tups u.frzs u.tbls (fun m' hm=>by
  obtain ⟨o',es',ep',ho',r'⟩:=hm;rw [ho] at ho';cases ho';exact ⟨_,es',ep',hL,r'⟩) hok I.bare
theorem Inv.call {g':Array GenState} {t':Nat} {d':Drawn} {ch:List Addr} (I:Inv X pins σ H s) (u:Un (frs X.stack) ch H H' s.heap h') (hok:HOk X.prog X.w H' h') (hg:AllBare g')
 (hch:∀ b∈ch,(b∈X.ex∨X.s₀.heap.objs.size<=b)/\b≠X.env.locals/\(∀ x c,X.env.cells.lookup x=some c->c≠b)/\∀ p∈X.pn++pins,p.1≠b) :
 Inv X pins σ H' { s with heap:=h',gens:=g',drawn:=d',toks:=t' }:=by
 obtain ⟨m,⟨o,es,ep,ho,r⟩,_⟩:=id I.loc;obtain ⟨sl,hL⟩:=u.any ho I.free fun z=>(hch _ z).2.1 rfl
 exact I.step (ch:=ch) hch (fun b o hL hb hc e n=>u.keep b o e n (fun z=>(List.mem_cons.mp (I.stkSub b z)).elim hL hb) hc) (fun b o _ _ hc e n=>u.any e n hc) (fun b o hc e n=>u.free b o e n hc) (fun b o hc e=>u.there b o e hc) u.tups u.frzs u.tbls (fun m' hm=>by
  obtain ⟨o',es',ep',ho',r'⟩:=hm;rw [ho] at ho';cases ho';exact ⟨_,es',ep',hL,r'⟩) hok hg
theorem Inv.turned {t':Nat} {it:Addr} (I:Inv X pins σ H s) (k:∀ b o,b≠it->s.heap.get? b=some o->h'.get? b=some o) (hn:H it=none) (hL:it≠X.env.locals)
 (h1:it∈X.ex∨X.s₀.heap.objs.size<=it) (h2:∀ x c,X.env.cells.lookup x=some c->c≠it) (h3:∀ p∈X.pn++pins,p.1≠it):Inv X pins σ H { s with heap:=h',toks:=t' }:=by
 have nit:∀ b u,H b=some u->b≠it:=fun b u e z=>by rw [z,hn] at e;cases e
 refine I.step (g':=s.gens) (d':=s.drawn) (ch:=[it]) (fun b hb=>?_) (fun b o _ _ hc e _=>k b o (fun z=>hc (by simp [z])) e) (fun b o _ _ hc e _=>⟨o.slots,k b o (fun z=>hc (by simp [z])) e⟩) (fun _ _ _ _ n=>n)
  (fun b o hc e=>⟨o,k b o (fun z=>hc (by simp [z])) e⟩) (fun _ _ e=>e) (fun _ _ _ e=>e) (fun b ps e=>⟨#[],by rw [e];simp⟩) (fun m hm=>?_) (fun b u e=>?_) I.bare
 · have e:b=it:=by simpa using hb
   subst e;exact ⟨h1,hL,h2,h3⟩
 · obtain ⟨o,es,ep,ho,r⟩:=hm;exact ⟨o,es,ep,k _ o (Ne.symm hL) ho,r⟩
 · refine (I.hok b u e).stay (fun c v hc q=>k c v ?_ q) (fun _ q=>q) fun _ _ q=>q;rcases hc with z | z
   · rw [z];exact nit b u e
   · exact nit c _ z
theorem Inv.tok (I:Inv X pins σ H s) (t:Nat):Inv X pins σ H { s with toks:=t }:=I.un (h':=s.heap) (t':=t) Un.refl I.hok
theorem Inv.kept {t':Nat} (I:Inv X pins σ H s) (k:∀ b u,s.heap.get? b=some u->h'.get? b=some u):Inv X pins σ H { s with heap:=h',toks:=t' }:=I.un (Un.kept k) (I.hok.kept k)
theorem Inv.laid {a:Addr} {o:HO} {t':Nat} (I:Inv X pins σ H s) (k:∀ b u,s.heap.get? b=some u->h'.get? b=some u) (hp:s.heap.objs.size<=a) (new:ObjOk X.prog X.w (upd H a o) h' a o) :
 Inv X pins σ (upd H a o) { s with heap:=h',toks:=t' }:=I.un (Un.laid k hp (I.hok.fresh hp)) (I.hok.laid k hp new)
theorem Inv.write {x e:Addr} {o:HO} {t':Nat} (I:Inv X pins σ H s) (mu:Mut (H x)) (he:e=x∨H e=some (.own x)) (k:∀ b u,b≠e->s.heap.get? b=some u->h'.get? b=some u) (heo:∃ u,h'.get? e=some u)
 (new:ObjOk X.prog X.w (upd H x o) h' x o):Inv X pins σ (upd H x o) { s with heap:=h',toks:=t' }:=I.un (Un.write mu he k heo) (I.hok.write mu he k heo new)
theorem Inv.weak {σ':List (Option V)} (I:Inv X pins σ H s) (hl:σ'.length=σ.length) (w:∀ (i:Nat) v,σ'[i]?=some (some v)->σ[i]?=some (some v)):Inv X pins σ' H s :=
 ⟨I.ok,I.os,I.bare,I.base,let ⟨m,hn,hl'⟩:=I.loc;⟨m,hn,fun i x v e1 e2 e3=>hl' i x v e1 (w i v e2) e3⟩,I.cell,I.free,I.freeC,I.pin,I.hok,hl.trans I.len⟩
theorem Inv.pins_of {pins':List (Addr×Obj)} (I:Inv X pins σ H s) (h:∀ p∈pins',s.heap.get? p.1=some p.2/\H p.1=none/\p.1≠X.env.locals/\p.1∉X.fs/\∀ v,p.2.data≠.cell v):Inv X pins' σ H s :=
 ⟨I.ok,I.os,I.bare,I.base,I.loc,I.cell,I.free,I.freeC,fun p hp=>(List.mem_append.mp hp).elim (fun z=>I.pin p (List.mem_append_left _ z)) (h p),I.hok,I.len⟩
theorem mS {N:List Str} (hN:N.Nodup) {i j:Nat} {x:Str} (a:N[i]?=some x) (b:N[j]?=some x):i=j:=by
 obtain ⟨h1,e1⟩:=List.getElem?_eq_some_iff.mp a;obtain ⟨h2,e2⟩:=List.getElem?_eq_some_iff.mp b;exact (List.getElem_inj hN).mp (e1.trans e2.symm)
theorem kR {M:Model} {A:Around} {E:Value->Shared->Prop} {i:Nat} {x:Str} {v:V} {u:Value} {Q:Unit->Shared->Prop} (I:Inv X pins σ H s) (hN:X.N.Nodup) (hi:X.N[i]?=some x) (hx:Loc X.env.scope x) (r:RelV v u)
 (h:∀ s',Inv X pins (σ.set i (some v)) H s'->(∃ a,Heap.SameBut a s.heap s'.heap/\(a=X.env.locals∨X.env.cells.lookup x=some a))->Q () s') (hf:X.fn x=true∨X.env.scope.names.lookup x=some .local:=by first | exact .inl rfl | exact .inr rfl | assumption):wpAny M A (storeName X.env x u) Q E s:=by
 obtain ⟨m,hn,hl⟩:=id I.loc;have hcls:(X.env.scope.kind == .class || (X.env.scope.kind == .module && X.env.locals != X.env.globals))=false:=by rw [I.ok.kind];rfl
 have hiσ:i<σ.length:=by rw [I.len];exact (List.getElem?_eq_some_iff.mp hi).1
 have cne:=I.cne
 have tracked:∀ {a:Addr} {h':Heap},(∃ o,s.heap.get? a=some o/\H a=none)->Heap.SameBut a s.heap h'->HOk X.prog X.w H h':=fun {a h'} ha hs b ob e=>by
  obtain ⟨_,_,hfree⟩:=ha;refine (I.hok b ob e).stay (fun c w' hc q=>(hs.2 c ?_).trans q) (fun _ q=>q) fun _ _ q=>q;rintro rfl;rcases hc with rfl | hc
  · rw [hfree] at e;cases e
  · rw [hfree] at hc;cases hc
 rcases hx with hk | hk
 · refine wpAny_storeName_local hk hn (fun h' hn' hs=>?_) hcls;obtain ⟨oL,_,_,hoL,_⟩:=id hn;refine h _ ⟨I.ok,I.os,I.bare,⟨fun b o e n hb hx=>?_,fun b o e n hb hx=>?_,I.base.free,fun b o e hx=>?_,I.base.tups,I.base.frzs,I.base.tbls⟩,⟨_,hn',fun j y v' e1 e2 e3=>?_⟩,fun y c e=>?_,I.free,I.freeC,fun p hp=>?_,tracked ⟨oL,hoL,I.free⟩ hs,by simpa using I.len⟩ ⟨_,hs,.inl rfl⟩
   · exact (hs.2 b (Nat.ne_of_lt (Nat.lt_of_lt_of_le (Heap.lt_size e) I.ok.above))).trans (I.base.keep b o e n hb hx)
   · obtain ⟨sl,e1⟩:=I.base.slot b o e n hb hx;exact ⟨sl,(hs.2 b (Nat.ne_of_lt (Nat.lt_of_lt_of_le (Heap.lt_size e) I.ok.above))).trans e1⟩
   · obtain ⟨o',e1⟩:=I.base.there b o e hx;exact ⟨o',(hs.2 b (Nat.ne_of_lt (Nat.lt_of_lt_of_le (Heap.lt_size e) I.ok.above))).trans e1⟩
   · by_cases hj:j=i
     · subst hj;rw [hi] at e1;cases e1;rw [List.getElem?_set_self hiσ] at e2;cases e2;exact ⟨u,r,.inl ⟨hk,by simp⟩⟩
     · rw [List.getElem?_set_ne (Ne.symm hj)] at e2;obtain ⟨u',r',q⟩:=hl j y v' e1 e2 e3;refine ⟨u',r',?_⟩;rcases q with ⟨k,e⟩ | ⟨k,c,e,z⟩
       · refine .inl ⟨k,?_⟩;have:y≠x:=fun e=>hj (mS hN e1 (e ▸ hi));simp [this,e]
       · exact .inr ⟨k,c,e,z.sameBut hs (cne y c e)⟩
   · obtain ⟨w',z⟩:=I.cell y c e;exact ⟨w',z.sameBut hs (cne y c e)⟩
   · obtain ⟨e,n,ne,nf,d⟩:=I.pin p hp;exact ⟨(hs.2 p.1 ne).trans e,n,ne,nf,d⟩
 · have hfn:X.fn x=true:=by
    rcases hf with z | z
    · exact z
    · rw [z] at hk;cases hk
   obtain ⟨c,hc⟩:=I.ok.has x (.inl hk);obtain ⟨w',z⟩:=I.cell x c hc;refine wpAny_storeName_cell I.ok.kind hk hc z (fun h' hc' hs=>?_);obtain ⟨oc,hoc,hocd⟩:=id z;refine h { s with heap:=h' } ⟨I.ok,I.os,I.bare,⟨fun b o e n hb hx=>?_,fun b o e n hb hx=>?_,I.base.free,fun b o e hx=>?_,I.base.tups,I.base.frzs,I.base.tbls⟩,⟨m,hn.sameBut hs (Ne.symm (cne x c hc)),fun j y v' e1 e2 e3=>?_⟩,fun y c' e=>?_,I.free,I.freeC,fun p hp=>?_,tracked ⟨oc,hoc,I.freeC x c hc⟩ hs,by simpa using I.len⟩ ⟨c,hs,.inr hc⟩
   · exact (hs.2 b (Nat.ne_of_lt (Nat.lt_of_lt_of_le (Heap.lt_size e) (I.ok.cab x c hfn hc)))).trans (I.base.keep b o e n hb hx)
   · obtain ⟨sl,e1⟩:=I.base.slot b o e n hb hx;exact ⟨sl,(hs.2 b (Nat.ne_of_lt (Nat.lt_of_lt_of_le (Heap.lt_size e) (I.ok.cab x c hfn hc)))).trans e1⟩
   · obtain ⟨o',e1⟩:=I.base.there b o e hx;exact ⟨o',(hs.2 b (Nat.ne_of_lt (Nat.lt_of_lt_of_le (Heap.lt_size e) (I.ok.cab x c hfn hc)))).trans e1⟩
   · by_cases hj:j=i
     · subst hj;rw [hi] at e1;cases e1;rw [List.getElem?_set_self hiσ] at e2;cases e2;exact ⟨u,r,.inr ⟨.inl hk,c,hc,hc'⟩⟩
     · rw [List.getElem?_set_ne (Ne.symm hj)] at e2;obtain ⟨u',r',q⟩:=hl j y v' e1 e2 e3;refine ⟨u',r',?_⟩;rcases q with q | ⟨k,c',e,z'⟩
       · exact .inl q
       · refine .inr ⟨k,c',e,z'.sameBut hs ?_⟩;rintro rfl;exact hj (mS hN e1 (I.ok.inj _ _ _ e hc ▸ hi))
   · by_cases hcc:c'=c
     · subst hcc;exact ⟨_,hc'⟩
     · obtain ⟨w2,z2⟩:=I.cell y c' e;exact ⟨w2,z2.sameBut hs hcc⟩
   · obtain ⟨e,n,ne,nf,d⟩:=I.pin p hp;refine ⟨(hs.2 p.1 ?_).trans e,n,ne,nf,d⟩;intro q;rw [q,hoc] at e;have q':oc=p.2:=Option.some.inj e;exact d w' (by rw [<- q'];exact hocd)
theorem jX {M:Model} {A:Around} {E:Value->Shared->Prop} {i:Nat} {x:Str} {v:V} {u:Value} {Q:Unit->Shared->Prop} (I:Inv X pins σ H s) (hN:X.N.Nodup) (hi:X.N[i]?=some x) (hx:Loc X.env.scope x) (r:RelV v u)
 (h:∀ s',Inv X pins (σ.set i (some v)) H s'->Q () s') (hf:X.fn x=true∨X.env.scope.names.lookup x=some .local:=by first | exact .inl rfl | exact .inr rfl | assumption):wpAny M A (storeName X.env x u) Q E s :=
 kR I hN hi hx r (fun s' I' _=>h s' I') hf
theorem Inv.call' {s':Shared} {ch:List Addr} (I:Inv X pins σ H s) (ho:s'.os=s.os) (u:Un (frs X.stack) ch H H' s.heap s'.heap) (hok:HOk X.prog X.w H' s'.heap) (hg:AllBare s'.gens)
 (hch:∀ b∈ch,(b∈X.ex∨X.s₀.heap.objs.size<=b)/\b≠X.env.locals/\(∀ x c,X.env.cells.lookup x=some c->c≠b)/\∀ p∈X.pn++pins,p.1≠b):Inv X pins σ H' s':=by
 obtain ⟨h',g',d',t',o'⟩:=s';have e:o'=s.os:=ho;subst e;exact I.call (g':=g') (t':=t') (d':=d') u hok hg hch
end
abbrev XK:=Value->Option Addr->Hp->Prop
abbrev St:=List (Option V)
abbrev VK:=V->Hp->Prop
abbrev TE:=St->Hp->VK->Prop
abbrev TT:=St->Hp->(Bool->Hp->Prop)->Prop
abbrev TA:=St->Hp->(List V->Hp->Prop)->Prop
structure fu where
 nx:St->Hp->Prop
 rt:VK
 bk:St->Hp->Prop:=fun _ _=>False
 ct:St->Hp->Prop:=fun _ _=>False
abbrev TS:=fu->St->Hp->Prop
def EP (X:Cx) (pins:List (Addr×Obj)) (σ:St) (Q:VK) (u:Value) (s':Shared):Prop:=∃ v H',Inv X pins σ H' s'/\RelV v u/\Q v H'
def TP (X:Cx) (pins:List (Addr×Obj)) (σ:St) (Q:Bool->Hp->Prop) (b:Bool) (s':Shared):Prop:=∃ H',Inv X pins σ H' s'/\Q b H'
def AP (X:Cx) (pins:List (Addr×Obj)) (σ:St) (Q:List V->Hp->Prop) (us:List Value) (s':Shared):Prop:=∃ vs H',Inv X pins σ H' s'/\Vals vs us/\Q vs H'
def SP (X:Cx) (pins:List (Addr×Obj)) (D:fu) (f:Flow) (s':Shared):Prop :=
 match f with
 | .next=>∃ σ' H',Inv X pins σ' H' s'/\D.nx σ' H'
 | .brk=>∃ σ' H',Inv X pins σ' H' s'/\D.bk σ' H'
 | .cont=>∃ σ' H',Inv X pins σ' H' s'/\D.ct σ' H'
 | .ret u=>∃ v σ' H',Inv X pins σ' H' s'/\RelV v u/\D.rt v H'
def PE (X:Cx) (e:Expr) (t:TE):Prop :=
 ∀ (pins:List (Addr×Obj)) (s:Shared) (σ:St) (H:Hp) (Q:VK),Inv X pins σ H s->t σ H Q->wpAny (model X.prog X.w) X.A (eval e X.env) (EP X pins σ Q) X.xe s
def PT (X:Cx) (e:Expr) (t:TT):Prop :=
 ∀ (pins:List (Addr×Obj)) (s:Shared) (σ:St) (H:Hp) (Q:Bool->Hp->Prop),Inv X pins σ H s->t σ H Q->wpAny (model X.prog X.w) X.A (isTrue e X.env (eval e X.env)) (TP X pins σ Q) X.xe s
def PW (X:Cx) (e:Expr) (t:TT):Prop :=
 ∀ (whole:Sem Value) (pins:List (Addr×Obj)) (s:Shared) (σ:St) (H:Hp) (Q:Bool->Hp->Prop),Inv X pins σ H s->t σ H Q->wpAny (model X.prog X.w) X.A (isTrue e X.env whole) (TP X pins σ Q) X.xe s
theorem PW.pt {X:Cx} {e:Expr} {t:TT} (h:PW X e t):PT X e t:=h _
def PA (X:Cx) (es:List Expr) (t:TA):Prop :=
 ∀ (pos:Pos) (pins:List (Addr×Obj)) (s:Shared) (σ:St) (H:Hp) (Q:List V->Hp->Prop),Inv X pins σ H s->t σ H Q->wpAny (model X.prog X.w) X.A (spliced (backTo pos (starEach es X.env))) (AP X pins σ Q) X.xe s
def PS (X:Cx) (st:Stmt) (t:TS):Prop :=
 ∀ (pins:List (Addr×Obj)) (s:Shared) (σ:St) (H:Hp) (D:fu),Inv X pins σ H s->t D σ H->wpAny (model X.prog X.w) X.A (exec st X.env) (SP X pins D) X.xe s
def PSs (X:Cx) (st:List Stmt) (t:TS):Prop :=
 ∀ (pins:List (Addr×Obj)) (s:Shared) (σ:St) (H:Hp) (D:fu),Inv X pins σ H s->t D σ H->wpAny (model X.prog X.w) X.A (execs st X.env) (SP X pins D) X.xe s
theorem thn {α:Type} {t:Sem α} {Q Q':α->Shared->Prop} {M:Model} {A:Around} {E:Value->Shared->Prop} {s:Shared} (h:wpAny M A t Q E s) (hQ:∀ a s,Q a s->Q' a s):wpAny M A t Q' E s:=wpAny_mono h hQ fun _ _ x=>x
end L2
namespace L2
open PySem PySem.Spec PyProof.Rows
section
variable {X:Cx}
inductive tR (i:Nat) (σ:St) (H:Hp) (Q:VK):Prop
 | mk (v:_) (zz0:σ[i]?=some (some v)) (zz1:Q v H):tR i σ H Q
def bv (i:Nat):TE:=tR i
def tC (v:V):TE:=fun _ H Q=>Q v H
theorem qO {i:Nat} {x:Str} {pos:Pos} (hN:X.N[i]?=some x) (hv:Vis X.env.scope x) (hd:(x == ("__debug__":Str))=false:=by decide) (hcd:(x == ("__classdict__":Str))=false:=by decide):PE X (.Name x pos) (bv i):=by
 intro pins s σ H Q I h;obtain ⟨v,e,h⟩:=h;obtain ⟨m,hn,hl⟩:=I.loc;obtain ⟨u,r,l⟩:=hl i x v hN e hv;have fin:EP X pins σ Q u s:=⟨v,H,I,r,h⟩;rcases l with ⟨hk,hm⟩ | ⟨hk,c,hc,hcell⟩
 · exact wpAny_Name (wpAny_loadName_local I.ok.kind hk hn hm fin) hd
 · rcases hk with hk | hk
   · exact wpAny_Name (wpAny_loadName_cell I.ok.kind hk hc hcell fin) hd
   · exact wpAny_Name (wpAny_loadName_free I.ok.kind hk hc hcell fin hcd) hd
theorem ai {i j pos}:PE X (.Constant (.int i) j pos) (tC (.int i)):=fun _ _ _ H _ I h=>wpAny_Constant_int ⟨.int i,H,I.tok _,⟨_,rfl⟩,h⟩
theorem pI {b j pos}:PE X (.Constant (.bool b) j pos) (tC (.bl b)):=fun _ _ _ H _ I h=>Constant_bool ⟨.bl b,H,I,rfl,h⟩
theorem dM {x j pos}:PE X (.Constant (.str x) j pos) (tC (.str x)):=fun _ _ _ H _ I h=>Calls.Constant_str ⟨.str x,H,I.tok _,⟨_,rfl⟩,h⟩
def Gl (X:Cx) (x:Str):Prop:=X.env.kindOf x=some .globalImplicit
theorem mi {E:Value->Shared->Prop} {pins:List (Addr×Obj)} {s:Shared} {σ:St} {H:Hp} {x:Str} {u:Value} {pos:Pos} {Q:Value->Shared->Prop} (I:Inv X pins σ H s) (hg:Gl X x) (hm:X.mg x=some u) (h:Q u s)
 (hd:(x == ("__debug__":Str))=false:=by decide):wpAny (model X.prog X.w) X.A (eval (.Name x pos) X.env) Q E s :=
 Calls.Name_function_global I.ok.kind hg (Calls.loadGlobal_global (by rw [I.ok.glob];exact I.mod.glob.keeps I.bk) hm h) hd
theorem fH {E:Value->Shared->Prop} {pins:List (Addr×Obj)} {s:Shared} {σ:St} {H:Hp} {x:Str} {u:Value} {pos:Pos} {Q:Value->Shared->Prop} (I:Inv X pins σ H s) (hg:Gl X x) (hm:X.mg x=none) (hv:bootBuiltins x=some u) (h:Q u s)
 (hn:x≠"__name__":=by decide) (hd:(x == ("__debug__":Str))=false:=by decide):wpAny (model X.prog X.w) X.A (eval (.Name x pos) X.env) Q E s:=by
 obtain ⟨mb,h1,h2⟩:=I.mod.blt;exact Calls.Name_function_global I.ok.kind hg (Calls.loadGlobal_builtin (by rw [I.ok.glob];exact I.mod.glob.keeps I.bk) hm (by rw [I.ok.blt];exact h1.keeps I.bk) ((h2 x hn).trans hv) h) hd
theorem bX {x:Str} {v:V} {u:Value} {pos:Pos} (hg:Gl X x) (hm:X.mg x=some u) (r:RelV v u) (hd:(x == ("__debug__":Str))=false:=by decide):PE X (.Name x pos) (tC v) :=
 fun _ _ _ H _ I h=>mi I hg hm ⟨v,H,I,r,h⟩ hd
theorem pd {x:Str} {v:V} {u:Value} {pos:Pos} (hg:Gl X x) (hm:X.mg x=none) (hv:bootBuiltins x=some u) (r:RelV v u) (hn:x≠"__name__":=by decide) (hd:(x == ("__debug__":Str))=false:=by decide):PE X (.Name x pos) (tC v) :=
 fun _ _ _ H _ I h=>fH I hg hm hv ⟨v,H,I,r,h⟩ hn hd
variable {a b:Expr} {ta tb:TE} {pos:Pos}
def PC (X:Cx) (op:CmpOp) (a b:Expr) (t:TE):Prop :=
 ∀ (pins:List (Addr×Obj)) (s:Shared) (σ:St) (H:Hp) (Q:VK),Inv X pins σ H s->t σ H Q →
   wpAny (model X.prog X.w) X.A (eval a X.env) (fun v s₁=>wpAny (model X.prog X.w) X.A (eval b X.env) (fun u s₂=>wpAny (model X.prog X.w) X.A (compareOp op v u) (EP X pins σ Q) X.xe s₂) X.xe s₁) X.xe s
def tB (t:TE):TT:=fun σ H Q=>t σ H fun x H1=>∃ c,x=.bl c/\Q c H1
theorem uN {op:CmpOp} {t:TE} (h:PC X op a b t) (h1:behindInMarks op b=false:=by first | exact nobehind _ (by decide) (by decide) | rfl):PT X (.Compare a [op] [b] pos) (tB t):=by
 intro pins s σ H Q I hw;refine wpAny_isTrue_Compare1 (thn (h pins s σ H _ I hw) fun v s1 h1=>thn h1 fun u s2 h2=>thn h2 fun c s3 ⟨x,H1,I1,r1,q1⟩=>?_) h1;obtain ⟨d,rfl,q⟩:=q1;cases r1;exact wpAny_truthy_bool ⟨H1,I1,q⟩
variable {tA tB':TT} {rest:List Expr}
def v6 (t u:TT):TT:=fun σ H Q=>t σ H fun c H1=>if c=true then u σ H1 Q else Q false H1
def tOr (t u:TT):TT:=fun σ H Q=>t σ H fun c H1=>if c=true then Q true H1 else u σ H1 Q
def wf (t:TT):TT:=fun σ H Q=>t σ H fun c H1=>Q (!c) H1
theorem g8 (ha:PT X a tA):PW X (.BoolOp .And [a] pos) tA:=by
 intro wh pins s σ H Q I h;refine isTrue_and (thn (ha pins s σ H Q I h) fun c s1 e=>?_);cases c with
 | true=>exact isTrue_and_nil e
 | false=>exact e
theorem oE (ha:PT X a tA):PW X (.BoolOp .Or [a] pos) tA:=by
 intro wh pins s σ H Q I h;refine isTrue_or (thn (ha pins s σ H Q I h) fun c s1 e=>?_);cases c with
 | false=>exact isTrue_or_nil e
 | true=>exact e
theorem gD (ha:PT X a tA) (hb:PW X (.BoolOp .And (b::rest) pos) tB'):PW X (.BoolOp .And (a::b::rest) pos) (v6 tA tB'):=by
 intro wh pins s σ H Q I h;refine isTrue_and (thn (ha pins s σ H _ I h) fun c s1 ⟨H1,I1,q1⟩=>?_);cases c with
 | true=>exact hb wh pins s1 σ H1 Q I1 q1
 | false=>exact ⟨H1,I1,q1⟩
theorem rW (ha:PT X a tA) (hb:PW X (.BoolOp .Or (b::rest) pos) tB'):PW X (.BoolOp .Or (a::b::rest) pos) (tOr tA tB'):=by
 intro wh pins s σ H Q I h;refine isTrue_or (thn (ha pins s σ H _ I h) fun c s1 ⟨H1,I1,q1⟩=>?_);cases c with
 | true=>exact ⟨H1,I1,q1⟩
 | false=>exact hb wh pins s1 σ H1 Q I1 q1
theorem lM (ha:PT X a tA):PT X (.UnaryOp .Not a pos) (wf tA):=by
 intro pins s σ H Q I h;exact isTrue_not (ha pins s σ H (fun c H1=>Q (!c) H1) I h)
def vN (ta tb:TE):TE:=fun σ H Q=>ta σ H fun x H1=>∃ c,x=.bl c/\if c=true then tb σ H1 Q else Q (.bl false) H1
def vF (ta:TE):TE:=fun σ H Q=>ta σ H fun x H1=>∃ c,x=.bl c/\Q (.bl (!c)) H1
theorem rb {op} {t:TE} (h:PE X a t):PE X (.BoolOp op [a] pos) t:=fun pins s σ H Q I hw=>BoolOp_one (h pins s σ H Q I hw)
theorem ow (ha:PE X a ta) (hb:PE X (.BoolOp .And (b::rest) pos) tb):PE X (.BoolOp .And (a::b::rest) pos) (vN ta tb):=by
 intro pins s σ H Q I h;refine BoolOp_and (thn (ha pins s σ H _ I h) fun v s1 ⟨x,H1,I1,r1,q1⟩=>?_);obtain ⟨c,rfl,q1⟩:=q1;cases r1;refine wpAny_truthy_bool ?_;cases c with
 | true=>exact hb pins s1 σ H1 Q I1 q1
 | false=>exact ⟨.bl false,H1,I1,rfl,q1⟩
theorem oq (ha:PE X a ta):PE X (.UnaryOp .Not a pos) (vF ta):=by
 intro pins s σ H Q I h;refine UnaryOp_ (thn (ha pins s σ H _ I h) fun v s1 ⟨x,H1,I1,r1,q1⟩=>?_);obtain ⟨c,rfl,q1⟩:=q1;cases r1;exact not_of (wpAny_truthy_bool ⟨.bl (!c),H1,I1,rfl,q1⟩)
end
end L2
namespace L2
open PySem PySem.Spec PyProof.Rows
def SqL (K:PySem.W.Frag) (H:Hp) (a:Addr) (xs:List V):Prop :=
 Rd H a (.lst xs) ∨
  ∃ (o:Obj) (its:Array Value) (n:Nat),K.lookup a=some o/\o.cls=.type "list"/\o.dict=none/\o.data=.seq its n/\its.size<=sizeLine/\Vals xs its.toList
def SqT (K:PySem.W.Frag) (H:Hp) (a:Addr) (xs:List V):Prop :=
 Rd H a (.tup xs) ∨
  ∃ (o:Obj) (its:Array Value) (n:Nat),K.lookup a=some o/\o.cls=.type "tuple"/\o.data=.seq its n/\its.size<=sizeLine/\Vals xs its.toList
def vS:Value->Option V
 | .none=>some .non
 | .bool b=>some (.bl b)
 | .int i _=>some (.int i)
 | .str x _=>some (.str x)
 | .bytes b _=>some (.byt b)
 | .float b _=>some (.flt b)
 | .ref a=>some (.ref a)
 | .type n=>some (.ty n)
 | _=>none
theorem RelV.abs {x:V} {u:Value} (r:RelV x u):vS u=some x:=by
 cases x with
 | non=>cases r;rfl
 | bl _=>cases r;rfl
 | int _=>obtain ⟨t,rfl⟩:=r;rfl
 | str _=>obtain ⟨t,rfl⟩:=r;rfl
 | byt _=>obtain ⟨t,rfl⟩:=r;rfl
 | flt _=>obtain ⟨t,rfl⟩:=r;rfl
 | ref _=>cases r;rfl
 | ty _=>cases r;rfl
theorem RelV.inj {x y:V} {u:Value} (r:RelV x u) (q:RelV y u):x=y:=Option.some.inj (r.abs.symm.trans q.abs)
theorem Vals.inj:∀ {xs ys:List V} {us:List Value},Vals xs us->Vals ys us->xs=ys
 | _,_,_,.nil,.nil=>rfl
 | _,_,_,.cons r t,.cons r' t'=>by rw [r.inj r',Vals.inj t t']
section
variable {X:Cx} {pins:List (Addr×Obj)} {σ:St} {H:Hp} {s:Shared} {a:Addr} {xs ys:List V}
theorem SqL.of {K:PySem.W.Frag} (h:H a=some (.lst xs)):SqL K H a xs:=.inl (.inl h)
theorem SqT.of {K:PySem.W.Frag} (h:H a=some (.tup xs)):SqT K H a xs:=.inl (.inl h)
theorem Inv.list (I:Inv X pins σ H s) (h:SqL X.K H a xs):∃ its:List Value,Vals xs its/\PlainL s.heap a its.toArray/\xs.length<=sizeLine:=by
 rcases h with h | ⟨o,its,n,hk,hc,hd,hs,hz,r⟩
 · obtain ⟨z,its,n,r,e⟩:=h.ok I.hok;exact ⟨its,r,⟨_,n,e,rfl,rfl,rfl⟩,z⟩
 · refine ⟨its.toList,r,⟨o,n,I.kIn a o hk,hc,hd,by simpa using hs⟩,?_⟩;have e:=r.length;simp only [Array.length_toList] at e;omega
theorem Inv.tuple (I:Inv X pins σ H s) (h:SqT X.K H a xs):∃ its:List Value,Vals xs its/\IsTup s.heap a its.toArray/\xs.length<=sizeLine:=by
 rcases h with h | ⟨o,its,n,hk,hc,hs,hz,r⟩
 · obtain ⟨z,its,n,r,p⟩:=h.ok I.hok;exact ⟨its,r,⟨_,p,rfl,n,rfl⟩,z⟩
 · refine ⟨its.toList,r,⟨o,I.kIn a o hk,hc,n,by simpa using hs⟩,?_⟩;have e:=r.length;simp only [Array.length_toList] at e;omega
theorem Inv.list_inj (I:Inv X pins σ H s) (h:SqL X.K H a xs) (h':SqL X.K H a ys):xs=ys:=by
 obtain ⟨its,r,⟨o,n,e,_,_,d⟩,_⟩:=I.list h;obtain ⟨its',r',⟨o',n',e',_,_,d'⟩,_⟩:=I.list h';rw [e] at e';cases e';rw [d] at d';injection d' with d1 _;have:its=its':=by simpa using congrArg Array.toList d1
 subst this;exact r.inj r'
theorem Inv.tuple_inj (I:Inv X pins σ H s) (h:SqT X.K H a xs) (h':SqT X.K H a ys):xs=ys:=by
 obtain ⟨its,r,⟨o,e,_,n,d⟩,_⟩:=I.tuple h;obtain ⟨its',r',⟨o',e',_,n',d'⟩,_⟩:=I.tuple h';rw [e] at e';cases e';rw [d] at d';injection d' with d1 _;have:its=its':=by simpa using congrArg Array.toList d1
 subst this;exact r.inj r'
end
abbrev Cx.wish (X:Cx) (E:Value->Shared->Prop):Cx:={ X with xe:=E }
abbrev Cx.nox (X:Cx):Cx:=X.wish fun _ _=>False
theorem Cx.Ok.wish {X:Cx} (ok:X.Ok) (E:Value->Shared->Prop):(X.wish E).Ok :=
 ⟨ok.mod,ok.kind,ok.glob,ok.blt,ok.above,ok.inj,ok.has,ok.cab,ok.hd,ok.frames,ok.stk,ok.exf,ok.bs,ok.bsz,ok.noex,ok.exfs,ok.funs,ok.frf⟩
theorem Cx.Ok.unwish {X:Cx} {E:Value->Shared->Prop} (ok:(X.wish E).Ok):X.Ok :=
 ⟨ok.mod,ok.kind,ok.glob,ok.blt,ok.above,ok.inj,ok.has,ok.cab,ok.hd,ok.frames,ok.stk,ok.exf,ok.bs,ok.bsz,ok.noex,ok.exfs,ok.funs,ok.frf⟩
section
variable {X:Cx} {pins:List (Addr×Obj)} {σ:St} {H:Hp} {s:Shared} {E:Value->Shared->Prop}
theorem Inv.wish (I:Inv X pins σ H s) (E:Value->Shared->Prop):Inv (X.wish E) pins σ H s:=⟨I.ok.wish E,I.os,I.bare,I.base,I.loc,I.cell,I.free,I.freeC,I.pin,I.hok,I.len⟩
theorem Inv.unwish (I:Inv (X.wish E) pins σ H s):Inv X pins σ H s:=⟨I.ok.unwish,I.os,I.bare,I.base,I.loc,I.cell,I.free,I.freeC,I.pin,I.hok,I.len⟩
theorem SP.unwish {D:fu} {f:Flow} {s':Shared} (h:SP (X.wish E) pins D f s'):SP X pins D f s':=by
 cases f with
 | next=>obtain ⟨σ',H',I,q⟩:=h;exact ⟨σ',H',I.unwish,q⟩
 | brk=>obtain ⟨σ',H',I,q⟩:=h;exact ⟨σ',H',I.unwish,q⟩
 | cont=>obtain ⟨σ',H',I,q⟩:=h;exact ⟨σ',H',I.unwish,q⟩
 | ret u=>obtain ⟨v,σ',H',I,r,q⟩:=h;exact ⟨v,σ',H',I.unwish,r,q⟩
theorem PSs.nox {st:List Stmt} {t:TS} (h:PSs X.nox st t):PSs X st t:=fun pins s σ H D I hw =>
 wpAny_mono (h pins s σ H D (I.wish _) hw) (fun _ _ q=>q.unwish) fun _ _ z=>False.elim z
end
section
variable {X:Cx} {st:Stmt} {rest:List Stmt} {t u:TS} {e:Expr} {te:TE} {pos:Pos}
def rX:TS:=fun D σ H=>D.nx σ H
def rK (t u:TS):TS:=fun D σ H=>t { D with nx:=u D } σ H
theorem bN:PSs X [] rX:=fun _ _ σ H _ I h=>wpAny_execs_nil ⟨σ,H,I,h⟩
theorem ag (h1:PS X st t) (h2:PSs X rest u):PSs X (st::rest) (rK t u):=by
 intro pins s σ H D I h;refine wpAny_execs_cons (thn (h1 pins s σ H { D with nx:=u D } I h) fun f s1 q=>?_);cases f with
 | next =>
   obtain ⟨σ',H',I',q⟩:=q;exact h2 pins s1 σ' H' D I' q
 | ret v=>exact q
 | brk=>exact q
 | cont=>exact q
theorem aj (h1:PS X st t):PSs X [st] t:=by
 intro pins s σ H D I h;refine wpAny_execs_cons (thn (h1 pins s σ H D I h) fun f s1 q=>?_);cases f with
 | next=>exact wpAny_execs_nil q
 | ret v=>exact q
 | brk=>exact q
 | cont=>exact q
theorem Inv.quiet {pins:List (Addr×Obj)} {σ:St} {H:Hp} {s:Shared} (I:Inv X pins σ H s):interactive X.env=false:=by simp [interactive,I.ok.kind]
def uY (te:TE):TS:=fun D σ H=>te σ H fun _ H1=>D.nx σ H1
theorem bm (he:PE X e te) (hs:swapsWith e none pos.line X.env=pure false:=by rfl):PS X (.Expr e pos) (uY te):=by
 intro pins s σ H D I h;exact wpAny_Expr_any (thn (he pins s σ H _ I h) fun v s1 ⟨x,H1,I1,r1,q1⟩=>⟨σ,H1,I1,q1⟩) I.quiet hs
def wt (te:TE):TS:=fun D σ H=>te σ H D.rt
theorem aD (he:PE X e te):PS X (.Return (some e) pos) (wt te):=by
 intro pins s σ H D I h;exact wpAny_Return_some (thn (he pins s σ H _ I h) fun v s1 ⟨x,H1,I1,r1,q1⟩=>⟨x,σ,H1,I1,r1,q1⟩)
def vd (c:TT) (t u:TS):TS:=fun D σ H=>c σ H fun b H1=>if b=true then t D σ H1 else u D σ H1
theorem cM {c:Expr} {a b:List Stmt} {tc:TT} (hc:PT X c tc) (ha:PSs X a t) (hb:PSs X b u):PS X (.If c a b pos) (vd tc t u):=by
 intro pins s σ H D I h;refine wpAny_If (thn (hc pins s σ H _ I h) fun d s1 ⟨H1,I1,q1⟩=>?_);cases d with
 | true=>exact ha pins s1 σ H1 D I1 q1
 | false=>exact hb pins s1 σ H1 D I1 q1
end
abbrev TG:=V->St->Hp->(St->Hp->Prop)->Prop
abbrev TGs:=List V->St->Hp->(St->Hp->Prop)->Prop
def PG (X:Cx) (target:Expr) (t:TG):Prop :=
 ∀ (pins:List (Addr×Obj)) (s:Shared) (σ:St) (H:Hp) (v:V) (u:Value) (Q:St->Hp->Prop),Inv X pins σ H s->RelV v u->t v σ H Q →
   wpAny (model X.prog X.w) X.A (assign target X.env u) (fun _ s'=>∃ σ' H',Inv X pins σ' H' s'/\Q σ' H') X.xe s
def PGs (X:Cx) (ts:List Expr) (t:TGs):Prop :=
 ∀ (pins:List (Addr×Obj)) (s:Shared) (σ:St) (H:Hp) (vs:List V) (us:List Value) (Q:St->Hp->Prop),Inv X pins σ H s->Vals vs us->t vs σ H Q →
   wpAny (model X.prog X.w) X.A (assignInOrder ((assignEach ts X.env).map (·.2)) us) (fun _ s'=>∃ σ' H',Inv X pins σ' H' s'/\Q σ' H') X.xe s
abbrev uf:=V->V->V->Hp->(Hp->Prop)->Prop
def u6 (X:Cx) (t:uf):Prop :=
 ∀ (pins:List (Addr×Obj)) (s:Shared) (σ:St) (H:Hp) (o i v:V) (ov iv u:Value) (Q:Hp->Prop),Inv X pins σ H s->RelV o ov->RelV i iv->RelV v u->t o i v H Q →
   wpAny (model X.prog X.w) X.A (setItem ov iv u) (fun _ s'=>∃ H',Inv X pins σ H' s'/\Q H') X.xe s
abbrev TIp:=V->V->Hp->VK->Prop
def PIp (X:Cx) (op:Operator) (t:TIp):Prop :=
 ∀ (pins:List (Addr×Obj)) (s:Shared) (σ:St) (H:Hp) (x y:V) (v u:Value) (Q:VK),Inv X pins σ H s->RelV x v->RelV y u->t x y H Q →
   wpAny (model X.prog X.w) X.A (inplaceOp op v u) (EP X pins σ Q) X.xe s
section
variable {X:Cx} {pos:Pos}
def aE (i:Nat):TG:=fun v σ H Q=>Q (σ.set i (some v)) H
theorem aq {i:Nat} {x:Str} (hN:X.N.Nodup) (hi:X.N[i]?=some x) (hx:Loc X.env.scope x) (hf:X.fn x=true∨X.env.scope.names.lookup x=some .local:=by first | exact .inl rfl | exact .inr rfl | assumption):PG X (.Name x pos) (aE i):=by
 intro pins s σ H v u Q I r h;exact wpAny_assign_Name (jX I hN hi hx r (fun s' I'=>⟨_,H,I',h⟩) hf)
def oi:TGs:=fun vs σ H Q=>vs=[]/\Q σ H
def eT (t:TG) (u:TGs):TGs:=fun vs σ H Q=>∃ v r,vs=v::r/\t v σ H fun σ' H'=>u r σ' H' Q
theorem bD:PGs X [] oi:=by
 intro pins s σ H vs us Q I r h;obtain ⟨e,h⟩:=h;subst e;cases r;exact assignInOrder_nil ⟨σ,H,I,h⟩
theorem aF {e:Expr} {es:List Expr} {t:TG} {u:TGs} (h1:PG X e t) (h2:PGs X es u)
 (hs:(assignEach (e::es) X.env).map (·.2)=assign e X.env::(assignEach es X.env).map (·.2):=by rfl):PGs X (e::es) (eT t u):=by
 intro pins s σ H vs us Q I r h;obtain ⟨v,vr,e1,h⟩:=h;subst e1;cases r with
 | cons r rr =>
   rw [hs];refine assignInOrder_cons (thn (h1 pins s σ H _ _ _ I r h) fun _ s1 ⟨σ1,H1,I1,q1⟩=>?_);exact h2 pins s1 σ1 H1 _ _ Q I1 rr q1
def oo (K:PySem.W.Frag) (n:Nat) (t:TGs):TG:=fun v σ H Q=>∃ a xs,v=.ref a/\SqT K H a xs/\xs.length=n/\t xs σ H Q
theorem bV {es:List Expr} {k:Nat} {t:TGs} {n:Nat} (hc:X.calm=true) (h:PGs X es t)
 (hn:(assignEach es X.env).length=n:=by rfl) (hst:(assignEach es X.env).findIdx? (·.1)=none:=by rfl):PG X (.Tuple es k pos) (oo X.K n t):=by
 intro pins s σ H v u Q I r hw;obtain ⟨a,xs,e1,hq,hl,hw⟩:=hw;subst e1;cases r;obtain ⟨its,rv,ht,hz⟩:=I.tuple hq;refine assign_Tuple_tuple (I.ok.hd hc) ht (by simp [hn,<- hl,rv.length]) hst fun h' hx=>?_;have I1:Inv X pins σ H { s with heap:=h' }:=I.kept (t':=s.toks) fun b o e=>hx b o (Nat.ne_of_lt (Heap.lt_size e)) e;exact h pins _ σ H xs _ Q I1 (by simpa using rv) hw
def vU (to ti:TE) (t:uf):TG:=fun v σ H Q=>to σ H fun o H1=>ti σ H1 fun i H2=>t o i v H2 fun H3=>Q σ H3
theorem rh {o i:Expr} {to ti:TE} {t:uf} (ho:PE X o to) (hi:PE X i ti) (hs:u6 X t)
 (ha:∀ v,assign (.Subscript o i pos) X.env v=(do
  let ov ← holding [v] (eval o X.env)
  let iv ← holding [v,ov] (eval i X.env)
  standAt pos
  holding [v,ov,iv] (setItem ov iv v)
  release [v,ov,iv] []):=by intro _;rfl):PG X (.Subscript o i pos) (vU to ti t):=by
 intro pins s σ H v u Q I r h;rw [ha];refine wpAny_bind (wpAny_holding (thn (ho pins s σ H _ I h) fun ov s1 ⟨x,H1,I1,r1,q1⟩=>?_));refine wpAny_bind (wpAny_holding (thn (hi pins s1 σ H1 _ I1 q1) fun iv s2 ⟨y,H2,I2,r2,q2⟩=>?_));refine wpAny_bind (wpAny_standAt (wpAny_bind (wpAny_holding (thn (hs pins s2 σ H2 x y v ov iv u _ I2 r1 r2 r q2) fun _ s3 ⟨H3,I3,q3⟩=>?_))));exact wpAny_release ⟨σ,H3,I3,q3⟩
def uC (te:TE) (g:TG):TS:=fun D σ H=>te σ H fun x H1=>g x σ H1 D.nx
theorem iS {tg e:Expr} {te:TE} {g:TG} (he:PE X e te) (hg:PG X tg g) (hs:swapsWithSole [tg] e pos.line X.env=pure false:=by rfl) (hw:swappedStores [tg] e X.env=pure none:=by rfl)
 (h1:(assignEach [tg] X.env).map (·.2)=[assign tg X.env]:=by rfl):PS X (.Assign [tg] e pos) (uC te g):=by
 intro pins s σ H D I h;refine wpAny_Assign_stores (thn (he pins s σ H _ I h) fun v s1 ⟨x,H1,I1,r1,q1⟩=>?_) hs hw;rw [h1];exact thn (hg pins s1 σ H1 x v _ I1 r1 q1) fun _ s2 q=>q
theorem ar {i:Nat} {x:Str} {e:Expr} {te:TE} {pos':Pos} (hN:X.N.Nodup) (hi:X.N[i]?=some x) (hx:Loc X.env.scope x) (he:PE X e te) (hs:swapsWith e (some (.Name x pos')) pos.line X.env=pure false:=by rfl) (hf:X.fn x=true∨X.env.scope.names.lookup x=some .local:=by first | exact .inl rfl | exact .inr rfl | assumption) :
 PS X (.Assign [.Name x pos'] e pos) (uC te (aE i)):=by
 intro pins s σ H D I h;refine wpAny_Assign_Name (thn (he pins s σ H _ I h) fun v s1 ⟨y,H1,I1,r1,q1⟩=>?_) hs;exact jX I1 hN hi hx r1 (fun s2 I2=>⟨_,H1,I2,q1⟩) hf
def vW (i:Nat) (te:TE) (ti:TIp):TS:=fun D σ H=>∃ x,σ[i]?=some (some x)/\te σ H fun y H1=>ti x y H1 fun z H2=>D.nx (σ.set i (some z)) H2
theorem ut {i:Nat} {x:Str} {e:Expr} {te:TE} {op:Operator} {ti:TIp} {pos':Pos} (hN:X.N.Nodup) (hi:X.N[i]?=some x) (hx:Loc X.env.scope x) (he:PE X e te) (ho:PIp X op ti) (hf:X.fn x=true∨X.env.scope.names.lookup x=some .local:=by first | exact .inl rfl | exact .inr rfl | assumption) :
 PS X (.AugAssign (.Name x pos') op e pos) (vW i te ti):=by
 intro pins s σ H D I h;obtain ⟨v,e1,h⟩:=h;obtain ⟨m,hn,hl⟩:=I.loc;have vis:Vis X.env.scope x:=by rcases hx with k | k;exact .inl k;exact .inr (.inl k)
 obtain ⟨u,r,l⟩:=hl i x v hi e1 vis;refine wpAny_AugAssign_Name ?_
 have go:wpAny (model X.prog X.w) X.A (eval e X.env) (fun w s₂=>wpAny (model X.prog X.w) X.A (inplaceOp op u w) (fun r s₃=>wpAny (model X.prog X.w) X.A (storeName X.env x r) (fun _=>SP X pins D .next) X.xe s₃) X.xe s₂) X.xe s:=by
  refine thn (he pins s σ H _ I h) fun w s1 ⟨y,H1,I1,r1,q1⟩=>?_;refine thn (ho pins s1 σ H1 v y u w _ I1 r r1 q1) fun z s2 ⟨zv,H2,I2,r2,q2⟩=>?_;exact jX I2 hN hi hx r2 (fun s3 I3=>⟨_,H2,I3,q2⟩) hf
 rcases l with ⟨hk,hm⟩ | ⟨hk,c,hc,hcell⟩
 · exact wpAny_loadName_local I.ok.kind hk hn hm go
 · rcases hk with hk | hk
   · exact wpAny_loadName_cell I.ok.kind hk hc hcell go
   · rcases hx with k | k
     · have:X.env.scope.names.lookup x=some .free:=hk;rw [k] at this;cases this
     · have:X.env.scope.names.lookup x=some .free:=hk;rw [k] at this;cases this
def ipI (f:Int->Int->Int):TIp:=fun x y H Q=>∃ i j,x=.int i/\y=.int j/\Q (.int (f i j)) H
theorem uo:PIp X .Add (ipI fun i j=>i+j):=by
 intro pins s σ H x y v u Q I r1 r2 h;obtain ⟨i,j,e1,e2,q⟩:=h;subst e1;subst e2;obtain ⟨t,rfl⟩:=r1;obtain ⟨t',rfl⟩:=r2;exact iadd_int ⟨.int _,H,I.tok _,⟨_,rfl⟩,q⟩
end
section
variable {X:Cx} {pos:Pos}
def uK (c:TT) (tb:TS):TS:=fun D σ H=>∃ W:Nat->St->Hp->Prop,(∃ m,W m σ H)/\∀ m σ H,W m σ H →
 c σ H fun b H1=>if b=true then ∃ N:St->Hp->Prop,(∀ σ' H',N σ' H'->∃ m',m'<m/\W m' σ' H')/\tb { D with nx:=N,ct:=N,bk:=D.nx } σ H1 else D.nx σ H1
theorem fG {c:Expr} {body:List Stmt} {tc:TT} {tb:TS} (hp:PassesOwn (model X.prog X.w) X.A X.env X.xe) (hc:PT X c tc) (hb:PSs X body tb):PS X (.While c body [] pos) (uK tc tb):=by
 intro pins s σ H D I h;obtain ⟨W,⟨m0,w0⟩,turn⟩:=h;refine wpAny_While (codeAny_whileLoop (fun n s'=>∃ σ' H',Inv X pins σ' H' s'/\W n σ' H') ?_ m0 ⟨σ,H,I,w0⟩);rintro n s1 ⟨σ1,H1,I1,w1⟩;refine wpAny_passesOwn hp (thn (hc pins s1 σ1 H1 _ I1 (turn n σ1 H1 w1)) fun b s2 ⟨H2,I2,q2⟩=>?_);cases b with
 | true =>
   obtain ⟨N,hN,q2⟩:=q2;rw [if_pos rfl];refine wpAny_passesOwn hp (thn (hb pins s2 σ1 H2 _ I2 q2) fun f s3 q3=>?_);cases f with
   | next =>
     obtain ⟨σ3,H3,I3,n3⟩:=q3;obtain ⟨m',hm,w3⟩:=hN σ3 H3 n3;exact ⟨m',hm,σ3,H3,I3,w3⟩
   | cont =>
     obtain ⟨σ3,H3,I3,n3⟩:=q3;obtain ⟨m',hm,w3⟩:=hN σ3 H3 n3;exact ⟨m',hm,σ3,H3,I3,w3⟩
   | brk=>exact q3
   | ret v=>exact q3
 | false =>
   rw [if_neg Bool.false_ne_true];exact wpAny_execs_nil ⟨σ1,H2,I2,q2⟩
end
structure It where
 go:Nat->Hp->Prop
 yld:Nat->Hp->V->Hp->Prop
 stop:Nat->Hp->Prop
def jh (X:Cx) (pins:List (Addr×Obj)) (H:Hp) (b:Addr):Prop :=
 H b=none/\b≠X.env.locals/\b∉X.fs/\(b∈X.ex∨X.s₀.heap.objs.size<=b)/\(∀ x c,X.env.cells.lookup x=some c->c≠b)/\∀ p∈X.pn++pins,p.1≠b
theorem Inv.fpOk {X:Cx} {pins:List (Addr×Obj)} {σ:St} {H H':Hp} {s:Shared} {b:Addr} (I:Inv X pins σ H s) (hb:s.heap.objs.size<=b) (hn:H' b=none):jh X pins H' b:=by
 refine ⟨hn,Nat.ne_of_gt (Nat.lt_of_lt_of_le I.lt hb),I.nofs hb,.inr (Nat.le_trans I.sz hb),fun x c e z=>?_,fun p hp z=>?_⟩
 · obtain ⟨v,q⟩:=I.cell x c e;exact absurd (Nat.lt_of_lt_of_le q.lt (by rw [z];exact hb)) (Nat.lt_irrefl _)
 · exact absurd (Nat.lt_of_lt_of_le (Heap.lt_size (I.pin p hp).1) (by rw [z];exact hb)) (Nat.lt_irrefl _)
structure iG (P:Program) (w:World) (K:PySem.W.Frag) (tg:Expr) (J:It) (fp:List Addr) (it:Addr) (tn:Nat->Heap->Prop):Prop where
 mem:it∈fp
 obj:∀ i h,tn i h->∀ b∈fp,∃ o,h.get? b=some o/\∀ v,o.data≠.cell v
 keep:∀ i h h',tn i h->(∀ b∈fp,∀ o,h.get? b=some o->h'.get? b=some o)->tn i h'
 item:∀ (X:Cx),X.prog=P->X.w=w->X.K=K->X.calm=true->∀ (i:Nat) (pins:List (Addr×Obj)) (s:Shared) (σ:St) (H:Hp) (E:Value->Shared->Prop),Inv X pins σ H s->(∀ b∈fp,jh X pins H b)->tn i s.heap->J.go i H →
  wpAny (model P w) X.A (pyNext (.ref it)) (fun r s1=>∃ u,r=some u ∧
   wpAny (model P w) X.A (letOwnedTupleGo tg (.ref it) u) (fun _ s2=>∃ x H',Inv X pins σ H' s2/\RelV x u/\J.yld i H x H'/\tn (i+1) s2.heap/\∀ b∈fp,H' b=none) E s1) E s
 done:∀ (X:Cx),X.prog=P->X.w=w->X.K=K->X.calm=true->∀ (i:Nat) (pins:List (Addr×Obj)) (s:Shared) (σ:St) (H:Hp) (E:Value->Shared->Prop),Inv X pins σ H s->(∀ b∈fp,jh X pins H b)->tn i s.heap->J.stop i H →
  wpAny (model P w) X.A (pyNext (.ref it)) (fun r s1=>r=none/\Inv X pins σ H s1) E s
 self:∀ (A:Around) (i:Nat) (s:Shared) (Q:Value->Shared->Prop) (E:Value->Shared->Prop),tn i s.heap->Q (.ref it) s->wpAny (model P w) A (pyIter (.ref it)) Q E s
abbrev TI:=St->Hp->(It->Hp->Prop)->Prop
def PIE (X:Cx) (pins:List (Addr×Obj)) (σ:St) (tg:Expr) (R:It->Hp->Prop) (itv:Value) (s2:Shared):Prop :=
 ∃ (it:Addr) (fp:List Addr) (tn:Nat->Heap->Prop) (J:It) (H':Hp),itv=.ref it/\Inv X pins σ H' s2/\iG X.prog X.w X.K tg J fp it tn/\tn 0 s2.heap/\(∀ b∈fp,jh X pins H' b)/\R J H'
def PI (X:Cx) (tg iter:Expr) (wi:TI):Prop :=
 ∀ (pins:List (Addr×Obj)) (s:Shared) (σ:St) (H:Hp) (R:It->Hp->Prop),Inv X pins σ H s->wi σ H R →
   wpAny (model X.prog X.w) X.A (eval iter X.env) (fun v s1=>wpAny (model X.prog X.w) X.A (pyIter v) (PIE X pins σ tg R) X.xe s1) X.xe s
theorem lz {M:Model} {A:Around} {E:Value->Shared->Prop} {s:Shared} {tg:Expr} {it:Addr} {u:Value} {o:Obj} {n:String} {vs:Array Value} {Q:Unit->Shared->Prop} (ho:s.heap.get? it=some o) (hc:o.cls=.type n) (hd:o.data=.fields vs)
 (hn:["enumerate","zip","dict_itemiterator","dict_reverseitemiterator","odict_iterator","itertools.zip_longest","itertools.pairwise"].contains n=false) (hQ:Q () s):wpAny M A (letOwnedTupleGo tg (.ref it) u) Q E s:=by
 unfold letOwnedTupleGo
 cases tg <;> first
  | exact wpAny_pure hQ
  | (cases u <;> first
   | exact wpAny_pure hQ
   | (refine wpAny_bind (wpAny_load ho ?_)
      rw [hc,hd];show wpAny M A (if (["enumerate","zip","dict_itemiterator","dict_reverseitemiterator","odict_iterator","itertools.zip_longest","itertools.pairwise"].contains n && vs[0]? == some (rawInt _))=true then _ else _) Q E s;rw [if_neg (by intro h;rw [hn,Bool.false_and] at h;cases h)];exact wpAny_pure hQ))
def Itl (K:PySem.W.Frag) (a:Addr):It :=
 ⟨fun i H=>∃ xs x,SqL K H a xs/\xs[i]?=some x,fun i H x H'=>H'=H/\∀ xs,SqL K H a xs->xs[i]?=some x,fun i H=>∃ xs,SqL K H a xs/\xs.length<=i⟩
def Itt (K:PySem.W.Frag) (a:Addr):It :=
 ⟨fun i H=>∃ xs x,SqT K H a xs/\xs[i]?=some x,fun i H x H'=>H'=H/\∀ xs,SqT K H a xs->xs[i]?=some x,fun i H=>∃ xs,SqT K H a xs/\xs.length<=i⟩
def Itr (lo:Int) (n:Nat):It:=⟨fun i _=>i<n,fun i H x H'=>H'=H/\x=.int (lo+i),fun i _=>n<=i⟩
theorem pW {P:Program} {w:World} {K:PySem.W.Frag} {tg:Expr} (a it:Addr):iG P w K tg (Itl K a) [it] it (fun i h=>h.IsListIter it a i) where
 mem:=by simp
 obj:=fun i h st b hb=>by
  have e:b=it:=by simpa using hb
  subst e;obtain ⟨o,e,c,d⟩:=st;exact ⟨o,e,fun v z=>by rw [d] at z;cases z⟩
 keep:=fun i h h' st k=>st.at fun o e=>k it (by simp) o e
 item:=by
  intro X hP hw hK hc i pins s σ H E I hf st hg;subst hP hw hK;obtain ⟨xs,x,hq,hx⟩:=hg;obtain ⟨its,rv,p,hz⟩:=I.list hq;obtain ⟨u,hu,ru⟩:=rv.get hx;obtain ⟨f0,f1,f2,f3,f4,f5⟩:=hf it (by simp);refine wpAny_pyNext_list_item st p.isList (x:=u) (by simpa using hu) fun h' st' sb=>?_;have I1:Inv X pins σ H { s with heap:=h' }:=I.turned (t':=s.toks) (fun b o hb e=>(sb.2 b hb).trans e) f0 f1 f3 f4 f5;obtain ⟨o,e,c,d⟩:=id st';exact ⟨u,rfl,lz (s:={ s with heap:=h' }) e c d (by decide) ⟨x,H,I1,ru,⟨rfl,fun ys hy=>by rw [I.list_inj hy hq];exact hx⟩,st',fun b hb=>(hf b hb).1⟩⟩
 done:=by
  intro X hP hw hK hc i pins s σ H E I hf st hg;subst hP hw hK;obtain ⟨xs,hq,hx⟩:=hg;obtain ⟨its,rv,p,hz⟩:=I.list hq;obtain ⟨f0,f1,f2,f3,f4,f5⟩:=hf it (by simp);have hl:=rv.length;exact wpAny_pyNext_list_end (I.ok.hd hc) st p.isList (by simp;omega) fun h' eb=>⟨rfl,I.turned (t':=s.toks) (fun b o hb e=>eb b o hb e) f0 f1 f3 f4 f5⟩
 self:=fun _ _ _ _ _ st h=>wpAny_pyIter_listiter st h
theorem n5 {P:Program} {w:World} {K:PySem.W.Frag} {tg:Expr} (a it:Addr):iG P w K tg (Itt K a) [it] it (fun i h=>h.IsTupleIter it a i) where
 mem:=by simp
 obj:=fun i h st b hb=>by
  have e:b=it:=by simpa using hb
  subst e;obtain ⟨o,e,c,d⟩:=st;exact ⟨o,e,fun v z=>by rw [d] at z;cases z⟩
 keep:=fun i h h' st k=>st.at fun o e=>k it (by simp) o e
 item:=by
  intro X hP hw hK hc i pins s σ H E I hf st hg;subst hP hw hK;obtain ⟨xs,x,hq,hx⟩:=hg;obtain ⟨its,rv,p,hz⟩:=I.tuple hq;obtain ⟨u,hu,ru⟩:=rv.get hx;obtain ⟨f0,f1,f2,f3,f4,f5⟩:=hf it (by simp);refine wpAny_pyNext_tuple_item st (show s.heap.IsTuple a its.toArray from p) (x:=u) (by simpa using hu) fun h' st' sb=>?_;have I1:Inv X pins σ H { s with heap:=h' }:=I.turned (t':=s.toks) (fun b o hb e=>(sb.2 b hb).trans e) f0 f1 f3 f4 f5;obtain ⟨o,e,c,d⟩:=id st';exact ⟨u,rfl,lz (s:={ s with heap:=h' }) e c d (by decide) ⟨x,H,I1,ru,⟨rfl,fun ys hy=>by rw [I.tuple_inj hy hq];exact hx⟩,st',fun b hb=>(hf b hb).1⟩⟩
 done:=by
  intro X hP hw hK hc i pins s σ H E I hf st hg;subst hP hw hK;obtain ⟨xs,hq,hx⟩:=hg;obtain ⟨its,rv,p,hz⟩:=I.tuple hq;obtain ⟨f0,f1,f2,f3,f4,f5⟩:=hf it (by simp);have hl:=rv.length;exact wpAny_pyNext_tuple_end (I.ok.hd hc) st (show s.heap.IsTuple a its.toArray from p) (by simp;omega) fun h' eb=>⟨rfl,I.turned (t':=s.toks) (fun b o hb e=>eb b o hb e) f0 f1 f3 f4 f5⟩
 self:=fun _ _ _ _ _ st h=>wpAny_pyIter_tupleiter st h
theorem oT {P:Program} {w:World} {K:PySem.W.Frag} {tg:Expr} (it:Addr) (lo:Int) (n:Nat):iG P w K tg (Itr lo n) [it] it (fun i h=>IsRangeIter h it (lo+(i:Nat) * 1) ((n:Int) - (i:Nat)) 1) where
 mem:=by simp
 obj:=fun i h st b hb=>by
  have e:b=it:=by simpa using hb
  subst e
  exact ⟨_,st,fun v z=>by
   have z':Data.fields _=Data.cell v:=z;cases z'⟩
 keep:=fun i h h' st k=>k it (by simp) _ st
 item:=by
  intro X hP hw hK hc i pins s σ H E I hf st hg;subst hP hw hK;obtain ⟨f0,f1,f2,f3,f4,f5⟩:=hf it (by simp);have W:=Walks.range (prog:=X.prog) (w:=X.w) (I.ok.hd hc) it lo 1 n;refine W.item i s _ _ hg st fun v h' tk hv st' kk=>?_;obtain ⟨t,rfl⟩:=hv;have I1:Inv X pins σ H { s with heap:=h',toks:=tk }:=I.turned (fun b o hb e=>kk b o (by simpa using hb) e) f0 f1 f3 f4 f5;refine ⟨_,rfl,lz (s:={ s with heap:=h',toks:=tk }) (n:="range_iterator") st' rfl rfl (by decide) ⟨.int (lo+i),H,I1,⟨t,?_⟩,⟨rfl,rfl⟩,st',fun b hb=>(hf b hb).1⟩⟩;rw [Int.mul_one]
 done:=by
  intro X hP hw hK hc i pins s σ H E I hf st hg;subst hP hw hK;obtain ⟨f0,f1,f2,f3,f4,f5⟩:=hf it (by simp);exact wpAny_pyNext_range_end (I.ok.hd hc) st (by have:n<=i:=hg;omega) fun h' eb=>⟨rfl,I.turned (t':=s.toks) (fun b o hb e=>eb b o hb e) f0 f1 f3 f4 f5⟩
 self:=fun _ _ _ _ _ st h=>wpAny_pyIter_rangeiter st h
end L2
namespace L2
open PySem PySem.Spec PyProof.Rows
section
variable {X:Cx} {tg:Expr}
def vJ (K:PySem.W.Frag) (tl:TE):TI:=fun σ H R=>tl σ H fun x H1=>∃ a,x=.ref a/\(∃ xs,SqL K H1 a xs)/\R (Itl K a) H1
def wj (K:PySem.W.Frag) (tl:TE):TI:=fun σ H R=>tl σ H fun x H1=>∃ a,x=.ref a/\(∃ xs,SqT K H1 a xs)/\R (Itt K a) H1
theorem cI {l:Expr} {tl:TE} (hl:PE X l tl):PI X tg l (vJ X.K tl):=by
 intro pins s σ H R I h;refine thn (hl pins s σ H _ I h) fun v s1 ⟨x,H1,I1,r1,q1⟩=>?_;obtain ⟨a,e,⟨xs,hq⟩,q⟩:=q1;subst e;cases r1;obtain ⟨its,rv,p,hz⟩:=I1.list hq;refine wpAny_pyIter_list p.isList ?_;refine ⟨s1.heap.objs.size,[s1.heap.objs.size],_,_,H1,rfl,I1.kept (t':=s1.toks) fun b o e=>Heap.get?_push_of_some _ e,pW a _,⟨_,Heap.get?_push_size _ rfl,rfl,rfl⟩,fun b hb=>?_,q⟩;have e:b=s1.heap.objs.size:=by simpa using hb
 subst e;exact I1.fpOk (Nat.le_refl _) (I1.hok.fresh (Nat.le_refl _))
theorem du {l:Expr} {tl:TE} (hl:PE X l tl):PI X tg l (wj X.K tl):=by
 intro pins s σ H R I h;refine thn (hl pins s σ H _ I h) fun v s1 ⟨x,H1,I1,r1,q1⟩=>?_;obtain ⟨a,e,⟨xs,hq⟩,q⟩:=q1;subst e;cases r1;obtain ⟨its,rv,p,hz⟩:=I1.tuple hq;refine wpAny_pyIter_tuple (show s1.heap.IsTuple a its.toArray from p) ?_;refine ⟨s1.heap.objs.size,[s1.heap.objs.size],_,_,H1,rfl,I1.kept (t':=s1.toks) fun b o e=>Heap.get?_push_of_some _ e,n5 a _,⟨_,Heap.get?_push_size _ rfl,rfl,rfl⟩,fun b hb=>?_,q⟩;have e:b=s1.heap.objs.size:=by simpa using hb
 subst e;exact I1.fpOk (Nat.le_refl _) (I1.hok.fresh (Nat.le_refl _))
theorem rs {pins:List (Addr×Obj)} {σ:St} {H:Hp} {s:Shared} {R:It->Hp->Prop} {E:Value->Shared->Prop} {lo hi:Int} {t u v:Tok} {tk:Nat} (I:Inv X pins σ H s) (h1:-(2 ^ 62)<=lo) (h2:lo<2 ^ 62) (h3:-(2 ^ 62)<=hi) (h4:hi<2 ^ 62)
 (q:R (Itr lo (hi - lo).toNat) H):wpAny (model X.prog X.w) X.A (pyIter (.ref s.heap.objs.size)) (PIE X pins σ tg R) E { s with heap:=s.heap.push { cls:=.type "range",data:=.fields #[.int lo t,.int hi u,.int 1 v] },toks:=tk }:=by
 refine wpAny_pyIter_range (IsRange.new ..) (small_one h1 h2 h3 h4) ?_;have I1:Inv X pins σ H { s with heap:=s.heap.push { cls:=.type "range",data:=.fields #[.int lo t,.int hi u,.int 1 v] },toks:=tk }:=I.kept fun b o e=>Heap.get?_push_of_some _ e
 refine ⟨(s.heap.push { cls:=.type "range",data:=.fields #[.int lo t,.int hi u,.int 1 v] }).objs.size,[(s.heap.push { cls:=.type "range",data:=.fields #[.int lo t,.int hi u,.int 1 v] }).objs.size],_,_,H,rfl,
  I1.kept (t':=tk) fun b o e=>Heap.get?_push_of_some _ e,oT _ lo (hi - lo).toNat,?_,fun b hb=>?_,q⟩
 · have e1:lo+((0:Nat):Int) * 1=lo:=by simp
   have e2:(((hi - lo).toNat:Nat):Int) - ((0:Nat):Int)=Builtin.Range.rangeSize lo hi 1:=by rw [rangeSize_one];split <;> omega
   show IsRangeIter _ _ (lo+((0:Nat):Int) * 1) ((((hi - lo).toNat:Nat):Int) - ((0:Nat):Int)) 1;rw [e1,e2];exact Heap.get?_push_size _ rfl
 · have e:b=(s.heap.push { cls:=.type "range",data:=.fields #[.int lo t,.int hi u,.int 1 v] }).objs.size:=by simpa using hb
   subst e;exact I1.fpOk (Nat.le_refl _) (I1.hok.fresh (Nat.le_refl _))
def vm (ta:TA):TI:=fun σ H R=>ta σ H fun vs H1=>∃ j:Int,vs=[.int j]/\-(2 ^ 62)<=j/\j<2 ^ 62/\R (Itr 0 j.toNat) H1
theorem bT {a:Expr} {ta:TA} {p pos:Pos} (hg:Gl X "range") (hm:X.mg "range"=none) (ha:PA X [a] ta) (hs:starEach [a] X.env=[(false,eval a X.env)]:=by rfl):PI X tg (.Call (.Name "range" p) [a] [] pos) (vm ta):=by
 intro pins s σ H R I h;refine Call_ (fH I hg hm boot_range (PyProof.Rows.callWith_type1 (thn (ha pos pins s σ H _ I h) fun us s1 ⟨vs,H1,I1,r1,q1⟩=>?_) hs rfl));obtain ⟨j,e,q1,q2,q⟩:=q1;subst e;cases r1 with
 | cons r rr =>
   cases rr;obtain ⟨t,rfl⟩:=r;exact call_range_1 (rs I1 (by omega) (by omega) q1 q2 (by simpa using q))
def wc (wi:TI) (g:TG) (tb:TS):TS:=fun D σ H=>wi σ H fun J H1=>∃ W:Nat->Nat->St->Hp->Prop,(∃ m,W 0 m σ H1)/\∀ i m σ H,W i m σ H →
 (J.stop i H/\D.nx σ H)∨(J.go i H/\∃ N:St->Hp->Prop,(∀ σ' H',N σ' H'->∃ m',m'<m/\W (i+1) m' σ' H')/\∀ x H',J.yld i H x H'->g x σ H' fun σ2 H2=>tb { D with nx:=N,ct:=N,bk:=D.nx } σ2 H2)
def kf (fp:List Addr) (h:Heap):List (Addr×Obj):=fp.filterMap fun b=>(h.get? b).map fun o=>(b,o)
theorem eG {fp:List Addr} {h:Heap} {b:Addr} {o:Obj} (hb:b∈fp) (e:h.get? b=some o):(b,o)∈kf fp h:=List.mem_filterMap.mpr ⟨b,hb,by rw [e];rfl⟩
theorem qk {fp:List Addr} {h:Heap} {p:Addr×Obj} (hp:p∈kf fp h):p.1∈fp/\h.get? p.1=some p.2:=by
 obtain ⟨b,hb,e⟩:=List.mem_filterMap.mp hp;cases q:h.get? b with
 | none=>rw [q] at e;cases e
 | some o =>
   rw [q] at e;have e':(b,o)=p:=Option.some.inj e;subst e';exact ⟨hb,q⟩
theorem Inv.pinned {pins:List (Addr×Obj)} {σ:St} {H:Hp} {s:Shared} {fp:List Addr} (I:Inv X pins σ H s) (hf:∀ b∈fp,jh X pins H b) (ho:∀ b∈fp,∃ o,s.heap.get? b=some o/\∀ v,o.data≠.cell v):Inv X (pins++kf fp s.heap) σ H s :=
 I.pins_of fun p hp=>(List.mem_append.mp hp).elim (fun z=>I.pin p (List.mem_append_right _ z)) fun z=>by
  obtain ⟨hb,e⟩:=qk z;obtain ⟨f0,f1,f2,_⟩:=hf p.1 hb;obtain ⟨o,e',d⟩:=ho p.1 hb;rw [e] at e';cases e';exact ⟨e,f0,f1,f2,d⟩
theorem Inv.unpinned {pins pl:List (Addr×Obj)} {σ:St} {H:Hp} {s:Shared} (I:Inv X (pins++pl) σ H s):Inv X pins σ H s:=I.pins_of fun p hp=>I.pin p (List.mem_append_right _ (List.mem_append_left _ hp))
theorem bB {iter:Expr} {body:List Stmt} {wi:TI} {g:TG} {tb:TS} {pos:Pos} (hp:PassesOwn (model X.prog X.w) X.A X.env X.xe) (hc:X.calm=true) (hi:PI X tg iter wi) (hg:PG X tg g) (hb:PSs X body tb)
 (hs:∀ x,foldedSetIterable iter X.env x=pure x:=by intro _;rfl):PS X (.For tg iter body [] pos) (wc wi g tb):=by
 intro pins s σ H D I h;refine wpAny_For (thn (hi pins s σ H _ I h) fun v s1 h1=>thn h1 fun itv s2 h2=>?_) hs;obtain ⟨it,fp,tn,J,H2,e,I2,T,st2,f2,W,⟨m0,w0⟩,turn⟩:=h2;subst e
 -- what stays true of the iterator's objects through the loop
 have stat:∀ {H':Hp},(∀ b∈fp,H' b=none)->∀ b∈fp,jh X pins H' b:=fun hn b hb=>⟨hn b hb,(f2 b hb).2⟩;refine codeAny_forLoop_any (fun n s'=>∃ i σ' H',Inv X pins σ' H' s'/\tn i s'.heap/\(∀ b∈fp,H' b=none)/\W i n σ' H') ?_ m0 ⟨0,σ,H2,I2,st2,fun b hb=>(f2 b hb).1,w0⟩;rintro n s3 ⟨i,σ3,H3,I3,st3,fr3,w3⟩;rcases turn i n σ3 H3 w3 with ⟨stop,qn⟩ | ⟨go,N,hN,step⟩
 · refine wpAny_passesOwn hp (thn (T.done X rfl rfl rfl hc i pins s3 σ3 H3 X.xe I3 (stat fr3) st3 stop) fun r s4 ⟨hr,I4⟩=>?_);subst hr;exact wpAny_execs_nil ⟨σ3,H3,I4,qn⟩
 · refine wpAny_passesOwn hp (thn (T.item X rfl rfl rfl hc i pins s3 σ3 H3 X.xe I3 (stat fr3) st3 go) fun r s4 ⟨u,hr,h4⟩=>?_);subst hr;refine wpAny_passesOwn hp (thn h4 fun _ s5 ⟨x,H5,I5,r5,y5,st5,fr5⟩=>?_);have I5':=I5.pinned (stat fr5) (T.obj _ _ st5);refine wpAny_passesOwn hp (thn (hg _ s5 σ3 H5 x u _ I5' r5 (step x H5 y5)) fun _ s6 ⟨σ6,H6,I6,q6⟩=>?_);refine wpAny_passesOwn hp (thn (hb _ s6 σ6 H6 _ I6 q6) fun f s7 q7=>?_)
   have again:∀ {σ7:St} {H7:Hp},Inv X (pins++kf fp s5.heap) σ7 H7 s7->N σ7 H7->∃ m,m<n/\∃ i σ' H',Inv X pins σ' H' s7/\tn i s7.heap/\(∀ b∈fp,H' b=none)/\W i m σ' H':=fun {σ7 H7} I7 n7=>by
    obtain ⟨m',hm,w7⟩:=hN σ7 H7 n7;refine ⟨m',hm,i+1,σ7,H7,I7.unpinned,T.keep _ _ _ st5 fun b hb o e=>(I7.pin (b,o) (List.mem_append_right _ (List.mem_append_right _ (eG hb e)))).1,fun b hb=>?_,w7⟩;obtain ⟨o,e,d⟩:=T.obj _ _ st5 b hb;exact (I7.pin (b,o) (List.mem_append_right _ (List.mem_append_right _ (eG hb e)))).2.1
   cases f with
   | next=>obtain ⟨σ7,H7,I7,n7⟩:=q7;exact again I7 n7
   | cont=>obtain ⟨σ7,H7,I7,n7⟩:=q7;exact again I7 n7
   | brk=>obtain ⟨σ7,H7,I7,q7⟩:=q7;exact ⟨σ7,H7,I7.unpinned,q7⟩
   | ret v=>obtain ⟨x7,σ7,H7,I7,r7,q7⟩:=q7;exact ⟨x7,σ7,H7,I7.unpinned,r7,q7⟩
end
theorem io {K:PySem.W.Frag} {a:Addr} {xs:List V} {g:TG} {tb:TS} {D:fu} {σ:St} {H:Hp} (Pv:Nat->St->Hp->Prop) (h0:Pv 0 σ H) (hl:∀ i σ H,i<=xs.length->Pv i σ H->SqL K H a xs)
 (hs:∀ i x σ H,xs[i]?=some x->Pv i σ H->g x σ H fun σ2 H2=>tb { D with nx:=Pv (i+1),ct:=Pv (i+1),bk:=D.nx } σ2 H2) (hd:∀ σ H,Pv xs.length σ H->D.nx σ H) :
 ∃ W:Nat->Nat->St->Hp->Prop,(∃ m,W 0 m σ H)/\∀ i m σ H,W i m σ H →
   ((Itl K a).stop i H/\D.nx σ H)∨((Itl K a).go i H/\∃ N:St->Hp->Prop,(∀ σ' H',N σ' H'->∃ m',m'<m/\W (i+1) m' σ' H')/\∀ x H',(Itl K a).yld i H x H'->g x σ H' fun σ2 H2=>tb { D with nx:=N,ct:=N,bk:=D.nx } σ2 H2):=by
 refine ⟨fun i m σ H=>m=xs.length - i/\i<=xs.length/\Pv i σ H,⟨xs.length,by simp,Nat.zero_le _,h0⟩,?_⟩;rintro i m σ H ⟨rfl,hi,p⟩;have q:=hl i σ H hi p;by_cases hlt:i<xs.length
 · refine .inr ⟨⟨xs,xs[i],q,by simp [hlt]⟩,Pv (i+1),fun σ' H' p'=>⟨xs.length - (i+1),by omega,rfl,hlt,p'⟩,fun x H' y=>?_⟩;obtain ⟨e,y⟩:=y;subst e;exact hs i x σ _ (y xs q) p
 · have e:i=xs.length:=by omega
   subst e;exact .inl ⟨⟨xs,q,Nat.le_refl _⟩,hd σ H p⟩
theorem sg {K:PySem.W.Frag} {a:Addr} {xs:List V} {g:TG} {tb:TS} {D:fu} {σ:St} {H:Hp} (Pv:Nat->St->Hp->Prop) (h0:Pv 0 σ H) (hl:∀ i σ H,i<=xs.length->Pv i σ H->SqT K H a xs)
 (hs:∀ i x σ H,xs[i]?=some x->Pv i σ H->g x σ H fun σ2 H2=>tb { D with nx:=Pv (i+1),ct:=Pv (i+1),bk:=D.nx } σ2 H2) (hd:∀ σ H,Pv xs.length σ H->D.nx σ H) :
 ∃ W:Nat->Nat->St->Hp->Prop,(∃ m,W 0 m σ H)/\∀ i m σ H,W i m σ H →
   ((Itt K a).stop i H/\D.nx σ H)∨((Itt K a).go i H/\∃ N:St->Hp->Prop,(∀ σ' H',N σ' H'->∃ m',m'<m/\W (i+1) m' σ' H')/\∀ x H',(Itt K a).yld i H x H'->g x σ H' fun σ2 H2=>tb { D with nx:=N,ct:=N,bk:=D.nx } σ2 H2):=by
 refine ⟨fun i m σ H=>m=xs.length - i/\i<=xs.length/\Pv i σ H,⟨xs.length,by simp,Nat.zero_le _,h0⟩,?_⟩;rintro i m σ H ⟨rfl,hi,p⟩;have q:=hl i σ H hi p;by_cases hlt:i<xs.length
 · refine .inr ⟨⟨xs,xs[i],q,by simp [hlt]⟩,Pv (i+1),fun σ' H' p'=>⟨xs.length - (i+1),by omega,rfl,hlt,p'⟩,fun x H' y=>?_⟩;obtain ⟨e,y⟩:=y;subst e;exact hs i x σ _ (y xs q) p
 · have e:i=xs.length:=by omega
   subst e;exact .inl ⟨⟨xs,q,Nat.le_refl _⟩,hd σ H p⟩
theorem bR {lo:Int} {n:Nat} {g:TG} {tb:TS} {D:fu} {σ:St} {H:Hp} (Pv:Nat->St->Hp->Prop) (h0:Pv 0 σ H)
 (hs:∀ i σ H,i<n->Pv i σ H->g (.int (lo+i)) σ H fun σ2 H2=>tb { D with nx:=Pv (i+1),ct:=Pv (i+1),bk:=D.nx } σ2 H2) (hd:∀ σ H,Pv n σ H->D.nx σ H) :
 ∃ W:Nat->Nat->St->Hp->Prop,(∃ m,W 0 m σ H)/\∀ i m σ H,W i m σ H →
   ((Itr lo n).stop i H/\D.nx σ H)∨((Itr lo n).go i H/\∃ N:St->Hp->Prop,(∀ σ' H',N σ' H'->∃ m',m'<m/\W (i+1) m' σ' H')/\∀ x H',(Itr lo n).yld i H x H'->g x σ H' fun σ2 H2=>tb { D with nx:=N,ct:=N,bk:=D.nx } σ2 H2):=by
 refine ⟨fun i m σ H=>m=n - i/\i<=n/\Pv i σ H,⟨n,by simp,Nat.zero_le _,h0⟩,?_⟩;rintro i m σ H ⟨rfl,hi,p⟩;by_cases hlt:i<n
 · refine .inr ⟨hlt,Pv (i+1),fun σ' H' p'=>⟨n - (i+1),by omega,rfl,hlt,p'⟩,fun x H' y=>?_⟩;obtain ⟨e,y⟩:=y;subst e y;exact hs i σ _ hlt p
 · have e:i=n:=by omega
   subst e;exact .inl ⟨Nat.le_refl _,hd σ H p⟩
end L2
namespace L2
open PySem PySem.Spec PyProof.Rows
abbrev R2:=V->V->Hp->VK->Prop
def OpR (X:Cx) (f:Value->Value->Sem Value) (r:R2):Prop :=
 ∀ (pins:List (Addr×Obj)) (s:Shared) (σ:St) (H:Hp) (x y:V) (v u:Value) (Q:VK),Inv X pins σ H s->RelV x v->RelV y u->r x y H Q →
   wpAny (model X.prog X.w) X.A (f v u) (EP X pins σ Q) X.xe s
def UnR (X:Cx) (f:Value->Sem Value) (r:V->Hp->VK->Prop):Prop :=
 ∀ (pins:List (Addr×Obj)) (s:Shared) (σ:St) (H:Hp) (x:V) (v:Value) (Q:VK),Inv X pins σ H s->RelV x v->r x H Q →
   wpAny (model X.prog X.w) X.A (f v) (EP X pins σ Q) X.xe s
def eZ (X:Cx) (f:Value) (r:List V->Hp->VK->Prop):Prop :=
 ∀ (pins:List (Addr×Obj)) (s:Shared) (σ:St) (H:Hp) (xs:List V) (us:List Value) (Q:VK),Inv X pins σ H s->Vals xs us->r xs H Q →
   wpAny (model X.prog X.w) X.A (call f us) (EP X pins σ Q) X.xe s
def vT (X:Cx) (r:V->Hp->(Bool->Hp->Prop)->Prop):Prop :=
 ∀ (pins:List (Addr×Obj)) (s:Shared) (σ:St) (H:Hp) (x:V) (v:Value) (Q:Bool->Hp->Prop),Inv X pins σ H s->RelV x v->r x H Q →
   wpAny (model X.prog X.w) X.A (truthy v) (TP X pins σ Q) X.xe s
def tOp (r:R2) (ta tb:TE):TE:=fun σ H Q=>ta σ H fun x H1=>tb σ H1 fun y H2=>r x y H2 Q
def tUn (r:V->Hp->VK->Prop) (ta:TE):TE:=fun σ H Q=>ta σ H fun x H1=>r x H1 Q
inductive IrI (C:Int->Int->Prop) (g:Int->Int->V) (x:V) (y:V) (H:Hp) (Q:VK):Prop
 | mk (i:_) (j:_) (zz0:x=.int i) (zz1:y=.int j) (zz2:C i j) (zz3:Q (g i j) H):IrI C g x y H Q
def rI (C:Int->Int->Prop) (g:Int->Int->V):R2:=IrI C g
inductive vK (g:Int->Int->V) (x:V) (y:V) (H:Hp) (Q:VK):Prop
 | mk (i:_) (j:_) (zz0:x=.int i) (zz1:y=.int j) (zz2:Q (g i j) H):vK g x y H Q
def rI0 (g:Int->Int->V):R2:=vK g
inductive IrU (g:Int->V) (x:V) (H:Hp) (Q:VK):Prop
 | mk (i:_) (zz0:x=.int i) (zz1:Q (g i) H):IrU g x H Q
def rU (g:Int->V):V->Hp->VK->Prop:=IrU g
section
variable {X:Cx} {a b c:Expr} {ta tb tc:TE} {pos:Pos}
theorem uD (ha:PE X a ta) (hb:PE X b tb) {pins:List (Addr×Obj)} {s:Shared} {σ:St} {H:Hp} {R:V->V->Hp->Prop} (I:Inv X pins σ H s)
 (h:ta σ H fun x H1=>tb σ H1 fun y H2=>R x y H2) {Q:Value->Shared->Prop} {f:Value->Value->Sem Value}
 (hf:∀ v u s2 x y H2,Inv X pins σ H2 s2->RelV x v->RelV y u->R x y H2->wpAny (model X.prog X.w) X.A (f v u) Q X.xe s2) :
 wpAny (model X.prog X.w) X.A (eval a X.env) (fun v s₁=>wpAny (model X.prog X.w) X.A (eval b X.env) (fun u s₂=>wpAny (model X.prog X.w) X.A (f v u) Q X.xe s₂) X.xe s₁) X.xe s:=by
 refine thn (ha pins s σ H _ I h) fun v s1 ⟨x,H1,I1,r1,q1⟩=>?_;refine thn (hb pins s1 σ H1 _ I1 q1) fun u s2 ⟨y,H2,I2,r2,q2⟩=>?_;exact hf v u s2 x y H2 I2 r1 r2 q2
theorem av {op:Operator} {r:R2} (ho:OpR X (binaryOp op) r) (ha:PE X a ta) (hb:PE X b tb):PE X (.BinOp a op b pos) (tOp r ta tb):=by
 intro pins s σ H Q I h;exact wpAny_BinOp (uD ha hb I h fun v u s2 x y H2 I2 rx ry q=>ho pins s2 σ H2 x y v u Q I2 rx ry q)
theorem vq {op:UnaryOp} {r:V->Hp->VK->Prop} (ho:UnR X (unaryOp op) r) (ha:PE X a ta):PE X (.UnaryOp op a pos) (tUn r ta):=by
 intro pins s σ H Q I h;exact UnaryOp_ (thn (ha pins s σ H _ I h) fun v s1 ⟨x,H1,I1,r1,q1⟩=>ho pins s1 σ H1 x v Q I1 r1 q1)
theorem opI {f:Value->Value->Sem Value} {C:Int->Int->Prop} {g:Int->Int->Int}
 (rule:∀ (i j:Int) (t u:Tok) (s:Shared) (Q:Value->Shared->Prop) (E:Value->Shared->Prop),C i j->Q (.int (g i j) s.toks) { s with toks:=s.toks+1 }->wpAny (model X.prog X.w) X.A (f (.int i t) (.int j u)) Q E s) :
 OpR X f (rI C fun i j=>.int (g i j)):=by
 intro pins s σ H x y v u Q I rx ry h;obtain ⟨i,j,rfl,rfl,hc,q⟩:=h;obtain ⟨t,rfl⟩:=rx;obtain ⟨t',rfl⟩:=ry;exact rule i j t t' s _ _ hc ⟨.int (g i j),H,I.tok _,⟨_,rfl⟩,q⟩
theorem vb {f:Value->Value->Sem Value} {g:Int->Int->Int}
 (rule:∀ (i j:Int) (t u:Tok) (s:Shared) (Q:Value->Shared->Prop) (E:Value->Shared->Prop),Q (.int (g i j) s.toks) { s with toks:=s.toks+1 }->wpAny (model X.prog X.w) X.A (f (.int i t) (.int j u)) Q E s) :
 OpR X f (rI0 fun i j=>.int (g i j)):=by
 intro pins s σ H x y v u Q I rx ry h;obtain ⟨i,j,rfl,rfl,q⟩:=h;obtain ⟨t,rfl⟩:=rx;obtain ⟨t',rfl⟩:=ry;exact rule i j t t' s _ _ ⟨.int (g i j),H,I.tok _,⟨_,rfl⟩,q⟩
theorem uR {f:Value->Value->Sem Value} {g:Int->Int->Bool}
 (rule:∀ (i j:Int) (t u:Tok) (s:Shared) (Q:Value->Shared->Prop) (E:Value->Shared->Prop),Q (.bool (g i j)) s->wpAny (model X.prog X.w) X.A (f (.int i t) (.int j u)) Q E s) :
 OpR X f (rI0 fun i j=>.bl (g i j)):=by
 intro pins s σ H x y v u Q I rx ry h;obtain ⟨i,j,rfl,rfl,q⟩:=h;obtain ⟨t,rfl⟩:=rx;obtain ⟨t',rfl⟩:=ry;exact rule i j t t' s _ _ ⟨.bl (g i j),H,I,rfl,q⟩
def vD (i j:Int):Prop:=0<j/\j<1073741824
def CMul (i j:Int):Prop:=(-(2 ^ 64)<i/\i<2 ^ 64)∨(-(2 ^ 64)<j/\j<2 ^ 64)
theorem CMul.ok {i j:Int} (h:CMul i j):IntMulOk i j:=by
 rcases h with ⟨h1,h2⟩ | ⟨h1,h2⟩
 · exact .of_left (intBits_le_64 h1 h2)
 · exact .of_right (intBits_le_64 h1 h2)
theorem bq:OpR X (binaryOp .Add) (rI0 fun i j=>.int (i+j)):=vb fun _ _ _ _ _ _ _ q=>add_int q
theorem j4:OpR X (binaryOp .Sub) (rI0 fun i j=>.int (i - j)):=vb fun _ _ _ _ _ _ _ q=>sub_int q
theorem dq:OpR X (binaryOp .Mult) (rI CMul fun i j=>.int (i * j)):=opI fun _ _ _ _ _ _ _ hc q=>mul_int q hc.ok
theorem bC:OpR X (binaryOp .FloorDiv) (rI vD fun i j=>.int (i / j)):=opI fun i j _ _ _ _ _ hc q=>by
 have h1:(0:Int)<j:=hc.1;have h2:j<1073741824:=hc.2;exact floordiv_int (by omega) (by rw [Int.fdiv_eq_ediv_of_nonneg i (by omega)];exact q) (.inl (PyProof.noPylong_small (by omega)))
theorem bf:OpR X (binaryOp .Mod) (rI (fun _ j=>0<j) fun i j=>.int (i%j)):=opI fun i j _ _ _ _ _ hc q=>by
 have h1:(0:Int)<j:=hc;exact mod_int' (by omega) (by rw [Int.fmod_eq_emod_of_nonneg i (by omega)];exact q)
theorem unI {f:Value->Sem Value} {g:Int->Int}
 (rule:∀ (i:Int) (t:Tok) (s:Shared) (Q:Value->Shared->Prop) (E:Value->Shared->Prop),Q (.int (g i) s.toks) { s with toks:=s.toks+1 }->wpAny (model X.prog X.w) X.A (f (.int i t)) Q E s) :
 UnR X f (rU fun i=>.int (g i)):=by
 intro pins s σ H x v Q I rx h;obtain ⟨i,rfl,q⟩:=h;obtain ⟨t,rfl⟩:=rx;exact rule i t s _ _ ⟨.int (g i),H,I.tok _,⟨_,rfl⟩,q⟩
theorem uM:UnR X (unaryOp .USub) (rU fun i=>.int (-i)):=unI fun _ _ _ _ _ q=>neg_int q
end
def u7:V->V->Bool
 | .non,.non=>true | .non,.int _=>true | .int _,.non=>true | .non,.bl _=>true | .bl _,.non=>true | .non,.str _=>true | .str _,.non=>true
 | .int _,.int _=>true | .bl _,.bl _=>true | .str _,.str _=>true | .byt _,.byt _=>true
 | .int _,.str _=>true | .str _,.int _=>true | .bl _,.str _=>true | .str _,.bl _=>true
 | _,_=>false
inductive vC (x:V) (y:V) (H:Hp) (Q:VK):Prop
 | mk  (zz0:u7 x y=true) (zz1:Q (.bl (decide (x=y))) H):vC  x y H Q
def rEq:R2:=vC
inductive vn (x:V) (y:V) (H:Hp) (Q:VK):Prop
 | mk  (zz0:u7 x y=true) (zz1:Q (.bl (!decide (x=y))) H):vn  x y H Q
def rNe:R2:=vn
theorem pG {i j:Int}:decide (V.int i=V.int j)=(i == j):=by
 rw [Bool.eq_iff_iff];simp
theorem rV {i j:Bool}:decide (V.bl i=V.bl j)=(i == j):=by
 rw [Bool.eq_iff_iff];simp
theorem o9 {i j:Str}:decide (V.str i=V.str j)=(i == j):=by
 rw [Bool.eq_iff_iff];simp
theorem o6 {i j:Array UInt8}:decide (V.byt i=V.byt j)=(i.toList == j.toList):=by
 rw [Bool.eq_iff_iff];cases i;cases j;simp
section
variable {X:Cx} {a b c:Expr} {ta tb tc:TE} {pos:Pos}
theorem aX {pins:List (Addr×Obj)} {σ:St} {H:Hp} {s:Shared} {Q:VK} {k k':Bool} (I:Inv X pins σ H s) (q:Q (.bl k) H) (e:k=k'):EP X pins σ Q (.bool k') s:=by
 subst e;exact ⟨.bl k,H,I,rfl,q⟩
theorem eR:OpR X (compareOp .Eq) rEq:=by
 intro pins s σ H x y v u Q I rx ry h;obtain ⟨hs,q⟩:=h;cases x with
 | non =>
   cases rx;cases y with
   | non=>cases ry;exact PySem.EqNone.eq_none_none (aX I q (by simp))
   | bl j=>cases ry;exact PySem.EqNone.eq_none_bool (aX I q (by simp))
   | int j=>obtain ⟨t',rfl⟩:=ry;exact PySem.EqNone.eq_none_int (aX I q (by simp))
   | str j=>obtain ⟨t',rfl⟩:=ry;exact PySem.EqNone.eq_none_str (aX I q (by simp))
   | _=>exact absurd (show false=true from hs) Bool.false_ne_true
 | bl i =>
   cases rx;cases y with
   | non=>cases ry;exact PySem.EqNone.eq_bool_none (aX I q (by simp))
   | bl j=>cases ry;exact eq_bool (aX I q rV)
   | str j=>obtain ⟨t',rfl⟩:=ry;exact PySem.EqMixed.eq_bool_str (aX I q (by simp))
   | _=>exact absurd (show false=true from hs) Bool.false_ne_true
 | int i =>
   obtain ⟨t,rfl⟩:=rx;cases y with
   | non=>cases ry;exact PySem.EqNone.eq_int_none (aX I q (by simp))
   | int j=>obtain ⟨t',rfl⟩:=ry;exact eq_int (aX I q pG)
   | str j=>obtain ⟨t',rfl⟩:=ry;exact PySem.EqMixed.eq_int_str (aX I q (by simp))
   | _=>exact absurd (show false=true from hs) Bool.false_ne_true
 | str i =>
   obtain ⟨t,rfl⟩:=rx;cases y with
   | non=>cases ry;exact PySem.EqNone.eq_str_none (aX I q (by simp))
   | bl j=>cases ry;exact PySem.EqMixed.eq_str_bool (aX I q (by simp))
   | int j=>obtain ⟨t',rfl⟩:=ry;exact PySem.EqMixed.eq_str_int (aX I q (by simp))
   | str j=>obtain ⟨t',rfl⟩:=ry;exact eq_str (aX I q o9)
   | _=>exact absurd (show false=true from hs) Bool.false_ne_true
 | byt i =>
   obtain ⟨t,rfl⟩:=rx;cases y with
   | byt j=>obtain ⟨t',rfl⟩:=ry;exact PySem.W.eq_bytes (aX I q o6)
   | _=>exact absurd (show false=true from hs) Bool.false_ne_true
 | _=>cases y <;> exact absurd (show false=true from hs) Bool.false_ne_true
theorem vA:OpR X (compareOp .NotEq) rNe:=by
 intro pins s σ H x y v u Q I rx ry h;obtain ⟨hs,q⟩:=h;cases x with
 | non =>
   cases rx;cases y with
   | non=>cases ry;exact PySem.EqNone.ne_none_none (aX I q (by simp))
   | bl j=>cases ry;exact PySem.EqNone.ne_none_bool (aX I q (by simp))
   | int j=>obtain ⟨t',rfl⟩:=ry;exact PySem.EqNone.ne_none_int (aX I q (by simp))
   | str j=>obtain ⟨t',rfl⟩:=ry;exact PySem.EqNone.ne_none_str (aX I q (by simp))
   | _=>exact absurd (show false=true from hs) Bool.false_ne_true
 | bl i =>
   cases rx;cases y with
   | non=>cases ry;exact PySem.EqNone.ne_bool_none (aX I q (by simp))
   | bl j=>cases ry;exact ne_bool (aX I q (congrArg not rV))
   | str j=>obtain ⟨t',rfl⟩:=ry;exact PySem.EqMixed.ne_bool_str (aX I q (by simp))
   | _=>exact absurd (show false=true from hs) Bool.false_ne_true
 | int i =>
   obtain ⟨t,rfl⟩:=rx;cases y with
   | non=>cases ry;exact PySem.EqNone.ne_int_none (aX I q (by simp))
   | int j=>obtain ⟨t',rfl⟩:=ry;exact ne_int (aX I q (congrArg not pG))
   | str j=>obtain ⟨t',rfl⟩:=ry;exact PySem.EqMixed.ne_int_str (aX I q (by simp))
   | _=>exact absurd (show false=true from hs) Bool.false_ne_true
 | str i =>
   obtain ⟨t,rfl⟩:=rx;cases y with
   | non=>cases ry;exact PySem.EqNone.ne_str_none (aX I q (by simp))
   | bl j=>cases ry;exact PySem.EqMixed.ne_str_bool (aX I q (by simp))
   | int j=>obtain ⟨t',rfl⟩:=ry;exact PySem.EqMixed.ne_str_int (aX I q (by simp))
   | str j=>obtain ⟨t',rfl⟩:=ry;exact ne_str (aX I q (congrArg not o9))
   | _=>exact absurd (show false=true from hs) Bool.false_ne_true
 | byt i =>
   obtain ⟨t,rfl⟩:=rx;cases y with
   | byt j=>obtain ⟨t',rfl⟩:=ry;exact PySem.W.ne_bytes (aX I q (congrArg not o6))
   | _=>exact absurd (show false=true from hs) Bool.false_ne_true
 | _=>cases y <;> exact absurd (show false=true from hs) Bool.false_ne_true
theorem tT:OpR X (compareOp .Lt) (rI0 fun i j=>.bl (decide (i<j))):=uR fun _ _ _ _ _ _ _ q=>lt_int q
theorem df:OpR X (compareOp .Gt) (rI0 fun i j=>.bl (decide (j<i))):=uR fun _ _ _ _ _ _ _ q=>gt_int q
theorem vk:OpR X (compareOp .GtE) (rI0 fun i j=>.bl (decide (j<=i))):=uR fun _ _ _ _ _ _ _ q=>ge_int q
theorem aR (b:Expr) {op:CmpOp} (h:op≠.In:=by decide) (h2:op≠.NotIn:=by decide):behindInMarks op b=false:=by
 have e1:(op == CmpOp.In)=false:=by cases op <;> first | rfl | exact absurd rfl h
 have e2:(op == CmpOp.NotIn)=false:=by cases op <;> first | rfl | exact absurd rfl h2
 cases b <;> simp [behindInMarks,e1,e2]
theorem ef {op:CmpOp} {r:R2} (ho:OpR X (compareOp op) r) (ha:PE X a ta) (hb:PE X b tb) (hm:behindInMarks op b=false):PE X (.Compare a [op] [b] pos) (tOp r ta tb):=by
 intro pins s σ H Q I h;exact wpAny_Compare1 (uD ha hb I h fun v u s2 x y H2 I2 rx ry q=>ho pins s2 σ H2 x y v u Q I2 rx ry q) hm
inductive t5 (x:V) (Q:Bool->Hp->Prop) (H':Hp):Prop
 | mk (k:Bool) (zz0:x=.bl k) (zz1:Q k H'):t5 x Q H'
def lx (t:TE):TT:=fun σ H Q=>t σ H fun x H'=>t5 x Q H'
theorem aP {op:CmpOp} {r:R2} (ho:OpR X (compareOp op) r) (ha:PE X a ta) (hb:PE X b tb) (hm:behindInMarks op b=false):PT X (.Compare a [op] [b] pos) (lx (tOp r ta tb)):=by
 intro pins s σ H Q I h
 refine wpAny_isTrue_Compare1 (thn (ha pins s σ H _ I h) fun v s1 ⟨x,H1,I1,r1,q1⟩=>thn (hb pins s1 σ H1 _ I1 q1) fun u s2 ⟨y,H2,I2,r2,q2⟩ =>
  thn (ho pins s2 σ H2 x y v u _ I2 r1 r2 q2) fun c s3 ⟨z,H3,I3,r3,k,e,q3⟩=>?_) hm
 subst e;cases r3;exact wpAny_truthy_bool ⟨H3,I3,q3⟩
def sY (K:PySem.W.Frag) (x:V) (H:Hp) (k:Bool):Prop :=
 match x with
 | .non=>k=false
 | .bl b=>k=b
 | .int i=>k=(i != 0)
 | .str y=>y.length<=sizeLine/\k=((y.length:Int) != 0)
 | .byt y=>y.size<=sizeLine/\k=((y.size:Int) != 0)
 | .ref p=>(∃ xs,SqL K H p xs/\k=!xs.isEmpty)∨(∃ xs,SqT K H p xs/\k=!xs.isEmpty)∨∃ kvs,H p=some (.dK kvs)/\k=!kvs.isEmpty
 | _=>False
theorem oO {κ:Type} {kvs:List (κ×V)} {vs:List (κ×Value)} (r:KV kvs vs):(!vs.isEmpty)=!kvs.isEmpty:=by
 cases r <;> rfl
theorem jU {xs:List V} {its:List Value} (r:Vals xs its):(!its.toArray.isEmpty)=!xs.isEmpty:=by
 cases r <;> simp
theorem fo:(sizeLine:Nat)<2 ^ 63:=by rw [sizeLine_eq];decide
theorem ug:vT X (fun x H Q=>∃ k,sY X.K x H k/\Q k H):=by
 intro pins s σ H x v Q I rx h;obtain ⟨k,e,q⟩:=h;have hl:=fo;have hs:sizeLine=16777216:=sizeLine_eq;cases x with
 | non =>
   cases rx;have e':k=false:=e;subst e';exact truthy_none ⟨H,I,q⟩
 | bl b =>
   cases rx;have e':k=b:=e;subst e';exact wpAny_truthy_bool ⟨H,I,q⟩
 | int i =>
   obtain ⟨t,rfl⟩:=rx;have e':k=(i != 0):=e;subst e';exact PySem.P.truthy_int ⟨H,I,q⟩
 | str y =>
   obtain ⟨t,rfl⟩:=rx;obtain ⟨hy,e'⟩:y.length<=sizeLine/\k=((y.length:Int) != 0):=e;subst e';exact PySem.P.truthy_str (by omega) ⟨H,I.tok _,q⟩
 | byt y =>
   obtain ⟨t,rfl⟩:=rx;obtain ⟨hy,e'⟩:y.size<=sizeLine/\k=((y.size:Int) != 0):=e;subst e';exact PySem.W.truthy_bytes (by omega) ⟨H,I.tok _,q⟩
 | ref p =>
   cases rx;have e':(∃ xs,SqL X.K H p xs/\k=!xs.isEmpty)∨(∃ xs,SqT X.K H p xs/\k=!xs.isEmpty)∨∃ kvs,H p=some (.dK kvs)/\k=!kvs.isEmpty:=e;rcases e' with ⟨xs,hx,e'⟩ | ⟨xs,hx,e'⟩ | ⟨kvs,hx,e'⟩
   · subst e';obtain ⟨its,r,pl,hz⟩:=I.list hx;have hlen:=r.length;exact wpAny_truthy_list pl.isList (by simp only [List.size_toArray];omega) ⟨H,I.tok _,by rw [jU r];exact q⟩
   · subst e';obtain ⟨its,r,pl,hz⟩:=I.tuple hx;have hlen:=r.length;exact truthy_tuple pl (by simp only [List.size_toArray];omega) ⟨H,I.tok _,by rw [jU r];exact q⟩
   · subst e';obtain ⟨hz,hS,vs,r,m⟩:kvs.length<=sizeLine/\(p == sysModules)=false/\∃ vs,KV kvs vs/\s.heap.DictOf (aT X.prog X.w) p vs:=I.hok p _ hx;have hlen:kvs.length=vs.length:=Paired.length r;exact wpAny_truthy_dict hS m (by omega) ⟨H,I.tok _,by rw [oO r];exact q⟩
 | _=>exact (show False from e).elim
theorem b9 (ha:PE X a ta) (he:∀ whole,isTrue a X.env whole=(do let v ← whole;standAt a.pos;holding [v] (truthy v))) :
 PT X a (fun σ H Q=>ta σ H fun x H'=>∃ k,sY X.K x H' k/\Q k H'):=by
 intro pins s σ H Q I h;exact isTrue_plain (thn (ha pins s σ H _ I h) fun v s1 ⟨x,H1,I1,r1,q1⟩=>ug pins s1 σ H1 x v Q I1 r1 q1) (he _)
theorem gG:OpR X (binaryOp .Add) (fun x y H Q=>∃ i j,x=.str i/\y=.str j/\i.length+j.length<=sizeLine/\Q (.str (i++j)) H):=by
 intro pins s σ H x y v u Q I rx ry h;obtain ⟨i,j,rfl,rfl,hz,q⟩:=h;obtain ⟨t,rfl⟩:=rx;obtain ⟨t',rfl⟩:=ry;exact add_str (fun t' tk=>⟨.str (i++j),H,I.tok _,⟨_,rfl⟩,q⟩) hz
theorem i4 {x:V} {us:List Value} (r:Vals [x] us):∃ u,us=[u]/\RelV x u:=by
 cases r with
 | cons r1 r2=>cases r2;exact ⟨_,rfl,r1⟩
theorem pH {x y:V} {us:List Value} (r:Vals [x,y] us):∃ u w',us=[u,w']/\RelV x u/\RelV y w':=by
 cases r with
 | cons r1 r2 =>
   cases r2 with
   | cons r3 r4=>cases r4;exact ⟨_,_,rfl,r1,r3⟩
theorem iN (hc:X.calm=true):eZ X (.builtin "max") (fun xs H Q=>∃ i j,xs=[.int i,.int j]/\Q (.int (if j > i then j else i)) H):=by
 intro pins s σ H xs us Q I r h;obtain ⟨i,j,rfl,q⟩:=h;obtain ⟨u,w',rfl,⟨t,rfl⟩,⟨t',rfl⟩⟩:=pH r;refine max_two_ints (I.ok.hd hc) fun h' tk k=>⟨_,H,I.kept k,?_,q⟩;by_cases hj:j > i
 · rw [if_pos hj,if_pos hj];exact ⟨_,rfl⟩
 · rw [if_neg hj,if_neg hj];exact ⟨_,rfl⟩
theorem ir:eZ X (.type "int") (fun xs H Q=>(∃ i,xs=[.int i]/\Q (.int i) H)∨∃ k,xs=[.bl k]/\Q (.int (if k then 1 else 0)) H):=by
 intro pins s σ H xs us Q I r h;rcases h with ⟨i,rfl,q⟩ | ⟨k,rfl,q⟩
 · obtain ⟨u,rfl,t,rfl⟩:=i4 r;exact call_int_int ⟨.int i,H,I,⟨_,rfl⟩,q⟩
 · obtain ⟨u,rfl,r1⟩:=i4 r;cases r1;exact call_int_bool ⟨.int (if k then 1 else 0),H,I.tok _,⟨_,rfl⟩,q⟩
end
end L2
namespace L2
open PySem PySem.Spec PyProof.Rows
structure ObjM (h:Heap) (x dx C:Addr) (mA:Str->Option Value):Prop where
 obj:h.get? x=some (PySem.W.instObj C dx)
 ns:h.Ns1 dx mA
 ne:dx≠x
theorem qt {h:Heap} {dx:Addr} {mA:Str->Option Value} (n:h.Ns1 dx mA):∃ od,h.get? dx=some od/\∀ name,PySem.W.lookIn name od=some (mA name):=by
 obtain ⟨o,es,ep,ho,hd,hk,_,hm⟩:=n;refine ⟨o,ho,fun name=>?_⟩;have e:=hm name;unfold nsFind findBy at e;rw [<- Array.find?_toList] at e;unfold PySem.W.lookIn;rw [hd];dsimp only;split
 · rename_i y q
   rw [q] at e;exact congrArg some e
 · rename_i q
   rw [q] at e
   have a:es.toList.any (·.refKey)=false:=by
    rw [List.any_eq_false];intro y hy;obtain ⟨z,t,hkey⟩:=hk y (Array.mem_toList_iff.mp hy);simp [DictEntry.refKey,hkey]
   have a':¬ es.toList.any (·.refKey)=true:=by rw [a];exact Bool.false_ne_true
   rw [if_neg a'];exact congrArg some e
theorem ObjM.look {h:Heap} {x dx C:Addr} {mA:Str->Option Value} (I:ObjM h x dx C mA):∃ od,PySem.W.InstAt h x (PySem.W.instObj C dx) C (some od)/\∀ name,PySem.W.lookIn name od=some (mA name) :=
 let ⟨od,ho,hl⟩:=qt I.ns
 ⟨od,⟨I.obj,rfl,rfl,ho⟩,hl⟩
section
variable {prog:Program} {w:World} {A:Around} {E:Value->Shared->Prop} {s:Shared} {K:PySem.W.Frag} {x dx C f:Addr} {mA:Str->Option Value} {name:Str} {v:Value}
theorem sX {expr:Bool} {Q:Value->Shared->Prop} (X:K.In s.heap) (I:ObjM s.heap x dx C mA) (hg:PySem.W.plainGet K C name=true) (hh:PySem.W.hasDictIn K C=true)
 (ha:PySem.W.findIn K (.ref C) name=some none) (hv:mA name=some v) (hv':PySem.W.handedIn v=true) (h:Q v { s with toks:=s.toks+1 }) :
 wpAny (model prog w) A (getAttr (.ref x) name expr) Q E s:=by
 obtain ⟨od,J,hl⟩:=I.look;exact PySem.W.get_value X J (PySem.W.plainGet_of hg).1 (PySem.W.findObj_own hh ha rfl (by rw [hl,hv])) hv' h
theorem qL {pl:Sem Bool} {Q:Value×List Value->Shared->Prop} (X:K.In s.heap) (I:ObjM s.heap x dx C mA) (hg:PySem.W.plainGet K C name=true)
 (hf:PySem.W.findIn K (.ref C) name=some (some (.ref f))) (ht:PySem.W.isFn K (.ref f)=true) (hv:mA name=none) (h:Q (.ref f,[.ref x]) s) :
 wpAny (model prog w) A (getMethod (.ref x) name pl) Q E s:=by
 obtain ⟨od,J,hl⟩:=I.look;exact PySem.W.method_fn X J (PySem.W.plainGet_of hg).1 (PySem.W.plainGet_of hg).2 hf (beq_iff_eq.mp ht) (by show (PySem.W.lookIn name od).map (·.isSome)=some false;rw [hl,hv];rfl) h
theorem sV {ns:List Str} {Q:Unit->Shared->Prop} (X:K.In s.heap) (I:ObjM s.heap x dx C mA)
 (hs:PySem.W.findIn K (.ref C) "__setattr__"=some (some (.builtin "object.__setattr__"))) (hp:PySem.W.plainOver K C=true) (ht:PySem.W.takerIn K C name=some none) (hh:PySem.W.hasDictIn K C=true)
 (hw:PySem.Within mA ns) (hsz:ns.length<=sizeLine)
 (h:∀ h',ObjM h' x dx C (fun y=>if y=name then some v else mA y)->Heap.SameBut dx s.heap h'->Q () { s with heap:=h',toks:=s.toks+2 }) :
 wpAny (model prog w) A (setAttr (.ref x) name v) Q E s:=by
 obtain ⟨od,J,hl⟩:=I.look;refine PySem.W.set_plain X J hs (PySem.W.osa_open (s:={ s with toks:=s.toks+1 }) (r:=none) X J hp ht fun b=>?_);obtain ⟨cd,hc,hd'⟩:=PySem.W.any_some hh;have hx:s.heap.get? x=some ⟨.ref C,some dx,.plain,#[]⟩:=I.obj;refine wpAny_bind (wpAny_pure (wpAny_bind (wpAny_bind (wpAny_loadPart hx (wpAny_bind (PySem.W.Looks.here (s:={ s with toks:=s.toks+1 }) (PySem.W.looks_clsIn X hc) ?_))))));rw [hd'];refine wpAny_pure (a:=some dx) (wpAny_bind (wpAny_pure (wpAny_bind ?_)));refine wpAny_nsSet1 (s:={ s with toks:=s.toks+1 }) I.ns fun h' hn2 hs2=>?_;obtain ⟨oD,esD,epD,hoD,hdD,hcD⟩:=hn2.count (PySem.Within.cons name v hw);refine wpAny_bind (wpAny_lookBehind hoD (by rw [hdD];exact pastItsLine_dict (Nat.le_trans hcD (by rw [List.length_cons];omega))) ?_);exact wpAny_pure (h _ ⟨(hs2.2 _ (Ne.symm I.ne)).trans I.obj,hn2,I.ne⟩ hs2)
theorem rf {R:Result->Shared->Prop} {vs:List Value} {kw:List (Str×Value)} (X:K.In s.heap) (hm:PySem.W.makesIn K C=true)
 (hi:PySem.W.findIn K (.ref C) "__init__"=some (some (.ref f))) (hf:PySem.W.typeIn K (.ref f)=some (.type "function"))
 (h:codeAny (model prog w) (A.under (.builtin "type.__call__" ⟨.ref C::vs,kw⟩)) (.call (.ref f) ⟨.ref (s.heap.objs.size+1)::vs,kw⟩) (PySem.W.InitBack (s.heap.objs.size+1) R)
  { s with heap:=(s.heap.push PySem.W.emptyDict).push (PySem.W.instObj C s.heap.objs.size) }) :
 codeAny (model prog w) A (.call (.ref C) ⟨vs,kw⟩) R s:=by
 obtain ⟨hh,g,d,t,os⟩:=s;exact PySem.W.make_core (PySem.W.makes_of X hm) (PySem.W.looks_findIn X hi) (fun self=>PySem.W.bind_fn X self hf) (.inl rfl) h
end
def dj (f:Str) (v:V):List (Str×V)->List (Str×V)
 | []=>[(f,v)]
 | (g,x)::r=>if g=f then (g,v)::r else (g,x)::dj f v r
theorem ja (f g:Str) (v:V):∀ fs:List (Str×V),(dj f v fs).lookup g=if g=f then some v else fs.lookup g
 | []=>by
   show List.lookup g [(f,v)]=_;by_cases h:g=f
   · have hb:(g == f)=true:=beq_iff_eq.mpr h;simp only [List.lookup,hb,if_pos h]
   · have hb:(g == f)=false:=beq_eq_false_iff_ne.mpr h;simp only [List.lookup,hb,if_neg h]
 | (k,x)::r=>by
   have ih:=ja f g v r;rw [show dj f v ((k,x)::r)=(if k=f then (k,v)::r else (k,x)::dj f v r) from rfl];by_cases hk:k=f
   · rw [if_pos hk];by_cases h:g=k
     · have hb:(g == k)=true:=beq_iff_eq.mpr h;simp only [List.lookup,hb,if_pos (h.trans hk)]
     · have hb:(g == k)=false:=beq_eq_false_iff_ne.mpr h;simp only [List.lookup,hb,if_neg (fun e:g=f=>h (e.trans hk.symm))]
   · rw [if_neg hk];by_cases h:g=k
     · have hb:(g == k)=true:=beq_iff_eq.mpr h;simp only [List.lookup,hb,if_neg (fun e:g=f=>hk (h.symm.trans e))]
     · have hb:(g == k)=false:=beq_eq_false_iff_ne.mpr h;simp only [List.lookup,hb];exact ih
theorem iA (f:Str) (v:V):∀ fs:List (Str×V),f∈(dj f v fs).map (·.1)/\∀ g,g∈fs.map (·.1)->g∈(dj f v fs).map (·.1)
 | []=>⟨by simp [dj],fun g h=>by simp at h⟩
 | (k,x)::r=>by
   obtain ⟨i1,i2⟩:=iA f v r;rw [show dj f v ((k,x)::r)=(if k=f then (k,v)::r else (k,x)::dj f v r) from rfl];by_cases hk:k=f
   · rw [if_pos hk];subst hk;exact ⟨by simp,fun g h=>by simpa using h⟩
   · rw [if_neg hk];refine ⟨?_,fun g h=>?_⟩
     · rw [List.map_cons];exact List.mem_cons_of_mem _ i1
     · rw [List.map_cons] at h ⊢;rcases List.mem_cons.mp h with e | e
       · exact List.mem_cons.mpr (.inl e)
       · exact List.mem_cons_of_mem _ (i2 g e)
theorem i7 (f:Str) (v:V):∀ fs:List (Str×V),(dj f v fs).length<=fs.length+1
 | []=>by simp [dj]
 | (k,x)::r=>by
   have ih:=i7 f v r;rw [show dj f v ((k,x)::r)=(if k=f then (k,v)::r else (k,x)::dj f v r) from rfl];by_cases hk:k=f
   · rw [if_pos hk,List.length_cons,List.length_cons];omega
   · rw [if_neg hk,List.length_cons,List.length_cons];omega
theorem RelO.some_of {v:V} {o:Option Value} (r:RelO (some v) o):∃ u,o=some u/\RelV v u:=by
 cases o with
 | none=>exact (show False from r).elim
 | some u=>exact ⟨u,rfl,r⟩
theorem RelO.none_of {o:Option Value} (r:RelO none o):o=none:=by
 cases o with
 | none=>rfl
 | some u=>exact (show False from r).elim
theorem pN {v:V} {u:Value} (r:RelV v u):PySem.W.handedIn u=true:=by
 cases v with
 | non=>cases (show u=Value.none from r);rfl
 | bl b=>cases (show u=Value.bool b from r);rfl
 | int i=>obtain ⟨t,e⟩:=(show ∃ t,u=Value.int i t from r);cases e;rfl
 | str x=>obtain ⟨t,e⟩:=(show ∃ t,u=Value.str x t from r);cases e;rfl
 | byt b=>obtain ⟨t,e⟩:=(show ∃ t,u=Value.bytes b t from r);cases e;rfl
 | flt b=>obtain ⟨t,e⟩:=(show ∃ t,u=Value.float b t from r);cases e;rfl
 | ref a=>cases (show u=Value.ref a from r);rfl
 | ty n=>cases (show u=Value.type n from r);rfl
section
variable {P:Program} {w:World} {H H':Hp} {h h':Heap} {a C dx:Addr} {fs fs':List (Str×V)}
theorem jm (hok:HOk P w H h) (e:H a=some (.ins C dx fs)):∃ mA,ObjM h a dx C mA/\(∀ f,RelO (fs.lookup f) (mA f))/\PySem.Within mA (fs.map (·.1))/\fs.length<=1000/\H dx=some (.own a):=by
 obtain ⟨d,z,ne,ob,mA,n,r,q⟩:=(show ObjOk P w H h a (.ins C dx fs) from hok a _ e);exact ⟨mA,⟨ob,n,ne⟩,r,q,z,d⟩
end
structure Cls (K:PySem.W.Frag) (C:Addr):Prop where
 pg:PySem.W.plainGet K C Str.empty=true
 hd:PySem.W.hasDictIn K C=true
 po:PySem.W.plainOver K C=true
 sa:PySem.W.findIn K (.ref C) "__setattr__"=some (some (.builtin "object.__setattr__"))
theorem Cls.get {K:PySem.W.Frag} {C:Addr} (c:Cls K C) (f:Str):PySem.W.plainGet K C f=true:=c.pg
def NoAttr (K:PySem.W.Frag) (C:Addr) (f:Str):Prop:=PySem.W.findIn K (.ref C) f=some none
theorem NoAttr.taker {K:PySem.W.Frag} {C:Addr} {f:Str} (n:NoAttr K C f):PySem.W.takerIn K C f=some none:=by
 unfold PySem.W.takerIn;rw [show PySem.W.findIn K (.ref C) f=some none from n];rfl
structure uH (K:PySem.W.Frag) (C:Addr) (m:Str) (f:Addr):Prop where
 at_:PySem.W.findIn K (.ref C) m=some (some (.ref f))
 fn:PySem.W.isFn K (.ref f)=true
 kp:PySem.W.keepIn K (.ref f)=true
section
variable {X:Cx} {pins:List (Addr×Obj)} {σ:St} {H:Hp} {s:Shared} {a C dx:Addr} {fs:List (Str×V)} {f:Str} {v:V} {A:Around} {E:Value->Shared->Prop}
theorem ou {b:Bool} {Q:Value->Shared->Prop} (I:Inv X pins σ H s) (e:H a=some (.ins C dx fs)) (c:Cls X.K C) (n:NoAttr X.K C f) (l:fs.lookup f=some v)
 (h:∀ u s',Inv X pins σ H s'->RelV v u->Q u s'):wpAny (model X.prog X.w) A (getAttr (.ref a) f b) Q E s:=by
 obtain ⟨mA,O,r,_,_,_⟩:=jm I.hok e;obtain ⟨u,hu,ru⟩:=RelO.some_of (v:=v) (o:=mA f) (by rw [<- l];exact r f);exact sX I.kIn O (c.get f) c.hd n hu (pN ru) (h u _ (I.tok _) ru)
theorem ol {m:Str} {g:Addr} {pl:Sem Bool} {Q:Value×List Value->Shared->Prop} (I:Inv X pins σ H s) (e:H a=some (.ins C dx fs)) (c:Cls X.K C) (k:uH X.K C m g) (l:fs.lookup m=none)
 (h:Q (.ref g,[.ref a]) s):wpAny (model X.prog X.w) A (getMethod (.ref a) m pl) Q E s:=by
 obtain ⟨mA,O,r,_,_,_⟩:=jm I.hok e;have hn:mA m=none:=RelO.none_of (by rw [<- l];exact r m);exact qL I.kIn O (c.get m) k.at_ k.fn hn h
theorem oC {y:V} {u:Value} {Q:Unit->Shared->Prop} (I:Inv X pins σ H s) (e:H a=some (.ins C dx fs)) (c:Cls X.K C) (n:NoAttr X.K C f) (hl:fs.length<1000) (ry:RelV y u)
 (h:∀ s',Inv X pins σ (upd H a (.ins C dx (dj f y fs))) s'->Q () s'):wpAny (model X.prog X.w) A (setAttr (.ref a) f u) Q E s:=by
 obtain ⟨mA,O,r,wi,_,ho⟩:=jm I.hok e;have hz:(fs.map (·.1)).length<=sizeLine:=by rw [List.length_map,sizeLine_eq];omega
 refine sV I.kIn O c.sa c.po n.taker c.hd wi hz fun h' O' sb=>h _ ?_;have hd:∃ o,h'.get? dx=some o:=let ⟨o,_,_,e',_⟩:=O'.ns;⟨o,e'⟩
 refine I.write (x:=a) (e:=dx) (by rw [e];exact True.intro) (.inr ho) (fun b q hb z=>(sb.2 b hb).trans z) hd ?_;refine ⟨by rw [ae O.ne];exact ho,?_,O.ne,O'.obj,_,O'.ns,fun g=>?_,fun g hg=>?_⟩
 · have:=i7 f y fs;omega
 · show RelO ((dj f y fs).lookup g) (if g=f then some u else mA g);rw [ja];by_cases q:g=f
   · rw [if_pos q,if_pos q];exact ry
   · rw [if_neg q,if_neg q];exact r g
 · by_cases q:g=f
   · rw [q];exact (iA f y fs).1
   · refine (iA f y fs).2 g (wi g fun z=>hg ?_);show (if g=f then some u else mA g)=none;rw [if_neg q];exact z
theorem Inv.made (I:Inv X pins σ H s):Inv X pins σ (upd (upd H s.heap.objs.size (.own (s.heap.objs.size+1))) (s.heap.objs.size+1) (.ins C s.heap.objs.size []))
 { s with heap:=(s.heap.push PySem.W.emptyDict).push (PySem.W.instObj C s.heap.objs.size) }:=by
 have e1:(s.heap.push PySem.W.emptyDict).get? s.heap.objs.size=some PySem.W.emptyDict:=Heap.get?_push_size s.heap rfl
 have e2:((s.heap.push PySem.W.emptyDict).push (PySem.W.instObj C s.heap.objs.size)).get? (s.heap.objs.size+1)=some (PySem.W.instObj C s.heap.objs.size):=by
  have:=Heap.get?_push_size (s.heap.push PySem.W.emptyDict) (o:=PySem.W.instObj C s.heap.objs.size) rfl
  rwa [Heap.size_push] at this
 have e3:(s.heap.push PySem.W.emptyDict).Ns s.heap.objs.size (fun _=>none):=⟨PySem.W.emptyDict,#[],_,e1,rfl,(fun e he=>absurd he (by simp)),fun _=>rfl⟩;have I1:=I.laid (a:=s.heap.objs.size) (o:=.own (s.heap.objs.size+1)) (h':=s.heap.push PySem.W.emptyDict) (t':=s.toks) (fun b u q=>Heap.get?_push_of_some _ q) (Nat.le_refl _) ⟨_,e1⟩;refine I1.laid (a:=s.heap.objs.size+1) (o:=.ins C s.heap.objs.size []) (t':=s.toks) (fun b u q=>Heap.get?_push_of_some _ q) (Nat.le_of_eq (Heap.size_push _ _)) ?_;have ne:s.heap.objs.size≠s.heap.objs.size+1:=Nat.ne_of_lt (Nat.lt_succ_self _);refine ⟨by rw [ae ne,ac],Nat.zero_le _,ne,e2,fun _=>none,(Heap.Ns1.of_empty e3).at fun o q=>Heap.get?_push_of_some _ q,fun _=>True.intro,fun y hy=>absurd rfl hy⟩
theorem tG {prog:Program} {w:World} {env:Env} {e:Expr} {f:Str} {pos:Pos} {s:Shared} {Q:Value->Shared->Prop} (hb:attributeBase e f env (eval e env)=eval e env)
 (h:wpAny (model prog w) A (eval e env) (fun o s₁=>wpAny (model prog w) A (getAttr o f true) Q E s₁) E s):wpAny (model prog w) A (eval (.Attribute e f pos) env) Q E s :=
 Attribute_any_ h (by rw [arm_eval_Attribute,hb])
end
def wC (K:PySem.W.Frag) (ta:TE) (f:Str):TE:=fun σ H Q=>ta σ H fun x H1=>∃ a C dx fs v,x=.ref a/\H1 a=some (.ins C dx fs)/\Cls K C/\NoAttr K C f/\fs.lookup f=some v/\Q v H1
def wB (K:PySem.W.Frag) (ta tv:TE) (f:Str):TS:=fun D σ H=>tv σ H fun y H1=>ta σ H1 fun x H2=>∃ a C dx fs,x=.ref a/\H2 a=some (.ins C dx fs)/\Cls K C/\NoAttr K C f/\fs.length<1000 ∧
 D.nx σ (upd H2 a (.ins C dx (dj f y fs)))
section
variable {X:Cx} {o e value:Expr} {f:Str} {pos pos' tpos:Pos} {ta tv:TE}
theorem cD (he:PE X e ta) (hb:attributeBase e f X.env (eval e X.env)=eval e X.env):PE X (.Attribute e f pos) (wC X.K ta f):=by
 intro pins s σ H Q I h;refine tG hb (thn (he pins s σ H _ I h) fun u s1 ⟨x,H1,I1,rx,a,C,dx,fs,v,ex,ea,c,n,l,q⟩=>?_);subst ex;obtain rfl:u=Value.ref a:=rx;exact ou I1 ea c n l fun u' s2 I2 ru=>⟨v,H1,I2,ru,q⟩
theorem nS (ha:PE X o ta) (hv:PE X value tv) (hs:swapsWith value (some (.Attribute o f pos')) pos.line X.env=pure false):PS X (.Assign [.Attribute o f pos'] value pos) (wB X.K ta tv f):=by
 intro pins s σ H D I h;refine plainObj_wpAny_Assign_Attribute (thn (hv pins s σ H _ I h) fun u s1 ⟨y,H1,I1,ry,q⟩=>thn (ha pins s1 σ H1 _ I1 q) fun ov s2 ⟨x,H2,I2,rx,a,C,dx,fs,ex,ea,c,n,l,q2⟩=>?_) hs;subst ex;obtain rfl:ov=Value.ref a:=rx;exact oC I2 ea c n l ry fun s3 I3=>⟨σ,_,I3,q2⟩
end
section
variable {X:Cx} {pins:List (Addr×Obj)} {σ:St} {H:Hp} {s:Shared} {A:Around} {E:Value->Shared->Prop} {Q:Value->Shared->Prop} {c:Value} {b:Bool}
inductive hG (K:PySem.W.Frag) (H:Hp):V->Value->Prop where
 | non:hG K H .non (.type "NoneType")
 | bl (x:Bool):hG K H (.bl x) (.type "bool")
 | int (i:Int):hG K H (.int i) (.type "int")
 | str (x:Str):hG K H (.str x) (.type "str")
 | flt (x:UInt64):hG K H (.flt x) (.type "float")
 | lst {a:Addr} {xs:List V} (e:H a=some (.lst xs)):hG K H (.ref a) (.type "list")
 | frz {a:Addr} {o:Obj} {xs:List V} (e:H a=some (.frz o (.lst xs))):hG K H (.ref a) (.type "list")
 | tup {a:Addr} {xs:List V} (e:H a=some (.tup xs)):hG K H (.ref a) (.type "tuple")
 | dK {a:Addr} {kvs:List (Key×V)} (e:H a=some (.dK kvs)):hG K H (.ref a) (.type "dict")
 | dT {a:Addr} {kvs:List (List Key×V)} (e:H a=some (.dT kvs)):hG K H (.ref a) (.type "dict")
 | ins {a C dx:Addr} {fs:List (Str×V)} (e:H a=some (.ins C dx fs)) (cl:Cls K C) (ha:PySem.W.findIn K (.ref C) "__class__"=some (some (.builtin "object.__class__")))
  (hn:PySem.W.specialIn K (.builtin "object.__class__") "__get__"=some (some (.builtin "getset_descriptor.__get__"))) (htk:PySem.W.takesIn K (.builtin "object.__class__")=some true)
  (hm:PySem.W.mroIn K C (.type "object")=some true):hG K H (.ref a) (.ref C)
theorem p9 {x:V} {u t:Value} (I:Inv X pins σ H s) (rx:RelV x u) (ty:hG X.K H x t) (e:PySem.W.kitOne X.K t c=some b) (h:∀ tk,Q (.bool b) { s with toks:=tk }) :
 wpAny (model X.prog X.w) A (call (.builtin "isinstance") [u,c]) Q E s:=by
 cases ty with
 | non=>cases (show u=Value.none from rx);exact PySem.W.kia_one PySem.W.kitx_none I.kIn True.intro e (fun z=>nomatch z) h
 | bl y=>cases (show u=Value.bool y from rx);exact PySem.W.kia_one PySem.W.kitx_bool I.kIn True.intro e (fun z=>nomatch z) h
 | int i=>obtain ⟨t,q⟩:=(show ∃ t,u=Value.int i t from rx);cases q;exact PySem.W.kia_one PySem.W.kitx_int I.kIn True.intro e (fun z=>nomatch z) h
 | str y=>obtain ⟨t,q⟩:=(show ∃ t,u=Value.str y t from rx);cases q;exact PySem.W.kia_one PySem.W.kitx_str I.kIn True.intro e (fun z=>nomatch z) h
 | flt y=>obtain ⟨t,q⟩:=(show ∃ t,u=Value.float y t from rx);cases q;exact PySem.W.kia_one PySem.W.kitx_float I.kIn True.intro e (fun z=>nomatch z) h
 | @lst a xs ea =>
   cases (show u=Value.ref a from rx);obtain ⟨_,_,n,_,h1⟩:=(show ObjOk X.prog X.w H s.heap a (.lst xs) from I.hok a _ ea);exact PySem.W.kia_one PySem.W.kitx_list I.kIn ⟨_,h1,rfl⟩ e (fun z=>nomatch z) h
 | @frz a ob xs ea =>
   cases (show u=Value.ref a from rx);obtain ⟨_,_,_,n,_,h1⟩:=(show ObjOk X.prog X.w H s.heap a (.frz ob (.lst xs)) from I.hok a _ ea);exact PySem.W.kia_one PySem.W.kitx_list I.kIn ⟨_,h1,rfl⟩ e (fun z=>nomatch z) h
 | @tup a xs ea =>
   cases (show u=Value.ref a from rx);obtain ⟨_,_,_,_,h1⟩:=(show ObjOk X.prog X.w H s.heap a (.tup xs) from I.hok a _ ea);exact PySem.W.kia_one PySem.W.kitx_tuple I.kIn ⟨_,h1,rfl⟩ e (fun z=>nomatch z) h
 | @dK a kvs ea =>
   cases (show u=Value.ref a from rx);obtain ⟨_,_,vs,_,p⟩:=(show ObjOk X.prog X.w H s.heap a (.dK kvs) from I.hok a _ ea);obtain ⟨o,es,ep,h1,h2,_⟩:=p;exact PySem.W.kia_one PySem.W.kitx_dict I.kIn ⟨o,h1,h2.1⟩ e (fun z=>nomatch z) h
 | @dT a kvs ea =>
   cases (show u=Value.ref a from rx);obtain ⟨_,_,xs,_,o,es,ep,h1,h2,_⟩:=(show ObjOk X.prog X.w H s.heap a (.dT kvs) from I.hok a _ ea);exact PySem.W.kia_one PySem.W.kitx_dict I.kIn ⟨o,h1,h2.1⟩ e (fun z=>nomatch z) h
 | @ins a C dx fs ea cl ha hn htk hm =>
   cases (show u=Value.ref a from rx);obtain ⟨mA,O,_⟩:=jm I.hok ea;obtain ⟨od,J,_⟩:=O.look;exact PySem.W.kia_one (PySem.W.kitx_own (cl.get _) cl.hd ha hn htk hm) I.kIn J e (fun z=>nomatch z) h
end
end L2
namespace L2
open PySem PySem.Spec PyProof.Rows
structure Room (k:Nat) (A:Around):Prop where
 hd:A.handled=none
 dp:A.depth+3 * k+5<recursionLimit
 un:A.units+16 * k+200<cLine
theorem Room.mono {j k:Nat} {A:Around} (r:Room k A) (h:j<=k):Room j A:=⟨r.hd,by have:=r.dp;omega,by have:=r.un;omega⟩
theorem Room.deeper {k:Nat} {A:Around} (r:Room (k+1) A) (env:Env):Room k (A.deeper env) :=
 ⟨r.hd,by have:=r.dp;show A.depth+1+3 * k+5<_;omega,by have:=r.un;show A.units+3+16 * k+200<_;omega⟩
theorem oy {A:Around} {C:Addr} {us:List Value} {kw:List (Str×Value)}:(A.under (.builtin "type.__call__" ⟨.ref C::us,kw⟩)).depth=A.depth+1:=by
 first | rfl | simp [Around.under,Code.weight,Code.isCreation,Code.isGuard,Code.isCaller,Code.frames,Code.isFrame,guardIds]
theorem n6 {A:Around} {C:Addr} {us:List Value} {kw:List (Str×Value)}:(A.under (.builtin "type.__call__" ⟨.ref C::us,kw⟩)).units=A.units+1:=by
 first | rfl | simp [Around.under,Code.cUnits,Code.frames,Code.isFrame]
theorem Room.make {k:Nat} {A:Around} (r:Room (k+1) A) (C:Addr) (us:List Value) (kw:List (Str×Value)):Room k (A.under (.builtin "type.__call__" ⟨.ref C::us,kw⟩)) :=
 ⟨r.hd,by have:=r.dp;rw [oy];omega,by have:=r.un;rw [n6];omega⟩
theorem Room.depth {k:Nat} {A:Around} (r:Room k A):A.depth<recursionLimit:=by have:=r.dp;omega
theorem Room.units {k:Nat} {A:Around} (r:Room k A):A.units+64<cLine:=by have:=r.un;omega
def fT:TA:=fun _ H Q=>Q [] H
def bM (ta:TE) (tr:TA):TA:=fun σ H Q=>ta σ H fun x H1=>tr σ H1 fun xs H2=>Q (x::xs) H2
section
variable {X:Cx} {e:Expr} {es:List Expr} {te:TE} {t:TA} {pos:Pos}
theorem ad:PA X [] fT:=fun _ _ _ _ H Q I h=>Calls.spliced_nil ⟨[],H,I,.nil,h⟩
theorem ab (ha:PE X e te) (hr:PA X es t) (hs:starEach (e::es) X.env=(false,eval e X.env)::starEach es X.env:=by rfl):PA X (e::es) (bM te t):=by
 intro pos pins s σ H Q I h;rw [hs];show wpAny _ _ (spliced ((false,eval e X.env)::backTo pos (starEach es X.env))) _ _ s;refine Calls.spliced_cons (thn (ha pins s σ H _ I h) fun u s1 ⟨x,H1,I1,r1,q1⟩=>?_);exact thn (hr pos pins s1 σ H1 _ I1 q1) fun us s2 ⟨xs,H2,I2,r2,q2⟩=>⟨x::xs,H2,I2,.cons r1 r2,q2⟩
def rF (t:TA):TE:=fun σ H Q=>t σ H fun xs H1=>xs.length<=sizeLine/\∀ p,H1 p=none->Q (.ref p) (upd H1 p (.tup xs))
def wn (t:TA):TE:=fun σ H Q=>t σ H fun xs H1=>xs.length<=sizeLine/\∀ p,H1 p=none->Q (.ref p) (upd H1 p (.lst xs))
theorem aU {x1} (h:PA X es t):PE X (.Tuple es x1 pos) (rF t):=by
 intro pins s σ H Q I hq;refine wpAny_Tuple_spliced (thn (h pos pins s σ H _ I hq) fun us s1 ⟨xs,H1,I1,r,z,q⟩=>⟨by rw [<- r.length];exact z,?_⟩);have hf:H1 s1.heap.objs.size=none:=I1.hok.fresh (Nat.le_refl _);refine ⟨.ref s1.heap.objs.size,upd H1 s1.heap.objs.size (.tup xs),I1.laid (t':=s1.toks) (fun b u e=>Heap.get?_push_of_some _ e) (Nat.le_refl _) ?_,rfl,q _ hf⟩;exact ⟨z,us,0,r,Heap.get?_push_size _ rfl⟩
theorem aM (h:PA X es t):PE X (.List es pos) (wn t):=by
 intro pins s σ H Q I hq;refine wpAny_List_spliced (thn (h pos pins s σ H _ I hq) fun us s1 ⟨xs,H1,I1,r,z,q⟩=>⟨by rw [<- r.length];exact z,?_⟩);have hf:H1 s1.heap.objs.size=none:=I1.hok.fresh (Nat.le_refl _);refine ⟨.ref s1.heap.objs.size,upd H1 s1.heap.objs.size (.lst xs),I1.laid (t':=s1.toks) (fun b u e=>Heap.get?_push_of_some _ e) (Nat.le_refl _) ?_,rfl,q _ hf⟩;exact ⟨z,us,0,r,Heap.get?_push_size _ rfl⟩
end
abbrev Sp:=List V->Hp->VK->XK->Prop
abbrev CXT:=List Env->Hp->Shared->XK->Value->Shared->Prop
structure Env0 (P:Program) (w:World) (K:PySem.W.Frag) (mg:Str->Option Value) (base:Heap) (A:Around) (outer:List Env) (s:Shared) (H:Hp):Prop where
 frames:A.frames=some outer
 mod:Mod K mg base
 bs:∀ b o,base.get? b=some o->s.heap.get? b=some o/\H b=none
 bsz:base.objs.size<=s.heap.objs.size
 funs:s.heap.FunFrames base outer
 frf:∀ b∈frs outer,H b=none
 hok:HOk P w H s.heap
 bare:AllBare s.gens
def CE (outer:List Env) (P:Program) (w:World) (H:Hp) (s:Shared) (Q:VK) (u:Value) (s':Shared):Prop :=
 ∃ v H',s'.os=s.os/\AllBare s'.gens/\Un (frs outer) [] H H' s.heap s'.heap/\HOk P w H' s'.heap/\RelV v u/\Q v H'
def CR (CX:CXT) (outer:List Env) (P:Program) (w:World) (H:Hp) (s:Shared) (Q:VK) (E:XK) (r:Result) (s':Shared):Prop :=
 match r with
 | .ok (.ret u)=>CE outer P w H s Q u s'
 | .ok _=>False
 | .error e=>CX outer H s E e s'
structure aW (P:Program) (w:World) (K:PySem.W.Frag) (mg:Str->Option Value) (base:Heap) (CX:CXT) (k:Nat) (f:Addr) (fd:FuncData) (ps:List Str) (sp:Sp):Prop where
 len:∀ vs H Q E,sp vs H Q E->vs.length=ps.length
 run:∀ (A:Around) (outer:List Env) (s:Shared) (H:Hp) (args:Args) (us:List Value) (vs:List V) (Q:VK) (E:XK),Room k A->Env0 P w K mg base A outer s H->BindsTo s fd args (ps.zip us)->Vals vs us->sp vs H Q E →
  codeAny (model P w) A (.call (.ref f) args) (CR CX outer P w H s Q E) s
theorem Env0.make {P:Program} {w:World} {K:PySem.W.Frag} {mg:Str->Option Value} {base:Heap} {A:Around} {outer:List Env} {s:Shared} {H:Hp} (e:Env0 P w K mg base A outer s H) (C:Addr) (us:List Value) (kw:List (Str×Value)) :
 Env0 P w K mg base (A.under (.builtin "type.__call__" ⟨.ref C::us,kw⟩)) outer s H:=⟨by first | exact e.frames | (simpa [Around.under,Code.envs,Code.isFrame,pushEnvs] using e.frames),e.mod,e.bs,e.bsz,e.funs,e.frf,e.hok,e.bare⟩
section
variable {X:Cx} {pins:List (Addr×Obj)} {σ:St} {H:Hp} {s s':Shared}
theorem Inv.env0 (I:Inv X pins σ H s):Env0 X.prog X.w X.K X.mg X.base X.A X.stack s H :=
 ⟨I.ok.frames,I.ok.mod,I.bs,Nat.le_trans I.ok.bsz I.sz,I.stack,I.stkFree,I.hok,I.bare⟩
theorem Inv.after {Q:VK} {u:Value} (I:Inv X pins σ H s) (h:CE X.stack X.prog X.w H s Q u s'):EP X pins σ Q u s':=by
 obtain ⟨v,H',os,bare,un,hok,r,q⟩:=h;obtain ⟨hh,g,d,t,os'⟩:=s';obtain rfl:os'=s.os:=os;exact ⟨v,H',I.call (h':=hh) (g':=g) (d':=d) (t':=t) (ch:=[]) un hok bare (fun b z=>absurd z (by simp)),r,q⟩
end
def fW (sp:Sp) (dvs:List V) (E:XK) (t:TA):TE:=fun σ H Q=>t σ H fun vs H1=>sp (vs++dvs) H1 Q E
def vO (C:Addr) (m:Str) (sp:Sp) (dvs:List V) (E:XK) (ta:TE) (t:TA):TE:=fun σ H Q=>ta σ H fun x H1=>∃ a dx fs,x=.ref a/\H1 a=some (.ins C dx fs)/\fs.lookup m=none ∧
 t σ H1 fun vs H2=>sp (x::(vs++dvs)) H2 Q E
def uZ (C:Addr) (sp:Sp) (dvs:List V) (E:XK) (t:TA):TE:=fun σ H Q=>t σ H fun vs H1=>∀ x dx,H1 x=none->H1 dx=none->dx≠x →
 sp (.ref x::(vs++dvs)) (upd (upd H1 dx (.own x)) x (.ins C dx [])) (fun v H2=>v=.non/\Q (.ref x) H2) E
def Binds (K:PySem.W.Frag) (fd:FuncData) (ps:List Str) (ds:List Value):Prop :=
 ∀ (s:Shared) (us:List Value),K.In s.heap->(us++ds).length=ps.length->BindsTo s fd ⟨us,[]⟩ (ps.zip (us++ds))
theorem Binds.all {K:PySem.W.Frag} {fd:FuncData} {ps:List Str} (h:∀ us:List Value,us.length=ps.length->bindArgs fd ⟨us,[]⟩=pure (ps.zip us)):Binds K fd ps []:=fun s us _ hl=>by
 rw [List.append_nil] at hl ⊢;exact .of_eq (h us hl)
def gH (CX:CXT) (X:Cx) (E:XK):Prop:=∀ (pins:List (Addr×Obj)) (σ:St) (H:Hp) (s:Shared) (e:Value) (s':Shared),Inv X pins σ H s->CX X.stack H s E e s'->X.xe e s'
section
variable {X:Cx} {CX:CXT} {k:Nat} {f C:Addr} {fd:FuncData} {ps:List Str} {sp:Sp} {dvs:List V} {ds:List Value} {E:XK} {x m:Str} {p pos apos:Pos} {e o:Expr} {es:List Expr} {ta:TE} {t:TA}
theorem rA {pins:List (Addr×Obj)} {σ:St} {H:Hp} {s:Shared} {Q:VK} {us:List Value} {vs:List V} (F:aW X.prog X.w X.K X.mg X.base CX k f fd ps sp) (hr:Room k X.A) (hb:Binds X.K fd ps ds) (hd:Vals dvs ds) (hx:gH CX X E)
 (I:Inv X pins σ H s) (r:Vals vs us) (h:sp (vs++dvs) H Q E):wpAny (model X.prog X.w) X.A (call (.ref f) us) (EP X pins σ Q) X.xe s:=by
 have r2:Vals (vs++dvs) (us++ds):=r.append hd;have hl:(us++ds).length=ps.length:=by rw [<- r2.length];exact F.len _ _ _ _ h
 refine wpAny_call (codeAny_mono (F.run X.A X.stack s H ⟨us,[]⟩ (us++ds) (vs++dvs) Q E hr I.env0 (hb s us I.kIn hl) r2 h) fun r s' hq=>?_);cases r with
 | error e=>exact hx pins σ H s e s' I hq
 | ok fl =>
   cases fl with
   | ret u=>exact I.after hq
   | next=>exact False.elim hq
   | brk=>exact False.elim hq
   | cont=>exact False.elim hq
theorem d9 (F:aW X.prog X.w X.K X.mg X.base CX k f fd ps sp) (hr:Room k X.A) (hg:Gl X x) (hm:X.mg x=some (.ref f)) (hk:PySem.W.keepIn X.K (.ref f)=true) (hb:Binds X.K fd ps ds) (hd:Vals dvs ds) (hx:gH CX X E)
 (ha:PA X (e::es) t) (hdb:(x == ("__debug__":Str))=false:=by decide) (he:starEach (e::es) X.env=(false,eval e X.env)::starEach es X.env:=by rfl) (hpl:(backTo pos (starEach es X.env)).any (·.1)=false:=by rfl) :
 PE X (.Call (.Name x p) (e::es) [] pos) (fW sp dvs E t):=by
 intro pins s σ H Q I h;refine wpAny_Call_Name_kw (mi I hg hm ?_ hdb);refine PySem.W.callWith_K (h₀:=X.base) I.ok.mod.kin hk (thn (ha pos pins s σ H _ I h) fun us s1 ⟨vs,H1,I1,r,q⟩=>⟨I1.kIn,?_⟩) he hpl;exact rA F hr hb hd hx I1 r q
theorem pA {pl:Sem Bool} (he:PE X o ta) (c:Cls X.K C) (hm:uH X.K C m f) (F:aW X.prog X.w X.K X.mg X.base CX k f fd ps sp) (hr:Room k X.A) (hb:Binds X.K fd ps ds) (hd:Vals dvs ds) (hx:gH CX X E) (ha:PA X (e::es) t)
 (hst:starEach (e::es) X.env=(false,eval e X.env)::starEach es X.env:=by rfl) (hpl:(backTo pos (starEach es X.env)).any (·.1)=false:=by rfl)
 (ht:eval (.Call (.Attribute o m apos) (e::es) [] pos) X.env=(do
  let ov ← eval o X.env
  standAt apos.atName
  let (f,first) ← holding [ov] (getMethod ov m pl)
  callWith pos f first (backTo pos (starEach (e::es) X.env)) (backToKw pos (keywordEach [] X.env))):=by rfl) :
 PE X (.Call (.Attribute o m apos) (e::es) [] pos) (vO C m sp dvs E ta t):=by
 intro pins s σ H Q I h;refine PySem.W.methodCall_KW (pl:=pl) (thn (he pins s σ H _ I h) fun u s1 ⟨x,H1,I1,rx,a,dx,fs,ex,ea,l,q⟩=>?_) ht;subst ex;obtain rfl:u=Value.ref a:=rx;refine ol I1 ea c hm l ?_;refine PySem.W.callWith_K (first:=[.ref a]) (h₀:=X.base) I.ok.mod.kin hm.kp (thn (ha pos pins s1 σ H1 _ I1 q) fun us s2 ⟨vs,H2,I2,r,q2⟩=>⟨I2.kIn,?_⟩) hst hpl;exact rA (us:=.ref a::us) (vs:=.ref a::vs) F hr hb hd hx I2 (.cons rfl r) q2
structure Mk (K:PySem.W.Frag) (C f:Addr):Prop where
 makes:PySem.W.makesIn K C=true
 init:PySem.W.findIn K (.ref C) "__init__"=some (some (.ref f))
 fn:PySem.W.isFn K (.ref f)=true
 kp:PySem.W.keepIn K (.ref C)=true
theorem rJ {pins:List (Addr×Obj)} {σ:St} {H:Hp} {s:Shared} {Q:VK} {us:List Value} {vs:List V} (M:Mk X.K C f) (F:aW X.prog X.w X.K X.mg X.base CX k f fd ps sp) (hr:Room (k+1) X.A) (hb:Binds X.K fd ps ds) (hd:Vals dvs ds)
 (hx:gH CX X E) (I:Inv X pins σ H s) (r:Vals vs us)
 (h:∀ x dx,H x=none->H dx=none->dx≠x->sp (.ref x::(vs++dvs)) (upd (upd H dx (.own x)) x (.ins C dx [])) (fun v H2=>v=.non/\Q (.ref x) H2) E) :
 wpAny (model X.prog X.w) X.A (call (.ref C) us) (EP X pins σ Q) X.xe s:=by
 have hq:=h (s.heap.objs.size+1) s.heap.objs.size (I.hok.fresh (Nat.le_succ _)) (I.hok.fresh (Nat.le_refl _)) (Nat.ne_of_lt (Nat.lt_succ_self _));have I2:=Inv.made (C:=C) I;have r2:Vals (V.ref (s.heap.objs.size+1)::(vs++dvs)) (Value.ref (s.heap.objs.size+1)::(us++ds)):=.cons rfl (r.append hd)
 have hl:(Value.ref (s.heap.objs.size+1)::us++ds).length=ps.length:=by
  have e:=r2.length;rw [F.len _ _ _ _ hq] at e;exact e.symm
 refine wpAny_call (rf (f:=f) I.kIn M.makes M.init (beq_iff_eq.mp M.fn) (codeAny_mono (F.run _ X.stack _ _ ⟨Value.ref (s.heap.objs.size+1)::us,[]⟩ (Value.ref (s.heap.objs.size+1)::(us++ds)) _ _ E (hr.make C us [])
  (I2.env0.make C us []) (hb _ (Value.ref (s.heap.objs.size+1)::us) I2.kIn hl) r2 hq) fun r s' hq'=>?_))
 cases r with
 | error e=>exact hx pins σ _ _ e s' I2 hq'
 | ok fl =>
   cases fl with
   | ret u =>
     obtain ⟨v,H',I3,rv,ev,q3⟩:=I2.after hq';subst ev;exact ⟨rv,⟨V.ref (s.heap.objs.size+1),H',I3,rfl,q3⟩⟩
   | next=>exact False.elim hq'
   | brk=>exact False.elim hq'
   | cont=>exact False.elim hq'
theorem nI (M:Mk X.K C f) (F:aW X.prog X.w X.K X.mg X.base CX k f fd ps sp) (hr:Room (k+1) X.A) (hg:Gl X x) (hm:X.mg x=some (.ref C)) (hb:Binds X.K fd ps ds) (hd:Vals dvs ds) (hx:gH CX X E)
 (hdb:(x == ("__debug__":Str))=false:=by decide):PE X (.Call (.Name x p) [] [] pos) (uZ C sp dvs E fT):=by
 intro pins s σ H Q I h;refine wpAny_Call_Name_kw (mi I hg hm ?_ hdb);exact PySem.W.callWith_K0 I.kIn M.kp (rJ (us:=[]) M F hr hb hd hx I .nil h)
end
section
variable {X:Cx} {CX:CXT} {k:Nat} {f C:Addr} {fd:FuncData} {ps ks:List Str} {sp:Sp} {E:XK} {x m:Str} {p pos apos kpos:Pos} {e o:Expr} {es:List Expr} {kws:List Keyword} {te ta:TE} {t tk:TA} {nm:Option Str}
variable {g:List Value->List Value->List Value} {gV:List V->List V->List V}
end
structure ax (N P:List Str) (sc:Scope):Prop where
 kind:sc.kind=.function
 co:sc.isCoroutine=false
 gen:sc.isGenerator=false
 nd:N.Nodup
 pre:N.take P.length=P
 par:∀ x∈P,sc.names.lookup x=some .local∨sc.names.lookup x=some .cell
 nofree:∀ y∈sc.names,y.2≠.free
theorem kY {kindOf:Str->Option NameKind} {x:Str}:∀ {binds:List (Str×Value)} {m:Str->Option Value},(∀ v,(x,v)∉binds)->bindL kindOf binds m x=m x
 | [],_,_=>rfl
 | (n,v)::r,m,h=>by
   unfold bindL;rw [kY fun w hw=>h w (List.mem_cons_of_mem _ hw)];split
   · have:x≠n:=by rintro rfl;exact h v List.mem_cons_self
     simp [this]
   · rfl
theorem lq {kindOf:Str->Option NameKind} {x:Str}:∀ {binds:List (Str×Value)} {m:Str->Option Value},(∀ v,(x,v)∉binds)->bindC kindOf binds m x=m x
 | [],_,_=>rfl
 | (n,v)::r,m,h=>by
   unfold bindC;rw [lq fun w hw=>h w (List.mem_cons_of_mem _ hw)];split
   · rfl
   · have:x≠n:=by rintro rfl;exact h v List.mem_cons_self
     simp [this]
theorem kQ {kindOf:Str->Option NameKind} {x:Str} {v:Value}:∀ {P:List Str} {vs:List Value} {i:Nat} {m:Str->Option Value},P.Nodup->P[i]?=some x->vs[i]?=some v->kindOf x=some .local →
 bindL kindOf (P.zip vs) m x=some v
 | [],_,_,_,_,h,_,_=>by simp at h
 | _::_,[],_,_,_,_,h,_=>by simp at h
 | p::P,w::vs,0,m,nd,h1,h2,hk=>by
   simp at h1 h2;subst h1;subst h2;show bindL kindOf ((p,w)::P.zip vs) m p=_;unfold bindL;rw [kY fun v hv=>(List.nodup_cons.mp nd).1 (List.of_mem_zip hv).1,if_pos hk];simp
 | p::P,w::vs,i+1,m,nd,h1,h2,hk=>by
   show bindL kindOf ((p,w)::P.zip vs) m x=_;unfold bindL;exact kQ (i:=i) (List.nodup_cons.mp nd).2 (by simpa using h1) (by simpa using h2) hk
theorem kL {kindOf:Str->Option NameKind} {x:Str} {v:Value}:∀ {P:List Str} {vs:List Value} {i:Nat} {m:Str->Option Value},P.Nodup->P[i]?=some x->vs[i]?=some v->kindOf x≠some .local →
 bindC kindOf (P.zip vs) m x=some v
 | [],_,_,_,_,h,_,_=>by simp at h
 | _::_,[],_,_,_,_,h,_=>by simp at h
 | p::P,w::vs,0,m,nd,h1,h2,hk=>by
   simp at h1 h2;subst h1;subst h2;show bindC kindOf ((p,w)::P.zip vs) m p=_;unfold bindC;rw [lq fun v hv=>(List.nodup_cons.mp nd).1 (List.of_mem_zip hv).1,if_neg hk];simp
 | p::P,w::vs,i+1,m,nd,h1,h2,hk=>by
   show bindC kindOf ((p,w)::P.zip vs) m x=_;unfold bindC;exact kL (i:=i) (List.nodup_cons.mp nd).2 (by simpa using h1) (by simpa using h2) hk
def start (N:List Str) (vs:List V):St:=vs.map some++List.replicate (N.length - vs.length) none
def qo (CX:CXT) (P:Program) (w:World) (K:PySem.W.Frag) (mg:Str->Option Value) (base:Heap) (N:List Str) (qual:Str) (scope:Scope) (f:Addr) (cd:Value) (A:Around) (outer:List Env) (s:Shared) (H:Hp) (E:XK):Cx where
 prog:=P
 w:=w
 K:=K
 mg:=mg
 base:=base
 A:=A.deeper (envOfC qual scope s.heap.objs.size f cd)
 N:=N
 s₀:=s
 H₀:=H
 env:=envOfC qual scope s.heap.objs.size f cd
 outer:=outer
 stack:=envOfC qual scope s.heap.objs.size f cd::outer
 ex:=[]
 calm:=true
 fn:=fun _=>true
 pn:=[]
 xe:=fun e s'=>wpAny (model P w) (A.deeper (envOfC qual scope s.heap.objs.size f cd)) (leaving (envOfC qual scope s.heap.objs.size f cd) e) (fun _ s''=>CX outer H s E e s'') (fun e' s''=>CX outer H s E e' s'') s'
theorem nD {sc:Scope} {n:Nat} {x:Str} (h:sc.names.lookup x=some .cell):∃ c,(cellsFrom n sc.names []).lookup x=some c:=by
 have q:=PySem.W.cellsFrom_some sc.names n [] (.inl h);exact Option.isSome_iff_exists.mp q
theorem pQ {CX:CXT} {P:Program} {w:World} {K:PySem.W.Frag} {mg:Str->Option Value} {base:Heap} {N ps:List Str} {qual:Str} {scope:Scope} {f:Addr} {cd:Value} {A:Around} {outer:List Env} {s s1:Shared} {H:Hp} {E:XK} {us:List Value} {vs:List V}
 (S:ax N ps scope) (hd:A.handled=none) (e0:Env0 P w K mg base A outer s H) (hl:vs.length=ps.length) (r:Vals vs us)
 (x:InCallC s s.heap.objs.size (bindL (envOfC qual scope s.heap.objs.size f cd).kindOf (ps.zip us) fun _=>none) (cellsFrom (s.heap.objs.size+1) scope.names []) (bindC (envOfC qual scope s.heap.objs.size f cd).kindOf (ps.zip us) fun _=>none) s1) :
 Inv (qo CX P w K mg base N qual scope f cd A outer s H E) [] (start N vs) H s1:=by
 have hpl:ps.length<=N.length:=by have:=congrArg List.length S.pre;rw [List.length_take] at this;omega
 obtain ⟨h1,tk,rfl,hk⟩:=x.done;have noA:∀ b:Addr,b∉(qo CX P w K mg base N qual scope f cd A outer s H E).ex:=fun b z=>absurd (show b∈([]:List Addr) from z) (by simp)
 refine ⟨⟨e0.mod,S.kind,rfl,rfl,Nat.le_refl _,fun y z c h1 h2=>?_,fun y hy=>?_,fun y c _ h=>?_,fun _=>hd,Around.frames_deeper e0.frames,.inr ⟨rfl,rfl⟩,fun b z=>absurd z (noA b),e0.bs,e0.bsz,fun b _ _=>noA b,fun b z=>absurd z (noA b),e0.funs,e0.frf⟩,
  rfl,e0.bare,Un.kept hk,⟨_,x.toInCall.ns,fun i y v h1 h2 h3=>?_⟩,fun y c h=>⟨_,x.cell y c h⟩,e0.hok.fresh (Nat.le_refl _),fun y c h=>?_,fun p hp=>absurd (show p∈([]:List (Addr×Obj)) from hp) (by simp),e0.hok.kept hk,?_⟩
 · exact name_of_addr x.apart (PySem.mem_of_lookup h1) (PySem.mem_of_lookup h2)
 · have hy:scope.names.lookup y=some .cell∨scope.names.lookup y=some .free:=hy;rcases hy with hy | hy
   · exact nD hy
   · exact absurd rfl (S.nofree _ (PySem.mem_of_lookup hy))
 · exact Nat.le_of_lt (x.above y c (PySem.mem_of_lookup h))
 · have hi:i<vs.length:=by
    unfold start at h2;by_cases hi:i<vs.length
    · exact hi
    · rw [List.getElem?_append_right (by simpa using hi)] at h2;rw [List.getElem?_replicate] at h2;split at h2 <;> cases h2
   have ha:vs[i]?=some v:=by
    unfold start at h2;rw [List.getElem?_append_left (by simpa using hi),List.getElem?_map] at h2;cases e:vs[i]? with
    | none=>rw [e] at h2;cases h2
    | some a=>rw [e] at h2;cases h2;rfl
   obtain ⟨u,hu,rv⟩:=r.get ha
   have hp:ps[i]?=some y:=by
    rw [<- S.pre,List.getElem?_take_of_lt (by omega)];exact h1
   have ndP:ps.Nodup:=by rw [<- S.pre];exact S.nd.sublist (List.take_sublist _ _)
   refine ⟨u,rv,?_⟩;rcases S.par y (List.mem_of_getElem? hp) with k | k
   · exact .inl ⟨k,kQ ndP hp hu k⟩
   · obtain ⟨c,e⟩:=nD (n:=s.heap.objs.size+1) k;refine .inr ⟨.inl k,c,e,?_⟩;have q:=x.cell y c e;rw [kL ndP hp hu (by show scope.names.lookup y≠_;rw [k];decide)] at q;exact q
 · exact e0.hok.fresh (Nat.le_of_lt (x.above y c (PySem.mem_of_lookup h)))
 · unfold start;show _=N.length;rw [List.length_append,List.length_map,List.length_replicate];omega
theorem ve {CX:CXT} {P:Program} {w:World} {K:PySem.W.Frag} {mg:Str->Option Value} {base:Heap} {k:Nat} {f:Addr} {name qual:Str} {params:Arguments} {body:List Stmt} {scope:Scope} {dV kV doc pm cdv ct oc:Value} {an od:Option Addr}
 {osl:Array (Option Value)} {N ps:List Str} {sp:Sp} (lk:K.lookup f=some ⟨oc,od,.func (PySem.W.fnOf name qual params body scope dV kV doc pm an cdv ct),osl⟩) (hcd:PySem.W.codeIn K cdv qual=true) (S:ax N ps scope)
 (len:∀ vs H Q E,sp vs H Q E->vs.length=ps.length)
 (hbody:∀ (A:Around) (outer:List Env) (s:Shared) (H:Hp) (vs:List V) (Q:VK) (E:XK),Room k (A.deeper (envOfC qual scope s.heap.objs.size f cdv))->sp vs H Q E →
  ∃ t,PSs (qo CX P w K mg base N qual scope f cdv A outer s H E) body t/\t { nx:=fun _ H'=>Q .non H',rt:=Q } (start N vs) H) :
 aW P w K mg base CX (k+1) f (PySem.W.fnOf name qual params body scope dV kV doc pm an cdv ct) ps sp:=by
 refine ⟨len,fun A outer s H args us vs Q E hr e0 hb r hsp=>?_⟩;have hl:=len _ _ _ _ hsp;have KX:K.In s.heap:=e0.mod.kin.keeps fun b o e=>(e0.bs b o e).1;have lim:s.heap.NoLimit:=e0.mod.nolimit.keeps fun b o e=>(e0.bs b o e).1
 have hkind:∀ y∈ps.zip us,scope.names.lookup y.1=some .local∨(scope.names.lookup y.1=some .cell/\((cellsFrom (s.heap.objs.size+1) scope.names []).lookup y.1).isSome=true):=fun ⟨n,v⟩ hy=>by
  rcases S.par n (List.of_mem_zip hy).1 with q | q
  · exact .inl q
  · exact .inr ⟨q,PySem.W.cellsFrom_some _ _ _ (.inl q)⟩
 refine codeAny_call_function hr.depth (KX _ _ lk) rfl S.co S.gen rfl (PySem.W.codeRec_of KX hcd) (hb _ _ _ _ ?_);refine wpAny_newFunctionEnv_cells S.kind hkind fun env he s1 x=>?_;subst he;refine ⟨lim.keeps x.toInCall.keep,codeAny_func ?_⟩;obtain ⟨t,ht,hq⟩:=hbody A outer s H vs Q E (hr.deeper _) hsp;have I:Inv (qo CX P w K mg base N qual scope f cdv A outer s H E) [] (start N vs) H s1:=pQ S hr.hd e0 hl r x;refine wpAny_mono (ht [] s1 (start N vs) H _ I hq) (fun fl s' hs=>?_) fun e s' hs=>hs
 have fin:∀ {σ':St} {H':Hp} {v:V} {u:Value},Inv (qo CX P w K mg base N qual scope f cdv A outer s H E) [] σ' H' s'->RelV v u->Q v H'->CE outer P w H s Q u s' :=
  fun {σ' H' v u} J rv q=>⟨v,H',J.os,J.bare,J.base,J.hok,rv,q⟩
 cases fl with
 | ret u =>
   obtain ⟨v,σ',H',J,rv,q⟩:=hs;exact fin J rv q
 | next =>
   obtain ⟨σ',H',J,q⟩:=hs;exact fin (v:=V.non) (u:=Value.none) J rfl q
 | brk =>
   obtain ⟨_,_,_,q⟩:=hs;exact False.elim q
 | cont =>
   obtain ⟨_,_,_,q⟩:=hs;exact False.elim q
end L2
namespace L2
open PySem PySem.Spec PyProof.Rows
section
variable {X:Cx} {x:Str} {p pos:Pos} {e:Expr} {es:List Expr} {t:TA} {id T:String} {r:List V->Hp->VK->Prop}
def tCB (r:List V->Hp->VK->Prop) (t:TA):TE:=fun σ H Q=>t σ H fun vs H1=>r vs H1 Q
theorem aG (hc:eZ X (.builtin id) r) (hg:Gl X x) (hm:X.mg x=none) (hv:bootBuiltins x=some (.builtin id)) (ha:PA X (e::es) t) (hn:x≠"__name__":=by decide) (hdb:(x == ("__debug__":Str))=false:=by decide)
 (he:starEach (e::es) X.env=(false,eval e X.env)::starEach es X.env:=by rfl) (hpl:(backTo pos (starEach es X.env)).any (·.1)=false:=by rfl):PE X (.Call (.Name x p) (e::es) [] pos) (tCB r t):=by
 intro pins s σ H Q I h;refine wpAny_Call_Name_kw (fH I hg hm hv ?_ hn hdb);exact PyProof.Rows.callWith_builtin1 (thn (ha pos pins s σ H _ I h) fun us s1 ⟨vs,H1,I1,r1,q1⟩=>hc pins s1 σ H1 vs us Q I1 r1 q1) he hpl
theorem ba (hc:eZ X (.type T) r) (hg:Gl X x) (hm:X.mg x=none) (hv:bootBuiltins x=some (.type T)) (ha:PA X (e::es) t) (hn:x≠"__name__":=by decide) (hdb:(x == ("__debug__":Str))=false:=by decide)
 (he:starEach (e::es) X.env=(false,eval e X.env)::starEach es X.env:=by rfl) (hpl:(backTo pos (starEach es X.env)).any (·.1)=false:=by rfl):PE X (.Call (.Name x p) (e::es) [] pos) (tCB r t):=by
 intro pins s σ H Q I h;refine wpAny_Call_Name_kw (fH I hg hm hv ?_ hn hdb);exact PyProof.Rows.callWith_type1 (thn (ha pos pins s σ H _ I h) fun us s1 ⟨vs,H1,I1,r1,q1⟩=>hc pins s1 σ H1 vs us Q I1 r1 q1) he hpl
end
end L2
namespace HT
open PySem PyProof.Rows
section
open PySem.SeqAt
open PySem.AutoSeq1 (wpAny_loadPart')
open PySem.MeetsSeq PySem.MeetsSeq2 PySem.MeetsSeq3
end
section
variable {prog:Program} {w:World} {A:Around} {E:Value->Shared->Prop} {s:Shared}
theorem cat_tup {t b:Addr} {vs ws:List Value} {Q:Value->Shared->Prop} (ht:IsTup s.heap t vs.toArray) (hb:IsTup s.heap b ws.toArray) (hv:vs≠[])
 (h1:ws=[]->Q (.ref t) s) (h2:ws≠[]->Q (.ref s.heap.objs.size) { s with heap:=s.heap.push { cls:=.type "tuple",data:=.seq (vs++ws).toArray } })
 (hsz:vs.length+ws.length<=sizeLine):wpAny (model prog w) A (binaryOp .Add (.ref t) (.ref b)) Q E s:=by
 obtain ⟨⟨cls,dd,data,sl⟩,ho,hc,n,hd⟩:=id ht;obtain ⟨⟨cls2,dd2,data2,sl2⟩,ho2,hc2,n2,hd2⟩:=id hb;simp only at hc hd hc2 hd2;subst hc hd hc2 hd2;have e:vs.toArray++ws.toArray=(vs++ws).toArray:=by simp
 by_cases hw:ws=[]
 · exact concat_meets ⟨_,ho,rfl⟩ ⟨_,ho2,rfl⟩ noFill_tuple_add seq_tuple_add PySem.F.slot_tuple_add PySem.F.entry_tuple_add (PySem.F.args_tuple_add_2 _ _)
    (tuple_addW1 t b vs.toArray ws.toArray n n2 dd dd2 sl sl2 (by simpa using hv) (by simp [hw])) ⟨ho,ho2,h1 hw⟩
 · refine concat_meets ⟨_,ho,rfl⟩ ⟨_,ho2,rfl⟩ noFill_tuple_add seq_tuple_add PySem.F.slot_tuple_add PySem.F.entry_tuple_add (PySem.F.args_tuple_add_2 _ _)
    (tuple_addW2 t b vs.toArray ws.toArray n n2 dd dd2 sl sl2 (by simpa using hv) (by simpa using hw) (by rw [List.size_toArray,List.size_toArray];exact hsz)) ⟨ho,ho2,?_⟩
   rw [e];exact h2 hw
def sIx (n d:Nat):Option Int->Nat
 | none=>d
 | some v=>if v<0 then (v+(n:Int)).toNat else min v.toNat n
theorem sIx_none (n d:Nat):sIx n d none=d:=rfl
theorem sIx_nat (n d k:Nat):sIx n d (some (k:Int))=min k n:=by
 show (if (k:Int)<0 then ((k:Int)+(n:Int)).toNat else min (k:Int).toNat n)=min k n;rw [if_neg (by omega),Int.toNat_natCast]
theorem sIx_le (n d:Nat) (hd:d<=n) (o:Option Int):sIx n d o<=n:=by
 cases o with
 | none=>exact hd
 | some v =>
   show (if v<0 then (v+(n:Int)).toNat else min v.toNat n)<=n;by_cases hv:v<0
   · rw [if_pos hv];omega
   · rw [if_neg hv];exact Nat.min_le_right _ _
theorem clip_eq (v:Int) (n d:Nat):(if v<0 then max (v+(n:Int)) 0 else min v (n:Int))=((sIx n d (some v):Nat):Int):=by
 show (if v<0 then max (v+(n:Int)) 0 else min v (n:Int))=(((if v<0 then (v+(n:Int)).toNat else min v.toNat n):Nat):Int);by_cases hv:v<0
 · simp only [if_pos hv];omega
 · simp only [if_neg hv];omega
theorem adjust_gen (lo hi:Option Int) (n:Nat):Builtin.Slice.sliceAdjust lo hi 1 (n:Int)=(((sIx n 0 lo:Nat):Int),((sIx n n hi:Nat):Int)):=by
 have h1:¬ ((1:Int)<0):=by omega
 unfold Builtin.Slice.sliceAdjust;simp only [h1,if_false];refine Prod.ext ?_ ?_
 · cases lo with
   | none=>rfl
   | some v=>exact clip_eq v n 0
 · cases hi with
   | none=>rfl
   | some v=>exact clip_eq v n n
theorem places_gen (i j:Nat):Builtin.Slice.slicePlaces (i:Int) (j:Int) 1=j - i:=by
 unfold Builtin.Slice.slicePlaces;have h1:(1:Int) > 0:=by omega
 simp only [h1,if_true,Int.ediv_one];split <;> omega
theorem slicePart_ {v:Value} {o:Option Int} {Q:Option Int->Shared->Prop} (p:IsPart v o) (h:Q o s):wpAny (model prog w) A (Builtin.Slice.slicePartIndex v) Q E s:=by
 cases p with
 | none=>exact slicePart_none h
 | int i t=>exact slicePart_int h
theorem sliceApplied_gen {sl:Addr} {vl vu:Value} {lo hi:Option Int} {n:Nat} {Q:Int×Int×Nat->Shared->Prop} (hs:s.heap.IsSliceOf sl vl vu .none) (pl:IsPart vl lo) (pu:IsPart vu hi)
 (h:Q (((sIx n 0 lo:Nat):Int),1,sIx n n hi - sIx n 0 lo) s):wpAny (model prog w) A (Builtin.Slice.sliceApplied (.ref sl) (pure (n:Int))) Q E s:=by
 obtain ⟨os,hos,hcs,hds⟩:=id hs;unfold Builtin.Slice.sliceApplied Builtin.Slice.sliceFields;refine wpAny_bind (wpAny_bind (wpAny_field hos hds (x:=vl) rfl (wpAny_bind (wpAny_field hos hds (x:=vu) rfl (wpAny_bind (wpAny_field hos hds (x:=.none) rfl (wpAny_pure ?_)))))));refine wpAny_bind (slicePart_none ?_);show wpAny _ _ (if ((1:Int) == 0)=true then _ else _) _ _ s;rw [if_neg (by decide)];refine wpAny_bind (slicePart_ pl (wpAny_bind (slicePart_ pu (wpAny_bind (wpAny_pure ?_)))));show wpAny _ _ (match Builtin.Slice.sliceAdjust lo hi 1 (n:Int) with | (lo,hi)=>pure (lo,(1:Int),Builtin.Slice.slicePlaces lo hi 1)) _ _ s;rw [adjust_gen lo hi n];show wpAny _ _ (pure (((sIx n 0 lo:Nat):Int),(1:Int),Builtin.Slice.slicePlaces ((sIx n 0 lo:Nat):Int) ((sIx n n hi:Nat):Int) 1)) _ _ s;rw [places_gen];exact wpAny_pure h
theorem pick_gen (xs:Array Value) (i k:Nat):((List.range k).filterMap fun (m:Nat)=>xs[((i:Int)+(m:Int) * 1).toNat]?).toArray=((xs.toList.drop i).take k).toArray:=by
 have e:(fun (m:Nat)=>xs[((i:Int)+(m:Int) * 1).toNat]?)=fun m=>xs[i+m]?:=by
  funext m;have:((i:Int)+(m:Int) * 1).toNat=i+m:=by omega
  rw [this]
 rw [e];have:=pick_run xs i k;rw [List.filterMap_map] at this;have e2:((fun x=>xs[x]?) ∘ fun x=>i+x)=fun m=>xs[i+m]?:=rfl;rw [e2] at this;rw [this]
theorem getItem_tuple_cut {t sl:Addr} {items:Array Value} {vl vu:Value} {lo hi:Option Int} {Q:Value->Shared->Prop} (ht:IsTup s.heap t items) (hs:s.heap.IsSliceOf sl vl vu .none) (pl:IsPart vl lo) (pu:IsPart vu hi)
 (hw:¬ (sIx items.size 0 lo=0/\sIx items.size items.size hi=items.size))
 (h:Q (.ref s.heap.objs.size) { s with heap:=s.heap.push { cls:=.type "tuple",data:=.seq ((items.toList.drop (sIx items.size 0 lo)).take (sIx items.size items.size hi - sIx items.size 0 lo)).toArray } })
 (hsz:items.size<=sizeLine):wpAny (model prog w) A (getItem (.ref t) (.ref sl)) Q E s:=by
 have htake:sizeOk (.seq ((items.toList.drop (sIx items.size 0 lo)).take (sIx items.size items.size hi - sIx items.size 0 lo)).toArray):=by
  show ((items.toList.drop (sIx items.size 0 lo)).take (sIx items.size items.size hi - sIx items.size 0 lo)).toArray.size<=sizeLine;rw [List.size_toArray,List.length_take,List.length_drop,Array.length_toList];omega
 have hj:sIx items.size items.size hi<=items.size:=sIx_le _ _ (Nat.le_refl _) hi;obtain ⟨os,hos,hcs,hds⟩:=id hs;have hTs:s.TypeIs (.ref sl) "slice":=⟨os,hos,hcs⟩;unfold getItem
 try with_reducible refine wpAny_holding ?_
 first | refine wpAny_bind (wpAny_pure ?_) | skip
 refine wpAny_bind (wpAny_sequenceKey ht.typeIs (by decide) ?_)
 refine wpAny_bind (wpAny_callSpecial?_slot (name:=Str.ofString "__getitem__") ht.typeIs PyProof.Rows.slot_tuple_getitem
  (wpAny_call_entry PyProof.Rows.slot_tuple_getitem ht.typeIs entry_tuple_getitem ?_ (args_tuple_getitem _ _)))
 show wpAny _ _ (Builtin.Tuple.tupleItemsOf (.ref t) >>= _) _ _ s;refine wpAny_bind (tupleItemsOf_ ht ?_);refine wpAny_bind (wpAny_typeOf hTs ?_);rw [if_pos (by decide)];refine wpAny_bind (sliceApplied_gen hs pl pu ?_)
 have hno:¬ ((((sIx items.size 0 lo:Nat):Int) == 0 && (1:Int) == 1 && (sIx items.size items.size hi - sIx items.size 0 lo) == items.size)=true):=by
  intro q;rw [Bool.and_eq_true,Bool.and_eq_true] at q;have q1:((sIx items.size 0 lo:Nat):Int)=0:=eq_of_beq q.1.1;have q2:sIx items.size items.size hi - sIx items.size 0 lo=items.size:=eq_of_beq q.2;exact hw ⟨by omega,by omega⟩
 show wpAny _ _ (if (((sIx items.size 0 lo:Nat):Int) == 0 && (1:Int) == 1 && (sIx items.size items.size hi - sIx items.size 0 lo) == items.size)=true then _ else _) _ _ s;rw [if_neg hno,pick_gen]
 first
  | exact wpAny_bind (m:=Builtin.Tuple.tupleExact _) (wpAny_newObj_type (wpAny_pure ⟨_,rfl,wpAny_pure h⟩) htake)
  | exact wpAny_bind (m:=Builtin.Tuple.tupleExact _) (wpAny_newObj_type (wpAny_bind (wpAny_pure (wpAny_pure ⟨_,rfl,wpAny_pure h⟩))) htake)
  | exact wpAny_bind (wpAny_bind (m:=Builtin.Tuple.tupleExact _) (wpAny_newObj_type (wpAny_pure (wpAny_pure ⟨_,rfl,wpAny_pure h⟩)) htake))
  | exact wpAny_bind (wpAny_bind (m:=Builtin.Tuple.tupleExact _) (wpAny_newObj_type (wpAny_pure ⟨_,rfl,wpAny_pure h⟩) htake))
end
end HT
namespace L2
open PySem PySem.Spec PyProof.Rows
abbrev TO:=St->Hp->(Option Int->Hp->Prop)->Prop
def PO (X:Cx) (e:Option Expr) (t:TO):Prop :=
 ∀ (pins:List (Addr×Obj)) (s:Shared) (σ:St) (H:Hp) (Q:Option Int->Hp->Prop),Inv X pins σ H s->t σ H Q →
   wpAny (model X.prog X.w) X.A (evalPart e X.env) (fun u s'=>∃ o H',Inv X pins σ H' s'/\IsPart u o/\Q o H') X.xe s
def tm:TO:=fun _ H Q=>Q none H
inductive tP (x:V) (Q:Option Int->Hp->Prop) (H1:Hp):Prop
 | mk (i:Int) (zz0:x=.int i) (zz1:Q (some i) H1):tP x Q H1
def t9 (t:TE):TO:=fun σ H Q=>t σ H fun x H1=>tP x Q H1
theorem j6 {ns:List Int}:∀ {us:List Value},Vals (ns.map V.int) us->IntsAre us ns:=by
 induction ns with
 | nil=>intro us r;rw [List.map_nil] at r;cases r;exact .nil
 | cons n ns ih =>
   intro us r;rw [List.map_cons] at r;cases r with
   | cons r1 r2 =>
     obtain ⟨t,e⟩:=r1;subst e;exact .cons n t (ih r2)
section
variable {X:Cx} {e:Expr} {te:TE} {lo hi:Option Expr} {tl th:TO} {pos p2:Pos}
theorem bZ:PO X none tm:=by
 intro pins s σ H Q I h;rw [evalPart_none];exact wpAny_pure ⟨none,H,I,.none,h⟩
theorem bP (h:PE X e te):PO X (some e) (t9 te):=by
 intro pins s σ H Q I hw;rw [evalPart_some];refine thn (h pins s σ H _ I hw) fun u s1 ⟨x,H1,I1,r1,q1⟩=>?_;obtain ⟨i,rfl,q⟩:=q1;obtain ⟨t,rfl⟩:=r1;exact ⟨some i,H1,I1,.int i t,q⟩
def SlR (X:Cx) (r:V->Option Int->Option Int->Hp->VK->Prop):Prop :=
 ∀ (pins:List (Addr×Obj)) (s:Shared) (σ:St) (H:Hp) (x:V) (v vl vu:Value) (lo hi:Option Int) (sl:Addr) (Q:VK),Inv X pins σ H s->RelV x v->s.heap.IsSliceOf sl vl vu .none->IsPart vl lo->IsPart vu hi->r x lo hi H Q →
   ∃ T id,typeLookup (.type T) "__getitem__"=pure (some (.builtin id))/\s.TypeIs v T/\wpAny (model X.prog X.w) X.A (getItem v (.ref sl)) (EP X pins σ Q) X.xe s
def tSl (r:V->Option Int->Option Int->Hp->VK->Prop) (te:TE) (tl th:TO):TE:=fun σ H Q=>te σ H fun x H1=>tl σ H1 fun l H2=>th σ H2 fun u H3=>r x l u H3 Q
theorem bI {r:V->Option Int->Option Int->Hp->VK->Prop} (hr:SlR X r) (he:PE X e te) (hl:PO X lo tl) (hu:PO X hi th):PE X (.Subscript e (.Slice lo hi none p2) pos) (tSl r te tl th):=by
 intro pins s σ H Q I h;refine Subscript_ (thn (he pins s σ H _ I h) fun v s1 ⟨x,H1,I1,r1,q1⟩=>?_);refine wpAny_Slice (thn (hl pins s1 σ H1 _ I1 q1) fun vl s2 ⟨l,H2,I2,pl,q2⟩=>thn (hu pins s2 σ H2 _ I2 q2) fun vu s3 ⟨u,H3,I3,pu,q3⟩=>?_);rw [evalPart_none];refine wpAny_pure ?_;have I4:Inv X pins σ H3 { s3 with heap:=s3.heap.push { cls:=.type "slice",data:=.fields #[vl,vu,.none] } }:=I3.kept (t':=s3.toks) fun b ob q=>Heap.get?_push_of_some _ q;obtain ⟨T,id,hT,ht,hg⟩:=hr pins { s3 with heap:=s3.heap.push { cls:=.type "slice",data:=.fields #[vl,vu,.none] } } σ H3 x v vl vu l u s3.heap.objs.size Q I4 r1 (Heap.IsSliceOf.new ..) pl pu q3;show wpAny (model X.prog X.w) X.A (subscriptTail e (.Slice lo hi none p2) v (.ref s3.heap.objs.size)) (EP X pins σ Q) X.xe { s3 with heap:=s3.heap.push { cls:=.type "slice",data:=.fields #[vl,vu,.none] } };exact tail_any (ops:=[.ref s3.heap.objs.size,v]) ht hT hg (by with_unfolding_all rfl)
def cW (xs:List V) (lo hi:Option Int):List V:=(xs.drop (HT.sIx xs.length 0 lo)).take (HT.sIx xs.length xs.length hi - HT.sIx xs.length 0 lo)
theorem dD (xs:List V) (lo hi:Option Int):(cW xs lo hi).length<=xs.length:=by
 unfold cW;rw [List.length_take,List.length_drop];omega
inductive tQ (K:PySem.W.Frag) (x:V) (lo:Option Int) (hi:Option Int) (H:Hp) (Q:VK):Prop
 | mk (a:_) (xs:_) (zz0:x=.ref a) (zz1:SqT K H a xs) (zz2:¬ (HT.sIx xs.length 0 lo=0/\HT.sIx xs.length xs.length hi=xs.length)) (zz3:∀ p,H p=none->Q (.ref p) (upd H p (.tup (cW xs lo hi)))):tQ K x lo hi H Q
def wy (K:PySem.W.Frag):V->Option Int->Option Int->Hp->VK->Prop:=tQ K
theorem lS:SlR X (wy X.K):=by
 intro pins s σ H x v vl vu lo hi sl Q I rx hs pl pu h;obtain ⟨a,xs,rfl,hx,hw,q⟩:=h;cases rx;obtain ⟨its,r,ht,hz⟩:=I.tuple hx;have hlen:its.toArray.size=xs.length:=by rw [List.size_toArray];exact r.length.symm
 refine ⟨"tuple",_,PyProof.Rows.slot_tuple_getitem.lookup,ht.typeIs,?_⟩;refine HT.getItem_tuple_cut ht hs pl pu (by rw [hlen];exact hw) ?_ (by rw [hlen];exact hz);rw [hlen];refine ⟨.ref s.heap.objs.size,_,I.laid (t':=s.toks) (o:=.tup (cW xs lo hi)) (fun b ob q=>Heap.get?_push_of_some _ q) (Nat.le_refl _) ?_,rfl,q _ (I.hok.fresh (Nat.le_refl _))⟩;exact ⟨Nat.le_trans (dD xs lo hi) hz,_,0,(r.drop (HT.sIx xs.length 0 lo)).take (HT.sIx xs.length xs.length hi - HT.sIx xs.length 0 lo),Heap.get?_push_size _ rfl⟩
def vh (K:PySem.W.Frag):R2:=fun x y H Q=>∃ a b xs ys,x=.ref a/\y=.ref b/\SqT K H a xs/\SqT K H b ys/\xs≠[]/\xs.length+ys.length<=sizeLine ∧
 (ys=[]->Q (.ref a) H)/\(ys≠[]->∀ p,H p=none->Q (.ref p) (upd H p (.tup (xs++ys))))
theorem Vals.nil_iff {xs:List V} {us:List Value} (r:Vals xs us):us=[]↔xs=[]:=by
 cases r with
 | nil=>simp
 | cons _ _=>simp
theorem sW:OpR X (binaryOp .Add) (vh X.K):=by
 intro pins s σ H x y v u Q I rx ry h;obtain ⟨a,b,xs,ys,rfl,rfl,ha,hb,hx,hz,q1,q2⟩:=h;cases rx;cases ry;obtain ⟨its,r1,p1,_⟩:=I.tuple ha;obtain ⟨its2,r2,p2,_⟩:=I.tuple hb;refine HT.cat_tup p1 p2 (fun z=>hx (r1.nil_iff.mp z)) (fun z=>⟨.ref a,H,I,rfl,q1 (r2.nil_iff.mp z)⟩) (fun z=>?_) (by rw [<- r1.length,<- r2.length];exact hz);refine ⟨.ref s.heap.objs.size,_,I.laid (t':=s.toks) (o:=.tup (xs++ys)) (fun b ob q=>Heap.get?_push_of_some _ q) (Nat.le_refl _) ?_,rfl,q2 (fun w=>z (r2.nil_iff.mpr w)) _ (I.hok.fresh (Nat.le_refl _))⟩;exact ⟨by rw [List.length_append];exact hz,_,0,r1.append r2,Heap.get?_push_size _ rfl⟩
end
end L2
namespace L2
open PySem PySem.Spec PyProof.Rows
def ixN (n:Nat) (i:Int):Option Nat:=if 0<=i then (if i<n then some i.toNat else none) else if -(n:Int)<=i then some (i+n).toNat else none
def atI {α:Type} (xs:List α) (i:Int):Option α:=(ixN xs.length i).bind fun j=>xs[j]?
theorem pB {n:Nat} {i:Int} {j:Nat} (h:ixN n i=some j):seqIndex? i n=some j/\j<n/\-(n:Int)<=i/\i<n:=by
 unfold ixN at h;by_cases h0:0<=i
 · rw [if_pos h0] at h;by_cases h1:i<n
   · rw [if_pos h1] at h;have e:i.toNat=j:=Option.some.inj h;exact ⟨by rw [seqIndex_of h0 h1,e],by omega,by omega,h1⟩
   · rw [if_neg h1] at h;cases h
 · rw [if_neg h0] at h;by_cases h1:-(n:Int)<=i
   · rw [if_pos h1] at h;have e:(i+n).toNat=j:=Option.some.inj h;exact ⟨by rw [seqIndex_neg (by omega) h1,e],by omega,h1,by omega⟩
   · rw [if_neg h1] at h;cases h
theorem lZ {α:Type} {xs:List α} {i:Int} {v:α} (h:atI xs i=some v):∃ j,seqIndex? i xs.length=some j/\xs[j]?=some v/\j<xs.length/\-(xs.length:Int)<=i/\i<xs.length:=by
 unfold atI at h;cases e:ixN xs.length i with
 | none=>rw [e] at h;cases h
 | some j =>
   rw [e] at h;obtain ⟨h1,h2,h3,h4⟩:=pB e;exact ⟨j,h1,h,h2,h3,h4⟩
theorem br {α:Type} {xs:List α} {j:Nat} {v:α} (h:xs[j]?=some v):atI xs (j:Int)=some v:=by
 have hj:j<xs.length:=(List.getElem?_eq_some_iff.mp h).1
 have e:ixN xs.length (j:Int)=some j:=by
  unfold ixN;rw [if_pos (by omega),if_pos (by omega)];simp
 unfold atI;rw [e];exact h
def sM (b:Expr):Prop:=∀ o i,subscripted b false o i=operate [o,i] (getItem o i)
def IxR (X:Cx) (r:R2):Prop :=
 ∀ (value slice:Expr) (pins:List (Addr×Obj)) (s:Shared) (σ:St) (H:Hp) (x y:V) (v u:Value) (Q:VK),Inv X pins σ H s->RelV x v->RelV y u->r x y H Q →
   subscripted slice false v u=operate [v,u] (getItem v u)->wpAny (model X.prog X.w) X.A (subscriptTail value slice v u) (EP X pins σ Q) X.xe s
def MtR (X:Cx) (id:String) (r:V->List V->Hp->VK->Prop):Prop :=
 ∀ (pins:List (Addr×Obj)) (s:Shared) (σ:St) (H:Hp) (x:V) (xs:List V) (v:Value) (us:List Value) (Q:VK),Inv X pins σ H s->RelV x v->Vals xs us->r x xs H Q →
   wpAny (model X.prog X.w) X.A (call (.builtin id) (v::us)) (EP X pins σ Q) X.xe s
section
variable {X:Cx} {a b:Expr} {ta tb:TE} {pos:Pos}
theorem az {r:R2} (hr:IxR X r) (ha:PE X a ta) (hb:PE X b tb) (hs:sM b):PE X (.Subscript a b pos) (tOp r ta tb):=by
 intro pins s σ H Q I h;exact Subscript_ (uD ha hb I h fun v u s2 x y H2 I2 rx ry q=>hr a b pins s2 σ H2 x y v u Q I2 rx ry q (hs _ _))
inductive tX (K:PySem.W.Frag) (x:V) (y:V) (H:Hp) (Q:VK):Prop
 | mk (p:_) (xs:_) (i:_) (v:_) (zz0:x=.ref p) (zz1:y=.int i) (zz2:SqL K H p xs) (zz3:atI xs i=some v) (zz4:Q v H):tX K x y H Q
def wv (K:PySem.W.Frag):R2:=tX K
inductive tY (K:PySem.W.Frag) (x:V) (y:V) (H:Hp) (Q:VK):Prop
 | mk (p:_) (xs:_) (i:_) (v:_) (zz0:x=.ref p) (zz1:y=.int i) (zz2:SqT K H p xs) (zz3:atI xs i=some v) (zz4:Q v H):tY K x y H Q
def jj (K:PySem.W.Frag):R2:=tY K
inductive tN (x:V) (y:V) (H:Hp) (Q:VK):Prop
 | mk (z:_) (i:_) (c:_) (zz0:x=.str z) (zz1:y=.int i) (zz2:z.length<=sizeLine) (zz3:atI z.cps.toList i=some c) (zz4:Q (.str ⟨#[c]⟩) H):tN  x y H Q
def vV:R2:=tN
theorem bh:IxR X (wv X.K):=by
 intro value slice pins s σ H x y v u Q I rx ry h hs;obtain ⟨p,xs,i,z,rfl,rfl,hq,he,q⟩:=h;cases rx;obtain ⟨t,rfl⟩:=ry;obtain ⟨its,r,pl,hz⟩:=I.list hq;obtain ⟨j,h1,h2,h3,h4,h5⟩:=lZ he;obtain ⟨w,ew,rw'⟩:=r.get h2;have hl:=r.length;have hn:=fo;have fin:EP X pins σ Q w s:=⟨z,H,I,rw',q⟩;by_cases h0:0<=i
 · have hj:i.toNat=j:=by
    rw [seqIndex_of h0 h5] at h1;exact Option.some.inj h1
   exact item_listR pl.isList h0 (by omega) (by rw [hj];simpa using ew) fin hs
 · have hj:(i+(its.toArray.size:Int)).toNat=j:=by
    rw [seqIndex_neg (by omega) h4] at h1;rw [List.size_toArray,<- hl];exact Option.some.inj h1
   exact subscriptTail_builtinR (x:=w) pl.isList.typeIs slot_list_getitem.lookup
    (wpAny_getItem_list_neg (Q:=fun r s'=>r=w/\EP X pins σ Q r s') pl.isList (by omega) (by rw [List.size_toArray] <;> omega) (by omega) (by rw [hj];simpa using ew) ⟨rfl,fin⟩) hs
theorem aA:IxR X (jj X.K):=by
 intro value slice pins s σ H x y v u Q I rx ry h hs;obtain ⟨p,xs,i,z,rfl,rfl,hq,he,q⟩:=h;cases rx;obtain ⟨t,rfl⟩:=ry;obtain ⟨its,r,pl,hz⟩:=I.tuple hq;obtain ⟨j,h1,h2,h3,h4,h5⟩:=lZ he;obtain ⟨w,ew,rw'⟩:=r.get h2;have hl:=r.length;have hn:=fo;have fin:EP X pins σ Q w s:=⟨z,H,I,rw',q⟩
 exact subscriptTail_builtinR (x:=w) pl.typeIs slot_tuple_getitem.lookup
  (getItem_tuple (j:=j) (Q:=fun r s'=>r=w/\EP X pins σ Q r s') pl (by omega) (by omega) (by rw [List.size_toArray,<- hl];exact h1) (by simpa using ew) ⟨rfl,fin⟩) hs
theorem qF:IxR X vV:=by
 intro value slice pins s σ H x y v u Q I rx ry h hs;obtain ⟨z,i,c,rfl,rfl,hz,he,q⟩:=h;obtain ⟨t,rfl⟩:=rx;obtain ⟨t',rfl⟩:=ry;obtain ⟨j,h1,h2,h3,h4,h5⟩:=lZ he;have hl:z.cps.toList.length=z.length:=by simp [Str.length]
 rw [hl] at h1 h4 h5;have hn:=fo
 exact tail_any (typeIs_str s z t) slot_str_getitem.lookup (getItem_str (c:=c) (by
  have e1:decide (i < -(2 ^ 63:Int))=false:=decide_eq_false (by omega);have e2:decide (i ≥ 2 ^ 63)=false:=decide_eq_false (by omega);rw [e1,e2,Bool.or_false]) (by rw [h1];simpa using h2) ⟨.str ⟨#[c]⟩,H,I.tok _,⟨_,rfl⟩,q⟩) hs
theorem oB (its:List Value) (n j:Nat) (u:Value):Obj.mapSeq (·.setIfInBounds j u) { cls:=.type "list",data:=.seq its.toArray n }={ cls:=.type "list",data:=.seq (its.set j u).toArray n }:=by
 simp [Obj.mapSeq]
theorem Inv.lst {pins:List (Addr×Obj)} {σ:St} {H:Hp} {s:Shared} {p:Addr} {xs:List V} (I:Inv X pins σ H s) (h:H p=some (.lst xs)) :
 ∃ (its:List Value) (n:Nat),Vals xs its/\s.heap.get? p=some { cls:=.type "list",data:=.seq its.toArray n }/\xs.length<=sizeLine:=by
 obtain ⟨z,its,n,r,e⟩:=I.hok p _ h;exact ⟨its,n,r,e,z⟩
theorem Inv.lstUpd {pins:List (Addr×Obj)} {σ:St} {H:Hp} {s:Shared} {p:Addr} {xs ys:List V} {its its':List Value} {n n':Nat} {f:Obj->Obj} (I:Inv X pins σ H s) (h:H p=some (.lst xs))
 (ho:s.heap.get? p=some { cls:=.type "list",data:=.seq its.toArray n }) (hf:f { cls:=.type "list",data:=.seq its.toArray n }={ cls:=.type "list",data:=.seq its'.toArray n' }) (r:Vals ys its') (hz:ys.length<=sizeLine) (t:Nat) :
 Inv X pins σ (upd H p (.lst ys)) { s with heap:=s.heap.update p f,toks:=t }:=by
 have e:(s.heap.update p f).get? p=some { cls:=.type "list",data:=.seq its'.toArray n' }:=by
  rw [Heap.get?_update_self f ho (by rw [hf] <;> rfl),hf]
 refine I.write (x:=p) (e:=p) (by rw [h];trivial) (.inl rfl) (fun b u hb q=>(Heap.get?_update_other _ _ (Ne.symm hb)).trans q) ⟨_,e⟩ ?_;exact ⟨hz,its',n',r,e⟩
def vP:V->V->V->Hp->(Hp->Prop)->Prop:=fun o i v H Q=>∃ p xs k j,o=.ref p/\i=.int k/\H p=some (.lst xs)/\ixN xs.length k=some j/\Q (upd H p (.lst (xs.set j v)))
theorem nQ:u6 X vP:=by
 intro pins s σ H o i v ov iv u Q I ro ri rv h;obtain ⟨p,xs,k,j,rfl,rfl,hp,hj,q⟩:=h;cases ro;obtain ⟨t,rfl⟩:=ri;obtain ⟨its,n,r,ho,hz⟩:=I.lst hp;obtain ⟨h1,h2,h3,h4⟩:=pB hj;have hl:=r.length;have hn:=fo
 have I':Inv X pins σ (upd H p (.lst (xs.set j v))) { s with heap:=s.heap.update p (Obj.mapSeq (·.setIfInBounds j u)) } :=
  I.lstUpd hp ho (oB its n j u) (r.set rv j) (by rw [List.length_set];exact hz) s.toks
 by_cases h0:0<=k
 · have hk:k.toNat=j:=by
    rw [seqIndex_of h0 h4] at h1;exact Option.some.inj h1
   exact PySem.W.ki_setAt ho h0 (by omega) (by rw [List.size_toArray,<- hl];exact h4) (by rw [hk];exact ⟨_,I',q⟩)
 · have hk:(k+(its.toArray.size:Int)).toNat=j:=by
    rw [seqIndex_neg (by omega) h3] at h1;rw [List.size_toArray,<- hl];exact Option.some.inj h1
   exact PySem.W.ki_setBack ho (by omega) (by rw [List.size_toArray,<- hl];exact h3) (by omega) (by rw [hk];exact ⟨_,I',q⟩)
theorem l3 (lo hi:Option Int) (n:Nat):(sliceBounds lo hi none n).1=((HT.sIx n 0 lo:Nat):Int)/\(sliceBounds lo hi none n).2.1=((HT.sIx n n hi:Nat):Int)/\(sliceBounds lo hi none n).2.2=1:=by
 refine ⟨?_,?_,rfl⟩
 · cases lo with
   | none=>simp [sliceBounds,HT.sIx]
   | some i =>
     simp only [sliceBounds,HT.sIx,Option.getD_none,show (1:Int) > 0 by decide,if_true];by_cases h:i<0
     · simp only [h,if_true] <;> omega
     · simp only [h,if_false] <;> omega
 · cases hi with
   | none=>simp [sliceBounds,HT.sIx]
   | some i =>
     simp only [sliceBounds,HT.sIx,Option.getD_none,show (1:Int) > 0 by decide,if_true];by_cases h:i<0
     · simp only [h,if_true] <;> omega
     · simp only [h,if_false] <;> omega
theorem kK (its:List Value) (lo hi:Option Int):slicePick its.toArray lo hi none=((its.drop (HT.sIx its.length 0 lo)).take (HT.sIx its.length its.length hi - HT.sIx its.length 0 lo)).toArray:=by
 obtain ⟨h1,h2,h3⟩:=l3 lo hi its.toArray.size;unfold slicePick;rw [h1,h2,h3];simp only [sliceRange_one,pick_run,List.size_toArray] <;> rfl
inductive uc (K:PySem.W.Frag) (x:V) (lo:Option Int) (hi:Option Int) (H:Hp) (Q:VK):Prop
 | mk (a:_) (xs:_) (zz0:x=.ref a) (zz1:SqL K H a xs) (zz2:∀ p,H p=none->Q (.ref p) (upd H p (.lst (cW xs lo hi)))):uc K x lo hi H Q
def wo (K:PySem.W.Frag):V->Option Int->Option Int->Hp->VK->Prop:=uc K
theorem fM:SlR X (wo X.K):=by
 intro pins s σ H x v vl vu lo hi sl Q I rx hs pl pu h;obtain ⟨a,xs,rfl,hx,q⟩:=h;cases rx;obtain ⟨its,r,ht,hz⟩:=I.list hx;have hlen:=r.length;refine ⟨"list",_,slot_list_getitem.lookup,ht.isList.typeIs,?_⟩;refine wpAny_getItem_list_slice ht.isList hs pl pu .none (by simp) ?_ (by rw [List.size_toArray] <;> omega);rw [kK,<- hlen];refine ⟨.ref s.heap.objs.size,_,I.laid (t':=s.toks) (o:=.lst (cW xs lo hi)) (fun b ob q=>Heap.get?_push_of_some _ q) (Nat.le_refl _) ?_,rfl,q _ (I.hok.fresh (Nat.le_refl _))⟩;exact ⟨Nat.le_trans (dD xs lo hi) hz,_,0,(r.drop (HT.sIx xs.length 0 lo)).take (HT.sIx xs.length xs.length hi - HT.sIx xs.length 0 lo),Heap.get?_push_size _ rfl⟩
inductive tU (K:PySem.W.Frag) (xs:List V) (H:Hp) (Q:VK):Prop
 | mk (p:Addr) (ys:List V) (zz0:xs=[.ref p]) (zz1:SqL K H p ys∨SqT K H p ys) (zz2:Q (.int ys.length) H):tU K xs H Q
theorem aB:eZ X (.builtin "len") (tU X.K):=by
 intro pins s σ H xs us Q I r h;obtain ⟨p,ys,rfl,hq,q⟩:=h;obtain ⟨u,rfl,rx⟩:=i4 r;cases rx;have hn:=fo;rcases hq with hq | hq
 · obtain ⟨its,r',pl,hz⟩:=I.list hq;have hlen:=r'.length;exact Calls.call_len_list pl.isList (by simp only [List.size_toArray] <;> omega) ⟨.int ys.length,H,I.tok _,⟨s.toks+1,by rw [List.size_toArray,hlen]⟩,q⟩
 · obtain ⟨its,r',pl,hz⟩:=I.tuple hq;have hlen:=r'.length;exact len_tuple pl (by simp only [List.size_toArray] <;> omega) ⟨.int ys.length,H,I.tok _,⟨s.toks+1,by rw [List.size_toArray,hlen]⟩,q⟩
theorem im:eZ X (.builtin "len") (fun xs H Q=>∃ z,xs=[.str z]/\z.length<=sizeLine/\Q (.int z.length) H):=by
 intro pins s σ H xs us Q I r h;obtain ⟨z,rfl,hz,q⟩:=h;obtain ⟨u,rfl,t,rfl⟩:=i4 r;have hn:=fo;exact len_str (by omega) ⟨.int z.length,H,I.tok _,⟨_,rfl⟩,q⟩
theorem aN:eZ X (.type "tuple") (fun xs H Q=>∃ p ys,xs=[.ref p]/\((SqL X.K H p ys/\∀ l,H l=none->Q (.ref l) (upd H l (.tup ys)))∨(SqT X.K H p ys/\Q (.ref p) H))):=by
 intro pins s σ H xs us Q I r h;obtain ⟨p,ys,rfl,h⟩:=h;obtain ⟨u,rfl,rx⟩:=i4 r;cases rx;rcases h with ⟨hq,q⟩ | ⟨hq,q⟩
 · obtain ⟨its,r',pl,hz⟩:=I.list hq;have hlen:=r'.length;refine call_tuple_list pl.isList (fun h' kp=>?_) (by simp only [List.size_toArray] <;> omega);have I1:Inv X pins σ H { s with heap:=h' }:=I.kept (t':=s.toks) kp
   have I2:Inv X pins σ (upd H h'.objs.size (.tup ys)) { s with heap:=h'.push { cls:=.type "tuple",data:=.seq its.toArray } } :=
    I1.laid (t':=s.toks) (fun b o e=>Heap.get?_push_of_some _ e) (Nat.le_refl _) (show ObjOk X.prog X.w _ _ _ (.tup ys) from ⟨hz,its,0,r',Heap.get?_push_size _ rfl⟩)
   exact ⟨.ref h'.objs.size,_,I2,rfl,q _ (I1.hok.fresh (Nat.le_refl _))⟩
 · obtain ⟨its,r',pl,hz⟩:=I.tuple hq;exact call_tuple_same pl ⟨.ref p,H,I,rfl,q⟩
def tyV (K:PySem.W.Frag) (T:String) (x:V) (H:Hp):Prop:=match x with
 | .str _=>T="str"
 | .int _=>T="int"
 | .ref p=>(T="list"/\∃ xs,SqL K H p xs)∨(T="tuple"/\∃ o,K.lookup p=some o/\o.cls=.type "tuple"/\o.dict=none) ∨
  (T="dict"/\((∃ kvs,H p=some (.dK kvs))∨∃ kvs,H p=some (.dT kvs)))∨(T="set"/\∃ S n,H p=some (.set S n))
 | _=>False
theorem qZ {pins:List (Addr×Obj)} {σ:St} {H:Hp} {s:Shared} {T:String} {x:V} {v:Value} (I:Inv X pins σ H s) (r:RelV x v) (ty:tyV X.K T x H) :
 s.TypeIs v T/\∀ a,v=.ref a->∃ ob,s.heap.get? a=some ob/\ob.dict=none:=by
 cases x with
 | str z =>
   obtain ⟨t,rfl⟩:=r;cases (show T="str" from ty);exact ⟨typeIs_str s z t,fun _ e=>nomatch e⟩
 | int i =>
   obtain ⟨t,rfl⟩:=r;cases (show T="int" from ty);exact ⟨typeIs_int s i t,fun _ e=>nomatch e⟩
 | ref p =>
   cases r;rcases ty with ⟨rfl,xs,hq⟩ | ⟨rfl,o,hk,hc,hd⟩ | ⟨rfl,hk⟩ | ⟨rfl,S,n,hk⟩
   · obtain ⟨its,_,pl,_⟩:=I.list hq;refine ⟨pl.isList.typeIs,fun a e=>?_⟩;cases e;obtain ⟨o,n,e,c,hd,_⟩:=pl;exact ⟨o,e,hd⟩
   · refine ⟨⟨o,I.kIn p o hk,hc⟩,fun a e=>?_⟩;cases e;exact ⟨o,I.kIn _ o hk,hd⟩
   · have z:∃ o,s.heap.get? p=some o/\o.ExactDict:=by
      rcases hk with ⟨kvs,hk⟩ | ⟨kvs,hk⟩
      · obtain ⟨_,_,_,_,o,_,_,e,ex,_⟩:=I.hok p _ hk;exact ⟨o,e,ex⟩
      · obtain ⟨_,_,_,_,o,_,_,e,ex,_⟩:=I.hok p _ hk;exact ⟨o,e,ex⟩
     obtain ⟨o,e,ex⟩:=z;refine ⟨⟨o,e,ex.1⟩,fun a e2=>?_⟩;cases e2;exact ⟨o,e,ex.2.1⟩
   · obtain ⟨o,_,_,_,e,ex,_⟩:=I.hok p _ hk;refine ⟨⟨o,e,ex.1⟩,fun a e2=>?_⟩;cases e2;exact ⟨o,e,ex.2.1⟩
 | _=>exact False.elim ty
def ww (K:PySem.W.Frag) (T:String) (r:V->List V->Hp->VK->Prop) (to:TE):TE:=fun σ H Q=>to σ H fun x H1=>tyV K T x H1/\r x [] H1 Q
def tBM (K:PySem.W.Frag) (T:String) (r:V->List V->Hp->VK->Prop) (to:TE) (t:TA):TE:=fun σ H Q=>to σ H fun x H1=>tyV K T x H1/\t σ H1 fun xs H2=>r x xs H2 Q
variable {o e:Expr} {es:List Expr} {to:TE} {t:TA} {name:Str} {apos cpos:Pos} {T id:String} {r:V->List V->Hp->VK->Prop}
theorem qD (pa:PlainAttrs T) (slot:Slot T name id) (hty:typeOf (.builtin id)=pure (.type "method_descriptor")) (hm:MtR X id r) (ho:PE X o to)
 (hbase:attributeBase o name X.env (eval o X.env)=eval o X.env:=by rfl) (hline:(apos.endLine == cpos.line)=true:=by rfl):PE X (.Call (.Attribute o name apos) [] [] cpos) (ww X.K T r to):=by
 intro pins s σ H Q I h;refine wpAny_Call_method0_late hbase hline (thn (ho pins s σ H _ I h) fun v s1 ⟨x,H1,I1,r1,ty,q1⟩=>?_);obtain ⟨h1,h2⟩:=qZ I1 r1 ty;exact ⟨T,id,pa,slot,hty,h1,h2,Calls.callWith_builtin rfl (PySem.evalArgs_none (hm pins s1 σ H1 x [] v [] Q I1 r1 .nil q1))⟩
theorem ci (pa:PlainAttrs T) (slot:Slot T name id) (hty:typeOf (.builtin id)=pure (.type "method_descriptor")) (hm:MtR X id r) (ho:PE X o to) (ha:PA X (e::es) t)
 (hbase:attributeBase o name X.env (eval o X.env)=eval o X.env:=by rfl)
 (hfew:((backTo cpos (starEach (e::es) X.env)).all (fun x=>!x.1) && (backToKw cpos (keywordEach [] X.env)).all (fun x=>x.1.isSome)
  && decide ((e::es).length+([]:List Keyword).length+(if ([]:List Keyword).isEmpty then 0 else 1)<30))=true:=by rfl)
 (hline:(apos.endLine == cpos.line)=true:=by rfl) (hs:starEach (e::es) X.env=(false,eval e X.env)::starEach es X.env:=by rfl) (hplain:(backTo cpos (starEach es X.env)).any (·.1)=false:=by rfl) :
 PE X (.Call (.Attribute o name apos) (e::es) [] cpos) (tBM X.K T r to t):=by
 intro pins s σ H Q I h;refine wpAny_Call_method_late hbase hfew hline rfl (thn (ho pins s σ H _ I h) fun v s1 ⟨x,H1,I1,r1,ty,q1⟩=>?_);obtain ⟨h1,h2⟩:=qZ I1 r1 ty;refine ⟨T,id,pa,slot,hty,h1,h2,?_⟩;have hA:=ha cpos pins s1 σ H1 _ I1 q1;rw [hs] at hA ⊢;refine Calls.callWith_builtin (by show (false || (backTo cpos (starEach es X.env)).any (·.1))=false;rw [hplain] <;> rfl) (Calls.evalArgs_plain ?_);exact thn hA fun us s2 ⟨vs,H2,I2,r2,q2⟩=>hm pins s2 σ H2 x vs v us Q I2 r1 r2 q2
end
end L2
namespace L2
open PySem PySem.Spec PyProof.Rows
def MtM (X:Cx) (id:String) (r:V->List V->Hp->VK->Prop):Prop :=
 ∀ (pins:List (Addr×Obj)) (s:Shared) (σ:St) (H:Hp) (x:V) (xs:List V) (v:Value) (us:List Value) (Q:VK),Inv X pins σ H s->RelV x v->Vals xs us->r x xs H Q →
   wpAny (model X.prog X.w) X.A (call (.builtin id) (v::us)) (EP X pins σ Q) X.xe s
theorem Vals.one:∀ {x:V} {us:List Value},Vals [x] us->∃ u,us=[u]/\RelV x u
 | _,_,.cons r .nil=>⟨_,rfl,r⟩
theorem Vals.zero:∀ {us:List Value},Vals [] us->us=[]
 | _,.nil=>rfl
theorem Vals.dropLast {xs:List V} {us:List Value} (h:Vals xs us):Vals xs.dropLast us.dropLast:=by
 induction h with
 | nil=>exact .nil
 | cons r t ih =>
   cases t with
   | nil=>exact .nil
   | cons q t'=>exact .cons r ih
theorem Vals.rep {xs:List V} {us:List Value} (h:Vals xs us):∀ k:Nat,Vals (List.replicate k xs).flatten (List.replicate k us).flatten
 | 0=>.nil
 | k+1=>by
   rw [List.replicate_succ,List.replicate_succ,List.flatten_cons,List.flatten_cons];exact Vals.append h (Vals.rep h k)
theorem oM {α:Type} (l:List α):l.eraseIdx (l.length - 1)=l.dropLast:=by
 induction l with
 | nil=>rfl
 | cons a r ih =>
   cases r with
   | nil=>rfl
   | cons b r =>
     have e:(a::b::r).length - 1=((b::r).length - 1)+1:=by
      have h1:(a::b::r).length=r.length+2:=rfl;have h2:(b::r).length=r.length+1:=rfl;omega
     rw [e,List.eraseIdx_cons_succ,ih]
     all_goals rfl
theorem lG (its:List Value):∀ (k:Nat) (acc:List Value),
 List.foldl (fun x1 x2=>x1++x2) acc.toArray (List.replicate k its.toArray)=(acc++(List.replicate k its).flatten).toArray
 | 0,acc=>by simp
 | k+1,acc=>by
   have e:acc.toArray++its.toArray=(acc++its).toArray:=by simp
   have e2:(acc++its)++(List.replicate k its).flatten=acc++(List.replicate (k+1) its).flatten:=by
    rw [List.replicate_succ,List.flatten_cons,List.append_assoc]
   rw [<- e2,<- lG its k (acc++its),<- e,List.replicate_succ,List.foldl_cons]
section
variable {X:Cx} {pins:List (Addr×Obj)} {σ:St} {H:Hp} {s:Shared} {l b:Addr} {xs ys zs:List V}
theorem Inv.lset {its its':List Value} {n:Nat} {f:Array Value->Array Value} {t':Nat} (I:Inv X pins σ H s) (hH:H l=some (.lst xs))
 (e:s.heap.get? l=some { cls:=.type "list",data:=.seq its.toArray n }) (hf:f its.toArray=its'.toArray) (hv:Vals ys its') (hz:ys.length<=sizeLine) :
 Inv X pins σ (upd H l (.lst ys)) { s with heap:=s.heap.update l (Obj.mapSeq f),toks:=t' }:=by
 have q:=PySem.IsL.update e f;rw [hf] at q;refine I.write (x:=l) (e:=l) (by rw [hH];exact trivial) (.inl rfl) (fun b' u hb hu=>(Heap.get?_update_other s.heap (Obj.mapSeq f) (Ne.symm hb)).trans hu) ⟨_,q⟩ ?_;exact ⟨hz,its',_,hv,q⟩
theorem Inv.lnew {its:List Value} {t':Nat} (I:Inv X pins σ H s) (hv:Vals ys its) (hz:ys.length<=sizeLine) :
 Inv X pins σ (upd H s.heap.objs.size (.lst ys)) { s with heap:=s.heap.push { cls:=.type "list",data:=.seq its.toArray },toks:=t' } :=
 I.laid (fun _ _ q=>Heap.get?_push_of_some _ q) (Nat.le_refl _) ⟨hz,its,0,hv,Heap.get?_push_size _ rfl⟩
theorem Inv.fresh (I:Inv X pins σ H s):H s.heap.objs.size=none:=I.hok.fresh (Nat.le_refl _)
theorem Inv.lstM (I:Inv X pins σ H s) (hH:H l=some (.lst xs)):xs.length<=sizeLine/\∃ (its:List Value) (n:Nat),Vals xs its/\xs.length=its.length/\s.heap.get? l=some { cls:=.type "list",data:=.seq its.toArray n }:=by
 obtain ⟨z,its,n,r,e⟩:=I.hok l _ hH;exact ⟨z,its,n,r,r.length,e⟩
theorem jy {n:Nat} (h:n<=sizeLine):Builtin.List.listTooLong n=false:=by
 unfold Builtin.List.listTooLong;exact decide_eq_false (by omega)
end
section
variable {X:Cx}
inductive nJ (x:V) (vs:List V) (H:Hp) (Q:VK):Prop
 | mk (l:_) (xs:_) (y:_) (zz0:x=.ref l) (zz1:vs=[y]) (zz2:H l=some (.lst xs)) (zz3:xs.length<sizeLine) (zz4:Q .non (upd H l (.lst (xs++[y])))):nJ  x vs H Q
def r8:V->List V->Hp->VK->Prop:=nJ
theorem aV:MtM X "list.append" r8:=by
 intro pins s σ H x vs v us Q I rx rv h;obtain ⟨l,xs,y,rfl,rfl,hH,hz,q⟩:=h;cases rx;obtain ⟨u,rfl,ru⟩:=rv.one;obtain ⟨z,its,n,r,hl,e⟩:=I.lstM hH;refine call_meets F.slot_list_append ⟨_,e,rfl⟩ F.entry_list_append (F.args_list_append_2 _ _) (PySem.list_append l its.toArray n u (by rw [List.size_toArray];omega)) ⟨e,?_⟩;refine ⟨.non,_,I.lset (its':=its++[u]) hH e (by simp) (r.append (.cons ru .nil)) ?_,rfl,q⟩;rw [List.length_append,List.length_singleton];omega
inductive nG (x:V) (vs:List V) (H:Hp) (Q:VK):Prop
 | mk (l:_) (b:_) (xs:_) (zs:_) (zz0:x=.ref l) (zz1:vs=[.ref b]) (zz2:H l=some (.lst xs)) (zz3:H b=some (.lst zs)) (zz4:xs.length+zs.length<=sizeLine) (zz5:Q .non (upd H l (.lst (xs++zs)))):nG  x vs H Q
def se:V->List V->Hp->VK->Prop:=nG
theorem qh:MtM X "list.extend" se:=by
 intro pins s σ H x vs v us Q I rx rv h;obtain ⟨l,b,xs,zs,rfl,rfl,hH,hB,hz,q⟩:=h;cases rx;obtain ⟨u,rfl,ru⟩:=rv.one;cases ru;obtain ⟨z,its,n,r,hl,e⟩:=I.lstM hH;obtain ⟨z2,its2,n2,r2,hl2,e2⟩:=I.lstM hB;have hsz:its.toArray.size+its2.toArray.size<=sizeLine:=by rw [List.size_toArray,List.size_toArray];omega
 have hlong:¬ (!its.toArray.isEmpty && Builtin.List.listTooLong (its.toArray.size+its2.toArray.size))=true:=by
  rw [jy hsz,Bool.and_false];exact Bool.false_ne_true
 refine call_meets F.slot_list_extend ⟨_,e,rfl⟩ F.entry_list_extend (F.args_list_extend_2 _ _)
  (AutoSeq1.list_extend_list_list_0 l its.toArray n b its2.toArray n2 hlong (by rw [List.size_toArray];omega) (by omega)) ⟨e,e2,?_⟩
 refine ⟨.non,_,I.lset (its':=its++its2) hH e (by simp) (r.append r2) ?_,rfl,q⟩;rw [List.length_append];omega
inductive tS (x:V) (vs:List V) (H:Hp) (Q:VK):Prop
 | mk (l:_) (xs:_) (y:_) (zz0:x=.ref l) (zz1:vs=[]) (zz2:H l=some (.lst xs)) (zz3:xs[xs.length - 1]?=some y) (zz4:Q y (upd H l (.lst xs.dropLast))):tS  x vs H Q
def wx:V->List V->Hp->VK->Prop:=tS
theorem rD:MtM X "list.pop" wx:=by
 intro pins s σ H x vs v us Q I rx rv h;obtain ⟨l,xs,y,rfl,rfl,hH,hy,q⟩:=h;cases rx;have hus:=rv.zero;subst hus;obtain ⟨z,its,n,r,hl,e⟩:=I.lstM hH;obtain ⟨u,hu,ru⟩:=r.get hy
 have hy':its.toArray[its.toArray.size - 1]?=some u:=by
  show its.toArray[its.length - 1]?=some u;rw [<- Array.getElem?_toList,<- hl];exact hu
 refine call_meets F.slot_list_pop ⟨_,e,rfl⟩ F.entry_list_pop (F.args_list_pop_1 _) (MeetsSeq.list_pop_last l its.toArray n u hy' (by rw [List.size_toArray];omega)) ⟨e,?_⟩;refine ⟨y,_,I.lset (its':=its.dropLast) hH e ?_ r.dropLast ?_,ru,q⟩
 · show its.toArray.eraseIdxIfInBounds (its.toArray.size - 1)=its.dropLast.toArray;rw [List.size_toArray,List.eraseIdxIfInBounds_toArray,oM]
 · rw [List.length_dropLast];omega
inductive tO (x:V) (y:V) (H:Hp) (Q:VK):Prop
 | mk (l:_) (b:_) (xs:_) (zs:_) (zz0:x=.ref l) (zz1:y=.ref b) (zz2:H l=some (.lst xs)) (zz3:H b=some (.lst zs)) (zz4:xs.length+zs.length<=sizeLine) (zz5:∀ p,H p=none->Q (.ref p) (upd H p (.lst (xs++zs)))):tO  x y H Q
def v8:R2:=tO
theorem gB:OpR X (binaryOp .Add) v8:=by
 intro pins s σ H x y v u Q I rx ry h;obtain ⟨l,b,xs,zs,rfl,rfl,hH,hB,hz,q⟩:=h;cases rx;cases ry;obtain ⟨z,its,n,r,hl,e⟩:=I.lstM hH;obtain ⟨z2,its2,n2,r2,hl2,e2⟩:=I.lstM hB;refine PySem.P.add_list e e2 ?_ (by rw [List.size_toArray,List.size_toArray];omega);have ea:its.toArray++its2.toArray=(its++its2).toArray:=by simp
 rw [ea];exact ⟨.ref _,_,I.lnew (t':=s.toks) (r.append r2) (by rw [List.length_append];omega),rfl,q _ I.fresh⟩
def wg:R2:=fun x y H Q=>∃ l k xs,x=.ref l/\y=.int k/\H l=some (.lst xs)/\-(2 ^ 63)<=k/\k<2 ^ 63/\xs.length * k.toNat<=sizeLine ∧
 ∀ p,H p=none->Q (.ref p) (upd H p (.lst (List.replicate k.toNat xs).flatten))
theorem tJ {α:Type} (xs:List α) (k:Nat):(List.replicate k xs).flatten.length=k * xs.length:=by
 induction k with
 | zero=>simp
 | succ k ih=>rw [List.replicate_succ,List.flatten_cons,List.length_append,ih,Nat.succ_mul,Nat.add_comm]
theorem qM:OpR X (binaryOp .Mult) wg:=by
 intro pins s σ H x y v u Q I rx ry h;obtain ⟨l,k,xs,rfl,rfl,hH,h1,h2,hz,q⟩:=h;cases rx;obtain ⟨t,rfl⟩:=ry;obtain ⟨z,its,n,r,hl,e⟩:=I.lstM hH;have hlen:its.toArray.size * k.toNat<=sizeLine:=by rw [List.size_toArray,<- hl];exact hz
 have hcap:¬ its.toArray.size * k.toNat > (2 ^ 63 - 1) / 8:=by
  have:(sizeLine:Nat)<=(2 ^ 63 - 1) / 8:=by decide
  omega
 have hfit:¬ (!Builtin.List.listFitsIndex k)=true:=by
  rw [fitsIndex_both h1 h2];exact Bool.false_ne_true
 have hlong:¬ Builtin.List.listTooLong (its.toArray.size * k.toNat)=true:=by
  rw [jy hlen];exact Bool.false_ne_true
 have hnew:List.foldl (fun x1 x2=>x1++x2) #[] (List.replicate (if its.toArray.isEmpty=true then 0 else k.toNat) its.toArray)=(List.replicate k.toNat its).flatten.toArray:=by
  have f0:∀ m:Nat,List.foldl (fun x1 x2=>x1++x2) #[] (List.replicate m its.toArray)=(List.replicate m its).flatten.toArray:=fun m=>by
   have:=lG its m [];rw [List.nil_append] at this;exact this
  rw [f0];cases its with
  | nil=>simp
  | cons a r'=>rw [if_neg (by simp)]
 refine wpAny_binaryOp_repeat_ref (T:="list") (U:="int") (by decide) ⟨_,e,rfl⟩ (fun s'=>typeIs_int s' k t) noFill_list_mul F.fills_int_mul F.slot_int_rmul repeat_list F.slot_int_index.lookup
  (call_meets F.slot_int_rmul (typeIs_int s k t) F.entry_int_rmul (F.args_int_rmul_2 _ _) (int___rmul___int_list k t l its.toArray n)
   ⟨e,rfl,⟨_,e,rfl⟩,call_meets F.slot_list_mul ⟨_,e,rfl⟩ F.entry_list_mul (F.args_list_mul_2 _ _) (AutoListH.list___mul___list_int_3 l its.toArray n k t hfit hcap hlong) ⟨e,?_⟩⟩)
 rw [hnew];exact ⟨.ref _,_,I.lnew (t':=s.toks) (r.rep k.toNat) (by rw [tJ,Nat.mul_comm];exact hz),rfl,q _ I.fresh⟩
end
section
variable {prog:Program} {w:World} {A:Around} {E:Value->Shared->Prop} {s:Shared}
end
section
variable {X:Cx}
end
end L2
namespace Att
open PySem PySem.W PySem.Calls PyProof.Rows
theorem ints_of_wellAll {P:Params} {h:Heap}:∀ (ns:List Int) (vs:List Value),WellAll P h vs (ns.map WData.int)->IntsAre vs ns:=by
 intro ns;induction ns with
 | nil =>
   intro vs w;rw [List.map_nil] at w;cases w;exact .nil
 | cons n ns ih =>
   intro vs w;rw [List.map_cons] at w;cases w with
   | cons a b =>
     cases a;exact .cons _ _ (ih _ b)
theorem script_of {l:OpenLaw} {n:Nat} (hn:l.most=some n) {P:Params} {h:Heap} {args:List WData} {vals:List Value}
 (hpre:l.row.toRowW.claim.pre args=true) (hwl:WellAll P h vals args) :
 ∃ a vs ns,vals=[Value.ref a]/\args=[WData.list (ns.map WData.int)]/\h.get? a=some { cls:=.type "list",data:=.seq vs.toArray }/\IntsAre vs ns/\ns.length<=n:=by
 have hsh:WShape.hasAll [] args [.list .int]=true:=(pre_splitW hpre).1;have hc:l.pre.holds [] { args:=args }=true:=(pre_splitW hpre).2;obtain ⟨d,r,rfl,h1,h2⟩:=hasAllW_cons hsh;obtain rfl:=hasAllW_nil h2;obtain ⟨xs,rfl,h3⟩:=hasW_list h1;obtain ⟨ns,rfl⟩:=items_int h3
 have hlen:ns.length<=n:=by
  unfold OpenLaw.pre at hc
  have h4:(WTm.not (.lt (.lit (.int (n:Int))) (.len (.arg 0)))).holds [] { args:=[.list (ns.map .int)] }=true:=by
   have h4:=(holds_andW hc).1;rw [hn] at h4;exact h4
  have h5:=condW_of h4 (w_not (w_lt w_lit (w_len_list (w_arg rfl))));rw [List.length_map] at h5;refine Nat.le_of_not_lt fun q=>?_;have q':(n:Int)<((ns.length:Nat):Int):=by omega
  first
   | (rw [decide_eq_true q'] at h5;exact absurd h5 (by decide))
   | (simp at h5;omega)
 cases hwl with
 | cons w1 w2 =>
   cases w2;cases w1 with
   | list ho hall=>exact ⟨_,_,ns,rfl,rfl,ho,ints_of_wellAll ns _ hall,hlen⟩
theorem post_true (l:OpenLaw) (args:List WData):l.row.toRowW.claim.post args (.bool true) args=true :=
 postW_of (r:=l.row.toRowW) (X:=(true == true))
  (show WShape.has [] (.bool true) .bool=true by first | rfl | decide | simp [WShape.has,WShape.arms,WShape.armsAll])
  (show (WTm.eq .res (.lit (.bool true))).value [] { args:=args,res:=some (.bool true),after:=args }=some (.bool (true == true)) from w_eq_bool (w_res rfl) w_lit) rfl
theorem attach_call {l:OpenLaw} {n:Nat} {q:Program} {loose:List Str} {XP:(Str->Option Value)->Heap->Prop} {YP:World->Heap->Prop} {d:DefRec}
 (hn:l.most=some n) (hdf:d.params.defaults=[])
 (call:∀ (w:World) (s₀ s₁:Shared) (mg mb:Str->Option Value) (fa:Addr) (o:Obj) (pm cd doc:Value) (a:Addr) (vs:List Value) (ns:List Int),
  Ground q loose [] XP w s₀ mg mb s₁.heap->YP w s₁.heap →
  s₁.heap.get? fa=some o->o.data=.func (docDef d.name d.params d.body d.scope pm cd doc)->s₁.heap.CodeRec cd d.name->mg d.name=some (.ref fa) →
  s₁.heap.get? a=some { cls:=.type "list",data:=.seq vs.toArray }->IntsAre vs ns->ns.length<=n->s₁.gens=#[] →
  codeAny (model l.prog w) callerA (.call (.ref fa) ⟨[.ref a],[]⟩) (fun r s'=>r=.ok (.ret (.bool true))/\OldK s₁.heap s'.heap/\s'.os=s₁.os/\AllBare s'.gens) s₁) :
 WalkO q loose XP YP l.row.toRowW d [] (fun f vs=>PySem.call f vs):=by
 intro w s₀ s₁ mg mb G Y fa o pm cd doc dV kV ho hd hcd hD hmg hg args vals as hpre hlay hrd hwl hlo;obtain rfl:dV=.none:=Dflts.none hD hdf;obtain rfl:kV=.none:=Dflts.noKw hD;obtain ⟨a,vs,ns,rfl,rfl,hobj,hints,hlen⟩:=script_of hn hpre hwl;refine enter_call (codeAny_mono (call w s₀ s₁ mg mb fa o pm cd doc a vs ns G Y ho (fd_plain hd) hcd hmg hobj hints hlen hg) fun r s' hq=>?_);obtain ⟨rfl,h2,h3,h4⟩:=hq;exact ⟨.inl ⟨.bool true,.bool true,[],rfl,fun _=>rfl,.bool true,post_true l _,fun _=>⟨List.Pairwise.nil,fun _ hm=>(nomatch hm)⟩⟩,h2,h3,h4⟩
section
variable {prog:Program} {w:World} {A:Around} {E:Value->Shared->Prop} {s:Shared} {K:Frag}
end
end Att
namespace L2
open PySem PySem.Spec PyProof.Rows
theorem kW:∀ {vs:List Value} {ns:List Int},IntsAre vs ns->Vals (ns.map V.int) vs
 | _,_,.nil=>.nil
 | _,_,.cons n t h=>.cons ⟨t,rfl⟩ (kW h)
def uq (H:Hp):Prop:=∀ b,H b=none∨∃ o xs,H b=some (.frz o (.lst xs))
theorem rC {P:Program} {w:World} {K:PySem.W.Frag} {mg mb:Str->Option Value} {CX:CXT} {k:Nat} {fa a:Addr} {fd:FuncData} {x:Str} {sp:Sp} {s₁:Shared} {vs:List Value} {ns:List Int}
 (KX:K.In s₁.heap) (hns:s₁.heap.Ns mainGlobals mg) (hb:s₁.heap.Ns builtinsNs mb) (hbb:∀ x:Str,x≠"__name__"->mb x=bootBuiltins x) (hlim:s₁.heap.NoLimit) (hg:s₁.gens=#[])
 (ha:s₁.heap.get? a=some { cls:=.type "list",data:=.seq vs.toArray }) (hi:IntsAre vs ns) (hl:ns.length<=sizeLine) (hr:Room k callerA)
 (F:∀ base:Heap,K.In base->base.Ns mainGlobals mg->aW P w K mg base CX k fa fd [x] sp) (hbind:∀ (s:Shared) (u:Value),BindsTo s fd ⟨[u],[]⟩ [(x,u)])
 (hsp:∀ H:Hp,uq H->SqL K H a (ns.map V.int)->sp [.ref a] H (fun v _=>v=.bl true) fun _ _ _=>False)
 (hCX:∀ H e s',CX [] H s₁ (fun _ _ _=>False) e s'->False) :
 codeAny (model P w) callerA (.call (.ref fa) ⟨[.ref a],[]⟩) (fun r s'=>r=.ok (.ret (.bool true))/\OldK s₁.heap s'.heap/\s'.os=s₁.os/\AllBare s'.gens) s₁:=by
 have rv:=kW hi;have lenV:=hi.length
 -- from an abstract heap in which nothing but the script may be tracked
 have core:∀ H:Hp,uq H->SqL K H a (ns.map V.int)->HOk P w H s₁.heap->(∀ b,H b≠none->b=a)->(H a≠none->K.lookup a=none) →
  codeAny (model P w) callerA (.call (.ref fa) ⟨[.ref a],[]⟩) (fun r s'=>r=.ok (.ret (.bool true))/\OldK s₁.heap s'.heap/\s'.os=s₁.os/\AllBare s'.gens) s₁:=by
  intro H hO hS hok hA hK;have base_of:∀ {b:Addr} {o:Obj},s₁.heap.get? b=some o->H b=none->(l6 s₁.heap H).get? b=some o:=fun e n=>rn e n
  have noA:∀ {b:Addr} {o:Obj} {es:Array DictEntry} {ep:Nat},s₁.heap.get? b=some o->o.data=.dict es ep->H b=none:=fun {b o es ep} e d=>by
   cases q:H b with
   | none=>rfl
   | some u =>
     have e':b=a:=hA b (by rw [q];simp);subst e';rw [ha] at e;cases e;have d':Data.seq vs.toArray _=Data.dict es ep:=d;cases d'
  have nsK:∀ {b:Addr} {m:Str->Option Value},s₁.heap.Ns b m->(l6 s₁.heap H).Ns b m:=fun {b m} ⟨o,es,ep,e,d,r⟩=>⟨o,es,ep,base_of e (noA e d),d,r⟩
  have hKb:K.In (l6 s₁.heap H):=fun b o e=>base_of (KX b o e) (by
   cases q:H b with
   | none=>rfl
   | some u =>
     have e':b=a:=hA b (by rw [q];simp);subst e';rw [hK (by rw [q];simp)] at e;cases e)
  have hM:Mod K mg (l6 s₁.heap H):=⟨hKb,nsK hns,⟨mb,nsK hb,hbb⟩,let ⟨mc,h1,h2⟩:=hlim;⟨mc,nsK h1,h2⟩⟩;have e0:Env0 P w K mg (l6 s₁.heap H) callerA [] s₁ H:=⟨rfl,hM,fun b o e=>sR e,Nat.le_of_eq (qq _ _),trivial,fun b hb=>absurd (show b∈([]:List Addr) from hb) (by simp),hok,.of_eq hg⟩;refine codeAny_mono ((F _ hKb (nsK hns)).run callerA [] s₁ H ⟨[.ref a],[]⟩ [.ref a] [.ref a] _ _ hr e0 (hbind s₁ (.ref a)) (.cons rfl .nil) (hsp H hO hS)) fun r s' h=>?_;cases r with
  | error e=>exact (hCX H e s' h).elim
  | ok fl =>
    cases fl with
    | next=>exact False.elim h
    | brk=>exact False.elim h
    | cont=>exact False.elim h
    | ret u =>
      obtain ⟨v,H',os,bare,un,hok',r',q⟩:=h;have q':v=.bl true:=q;subst q';obtain rfl:u=Value.bool true:=r';refine ⟨rfl,OldK.of_keep fun b o e=>?_,os,bare⟩;cases q:H b with
      | none=>exact un.keep b o e q (by intro z;exact absurd (show b∈([]:List Addr) from z) (by simp)) (by simp)
      | some u =>
        rcases hO b with z | ⟨ob,xs,z⟩
        · rw [q] at z;cases z
        · have z2:=un.frzs b ob _ z;obtain ⟨e1,_⟩:=hok b _ z;obtain ⟨e2,_⟩:=hok' b _ z2;rw [e] at e1;cases e1;exact e2
 cases hk:K.lookup a with
 | some o =>
   -- the script is one of the module's own objects
   have e:=KX a o hk;rw [ha] at e;cases e;refine core (fun _=>none) (fun _=>.inl rfl) (.inr ⟨_,vs.toArray,_,hk,rfl,rfl,rfl,by rw [List.size_toArray,lenV];exact hl,by simpa using rv⟩) (fun b u z=>by have z':(none:Option HO)=some u:=z;cases z') (fun b z=>absurd rfl z) fun z=>absurd rfl z
 | none =>
   refine core (fun b=>if b=a then some (.frz { cls:=.type "list",data:=.seq vs.toArray } (.lst (ns.map V.int))) else none) (fun b=>?_) (.inl (.inr ⟨{ cls:=.type "list",data:=.seq vs.toArray },if_pos rfl⟩)) (fun b u z=>?_) (fun b z=>?_) fun _=>hk
   · by_cases hb:b=a
     · exact .inr ⟨_,_,if_pos hb⟩
     · exact .inl (if_neg hb)
   · by_cases hb:b=a
     · have z':=(if_pos hb).symm.trans z;cases z';subst hb;exact ⟨ha,by rw [List.length_map];exact hl,vs,_,rv,ha⟩
     · have z':=(if_neg hb).symm.trans z;cases z'
   · by_cases hb:b=a
     · exact hb
     · exact absurd (if_neg hb) z
end L2
namespace L2
open PySem PySem.Spec PyProof.Rows
theorem ss {l:PySem.W.OpenLaw} {n k:Nat} {q:Program} {loose:List Str} {XP:(Str->Option Value)->Heap->Prop} {YP:World->Heap->Prop} {d:DefRec} {K:Params->PySem.W.Frag} {CX:World->CXT} {sp:World->Sp} {x:Str}
 (hn:l.most=some n) (hn2:n<=sizeLine) (hdf:d.params.defaults=[]) (hr:Room k callerA)
 (hY:∀ (w:World) (h:Heap),YP w h->(K w.params).In h)
 (F:∀ (w:World) (mg:Str->Option Value) (fa:Addr) (h:Heap),(K w.params).In h->h.Ns mainGlobals mg->mg d.name=some (.ref fa) →
  ∃ fd:FuncData,(∀ (s:Shared) (u:Value),BindsTo s fd ⟨[u],[]⟩ [(x,u)]) ∧
    ∀ base:Heap,(K w.params).In base->base.Ns mainGlobals mg->aW l.prog w (K w.params) mg base (CX w) k fa fd [x] (sp w))
 (hsp:∀ (w:World) (H:Hp) (a:Addr) (ns:List Int),ns.length<=n->uq H->SqL (K w.params) H a (ns.map V.int)->sp w [.ref a] H (fun v _=>v=.bl true) fun _ _ _=>False)
 (hCX:∀ (w:World) (H:Hp) (s:Shared) (e:Value) (s':Shared),CX w [] H s (fun _ _ _=>False) e s'->False) :
 PySem.W.WalkO q loose XP YP l.row.toRowW d [] (fun f vs=>PySem.call f vs):=by
 refine Att.attach_call hn hdf fun w s₀ s₁ mg mb fa o pm cd doc a vs ns G Y ho hd hcd hmg hobj hints hlen hg=>?_;have KX:=hY w _ Y;obtain ⟨fd,hb,hF⟩:=F w mg fa _ KX G.T.g hmg;exact rC KX G.T.g G.T.b G.T.builtins G.T.nolimit hg hobj hints (Nat.le_trans hlen hn2) hr hF hb (fun H hO hS=>hsp w H a ns hlen hO hS) fun H e s'=>hCX w H s₁ e s'
end L2
namespace L2
open PySem PySem.Spec PyProof.Rows
def pj (s:Stmt) (j:Nat):Stmt:=match s with
 | .ClassDef _ _ _ body _ _ _ _ _ _ _=>body.getD j (.Pass ⟨0,0,0,0⟩)
 | _=>.Pass ⟨0,0,0,0⟩
def bE (s:Stmt):Arguments:=match s with
 | .FunctionDef _ a _ _ _ _ _ _ _ _=>a
 | _=>{ posonlyargs:=[],args:=[],vararg:=none,kwonlyargs:=[],kw_defaults:=[],kwarg:=none,defaults:=[] }
def bu (s:Stmt):List Stmt:=match s with
 | .FunctionDef _ _ b _ _ _ _ _ _ _=>b
 | _=>[]
def ao (s:Stmt):Scope:=match s with
 | .FunctionDef _ _ _ _ _ _ sc _ _ _=>sc
 | _=>{ kind:=.function,names:=[],isGenerator:=false,isCoroutine:=false }
abbrev CX0:CXT:=fun _ _ _ _ _ _=>False
abbrev E0:XK:=fun _ _ _=>False
theorem dC {X:Cx}:gH CX0 X E0:=fun _ _ _ _ _ _ _ h=>h.elim
structure Fun (K:PySem.W.Frag) (x qual:Str) (st:Stmt) (f:Addr) (fd:FuncData):Prop where
 ex:∃ (oc:Value) (od:Option Addr) (kV doc pm:Value) (an:Option Addr) (cdv ct:Value) (osl:Array (Option Value)),
  fd=PySem.W.fnOf x qual (bE st) (bu st) (ao st) .none kV doc pm an cdv ct/\K.lookup f=some ⟨oc,od,.func fd,osl⟩/\PySem.W.codeIn K cdv qual=true
 kp:PySem.W.keepIn K (.ref f)=true
section
variable {P:Program} {w:World} {K:PySem.W.Frag} {mg:Str->Option Value} {base:Heap}
theorem Fun.ok {x qual:Str} {st:Stmt} {f:Addr} {fd:FuncData} {N ps:List Str} {k:Nat} {sp:Sp} (F:Fun K x qual st f fd) (S:ax N ps (ao st)) (len:∀ vs H Q E,sp vs H Q E->vs.length=ps.length)
 (hbody:∀ (cdv:Value) (A:Around) (outer:List Env) (s:Shared) (H:Hp) (vs:List V) (Q:VK) (E:XK),Room k (A.deeper (envOfC qual (ao st) s.heap.objs.size f cdv))->sp vs H Q E →
  ∃ t,PSs (qo CX0 P w K mg base N qual (ao st) f cdv A outer s H E).nox (bu st) t/\t { nx:=fun _ H'=>Q .non H',rt:=Q } (start N vs) H):aW P w K mg base CX0 (k+1) f fd ps sp:=by
 obtain ⟨oc,od,kV,doc,pm,an,cdv,ct,osl,rfl,lk,hcd⟩:=F.ex;refine ve lk hcd S len fun A outer s H vs Q E hr hsp=>?_;obtain ⟨t,h,q⟩:=hbody cdv A outer s H vs Q E hr hsp;exact ⟨t,h.nox,q⟩
theorem Fun.binds {x qual:Str} {st:Stmt} {f:Addr} {fd:FuncData} {ps:List Str} (F:Fun K x qual st f fd)
 (h:∀ (kV doc pm:Value) (an:Option Addr) (cdv ct:Value) (us:List Value),us.length=ps.length->bindArgs (PySem.W.fnOf x qual (bE st) (bu st) (ao st) .none kV doc pm an cdv ct) ⟨us,[]⟩=pure (ps.zip us)):Binds K fd ps []:=by
 obtain ⟨oc,od,kV,doc,pm,an,cdv,ct,osl,rfl,lk,hcd⟩:=F.ex;exact .all (h kV doc pm an cdv ct)
theorem cE {x qual:Str} {st:Stmt} {f:Addr} {oc:Value} {od an:Option Addr} {osl:Array (Option Value)} {kV doc pm cdv ct:Value} (l:K.lookup f=some ⟨oc,od,.func (PySem.W.fnOf x qual (bE st) (bu st) (ao st) .none kV doc pm an cdv ct),osl⟩)
 (c:PySem.W.codeIn K cdv qual=true) (k:PySem.W.keepIn K (.ref f)=true):Fun K x qual st f (PySem.W.fnOf x qual (bE st) (bu st) (ao st) .none kV doc pm an cdv ct):=⟨⟨oc,od,kV,doc,pm,an,cdv,ct,osl,rfl,l,c⟩,k⟩
end
theorem dA {A:Around} {k:Nat} (hr:Room k A):A.units+1<cLine:=Nat.lt_of_le_of_lt (Nat.add_le_add_left (by decide:1<=64) _) hr.units
section
variable {X:Cx}
theorem pv (i:Nat) {x:Str} {pos:Pos} (hN:X.N[i]?=some x:=by rfl) (hv:Vis X.env.scope x:=by first | exact Or.inl rfl | exact Or.inr (Or.inl rfl) | exact Or.inr (Or.inr rfl)) (hd:(x == ("__debug__":Str))=false:=by decide)
 (hcd:(x == ("__classdict__":Str))=false:=by decide):PE X (.Name x pos) (bv i):=qO hN hv hd hcd
end
theorem sS {A B:Prop} (h:B):if false=true then A else B:=by
 rw [if_neg Bool.false_ne_true];exact h
theorem qy {A B:Prop} (h:A):if true=true then A else B:=by
 rw [if_pos rfl];exact h
theorem dw {c A B:Prop} [Decidable c] (h1:c->A) (h2:¬ c->B):if c then A else B:=by
 by_cases h:c
 · rw [if_pos h];exact h1 h
 · rw [if_neg h];exact h2 h
def Same (H H':Hp):Prop:=∀ b o,H b=some o->H' b=some o
theorem Same.refl (H:Hp):Same H H:=fun _ _ h=>h
theorem Same.trans {H H1 H2:Hp} (a:Same H H1) (b:Same H1 H2):Same H H2:=fun c o h=>b c o (a c o h)
theorem Same.free {H H':Hp} (e:Same H H') {l:Addr} (h:H' l=Option.none):H l=Option.none:=by
 cases q:H l with
 | none=>rfl
 | some o =>
   rw [e l o q] at h;cases h
theorem Same.seq {K:PySem.W.Frag} {H H':Hp} {a:Addr} {xs:List V} (e:Same H H') (h:SqL K H a xs):SqL K H' a xs:=by
 rcases h with (h | ⟨o,h⟩) | h
 · exact .inl (.inl (e _ _ h))
 · exact .inl (.inr ⟨o,e _ _ h⟩)
 · exact .inr h
end L2
namespace L2
open PySem PySem.Spec PyProof.Rows
theorem gw (env:Env):∀ (ns:List (Str×NameKind)) (acc:List (Str×Addr)),(∀ n,(n,NameKind.free)∈ns->∃ c,env.cells.lookup n=some c) →
 (∀ x c,acc.lookup x=some c->env.cells.lookup x=some c) →
 ∃ cl,(forIn ns acc fun (x:Str×NameKind) (cs:List (Str×Addr))=>(if (x.2 == NameKind.free)=true then (do let a ← cellOf env x.1;pure (ForInStep.yield ((x.1,a)::cs))) else pure (ForInStep.yield cs):Sem _))=pure cl ∧
   (∀ x c,cl.lookup x=some c->env.cells.lookup x=some c)/\(∀ n,(n,NameKind.free)∈ns->∃ c,cl.lookup n=some c)/\∀ n c,acc.lookup n=some c->cl.lookup n=some c
 | [],acc,_,ha=>⟨acc,rfl,ha,fun _ h=>by simp at h,fun _ _ h=>h⟩
 | (n,k)::r,acc,hf,ha=>by
   by_cases hk:k=NameKind.free
   · subst hk;obtain ⟨c,hc⟩:=hf n List.mem_cons_self
     have ha':∀ x c',((n,c)::acc).lookup x=some c'->env.cells.lookup x=some c':=fun x c' e=>by
      rw [List.lookup_cons] at e;cases hx:x == n with
      | true =>
        rw [hx] at e;have e1:x=n:=by simpa using hx
        cases e;rw [e1];exact hc
      | false=>rw [hx] at e;exact ha x c' e
     obtain ⟨cl,h1,h2,h3,h4⟩:=gw env r ((n,c)::acc) (fun m hm=>hf m (List.mem_cons_of_mem _ hm)) ha';have up:∀ m c',((n,c)::acc).lookup m=some c'->cl.lookup m=some c':=h4;refine ⟨cl,?_,h2,?_,?_⟩
     · rw [List.forIn_cons];have e0:cellOf env n=pure c:=by unfold cellOf;rw [hc]
       simp only [beq_self_eq_true,if_true,e0,pure_bind];exact h1
     · intro m hm;rcases List.mem_cons.mp hm with e | e
       · have:m=n:=by simpa using (Prod.mk.inj e).1
         subst this;exact ⟨c,up m c (by rw [List.lookup_cons];simp)⟩
       · exact h3 m e
     · intro m c' e;by_cases hm:m=n
       · subst hm;have:=ha m c' e;rw [hc] at this;cases this;exact up m c (by rw [List.lookup_cons];simp)
       · have hmn:(m == n)=false:=by simpa using hm
         exact up m c' (by rw [List.lookup_cons,hmn];exact e)
   · have hb:(k == NameKind.free)=false:=by simpa using hk
     obtain ⟨cl,h1,h2,h3,h4⟩:=gw env r acc (fun m hm=>hf m (List.mem_cons_of_mem _ hm)) ha;refine ⟨cl,?_,h2,?_,h4⟩
     · rw [List.forIn_cons];simp only [hb,Bool.false_eq_true,if_false,pure_bind];exact h1
     · intro m hm;rcases List.mem_cons.mp hm with e | e
       · exact absurd (Prod.mk.inj e).2.symm hk
       · exact h3 m e
theorem jv {env:Env} {sc:Scope} (hf:∀ n,(n,NameKind.free)∈sc.names->∃ c,env.cells.lookup n=some c) :
 ∃ cl,closureFor sc env=pure cl/\(∀ x c,cl.lookup x=some c->env.cells.lookup x=some c)/\∀ n,(n,NameKind.free)∈sc.names->∃ c,cl.lookup n=some c:=by
 obtain ⟨cl,h1,h2,h3,_⟩:=gw env sc.names [] hf (fun x c e=>by simp at e);refine ⟨cl,?_,h2,h3⟩;unfold closureFor;have e:(forIn sc.names ([]:List (Str×Addr)) fun (x:Str×NameKind) (cs:List (Str×Addr))=>(do if (x.2 == NameKind.free)=true then (do let a ← cellOf env x.1;pure (ForInStep.yield ((x.1,a)::cs))) else pure (ForInStep.yield cs):Sem _))=pure cl:=h1
 first
  | (rw [show (forIn sc.names ([]:List (Str×Addr)) _:Sem _)=pure cl from h1];rfl)
  | (simp only [h1,pure_bind])
theorem j9 {f:Str×NameKind->Str×NameKind} (hf:∀ p,(f p).1=p.1):∀ {l:List (Str×NameKind)} {x:Str} {k:NameKind},l.lookup x=some k->(l.map f).lookup x=some (f (x,k)).2
 | [],_,_,h=>by simp at h
 | (n,k0)::r,x,k,h=>by
   have ih:=@j9 f hf r x k;rw [List.map_cons];obtain ⟨a,b,e⟩:∃ a b,f (n,k0)=(a,b):=⟨_,_,rfl⟩;have ea:a=n:=by have:=hf (n,k0);rw [e] at this;exact this
   subst ea;rw [e,List.lookup_cons];cases hx:x == a with
   | true =>
     rw [List.lookup_cons,hx] at h;cases h;have:x=a:=by simpa using hx
     subst this;rw [e]
   | false=>rw [List.lookup_cons,hx] at h;exact ih h
theorem dN {f:Str×NameKind->Str×NameKind} (hf:∀ p,(f p).1=p.1):∀ {l:List (Str×NameKind)} {x:Str} {k:NameKind},(l.map f).lookup x=some k->∃ k0,(x,k0)∈l/\(f (x,k0)).2=k
 | [],_,_,h=>by simp at h
 | (n,k0)::r,x,k,h=>by
   have ih:=@dN f hf r x k;rw [List.map_cons] at h;obtain ⟨a,b,e⟩:∃ a b,f (n,k0)=(a,b):=⟨_,_,rfl⟩;have ea:a=n:=by have:=hf (n,k0);rw [e] at this;exact this
   subst ea;rw [e,List.lookup_cons] at h;cases hx:x == a with
   | true =>
     rw [hx] at h;cases h;have:x=a:=by simpa using hx
     subst this;exact ⟨k0,List.mem_cons_self,by rw [e]⟩
   | false =>
     rw [hx] at h;obtain ⟨k1,h1,h2⟩:=ih h;exact ⟨k1,List.mem_cons_of_mem _ h1,h2⟩
def rlb (env:Env) (p:Str×NameKind):Str×NameKind:=if (p.2 == NameKind.free && env.scope.kind == .function && env.kindOf p.1 == some .cell) then (p.1,NameKind.cell) else (p.1,p.2)
theorem lV (env:Env) (p:Str×NameKind):(rlb env p).1=p.1:=by unfold rlb;split <;> rfl
theorem f8 (sc:Scope) (env:Env):(relabel sc env).names=sc.names.map (rlb env):=rfl
theorem gN {sc:Scope} {env:Env} {x:Str} (h:sc.names.lookup x=some .free):(relabel sc env).names.lookup x=some .cell∨(relabel sc env).names.lookup x=some .free:=by
 rw [f8,j9 (lV env) h];unfold rlb;split
 · exact .inl rfl
 · exact .inr rfl
theorem jW {sc:Scope} {env:Env} {x:Str} (hn:∀ y∈sc.names,y.2≠NameKind.cell) (h:(relabel sc env).names.lookup x=some .cell∨(relabel sc env).names.lookup x=some .free):(x,NameKind.free)∈sc.names:=by
 rw [f8] at h
 have:∃ k0,(x,k0)∈sc.names/\((rlb env (x,k0)).2=.cell∨(rlb env (x,k0)).2=.free):=by
  rcases h with h | h
  · obtain ⟨k0,a,b⟩:=dN (lV env) h;exact ⟨k0,a,.inl b⟩
  · obtain ⟨k0,a,b⟩:=dN (lV env) h;exact ⟨k0,a,.inr b⟩
 obtain ⟨k0,hm,hk⟩:=this;have nc:=hn _ hm;cases k0 with
 | free=>exact hm
 | cell=>exact absurd rfl nc
 | _=>simp [rlb] at hk
def bO (X:Cx) (N:List Str) (sc:Scope) (cl:List (Str×Addr)) (C:Addr) (s:Shared) (H:Hp) (fp:List Addr) (pins:List (Addr×Obj)):Cx :=
 { X with N:=N,s₀:=s,H₀:=H,env:=compEnvC sc cl C X.env,outer:=X.stack,ex:=fp,fn:=fun _=>false,pn:=X.pn++pins,xe:=fun _ _=>False }
def cσ (js:List (Option Nat)) (σ:St):St:=js.map fun o=>o.bind fun j=>(σ[j]?).join
structure dX (X:Cx) (sc:Scope) (N:List Str) (js:List (Option Nat)):Prop where
 kind:sc.kind=.function
 nocell:∀ y∈sc.names,y.2≠NameKind.cell
 names:∀ y∈sc.names,y.2=NameKind.local->sc.names.lookup y.1=some .local
 frees:∀ y∈sc.names,y.2=NameKind.free->X.env.kindOf y.1=some .cell∨X.env.kindOf y.1=some .free
 len:js.length=N.length
 slots:∀ (i j:Nat) (x:Str),js[i]?=some (some j)->N[i]?=some x->X.N[j]?=some x/\sc.names.lookup x=some .free/\(X.env.kindOf x=some .cell∨X.env.kindOf x=some .free)
theorem cw {X:Cx} {sc:Scope} {N:List Str} {js:List (Option Nat)} (k:sc.kind=.function) (nc:∀ y∈sc.names,y.2≠NameKind.cell) (nm:∀ y∈sc.names,y.2=NameKind.local->sc.names.lookup y.1=some .local)
 (fr:(sc.names.all fun y=>y.2 != NameKind.free || X.env.kindOf y.1 == some NameKind.cell || X.env.kindOf y.1 == some NameKind.free)=true) (ln:js.length=N.length)
 (sl:((js.zip N).all fun p=>match p.1 with | none=>true | some j=>X.N[j]? == some p.2 && sc.names.lookup p.2 == some NameKind.free && (X.env.kindOf p.2 == some NameKind.cell || X.env.kindOf p.2 == some NameKind.free))=true):dX X sc N js:=by
 refine ⟨k,nc,nm,fun y hy hf=>?_,ln,fun i j x e1 e2=>?_⟩
 · have h:=List.all_eq_true.mp fr y hy;rw [hf] at h;simpa using h
 · have hm:(some j,x)∈js.zip N:=by
    have:(js.zip N)[i]?=some (some j,x):=by rw [List.getElem?_zip_eq_some];exact ⟨e1,e2⟩
    exact List.mem_of_getElem? this
   have h:=List.all_eq_true.mp sl _ hm;simp at h;exact ⟨h.1.1,h.1.2,h.2⟩
def PTs (X:Cx) (ifs:List Expr) (t:TT):Prop :=
 ∀ (pins:List (Addr×Obj)) (s:Shared) (σ:St) (H:Hp) (Q:Bool->Hp->Prop),Inv X pins σ H s->t σ H Q →
   wpAny (model X.prog X.w) X.A (forIn ifs true fun c r=>if r=true then do let ok ← isTrue c X.env (eval c X.env);pure (ForInStep.yield ok) else pure (ForInStep.yield r)) (TP X pins σ Q) X.xe s
def bK:TT:=fun _ H Q=>Q true H
theorem b6 {X:Cx}:PTs X [] bK:=fun _ _ _ H _ I h=>wpAny_tests_nil ⟨H,I,h⟩
theorem fP {X:Cx} {c:Expr} {t:TT} (h:PT X c t):PTs X [c] t:=fun pins s σ H Q I q=>wpAny_tests_one (h pins s σ H Q I q)
def Keep (σ σ':St):Prop:=σ.length=σ'.length/\∀ (i:Nat) (v:V),σ[i]?=some (some v)->σ'[i]?=some (some v)
def ld (js:List (Option Nat)) (g:TG):Prop:=∀ (σ σ1:St) (x:V) (H:Hp) (Q:St->Hp->Prop),Keep (cσ js σ) σ1->g x σ1 H Q->g x σ1 H fun σ2 H2=>Keep (cσ js σ) σ2/\Q σ2 H2
def mo (js:List (Option Nat)) (g:TGs):Prop:=∀ (σ σ1:St) (x:List V) (H:Hp) (Q:St->Hp->Prop),Keep (cσ js σ) σ1->g x σ1 H Q->g x σ1 H fun σ2 H2=>Keep (cσ js σ) σ2/\Q σ2 H2
theorem Keep.refl (σ:St):Keep σ σ:=⟨rfl,fun _ _ h=>h⟩
theorem tu {js:List (Option Nat)} {σ:St} {i:Nat} (h:js[i]?=some none):(cσ js σ)[i]?=some none:=by
 unfold cσ;rw [List.getElem?_map,h];rfl
theorem aS {js:List (Option Nat)} {i:Nat} (h:js[i]?=some none):ld js (aE i):=fun σ σ1 x H Q k q=>by
 refine ⟨⟨by rw [List.length_set];exact k.1,fun j v e=>?_⟩,q⟩;by_cases hj:i=j
 · subst hj;rw [tu h] at e;cases e
 · rw [List.getElem?_set_ne hj];exact k.2 j v e
theorem kb {js:List (Option Nat)}:mo js oi:=fun σ σ1 x H Q k ⟨e,q⟩=>⟨e,k,q⟩
theorem cG {js:List (Option Nat)} {t:TG} {u:TGs} (mono:∀ x σ H (Q Q':St->Hp->Prop),(∀ a b,Q a b->Q' a b)->t x σ H Q->t x σ H Q') (h1:ld js t) (h2:mo js u):mo js (eT t u):=fun σ σ1 x H Q k ⟨v,r,e,q⟩ =>
 ⟨v,r,e,mono _ _ _ _ _ (fun a b ⟨k',q'⟩=>h2 σ a r b Q k' q') (h1 σ σ1 v H _ k q)⟩
theorem bL {i:Nat}:∀ x σ H (Q Q':St->Hp->Prop),(∀ a b,Q a b->Q' a b)->aE i x σ H Q->aE i x σ H Q':=fun _ _ _ _ _ h q=>h _ _ q
theorem jR {js:List (Option Nat)} {K:PySem.W.Frag} {n:Nat} {t:TGs} (h:mo js t):ld js (oo K n t):=fun σ σ1 x H Q k ⟨a,xs,e,hs,hl,q⟩=>⟨a,xs,e,hs,hl,h σ σ1 xs H Q k q⟩
def eU (js:List (Option Nat)) (g:TG) (tt:TT) (te:TE) (σ:St) (J:It) (D:Addr) (n:Nat) (W:Nat->Hp->Prop) (fin:Hp->Prop):Prop :=
 ∀ i H,W i H->(J.stop i H/\fin H)∨(i<n/\J.go i H/\∀ x H1,J.yld i H x H1->g x (cσ js σ) H1 fun σ2 H2=>tt σ2 H2 fun b H3 =>
   if b=true then te σ2 H3 fun v H4=>∃ ys,H4 D=some (.lst ys)/\ys.length<sizeLine/\W (i+1) (upd H4 D (.lst (ys++[v]))) else W (i+1) H3)
def pp (js:List (Option Nat)) (wi:TI) (g:TG) (tt:TT) (te:TE):TE:=fun σ H Q=>wi σ H fun J H1=>∀ D,H1 D=none →
 ∃ (n:Nat) (W:Nat->Hp->Prop),W 0 (upd H1 D (.lst []))/\eU js g tt te σ J D n W fun H'=>Q (.ref D) H'
section
variable {X:Cx} {pins:List (Addr×Obj)} {σ:St} {s:Shared} {H:Hp}
theorem rL {sc:Scope} {N:List Str} {js:List (Option Nat)} {cl:List (Str×Addr)} {fp:List Addr} {h1:Heap} {t':Nat} (S:dX X sc N js) (I:Inv X pins σ H s)
 (hcl:∀ x c,cl.lookup x=some c->X.env.cells.lookup x=some c) (hcl2:∀ n,(n,NameKind.free)∈sc.names->∃ c,cl.lookup n=some c)
 (hf:∀ b∈fp,jh X pins H b) (hlt:∀ b∈fp,b<s.heap.objs.size) (hns:h1.Ns s.heap.objs.size fun x=>List.lookup x ([]:List (Str×Value)))
 (hsb:∀ b o,s.heap.get? b=some o->h1.get? b=some o) :
 Inv (bO X N sc cl s.heap.objs.size s H fp pins) [] (cσ js σ) H { s with heap:=h1,toks:=t' }:=by
 have hok:(bO X N sc cl s.heap.objs.size s H fp pins).Ok :=
  { mod:=I.ok.mod
    kind:=S.kind
    glob:=I.ok.glob
    blt:=I.ok.blt
    above:=Nat.le_refl _
    inj:=fun x y c a b=>I.ok.inj x y c (hcl x c a) (hcl y c b)
    has:=fun x h=>hcl2 x (jW S.nocell h)
    cab:=fun x c h=>by cases h
    hd:=I.ok.hd
    frames:=I.ok.frames
    stk:=.inl rfl
    exf:=fun b hb=>⟨fun e=>absurd (hlt b hb) (by rw [e];exact Nat.lt_irrefl _),fun x c e z=>(hf b hb).2.2.2.2.1 x c (hcl x c e) z⟩
    bs:=I.bs
    bsz:=Nat.le_trans I.ok.bsz I.sz
    noex:=fun b o e hb=>by
     rcases (hf b hb).2.2.2.1 with h | h
     · exact I.ok.noex b o e h
     · exact absurd (Nat.lt_of_lt_of_le (Nat.lt_of_lt_of_le (Heap.lt_size e) I.ok.bsz) h) (Nat.lt_irrefl _)
    exfs:=fun b hb hm=>by
     rcases List.mem_cons.mp (I.stkSub b hm) with e | e
     · exact (hf b hb).2.1 e
     · exact (hf b hb).2.2.1 e
    funs:=I.stack
    frf:=I.stkFree }
 have hC:H s.heap.objs.size=none:=I.hok.fresh (Nat.le_refl _);obtain ⟨m0,hn0,hl0⟩:=I.loc
 exact
  { ok:=hok
    os:=rfl
    bare:=I.bare
    base:=Un.kept hsb
    loc:=⟨_,hns,fun i x v e1 e2 vis=>by
     have e2':∃ j,js[i]?=some (some j)/\σ[j]?=some (some v):=by
      unfold cσ at e2;rw [List.getElem?_map] at e2;cases q:js[i]? with
      | none=>rw [q] at e2;cases e2
      | some o =>
        rw [q] at e2;cases o with
        | none=>cases e2
        | some j =>
          refine ⟨j,rfl,?_⟩;have e3:(σ[j]?).join=some v:=Option.some.inj e2;cases r:σ[j]? with
          | none=>rw [r] at e3;cases e3
          | some z=>rw [r] at e3;exact congrArg some e3
     obtain ⟨j,q1,q2⟩:=e2';obtain ⟨n1,n2,n3⟩:=S.slots i j x q1 e1;obtain ⟨u,ru,look⟩:=hl0 j x v n1 q2 (by rcases n3 with z | z;exact .inr (.inl z);exact .inr (.inr z));refine ⟨u,ru,.inr ⟨gN n2,?_⟩⟩;have hm:(x,NameKind.free)∈sc.names:=jW (env:=X.env) S.nocell (gN n2);obtain ⟨c,hc⟩:=hcl2 x hm;refine ⟨c,hc,?_⟩;rcases look with ⟨k1,_⟩ | ⟨_,c',hc',ic⟩
     · rcases n3 with z | z <;> (rw [k1] at z;cases z)
     · have:=hcl x c hc;rw [hc'] at this;cases this;exact ic.keeps hsb⟩
    cell:=fun x c e=>by
     obtain ⟨v,q⟩:=I.cell x c (hcl x c e);exact ⟨v,q.keeps hsb⟩
    free:=hC
    freeC:=fun x c e=>I.freeC x c (hcl x c e)
    pin:=fun p hp=>by
     have hp':p∈X.pn++pins:=by simpa [bO] using hp
     obtain ⟨a1,a2,a3,a4,a5⟩:=I.pin p hp';refine ⟨hsb _ _ a1,a2,fun e=>?_,fun hm=>?_,a5⟩
     · have e':p.1=s.heap.objs.size:=e;exact absurd (Heap.lt_size a1) (by rw [e'];exact Nat.lt_irrefl _)
     · rcases List.mem_cons.mp (I.stkSub p.1 hm) with e | e
       · exact a3 e
       · exact a4 e
    hok:=I.hok.kept hsb
    len:=by
     show (cσ js σ).length=N.length;unfold cσ;rw [List.length_map];exact S.len }
theorem qa {prog:Program} {w:World} {A:Around} {R:Result->Shared->Prop} {elt target iter:Expr} {ifs:List Expr} {scope:Scope} {pos:Pos} {it acc:Value} {env:Env} (J:Nat->Shared->Prop)
 (turn:∀ n s,J n s->wpAny (model prog w) A (pyNext it) (fun r s₁=>(r=none/\R (.ok .next) s₁)∨∃ v,r=some v ∧
  wpAny (model prog w) A (letOwnedTupleGo target it v) (fun _ s₂=>wpAny (model prog w) A (assign target env v) (fun _ s₃ =>
   wpAny (model prog w) A (forIn ifs true fun c r=>if r=true then do let ok ← isTrue c env (eval c env);pure (ForInStep.yield ok) else pure (ForInStep.yield r)) (fun ok s₄ =>
    (ok=false/\∃ m,m<n/\J m s₄)∨(ok=true/\wpAny (model prog w) A (eval elt env) (fun x s₅=>wpAny (model prog w) A (call (.builtin "list.append") [acc,x]) (fun _ s₆=>∃ m,m<n/\J m s₆) (fun _ _=>False) s₅) (fun _ _=>False) s₄))
    (fun _ _=>False) s₃) (fun _ _=>False) s₂) (fun _ _=>False) s₁) (fun _ _=>False) s)
 {s:Shared} (n:Nat) (h:J n s):codeAny (model prog w) A (.compLoop (.ListComp elt [⟨target,iter,ifs,0⟩] scope pos) 0 it acc env) R s:=by
 refine codeAny_loop rfl J (fun n s hJ=>?_) n h;show wpAny _ A ((compTurn (.ListComp elt [⟨target,iter,ifs,0⟩] scope pos) 0 it acc env).onRaise _) _ _ s;refine wpAny_noted ?_;rw [compTurn_list];have up:∀ {α:Type} {m:Sem α} {Q:α->Shared->Prop} {E:Value->Shared->Prop} {s:Shared},wpAny (model prog w) A m Q (fun _ _=>False) s->wpAny (model prog w) A m Q E s:=fun q=>wpAny_mono q (fun _ _ z=>z) fun _ _ z=>z.elim;refine wpAny_bind (wpAny_standAt (wpAny_bind (wpAny_mono (up (turn n s hJ)) (fun r s₁ h₁=>?_) fun _ _ z=>z)));rcases h₁ with ⟨rfl,h₁⟩ | ⟨v,rfl,h₁⟩
 · exact wpAny_pure h₁
 · refine wpAny_bind (wpAny_mono (up h₁) (fun _ s₂ h₂=>?_) fun _ _ z=>z);refine wpAny_bind (wpAny_mono (up h₂) (fun _ s₃ h₃=>?_) fun _ _ z=>z);refine wpAny_bind (wpAny_mono (up h₃) (fun ok s₄ h₄=>?_) fun _ _ z=>z);rcases h₄ with ⟨rfl,h₄⟩ | ⟨rfl,h₄⟩
   · exact wpAny_pure ⟨rfl,h₄⟩
   · exact wpAny_bind (wpAny_bind (wpAny_mono (up h₄) (fun x s₅ h₅=>wpAny_bind (wpAny_mono (up h₅) (fun _ s₆ h₆=>wpAny_pure (wpAny_pure ⟨rfl,h₆⟩)) fun _ _ z=>z)) fun _ _ z=>z))
theorem j1 {elt tg iter:Expr} {ifs:List Expr} {sc:Scope} {pos:Pos} {N:List Str} {js:List (Option Nat)} {g:TG} {tt:TT} {te:TE} {cl:List (Str×Addr)} {fp:List Addr} {it:Addr} {tn:Nat->Heap->Prop} {J:It} {n:Nat} {W:Nat->Hp->Prop} {fin:Hp->Prop}
 {R:Value->Addr->Result->Shared->Prop} (hc:X.calm=true) (S:dX X sc N js) (I:Inv X pins σ H s) (T:iG X.prog X.w X.K tg J fp it tn) (st:tn 0 s.heap) (hf:∀ b∈fp,jh X pins H b)
 (hcl:∀ x c,cl.lookup x=some c->X.env.cells.lookup x=some c) (hcl2:∀ n,(n,NameKind.free)∈sc.names->∃ c,cl.lookup n=some c)
 (hg:∀ cl C s H fp pins,PG (bO X N sc cl C s H fp pins) tg g) (gk:ld js g) (ht:∀ cl C s H fp pins,PTs (bO X N sc cl C s H fp pins) ifs tt) (he:∀ cl C s H fp pins,PE (bO X N sc cl C s H fp pins) elt te)
 (w0:W 0 (upd H s.heap.objs.size (.lst []))) (turn:eU js g tt te σ J s.heap.objs.size n W fin)
 (hR:∀ C H' s',C≠X.env.locals->s.heap.objs.size<C->(∃ m,s'.heap.Ns C m)->H' C=none->(∀ h' t',Heap.SameBut C s'.heap h'->Inv X pins σ H' { s' with heap:=h',toks:=t' })->fin H'->R (.ref s.heap.objs.size) C (.ok .next) s') {E:Value->Shared->Prop} :
 wpAny (model X.prog X.w) X.A (newList []) (fun acc s₃=>wpAny (model X.prog X.w) X.A (newFunctionEnv sc X.env.globals cl [] X.env.qual none .none (some X.env)) (fun cenv s₄ =>
  codeAny (model X.prog X.w) X.A (.compStart (.ListComp elt [⟨tg,iter,ifs,0⟩] sc pos) 0 (.ref it) acc { cenv with scope:=relabel sc X.env }) (R acc cenv.locals) s₄) E s₃) E s:=by
 refine wpAny_newObj_type (wpAny_newFunctionEnv S.nocell (by intro y hy;simp at hy) (fun h₁ hns₁ hsb₁=>?_) S.kind);dsimp only at hns₁ hsb₁ ⊢;have I3:Inv X pins σ (upd H s.heap.objs.size (.lst [])) { s with heap:=s.heap.push { cls:=.type "list",dict:=none,data:=.seq ([]:List Value).toArray } }:=I.lnew (t':=s.toks) (its:=[]) .nil (by decide)
 have hlt:∀ b∈fp,b<s.heap.objs.size:=fun b hb=>by
  obtain ⟨o,ho,_⟩:=T.obj _ _ st b hb;exact Heap.lt_size ho
 have hpush:∀ b o,s.heap.get? b=some o->(s.heap.push { cls:=.type "list",dict:=none,data:=.seq ([]:List Value).toArray }).get? b=some o:=fun b o e=>Heap.get?_push_of_some _ e;have hsz:(s.heap.push { cls:=.type "list",dict:=none,data:=.seq ([]:List Value).toArray }).objs.size=s.heap.objs.size+1:=Heap.size_push ..;generalize hs3:({ s with heap:=s.heap.push { cls:=.type "list",dict:=none,data:=.seq ([]:List Value).toArray } }:Shared)=s3 at I3;have hs3h:s.heap.push { cls:=.type "list",dict:=none,data:=.seq ([]:List Value).toArray }=s3.heap:=by rw [<- hs3]
 rw [hs3h] at hns₁ hsb₁ hpush hsz;rw [hs3h];have est:∀ t',({ s with heap:=h₁,toks:=t' }:Shared)={ s3 with heap:=h₁,toks:=t' }:=fun t'=>by rw [<- hs3]
 rw [est];have hsb:∀ b o,s3.heap.get? b=some o->h₁.get? b=some o:=fun b o e=>hsb₁.extBut b o (Nat.ne_of_lt (Heap.lt_size e)) (Heap.get?_push_of_some _ e);have hf3:∀ b∈fp,jh X pins (upd H s.heap.objs.size (.lst [])) b:=fun b hb=>⟨by rw [ae (Nat.ne_of_lt (hlt b hb))];exact (hf b hb).1,(hf b hb).2⟩;have I4:=rL (t':=s.toks+([]:List (Str×Value)).length) S I3 hcl hcl2 hf3 (fun b hb=>by rw [hsz];exact Nat.lt_succ_of_lt (hlt b hb)) hns₁ hsb;generalize hH3:upd H s.heap.objs.size (.lst [])=H3 at I3 I4 hf3 w0;have hst:tn 0 h₁:=T.keep _ _ _ st fun b hb o e=>hsb _ _ (hpush _ _ e)
 have stat:∀ {H':Hp},(∀ b∈fp,H' b=none)->∀ b∈fp,jh (bO X N sc cl s3.heap.objs.size s3 H3 fp pins) [] H' b:=fun {H'} hn b hb=>by
  obtain ⟨f0,f1,f2,f3,f4,f5⟩:=hf b hb;refine ⟨hn b hb,fun e=>?_,fun hm=>?_,.inl hb,fun x c e=>f4 x c (hcl x c e),fun p hp=>f5 p (by simpa [bO] using hp)⟩
  · have e':b=s3.heap.objs.size:=e;have h9:b<s.heap.objs.size:=hlt b hb;rw [e',hsz] at h9;exact absurd h9 (Nat.not_lt.mpr (Nat.le_succ _))
  · rcases List.mem_cons.mp (I.stkSub b hm) with e | e
    · exact f1 e
    · exact f2 e
 have loop:codeAny (model X.prog X.w) X.A (.compLoop (.ListComp elt [⟨tg,iter,ifs,0⟩] sc pos) 0 (.ref it) (.ref s.heap.objs.size) (compEnvC sc cl s3.heap.objs.size X.env)) (R (.ref s.heap.objs.size) s3.heap.objs.size)
  { s3 with heap:=h₁,toks:=s.toks+([]:List (Str×Value)).length }:=by
  refine qa (fun k s'=>∃ i H',Inv (bO X N sc cl s3.heap.objs.size s3 H3 fp pins) [] (cσ js σ) H' s'/\tn i s'.heap/\(∀ b∈fp,H' b=none)/\W i H'/\k=n - i) ?_ n ⟨0,H3,I4,hst,fun b hb=>(hf3 b hb).1,w0,rfl⟩;rintro k s5 ⟨i,H5,I5,st5,fr5,w5,rfl⟩;rcases turn i H5 w5 with ⟨stop,qn⟩ | ⟨hin,go,step⟩
  · refine thn (T.done (bO X N sc cl s3.heap.objs.size s3 H3 fp pins) rfl rfl rfl hc i [] s5 (cσ js σ) H5 _ I5 (stat fr5) st5 stop) fun r s6 ⟨hr,I6⟩=>.inl ⟨hr,?_⟩;have I7:Inv X pins σ H5 s6:=I3.call' (ch:=fp) (I6.os.trans rfl) I6.base I6.hok I6.bare fun b hb=>⟨(hf b hb).2.2.2.1,(hf b hb).2.1,(hf b hb).2.2.2.2.1,(hf b hb).2.2.2.2.2⟩;have hC5:H5 s3.heap.objs.size=none:=I6.free;have hCl:s3.heap.objs.size≠X.env.locals:=Nat.ne_of_gt I3.lt;obtain ⟨m6,hn6,_⟩:=I6.loc;refine hR s3.heap.objs.size H5 s6 hCl (by omega) ⟨m6,hn6⟩ hC5 (fun h' t' sb=>?_) qn;refine I7.turned (it:=s3.heap.objs.size) (fun b o hb e=>sb.extBut b o hb e) hC5 hCl (.inr I3.sz) (fun x c e z=>?_) fun p hp z=>?_
    · obtain ⟨v,q⟩:=I3.cell x c e;exact absurd q.lt (by rw [z];exact Nat.lt_irrefl _)
    · exact absurd (Heap.lt_size (I3.pin p hp).1) (by rw [z];exact Nat.lt_irrefl _)
  · refine thn (T.item (bO X N sc cl s3.heap.objs.size s3 H3 fp pins) rfl rfl rfl hc i [] s5 (cσ js σ) H5 _ I5 (stat fr5) st5 go) fun r s6 ⟨u,hr,h6⟩=>.inr ⟨u,hr,?_⟩;refine thn h6 fun _ s7 ⟨x,H7,I7,r7,y7,st7,fr7⟩=>?_;have I7':=I7.pinned (stat fr7) (T.obj _ _ st7);refine thn (hg cl s3.heap.objs.size s3 H3 fp pins _ s7 (cσ js σ) H7 x u _ I7' r7 (gk σ (cσ js σ) x H7 _ (.refl _) (step x H7 y7))) fun _ s8 ⟨σ8,H8,I8,k8,q8⟩=>?_;refine thn (ht cl s3.heap.objs.size s3 H3 fp pins _ s8 σ8 H8 _ I8 q8) fun ok s9 ⟨H9,I9,q9⟩=>?_
    have again:∀ {s':Shared} {σ':St} {H':Hp},Keep (cσ js σ) σ'->Inv (bO X N sc cl s3.heap.objs.size s3 H3 fp pins) ([]++kf fp s7.heap) σ' H' s'->W (i+1) H'->∃ m,m<n - i/\∃ i H',Inv (bO X N sc cl s3.heap.objs.size s3 H3 fp pins) [] (cσ js σ) H' s'/\tn i s'.heap/\(∀ b∈fp,H' b=none)/\W i H'/\m=n - i:=fun {s' σ' H'} kp I' w'=>by
     refine ⟨n - (i+1),by omega,i+1,H',(I'.unpinned).weak kp.1 kp.2,T.keep _ _ _ st7 fun b hb o e=>(I'.pin (b,o) (List.mem_append_right _ (List.mem_append_right _ (eG hb e)))).1,fun b hb=>?_,w',rfl⟩;obtain ⟨o,e,d⟩:=T.obj _ _ st7 b hb;exact (I'.pin (b,o) (List.mem_append_right _ (List.mem_append_right _ (eG hb e)))).2.1
    cases ok with
    | false =>
      refine .inl ⟨rfl,again k8 I9 ?_⟩;have q9':if false=true then _ else W (i+1) H9:=q9
      rw [if_neg Bool.false_ne_true] at q9';exact q9'
    | true =>
      refine .inr ⟨rfl,?_⟩;rw [if_pos rfl] at q9;refine thn (he cl s3.heap.objs.size s3 H3 fp pins _ s9 σ8 H9 _ I9 q9) fun vv s10 ⟨v,H10,I10,rv,ys,hD,hys,w10⟩=>?_;refine thn (aV _ s10 σ8 H10 (.ref s.heap.objs.size) [v] (.ref s.heap.objs.size) [vv] (fun _ H'=>W (i+1) H') I10 rfl (.cons rv .nil) ⟨_,ys,v,rfl,rfl,hD,hys,w10⟩) fun _ s11 ⟨_,H11,I11,_,w11⟩=>?_;exact again k8 I11 w11
 exact codeAny_compStart_list loop (T.self X.A 0 _ _ _ hst loop)
theorem bY {elt tg iter:Expr} {ifs:List Expr} {sc:Scope} {pos:Pos} {N:List Str} {js:List (Option Nat)} {wi:TI} {g:TG} {tt:TT} {te:TE} (hc:X.calm=true) (S:dX X sc N js) (hi:PI X tg iter wi)
 (hg:∀ cl C s H fp pins,PG (bO X N sc cl C s H fp pins) tg g) (gk:ld js g) (ht:∀ cl C s H fp pins,PTs (bO X N sc cl C s H fp pins) ifs tt) (he:∀ cl C s H fp pins,PE (bO X N sc cl C s H fp pins) elt te)
 (hs:∀ x,foldedSetIterable iter X.env x=pure x:=by intro _;rfl):PE X (.ListComp elt [⟨tg,iter,ifs,0⟩] sc pos) (pp js wi g tt te):=by
 intro pins s σ H Q I h;obtain ⟨cl,e1,e2,e3⟩:=jv (env:=X.env) (sc:=sc) fun n hn=>I.ok.has n (S.frees _ hn rfl);rw [eval_ListComp];refine wpAny_comprehension_free (use:=none) rfl hs e1 S.kind S.names (thn (hi pins s σ H _ I h) fun v s1 h1=>thn h1 fun itv s2 h2=>?_);obtain ⟨it,fp,tn,J,H2,rfl,I2,T,st2,f2,R2⟩:=h2;obtain ⟨n,W,w0,turn⟩:=R2 s2.heap.objs.size I2.fresh;refine j1 (R:=fun acc C=>compPost (model X.prog X.w) X.A X.xe none (EP X pins σ Q) acc C) hc S I2 T st2 f2 e2 e3 hg gk ht he w0 turn fun C H' s' _ _ hn _ inv fi=>?_;obtain ⟨m,hm⟩:=hn;exact ⟨m,hm,fun h' sb=>⟨.ref s2.heap.objs.size,H',inv h' s'.toks sb,rfl,fi⟩⟩
theorem fN {i:Nat} {y:Str} {elt tg iter:Expr} {ifs:List Expr} {sc:Scope} {pos spos py:Pos} {N:List Str} {js:List (Option Nat)} {wi:TI} {g:TG} {tt:TT} {te:TE} (hN:X.N.Nodup) (hy:X.N[i]?=some y) (hyl:Loc X.env.scope y) (hc:X.calm=true) (S:dX X sc N js) (hi:PI X tg iter wi)
 (hg:∀ cl C s H fp pins,PG (bO X N sc cl C s H fp pins) tg g) (gk:ld js g) (ht:∀ cl C s H fp pins,PTs (bO X N sc cl C s H fp pins) ifs tt) (he:∀ cl C s H fp pins,PE (bO X N sc cl C s H fp pins) elt te)
 (hsw:swapsWith (.ListComp elt [⟨tg,iter,ifs,0⟩] sc pos) (some (.Name y py)) spos.line X.env=pure true:=by rfl)
 (hs:∀ x,foldedSetIterable iter X.env x=pure x:=by intro _;rfl) (hf:X.fn y=true∨X.env.scope.names.lookup y=some .local:=by first | exact .inl rfl | exact .inr rfl | assumption) :
 PS X (.Assign [.Name y py] (.ListComp elt [⟨tg,iter,ifs,0⟩] sc pos) spos) (uC (pp js wi g tt te) (aE i)):=by
 intro pins s σ H D I h;obtain ⟨cl,e1,e2,e3⟩:=jv (env:=X.env) (sc:=sc) fun n hn=>I.ok.has n (S.frees _ hn rfl);rw [exec_Assign_Name_used _ _ _ _ hsw];refine wpAny_bind (wpAny_standAt (wpAny_bind ?_));show wpAny _ X.A (do let _ ← comprehension (.ListComp elt [⟨tg,iter,ifs,0⟩] sc pos) sc X.env _ (newList []) false (eval iter X.env) (some (assign (.Name y py) X.env))) _ _ s;refine wpAny_bind (wpAny_mono (wpAny_comprehension_free (use:=some (assign (.Name y py) X.env)) (Q:=fun _ s'=>SP X pins D .next s') rfl hs e1 S.kind S.names (thn (hi pins s σ H _ I h) fun v s1 h1=>thn h1 fun itv s2 h2=>?_)) (fun _ s' hq=>wpAny_pure (wpAny_pure hq)) fun _ _ z=>z);obtain ⟨it,fp,tn,J,H2,rfl,I2,T,st2,f2,R2⟩:=h2;obtain ⟨n,W,w0,turn⟩:=R2 s2.heap.objs.size I2.fresh;refine j1 (R:=fun acc C=>compPost (model X.prog X.w) X.A X.xe (some (assign (.Name y py) X.env)) (fun _ s'=>SP X pins D .next s') acc C) hc S I2 T st2 f2 e2 e3 hg gk ht he w0 turn fun C H' s' hCL hC hn hC' inv fi=>?_;obtain ⟨m,hm⟩:=hn
 have I5:Inv X pins σ H' s':=by
  have q:=inv s'.heap s'.toks (.refl ..);exact q
 refine wpAny_assign_Name (kR (v:=.ref s2.heap.objs.size) I5 hN hy hyl rfl (fun s6 I6 ⟨a,sb,ha⟩=>?_) hf)
 have haC:C≠a:=by
  rcases ha with ha | ha
  · rw [ha];exact hCL
  · intro z;obtain ⟨v,q⟩:=I2.cell y a ha;exact absurd (Nat.lt_trans q.lt hC) (by rw [z];exact Nat.lt_irrefl _)
 refine ⟨m,hm.sameBut sb haC,fun h' sb'=>⟨_,H',I6.turned (it:=C) (t':=s6.toks) (fun b o hb e=>sb'.extBut b o hb e) hC' hCL (.inr (Nat.le_trans I2.sz (Nat.le_of_lt hC))) (fun x c e z=>?_) fun p hp z=>?_,fi⟩⟩
 · obtain ⟨v,q⟩:=I2.cell x c e;exact absurd (Nat.lt_trans q.lt hC) (by rw [z];exact Nat.lt_irrefl _)
 · exact absurd (Nat.lt_trans (Heap.lt_size (I2.pin p hp).1) hC) (by rw [z];exact Nat.lt_irrefl _)
end
end L2
namespace L2
open PySem PySem.Spec PyProof.Rows
def jk {α:Type} (xs:List α) (lo hi:Option Int):List α:=(xs.drop (HT.sIx xs.length 0 lo)).take (HT.sIx xs.length xs.length hi - HT.sIx xs.length 0 lo)
def cp (z:Str) (lo hi:Option Int):Str:=⟨(jk z.cps.toList lo hi).toArray⟩
theorem re {α:Type} (xs:List α) (a n:Nat):((List.range n).map fun (k:Nat)=>a+k).filterMap (xs[·]?)=(xs.drop a).take n:=by
 induction n with
 | zero=>simp
 | succ n ih =>
   rw [List.range_succ,List.map_append,List.filterMap_append,ih,List.take_add_one];congr 1;rw [List.getElem?_drop];cases h:xs[a+n]? <;> simp [h]
theorem qd (n d:Nat) (i:Int):max 0 (min (if i<0 then i+(n:Int) else i) (n:Int))=((HT.sIx n d (some i):Nat):Int):=by
 show max 0 (min (if i<0 then i+(n:Int) else i) (n:Int))=(((if i<0 then (i+(n:Int)).toNat else min i.toNat n):Nat):Int);by_cases h:i<0
 · rw [if_pos h,if_pos h];omega
 · rw [if_neg h,if_neg h];omega
theorem qN (A B:Int) (a b:Nat) (hA:A=(a:Int)) (hB:B=(b:Int)):sliceRange A B 1=(List.range (b - a)).map fun (k:Nat)=>a+k:=by
 subst hA;subst hB;unfold sliceRange;simp only [show (1:Int) > 0 by decide,if_true]
 have c:(if (a:Int)<(b:Int) then ((b:Int) - a+1 - 1) / 1 else 0).toNat=b - a:=by
  split
  · rw [Int.ediv_one];omega
  · omega
 rw [c];refine List.map_congr_left fun k _=>?_;omega
theorem oU (lo hi:Option Int) (n:Nat):Builtin.Str.strSliceIndices lo hi 1 n=(List.range (HT.sIx n n hi - HT.sIx n 0 lo)).map fun (k:Nat)=>HT.sIx n 0 lo+k:=by
 unfold Builtin.Str.strSliceIndices;simp only [show (1:Int) > 0 by decide,if_true];cases lo <;> cases hi <;> refine qN _ _ _ _ ?_ ?_ <;> first | rfl | exact qd _ _ _
theorem fh (z:Str) (lo hi:Option Int):(cp z lo hi).length<=z.length:=by
 show (jk z.cps.toList lo hi).toArray.size<=z.cps.size;unfold jk;rw [List.size_toArray,List.length_take,List.length_drop,Array.length_toList];omega
theorem kD (x:Str) (t:Tok) (l u:Option (Int×Tok)) {Q:Value->Shared->Prop} {s:Shared} (hz:x.length<=sizeLine) (h:∀ t' k,Q (.str (cp x (l.map (·.1)) (u.map (·.1))) t') { s with toks:=k }):(sliceMade x t l u none).post Q s:=by
 have e:(slicePicked x l u none).filterMap (x.cps[·]?)=jk x.cps.toList (l.map (·.1)) (u.map (·.1)):=by
  unfold slicePicked jk;show (Builtin.Str.strSliceIndices (l.map (·.1)) (u.map (·.1)) 1 x.length).filterMap (x.cps[·]?)=_;rw [oU,show (x.cps[·]?)=(x.cps.toList[·]?) from funext fun i=>(Array.getElem?_toList ..).symm,re,Array.length_toList];rfl
 unfold sliceMade;split
 · rename_i hc
   have hl:(slicePicked x l u none).length=x.length:=by
    have:=(Bool.and_eq_true _ _ ▸ hc).2;simpa using this
   have hw:cp x (l.map (·.1)) (u.map (·.1))=x:=by
    have e2:(jk x.cps.toList (l.map (·.1)) (u.map (·.1)))=x.cps.toList:=by
     have hp:slicePicked x l u none=(List.range (HT.sIx x.length x.length (u.map (·.1)) - HT.sIx x.length 0 (l.map (·.1)))).map fun (k:Nat)=>HT.sIx x.length 0 (l.map (·.1))+k:=oU _ _ _;rw [hp,List.length_map,List.length_range] at hl;have b1:=HT.sIx_le x.length x.length (Nat.le_refl _) (u.map (·.1));have hx:x.cps.toList.length=x.length:=Array.length_toList;unfold jk;rw [hx,hl];have hz0:HT.sIx x.length 0 (l.map (·.1))=0∨x.length=0:=by omega
     rcases hz0 with h0 | h0
     · rw [h0,List.drop_zero,List.take_of_length_le (by rw [hx];exact Nat.le_refl _)]
     · have:x.cps.toList=[]:=List.length_eq_zero_iff.mp (by rw [hx];exact h0);rw [this];simp
    unfold cp;rw [e2]
   have:=h t s.toks;rw [hw] at this;exact this
 · show (⟨((slicePicked x l u none).filterMap (x.cps[·]?)).toArray⟩:Str).length<=sizeLine/\Q _ _;rw [e];exact ⟨Nat.le_trans (fh x _ _) hz,h s.toks (s.toks+1)⟩
section
variable {X:Cx}
inductive t6 (x:V) (lo:Option Int) (hi:Option Int) (H:Hp) (Q:VK):Prop
 | mk (z:_) (zz0:x=.str z) (zz1:z.length<=sizeLine) (zz2:Q (.str (cp z lo hi)) H):t6  x lo hi H Q
def we:V->Option Int->Option Int->Hp->VK->Prop:=t6
theorem oZ {v:Value} {o:Option Int} (h:IsPart v o):∃ l:Option (Int×Tok),v=partValue l/\l.map (·.1)=o:=by
 cases h with
 | none=>exact ⟨none,rfl,rfl⟩
 | int i t=>exact ⟨some (i,t),rfl,rfl⟩
theorem mq:SlR X we:=by
 intro pins s σ H x v vl vu lo hi sl Q I rx hs pl pu h;obtain ⟨z,rfl,hz,q⟩:=h;obtain ⟨t,rfl⟩:=rx;obtain ⟨l,rfl,rfl⟩:=oZ pl;obtain ⟨u,rfl,rfl⟩:=oZ pu;refine ⟨"str",_,F.slot_str_getitem.lookup,typeIs_str s z t,wpAny_getItem_str_slice (l:=l) (u:=u) (st:=none) ?_ rfl (kD z t l u hz fun t' k=>?_)⟩
 · obtain ⟨o,ho,hc,hd⟩:=hs;exact ⟨o,ho,hc,hd⟩
 · exact ⟨.str (cp z (l.map (·.1)) (u.map (·.1))),H,I.tok k,⟨_,rfl⟩,q⟩
theorem mO (hc:X.calm=true):eZ X (.builtin "sum") (fun xs H Q=>∃ (p:Addr) (ns:List Int),xs=[.ref p]/\SqL X.K H p (ns.map V.int)/\Q (.int ns.sum) H):=by
 intro pins s σ H xs us Q I r h;obtain ⟨p,ns,rfl,hl,q⟩:=h;obtain ⟨u,rfl,rx⟩:=i4 r;cases rx;obtain ⟨its,rv,pl,_⟩:=I.list hl;have hi:=j6 rv;obtain ⟨ys,e⟩:=(hi.allInts).items;have hl':s.heap.IsList p (intItems ys):=by rw [<- e];exact pl.isList
 refine sum_intListG (I.ok.hd hc) hl' fun h' tk t' hk=>?_
 have e3:preSum (numAt ys) ys.size=ns.sum:=by
  rw [preSum_eq,List.take_of_length_le (by simp),<- nums_intItems,<- e];show (numsOf its).sum=_;rw [hi.numsOf]
 rw [e3];exact ⟨.int ns.sum,H,I.kept hk,⟨_,rfl⟩,q⟩
theorem iy (hc:X.calm=true):eZ X (.builtin "max") (fun xs H Q=>∃ (p:Addr) (ns:List Int),xs=[.ref p]/\SqL X.K H p (ns.map V.int)/\ns≠[]/\∀ M,M∈ns->(∀ a,a∈ns->a<=M)->Q (.int M) H):=by
 intro pins s σ H xs us Q I r h;obtain ⟨p,ns,rfl,hl,hne,q⟩:=h;obtain ⟨u,rfl,rx⟩:=i4 r;cases rx;obtain ⟨its,rv,pl,_⟩:=I.list hl;have hi:=j6 rv;have hlen:=hi.length;obtain ⟨ys,e⟩:=(hi.allInts).items;have hl':s.heap.IsList p (intItems ys):=by rw [<- e];exact pl.isList
 have hn:ys.toList.map (·.1)=ns:=by rw [<- nums_intItems,<- e];exact hi.numsOf
 have hsz:0<ys.size:=by
  have:ns.length=ys.size:=by rw [<- hn];simp
  have:=List.length_pos_iff.mpr hne;omega
 refine max_intList (I.ok.hd hc) hl' hsz fun v h' tk hv hk=>?_;obtain ⟨t,rfl⟩:=intItems_at hv;obtain ⟨h1,h2⟩:=argBest_gt (numAt ys) (ys.size - 1);refine ⟨.int _,H,I.kept hk,⟨_,rfl⟩,q _ ?_ fun a ha=>?_⟩
 · rw [numAt_eq,<- hn];exact getD_mem (by rw [List.length_map,Array.length_toList];omega)
 · rw [<- hn] at ha;obtain ⟨j,hj,rfl⟩:=mem_getD ha;rw [List.length_map,Array.length_toList] at hj;rw [<- numAt_eq];exact h2 j (by omega)
theorem rR {T:String} {b:Bool} {t:Value}:eZ X (.builtin "isinstance") (fun xs H Q=>∃ x,xs=[x,.ty T]/\hG X.K H x t/\PySem.W.kitOne X.K t (.type T)=some b/\Q (.bl b) H):=by
 intro pins s σ H xs us Q I r h;obtain ⟨x,rfl,ty,k,q⟩:=h;obtain ⟨u,w',rfl,r1,r2⟩:=pH r;cases r2;exact p9 I r1 ty k fun tk=>⟨.bl b,H,I.tok tk,rfl,q⟩
end
end L2
namespace PySem
namespace F
end F
end PySem
namespace PySem
open Sem (wp)
section
variable {prog:Program} {w:World} {A:Around} {E:Value->Shared->Prop} {s:Shared}
end
end PySem
namespace L2
open PySem PySem.Spec PyProof.Rows
section
variable {X:Cx} {e:Expr} {te:TE} {p p2 pos pos2:Pos}
def Itv (K:PySem.W.Frag) (a:Addr) (n:Nat):It:=⟨fun i H=>i<n/\∃ xs,SqL K H a xs/\xs.length=n,fun i H x H'=>H'=H/\∀ xs,SqL K H a xs->xs[n - 1 - i]?=some x,fun i _=>i=n⟩
theorem rG {P:Program} {w:World} {K:PySem.W.Frag} {tg:Expr} (a it:Addr) (n:Nat):iG P w K tg (Itv K a n) [it] it (fun i h=>h.IsRevIter it a ((n:Int) - 1 - (i:Nat))) where
 mem:=by simp
 obj:=fun i h st b hb=>by
  have e:b=it:=by simpa using hb
  subst e;obtain ⟨o,e,c,d⟩:=st;exact ⟨o,e,fun v z=>by rw [d] at z;cases z⟩
 keep:=fun i h h' st k=>st.at fun o e=>k it (by simp) o e
 item:=by
  intro X hP hw hK hc i pins s σ H E I hf st hg;subst hP hw hK;obtain ⟨hi,xs,hq,hx⟩:=hg;obtain ⟨its,rv,p,hz⟩:=I.list hq;have hl:=rv.length;obtain ⟨x,hx'⟩:∃ x,xs[n - 1 - i]?=some x:=⟨_,List.getElem?_eq_getElem (by omega)⟩;obtain ⟨u,hu,ru⟩:=rv.get hx';obtain ⟨f0,f1,f2,f3,f4,f5⟩:=hf it (by simp);have e1:(n:Int) - 1 - (i:Nat)=((n - 1 - i:Nat):Int):=by omega
  rw [e1] at st;refine wpAny_pyNext_rev_item st p.isList (x:=u) (by simpa using hu) fun h' st' sb=>?_;have I1:Inv X pins σ H { s with heap:=h' }:=I.turned (t':=s.toks) (fun b o hb e=>(sb.2 b hb).trans e) f0 f1 f3 f4 f5;have e2:((n - 1 - i:Nat):Int) - 1=(n:Int) - 1 - ((i+1:Nat):Int):=by omega
  rw [e2] at st';obtain ⟨o,e,c,d⟩:=id st';exact ⟨u,rfl,lz (s:={ s with heap:=h' }) e c d (by decide) ⟨x,H,I1,ru,⟨rfl,fun ys hy=>by rw [I.list_inj hy hq];exact hx'⟩,st',fun b hb=>(hf b hb).1⟩⟩
 done:=by
  intro X hP hw hK hc i pins s σ H E I hf st hg;subst hP hw hK;have hg':i=n:=hg;subst hg';obtain ⟨f0,f1,f2,f3,f4,f5⟩:=hf it (by simp);rw [show (i:Int) - 1 - (i:Nat)=-1 by omega] at st;exact wpAny_pyNext_rev_end (I.ok.hd hc) st fun h' eb=>⟨rfl,I.turned (t':=s.toks) (fun b o hb e=>eb b o hb e) f0 f1 f3 f4 f5⟩
 self:=fun _ _ _ _ _ st h=>wpAny_pyIter_revIter st h
def v7 (K:PySem.W.Frag) (tl:TE):TI:=fun σ H R=>tl σ H fun x H1=>∃ a xs,x=.ref a/\SqL K H1 a xs/\R (Itv K a xs.length) H1
theorem uL {tg:Expr} (g2:Gl X "reversed") (m2:X.mg "reversed"=none) (he:PE X e te) (h2:starEach [e] X.env=[(false,eval e X.env)]:=by rfl):PI X tg (.Call (.Name "reversed" p2) [e] [] pos2) (v7 X.K te):=by
 intro pins s σ H R I h;refine wpAny_Call_Name_kw (fH I g2 m2 boot_reversed (PyProof.Rows.callWith_type1 ?_ h2 rfl));rw [h2];show wpAny _ _ (spliced ((false,eval e X.env)::[])) _ _ s;refine Calls.spliced_cons (thn (he pins s σ H _ I h) fun u s1 ⟨x,H1,I1,r1,a,ys,ex,hq,q⟩=>Calls.spliced_nil ?_);subst ex;cases r1;obtain ⟨its,rv,p,hz⟩:=I1.list hq;have hl:=rv.length;refine call_reversed_list p.isList ?_
 have hit:(s1.heap.push (revObj a ((its.toArray.size:Int) - 1))).IsRevIter s1.heap.objs.size a ((ys.length:Int) - 1 - ((0:Nat):Int)):=by
  rw [hl,show (its.length:Int) - 1 - ((0:Nat):Int)=(its.toArray.size:Int) - 1 by rw [List.size_toArray];omega];exact ⟨_,Heap.get?_push_size _ rfl,rfl,rfl⟩
 refine wpAny_pyIter_revIter (s:={ s1 with heap:=s1.heap.push (revObj a ((its.toArray.size:Int) - 1)) }) hit ?_;refine ⟨s1.heap.objs.size,[s1.heap.objs.size],_,_,H1,rfl,I1.kept (t':=s1.toks) fun b o e=>Heap.get?_push_of_some _ e,rG a _ ys.length,hit,fun b hb=>?_,q⟩;have e:b=s1.heap.objs.size:=by simpa using hb
 subst e;exact I1.fpOk (Nat.le_refl _) (I1.hok.fresh (Nat.le_refl _))
theorem tw {K:PySem.W.Frag} {a:Addr} {xs:List V} {g:TG} {tb:TS} {D:fu} {σ:St} {H:Hp} (Pv:Nat->St->Hp->Prop) (h0:Pv 0 σ H) (hl:∀ i σ H,i<=xs.length->Pv i σ H->SqL K H a xs)
 (hs:∀ i x σ H,i<xs.length->xs[xs.length - 1 - i]?=some x->Pv i σ H->g x σ H fun σ2 H2=>tb { D with nx:=Pv (i+1),ct:=Pv (i+1),bk:=D.nx } σ2 H2) (hd:∀ σ H,Pv xs.length σ H->D.nx σ H) :
 ∃ W:Nat->Nat->St->Hp->Prop,(∃ m,W 0 m σ H)/\∀ i m σ H,W i m σ H →
   ((Itv K a xs.length).stop i H/\D.nx σ H)∨((Itv K a xs.length).go i H/\∃ N:St->Hp->Prop,(∀ σ' H',N σ' H'->∃ m',m'<m/\W (i+1) m' σ' H')/\∀ x H',(Itv K a xs.length).yld i H x H'->g x σ H' fun σ2 H2=>tb { D with nx:=N,ct:=N,bk:=D.nx } σ2 H2):=by
 refine ⟨fun i m σ H=>i<=xs.length/\m=xs.length - i/\Pv i σ H,⟨xs.length,Nat.zero_le _,rfl,h0⟩,?_⟩;rintro i m σ H ⟨hi,rfl,p⟩;by_cases h:i=xs.length
 · left;exact ⟨h,hd σ H (by rw [<- h];exact p)⟩
 · right;have hi':i<xs.length:=by omega
   refine ⟨⟨hi',xs,hl i σ H hi p,rfl⟩,Pv (i+1),fun σ' H' q=>⟨xs.length - (i+1),by omega,by omega,rfl,q⟩,?_⟩;rintro x H' ⟨rfl,hx⟩;exact hs i x σ H' hi' (hx xs (hl i σ H' hi p)) p
end
end L2
namespace BB
open PySem L2
inductive Th where
 | knot (n:Str) (ks:List Th)
 | call (s k:Int)
def q:Str:=Str.ofString "?"
def Th.kids:Th->List Th
 | .knot _ ks=>ks
 | .call _ _=>[]
mutual
def Th.size:Th->Nat
 | .knot _ ks=>aw ks+1
 | .call _ _=>1
def aw:List Th->Nat
 | []=>0
 | t::ts=>t.size+aw ts
end
mutual
def Th.tall:Th->Nat
 | .knot _ ks=>aC ks+1
 | .call _ _=>1
def aC:List Th->Nat
 | []=>0
 | t::ts=>max t.tall (aC ts)
end
mutual
/-- by places ascending -/
def Th.walk:Th->List Th
 | .knot n ks=>.knot n ks::bi ks
 | .call s k=>[.call s k]
def bi:List Th->List Th
 | []=>[]
 | t::ts=>t.walk++bi ts
end
theorem Th.walk_eq (t:Th):t.walk=t::bi t.kids:=by
 cases t with
 | knot n ks=>rw [Th.walk];rfl
 | call s k=>rw [Th.walk];simp [Th.kids,bi]
theorem Th.size_eq (t:Th):t.size=aw t.kids+1:=by
 cases t with
 | knot n ks=>rw [Th.size];rfl
 | call s k=>rw [Th.size];simp [Th.kids,aw]
theorem Th.tall_eq (t:Th):t.tall=aC t.kids+1:=by
 cases t with
 | knot n ks=>rw [Th.tall];rfl
 | call s k=>rw [Th.tall];simp [Th.kids,aC]
theorem gJ:∀ a b:List Th,bi (a++b)=bi a++bi b
 | [],b=>by simp [bi]
 | t::a,b=>by rw [List.cons_append,bi,bi,gJ a b,List.append_assoc]
theorem aZ:∀ a b:List Th,aw (a++b)=aw a+aw b
 | [],b=>by simp [aw]
 | t::a,b=>by rw [List.cons_append,aw,aw,aZ a b,Nat.add_assoc]
mutual
theorem Th.walk_len:∀ t:Th,t.walk.length=t.size
 | .knot n ks=>by rw [Th.walk,Th.size,List.length_cons,iR ks]
 | .call s k=>by rw [Th.walk,Th.size];rfl
theorem iR:∀ ts:List Th,(bi ts).length=aw ts
 | []=>rfl
 | t::ts=>by rw [bi,aw,List.length_append,t.walk_len,iR ts]
end
theorem Th.size_pos (t:Th):1<=t.size:=by rw [t.size_eq];omega
mutual
def At (H:Hp):Th->Addr->Prop
 | .knot n ks,a=>n≠q/\∃ as:List Addr,H a=some (.tup (.str n::as.map V.ref))/\Ats H ks as
 | .call s k,a=>H a=some (.tup [.str q,.int s,.int k])
def Ats (H:Hp):List Th->List Addr->Prop
 | [],as=>as=[]
 | t::ts,as=>∃ a r,as=a::r/\At H t a/\Ats H ts r
end
def KT (H H':Hp):Prop:=∀ b xs,H b=some (.tup xs)->H' b=some (.tup xs)
theorem KT.trans {H H1 H2:Hp} (a:KT H H1) (b:KT H1 H2):KT H H2:=fun c o h=>b c o (a c o h)
theorem Same.kt {H H':Hp} (h:L2.Same H H'):KT H H':=fun b xs e=>h b _ e
theorem gx {H:Hp} {l:Addr} {o:HO} (h:H l=none):KT H (upd H l o):=fun b xs e=>by rw [ae (au e h)];exact e
theorem bt {H:Hp} {l:Addr} {o:HO} {xs:List V} (h:H l=some (.lst xs)):KT H (upd H l o):=fun b ys e=>by rw [ae (aJ e h (by intro z;cases z))];exact e
mutual
theorem At.mono {H H':Hp} (k:KT H H'):∀ {t:Th} {a:Addr},At H t a->At H' t a
 | .knot n ks,a,h=>by
   rw [At] at h ⊢;obtain ⟨h0,as,h1,h2⟩:=h;exact ⟨h0,as,k _ _ h1,Ats.mono k h2⟩
 | .call s c,a,h=>by
   rw [At] at h ⊢;exact k _ _ h
theorem Ats.mono {H H':Hp} (k:KT H H'):∀ {ts:List Th} {as:List Addr},Ats H ts as->Ats H' ts as
 | [],as,h=>by rw [Ats] at h ⊢;exact h
 | t::ts,as,h=>by
   rw [Ats] at h ⊢;obtain ⟨a,r,e,h1,h2⟩:=h;exact ⟨a,r,e,At.mono k h1,Ats.mono k h2⟩
end
theorem Ats.nil {H:Hp}:Ats H [] []:=by rw [Ats]
theorem Ats.cons {H:Hp} {t:Th} {ts:List Th} {a:Addr} {as:List Addr} (h1:At H t a) (h2:Ats H ts as):Ats H (t::ts) (a::as):=by rw [Ats];exact ⟨a,as,rfl,h1,h2⟩
theorem Ats.append {H:Hp}:∀ {ts us:List Th} {as bs:List Addr},Ats H ts as->Ats H us bs->Ats H (ts++us) (as++bs)
 | [],us,as,bs,h,g=>by rw [Ats] at h;subst h;exact g
 | t::ts,us,as,bs,h,g=>by
   rw [Ats] at h;obtain ⟨a,r,rfl,h1,h2⟩:=h;exact .cons h1 (h2.append g)
theorem Ats.length {H:Hp}:∀ {ts:List Th} {as:List Addr},Ats H ts as->as.length=ts.length
 | [],as,h=>by rw [Ats] at h;subst h;rfl
 | t::ts,as,h=>by
   rw [Ats] at h;obtain ⟨a,r,rfl,h1,h2⟩:=h;rw [List.length_cons,List.length_cons,h2.length]
theorem Ats.reverse {H:Hp}:∀ {ts:List Th} {as:List Addr},Ats H ts as->Ats H ts.reverse as.reverse
 | [],as,h=>by rw [Ats] at h;subst h;exact .nil
 | t::ts,as,h=>by
   rw [Ats] at h;obtain ⟨a,r,rfl,h1,h2⟩:=h;rw [List.reverse_cons,List.reverse_cons];exact h2.reverse.append (.cons h1 .nil)
theorem Ats.get {H:Hp}:∀ {ts:List Th} {as:List Addr} {i:Nat} {a:Addr},Ats H ts as->as[i]?=some a->∃ t,ts[i]?=some t/\At H t a
 | [],as,i,a,h,e=>by rw [Ats] at h;subst h;simp at e
 | t::ts,as,i,a,h,e=>by
   rw [Ats] at h;obtain ⟨b,r,rfl,h1,h2⟩:=h;cases i with
   | zero=>simp at e;subst e;exact ⟨t,rfl,h1⟩
   | succ i=>exact h2.get (i:=i) (by simpa using e)
theorem Ats.snoc_inv {H:Hp} {ts:List Th} {as:List Addr} {a:Addr} (h:Ats H ts (as++[a])):∃ us t,ts=us++[t]/\Ats H us as/\At H t a:=by
 have r:=h.reverse;rw [List.reverse_append,List.reverse_singleton,List.singleton_append] at r;cases e:ts.reverse with
 | nil=>rw [e,Ats] at r;cases r
 | cons t us =>
   rw [e,Ats] at r;obtain ⟨b,z,e1,h1,h2⟩:=r;cases e1;refine ⟨us.reverse,t,?_,?_,h1⟩
   · rw [<- List.reverse_cons,<- e,List.reverse_reverse]
   · have:=h2.reverse;rw [List.reverse_reverse] at this;exact this
end BB
namespace BB
open PySem L2
end BB
namespace BB
open PySem L2
theorem bz {α:Type} {xs:List α} {i:Int} {v:α} (h0:0<=i) (h:xs[i.toNat]?=some v):atI xs i=some v:=by
 have e:i=((i.toNat:Nat):Int):=by omega
 rw [e];exact br h
def Low (x:Str):Prop:=∀ c∈x.cps.toList,97<=c/\c<=122
theorem lX {x:Str} (h:Low x) (lo hi:Option Int):Low (cp x lo hi):=by
 intro c hc;have hc':c∈jk x.cps.toList lo hi:=by simpa [cp] using hc
 exact h c (List.mem_of_mem_drop (List.mem_of_mem_take hc'))
theorem pf {x y:Str} (hx:Low x) (hy:Low y):Low (x++y):=by
 intro c hc;have hc':c∈(x.cps++y.cps).toList:=hc;rw [Array.toList_append,List.mem_append] at hc';rcases hc' with h | h
 · exact hx c h
 · exact hy c h
theorem tf {c:Nat} (h1:97<=c) (h2:c<=122):Low ⟨#[c]⟩:=by
 intro d hd;have:d=c:=by simpa using hd
 omega
theorem iW {x:Str} (h:Low x):x≠q:=by
 intro e;subst e;have:=h 63 (by decide +kernel);omega
end BB
namespace L2
open PySem PySem.Spec PyProof.Rows
theorem Same.seqT {K:PySem.W.Frag} {H H':Hp} {a:Addr} {xs:List V} (e:Same H H') (h:SqT K H a xs):SqT K H' a xs:=by
 rcases h with (h | ⟨o,h⟩) | h
 · exact .inl (.inl (e _ _ h))
 · exact .inl (.inr ⟨o,e _ _ h⟩)
 · exact .inr h
theorem af {H:Hp} {p:Addr} (h:H p=none) (o:HO):Same H (upd H p o):=fun b u q=>by rw [ae (au q h)];exact q
theorem aH {H H1:Hp} {l:Addr} {o:HO} (h:Same H H1) (n:H l=none):Same H (upd H1 l o):=fun b u e=>by rw [ae (au e n)];exact h b u e
theorem o5 {α:Type} {js:List (Option Nat)} {tt:TT} {te:TE} {σ:St} {J:It} {H:Hp} {xs:List V} {fin:Addr->Hp->Prop} (zs:List α) (p:α->Bool) (f:α->V) (hz:zs.length=xs.length) (hn:xs.length<=1000000)
 (hgo:∀ i H2,Same H H2->i<xs.length->J.go i H2) (hstop:∀ H2,Same H H2->J.stop xs.length H2) (hyld:∀ (i:Nat) H2 x H3,Same H H2->i<xs.length->J.yld i H2 x H3->H3=H2/\xs[i]?=some x)
 (htt:∀ (i:Nat) x z H2 (R:Bool->Hp->Prop),xs[i]?=some x->zs[i]?=some z->Same H H2->R (p z) H2->tt ((cσ js σ).set 0 (some x)) H2 R)
 (hte:∀ (i:Nat) x z H2 (R:VK),xs[i]?=some x->zs[i]?=some z->p z=true->Same H H2->R (f z) H2->te ((cσ js σ).set 0 (some x)) H2 R)
 (q:∀ D,H D=none->fin D (upd H D (.lst ((zs.filter p).map f)))) :
 ∀ D,H D=none->∃ (n:Nat) (W:Nat->Hp->Prop),W 0 (upd H D (.lst []))/\eU js (aE 0) tt te σ J D n W fun H'=>fin D H':=by
 intro D hD;refine ⟨xs.length,fun i H2=>i<=xs.length/\H2=upd H D (.lst (((zs.take i).filter p).map f)),⟨Nat.zero_le _,by simp⟩,?_⟩;rintro i H2 ⟨hi,rfl⟩;have sm:∀ o,Same H (upd H D o):=fun o=>af hD o;by_cases h:i=xs.length
 · left;subst h;refine ⟨hstop _ (sm _),?_⟩;rw [<- hz,List.take_length];exact q D hD
 · right;have hi':i<xs.length:=by omega
   refine ⟨hi',hgo i _ (sm _) hi',fun x H1 hy=>?_⟩;obtain ⟨rfl,hx⟩:=hyld i _ x H1 (sm _) hi' hy;have hzi:i<zs.length:=by omega
   have e1:zs[i]?=some zs[i]:=List.getElem?_eq_getElem hzi
   have e2:(zs.take (i+1)).filter p=(zs.take i).filter p++(if p zs[i]=true then [zs[i]] else []):=by
    rw [List.take_add_one,e1,List.filter_append];show _++List.filter p [zs[i]]=_;rw [List.filter_cons,List.filter_nil]
   refine htt i x zs[i] _ _ hx e1 (sm _) ?_
   have hlen:(((zs.take i).filter p).map f).length<=1000000:=by
    rw [List.length_map];have:=List.length_filter_le p (zs.take i);rw [List.length_take] at this;omega
   by_cases hp:p zs[i]=true
   · rw [if_pos hp];refine hte i x zs[i] _ _ hx e1 hp (sm _) ⟨_,ac,Nat.lt_of_le_of_lt hlen (by decide),hi',?_⟩;rw [lQ,e2,if_pos hp,List.map_append];rfl
   · rw [if_neg hp];refine ⟨hi',?_⟩;rw [e2,if_neg hp,List.append_nil]
theorem mh {α:Type} {K:PySem.W.Frag} {a:Addr} {js:List (Option Nat)} {tt:TT} {te:TE} {σ:St} {H:Hp} {xs:List V} {fin:Addr->Hp->Prop} (zs:List α) (p:α->Bool) (f:α->V) (hS:SqL K H a xs) (hz:zs.length=xs.length) (hn:xs.length<=1000000)
 (htt:∀ (i:Nat) x z H2 (R:Bool->Hp->Prop),xs[i]?=some x->zs[i]?=some z->Same H H2->R (p z) H2->tt ((cσ js σ).set 0 (some x)) H2 R)
 (hte:∀ (i:Nat) x z H2 (R:VK),xs[i]?=some x->zs[i]?=some z->p z=true->Same H H2->R (f z) H2->te ((cσ js σ).set 0 (some x)) H2 R)
 (q:∀ D,H D=none->fin D (upd H D (.lst ((zs.filter p).map f)))) :
 ∀ D,H D=none->∃ (n:Nat) (W:Nat->Hp->Prop),W 0 (upd H D (.lst []))/\eU js (aE 0) tt te σ (Itl K a) D n W fun H'=>fin D H' :=
 o5 zs p f hz hn (fun i H2 s hi=>⟨xs,xs[i],s.seq hS,List.getElem?_eq_getElem hi⟩) (fun H2 s=>⟨xs,s.seq hS,Nat.le_refl _⟩) (fun i H2 x H3 s hi hy=>⟨hy.1,hy.2 xs (s.seq hS)⟩) htt hte q
theorem jd {α:Type} {K:PySem.W.Frag} {a:Addr} {js:List (Option Nat)} {tt:TT} {te:TE} {σ:St} {H:Hp} {xs:List V} {fin:Addr->Hp->Prop} (zs:List α) (p:α->Bool) (f:α->V) (hS:SqT K H a xs) (hz:zs.length=xs.length) (hn:xs.length<=1000000)
 (htt:∀ (i:Nat) x z H2 (R:Bool->Hp->Prop),xs[i]?=some x->zs[i]?=some z->Same H H2->R (p z) H2->tt ((cσ js σ).set 0 (some x)) H2 R)
 (hte:∀ (i:Nat) x z H2 (R:VK),xs[i]?=some x->zs[i]?=some z->p z=true->Same H H2->R (f z) H2->te ((cσ js σ).set 0 (some x)) H2 R)
 (q:∀ D,H D=none->fin D (upd H D (.lst ((zs.filter p).map f)))) :
 ∀ D,H D=none->∃ (n:Nat) (W:Nat->Hp->Prop),W 0 (upd H D (.lst []))/\eU js (aE 0) tt te σ (Itt K a) D n W fun H'=>fin D H' :=
 o5 zs p f hz hn (fun i H2 s hi=>⟨xs,xs[i],s.seqT hS,List.getElem?_eq_getElem hi⟩) (fun H2 s=>⟨xs,s.seqT hS,Nat.le_refl _⟩) (fun i H2 x H3 s hi hy=>⟨hy.1,hy.2 xs (s.seqT hS)⟩) htt hte q
end L2
namespace BB
open PySem L2
theorem at0 {α:Type} {x:α} {xs:List α}:atI (x::xs) 0=some x:=br (j:=0) rfl
theorem at1 {α:Type} {x y:α} {xs:List α}:atI (x::y::xs) 1=some y:=br (j:=1) rfl
theorem at2 {α:Type} {x y z:α} {xs:List α}:atI (x::y::z::xs) 2=some z:=br (j:=2) rfl
theorem gQ (x:V) (xs:List V):cW (x::xs) (some 1) none=xs:=by
 unfold cW;simp [HT.sIx]
theorem d3:∀ ts:List Th,ts.length<=aw ts
 | []=>Nat.zero_le _
 | t::ts=>by
   have:=t.size_pos;have:=d3 ts;rw [List.length_cons,aw];omega
theorem lg (ts:List Th):aw ts.reverse=aw ts:=by
 induction ts with
 | nil=>rfl
 | cons x xs ih=>rw [List.reverse_cons,aZ,ih,aw,aw,aw];omega
theorem aK {n:Nat} (h:n<=1000000):n<sizeLine:=Nat.lt_of_le_of_lt h (by decide)
theorem am {n:Nat} (h:n<=1000000):n<=sizeLine:=Nat.le_of_lt (aK h)
theorem uy {ns:List Int} {k:Int} (h0:0<=k) (h:k<(ns.length:Int)):atI (ns.map V.int) k=some (.int (ns.getD k.toNat 0)):=by
 refine bz h0 ?_;have hk:k.toNat<ns.length:=by omega
 rw [List.getElem?_map,List.getElem?_eq_getElem hk,List.getD_eq_getElem?_getD,List.getElem?_eq_getElem hk];rfl
end BB
namespace BB
open PySem L2
section
variable {α β:Type} {F G:α->β->Prop}
theorem P2.append:∀ {a c:List α} {b d:List β},Paired F a b->Paired F c d->Paired F (a++c) (b++d)
 | _,_,_,_,.nil,h=>h
 | _,_,_,_,.cons r t,h=>.cons r (P2.append t h)
theorem P2.get:∀ {a:List α} {b:List β} {i:Nat} {x:α},Paired F a b->a[i]?=some x->∃ y,b[i]?=some y/\F x y
 | _,_,_,_,.nil,e=>by simp at e
 | _,_,0,_,.cons r _,e=>by simp at e;subst e;exact ⟨_,rfl,r⟩
 | _,_,i+1,x,.cons _ t,e=>by
   obtain ⟨u,h1,h2⟩:=P2.get (i:=i) (x:=x) t (by simpa using e);exact ⟨u,by simpa using h1,h2⟩
theorem P2.get':∀ {a:List α} {b:List β} {i:Nat} {y:β},Paired F a b->b[i]?=some y->∃ x,a[i]?=some x/\F x y
 | _,_,_,_,.nil,e=>by simp at e
 | _,_,0,_,.cons r _,e=>by simp at e;subst e;exact ⟨_,rfl,r⟩
 | _,_,i+1,y,.cons _ t,e=>by
   obtain ⟨u,h1,h2⟩:=P2.get' (i:=i) (y:=y) t (by simpa using e);exact ⟨u,by simpa using h1,h2⟩
theorem P2.take:∀ {a:List α} {b:List β} (n:Nat),Paired F a b->Paired F (a.take n) (b.take n)
 | _,_,0,_=>.nil
 | _,_,_+1,.nil=>.nil
 | _,_,n+1,.cons r t=>.cons r (P2.take n t)
theorem P2.drop:∀ {a:List α} {b:List β} (n:Nat),Paired F a b->Paired F (a.drop n) (b.drop n)
 | _,_,0,r=>r
 | _,_,_+1,.nil=>.nil
 | _,_,n+1,.cons _ t=>P2.drop n t
theorem P2.mp (f:∀ x y,F x y->G x y):∀ {a:List α} {b:List β},Paired F a b->Paired G a b
 | _,_,.nil=>.nil
 | _,_,.cons r t=>.cons (f _ _ r) (P2.mp f t)
end
def KAt (H:Hp) (k:Str×Int) (a:Addr):Prop:=H a=some (.tup [.str k.1,.int k.2])
def KsAt (H:Hp) (ks:List (Str×Int)) (as:List Addr):Prop:=Paired (KAt H) ks as
theorem KsAt.mono {H H':Hp} (k:KT H H') {ks:List (Str×Int)} {as:List Addr} (h:KsAt H ks as):KsAt H' ks as:=P2.mp (fun x y e=>k _ _ e) h
end BB
namespace L2
open PySem
theorem cf {t u:TS} {D:fu} {σ:St} {H:Hp} (R:St->Hp->Prop) (h1:∀ k:St->Hp->Prop,(∀ σ' H',R σ' H'->k σ' H')->t { D with nx:=k } σ H) (h2:∀ σ' H',R σ' H'->u D σ' H'):rK t u D σ H:=h1 _ h2
theorem ck {c:TT} {t u:TS} {D:fu} {σ:St} {H:Hp} (R:Bool->Hp->Prop) (h1:∀ k:Bool->Hp->Prop,(∀ b H',R b H'->k b H')->c σ H k) (h2:∀ H',R true H'->t D σ H') (h3:∀ H',R false H'->u D σ H'):vd c t u D σ H :=
 h1 _ fun b H' r=>by
  cases b with
  | true=>rw [if_pos rfl];exact h2 H' r
  | false=>rw [if_neg Bool.false_ne_true];exact h3 H' r
end L2
namespace BB
open PySem L2
mutual
def Th.Fit (ks:List (Str×Int)):Th->Prop
 | .knot n ts=>(n,(ts.length:Int))∈ks/\Fits ks ts
 | .call _ _=>False
def Fits (ks:List (Str×Int)):List Th->Prop
 | []=>True
 | t::ts=>t.Fit ks/\Fits ks ts
end
theorem Fits.of {ks:List (Str×Int)}:∀ {ts:List Th},(∀ t∈ts,t.Fit ks)->Fits ks ts
 | [],_=>by rw [Fits];trivial
 | t::ts,h=>by
   rw [Fits];exact ⟨h t (List.mem_cons_self ..),Fits.of fun u hu=>h u (List.mem_cons_of_mem _ hu)⟩
section
variable {ext:Th->List V} {H H':Hp} {t:Th} {a:Addr} {ts:List Th} {es:List Addr}
end
theorem cL:∀ {ts:List Th} {t:Th},t∈ts->t.tall<=aC ts
 | u::ts,t,h=>by
   rw [aC];rcases List.mem_cons.mp h with rfl | h
   · omega
   · have:=cL h;omega
theorem kS:∀ {ts:List Th},ts≠[]->∃ t∈ts,t.tall=aC ts
 | [],h=>absurd rfl h
 | [u],_=>⟨u,List.mem_cons_self ..,by rw [aC,aC];omega⟩
 | u::v::ts,_=>by
   obtain ⟨t,h1,h2⟩:=kS (ts:=v::ts) (by simp);rw [aC];by_cases c:aC (v::ts)<=u.tall
   · exact ⟨u,List.mem_cons_self ..,by omega⟩
   · exact ⟨t,List.mem_cons_of_mem _ h1,by omega⟩
theorem lH:∀ ts:List Th,(ts.map fun t=>((t.size:Nat):Int)).sum=((aw ts:Nat):Int)
 | []=>rfl
 | t::ts=>by
   rw [List.map_cons,List.sum_cons,lH ts,aw];omega
theorem rQ (ts:List Th) (f:Th->Int):(ts.map fun t=>V.int (f t))=(ts.map f).map V.int:=by rw [List.map_map];rfl
theorem iO {xs:List V} {n:Nat} (h:n<=xs.length):cW xs (some (n:Int)) none=xs.drop n:=by
 unfold cW;rw [HT.sIx_nat,HT.sIx_none,Nat.min_eq_left h];exact List.take_of_length_le (by rw [List.length_drop];exact Nat.le_refl _)
theorem iC {α:Type} {xs:List α} {n:Nat} {x:α} (h:xs[n]?=some x):xs.take (n+1)=xs.take n++[x]:=by rw [List.take_add_one,h];rfl
theorem bc {xs:List Addr} {i:Nat} {x:V} (h:(xs.map V.ref)[i]?=some x):∃ a,x=.ref a/\xs[i]?=some a:=by
 rw [List.getElem?_map] at h;obtain ⟨a,h1,h2⟩:=Option.map_eq_some_iff.mp h;exact ⟨a,h2.symm,h1⟩
end BB
namespace PySem
open Sem (wp)
section
variable {prog:Program} {w:World} {A:Around} {E:Value->Shared->Prop} {s:Shared}
theorem bb_tupNext {cur tp:Addr} {i:Nat} {items:Array Value} {x:Value} {Q:Value->Shared->Prop} (g:s.heap.IsTupleIter cur tp i) (gt:s.heap.IsTuple tp items) (hx:items[i]?=some x)
 (fin:∀ h',h'.IsTupleIter cur tp (i+1)->Heap.SameBut cur s.heap h'->Q x { s with heap:=h' }):wpAny (model prog w) A (Builtin.SmallTypes.nextOf (.ref cur)) Q E s:=by
 obtain ⟨ob,e1,e2,e3⟩:=id g;obtain ⟨ot,e4,_,nt,e5⟩:=gt;unfold Builtin.SmallTypes.nextOf;refine wpAny_bind (wpAny_callSpecial?_slot (name:=Str.ofString "__next__") g.typeIs F.slot_tuple_iterator_next (wpAny_call_entry F.slot_tuple_iterator_next g.typeIs F.entry_tuple_iterator_next ?_ (F.args_tuple_iterator_next_1 _)));show wpAny _ _ (field (.ref cur) 0 >>= _) _ _ s;refine wpAny_bind (wpAny_field e1 e3 (x:=.ref tp) rfl ?_);show wpAny _ _ (if (Value.ref tp == Value.none)=true then _ else _) _ _ s;rw [if_neg (show ¬ ((Value.ref tp == Value.none)=true) from Bool.false_ne_true)];show wpAny _ _ (field (.ref cur) 1 >>= _) _ _ s;refine wpAny_bind (wpAny_field e1 e3 (x:=.int i 0) rfl ?_);show wpAny _ _ (seqItems? (.ref tp) >>= _) _ _ s;refine wpAny_bind (wpAny_seqItems e4 e5 ?_);simp only [Int.toNat_natCast,hx];refine wpAny_bind (wpAny_setField e1 e3 (by simp) (wpAny_pure ⟨x,rfl,wpAny_pure (fin _ ?_ (Heap.SameBut.update ..))⟩));exact ⟨_,Heap.get?_update_self _ e1 (Obj.isFreed_of_fields (Obj.data_mapFields e3 _)),(Obj.cls_mapFields ..).trans e2,by rw [Obj.data_mapFields e3];simp [rawInt]⟩
theorem bb_tupEnd {cur tp:Addr} {i:Nat} {items:Array Value} {Q:Value->Shared->Prop} (calm:A.handled=none) (g:s.heap.IsTupleIter cur tp i) (gt:s.heap.IsTuple tp items) (hx:items[i]?=none)
 (fin:∀ h' e,Heap.ExtBut cur s.heap h'->(∃ o,h'.get? e=some o/\o.cls=.type "StopIteration")->E (.ref e) { s with heap:=h' }):wpAny (model prog w) A (Builtin.SmallTypes.nextOf (.ref cur)) Q E s:=by
 obtain ⟨ob,e1,e2,e3⟩:=id g;obtain ⟨ot,e4,_,nt,e5⟩:=gt;unfold Builtin.SmallTypes.nextOf;refine wpAny_bind (wpAny_callSpecial?_slot (name:=Str.ofString "__next__") g.typeIs F.slot_tuple_iterator_next (wpAny_call_entry F.slot_tuple_iterator_next g.typeIs F.entry_tuple_iterator_next ?_ (F.args_tuple_iterator_next_1 _)));show wpAny _ _ (field (.ref cur) 0 >>= _) _ _ s;refine wpAny_bind (wpAny_field e1 e3 (x:=.ref tp) rfl ?_);show wpAny _ _ (if (Value.ref tp == Value.none)=true then _ else _) _ _ s;rw [if_neg (show ¬ ((Value.ref tp == Value.none)=true) from Bool.false_ne_true)];show wpAny _ _ (field (.ref cur) 1 >>= _) _ _ s;refine wpAny_bind (wpAny_field e1 e3 (x:=.int i 0) rfl ?_);show wpAny _ _ (seqItems? (.ref tp) >>= _) _ _ s;refine wpAny_bind (wpAny_seqItems e4 e5 ?_);simp only [Int.toNat_natCast,hx];refine wpAny_bind (wpAny_rule (wpAny_bind (wpAny_setField e1 e3 (by simp) ?_)));show wpAny _ _ (newExc (.type "StopIteration") [] >>= _) _ _ _;refine wpAny_bind ?_;simp only [newExc,newTuple];refine wpAny_bind (wpAny_newObj_type ?_ (by size_fits));refine wpAny_bind (m:=firstArgMember _ _) (wpAny_of_eq (a:=Value.none) (by first | rfl | (simp only [firstArgMember];rfl)) ?_);refine wpAny_newObj_type ?_ (by size_fits);simp only [raiseNew];refine wpAny_bind (wpAny_handled ?_)
 first | rw [show A.in1.handled=none from calm] | rw [calm]
 refine wpAny_bind (wpAny_pure (wpAny_throw ?_));exact fin _ _ (((Heap.SameBut.update ..).extBut.push _).push _) ⟨_,Heap.get?_push_size _ rfl,rfl⟩
end
theorem bb_drawsT {prog:Program} {w:World} {A:Around} (calm:A.handled=none) (cur tp:Addr) (ne:tp≠cur) (items:Array Value) :
 Draws prog w A cur [cur,tp] items.size (fun i v=>items[i]?=some v) (fun i h=>h.IsTupleIter cur tp i/\h.IsTuple tp items) where
 live:=fun _ _ st=>let ⟨o,e,_⟩:=st.1;⟨o,e⟩
 frame:=fun _ _ _ st k=>⟨let ⟨o,e,r⟩:=st.1;⟨o,k cur (by simp) o e,r⟩,let ⟨o,e,r⟩:=st.2;⟨o,k tp (by simp) o e,r⟩⟩
 item:=fun i s Q E hi st q=>by
  refine bb_tupNext st.1 st.2 (x:=items[i]) (by simp [hi]) fun h' g' sb=>?_;exact q _ h' s.toks (by simp [hi]) ⟨g',st.2.extBut sb.extBut ne⟩ sb
 done:=fun s Q E st e=>bb_tupEnd calm st.1 st.2 (by simp) e
theorem bb_meetsEnumT (tp:Addr) (items:Array Value) (n:Nat) (dct:Option Addr) (sl:Array (Option Value)) :
 Meets (Builtin.«enumerate.__new__» ⟨[.type "enumerate",.ref tp],[]⟩) (fun _ R s=>s.heap.get? tp=some { cls:=.type "tuple",dict:=dct,data:=.seq items n,slots:=sl } ∧
  R (.ok (.ret (.ref (s.heap.push { cls:=.type "tuple_iterator",data:=.fields #[.ref tp,.int 0 0] }).objs.size)))
    { s with heap:=(s.heap.push { cls:=.type "tuple_iterator",data:=.fields #[.ref tp,.int 0 0] }).push { cls:=.type "enumerate",data:=.fields #[.none,.bool false,.ref s.heap.objs.size,rawInt 0,.none,.none] } }) :=
 .of_wp fun prog w A R s h=>by
  obtain ⟨hp,g,d,tk,os⟩:=s;obtain ⟨gt,fin⟩:=h;have su:=sub_enumerate;have gT:Heap.IsTuple (Shared.heap ⟨hp,g,d,tk,os⟩) tp items:=⟨_,gt,rfl,n,rfl⟩
  wp_walk using AutoSeq1.wpAny_loadPart' gt
  refine wpAny_stack_any fun st=>wpAny_pure ?_;split
  · rename_i c _ _ _ _ _
    cases (c == Value.type "enumerate")
    · wp_walk using AutoSeq1.wpAny_loadPart' gt,wpAny_pyIter_tuple gT
      exact ⟨_,rfl,fin⟩
    · wp_walk using AutoSeq1.wpAny_loadPart' gt,wpAny_pyIter_tuple gT
      exact ⟨_,rfl,fin⟩
  · wp_walk using AutoSeq1.wpAny_loadPart' gt,wpAny_pyIter_tuple gT
    exact ⟨_,rfl,fin⟩
section
variable {prog:Program} {w:World} {A:Around} {E:Value->Shared->Prop} {s:Shared}
theorem bb_callEnumT {tp:Addr} {items:Array Value} {Q:Value->Shared->Prop} (gT:s.heap.IsTuple tp items)
 (fin:∀ h',IsEnum h' (s.heap.objs.size+1) s.heap.objs.size 0 .none->h'.IsTupleIter s.heap.objs.size tp 0->h'.objs.size=s.heap.objs.size+2 →
  (∀ b o,s.heap.get? b=some o->h'.get? b=some o)->Q (.ref (s.heap.objs.size+1)) { s with heap:=h' }):wpAny (model prog w) A (call (.type "enumerate") [.ref tp]) Q E s:=by
 obtain ⟨⟨c,dct,dt,sl⟩,e1,e2,n,e3⟩:=gT;replace e2:c=.type "tuple":=e2;replace e3:dt=.seq items n:=e3;subst e2 e3;refine callType_new F.called_enumerate (by decide) (F.typeCall_enumerate_1 _) (F.newCall_enumerate_1 _) (fun obj=>F.args_object_init_2 obj _) F.entry_enumerate_new (bb_meetsEnumT tp items n dct sl) ⟨e1,?_⟩;have z:(s.heap.push { cls:=.type "tuple_iterator",data:=.fields #[.ref tp,.int 0 0] }).objs.size=s.heap.objs.size+1:=Heap.size_push ..;show _/\_;rw [z]
 have ge:IsEnum ((s.heap.push { cls:=.type "tuple_iterator",data:=.fields #[.ref tp,.int 0 0] }).push { cls:=.type "enumerate",data:=.fields #[.none,.bool false,.ref s.heap.objs.size,rawInt 0,.none,.none] }) (s.heap.objs.size+1) s.heap.objs.size 0 .none:=by
  have t:=Heap.get?_push_size (s.heap.push { cls:=.type "tuple_iterator",data:=.fields #[.ref tp,.int 0 0] }) (o:={ cls:=.type "enumerate",data:=.fields #[.none,.bool false,.ref s.heap.objs.size,rawInt 0,.none,.none] }) rfl;rw [z] at t;exact t
 exact ⟨⟨_,ge,rfl⟩,fin _ ge ⟨_,Heap.get?_push_of_some _ (Heap.get?_push_size _ rfl),rfl,rfl⟩ (by rw [Heap.size_push,z]) fun b o x=>Heap.get?_push_of_some _ (Heap.get?_push_of_some _ x)⟩
end
end PySem
namespace L2
open PySem PySem.Spec PyProof.Rows
theorem Inv.turnedL {X:Cx} {pins:List (Addr×Obj)} {σ:St} {H:Hp} {s:Shared} {h':Heap} {t':Nat} {fp:List Addr} (I:Inv X pins σ H s) (k:∀ b o,b∉fp->s.heap.get? b=some o->h'.get? b=some o) (hf:∀ b∈fp,jh X pins H b) :
 Inv X pins σ H { s with heap:=h',toks:=t' }:=by
 have nit:∀ b u,H b=some u->b∉fp:=fun b u e z=>by rw [(hf b z).1] at e;cases e
 refine I.step (g':=s.gens) (d':=s.drawn) (ch:=fp) (fun b hb=>?_) (fun b o _ _ hc e _=>k b o hc e) (fun b o _ _ hc e _=>⟨o.slots,k b o hc e⟩) (fun _ _ _ _ n=>n)
  (fun b o hc e=>⟨o,k b o hc e⟩) (fun _ _ e=>e) (fun _ _ _ e=>e) (fun b ps e=>⟨#[],by rw [e];simp⟩) (fun m hm=>?_) (fun b u e=>?_) I.bare
 · obtain ⟨f0,f1,f2,f3,f4,f5⟩:=hf b hb;exact ⟨f3,f1,f4,f5⟩
 · obtain ⟨o,es,ep,ho,r⟩:=hm;exact ⟨o,es,ep,k _ o (fun z=>(hf _ z).2.1 rfl) ho,r⟩
 · refine (I.hok b u e).stay (fun c v hc q=>k c v ?_ q) (fun _ q=>q) fun _ _ q=>q;rcases hc with z | z
   · rw [z];exact nit b u e
   · exact nit c _ z
def Ite (K:PySem.W.Frag) (a:Addr):It:=⟨fun i H=>∃ xs x,SqT K H a xs/\xs[i]?=some x,fun i H x H'=>∃ p y,H p=none/\x=.ref p/\H'=upd H p (.tup [.int (i:Nat),y])/\∀ xs,SqT K H a xs->xs[i]?=some y,fun i H=>∃ xs,SqT K H a xs/\xs.length=i⟩
theorem qe {P:Program} {w:World} {K:PySem.W.Frag} {elts:List Expr} {k1} {pos:Pos} (a e it:Addr):iG P w K (.Tuple elts k1 pos) (Ite K a) [e,it] e (fun i h=>(∃ old,IsEnum h e it ((i:Nat):Int) old)/\h.IsTupleIter it a i) where
 mem:=by simp
 obj:=fun i h st b hb=>by
  obtain ⟨⟨old,he⟩,o,e1,e2,e3⟩:=st;rcases List.mem_cons.mp hb with rfl | hb
  · exact ⟨_,he,fun v z=>by cases z⟩
  · have:b=it:=by simpa using hb
    subst this;exact ⟨o,e1,fun v z=>by rw [e3] at z;cases z⟩
 keep:=fun i h h' st k=>by
  obtain ⟨⟨old,he⟩,o,e1,e2⟩:=st;exact ⟨⟨old,k e (by simp) _ he⟩,o,k it (by simp) _ e1,e2⟩
 item:=by
  intro X hP hw hK hc i pins s σ H E I hf st hg;subst hP hw hK;obtain ⟨xs,x,hq,hx⟩:=hg;obtain ⟨its,rv,p,hz⟩:=I.tuple hq;obtain ⟨u,hu,ru⟩:=rv.get hx;obtain ⟨⟨old,he⟩,hi⟩:=st
  have hei:e≠it:=by
   rintro rfl;obtain ⟨o,e1,e2,_⟩:=hi;rw [he] at e1;cases e1;exact absurd (Value.type.inj e2) (by decide)
  have hai:a≠it:=by
   rintro rfl;obtain ⟨o,e1,e2,_⟩:=hi;obtain ⟨o',e1',e2',_⟩:=p;rw [e1'] at e1;cases e1;rw [e2'] at e2;exact absurd (Value.type.inj e2) (by decide)
  have hae:a≠e:=by
   rintro rfl;obtain ⟨o',e1',e2',_⟩:=p;rw [he] at e1';cases e1';exact absurd (Value.type.inj e2') (by decide)
  have hlt:i<its.toArray.size:=by
   have:=(List.getElem?_eq_some_iff.mp hu).1;simpa using this
  have hel:e<s.heap.objs.size:=Heap.lt_size he;have hil:it<s.heap.objs.size:=by obtain ⟨o,e1,_⟩:=hi;exact Heap.lt_size e1
  refine wpAny_pyNext_enum_itemD (bb_drawsT (A:=X.A.in1) (show X.A.in1.handled=none from I.ok.hd hc) it a hai its.toArray) he ⟨hi,p⟩ hlt hei (by simp [hei,hae.symm]) fun y h1 tk hy ho st1 hT hsz hk=>?_
  have hyu:y=u:=by
   have:its[i]?=some y:=by simpa using hy
   rw [hu] at this;exact (Option.some.inj this).symm
  subst hyu;refine ⟨_,rfl,wpAny_letOwnedTupleGo_enum ho fun h2 he2 sb2=>?_⟩;replace sb2:Heap.SameBut e h1 h2:=sb2
  have hne:∀ b∈[e,it],b<s.heap.objs.size:=fun b hb=>by
   rcases List.mem_cons.mp hb with rfl | hb
   · exact hel
   · have:b=it:=by simpa using hb
     subst this;exact hil
  have hHn:H s.heap.objs.size=none:=I.hok.fresh (Nat.le_refl _)
  have IA:Inv X pins σ (upd H s.heap.objs.size (.tup [.int (i:Nat),x])) { s with heap:=s.heap.push { cls:=.type "tuple",data:=.seq #[.int (i:Nat) tk,y] },toks:=tk } :=
   I.laid (o:=.tup [.int (i:Nat),x]) (fun b ob q=>Heap.get?_push_of_some _ q) (Nat.le_refl _) ⟨by show 2<=sizeLine;decide,[.int (i:Nat) tk,y],0,.cons ⟨tk,rfl⟩ (.cons ru .nil),Heap.get?_push_size _ rfl⟩
  refine ⟨.ref s.heap.objs.size,upd H s.heap.objs.size (.tup [.int (i:Nat),x]),?_,rfl,⟨_,x,hHn,rfl,rfl,fun ys hys=>by rw [I.tuple_inj hys hq];exact hx⟩,⟨⟨y,by simpa using he2⟩,?_⟩,fun b hb=>?_⟩
  · have IB:Inv X pins σ (upd H s.heap.objs.size (.tup [.int (i:Nat),x])) { s with heap:=h2,toks:=tk+1 }:=by
     refine Inv.turnedL (s:={ s with heap:=s.heap.push { cls:=.type "tuple",data:=.seq #[.int (i:Nat) tk,y] },toks:=tk }) (h':=h2) (fp:=[e,it]) (t':=tk+1) IA (fun b o hb q=>?_) fun b hb=>?_
     · have hbe:b≠e:=fun z=>hb (by simp [z]);have hbi:b≠it:=fun z=>hb (by simp [z]);rw [sb2.2 b hbe];by_cases hb2:b=s.heap.objs.size
       · subst hb2;rw [hT];have q':(s.heap.push { cls:=.type "tuple",data:=.seq #[.int (i:Nat) tk,y] }).get? s.heap.objs.size=some o:=q;rw [Heap.get?_push_size _ rfl] at q';exact q'
       · have hbl:b<(s.heap.push { cls:=.type "tuple",data:=.seq #[.int (i:Nat) tk,y] }).objs.size:=Heap.lt_size q;rw [Heap.size_push] at hbl;refine hk b o hbe hbi ?_;have q':(s.heap.push { cls:=.type "tuple",data:=.seq #[.int (i:Nat) tk,y] }).get? b=some o:=q;rw [Heap.get?_push_ne _ _ _ hb2] at q';exact q'
     · obtain ⟨f0,f1⟩:=hf b hb;exact ⟨by rw [ae (Nat.ne_of_lt (hne b hb))];exact f0,f1⟩
    exact IB
  · obtain ⟨o,e1,r⟩:=st1.1;exact ⟨o,(sb2.2 it (Ne.symm hei)).trans e1,r⟩
  · rw [ae (Nat.ne_of_lt (hne b hb))];exact (hf b hb).1
 done:=by
  intro X hP hw hK hc i pins s σ H E I hf st hg;subst hP hw hK;obtain ⟨xs,hq,hx⟩:=hg;obtain ⟨its,rv,p,hz⟩:=I.tuple hq;obtain ⟨⟨old,he⟩,hi⟩:=st
  have hai:a≠it:=by
   rintro rfl;obtain ⟨o,e1,e2,_⟩:=hi;obtain ⟨o',e1',e2',_⟩:=p;rw [e1'] at e1;cases e1;rw [e2'] at e2;exact absurd (Value.type.inj e2) (by decide)
  have hn:its.toArray.size=i:=by
   have:=rv.length;rw [List.size_toArray];omega
  refine wpAny_pyNext_enum_endD (bb_drawsT (A:=X.A.in1) (show X.A.in1.handled=none from I.ok.hd hc) it a hai its.toArray) he (by rw [hn];exact ⟨hi,p⟩) fun h' eb=>⟨rfl,?_⟩;exact I.turnedL (fp:=[e,it]) (t':=s.toks) (fun b o hb q=>eb b o (fun z=>hb (by simp [z])) q) hf
 self:=fun _ _ _ _ _ st h=>by
  obtain ⟨⟨old,he⟩,_⟩:=st;exact wpAny_pyIter_enum he h
section
variable {X:Cx} {e:Expr} {te:TE} {p2 pos2:Pos}
def vg (K:PySem.W.Frag) (tl:TE):TI:=fun σ H R=>tl σ H fun x H1=>∃ a,x=.ref a/\(∃ xs,SqT K H1 a xs)/\R (Ite K a) H1
theorem o0 {elts:List Expr} {k1} {pos:Pos} (g2:Gl X "enumerate") (m2:X.mg "enumerate"=none) (he:PE X e te) (h2:starEach [e] X.env=[(false,eval e X.env)]:=by rfl):PI X (.Tuple elts k1 pos) (.Call (.Name "enumerate" p2) [e] [] pos2) (vg X.K te):=by
 intro pins s σ H R I h;refine wpAny_Call_Name_kw (fH I g2 m2 boot_enumerate (PyProof.Rows.callWith_type1 ?_ h2 rfl));rw [h2];show wpAny _ _ (spliced ((false,eval e X.env)::[])) _ _ s;refine Calls.spliced_cons (thn (he pins s σ H _ I h) fun u s1 ⟨x,H1,I1,r1,a,ex,⟨xs,hq⟩,q⟩=>Calls.spliced_nil ?_);subst ex;cases r1;obtain ⟨its,rv,p,hz⟩:=I1.tuple hq;refine bb_callEnumT (show s1.heap.IsTuple a its.toArray from p) fun h' g1 g2 g3 g4=>?_;refine wpAny_pyIter_enum (s:={ s1 with heap:=h' }) g1 ?_;refine ⟨s1.heap.objs.size+1,[s1.heap.objs.size+1,s1.heap.objs.size],_,_,H1,rfl,I1.kept (t':=s1.toks) g4,qe a _ _,⟨⟨_,g1⟩,g2⟩,fun b hb=>?_,q⟩
 have hb':s1.heap.objs.size<=b:=by
  rcases List.mem_cons.mp hb with rfl | hb
  · omega
  · have:b=s1.heap.objs.size:=by simpa using hb
    exact Nat.le_of_eq this.symm
 exact I1.fpOk hb' (I1.hok.fresh hb')
inductive rT (K:PySem.W.Frag) (x:V) (y:V) (H:Hp) (Q:VK):Prop
 | mk (a:_) (b:_) (xs:_) (ys:_) (zz0:x=.ref a) (zz1:y=.ref b) (zz2:SqT K H a xs) (zz3:SqT K H b ys) (zz4:xs.length+ys.length<=sizeLine) (zz5:(xs=[]->Q (.ref b) H)) (zz6:(xs≠[]->ys=[]->Q (.ref a) H)) (zz7:(xs≠[]->ys≠[]->∀ p,H p=none->Q (.ref p) (upd H p (.tup (xs++ys))))):rT K x y H Q
def qK (K:PySem.W.Frag):R2:=rT K
theorem fS:OpR X (binaryOp .Add) (qK X.K):=by
 intro pins s σ H x y v u Q I rx ry h;obtain ⟨a,b,xs,ys,e1,e2,ha,hb,hz,q0,q1,q2⟩:=h;by_cases hx:xs=[]
 · subst e1 e2;cases rx;cases ry;obtain ⟨its,r1,p1,_⟩:=I.tuple ha;obtain ⟨its2,r2,p2,_⟩:=I.tuple hb;have hi:its=[]:=r1.nil_iff.mpr hx;obtain ⟨⟨cls,dd,data,sl⟩,ho,hc,n,hd⟩:=p1;obtain ⟨⟨cls2,dd2,data2,sl2⟩,ho2,hc2,n2,hd2⟩:=p2;simp only at hc hd hc2 hd2;subst hc hd hc2 hd2;exact concat_meets ⟨_,ho,rfl⟩ ⟨_,ho2,rfl⟩ noFill_tuple_add seq_tuple_add PySem.F.slot_tuple_add PySem.F.entry_tuple_add (PySem.F.args_tuple_add_2 _ _) (tuple_addW0 a b its.toArray its2.toArray n n2 dd dd2 sl sl2 (by simp [hi])) ⟨ho,ho2,⟨.ref b,H,I,rfl,q0 hx⟩⟩
 · exact sW pins s σ H x y v u Q I rx ry ⟨a,b,xs,ys,e1,e2,ha,hb,hx,hz,q1 hx,q2 hx⟩
end
end L2
namespace PySem
open Sem (wp)
abbrev tzH1 (h:Heap) (l1:Addr):Heap:=h.push { cls:=.type "tuple_iterator",data:=.fields #[.ref l1,.int 0 0] }
abbrev tzH2 (h:Heap) (l1 l2:Addr):Heap:=(tzH1 h l1).push { cls:=.type "tuple_iterator",data:=.fields #[.ref l2,.int 0 0] }
abbrev tzH3 (h:Heap) (l1 l2:Addr):Heap:=(tzH2 h l1 l2).push { cls:=.type "tuple",data:=.seq #[.ref h.objs.size,.ref (tzH1 h l1).objs.size] }
abbrev tzH4 (h:Heap) (l1 l2:Addr):Heap:=(tzH3 h l1 l2).push { cls:=.type "tuple",data:=.seq #[.none,.none] }
abbrev tzH5 (h:Heap) (l1 l2:Addr):Heap:=(tzH4 h l1 l2).push { cls:=.type "zip",data:=.fields #[.none,.bool false,.bool false,.ref (tzH2 h l1 l2).objs.size,.ref (tzH3 h l1 l2).objs.size] }
theorem IsTuple.push' {h:Heap} {l:Addr} {xs:Array Value} (x:h.IsTuple l xs) (o:Obj):(h.push o).IsTuple l xs:=let ⟨ob,e,r⟩:=x;⟨ob,Heap.get?_push_of_some _ e,r⟩
theorem bb_meets_zip (l1 l2:Addr) (xs ys:Array Value) :
 Meets (Builtin.«zip.__new__» ⟨[.type "zip",.ref l1,.ref l2],[]⟩) (fun _ R s=>s.heap.IsTuple l1 xs/\s.heap.IsTuple l2 ys ∧
  R (.ok (.ret (.ref (tzH4 s.heap l1 l2).objs.size))) { s with heap:=tzH5 s.heap l1 l2 }) :=
 .of_wp fun prog w A R s h=>by
  obtain ⟨hp,g,d,tk,os⟩:=s;obtain ⟨hl1,hl2,h⟩:=h;have hsub:=sub_zip;have hL1:Heap.IsTuple (Shared.heap ⟨hp,g,d,tk,os⟩) l1 xs:=hl1;have hL2:Heap.IsTuple (Shared.heap ⟨hp.push { cls:=.type "tuple_iterator",data:=.fields #[.ref l1,.int 0 0] },g,d,tk,os⟩) l2 ys:=IsTuple.push' hl2 _
  wp_walk using wpAny_pyIter_tuple hL1,wpAny_pyIter_tuple hL2
  exact ⟨_,rfl,h⟩
section
variable {prog:Program} {w:World} {A:Around} {E:Value->Shared->Prop} {s:Shared}
theorem bb_call_zip {l1 l2:Addr} {xs ys:Array Value} {Q:Value->Shared->Prop} (hl1:s.heap.IsTuple l1 xs) (hl2:s.heap.IsTuple l2 ys)
 (h:∀ h',IsZip h' (s.heap.objs.size+4) (s.heap.objs.size+2) (s.heap.objs.size+3) .none->IsPair h' (s.heap.objs.size+2) (.ref s.heap.objs.size) (.ref (s.heap.objs.size+1)) →
  IsPair h' (s.heap.objs.size+3) .none .none->h'.IsTupleIter s.heap.objs.size l1 0->h'.IsTupleIter (s.heap.objs.size+1) l2 0->h'.objs.size=s.heap.objs.size+5 →
  (∀ c o,s.heap.get? c=some o->h'.get? c=some o)->Q (.ref (s.heap.objs.size+4)) { s with heap:=h' }) :
 wpAny (model prog w) A (call (.type "zip") [.ref l1,.ref l2]) Q E s:=by
 refine callType_new F.called_zip (by decide) (F.typeCall_zip_2 _ _) (F.newCall_zip_2 _ _) (fun obj=>F.args_object_init_3 obj _ _) F.entry_zip_new
  (bb_meets_zip l1 l2 xs ys) ⟨hl1,hl2,?_⟩
 have z1:(tzH1 s.heap l1).objs.size=s.heap.objs.size+1:=Heap.size_push ..;have z2:(tzH2 s.heap l1 l2).objs.size=s.heap.objs.size+2:=by rw [Heap.size_push,z1]
 have z3:(tzH3 s.heap l1 l2).objs.size=s.heap.objs.size+3:=by rw [Heap.size_push,z2]
 have z4:(tzH4 s.heap l1 l2).objs.size=s.heap.objs.size+4:=by rw [Heap.size_push,z3]
 have z5:(tzH5 s.heap l1 l2).objs.size=s.heap.objs.size+5:=by rw [Heap.size_push,z4]
 have g5:(tzH5 s.heap l1 l2).get? (tzH4 s.heap l1 l2).objs.size=some _:=Heap.get?_push_size _ rfl;have g4:(tzH5 s.heap l1 l2).get? (tzH3 s.heap l1 l2).objs.size=some _:=Heap.get?_push_of_some _ (Heap.get?_push_size _ rfl);have g3:(tzH5 s.heap l1 l2).get? (tzH2 s.heap l1 l2).objs.size=some _:=Heap.get?_push_of_some _ (Heap.get?_push_of_some _ (Heap.get?_push_size _ rfl));have g2:(tzH5 s.heap l1 l2).get? (tzH1 s.heap l1).objs.size=some _:=Heap.get?_push_of_some _ (Heap.get?_push_of_some _ (Heap.get?_push_of_some _ (Heap.get?_push_size _ rfl)));have g1:(tzH5 s.heap l1 l2).get? s.heap.objs.size=some _:=Heap.get?_push_of_some _ (Heap.get?_push_of_some _ (Heap.get?_push_of_some _ (Heap.get?_push_of_some _ (Heap.get?_push_size _ rfl))));show _/\_;rw [z2,z3,z4] at g5;rw [z1,z2] at g3;rw [z3] at g4;rw [z1] at g2;rw [z4]
 exact ⟨⟨_,g5,rfl⟩,h _ g5 g3 g4 ⟨_,g1,rfl,rfl⟩ ⟨_,g2,rfl,rfl⟩ z5 fun c o x =>
  Heap.get?_push_of_some _ (Heap.get?_push_of_some _ (Heap.get?_push_of_some _ (Heap.get?_push_of_some _ (Heap.get?_push_of_some _ x))))⟩
structure ZSt (xs ys:Array Value) (z TI TO i1 i2 l1 l2:Addr) (k:Nat) (h:Heap):Prop where
 ap:ZipApart z TI TO i1 i2 l1 l2
 zip:IsZip h z TI TO .none∨∃ (T:Addr) (b:Bool) (x y:Value),h.get? z=some { cls:=.type "zip",data:=.fields #[rawInt T,.bool b,.bool false,.ref TI,.ref TO] }/\IsPair h T x y/\T≠TO
 hTI:IsPair h TI (.ref i1) (.ref i2)
 hTO:∃ a b,IsPair h TO a b
 h1:h.IsTupleIter i1 l1 k
 h2:h.IsTupleIter i2 l2 k
 t1:h.IsTuple l1 xs
 t2:h.IsTuple l2 ys
theorem ZSt.typeIs {xs ys:Array Value} {z TI TO i1 i2 l1 l2:Addr} {k:Nat} (x:ZSt xs ys z TI TO i1 i2 l1 l2 k s.heap):s.TypeIs (.ref z) "zip":=by
 rcases x.zip with e | ⟨T,b,u,v,e,_⟩
 · exact ⟨_,e,rfl⟩
 · exact ⟨_,e,rfl⟩
theorem IsTuple.but {h h':Heap} {c l:Addr} {xs:Array Value} (x:h.IsTuple l xs) (e:Heap.ExtBut c h h') (n:l≠c):h'.IsTuple l xs:=let ⟨ob,q,r⟩:=x;⟨ob,e _ _ n q,r⟩
theorem IsTupleIter.but {h h':Heap} {c i l:Addr} {k:Nat} (x:h.IsTupleIter i l k) (e:Heap.ExtBut c h h') (n:i≠c):h'.IsTupleIter i l k:=let ⟨ob,q,r⟩:=x;⟨ob,e _ _ n q,r⟩
end
end PySem
namespace PySem
open Sem (wp)
section
variable {prog:Program} {w:World} {A:Around} {E:Value->Shared->Prop} {s:Shared}
theorem bb_zip_itemA {z TI TO i1 i2 l1 l2:Addr} {k:Nat} {xs ys:Array Value} {x y a b:Value} {Q:Value->Shared->Prop} (D:ZipApart z TI TO i1 i2 l1 l2)
 (hz:IsZip s.heap z TI TO .none) (hTI:IsPair s.heap TI (.ref i1) (.ref i2)) (hTO:IsPair s.heap TO a b)
 (h1:s.heap.IsTupleIter i1 l1 k) (h2:s.heap.IsTupleIter i2 l2 k) (hl1:s.heap.IsTuple l1 xs) (hl2:s.heap.IsTuple l2 ys) (hx:xs[k]?=some x) (hy:ys[k]?=some y)
 (hQ:∀ h',IsZip h' z TI TO (rawInt s.heap.objs.size)->IsPair h' TO x y->h'.IsTupleIter i1 l1 (k+1)->h'.IsTupleIter i2 l2 (k+1)->IsPair h' s.heap.objs.size x y->h'.objs.size=s.heap.objs.size+1 →
  (∀ c o,c≠z->c≠TO->c≠i1->c≠i2->s.heap.get? c=some o->h'.get? c=some o)->Q (.ref s.heap.objs.size) { s with heap:=h' }) :
 wpAny (model prog w) A (Builtin.«zip.__next__» ⟨[.ref z],[]⟩) (fun fin s'=>∃ v,fin=.done (.ret v)/\Q v s') E s:=by
 show wpAny _ _ (field (.ref z) 2 >>= _) _ _ _;refine wpAny_bind (wpAny_field hz rfl (x:=.bool false) rfl ?_);show wpAny _ _ (field (.ref z) 3 >>= _) _ _ _;refine wpAny_bind (wpAny_field hz rfl (x:=.ref TI) rfl ?_);refine wpAny_bind (wpAny_seqItems hTI rfl ?_);show wpAny _ _ (Builtin.SmallTypes.ownedTupleIsFree (.ref z) >>= _) _ _ _;refine wpAny_bind ?_;unfold Builtin.SmallTypes.ownedTupleIsFree;refine wpAny_bind (wpAny_field hz rfl (x:=.none) rfl (wpAny_pure ?_));simp only [if_true];refine wpAny_bind (wpAny_rule ?_);refine wpAny_bind (wpAny_field hz rfl (x:=.ref TO) rfl ?_);refine wpAny_bind (wpAny_setField_rec hz (by simp) fun h₁ hz₁ hs₁=>?_);replace hz₁:IsZip h₁ z TI TO .ellipsis:=hz₁;refine wpAny_bind ?_;simp only [List.zipIdx_cons,List.zipIdx_nil,List.forIn_cons,List.forIn_nil];refine wpAny_bind (wpAny_bind (wpAny_onRaise ?_));show wpAny _ _ (Builtin.SmallTypes.nextOf (.ref i1) >>= _) _ _ _;refine wpAny_bind (bb_tupNext (IsTupleIter.but h1 hs₁.extBut D.i1z) (IsTuple.but hl1 hs₁.extBut D.l1z) hx fun h₂ h1₂ hs₂=>wpAny_pure ?_);have hTO₂:IsPair h₂ TO a b:=hs₂.extBut _ _ D.TOi1 (hs₁.extBut _ _ D.TOz hTO);refine wpAny_bind (wpAny_seqItems hTO₂ rfl ?_);refine wpAny_bind (wpAny_updateSeq_pair hTO₂ fun h₃ hTO₃ hs₃=>?_);replace hTO₃:IsPair h₃ TO x b:=hTO₃;refine wpAny_bind (wpAny_letGo (wpAny_pure ?_));refine wpAny_bind (wpAny_bind (wpAny_onRaise ?_));show wpAny _ _ (Builtin.SmallTypes.nextOf (.ref i2) >>= _) _ _ _
 refine wpAny_bind (bb_tupNext (IsTupleIter.but (IsTupleIter.but (IsTupleIter.but h2 hs₁.extBut D.i2z) hs₂.extBut D.i12.symm) hs₃.extBut D.TOi2.symm)
  (IsTuple.but (IsTuple.but (IsTuple.but hl2 hs₁.extBut D.l2z) hs₂.extBut D.l2i1) hs₃.extBut D.l2TO) hy fun h₄ h2₄ hs₄=>wpAny_pure ?_)
 have hTO₄:IsPair h₄ TO x b:=hs₄.extBut _ _ D.TOi2 hTO₃;refine wpAny_bind (wpAny_seqItems hTO₄ rfl ?_);refine wpAny_bind (wpAny_updateSeq_pair hTO₄ fun h₅ hTO₅ hs₅=>?_);replace hTO₅:IsPair h₅ TO x y:=hTO₅;refine wpAny_bind (wpAny_letGo (wpAny_pure (wpAny_pure ?_)));refine wpAny_bind (wpAny_seqItems hTO₅ rfl ?_);refine wpAny_bind (wpAny_newTuple ?_);have hsz:h₅.objs.size=s.heap.objs.size:=by rw [hs₅.1,hs₄.1,hs₃.1,hs₂.1,hs₁.1]
 have hz₅:IsZip h₅ z TI TO .ellipsis:=hs₅.extBut _ _ D.TOz.symm (hs₄.extBut _ _ D.i2z.symm (hs₃.extBut _ _ D.TOz.symm (hs₂.extBut _ _ D.i1z.symm hz₁)))
 have hk₅:∀ c o,c≠z->c≠TO->c≠i1->c≠i2->s.heap.get? c=some o->h₅.get? c=some o:=fun c o c1 c2 c3 c4 e =>
  hs₅.extBut _ _ c2 (hs₄.extBut _ _ c4 (hs₃.extBut _ _ c2 (hs₂.extBut _ _ c3 (hs₁.extBut _ _ c1 e))))
 have h1₅:h₅.IsTupleIter i1 l1 (k+1):=IsTupleIter.but (IsTupleIter.but (IsTupleIter.but h1₂ hs₃.extBut D.TOi1.symm) hs₄.extBut D.i12) hs₅.extBut D.TOi1.symm;have h2₅:h₅.IsTupleIter i2 l2 (k+1):=IsTupleIter.but h2₄ hs₅.extBut D.TOi2.symm;have hzlt:z<h₅.objs.size:=Heap.lt_size hz₅;show wpAny _ _ (Builtin.SmallTypes.ownedTupleHandOut (.ref z) (.ref h₅.objs.size) >>= _) _ _ _;refine wpAny_bind ?_;unfold Builtin.SmallTypes.ownedTupleHandOut;have hz₆:IsZip (h₅.push { cls:=.type "tuple",data:=.seq #[x,y] }) z TI TO .ellipsis:=Heap.get?_push_of_some _ hz₅;refine wpAny_bind (wpAny_setField_rec hz₆ (by simp) fun h₇ hz₇ hs₇=>?_);replace hz₇:IsZip h₇ z TI TO (rawInt h₅.objs.size):=hz₇;refine wpAny_setField_rec hz₇ (by simp) fun h₈ hz₈ hs₈=>?_;replace hz₈:IsZip h₈ z TI TO (rawInt h₅.objs.size):=hz₈;have up:∀ c o,c≠z->h₅.get? c=some o->h₈.get? c=some o:=fun c o c1 e=>hs₈.extBut _ _ c1 (hs₇.extBut _ _ c1 (Heap.get?_push_of_some _ e));have hT₈:IsPair h₈ h₅.objs.size x y:=hs₈.extBut _ _ (Nat.ne_of_gt hzlt) (hs₇.extBut _ _ (Nat.ne_of_gt hzlt) (Heap.get?_push_size _ rfl));have hz8:h₈.objs.size=h₅.objs.size+1:=by rw [hs₈.1,hs₇.1,Heap.size_push]
 rw [hsz] at hz₈ hT₈ hz8;refine wpAny_pure ⟨_,rfl,?_⟩;show Q (.ref h₅.objs.size) _;rw [hsz];refine hQ h₈ hz₈ (up _ _ D.TOz hTO₅) ?_ ?_ hT₈ hz8 fun c o c1 c2 c3 c4 e=>up c o c1 (hk₅ c o c1 c2 c3 c4 e)
 · obtain ⟨o,e,r⟩:=h1₅;exact ⟨o,up _ o D.i1z e,r⟩
 · obtain ⟨o,e,r⟩:=h2₅;exact ⟨o,up _ o D.i2z e,r⟩
theorem bb_loadIfAlive {a:Addr} {o:Obj} {Q:Option Obj->Shared->Prop} (hQ:∀ u,some o=some u->Q (some u) s) (h:s.heap.get? a=some o):wpAny (model prog w) A (loadIfAlive a) Q E s:=by
 intro Γ p hΓ;show Sem.wp _ _ (.loadIfAlive a .pure) _ _ _ _;rw [Sem.wp_loadIfAlive,h];exact hQ o rfl
theorem bb_notfree {z T:Addr} {b:Bool} {f2 TI TO u v:Value} (hz:s.heap.get? z=some { cls:=.type "zip",data:=.fields #[rawInt T,.bool b,f2,TI,TO] }) (hT:IsPair s.heap T u v) :
 wpAny (model prog w) A (Builtin.SmallTypes.ownedTupleIsFree (.ref z)) (fun a s1=>a=false/\∃ h₁,s1={ s with heap:=h₁ }/\h₁.get? z=some { cls:=.type "zip",data:=.fields #[rawInt T,.bool true,f2,TI,TO] }/\Heap.SameBut z s.heap h₁) E s:=by
 unfold Builtin.SmallTypes.ownedTupleIsFree;refine wpAny_bind (wpAny_field hz rfl (x:=rawInt T) rfl ?_);show wpAny _ _ (loadIfAlive (T:Int).toNat >>= _) _ _ _;rw [Int.toNat_natCast];refine wpAny_bind (bb_loadIfAlive (fun o (e:some _=some o)=>?_) hT);cases e;show wpAny _ _ (if (some _:Option Obj).isNone=true then _ else _) _ _ _;rw [if_neg (show ¬ ((some _:Option Obj).isNone=true) from Bool.false_ne_true)];refine wpAny_bind (wpAny_field hz rfl (x:=.bool b) rfl ?_);cases b with
 | true=>exact wpAny_pure ⟨rfl,s.heap,rfl,hz,rfl,fun _ _=>rfl⟩
 | false=>exact wpAny_bind (wpAny_setField_rec hz (by simp) fun h₁ hz₁ hs₁=>wpAny_pure ⟨rfl,h₁,rfl,hz₁,hs₁⟩)
theorem bb_zip_end {z TI TO i1 i2 l1 l2:Addr} {k:Nat} {xs ys:Array Value} {Q:Fin->Shared->Prop} (hh:A.handled=none)
 (S:ZSt xs ys z TI TO i1 i2 l1 l2 k s.heap) (hend:xs[k]?=none∨ys[k]?=none)
 (hE:∀ h' e,(∀ c o,c≠z->c≠TO->c≠i1->c≠i2->s.heap.get? c=some o->h'.get? c=some o)->(∃ o,h'.get? e=some o/\o.cls=.type "StopIteration")->E (.ref e) { s with heap:=h' }) :
 wpAny (model prog w) A (Builtin.«zip.__next__» ⟨[.ref z],[]⟩) Q E s:=by
 obtain ⟨D,hz,hTI,⟨a,b,hTO⟩,h1,h2,hl1,hl2⟩:=S;rcases hz with hz | ⟨T,bb,u,v,hz,hT,hTT⟩
 · show wpAny _ _ (field (.ref z) 2 >>= _) _ _ _;refine wpAny_bind (wpAny_field hz rfl (x:=.bool false) rfl ?_);show wpAny _ _ (field (.ref z) 3 >>= _) _ _ _;refine wpAny_bind (wpAny_field hz rfl (x:=.ref TI) rfl ?_);refine wpAny_bind (wpAny_seqItems hTI rfl ?_);show wpAny _ _ (Builtin.SmallTypes.ownedTupleIsFree (.ref z) >>= _) _ _ _;refine wpAny_bind ?_;unfold Builtin.SmallTypes.ownedTupleIsFree;refine wpAny_bind (wpAny_field hz rfl (x:=.none) rfl (wpAny_pure ?_));simp only [if_true];refine wpAny_bind (wpAny_rule ?_);refine wpAny_bind (wpAny_field hz rfl (x:=.ref TO) rfl ?_);refine wpAny_bind (wpAny_setField_rec hz (by simp) fun h₁ hz₁ hs₁=>?_);replace hz₁:IsZip h₁ z TI TO .ellipsis:=hz₁;refine wpAny_bind ?_;simp only [List.zipIdx_cons,List.zipIdx_nil,List.forIn_cons,List.forIn_nil];refine wpAny_bind (wpAny_bind (wpAny_onRaise ?_));show wpAny _ _ (Builtin.SmallTypes.nextOf (.ref i1) >>= _) _ _ _;cases hx:xs[k]? with
   | none =>
     refine wpAny_bind (bb_tupEnd hh (IsTupleIter.but h1 hs₁.extBut D.i1z) (IsTuple.but hl1 hs₁.extBut D.l1z) hx fun h₂ e hs₂ he=>?_);obtain ⟨oe,hoe,hce⟩:=he;have hz₂:IsZip h₂ z TI TO .ellipsis:=hs₂ _ _ D.i1z.symm hz₁;have hez:e≠z:=fun x=>by subst x;rw [hz₂] at hoe;cases hoe;simp at hce
     refine wpAny_setField_rec hz₂ (by simp) fun h₃ _ hs₃=>hE h₃ e (fun c o c1 _ c3 _ x=>hs₃.extBut _ _ c1 (hs₂ _ _ c3 (hs₁.extBut _ _ c1 x))) ⟨oe,hs₃.extBut _ _ hez hoe,hce⟩
   | some x =>
     have hy:ys[k]?=none:=by rcases hend with h | h;rw [hx] at h;cases h;exact h
     refine wpAny_bind (bb_tupNext (IsTupleIter.but h1 hs₁.extBut D.i1z) (IsTuple.but hl1 hs₁.extBut D.l1z) hx fun h₂ h1₂ hs₂=>wpAny_pure ?_);have hTO₂:IsPair h₂ TO a b:=hs₂.extBut _ _ D.TOi1 (hs₁.extBut _ _ D.TOz hTO);refine wpAny_bind (wpAny_seqItems hTO₂ rfl ?_);refine wpAny_bind (wpAny_updateSeq_pair hTO₂ fun h₃ hTO₃ hs₃=>?_);refine wpAny_bind (wpAny_letGo (wpAny_pure ?_));refine wpAny_bind (wpAny_bind (wpAny_onRaise ?_));show wpAny _ _ (Builtin.SmallTypes.nextOf (.ref i2) >>= _) _ _ _
     refine wpAny_bind (bb_tupEnd hh (IsTupleIter.but (IsTupleIter.but (IsTupleIter.but h2 hs₁.extBut D.i2z) hs₂.extBut D.i12.symm) hs₃.extBut D.TOi2.symm)
      (IsTuple.but (IsTuple.but (IsTuple.but hl2 hs₁.extBut D.l2z) hs₂.extBut D.l2i1) hs₃.extBut D.l2TO) hy fun h₄ e hs₄ he=>?_)
     obtain ⟨oe,hoe,hce⟩:=he;have hz₄:IsZip h₄ z TI TO .ellipsis:=hs₄ _ _ D.i2z.symm (hs₃.extBut _ _ D.TOz.symm (hs₂.extBut _ _ D.i1z.symm hz₁));have hez:e≠z:=fun x=>by subst x;rw [hz₄] at hoe;cases hoe;simp at hce
     refine wpAny_setField_rec hz₄ (by simp) fun h₅ _ hs₅=>hE h₅ e (fun c o c1 c2 c3 c4 x=>hs₅.extBut _ _ c1 (hs₄ _ _ c4 (hs₃.extBut _ _ c2 (hs₂.extBut _ _ c3 (hs₁.extBut _ _ c1 x))))) ⟨oe,hs₅.extBut _ _ hez hoe,hce⟩
 · show wpAny _ _ (field (.ref z) 2 >>= _) _ _ _;refine wpAny_bind (wpAny_field hz rfl (x:=.bool false) rfl ?_);show wpAny _ _ (field (.ref z) 3 >>= _) _ _ _;refine wpAny_bind (wpAny_field hz rfl (x:=.ref TI) rfl ?_);refine wpAny_bind (wpAny_seqItems hTI rfl ?_);show wpAny _ _ (Builtin.SmallTypes.ownedTupleIsFree (.ref z) >>= _) _ _ _;refine wpAny_bind (wpAny_mono (bb_notfree hz hT) (fun a s1 ⟨e1,h₁,e2,hz₁,hs₁⟩=>?_) fun _ _ x=>x);subst e1 e2;simp only [Bool.false_eq_true,if_false];rw [<- Array.forIn_toList];refine wpAny_bind ?_;simp only [List.forIn_cons,List.forIn_nil];refine wpAny_bind (wpAny_bind (wpAny_holding ?_));show wpAny _ _ (Builtin.SmallTypes.nextOf (.ref i1) >>= _) _ _ _;cases hx:xs[k]? with
   | none =>
     refine wpAny_bind (bb_tupEnd hh (IsTupleIter.but h1 hs₁.extBut D.i1z) (IsTuple.but hl1 hs₁.extBut D.l1z) hx fun h₂ e hs₂ he=>?_);exact hE h₂ e (fun c o c1 _ c3 _ x=>hs₂ _ _ c3 (hs₁.extBut _ _ c1 x)) he
   | some x =>
     have hy:ys[k]?=none:=by rcases hend with h | h;rw [hx] at h;cases h;exact h
     refine wpAny_bind (bb_tupNext (IsTupleIter.but h1 hs₁.extBut D.i1z) (IsTuple.but hl1 hs₁.extBut D.l1z) hx fun h₂ h1₂ hs₂=>wpAny_pure (wpAny_pure ?_));refine wpAny_bind (wpAny_bind (wpAny_holding ?_));show wpAny _ _ (Builtin.SmallTypes.nextOf (.ref i2) >>= _) _ _ _;refine wpAny_bind (bb_tupEnd hh (IsTupleIter.but (IsTupleIter.but h2 hs₁.extBut D.i2z) hs₂.extBut D.i12.symm) (IsTuple.but (IsTuple.but hl2 hs₁.extBut D.l2z) hs₂.extBut D.l2i1) hy fun h₄ e hs₄ he=>?_);exact hE h₄ e (fun c o c1 _ c3 c4 x=>hs₄ _ _ c4 (hs₂.extBut _ _ c3 (hs₁.extBut _ _ c1 x))) he
theorem bb_zip_done {z TI TO i1 i2 l1 l2:Addr} {k:Nat} {xs ys:Array Value} {Q:Option Value->Shared->Prop} (hh:A.handled=none) (S:ZSt xs ys z TI TO i1 i2 l1 l2 k s.heap) (hend:xs[k]?=none∨ys[k]?=none)
 (hQ:∀ h',(∀ c o,c∉[z,TO,i1,i2]->s.heap.get? c=some o->h'.get? c=some o)->Q none { s with heap:=h' }):wpAny (model prog w) A (pyNext (.ref z)) Q E s:=by
 have hT:=S.typeIs;unfold pyNext
 refine wpAny_bind (wpAny_attempt (wpAny_callSpecial?_slot (name:=Str.ofString "__next__") hT F.slot_zip_next
  (wpAny_call_entry F.slot_zip_next hT F.entry_zip_next (bb_zip_end hh S hend fun h' e hk he=>?_) (F.args_zip_next_1 _))))
 obtain ⟨o,ho,hc⟩:=he;refine wpAny_bind (wpAny_isInstance (T:="StopIteration") (b:=true) ⟨o,ho,hc⟩ isSubtype_stop ?_);exact wpAny_pure (hQ _ fun c o hc=>hk c o (fun q=>hc (by simp [q])) (fun q=>hc (by simp [q])) (fun q=>hc (by simp [q])) (fun q=>hc (by simp [q])))
end
end PySem
namespace PySem
open Sem (wp)
namespace F
end F
section
variable {prog:Program} {w:World} {A:Around} {R:Result->Shared->Prop}
end
section
variable {prog:Program} {w:World} {A:Around} {E:Value->Shared->Prop} {s:Shared}
end
end PySem
namespace L2
open PySem PySem.Spec PyProof.Rows
section
variable {X:Cx} {e1 e2:Expr} {t:TA} {p p2 pos pos2:Pos}
end
end L2
namespace L2
open PySem PySem.Spec PyProof.Rows
section
variable {κ:Type} [DecidableEq κ]
def aQ (kvs:List (κ×V)) (k:κ):Option V:=(kvs.find? fun kv=>decide (kv.1=k)).map (·.2)
def bj (kvs:List (κ×V)) (k:κ) (v:V):List (κ×V) :=
 if (kvs.any fun kv=>decide (kv.1=k))=true then kvs.map (fun kv=>if kv.1=k then (kv.1,v) else kv) else kvs++[(k,v)]
theorem bA {p:κ×V} {r:List (κ×V)} {k:κ} (e:p.1=k):aQ (p::r) k=some p.2:=by simp [aQ,List.find?_cons,e]
theorem bH {p:κ×V} {r:List (κ×V)} {k:κ} (e:¬ p.1=k):aQ (p::r) k=aQ r k:=by simp [aQ,List.find?_cons,e]
theorem fx (k:κ):∀ kvs:List (κ×V),(kvs.any fun kv=>decide (kv.1=k))=(aQ kvs k).isSome
 | []=>rfl
 | p::r=>by
   rw [List.any_cons];by_cases e:p.1=k
   · simp only [bA e,decide_eq_true e,Bool.true_or,Option.isSome_some]
   · rw [bH e,decide_eq_false e,Bool.false_or];exact fx k r
theorem m7 (k j:κ) (y:V):∀ kvs:List (κ×V),aQ (kvs.map fun kv=>if kv.1=k then (kv.1,y) else kv) j=(aQ kvs j).map fun x=>if j=k then y else x
 | []=>rfl
 | p::r=>by
   have ih:=m7 k j y r;rw [List.map_cons];by_cases h:p.1=k
   · rw [if_pos h];by_cases e:p.1=j
     · rw [bA (p:=(p.1,y)) e,bA e,Option.map_some,if_pos (e.symm.trans h)]
     · rw [bH (p:=(p.1,y)) e,bH e,ih]
   · rw [if_neg h];by_cases e:p.1=j
     · rw [bA (p:=p) e,bA e,Option.map_some,if_neg (fun z=>h (e.trans z))]
     · rw [bH (p:=p) e,bH e,ih]
theorem kT (k j:κ) (y:V):∀ kvs:List (κ×V),aQ kvs k=none->aQ (kvs++[(k,y)]) j=if j=k then some y else aQ kvs j
 | [],_=>by
   by_cases e:k=j
   · rw [if_pos e.symm];exact bA (p:=(k,y)) e
   · rw [if_neg (fun z=>e z.symm)];exact bH (p:=(k,y)) e
 | p::r,hn=>by
   rw [List.cons_append];have hk:¬ p.1=k:=fun z=>by rw [bA z] at hn;cases hn
   rw [bH hk] at hn;have ih:=kT k j y r hn;by_cases e:p.1=j
   · rw [bA e,bA e,if_neg (fun z=>hk (e.trans z))]
   · rw [bH e,bH e,ih]
theorem de (kvs:List (κ×V)) (k j:κ) (y:V):aQ (bj kvs k y) j=if j=k then some y else aQ kvs j:=by
 unfold bj;by_cases a:(kvs.any fun kv=>decide (kv.1=k))=true
 · rw [if_pos a,m7];rw [fx] at a;by_cases e:j=k
   · obtain ⟨x,hx⟩:=Option.isSome_iff_exists.mp a;rw [if_pos e,e,hx,Option.map_some,if_pos rfl]
   · rw [if_neg e];cases aQ kvs j with
     | none=>rfl
     | some x=>rw [Option.map_some,if_neg e]
 · rw [if_neg a];refine kT k j y kvs ?_;rw [fx] at a;cases q:aQ kvs k with
   | none=>rfl
   | some x=>rw [q] at a;exact (a rfl).elim
theorem cq (kvs:List (κ×V)) (k:κ) (v:V):(bj kvs k v).length<=kvs.length+1:=by
 unfold bj;split
 · rw [List.length_map];omega
 · rw [List.length_append,List.length_cons,List.length_nil];omega
theorem qP {kvs:List (κ×V)} {k:κ} (v:V) (h:aQ kvs k=none):bj kvs k v=kvs++[(k,v)]:=by
 unfold bj;rw [fx,h];exact if_neg (by decide)
theorem RelO.isSome_eq {o:Option V} {u:Option Value} (r:RelO o u):o.isSome=u.isSome:=by
 cases o with
 | none=>cases u with
   | none=>rfl
   | some _=>exact (show False from r).elim
 | some _=>cases u with
   | none=>exact (show False from r).elim
   | some _=>rfl
theorem RelO.getD {o:Option V} {u:Option Value} {d:V} {d':Value} (r:RelO o u) (rd:RelV d d'):RelV (o.getD d) (u.getD d'):=by
 cases o with
 | none=>cases u with
   | none=>exact rd
   | some _=>exact (show False from r).elim
 | some _=>cases u with
   | none=>exact (show False from r).elim
   | some _=>exact r
theorem KV.val {kvs:List (κ×V)} {vs:List (κ×Value)} (r:KV kvs vs) (k:κ):RelO (aQ kvs k) (valueAt vs k):=by
 unfold KV at r;induction r with
 | nil=>exact True.intro
 | @cons p q ps qs h t ih =>
   obtain ⟨h1,h2⟩:=h;by_cases e:p.1=k
   · have e':q.1=k:=h1.symm.trans e;have b:valueAt (q::qs) k=some q.2:=by simp [valueAt,List.find?_cons,e']
     rw [bA e,b];exact h2
   · have e':¬ q.1=k:=fun z=>e (h1.trans z);have b:valueAt (q::qs) k=valueAt qs k:=by simp [valueAt,List.find?_cons,e']
     rw [bH e,b];exact ih
theorem KV.any {kvs:List (κ×V)} {vs:List (κ×Value)} (r:KV kvs vs) (k:κ):(kvs.any fun kv=>decide (kv.1=k))=vs.any fun kv=>decide (kv.1=k):=by
 unfold KV at r;induction r with
 | nil=>rfl
 | cons h t ih=>rw [List.any_cons,List.any_cons,ih,h.1]
theorem KV.repl {kvs:List (κ×V)} {vs:List (κ×Value)} (r:KV kvs vs) (k:κ) {y:V} {u:Value} (ry:RelV y u) :
 KV (kvs.map fun kv=>if kv.1=k then (kv.1,y) else kv) (vs.map fun kv=>if kv.1=k then (kv.1,u) else kv):=by
 unfold KV at r ⊢;induction r with
 | nil=>exact .nil
 | @cons p q ps qs h t ih =>
   rw [List.map_cons,List.map_cons];refine .cons ?_ ih;obtain ⟨h1,h2⟩:=h;by_cases e:p.1=k
   · rw [if_pos e,if_pos (h1.symm.trans e)];exact ⟨h1,ry⟩
   · rw [if_neg e,if_neg (fun z=>e (h1.trans z))];exact ⟨h1,h2⟩
theorem KV.put {kvs:List (κ×V)} {vs:List (κ×Value)} (r:KV kvs vs) (k:κ) {y:V} {u:Value} (ry:RelV y u):KV (bj kvs k y) (stored vs k u):=by
 unfold bj stored;rw [r.any k];by_cases e:(vs.any fun kv=>decide (kv.1=k))=true
 · rw [if_pos e,if_pos e];exact r.repl k ry
 · rw [if_neg e,if_neg e];exact Paired.snoc r ⟨rfl,ry⟩
theorem KV.length {kvs:List (κ×V)} {vs:List (κ×Value)} (r:KV kvs vs):kvs.length=vs.length:=Paired.length r
end
theorem lw {P:Program} {w:World} {k:Key} {u:Value} (r:RelV (kV k) u):(aT P w).is k u=true:=by
 cases k with
 | inl i=>obtain ⟨t,e⟩:=(show ∃ t,u=Value.int i t from r);subst e;exact nL P w i t
 | inr x=>obtain ⟨t,e⟩:=(show ∃ t,u=Value.str x t from r);subst e;exact nE P w x t
theorem lC {P:Program} {w:World}:∀ {ks:List Key} {us:List Value},Vals (ks.map kV) us->ItemsAre (aT P w) ks us
 | [],_,r=>by rw [List.map_nil] at r;cases r;exact .nil
 | k::ks,_,r=>by
   rw [List.map_cons] at r;cases r with
   | cons h t=>exact .cons (lw h) (lC t)
abbrev KTd (H:Hp):List (List Key×V)->List (List Key×Addr×Value)->Prop:=Paired fun p q=>p.1=q.1/\H q.2.1=some (.tup (p.1.map kV))/\RelV p.2 q.2.2
theorem KTd.val {H:Hp} {kvs:List (List Key×V)} {xs:List (List Key×Addr×Value)} (r:KTd H kvs xs) (k:List Key):RelO (aQ kvs k) ((atKey xs k).map (·.2)):=by
 induction r with
 | nil=>exact True.intro
 | @cons p q ps qs h t ih =>
   obtain ⟨h1,_,h2⟩:=h;by_cases e:p.1=k
   · have e':q.1=k:=h1.symm.trans e;have b:atKey (q::qs) k=some q.2:=by simp [atKey,List.find?_cons,e']
     rw [bA e,b];exact h2
   · have e':¬ q.1=k:=fun z=>e (h1.trans z);have b:atKey (q::qs) k=atKey qs k:=by simp [atKey,List.find?_cons,e']
     rw [bH e,b];exact ih
theorem KTd.repl {H:Hp} {kvs:List (List Key×V)} {xs:List (List Key×Addr×Value)} (r:KTd H kvs xs) (k:List Key) {y:V} {u:Value} (ry:RelV y u) :
 KTd H (kvs.map fun kv=>if kv.1=k then (kv.1,y) else kv) (xs.map (putAt k u)):=by
 induction r with
 | nil=>exact .nil
 | @cons p q ps qs h t ih =>
   rw [List.map_cons,List.map_cons];refine .cons ?_ ih;obtain ⟨h1,h2,h3⟩:=h;unfold putAt;by_cases e:p.1=k
   · rw [if_pos e,if_pos (h1.symm.trans e)];exact ⟨h1,h2,ry⟩
   · rw [if_neg e,if_neg (fun z=>e (h1.trans z))];exact ⟨h1,h2,h3⟩
theorem KTd.put {H:Hp} {kvs:List (List Key×V)} {xs:List (List Key×Addr×Value)} (r:KTd H kvs xs) (k:List Key) {b:Addr} {y:V} {u:Value} (hb:H b=some (.tup (k.map kV))) (ry:RelV y u) :
 KTd H (bj kvs k y) (storedH xs k b u):=by
 have e:(kvs.any fun kv=>decide (kv.1=k))=(atKey xs k).isSome:=by
  rw [fx,(r.val k).isSome_eq,Option.isSome_map]
 unfold bj storedH;rw [e];by_cases q:(atKey xs k).isSome=true
 · rw [if_pos q,if_pos q];exact r.repl k ry
 · rw [if_neg q,if_neg q];exact Paired.snoc r ⟨rfl,hb,ry⟩
theorem KTd.keeps {H H':Hp} {kvs:List (List Key×V)} {xs:List (List Key×Addr×Value)} (r:KTd H kvs xs) (ht:∀ b ys,H b=some (.tup ys)->H' b=some (.tup ys)):KTd H' kvs xs :=
 Paired.mapP r fun _ _ z=>⟨z.1,ht _ _ z.2.1,z.2.2⟩
section
variable {P:Program} {w:World} {H:Hp} {h:Heap} {a:Addr}
theorem tW {u:HO} (ok:HOk P w H h) (e:Rd H a u):ObjOk P w H h a u:=e.ok ok
theorem kO {kvs:List (Key×V)} (ok:HOk P w H h) (e:Rd H a (.dK kvs)):kvs.length<=sizeLine/\(a == sysModules)=false/\∃ vs,KV kvs vs/\h.DictOf (aT P w) a vs :=
 show ObjOk P w H h a (.dK kvs) from tW ok e
theorem t7 {kvs:List (Key×V)} (ok:HOk P w H h) (e:H a=some (.dK kvs)):kvs.length<=sizeLine/\(a == sysModules)=false/\∃ vs,KV kvs vs/\h.DictOf (aT P w) a vs:=kO ok (.inl e)
theorem ki {ks:List Key} (ok:HOk P w H h) (e:H a=some (.tup (ks.map kV))):(tupleKind (aT P w)).is h ks a:=by
 obtain ⟨_,its,n,r,h1⟩:=(show ObjOk P w H h a (.tup (ks.map kV)) from ok a _ e);exact ⟨_,its.toArray,n,h1,rfl,rfl,by simpa using lC r⟩
theorem lF {kvs:List (List Key×V)} (ok:HOk P w H h) (e:Rd H a (.dT kvs)):kvs.length<=sizeLine/\(a == sysModules)=false ∧
 ∃ xs,KTd H kvs xs/\h.DictOfH (tupleKind (aT P w)) a xs:=by
 obtain ⟨z,y,xs,r,o,es,ep,h1,h2,h3,h4,h5⟩:=(show ObjOk P w H h a (.dT kvs) from tW ok e);refine ⟨z,y,xs,r,o,es,ep,h1,h2,h3,h4,fun x hx=>?_,h5⟩
 have all:∀ {l:List (List Key×V)} {m:List (List Key×Addr×Value)},KTd H l m->∀ x∈m,(tupleKind (aT P w)).is h x.1 x.2.1:=by
  intro l m q;induction q with
  | nil=>intro x hx;exact nomatch hx
  | @cons p q ps qs hq t ih =>
    intro x hx;rcases List.mem_cons.mp hx with e | hx
    · subst e;exact ki ok (by rw [<- hq.1];exact hq.2.1)
    · exact ih x hx
 exact all r x hx
theorem vj {kvs:List (List Key×V)} (ok:HOk P w H h) (e:H a=some (.dT kvs)):kvs.length<=sizeLine/\(a == sysModules)=false ∧
 ∃ xs,KTd H kvs xs/\h.DictOfH (tupleKind (aT P w)) a xs:=lF ok (.inl e)
end
def DGet (H:Hp) (a:Addr) (y:V) (r:Option V):Prop :=
 (∃ kvs k,Rd H a (.dK kvs)/\y=kV k/\r=aQ kvs k)∨∃ kvs k b,Rd H a (.dT kvs)/\y=.ref b/\H b=some (.tup (k.map kV))/\r=aQ kvs k
def DPut (H:Hp) (a:Addr) (y v:V) (H':Hp):Prop :=
 (∃ kvs k,H a=some (.dK kvs)/\y=kV k/\kvs.length<sizeLine/\H'=upd H a (.dK (bj kvs k v))) ∨
 ∃ kvs k b,H a=some (.dT kvs)/\y=.ref b/\H b=some (.tup (k.map kV))/\kvs.length<sizeLine/\H'=upd H a (.dT (bj kvs k v))
theorem DGet.k {H:Hp} {a:Addr} {kvs:List (Key×V)} {k:Key} (e:H a=some (.dK kvs)):DGet H a (kV k) (aQ kvs k):=.inl ⟨kvs,k,.inl e,rfl,rfl⟩
theorem DGet.t {H:Hp} {a b:Addr} {kvs:List (List Key×V)} {k:List Key} (e:H a=some (.dT kvs)) (eb:H b=some (.tup (k.map kV))):DGet H a (.ref b) (aQ kvs k):=.inr ⟨kvs,k,b,.inl e,rfl,eb,rfl⟩
theorem DPut.k {H:Hp} {a:Addr} {kvs:List (Key×V)} {k:Key} {v:V} (e:H a=some (.dK kvs)) (hl:kvs.length<sizeLine):DPut H a (kV k) v (upd H a (.dK (bj kvs k v))):=.inl ⟨kvs,k,e,rfl,hl,rfl⟩
theorem DPut.t {H:Hp} {a b:Addr} {kvs:List (List Key×V)} {k:List Key} {v:V} (e:H a=some (.dT kvs)) (eb:H b=some (.tup (k.map kV))) (hl:kvs.length<sizeLine) :
 DPut H a (.ref b) v (upd H a (.dT (bj kvs k v))):=.inr ⟨kvs,k,b,e,rfl,eb,hl,rfl⟩
section
variable {X:Cx} {pins:List (Addr×Obj)} {σ:St} {H:Hp} {s:Shared} {a:Addr} {y v:V} {u r:Value} {o:Option V} {A:Around} {E:Value->Shared->Prop}
theorem Inv.big (I:Inv X pins σ H s):sysModules<s.heap.objs.size:=by
 have h:mainGlobals<s.heap.objs.size:=(I.mod.glob.keeps I.bk).lt;exact Nat.lt_trans (by decide) h
theorem pR {Q:Value->Shared->Prop} (hu:A.units+1<cLine) (I:Inv X pins σ H s) (g:DGet H a y (some v)) (ry:RelV y u) (h:∀ w' s',Inv X pins σ H s'->RelV v w'->Q w' s') :
 wpAny (model X.prog X.w) A (getItem (.ref a) u) Q E s:=by
 rcases g with ⟨kvs,k,e,ey,l⟩ | ⟨kvs,k,b,e,ey,eb,l⟩
 · subst ey;obtain ⟨z,hd,vs,rel,dd⟩:=kO I.hok e;obtain ⟨w',hw,rw'⟩:=RelO.some_of (v:=v) (o:=valueAt vs k) (by rw [l];exact rel.val k);exact wpAny_getItem_of (lw ry) dd.mapOf hw (h w' _ (I.tok _) rw')
 · subst ey;cases (show u=Value.ref b from ry);obtain ⟨z,hd,xs,rel,dd⟩:=lF I.hok e;obtain ⟨w',hw,rw'⟩:=RelO.some_of (v:=v) (o:=(atKey xs k).map (·.2)) (by rw [l];exact rel.val k);obtain ⟨p,hp,hp2⟩:=Option.map_eq_some_iff.mp hw;refine wpAny_getItem_heap (tupleKind_room_in1 hu) (ki I.hok eb) dd hp ?_;rw [hp2];exact h w' _ (I.tok _) rw'
theorem si {Q:Value->Shared->Prop} (hu:A.units+1<cLine) (I:Inv X pins σ H s) (g:DGet H a y o) (ry:RelV y u) (h:∀ s',Inv X pins σ H s'->Q (.bool (!o.isSome)) s') :
 wpAny (model X.prog X.w) A (compareOp .NotIn u (.ref a)) Q E s:=by
 rcases g with ⟨kvs,k,e,ey,l⟩ | ⟨kvs,k,b,e,ey,eb,l⟩
 · subst ey;obtain ⟨z,hd,vs,rel,dd⟩:=kO I.hok e;refine wpAny_notIn_of (lw ry) hd dd.mapOf ?_;rw [<- (rel.val k).isSome_eq,<- l];exact h _ (I.tok _)
 · subst ey;cases (show u=Value.ref b from ry);obtain ⟨z,hd,xs,rel,dd⟩:=lF I.hok e;refine wpAny_notIn_heap (tupleKind_room_in1 hu) (ki I.hok eb) hd dd ?_;have q:=(rel.val k).isSome_eq;rw [Option.isSome_map] at q;rw [<- q,<- l];exact h _ (I.tok _)
theorem mn {h':Heap} {t':Nat} {ob:HO} (I:Inv X pins σ H s) (mu:Mut (H a)) (hs:Heap.SameBut a s.heap h') (he:∃ q,h'.get? a=some q) (new:ObjOk X.prog X.w (upd H a ob) h' a ob) :
 Inv X pins σ (upd H a ob) { s with heap:=h',toks:=t' } :=
 I.write (x:=a) (e:=a) mu (.inl rfl) (fun b q hb z=>(hs.2 b hb).trans z) he new
theorem uO {P:Program} {w:World} {H':Hp} {h':Heap} {kvs:List (Key×V)} {vs:List (Key×Value)} (z:kvs.length<=sizeLine) (hd:(a == sysModules)=false) (rel:KV kvs vs) (dd:h'.DictOf (aT P w) a vs) :
 ObjOk P w H' h' a (.dK kvs):=⟨z,hd,vs,rel,dd⟩
theorem qr {H':Hp} {Q:Unit->Shared->Prop} (hu:A.units+1<cLine) (I:Inv X pins σ H s) (g:DPut H a y v H') (ry:RelV y u) (rv:RelV v r) (h:∀ s',Inv X pins σ H' s'->Q () s') :
 wpAny (model X.prog X.w) A (setItem (.ref a) u r) Q E s:=by
 rcases g with ⟨kvs,k,e,ey,l,eH⟩ | ⟨kvs,k,b,e,ey,eb,l,eH⟩
 · subst ey eH;obtain ⟨z,hd,vs,rel,dd⟩:=t7 I.hok e;have hz:vs.length<=sizeLine:=by rw [<- rel.length];exact z
   have hl:(bj kvs k v).length<=sizeLine:=by have:=cq kvs k v;omega
   refine wpAny_setItem_pairs (hsz:=hz) (lw ry) dd fun h' dd' hs=>h _ ?_;have he:∃ q,h'.get? a=some q:=let ⟨q,_,_,hq,_⟩:=dd';⟨q,hq⟩
   exact mn I (by rw [e];exact True.intro) hs he (uO hl hd (rel.put k rv) dd')
 · subst ey eH;cases (show u=Value.ref b from ry);obtain ⟨z,hd,xs,rel,dd⟩:=vj I.hok e;have hz:xs.length<=sizeLine:=by rw [<- Paired.length rel];exact z
   have hl:(bj kvs k v).length<=sizeLine:=by have:=cq kvs k v;omega
   refine wpAny_setItem_heap (hsz:=hz) (tupleKind_room_in1 hu) (ki I.hok eb) dd fun h' dd' hs=>h _ ?_;obtain ⟨q,es,ep,hq,h2,h3,h4,_,h5⟩:=dd';refine mn I (by rw [e];exact True.intro) hs ⟨q,hq⟩ ⟨hl,hd,_,(rel.put k eb rv).keeps fun c ys ec=>?_,q,es,ep,hq,h2,h3,h4,h5⟩;rw [ae (aJ ec e (fun z=>nomatch z))];exact ec
end
section
variable {X:Cx} {pins:List (Addr×Obj)} {σ:St} {H:Hp} {s:Shared} {a:Addr} {kvs:List (Key×V)} {k:Key} {u:Value} {A:Around} {E:Value->Shared->Prop}
end
def vc (i:Expr):Prop:=∀ ov iv,subscripted i false ov iv=operate [ov,iv] (getItem ov iv)
theorem r6 {prog:Program} {w:World} {A:Around} {E:Value->Shared->Prop} {s:Shared} {env:Env} {value slice:Expr} {pos:Pos} {T id:String} {Q:Value->Shared->Prop}
 (hl:typeLookup (.type T) "__getitem__"=pure (some (.builtin id))) (hs:vc slice)
 (h:wpAny (model prog w) A (eval value env) (fun o s₁=>wpAny (model prog w) A (eval slice env) (fun i s₂=>s₂.TypeIs o T/\wpAny (model prog w) A (getItem o i) Q E s₂) E s₁) E s) :
 wpAny (model prog w) A (eval (.Subscript value slice pos) env) Q E s:=by
 refine Subscript_ (wpAny_mono h (fun o s₁ h₁=>wpAny_mono h₁ (fun i s₂ h₂=>?_) fun _ _ x=>x) fun _ _ x=>x);obtain ⟨hT,h₂⟩:=h₂;unfold subscriptTail;refine wpAny_bind ?_;rw [getitemInPython_of_ne hT.not_modules];refine wpAny_bind (wpAny_specialOf hT hl ?_)
 have fin:wpAny (model prog w) A (subscripted slice false o i) (fun r s₃=>wpAny (model prog w) A (letTemporaryGo value o r >>= fun _=>pure r) Q E s₃) E s₂:=by
  rw [hs o i];exact wpAny_operating (wpAny_mono h₂ (fun r s₃ h₃=>wpAny_bind (wpAny_letTemporaryGo (wpAny_pure h₃))) fun _ _ x=>x)
 first
  | exact wpAny_pure (wpAny_bind fin)
  | exact wpAny_bind (wpAny_pure (wpAny_bind fin))
  | exact wpAny_bind fin
theorem mF {X:Cx} {pins:List (Addr×Obj)} {σ:St} {H:Hp} {s:Shared} {a:Addr} {y:V} {o:Option V} (I:Inv X pins σ H s) (g:DGet H a y o):s.TypeIs (.ref a) "dict":=by
 rcases g with ⟨kvs,k,e,_,_⟩ | ⟨kvs,k,b,e,_,_,_⟩
 · obtain ⟨_,_,vs,_,dd⟩:=kO I.hok e;exact dd.typeIs
 · obtain ⟨_,_,xs,_,dd⟩:=lF I.hok e;exact dd.typeIs
def rH (td ty:TE):TE:=fun σ H Q=>td σ H fun x H1=>ty σ H1 fun y H2=>∃ a v,x=.ref a/\DGet H2 a y (some v)/\Q v H2
def tI (ty td:TE):TE:=fun σ H Q=>ty σ H fun y H1=>td σ H1 fun x H2=>∃ a o,x=.ref a/\DGet H2 a y o/\Q (.bl (!o.isSome)) H2
def vp (td ty tv:TE):TS:=fun D σ H=>tv σ H fun v H1=>td σ H1 fun x H2=>ty σ H2 fun y H3=>∃ a H4,x=.ref a/\DPut H3 a y v H4/\D.nx σ H4
section
variable {X:Cx} {o i e value:Expr} {pos pos' tpos:Pos} {td ty tv:TE}
theorem ip (hu:X.A.units+1<cLine) (ho:PE X o td) (hi:PE X i ty) (hs:vc i):PE X (.Subscript o i pos) (rH td ty):=by
 intro pins s σ H Q I h;refine r6 PySem.F.slot_dict_getitem.lookup hs (thn (ho pins s σ H _ I h) fun u s1 ⟨x,H1,I1,rx,q1⟩=>thn (hi pins s1 σ H1 _ I1 q1) fun iv s2 ⟨y,H2,I2,ry,a,v,ex,g,q2⟩=>?_);subst ex;obtain rfl:u=Value.ref a:=rx;exact ⟨mF I2 g,pR hu I2 g ry fun w' s3 I3 rw'=>⟨v,H2,I3,rw',q2⟩⟩
theorem pZ (hu:X.A.units+1<cLine) (hi:PE X i ty) (ho:PE X o td):PC X .NotIn i o (tI ty td):=by
 intro pins s σ H Q I h;refine thn (hi pins s σ H _ I h) fun iv s1 ⟨y,H1,I1,ry,q1⟩=>thn (ho pins s1 σ H1 _ I1 q1) fun u s2 ⟨x,H2,I2,rx,a,ov,ex,g,q2⟩=>?_;subst ex;obtain rfl:u=Value.ref a:=rx;exact si hu I2 g ry fun s3 I3=>⟨.bl (!ov.isSome),H2,I3,rfl,q2⟩
theorem d8 (hu:X.A.units+1<cLine) (ho:PE X o td) (hi:PE X i ty) (hv:PE X value tv) (hs:swapsWith value (some (.Subscript o i pos')) pos.line X.env=pure false) :
 PS X (.Assign [.Subscript o i pos'] value pos) (vp td ty tv):=by
 intro pins s σ H D I h;refine wpAny_Assign_Subscript (thn (hv pins s σ H _ I h) fun r s1 ⟨v,H1,I1,rv,q1⟩=>thn (ho pins s1 σ H1 _ I1 q1) fun u s2 ⟨x,H2,I2,rx,q2⟩=>thn (hi pins s2 σ H2 _ I2 q2) fun iv s3 ⟨y,H3,I3,ry,a,H4,ex,g,q3⟩=>?_) hs;subst ex;obtain rfl:u=Value.ref a:=rx;exact qr hu I3 g ry rv fun s4 I4=>⟨σ,H4,I4,q3⟩
end
theorem m9 {P:Program} {w:World} {H:Hp} (h:Heap) (hb:sysModules<h.objs.size):ObjOk P w H (h.push { cls:=.type "dict",data:=.dict #[] }) h.objs.size (.dK []) :=
 ⟨Nat.zero_le _,beq_eq_false_iff_ne.mpr (Ne.symm (Nat.ne_of_lt hb)),[],.nil,Heap.DictOf.new h⟩
theorem qX {P:Program} {w:World} {H:Hp} (h:Heap) (hb:sysModules<h.objs.size):ObjOk P w H (h.push { cls:=.type "dict",data:=.dict #[] }) h.objs.size (.dT []) :=
 ⟨Nat.zero_le _,beq_eq_false_iff_ne.mpr (Ne.symm (Nat.ne_of_lt hb)),[],.nil,_,#[],0,Heap.get?_push_size _ rfl,⟨rfl,rfl,rfl⟩,rfl,rfl,List.nodup_nil⟩
def uj:TE:=fun _ H Q=>∀ p,H p=none->Q (.ref p) (upd H p (.dK []))
def ul:TE:=fun _ H Q=>∀ p,H p=none->Q (.ref p) (upd H p (.dT []))
section
variable {X:Cx} {pos:Pos}
theorem mM:PE X (.Dict [] [] pos) uj:=fun pins s σ H Q I h =>
 wpAny_Dict_empty ⟨.ref s.heap.objs.size,_,I.laid (a:=s.heap.objs.size) (o:=.dK []) (t':=s.toks) (fun _ _ q=>Heap.get?_push_of_some _ q) (Nat.le_refl _) (m9 s.heap I.big),rfl,h _ (I.hok.fresh (Nat.le_refl _))⟩
theorem gY:PE X (.Dict [] [] pos) ul:=fun pins s σ H Q I h =>
 wpAny_Dict_empty ⟨.ref s.heap.objs.size,_,I.laid (a:=s.heap.objs.size) (o:=.dT []) (t':=s.toks) (fun _ _ q=>Heap.get?_push_of_some _ q) (Nat.le_refl _) (qX s.heap I.big),rfl,h _ (I.hok.fresh (Nat.le_refl _))⟩
end
structure M2 (X:Cx) (o:Expr) (m:Str) (apos:Pos) (e f:Expr) (cpos:Pos):Prop where
 base:attributeBase o m X.env (eval o X.env)=eval o X.env
 few:((backTo cpos (starEach [e,f] X.env)).all (fun x=>!x.1) && (backToKw cpos (keywordEach [] X.env)).all (fun x=>x.1.isSome)
  && decide (([e,f]:List Expr).length+([]:List Keyword).length+(if ([]:List Keyword).isEmpty then 0 else 1)<30))=true
 line:(apos.endLine == cpos.line)=true
 trees:backTo cpos (starEach [e,f] X.env)=[(false,eval e X.env),(false,eval f X.env)]
def IsD (H:Hp) (a:Addr):Prop:=(∃ kvs,Rd H a (.dK kvs))∨∃ kvs,Rd H a (.dT kvs)
theorem ue {X:Cx} {pins:List (Addr×Obj)} {σ:St} {H:Hp} {s:Shared} {a:Addr} (I:Inv X pins σ H s) (d:IsD H a) :
 s.TypeIs (.ref a) "dict"/\(∀ b,Value.ref a=.ref b->∃ ob,s.heap.get? b=some ob/\ob.dict=none)/\(a == sysModules)=false:=by
 rcases d with ⟨kvs,e⟩ | ⟨kvs,e⟩
 · obtain ⟨_,hd,vs,_,dd⟩:=kO I.hok e;refine ⟨dd.typeIs,fun b q=>?_,hd⟩;cases q;obtain ⟨ob,_,_,h1,h2,_⟩:=dd;exact ⟨ob,h1,h2.2.1⟩
 · obtain ⟨_,hd,xs,_,dd⟩:=lF I.hok e;refine ⟨dd.typeIs,fun b q=>?_,hd⟩;cases q;obtain ⟨ob,_,_,h1,h2,_⟩:=dd;exact ⟨ob,h1,h2.2.1⟩
section
variable {X:Cx} {pins:List (Addr×Obj)} {σ:St} {H:Hp} {s:Shared} {a:Addr} {y d:V} {u r:Value} {o:Option V} {A:Around} {E:Value->Shared->Prop}
theorem uE {Q:Value->Shared->Prop} (hu:A.units+1<cLine) (I:Inv X pins σ H s) (g:DGet H a y o) (ry:RelV y u) (rd:RelV d r) (h:∀ w' s',Inv X pins σ H s'->RelV (o.getD d) w'->Q w' s') :
 wpAny (model X.prog X.w) A (call (.builtin "dict.get") [.ref a,u,r]) Q E s:=by
 rcases g with ⟨kvs,k,e,ey,l⟩ | ⟨kvs,k,b,e,ey,eb,l⟩
 · subst ey;obtain ⟨z,hd,vs,rel,dd⟩:=kO I.hok e;refine call_meetsIn PySem.F.slot_dict_get dd.typeIs PySem.F.entry_dict_get (PySem.F.args_dict_get_3 _ _ _) (meets_dict_get_default (aT X.prog X.w) a (lw ry) hd r) ⟨_,dd.mapOf,h _ _ (I.tok _) ?_⟩;rw [l];exact (rel.val k).getD rd
 · subst ey;cases (show u=Value.ref b from ry);obtain ⟨z,hd,xs,rel,dd⟩:=lF I.hok e;refine call_meetsIn PySem.F.slot_dict_get dd.typeIs PySem.F.entry_dict_get (PySem.F.args_dict_get_3 _ _ _) (meetsH_dict_get_default (tupleKind (aT X.prog X.w)) a b hd r) ⟨tupleKind_room_in1 hu,k,xs,ki I.hok eb,dd,h _ _ (I.tok _) ?_⟩;rw [l];exact (rel.val k).getD rd
end
def uB (td ty tx:TE):TE:=fun σ H Q=>td σ H fun x H1=>∃ a,x=.ref a/\IsD H1 a/\ty σ H1 fun y H2=>tx σ H2 fun z H3=>∃ o,DGet H3 a y o/\Q (o.getD z) H3
section
variable {X:Cx} {o e f:Expr} {apos cpos:Pos} {td ty tx:TE}
theorem m8 (hu:X.A.units+1<cLine) (ho:PE X o td) (he:PE X e ty) (hf:PE X f tx) (m:M2 X o "get" apos e f cpos):PE X (.Call (.Attribute o "get" apos) [e,f] [] cpos) (uB td ty tx):=by
 intro pins s σ H Q I h;refine wpAny_Call_method m.base m.few m.line PySem.F.plainAttrs_dict PySem.F.slot_dict_get PySem.F.type_dict_get (thn (ho pins s σ H _ I h) fun u s1 ⟨x,H1,I1,rx,a,ex,d,q1⟩=>?_);subst ex;obtain rfl:u=Value.ref a:=rx;obtain ⟨t1,t2,_⟩:=ue I1 d;refine ⟨t1,t2,?_⟩;rw [m.trees]
 refine Calls.callWith_builtin rfl (Calls.evalArgs_plain (Calls.spliced_cons (thn (he pins s1 σ H1 _ I1 q1) fun iv s2 ⟨y,H2,I2,ry,q2⟩ =>
  Calls.spliced_cons (thn (hf pins s2 σ H2 _ I2 q2) fun fv s3 ⟨z,H3,I3,rz,ov,g,q3⟩=>Calls.spliced_nil ?_))))
 exact uE hu I3 g ry rz fun w' s4 I4 rw'=>⟨_,H3,I4,rw',q3⟩
end
section
variable {X:Cx} {pins:List (Addr×Obj)} {σ:St} {H:Hp} {s:Shared} {a:Addr} {kvs:List (Key×V)} {A:Around} {E:Value->Shared->Prop}
end
section
variable {X:Cx} {pins:List (Addr×Obj)} {σ:St} {H:Hp} {s:Shared} {a:Addr} {y:V} {u:Value} {A:Around} {E:Value->Shared->Prop}
end
end L2
namespace L2
open PySem PySem.Spec PyProof.Rows
inductive t4 (K:PySem.W.Frag) (T:String) (xs:List V) (H:Hp) (Q:VK):Prop
 | mk (x:_) (b:_) (t:_) (zz0:xs=[x,.ty T]) (zz1:hG K H x t) (zz2:PySem.W.kitOne K t (.type T)=some b) (zz3:Q (.bl b) H):t4 K T xs H Q
def wb (K:PySem.W.Frag) (T:String):List V->Hp->VK->Prop:=t4 K T
theorem kP {X:Cx} {T:String}:eZ X (.builtin "isinstance") (wb X.K T):=by
 intro pins s σ H xs us Q I r h;obtain ⟨x,b,t,e,ty,k,q⟩:=h;exact rR (T:=T) (b:=b) (t:=t) pins s σ H xs us Q I r ⟨x,e,ty,k,q⟩
variable {K:PySem.W.Frag}
theorem uv:PySem.W.kitOne K (.type "int") (.type "int")=some true:=rfl
theorem uU:PySem.W.kitOne K (.type "int") (.type "bool")=some false:=by with_unfolding_all rfl
end L2
namespace BB
open PySem L2
inductive Dv where
 | int (i:Int)
 | str (x:Str)
 | tup (ds:List Dv)
mutual
def Dv.deep:Dv->Nat
 | .int _=>0
 | .str _=>0
 | .tup ds=>cK ds+1
def cK:List Dv->Nat
 | []=>0
 | d::ds=>max d.deep (cK ds)
end
mutual
def Dv.tot:Dv->Nat
 | .int _=>1
 | .str _=>1
 | .tup ds=>tE ds+1
def tE:List Dv->Nat
 | []=>0
 | d::ds=>d.tot+tE ds
end
mutual
def DAt (H:Hp):Dv->V->Prop
 | .int i,v=>v=.int i
 | .str x,v=>v=.str x
 | .tup ds,v=>∃ a vs,v=.ref a/\H a=some (.tup vs)/\DAts H ds vs
def DAts (H:Hp):List Dv->List V->Prop
 | [],vs=>vs=[]
 | d::ds,vs=>∃ v r,vs=v::r/\DAt H d v/\DAts H ds r
end
theorem DAts.nil {H:Hp}:DAts H [] []:=by rw [DAts]
theorem DAts.cons {H:Hp} {d:Dv} {ds:List Dv} {v:V} {vs:List V} (h1:DAt H d v) (h2:DAts H ds vs):DAts H (d::ds) (v::vs):=by rw [DAts];exact ⟨v,vs,rfl,h1,h2⟩
theorem DAts.length {H:Hp}:∀ {ds:List Dv} {vs:List V},DAts H ds vs->vs.length=ds.length
 | [],vs,h=>by rw [DAts] at h;subst h;rfl
 | d::ds,vs,h=>by
   rw [DAts] at h;obtain ⟨v,r,rfl,h1,h2⟩:=h;rw [List.length_cons,List.length_cons,h2.length]
theorem DAts.at {H:Hp}:∀ {ds:List Dv} {vs:List V} {i:Nat} {d:Dv},DAts H ds vs->ds[i]?=some d->∃ v,vs[i]?=some v/\DAt H d v
 | [],vs,i,d,h,e=>by simp at e
 | d0::ds,vs,i,d,h,e=>by
   rw [DAts] at h;obtain ⟨v,r,rfl,h1,h2⟩:=h;cases i with
   | zero=>simp at e;subst e;exact ⟨v,rfl,h1⟩
   | succ i =>
     obtain ⟨u,g1,g2⟩:=h2.at (i:=i) (by simpa using e);exact ⟨u,by simpa using g1,g2⟩
theorem fc:∀ {ds:List Dv} {i:Nat} {d:Dv},ds[i]?=some d->d.deep<=cK ds
 | [],i,d,e=>by simp at e
 | d0::ds,i,d,e=>by
   rw [cK];cases i with
   | zero=>simp at e;subst e;omega
   | succ i =>
     have:=fc (ds:=ds) (i:=i) (by simpa using e);omega
theorem px:∀ {ds:List Dv} {i:Nat} {d:Dv},ds[i]?=some d->d.tot<=tE ds
 | [],i,d,e=>by simp at e
 | d0::ds,i,d,e=>by
   rw [tE];cases i with
   | zero=>simp at e;subst e;omega
   | succ i =>
     have:=px (ds:=ds) (i:=i) (by simpa using e);omega
theorem Dv.tot_pos (d:Dv):1<=d.tot:=by
 cases d with
 | int i=>rw [Dv.tot];omega
 | str x=>rw [Dv.tot];omega
 | tup ds=>rw [Dv.tot];omega
mutual
def Th.dv:Th->Dv
 | .knot n ks=>.tup (.str n::dvs ks)
 | .call s k=>.tup [.str q,.int s,.int k]
def dvs:List Th->List Dv
 | []=>[]
 | t::ts=>t.dv::dvs ts
end
mutual
theorem At.dv {H:Hp}:∀ {t:Th} {a:Addr},At H t a->DAt H t.dv (.ref a)
 | .knot n ks,a,h=>by
   rw [At] at h;obtain ⟨_,as,h1,h2⟩:=h;rw [Th.dv,DAt];exact ⟨a,_,rfl,h1,.cons (by rw [DAt]) (Ats.dvs h2)⟩
 | .call s k,a,h=>by
   rw [At] at h;rw [Th.dv,DAt];exact ⟨a,_,rfl,h,.cons (by rw [DAt]) (.cons (by rw [DAt]) (.cons (by rw [DAt]) .nil))⟩
theorem Ats.dvs {H:Hp}:∀ {ts:List Th} {as:List Addr},Ats H ts as->DAts H (dvs ts) (as.map V.ref)
 | [],as,h=>by rw [Ats] at h;subst h;rw [BB.dvs];exact .nil
 | t::ts,as,h=>by
   rw [Ats] at h;obtain ⟨a,r,rfl,h1,h2⟩:=h;rw [BB.dvs,List.map_cons];exact .cons (At.dv h1) (Ats.dvs h2)
end
mutual
theorem Th.dv_deep:∀ t:Th,t.dv.deep<=t.tall
 | .knot n ks=>by
   have:=ju ks;rw [Th.dv,Dv.deep,cK,Dv.deep,Th.tall];omega
 | .call s k=>by rw [Th.dv,Th.tall];simp [Dv.deep,cK]
theorem ju:∀ ts:List Th,cK (dvs ts)<=aC ts
 | []=>by rw [dvs,cK];exact Nat.zero_le _
 | t::ts=>by
   have:=t.dv_deep;have:=ju ts;rw [dvs,cK,aC];omega
end
theorem pP {K:PySem.W.Frag} {H:Hp} {a b:Addr} {xs ys:List V} {Q:VK} (ha:H a=some (.tup xs)) (hb:H b=some (.tup ys)) (hz:xs.length+ys.length<=1000000) (q:∀ p H',L2.Same H H'->H' p=some (.tup (xs++ys))->Q (.ref p) H'):qK K (.ref a) (.ref b) H Q:=by
 refine ⟨a,b,xs,ys,rfl,rfl,SqT.of ha,SqT.of hb,am hz,fun e=>?_,fun _ e=>?_,fun _ _ p hp=>?_⟩
 · exact q b H (.refl _) (by rw [e];exact hb)
 · exact q a H (.refl _) (by rw [e,List.append_nil];exact ha)
 · exact q p _ (af hp _) ac
mutual
/-- all knots with their places,a knot ahead of its kids -/
def Th.pl (pre:List Int):Th->List (List Int×Th)
 | .knot n ks=>(pre,.knot n ks)::pls pre 0 ks
 | .call s k=>[(pre,.call s k)]
def pls (pre:List Int) (i:Int):List Th->List (List Int×Th)
 | []=>[]
 | t::ts=>t.pl (pre++[i])++pls pre (i+1) ts
end
theorem Th.pl_eq (pre:List Int) (t:Th):t.pl pre=(pre,t)::pls pre 0 t.kids:=by
 cases t with
 | knot n ks=>rw [Th.pl];rfl
 | call s k=>rw [Th.pl];simp [Th.kids,pls]
mutual
theorem Th.pl_len (pre:List Int):∀ t:Th,(t.pl pre).length=t.size
 | .knot n ks=>by rw [Th.pl,Th.size,List.length_cons,pD pre 0 ks]
 | .call s k=>by rw [Th.pl,Th.size];rfl
theorem pD (pre:List Int) (i:Int):∀ ts:List Th,(pls pre i ts).length=aw ts
 | []=>by rw [pls,aw];rfl
 | t::ts=>by rw [pls,aw,List.length_append,Th.pl_len _ t,pD pre (i+1) ts]
end
def szP:List (List Int×Th)->Nat
 | []=>0
 | p::ps=>p.2.size+szP ps
def plP:List (List Int×Th)->List (List Int×Th)
 | []=>[]
 | p::ps=>p.2.pl p.1++plP ps
theorem ej:∀ a b,szP (a++b)=szP a+szP b
 | [],b=>by simp [szP]
 | p::a,b=>by rw [List.cons_append,szP,szP,ej a b,Nat.add_assoc]
theorem pL (a:List (List Int×Th)):szP a.reverse=szP a:=by
 induction a with
 | nil=>rfl
 | cons x xs ih=>rw [List.reverse_cons,ej,ih,szP,szP,szP];omega
theorem jM:∀ a b,plP (a++b)=plP a++plP b
 | [],b=>by simp [plP]
 | p::a,b=>by rw [List.cons_append,plP,plP,jM a b,List.append_assoc]
theorem pw:∀ a,(plP a).length=szP a
 | []=>rfl
 | p::a=>by rw [plP,szP,List.length_append,Th.pl_len,pw a]
theorem pJ:∀ a,a.length<=szP a
 | []=>Nat.zero_le _
 | p::a=>by
   have:=p.2.size_pos;have:=pJ a;rw [List.length_cons,szP];omega
def dZ (pre:List Int) (i:Int):List Th->List (List Int×Th)
 | []=>[]
 | t::ts=>(pre++[i],t)::dZ pre (i+1) ts
theorem jD (pre:List Int) (i:Int):∀ ts,(dZ pre i ts).length=ts.length
 | []=>rfl
 | t::ts=>by rw [dZ,List.length_cons,List.length_cons,jD pre (i+1) ts]
theorem mY (pre:List Int) (i:Int):∀ ts,plP (dZ pre i ts)=pls pre i ts
 | []=>by rw [dZ,plP,pls]
 | t::ts=>by rw [dZ,plP,pls,mY pre (i+1) ts]
theorem nC (pre:List Int) (i:Int):∀ ts,szP (dZ pre i ts)=aw ts
 | []=>by rw [dZ,szP,aw]
 | t::ts=>by rw [dZ,szP,aw,nC pre (i+1) ts]
theorem mN (pre:List Int):∀ (i:Int) (ts:List Th) (j:Nat) (t:Th),ts[j]?=some t->(dZ pre i ts)[j]?=some (pre++[i+j],t)
 | i,[],j,t,e=>by simp at e
 | i,u::ts,0,t,e=>by simp at e;subst e;rw [dZ];simp
 | i,u::ts,j+1,t,e=>by
   rw [dZ,List.getElem?_cons_succ,mN pre (i+1) ts j t (by simpa using e)];have:i+1+(j:Int)=i+((j+1:Nat):Int):=by omega
   rw [this]
theorem nn (pre:List Int):∀ (i:Int) (ts:List Th) (p:List Int×Th),p∈dZ pre i ts->p.1.length=pre.length+1/\p.2∈ts
 | i,[],p,h=>by rw [dZ] at h;cases h
 | i,u::ts,p,h=>by
   rw [dZ] at h;rcases List.mem_cons.mp h with rfl | h
   · exact ⟨by simp,List.mem_cons_self ..⟩
   · have:=nn pre (i+1) ts p h;exact ⟨this.1,List.mem_cons_of_mem _ this.2⟩
def PAt (H:Hp) (p:List Int×Th) (a:Addr):Prop:=∃ pa ta,H a=some (.tup [.ref pa,.ref ta])/\H pa=some (.tup (p.1.map V.int))/\At H p.2 ta
def PsAt (H:Hp) (ps:List (List Int×Th)) (as:List Addr):Prop:=Paired (PAt H) ps as
theorem PAt.mono {H H':Hp} (k:KT H H') {p:List Int×Th} {a:Addr} (h:PAt H p a):PAt H' p a:=by
 obtain ⟨pa,ta,h1,h2,h3⟩:=h;exact ⟨pa,ta,k _ _ h1,k _ _ h2,h3.mono k⟩
theorem PsAt.mono {H H':Hp} (k:KT H H') {ps:List (List Int×Th)} {as:List Addr} (h:PsAt H ps as):PsAt H' ps as:=P2.mp (fun _ _ e=>PAt.mono k e) h
theorem P2.reverse {α β:Type} {F:α->β->Prop}:∀ {a:List α} {b:List β},Paired F a b->Paired F a.reverse b.reverse
 | _,_,.nil=>.nil
 | _,_,.cons r t=>by
   rw [List.reverse_cons,List.reverse_cons];exact P2.append (P2.reverse t) (.cons r .nil)
theorem P2.snoc_inv {α β:Type} {F:α->β->Prop} {a:List α} {b:List β} {y:β} (h:Paired F a (b++[y])):∃ us x,a=us++[x]/\Paired F us b/\F x y:=by
 have r:=P2.reverse h;rw [List.reverse_append,List.reverse_singleton,List.singleton_append] at r;cases e:a.reverse with
 | nil=>rw [e] at r;cases r
 | cons x us =>
   rw [e] at r;cases r with
   | cons h1 h2 =>
     refine ⟨us.reverse,x,?_,?_,h1⟩
     · rw [<- List.reverse_cons,<- e,List.reverse_reverse]
     · have:=P2.reverse h2;rw [List.reverse_reverse] at this;exact this
theorem lO {t u:Th} (h:u∈t.kids):u.tall+1<=t.tall:=by
 have:=cL h;rw [t.tall_eq];omega
theorem lB:∀ {ts:List Th} {t:Th},t∈ts->t.size<=aw ts
 | u::ts,t,h=>by
   rw [aw];rcases List.mem_cons.mp h with rfl | h
   · omega
   · have:=lB h;omega
theorem kx (n:Nat) (ts:List Th):aw (ts.take n)<=aw ts:=by
 have h:=aZ (ts.take n) (ts.drop n);rw [List.take_append_drop] at h;omega
end BB
namespace BB
open PySem L2
mutual
def Th.kn:Th->Nat
 | .knot _ ks=>kns ks+1
 | .call _ _=>0
def kns:List Th->Nat
 | []=>0
 | t::ts=>t.kn+kns ts
end
section
variable {ext:Th->List V} {H H':Hp} {t:Th} {a:Addr} {ts:List Th} {es:List Addr}
end
def Th.isCall:Th->Bool
 | .knot _ _=>false
 | .call _ _=>true
def uS:List Int×Th->Option (List Int×Int×Int)
 | (_,.knot _ _)=>none
 | (p,.call s k)=>some (p,s,k)
def ay (ps:List (List Int×Th)):List (List Int×Int×Int):=ps.filterMap uS
theorem dm (a b:List (List Int×Th)):ay (a++b)=ay a++ay b:=List.filterMap_append
theorem dF (a:List (List Int×Th)):(ay a).length<=a.length:=List.length_filterMap_le _ _
def CAt (H:Hp) (c:List Int×Int×Int) (a:Addr):Prop:=∃ pa ca,H a=some (.tup [.ref pa,.ref ca])/\H pa=some (.tup (c.1.map V.int))/\H ca=some (.tup [.int c.2.1,.int c.2.2])
def CsAt (H:Hp) (cs:List (List Int×Int×Int)) (as:List Addr):Prop:=Paired (CAt H) cs as
theorem CAt.mono {H H':Hp} (k:KT H H') {c:List Int×Int×Int} {a:Addr} (h:CAt H c a):CAt H' c a:=by
 obtain ⟨pa,ca,h1,h2,h3⟩:=h;exact ⟨pa,ca,k _ _ h1,k _ _ h2,k _ _ h3⟩
theorem CsAt.mono {H H':Hp} (k:KT H H') {cs:List (List Int×Int×Int)} {as:List Addr} (h:CsAt H cs as):CsAt H' cs as:=P2.mp (fun _ _ e=>CAt.mono k e) h
end BB
namespace BB
open PySem PySem.Spec PyProof.Rows L2
mutual
theorem DAt.inj {H:Hp}:∀ {d e:Dv} {v:V},DAt H d v->DAt H e v->d=e
 | .int i,.int j,v,h,g=>by rw [DAt] at h;rw [DAt] at g;rw [h] at g;cases g;rfl
 | .int i,.str y,v,h,g=>by rw [DAt] at h;rw [DAt] at g;rw [h] at g;cases g
 | .int i,.tup es,v,h,g=>by rw [DAt] at h;rw [DAt] at g;obtain ⟨a,vs,e,_⟩:=g;rw [h] at e;cases e
 | .str x,.int j,v,h,g=>by rw [DAt] at h;rw [DAt] at g;rw [h] at g;cases g
 | .str x,.str y,v,h,g=>by rw [DAt] at h;rw [DAt] at g;rw [h] at g;cases g;rfl
 | .str x,.tup es,v,h,g=>by rw [DAt] at h;rw [DAt] at g;obtain ⟨a,vs,e,_⟩:=g;rw [h] at e;cases e
 | .tup ds,.int j,v,h,g=>by rw [DAt] at h;rw [DAt] at g;obtain ⟨a,vs,e,_⟩:=h;rw [e] at g;cases g
 | .tup ds,.str y,v,h,g=>by rw [DAt] at h;rw [DAt] at g;obtain ⟨a,vs,e,_⟩:=h;rw [e] at g;cases g
 | .tup ds,.tup es,v,h,g=>by
   rw [DAt] at h;rw [DAt] at g;obtain ⟨a,vs,e1,h1,h2⟩:=h;obtain ⟨b,ws,e2,g1,g2⟩:=g;rw [e1] at e2;cases e2;rw [h1] at g1;cases g1;rw [DAts.inj h2 g2]
theorem DAts.inj {H:Hp}:∀ {ds es:List Dv} {vs:List V},DAts H ds vs->DAts H es vs->ds=es
 | [],[],vs,h,g=>rfl
 | [],e::es,vs,h,g=>by rw [DAts] at h;rw [DAts] at g;obtain ⟨v,r,z,_⟩:=g;rw [h] at z;cases z
 | d::ds,[],vs,h,g=>by rw [DAts] at h;rw [DAts] at g;obtain ⟨v,r,z,_⟩:=h;rw [g] at z;cases z
 | d::ds,e::es,vs,h,g=>by
   rw [DAts] at h;rw [DAts] at g;obtain ⟨v,r,z,h1,h2⟩:=h;obtain ⟨v',r',z',g1,g2⟩:=g;rw [z] at z';cases z';rw [DAt.inj h1 g1,DAts.inj h2 g2]
end
end BB
namespace L2
open PySem PySem.Spec PySem.SeqAt PyProof.Rows BB
open Classical in
theorem mJ {X:Cx} {pins:List (Addr×Obj)} {σ:St} {H:Hp} {s:Shared} (I:Inv X pins σ H s) {ds es:List Dv} {a b:Addr} {vs ws:List V} {A:Around} (ha:SqT X.K H a vs) (hb:SqT X.K H b ws) (hvs:DAts H ds vs) (hws:DAts H es ws) (hu:A.units<cLine)
 (ih:∀ (j:Nat) (d e:Dv) (x y:V) (u v:Value),ds[j]?=some d->DAt H d x->DAt H e y->RelV x u->RelV y v->EqAt A.in1 s u v (decide (d=e))):RcAt A s (.ref a) (.ref b) (decide (Dv.tup ds=Dv.tup es)):=by
 obtain ⟨its,r1,p1,_⟩:=I.tuple ha;obtain ⟨its2,r2,p2,_⟩:=I.tuple hb;have l1:its.length=ds.length:=by rw [<- r1.length,hvs.length]
 have l2:its2.length=es.length:=by rw [<- r2.length,hws.length]
 have hcmp:RcAt A s (.ref a) (.ref b) ((List.range (min its.toArray.size its2.toArray.size)).all (fun j=>decide (ds[j]?=es[j]?)) && its.toArray.size == its2.toArray.size):=by
  refine RcAt.tuples (show s.heap.IsTuple a its.toArray from p1) (show s.heap.IsTuple b its2.toArray from p2) hu fun j h1 h2=>?_;have h1':j<ds.length:=by rw [<- l1];simpa using h1
  have h2':j<es.length:=by rw [<- l2];simpa using h2
  have e1:ds[j]?=some ds[j]:=List.getElem?_eq_getElem h1';have e2:es[j]?=some es[j]:=List.getElem?_eq_getElem h2';obtain ⟨x',hx',dx⟩:=hvs.at e1;obtain ⟨y',hy',dy⟩:=hws.at e2;obtain ⟨u',hu',ru'⟩:=r1.get hx';obtain ⟨v',hv',rv'⟩:=r2.get hy';have e3:decide (ds[j]?=es[j]?)=decide (ds[j]=es[j]):=by rw [e1,e2];simp
  have e4:its.toArray[j]=u':=by
   rw [List.getElem?_eq_getElem (by rw [l1];exact h1')] at hu';simpa using hu'
  have e5:its2.toArray[j]=v':=by
   rw [List.getElem?_eq_getElem (by rw [l2];exact h2')] at hv';simpa using hv'
  rw [e3,e4,e5];exact ih j ds[j] es[j] x' y' u' v' e1 dx dy ru' rv'
 have e:decide (Dv.tup ds=Dv.tup es)=((List.range (min its.toArray.size its2.toArray.size)).all (fun j=>decide (ds[j]?=es[j]?)) && its.toArray.size == its2.toArray.size):=by
  rw [List.size_toArray,List.size_toArray,l1,l2];by_cases h:ds=es
  · subst h;rw [decide_eq_true rfl];symm;simp
  · rw [decide_eq_false (fun z=>h (Dv.tup.inj z))];symm;by_cases hl:ds.length=es.length
    · rw [hl,Nat.min_self]
      have:¬ ((List.range es.length).all (fun j=>decide (ds[j]?=es[j]?)))=true:=by
       intro z;apply h;apply List.ext_getElem?;intro j;by_cases hj:j<es.length
       · have:=List.all_eq_true.mp z j (List.mem_range.mpr hj);exact of_decide_eq_true this
       · rw [List.getElem?_eq_none (by omega),List.getElem?_eq_none (by omega)]
      rw [Bool.eq_false_iff.mpr this];rfl
    · have:(ds.length == es.length)=false:=by simpa using hl
      rw [this,Bool.and_false]
 rw [e];exact hcmp
open Classical in
theorem jq {X:Cx} {pins:List (Addr×Obj)} {σ:St} {H:Hp} {s:Shared} (I:Inv X pins σ H s):∀ (n:Nat) (d e:Dv),d.tot<=n->∀ (x y:V) (u v:Value) (A:Around),DAt H d x->DAt H e y->RelV x u->RelV y v->A.units+d.deep<cLine->EqAt A s u v (decide (d=e))
 | 0,d,e,hn,x,y,u,v,A,hd,he,ru,rv,hu=>by have:=d.tot_pos;omega
 | n+1,.int i,.int j,hn,x,y,u,v,A,hd,he,ru,rv,hu=>by
   rw [DAt] at hd;rw [DAt] at he;subst hd he;obtain ⟨t,rfl⟩:=ru;obtain ⟨t',rfl⟩:=rv
   have e:decide (Dv.int i=Dv.int j)=(i == j):=by
    by_cases h:i=j
    · subst h;simp
    · rw [decide_eq_false (fun z=>h (Dv.int.inj z))];simp [h]
   rw [e];exact EqAt.int_int i t j t'
 | n+1,.int i,.str b,hn,x,y,u,v,A,hd,he,ru,rv,hu=>by
   rw [DAt] at hd;rw [DAt] at he;subst hd he;obtain ⟨t,rfl⟩:=ru;obtain ⟨t',rfl⟩:=rv;rw [decide_eq_false (fun z=>by cases z)];exact EqAt.int_str i t b t'
 | n+1,.int i,.tup es,hn,x,y,u,v,A,hd,he,ru,rv,hu=>by
   rw [DAt] at hd;rw [DAt] at he;obtain ⟨a,vs,rfl,ha,_⟩:=he;subst hd;obtain ⟨t,rfl⟩:=ru;cases rv;obtain ⟨its,_,p,_⟩:=I.tuple (SqT.of (K:=X.K) ha);rw [decide_eq_false (fun z=>by cases z)];exact EqAt.int_tuple i t (show s.heap.IsTuple a its.toArray from p) (by omega)
 | n+1,.str b,.int j,hn,x,y,u,v,A,hd,he,ru,rv,hu=>by
   rw [DAt] at hd;rw [DAt] at he;subst hd he;obtain ⟨t,rfl⟩:=ru;obtain ⟨t',rfl⟩:=rv;rw [decide_eq_false (fun z=>by cases z)];exact EqAt.str_int b t j t'
 | n+1,.str b,.str c,hn,x,y,u,v,A,hd,he,ru,rv,hu=>by
   rw [DAt] at hd;rw [DAt] at he;subst hd he;obtain ⟨t,rfl⟩:=ru;obtain ⟨t',rfl⟩:=rv
   have e:decide (Dv.str b=Dv.str c)=(b == c):=by
    by_cases h:b=c
    · subst h;simp
    · rw [decide_eq_false (fun z=>h (Dv.str.inj z))];simp [h]
   rw [e];exact EqAt.str_str b t c t'
 | n+1,.str b,.tup es,hn,x,y,u,v,A,hd,he,ru,rv,hu=>by
   rw [DAt] at hd;rw [DAt] at he;obtain ⟨a,vs,rfl,ha,_⟩:=he;subst hd;obtain ⟨t,rfl⟩:=ru;cases rv;obtain ⟨its,_,p,_⟩:=I.tuple (SqT.of (K:=X.K) ha);rw [decide_eq_false (fun z=>by cases z)];exact EqAt.str_tuple b t (show s.heap.IsTuple a its.toArray from p) (by omega)
 | n+1,.tup ds,.int j,hn,x,y,u,v,A,hd,he,ru,rv,hu=>by
   rw [DAt] at hd;rw [DAt] at he;obtain ⟨a,vs,rfl,ha,_⟩:=hd;subst he;cases ru;obtain ⟨t,rfl⟩:=rv;obtain ⟨its,_,p,_⟩:=I.tuple (SqT.of (K:=X.K) ha);rw [decide_eq_false (fun z=>by cases z)];exact EqAt.tuple_int j t (show s.heap.IsTuple a its.toArray from p) (by omega)
 | n+1,.tup ds,.str b,hn,x,y,u,v,A,hd,he,ru,rv,hu=>by
   rw [DAt] at hd;rw [DAt] at he;obtain ⟨a,vs,rfl,ha,_⟩:=hd;subst he;cases ru;obtain ⟨t,rfl⟩:=rv;obtain ⟨its,_,p,_⟩:=I.tuple (SqT.of (K:=X.K) ha);rw [decide_eq_false (fun z=>by cases z)];exact EqAt.tuple_str b t (show s.heap.IsTuple a its.toArray from p) (by omega)
 | n+1,.tup ds,.tup es,hn,x,y,u,v,A,hd,he,ru,rv,hu=>by
   have hd0:=hd;have he0:=he;rw [DAt] at hd;rw [DAt] at he;obtain ⟨a,vs,rfl,ha,hvs⟩:=hd;obtain ⟨b,ws,rfl,hb,hws⟩:=he;cases ru;cases rv;by_cases hab:a=b
   · subst hab;rw [decide_eq_true (DAt.inj hd0 he0)];exact EqAt.same _
   rw [Dv.tot] at hn;rw [Dv.deep] at hu;refine EqAt.of_refs hab (mJ I (SqT.of ha) (SqT.of hb) hvs hws (by omega) fun j d e x' y' u' v' e1 dx dy ru' rv'=>?_);have q1:=px e1;have q2:=fc e1;refine jq I n d e (by omega) x' y' u' v' A.in1 dx dy ru' rv' ?_;show A.units+1+_<cLine;omega
def wA (K:PySem.W.Frag) (B:Nat):R2:=fun x y H Q=>∃ a b vs ws ds es,x=.ref a/\y=.ref b/\SqT K H a vs/\SqT K H b ws/\DAts H ds vs/\DAts H es ws/\cK ds<=B/\∀ b:Bool,(b=true↔ds=es)->Q (.bl b) H
open Classical in
theorem uI {X:Cx} {B:Nat} (hu:X.A.units+B+2<cLine):OpR X (compareOp .Eq) (wA X.K B):=by
 intro pins s σ H x y v u Q I rx ry h;obtain ⟨a,b,vs,ws,ds,es,rfl,rfl,ha,hb,hvs,hws,hB,q⟩:=h;cases rx;cases ry
 have r:RcAt X.A s (.ref a) (.ref b) (decide (Dv.tup ds=Dv.tup es)):=mJ I ha hb hvs hws (by omega) fun j d e x' y' u' v' e1 dx dy ru' rv'=>by
  have q2:=fc e1;refine jq I _ d e (Nat.le_refl _) x' y' u' v' X.A.in1 dx dy ru' rv' ?_;show X.A.units+1+_<cLine;omega
 refine r X.prog X.w X.xe _ ⟨.bl (decide (Dv.tup ds=Dv.tup es)),H,I,rfl,q _ ?_⟩;constructor
 · intro z;exact Dv.tup.inj (of_decide_eq_true z)
 · intro z;rw [z];exact decide_eq_true rfl
end L2
namespace BB
open PySem L2
theorem li:∀ {ks:List Th} {i:Nat} {w x:Th},ks[i]?=some w->aw (ks.set i x)+w.size=aw ks+x.size
 | [],i,w,x,h=>by simp at h
 | k::ks,0,w,x,h=>by
   simp at h;subst h;rw [List.set_cons_zero,aw,aw];omega
 | k::ks,i+1,w,x,h=>by
   have:=li (ks:=ks) (i:=i) (w:=w) (x:=x) (by simpa using h);rw [List.set_cons_succ,aw,aw];omega
end BB
namespace PySem
theorem bb_extendT (l:Addr) (items:Array Value) (n:Nat) (b:Addr) (items2:Array Value) (n2:Nat) (dd:Option Addr) (sl:Array (Option Value)) (g0:¬(!items.isEmpty && Builtin.List.listTooLong (items.size+items2.size))=true) (g1:items.size<=sizeLine) (g2:items.size+items2.size<=sizeLine+1) :
 Meets (Builtin.«list.extend» ⟨[.ref l,.ref b],[]⟩) (fun _ R s=>s.heap.get? l=some { cls:=.type "list",dict:=none,data:=.seq items n,slots:=#[] }/\s.heap.get? b=some { cls:=.type "tuple",dict:=dd,data:=.seq items2 n2,slots:=sl }/\R (.ok (.ret Value.none)) { s with heap:=s.heap.update l (Obj.mapSeq fun x=>x++items2),toks:=s.toks }) :=
 .of_wp fun prog w A R s h=>by
  obtain ⟨hp,g,d,tk,os⟩:=s;obtain ⟨hl,hb,h⟩:=h;have f1:=AutoSeq1.idx_int;have f2:=AutoSeq1.sub_tuple_tuple;have f3:=AutoSeq1.sub_list_list;have f4:=AutoSeq1.sub_tuple_list;have f5:=AutoSeq1.sub_list_tuple;have z2:(items++items2).size<=sizeLine+1:=by rw [Array.size_append];exact g2
  wp_walk using (wpAny_updateSeq hl rfl (hz:=g1) (_hz':=z2)),AutoSeq1.wpAny_loadPart' hl,AutoSeq1.wpAny_loadPart' hb
  exact ⟨_,rfl,h⟩
end PySem
namespace L2
open PySem PySem.Spec PyProof.Rows
section
variable {X:Cx}
def qU (K:PySem.W.Frag):V->List V->Hp->VK->Prop:=fun x vs H Q=>∃ l b xs zs,x=.ref l/\vs=[.ref b]/\H l=some (.lst xs)/\SqT K H b zs/\xs.length+zs.length<=sizeLine/\Q .non (upd H l (.lst (xs++zs)))
theorem jS:MtM X "list.extend" (qU X.K):=by
 intro pins s σ H x vs v us Q I rx rv h;obtain ⟨l,b,xs,zs,rfl,rfl,hH,hB,hz,q⟩:=h;cases rx;obtain ⟨u,rfl,ru⟩:=rv.one;cases ru;obtain ⟨z,its,n,r,hl,e⟩:=I.lstM hH;obtain ⟨its2,r2,p2,_⟩:=I.tuple hB;have hl2:=r2.length;obtain ⟨⟨cls2,dd2,data2,sl2⟩,e2,hc2,n2,hd2⟩:=p2;simp only at hc2 hd2;subst hc2 hd2;have hsz:its.toArray.size+its2.toArray.size<=sizeLine:=by rw [List.size_toArray,List.size_toArray];omega
 have hlong:¬ (!its.toArray.isEmpty && Builtin.List.listTooLong (its.toArray.size+its2.toArray.size))=true:=by
  rw [jy hsz,Bool.and_false];exact Bool.false_ne_true
 refine call_meets F.slot_list_extend ⟨_,e,rfl⟩ F.entry_list_extend (F.args_list_extend_2 _ _)
  (bb_extendT l its.toArray n b its2.toArray n2 dd2 sl2 hlong (by rw [List.size_toArray];omega) (by omega)) ⟨e,e2,?_⟩
 refine ⟨.non,_,I.lset (its':=its++its2) hH e (by simp) (r.append r2) ?_,rfl,q⟩;rw [List.length_append];omega
end
end L2
namespace BB
open PySem L2
theorem eO:∀ a b:List Th,aC (a++b)=max (aC a) (aC b)
 | [],b=>by rw [List.nil_append,aC];omega
 | t::a,b=>by rw [List.cons_append,aC,aC,eO a b];omega
def bd (ts:List Th):List Th:=(ts.map Th.kids).flatten
theorem cB (t:Th) (ts:List Th):bd (t::ts)=t.kids++bd ts:=by unfold bd;rw [List.map_cons,List.flatten_cons]
theorem fe (a b:List Th):bd (a++b)=bd a++bd b:=by unfold bd;rw [List.map_append,List.flatten_append]
theorem eL:∀ ts:List Th,aw (bd ts)+ts.length=aw ts
 | []=>by rfl
 | t::ts=>by
   have:=eL ts;have:=t.size_eq;rw [cB,aZ,List.length_cons,aw];omega
theorem ik:∀ {ts:List Th},ts≠[]->aC ts=aC (bd ts)+1
 | [],h=>absurd rfl h
 | [t],_=>by
   have:=t.tall_eq;rw [cB,eO,aC,aC];have:aC (bd [])=0:=by unfold bd;rw [List.map_nil,List.flatten_nil,aC]
   omega
 | t::u::ts,_=>by
   have h:=ik (ts:=u::ts) (by simp);have:=t.tall_eq;rw [cB,eO,aC];omega
def oS:Str:=Str.ofString "*"
theorem qW {x:Str} (h:Low x):x≠oS:=by
 intro e;subst e;have:=h 42 (by decide +kernel);omega
open Classical in
def Th.isHole:Th->Bool
 | .knot n ks=>decide (n=oS/\ks=[])
 | .call _ _=>false
def Th.isKnot (t:Th):Bool:=!t.isCall && !t.isHole
theorem gA:∀ (n:Nat) (ts:List Th),aw ts<=n->∀ x∈bi ts,x.tall<=aC ts
 | _,[],_,x,h=>by simp [bi] at h
 | 0,t::ts,hn,x,h=>by
   have:=t.size_pos;rw [aw] at hn;omega
 | n+1,t::ts,hn,x,h=>by
   have hs:=t.size_eq;have ht:=t.tall_eq;rw [aw] at hn;rw [aC];rw [bi,t.walk_eq,List.cons_append,List.mem_cons,List.mem_append] at h;rcases h with rfl | h | h
   · omega
   · have:=gA n t.kids (by omega) x h;omega
   · have:=gA n ts (by omega) x h;omega
theorem qw (t x:Th) (h:x∈t.walk):x.tall<=t.tall:=by
 have:=gA _ [t] (Nat.le_refl _) x (by simpa [bi] using h);simpa [aC] using this
end BB
namespace PySem
open Sem (wp)
namespace F
theorem bb_entry_upd:entryFor table "dict.update.loop"=some Builtin.«dict.update.loop»:=entryFor_of_tree (by kernel_rfl)
theorem bb_plain_upd:plainId "dict.update.loop"=true:=by decide +kernel
end F
section
variable {prog:Program} {w:World} {A:Around} {E:Value->Shared->Prop} {s:Shared} {a:Addr} {xs:Array Value} {k:Nat}
end
end PySem
namespace L2
open PySem PySem.Spec PyProof.Rows BB
section
variable {X:Cx}
end
end L2
namespace BB
open PySem L2
end BB
namespace HT
open PySem PySem.Spec PyProof.Rows
section
variable {prog:Program} {w:World} {A:Around} {E:Value->Shared->Prop} {s:Shared}
end
end HT
namespace L2
open PySem PySem.Spec PyProof.Rows
end L2
namespace PySem
open Sem (wp)
section
variable {prog:Program} {w:World} {A:Around} {E:Value->Shared->Prop} {s:Shared} {it d:Addr} {i ep:Nat} {od:Obj} {es:Array DictEntry}
theorem bb_keyNext {en:DictEntry} {Q:Option Value->Shared->Prop} (g:s.heap.IsKeyIter it d i es.size ep) (g1:s.heap.get? d=some od) (g2:od.data=.dict es ep) (hx:es[i]?=some en)
 (fin:∀ h',h'.IsKeyIter it d (i+1) es.size ep->Heap.SameBut it s.heap h'->Q (some en.key) { s with heap:=h' }):wpAny (model prog w) A (pyNext (.ref it)) Q E s:=by
 obtain ⟨o,q1,q2,q3⟩:=id g;unfold pyNext;refine wpAny_bind (wpAny_attempt (wpAny_callSpecial?_slot (name:=Str.ofString "__next__") g.typeIs F.slot_dict_keyiterator_next (wpAny_call_entry F.slot_dict_keyiterator_next g.typeIs F.entry_dict_keyiterator_next ?_ (F.args_dict_keyiterator_next_1 _))));refine wpAny_bind (wpAny_pure ?_);refine wpAny_bind ?_;refine wpAny_bind ?_
 first | refine wpAny_bind (wpAny_typeNameOfWhole_keyiter g.typeIs (wpAny_pure ?_)) | refine wpAny_bind (wpAny_typeNameOf_keyiter g.typeIs (wpAny_pure ?_))
 refine wpAny_bind (wpAny_fieldsOf q1 q3 ?_);have own:Builtin.Dict_items.ownsTuple "dict_keyiterator"=false:=by decide
 simp only [own,Bool.false_eq_true,if_false];show wpAny _ _ (if (Value.ref d == Value.none)=true then _ else _) _ _ s;rw [if_neg (show ¬ ((Value.ref d == Value.none)=true) from Bool.false_ne_true)];refine wpAny_bind (wpAny_pure ?_);refine wpAny_bind (wpAny_dictEntries g1 g2 ?_);rw [if_neg (by simp)];refine wpAny_bind (wpAny_pure ?_);refine wpAny_bind (wpAny_dictEpoch g1 g2 ?_);rw [if_neg (by simp)];refine wpAny_pure ?_;have lt:i<es.size:=(Array.getElem?_eq_some_iff.mp hx).1;have ee:es[i]=en:=(Array.getElem?_eq_some_iff.mp hx).2;simp only [show ¬ ((i:Int)<0) from by omega,if_false,Int.toNat_natCast,Array.getElem?_eq_getElem lt];refine wpAny_bind ?_
 first | refine wpAny_bind (wpAny_typeNameOfWhole_keyiter g.typeIs (wpAny_pure ?_)) | refine wpAny_bind (wpAny_typeNameOf_keyiter g.typeIs (wpAny_pure ?_))
 refine wpAny_bind (wpAny_isOneOf_keyiter g.typeIs ?_);show wpAny _ _ (setField (.ref it) 1 (rawInt ((i:Int)+1)) >>= _) _ _ s;refine wpAny_bind (wpAny_setField q1 q3 (by simp) ?_);have g':(s.heap.update it (Obj.mapFields (·.setIfInBounds 1 (rawInt ((i:Int)+1))))).IsKeyIter it d (i+1) es.size ep:=⟨_,Heap.get?_update_self _ q1 (Obj.isFreed_of_fields (Obj.data_mapFields q3 _)),(Obj.cls_mapFields ..).trans q2,by rw [Obj.data_mapFields q3];simp [rawInt]⟩;refine wpAny_bind (wpAny_holding ?_);refine wpAny_bind (wpAny_isOneOf_keyiter (s:={ s with heap:=s.heap.update it (Obj.mapFields (·.setIfInBounds 1 (rawInt ((i:Int)+1)))) }) g'.typeIs ?_);show wpAny _ _ (pure es[i].key) _ _ _;rw [ee];exact wpAny_pure (wpAny_pure ⟨_,rfl,wpAny_pure (fin _ g' (Heap.SameBut.update ..))⟩)
theorem bb_keyEnd {Q:Option Value->Shared->Prop} (calm:A.handled=none) (g:s.heap.IsKeyIter it d i es.size ep) (g1:s.heap.get? d=some od) (g2:od.data=.dict es ep) (hx:es.size<=i)
 (fin:∀ h',Heap.ExtBut it s.heap h'->Q none { s with heap:=h' }):wpAny (model prog w) A (pyNext (.ref it)) Q E s:=by
 obtain ⟨o,q1,q2,q3⟩:=id g;unfold pyNext;refine wpAny_bind (wpAny_attempt (wpAny_callSpecial?_slot (name:=Str.ofString "__next__") g.typeIs F.slot_dict_keyiterator_next (wpAny_call_entry F.slot_dict_keyiterator_next g.typeIs F.entry_dict_keyiterator_next ?_ (F.args_dict_keyiterator_next_1 _))));refine wpAny_bind (wpAny_pure ?_);refine wpAny_bind ?_;refine wpAny_bind ?_
 first | refine wpAny_bind (wpAny_typeNameOfWhole_keyiter g.typeIs (wpAny_pure ?_)) | refine wpAny_bind (wpAny_typeNameOf_keyiter g.typeIs (wpAny_pure ?_))
 refine wpAny_bind (wpAny_fieldsOf q1 q3 ?_);have own:Builtin.Dict_items.ownsTuple "dict_keyiterator"=false:=by decide
 simp only [own,Bool.false_eq_true,if_false];show wpAny _ _ (if (Value.ref d == Value.none)=true then _ else _) _ _ s;rw [if_neg (show ¬ ((Value.ref d == Value.none)=true) from Bool.false_ne_true)];refine wpAny_bind (wpAny_pure ?_);refine wpAny_bind (wpAny_dictEntries g1 g2 ?_);rw [if_neg (by simp)];refine wpAny_bind (wpAny_pure ?_);refine wpAny_bind (wpAny_dictEpoch g1 g2 ?_);rw [if_neg (by simp)];refine wpAny_pure ?_;simp only [show ¬ ((i:Int)<0) from by omega,if_false,Int.toNat_natCast,Array.getElem?_eq_none hx];refine wpAny_bind ?_
 first | refine wpAny_bind (wpAny_typeNameOfWhole_keyiter g.typeIs (wpAny_pure ?_)) | refine wpAny_bind (wpAny_typeNameOf_keyiter g.typeIs (wpAny_pure ?_))
 show wpAny _ _ (setField (.ref it) 0 .none >>= _) _ _ s;refine wpAny_bind (wpAny_setField q1 q3 (by simp) ?_);show wpAny _ _ (newExc (.type "StopIteration") [] >>= _) _ _ _;refine wpAny_bind ?_;simp only [newExc,newTuple];refine wpAny_bind (wpAny_newObj_type ?_ (by size_fits));refine wpAny_bind (m:=firstArgMember _ _) (wpAny_of_eq (a:=Value.none) (by first | rfl | (simp only [firstArgMember];rfl)) ?_);refine wpAny_newObj_type ?_ (by size_fits);simp only [raiseNew];refine wpAny_bind (wpAny_handled ?_)
 first | rw [show A.in1.handled=none from calm] | rw [calm]
 refine wpAny_bind (wpAny_pure (wpAny_throw ?_));refine wpAny_bind (wpAny_isInstance (T:="StopIteration") (b:=true) ⟨_,Heap.get?_push_size _ rfl,rfl⟩ isSubtype_stop ?_);exact wpAny_pure (fin _ (((Heap.SameBut.update ..).extBut.push _).push _))
theorem bb_keyIter {Q:Value->Shared->Prop} (ns:(d == sysModules)=false) (g1:s.heap.get? d=some od) (gc:od.cls=.type "dict") (g2:od.data=.dict es ep)
 (fin:Q (.ref s.heap.objs.size) { s with heap:=s.heap.push { cls:=.type "dict_keyiterator",data:=.fields #[.ref d,.int 0 0,.int es.size 0,.int ep 0] } }):wpAny (model prog w) A (pyIter (.ref d)) Q E s:=by
 have gT:s.TypeIs (.ref d) "dict":=⟨_,g1,gc⟩;refine wpAny_pyIter_slot gT F.slot_dict_iter (wpAny_call_entry F.slot_dict_iter gT F.entry_dict_iter ?_ (F.args_dict_iter_1 _));unfold Builtin.«dict.__iter__»;refine wpAny_bind ?_;unfold Builtin.Dict.dictSlotNone;refine wpAny_bind (wpAny_notOrdered_dict gT ?_);show wpAny _ _ (pure (Value.ref d)) _ _ s;refine wpAny_pure ?_;show wpAny _ _ (Builtin.Dict.showsAll d >>= _) _ _ s;unfold Builtin.Dict.showsAll;rw [if_neg (by rw [ns];exact Bool.false_ne_true)];refine wpAny_bind (wpAny_pure ?_);refine wpAny_bind (wpAny_dictEntries g1 g2 ?_);refine wpAny_bind (wpAny_dictEpoch g1 g2 ?_);refine wpAny_bind (wpAny_newObj_type (wpAny_pure ⟨_,rfl,"dict_keyiterator",_,⟨_,Heap.get?_push_size _ rfl,rfl⟩,F.slot_dict_keyiterator_next.lookup,?_⟩));simpa [rawInt] using fin
end
end PySem
namespace L2
open PySem PySem.Spec PyProof.Rows
theorem Inv.freeze {X:Cx} {pins:List (Addr×Obj)} {σ:St} {H:Hp} {s:Shared} {a:Addr} {kvs:List (List Key×V)} {o:Obj} (I:Inv X pins σ H s) (ha:H a=some (.dT kvs)) (ho:s.heap.get? a=some o):Inv X pins σ (upd H a (.frz o (.dT kvs))) s:=by
 have ne:∀ b u,H b=some u->u≠.dT kvs->b≠a:=fun b u e d z=>by rw [z,ha] at e;exact d (Option.some.inj e).symm
 have ht:∀ b xs,H b=some (.tup xs)->upd H a (.frz o (.dT kvs)) b=some (.tup xs):=fun b xs e=>by rw [ae (ne b _ e (by intro z;cases z))];exact e
 have hw:∀ c b,H b=some (.own c)->upd H a (.frz o (.dT kvs)) b=some (.own c):=fun c b e=>by rw [ae (ne b _ e (by intro z;cases z))];exact e
 have st:∀ b u,H b=some u->ObjOk X.prog X.w (upd H a (.frz o (.dT kvs))) s.heap b u:=fun b u e=>(I.hok b u e).stay (fun _ _ _ q=>q) (hw b) ht;refine I.step (g':=s.gens) (d':=s.drawn) (t':=s.toks) (ch:=[]) (fun _ z=>nomatch z) (fun b ob _ _ _ e _=>e) (fun b ob _ _ _ e _=>⟨ob.slots,e⟩) (fun b ob _ e n=>?_) (fun b ob _ e=>⟨ob,e⟩) ht (fun b ob u e=>?_) (fun b ps e=>⟨#[],?_⟩) (fun m hm=>hm) (fun b u e=>?_) I.bare
 · rw [ae (fun z=>by rw [z,ha] at n;cases n)];exact n
 · rw [ae (ne b _ e (by intro z;cases z))];exact e
 · rw [ae (ne b _ e (by intro z;cases z)),e];simp
 · by_cases hb:b=a
   · subst hb;rw [ac] at e;cases e;exact ⟨ho,st _ _ ha⟩
   · rw [ae hb] at e;exact st b u e
def ItD (a:Addr) (o:Obj):It:=⟨fun i H=>∃ kvs p,H a=some (.frz o (.dT kvs))/\kvs[i]?=some p,fun i H x H'=>H'=H/\∀ kvs,H a=some (.frz o (.dT kvs))->∃ p b,kvs[i]?=some p/\x=.ref b/\H b=some (.tup (p.1.map kV)),fun i H=>∃ kvs,H a=some (.frz o (.dT kvs))/\kvs.length=i⟩
theorem qi {P:Program} {w:World} {K:PySem.W.Frag} {tg:Expr} (a it:Addr) (o:Obj) (es:Array DictEntry) (ep:Nat) (hd:o.data=.dict es ep):iG P w K tg (ItD a o) [it] it (fun i h=>h.IsKeyIter it a i es.size ep) where
 mem:=by simp
 obj:=fun i h st b hb=>by
  have e:b=it:=by simpa using hb
  subst e;obtain ⟨ob,e,c,d⟩:=st;exact ⟨ob,e,fun v z=>by rw [d] at z;cases z⟩
 keep:=fun i h h' st k=>st.at fun ob e=>k it (by simp) ob e
 item:=by
  intro X hP hw hK hc i pins s σ H E I hf st hg;subst hP hw hK;obtain ⟨kvs,p,hq,hx⟩:=hg;obtain ⟨e0,z,y,xs,r,o',es',ep',h1,h2,h3,h4,h5⟩:=(show ObjOk X.prog X.w H s.heap a (.frz o (.dT kvs)) from I.hok a _ hq);rw [e0] at h1;cases h1;rw [hd] at h3;cases h3;obtain ⟨q',hq',hr⟩:=BB.P2.get r hx;have hen:es[i]?=some (entryOfKey (tupleKind (aT X.prog X.w)) q'):=by rw [<- Array.getElem?_toList,h4,List.getElem?_map,hq'];rfl
  obtain ⟨f0,f1,f2,f3,f4,f5⟩:=hf it (by simp);refine bb_keyNext st e0 hd hen fun h' st' sb=>?_;have I1:Inv X pins σ H { s with heap:=h' }:=I.turned (t':=s.toks) (fun b ob hb e=>(sb.2 b hb).trans e) f0 f1 f3 f4 f5;obtain ⟨ob,e,c,d⟩:=id st';refine ⟨_,rfl,lz (s:={ s with heap:=h' }) e c d (by decide) ⟨.ref q'.2.1,H,I1,rfl,⟨rfl,fun kvs' hk'=>?_⟩,st',fun b hb=>(hf b hb).1⟩⟩;rw [hq] at hk';cases hk';exact ⟨p,q'.2.1,hx,rfl,hr.2.1⟩
 done:=by
  intro X hP hw hK hc i pins s σ H E I hf st hg;subst hP hw hK;obtain ⟨kvs,hq,hx⟩:=hg;obtain ⟨e0,z,y,xs,r,o',es',ep',h1,h2,h3,h4,h5⟩:=(show ObjOk X.prog X.w H s.heap a (.frz o (.dT kvs)) from I.hok a _ hq);rw [e0] at h1;cases h1;rw [hd] at h3;cases h3;have hl:=Paired.length r
  have hl2:es.size=xs.length:=by
   have:=congrArg List.length h4;rw [List.length_map,Array.length_toList] at this;exact this
  obtain ⟨f0,f1,f2,f3,f4,f5⟩:=hf it (by simp);exact bb_keyEnd (I.ok.hd hc) st e0 hd (by omega) fun h' eb=>⟨rfl,I.turned (t':=s.toks) (fun b ob hb e=>eb b ob hb e) f0 f1 f3 f4 f5⟩
 self:=fun _ _ _ _ _ st h=>wpAny_pyIter_keyiter st h
section
variable {X:Cx} {e:Expr} {te:TE}
def vx (tl:TE):TI:=fun σ H R=>tl σ H fun x H1=>∃ a kvs,x=.ref a/\H1 a=some (.dT kvs)/\∀ o,R (ItD a o) (upd H1 a (.frz o (.dT kvs)))
theorem sP {tg:Expr} (he:PE X e te):PI X tg e (vx te):=by
 intro pins s σ H R I h;refine thn (he pins s σ H _ I h) fun v s1 ⟨x,H1,I1,r1,a,kvs,ex,ha,q⟩=>?_;subst ex;cases r1;obtain ⟨z,y,xs,r,o,es,ep,h1,h2,h3,h4,h5⟩:=(show ObjOk X.prog X.w H1 s1.heap a (.dT kvs) from I1.hok a _ ha);have I2:=I1.freeze ha h1;refine bb_keyIter y h1 h2.1 h3 ?_;refine ⟨s1.heap.objs.size,[s1.heap.objs.size],_,_,upd H1 a (.frz o (.dT kvs)),rfl,I2.kept (t':=s1.toks) fun b ob e=>Heap.get?_push_of_some _ e,qi a _ o es ep h3,⟨_,Heap.get?_push_size _ rfl,rfl,rfl⟩,fun b hb=>?_,q o⟩;have e:b=s1.heap.objs.size:=by simpa using hb
 subst e;exact I2.fpOk (Nat.le_refl _) (I2.hok.fresh (Nat.le_refl _))
theorem rN {a:Addr} {o:Obj} {kvs:List (List Key×V)} {g:TG} {tb:TS} {D:fu} {σ:St} {H:Hp} (Pv:Nat->St->Hp->Prop) (h0:Pv 0 σ H) (hl:∀ i σ H,i<=kvs.length->Pv i σ H->H a=some (.frz o (.dT kvs)))
 (hs:∀ i p b σ H,kvs[i]?=some p->H b=some (.tup (p.1.map kV))->Pv i σ H->g (.ref b) σ H fun σ2 H2=>tb { D with nx:=Pv (i+1),ct:=Pv (i+1),bk:=D.nx } σ2 H2) (hd:∀ σ H,Pv kvs.length σ H->D.nx σ H) :
 ∃ W:Nat->Nat->St->Hp->Prop,(∃ m,W 0 m σ H)/\∀ i m σ H,W i m σ H →
   ((ItD a o).stop i H/\D.nx σ H)∨((ItD a o).go i H/\∃ N:St->Hp->Prop,(∀ σ' H',N σ' H'->∃ m',m'<m/\W (i+1) m' σ' H')/\∀ x H',(ItD a o).yld i H x H'->g x σ H' fun σ2 H2=>tb { D with nx:=N,ct:=N,bk:=D.nx } σ2 H2):=by
 refine ⟨fun i m σ H=>m=kvs.length - i/\i<=kvs.length/\Pv i σ H,⟨kvs.length,by simp,Nat.zero_le _,h0⟩,?_⟩;rintro i m σ H ⟨rfl,hi,p⟩;have q:=hl i σ H hi p;by_cases hlt:i<kvs.length
 · refine .inr ⟨⟨kvs,kvs[i],q,List.getElem?_eq_getElem hlt⟩,Pv (i+1),fun σ' H' p'=>⟨kvs.length - (i+1),by omega,rfl,hlt,p'⟩,fun x H' y=>?_⟩;obtain ⟨e,y⟩:=y;subst e;obtain ⟨p1,b,e1,rfl,e2⟩:=y kvs q;exact hs i p1 b σ _ e1 e2 p
 · have e:i=kvs.length:=by omega
   subst e;exact .inl ⟨⟨kvs,q,rfl⟩,hd σ H p⟩
end
end L2
namespace BB
open PySem L2
end BB
namespace PySem
open Sem (wp)
end PySem
namespace L2
open PySem PySem.Spec PyProof.Rows BB
end L2
namespace BB
open PySem L2
theorem jB {k:Nat} {A:Around} (hr:L2.Room k A):A.units+150+2<cLine:=by
 have:=hr.un;omega
end BB
namespace BB
open PySem L2
end BB
namespace BB
open PySem L2
theorem nH {B:Nat}:∀ {fs ks:List Th},Paired (fun f t=>Th.size f<=t.size * B) fs ks->aw fs<=aw ks * B
 | _,_,.nil=>by rw [aw];exact Nat.zero_le _
 | _,_,.cons r h=>by
   have:=nH h;rw [aw,aw,Nat.add_mul];omega
theorem ly (t:Th):∀ n:Nat,aw (List.replicate n t)=n * t.size
 | 0=>by rw [List.replicate_zero,aw,Nat.zero_mul]
 | n+1=>by rw [List.replicate_succ,aw,ly t n,Nat.add_mul];omega
end BB
namespace L2
open PySem PySem.Spec PySem.SeqAt PyProof.Rows BB
end L2
namespace BB
open PySem L2
end BB
namespace BB
open PySem L2
end BB
namespace L2
open PySem PySem.Spec PySem.SeqAt PyProof.Rows BB
end L2
namespace BB
open PySem L2
end BB
namespace BB
open PySem L2
end BB
namespace L2
open PySem PySem.Spec PyProof.Rows BB
end L2
namespace BB
open PySem L2
end BB
namespace BB
open PySem L2
end BB
namespace L2
open PySem PySem.Spec PySem.Calls PyProof.Rows PySem.W
section
variable {prog:Program} {w:World} {A:Around} {E:Value->Shared->Prop} {h:Heap} {g:Array GenState} {d:Drawn} {t:Nat} {os:OsState} {a C:Addr} {o:Obj} {K:Frag}
end
end L2
namespace L2
open PySem PySem.Spec PySem.Calls PyProof.Rows PySem.W
section
variable {P:Program} {w:World} {K:PySem.W.Frag} {mg:Str->Option Value} {base:Heap} {N:List Str} {qual:Str} {scope:Scope} {f:Addr} {cd:Value} {A:Around} {outer:List Env} {s:Shared} {H:Hp} {E:XK}
end
end L2
namespace L2
open PySem PySem.Spec PySem.Calls PyProof.Rows PySem.W
section
variable {X:Cx} {pins:List (Addr×Obj)} {σ:St} {H:Hp} {s:Shared}
end
end L2
namespace L2
open PySem PySem.Spec PySem.Calls PyProof.Rows PySem.W
section
variable {P:Program} {w:World} {K:PySem.W.Frag} {mg:Str->Option Value} {base:Heap}
end
end L2
namespace L2
open PySem PySem.Spec PySem.Calls PyProof.Rows PySem.SeqAt
end L2
namespace L2
open PySem PySem.Spec PySem.Calls PyProof.Rows
end L2
namespace BB
open PySem
end BB
namespace L2
open PySem PySem.Spec PySem.Calls PyProof.Rows BB
section
variable {prog:Program} {w:World} {A:Around} {R:Result->Shared->Prop}
end
end L2
namespace PySem
section
variable {prog:Program} {w:World} {A:Around} {E:Value->Shared->Prop} {s:Shared}
end
end PySem
namespace L2
open PySem PySem.Spec PySem.Calls PyProof.Rows BB
end L2
namespace L2
open PySem PySem.Spec PySem.Calls PyProof.Rows BB
section
variable {X:Cx}
end
end L2
namespace BB
open PySem L2
theorem pF {α:Type} {js:List (Option Nat)} {g:TG} {tt:TT} {te:TE} {σ:St} {J:It} {H:Hp} {xs:List V} {fin:Addr->Hp->Prop} (zs:List α) (f:α->V) (hz:zs.length=xs.length) (hn:xs.length<=1000000)
 (hgo:∀ i H2,L2.Same H H2->i<xs.length->J.go i H2) (hstop:∀ H2,L2.Same H H2->J.stop xs.length H2) (hyld:∀ (i:Nat) H2 x H3,L2.Same H H2->i<xs.length->J.yld i H2 x H3->H3=H2/\xs[i]?=some x)
 (hb:∀ (i:Nat) x z H2 (R:VK) (W':Hp->Prop),xs[i]?=some x->zs[i]?=some z->L2.Same H H2->(∀ H3,L2.Same H2 H3->R (f z) H3)->g x (cσ js σ) H2 fun σ2 H3=>tt σ2 H3 fun b H4=>if b=true then te σ2 H4 R else W' H4)
 (hfin:∀ D H',H D=none->L2.Same H H'->H' D=some (.lst (zs.map f))->fin D H') :
 ∀ D,H D=none->∃ (n:Nat) (W:Nat->Hp->Prop),W 0 (upd H D (.lst []))/\eU js g tt te σ J D n W fun H'=>fin D H':=by
 intro D hD;refine ⟨xs.length,fun i H'=>i<=xs.length/\L2.Same H H'/\H' D=some (.lst ((zs.take i).map f)),⟨Nat.zero_le _,af hD _,by rw [ac];rfl⟩,?_⟩;rintro i H' ⟨hi,s1,e1⟩;by_cases hlt:i<xs.length
 · refine .inr ⟨hlt,hgo i H' s1 hlt,fun v H1 hy=>?_⟩;obtain ⟨e,hx⟩:=hyld i H' v H1 s1 hlt hy;subst e;obtain ⟨z,hz'⟩:∃ z,zs[i]?=some z:=⟨_,List.getElem?_eq_getElem (by omega)⟩;refine hb i v z _ _ _ hx hz' s1 fun H3 s3=>⟨_,s3 _ _ e1,?_,hlt,aH (s1.trans s3) hD,?_⟩
   · rw [List.length_map,List.length_take];have:sizeLine=16777216:=sizeLine_eq;omega
   · rw [ac,iC hz',List.map_append];rfl
 · have hi':i=xs.length:=by omega
   subst hi';refine .inl ⟨hstop _ s1,hfin D H' hD s1 ?_⟩;rw [e1,List.take_of_length_le (by omega)]
theorem mR {α:Type} {K:PySem.W.Frag} {a:Addr} {js:List (Option Nat)} {g:TG} {tt:TT} {te:TE} {σ:St} {H:Hp} {xs:List V} {fin:Addr->Hp->Prop} (zs:List α) (f:α->V) (hS:SqT K H a xs) (hz:zs.length=xs.length) (hn:xs.length<=1000000)
 (hb:∀ (i:Nat) x z H2 (R:VK) (W':Hp->Prop),xs[i]?=some x->zs[i]?=some z->L2.Same H H2->(∀ H3,L2.Same H2 H3->R (f z) H3)->g x (cσ js σ) H2 fun σ2 H3=>tt σ2 H3 fun b H4=>if b=true then te σ2 H4 R else W' H4)
 (hfin:∀ D H',H D=none->L2.Same H H'->H' D=some (.lst (zs.map f))->fin D H') :
 ∀ D,H D=none->∃ (n:Nat) (W:Nat->Hp->Prop),W 0 (upd H D (.lst []))/\eU js g tt te σ (Itt K a) D n W fun H'=>fin D H' :=
 pF zs f hz hn (fun i H2 s hi=>⟨xs,xs[i],s.seqT hS,List.getElem?_eq_getElem hi⟩) (fun H2 s=>⟨xs,s.seqT hS,Nat.le_refl _⟩) (fun i H2 x H3 s hi hy=>⟨hy.1,hy.2 xs (s.seqT hS)⟩) hb hfin
theorem cR {α:Type} {K:PySem.W.Frag} {a:Addr} {js:List (Option Nat)} {g:TG} {tt:TT} {te:TE} {σ:St} {H:Hp} {xs:List V} {fin:Addr->Hp->Prop} (zs:List α) (f:α->V) (hS:SqL K H a xs) (hz:zs.length=xs.length) (hn:xs.length<=1000000)
 (hb:∀ (i:Nat) x z H2 (R:VK) (W':Hp->Prop),xs[i]?=some x->zs[i]?=some z->L2.Same H H2->(∀ H3,L2.Same H2 H3->R (f z) H3)->g x (cσ js σ) H2 fun σ2 H3=>tt σ2 H3 fun b H4=>if b=true then te σ2 H4 R else W' H4)
 (hfin:∀ D H',H D=none->L2.Same H H'->H' D=some (.lst (zs.map f))->fin D H') :
 ∀ D,H D=none->∃ (n:Nat) (W:Nat->Hp->Prop),W 0 (upd H D (.lst []))/\eU js g tt te σ (Itl K a) D n W fun H'=>fin D H' :=
 pF zs f hz hn (fun i H2 s hi=>⟨xs,xs[i],s.seq hS,List.getElem?_eq_getElem hi⟩) (fun H2 s=>⟨xs,s.seq hS,Nat.le_refl _⟩) (fun i H2 x H3 s hi hy=>⟨hy.1,hy.2 xs (s.seq hS)⟩) hb hfin
end BB
namespace HT
open PySem PySem.Spec PyProof.Rows
section
variable {prog:Program} {w:World} {A:Around} {E:Value->Shared->Prop} {s:Shared}
theorem adjust_back (n:Nat):Builtin.Slice.sliceAdjust none none (-1) (n:Int)=((n:Int) - 1,-1):=rfl
theorem places_back (n:Nat):Builtin.Slice.slicePlaces ((n:Int) - 1) (-1) (-1)=n:=by
 unfold Builtin.Slice.slicePlaces;have h1:¬ ((-1:Int) > 0):=by omega
 simp only [h1,if_false];by_cases h:n=0
 · subst h;decide
 · have h2:((n:Int) - 1) > -1:=by omega
   simp only [h2,if_true];rw [show (- -1:Int)=1 by decide,Int.ediv_one];omega
theorem pick_back (xs:Array Value):((List.range xs.size).filterMap fun (m:Nat)=>xs[(((xs.size:Nat):Int) - 1+(m:Int) * (-1)).toNat]?).toArray=xs.toList.reverse.toArray:=by
 congr 1
 have e:∀ m∈List.range xs.size,xs[(((xs.size:Nat):Int) - 1+(m:Int) * (-1)).toNat]?=xs.toList.reverse[m]?:=by
  intro m hm;have hm':=List.mem_range.mp hm;rw [List.getElem?_reverse (by rw [Array.length_toList];exact hm'),Array.getElem?_toList,Array.length_toList];congr 1;omega
 have f:∀ (l:List Nat) (f g:Nat->Option Value),(∀ m∈l,f m=g m)->l.filterMap f=l.filterMap g:=by
  intro l f g;induction l with
  | nil=>intro _;rfl
  | cons y ys ih =>
    intro h;rw [List.filterMap_cons,List.filterMap_cons,h y (by simp),ih (fun m hm=>h m (by simp [hm]))]
 rw [f _ _ _ e]
 have gl:∀ (ys:List Value),(List.range ys.length).filterMap (fun m=>ys[m]?)=ys:=by
  intro ys;have:=pick_run ys.toArray 0 ys.length;simp only [List.filterMap_map] at this
  have e3:((fun x=>ys.toArray[x]?) ∘ fun x=>0+x)=fun m=>ys[m]?:=by
   funext m;simp
  rw [e3] at this;rw [this];simp
 have:=gl xs.toList.reverse;rw [List.length_reverse,Array.length_toList] at this;exact this
theorem sliceApplied_back {sl:Addr} {n:Nat} {t:Tok} {Q:Int×Int×Nat->Shared->Prop} (hs:s.heap.IsSliceOf sl .none .none (.int (-1) t))
 (h:Q ((n:Int) - 1,-1,n) s):wpAny (model prog w) A (Builtin.Slice.sliceApplied (.ref sl) (pure (n:Int))) Q E s:=by
 obtain ⟨os,hos,hcs,hds⟩:=id hs;unfold Builtin.Slice.sliceApplied Builtin.Slice.sliceFields;refine wpAny_bind (wpAny_bind (wpAny_field hos hds (x:=.none) rfl (wpAny_bind (wpAny_field hos hds (x:=.none) rfl (wpAny_bind (wpAny_field hos hds (x:=.int (-1) t) rfl (wpAny_pure ?_)))))));refine wpAny_bind (slicePart_int ?_);show wpAny _ _ (if ((-1:Int) == 0)=true then _ else _) _ _ s;rw [if_neg (by decide)];refine wpAny_bind (slicePart_none (wpAny_bind (slicePart_none (wpAny_bind (wpAny_pure ?_)))));show wpAny _ _ (match Builtin.Slice.sliceAdjust none none (-1) (n:Int) with | (lo,hi)=>pure (lo,(-1:Int),Builtin.Slice.slicePlaces lo hi (-1))) _ _ s;rw [adjust_back n];show wpAny _ _ (pure ((n:Int) - 1,(-1:Int),Builtin.Slice.slicePlaces ((n:Int) - 1) (-1) (-1))) _ _ s;rw [places_back];exact wpAny_pure h
theorem getItem_tuple_back {t sl:Addr} {items:Array Value} {tk:Tok} {Q:Value->Shared->Prop} (ht:IsTup s.heap t items) (hs:s.heap.IsSliceOf sl .none .none (.int (-1) tk))
 (h:Q (.ref s.heap.objs.size) { s with heap:=s.heap.push { cls:=.type "tuple",data:=.seq items.toList.reverse.toArray } })
 (hsz:items.size<=sizeLine):wpAny (model prog w) A (getItem (.ref t) (.ref sl)) Q E s:=by
 have htake:sizeOk (.seq items.toList.reverse.toArray):=by
  show items.toList.reverse.toArray.size<=sizeLine;rw [List.size_toArray,List.length_reverse,Array.length_toList];exact hsz
 obtain ⟨os,hos,hcs,hds⟩:=id hs;have hTs:s.TypeIs (.ref sl) "slice":=⟨os,hos,hcs⟩;unfold getItem
 try with_reducible refine wpAny_holding ?_
 first | refine wpAny_bind (wpAny_pure ?_) | skip
 refine wpAny_bind (wpAny_sequenceKey ht.typeIs (by decide) ?_)
 refine wpAny_bind (wpAny_callSpecial?_slot (name:=Str.ofString "__getitem__") ht.typeIs PyProof.Rows.slot_tuple_getitem
  (wpAny_call_entry PyProof.Rows.slot_tuple_getitem ht.typeIs entry_tuple_getitem ?_ (args_tuple_getitem _ _)))
 show wpAny _ _ (Builtin.Tuple.tupleItemsOf (.ref t) >>= _) _ _ s;refine wpAny_bind (tupleItemsOf_ ht ?_);refine wpAny_bind (wpAny_typeOf hTs ?_);rw [if_pos (by decide)];refine wpAny_bind (sliceApplied_back hs ?_)
 have hno:¬ ((((items.size:Nat):Int) - 1 == 0 && (-1:Int) == 1 && items.size == items.size)=true):=by
  simp
 show wpAny _ _ (if (((items.size:Nat):Int) - 1 == 0 && (-1:Int) == 1 && items.size == items.size)=true then _ else _) _ _ s;rw [if_neg hno,pick_back]
 first
  | exact wpAny_bind (m:=Builtin.Tuple.tupleExact _) (wpAny_newObj_type (wpAny_pure ⟨_,rfl,wpAny_pure h⟩) htake)
  | exact wpAny_bind (m:=Builtin.Tuple.tupleExact _) (wpAny_newObj_type (wpAny_bind (wpAny_pure (wpAny_pure ⟨_,rfl,wpAny_pure h⟩))) htake)
  | exact wpAny_bind (wpAny_bind (m:=Builtin.Tuple.tupleExact _) (wpAny_newObj_type (wpAny_pure (wpAny_pure ⟨_,rfl,wpAny_pure h⟩)) htake))
  | exact wpAny_bind (wpAny_bind (m:=Builtin.Tuple.tupleExact _) (wpAny_newObj_type (wpAny_pure ⟨_,rfl,wpAny_pure h⟩) htake))
end
end HT
namespace L2
open PySem PySem.Spec PyProof.Rows
section
variable {X:Cx} {e:Expr} {te:TE} {pos p2 p3 p4:Pos}
def BkR (X:Cx) (r:V->Hp->VK->Prop):Prop :=
 ∀ (pins:List (Addr×Obj)) (s:Shared) (σ:St) (H:Hp) (x:V) (v:Value) (t:Tok) (sl:Addr) (Q:VK),Inv X pins σ H s->RelV x v->s.heap.IsSliceOf sl .none .none (.int (-1) t)->r x H Q →
   ∃ T id,typeLookup (.type T) "__getitem__"=pure (some (.builtin id))/\s.TypeIs v T/\wpAny (model X.prog X.w) X.A (getItem v (.ref sl)) (EP X pins σ Q) X.xe s
def tBk (r:V->Hp->VK->Prop) (te:TE):TE:=fun σ H Q=>te σ H fun x H1=>r x H1 Q
theorem o8 {r:V->Hp->VK->Prop} (hr:BkR X r) (he:PE X e te):PE X (.Subscript e (.Slice none none (some (.UnaryOp .USub (.Constant (.int 1) 0 p3) p4)) p2) pos) (tBk r te):=by
 intro pins s σ H Q I h;refine Subscript_ (thn (he pins s σ H _ I h) fun v s1 ⟨x,H1,I1,r1,q1⟩=>?_);refine wpAny_Slice ?_;rw [evalPart_none];refine wpAny_pure ?_;refine wpAny_pure ?_;have hs1:PO X (some (.UnaryOp .USub (.Constant (.int 1) 0 p3) p4)) (t9 (tUn (rU fun i=>.int (-i)) (tC (.int 1)))):=bP (vq uM ai);refine thn (hs1 pins s1 σ H1 (fun o H'=>o=some (-1)/\r x H' Q) I1 ⟨1,rfl,_,rfl,rfl,q1⟩) fun vs s2 ⟨o,H2,I2,ps,ho,q2⟩=>?_;subst ho;cases ps with
 | int i t =>
   have I4:Inv X pins σ H2 { s2 with heap:=s2.heap.push { cls:=.type "slice",data:=.fields #[.none,.none,.int (-1) t] } }:=I2.kept (t':=s2.toks) fun b ob q=>Heap.get?_push_of_some _ q;obtain ⟨T,id,hT,ht,hg⟩:=hr pins { s2 with heap:=s2.heap.push { cls:=.type "slice",data:=.fields #[.none,.none,.int (-1) t] } } σ H2 x v t s2.heap.objs.size Q I4 r1 (Heap.IsSliceOf.new ..) q2;show wpAny (model X.prog X.w) X.A (subscriptTail e (.Slice none none (some (.UnaryOp .USub (.Constant (.int 1) 0 p3) p4)) p2) v (.ref s2.heap.objs.size)) (EP X pins σ Q) X.xe { s2 with heap:=s2.heap.push { cls:=.type "slice",data:=.fields #[.none,.none,.int (-1) t] } };exact tail_any (ops:=[v,.ref s2.heap.objs.size]) ht hT hg (by with_unfolding_all rfl)
def v9 (K:PySem.W.Frag):V->Hp->VK->Prop:=fun x H Q=>∃ a xs,x=.ref a/\SqT K H a xs/\∀ p,H p=none->Q (.ref p) (upd H p (.tup xs.reverse))
def wu (K:PySem.W.Frag):V->Hp->VK->Prop:=fun x H Q=>∃ a xs,x=.ref a/\SqL K H a xs/\∀ p,H p=none->Q (.ref p) (upd H p (.lst xs.reverse))
theorem Vals.rev {xs:List V} {us:List Value} (r:Vals xs us):Vals xs.reverse us.reverse:=by
 induction r with
 | nil=>exact .nil
 | cons r1 r2 ih=>rw [List.reverse_cons,List.reverse_cons];exact ih.append (.cons r1 .nil)
theorem uA:BkR X (v9 X.K):=by
 intro pins s σ H x v t sl Q I rx hs h;obtain ⟨a,xs,rfl,hx,q⟩:=h;cases rx;obtain ⟨its,r,ht,hz⟩:=I.tuple hx;have hlen:its.toArray.size=xs.length:=by rw [List.size_toArray];exact r.length.symm
 refine ⟨"tuple",_,PyProof.Rows.slot_tuple_getitem.lookup,ht.typeIs,?_⟩;refine HT.getItem_tuple_back ht hs ?_ (by rw [hlen];exact hz);refine ⟨.ref s.heap.objs.size,_,I.laid (t':=s.toks) (o:=.tup xs.reverse) (fun b ob q=>Heap.get?_push_of_some _ q) (Nat.le_refl _) ?_,rfl,q _ (I.hok.fresh (Nat.le_refl _))⟩;exact ⟨by rw [List.length_reverse];exact hz,_,0,r.rev,Heap.get?_push_size _ rfl⟩
theorem j5 (its:List Value):slicePick its.toArray none none (some (-1))=its.reverse.toArray:=by
 unfold slicePick;have e:sliceBounds none none (some (-1)) its.toArray.size=((its.toArray.size:Int) - 1,-1,-1):=rfl;rw [e];unfold sliceRange;have h1:¬ ((-1:Int) > 0):=by omega
 simp only [h1,if_false]
 have hc:(if ((its.toArray.size:Nat):Int) - 1 > -1 then (((its.toArray.size:Nat):Int) - 1 - -1 - -1 - 1) / (- -1) else 0).toNat=its.toArray.size:=by
  by_cases h:its.toArray.size=0
  · rw [h];decide
  · rw [if_pos (by omega),show (- -1:Int)=1 by decide,Int.ediv_one];omega
 rw [hc,List.filterMap_map];have:=HT.pick_back its.toArray;rw [<- this];congr 1;congr 1;funext m;show its.toArray[(((its.toArray.size:Nat):Int) - 1+-1 * (m:Int)).toNat]?=_;rw [Int.mul_comm]
theorem tz:BkR X (wu X.K):=by
 intro pins s σ H x v t sl Q I rx hs h;obtain ⟨a,xs,rfl,hx,q⟩:=h;cases rx;obtain ⟨its,r,ht,hz⟩:=I.list hx;have hlen:=r.length;refine ⟨"list",_,slot_list_getitem.lookup,ht.isList.typeIs,?_⟩;refine wpAny_getItem_list_slice ht.isList hs .none .none (.int _ _) (by simp) ?_ (by rw [List.size_toArray] <;> omega);rw [j5];refine ⟨.ref s.heap.objs.size,_,I.laid (t':=s.toks) (o:=.lst xs.reverse) (fun b ob q=>Heap.get?_push_of_some _ q) (Nat.le_refl _) ?_,rfl,q _ (I.hok.fresh (Nat.le_refl _))⟩;exact ⟨by rw [List.length_reverse];exact hz,_,0,r.rev,Heap.get?_push_size _ rfl⟩
end
end L2
namespace L2
open PySem PySem.Spec PySem.Calls PyProof.Rows
section
variable {X:Cx}
end
end L2
namespace L2
open PySem PySem.Spec PySem.Calls PyProof.Rows
def nO (z:Str) (n:Nat):Str:=⟨(List.replicate n z.cps).foldl (·++·) #[]⟩
theorem nu (c:Nat):∀ (n:Nat) (a:Array Nat),(List.replicate n #[c]).foldl (·++·) a=a++(List.replicate n c).toArray
 | 0,a=>by simp
 | n+1,a=>by
   rw [List.replicate_succ,List.foldl_cons,nu c n,List.replicate_succ,Array.append_assoc];congr 1;simp
theorem jI (c n:Nat):nO ⟨#[c]⟩ n=⟨(List.replicate n c).toArray⟩:=by
 unfold nO;rw [nu];simp
theorem ig (c n:Nat):(nO ⟨#[c]⟩ n).length=n:=by
 rw [jI];show (List.replicate n c).toArray.size=n;simp
section
variable {X:Cx}
def vo:R2:=fun x y H Q=>∃ (c:Nat) (n:Int),x=.str ⟨#[c]⟩/\y=.int n/\1<=n/\n<=1000/\Q (.str (nO ⟨#[c]⟩ n.toNat)) H
theorem tj:OpR X (binaryOp .Mult) vo:=by
 intro pins s σ H x y v u Q I rx ry h;obtain ⟨c,n,rfl,rfl,h1,h2,q⟩:=h;obtain ⟨t,rfl⟩:=rx;obtain ⟨t',rfl⟩:=ry;have hlen:(⟨#[c]⟩:Str).length=1:=rfl;refine PySem.P.mul_str ?_ ?_ ?_ ?_
 · rw [decide_eq_false (by omega),decide_eq_false (by omega)];rfl
 · intro _ _;rw [hlen]
   have:(1:Int)<=(2 ^ 63 - 1) / n:=by
    rw [Int.le_ediv_iff_mul_le (by omega)];omega
   show ¬ ((1:Nat):Int) > (2 ^ 63 - 1) / n;omega
 · intro _ _;rw [hlen,Nat.one_mul];have:sizeLine=16777216:=sizeLine_eq;exact decide_eq_false (by omega)
 · rw [if_neg (by omega)];by_cases hn:n=1
   · subst hn;rw [if_pos (by rfl)];exact ⟨.str ⟨#[c]⟩,H,I,⟨_,rfl⟩,by rw [show nO ⟨#[c]⟩ (1:Int).toNat=⟨#[c]⟩ from jI c 1] at q;exact q⟩
   · rw [if_neg (by rw [hlen];simp;omega)];refine ⟨?_,⟨.str (nO ⟨#[c]⟩ n.toNat),H,I.tok _,⟨_,rfl⟩,q⟩⟩;show (nO ⟨#[c]⟩ n.toNat).length<=sizeLine;have:sizeLine=16777216:=sizeLine_eq;rw [ig];omega
def vQ (i j:Int):Prop:=0<j/\j<2 ^ 62
theorem qE:OpR X (binaryOp .FloorDiv) (rI vQ fun i j=>.int (i / j)):=opI fun i j _ _ _ _ _ hc q=>by
 have h1:(0:Int)<j:=hc.1;have h2:j<2 ^ 62:=hc.2;refine floordiv_int (by omega) (by rw [Int.fdiv_eq_ediv_of_nonneg i (by omega)];exact q) (.inl (PyProof.noPylong_of_log2 ?_));have:j.natAbs.log2<62:=(Nat.log2_lt (by omega)).mpr (by omega);omega
def u9 (z:Str):Value->Bool
 | .str y _=>y == z
 | _=>false
def ph (K:PySem.W.Frag):V->List V->Hp->VK->Prop:=fun x vs H Q=>∃ (l:Addr) (zs:List Str) (z:Str) (j:Nat),x=.ref l/\vs=[.str z]/\SqL K H l (zs.map V.str)/\zs[j]?=some z/\(∀ i,i<j->zs[i]?≠some z)/\zs.length<=100000/\Q (.int (j:Nat)) H
theorem p6:MtM X "list.index" (ph X.K):=by
 intro pins s σ H x vs v us Q I rx rv h;obtain ⟨l,zs,z,j,rfl,rfl,hS,hj,hno,hz,q⟩:=h;cases rx;obtain ⟨u,rfl,t,rfl⟩:=rv.one;obtain ⟨its,r,pl,_⟩:=I.list hS;have hlen:=r.length;rw [List.length_map] at hlen;obtain ⟨⟨cls,dd,data,sl⟩,ho,hc,n,hd⟩:=pl.isList;simp only at hc hd;subst hc hd;have hjl:j<zs.length:=(List.getElem?_eq_some_iff.mp hj).1
 have get:∀ m,m<zs.length->∃ y t',its[m]?=some (.str y t')/\zs[m]?=some y:=fun m hm=>by
  obtain ⟨v,hv,rv⟩:=r.get (i:=m) (x:=.str zs[m]) (by rw [List.getElem?_map,List.getElem?_eq_getElem hm];rfl);obtain ⟨t',rfl⟩:=rv;exact ⟨_,t',hv,List.getElem?_eq_getElem hm⟩
 refine call_meets PySem.F.slot_list_index ⟨_,ho,rfl⟩ PySem.F.entry_list_index (PySem.F.args_list_index_2 _ _)
  (SeqAt.list_indexAt l its.toArray n dd sl (.str z t) (u9 z) j (by rw [List.size_toArray];omega) (by omega) ?_ ?_) ⟨ho,fun y hy=>?_,⟨.int (j:Nat),H,I.tok _,⟨_,rfl⟩,q⟩⟩
 · obtain ⟨y,t',h1,h2⟩:=get j hjl;rw [hj] at h2;cases h2
   have h3:its.toArray[j]'(by rw [List.size_toArray];omega)=.str z t':=by
    rw [List.getElem?_eq_getElem (by omega)] at h1;simpa using h1
   rw [h3];show (z == z)=true;simp
 · intro m hm hlt;obtain ⟨y,t',h1,h2⟩:=get m (by omega)
   have h3:its.toArray[m]'hm=.str y t':=by
    rw [List.getElem?_eq_getElem (by omega)] at h1;simpa using h1
   rw [h3];show (y == z)=false;refine Bool.eq_false_iff.mpr fun e=>hno m hlt ?_;rw [h2,beq_iff_eq.mp e]
 · have hy':y∈its:=by simpa using hy
   obtain ⟨m,hm,rfl⟩:=List.getElem_of_mem hy';obtain ⟨y,t',h1,h2⟩:=get m (by omega);rw [List.getElem?_eq_getElem hm] at h1;have h3:=Option.some.inj h1;rw [h3];exact SeqAt.EqAt.str_str _ _ _ _
end
end L2
namespace BB
open PySem L2
structure bx (ks:List (Str×Int)):Prop where
 ne:1<=ks.length
 le:ks.length<=8
 low:∀ k∈ks,Low k.1/\k.1.length<=8
 num:∀ k∈ks,0<=k.2/\k.2<=3
 zero:∃ k∈ks,k.2=0
 nd:∀ (i j:Nat) (k l:Str×Int),ks[i]?=some k->ks[j]?=some l->k.1=l.1->i=j
mutual
/-- a pattern over kinds,its calls of so many states and kids -/
def Th.FitS (ks:List (Str×Int)) (S C:Int):Th->Prop
 | .knot n ts=>(n,(ts.length:Int))∈ks/\FitSs ks S C ts
 | .call s k=>0<=s/\s<S/\0<=k/\k<C
def FitSs (ks:List (Str×Int)) (S C:Int):List Th->Prop
 | []=>True
 | t::ts=>t.FitS ks S C/\FitSs ks S C ts
end
theorem FitSs.of {ks:List (Str×Int)} {S C:Int}:∀ {ts:List Th},(∀ t∈ts,t.FitS ks S C)->FitSs ks S C ts
 | [],_=>by rw [FitSs];trivial
 | t::ts,h=>by
   rw [FitSs];exact ⟨h t (List.mem_cons_self ..),FitSs.of fun u hu=>h u (List.mem_cons_of_mem _ hu)⟩
theorem dR {ts:List Th} {n:Nat} (h:∀ t∈ts,t.tall<=n):aC ts<=n:=by
 induction ts with
 | nil=>rw [aC];exact Nat.zero_le _
 | cons t ts ih =>
   rw [aC];have h1:=h t (List.mem_cons_self ..);have h2:=ih fun u hu=>h u (List.mem_cons_of_mem _ hu);omega
def SameB (l:Addr) (H H':Hp):Prop:=∀ b o,b≠l->H b=some o->H' b=some o
theorem SameB.refl {l:Addr} {H:Hp}:SameB l H H:=fun _ _ _ e=>e
theorem SameB.trans {l:Addr} {A B C:Hp} (h:SameB l A B) (k:SameB l B C):SameB l A C:=fun b o hb e=>k b o hb (h b o hb e)
theorem SameB.of {l:Addr} {H H':Hp} (h:L2.Same H H'):SameB l H H':=fun b o _ e=>h b o e
theorem SameB.set {l:Addr} {H:Hp} {o:HO}:SameB l H (upd H l o):=fun b o hb e=>by rw [ae hb];exact e
theorem SameB.kt {l:Addr} {H H':Hp} {xs:List V} (h:SameB l H H') (e:H l=some (.lst xs)):KT H H':=fun b ys eb=>h b _ (aJ eb e (by intro z;cases z)) eb
theorem SameB.free {l p:Addr} {H H':Hp} {o:HO} (h:SameB l H H') (e:H' l=some o) (hp:H' p=none):H p=none:=by
 cases hh:H p with
 | none=>rfl
 | some o' =>
   by_cases z:p=l
   · rw [z,e] at hp;cases hp
   · rw [h p o' z hh] at hp;cases hp
def RowAt (H:Hp) (row:List Th) (a:Addr):Prop:=∃ as:List Addr,H a=some (.tup (as.map V.ref))/\Ats H row as
theorem RowAt.mono {H H':Hp} (k:KT H H') {row:List Th} {a:Addr} (h:RowAt H row a):RowAt H' row a:=by
 obtain ⟨as,h1,h2⟩:=h;exact ⟨as,k _ _ h1,h2.mono k⟩
structure pi (ins outs:List (Str×Int)) (S:Int) (deep:Nat) (row:List Th):Prop where
 len:row.length=ins.length
 fit:∀ (j:Nat) (t:Th) (k:Str×Int),row[j]?=some t->ins[j]?=some k->t.FitS outs S k.2/\t.tall<=deep+1
structure BookAt (H:Hp) (ins outs:List (Str×Int)) (head:Th) (rows:List (List Th)) (r ia oa ha ra:Addr) (ias oas ras:List Addr):Prop where
 bk:H r=some (.tup [.ref ia,.ref oa,.ref ha,.ref ra])
 inE:H ia=some (.tup (ias.map V.ref))
 inK:KsAt H ins ias
 outE:H oa=some (.tup (oas.map V.ref))
 outK:KsAt H outs oas
 hd:At H head ha
 rl:H ra=some (.tup (ras.map V.ref))
 rw:Paired (RowAt H) rows ras
theorem BookAt.mono {H H':Hp} (k:KT H H') {ins outs:List (Str×Int)} {head:Th} {rows:List (List Th)} {r ia oa ha ra:Addr} {ias oas ras:List Addr} (b:BookAt H ins outs head rows r ia oa ha ra ias oas ras):BookAt H' ins outs head rows r ia oa ha ra ias oas ras :=
 ⟨k _ _ b.bk,k _ _ b.inE,b.inK.mono k,k _ _ b.outE,b.outK.mono k,b.hd.mono k,k _ _ b.rl,P2.mp (fun _ _ e=>e.mono k) b.rw⟩
structure cN (ins outs:List (Str×Int)) (S:Int) (deep:Nat) (head:Th) (rows:List (List Th)):Prop where
 len:(rows.length:Int)=S
 row:∀ row∈rows,pi ins outs S deep row
 hdf:head.FitS outs S 1
 hdt:head.tall<=2
def cU:Str:=Str.ofString "aeio"
def gum:Str:=Str.ofString "gumleafs"
theorem sr:Low gum:=by unfold Low;decide +kernel
theorem iF {z:Str} {n:Nat} (h:n<=z.length):(cp z none (some (n:Int))).cps.toList=z.cps.toList.take n/\(cp z none (some (n:Int))).length=n:=by
 have hz:z.cps.toList.length=z.length:=Array.length_toList
 have e:(cp z none (some (n:Int))).cps.toList=z.cps.toList.take n:=by
  show (jk z.cps.toList none (some (n:Int))).toArray.toList=_;rw [List.toList_toArray];unfold jk;rw [HT.sIx_nat,HT.sIx_none,hz,Nat.min_eq_left h];simp
 refine ⟨e,?_⟩;show (cp z none (some (n:Int))).cps.size=n;rw [<- Array.length_toList,e,List.length_take,hz];omega
def kc (begun:Bool) (c0:Nat) (stem:Str) (at':Int) (L:List Nat) (p:Nat):Str :=
 if begun then nO ⟨#[c0]⟩ (1+p) else cp stem none (some at')++⟨#[L.getD p 0]⟩++cp stem (some at') none
theorem uk {begun:Bool} {c0:Nat} {stem:Str} {at':Int} {L:List Nat} (hL:∀ (p r:Nat) (c:Nat),L[p]?=some c->L[r]?=some c->p=r) {p r:Nat} (hp:p<L.length) (hr:r<L.length) (h:kc begun c0 stem at' L p=kc begun c0 stem at' L r):p=r:=by
 unfold kc at h;cases begun with
 | true =>
   simp only [if_true] at h;have:=congrArg Str.length h;rw [ig,ig] at this;omega
 | false =>
   simp only [Bool.false_eq_true,if_false] at h;have h2:=congrArg (fun z:Str=>z.cps.toList) h;have h3:((cp stem none (some at')).cps++#[L.getD p 0]++(cp stem (some at') none).cps).toList=((cp stem none (some at')).cps++#[L.getD r 0]++(cp stem (some at') none).cps).toList:=h2;rw [Array.toList_append,Array.toList_append,Array.toList_append,Array.toList_append] at h3;have h4:=List.append_cancel_right h3;have h5:=List.append_cancel_left h4;have h6:L.getD p 0=L.getD r 0:=by simpa using h5
   refine hL p r (L.getD r 0) ?_ ?_
   · rw [<- h6,List.getD,List.getElem?_eq_getElem hp];rfl
   · rw [List.getD,List.getElem?_eq_getElem hr];rfl
theorem uF {begun:Bool} {c0:Nat} {stem:Str} {at':Int} {L:List Nat} (hc:97<=c0/\c0<=122) (hs:Low stem) (hL:∀ c∈L,97<=c/\c<=122) {p:Nat} (hp:p<L.length):Low (kc begun c0 stem at' L p):=by
 unfold kc;cases begun with
 | true =>
   simp only [if_true];rw [jI];intro c hc';have hc'':c∈List.replicate (1+p) c0:=by simpa using hc'
   rw [List.eq_of_mem_replicate hc''];exact hc
 | false =>
   simp only [Bool.false_eq_true,if_false];have h1:L.getD p 0∈L:=by rw [List.getD,List.getElem?_eq_getElem hp];exact List.getElem_mem hp
   have h2:=hL _ h1;exact pf (pf (lX hs _ _) (tf h2.1 h2.2)) (lX hs _ _)
structure nF (letters:Str):Prop where
 len:letters.length=4
 low:Low (letters++cU)
 inj:∀ (p r c:Nat),(letters++cU).cps.toList[p]?=some c->(letters++cU).cps.toList[r]?=some c->p=r
theorem mZ {letters:Str} (h1:letters.length=4) (h2:((letters++cU).cps.toList.all fun c=>decide (97<=c/\c<=122))=true) (h3:(letters++cU).cps.toList.Nodup):nF letters:=by
 refine ⟨h1,fun c hc=>of_decide_eq_true (List.all_eq_true.mp h2 c hc),fun p r c hp hr=>?_⟩;obtain ⟨p1,p2⟩:=List.getElem?_eq_some_iff.mp hp;obtain ⟨r1,r2⟩:=List.getElem?_eq_some_iff.mp hr;exact (List.getElem_inj h3).mp (p2.trans r2.symm)
theorem oY:nF (Str.ofString "bdhk"):=mZ (by decide +kernel) (by decide +kernel) (by decide +kernel)
theorem sy:nF (Str.ofString "npwz"):=mZ (by decide +kernel) (by decide +kernel) (by decide +kernel)
end BB
namespace BB
open PySem L2
def Step (ins:List (Str×Int)) (rows:List (List Th)) (s k:Int) (ks:List Th) (p h:Th):Prop :=
 0<=s/\0<=k/\ks[k.toNat]?=some h/\∃ (m:Str) (hs:List Th) (c:Int) (j:Nat) (row:List Th),h=.knot m hs/\ins[j]?=some (m,c)/\rows[s.toNat]?=some row/\row[j]?=some p
inductive Res (ins:List (Str×Int)) (rows:List (List Th)):Th->Th->Th->Th->Prop
 | stop (n:Str) (ts:List Th) (k:Th):Res ins rows (.knot n ts) k (.knot n ts) k
 | step {s c:Int} {n:Str} {ks:List Th} {p h p' k':Th}:Step ins rows s c ks p h->Res ins rows p h p' k'->Res ins rows (.call s c) (.knot n ks) p' k'
theorem fE {ks:List (Str×Int)}:∀ {ts:List Th},Fits ks ts->∀ t∈ts,t.Fit ks
 | [],_,t,ht=>by cases ht
 | a::ts,h,t,ht=>by
   rw [Fits] at h;rcases List.mem_cons.mp ht with rfl | ht
   · exact h.1
   · exact fE h.2 t ht
theorem iP {ks:List (Str×Int)} {S C:Int}:∀ {ts:List Th},FitSs ks S C ts->∀ t∈ts,t.FitS ks S C
 | [],_,t,ht=>by cases ht
 | a::ts,h,t,ht=>by
   rw [FitSs] at h;rcases List.mem_cons.mp ht with rfl | ht
   · exact h.1
   · exact iP h.2 t ht
theorem sZ {ins outs:List (Str×Int)} {S:Int} {d:Nat} {head:Th} {rows:List (List Th)} (ok:cN ins outs S d head rows) {s c:Int} {ks:List Th} (hf:(Th.call s c).FitS outs S (ks.length:Int)) (hk:∀ h∈ks,h.Fit ins) :
 ∃ p m hs,Step ins rows s c ks p (.knot m hs)/\p.FitS outs S (hs.length:Int)/\(∀ h∈hs,h.Fit ins)/\(Th.knot m hs)∈ks:=by
 rw [Th.FitS] at hf;obtain ⟨s0,s1,c0,c1⟩:=hf;have hlen:=ok.len;obtain ⟨h,hh⟩:∃ h,ks[c.toNat]?=some h:=⟨_,List.getElem?_eq_getElem (by omega)⟩;have hm:=List.mem_of_getElem? hh;have hfit:=hk h hm;cases h with
 | call a b=>rw [Th.Fit] at hfit;exact hfit.elim
 | knot m hs =>
   rw [Th.Fit] at hfit;obtain ⟨j,hj⟩:=List.mem_iff_getElem?.mp hfit.1;obtain ⟨row,hrow⟩:∃ row,rows[s.toNat]?=some row:=⟨_,List.getElem?_eq_getElem (by omega)⟩;have rok:=ok.row row (List.mem_of_getElem? hrow);have hjl:=(List.getElem?_eq_some_iff.mp hj).1;obtain ⟨p,hp⟩:∃ p,row[j]?=some p:=⟨_,List.getElem?_eq_getElem (by rw [rok.len];exact hjl)⟩;exact ⟨p,m,hs,⟨s0,c0,hh,m,hs,_,j,row,rfl,hj,hrow,hp⟩,(rok.fit j p _ hp hj).1,fE hfit.2,hm⟩
def Bk (H:Hp) (ins outs:List (Str×Int)) (head:Th) (rows:List (List Th)) (r:Addr):Prop:=∃ ia oa ha ra ias oas ras,BookAt H ins outs head rows r ia oa ha ra ias oas ras
theorem Bk.mono {H H':Hp} (k:KT H H') {ins outs:List (Str×Int)} {head:Th} {rows:List (List Th)} {r:Addr} (b:Bk H ins outs head rows r):Bk H' ins outs head rows r:=by
 obtain ⟨ia,oa,ha,ra,ias,oas,ras,b⟩:=b;exact ⟨ia,oa,ha,ra,ias,oas,ras,b.mono k⟩
end BB
namespace L2
open PySem PySem.Spec PySem.Calls PyProof.Rows PySem.SeqAt
end L2
namespace BB
open PySem L2
mutual
inductive Out (ins:List (Str×Int)) (rows:List (List Th)):Th->Th->Th->Prop
 | mk {p k:Th} {n:Str} {ts:List Th} {k':Th} {os:List Th}:Res ins rows p k (.knot n ts) k'->Outs ins rows ts k' os->Out ins rows p k (.knot n os)
inductive Outs (ins:List (Str×Int)) (rows:List (List Th)):List Th->Th->List Th->Prop
 | nil (k:Th):Outs ins rows [] k []
 | cons {t k o:Th} {ts os:List Th}:Out ins rows t k o->Outs ins rows ts k os->Outs ins rows (t::ts) k (o::os)
end
theorem Out.step {ins:List (Str×Int)} {rows:List (List Th)} {s c:Int} {n:Str} {ks:List Th} {p h o:Th} (st:Step ins rows s c ks p h) (g:Out ins rows p h o):Out ins rows (.call s c) (.knot n ks) o:=by
 cases g with
 | mk r os=>exact .mk (.step st r) os
theorem Out.unstep {ins:List (Str×Int)} {rows:List (List Th)} {s c:Int} {n:Str} {ks:List Th} {o:Th} (g:Out ins rows (.call s c) (.knot n ks) o):∃ p h,Step ins rows s c ks p h/\Out ins rows p h o:=by
 cases g with
 | mk r os =>
   cases r with
   | step st r=>exact ⟨_,_,st,.mk r os⟩
theorem Out.unknot {ins:List (Str×Int)} {rows:List (List Th)} {n:Str} {ts:List Th} {k o:Th} (g:Out ins rows (.knot n ts) k o):∃ os,o=.knot n os/\Outs ins rows ts k os:=by
 cases g with
 | mk r os =>
   cases r with
   | stop=>exact ⟨_,rfl,os⟩
theorem Outs.length {ins:List (Str×Int)} {rows:List (List Th)}:∀ {ts:List Th} {k:Th} {os:List Th},Outs ins rows ts k os->os.length=ts.length
 | _,_,_,.nil _=>rfl
 | _,_,_,.cons _ h=>by rw [List.length_cons,List.length_cons,Outs.length h]
theorem Outs.get {ins:List (Str×Int)} {rows:List (List Th)}:∀ {ts:List Th} {k:Th} {os:List Th} (i:Nat) {t o:Th},Outs ins rows ts k os->ts[i]?=some t->os[i]?=some o->Out ins rows t k o
 | _,_,_,i,t,o,.nil _,h1,h2=>by simp at h1
 | _,_,_,0,t,o,.cons g _,h1,h2=>by
   simp at h1 h2;subst h1;subst h2;exact g
 | _,_,_,i+1,t,o,.cons _ g,h1,h2=>Outs.get i g (by simpa using h1) (by simpa using h2)
theorem rE {ins:List (Str×Int)} (g:bx ins) {rows:List (List Th)} {s c:Int} {ks:List Th} {p h p' h':Th} (a:Step ins rows s c ks p h) (b:Step ins rows s c ks p' h'):p=p'/\h=h':=by
 obtain ⟨_,_,a1,m,hs,c1,j,row,a2,a3,a4,a5⟩:=a;obtain ⟨_,_,b1,m',hs',c1',j',row',b2,b3,b4,b5⟩:=b;rw [a1] at b1;cases b1;rw [a2] at b2;cases b2;rw [a4] at b4;cases b4;have:=g.nd j j' _ _ a3 b3 rfl;subst this;rw [a5] at b5;cases b5;exact ⟨rfl,rfl⟩
theorem sI {ins:List (Str×Int)} (g:bx ins) {rows:List (List Th)} {p k p1 k1:Th} (a:Res ins rows p k p1 k1):∀ {p2 k2:Th},Res ins rows p k p2 k2->p1=p2/\k1=k2:=by
 induction a with
 | stop n ts k=>intro p2 k2 b;cases b;exact ⟨rfl,rfl⟩
 | step st r ih =>
   intro p2 k2 b;cases b with
   | step st' r' =>
     obtain ⟨rfl,rfl⟩:=rE g st st';exact ih r'
theorem qj {ins:List (Str×Int)} (g:bx ins) {rows:List (List Th)}:∀ (N:Nat),(∀ (p k o o':Th),o.size<=N->Out ins rows p k o->Out ins rows p k o'->o=o')/\(∀ (ts:List Th) (k:Th) (os os':List Th),aw os<=N->Outs ins rows ts k os->Outs ins rows ts k os'->os=os'):=by
 intro N;induction N with
 | zero =>
   refine ⟨fun p k o o' h=>?_,fun ts k os os' h a b=>?_⟩
   · have:=o.size_pos;omega
   · cases a with
     | nil=>cases b;rfl
     | cons x y =>
       rename_i o _ _
       have:=o.size_pos;rw [aw] at h;omega
 | succ N ih =>
   have h1:∀ (p k o o':Th),o.size<=N+1->Out ins rows p k o->Out ins rows p k o'->o=o':=by
    intro p k o o' h a b;cases a with
    | mk r os =>
      cases b with
      | mk r' os' =>
        obtain ⟨e1,e2⟩:=sI g r r';cases e1;subst e2;rw [Th.size] at h;rw [ih.2 _ _ _ _ (by omega) os os']
   refine ⟨h1,fun ts=>?_⟩;induction ts with
   | nil=>intro k os os' h a b;cases a;cases b;rfl
   | cons t ts iht =>
     intro k os os' h a b;cases a with
     | cons x y =>
       cases b with
       | cons x' y' =>
         rw [aw] at h;rw [h1 _ _ _ _ (by omega) x x',iht _ _ _ (by omega) y y']
theorem tL {ins:List (Str×Int)} (g:bx ins) {rows:List (List Th)} {p k o o':Th} (a:Out ins rows p k o) (b:Out ins rows p k o'):o=o':=(qj g o.size).1 p k o o' (Nat.le_refl _) a b
theorem oP {ins outs:List (Str×Int)} {S:Int} {d:Nat} {head:Th} {rows:List (List Th)} (ok:cN ins outs S d head rows):∀ (N:Nat) (n:Str) (ks:List Th),(Th.knot n ks).tall<=N->(∀ h∈ks,h.Fit ins) →
 ∀ (M:Nat) (p:Th),p.size<=M->p.FitS outs S (ks.length:Int)->∃ o,Out ins rows p (.knot n ks) o/\o.Fit outs:=by
 intro N;induction N with
 | zero=>intro n ks h;rw [Th.tall] at h;omega
 | succ N ih =>
   intro n ks hN hk M;induction M with
   | zero=>intro p h;have:=p.size_pos;omega
   | succ M ihM =>
     intro p hM hf;cases p with
     | call s c =>
       obtain ⟨p',m,hs,st,hf',hh,hm⟩:=sZ ok hf hk;have:=cL hm;rw [Th.tall] at hN;obtain ⟨o,h1,h2⟩:=ih m hs (by omega) hh _ p' (Nat.le_refl _) hf';exact ⟨o,.step st h1,h2⟩
     | knot m ts =>
       rw [Th.FitS] at hf;rw [Th.size] at hM
       have all:∀ us:List Th,aw us<=M->FitSs outs S (ks.length:Int) us->∃ os,Outs ins rows us (.knot n ks) os/\Fits outs os:=by
        intro us;induction us with
        | nil=>intro _ _;exact ⟨[],.nil _,by rw [Fits];trivial⟩
        | cons u us ihu =>
          intro h1 h2;rw [aw] at h1;rw [FitSs] at h2;obtain ⟨o,g1,g2⟩:=ihM u (by omega) h2.1;obtain ⟨os,g3,g4⟩:=ihu (by omega) h2.2;exact ⟨o::os,.cons g1 g3,by rw [Fits];exact ⟨g2,g4⟩⟩
       obtain ⟨os,g1,g2⟩:=all ts (by omega) hf.2;refine ⟨.knot m os,.mk (.stop m ts _) g1,?_⟩;rw [Th.Fit,g1.length];exact ⟨hf.1,g2⟩
def SzAt (H:Hp) (ins:List (Str×Int)) (rows:List (List Th)) (h:Th) (a:Addr):Prop:=∃ es:List Addr,H a=some (.lst (es.map V.ref))/\es.length=rows.length/\∀ (s:Int) (o:Th),Out ins rows (.call s 0) (.knot Str.empty [h]) o->∃ e,es[s.toNat]?=some e/\H e=some (.tup [.int (o.size:Nat),.int (o.tall:Nat)])
theorem SzAt.same {H H':Hp} (s:L2.Same H H') {ins:List (Str×Int)} {rows:List (List Th)} {h:Th} {a:Addr} (g:SzAt H ins rows h a):SzAt H' ins rows h a:=by
 obtain ⟨es,h1,h2,h3⟩:=g;refine ⟨es,s _ _ h1,h2,fun st o ho=>?_⟩;obtain ⟨e,g1,g2⟩:=h3 st o ho;exact ⟨e,g1,s _ _ g2⟩
theorem qz {ins:List (Str×Int)} {rows:List (List Th)} {s c:Int} {ks:List Th} {p h:Th} (st:Step ins rows s c ks p h):Step ins rows s 0 [h] p h:=by
 obtain ⟨a1,a2,a3,r⟩:=st;exact ⟨a1,Int.le_refl _,rfl,r⟩
theorem SzAt.keep {H H':Hp} (k:KT H H') {ins:List (Str×Int)} {rows:List (List Th)} {h:Th} {a:Addr} (ha:∀ o,H a=some o->H' a=some o) (g:SzAt H ins rows h a):SzAt H' ins rows h a:=by
 obtain ⟨es,h1,h2,h3⟩:=g;refine ⟨es,ha _ h1,h2,fun st o ho=>?_⟩;obtain ⟨e,g1,g2⟩:=h3 st o ho;exact ⟨e,g1,k _ _ g2⟩
theorem o3 {α β:Type} {R:α->β->Prop}:∀ (xs:List α),(∀ x∈xs,∃ y,R x y)->∃ ys:List β,ys.length=xs.length/\∀ (i:Nat) (x:α) (y:β),xs[i]?=some x->ys[i]?=some y->R x y
 | [],_=>⟨[],rfl,fun i x y h=>by simp at h⟩
 | x::xs,h=>by
   obtain ⟨y,hy⟩:=h x (List.mem_cons_self ..);obtain ⟨ys,h1,h2⟩:=o3 xs fun z hz=>h z (List.mem_cons_of_mem _ hz);refine ⟨y::ys,by rw [List.length_cons,List.length_cons,h1],fun i a b ha hb=>?_⟩;cases i with
   | zero =>
     simp at ha hb;subst ha;subst hb;exact hy
   | succ i=>exact h2 i a b (by simpa using ha) (by simpa using hb)
end BB
namespace L2
open PySem PySem.Spec PyProof.Rows
section
variable {X:Cx} {e:Expr} {te:TE} {p p2 pos pos2:Pos}
end
end L2
namespace BB
open PySem L2
theorem jp {α:Type} {F:Hp->α->Addr->Prop} {js:List (Option Nat)} {g:TG} {tt:TT} {te:TE} {σ:St} {J:It} {H:Hp} {xs:List V} {fin:Addr->Hp->Prop} (zs:List α) (hF:∀ H1 H2 z p,KT H1 H2->F H1 z p->F H2 z p) (hz:zs.length=xs.length) (hn:xs.length<=1000000)
 (hgo:∀ i H2,L2.Same H H2->i<xs.length->J.go i H2) (hstop:∀ H2,L2.Same H H2->J.stop xs.length H2) (hyld:∀ (i:Nat) H2 x H3,L2.Same H H2->i<xs.length->J.yld i H2 x H3->H3=H2/\xs[i]?=some x)
 (hb:∀ (i:Nat) x z H2 (R:VK) (W':Hp->Prop),xs[i]?=some x->zs[i]?=some z->L2.Same H H2->(∀ H3 p,L2.Same H2 H3->F H3 z p->R (.ref p) H3)->g x (cσ js σ) H2 fun σ2 H3=>tt σ2 H3 fun b H4=>if b=true then te σ2 H4 R else W' H4)
 (hfin:∀ D H' as,H D=none->L2.Same H H'->H' D=some (.lst (as.map V.ref))->Paired (F H') zs as->fin D H') :
 ∀ D,H D=none->∃ (n:Nat) (W:Nat->Hp->Prop),W 0 (upd H D (.lst []))/\eU js g tt te σ J D n W fun H'=>fin D H':=by
 intro D hD;refine ⟨xs.length,fun i H'=>i<=xs.length/\L2.Same H H'/\∃ as:List Addr,H' D=some (.lst (as.map V.ref))/\Paired (F H') (zs.take i) as,⟨Nat.zero_le _,af hD _,[],by rw [ac];rfl,.nil⟩,?_⟩;rintro i H' ⟨hi,s1,as,e1,hp⟩;by_cases hlt:i<xs.length
 · refine .inr ⟨hlt,hgo i H' s1 hlt,fun v H1 hy=>?_⟩;obtain ⟨e,hx⟩:=hyld i H' v H1 s1 hlt hy;subst e;obtain ⟨z,hz'⟩:∃ z,zs[i]?=some z:=⟨_,List.getElem?_eq_getElem (by omega)⟩;have hl:(zs.take i).length=as.length:=Paired.length hp;rw [List.length_take] at hl;refine hb i v z _ _ _ hx hz' s1 fun H3 p s3 hF3=>⟨_,s3 _ _ e1,?_,hlt,aH (s1.trans s3) hD,as++[p],?_,?_⟩
   · rw [List.length_map];have:sizeLine=16777216:=sizeLine_eq;omega
   · rw [ac,List.map_append];rfl
   · have kt:KT H3 (upd H3 D (.lst (as.map V.ref++[.ref p]))):=bt (s3 _ _ e1);rw [iC hz'];exact P2.append (P2.mp (fun x y e=>hF _ _ _ _ ((Same.kt s3).trans kt) e) hp) (.cons (hF _ _ _ _ kt hF3) .nil)
 · have hi':i=xs.length:=by omega
   subst hi';refine .inl ⟨hstop _ s1,hfin D H' as hD s1 e1 ?_⟩;rw [List.take_of_length_le (by omega)] at hp;exact hp
theorem tH {α:Type} {F:Hp->α->Addr->Prop} {js:List (Option Nat)} {g:TG} {tt:TT} {te:TE} {σ:St} {J:It} {H:Hp} {xs:List V} {fin:Addr->Hp->Prop} (zs:List α) (hF:∀ H1 H2 z p,KT H1 H2->(∀ o,H1 p=some o->H2 p=some o)->F H1 z p->F H2 z p) (hz:zs.length=xs.length) (hn:xs.length<=1000000)
 (hgo:∀ i H2,L2.Same H H2->i<xs.length->J.go i H2) (hstop:∀ H2,L2.Same H H2->J.stop xs.length H2) (hyld:∀ (i:Nat) H2 x H3,L2.Same H H2->i<xs.length->J.yld i H2 x H3->H3=H2/\xs[i]?=some x)
 (hb:∀ (i:Nat) x z H2 (R:VK) (W':Hp->Prop),xs[i]?=some x->zs[i]?=some z->L2.Same H H2->(∀ H3 p,L2.Same H2 H3->H2 p=none->F H3 z p->R (.ref p) H3)->g x (cσ js σ) H2 fun σ2 H3=>tt σ2 H3 fun b H4=>if b=true then te σ2 H4 R else W' H4)
 (hfin:∀ D H' as,H D=none->L2.Same H H'->H' D=some (.lst (as.map V.ref))->Paired (F H') zs as->fin D H') :
 ∀ D,H D=none->∃ (n:Nat) (W:Nat->Hp->Prop),W 0 (upd H D (.lst []))/\eU js g tt te σ J D n W fun H'=>fin D H':=by
 intro D hD;refine ⟨xs.length,fun i H'=>i<=xs.length/\L2.Same H H'/\∃ as:List Addr,H' D=some (.lst (as.map V.ref))/\Paired (fun z a=>F H' z a/\a≠D) (zs.take i) as,⟨Nat.zero_le _,af hD _,[],by rw [ac];rfl,.nil⟩,?_⟩;rintro i H' ⟨hi,s1,as,e1,hp⟩;by_cases hlt:i<xs.length
 · refine .inr ⟨hlt,hgo i H' s1 hlt,fun v H1 hy=>?_⟩;obtain ⟨e,hx⟩:=hyld i H' v H1 s1 hlt hy;subst e;obtain ⟨z,hz'⟩:∃ z,zs[i]?=some z:=⟨_,List.getElem?_eq_getElem (by omega)⟩;have hl:(zs.take i).length=as.length:=Paired.length hp;rw [List.length_take] at hl;refine hb i v z _ _ _ hx hz' s1 fun H3 p s3 np hF3=>⟨_,s3 _ _ e1,?_,hlt,aH (s1.trans s3) hD,as++[p],?_,?_⟩
   · rw [List.length_map];have:sizeLine=16777216:=sizeLine_eq;omega
   · rw [ac,List.map_append];rfl
   · have kt:KT H3 (upd H3 D (.lst (as.map V.ref++[.ref p]))):=bt (s3 _ _ e1);have hpD:p≠D:=fun z=>by rw [z,e1] at np;cases np
     rw [iC hz'];exact P2.append (P2.mp (fun x y e=>⟨hF _ _ _ _ ((Same.kt s3).trans kt) (fun o ho=>by rw [ae e.2];exact s3 _ _ ho) e.1,e.2⟩) hp) (.cons ⟨hF _ _ _ _ kt (fun o ho=>by rw [ae hpD];exact ho) hF3,hpD⟩ .nil)
 · have hi':i=xs.length:=by omega
   subst hi';refine .inl ⟨hstop _ s1,hfin D H' as hD s1 e1 ?_⟩;rw [List.take_of_length_le (by omega)] at hp;exact P2.mp (fun _ _ e=>e.1) hp
end BB
namespace L2
open PySem PySem.Spec PyProof.Rows
end L2
namespace L2
open PySem
theorem us1 {α:Type}:∀ {us:List α},us.length=1->∃ a,us=[a]
 | [a],_=>⟨a,rfl⟩
theorem us2 {α:Type}:∀ {us:List α},us.length=2->∃ a b,us=[a,b]
 | [a,b],_=>⟨a,b,rfl⟩
theorem us3 {α:Type}:∀ {us:List α},us.length=3->∃ a b c,us=[a,b,c]
 | [a,b,c],_=>⟨a,b,c,rfl⟩
theorem us4 {α:Type}:∀ {us:List α},us.length=4->∃ a b c d,us=[a,b,c,d]
 | [a,b,c,d],_=>⟨a,b,c,d,rfl⟩
theorem us5 {α:Type}:∀ {us:List α},us.length=5->∃ a b c d e,us=[a,b,c,d,e]
 | [a,b,c,d,e],_=>⟨a,b,c,d,e,rfl⟩
end L2
namespace PySem
open Sem (wp)
section
variable {prog:Program} {w:World} {K:Type} [DecidableEq K] {knd:HeapKind prog w K} {A:Around} {E:Value->Shared->Prop} {s:Shared}
end
end PySem
namespace L2
open PySem PySem.Spec PyProof.Rows BB
end L2
namespace BB
open PySem L2
end BB
namespace PySem
open Sem (wp)
section
variable {prog:Program} {w:World} {A:Around} {E:Value->Shared->Prop} {s:Shared} {I:Addr} {fp wr:List Addr} {G:Array GenState->Array GenState->Prop} {n:Nat} {P:Nat->Value->Prop} {St:Nat->Shared->Prop}
end
end PySem
namespace L2
open PySem PySem.Spec PyProof.Rows
section
variable {X:Cx} {o e:Expr} {to te:TE} {p2 pos2 apos cpos:Pos}
end
end L2
namespace PySem
open Sem (wp)
namespace F
theorem bb_list_nokeys:typeLookup (.type "list") "keys"=pure none:=by rw [typeLookup_type,builtinLookup_eq_fast];kernel_rfl
end F
section
variable {prog:Program} {w:World} {A:Around} {E:Value->Shared->Prop} {s:Shared} {a:Addr} {xs:Array Value} {k:Nat}
theorem bb_nokeysL {Q:Option Value->Shared->Prop} (hA:A.handled=none) (hx:s.heap.get? a=some { cls:=.type "list",data:=.seq xs k })
 (q:∀ h' tk,(∀ b o,s.heap.get? b=some o->h'.get? b=some o)->Q none { s with heap:=h',toks:=tk }):wpAny (model prog w) A (getAttr? (.ref a) "keys") Q E s:=by
 obtain ⟨hp,g,d,tk,os⟩:=s;have gT:∀ z,(⟨hp,g,d,z,os⟩:Shared).TypeIs (.ref a) "list":=fun _=>⟨_,hx,rfl⟩;have g1:=sub_AttributeError;have g3:=F.slot_list_getattribute.lookup;have g4:=F.slot_list_getattribute.bind (.ref a);have g5:=am_list_getattr_none;unfold getAttr? getAttrBy? getAttrBy
 repeat (any_goals (first | assumption | exact gT _ | ((with_reducible show wpAny _ _ (call (Value.builtin "list.__getattribute__") _ _) _ _ _);refine call_meets F.slot_list_getattribute (gT _) am_entry_list_getattribute (F.args_list_getattribute_2 _ _) (meets_getattribute_miss_list a xs k #[] "keys" _ F.bb_list_nokeys (by decide +kernel) (by decide)) ⟨hx,hA,fun h' tk' e hx'=>?_⟩) | wp_step))
 obtain ⟨t',u',he⟩:=hx'.there;show wpAny _ _ (getattributeRaised _ _ _ _ _ _ _) _ _ _;unfold getattributeRaised
 repeat (any_goals (first | assumption | wp_step))
 exact q h' tk' hx'.keeps
end
end PySem
namespace L2
open PySem PySem.Spec PyProof.Rows
section
variable {X:Cx} {pins:List (Addr×Obj)} {σ:St}
end
end L2
namespace BB
open PySem L2
theorem tK {k:Nat} {A:Around} (hr:L2.Room k A):A.units+12<cLine:=by
 have:=hr.units;omega
end BB
namespace PySem
section
variable {prog:Program} {w:World} {A:Around} {E:Value->Shared->Prop} {s:Shared}
theorem bb_zip_next0 {z TI TO i1 i2 l1 l2:Addr} {k:Nat} {xs ys:Array Value} {x y a b:Value} {Q:Option Value->Shared->Prop} (D:ZipApart z TI TO i1 i2 l1 l2)
 (hz:IsZip s.heap z TI TO .none) (hTI:IsPair s.heap TI (.ref i1) (.ref i2)) (hTO:IsPair s.heap TO a b)
 (h1:s.heap.IsTupleIter i1 l1 k) (h2:s.heap.IsTupleIter i2 l2 k) (hl1:s.heap.IsTuple l1 xs) (hl2:s.heap.IsTuple l2 ys) (hx:xs[k]?=some x) (hy:ys[k]?=some y)
 (hQ:∀ h',IsZip h' z TI TO (rawInt s.heap.objs.size)->IsPair h' TO x y->h'.IsTupleIter i1 l1 (k+1)->h'.IsTupleIter i2 l2 (k+1)->IsPair h' s.heap.objs.size x y->h'.objs.size=s.heap.objs.size+1 →
  (∀ c o,c≠z->c≠TO->c≠i1->c≠i2->s.heap.get? c=some o->h'.get? c=some o)->Q (some (.ref s.heap.objs.size)) { s with heap:=h' }) :
 wpAny (model prog w) A (pyNext (.ref z)) Q E s:=by
 have hT:s.TypeIs (.ref z) "zip":=⟨_,hz,rfl⟩;unfold pyNext;refine wpAny_bind (wpAny_attempt (wpAny_callSpecial?_slot (name:=Str.ofString "__next__") hT F.slot_zip_next (wpAny_call_entry F.slot_zip_next hT F.entry_zip_next ?_ (F.args_zip_next_1 _))));exact bb_zip_itemA D hz hTI hTO h1 h2 hl1 hl2 hx hy fun h' a1 a2 a3 a4 a5 a6 a7=>wpAny_pure (hQ h' a1 a2 a3 a4 a5 a6 a7)
end
end PySem
namespace L2
open PySem PySem.Spec PyProof.Rows
def Itz (K:PySem.W.Frag) (a b:Addr):It:=⟨fun i H=>∃ xs ys x y,SqT K H a xs/\SqT K H b ys/\xs[i]?=some x/\ys[i]?=some y,fun i H v H'=>∃ p x y,H p=none/\v=.ref p/\H'=upd H p (.tup [x,y])/\(∀ xs,SqT K H a xs->xs[i]?=some x)/\(∀ ys,SqT K H b ys->ys[i]?=some y),fun i H=>∃ xs ys,SqT K H a xs/\SqT K H b ys/\(xs.length<=i∨ys.length<=i)⟩
structure ZTn (z TI TO i1 i2 a b:Addr) (i:Nat) (h:Heap):Prop where
 ap:ZipApart z TI TO i1 i2 a b
 zip:IsZip h z TI TO .none
 hTI:IsPair h TI (.ref i1) (.ref i2)
 hTO:∃ u v,IsPair h TO u v
 h1:h.IsTupleIter i1 a i
 h2:h.IsTupleIter i2 b i
theorem rg {P:Program} {w:World} {K:PySem.W.Frag} {elts:List Expr} {k1} {pos:Pos} (a b z TI TO i1 i2:Addr):iG P w K (.Tuple elts k1 pos) (Itz K a b) [z,TI,TO,i1,i2] z (ZTn z TI TO i1 i2 a b) where
 mem:=by simp
 obj:=fun i h st c hc=>by
  obtain ⟨D,hz,hTI,⟨u,v,hTO⟩,⟨o1,a1,a2,a3⟩,⟨o2,b1,b2,b3⟩⟩:=st;simp only [List.mem_cons,List.not_mem_nil,or_false] at hc;rcases hc with rfl | rfl | rfl | rfl | rfl
  · exact ⟨_,hz,fun v z=>by cases z⟩
  · exact ⟨_,hTI,fun v z=>by cases z⟩
  · exact ⟨_,hTO,fun v z=>by cases z⟩
  · exact ⟨o1,a1,fun v z=>by rw [a3] at z;cases z⟩
  · exact ⟨o2,b1,fun v z=>by rw [b3] at z;cases z⟩
 keep:=fun i h h' st k=>by
  obtain ⟨D,hz,hTI,⟨u,v,hTO⟩,⟨o1,a1,a2⟩,⟨o2,b1,b2⟩⟩:=st;exact ⟨D,k _ (by simp) _ hz,k _ (by simp) _ hTI,⟨u,v,k _ (by simp) _ hTO⟩,⟨o1,k _ (by simp) _ a1,a2⟩,⟨o2,k _ (by simp) _ b1,b2⟩⟩
 item:=by
  intro X hP hw hK hc i pins s σ H E I hf st hg;subst hP hw hK;obtain ⟨xs,ys,x,y,hqa,hqb,hx,hy⟩:=hg;obtain ⟨ia,rva,pa,hza⟩:=I.tuple hqa;obtain ⟨ib,rvb,pb,hzb⟩:=I.tuple hqb;obtain ⟨u,hu,ru⟩:=rva.get hx;obtain ⟨v,hv,rv⟩:=rvb.get hy;obtain ⟨D,hz,hTI,⟨ta,tb,hTO⟩,h1,h2⟩:=st
  have lt:∀ c∈[z,TI,TO,i1,i2],c<s.heap.objs.size:=fun c hc=>by
   simp only [List.mem_cons,List.not_mem_nil,or_false] at hc;rcases hc with rfl | rfl | rfl | rfl | rfl
   · exact Heap.lt_size hz
   · exact Heap.lt_size hTI
   · exact Heap.lt_size hTO
   · obtain ⟨o,e,_⟩:=h1;exact Heap.lt_size e
   · obtain ⟨o,e,_⟩:=h2;exact Heap.lt_size e
  refine bb_zip_next0 D hz hTI hTO h1 h2 (show s.heap.IsTuple a ia.toArray from pa) (show s.heap.IsTuple b ib.toArray from pb) (by simpa using hu) (by simpa using hv) fun h1' a1 a2 a3 a4 a5 a6 a7=>?_;refine ⟨_,rfl,wpAny_letOwnedTupleGo_zip a1 fun h2' g1 sb=>?_⟩;replace sb:Heap.SameBut z h1' h2':=sb;have hHn:H s.heap.objs.size=none:=I.hok.fresh (Nat.le_refl _)
  have IA:Inv X pins σ (upd H s.heap.objs.size (.tup [x,y])) { s with heap:=s.heap.push { cls:=.type "tuple",data:=.seq #[u,v] },toks:=s.toks } :=
   I.laid (o:=.tup [x,y]) (fun b ob q=>Heap.get?_push_of_some _ q) (Nat.le_refl _) ⟨by show 2<=sizeLine;decide,[u,v],0,.cons ru (.cons rv .nil),Heap.get?_push_size _ rfl⟩
  have hzT:s.heap.objs.size≠z:=Nat.ne_of_gt (lt z (by simp));refine ⟨.ref s.heap.objs.size,upd H s.heap.objs.size (.tup [x,y]),?_,rfl,⟨_,x,y,hHn,rfl,rfl,fun zs hzs=>by rw [I.tuple_inj hzs hqa];exact hx,fun zs hzs=>by rw [I.tuple_inj hzs hqb];exact hy⟩,?_,fun c hc=>?_⟩
  · have IB:Inv X pins σ (upd H s.heap.objs.size (.tup [x,y])) { s with heap:=h2',toks:=s.toks }:=by
     refine Inv.turnedL (s:={ s with heap:=s.heap.push { cls:=.type "tuple",data:=.seq #[u,v] },toks:=s.toks }) (h':=h2') (fp:=[z,TI,TO,i1,i2]) (t':=s.toks) IA (fun c o hc q=>?_) fun c hc=>?_
     · have n1:c≠z:=fun e=>hc (by simp [e]);have n2:c≠TO:=fun e=>hc (by simp [e]);have n3:c≠i1:=fun e=>hc (by simp [e]);have n4:c≠i2:=fun e=>hc (by simp [e]);rw [sb.2 c n1];by_cases hb2:c=s.heap.objs.size
       · subst hb2;have q':(s.heap.push { cls:=.type "tuple",data:=.seq #[u,v] }).get? s.heap.objs.size=some o:=q;rw [Heap.get?_push_size _ rfl] at q';rw [<- q'];exact a5
       · have q':(s.heap.push { cls:=.type "tuple",data:=.seq #[u,v] }).get? c=some o:=q;rw [Heap.get?_push_ne _ _ _ hb2] at q';exact a7 c o n1 n2 n3 n4 q'
     · obtain ⟨f0,f1⟩:=hf c hc;exact ⟨by rw [ae (Nat.ne_of_lt (lt c hc))];exact f0,f1⟩
    exact IB
  · have sT:∀ c o,c≠z->h1'.get? c=some o->h2'.get? c=some o:=fun c o hc e=>(sb.2 c hc).trans e;refine ⟨D,g1,sT _ _ D.TIz (a7 _ _ D.TIz D.TITO D.TIi1 D.TIi2 hTI),⟨_,_,sT _ _ D.TOz a2⟩,?_,?_⟩
    · obtain ⟨o,e,r⟩:=a3;exact ⟨o,sT _ _ D.i1z e,r⟩
    · obtain ⟨o,e,r⟩:=a4;exact ⟨o,sT _ _ D.i2z e,r⟩
  · rw [ae (Nat.ne_of_lt (lt c hc))];exact (hf c hc).1
 done:=by
  intro X hP hw hK hc i pins s σ H E I hf st hg;subst hP hw hK;obtain ⟨xs,ys,hqa,hqb,hend⟩:=hg;obtain ⟨ia,rva,pa,hza⟩:=I.tuple hqa;obtain ⟨ib,rvb,pb,hzb⟩:=I.tuple hqb;have hla:=rva.length;have hlb:=rvb.length;obtain ⟨D,hz,hTI,hTO,h1,h2⟩:=st;refine bb_zip_done (show X.A.handled=none from I.ok.hd hc) ⟨D,.inl hz,hTI,hTO,h1,h2,pa,pb⟩ ?_ fun h' kp=>⟨rfl,?_⟩
  · rcases hend with h | h
    · exact .inl (by simp;omega)
    · exact .inr (by simp;omega)
  exact I.turnedL (fp:=[z,TI,TO,i1,i2]) (t':=s.toks) (fun c o hc q=>kp c o (fun hm=>hc (by simp only [List.mem_cons,List.not_mem_nil,or_false] at hm ⊢;rcases hm with h | h | h | h <;> simp [h])) q) hf
 self:=fun _ _ _ _ _ st h=>wpAny_pyIter_zip st.zip h
section
variable {X:Cx} {e1 e2:Expr} {t:TA} {p2 pos2:Pos}
def vY (K:PySem.W.Frag) (t:TA):TI:=fun σ H R=>t σ H fun vs H1=>∃ a b,vs=[.ref a,.ref b]/\(∃ xs,SqT K H1 a xs)/\(∃ ys,SqT K H1 b ys)/\R (Itz K a b) H1
theorem uQ {elts:List Expr} {k1} {pos:Pos} (g2:Gl X "zip") (m2:X.mg "zip"=none) (ha:PA X [e1,e2] t)
 (h2:starEach [e1,e2] X.env=(false,eval e1 X.env)::starEach [e2] X.env:=by rfl) (h3:(backTo pos2 (starEach [e2] X.env)).any (·.1)=false:=by rfl):PI X (.Tuple elts k1 pos) (.Call (.Name "zip" p2) [e1,e2] [] pos2) (vY X.K t):=by
 intro pins s σ H R I h;refine wpAny_Call_Name_kw (fH I g2 m2 boot_zip ?_);refine PyProof.Rows.callWith_type1 (thn (ha pos2 pins s σ H _ I h) fun us s2 ⟨vs,H2,I2,r,a,b,ev,⟨xs,hqa⟩,⟨ys,hqb⟩,q⟩=>?_) h2 h3;subst ev;obtain ⟨u1,u2,rfl,r1,r2⟩:=pH r;cases r1;cases r2;obtain ⟨ia,rva,pa,hza⟩:=I2.tuple hqa;obtain ⟨ib,rvb,pb,hzb⟩:=I2.tuple hqb;have hal:a<s2.heap.objs.size:=by obtain ⟨o,e,_⟩:=pa;exact Heap.lt_size e
 have hbl:b<s2.heap.objs.size:=by obtain ⟨o,e,_⟩:=pb;exact Heap.lt_size e
 refine bb_call_zip (show s2.heap.IsTuple a ia.toArray from pa) (show s2.heap.IsTuple b ib.toArray from pb) fun h' z1 z2 z3 z4 z5 z6 z7=>?_;have D:ZipApart (s2.heap.objs.size+4) (s2.heap.objs.size+2) (s2.heap.objs.size+3) s2.heap.objs.size (s2.heap.objs.size+1) a b:=zipApart_new hal hbl;refine wpAny_pyIter_zip (s:={ s2 with heap:=h' }) z1 ?_;refine ⟨s2.heap.objs.size+4,[s2.heap.objs.size+4,s2.heap.objs.size+2,s2.heap.objs.size+3,s2.heap.objs.size,s2.heap.objs.size+1],_,_,H2,rfl,I2.kept (t':=s2.toks) z7,rg a b _ _ _ _ _,⟨D,z1,z2,⟨_,_,z3⟩,z4,z5⟩,fun c hc=>?_,q⟩
 have hc':s2.heap.objs.size<=c:=by
  simp only [List.mem_cons,List.not_mem_nil,or_false] at hc;rcases hc with h | h | h | h | h <;> rw [h]
  · exact Nat.le_add_right _ _
  · exact Nat.le_add_right _ _
  · exact Nat.le_add_right _ _
  · exact Nat.le_refl _
  · exact Nat.le_add_right _ _
 exact I2.fpOk hc' (I2.hok.fresh hc')
end
end L2
namespace BB
open PySem L2
end BB
namespace BB
open PySem L2
noncomputable section
local instance:DecidableEq Th:=fun _ _=>Classical.propDecidable _
end
end BB
namespace PySem
open Sem (wp)
section
variable {prog:Program} {w:World} {K:Type} [DecidableEq K] {knd:HeapKind prog w K} {A:Around} {E:Value->Shared->Prop} {s:Shared}
end
end PySem
namespace L2
open PySem PySem.Spec PyProof.Rows
end L2
namespace PySem
open Sem (wp)
section
variable {prog:Program} {w:World} {A:Around} {R:Result->Shared->Prop}
end
section
variable {prog:Program} {w:World} {A:Around} {E:Value->Shared->Prop} {s:Shared}
end
end PySem
namespace L2
open PySem PySem.Spec PyProof.Rows
end L2
namespace L2
open PySem PySem.Spec PyProof.Rows BB
theorem uP {H:Hp} {es:List Dv} {ws:List V} {its:List Value} (r1:Vals ws its) (hws:DAts H es ws) (j:Nat) (z:Value) (hz:its[j]?=some z):∃ e y',es[j]?=some e/\DAt H e y'/\RelV y' z:=by
 have hj:j<its.length:=(List.getElem?_eq_some_iff.mp hz).1;have l1:=r1.length;have l2:=hws.length;have hj2:j<es.length:=by omega
 obtain ⟨y',hy',dy⟩:=hws.at (List.getElem?_eq_getElem hj2);obtain ⟨v',hv',rv'⟩:=r1.get hy';rw [hz] at hv';cases hv';exact ⟨_,y',List.getElem?_eq_getElem hj2,dy,rv'⟩
theorem rB {H:Hp} {z:Value} {e e':Dv} {y' y'':V} (h1:DAt H e y') (h2:RelV y' z) (h3:DAt H e' y'') (h4:RelV y'' z):e=e':=by
 have:=h2.inj h4;subst this;exact h1.inj h3
def sd (K:PySem.W.Frag) (B:Nat):R2:=fun x y H Q=>∃ b ws d es,y=.ref b/\SqL K H b ws/\DAt H d x/\DAts H es ws/\cK es<=B/\∀ r:Bool,(r=true↔d∉es)->Q (.bl r) H
open Classical in
theorem pT {X:Cx} {B:Nat} (hu:X.A.units+B+2<cLine):OpR X (compareOp .NotIn) (sd X.K B):=by
 intro pins s σ H x y v u Q I rx ry h;obtain ⟨b,ws,d,es,rfl,hb,hd,hws,hB,q⟩:=h;cases ry;obtain ⟨its,r1,p1,_⟩:=I.list hb;have l1:=r1.length;have l2:=hws.length;refine SeqAt.notIn_listAt (fun z=>decide (∃ y',DAt H d y'/\RelV y' z)) p1.isList (fun z hz=>?_) ⟨.bl _,H,I,rfl,q _ ?_⟩
 · obtain ⟨j,hj⟩:=List.mem_iff_getElem?.mp (show z∈its by simpa using hz);obtain ⟨e,y',he,dy,ry⟩:=uP r1 hws j z hj;have hq:=fc he
   have e3:decide (∃ y',DAt H d y'/\RelV y' z)=decide (e=d):=by
    by_cases h:e=d
    · rw [decide_eq_true h,decide_eq_true ⟨y',h ▸ dy,ry⟩]
    · rw [decide_eq_false h,decide_eq_false];rintro ⟨y'',h1,h2⟩;exact h (rB dy ry h1 h2)
   rw [e3];refine jq I _ e d (Nat.le_refl _) y' x z v X.A.in1 dy hd ry rx ?_;show X.A.units+1+_<cLine;omega
 · rw [Bool.not_eq_true',<- Bool.not_eq_true];refine not_congr ?_;constructor
   · intro z;obtain ⟨v',h1,h2⟩:=Array.any_eq_true'.mp z;obtain ⟨j,hj⟩:=List.mem_iff_getElem?.mp (show v'∈its by simpa using h1);obtain ⟨e,y',he,dy,ry⟩:=uP r1 hws j v' hj;obtain ⟨y'',h3,h4⟩:=of_decide_eq_true h2;rw [<- rB dy ry h3 h4];exact List.mem_of_getElem? he
   · intro z;obtain ⟨j,hj⟩:=List.mem_iff_getElem?.mp z;obtain ⟨y',hy',dy⟩:=hws.at hj;obtain ⟨v',hv',rv'⟩:=r1.get hy';refine Array.any_eq_true'.mpr ⟨v',?_,decide_eq_true ⟨y',dy,rv'⟩⟩;have:=List.mem_of_getElem? hv';simpa using this
def sf (K:PySem.W.Frag) (B:Nat):V->List V->Hp->VK->Prop:=fun x vs H Q=>∃ (l:Addr) (y:V) (ws:List V) (d:Dv) (es:List Dv) (j:Nat),x=.ref l/\vs=[y]/\SqL K H l ws/\DAt H d y/\DAts H es ws/\cK es<=B/\es[j]?=some d/\(∀ i,i<j->es[i]?≠some d)/\es.length<=100000/\Q (.int (j:Nat)) H
open Classical in
theorem ql {X:Cx} {B:Nat} (hu:X.A.units+B+4<cLine):MtM X "list.index" (sf X.K B):=by
 intro pins s σ H x vs v us Q I rx rv h;obtain ⟨l,y,ws,d,es,j,rfl,rfl,hS,hd,hws,hB,hj,hno,hz,q⟩:=h;cases rx;obtain ⟨u,rfl,ru⟩:=rv.one;obtain ⟨its,r,pl,_⟩:=I.list hS;have hlen:=r.length;have hl2:=hws.length;obtain ⟨⟨cls,dd,data,sl⟩,ho,hc,n,hdt⟩:=pl.isList;simp only at hc hdt;subst hc hdt;have hjl:j<es.length:=(List.getElem?_eq_some_iff.mp hj).1
 have eqd:∀ (m:Nat) (z:Value),its[m]?=some z->∃ e y',es[m]?=some e/\DAt H e y'/\RelV y' z/\decide (∃ y',DAt H d y'/\RelV y' z)=decide (e=d):=fun m z hz=>by
  obtain ⟨e,y',he,dy,ry⟩:=uP r hws m z hz;refine ⟨e,y',he,dy,ry,?_⟩;by_cases h:e=d
  · rw [decide_eq_true h,decide_eq_true ⟨y',h ▸ dy,ry⟩]
  · rw [decide_eq_false h,decide_eq_false];rintro ⟨y'',h1,h2⟩;exact h (rB dy ry h1 h2)
 refine call_meets PySem.F.slot_list_index ⟨_,ho,rfl⟩ PySem.F.entry_list_index (PySem.F.args_list_index_2 _ _)
  (SeqAt.list_indexAt l its.toArray n dd sl u (fun z=>decide (∃ y',DAt H d y'/\RelV y' z)) j (by rw [List.size_toArray];omega) (by omega) ?_ ?_) ⟨ho,fun y hy=>?_,⟨.int (j:Nat),H,I.tok _,⟨_,rfl⟩,q⟩⟩
 · obtain ⟨e,y',he,dy,ry,e3⟩:=eqd j (its.toArray[j]'(by rw [List.size_toArray];omega)) (by simp);rw [hj] at he;cases he;rw [e3];exact decide_eq_true rfl
 · intro m hm hlt;obtain ⟨e,y',he,dy,ry,e3⟩:=eqd m (its.toArray[m]'hm) (by simp);rw [e3];exact decide_eq_false fun z=>hno m hlt (by rw [he,z])
 · have hy':y∈its:=by simpa using hy
   obtain ⟨m,hm⟩:=List.mem_iff_getElem?.mp hy';obtain ⟨e,y',he,dy,ry,e3⟩:=eqd m y hm;rw [e3];have hq:=fc he;refine jq I _ e d (Nat.le_refl _) y' _ y u _ dy hd ry ru ?_;show X.A.units+1+_<cLine;omega
end L2
namespace PySem
open Sem (wp)
section
variable {prog:Program} {w:World} {K:Type} [DecidableEq K] (knd:HeapKind prog w K) (d:Addr)
end
section
variable {prog:Program} {w:World} {K:Type} [DecidableEq K] {knd:HeapKind prog w K} {A:Around} {E:Value->Shared->Prop} {s:Shared}
end
end PySem
namespace L2
open PySem PySem.Spec PyProof.Rows
end L2
namespace BB
open PySem L2
end BB
namespace BB
open PySem L2
end BB
namespace BB
open PySem L2
theorem size_pos (t:Th):0<t.size:=by cases t <;> (rw [Th.size];omega)
end BB
namespace BB
open PySem L2
end BB
namespace BB
open PySem L2 PySem.Builtin PySem.Builtin.Str
end BB
namespace L2
open PySem PySem.Spec PySem.Calls PyProof.Rows BB
section
variable {X:Cx} {pins:List (Addr×Obj)} {σ:List (Option V)} {H:Hp} {s:Shared}
end
end L2
namespace L2
open PySem PySem.Spec PySem.Calls PyProof.Rows PySem.Builtin PySem.Builtin.Str BB
variable {X:Cx}
end L2
namespace BB
open PySem L2
end BB
namespace BB
open PySem L2
section
variable {H H':Hp} {t:Th} {a:Addr} {ts:List Th} {es:List Addr}
end
end BB
namespace L2
open PySem PySem.Spec PyProof.Rows BB
variable {X:Cx}
end L2
namespace L2
open PySem PySem.Spec PyProof.Rows PySem.W
end L2
namespace L2
open PySem PySem.Spec PyProof.Rows BB
variable {X:Cx}
end L2
namespace L2
open PySem PySem.Spec PySem.Calls PyProof.Rows PySem.W
end L2
namespace BB
open PySem L2 PySem.Builtin PySem.Builtin.Str
end BB
namespace L2
open PySem PySem.Spec PySem.Calls PyProof.Rows PySem.Builtin PySem.Builtin.Str BB
variable {X:Cx}
end L2
namespace L2
open PySem PySem.Spec PyProof.Rows
end L2
namespace BB
open PySem L2
end BB
namespace L2
open PySem PySem.Spec PyProof.Rows
end L2
namespace L2
open PySem PySem.Spec PySem.Calls PyProof.Rows
structure FvOk (P:Program) (w:World) (K:PySem.W.Frag) (mg:Str->Option Value) (base:Heap) (CX:CXT) (k:Nat) (f:Addr) (sp:Sp):Prop where
 fn:∀ (A:Around) (outer:List Env) (s:Shared) (H:Hp) (vs:List V) (Q:VK) (E:XK),Env0 P w K mg base A outer s H->sp vs H Q E->PySem.W.FnAt f s.heap
 run:∀ (A:Around) (outer:List Env) (s:Shared) (H:Hp) (us:List Value) (vs:List V) (Q:VK) (E:XK),Room k A->Env0 P w K mg base A outer s H->Vals vs us->sp vs H Q E →
  codeAny (model P w) A (.call (.ref f) ⟨us,[]⟩) (CR CX outer P w H s Q E) s
theorem FvOk.of {P:Program} {w:World} {K:PySem.W.Frag} {mg:Str->Option Value} {base:Heap} {CX:CXT} {k:Nat} {f:Addr} {fd:FuncData} {ps:List Str} {sp:Sp} {x qual:Str} {st:Stmt} (F:aW P w K mg base CX k f fd ps sp) (G:Fun K x qual st f fd) (hb:Binds K fd ps []):FvOk P w K mg base CX k f sp where
 fn:=fun A outer s H vs Q E e0 h=>by
  obtain ⟨oc,od,kV,doc,pm,an,cdv,ct,osl,rfl,lk,_⟩:=G.ex;exact ⟨_,_,_,_,(e0.bs _ _ (e0.mod.kin _ _ lk)).1⟩
 run:=fun A outer s H us vs Q E hr e0 r h=>by
  have KX:K.In s.heap:=e0.mod.kin.keeps fun b o e=>(e0.bs b o e).1;have hl:us.length=ps.length:=by rw [<- r.length];exact F.len _ _ _ _ h
  have:=hb s us KX (by rw [List.append_nil];exact hl);rw [List.append_nil] at this;exact F.run A outer s H ⟨us,[]⟩ us vs Q E hr e0 this r h
section
variable {X:Cx} {CX:CXT} {k i:Nat} {E:XK} {x:Str} {p pos:Pos} {e:Expr} {es:List Expr} {t:TA}
def qJ (P:Program) (w:World) (K:PySem.W.Frag) (mg:Str->Option Value) (base:Heap) (CX:CXT) (k i:Nat) (E:XK) (t:TA):TE:=fun σ H Q=>∃ f sp,σ[i]?=some (some (.ref f))/\FvOk P w K mg base CX k f sp/\t σ H fun vs H1=>sp vs H1 Q E
theorem nW {M:Model} {A:Around} {E:Value->Shared->Prop} {s:Shared} {env:Env} {pos:Pos} {Q:Value->Shared->Prop} {q:Addr} {e:Expr} {rest:List Expr} (h:wpAny M A (spliced (backTo pos (starEach (e::rest) env))) (fun vs s₁=>PySem.W.FnAt q s₁.heap/\wpAny M A (call (.ref q) ([]++vs)) Q E s₁) E s)
 (he:starEach (e::rest) env=(false,eval e env)::starEach rest env) (hplain:(backTo pos (starEach rest env)).any (·.1)=false) :
 wpAny M A (callWith pos (.ref q) [] (backTo pos (starEach (e::rest) env)) []) Q E s:=by
 rw [he] at h ⊢;exact PySem.W.callWith_of (by show ((false || (backTo pos (starEach rest env)).any (·.1)) || false)=false;rw [hplain];rfl) PySem.W.keeps_F (evalArgs_plain h)
theorem kA (hN:X.N[i]?=some x) (hv:Vis X.env.scope x) (hr:Room k X.A) (hx:gH CX X E) (ha:PA X (e::es) t) (hdb:(x == ("__debug__":Str))=false:=by decide) (hcd:(x == ("__classdict__":Str))=false:=by decide)
 (he:starEach (e::es) X.env=(false,eval e X.env)::starEach es X.env:=by rfl) (hpl:(backTo pos (starEach es X.env)).any (·.1)=false:=by rfl) :
 PE X (.Call (.Name x p) (e::es) [] pos) (qJ X.prog X.w X.K X.mg X.base CX k i E t):=by
 intro pins s σ H Q I h;obtain ⟨f,sp,hσ,F,q⟩:=h;refine wpAny_Call_Name_kw (thn (qO (X:=X) hN hv hdb hcd pins s σ H (fun v H1=>v=.ref f/\t σ H1 fun vs H2=>sp vs H2 Q E) I ⟨_,hσ,rfl,q⟩) fun u s1 ⟨v,H1,I1,r,e1,q1⟩=>?_);subst e1;obtain rfl:u=Value.ref f:=r;refine nW (thn (ha pos pins s1 σ H1 _ I1 q1) fun us s2 ⟨vs,H2,I2,r2,q2⟩=>⟨F.fn X.A X.stack s2 H2 vs Q E I2.env0 q2,?_⟩) he hpl;refine wpAny_call (codeAny_mono (F.run X.A X.stack s2 H2 ([]++us) vs Q E hr I2.env0 r2 q2) fun r s' hq=>?_);cases r with
 | error e=>exact hx pins σ H2 s2 e s' I2 hq
 | ok fl =>
   cases fl with
   | ret u=>exact I2.after hq
   | next=>exact False.elim hq
   | brk=>exact False.elim hq
   | cont=>exact False.elim hq
end
section
variable {X:Cx} {k:Nat} {f:Addr} {fd:FuncData} {ps:List Str} {sp:Sp} {x:Str} {p pos:Pos} {e:Expr} {es:List Expr} {t:TA}
end
end L2
namespace L2
open PySem PySem.Spec PyProof.Rows
end L2
namespace L2
open PySem PySem.Spec PyProof.Rows
end L2
namespace BB
open PySem L2
section
variable {head:Th} {rows:List (List Th)}
end
end BB
namespace L2
open PySem PySem.Spec PySem.SeqAt PyProof.Rows
section
variable {X:Cx} {pins:List (Addr×Obj)} {σ:St} {H:Hp} {s:Shared} {o i value:Expr} {pos pos':Pos} {td ty tv:TE}
end
end L2
namespace BB
open PySem L2
end BB
namespace BB
open PySem L2
end BB
namespace BB
open PySem L2
mutual
/-- how many calls -/
def cnT:Th->Nat
 | .knot _ ks=>nB ks
 | .call _ _=>1
def nB:List Th->Nat
 | []=>0
 | t::ts=>cnT t+nB ts
end
end BB
namespace BB
open PySem L2
section
variable {ins mid outs:List (Str×Int)} {S1 S2:Int} {head1 head2:Th} {rows1 rows2:List (List Th)}
end
end BB
namespace L2
open PySem PySem.Spec PySem.Calls PyProof.Rows
end L2
namespace BB
open PySem L2
mutual
/-- the row of the lowest call,0 where there is none -/
def lc:Th->Nat
 | .call _ _=>1
 | .knot _ ks=>if lcs ks=0 then 0 else lcs ks+1
def lcs:List Th->Nat
 | []=>0
 | t::ts=>max (lc t) (lcs ts)
end
mutual
theorem fO {ks:List (Str×Int)} {S C:Int} (g:bx ks):∀ t:Th,t.FitS ks S C->2 * t.size+1<=3 ^ t.tall/\3 * cnT t<=3 ^ lc t
 | .call _ _,_=>by
   rw [Th.size,Th.tall,cnT,lc];exact ⟨by decide,by decide⟩
 | .knot n ts,h=>by
   rw [Th.FitS] at h;obtain ⟨h1,h2⟩:=jz g ts h.2
   have hw:ts.length<=3:=by
    have:=(g.num _ h.1).2;have h2:((ts.length:Nat):Int)<=3:=this;omega
   rw [Th.size,Th.tall,cnT,lc];refine ⟨?_,?_⟩
   · rw [Nat.pow_succ];have hp:1<=3 ^ aC ts:=Nat.pow_pos (by decide);have:ts.length * (3 ^ aC ts - 1)<=3 * (3 ^ aC ts - 1):=Nat.mul_le_mul_right _ hw;omega
   · have:ts.length * 3 ^ lcs ts<=3 * 3 ^ lcs ts:=Nat.mul_le_mul_right _ hw;split
     · rename_i hz
       rw [hz] at h2 this;have h3:=lA g ts h.2 hz;omega
     · rw [Nat.pow_succ];omega
theorem jz {ks:List (Str×Int)} {S C:Int} (g:bx ks):∀ ts:List Th,FitSs ks S C ts->2 * aw ts<=ts.length * (3 ^ aC ts - 1)/\3 * nB ts<=ts.length * 3 ^ lcs ts
 | [],_=>by
   rw [aw,nB];exact ⟨Nat.zero_le _,Nat.zero_le _⟩
 | t::ts,h=>by
   rw [FitSs] at h;obtain ⟨h1,h2⟩:=fO g t h.1;obtain ⟨h3,h4⟩:=jz g ts h.2;rw [aw,nB,aC,lcs,List.length_cons];have a1:3 ^ t.tall<=3 ^ max t.tall (aC ts):=Nat.pow_le_pow_right (by decide) (Nat.le_max_left ..);have a2:3 ^ aC ts<=3 ^ max t.tall (aC ts):=Nat.pow_le_pow_right (by decide) (Nat.le_max_right ..);have b1:3 ^ lc t<=3 ^ max (lc t) (lcs ts):=Nat.pow_le_pow_right (by decide) (Nat.le_max_left ..);have b2:3 ^ lcs ts<=3 ^ max (lc t) (lcs ts):=Nat.pow_le_pow_right (by decide) (Nat.le_max_right ..);have a3:ts.length * (3 ^ aC ts - 1)<=ts.length * (3 ^ max t.tall (aC ts) - 1):=Nat.mul_le_mul_left _ (by omega);have b3:ts.length * 3 ^ lcs ts<=ts.length * 3 ^ max (lc t) (lcs ts):=Nat.mul_le_mul_left _ b2;rw [Nat.add_mul,Nat.add_mul];omega
theorem lA {ks:List (Str×Int)} {S C:Int} (g:bx ks):∀ ts:List Th,FitSs ks S C ts->lcs ts=0->nB ts=0
 | [],_,_=>by rw [nB]
 | t::ts,h,hz=>by
   rw [FitSs] at h;rw [lcs] at hz;have h1:=(fO g t h.1).2;rw [show lc t=0 by omega] at h1;rw [nB,lA g ts h.2 (by omega)];omega
end
end BB
namespace BB
open PySem L2
section
variable {ins mid outs:List (Str×Int)} {S1 S2:Int} {head1 head2:Th} {rows1 rows2:List (List Th)} {τ1 κ1 η1 ι1 τ2 η2 ι2:Nat}
end
end BB
namespace BB
open PySem L2
end BB
namespace BB
open PySem L2
end BB
namespace L2
open PySem PySem.Spec PySem.Calls PyProof.Rows
end L2
namespace L2
open PySem PySem.Spec PySem.Calls PyProof.Rows
end L2
namespace BB
open PySem L2
end BB
namespace BB
open PySem L2
section
variable {k0 k1 k2 k3:List (Str×Int)} {SA SB SC:Int} {a0 b0 c0:Th} {rowsA rowsB rowsC:List (List Th)}
end
end BB
namespace BB
open PySem L2
section
variable {ins mid outs:List (Str×Int)} {S1 S2:Int} {head1 head2:Th} {rows1 rows2:List (List Th)} {τ1 κ1 η1 ι1 τ2 η2 ι2:Nat}
end
end BB
namespace BB
theorem hid {G:Prop} (k:∀ F:Prop,(G->F)->F):G:=k G id
inductive Ex1 {A0:Type} (p:A0->Prop):Prop
 | mk (x0:A0) (h:p x0):Ex1 p
inductive Ex2 {A0 A1:Type} (p:A0->A1->Prop):Prop
 | mk (x0:A0) (x1:A1) (h:p x0 x1):Ex2 p
inductive Ex3 {A0 A1 A2:Type} (p:A0->A1->A2->Prop):Prop
 | mk (x0:A0) (x1:A1) (x2:A2) (h:p x0 x1 x2):Ex3 p
inductive Ex4 {A0 A1 A2 A3:Type} (p:A0->A1->A2->A3->Prop):Prop
 | mk (x0:A0) (x1:A1) (x2:A2) (x3:A3) (h:p x0 x1 x2 x3):Ex4 p
inductive Ex5 {A0 A1 A2 A3 A4:Type} (p:A0->A1->A2->A3->A4->Prop):Prop
 | mk (x0:A0) (x1:A1) (x2:A2) (x3:A3) (x4:A4) (h:p x0 x1 x2 x3 x4):Ex5 p
inductive Ex6 {A0 A1 A2 A3 A4 A5:Type} (p:A0->A1->A2->A3->A4->A5->Prop):Prop
 | mk (x0:A0) (x1:A1) (x2:A2) (x3:A3) (x4:A4) (x5:A5) (h:p x0 x1 x2 x3 x4 x5):Ex6 p
inductive Ex7 {A0 A1 A2 A3 A4 A5 A6:Type} (p:A0->A1->A2->A3->A4->A5->A6->Prop):Prop
 | mk (x0:A0) (x1:A1) (x2:A2) (x3:A3) (x4:A4) (x5:A5) (x6:A6) (h:p x0 x1 x2 x3 x4 x5 x6):Ex7 p
inductive Ex8 {A0 A1 A2 A3 A4 A5 A6 A7:Type} (p:A0->A1->A2->A3->A4->A5->A6->A7->Prop):Prop
 | mk (x0:A0) (x1:A1) (x2:A2) (x3:A3) (x4:A4) (x5:A5) (x6:A6) (x7:A7) (h:p x0 x1 x2 x3 x4 x5 x6 x7):Ex8 p
inductive An2 (a0 a1:Prop):Prop
 | mk (h0:a0) (h1:a1):An2 a0 a1
inductive An3 (a0 a1 a2:Prop):Prop
 | mk (h0:a0) (h1:a1) (h2:a2):An3 a0 a1 a2
inductive An4 (a0 a1 a2 a3:Prop):Prop
 | mk (h0:a0) (h1:a1) (h2:a2) (h3:a3):An4 a0 a1 a2 a3
inductive An5 (a0 a1 a2 a3 a4:Prop):Prop
 | mk (h0:a0) (h1:a1) (h2:a2) (h3:a3) (h4:a4):An5 a0 a1 a2 a3 a4
inductive An6 (a0 a1 a2 a3 a4 a5:Prop):Prop
 | mk (h0:a0) (h1:a1) (h2:a2) (h3:a3) (h4:a4) (h5:a5):An6 a0 a1 a2 a3 a4 a5
inductive An7 (a0 a1 a2 a3 a4 a5 a6:Prop):Prop
 | mk (h0:a0) (h1:a1) (h2:a2) (h3:a3) (h4:a4) (h5:a5) (h6:a6):An7 a0 a1 a2 a3 a4 a5 a6
inductive An8 (a0 a1 a2 a3 a4 a5 a6 a7:Prop):Prop
 | mk (h0:a0) (h1:a1) (h2:a2) (h3:a3) (h4:a4) (h5:a5) (h6:a6) (h7:a7):An8 a0 a1 a2 a3 a4 a5 a6 a7
inductive An9 (a0 a1 a2 a3 a4 a5 a6 a7 a8:Prop):Prop
 | mk (h0:a0) (h1:a1) (h2:a2) (h3:a3) (h4:a4) (h5:a5) (h6:a6) (h7:a7) (h8:a8):An9 a0 a1 a2 a3 a4 a5 a6 a7 a8
inductive uJ (a0 a1 a2 a3 a4 a5 a6 a7 a8 a9:Prop):Prop
 | mk (h0:a0) (h1:a1) (h2:a2) (h3:a3) (h4:a4) (h5:a5) (h6:a6) (h7:a7) (h8:a8) (h9:a9):uJ a0 a1 a2 a3 a4 a5 a6 a7 a8 a9
inductive vz (a0 a1 a2 a3 a4 a5 a6 a7 a8 a9 a10:Prop):Prop
 | mk (h0:a0) (h1:a1) (h2:a2) (h3:a3) (h4:a4) (h5:a5) (h6:a6) (h7:a7) (h8:a8) (h9:a9) (h10:a10):vz a0 a1 a2 a3 a4 a5 a6 a7 a8 a9 a10
end BB
namespace L2
open PySem PySem.Spec PyProof.Rows
end L2
namespace BB
open PySem L2
section
variable {ins outs:List (Str×Int)} {S:Int} {d:Nat} {head:Th} {rows:List (List Th)}
end
end BB
namespace L2
open PySem PySem.Spec PyProof.Rows
end L2
namespace HD
open PySem PySem.W PySem.Calls PyProof.Rows
def jt (tb:String->Option Builtin) (p:Program) (w:World) (m:Nat) (ann:Option Value):Nat->SharedT->Thread->Option SharedT
 | 0,_,_=>none
 | n+1,s,t=>match through t with
   | true=>some s
   | false=>match stepOk m ann t with
     | false=>none
     | true=>match stepT (denote tb) p w s t with
       | some (s',t')=>jt tb p w m ann n s' t'
       | none=>none
theorem jE {tb:String->Option Builtin} {p:Program} {w:World} {m:Nat} {ann:Option Value}:∀ {n:Nat} {s s':SharedT} {t:Thread},jt tb p w m ann n s t=some s'->topRun tb p w m ann n s.abs t=some s'.abs
 | 0,_,_,_,h=>by cases h
 | n+1,s,s',t,h=>by
   unfold jt at h;unfold topRun;cases he:through t with
   | true=>rw [he] at h;cases h;rfl
   | false =>
     rw [he] at h;cases hk:stepOk m ann t with
     | false=>rw [hk] at h;cases h
     | true =>
       rw [hk] at h;cases hs:stepT (denote tb) p w s t with
       | none=>rw [hs] at h;cases h
       | some r =>
         obtain ⟨s2,t2⟩:=r;rw [hs] at h;rw [stepT_spec hs];exact jE h
def rj:List Obj->Nat->BT->BT
 | [],_,t=>t
 | o::l,n,t=>rj l (n+1) (t.ins n o)
def rZ:List Obj->Nat->BT->Bool
 | [],_,_=>true
 | o::l,n,t=>((t.ins n o).get n).isSome && rZ l (n+1) (t.ins n o)
theorem lE:∀ (l:List Obj) (n:Nat) (t:BT),rZ l n t=true->(rj l n t).list (n+l.length)=t.list n++l
 | [],n,t,_=>by rw [List.append_nil];rfl
 | o::l,n,t,h=>by
   obtain ⟨h1,h2⟩:=Bool.and_eq_true_iff.mp h;have e:=absHeap_ins (life:=default) h1
   have e2:(t.ins n o).list (n+1)=t.list n++[o]:=by
    have:=congrArg (fun x:Heap=>x.objs.toList) e;simpa [absHeap,Heap.push] using this
   have ih:=lE l (n+1) (t.ins n o) h2;rw [e2,List.append_assoc] at ih;rw [List.length_cons,show n+(l.length+1)=n+1+l.length by omega];exact ih
theorem uu {h:Heap} (ok:rZ h.objs.toList 0 .nil=true):absHeap (rj h.objs.toList 0 .nil) h.objs.size h.life=h:=by
 have e:=lE _ _ _ ok;rw [Nat.zero_add] at e;unfold absHeap;rw [<- Array.length_toList,e];rfl
noncomputable abbrev ox (p:Program) (N:Nat) (w:World) (os:OsState):Option SharedT :=
 jt treeTable p w 11 (some (.ref 6)) N ⟨rj (boot_heap w.params).objs.toList 0 .nil,11,(boot_heap w.params).life,Array.mk [],boot_drawn,boot_toks,os⟩ (topStub p)
theorem sw (P:Params):(rZ (boot_heap P).objs.toList 0 .nil,(boot_heap P).isNs mainGlobals,(boot_heap P).objs.size,(boot_heap P).nsMap mainGlobals "__annotations__")=(true,true,11,some (.ref 6)):=by kernel_rfl
theorem map_some {α β:Type} {o:Option α} {a:α} {f:α->β} {b:β} (h:o=some a) (e:o.map f=some b):f a=b:=by rw [h] at e;exact Option.some.inj e
abbrev Tr0 (p q:Program) (loose:List Str) (Xt:Shared->Bool) (N:Nat) (g0:Bool):Prop:=∀ (w:World) (os:OsState),((ox p N w os).map fun s=>(staticsOk (importedModules p.main.body) (boot_heap w.params) s.abs.heap && namesBound p s.abs.heap && gensDone s.abs && laidKept (boot_heap w.params) s.abs.heap,s.abs.heap.bltView,pinSeenD q (drecsOf q) s.abs,plainSeenD q loose s.abs,clsSeenW q loose s.abs,(s.abs.heap.accountedOkI (importedModules p.main.body),s.abs.heap.isNs mainGlobals,s.abs.heap.isNs builtinsNs,tablesOk q s.abs.heap,Xt s.abs,(if g0 then s.abs.gens.size == 0 else !leftWithCleanup s.abs.gens))))=some (true,bltViewBooted,pinGoodD (drecsOf q),plainGoodD q loose,clsGoodW q loose,(true,true,true,true,true,true))
abbrev Tr1 (p q:Program) (N:Nat):Prop:=∀ (w:World) (os:OsState),((ox p N w os).map fun s=>seen ((recsOf q).map (·.name)) (ownsOf q) [] { s.abs with gens:=#[] })=some (expectedOf q)
abbrev Tr2 (p q:Program) (loose:List Str) (N:Nat):Prop:=∀ (w:World) (os:OsState),((ox p N w os).map fun s=>s.abs.heap.keysOk (looseW q loose) ((recsOf q).map (·.name)) ((litsOf q).map (·.1)) ((clssOf q (looseW q loose)).map (·.name)))=some true
abbrev Tr3 (p q:Program) (N:Nat):Prop:=∀ (w:World) (os:OsState),((ox p N w os).map fun s=>tabsOk q s.abs)=some true
abbrev Tr4 (p q:Program) (loose:List Str) (N:Nat):Prop:=∀ (w:World) (os:OsState),((ox p N w os).map fun s=>plainSeenE q (looseW q loose) s.abs)=some (plainGoodE q (looseW q loose))
abbrev Tr5 (p q:Program) (N:Nat):Prop:=∀ (w:World) (os:OsState),((ox p N w os).map fun s=>wideSeen q s.abs)=some (wideGood q)
theorem pM {p q:Program} {loose:List Str} {Xt:Shared->Bool} {α:Type} {Yf:Shared->α} {Ya:World->α} {N:Nat} {g0:Bool}
 (e:opening p=plainProg p.main.scope.names) (hN:Nat.ble 600 N=true) (f:∀ s,fenceModules? p s=some s)
 (r0:Tr0 p q loose Xt N g0)
 (r1:Tr1 p q N)
 (r2:Tr2 p q loose N)
 (r3:Tr3 p q N)
 (r4:Tr4 p q loose N)
 (r5:Tr5 p q N)
 (rY:∀ (w:World) (os:OsState),((ox p N w os).map fun s=>Yf s.abs)=some (Ya w)) :
 LeftO p q loose Xt Yf Ya N g0:=fun w=>by
 obtain ⟨⟨h,gs,d,k,os⟩,e1,e'⟩:=Option.map_eq_some_iff.mp (boot_open e hN f w);obtain ⟨rfl,rfl,rfl,rfl⟩:h=boot_heap w.params/\gs=Array.mk []/\d=boot_drawn/\k=boot_toks:=by simpa using e'
 have okw:=sw w.params;have z0:=congrArg Prod.fst okw;have z1:=congrArg (fun x=>x.2.1) okw;have z2:=congrArg (fun x=>x.2.2.1) okw;have z3:=congrArg (fun x=>x.2.2.2) okw;dsimp only at z0 z1 z2 z3;obtain ⟨s1,r1',hY⟩:=Option.map_eq_some_iff.mp (rY w os);have q0:=map_some r1' (r0 w os);have q1:=map_some r1' (r1 w os);have q2:=map_some r1' (r2 w os);have q3:=map_some r1' (r3 w os);have q4:=map_some r1' (r4 w os);have q5:=map_some r1' (r5 w os);have rr:=jE r1'
 have habs:SharedT.abs ⟨rj (boot_heap w.params).objs.toList 0 .nil,11,(boot_heap w.params).life,Array.mk [],boot_drawn,boot_toks,os⟩=⟨boot_heap w.params,Array.mk [],boot_drawn,boot_toks,os⟩:=by
  unfold SharedT.abs;dsimp only;rw [<- z2,uu z0]
 rw [habs] at rr;have a0:=congrArg Prod.fst q0;have a1:=congrArg (fun x=>x.2.1) q0;have a2:=congrArg (fun x=>x.2.2.1) q0;have a3:=congrArg (fun x=>x.2.2.2.1) q0;have a4:=congrArg (fun x=>x.2.2.2.2.1) q0;have b0:=congrArg (fun x=>x.2.2.2.2.2.1) q0;have b1:=congrArg (fun x=>x.2.2.2.2.2.2.1) q0;have b2:=congrArg (fun x=>x.2.2.2.2.2.2.2.1) q0;have b3:=congrArg (fun x=>x.2.2.2.2.2.2.2.2.1) q0;have b4:=congrArg (fun x=>x.2.2.2.2.2.2.2.2.2.1) q0;have b5:=congrArg (fun x=>x.2.2.2.2.2.2.2.2.2.2) q0;dsimp only at a0 a1 a2 a3 a4 b0 b1 b2 b3 b4 b5
 have l2:openSeen q loose (importedModules p.main.body) Xt g0 s1.abs=openGood q loose:=by
  unfold openSeen openGood;rw [q1,a1,q2,b0,b1,b2,b3,b4,b5,q3,a2,q4,a3,q5,a4];rfl
 have t:topFrom treeTable p w N ⟨boot_heap w.params,Array.mk [],boot_drawn,boot_toks,os⟩=some s1.abs:=by
  unfold topFrom;dsimp only;rw [z1,z2,z3,rr];show (match staticsOk (importedModules p.main.body) (boot_heap w.params) s1.abs.heap && namesBound p s1.abs.heap && gensDone s1.abs && laidKept (boot_heap w.params) s1.abs.heap with | true=>_ | false=>_)=_;rw [a0]
 unfold openEnds;rw [e1];show (topFrom treeTable p w N _).map _=_;rw [t];exact congrArg some (Prod.ext l2 hY)
end HD
namespace L2
open PySem PySem.Spec PyProof.Rows
def qY (H H1 H2:Hp):Prop:=∀ b,H2 b=H1 b∨∃ o u,H1 b=some (.frz o u)/\H b=some u/\H2 b=some u
theorem uw {o:Obj} {u:HO} (h:u=.frz o u):False:=by
 have:=congrArg sizeOf h;simp at this
theorem Inv.thaw {X:Cx} {pins:List (Addr×Obj)} {σ σ1:St} {H H1 H2:Hp} {s s1:Shared} (I:Inv X pins σ H s) (I1:Inv X pins σ1 H1 s1) (h:qY H H1 H2):Inv X pins σ1 H2 s1:=by
 have keep:∀ b u,H1 b=some u->(∀ o v,u≠.frz o v)->H2 b=some u:=fun b u e n=>by
  rcases h b with z | ⟨o,v,z,_⟩
  · rw [z];exact e
  · rw [e] at z;cases z;exact absurd rfl (n o v)
 have non:∀ b,H1 b=none->H2 b=none:=fun b e=>by
  rcases h b with z | ⟨o,v,z,_⟩
  · rw [z];exact e
  · rw [e] at z;cases z
 have ht:∀ b xs,H1 b=some (.tup xs)->H2 b=some (.tup xs):=fun b xs e=>keep b _ e (fun _ _ z=>nomatch z);have hw:∀ c b,H1 b=some (.own c)->H2 b=some (.own c):=fun c b e=>keep b _ e (fun _ _ z=>nomatch z);refine ⟨I1.ok,I1.os,I1.bare,⟨I1.base.keep,I1.base.slot,fun b o e n x=>non b (I1.base.free b o e n x),I1.base.there,fun b xs e=>ht b xs (I1.base.tups b xs e),fun b o u e=>?_,fun b ps e=>?_⟩,I1.loc,I1.cell,non _ I1.free,fun x c e=>non _ (I1.freeC x c e),fun p hp=>?_,fun b u e=>?_,I1.len⟩
 · have e1:=I1.base.frzs b o u e;have e2:=I.base.frzs b o u e;rcases h b with z | ⟨o',v,z,z2,_⟩
   · rw [z];exact e1
   · rw [e1] at z;cases z;rw [e2] at z2;exact (uw (Option.some.inj z2).symm).elim
 · obtain ⟨more,e1⟩:=I1.base.tbls b ps e;exact ⟨more,keep b _ e1 (fun _ _ z=>nomatch z)⟩
 · obtain ⟨a1,a2,a3⟩:=I1.pin p hp;exact ⟨a1,non _ a2,a3⟩
 · rcases h b with z | ⟨o,v,z,_,z3⟩
   · rw [z] at e;exact (I1.hok b u e).stay (fun _ _ _ q=>q) (hw b) ht
   · rw [z3] at e;cases e;obtain ⟨_,k⟩:=(show ObjOk X.prog X.w H1 s1.heap b (.frz o u) from I1.hok b _ z);exact k.stay (fun _ _ _ q=>q) (hw b) ht
def vI (t:TS):TS:=fun D σ H=>t { D with nx:=fun σ1 H1=>∃ H2,qY H H1 H2/\D.nx σ1 H2 } σ H
theorem jn {X:Cx} {st:Stmt} {t:TS} (h:PS X st t):PS X st (vI t):=fun pins s σ H D I q=>thn (h pins s σ H _ I q) fun f s' r=>by
 cases f with
 | next =>
   obtain ⟨σ1,H1,I1,H2,th,q2⟩:=r;exact ⟨σ1,H2,I.thaw I1 th,q2⟩
 | brk=>exact r
 | cont=>exact r
 | ret u=>exact r
def jL (t:TE):TE:=fun σ H Q=>t σ H fun v H1=>∃ H2,qY H H1 H2/\Q v H2
theorem mw {X:Cx} {e:Expr} {t:TE} (h:PE X e t):PE X e (jL t):=fun pins s σ H Q I q=>thn (h pins s σ H _ I q) fun v s' r=>by
 obtain ⟨x,H1,I1,rv,H2,th,q2⟩:=r;exact ⟨x,H2,I.thaw I1 th,rv,q2⟩
end L2
namespace L2
open PySem PySem.Spec PyProof.Rows
theorem dB:entryFor table "dict_itemiterator.__iter__"=some Builtin.«dict_keyiterator.__iter__»:=entryFor_alias (id':="dict_keyiterator.__iter__") (by kernel_rfl) rfl (by decide +kernel) (by kernel_rfl)
theorem Inv.freezeK {X:Cx} {pins:List (Addr×Obj)} {σ:St} {H:Hp} {s:Shared} {a:Addr} {kvs:List (Key×V)} {o:Obj} (I:Inv X pins σ H s) (ha:H a=some (.dK kvs)) (ho:s.heap.get? a=some o):Inv X pins σ (upd H a (.frz o (.dK kvs))) s:=by
 have ne:∀ b u,H b=some u->u≠.dK kvs->b≠a:=fun b u e d z=>by rw [z,ha] at e;exact d (Option.some.inj e).symm
 have ht:∀ b xs,H b=some (.tup xs)->upd H a (.frz o (.dK kvs)) b=some (.tup xs):=fun b xs e=>by rw [ae (ne b _ e (by intro z;cases z))];exact e
 have hw:∀ c b,H b=some (.own c)->upd H a (.frz o (.dK kvs)) b=some (.own c):=fun c b e=>by rw [ae (ne b _ e (by intro z;cases z))];exact e
 have st:∀ b u,H b=some u->ObjOk X.prog X.w (upd H a (.frz o (.dK kvs))) s.heap b u:=fun b u e=>(I.hok b u e).stay (fun _ _ _ q=>q) (hw b) ht;refine I.step (g':=s.gens) (d':=s.drawn) (t':=s.toks) (ch:=[]) (fun _ z=>nomatch z) (fun b ob _ _ _ e _=>e) (fun b ob _ _ _ e _=>⟨ob.slots,e⟩) (fun b ob _ e n=>?_) (fun b ob _ e=>⟨ob,e⟩) ht (fun b ob u e=>?_) (fun b ps e=>⟨#[],?_⟩) (fun m hm=>hm) (fun b u e=>?_) I.bare
 · rw [ae (fun z=>by rw [z,ha] at n;cases n)];exact n
 · rw [ae (ne b _ e (by intro z;cases z))];exact e
 · rw [ae (ne b _ e (by intro z;cases z)),e];simp
 · by_cases hb:b=a
   · subst hb;rw [ac] at e;cases e;exact ⟨ho,st _ _ ha⟩
   · rw [ae hb] at e;exact st b u e
theorem jr {P:Program} {w:World} {H:Hp} {h:Heap} {a:Addr} {o:Obj} {es:Array DictEntry} {ep:Nat} {kvs:List (Key×V)} (hd:o.data=.dict es ep) (k:ObjOk P w H h a (.frz o (.dK kvs))) :
 ∃ vs,KV kvs vs/\h.DictAt (aT P w) a vs ep/\vs.length=kvs.length:=by
 obtain ⟨e0,z,y,vs,rel,o',es',ep',h1,h2,h3,h4⟩:=k;rw [e0] at h1;cases h1;rw [hd] at h3;cases h3;exact ⟨vs,rel,⟨o,es,e0,h2,hd,h4⟩,(Paired.length rel).symm⟩
theorem sU {P:Program} {w:World} {k:Key} {v:Value} (h:(aT P w).is k v=true):RelV (kV k) v:=by
 rcases bw h with ⟨i,tk,e1,e2⟩ | ⟨x,tk,e1,e2⟩
 · rw [e1];exact ⟨tk,e2⟩
 · rw [e1];exact ⟨tk,e2⟩
def ItI (a:Addr) (o:Obj) (kvs:List (Key×V)):It :=
 ⟨fun i H=>H a=some (.frz o (.dK kvs))/\i<kvs.length,
  fun i H v H'=>∃ p kv,H p=none/\v=.ref p/\H'=upd H p (.tup [kV kv.1,kv.2])/\kvs[i]?=some kv,
  fun i H=>H a=some (.frz o (.dK kvs))/\kvs.length<=i⟩
theorem oN {P:Program} {w:World} {K:PySem.W.Frag} {elts:List Expr} {k1} {pos:Pos} (a it:Addr) (o:Obj) (es:Array DictEntry) (ep:Nat) (kvs:List (Key×V)) (hd:o.data=.dict es ep) :
 iG P w K (.Tuple elts k1 pos) (ItI a o kvs) [it] it (fun i h=>∃ ok ov,IsItemIter h it a i kvs.length ep ok ov) where
 mem:=by simp
 obj:=fun i h st b hb=>by
  obtain ⟨ok,ov,e⟩:=st;have eb:b=it:=by simpa using hb
  subst eb;exact ⟨_,e,fun v z=>by cases z⟩
 keep:=fun i h h' st k=>by
  obtain ⟨ok,ov,e⟩:=st;exact ⟨ok,ov,k it (by simp) _ e⟩
 item:=by
  intro X hP hw hK hc i pins s σ H E I hf st hg;subst hP hw hK;obtain ⟨hq,hlt⟩:=hg;obtain ⟨ok,ov,hit⟩:=st;obtain ⟨vs,rel,dat,hlen⟩:=jr hd (I.hok a _ hq);obtain ⟨kv,hkv⟩:∃ kv,kvs[i]?=some kv:=⟨_,List.getElem?_eq_getElem hlt⟩;obtain ⟨xv,hxv,r1,r2⟩:=BB.P2.get rel hkv;rw [<- hlen] at hit;have hil:it<s.heap.objs.size:=Heap.lt_size hit;obtain ⟨f0,f1,f2,f3,f4,f5⟩:=hf it (by simp);refine wpAny_pyNext_items_item hit dat (k:=xv.1) (v:=xv.2) hxv fun key h1 hkey hout htup hsz hkeep=>?_;refine ⟨_,rfl,wpAny_letOwnedTupleGo_items hout fun h2 g1 sb=>?_⟩;replace sb:Heap.SameBut it h1 h2:=sb;have hHn:H s.heap.objs.size=none:=I.hok.fresh (Nat.le_refl _)
  have IA:Inv X pins σ (upd H s.heap.objs.size (.tup [kV kv.1,kv.2])) { s with heap:=s.heap.push { cls:=.type "tuple",data:=.seq #[key,xv.2] },toks:=s.toks } :=
   I.laid (o:=.tup [kV kv.1,kv.2]) (fun b ob q=>Heap.get?_push_of_some _ q) (Nat.le_refl _) ⟨by show 2<=sizeLine;decide,[key,xv.2],0,.cons (by rw [r1];exact sU hkey) (.cons r2 .nil),Heap.get?_push_size _ rfl⟩
  refine ⟨.ref s.heap.objs.size,upd H s.heap.objs.size (.tup [kV kv.1,kv.2]),?_,rfl,⟨_,kv,hHn,rfl,rfl,hkv⟩,⟨_,_,by rw [<- hlen];exact g1⟩,fun c hc=>?_⟩
  · refine Inv.turnedL (s:={ s with heap:=s.heap.push { cls:=.type "tuple",data:=.seq #[key,xv.2] },toks:=s.toks }) (h':=h2) (fp:=[it]) (t':=s.toks) IA (fun c oc hc q=>?_) fun c hc=>?_
    · have n1:c≠it:=fun e=>hc (by simp [e]);rw [sb.2 c n1];by_cases hb2:c=s.heap.objs.size
      · subst hb2;have q':(s.heap.push { cls:=.type "tuple",data:=.seq #[key,xv.2] }).get? s.heap.objs.size=some oc:=q;rw [Heap.get?_push_size _ rfl] at q';rw [<- q'];exact htup
      · have q':(s.heap.push { cls:=.type "tuple",data:=.seq #[key,xv.2] }).get? c=some oc:=q;rw [Heap.get?_push_ne _ _ _ hb2] at q';exact hkeep c oc n1 q'
    · have e:c=it:=by simpa using hc
      subst e;exact ⟨by rw [ae (Nat.ne_of_lt hil)];exact f0,f1,f2,f3,f4,f5⟩
  · have e:c=it:=by simpa using hc
    subst e;rw [ae (Nat.ne_of_lt hil)];exact f0
 done:=by
  intro X hP hw hK hc i pins s σ H E I hf st hg;subst hP hw hK;obtain ⟨hq,hge⟩:=hg;obtain ⟨ok,ov,hit⟩:=st;obtain ⟨vs,rel,dat,hlen⟩:=jr hd (I.hok a _ hq);rw [<- hlen] at hit;obtain ⟨f0,f1,f2,f3,f4,f5⟩:=hf it (by simp);exact wpAny_pyNext_items_end (I.ok.hd hc) hit dat (List.getElem?_eq_none (by omega)) fun h' eb=>⟨rfl,I.turned (t':=s.toks) (fun b ob hb e=>eb b ob hb e) f0 f1 f3 f4 f5⟩
 self:=by
  intro A i s Q E st h;obtain ⟨ok,ov,e⟩:=st;have hT:s.TypeIs (.ref it) "dict_itemiterator":=⟨_,e,rfl⟩;refine wpAny_pyIter_slot hT F.slot_dict_itemiterator_iter (wpAny_call_entry F.slot_dict_itemiterator_iter hT dB ?_ (F.args_dict_itemiterator_iter_1 _));exact wpAny_pure ⟨_,rfl,"dict_itemiterator",_,hT,F.slot_dict_itemiterator_next.lookup,h⟩
section
variable {X:Cx} {e:Expr} {te:TE} {apos cpos:Pos}
def qH (tl:TE):TI:=fun σ H R=>tl σ H fun x H1=>∃ a kvs,x=.ref a/\H1 a=some (.dK kvs)/\∀ o,R (ItI a o kvs) (upd H1 a (.frz o (.dK kvs)))
theorem jK {elts:List Expr} {k1} {pos:Pos} (he:PE X e te) (hbase:attributeBase e "items" X.env (eval e X.env)=eval e X.env:=by rfl) (hline:(apos.endLine == cpos.line)=true:=by rfl) :
 PI X (.Tuple elts k1 pos) (.Call (.Attribute e "items" apos) [] [] cpos) (qH te):=by
 intro pins s σ H R I h;refine wpAny_Call_method0_late hbase hline (thn (he pins s σ H _ I h) fun v s1 ⟨x,H1,I1,r1,a,kvs,ex,ha,q⟩=>?_);subst ex;cases r1;obtain ⟨z,y,vs,rel,dd⟩:=(show ObjOk X.prog X.w H1 s1.heap a (.dK kvs) from I1.hok a _ ha);obtain ⟨o,es,ep,h1,h2,h3,h4⟩:=id dd;have hlen:kvs.length=vs.length:=Paired.length rel;have dat:s1.heap.DictAt (aT X.prog X.w) a vs ep:=⟨o,es,h1,h2,h3,h4⟩;refine ⟨"dict","dict.items",F.plainAttrs_dict,F.slot_dict_items,F.type_dict_items,dd.typeIs,dd.mapOf.noDict,?_⟩;refine method_meetsIn F.slot_dict_items F.entry_dict_items rfl (PySem.evalArgs_none ⟨rfl,dd.typeIs,F.args_dict_items_1 _,_,meets_dict_items (aT X.prog X.w) a y,⟨vs,dd⟩,?_⟩);have I2:=I1.freezeK ha h1;refine wpAny_pyIter_items (kvs:=vs) (ep:=ep) ⟨_,Heap.get?_push_size _ rfl,rfl,rfl⟩ (dat.push _) ?_;generalize hN:((s1.heap.push { cls:=.type "dict_items",data:=.fields #[.ref a] }).objs.size)=n;have hn:n=s1.heap.objs.size+1:=by rw [<- hN,Heap.size_push]
 have kept:∀ b ob,s1.heap.get? b=some ob->((s1.heap.push { cls:=.type "dict_items",data:=.fields #[.ref a] }).push { cls:=.type "dict_itemiterator",data:=.fields #[.none,.bool false,.ref a,.int 0 0,.int vs.length 0,.int ep 0,.none,.none] }).get? b=some ob:=fun b ob e=>Heap.get?_push_of_some _ (Heap.get?_push_of_some _ e);have hz:s1.heap.objs.size<=n:=by omega
 refine ⟨n,[n],_,_,upd H1 a (.frz o (.dK kvs)),rfl,I2.kept (t':=s1.toks) kept,oN a n o es ep kvs h3,⟨.none,.none,?_⟩,fun b hb=>?_,q o⟩
 · rw [<- hN,hlen];exact Heap.get?_push_size _ rfl
 · have e:b=n:=by simpa using hb
   subst e;exact I2.fpOk hz (I2.hok.fresh hz)
theorem lm {a:Addr} {o:Obj} {kvs:List (Key×V)} {g:TG} {tb:TS} {D:fu} {σ:St} {H:Hp} (Pv:Nat->St->Hp->Prop) (h0:Pv 0 σ H) (hl:∀ i σ H,i<=kvs.length->Pv i σ H->H a=some (.frz o (.dK kvs)))
 (hs:∀ i kv p σ H,kvs[i]?=some kv->H p=none->Pv i σ H->g (.ref p) σ (upd H p (.tup [kV kv.1,kv.2])) fun σ2 H2=>tb { D with nx:=Pv (i+1),ct:=Pv (i+1),bk:=D.nx } σ2 H2) (hd:∀ σ H,Pv kvs.length σ H->D.nx σ H) :
 ∃ W:Nat->Nat->St->Hp->Prop,(∃ m,W 0 m σ H)/\∀ i m σ H,W i m σ H →
   ((ItI a o kvs).stop i H/\D.nx σ H)∨((ItI a o kvs).go i H/\∃ N:St->Hp->Prop,(∀ σ' H',N σ' H'->∃ m',m'<m/\W (i+1) m' σ' H')/\∀ x H',(ItI a o kvs).yld i H x H'->g x σ H' fun σ2 H2=>tb { D with nx:=N,ct:=N,bk:=D.nx } σ2 H2):=by
 refine ⟨fun i m σ H=>m=kvs.length - i/\i<=kvs.length/\Pv i σ H,⟨kvs.length,by simp,Nat.zero_le _,h0⟩,?_⟩;rintro i m σ H ⟨rfl,hi,p⟩;have q:=hl i σ H hi p;by_cases hlt:i<kvs.length
 · refine .inr ⟨⟨q,hlt⟩,Pv (i+1),fun σ' H' p'=>⟨kvs.length - (i+1),by omega,rfl,hlt,p'⟩,fun x H' y=>?_⟩;obtain ⟨pa,kv,hp,rfl,rfl,hkv⟩:=y;exact hs i kv pa σ H hkv hp p
 · have e:i=kvs.length:=by omega
   subst e;exact .inl ⟨⟨q,Nat.le_refl _⟩,hd σ H p⟩
end
def ItW (a:Addr) (o:Obj) (kvs:List (Key×V)):It :=
 ⟨fun i H=>H a=some (.frz o (.dK kvs))/\i<kvs.length,fun i H v H'=>H'=H/\∃ k,kvs[i]?=some (k,v),fun i H=>H a=some (.frz o (.dK kvs))/\kvs.length<=i⟩
theorem nj {P:Program} {w:World} {K:PySem.W.Frag} {tg:Expr} (a it:Addr) (o:Obj) (es:Array DictEntry) (ep:Nat) (kvs:List (Key×V)) (hd:o.data=.dict es ep) :
 iG P w K tg (ItW a o kvs) [it] it (fun i h=>h.IsValIter it a i kvs.length ep) where
 mem:=by simp
 obj:=fun i h st b hb=>by
  have e:b=it:=by simpa using hb
  subst e;obtain ⟨ob,e,c,d⟩:=st;exact ⟨ob,e,fun v z=>by rw [d] at z;cases z⟩
 keep:=fun i h h' st k=>st.at fun ob e=>k it (by simp) ob e
 item:=by
  intro X hP hw hK hc i pins s σ H E I hf st hg;subst hP hw hK;obtain ⟨hq,hlt⟩:=hg;obtain ⟨vs,rel,dat,hlen⟩:=jr hd (I.hok a _ hq);obtain ⟨kv,hkv⟩:∃ kv,kvs[i]?=some kv:=⟨_,List.getElem?_eq_getElem hlt⟩;obtain ⟨xv,hxv,r1,r2⟩:=BB.P2.get rel hkv;rw [<- hlen] at st;obtain ⟨f0,f1,f2,f3,f4,f5⟩:=hf it (by simp);refine wpAny_pyNext_values_item st dat (k:=xv.1) (v:=xv.2) hxv fun h' st' sb=>?_;have I1:Inv X pins σ H { s with heap:=h' }:=I.turned (t':=s.toks) (fun b ob hb e=>(sb.2 b hb).trans e) f0 f1 f3 f4 f5;rw [hlen] at st';obtain ⟨ob,e,c,d⟩:=id st';exact ⟨_,rfl,lz (s:={ s with heap:=h' }) e c d (by decide) ⟨kv.2,H,I1,r2,⟨rfl,kv.1,hkv⟩,st',fun b hb=>(hf b hb).1⟩⟩
 done:=by
  intro X hP hw hK hc i pins s σ H E I hf st hg;subst hP hw hK;obtain ⟨hq,hge⟩:=hg;obtain ⟨vs,rel,dat,hlen⟩:=jr hd (I.hok a _ hq);rw [<- hlen] at st;obtain ⟨f0,f1,f2,f3,f4,f5⟩:=hf it (by simp);exact wpAny_pyNext_values_end (I.ok.hd hc) st dat (List.getElem?_eq_none (by omega)) fun h' eb=>⟨rfl,I.turned (t':=s.toks) (fun b ob hb e=>eb b ob hb e) f0 f1 f3 f4 f5⟩
 self:=fun _ _ _ _ _ st h=>wpAny_pyIter_valiter st h
section
variable {X:Cx} {e:Expr} {te:TE} {apos cpos:Pos}
def sk (tl:TE):TI:=fun σ H R=>tl σ H fun x H1=>∃ a kvs,x=.ref a/\H1 a=some (.dK kvs)/\∀ o,R (ItW a o kvs) (upd H1 a (.frz o (.dK kvs)))
theorem pY {tg:Expr} (he:PE X e te) (hbase:attributeBase e "values" X.env (eval e X.env)=eval e X.env:=by rfl) (hline:(apos.endLine == cpos.line)=true:=by rfl) :
 PI X tg (.Call (.Attribute e "values" apos) [] [] cpos) (sk te):=by
 intro pins s σ H R I h;refine wpAny_Call_method0_late hbase hline (thn (he pins s σ H _ I h) fun v s1 ⟨x,H1,I1,r1,a,kvs,ex,ha,q⟩=>?_);subst ex;cases r1;obtain ⟨z,y,vs,rel,dd⟩:=(show ObjOk X.prog X.w H1 s1.heap a (.dK kvs) from I1.hok a _ ha);obtain ⟨o,es,ep,h1,h2,h3,h4⟩:=id dd;have hlen:kvs.length=vs.length:=Paired.length rel;have dat:s1.heap.DictAt (aT X.prog X.w) a vs ep:=⟨o,es,h1,h2,h3,h4⟩;refine ⟨"dict","dict.values",F.plainAttrs_dict,F.slot_dict_values,F.type_dict_values,dd.typeIs,dd.mapOf.noDict,?_⟩;refine method_meetsIn F.slot_dict_values F.entry_dict_values rfl (PySem.evalArgs_none ⟨rfl,dd.typeIs,F.args_dict_values_1 _,_,meets_dict_values (aT X.prog X.w) a y,⟨vs,dd⟩,?_⟩);have I2:=I1.freezeK ha h1;refine wpAny_pyIter_values (kvs:=vs) (ep:=ep) ⟨_,Heap.get?_push_size _ rfl,rfl,rfl⟩ (dat.push _) ?_;generalize hN:((s1.heap.push { cls:=.type "dict_values",data:=.fields #[.ref a] }).objs.size)=n;have hn:n=s1.heap.objs.size+1:=by rw [<- hN,Heap.size_push]
 have hz:s1.heap.objs.size<=n:=by omega
 refine ⟨n,[n],_,_,upd H1 a (.frz o (.dK kvs)),rfl,I2.kept (t':=s1.toks) (fun b ob e=>Heap.get?_push_of_some _ (Heap.get?_push_of_some _ e)),nj a n o es ep kvs h3,?_,fun b hb=>?_,q o⟩
 · rw [<- hN,hlen];exact ⟨_,Heap.get?_push_size _ rfl,rfl,rfl⟩
 · have e:b=n:=by simpa using hb
   subst e;exact I2.fpOk hz (I2.hok.fresh hz)
theorem oH {a:Addr} {o:Obj} {kvs:List (Key×V)} {g:TG} {tb:TS} {D:fu} {σ:St} {H:Hp} (Pv:Nat->St->Hp->Prop) (h0:Pv 0 σ H) (hl:∀ i σ H,i<=kvs.length->Pv i σ H->H a=some (.frz o (.dK kvs)))
 (hs:∀ i kv σ H,kvs[i]?=some kv->Pv i σ H->g kv.2 σ H fun σ2 H2=>tb { D with nx:=Pv (i+1),ct:=Pv (i+1),bk:=D.nx } σ2 H2) (hd:∀ σ H,Pv kvs.length σ H->D.nx σ H) :
 ∃ W:Nat->Nat->St->Hp->Prop,(∃ m,W 0 m σ H)/\∀ i m σ H,W i m σ H →
   ((ItW a o kvs).stop i H/\D.nx σ H)∨((ItW a o kvs).go i H/\∃ N:St->Hp->Prop,(∀ σ' H',N σ' H'->∃ m',m'<m/\W (i+1) m' σ' H')/\∀ x H',(ItW a o kvs).yld i H x H'->g x σ H' fun σ2 H2=>tb { D with nx:=N,ct:=N,bk:=D.nx } σ2 H2):=by
 refine ⟨fun i m σ H=>m=kvs.length - i/\i<=kvs.length/\Pv i σ H,⟨kvs.length,by simp,Nat.zero_le _,h0⟩,?_⟩;rintro i m σ H ⟨rfl,hi,p⟩;have q:=hl i σ H hi p;by_cases hlt:i<kvs.length
 · refine .inr ⟨⟨q,hlt⟩,Pv (i+1),fun σ' H' p'=>⟨kvs.length - (i+1),by omega,rfl,hlt,p'⟩,fun x H' y=>?_⟩;obtain ⟨rfl,k,hkv⟩:=y;exact hs i (k,x) σ _ hkv p
 · have e:i=kvs.length:=by omega
   subst e;exact .inl ⟨⟨q,Nat.le_refl _⟩,hd σ H p⟩
end
end L2
namespace PySem
open Sem (wp)
section
variable {prog:Program} {w:World} {A:Around} {E:Value->Shared->Prop} {s:Shared} {it d:Addr} {i ep:Nat} {od:Obj} {es:Array DictEntry} {ok ov:Value}
theorem bb_put {vs:Array Value} {j:Nat} {x:Value} {Q:Unit->Shared->Prop} (e:s.heap.get? it=some { cls:=.type "dict_itemiterator",dict:=none,data:=.fields vs,slots:=#[] }) (hj:j<vs.size)
 (k:∀ h',h'.get? it=some { cls:=.type "dict_itemiterator",dict:=none,data:=.fields (vs.setIfInBounds j x),slots:=#[] }->Heap.SameBut it s.heap h'->Q () { s with heap:=h' }):wpAny (model prog w) A (setField (.ref it) j x) Q E s :=
 wpAny_setField_rec e hj fun h' e' sb=>k h' e' sb
theorem bb_itemNextT {en:DictEntry} {Q:Option Value->Shared->Prop} (g:IsItemIter s.heap it d i es.size ep ok ov) (g1:s.heap.get? d=some od) (g2:od.data=.dict es ep) (hx:es[i]?=some en)
 (fin:∀ h',IsItemIterOut h' it d (i+1) es.size ep en.key en.val s.heap.objs.size->h'.get? s.heap.objs.size=some { cls:=.type "tuple",data:=.seq #[en.key,en.val] }->(∀ b o,b≠it->s.heap.get? b=some o->h'.get? b=some o)->Q (some (.ref s.heap.objs.size)) { s with heap:=h' }) :
 wpAny (model prog w) A (pyNext (.ref it)) Q E s:=by
 obtain ⟨h0,gn,dr,tk,os⟩:=s;have gT:Shared.TypeIs ⟨h0,gn,dr,tk,os⟩ (.ref it) "dict_itemiterator":=⟨_,g,rfl⟩;have own:Builtin.Dict_items.ownsTuple "dict_itemiterator"=true:=by decide
 have lt:i<es.size:=(Array.getElem?_eq_some_iff.mp hx).1;have ee:es[i]=en:=(Array.getElem?_eq_some_iff.mp hx).2;have hil:it<h0.objs.size:=Heap.lt_size g;unfold pyNext;refine wpAny_bind (wpAny_attempt (wpAny_callSpecial?_slot (name:=Str.ofString "__next__") gT F.slot_dict_itemiterator_next (wpAny_call_entry F.slot_dict_itemiterator_next gT F.entry_dict_itemiterator_next ?_ (F.args_dict_itemiterator_next_1 _))));refine wpAny_bind (wpAny_pure (wpAny_bind (wpAny_bind ?_)));first | refine wpAny_bind (wpAny_typeNameOfWhole_itemiter gT (wpAny_pure ?_)) | refine wpAny_bind (wpAny_typeNameOf_itemiter gT (wpAny_pure ?_))
 refine wpAny_bind (wpAny_fieldsOf g rfl ?_);simp only [own,if_true];show wpAny _ _ (if (Value.ref d == Value.none)=true then _ else _) _ _ _;rw [if_neg (show ¬ ((Value.ref d == Value.none)=true) from Bool.false_ne_true)];refine wpAny_bind (wpAny_pure (wpAny_bind (wpAny_dictEntries g1 g2 ?_)));rw [if_neg (by simp)];refine wpAny_bind (wpAny_pure (wpAny_bind (wpAny_dictEpoch g1 g2 ?_)));rw [if_neg (by simp)];refine wpAny_pure ?_;simp only [show ¬ ((i:Int)<0) from by omega,if_false,Int.toNat_natCast,Array.getElem?_eq_getElem lt];rw [ee];refine wpAny_bind ?_;first | refine wpAny_bind (wpAny_typeNameOfWhole_itemiter gT (wpAny_pure ?_)) | refine wpAny_bind (wpAny_typeNameOf_itemiter gT (wpAny_pure ?_))
 refine wpAny_bind (wpAny_isOneOf_itemiter gT ?_);show wpAny _ _ (setField (.ref it) 3 (rawInt ((i:Int)+1)) >>= _) _ _ _;refine wpAny_bind (bb_put g (by simp) fun h1 e1 sb1=>?_);replace sb1:Heap.SameBut it h0 h1:=sb1
 replace e1:IsItemIter h1 it d (i+1) es.size ep ok ov:=by
  have e:((i+1:Nat):Int)=(i:Int)+1:=by omega
  unfold IsItemIter;rw [e];simpa [rawInt] using e1
 have gT1:Shared.TypeIs ⟨h1,gn,dr,tk,os⟩ (.ref it) "dict_itemiterator":=⟨_,e1,rfl⟩;refine wpAny_bind (wpAny_holding (wpAny_bind (wpAny_isOneOf_itemiter gT1 (wpAny_bind (wpAny_isOneOf_itemiter gT1 ?_)))));show wpAny _ _ (Builtin.Dict_items.pairFromOwner (.ref it) 6 en.key en.val) _ _ ⟨h1,gn,dr,tk,os⟩;unfold Builtin.Dict_items.pairFromOwner;refine wpAny_bind (wpAny_newTuple ?_);have z1:h1.objs.size=h0.objs.size:=sb1.1;have e2:IsItemIter (h1.push { cls:=.type "tuple",data:=.seq #[en.key,en.val] }) it d (i+1) es.size ep ok ov:=Heap.get?_push_of_some _ e1;have t2:(h1.push { cls:=.type "tuple",data:=.seq #[en.key,en.val] }).get? h0.objs.size=some { cls:=.type "tuple",data:=.seq #[en.key,en.val] }:=by rw [<- z1];exact Heap.get?_push_size _ rfl
 have k2:∀ b o,b≠it->h0.get? b=some o->(h1.push { cls:=.type "tuple",data:=.seq #[en.key,en.val] }).get? b=some o:=fun b o hb q=>Heap.get?_push_of_some _ (sb1.extBut b o hb q);rw [z1];generalize h1.push { cls:=.type "tuple",data:=.seq #[en.key,en.val] }=h2 at e2 t2 k2 ⊢;show wpAny _ _ (Builtin.Dict_items.ownedTupleIsFree (.ref it) >>= _) _ _ ⟨h2,gn,dr,tk,os⟩;refine wpAny_bind ?_;unfold Builtin.Dict_items.ownedTupleIsFree;refine wpAny_bind (wpAny_field e2 rfl (x:=.none) rfl (wpAny_pure ?_));simp only [if_true];refine wpAny_bind (wpAny_field e2 rfl (x:=ok) rfl (wpAny_bind (wpAny_field e2 rfl (x:=ov) rfl ?_)));refine wpAny_bind (bb_put e2 (by simp) fun h3 e3 sb3=>?_);replace sb3:Heap.SameBut it h2 h3:=sb3;refine wpAny_bind (bb_put e3 (by simp) fun h4 e4 sb4=>?_);replace sb4:Heap.SameBut it h3 h4:=sb4;refine wpAny_bind (bb_put e4 (by simp) fun h5 e5 sb5=>?_);replace sb5:Heap.SameBut it h4 h5:=sb5;refine wpAny_bind (bb_put e5 (by simp) fun h6 e6 sb6=>?_);replace sb6:Heap.SameBut it h5 h6:=sb6;have up:∀ b o,b≠it->h2.get? b=some o->h6.get? b=some o:=fun b o hb q=>sb6.extBut b o hb (sb5.extBut b o hb (sb4.extBut b o hb (sb3.extBut b o hb q)));exact wpAny_bind (wpAny_letGo (wpAny_pure (wpAny_pure ⟨_,rfl,wpAny_pure (fin h6 (by unfold IsItemIterOut;simpa [rawInt] using e6) (up _ _ (Nat.ne_of_gt hil) t2) fun b o hb q=>up b o hb (k2 b o hb q))⟩)))
theorem bb_itemEndT {Q:Option Value->Shared->Prop} (calm:A.handled=none) (g:IsItemIter s.heap it d i es.size ep ok ov) (g1:s.heap.get? d=some od) (g2:od.data=.dict es ep) (hx:es.size<=i)
 (fin:∀ h',Heap.ExtBut it s.heap h'->Q none { s with heap:=h' }):wpAny (model prog w) A (pyNext (.ref it)) Q E s:=by
 have gT:s.TypeIs (.ref it) "dict_itemiterator":=⟨_,g,rfl⟩;have own:Builtin.Dict_items.ownsTuple "dict_itemiterator"=true:=by decide
 unfold pyNext;refine wpAny_bind (wpAny_attempt (wpAny_callSpecial?_slot (name:=Str.ofString "__next__") gT F.slot_dict_itemiterator_next (wpAny_call_entry F.slot_dict_itemiterator_next gT F.entry_dict_itemiterator_next ?_ (F.args_dict_itemiterator_next_1 _))));refine wpAny_bind (wpAny_pure (wpAny_bind (wpAny_bind ?_)));first | refine wpAny_bind (wpAny_typeNameOfWhole_itemiter gT (wpAny_pure ?_)) | refine wpAny_bind (wpAny_typeNameOf_itemiter gT (wpAny_pure ?_))
 refine wpAny_bind (wpAny_fieldsOf g rfl ?_);simp only [own,if_true];show wpAny _ _ (if (Value.ref d == Value.none)=true then _ else _) _ _ s;rw [if_neg (show ¬ ((Value.ref d == Value.none)=true) from Bool.false_ne_true)];refine wpAny_bind (wpAny_pure (wpAny_bind (wpAny_dictEntries g1 g2 ?_)));rw [if_neg (by simp)];refine wpAny_bind (wpAny_pure (wpAny_bind (wpAny_dictEpoch g1 g2 ?_)));rw [if_neg (by simp)];refine wpAny_pure ?_;simp only [show ¬ ((i:Int)<0) from by omega,if_false,Int.toNat_natCast,Array.getElem?_eq_none hx];refine wpAny_bind ?_;first | refine wpAny_bind (wpAny_typeNameOfWhole_itemiter gT (wpAny_pure ?_)) | refine wpAny_bind (wpAny_typeNameOf_itemiter gT (wpAny_pure ?_))
 show wpAny _ _ (setField (.ref it) 2 .none >>= _) _ _ s;refine wpAny_bind (wpAny_setField g rfl (by simp) ?_);show wpAny _ _ (newExc (.type "StopIteration") [] >>= _) _ _ _;refine wpAny_bind ?_;simp only [newExc,newTuple];refine wpAny_bind (wpAny_newObj_type ?_ (by size_fits));refine wpAny_bind (m:=firstArgMember _ _) (wpAny_of_eq (a:=Value.none) (by first | rfl | (simp only [firstArgMember];rfl)) ?_);refine wpAny_newObj_type ?_ (by size_fits);simp only [raiseNew];refine wpAny_bind (wpAny_handled ?_);rw [show A.in1.handled=none from calm];refine wpAny_bind (wpAny_pure (wpAny_throw ?_));refine wpAny_bind (wpAny_isInstance (T:="StopIteration") (b:=true) ⟨_,Heap.get?_push_size _ rfl,rfl⟩ isSubtype_stop ?_);exact wpAny_pure (fin _ (((Heap.SameBut.update ..).extBut.push _).push _))
theorem bb_itemsT {Q:Value->Shared->Prop} (ns:(d == sysModules)=false) (gT:s.TypeIs (.ref d) "dict") (fin:Q (.ref s.heap.objs.size) { s with heap:=s.heap.push { cls:=.type "dict_items",data:=.fields #[.ref d] } }):wpAny (model prog w) A (call (.builtin "dict.items") [.ref d]) Q E s:=by
 refine wpAny_call_entry F.slot_dict_items gT F.entry_dict_items ?_ (F.args_dict_items_1 _);unfold Builtin.«dict.items»;refine wpAny_bind ?_;unfold Builtin.Dict.noArgs;refine wpAny_bind (wpAny_notOrdered_dict gT ?_);show wpAny _ _ (pure d) _ _ s;refine wpAny_pure ?_;show wpAny _ _ (Builtin.Dict.showsAll d >>= _) _ _ s;unfold Builtin.Dict.showsAll;rw [if_neg (by rw [ns];exact Bool.false_ne_true)];exact wpAny_bind (wpAny_pure (wpAny_bind (wpAny_newObj_type (wpAny_pure ⟨_,rfl,fin⟩))))
theorem bb_itemsIterT {v:Addr} {Q:Value->Shared->Prop} (hv:s.heap.IsItemsView v d) (g1:s.heap.get? d=some od) (g2:od.data=.dict es ep)
 (fin:Q (.ref s.heap.objs.size) { s with heap:=s.heap.push { cls:=.type "dict_itemiterator",data:=.fields #[.none,.bool false,.ref d,.int 0 0,.int es.size 0,.int ep 0,.none,.none] } }):wpAny (model prog w) A (pyIter (.ref v)) Q E s:=by
 obtain ⟨o,e1,e2,e3⟩:=id hv;have own:Builtin.Dict_items.ownsTuple "dict_itemiterator"=true:=by decide
 refine wpAny_pyIter_slot hv.typeIs F.slot_dict_items_iter (wpAny_call_entry F.slot_dict_items_iter hv.typeIs F.entry_dict_items_iter ?_ (F.args_dict_items_iter_1 _));unfold Builtin.«dict_items.__iter__»;refine wpAny_bind (wpAny_pure (wpAny_bind ?_));unfold Builtin.Dict_items.dictOf;refine wpAny_bind (wpAny_field e1 e3 (x:=.ref d) rfl (wpAny_pure ?_));refine wpAny_bind ?_;unfold Builtin.Dict_items.newIterator;refine wpAny_bind (wpAny_dictEntries g1 g2 (wpAny_bind (wpAny_dictEpoch g1 g2 ?_)));simp only [own,if_true];refine wpAny_newObj_type (wpAny_pure ⟨_,rfl,"dict_itemiterator",_,⟨_,Heap.get?_push_size _ rfl,rfl⟩,F.slot_dict_itemiterator_next.lookup,?_⟩) (by simp only [sizeOk,Builtin.Dict_items.ownedTupleFields,List.size_toArray,List.length_append,List.length_cons,List.length_nil,sizeLine_eq];omega);simpa [rawInt,Builtin.Dict_items.ownedTupleFields] using fin
end
end PySem
namespace L2
open PySem PySem.Spec PyProof.Rows
def vG (a:Addr) (o:Obj) (kvs:List (List Key×V)):It :=
 ⟨fun i H=>H a=some (.frz o (.dT kvs))/\i<kvs.length,
  fun i H v H'=>∃ p b kv,H p=none/\v=.ref p/\H'=upd H p (.tup [.ref b,kv.2])/\kvs[i]?=some kv/\H b=some (.tup (kv.1.map kV)),
  fun i H=>H a=some (.frz o (.dT kvs))/\kvs.length<=i⟩
theorem mT {P:Program} {w:World} {K:PySem.W.Frag} {elts:List Expr} {k1} {pos:Pos} (a it:Addr) (o:Obj) (es:Array DictEntry) (ep:Nat) (kvs:List (List Key×V)) (hd:o.data=.dict es ep) :
 iG P w K (.Tuple elts k1 pos) (vG a o kvs) [it] it (fun i h=>∃ ok ov,IsItemIter h it a i es.size ep ok ov) where
 mem:=by simp
 obj:=fun i h st b hb=>by
  obtain ⟨ok,ov,e⟩:=st;have eb:b=it:=by simpa using hb
  subst eb;exact ⟨_,e,fun v z=>by cases z⟩
 keep:=fun i h h' st k=>by
  obtain ⟨ok,ov,e⟩:=st;exact ⟨ok,ov,k it (by simp) _ e⟩
 item:=by
  intro X hP hw hK hc i pins s σ H E I hf st hg;subst hP hw hK;obtain ⟨hq,hlt⟩:=hg;obtain ⟨ok,ov,hit⟩:=st;obtain ⟨e0,z,y,xs,r,o',es',ep',h1,h2,h3,h4,h5⟩:=(show ObjOk X.prog X.w H s.heap a (.frz o (.dT kvs)) from I.hok a _ hq);rw [e0] at h1;cases h1;rw [hd] at h3;cases h3;obtain ⟨kv,hkv⟩:∃ kv,kvs[i]?=some kv:=⟨_,List.getElem?_eq_getElem hlt⟩;obtain ⟨q',hq',hr⟩:=BB.P2.get r hkv;have hen:es[i]?=some (entryOfKey (tupleKind (aT X.prog X.w)) q'):=by rw [<- Array.getElem?_toList,h4,List.getElem?_map,hq'];rfl
  have hil:it<s.heap.objs.size:=Heap.lt_size hit;obtain ⟨f0,f1,f2,f3,f4,f5⟩:=hf it (by simp);refine bb_itemNextT hit e0 hd hen fun h1 hout htup hkeep=>?_;refine ⟨_,rfl,wpAny_letOwnedTupleGo_items hout fun h2 g1 sb=>?_⟩;replace sb:Heap.SameBut it h1 h2:=sb;have hHn:H s.heap.objs.size=none:=I.hok.fresh (Nat.le_refl _)
  have IA:Inv X pins σ (upd H s.heap.objs.size (.tup [.ref q'.2.1,kv.2])) { s with heap:=s.heap.push { cls:=.type "tuple",data:=.seq #[.ref q'.2.1,q'.2.2] },toks:=s.toks } :=
   I.laid (o:=.tup [.ref q'.2.1,kv.2]) (fun b ob q=>Heap.get?_push_of_some _ q) (Nat.le_refl _) ⟨by show 2<=sizeLine;decide,[.ref q'.2.1,q'.2.2],0,.cons rfl (.cons hr.2.2 .nil),Heap.get?_push_size _ rfl⟩
  refine ⟨.ref s.heap.objs.size,upd H s.heap.objs.size (.tup [.ref q'.2.1,kv.2]),?_,rfl,⟨_,q'.2.1,kv,hHn,rfl,rfl,hkv,hr.2.1⟩,⟨_,_,g1⟩,fun c hc=>?_⟩
  · refine Inv.turnedL (s:={ s with heap:=s.heap.push { cls:=.type "tuple",data:=.seq #[.ref q'.2.1,q'.2.2] },toks:=s.toks }) (h':=h2) (fp:=[it]) (t':=s.toks) IA (fun c oc hc q=>?_) fun c hc=>?_
    · have n1:c≠it:=fun e=>hc (by simp [e]);rw [sb.2 c n1];by_cases hb2:c=s.heap.objs.size
      · subst hb2;have q2:(s.heap.push { cls:=.type "tuple",data:=.seq #[.ref q'.2.1,q'.2.2] }).get? s.heap.objs.size=some oc:=q;rw [Heap.get?_push_size _ rfl] at q2;rw [<- q2];exact htup
      · have q2:(s.heap.push { cls:=.type "tuple",data:=.seq #[.ref q'.2.1,q'.2.2] }).get? c=some oc:=q;rw [Heap.get?_push_ne _ _ _ hb2] at q2;exact hkeep c oc n1 q2
    · have e:c=it:=by simpa using hc
      subst e;exact ⟨by rw [ae (Nat.ne_of_lt hil)];exact f0,f1,f2,f3,f4,f5⟩
  · have e:c=it:=by simpa using hc
    subst e;rw [ae (Nat.ne_of_lt hil)];exact f0
 done:=by
  intro X hP hw hK hc i pins s σ H E I hf st hg;subst hP hw hK;obtain ⟨hq,hge⟩:=hg;obtain ⟨ok,ov,hit⟩:=st;obtain ⟨e0,z,y,xs,r,o',es',ep',h1,h2,h3,h4,h5⟩:=(show ObjOk X.prog X.w H s.heap a (.frz o (.dT kvs)) from I.hok a _ hq);rw [e0] at h1;cases h1;rw [hd] at h3;cases h3;have hl:=Paired.length r
  have hl2:es.size=xs.length:=by
   have:=congrArg List.length h4;rw [List.length_map,Array.length_toList] at this;exact this
  obtain ⟨f0,f1,f2,f3,f4,f5⟩:=hf it (by simp);exact bb_itemEndT (I.ok.hd hc) hit e0 hd (by omega) fun h' eb=>⟨rfl,I.turned (t':=s.toks) (fun b ob hb e=>eb b ob hb e) f0 f1 f3 f4 f5⟩
 self:=by
  intro A i s Q E st h;obtain ⟨ok,ov,e⟩:=st;have hT:s.TypeIs (.ref it) "dict_itemiterator":=⟨_,e,rfl⟩;refine wpAny_pyIter_slot hT F.slot_dict_itemiterator_iter (wpAny_call_entry F.slot_dict_itemiterator_iter hT dB ?_ (F.args_dict_itemiterator_iter_1 _));exact wpAny_pure ⟨_,rfl,"dict_itemiterator",_,hT,F.slot_dict_itemiterator_next.lookup,h⟩
section
variable {X:Cx} {e:Expr} {te:TE} {apos cpos:Pos}
def pK (tl:TE):TI:=fun σ H R=>tl σ H fun x H1=>∃ a kvs,x=.ref a/\H1 a=some (.dT kvs)/\∀ o,R (vG a o kvs) (upd H1 a (.frz o (.dT kvs)))
theorem lu {elts:List Expr} {k1} {pos:Pos} (he:PE X e te) (hbase:attributeBase e "items" X.env (eval e X.env)=eval e X.env:=by rfl) (hline:(apos.endLine == cpos.line)=true:=by rfl) :
 PI X (.Tuple elts k1 pos) (.Call (.Attribute e "items" apos) [] [] cpos) (pK te):=by
 intro pins s σ H R I h;refine wpAny_Call_method0_late hbase hline (thn (he pins s σ H _ I h) fun v s1 ⟨x,H1,I1,r1,a,kvs,ex,ha,q⟩=>?_);subst ex;cases r1;obtain ⟨z,y,xs,r,dd⟩:=(show ObjOk X.prog X.w H1 s1.heap a (.dT kvs) from I1.hok a _ ha);obtain ⟨o,es,ep,h1,h2,h3,h4,h5⟩:=id dd;have gT:s1.TypeIs (.ref a) "dict":=⟨_,h1,h2.1⟩;refine ⟨"dict","dict.items",F.plainAttrs_dict,F.slot_dict_items,F.type_dict_items,gT,fun c e=>by cases e;exact ⟨_,h1,h2.2.1⟩,?_⟩;refine Calls.callWith_builtin rfl (PySem.evalArgs_none (bb_itemsT y gT ?_));have I2:=I1.freeze ha h1;refine bb_itemsIterT (d:=a) (od:=o) (es:=es) (ep:=ep) ⟨_,Heap.get?_push_size _ rfl,rfl,rfl⟩ (Heap.get?_push_of_some _ h1) h3 ?_;generalize hN:((s1.heap.push { cls:=.type "dict_items",data:=.fields #[.ref a] }).objs.size)=n;have hn:n=s1.heap.objs.size+1:=by rw [<- hN,Heap.size_push]
 have hz:s1.heap.objs.size<=n:=by omega
 refine ⟨n,[n],_,_,upd H1 a (.frz o (.dT kvs)),rfl,I2.kept (t':=s1.toks) (fun b ob e=>Heap.get?_push_of_some _ (Heap.get?_push_of_some _ e)),mT a n o es ep kvs h3,⟨.none,.none,?_⟩,fun b hb=>?_,q o⟩
 · rw [<- hN];exact Heap.get?_push_size _ rfl
 · have e:b=n:=by simpa using hb
   subst e;exact I2.fpOk hz (I2.hok.fresh hz)
end
end L2
namespace L2
open PySem PySem.Spec PyProof.Rows
def rP (K:PySem.W.Frag) (a b:Addr):It:=⟨fun i H=>∃ xs ys x y,SqL K H a xs/\SqL K H b ys/\xs[i]?=some x/\ys[i]?=some y,fun i H v H'=>∃ p x y,H p=none/\v=.ref p/\H'=upd H p (.tup [x,y])/\(∀ xs,SqL K H a xs->xs[i]?=some x)/\(∀ ys,SqL K H b ys->ys[i]?=some y),fun i H=>∃ xs ys,SqL K H a xs/\SqL K H b ys/\(xs.length<=i∨ys.length<=i)⟩
structure vZ (z TI TO i1 i2 a b:Addr) (i:Nat) (h:Heap):Prop where
 ap:ZipApart z TI TO i1 i2 a b
 zip:IsZip h z TI TO .none
 hTI:IsPair h TI (.ref i1) (.ref i2)
 hTO:∃ u v,IsPair h TO u v
 h1:h.IsListIter i1 a i
 h2:h.IsListIter i2 b i
theorem pX {P:Program} {w:World} {K:PySem.W.Frag} {elts:List Expr} {k1} {pos:Pos} (a b z TI TO i1 i2:Addr):iG P w K (.Tuple elts k1 pos) (rP K a b) [z,TI,TO,i1,i2] z (vZ z TI TO i1 i2 a b) where
 mem:=by simp
 obj:=fun i h st c hc=>by
  obtain ⟨D,hz,hTI,⟨u,v,hTO⟩,⟨o1,a1,a2,a3⟩,⟨o2,b1,b2,b3⟩⟩:=st;simp only [List.mem_cons,List.not_mem_nil,or_false] at hc;rcases hc with rfl | rfl | rfl | rfl | rfl
  · exact ⟨_,hz,fun v z=>by cases z⟩
  · exact ⟨_,hTI,fun v z=>by cases z⟩
  · exact ⟨_,hTO,fun v z=>by cases z⟩
  · exact ⟨o1,a1,fun v z=>by rw [a3] at z;cases z⟩
  · exact ⟨o2,b1,fun v z=>by rw [b3] at z;cases z⟩
 keep:=fun i h h' st k=>by
  obtain ⟨D,hz,hTI,⟨u,v,hTO⟩,⟨o1,a1,a2⟩,⟨o2,b1,b2⟩⟩:=st;exact ⟨D,k _ (by simp) _ hz,k _ (by simp) _ hTI,⟨u,v,k _ (by simp) _ hTO⟩,⟨o1,k _ (by simp) _ a1,a2⟩,⟨o2,k _ (by simp) _ b1,b2⟩⟩
 item:=by
  intro X hP hw hK hc i pins s σ H E I hf st hg;subst hP hw hK;obtain ⟨xs,ys,x,y,hqa,hqb,hx,hy⟩:=hg;obtain ⟨ia,rva,pa,hza⟩:=I.list hqa;obtain ⟨ib,rvb,pb,hzb⟩:=I.list hqb;obtain ⟨u,hu,ru⟩:=rva.get hx;obtain ⟨v,hv,rv⟩:=rvb.get hy;obtain ⟨D,hz,hTI,⟨ta,tb,hTO⟩,h1,h2⟩:=st
  have lt:∀ c∈[z,TI,TO,i1,i2],c<s.heap.objs.size:=fun c hc=>by
   simp only [List.mem_cons,List.not_mem_nil,or_false] at hc;rcases hc with rfl | rfl | rfl | rfl | rfl
   · exact Heap.lt_size hz
   · exact Heap.lt_size hTI
   · exact Heap.lt_size hTO
   · obtain ⟨o,e,_⟩:=h1;exact Heap.lt_size e
   · obtain ⟨o,e,_⟩:=h2;exact Heap.lt_size e
  refine wpAny_pyNext_zip_item D hz hTI hTO h1 h2 pa.isList pb.isList (by simpa using hu) (by simpa using hv) fun h1' a1 a2 a3 a4 a5 a6 a7=>?_;refine ⟨_,rfl,wpAny_letOwnedTupleGo_zip a1 fun h2' g1 sb=>?_⟩;replace sb:Heap.SameBut z h1' h2':=sb;have hHn:H s.heap.objs.size=none:=I.hok.fresh (Nat.le_refl _)
  have IA:Inv X pins σ (upd H s.heap.objs.size (.tup [x,y])) { s with heap:=s.heap.push { cls:=.type "tuple",data:=.seq #[u,v] },toks:=s.toks } :=
   I.laid (o:=.tup [x,y]) (fun b ob q=>Heap.get?_push_of_some _ q) (Nat.le_refl _) ⟨by show 2<=sizeLine;decide,[u,v],0,.cons ru (.cons rv .nil),Heap.get?_push_size _ rfl⟩
  have hzT:s.heap.objs.size≠z:=Nat.ne_of_gt (lt z (by simp));refine ⟨.ref s.heap.objs.size,upd H s.heap.objs.size (.tup [x,y]),?_,rfl,⟨_,x,y,hHn,rfl,rfl,fun zs hzs=>by rw [I.list_inj hzs hqa];exact hx,fun zs hzs=>by rw [I.list_inj hzs hqb];exact hy⟩,?_,fun c hc=>?_⟩
  · have IB:Inv X pins σ (upd H s.heap.objs.size (.tup [x,y])) { s with heap:=h2',toks:=s.toks }:=by
     refine Inv.turnedL (s:={ s with heap:=s.heap.push { cls:=.type "tuple",data:=.seq #[u,v] },toks:=s.toks }) (h':=h2') (fp:=[z,TI,TO,i1,i2]) (t':=s.toks) IA (fun c o hc q=>?_) fun c hc=>?_
     · have n1:c≠z:=fun e=>hc (by simp [e]);have n2:c≠TO:=fun e=>hc (by simp [e]);have n3:c≠i1:=fun e=>hc (by simp [e]);have n4:c≠i2:=fun e=>hc (by simp [e]);rw [sb.2 c n1];by_cases hb2:c=s.heap.objs.size
       · subst hb2;have q':(s.heap.push { cls:=.type "tuple",data:=.seq #[u,v] }).get? s.heap.objs.size=some o:=q;rw [Heap.get?_push_size _ rfl] at q';rw [<- q'];exact a5
       · have q':(s.heap.push { cls:=.type "tuple",data:=.seq #[u,v] }).get? c=some o:=q;rw [Heap.get?_push_ne _ _ _ hb2] at q';exact a7 c o n1 n2 n3 n4 q'
     · obtain ⟨f0,f1⟩:=hf c hc;exact ⟨by rw [ae (Nat.ne_of_lt (lt c hc))];exact f0,f1⟩
    exact IB
  · have sT:∀ c o,c≠z->h1'.get? c=some o->h2'.get? c=some o:=fun c o hc e=>(sb.2 c hc).trans e;refine ⟨D,g1,sT _ _ D.TIz (a7 _ _ D.TIz D.TITO D.TIi1 D.TIi2 hTI),⟨_,_,sT _ _ D.TOz a2⟩,?_,?_⟩
    · obtain ⟨o,e,r⟩:=a3;exact ⟨o,sT _ _ D.i1z e,r⟩
    · obtain ⟨o,e,r⟩:=a4;exact ⟨o,sT _ _ D.i2z e,r⟩
  · rw [ae (Nat.ne_of_lt (lt c hc))];exact (hf c hc).1
 done:=by
  intro X hP hw hK hc i pins s σ H E I hf st hg;subst hP hw hK;obtain ⟨xs,ys,hqa,hqb,hend⟩:=hg;obtain ⟨ia,rva,pa,hza⟩:=I.list hqa;obtain ⟨ib,rvb,pb,hzb⟩:=I.list hqb;have hla:=rva.length;have hlb:=rvb.length;obtain ⟨D,hz,hTI,hTO,h1,h2⟩:=st;obtain ⟨ta,tb,hTO⟩:=hTO;refine wpAny_pyNext_zip_end (I.ok.hd hc) D hz hTI hTO h1 h2 pa.isList pb.isList ?_ fun h' kp=>⟨rfl,?_⟩
  · rcases hend with h | h
    · exact .inl (by simp;omega)
    · exact .inr (by simp;omega)
  exact I.turnedL (fp:=[z,TI,TO,i1,i2]) (t':=s.toks) (fun c o hc q=>kp c o (fun e=>hc (by simp [e])) (fun e=>hc (by simp [e])) (fun e=>hc (by simp [e])) (fun e=>hc (by simp [e])) q) hf
 self:=fun _ _ _ _ _ st h=>wpAny_pyIter_zip st.zip h
section
variable {X:Cx} {e1 e2:Expr} {t:TA} {p2 pos2:Pos}
def vy (K:PySem.W.Frag) (t:TA):TI:=fun σ H R=>t σ H fun vs H1=>∃ a b,vs=[.ref a,.ref b]/\(∃ xs,SqL K H1 a xs)/\(∃ ys,SqL K H1 b ys)/\R (rP K a b) H1
theorem sL {elts:List Expr} {k1} {pos:Pos} (g2:Gl X "zip") (m2:X.mg "zip"=none) (ha:PA X [e1,e2] t)
 (h2:starEach [e1,e2] X.env=(false,eval e1 X.env)::starEach [e2] X.env:=by rfl) (h3:(backTo pos2 (starEach [e2] X.env)).any (·.1)=false:=by rfl):PI X (.Tuple elts k1 pos) (.Call (.Name "zip" p2) [e1,e2] [] pos2) (vy X.K t):=by
 intro pins s σ H R I h;refine wpAny_Call_Name_kw (fH I g2 m2 boot_zip ?_);refine PyProof.Rows.callWith_type1 (thn (ha pos2 pins s σ H _ I h) fun us s2 ⟨vs,H2,I2,r,a,b,ev,⟨xs,hqa⟩,⟨ys,hqb⟩,q⟩=>?_) h2 h3;subst ev;obtain ⟨u1,u2,rfl,r1,r2⟩:=pH r;cases r1;cases r2;obtain ⟨ia,rva,pa,hza⟩:=I2.list hqa;obtain ⟨ib,rvb,pb,hzb⟩:=I2.list hqb;have hal:a<s2.heap.objs.size:=by obtain ⟨o,e,_⟩:=pa.isList;exact Heap.lt_size e
 have hbl:b<s2.heap.objs.size:=by obtain ⟨o,e,_⟩:=pb.isList;exact Heap.lt_size e
 refine call_zip_2 pa.isList pb.isList fun h' z1 z2 z3 z4 z5 z6 z7=>?_;have D:ZipApart (s2.heap.objs.size+4) (s2.heap.objs.size+2) (s2.heap.objs.size+3) s2.heap.objs.size (s2.heap.objs.size+1) a b:=zipApart_new hal hbl;refine wpAny_pyIter_zip (s:={ s2 with heap:=h' }) z1 ?_;refine ⟨s2.heap.objs.size+4,[s2.heap.objs.size+4,s2.heap.objs.size+2,s2.heap.objs.size+3,s2.heap.objs.size,s2.heap.objs.size+1],_,_,H2,rfl,I2.kept (t':=s2.toks) z7,pX a b _ _ _ _ _,⟨D,z1,z2,⟨_,_,z3⟩,z4,z5⟩,fun c hc=>?_,q⟩
 have hc':s2.heap.objs.size<=c:=by
  simp only [List.mem_cons,List.not_mem_nil,or_false] at hc;rcases hc with h | h | h | h | h <;> rw [h]
  · exact Nat.le_add_right _ _
  · exact Nat.le_add_right _ _
  · exact Nat.le_add_right _ _
  · exact Nat.le_refl _
  · exact Nat.le_add_right _ _
 exact I2.fpOk hc' (I2.hok.fresh hc')
end
end L2
namespace L2
open PySem PySem.Spec PyProof.Rows
def dU:List (Key×V)->List (Key×V)->List (Key×V)
 | kvs,[]=>kvs
 | kvs,p::ps=>dU (bj kvs p.1 p.2) ps
def PrK (H:Hp) (pr:Key×V) (pa:Addr):Prop:=H pa=some (.tup [kV pr.1,pr.2])
section
variable {X:Cx} {pins:List (Addr×Obj)} {σ:St}
theorem oJ {H:Hp} {s:Shared} {a:Addr} {v:V} {r key:Value} {k:Key} {kvs:List (Key×V)} {A:Around} {E:Value->Shared->Prop} {Q:Unit->Shared->Prop} (I:Inv X pins σ H s) (e:H a=some (.dK kvs)) (rk:RelV (kV k) key) (l:kvs.length<sizeLine) (rv:RelV v r) (h:∀ h' tk,Heap.SameBut a s.heap h'->Inv X pins σ (upd H a (.dK (bj kvs k v))) { s with heap:=h',toks:=tk }->Q () { s with heap:=h',toks:=tk }) :
 wpAny (model X.prog X.w) A (dictSet a key r) Q E s:=by
 obtain ⟨z,hd,xs,rel,dd⟩:=t7 I.hok e;have hz:xs.length<=sizeLine:=by rw [<- rel.length];exact z
 have hl:(bj kvs k v).length<=sizeLine:=by have:=cq kvs k v;omega
 refine wpAny_dictSet_pairs (lw rk) dd (fun h' dd' hs=>h _ _ hs ?_) hz;obtain ⟨q,es,ep,hq,rest⟩:=id dd';exact mn I (by rw [e];exact True.intro) hs ⟨q,hq⟩ ⟨hl,hd,_,rel.put k rv,dd'⟩
theorem nT {A:Around} {d it l:Addr} {prs:List (Key×V)} {ps:List Addr} {R:Result->Shared->Prop} (hh:A.handled=none) (hu:A.units+8<cLine) (hn:prs.length<=10000) :
 ∀ (m i:Nat) (s:Shared) (tk:Tok) (H:Hp) (kvs:List (Key×V)),prs.length - i=m->i<=prs.length->Inv X pins σ H s->H d=some (.dK kvs)->kvs.length<=i->jh X pins H it->s.heap.IsListIter it l i->H l=some (.lst (ps.map V.ref))->Paired (PrK H) prs ps →
   (∀ s',Inv X pins σ (upd H d (.dK (dU kvs (prs.drop i)))) s'->R (.ok (.ret .none)) s') →
   codeAny (model X.prog X.w) A (.builtin "dict.update.loop" ⟨[.ref d,.ref it,.int i tk,.none],[]⟩) R s:=by
 intro m;induction m with
 | zero =>
   intro i s tk H kvs hk hi I ed hkl hf hit el hps hR;have hin:i=prs.length:=by omega
   subst hin;obtain ⟨its,rv,p,hz⟩:=I.list (SqL.of (K:=X.K) el);have hpl:prs.length=ps.length:=Paired.length hps;have hl:=rv.length;rw [List.length_map] at hl;obtain ⟨f0,f1,f2,f3,f4,f5⟩:=hf;refine codeAny_builtin PySem.F.bb_entry_upd ?_;rw [Around.under_plainId PySem.F.bb_plain_upd _];show wpAny _ A.in1 (pyNext (.ref it) >>= _) _ _ s;refine wpAny_bind (wpAny_pyNext_list_end hh hit p.isList (by simp;omega) fun h' eb=>?_);refine wpAny_bind (wpAny_pure (wpAny_pure ?_));refine hR _ ?_;rw [List.drop_length]
   have e0:upd H d (.dK (dU kvs []))=H:=by
    funext b;by_cases hb:b=d
    · rw [hb,ac,ed];rfl
    · rw [ae hb]
   rw [e0];exact I.turned (t':=s.toks) (fun b o hb e=>eb b o hb e) f0 f1 f3 f4 f5
 | succ m ih =>
   intro i s tk H kvs hk hi I ed hkl hf hit el hps hR;have hlt:i<prs.length:=by omega
   have hpl:prs.length=ps.length:=Paired.length hps;obtain ⟨its,rv,p,hz⟩:=I.list (SqL.of (K:=X.K) el);have hl:=rv.length;rw [List.length_map] at hl;obtain ⟨pa,hpa,epa⟩:=BB.P2.get hps (List.getElem?_eq_getElem hlt);have hx:(ps.map V.ref)[i]?=some (.ref pa):=by rw [List.getElem?_map,hpa];rfl
   obtain ⟨u,hu2,ru⟩:=rv.get hx;cases ru;obtain ⟨f0,f1,f2,f3,f4,f5⟩:=id hf;refine codeAny_builtin PySem.F.bb_entry_upd ?_;rw [Around.under_plainId PySem.F.bb_plain_upd _];show wpAny _ A.in1 (pyNext (.ref it) >>= _) _ _ s;refine wpAny_bind (wpAny_pyNext_list_item hit p.isList (x:=.ref pa) (by simpa using hu2) fun h1 hit1 sb1=>?_);have I1:Inv X pins σ H { s with heap:=h1 }:=I.turned (t':=s.toks) (fun b o hb e=>(sb1.2 b hb).trans e) f0 f1 f3 f4 f5;obtain ⟨_,its2,n2,rv2,e2⟩:=(show ObjOk X.prog X.w H h1 pa (.tup [kV (prs[i]).1,(prs[i]).2]) from I1.hok pa _ epa)
   obtain ⟨kk,vv,rfl,rkk,rvv⟩:∃ kk vv,its2=[kk,vv]/\RelV (kV (prs[i]).1) kk/\RelV (prs[i]).2 vv:=by
    cases rv2 with
    | cons a b =>
      cases b with
      | cons c d =>
        cases d;exact ⟨_,_,rfl,a,c⟩
   have hTp:(⟨h1,s.gens,s.drawn,s.toks,s.os⟩:Shared).TypeIs (.ref pa) "tuple":=⟨_,e2,rfl⟩;refine wpAny_bind (wpAny_holding ?_);refine wpAny_bind (wpAny_tryCatch ?_);unfold Builtin.Dict.pairItems;refine wpAny_bind (wpAny_typeOf hTp ?_);rw [if_pos (by decide)];refine wpAny_bind (wpAny_seqItems e2 rfl (wpAny_pure ?_));show wpAny _ _ (holding [kk,vv] (dictSet d kk vv)) _ _ _;refine wpAny_holding (oJ (k:=(prs[i]).1) I1 ed rkk (by have:=fo;rw [sizeLine_eq];omega) rvv fun h2 tk2 sb2 I2=>?_);refine wpAny_pure ⟨plainId_quiet PySem.F.bb_plain_upd _,?_⟩
   have hcast:rawInt ((i:Int)+1)=.int ((i+1:Nat):Int) 0:=by
    show Value.int ((i:Int)+1) 0=_;rw [show ((i+1:Nat):Int)=(i:Int)+1 by omega]
   rw [hcast];have hdi:it≠d:=fun z=>by rw [z,ed] at f0;cases f0
   refine ih (i+1) _ 0 _ (bj kvs (prs[i]).1 (prs[i]).2) (by omega) hlt I2 ac (by have:=cq kvs (prs[i]).1 (prs[i]).2;omega) ⟨by rw [ae hdi];exact f0,f1,f2,f3,f4,f5⟩ ?_ ?_ ?_ fun s' I'=>hR s' ?_
   · obtain ⟨o,g1,r⟩:=hit1;exact ⟨o,(sb2.2 it hdi).trans g1,r⟩
   · rw [ae (aJ el ed (fun z=>nomatch z))];exact el
   · refine BB.P2.mp (fun x y e=>?_) hps;show upd H d _ y=_;rw [ae (aJ (show H y=some (.tup [kV x.1,x.2]) from e) ed (fun z=>nomatch z))];exact e
   · rw [lQ] at I';rw [List.drop_eq_getElem_cons hlt];exact I'
def tq:List V->Hp->VK->Prop:=fun xs H Q=>∃ (l:Addr) (ps:List Addr) (prs:List (Key×V)),xs=[.ref l]/\H l=some (.lst (ps.map V.ref))/\Paired (PrK H) prs ps/\prs.length<=10000/\∀ d,H d=none->Q (.ref d) (upd H d (.dK (dU [] prs)))
theorem jg (hu:X.A.units+12<cLine) (hc:X.calm=true):eZ X (.type "dict") tq:=by
 intro pins s σ H xs us Q I r h;obtain ⟨l,ps,prs,rfl,el,hps,hn,q⟩:=h;obtain ⟨u,rfl,rx⟩:=i4 r;cases rx;obtain ⟨z,its,n,rv,e⟩:=(show ObjOk X.prog X.w H s.heap l (.lst (ps.map V.ref)) from I.hok l _ el);refine callType_codes (Q₁:=fun obj s₁=>obj=.ref s.heap.objs.size/\s₁={ s with heap:=s.heap.push { cls:=.type "dict",data:=.dict #[] } }) PySem.F.kt_called_dict (PySem.F.kt_typeCall_dict_1 _) PySem.F.entry_dict_init (kt_code_dict_new _ ⟨rfl,rfl⟩) ?_;rintro obj s₁ ⟨rfl,rfl⟩;have gn:(s.heap.push { cls:=.type "dict",data:=.dict #[] }).DictOf (aT X.prog X.w) s.heap.objs.size []:=Heap.DictOf.new s.heap;have gt:(s.heap.push { cls:=.type "dict",data:=.dict #[] }).get? l=some { cls:=.type "list",data:=.seq its.toArray n }:=Heap.get?_push_of_some _ e;refine ⟨gn.typeIs,PySem.F.args_dict_init_2 _ _,?_⟩;have hd0:=I.hok.fresh (Nat.le_refl s.heap.objs.size);have I1:Inv X pins σ (upd H s.heap.objs.size (.dK [])) { s with heap:=s.heap.push { cls:=.type "dict",data:=.dict #[] } }:=I.laid (a:=s.heap.objs.size) (o:=.dK []) (t':=s.toks) (fun _ _ q=>Heap.get?_push_of_some _ q) (Nat.le_refl _) (m9 s.heap I.big);unfold Builtin.«dict.__init__»;refine wpAny_bind ?_;unfold Builtin.Dict.selfAndRest;refine wpAny_bind (wpAny_notOrdered_dict gn.typeIs ?_);show wpAny _ _ (pure (s.heap.objs.size,[Value.ref l])) _ _ _;refine wpAny_pure ?_;show wpAny _ _ (Builtin.Dict.updateFrom "dict.__init__" s.heap.objs.size (.ref l) [] .none) _ _ _;unfold Builtin.Dict.updateFrom;refine wpAny_bind (wpAny_typeOf (T:="list") ⟨_,gt,rfl⟩ ?_);rw [if_pos (by decide)];refine wpAny_bind (bb_nokeysL (A:=X.A.in1.in1) (I.ok.hd hc) gt fun h1 tk1 k1=>?_);have I2:Inv X pins σ (upd H s.heap.objs.size (.dK [])) { s with heap:=h1,toks:=tk1 }:=I1.kept (t':=tk1) fun b o e=>k1 b o e;simp only [Option.isNone_none,if_true];refine wpAny_bind (wpAny_rule ?_);obtain ⟨od,es,ep,gd1,gd2⟩:=id gn;have hlt:s.heap.objs.size<h1.objs.size:=Heap.lt_size (k1 _ _ gd1);refine wpAny_bind (wpAny_pyIter_list (l:=l) (items:=its.toArray) ⟨_,k1 _ _ gt,rfl,n,rfl⟩ ?_);refine wpAny_pure ⟨plainId_quiet PySem.F.bb_plain_upd _,?_⟩;have hll:l≠s.heap.objs.size:=au el hd0
 have hps':Paired (PrK (upd H s.heap.objs.size (.dK []))) prs ps:=BB.P2.mp (fun x y e=>by
  show upd H s.heap.objs.size _ y=_;rw [ae (au (show H y=some (.tup [kV x.1,x.2]) from e) hd0)];exact e) hps
 have hni:(upd H s.heap.objs.size (.dK [])) h1.objs.size=none:=I2.hok.fresh (Nat.le_refl _);refine nT (A:=X.A.in1) (d:=s.heap.objs.size) (it:=h1.objs.size) (l:=l) (prs:=prs) (ps:=ps) (I.ok.hd hc) (by show X.A.units+1+8<cLine;omega) hn prs.length 0 _ 0 (upd H s.heap.objs.size (.dK [])) [] (Nat.sub_zero _) (Nat.zero_le _) (I2.kept (t':=tk1) fun b o e=>Heap.get?_push_of_some _ e) ac (Nat.le_refl _) (I2.fpOk (Nat.le_refl _) hni) ⟨_,Heap.get?_push_size _ rfl,rfl,rfl⟩ (by rw [ae hll];exact el) hps' fun s' I'=>?_;rw [lQ,List.drop_zero] at I';exact ⟨rfl,.ref s.heap.objs.size,_,I',rfl,q _ hd0⟩
end
end L2
namespace BB
open PySem L2
def smC (f:Int->Int->Int) (cs:List (List Int×Int×Int)):Int:=(cs.map fun c=>f c.2.1 c.2.2).sum
theorem kg (f:Int->Int->Int) (a b:List (List Int×Int×Int)):smC f (a++b)=smC f a+smC f b:=by
 unfold smC;rw [List.map_append,List.sum_append]
theorem eN (pre:List Int) (n:Str) (ts:List Th):ay (Th.pl pre (.knot n ts))=ay (pls pre 0 ts):=by
 rw [Th.pl];rfl
theorem d5 (pre:List Int) (s k:Int):ay (Th.pl pre (.call s k))=[(pre,s,k)]:=by
 rw [Th.pl];rfl
theorem eM (pre:List Int) (i:Int) (t:Th) (ts:List Th):ay (pls pre i (t::ts))=ay (t.pl (pre++[i]))++ay (pls pre (i+1) ts):=by
 rw [pls,dm]
mutual
theorem mV {ins:List (Str×Int)} {rows:List (List Th)} {f:Int->Int->Int} (k:Th):∀ (p:Th) (pre:List Int) (o:Th),Out ins rows p k o->(∀ c∈ay (p.pl pre),∀ oc,Out ins rows (.call c.2.1 c.2.2) k oc->f c.2.1 c.2.2=(oc.size:Nat))->((o.size:Nat):Int)=(p.kn:Nat)+smC f (ay (p.pl pre))
 | .call s c,pre,o,ho,hf=>by
   rw [d5] at hf ⊢;have:=hf _ (List.mem_singleton.mpr rfl) o ho;show _=((0:Nat):Int)+(f s c+0);rw [this];simp
 | .knot n ts,pre,o,ho,hf=>by
   obtain ⟨os,rfl,hos⟩:=ho.unknot;rw [eN] at hf ⊢;have:=lJ k ts pre 0 os hos hf;rw [Th.size,Th.kn];omega
theorem lJ {ins:List (Str×Int)} {rows:List (List Th)} {f:Int->Int->Int} (k:Th):∀ (ts:List Th) (pre:List Int) (i:Int) (os:List Th),Outs ins rows ts k os->(∀ c∈ay (pls pre i ts),∀ oc,Out ins rows (.call c.2.1 c.2.2) k oc->f c.2.1 c.2.2=(oc.size:Nat))->((aw os:Nat):Int)=(kns ts:Nat)+smC f (ay (pls pre i ts))
 | [],pre,i,os,ho,hf=>by
   cases ho;rw [aw,kns,pls];rfl
 | t::ts,pre,i,os,ho,hf=>by
   cases ho with
   | cons h1 h2 =>
   rw [eM] at hf ⊢;have e1:=mV k t (pre++[i]) _ h1 fun c hc=>hf c (List.mem_append_left _ hc);have e2:=lJ k ts pre (i+1) _ h2 fun c hc=>hf c (List.mem_append_right _ hc);rw [aw,kns,kg];omega
end
structure MxC (f:Int->Int->Int) (d:Int) (cs:List (List Int×Int×Int)) (own m:Int):Prop where
 lo:own<=m
 all:∀ c∈cs,(c.1.length:Int) - d+f c.2.1 c.2.2<=m
 some:m=own∨∃ c∈cs,m=(c.1.length:Int) - d+f c.2.1 c.2.2
mutual
theorem mP {ins:List (Str×Int)} {rows:List (List Th)} {f:Int->Int->Int} (k:Th):∀ (p:Th) (pre:List Int) (o:Th),Out ins rows p k o->(∀ c∈ay (p.pl pre),∀ oc,Out ins rows (.call c.2.1 c.2.2) k oc->f c.2.1 c.2.2=(oc.tall:Nat))->MxC f pre.length (ay (p.pl pre)) (p.tall:Nat) (o.tall:Nat)
 | .call s c,pre,o,ho,hf=>by
   rw [d5] at hf ⊢;have e:=hf _ (List.mem_singleton.mpr rfl) o ho;have h1:=Th.tall_eq o;have h2:(Th.call s c).tall=1:=by rw [Th.tall]
   simp only at e;refine ⟨by rw [h2];omega,fun c hc=>?_,.inr ⟨_,List.mem_singleton.mpr rfl,?_⟩⟩
   · rw [List.mem_singleton.mp hc];simp only;omega
   · simp only;omega
 | .knot n ts,pre,o,ho,hf=>by
   obtain ⟨os,rfl,hos⟩:=ho.unknot;rw [eN] at hf ⊢;obtain ⟨a,b,c⟩:=lK k ts pre 0 os hos hf;have h1:(Th.knot n ts).tall=aC ts+1:=by rw [Th.tall]
   have h2:(Th.knot n os).tall=aC os+1:=by rw [Th.tall]
   refine ⟨by omega,fun c hc=>?_,?_⟩
   · have:=b c hc;omega
   · rcases c with c | ⟨x,hx,c⟩
     · exact .inl (by omega)
     · exact .inr ⟨x,hx,by omega⟩
theorem lK {ins:List (Str×Int)} {rows:List (List Th)} {f:Int->Int->Int} (k:Th):∀ (ts:List Th) (pre:List Int) (i:Int) (os:List Th),Outs ins rows ts k os->(∀ c∈ay (pls pre i ts),∀ oc,Out ins rows (.call c.2.1 c.2.2) k oc->f c.2.1 c.2.2=(oc.tall:Nat))->MxC f (pre.length+1) (ay (pls pre i ts)) (aC ts:Nat) (aC os:Nat)
 | [],pre,i,os,ho,hf=>by
   cases ho;rw [pls];exact ⟨Int.le_refl _,fun c hc=>(by cases hc),.inl rfl⟩
 | t::ts,pre,i,os,ho,hf=>by
   cases ho with
   | @cons _ _ o' _ os' h1 h2 =>
   rw [eM] at hf ⊢;obtain ⟨a1,b1,c1⟩:=mP k t (pre++[i]) _ h1 fun c hc=>hf c (List.mem_append_left _ hc);obtain ⟨a2,b2,c2⟩:=lK k ts pre (i+1) _ h2 fun c hc=>hf c (List.mem_append_right _ hc);have hl:((pre++[i]).length:Int)=pre.length+1:=by rw [List.length_append];rfl
   rw [hl] at b1 c1;have e1:aC (t::ts)=max t.tall (aC ts):=by rw [aC]
   have e2:aC (o'::os')=max o'.tall (aC os'):=by rw [aC]
   refine ⟨by omega,fun c hc=>?_,?_⟩
   · rcases List.mem_append.mp hc with hc | hc
     · have:=b1 c hc;omega
     · have:=b2 c hc;omega
   · by_cases h:aC os'<=o'.tall
     · rcases c1 with c1 | ⟨x,hx,c1⟩
       · exact .inl (by omega)
       · exact .inr ⟨x,List.mem_append_left _ hx,by omega⟩
     · rcases c2 with c2 | ⟨x,hx,c2⟩
       · exact .inl (by omega)
       · exact .inr ⟨x,List.mem_append_right _ hx,by omega⟩
end
def ky (c:Int×Int):List Key:=[Sum.inl c.1,Sum.inl c.2]
theorem iz {a b:Int×Int} (h:ky a=ky b):a=b:=by
 obtain ⟨a1,a2⟩:=a;obtain ⟨b1,b2⟩:=b;simp only [ky,List.cons.injEq,Sum.inl.injEq,and_true] at h;rw [h.1,h.2]
abbrev CE:=List ((Int×Int)×Int)
def dE (es:CE):List (List Key×V):=es.map fun e=>(ky e.1,V.int e.2)
def dI (es:CE) (k:Int×Int) (v:Int):CE:=if k∈es.map (·.1) then es.map (fun e=>if e.1=k then (e.1,v) else e) else es++[(k,v)]
def cj:CE->Int×Int->Option Int
 | [],_=>none
 | e::es,k=>if e.1=k then some e.2 else cj es k
theorem ma (k:Int×Int):∀ es:CE,aQ (dE es) (ky k)=(cj es k).map V.int
 | []=>rfl
 | e::es=>by
   show aQ ((ky e.1,V.int e.2)::dE es) (ky k)=_;rw [cj];by_cases h:e.1=k
   · rw [if_pos h,bA (by rw [h])];rfl
   · rw [if_neg h,bH (fun z=>h (iz z)),ma k es]
theorem uV (k:Int×Int) (es:CE):((dE es).any fun kv=>decide (kv.1=ky k))=decide (k∈es.map (·.1)):=by
 rw [Bool.eq_iff_iff,List.any_eq_true,decide_eq_true_iff];constructor
 · rintro ⟨x,hx,hk⟩;obtain ⟨e,he,rfl⟩:=List.mem_map.mp hx;exact List.mem_map.mpr ⟨e,he,iz (of_decide_eq_true hk)⟩
 · intro h;obtain ⟨e,he,rfl⟩:=List.mem_map.mp h;exact ⟨_,List.mem_map.mpr ⟨e,he,rfl⟩,decide_eq_true rfl⟩
theorem pq (es:CE) (k:Int×Int) (v:Int):bj (dE es) (ky k) (.int v)=dE (dI es k v):=by
 unfold bj dI;rw [uV];by_cases h:k∈es.map (·.1)
 · rw [if_pos (decide_eq_true h),if_pos h];unfold dE;rw [List.map_map,List.map_map];refine List.map_congr_left fun e he=>?_;simp only [Function.comp];by_cases g:e.1=k
   · rw [if_pos (by rw [g]),if_pos g]
   · rw [if_neg (fun z=>g (iz z)),if_neg g]
 · rw [if_neg (fun z=>h (of_decide_eq_true z)),if_neg h];unfold dE;rw [List.map_append];rfl
theorem jP {es:CE} {k:Int×Int} {v:Int} (h:cj es k=some v):(k,v)∈es:=by
 induction es with
 | nil=>cases h
 | cons e es ih =>
   rw [cj] at h;by_cases g:e.1=k
   · rw [if_pos g] at h;cases h;rw [<- g];exact List.mem_cons_self ..
   · rw [if_neg g] at h;exact List.mem_cons_of_mem _ (ih h)
theorem qf {es:CE} {k:Int×Int} (h:cj es k=none):k∉es.map (·.1):=by
 induction es with
 | nil=>intro z;cases z
 | cons e es ih =>
   rw [cj] at h;by_cases g:e.1=k
   · rw [if_pos g] at h;cases h
   · rw [if_neg g] at h;intro z;rcases List.mem_cons.mp z with z | z
     · exact g z.symm
     · exact ih h z
theorem sq {es:CE} (nd:(es.map (·.1)).Nodup) {e:(Int×Int)×Int} (h:e∈es):cj es e.1=some e.2:=by
 induction es with
 | nil=>cases h
 | cons x es ih =>
   rw [List.map_cons,List.nodup_cons] at nd;rw [cj];rcases List.mem_cons.mp h with rfl | h
   · rw [if_pos rfl]
   · rw [if_neg (fun z=>nd.1 (by rw [z];exact List.mem_map.mpr ⟨e,h,rfl⟩))];exact ih nd.2 h
theorem pU (es:CE) (k:Int×Int) (v:Int):(dI es k v).map (·.1)=if k∈es.map (·.1) then es.map (·.1) else es.map (·.1)++[k]:=by
 unfold dI;by_cases h:k∈es.map (·.1)
 · rw [if_pos h,if_pos h,List.map_map];refine List.map_congr_left fun e he=>?_;simp only [Function.comp];by_cases g:e.1=k
   · rw [if_pos g]
   · rw [if_neg g]
 · rw [if_neg h,if_neg h,List.map_append];rfl
theorem n8 {es:CE} (nd:(es.map (·.1)).Nodup) (k:Int×Int) (v:Int):((dI es k v).map (·.1)).Nodup:=by
 rw [pU];by_cases h:k∈es.map (·.1)
 · rw [if_pos h];exact nd
 · rw [if_neg h,List.nodup_append];refine ⟨nd,by simp,fun a ha b hb=>?_⟩;rw [List.mem_singleton.mp hb];exact fun z=>h (z ▸ ha)
theorem ij {es:CE} {k:Int×Int} {v:Int} {e:(Int×Int)×Int} (h:e∈dI es k v):e=(k,v)∨(e∈es/\e.1≠k):=by
 unfold dI at h;by_cases g:k∈es.map (·.1)
 · rw [if_pos g] at h;obtain ⟨x,hx,rfl⟩:=List.mem_map.mp h;by_cases e:x.1=k
   · rw [if_pos e,e];exact .inl rfl
   · rw [if_neg e];exact .inr ⟨hx,e⟩
 · rw [if_neg g] at h;rcases List.mem_append.mp h with h | h
   · exact .inr ⟨h,fun z=>g (z ▸ List.mem_map.mpr ⟨e,h,rfl⟩)⟩
   · exact .inl (List.mem_singleton.mp h)
theorem rO (es:CE) (k:Int×Int) (v:Int):(k,v)∈dI es k v:=by
 unfold dI;by_cases g:k∈es.map (·.1)
 · rw [if_pos g];obtain ⟨x,hx,hk⟩:=List.mem_map.mp g;exact List.mem_map.mpr ⟨x,hx,by rw [if_pos hk,hk]⟩
 · rw [if_neg g];exact List.mem_append_right _ (List.mem_singleton.mpr rfl)
theorem qm {es:CE} {k:Int×Int} {v:Int} {e:(Int×Int)×Int} (h:e∈es) (hk:e.1≠k):e∈dI es k v:=by
 unfold dI;by_cases g:k∈es.map (·.1)
 · rw [if_pos g];exact List.mem_map.mpr ⟨e,h,if_neg hk⟩
 · rw [if_neg g];exact List.mem_append_left _ h
theorem nR (es:CE) (k:Int×Int) (v:Int):(dI es k v).length<=es.length+1:=by
 unfold dI;split
 · rw [List.length_map];omega
 · rw [List.length_append];exact Nat.le_refl _
def smE (f:Int->Int->Int) (es:CE):Int:=(es.map fun e=>e.2 * f e.1.1 e.1.2).sum
theorem r9 (f:Int->Int->Int) (k:Int×Int) (d:Int):∀ {es:CE},(es.map (·.1)).Nodup->smE f (dI es k ((cj es k).getD 0+d))=smE f es+d * f k.1 k.2:=by
 have upd:∀ (es:CE),(es.map (·.1)).Nodup->k∈es.map (·.1)->∀ v,smE f (es.map fun e=>if e.1=k then (e.1,v) else e)=smE f es+(v - (cj es k).getD 0) * f k.1 k.2:=by
  intro es;induction es with
  | nil=>intro _ h;cases h
  | cons e es ih =>
    intro nd hk v;rw [List.map_cons,List.nodup_cons] at nd;show (if e.1=k then (e.1,v) else e).2 * f (if e.1=k then (e.1,v) else e).1.1 (if e.1=k then (e.1,v) else e).1.2+smE f (es.map fun e=>if e.1=k then (e.1,v) else e)=e.2 * f e.1.1 e.1.2+smE f es+_;rw [cj];by_cases g:e.1=k
    · have hn:∀ x∈es,(if x.1=k then (x.1,v) else x)=x:=fun x hx=>if_neg fun z=>nd.1 (by rw [g,<- z];exact List.mem_map.mpr ⟨x,hx,rfl⟩);rw [List.map_congr_left hn,List.map_id',if_pos g,if_pos g];simp only [Option.getD_some,<- g];rw [Int.sub_mul];omega
    · rw [if_neg g,if_neg g];rcases List.mem_cons.mp hk with z | z
      · exact absurd z.symm g
      · have:=ih nd.2 z v;omega
 intro es nd;cases h:cj es k with
 | some v =>
   have hm:k∈es.map (·.1):=List.mem_map.mpr ⟨_,jP h,rfl⟩;unfold dI;rw [if_pos hm,upd es nd hm,h];simp only [Option.getD_some];rw [show v+d - v=d by omega]
 | none =>
   have hm:=qf h;unfold dI;rw [if_neg hm];simp only [Option.getD_none];unfold smE;rw [List.map_append,List.sum_append,List.map_cons,List.map_nil,List.sum_cons,List.sum_nil];rw [show (0:Int)+d=d by omega];show _+(d * f k.1 k.2+0)=_;omega
structure CallsE (cs:List (List Int×Int×Int)) (es:CE):Prop where
 nd:(es.map (·.1)).Nodup
 «of»:∀ e∈es,∃ c∈cs,c.2=e.1
 to:∀ c∈cs,∃ e∈es,e.1=c.2
theorem CallsE.nil:CallsE [] []:=⟨List.nodup_nil,fun e h=>(by cases h),fun e h=>(by cases h)⟩
theorem CallsE.put {cs:List (List Int×Int×Int)} {es:CE} (h:CallsE cs es) (c:List Int×Int×Int) (v:Int):CallsE (cs++[c]) (dI es c.2 v):=by
 refine ⟨n8 h.nd _ _,fun e he=>?_,fun x hx=>?_⟩
 · rcases ij he with rfl | ⟨he,_⟩
   · exact ⟨c,List.mem_append_right _ (List.mem_singleton.mpr rfl),rfl⟩
   · obtain ⟨y,hy,e⟩:=h.of e he;exact ⟨y,List.mem_append_left _ hy,e⟩
 · by_cases g:x.2=c.2
   · exact ⟨_,rO es c.2 v,g.symm⟩
   · rcases List.mem_append.mp hx with hx | hx
     · obtain ⟨e,he,e2⟩:=h.to x hx;exact ⟨e,qm he (fun z=>g (e2.symm.trans z)),e2⟩
     · exact absurd (by rw [List.mem_singleton.mp hx]) g
structure TimesE (cs:List (List Int×Int×Int)) (es:CE):Prop extends CallsE cs es where
 sum:∀ f,smE f es=smC f cs
 pos:∀ e∈es,0<=e.2/\e.2<=cs.length
theorem TimesE.nil:TimesE [] []:=⟨CallsE.nil,fun _=>rfl,fun e h=>by cases h⟩
theorem TimesE.put {cs:List (List Int×Int×Int)} {es:CE} (h:TimesE cs es) (c:List Int×Int×Int):TimesE (cs++[c]) (dI es c.2 ((cj es c.2).getD 0+1)):=by
 refine ⟨h.toCallsE.put c _,fun f=>?_,fun e he=>?_⟩
 · rw [r9 f c.2 1 h.nd,kg,h.sum f,Int.one_mul];show _=smC f cs+(f c.2.1 c.2.2+0);omega
 · rw [List.length_append];rcases ij he with rfl | ⟨he,_⟩
   · show 0<=(cj es c.2).getD 0+1/\(cj es c.2).getD 0+1<=_;cases g:cj es c.2 with
     | none =>
       simp only [Option.getD_none,List.length_singleton];omega
     | some v =>
       have:=h.pos _ (jP g);simp only [Option.getD_some,List.length_singleton];simp only at this;omega
   · have:=h.pos _ he;simp only [List.length_singleton];omega
structure DepthE (cs:List (List Int×Int×Int)) (es:CE):Prop extends CallsE cs es where
 «at»:∀ e∈es,∃ c∈cs,c.2=e.1/\e.2=(c.1.length:Nat)
 big:∀ c∈cs,∀ e∈es,e.1=c.2->((c.1.length:Nat):Int)<=e.2
theorem DepthE.nil:DepthE [] []:=⟨CallsE.nil,fun e h=>(by cases h),fun e h=>by cases h⟩
theorem DepthE.put {cs:List (List Int×Int×Int)} {es:CE} (h:DepthE cs es) (c:List Int×Int×Int):DepthE (cs++[c]) (dI es c.2 (if (cj es c.2).getD 0 > ((c.1.length:Nat):Int) then (cj es c.2).getD 0 else ((c.1.length:Nat):Int))):=by
 have hl:=List.mem_append_right cs (List.mem_singleton.mpr (rfl:c=c));refine ⟨h.toCallsE.put c _,fun e he=>?_,fun x hx e he hk=>?_⟩
 · rcases ij he with rfl | ⟨he,_⟩
   · cases g:cj es c.2 with
     | none =>
       refine ⟨c,hl,rfl,?_⟩;simp only [Option.getD_none];rw [if_neg (by omega)]
     | some v =>
       simp only [Option.getD_some];by_cases hv:v > ((c.1.length:Nat):Int)
       · rw [if_pos hv];obtain ⟨y,hy,e1,e2⟩:=h.at _ (jP g);exact ⟨y,List.mem_append_left _ hy,e1,e2⟩
       · rw [if_neg hv];exact ⟨c,hl,rfl,rfl⟩
   · obtain ⟨y,hy,e1,e2⟩:=h.at e he;exact ⟨y,List.mem_append_left _ hy,e1,e2⟩
 · rcases ij he with rfl | ⟨he,hne⟩
   · simp only at hk ⊢
     have hc:((c.1.length:Nat):Int)<=(if (cj es c.2).getD 0 > ((c.1.length:Nat):Int) then (cj es c.2).getD 0 else ((c.1.length:Nat):Int)):=by
      split <;> omega
     rcases List.mem_append.mp hx with hx | hx
     · obtain ⟨e,he,e2⟩:=h.to x hx;have h1:=h.big x hx e he e2;have h2:=sq h.nd he;rw [e2,<- hk] at h2;rw [h2];simp only [Option.getD_some];split <;> omega
     · rw [List.mem_singleton.mp hx];exact hc
   · rcases List.mem_append.mp hx with hx | hx
     · exact h.big x hx e he hk
     · exact absurd (by rw [hk,List.mem_singleton.mp hx]) hne
end BB
namespace BB
open PySem L2
theorem i5 {js:List (Option Nat)} {g:TG} {te:TE} {tl:TE} {σ:St} {H:Hp} {d:Addr} {es:CE} {val:(Int×Int)×Int->Int} {Q:VK}
 (htl:∀ R:VK,R (.ref d) H->tl σ H R) (hd:H d=some (.dT (dE es))) (hlen:es.length<=10000)
 (hs:∀ (i:Nat) (e:(Int×Int)×Int) (p b:Addr) (H2:Hp) (R:VK),es[i]?=some e->SameB d H H2->H2 p=some (.tup [.ref b,.int e.2])->H2 b=some (.tup ((ky e.1).map kV))->R (.int (val e)) H2->g (.ref p) (cσ js σ) H2 fun σ2 H3=>te σ2 H3 R)
 (hq:∀ (D:Addr) (H2:Hp),L2.Same H H2->H2 D=some (.lst ((es.map val).map V.int))->Q (.ref D) H2) :
 jL (pp js (pK tl) g bK te) σ H Q:=by
 refine htl _ ⟨d,dE es,rfl,hd,fun o D hD=>?_⟩;have hDd:D≠d:=fun z=>by rw [z,ac] at hD;cases hD
 have hDn:H D=none:=by rw [ae hDd] at hD;exact hD
 have hl:(dE es).length=es.length:=by unfold dE;rw [List.length_map]
 refine ⟨es.length,fun j H2=>j<=es.length/\SameB d H H2/\H2 d=some (.frz o (.dT (dE es)))/\H2 D=some (.lst (((es.take j).map val).map V.int)),⟨Nat.zero_le _,fun b u hb e=>by rw [ae (au e hDn),ae hb];exact e,by rw [ae hDd.symm,ac],ac⟩,?_⟩;rintro j H2 ⟨hj,sb,ed,eD⟩;by_cases hjk:j=es.length
 · left;refine ⟨⟨ed,by omega⟩,upd H2 d (.dT (dE es)),fun b=>?_,?_⟩
   · by_cases hb:b=d
     · rw [hb];exact .inr ⟨o,_,ed,hd,ac⟩
     · exact .inl (ae hb)
   · rw [hjk,List.take_length] at eD;refine hq D _ (fun b u e=>?_) (by rw [ae hDd];exact eD);by_cases hb:b=d
     · rw [hb,hd] at e;rw [hb,ac];exact e
     · rw [ae hb];exact sb b u hb e
 · right;refine ⟨by omega,⟨ed,by omega⟩,?_⟩;rintro x H3 ⟨p,b,kv,hp,rfl,rfl,hkv,eb⟩
   obtain ⟨e,he,rfl⟩:∃ e,es[j]?=some e/\(ky e.1,V.int e.2)=kv:=by
    unfold dE at hkv;rw [List.getElem?_map] at hkv;cases h:es[j]? with
    | none=>rw [h] at hkv;cases hkv
    | some e=>rw [h] at hkv;exact ⟨e,rfl,Option.some.inj hkv⟩
   have hpd:d≠p:=fun z=>by rw [<- z,ed] at hp;cases hp
   have hpD:D≠p:=fun z=>by rw [<- z,eD] at hp;cases hp
   refine hs j e p b _ _ he (fun c u hc ec=>by rw [ae (au (sb c u hc ec) hp)];exact sb c u hc ec) ac (by rw [ae (au eb hp)];exact eb) ?_;refine ⟨_,by rw [ae hpD];exact eD,aK (by rw [List.length_map,List.length_map,List.length_take];omega),by omega,fun c u hc ec=>?_,?_,?_⟩
   · rw [ae (au ec hDn),ae (au (sb c u hc ec) hp)];exact sb c u hc ec
   · rw [ae hDd.symm,ae hpd];exact ed
   · rw [ac,List.take_add_one,he,List.map_append,List.map_append];rfl
end BB
namespace BB
open PySem L2
mutual
theorem Th.dv_inj:∀ {t u:Th},t.dv=u.dv->t=u
 | .knot n ks,.knot m js,h=>by
   rw [Th.dv,Th.dv] at h;injection h with h;injection h with h1 h2;injection h1 with h1;rw [h1,oX h2]
 | .call s k,.call s' k',h=>by
   rw [Th.dv,Th.dv] at h;injection h with h;injection h with _ h;injection h with h1 h;injection h with h2 _;injection h1 with h1;injection h2 with h2;rw [h1,h2]
 | .knot n ks,.call s k,h=>by
   rw [Th.dv,Th.dv] at h;injection h with h;injection h with _ h;cases ks with
   | nil=>rw [dvs] at h;cases h
   | cons a as =>
     rw [dvs] at h;injection h with h _;cases a <;> rw [Th.dv] at h <;> cases h
 | .call s k,.knot n ks,h=>by
   rw [Th.dv,Th.dv] at h;injection h with h;injection h with _ h;cases ks with
   | nil=>rw [dvs] at h;cases h
   | cons a as =>
     rw [dvs] at h;injection h with h _;cases a <;> rw [Th.dv] at h <;> cases h
theorem oX:∀ {ts us:List Th},dvs ts=dvs us->ts=us
 | [],[],_=>rfl
 | [],u::us,h=>by rw [dvs,dvs] at h;cases h
 | t::ts,[],h=>by rw [dvs,dvs] at h;cases h
 | t::ts,u::us,h=>by
   rw [dvs,dvs] at h;injection h with h1 h2;rw [Th.dv_inj h1,oX h2]
end
structure Nd where
 t:Th
 ta:Addr
 aa:Addr
 ka:Addr
 ask:List (Key×V)
 sp:List (Key×V)
structure Lv where
 x:Addr
 dx:Addr
 tl:Addr
 al:Addr
 kl:Addr
 ns:List Nd
def lvF (tl al kl:Addr):List (Str×V):=[(Str.ofString "trees",.ref tl),(Str.ofString "asked",.ref al),(Str.ofString "kid_spots",.ref kl)]
theorem ub:¬ (Str.ofString "trees"=Str.ofString "asked"):=by decide +kernel
theorem t8:¬ (Str.ofString "trees"=Str.ofString "kid_spots"):=by decide +kernel
theorem t3:¬ (Str.ofString "asked"=Str.ofString "kid_spots"):=by decide +kernel
theorem lD (tl al kl:Addr):(lvF tl al kl).lookup (Str.ofString "trees")=some (V.ref tl):=by
 unfold lvF;simp only [List.lookup,beq_self_eq_true]
theorem nz (tl al kl:Addr):(lvF tl al kl).lookup (Str.ofString "asked")=some (V.ref al):=by
 unfold lvF;have h:(Str.ofString "asked" == Str.ofString "trees")=false:=beq_eq_false_iff_ne.mpr fun z=>ub z.symm;simp only [List.lookup,h,beq_self_eq_true]
theorem qV (tl al kl:Addr):(lvF tl al kl).lookup (Str.ofString "kid_spots")=some (V.ref kl):=by
 unfold lvF;have h:(Str.ofString "kid_spots" == Str.ofString "trees")=false:=beq_eq_false_iff_ne.mpr fun z=>t8 z.symm;have h2:(Str.ofString "kid_spots" == Str.ofString "asked")=false:=beq_eq_false_iff_ne.mpr fun z=>t3 z.symm;simp only [List.lookup,h,h2,beq_self_eq_true]
theorem qA {m:Str} (tl al kl:Addr) (h1:(m == Str.ofString "trees")=false) (h2:(m == Str.ofString "asked")=false) (h3:(m == Str.ofString "kid_spots")=false):(lvF tl al kl).lookup m=none:=by
 unfold lvF;simp only [List.lookup,h1,h2,h3]
theorem sQ (tl al kl:Addr):dj (Str.ofString "kid_spots") (.ref kl) (dj (Str.ofString "asked") (.ref al) (dj (Str.ofString "trees") (.ref tl) []))=lvF tl al kl:=by
 unfold lvF;simp only [dj];rw [if_neg ub,dj,if_neg t8,dj,if_neg t3,dj]
def dcts (ns:List Nd):List Addr:=ns.flatMap fun n=>[n.aa,n.ka]
theorem iX (a b:List Nd):dcts (a++b)=dcts a++dcts b:=List.flatMap_append
theorem cH {ns:List Nd} {n:Nd} (h:n∈ns):n.aa∈dcts ns:=List.mem_flatMap.mpr ⟨n,h,List.mem_cons_self ..⟩
theorem cz {ns:List Nd} {n:Nd} (h:n∈ns):n.ka∈dcts ns:=List.mem_flatMap.mpr ⟨n,h,List.mem_cons_of_mem _ (List.mem_cons_self ..)⟩
theorem jJ {ns:List Nd} {b:Addr} (h:b∈dcts ns):∃ n∈ns,b=n.aa∨b=n.ka:=by
 obtain ⟨n,hn,hb⟩:=List.mem_flatMap.mp h;refine ⟨n,hn,?_⟩;rcases List.mem_cons.mp hb with h | h
 · exact .inl h
 · exact .inr (List.mem_singleton.mp h)
structure LvSh (C:Addr) (H:Hp) (L:Lv):Prop where
 ins:H L.x=some (.ins C L.dx (lvF L.tl L.al L.kl))
 tl:H L.tl=some (.lst (L.ns.map fun n=>V.ref n.ta))
 al:H L.al=some (.lst (L.ns.map fun n=>V.ref n.aa))
 kl:H L.kl=some (.lst (L.ns.map fun n=>V.ref n.ka))
 tr:∀ n∈L.ns,At H n.t n.ta
 ak:∀ n∈L.ns,H n.aa=some (.dK n.ask)
 sp:∀ n∈L.ns,H n.ka=some (.dK n.sp)
 n1:L.tl≠L.al
 n2:L.tl≠L.kl
 n3:L.al≠L.kl
 nd:(dcts L.ns).Nodup
 un:(L.ns.map (·.t)).Nodup
def Lv.own (L:Lv):List Addr:=L.x::L.tl::L.al::L.kl::dcts L.ns
theorem LvSh.keep {C:Addr} {H H':Hp} {L:Lv} (h:LvSh C H L) (k:KT H H') (f:∀ b∈L.own,∀ o,H b=some o->H' b=some o):LvSh C H' L:=by
 have d:∀ b∈dcts L.ns,∀ o,H b=some o->H' b=some o:=fun b hb=>f b (List.mem_cons_of_mem _ (List.mem_cons_of_mem _ (List.mem_cons_of_mem _ (List.mem_cons_of_mem _ hb))))
 exact ⟨f _ (List.mem_cons_self ..) _ h.ins,f _ (List.mem_cons_of_mem _ (List.mem_cons_self ..)) _ h.tl,f _ (List.mem_cons_of_mem _ (List.mem_cons_of_mem _ (List.mem_cons_self ..))) _ h.al,f _ (List.mem_cons_of_mem _ (List.mem_cons_of_mem _ (List.mem_cons_of_mem _ (List.mem_cons_self ..)))) _ h.kl,
  fun n hn=>(h.tr n hn).mono k,fun n hn=>d _ (cH hn) _ (h.ak n hn),fun n hn=>d _ (cz hn) _ (h.sp n hn),h.n1,h.n2,h.n3,h.nd,h.un⟩
def FrB (S:List Addr) (H H':Hp):Prop:=∀ b o,b∉S->H b=some o->H' b=some o
theorem FrB.refl {S:List Addr} {H:Hp}:FrB S H H:=fun _ _ _ e=>e
theorem FrB.of {S:List Addr} {H H':Hp} (h:L2.Same H H'):FrB S H H':=fun b o _ e=>h b o e
theorem FrB.trans {S:List Addr} {A B C:Hp} (h:FrB S A B) (k:FrB S B C):FrB S A C:=fun b o hb e=>k b o hb (h b o hb e)
theorem FrB.set {S:List Addr} {H:Hp} {a:Addr} {o:HO} (h:a∈S):FrB S H (upd H a o):=fun b u hb e=>by rw [ae (show b≠a from fun z=>hb (by rw [z];exact h))];exact e
theorem kh {α:Type} {l:List α} (h:l.Nodup) {i j:Nat} {x:α} (hi:l[i]?=some x) (hj:l[j]?=some x):i=j:=by
 induction l generalizing i j with
 | nil=>simp at hi
 | cons a l ih =>
   rw [List.nodup_cons] at h;cases i with
   | zero =>
     cases j with
     | zero=>rfl
     | succ j =>
       simp at hi hj;exact absurd (by rw [hi];exact List.mem_of_getElem? hj) h.1
   | succ i =>
     cases j with
     | zero =>
       simp at hi hj;exact absurd (by rw [hj];exact List.mem_of_getElem? hi) h.1
     | succ j =>
       simp at hi hj;rw [ih h.2 hi hj]
theorem k9 {α β:Type} {f:α->β} (hf:∀ a b,f a=f b->a=b):∀ {l:List α},l.Nodup->(l.map f).Nodup
 | [],_=>by simp
 | a::l,h=>by
   rw [List.nodup_cons] at h;rw [List.map_cons,List.nodup_cons];refine ⟨fun z=>?_,k9 hf h.2⟩;obtain ⟨b,hb,e⟩:=List.mem_map.mp z;exact h.1 (hf _ _ e ▸ hb)
theorem cY {α:Type}:∀ {l m:List α},l.Nodup->(∀ a∈l,a∈m)->l.length<=m.length
 | [],m,_,_=>Nat.zero_le _
 | a::l,m,h,hs=>by
   rw [List.nodup_cons] at h;obtain ⟨m1,m2,rfl⟩:=List.append_of_mem (hs a (List.mem_cons_self ..))
   have:l.length<=(m1++m2).length:=cY h.2 fun b hb=>by
    rcases List.mem_append.mp (hs b (List.mem_cons_of_mem _ hb)) with z | z
    · exact List.mem_append_left _ z
    · rcases List.mem_cons.mp z with z | z
      · exact absurd (z ▸ hb) h.1
      · exact List.mem_append_right _ z
   rw [List.length_append,List.length_cons] at *;rw [List.length_cons];omega
theorem eJ {B:Nat}:∀ {ts:List Th},(∀ t∈ts,t.tall<=B)->cK (ts.map Th.dv)<=B
 | [],_=>by rw [List.map_nil,cK];exact Nat.zero_le _
 | t::ts,h=>by
   have h1:=t.dv_deep;have h2:=h t (List.mem_cons_self ..);have h3:=eJ (ts:=ts) fun u hu=>h u (List.mem_cons_of_mem _ hu);rw [List.map_cons,cK];omega
theorem LvSh.dats {C:Addr} {H:Hp} {L:Lv} (h:LvSh C H L):DAts H ((L.ns.map (·.t)).map Th.dv) (L.ns.map fun n=>V.ref n.ta):=by
 have:∀ ns:List Nd,(∀ n∈ns,At H n.t n.ta)->DAts H ((ns.map (·.t)).map Th.dv) (ns.map fun n=>V.ref n.ta):=by
  intro ns;induction ns with
  | nil=>exact fun _=>.nil
  | cons n ns ih=>exact fun h=>.cons (At.dv (h n (List.mem_cons_self ..))) (ih fun m hm=>h m (List.mem_cons_of_mem _ hm))
 exact this L.ns h.tr
def Lv.add (L:Lv) (t:Th) (ta aa ka:Addr):Lv:={ L with ns:=L.ns++[⟨t,ta,aa,ka,[],[]⟩] }
theorem LvSh.add {C:Addr} {H H':Hp} {L:Lv} {t:Th} {ta aa ka:Addr} (h:LvSh C H L) (f:FrB [L.tl,L.al,L.kl] H H') (h0:H aa=none) (h1:H ka=none) (hne:aa≠ka) (hA:At H t ta) (hn:t∉L.ns.map (·.t))
 (e1:H' L.tl=some (.lst ((L.ns.map fun n=>V.ref n.ta)++[.ref ta]))) (e2:H' L.al=some (.lst ((L.ns.map fun n=>V.ref n.aa)++[.ref aa]))) (e3:H' L.kl=some (.lst ((L.ns.map fun n=>V.ref n.ka)++[.ref ka]))) (e4:H' aa=some (.dK [])) (e5:H' ka=some (.dK [])) :
 LvSh C H' (L.add t ta aa ka):=by
 have no:∀ b u,H b=some u->(∀ xs,u≠.lst xs)->b∉[L.tl,L.al,L.kl]:=fun b u e n z=>by
  rcases List.mem_cons.mp z with rfl | z
  · rw [h.tl] at e;exact n _ (Option.some.inj e).symm
  · rcases List.mem_cons.mp z with rfl | z
    · rw [h.al] at e;exact n _ (Option.some.inj e).symm
    · rw [List.mem_singleton.mp z,h.kl] at e;exact n _ (Option.some.inj e).symm
 have k:KT H H':=fun b xs e=>f b _ (no b _ e (fun _ z=>nomatch z)) e
 refine ⟨f _ _ (no _ _ h.ins (fun _ z=>nomatch z)) h.ins,e1.trans (by show _=some (HO.lst ((L.ns++[_]).map _));rw [List.map_append];rfl),e2.trans (by show _=some (HO.lst ((L.ns++[_]).map _));rw [List.map_append];rfl),e3.trans (by show _=some (HO.lst ((L.ns++[_]).map _));rw [List.map_append];rfl),
  fun n hn=>?_,fun n hn=>?_,fun n hn=>?_,h.n1,h.n2,h.n3,?_,?_⟩
 · rcases List.mem_append.mp hn with hn | hn
   · exact (h.tr n hn).mono k
   · rw [List.mem_singleton.mp hn];exact hA.mono k
 · rcases List.mem_append.mp hn with hn | hn
   · exact f _ _ (no _ _ (h.ak n hn) (fun _ z=>nomatch z)) (h.ak n hn)
   · rw [List.mem_singleton.mp hn];exact e4
 · rcases List.mem_append.mp hn with hn | hn
   · exact f _ _ (no _ _ (h.sp n hn) (fun _ z=>nomatch z)) (h.sp n hn)
   · rw [List.mem_singleton.mp hn];exact e5
 · show (dcts (L.ns++[_])).Nodup;rw [iX,List.nodup_append];refine ⟨h.nd,by simp [dcts,hne],fun a ha b hb z=>?_⟩
   have hs:∃ o,H a=some o:=by
    obtain ⟨n,hn,rfl | rfl⟩:=jJ ha
    · exact ⟨_,h.ak n hn⟩
    · exact ⟨_,h.sp n hn⟩
   obtain ⟨o,ho⟩:=hs;have hb':b=aa∨b=ka:=by simpa [dcts] using hb
   rcases hb' with rfl | rfl
   · rw [z,h0] at ho;cases ho
   · rw [z,h1] at ho;cases ho
 · show ((L.ns++[_]).map _).Nodup;rw [List.map_append,List.nodup_append];refine ⟨h.un,by simp,fun a ha b hb z=>hn ?_⟩;have:b=t:=by simpa using hb
   rw [<- this,<- z];exact ha
end BB
namespace L2
open PySem
theorem qT {K:PySem.W.Frag} {a:Addr} {xs:List V} {g:TG} {tb:TS} {D:fu} {σ:St} {H:Hp} (Pv:Nat->St->Hp->Prop) (h0:Pv 0 σ H) (hl:∀ i σ H,i<=xs.length->Pv i σ H->SqT K H a xs)
 (hs:∀ i x p σ H,xs[i]?=some x->H p=none->Pv i σ H->g (.ref p) σ (upd H p (.tup [.int (i:Nat),x])) fun σ2 H2=>tb { D with nx:=Pv (i+1),ct:=Pv (i+1),bk:=D.nx } σ2 H2) (hd:∀ σ H,Pv xs.length σ H->D.nx σ H) :
 ∃ W:Nat->Nat->St->Hp->Prop,(∃ m,W 0 m σ H)/\∀ i m σ H,W i m σ H →
   ((Ite K a).stop i H/\D.nx σ H)∨((Ite K a).go i H/\∃ N:St->Hp->Prop,(∀ σ' H',N σ' H'->∃ m',m'<m/\W (i+1) m' σ' H')/\∀ x H',(Ite K a).yld i H x H'->g x σ H' fun σ2 H2=>tb { D with nx:=N,ct:=N,bk:=D.nx } σ2 H2):=by
 refine ⟨fun i m σ H=>m=xs.length - i/\i<=xs.length/\Pv i σ H,⟨xs.length,by simp,Nat.zero_le _,h0⟩,?_⟩;rintro i m σ H ⟨rfl,hi,p⟩;have q:=hl i σ H hi p;by_cases hlt:i<xs.length
 · refine .inr ⟨⟨xs,xs[i],q,by simp [hlt]⟩,Pv (i+1),fun σ' H' p'=>⟨xs.length - (i+1),by omega,rfl,hlt,p'⟩,fun x H' y=>?_⟩;obtain ⟨pa,y,hp,rfl,rfl,hy⟩:=y;exact hs i y pa σ H (hy xs q) hp p
 · have e:i=xs.length:=by omega
   subst e;exact .inl ⟨⟨xs,q,rfl⟩,hd σ H p⟩
theorem tD {K:PySem.W.Frag} {a b:Addr} {xs ys:List V} {g:TG} {tb:TS} {D:fu} {σ:St} {H:Hp} (hxy:xs.length=ys.length) (Pv:Nat->St->Hp->Prop) (h0:Pv 0 σ H) (hl:∀ i σ H,i<=xs.length->Pv i σ H->SqT K H a xs/\SqT K H b ys)
 (hs:∀ i x y p σ H,xs[i]?=some x->ys[i]?=some y->H p=none->Pv i σ H->g (.ref p) σ (upd H p (.tup [x,y])) fun σ2 H2=>tb { D with nx:=Pv (i+1),ct:=Pv (i+1),bk:=D.nx } σ2 H2) (hd:∀ σ H,Pv xs.length σ H->D.nx σ H) :
 ∃ W:Nat->Nat->St->Hp->Prop,(∃ m,W 0 m σ H)/\∀ i m σ H,W i m σ H →
   ((Itz K a b).stop i H/\D.nx σ H)∨((Itz K a b).go i H/\∃ N:St->Hp->Prop,(∀ σ' H',N σ' H'->∃ m',m'<m/\W (i+1) m' σ' H')/\∀ x H',(Itz K a b).yld i H x H'->g x σ H' fun σ2 H2=>tb { D with nx:=N,ct:=N,bk:=D.nx } σ2 H2):=by
 refine ⟨fun i m σ H=>m=xs.length - i/\i<=xs.length/\Pv i σ H,⟨xs.length,by simp,Nat.zero_le _,h0⟩,?_⟩;rintro i m σ H ⟨rfl,hi,p⟩;obtain ⟨q1,q2⟩:=hl i σ H hi p;by_cases hlt:i<xs.length
 · have hlt2:i<ys.length:=by omega
   refine .inr ⟨⟨xs,ys,xs[i],ys[i],q1,q2,by simp [hlt],by simp [hlt2]⟩,Pv (i+1),fun σ' H' p'=>⟨xs.length - (i+1),by omega,rfl,hlt,p'⟩,fun x H' y=>?_⟩;obtain ⟨pa,x,y,hp,rfl,rfl,hx,hy⟩:=y;exact hs i x y pa σ H (hx xs q1) (hy ys q2) hp p
 · have e:i=xs.length:=by omega
   subst e;exact .inl ⟨⟨xs,ys,q1,q2,.inl (Nat.le_refl _)⟩,hd σ H p⟩
theorem rM {K:PySem.W.Frag} {a b:Addr} {xs ys:List V} {g:TG} {tb:TS} {D:fu} {σ:St} {H:Hp} (hxy:xs.length=ys.length) (Pv:Nat->St->Hp->Prop) (h0:Pv 0 σ H) (hl:∀ i σ H,i<=xs.length->Pv i σ H->SqL K H a xs/\SqL K H b ys)
 (hs:∀ i x y p σ H,xs[i]?=some x->ys[i]?=some y->H p=none->Pv i σ H->g (.ref p) σ (upd H p (.tup [x,y])) fun σ2 H2=>tb { D with nx:=Pv (i+1),ct:=Pv (i+1),bk:=D.nx } σ2 H2) (hd:∀ σ H,Pv xs.length σ H->D.nx σ H) :
 ∃ W:Nat->Nat->St->Hp->Prop,(∃ m,W 0 m σ H)/\∀ i m σ H,W i m σ H →
   ((rP K a b).stop i H/\D.nx σ H)∨((rP K a b).go i H/\∃ N:St->Hp->Prop,(∀ σ' H',N σ' H'->∃ m',m'<m/\W (i+1) m' σ' H')/\∀ x H',(rP K a b).yld i H x H'->g x σ H' fun σ2 H2=>tb { D with nx:=N,ct:=N,bk:=D.nx } σ2 H2):=by
 refine ⟨fun i m σ H=>m=xs.length - i/\i<=xs.length/\Pv i σ H,⟨xs.length,by simp,Nat.zero_le _,h0⟩,?_⟩;rintro i m σ H ⟨rfl,hi,p⟩;obtain ⟨q1,q2⟩:=hl i σ H hi p;by_cases hlt:i<xs.length
 · have hlt2:i<ys.length:=by omega
   refine .inr ⟨⟨xs,ys,xs[i],ys[i],q1,q2,by simp [hlt],by simp [hlt2]⟩,Pv (i+1),fun σ' H' p'=>⟨xs.length - (i+1),by omega,rfl,hlt,p'⟩,fun x H' y=>?_⟩;obtain ⟨pa,x,y,hp,rfl,rfl,hx,hy⟩:=y;exact hs i x y pa σ H (hx xs q1) (hy ys q2) hp p
 · have e:i=xs.length:=by omega
   subst e;exact .inl ⟨⟨xs,ys,q1,q2,.inl (Nat.le_refl _)⟩,hd σ H p⟩
end L2
namespace BB
open PySem L2
abbrev DP:=Th->V->List (List Key×V)->Prop
def DgAt (Dp:DP) (H:Hp) (p:Th) (a:Addr):Prop:=∃ d own kvs,H a=some (.tup [own,.ref d])/\H d=some (.dT kvs)/\Dp p own kvs
def DgN (Dp:DP) (td:Addr) (H:Hp) (p:Th) (a:Addr):Prop:=∃ d own kvs,d≠td/\H a=some (.tup [own,.ref d])/\H d=some (.dT kvs)/\Dp p own kvs
structure KTD (H H':Hp):Prop where
 tup:∀ b xs,H b=some (.tup xs)->H' b=some (.tup xs)
 dct:∀ b (kvs:List (List Key×V)),H b=some (.dT kvs)->H' b=some (.dT kvs)
theorem KTD.trans {A B C:Hp} (h:KTD A B) (k:KTD B C):KTD A C:=⟨fun b xs e=>k.tup b xs (h.tup b xs e),fun b xs e=>k.dct b xs (h.dct b xs e)⟩
theorem KTD.refl {A:Hp}:KTD A A:=⟨fun _ _ e=>e,fun _ _ e=>e⟩
theorem KTD.of {A B:Hp} (h:L2.Same A B):KTD A B:=⟨fun b xs e=>h b _ e,fun b xs e=>h b _ e⟩
theorem DgAt.mono {Dp:DP} {H H':Hp} {p:Th} {a:Addr} (h:DgAt Dp H p a) (k:KTD H H'):DgAt Dp H' p a:=by
 obtain ⟨d,own,kvs,h1,h2,h3⟩:=h;exact ⟨d,own,kvs,k.tup _ _ h1,k.dct _ _ h2,h3⟩
theorem DgN.at {Dp:DP} {td:Addr} {H:Hp} {p:Th} {a:Addr} (h:DgN Dp td H p a):DgAt Dp H p a:=by
 obtain ⟨d,own,kvs,_,h1,h2,h3⟩:=h;exact ⟨d,own,kvs,h1,h2,h3⟩
theorem DgN.same {Dp:DP} {td:Addr} {H H':Hp} {p:Th} {a:Addr} (h:DgN Dp td H p a) (k:L2.Same H H'):DgN Dp td H' p a:=by
 obtain ⟨d,own,kvs,h0,h1,h2,h3⟩:=h;exact ⟨d,own,kvs,h0,k _ _ h1,k _ _ h2,h3⟩
theorem DgN.upd {Dp:DP} {td:Addr} {H:Hp} {p:Th} {a:Addr} {u:HO} {tk:List (List Key×V)} (h:DgN Dp td H p a) (e:H td=some (.dT tk)):DgN Dp td (upd H td u) p a:=by
 obtain ⟨d,own,kvs,h0,h1,h2,h3⟩:=h;exact ⟨d,own,kvs,h0,by rw [ae (aJ h1 e (fun z=>nomatch z))];exact h1,by rw [ae h0];exact h2,h3⟩
def kn2 (s:Nat) (n:Str):List Key:=[Sum.inl ((s:Nat):Int),Sum.inr n]
theorem sO {s s':Nat} {n n':Str} (h:kn2 s n=kn2 s' n'):s=s'/\n=n':=by
 simp only [kn2,List.cons.injEq,Sum.inl.injEq,Sum.inr.injEq,and_true] at h;exact ⟨by omega,h.2⟩
def vf (Dp:DP) (td:Addr) (H:Hp) (ins:List (Str×Int)) (rows:List (List Th)) (tk:List (List Key×V)) (i j:Nat):Prop :=
 ∀ (s c:Nat) (row:List Th) (p:Th) (k:Str×Int),(s<i∨(s=i/\c<j))->rows[s]?=some row->row[c]?=some p->ins[c]?=some k->∃ da,aQ tk (kn2 s k.1)=some (.ref da)/\DgN Dp td H p da
def DgTab (Dp:DP) (H:Hp) (ins:List (Str×Int)) (rows:List (List Th)) (td:Addr):Prop:=∃ tk,H td=some (.dT tk) ∧
 ∀ (s c:Nat) (row:List Th) (p:Th) (k:Str×Int),rows[s]?=some row->row[c]?=some p->ins[c]?=some k->∃ da,aQ tk (kn2 s k.1)=some (.ref da)/\DgAt Dp H p da
theorem DgTab.mono {Dp:DP} {H H':Hp} {ins:List (Str×Int)} {rows:List (List Th)} {td:Addr} (h:DgTab Dp H ins rows td) (k:KTD H H'):DgTab Dp H' ins rows td:=by
 obtain ⟨tk,e,g⟩:=h;refine ⟨tk,k.dct _ _ e,fun s c row p kd h1 h2 h3=>?_⟩;obtain ⟨da,a1,a2⟩:=g s c row p kd h1 h2 h3;exact ⟨da,a1,a2.mono k⟩
def tM (Dp:DP) (spf:Sp) (ok:Th->Prop):Prop:=∀ (H1:Hp) (p:Th) (pa:Addr) (R:VK),At H1 p pa->ok p->(∀ (r d:Addr) (own:V) (kvs:List (List Key×V)) (H2:Hp),L2.Same H1 H2->H1 d=none->H2 r=some (.tup [own,.ref d])->H2 d=some (.dT kvs)->Dp p own kvs->R (.ref r) H2)->spf [.ref pa] H1 R E0
end BB
namespace BB
open PySem L2
theorem qu {κ:Type} [DecidableEq κ] (kvs:List (κ×V)) (k:κ) (v:V):(bj kvs k v).map (·.1)=if k∈kvs.map (·.1) then kvs.map (·.1) else kvs.map (·.1)++[k]:=by
 have e:(kvs.any fun kv=>decide (kv.1=k))=decide (k∈kvs.map (·.1)):=by
  rw [Bool.eq_iff_iff,List.any_eq_true,decide_eq_true_iff];constructor
  · rintro ⟨x,hx,hk⟩;exact List.mem_map.mpr ⟨x,hx,of_decide_eq_true hk⟩
  · intro h;obtain ⟨x,hx,hk⟩:=List.mem_map.mp h;exact ⟨x,hx,decide_eq_true hk⟩
 unfold bj;rw [e];by_cases h:k∈kvs.map (·.1)
 · rw [if_pos (decide_eq_true h),if_pos h,List.map_map];refine List.map_congr_left fun x hx=>?_;simp only [Function.comp];by_cases g:x.1=k
   · rw [if_pos g]
   · rw [if_neg g]
 · rw [if_neg (fun z=>h (of_decide_eq_true z)),if_neg h,List.map_append];rfl
theorem jY {κ:Type} [DecidableEq κ] {kvs:List (κ×V)} (nd:(kvs.map (·.1)).Nodup) (k:κ) (v:V):((bj kvs k v).map (·.1)).Nodup:=by
 rw [qu];by_cases h:k∈kvs.map (·.1)
 · rw [if_pos h];exact nd
 · rw [if_neg h,List.nodup_append];refine ⟨nd,by simp,fun a ha b hb=>?_⟩;rw [List.mem_singleton.mp hb];exact fun z=>h (z ▸ ha)
theorem jV {κ:Type} [DecidableEq κ] {kvs:List (κ×V)} {k:κ} {v:V} {e:κ×V} (h:e∈bj kvs k v):e=(k,v)∨(e∈kvs/\e.1≠k):=by
 unfold bj at h;by_cases g:(kvs.any fun kv=>decide (kv.1=k))=true
 · rw [if_pos g] at h;obtain ⟨x,hx,rfl⟩:=List.mem_map.mp h;by_cases e:x.1=k
   · rw [if_pos e,e];exact .inl rfl
   · rw [if_neg e];exact .inr ⟨hx,e⟩
 · rw [if_neg g] at h;rcases List.mem_append.mp h with h | h
   · exact .inr ⟨h,fun z=>g (List.any_eq_true.mpr ⟨e,h,decide_eq_true z⟩)⟩
   · exact .inl (List.mem_singleton.mp h)
theorem hV {κ:Type} [DecidableEq κ] {kvs:List (κ×V)} {k:κ} {v:V} (h:aQ kvs k=some v):(k,v)∈kvs:=by
 induction kvs with
 | nil=>cases h
 | cons p r ih =>
   by_cases e:p.1=k
   · rw [bA e] at h;cases h;rw [<- e];exact List.mem_cons_self ..
   · rw [bH e] at h;exact List.mem_cons_of_mem _ (ih h)
theorem sK {κ:Type} [DecidableEq κ] {kvs:List (κ×V)} (nd:(kvs.map (·.1)).Nodup) {e:κ×V} (h:e∈kvs):aQ kvs e.1=some e.2:=by
 induction kvs with
 | nil=>cases h
 | cons p r ih =>
   rw [List.map_cons,List.nodup_cons] at nd;rcases List.mem_cons.mp h with rfl | h
   · exact bA rfl
   · rw [bH (fun z=>nd.1 (by rw [z];exact List.mem_map.mpr ⟨e,h,rfl⟩))];exact ih nd.2 h
def iM (ins:List (Str×Int)) (rows:List (List Th)) (head:Th) (s:Int) (t p:Th):Prop :=
 (s=-1/\p=head/\∃ u,t=.knot Str.empty [u])∨(0<=s/\∃ (m:Str) (hs:List Th) (c:Int) (j:Nat) (row:List Th),t=.knot m hs/\ins[j]?=some (m,c)/\rows[s.toNat]?=some row/\row[j]?=some p)
theorem Step.pat {ins:List (Str×Int)} {rows:List (List Th)} {head:Th} {s k:Int} {ks:List Th} {p h:Th} (st:Step ins rows s k ks p h):iM ins rows head s h p:=.inr ⟨st.1,st.2.2.2⟩
structure AskE (Dp:DP) (ins:List (Str×Int)) (rows:List (List Th)) (head:Th) (H:Hp) (t:Th) (kv:Key×V) (s:Int) (p:Th) (da:Addr):Prop where
 k:kv.1=Sum.inl s
 v:kv.2=.ref da
 pat:iM ins rows head s t p
 dg:DgAt Dp H p da
def AskOk (Dp:DP) (ins:List (Str×Int)) (rows:List (List Th)) (head:Th) (H:Hp) (t:Th) (ask:List (Key×V)):Prop:=∀ kv∈ask,∃ s p da,AskE Dp ins rows head H t kv s p da
theorem AskE.mono {Dp:DP} {ins:List (Str×Int)} {rows:List (List Th)} {head:Th} {H H':Hp} {t:Th} {kv:Key×V} {s:Int} {p:Th} {da:Addr} (h:AskE Dp ins rows head H t kv s p da) (k:KTD H H'):AskE Dp ins rows head H' t kv s p da:=⟨h.k,h.v,h.pat,h.dg.mono k⟩
theorem AskOk.mono {Dp:DP} {ins:List (Str×Int)} {rows:List (List Th)} {head:Th} {H H':Hp} {t:Th} {ask:List (Key×V)} (h:AskOk Dp ins rows head H t ask) (k:KTD H H'):AskOk Dp ins rows head H' t ask:=fun kv hkv=>by
 obtain ⟨s,p,da,g⟩:=h kv hkv;exact ⟨s,p,da,g.mono k⟩
structure GoodNd (Dp:DP) (ins:List (Str×Int)) (rows:List (List Th)) (head:Th) (ok:Th->Prop) (H:Hp) (m:Nd):Prop where
 ask:AskOk Dp ins rows head H m.t m.ask
 nd:(m.ask.map (·.1)).Nodup
 sp:m.sp=[]
 ok:ok m.t
 pos:∀ kv∈m.ask,∃ s:Int,kv.1=Sum.inl s/\0<=s
theorem GoodNd.mono {Dp:DP} {ins:List (Str×Int)} {rows:List (List Th)} {head:Th} {ok:Th->Prop} {H H':Hp} {m:Nd} (h:GoodNd Dp ins rows head ok H m) (k:KTD H H'):GoodNd Dp ins rows head ok H' m:=⟨h.ask.mono k,h.nd,h.sp,h.ok,h.pos⟩
theorem AskOk.len {Dp:DP} {ins:List (Str×Int)} {rows:List (List Th)} {head:Th} {H:Hp} {t:Th} {ask:List (Key×V)} (h:AskOk Dp ins rows head H t ask) (nd:(ask.map (·.1)).Nodup):ask.length<=rows.length+1:=by
 have:=cY (m:=(Sum.inl (-1):Key)::(List.range rows.length).map fun i=>(Sum.inl ((i:Nat):Int):Key)) nd fun k hk=>by
  obtain ⟨kv,hkv,rfl⟩:=List.mem_map.mp hk;obtain ⟨s,p,da,g⟩:=h kv hkv;rw [g.k];rcases g.pat with ⟨rfl,_⟩ | ⟨s0,m,hs,c,j,row,_,_,hr,_⟩
  · exact List.mem_cons_self ..
  · refine List.mem_cons_of_mem _ (List.mem_map.mpr ⟨s.toNat,List.mem_range.mpr (List.getElem?_eq_some_iff.mp hr).1,?_⟩);rw [Int.toNat_of_nonneg s0]
 rw [List.length_map,List.length_cons,List.length_map,List.length_range] at this;exact this
def Lv.setSp (L:Lv) (i:Nat) (n:Nd) (sp:List (Key×V)):Lv:={ L with ns:=L.ns.set i { n with sp:=sp } }
def Lv.setAsk (L:Lv) (i:Nat) (n:Nd) (ask:List (Key×V)):Lv:={ L with ns:=L.ns.set i { n with ask:=ask } }
theorem map_set {α β:Type} (f:α->β) {l:List α} {i:Nat} {a b:α} (h:l[i]?=some a) (e:f b=f a):(l.set i b).map f=l.map f:=by
 rw [List.map_set];refine List.ext_getElem? fun j=>?_;rw [List.getElem?_set];split
 · rename_i z
   subst z;rw [List.length_map,if_pos (List.getElem?_eq_some_iff.mp h).1,List.getElem?_map,h,e];rfl
 · rfl
theorem gW {l:List Nd} {i:Nat} {a b:Nd} (h:l[i]?=some a) (e1:b.aa=a.aa) (e2:b.ka=a.ka):dcts (l.set i b)=dcts l:=by
 unfold dcts;rw [List.flatMap_def,List.flatMap_def,map_set (fun n:Nd=>[n.aa,n.ka]) h (by simp only [e1,e2])]
theorem eg {α:Type} {l:List α} {i:Nat} {b x:α} (h:x∈l.set i b):x=b∨∃ j,j≠i/\l[j]?=some x:=by
 obtain ⟨j,hj⟩:=List.mem_iff_getElem?.mp h;rw [List.getElem?_set] at hj;split at hj
 · split at hj
   · exact .inl (Option.some.inj hj).symm
   · cases hj
 · rename_i z
   exact .inr ⟨j,fun e=>z e.symm,hj⟩
theorem jl {l:List Nd} (h:(dcts l).Nodup) {i j:Nat} {a b:Nd} (hi:l[i]?=some a) (hj:l[j]?=some b) (hne:j≠i):b.aa≠a.aa/\b.aa≠a.ka/\b.ka≠a.aa/\b.ka≠a.ka:=by
 induction l generalizing i j with
 | nil=>simp at hi
 | cons x l ih =>
   have hc:dcts (x::l)=x.aa::x.ka::dcts l:=rfl;rw [hc,List.nodup_cons,List.nodup_cons] at h;obtain ⟨h1,h2,h3⟩:=h;have h1':x.aa∉dcts l:=fun z=>h1 (List.mem_cons_of_mem _ z);cases i with
   | zero =>
     cases j with
     | zero=>exact absurd rfl hne
     | succ j =>
       simp at hi hj;subst hi;have m:=List.mem_of_getElem? hj;exact ⟨fun z=>h1' (z ▸ cH m),fun z=>h2 (z ▸ cH m),fun z=>h1' (z ▸ cz m),fun z=>h2 (z ▸ cz m)⟩
   | succ i =>
     cases j with
     | zero =>
       simp at hi hj;subst hj;have m:=List.mem_of_getElem? hi;exact ⟨fun z=>h1' (z ▸ cH m),fun z=>h1' (z ▸ cz m),fun z=>h2 (z ▸ cH m),fun z=>h2 (z ▸ cz m)⟩
     | succ j =>
       simp at hi hj;exact ih h3 hi hj (by omega)
theorem gP {l:List Nd} (h:(dcts l).Nodup) {i:Nat} {a:Nd} (hi:l[i]?=some a):a.aa≠a.ka:=by
 induction l generalizing i with
 | nil=>simp at hi
 | cons x l ih =>
   have hc:dcts (x::l)=x.aa::x.ka::dcts l:=rfl;rw [hc,List.nodup_cons,List.nodup_cons] at h;cases i with
   | zero =>
     simp at hi;subst hi;exact fun z=>h.1 (by rw [z];exact List.mem_cons_self ..)
   | succ i =>
     simp at hi;exact ih h.2.2 hi
theorem cg {C:Addr} {H:Hp} {L:Lv} (h:LvSh C H L) {b:Addr} (hb:b∈L.own):∃ o,H b=some o/\(∀ xs,o≠.tup xs)/\(∀ k,o≠.dT k)/\∀ x y,o≠.frz x y:=by
 rcases List.mem_cons.mp hb with rfl | hb
 · exact ⟨_,h.ins,fun _ z=>(nomatch z),fun _ z=>(nomatch z),fun _ _ z=>nomatch z⟩
 rcases List.mem_cons.mp hb with rfl | hb
 · exact ⟨_,h.tl,fun _ z=>(nomatch z),fun _ z=>(nomatch z),fun _ _ z=>nomatch z⟩
 rcases List.mem_cons.mp hb with rfl | hb
 · exact ⟨_,h.al,fun _ z=>(nomatch z),fun _ z=>(nomatch z),fun _ _ z=>nomatch z⟩
 rcases List.mem_cons.mp hb with rfl | hb
 · exact ⟨_,h.kl,fun _ z=>(nomatch z),fun _ z=>(nomatch z),fun _ _ z=>nomatch z⟩
 obtain ⟨n,hn,rfl | rfl⟩:=jJ hb
 · exact ⟨_,h.ak n hn,fun _ z=>(nomatch z),fun _ z=>(nomatch z),fun _ _ z=>nomatch z⟩
 · exact ⟨_,h.sp n hn,fun _ z=>(nomatch z),fun _ z=>(nomatch z),fun _ _ z=>nomatch z⟩
theorem LvSh.setSp {C:Addr} {H H':Hp} {L:Lv} {i:Nat} {n:Nd} {sp:List (Key×V)} (h:LvSh C H L) (hi:L.ns[i]?=some n) (k:KT H H') (f:∀ b∈L.own,b≠n.ka->∀ o,H b=some o->H' b=some o) (e:H' n.ka=some (.dK sp)):LvSh C H' (L.setSp i n sp):=by
 have ni:=List.mem_of_getElem? hi;have hka:=h.sp n ni;have m1:L.x∈L.own:=List.mem_cons_self ..;have m2:L.tl∈L.own:=List.mem_cons_of_mem _ (List.mem_cons_self ..);have m3:L.al∈L.own:=List.mem_cons_of_mem _ (List.mem_cons_of_mem _ (List.mem_cons_self ..));have m4:L.kl∈L.own:=List.mem_cons_of_mem _ (List.mem_cons_of_mem _ (List.mem_cons_of_mem _ (List.mem_cons_self ..)));have m5:∀ b∈dcts L.ns,b∈L.own:=fun b hb=>List.mem_cons_of_mem _ (List.mem_cons_of_mem _ (List.mem_cons_of_mem _ (List.mem_cons_of_mem _ hb)));refine ⟨f _ m1 (aJ h.ins hka (fun z=>nomatch z)) _ h.ins,(f _ m2 (aJ h.tl hka (fun z=>nomatch z)) _ h.tl).trans ?_,(f _ m3 (aJ h.al hka (fun z=>nomatch z)) _ h.al).trans ?_,(f _ m4 (aJ h.kl hka (fun z=>nomatch z)) _ h.kl).trans ?_,fun m hm=>?_,fun m hm=>?_,fun m hm=>?_,h.n1,h.n2,h.n3,?_,?_⟩
 · exact congrArg (fun l=>some (HO.lst l)) (map_set (fun n:Nd=>V.ref n.ta) (b:={ n with sp:=sp }) hi rfl).symm
 · exact congrArg (fun l=>some (HO.lst l)) (map_set (fun n:Nd=>V.ref n.aa) (b:={ n with sp:=sp }) hi rfl).symm
 · exact congrArg (fun l=>some (HO.lst l)) (map_set (fun n:Nd=>V.ref n.ka) (b:={ n with sp:=sp }) hi rfl).symm
 · rcases eg hm with rfl | ⟨j,hj,hm⟩
   · exact (h.tr n ni).mono k
   · exact (h.tr m (List.mem_of_getElem? hm)).mono k
 · rcases eg hm with rfl | ⟨j,hj,hm⟩
   · exact f _ (m5 _ (cH ni)) (gP h.nd hi) _ (h.ak n ni)
   · have mm:=List.mem_of_getElem? hm;exact f _ (m5 _ (cH mm)) (jl h.nd hi hm hj).2.1 _ (h.ak m mm)
 · rcases eg hm with rfl | ⟨j,hj,hm⟩
   · exact e
   · have mm:=List.mem_of_getElem? hm;exact f _ (m5 _ (cz mm)) (jl h.nd hi hm hj).2.2.2 _ (h.sp m mm)
 · show (dcts (L.ns.set i _)).Nodup;rw [gW (b:={ n with sp:=sp }) hi rfl rfl];exact h.nd
 · show ((L.ns.set i _).map _).Nodup;rw [map_set (fun n:Nd=>n.t) (b:={ n with sp:=sp }) hi rfl];exact h.un
theorem LvSh.setAsk {C:Addr} {H H':Hp} {L:Lv} {i:Nat} {n:Nd} {ask:List (Key×V)} (h:LvSh C H L) (hi:L.ns[i]?=some n) (k:KT H H') (f:∀ b∈L.own,b≠n.aa->∀ o,H b=some o->H' b=some o) (e:H' n.aa=some (.dK ask)):LvSh C H' (L.setAsk i n ask):=by
 have ni:=List.mem_of_getElem? hi;have hka:=h.ak n ni;have m1:L.x∈L.own:=List.mem_cons_self ..;have m2:L.tl∈L.own:=List.mem_cons_of_mem _ (List.mem_cons_self ..);have m3:L.al∈L.own:=List.mem_cons_of_mem _ (List.mem_cons_of_mem _ (List.mem_cons_self ..));have m4:L.kl∈L.own:=List.mem_cons_of_mem _ (List.mem_cons_of_mem _ (List.mem_cons_of_mem _ (List.mem_cons_self ..)));have m5:∀ b∈dcts L.ns,b∈L.own:=fun b hb=>List.mem_cons_of_mem _ (List.mem_cons_of_mem _ (List.mem_cons_of_mem _ (List.mem_cons_of_mem _ hb)));refine ⟨f _ m1 (aJ h.ins hka (fun z=>nomatch z)) _ h.ins,(f _ m2 (aJ h.tl hka (fun z=>nomatch z)) _ h.tl).trans ?_,(f _ m3 (aJ h.al hka (fun z=>nomatch z)) _ h.al).trans ?_,(f _ m4 (aJ h.kl hka (fun z=>nomatch z)) _ h.kl).trans ?_,fun m hm=>?_,fun m hm=>?_,fun m hm=>?_,h.n1,h.n2,h.n3,?_,?_⟩
 · exact congrArg (fun l=>some (HO.lst l)) (map_set (fun n:Nd=>V.ref n.ta) (b:={ n with ask:=ask }) hi rfl).symm
 · exact congrArg (fun l=>some (HO.lst l)) (map_set (fun n:Nd=>V.ref n.aa) (b:={ n with ask:=ask }) hi rfl).symm
 · exact congrArg (fun l=>some (HO.lst l)) (map_set (fun n:Nd=>V.ref n.ka) (b:={ n with ask:=ask }) hi rfl).symm
 · rcases eg hm with rfl | ⟨j,hj,hm⟩
   · exact (h.tr n ni).mono k
   · exact (h.tr m (List.mem_of_getElem? hm)).mono k
 · rcases eg hm with rfl | ⟨j,hj,hm⟩
   · exact e
   · have mm:=List.mem_of_getElem? hm;exact f _ (m5 _ (cH mm)) (jl h.nd hi hm hj).1 _ (h.ak m mm)
 · rcases eg hm with rfl | ⟨j,hj,hm⟩
   · exact f _ (m5 _ (cz ni)) (gP h.nd hi).symm _ (h.sp n ni)
   · have mm:=List.mem_of_getElem? hm;exact f _ (m5 _ (cz mm)) (jl h.nd hi hm hj).2.2.1 _ (h.sp m mm)
 · show (dcts (L.ns.set i _)).Nodup;rw [gW (b:={ n with ask:=ask }) hi rfl rfl];exact h.nd
 · show ((L.ns.set i _).map _).Nodup;rw [map_set (fun n:Nd=>n.t) (b:={ n with ask:=ask }) hi rfl];exact h.un
end BB
namespace BB
open PySem L2
structure Grow (B B':Lv):Prop where
 x:B'.x=B.x
 dx:B'.dx=B.dx
 tl:B'.tl=B.tl
 al:B'.al=B.al
 kl:B'.kl=B.kl
 ns:∀ (j:Nat) (m:Nd),B.ns[j]?=some m->∃ m',B'.ns[j]?=some m'/\m'.t=m.t/\m'.aa=m.aa/\m'.ka=m.ka/\∀ k,(aQ m.ask k).isSome=true->(aQ m'.ask k).isSome=true
theorem Grow.refl {B:Lv}:Grow B B:=⟨rfl,rfl,rfl,rfl,rfl,fun j m h=>⟨m,h,rfl,rfl,rfl,fun _ z=>z⟩⟩
theorem Grow.trans {A B C:Lv} (h:Grow A B) (k:Grow B C):Grow A C:=by
 refine ⟨k.x.trans h.x,k.dx.trans h.dx,k.tl.trans h.tl,k.al.trans h.al,k.kl.trans h.kl,fun j m e=>?_⟩;obtain ⟨m1,a1,a2,a3,a4,a5⟩:=h.ns j m e;obtain ⟨m2,b1,b2,b3,b4,b5⟩:=k.ns j m1 a1;exact ⟨m2,b1,b2.trans a2,b3.trans a3,b4.trans a4,fun k z=>b5 k (a5 k z)⟩
theorem Grow.add {B:Lv} {t:Th} {ta aa ka:Addr}:Grow B (B.add t ta aa ka):=⟨rfl,rfl,rfl,rfl,rfl,fun j m h=>⟨m,by
 show (B.ns++[_])[j]?=_;rw [List.getElem?_append_left (List.getElem?_eq_some_iff.mp h).1];exact h,rfl,rfl,rfl,fun _ z=>z⟩⟩
theorem Grow.setAsk {B:Lv} {i:Nat} {n:Nd} {k:Key} {v:V} (hi:B.ns[i]?=some n):Grow B (B.setAsk i n (bj n.ask k v)):=by
 refine ⟨rfl,rfl,rfl,rfl,rfl,fun j m h=>?_⟩;by_cases e:i=j
 · subst e;rw [hi] at h;cases h;refine ⟨{ n with ask:=bj n.ask k v },?_,rfl,rfl,rfl,fun k' z=>?_⟩
   · show (B.ns.set i _)[i]?=_;rw [List.getElem?_set_self (List.getElem?_eq_some_iff.mp hi).1]
   · show (aQ (bj n.ask k v) k').isSome=true;rw [de];split
     · rfl
     · exact z
 · refine ⟨m,?_,rfl,rfl,rfl,fun _ z=>z⟩;show (B.ns.set i _)[j]?=_;rw [List.getElem?_set_ne e];exact h
theorem Grow.dcts {B B':Lv} (h:Grow B B'):∀ b∈BB.dcts B.ns,b∈BB.dcts B'.ns:=fun b hb=>by
 obtain ⟨m,hm,hb⟩:=jJ hb;obtain ⟨j,hj⟩:=List.mem_iff_getElem?.mp hm;obtain ⟨m',h1,h2,h3,h4,_⟩:=h.ns j m hj;have mm:=List.mem_of_getElem? h1;rcases hb with rfl | rfl
 · rw [<- h3];exact cH mm
 · rw [<- h4];exact cz mm
def SpOk (sp:List (Key×V)) (t:Th) (ns:List Nd):Prop:=∀ kv∈sp,∃ (kid:Int) (j:Nat) (m:Nd),kv=(Sum.inl kid,.int (j:Nat))/\ns[j]?=some m/\0<=kid/\t.kids[kid.toNat]?=some m.t
theorem SpOk.mono {sp:List (Key×V)} {t:Th} {B B':Lv} (h:SpOk sp t B.ns) (g:Grow B B'):SpOk sp t B'.ns:=fun kv hkv=>by
 obtain ⟨kid,j,m,h1,h2,h3,h4⟩:=h kv hkv;obtain ⟨m',a1,a2,_⟩:=g.ns j m h2;exact ⟨kid,j,m',h1,a1,h3,by rw [a2];exact h4⟩
theorem SpOk.len {sp:List (Key×V)} {t:Th} {ns:List Nd} (h:SpOk sp t ns) (nd:(sp.map (·.1)).Nodup):sp.length<=t.kids.length:=by
 have:=cY (m:=(List.range t.kids.length).map fun i=>(Sum.inl ((i:Nat):Int):Key)) nd fun k hk=>by
  obtain ⟨kv,hkv,rfl⟩:=List.mem_map.mp hk;obtain ⟨kid,j,m,rfl,h2,h3,h4⟩:=h kv hkv;refine List.mem_map.mpr ⟨kid.toNat,List.mem_range.mpr (List.getElem?_eq_some_iff.mp h4).1,?_⟩;rw [Int.toNat_of_nonneg h3]
 rw [List.length_map,List.length_map,List.length_range] at this;exact this
def CDone (sp:List (Key×V)) (t:Th) (ns:List Nd) (c:Int×Int):Prop:=∃ (j:Nat) (m:Nd),aQ sp (Sum.inl c.2)=some (.int (j:Nat))/\ns[j]?=some m/\t.kids[c.2.toNat]?=some m.t/\(aQ m.ask (Sum.inl c.1)).isSome=true
theorem CDone.mono {sp sp':List (Key×V)} {t:Th} {B B':Lv} {c:Int×Int} (h:CDone sp t B.ns c) (g:Grow B B') (hs:∀ k v,aQ sp k=some v->aQ sp' k=some v):CDone sp' t B'.ns c:=by
 obtain ⟨j,m,h1,h2,h3,h4⟩:=h;obtain ⟨m',a1,a2,_,_,a5⟩:=g.ns j m h2;exact ⟨j,m',hs _ _ h1,a1,by rw [a2];exact h3,a5 _ h4⟩
def kU (p:Th) (kvs:List (List Key×V)):Prop:=(∀ kv∈kvs,∃ c∈ay (p.pl []),kv.1=ky c.2)/\∀ c∈ay (p.pl []),∃ kv∈kvs,kv.1=ky c.2
structure HandC (C:Addr) (H:Hp) (L:Lv) (i:Nat) (n:Nd) (B:Lv):Prop where
 lv:LvSh C H L
 hi:L.ns[i]?=some n
 bn:LvSh C H B
 dis:∀ b∈L.own,b∉B.own
def hS (n:Nd) (B:Lv):List Addr:=n.ka::B.tl::B.al::B.kl::dcts B.ns
structure HandI (C:Addr) (Dp:DP) (ins:List (Str×Int)) (rows:List (List Th)) (head:Th) (ok:Th->Prop) (H:Hp) (L:Lv) (i:Nat) (n:Nd) (B:Lv) (Hg:Hp) (B':Lv) (sp:List (Key×V)):Prop where
 ktd:KTD H Hg
 fr:FrB (hS n B) H Hg
 lv:LvSh C Hg (L.setSp i n sp)
 bn:LvSh C Hg B'
 gr:Grow B B'
 fresh:∀ b∈B'.own,b∈B.own∨H b=none
 good:∀ m∈B'.ns,GoodNd Dp ins rows head ok Hg m
 spk:SpOk sp n.t B'.ns
 spn:(sp.map (·.1)).Nodup
structure Fz2 (aa d:Addr) (o1 o2:Obj) (ask:List (Key×V)) (kvs:List (List Key×V)) (Hg H:Hp):Prop where
 eq:∀ b,b≠aa->b≠d->H b=Hg b
 fa:H aa=some (.frz o1 (.dK ask))
 fd:H d=some (.frz o2 (.dT kvs))
 ga:Hg aa=some (.dK ask)
 gd:Hg d=some (.dT kvs)
def thw (aa d:Addr) (Hg H:Hp):Hp:=fun b=>if b=aa∨b=d then Hg b else H b
theorem fg {aa d b:Addr} {Hg H:Hp} (h1:b≠aa) (h2:b≠d):thw aa d Hg H b=H b:=if_neg fun z=>z.elim h1 h2
theorem iq {aa d b:Addr} {Hg H:Hp} (h:b=aa∨b=d):thw aa d Hg H b=Hg b:=if_pos h
section
variable {C:Addr} {Dp:DP} {ins:List (Str×Int)} {rows:List (List Th)} {head:Th} {ok:Th->Prop} {H:Hp} {L:Lv} {i:Nat} {n:Nd} {B:Lv} {Hg:Hp} {B':Lv} {sp:List (Key×V)}
theorem HandC.start (c:HandC C H L i n B) (h0:n.sp=[]) (hg:∀ m∈B.ns,GoodNd Dp ins rows head ok H m):HandI C Dp ins rows head ok H L i n B H B []:=by
 refine ⟨KTD.refl,FrB.refl,?_,c.bn,Grow.refl,fun b hb=>.inl hb,hg,fun kv h=>(by cases h),List.nodup_nil⟩;refine c.lv.setSp c.hi (fun _ _ e=>e) (fun b _ _ o e=>e) ?_;rw [c.lv.sp n (List.mem_of_getElem? c.hi),h0]
theorem iw (hi:L.ns[i]?=some n) (sp:List (Key×V)):(L.setSp i n sp).own=L.own:=by
 unfold Lv.own;show L.x::L.tl::L.al::L.kl::dcts (L.ns.set i _)=_;rw [gW (b:={ n with sp:=sp }) hi rfl rfl]
theorem HandI.ka (c:HandC C H L i n B) (I:HandI C Dp ins rows head ok H L i n B Hg B' sp):Hg n.ka=some (.dK sp):=I.lv.sp { n with sp:=sp } (List.mem_of_getElem? (List.getElem?_set_self (List.getElem?_eq_some_iff.mp c.hi).1))
theorem HandI.aa (c:HandC C H L i n B) (I:HandI C Dp ins rows head ok H L i n B Hg B' sp):Hg n.aa=some (.dK n.ask):=I.lv.ak { n with sp:=sp } (List.mem_of_getElem? (List.getElem?_set_self (List.getElem?_eq_some_iff.mp c.hi).1))
theorem HandI.dis (c:HandC C H L i n B) (I:HandI C Dp ins rows head ok H L i n B Hg B' sp):∀ b∈L.own,b∉B'.own:=fun b hb z=>by
 rcases I.fresh b z with h | h
 · exact c.dis b hb h
 · obtain ⟨o,e,_⟩:=cg c.lv hb;rw [h] at e;cases e
theorem eF {L:Lv} {n:Nd} (h:n∈L.ns):n.aa∈L.own:=List.mem_cons_of_mem _ (List.mem_cons_of_mem _ (List.mem_cons_of_mem _ (List.mem_cons_of_mem _ (cH h))))
theorem km {L:Lv} {n:Nd} (h:n∈L.ns):n.ka∈L.own:=List.mem_cons_of_mem _ (List.mem_cons_of_mem _ (List.mem_cons_of_mem _ (List.mem_cons_of_mem _ (cz h))))
theorem cu {L:Lv}:∀ b∈[L.tl,L.al,L.kl],b∈L.own:=fun b hb=>by
 rcases List.mem_cons.mp hb with rfl | hb
 · exact List.mem_cons_of_mem _ (List.mem_cons_self ..)
 rcases List.mem_cons.mp hb with rfl | hb
 · exact List.mem_cons_of_mem _ (List.mem_cons_of_mem _ (List.mem_cons_self ..))
 · rw [List.mem_singleton.mp hb];exact List.mem_cons_of_mem _ (List.mem_cons_of_mem _ (List.mem_cons_of_mem _ (List.mem_cons_self ..)))
theorem HandI.new (c:HandC C H L i n B) (I:HandI C Dp ins rows head ok H L i n B Hg B' sp) {a:Addr} (h:Hg a=none):H a=none:=by
 cases e:H a with
 | none=>rfl
 | some o =>
   by_cases hs:a∈hS n B
   · rcases List.mem_cons.mp hs with rfl | hs
     · rw [I.ka c] at h;cases h
     · have ho:a∈B'.own:=by
        have e1:=I.gr.tl;have e2:=I.gr.al;have e3:=I.gr.kl;rcases List.mem_cons.mp hs with rfl | hs
        · exact cu _ (by rw [<- e1];exact List.mem_cons_self ..)
        rcases List.mem_cons.mp hs with rfl | hs
        · exact cu _ (by rw [<- e2];exact List.mem_cons_of_mem _ (List.mem_cons_self ..))
        rcases List.mem_cons.mp hs with rfl | hs
        · exact cu _ (by rw [<- e3];exact List.mem_cons_of_mem _ (List.mem_cons_of_mem _ (List.mem_cons_self ..)))
        · exact List.mem_cons_of_mem _ (List.mem_cons_of_mem _ (List.mem_cons_of_mem _ (List.mem_cons_of_mem _ (I.gr.dcts _ hs))))
       obtain ⟨o',e',_⟩:=cg I.bn ho;rw [h] at e';cases e'
   · rw [I.fr a o hs e] at h;cases h
theorem HandI.spot (c:HandC C H L i n B) (I:HandI C Dp ins rows head ok H L i n B Hg B' sp) {d:Addr} {o1 o2:Obj} {kvs:List (List Key×V)} {H4 H5:Hp} (z:Fz2 n.aa d o1 o2 n.ask kvs Hg H4) {B2:Lv} {h:Th} {pa:Addr} {j:Nat} {m:Nd} {kid:Int}
 (hB:LvSh C H5 B2) (hor:B2=B'∨∃ a k,H4 a=none/\H4 k=none/\B2=B'.add h pa a k) (hj:B2.ns[j]?=some m) (hm:m.t=h) (fr:FrB [B'.tl,B'.al,B'.kl] H4 H5) (hk:n.t.kids[kid.toNat]?=some h) (k0:0<=kid) (hno:aQ sp (Sum.inl kid)=none) (hok:ok h) :
 H5 n.ka=some (.dK sp)/\Fz2 n.aa d o1 o2 n.ask kvs (thw n.aa d Hg (upd H5 n.ka (.dK (bj sp (Sum.inl kid) (.int (j:Nat)))))) (upd H5 n.ka (.dK (bj sp (Sum.inl kid) (.int (j:Nat))))) ∧
  HandI C Dp ins rows head ok H L i n B (thw n.aa d Hg (upd H5 n.ka (.dK (bj sp (Sum.inl kid) (.int (j:Nat)))))) B2 (bj sp (Sum.inl kid) (.int (j:Nat))):=by
 have ni:=List.mem_of_getElem? c.hi;have oaa:=eF ni;have oka:=km ni;have eka:=I.ka c;have hak:n.aa≠n.ka:=gP c.lv.nd c.hi;have hkd:n.ka≠d:=aJ eka z.gd (fun z=>nomatch z);have had:n.aa≠d:=aJ z.ga z.gd (fun z=>nomatch z);have e4k:H4 n.ka=some (.dK sp):=(z.eq _ hak.symm hkd).trans eka;have nl:∀ b,b∈L.own->b∉[B'.tl,B'.al,B'.kl]:=fun b hb hz=>I.dis c b hb (cu b hz)
 have nd:d∉[B'.tl,B'.al,B'.kl]:=fun hz=>by
  obtain ⟨o,e,_,h2,_⟩:=cg I.bn (cu d hz);rw [z.gd] at e;exact h2 _ (Option.some.inj e).symm
 have e5k:H5 n.ka=some (.dK sp):=fr _ _ (nl _ oka) e4k;have e5a:=fr _ _ (nl _ oaa) z.fa;have e5d:=fr _ _ nd z.fd
 have g2:Grow B' B2:=by
  rcases hor with rfl | ⟨_,_,_,_,rfl⟩
  · exact Grow.refl
  · exact Grow.add
 have own2:∀ b∈B2.own,b∈B'.own∨Hg b=none:=fun b hb=>by
  rcases hor with rfl | ⟨a,k,ha,hk',rfl⟩
  · exact .inl hb
  · have non:∀ x,H4 x=none->Hg x=none:=fun x hx=>by
     rw [<- z.eq x (fun e=>by rw [e,z.fa] at hx;cases hx) (fun e=>by rw [e,z.fd] at hx;cases hx)];exact hx
    have hb':b∈B'.x::B'.tl::B'.al::B'.kl::dcts (B'.ns++[⟨h,pa,a,k,[],[]⟩]):=hb;rw [iX] at hb';have hb2:b∈B'.own++[a,k]:=by simpa [Lv.own,dcts] using hb'
    rcases List.mem_append.mp hb2 with h1 | h1
    · exact .inl h1
    · rcases List.mem_cons.mp h1 with rfl | h1
      · exact .inr (non _ ha)
      · rw [List.mem_singleton.mp h1];exact .inr (non _ hk')
 have dis2:∀ b∈L.own,b∉B2.own:=fun b hb hz=>by
  rcases own2 b hz with h1 | h1
  · exact I.dis c b hb h1
  · obtain ⟨o,e,_⟩:=cg I.lv (by rw [iw c.hi];exact hb);rw [h1] at e;cases e
 generalize hsp':bj sp (Sum.inl kid) (.int (j:Nat))=sp';generalize hH6:upd H5 n.ka (.dK sp')=H6;have e6k:H6 n.ka=some (.dK sp'):=by rw [<- hH6,ac]
 have e6:∀ b,b≠n.ka->H6 b=H5 b:=fun b hb=>by rw [<- hH6,ae hb]
 have e6a:=(e6 _ hak).trans e5a;have e6d:=(e6 _ hkd.symm).trans e5d
 have pass:∀ b o,Hg b=some o->b∉[B'.tl,B'.al,B'.kl]->b≠n.ka->thw n.aa d Hg H6 b=some o:=fun b o e hb hbk=>by
  by_cases hz:b=n.aa∨b=d
  · rw [iq hz];exact e
  · have h1:b≠n.aa:=fun y=>hz (.inl y);have h2:b≠d:=fun y=>hz (.inr y);rw [fg h1 h2,e6 b hbk];exact fr b o hb ((z.eq b h1 h2).trans e)
 have notl:∀ b o,Hg b=some o->((∃ xs,o=.tup xs)∨∃ k,o=.dT k)->b∉[B'.tl,B'.al,B'.kl]/\b≠n.ka:=fun b o e ho=>by
  refine ⟨fun hz=>?_,fun hz=>?_⟩
  · obtain ⟨o',e',h1,h2,_⟩:=cg I.bn (cu b hz);rw [e] at e';cases e';rcases ho with ⟨xs,rfl⟩ | ⟨k,rfl⟩
    · exact h1 _ rfl
    · exact h2 _ rfl
  · rw [hz,eka] at e;cases e;rcases ho with ⟨xs,z⟩ | ⟨k,z⟩ <;> cases z
 have ktd:KTD Hg (thw n.aa d Hg H6):=⟨fun b xs e=>by obtain ⟨h1,h2⟩:=notl b _ e (.inl ⟨xs,rfl⟩);exact pass b _ e h1 h2,fun b k e=>by obtain ⟨h1,h2⟩:=notl b _ e (.inr ⟨k,rfl⟩);exact pass b _ e h1 h2⟩;refine ⟨e5k,⟨fun b h1 h2=>(fg h1 h2).symm,e6a,e6d,(iq (.inl rfl)).trans z.ga,(iq (.inr rfl)).trans z.gd⟩,I.ktd.trans ktd,fun b o hb e=>?_,?_,?_,I.gr.trans g2,fun b hb=>?_,fun m' hm'=>?_,?_,?_⟩
 · refine pass b o (I.fr b o hb e) (fun hz=>hb ?_) (fun hz=>hb (by rw [hz];exact List.mem_cons_self ..));rw [I.gr.tl,I.gr.al,I.gr.kl] at hz;refine List.mem_cons_of_mem _ ?_;have:b∈[B.tl,B.al,B.kl]++dcts B.ns:=List.mem_append_left _ hz;exact this
 · have hi':(L.setSp i n sp).ns[i]?=some { n with sp:=sp }:=List.getElem?_set_self (List.getElem?_eq_some_iff.mp c.hi).1;have:=LvSh.setSp (sp:=sp') (H':=thw n.aa d Hg H6) I.lv hi' ktd.tup (fun b hb hne o e=>pass b o e (nl b (by rw [iw c.hi] at hb;exact hb)) hne) ((fg hak.symm hkd).trans e6k)
   have e:(L.setSp i n sp).setSp i { n with sp:=sp } sp'=L.setSp i n sp':=by
    unfold Lv.setSp;simp only [List.set_set]
   rw [e] at this;exact this
 · refine hB.keep (fun b xs e=>?_) (fun b hb o e=>?_)
   · have h1:b≠n.aa:=aJ e e5a (fun z=>nomatch z);have h2:b≠d:=aJ e e5d (fun z=>nomatch z);rw [fg h1 h2,e6 b (aJ e e5k (fun z=>nomatch z))];exact e
   · have h1:b≠n.aa:=fun y=>dis2 _ oaa (y ▸ hb);have h2:b≠n.ka:=fun y=>dis2 _ oka (y ▸ hb)
     have h3:b≠d:=fun y=>by
      obtain ⟨o',e',_,_,h3⟩:=cg hB hb;rw [y,e5d] at e';exact h3 _ _ (Option.some.inj e').symm
     rw [fg h1 h3,e6 b h2];exact e
 · rcases own2 b hb with h1 | h1
   · exact I.fresh b h1
   · exact .inr (I.new c h1)
 · rcases hor with rfl | ⟨a,k,_,_,rfl⟩
   · exact (I.good m' hm').mono ktd
   · rcases List.mem_append.mp hm' with h1 | h1
     · exact (I.good m' h1).mono ktd
     · rw [List.mem_singleton.mp h1];exact ⟨fun kv hkv=>(by cases hkv),List.nodup_nil,rfl,hok,fun kv hkv=>(by cases hkv)⟩
 · intro kv hkv;rw [<- hsp'] at hkv;rcases jV hkv with rfl | ⟨h1,_⟩
   · exact ⟨kid,j,m,rfl,hj,k0,by rw [hm];exact hk⟩
   · exact (I.spk.mono g2) kv h1
 · rw [<- hsp'];exact jY I.spn _ _
theorem HandI.ask (c:HandC C H L i n B) (I:HandI C Dp ins rows head ok H L i n B Hg B' sp) {d:Addr} {o1 o2:Obj} {kvs:List (List Key×V)} {H4 H7:Hp} (z:Fz2 n.aa d o1 o2 n.ask kvs Hg H4) (s7:L2.Same H4 H7) {j:Nat} {m:Nd} {s':Int} {p':Th} {da:Addr}
 (hj:B'.ns[j]?=some m) (hs0:0<=s') (pat:iM ins rows head s' m.t p') (dg:DgAt Dp Hg p' da) :
 H7 m.aa=some (.dK m.ask)/\Fz2 n.aa d o1 o2 n.ask kvs (thw n.aa d Hg (upd H7 m.aa (.dK (bj m.ask (Sum.inl s') (.ref da))))) (upd H7 m.aa (.dK (bj m.ask (Sum.inl s') (.ref da)))) ∧
  HandI C Dp ins rows head ok H L i n B (thw n.aa d Hg (upd H7 m.aa (.dK (bj m.ask (Sum.inl s') (.ref da))))) (B'.setAsk j m (bj m.ask (Sum.inl s') (.ref da))) sp:=by
 have ni:=List.mem_of_getElem? c.hi;have mj:=List.mem_of_getElem? hj;have oaa:=eF ni;have oka:=km ni;have oma:=eF mj;have egm:=I.bn.ak m mj;have hma:m.aa≠n.aa:=fun y=>I.dis c _ oaa (y ▸ oma);have hmk:m.aa≠n.ka:=fun y=>I.dis c _ oka (y ▸ oma);have hmd:m.aa≠d:=aJ egm z.gd (fun z=>nomatch z);have e7m:H7 m.aa=some (.dK m.ask):=s7 _ _ ((z.eq _ hma hmd).trans egm);have e7a:=s7 _ _ z.fa;have e7d:=s7 _ _ z.fd;have g2:Grow B' (B'.setAsk j m (bj m.ask (Sum.inl s') (.ref da))):=Grow.setAsk hj;generalize hk':bj m.ask (Sum.inl s') (.ref da)=ask' at g2 ⊢;generalize hH8:upd H7 m.aa (.dK ask')=H8;have e8m:H8 m.aa=some (.dK ask'):=by rw [<- hH8,ac]
 have e8:∀ b,b≠m.aa->H8 b=H7 b:=fun b hb=>by rw [<- hH8,ae hb]
 have e8a:=(e8 _ hma.symm).trans e7a;have e8d:=(e8 _ hmd.symm).trans e7d
 have pass:∀ b o,Hg b=some o->b≠m.aa->thw n.aa d Hg H8 b=some o:=fun b o e hb=>by
  by_cases hz:b=n.aa∨b=d
  · rw [iq hz];exact e
  · have h1:b≠n.aa:=fun y=>hz (.inl y);have h2:b≠d:=fun y=>hz (.inr y);rw [fg h1 h2,e8 b hb];exact s7 b o ((z.eq b h1 h2).trans e)
 have ktd:KTD Hg (thw n.aa d Hg H8):=⟨fun b xs e=>pass b _ e (aJ e egm (fun z=>nomatch z)),fun b k e=>pass b _ e (aJ e egm (fun z=>nomatch z))⟩
 have own2:(B'.setAsk j m ask').own=B'.own:=by
  unfold Lv.own;show B'.x::B'.tl::B'.al::B'.kl::dcts (B'.ns.set j _)=_;rw [gW (b:={ m with ask:=ask' }) hj rfl rfl]
 refine ⟨e7m,⟨fun b h1 h2=>(fg h1 h2).symm,e8a,e8d,(iq (.inl rfl)).trans z.ga,(iq (.inr rfl)).trans z.gd⟩,I.ktd.trans ktd,fun b o hb e=>?_,?_,?_,I.gr.trans g2,fun b hb=>I.fresh b (by rw [own2] at hb;exact hb),fun m' hm'=>?_,I.spk.mono g2,I.spn⟩
 · by_cases hbm:b=m.aa
   · rcases I.fresh b (by rw [hbm];exact oma) with h1 | h1
     · exfalso;apply hb;rcases List.mem_cons.mp h1 with h2 | h2
       · obtain ⟨o',e',_⟩:=cg c.bn h1;rw [h2] at hbm;have e1:=I.bn.ins;rw [I.gr.x,hbm,egm] at e1;cases e1
       · exact List.mem_cons_of_mem _ h2
     · rw [h1] at e;cases e
   · exact pass b o (I.fr b o hb e) hbm
 · refine I.lv.keep ktd.tup (fun b hb o e=>pass b o e (fun y=>?_));rw [iw c.hi] at hb;exact I.dis c b hb (y ▸ oma)
 · exact I.bn.setAsk hj ktd.tup (fun b hb hne o e=>pass b o e hne) ((fg hma hmd).trans e8m)
 · rcases eg hm' with rfl | ⟨j',hj',hm2⟩
   · have g:=I.good m mj;refine ⟨fun kv hkv=>?_,?_,g.sp,g.ok,fun kv hkv=>?_⟩
     · have hkv':kv∈ask':=hkv;rw [<- hk'] at hkv';rcases jV hkv' with rfl | ⟨h1,_⟩
       · exact ⟨s',p',da,rfl,rfl,pat,dg.mono ktd⟩
       · exact (g.ask.mono ktd) kv h1
     · show (ask'.map _).Nodup;rw [<- hk'];exact jY g.nd _ _
     · have hkv':kv∈ask':=hkv;rw [<- hk'] at hkv';rcases jV hkv' with rfl | ⟨h1,_⟩
       · exact ⟨s',rfl,hs0⟩
       · exact g.pos kv h1
   · exact (I.good m' (List.mem_of_getElem? hm2)).mono ktd
end
end BB
namespace BB
open PySem L2
theorem Ats.get' {H:Hp} {ts:List Th} {as:List Addr} (h:Ats H ts as) {i:Nat} {t:Th} (hi:ts[i]?=some t):∃ a,as[i]?=some a/\At H t a:=by
 have hl:=h.length;have hlt:=(List.getElem?_eq_some_iff.mp hi).1;obtain ⟨a,ha⟩:∃ a,as[i]?=some a:=⟨_,List.getElem?_eq_getElem (by omega)⟩;obtain ⟨t',ht,hA⟩:=h.get ha;rw [hi] at ht;cases ht;exact ⟨a,ha,hA⟩
end BB
namespace BB
open PySem L2
def EDone (Dp:DP) (ins:List (Str×Int)) (rows:List (List Th)) (head:Th) (H:Hp) (t:Th) (sp:List (Key×V)) (ns:List Nd) (kv:Key×V):Prop:=∃ s p da,AskE Dp ins rows head H t kv s p da/\∀ c∈ay (p.pl []),CDone sp t ns c.2
theorem EDone.grow {Dp:DP} {ins:List (Str×Int)} {rows:List (List Th)} {head:Th} {H:Hp} {t:Th} {sp sp':List (Key×V)} {B B':Lv} {kv:Key×V} (h:EDone Dp ins rows head H t sp B.ns kv) (g:Grow B B') (hs:∀ k v,aQ sp k=some v->aQ sp' k=some v):EDone Dp ins rows head H t sp' B'.ns kv:=by
 obtain ⟨s,p,da,h1,h2⟩:=h;exact ⟨s,p,da,h1,fun c hc=>(h2 c hc).mono g hs⟩
end BB
namespace BB
open PySem L2
theorem EDone.mono {Dp:DP} {ins:List (Str×Int)} {rows:List (List Th)} {head:Th} {H H':Hp} {t:Th} {sp:List (Key×V)} {ns:List Nd} {kv:Key×V} (h:EDone Dp ins rows head H t sp ns kv) (k:KTD H H'):EDone Dp ins rows head H' t sp ns kv:=by
 obtain ⟨s,p,da,h1,h2⟩:=h;exact ⟨s,p,da,h1.mono k,h2⟩
structure LvCl (Dp:DP) (ins:List (Str×Int)) (rows:List (List Th)) (head:Th) (H:Hp) (L:Lv) (ns':List Nd):Prop where
 ed:∀ n∈L.ns,∀ kv∈n.ask,EDone Dp ins rows head H n.t n.sp ns' kv
 sp:∀ n∈L.ns,SpOk n.sp n.t ns'
 an:∀ n∈L.ns,(n.ask.map (·.1)).Nodup
 sn:∀ n∈L.ns,(n.sp.map (·.1)).Nodup
 kd:∀ n∈L.ns,n.t.kids.length<=100
 ln:L.ns.length<=50000
theorem LvCl.mono {Dp:DP} {ins:List (Str×Int)} {rows:List (List Th)} {head:Th} {H H':Hp} {L:Lv} {ns':List Nd} (h:LvCl Dp ins rows head H L ns') (k:KTD H H'):LvCl Dp ins rows head H' L ns':=⟨fun n hn kv hkv=>(h.ed n hn kv hkv).mono k,h.sp,h.an,h.sn,h.kd,h.ln⟩
theorem LvCl.grow {Dp:DP} {ins:List (Str×Int)} {rows:List (List Th)} {head:Th} {H:Hp} {L B B':Lv} (h:LvCl Dp ins rows head H L B.ns) (g:Grow B B'):LvCl Dp ins rows head H L B'.ns:=⟨fun n hn kv hkv=>(h.ed n hn kv hkv).grow g (fun _ _ z=>z),fun n hn=>(h.sp n hn).mono g,h.an,h.sn,h.kd,h.ln⟩
def nxt (Ls:List Lv) (k:Nat) (e:List Nd):List Nd:=match Ls[k]? with
 | some L=>L.ns
 | none=>e
structure Okd (W:List Th) (ins:List (Str×Int)) (d:Nat) (h:Th):Prop where
 tall:h.tall<=d
 mem:h∈W
 fit:h.Fit ins
structure NdReady (Dp:DP) (ins:List (Str×Int)) (rows:List (List Th)) (head:Th) (W:List Th) (H:Hp) (d:Nat) (n:Nd):Prop where
 sp:n.sp=[]
 nd:(n.ask.map (·.1)).Nodup
 ask:∀ kv∈n.ask,∃ s p da,AskE Dp ins rows head H n.t kv s p da/\∀ c∈ay (p.pl []),∃ p' h,Step ins rows c.2.1 c.2.2 n.t.kids p' h/\Okd W ins (d - 1) h
 knot:∃ nm ks,n.t=.knot nm ks
 kids:n.t.kids.length<=100
 tall:n.t.tall<=d
theorem NdReady.mono {Dp:DP} {ins:List (Str×Int)} {rows:List (List Th)} {head:Th} {W:List Th} {H H':Hp} {d:Nat} {n:Nd} (h:NdReady Dp ins rows head W H d n) (k:KTD H H'):NdReady Dp ins rows head W H' d n:=⟨h.sp,h.nd,fun kv hkv=>by
 obtain ⟨s,p,da,h1,h2⟩:=h.ask kv hkv;exact ⟨s,p,da,h1.mono k,h2⟩,h.knot,h.kids,h.tall⟩
structure SpUp (L L':Lv):Prop where
 x:L'.x=L.x
 dx:L'.dx=L.dx
 tl:L'.tl=L.tl
 al:L'.al=L.al
 kl:L'.kl=L.kl
 ns:∀ j:Nat,(L'.ns[j]?=none/\L.ns[j]?=none)∨∃ n sp,L.ns[j]?=some n/\L'.ns[j]?=some { n with sp:=sp }
theorem SpUp.refl {L:Lv}:SpUp L L:=⟨rfl,rfl,rfl,rfl,rfl,fun j=>by
 cases h:L.ns[j]? with
 | none=>exact .inl ⟨rfl,rfl⟩
 | some n=>exact .inr ⟨n,n.sp,rfl,rfl⟩⟩
theorem SpUp.set {L L':Lv} (h:SpUp L L') {i:Nat} {n:Nd} (hi:L'.ns[i]?=some n) (sp:List (Key×V)):SpUp L (L'.setSp i n sp):=by
 refine ⟨h.x,h.dx,h.tl,h.al,h.kl,fun j=>?_⟩;by_cases e:i=j
 · subst e;rcases h.ns i with ⟨h1,_⟩ | ⟨m,sp1,h1,h2⟩
   · rw [hi] at h1;cases h1
   · rw [hi] at h2;cases h2;exact .inr ⟨m,sp,h1,List.getElem?_set_self (List.getElem?_eq_some_iff.mp hi).1⟩
 · have e2:(L'.setSp i n sp).ns[j]?=L'.ns[j]?:=List.getElem?_set_ne e;rw [e2];exact h.ns j
theorem SpUp.grow {L L':Lv} (h:SpUp L L'):Grow L L':=by
 refine ⟨h.x,h.dx,h.tl,h.al,h.kl,fun j m hj=>?_⟩;rcases h.ns j with ⟨_,h1⟩ | ⟨n,sp,h1,h2⟩
 · rw [hj] at h1;cases h1
 · rw [hj] at h1;cases h1;exact ⟨_,h2,rfl,rfl,rfl,fun _ z=>z⟩
theorem SpUp.len {L L':Lv} (h:SpUp L L'):L'.ns.length=L.ns.length:=by
 apply Nat.le_antisymm
 · rcases h.ns L.ns.length with ⟨h1,_⟩ | ⟨n,sp,h1,_⟩
   · exact List.getElem?_eq_none_iff.mp h1
   · have:=(List.getElem?_eq_some_iff.mp h1).1;omega
 · rcases h.ns L'.ns.length with ⟨_,h1⟩ | ⟨n,sp,_,h1⟩
   · exact List.getElem?_eq_none_iff.mp h1
   · have:=(List.getElem?_eq_some_iff.mp h1).1;omega
theorem SpUp.dcts {L L':Lv} (h:SpUp L L'):BB.dcts L'.ns=BB.dcts L.ns:=by
 unfold BB.dcts;rw [List.flatMap_def,List.flatMap_def];congr 1;refine List.ext_getElem? fun j=>?_;rw [List.getElem?_map,List.getElem?_map];rcases h.ns j with ⟨h1,h2⟩ | ⟨n,sp,h1,h2⟩
 · rw [h1,h2]
 · rw [h1,h2];rfl
theorem SpUp.own {L L':Lv} (h:SpUp L L'):L'.own=L.own:=by
 unfold Lv.own;rw [h.x,h.tl,h.al,h.kl,h.dcts]
structure RunI (C:Addr) (Dp:DP) (ins:List (Str×Int)) (rows:List (List Th)) (head:Th) (ok:Th->Prop) (H0:Hp) (L B:Lv) (i:Nat) (H:Hp) (L' B':Lv):Prop where
 ktd:KTD H0 H
 fr:FrB (dcts L.ns++B.own) H0 H
 lv:LvSh C H L'
 up:SpUp L L'
 bn:LvSh C H B'
 gr:Grow B B'
 fresh:∀ b∈B'.own,b∈B.own∨H0 b=none
 good:∀ m∈B'.ns,GoodNd Dp ins rows head ok H m
 done:∀ (j:Nat) (n:Nd),j<i->L'.ns[j]?=some n->(∀ kv∈n.ask,EDone Dp ins rows head H n.t n.sp B'.ns kv)/\SpOk n.sp n.t B'.ns/\(n.sp.map (·.1)).Nodup
 todo:∀ j,i<=j->L'.ns[j]?=L.ns[j]?
section
variable {C:Addr} {Dp:DP} {ins:List (Str×Int)} {rows:List (List Th)} {head:Th} {ok:Th->Prop} {H0:Hp} {L B:Lv} {i:Nat} {H:Hp} {L' B':Lv}
theorem RunI.start (hL:LvSh C H0 L) (hB:LvSh C H0 B) (h0:B.ns=[]):RunI C Dp ins rows head ok H0 L B 0 H0 L B :=
 ⟨KTD.refl,FrB.refl,hL,SpUp.refl,hB,Grow.refl,fun b hb=>.inl hb,fun m hm=>(by rw [h0] at hm;cases hm),fun j n h=>(by cases h),fun j _=>rfl⟩
theorem RunI.handC (R:RunI C Dp ins rows head ok H0 L B i H L' B') (hL:LvSh C H0 L) (dis:∀ b∈L.own,b∉B.own) {n:Nd} (hi:L'.ns[i]?=some n):HandC C H L' i n B':=by
 refine ⟨R.lv,hi,R.bn,fun b hb hz=>?_⟩;rw [R.up.own] at hb;rcases R.fresh b hz with h | h
 · exact dis b hb h
 · obtain ⟨o,e,_⟩:=cg hL hb;rw [h] at e;cases e
theorem RunI.step (R:RunI C Dp ins rows head ok H0 L B i H L' B') {n:Nd} (hi:L'.ns[i]?=some n) {H2:Hp} {B2:Lv} {sp:List (Key×V)} (I:HandI C Dp ins rows head ok H L' i n B' H2 B2 sp) (hd:∀ kv∈n.ask,EDone Dp ins rows head H n.t sp B2.ns kv):RunI C Dp ins rows head ok H0 L B (i+1) H2 (L'.setSp i n sp) B2:=by
 refine ⟨R.ktd.trans I.ktd,fun b o hb e=>I.fr b o (fun hz=>hb ?_) (R.fr b o hb e),I.lv,R.up.set hi sp,I.bn,R.gr.trans I.gr,fun b hb=>?_,I.good,fun j m hj hm=>?_,fun j hj=>?_⟩
 · rcases List.mem_cons.mp hz with rfl | hz
   · refine List.mem_append_left _ ?_;rw [<- R.up.dcts];exact cz (List.mem_of_getElem? hi)
   · have hz2:b∈B'.own:=List.mem_cons_of_mem _ hz;rcases R.fresh b hz2 with h | h
     · exact List.mem_append_right _ h
     · rw [h] at e;cases e
 · rcases I.fresh b hb with h | h
   · exact R.fresh b h
   · refine .inr ?_;cases e:H0 b with
     | none=>rfl
     | some o =>
       by_cases hs:b∈dcts L.ns++B.own
       · rcases List.mem_append.mp hs with hs | hs
         · rw [<- R.up.dcts] at hs;obtain ⟨o',e',_⟩:=cg R.lv (List.mem_cons_of_mem _ (List.mem_cons_of_mem _ (List.mem_cons_of_mem _ (List.mem_cons_of_mem _ hs))));rw [h] at e';cases e'
         · have:b∈B'.own:=by
            rcases List.mem_cons.mp hs with rfl | hs
            · rw [<- R.gr.x];exact List.mem_cons_self ..
            · rw [show B.tl::B.al::B.kl::dcts B.ns=[B.tl,B.al,B.kl]++dcts B.ns from rfl] at hs;rcases List.mem_append.mp hs with hs | hs
              · rw [<- R.gr.tl,<- R.gr.al,<- R.gr.kl] at hs;exact cu b hs
              · exact List.mem_cons_of_mem _ (List.mem_cons_of_mem _ (List.mem_cons_of_mem _ (List.mem_cons_of_mem _ (R.gr.dcts _ hs))))
           obtain ⟨o',e',_⟩:=cg R.bn this;rw [h] at e';cases e'
       · rw [R.fr b o hs e] at h;cases h
 · by_cases e:i=j
   · subst e;have hm':(L'.setSp i n sp).ns[i]?=some { n with sp:=sp }:=List.getElem?_set_self (List.getElem?_eq_some_iff.mp hi).1;rw [hm'] at hm;cases hm;exact ⟨fun kv hkv=>(hd kv hkv).mono I.ktd,I.spk,I.spn⟩
   · have e2:(L'.setSp i n sp).ns[j]?=L'.ns[j]?:=List.getElem?_set_ne e;rw [e2] at hm;obtain ⟨h1,h2,h3⟩:=R.done j m (by omega) hm;exact ⟨fun kv hkv=>((h1 kv hkv).grow I.gr (fun _ _ z=>z)).mono I.ktd,h2.mono I.gr,h3⟩
 · have e2:(L'.setSp i n sp).ns[j]?=L'.ns[j]?:=List.getElem?_set_ne (by omega);rw [e2];exact R.todo j (by omega)
theorem RunI.closed (R:RunI C Dp ins rows head ok H0 L B L.ns.length H L' B') (hr:∀ n∈L.ns,(n.ask.map (·.1)).Nodup) (hk:∀ n∈L.ns,n.t.kids.length<=100) (hl:L.ns.length<=50000):LvCl Dp ins rows head H L' B'.ns:=by
 have at':∀ n∈L'.ns,∃ j,j<L.ns.length/\L'.ns[j]?=some n:=fun n hn=>by
  obtain ⟨j,hj⟩:=List.mem_iff_getElem?.mp hn;have:=(List.getElem?_eq_some_iff.mp hj).1;rw [R.up.len] at this;exact ⟨j,this,hj⟩
 refine ⟨fun n hn=>?_,fun n hn=>?_,fun n hn=>?_,fun n hn=>?_,fun n hn=>?_,by rw [R.up.len];exact hl⟩
 · obtain ⟨j,h1,h2⟩:=at' n hn;exact (R.done j n h1 h2).1
 · obtain ⟨j,h1,h2⟩:=at' n hn;exact (R.done j n h1 h2).2.1
 · obtain ⟨j,h1,h2⟩:=at' n hn;rcases R.up.ns j with ⟨h3,_⟩ | ⟨m,sp,h3,h4⟩
   · rw [h2] at h3;cases h3
   · rw [h2] at h4;cases h4;exact hr m (List.mem_of_getElem? h3)
 · obtain ⟨j,h1,h2⟩:=at' n hn;exact (R.done j n h1 h2).2.2
 · obtain ⟨j,h1,h2⟩:=at' n hn;rcases R.up.ns j with ⟨h3,_⟩ | ⟨m,sp,h3,h4⟩
   · rw [h2] at h3;cases h3
   · rw [h2] at h4;cases h4;exact hk m (List.mem_of_getElem? h3)
end
structure tV (C:Addr) (Dp:DP) (ins:List (Str×Int)) (rows:List (List Th)) (head:Th) (H:Hp) (Ls:List Lv) (e:List Nd):Prop where
 sh:∀ L∈Ls,LvSh C H L
 cl:∀ (k:Nat) (L:Lv),Ls[k]?=some L->LvCl Dp ins rows head H L (nxt Ls (k+1) e)
end BB
namespace BB
open PySem L2
theorem pE {C x dx tl al kl:Addr} {H H1:Hp} (hx:H x=none) (hdx:H dx=none) (hne:dx≠x) (sb:SameB x (upd (upd H dx (.own x)) x (.ins C dx [])) H1) (htl:(upd (upd H dx (.own x)) x (.ins C dx [])) tl=none) (hal:(upd (upd H dx (.own x)) x (.ins C dx [])) al=none) (hkl:(upd (upd H dx (.own x)) x (.ins C dx [])) kl=none) (n1:tl≠al) (n2:tl≠kl) (n3:al≠kl)
 (ex:H1 x=some (.ins C dx (lvF tl al kl))) (e1:H1 tl=some (.lst [])) (e2:H1 al=some (.lst [])) (e3:H1 kl=some (.lst [])):L2.Same H H1/\LvSh C H1 ⟨x,dx,tl,al,kl,[]⟩/\∀ b∈(Lv.mk x dx tl al kl []).own,H b=none:=by
 have no:∀ b,(upd (upd H dx (.own x)) x (.ins C dx [])) b=none->H b=none:=fun b h=>by
  by_cases z:b=x
  · rw [z];exact hx
  · rw [ae z] at h;by_cases z2:b=dx
    · rw [z2];exact hdx
    · rw [ae z2] at h;exact h
 refine ⟨fun b o e=>sb b o (au e hx) (by rw [ae (au e hx),ae (au e hdx)];exact e),⟨ex,e1,e2,e3,fun n hn=>(by cases hn),fun n hn=>(by cases hn),fun n hn=>(by cases hn),n1,n2,n3,List.nodup_nil,List.nodup_nil⟩,fun b hb=>?_⟩;have hb':b=x∨b=tl∨b=al∨b=kl:=by simpa [Lv.own,dcts] using hb
 rcases hb' with rfl | rfl | rfl | rfl
 · exact hx
 · exact no _ htl
 · exact no _ hal
 · exact no _ hkl
def qB (t:Th) (Ls:List Lv):Prop:=∃ L0 n0,Ls[0]?=some L0/\L0.ns=[n0]/\n0.t=.knot Str.empty [t]/\(aQ n0.ask (Sum.inl (-1))).isSome=true
structure il (ins:List (Str×Int)) (rows:List (List Th)) (head:Th) (W:List Th):Prop where
 wk:∀ u∈W,∀ k∈u.kids,k∈W
 wl:W.length<=40000
 rl:rows.length<=100
 kids:∀ u:Th,u.Fit ins->u.kids.length<=100
 knot:∀ u:Th,u.Fit ins->∃ nm ks,u=.knot nm ks
 fit:∀ u:Th,u.Fit ins->∀ k∈u.kids,k.Fit ins
 step:∀ (u:Th) (s:Int) (p:Th),u.Fit ins->0<=s->iM ins rows head s u p->∀ c∈ay (p.pl []),∃ p' h,Step ins rows c.2.1 c.2.2 u.kids p' h
structure LoopI (C:Addr) (Dp:DP) (ins:List (Str×Int)) (rows:List (List Th)) (head:Th) (W:List Th) (t:Th) (H:Hp) (lv:Addr) (mz:Nat) (H4:Hp) (Ls:List Lv) (L:Lv):Prop where
 same:L2.Same H H4
 ls:H4 lv=some (.lst (Ls.map fun L=>V.ref L.x))
 ch:tV C Dp ins rows head H4 Ls L.ns
 cur:LvSh C H4 L
 rd:∀ n∈L.ns,NdReady Dp ins rows head W H4 mz n
 dis:∀ M∈Ls,∀ b∈M.own,b∉L.own
 lvn:lv∉L.own/\∀ M∈Ls,lv∉M.own
 new:H lv=none/\(∀ b∈L.own,H b=none)/\∀ M∈Ls,∀ b∈M.own,H b=none
 top:qB t (Ls++[L])
 len:Ls.length+mz<=140
 cnt:L.ns.length<=50000
theorem GoodNd.ready {Dp:DP} {ins:List (Str×Int)} {rows:List (List Th)} {head:Th} {W:List Th} {H:Hp} {d:Nat} {m:Nd} (T:il ins rows head W) (g:GoodNd Dp ins rows head (Okd W ins d) H m):NdReady Dp ins rows head W H d m:=by
 obtain ⟨nm,ks,hk⟩:=T.knot _ g.ok.fit;refine ⟨g.sp,g.nd,fun kv hkv=>?_,⟨nm,ks,hk⟩,T.kids _ g.ok.fit,g.ok.tall⟩;obtain ⟨s,p,da,hE⟩:=g.ask kv hkv
 have s0:0<=s:=by
  obtain ⟨s',h1,h2⟩:=g.pos kv hkv;have:s=s':=Sum.inl.inj (hE.k.symm.trans h1);omega
 refine ⟨s,p,da,hE,fun c hc=>?_⟩;obtain ⟨p',h,st⟩:=T.step _ s p g.ok.fit s0 hE.pat c hc;have hm:h∈m.t.kids:=List.mem_of_getElem? st.2.2.1;refine ⟨p',h,st,?_,T.wk _ g.ok.mem _ hm,T.fit _ g.ok.fit _ hm⟩;have h1:=cL hm;have h2:=Th.tall_eq m.t;have h3:=g.ok.tall;omega
theorem LoopI.step {C:Addr} {Dp:DP} {ins:List (Str×Int)} {rows:List (List Th)} {head:Th} {W:List Th} {t:Th} {H:Hp} {lv:Addr} {mz:Nat} {H4:Hp} {Ls:List Lv} {L:Lv} (I:LoopI C Dp ins rows head W t H lv mz H4 Ls L) (T:il ins rows head W) (hne:L.ns≠[]) {H6 H7:Hp} {B L' B':Lv}
 (s6:L2.Same (upd H4 lv (.lst ((Ls.map fun L=>V.ref L.x)++[.ref L.x]))) H6) (hB0:∀ b∈B.own,(upd H4 lv (.lst ((Ls.map fun L=>V.ref L.x)++[.ref L.x]))) b=none)
 (R:RunI C Dp ins rows head (Okd W ins (mz - 1)) H6 L B L.ns.length H7 L' B'):mz - 1<mz/\LoopI C Dp ins rows head W t H lv (mz - 1) H7 (Ls++[L']) B':=by
 have mz1:1<=mz:=by
  cases hL:L.ns with
  | nil=>exact absurd hL hne
  | cons n ns =>
    have h1:=(I.rd n (by rw [hL];exact List.mem_cons_self ..)).tall;have h2:=Th.tall_eq n.t;omega
 obtain ⟨l1,l2⟩:=I.lvn;obtain ⟨w1,w2,w3⟩:=I.new;generalize hH5:upd H4 lv (.lst ((Ls.map fun L=>V.ref L.x)++[.ref L.x]))=H5 at s6 hB0;have e5:∀ b,b≠lv->H5 b=H4 b:=fun b hb=>by rw [<- hH5,ae hb]
 have e5l:H5 lv=some (.lst ((Ls.map fun L=>V.ref L.x)++[.ref L.x])):=by rw [<- hH5,ac]
 have dL:∀ b∈dcts L.ns,b∈L.own:=fun b hb=>List.mem_cons_of_mem _ (List.mem_cons_of_mem _ (List.mem_cons_of_mem _ (List.mem_cons_of_mem _ hb)))
 -- what is not of the level,and not the list,stays
 have keep:∀ b o,H4 b=some o->b≠lv->b∉L.own->H7 b=some o:=fun b o e hb hL=>by
  have e5b:=(e5 b hb).trans e;refine R.fr b o (fun z=>?_) (s6 _ _ e5b);rcases List.mem_append.mp z with z | z
  · exact hL (dL b z)
  · rw [hB0 b z] at e5b;cases e5b
 have ktd:KTD H4 H7:=by
  have a:KTD H4 H5:=⟨fun b xs e=>(e5 b (aJ e I.ls (fun z=>nomatch z))).trans e,fun b xs e=>(e5 b (aJ e I.ls (fun z=>nomatch z))).trans e⟩;exact (a.trans (KTD.of s6)).trans R.ktd
 have some4:∀ b∈L.own,∃ o,H6 b=some o:=fun b hb=>by
  obtain ⟨o,e,_⟩:=cg I.cur hb;exact ⟨o,s6 _ _ ((e5 b (fun z=>l1 (z ▸ hb))).trans e)⟩
 have someM:∀ M∈Ls,∀ b∈M.own,∃ o,H6 b=some o/\H5 b=some o:=fun M hM b hb=>by
  obtain ⟨o,e,_⟩:=cg (I.ch.sh M hM) hb;have:=(e5 b (fun z=>l2 M hM (z ▸ hb))).trans e;exact ⟨o,s6 _ _ this,this⟩
 have hlen:(Ls++[L']).length=Ls.length+1:=by rw [List.length_append];rfl
 refine ⟨by omega,fun b o e=>keep b o (I.same b o e) (au e w1) (fun z=>by rw [w2 b z] at e;cases e),?_,⟨fun M hM=>?_,fun k M hk=>?_⟩,R.bn,fun m hm=>(R.good m hm).ready T,fun M hM b hb hz=>?_,⟨fun hz=>?_,fun M hM=>?_⟩,⟨w1,fun b hb=>?_,fun M hM b hb=>?_⟩,?_,by rw [hlen];have:=I.len;omega,?_⟩
 · refine (R.fr _ _ (fun z=>?_) (s6 _ _ e5l)).trans ?_
   · rcases List.mem_append.mp z with z | z
     · exact l1 (dL _ z)
     · rw [hB0 _ z] at e5l;cases e5l
   · rw [List.map_append,List.map_cons,List.map_nil,R.up.x]
 · rcases List.mem_append.mp hM with hM | hM
   · exact (I.ch.sh M hM).keep ktd.tup fun b hb o e=>keep b o e (fun z=>l2 M hM (z ▸ hb)) (I.dis M hM b hb)
   · rw [List.mem_singleton.mp hM];exact R.lv
 · by_cases hkl:k<Ls.length
   · rw [List.getElem?_append_left hkl] at hk;have h0:=(I.ch.cl k M hk).mono ktd;unfold nxt at h0 ⊢;by_cases hk1:k+1<Ls.length
     · rw [List.getElem?_append_left hk1];rw [List.getElem?_eq_getElem hk1] at h0 ⊢;exact h0
     · have e1:Ls[k+1]?=none:=List.getElem?_eq_none (by omega);rw [e1] at h0;rw [List.getElem?_append_right (by omega),show k+1 - Ls.length=0 by omega];exact h0.grow R.up.grow
   · have hk2:=(List.getElem?_eq_some_iff.mp hk).1;have e1:k=Ls.length:=by omega
     subst e1;rw [List.getElem?_append_right (Nat.le_refl _),Nat.sub_self] at hk;have hk3:L'=M:=Option.some.inj hk;rw [<- hk3];unfold nxt;rw [List.getElem?_eq_none (by omega)];exact R.closed (fun n hn=>(I.rd n hn).nd) (fun n hn=>(I.rd n hn).kids) I.cnt
 · rcases List.mem_append.mp hM with hM | hM
   · obtain ⟨o,h6,h5⟩:=someM M hM b hb;rcases R.fresh b hz with z | z
     · rw [hB0 b z] at h5;cases h5
     · rw [z] at h6;cases h6
   · rw [List.mem_singleton.mp hM,R.up.own] at hb;obtain ⟨o,h6⟩:=some4 b hb;rcases R.fresh b hz with z | z
     · have:=hB0 b z;obtain ⟨o',e',_⟩:=cg I.cur hb;rw [e5 b (fun z=>l1 (z ▸ hb)),e'] at this;cases this
     · rw [z] at h6;cases h6
 · rcases R.fresh _ hz with z | z
   · rw [hB0 _ z] at e5l;cases e5l
   · rw [s6 _ _ e5l] at z;cases z
 · rcases List.mem_append.mp hM with hM | hM
   · exact l2 M hM
   · rw [List.mem_singleton.mp hM,R.up.own];exact l1
 · cases e:H b with
   | none=>rfl
   | some o =>
     have h5:=(e5 b (au e w1)).trans (I.same b o e);rcases R.fresh b hb with z | z
     · rw [hB0 b z] at h5;cases h5
     · rw [s6 _ _ h5] at z;cases z
 · rcases List.mem_append.mp hM with hM | hM
   · exact w3 M hM b hb
   · rw [List.mem_singleton.mp hM,R.up.own] at hb;exact w2 b hb
 · obtain ⟨L0,n0,h1,h2,h3,h4⟩:=I.top;cases Ls with
   | cons M Ms=>exact ⟨L0,n0,h1,h2,h3,h4⟩
   | nil =>
     have hL0:L=L0:=Option.some.inj h1;subst hL0;have hl:=R.up.len;rw [h2] at hl;rcases R.up.ns 0 with ⟨_,z⟩ | ⟨n,sp,z1,z2⟩
     · rw [h2] at z;cases z
     · rw [h2] at z1;have hn:n0=n:=Option.some.inj z1;subst hn;refine ⟨L',{ n0 with sp:=sp },rfl,?_,h3,h4⟩;cases hns:L'.ns with
       | nil=>rw [hns] at hl;cases hl
       | cons a as =>
         rw [hns] at z2 hl;have ha:a={ n0 with sp:=sp }:=Option.some.inj z2;cases as with
         | nil=>rw [ha]
         | cons b bs=>simp at hl
 · have h1:=cY (m:=W) R.bn.un fun u hu=>by
    obtain ⟨m',hm',rfl⟩:=List.mem_map.mp hu;exact (R.good m' hm').ok.mem
   have h2:=T.wl;rw [List.length_map] at h1;omega
end BB
namespace BB
open PySem L2
theorem nA {js:List (Option Nat)} {g:TG} {te:TE} {tl:TE} {σ:St} {H:Hp} {aa:Addr} {ask:List (Key×V)} {VW:Key×V->Int->Prop} {Q:VK}
 (htl:∀ R:VK,R (.ref aa) H->tl σ H R) (ha:H aa=some (.dK ask)) (hlen:ask.length<=10000)
 (hs:∀ (i:Nat) (kv:Key×V) (p:Addr) (H2:Hp) (R:VK),ask[i]?=some kv->SameB aa H H2->H2 p=some (.tup [kV kv.1,kv.2])->(∀ (v:Int) (pr:Addr) (H3:Hp),L2.Same H2 H3->H3 pr=some (.tup [kV kv.1,.int v])->VW kv v->R (.ref pr) H3)->g (.ref p) (cσ js σ) H2 fun σ2 H3=>te σ2 H3 R)
 (hq:∀ (D:Addr) (ps:List Addr) (prs:List (Key×V)) (H2:Hp),L2.Same H H2->H2 D=some (.lst (ps.map V.ref))->Paired (PrK H2) prs ps->prs.map (·.1)=ask.map (·.1)->(∀ pr∈prs,∃ v,pr.2=.int v/\∃ kv∈ask,kv.1=pr.1/\VW kv v)->Q (.ref D) H2) :
 jL (pp js (qH tl) g bK te) σ H Q:=by
 refine htl _ ⟨aa,ask,rfl,ha,fun o D hD=>?_⟩;have hDd:D≠aa:=fun z=>by rw [z,ac] at hD;cases hD
 have hDn:H D=none:=by rw [ae hDd] at hD;exact hD
 refine ⟨ask.length,fun j H2=>j<=ask.length/\SameB aa H H2/\H2 aa=some (.frz o (.dK ask))/\∃ (ps:List Addr) (prs:List (Key×V)),H2 D=some (.lst (ps.map V.ref))/\Paired (PrK H2) prs ps/\prs.map (·.1)=(ask.take j).map (·.1)/\∀ pr∈prs,∃ v,pr.2=.int v/\∃ kv∈ask,kv.1=pr.1/\VW kv v,⟨Nat.zero_le _,fun b u hb e=>by rw [ae (au e hDn),ae hb];exact e,by rw [ae hDd.symm,ac],[],[],ac,.nil,rfl,fun pr h=>by cases h⟩,?_⟩;rintro j H2 ⟨hj,sb,ed,ps,prs,eD,hp,hk,hv⟩;by_cases hjk:j=ask.length
 · left;refine ⟨⟨ed,by omega⟩,upd H2 aa (.dK ask),fun b=>?_,?_⟩
   · by_cases hb:b=aa
     · rw [hb];exact .inr ⟨o,_,ed,ha,ac⟩
     · exact .inl (ae hb)
   · rw [hjk,List.take_length] at hk;refine hq D ps prs _ (fun b u e=>?_) (by rw [ae hDd];exact eD) (P2.mp (fun pr pa e=>?_) hp) hk hv
     · by_cases hb:b=aa
       · rw [hb,ha] at e;rw [hb,ac];exact e
       · rw [ae hb];exact sb b u hb e
     · have e':H2 pa=some (.tup [kV pr.1,pr.2]):=e;show upd H2 aa _ pa=_;rw [ae (aJ e' ed (fun z=>nomatch z))];exact e'
 · right;refine ⟨by omega,⟨ed,by omega⟩,?_⟩;rintro x H3 ⟨p,kv,hpn,rfl,rfl,hkv⟩;have hpd:aa≠p:=fun z=>by rw [<- z,ed] at hpn;cases hpn
   have s3:L2.Same H2 (upd H2 p (.tup [kV kv.1,kv.2])):=af hpn _;have hpl:=Paired.length hp;have hkl:=congrArg List.length hk;rw [List.length_map,List.length_map,List.length_take] at hkl;refine hs j kv p _ _ hkv (fun c u hc ec=>s3 _ _ (sb c u hc ec)) ac fun v pr H4 s4 epr hvw=>?_;have s24:=s3.trans s4;have eD4:=s24 _ _ eD;refine ⟨_,eD4,aK (by rw [List.length_map];omega),by omega,fun c u hc ec=>?_,?_,ps++[pr],prs++[(kv.1,.int v)],?_,?_,?_,?_⟩
   · rw [ae (au ec hDn)];exact s24 _ _ (sb c u hc ec)
   · rw [ae hDd.symm];exact s24 _ _ ed
   · rw [ac,List.map_append];rfl
   · refine P2.append (P2.mp (fun pr' pa e=>?_) hp) (.cons ?_ .nil)
     · have e':H2 pa=some (.tup [kV pr'.1,pr'.2]):=e;show upd H4 D _ pa=_;rw [ae (aJ e' eD (fun z=>nomatch z))];exact s24 _ _ e'
     · show upd H4 D _ pr=_;rw [ae (aJ epr eD4 (fun z=>nomatch z))];exact epr
   · rw [List.take_add_one,hkv,List.map_append,List.map_append,hk];rfl
   · intro pr' hpr';rcases List.mem_append.mp hpr' with h | h
     · exact hv pr' h
     · rw [List.mem_singleton.mp h];exact ⟨v,rfl,kv,List.mem_of_getElem? hkv,rfl,hvw⟩
end BB
namespace BB
open PySem L2
theorem mX {ins:List (Str×Int)} {rows:List (List Th)} {head:Th} (g:bx ins) {s:Int} {u p p':Th} (h:iM ins rows head s u p) (h':iM ins rows head s u p'):p=p':=by
 rcases h with ⟨h1,h2,_⟩ | ⟨h0,m,hs,c,j,row,h1,h2,h3,h4⟩
 · rcases h' with ⟨_,k2,_⟩ | ⟨k0,_⟩
   · rw [h2,k2]
   · omega
 · rcases h' with ⟨k1,_⟩ | ⟨_,m',hs',c',j',row',k1,k2,k3,k4⟩
   · omega
   · rw [h1] at k1;cases k1;have:=g.nd _ _ _ _ h2 k2 rfl;subst this;rw [h3] at k3;cases k3;rw [h4] at k4;cases k4;rfl
def VRs (ins:List (Str×Int)) (rows:List (List Th)) (head:Th) (s:Int) (u:Th) (v:Int):Prop:=∀ p o,iM ins rows head s u p->Out ins rows p u o->v=(o.size:Nat)
def VRt (ins:List (Str×Int)) (rows:List (List Th)) (head:Th) (s:Int) (u:Th) (v:Int):Prop:=∀ p o,iM ins rows head s u p->Out ins rows p u o->v=(o.tall:Nat)
def Wvs (p:Th) (f:Int->Int->Int) (v:Int):Prop:=v=(p.kn:Nat)+smC f (ay (p.pl []))
def Wvt (p:Th) (f:Int->Int->Int) (v:Int):Prop:=MxC f 0 (ay (p.pl [])) (p.tall:Nat) v
theorem MxC.det {f:Int->Int->Int} {d:Int} {cs:List (List Int×Int×Int)} {own a b:Int} (h:MxC f d cs own a) (k:MxC f d cs own b):a=b:=by
 have one:∀ {a b:Int},MxC f d cs own a->MxC f d cs own b->a<=b:=fun h k=>by
  rcases h.some with e | ⟨c,hc,e⟩
  · rw [e];exact k.lo
  · rw [e];exact k.all c hc
 exact Int.le_antisymm (one h k) (one k h)
theorem nk {ins:List (Str×Int)} {rows:List (List Th)} {head:Th} {u:Th} {s c:Int} {oc:Th} (hu:∃ n ks,u=.knot n ks) (ho:Out ins rows (.call s c) u oc):∃ p' h,iM ins rows head s h p'/\u.kids[c.toNat]?=some h/\Out ins rows p' h oc:=by
 obtain ⟨n,ks,rfl⟩:=hu;obtain ⟨p',h,st,ho'⟩:=ho.unstep;exact ⟨p',h,st.pat,st.2.2.1,ho'⟩
theorem lp {ins:List (Str×Int)} {rows:List (List Th)} {head:Th} {s:Int} {u p:Th} (h:iM ins rows head s u p):∃ n ks,u=.knot n ks:=by
 rcases h with ⟨_,_,t,h⟩ | ⟨_,m,hs,_,_,_,h,_⟩
 · exact ⟨_,_,h⟩
 · exact ⟨_,_,h⟩
theorem qS {ins:List (Str×Int)} {rows:List (List Th)} {head:Th} (g:bx ins) (s:Int) (u p:Th) (f:Int->Int->Int) (v:Int) (hp:iM ins rows head s u p) (hc:∀ c∈ay (p.pl []),∀ h,u.kids[c.2.2.toNat]?=some h->VRs ins rows head c.2.1 h (f c.2.1 c.2.2)) (hw:Wvs p f v):VRs ins rows head s u v:=fun p' o hp' ho=>by
 rw [<- mX g hp hp'] at ho;rw [mV u p [] o ho fun c hcm oc hoc=>?_]
 · exact hw
 · obtain ⟨p2,h,h1,h2,h3⟩:=nk (head:=head) (lp hp) hoc;exact hc c hcm h h2 p2 oc h1 h3
theorem qI {ins:List (Str×Int)} {rows:List (List Th)} {head:Th} (g:bx ins) (s:Int) (u p:Th) (f:Int->Int->Int) (v:Int) (hp:iM ins rows head s u p) (hc:∀ c∈ay (p.pl []),∀ h,u.kids[c.2.2.toNat]?=some h->VRt ins rows head c.2.1 h (f c.2.1 c.2.2)) (hw:Wvt p f v):VRt ins rows head s u v:=fun p' o hp' ho=>by
 rw [<- mX g hp hp'] at ho;refine MxC.det hw (mP u p [] o ho fun c hcm oc hoc=>?_);obtain ⟨p2,h,h1,h2,h3⟩:=nk (head:=head) (lp hp) hoc;exact hc c hcm h h2 p2 oc h1 h3
theorem ny {p:Th} {es:CE} (h:CallsE (ay (p.pl [])) es):kU p (dE es):=by
 refine ⟨fun kv hkv=>?_,fun c hc=>?_⟩
 · obtain ⟨e,he,rfl⟩:=List.mem_map.mp hkv;obtain ⟨c,hc,e2⟩:=h.of e he;exact ⟨c,hc,by rw [e2]⟩
 · obtain ⟨e,he,e2⟩:=h.to c hc;exact ⟨_,List.mem_map.mpr ⟨e,he,rfl⟩,by rw [e2]⟩
theorem CallsE.len {cs:List (List Int×Int×Int)} {es:CE} (h:CallsE cs es):es.length<=cs.length:=by
 have:=cY (m:=cs.map (·.2)) h.nd fun k hk=>by
  obtain ⟨e,he,rfl⟩:=List.mem_map.mp hk;obtain ⟨c,hc,e2⟩:=h.of e he;exact List.mem_map.mpr ⟨c,hc,e2⟩
 rw [List.length_map,List.length_map] at this;exact this
theorem p7 {p:Th} {es:CE} {f:Int->Int->Int} {M:Int} (h:DepthE (ay (p.pl [])) es) (hm:M∈((p.tall:Nat):Int)::es.map (fun e=>e.2+f e.1.1 e.1.2)) (ha:∀ a∈((p.tall:Nat):Int)::es.map (fun e=>e.2+f e.1.1 e.1.2),a<=M):Wvt p f M:=by
 refine ⟨ha _ (List.mem_cons_self ..),fun c hc=>?_,?_⟩
 · obtain ⟨e,he,e2⟩:=h.to c hc;have h1:=h.big c hc e he e2;have h2:=ha _ (List.mem_cons_of_mem _ (List.mem_map.mpr ⟨e,he,rfl⟩));rw [e2] at h2;omega
 · rcases List.mem_cons.mp hm with e | hm
   · exact .inl e
   · obtain ⟨e,he,rfl⟩:=List.mem_map.mp hm;obtain ⟨c,hc,e1,e2⟩:=h.at e he;refine .inr ⟨c,hc,?_⟩;rw [e1];omega
mutual
theorem lL:∀ (t u k:Th),u∈t.walk->k∈u.kids->k∈t.walk
 | .knot n ks,u,k,hu,hk=>by
   rw [Th.walk] at hu ⊢;rcases List.mem_cons.mp hu with rfl | hu
   · exact List.mem_cons_of_mem _ (kM ks k hk)
   · exact List.mem_cons_of_mem _ (jQ ks u k hu hk)
 | .call s c,u,k,hu,hk=>by
   rw [Th.walk] at hu;rw [List.mem_singleton.mp hu] at hk;cases hk
theorem jQ:∀ (ts:List Th) (u k:Th),u∈bi ts->k∈u.kids->k∈bi ts
 | [],u,k,hu,hk=>by rw [bi] at hu;cases hu
 | t::ts,u,k,hu,hk=>by
   rw [bi] at hu ⊢;rcases List.mem_append.mp hu with hu | hu
   · exact List.mem_append_left _ (lL t u k hu hk)
   · exact List.mem_append_right _ (jQ ts u k hu hk)
theorem kM:∀ (ts:List Th) (k:Th),k∈ts->k∈bi ts
 | [],k,hk=>by cases hk
 | t::ts,k,hk=>by
   rw [bi];rcases List.mem_cons.mp hk with rfl | hk
   · exact List.mem_append_left _ (by rw [Th.walk_eq];exact List.mem_cons_self ..)
   · exact List.mem_append_right _ (kM ts k hk)
end
mutual
theorem iI {ks:List (Str×Int)} {S C:Int}:∀ (t:Th) (pre:List Int),t.FitS ks S C->∀ c∈ay (t.pl pre),0<=c.2.1/\c.2.1<S/\0<=c.2.2/\c.2.2<C
 | .call s k,pre,h,c,hc=>by
   rw [d5] at hc;rw [List.mem_singleton.mp hc];rw [Th.FitS] at h;exact h
 | .knot n ts,pre,h,c,hc=>by
   rw [eN] at hc;rw [Th.FitS] at h;exact j2 ts pre 0 h.2 c hc
theorem j2 {ks:List (Str×Int)} {S C:Int}:∀ (ts:List Th) (pre:List Int) (i:Int),FitSs ks S C ts->∀ c∈ay (pls pre i ts),0<=c.2.1/\c.2.1<S/\0<=c.2.2/\c.2.2<C
 | [],pre,i,_,c,hc=>by rw [pls] at hc;cases hc
 | t::ts,pre,i,h,c,hc=>by
   rw [eM] at hc;rw [FitSs] at h;rcases List.mem_append.mp hc with hc | hc
   · exact iI t _ h.1 c hc
   · exact j2 ts _ _ h.2 c hc
end
theorem kN {ins outs:List (Str×Int)} {S:Int} {d:Nat} {head:Th} {rows:List (List Th)} (ok:cN ins outs S d head rows) {s k:Int} {ks:List Th} (s0:0<=s) (s1:s<S) (k0:0<=k) (k1:k<(ks.length:Int)) (hf:∀ h∈ks,h.Fit ins):∃ p' h,Step ins rows s k ks p' h:=by
 have hk:k.toNat<ks.length:=by omega
 obtain ⟨h,hh⟩:∃ h,ks[k.toNat]?=some h:=⟨_,List.getElem?_eq_getElem hk⟩;have hl:=ok.len;obtain ⟨row,hrow⟩:∃ row,rows[s.toNat]?=some row:=⟨_,List.getElem?_eq_getElem (by omega)⟩;have hfh:=hf h (List.mem_of_getElem? hh);cases h with
 | call a b=>rw [Th.Fit] at hfh;exact hfh.elim
 | knot m hs =>
   rw [Th.Fit] at hfh;obtain ⟨j,hj⟩:=List.mem_iff_getElem?.mp hfh.1;have hrl:=(ok.row row (List.mem_of_getElem? hrow)).len;have hjl:=(List.getElem?_eq_some_iff.mp hj).1;obtain ⟨p',hp'⟩:∃ p',row[j]?=some p':=⟨_,List.getElem?_eq_getElem (by omega)⟩;exact ⟨p',_,s0,k0,hh,m,hs,_,j,row,rfl,hj,hrow,hp'⟩
theorem jo {ins outs:List (Str×Int)} {S:Int} {d:Nat} {head0 head:Th} {rows:List (List Th)} (gi:bx ins) (ok:cN ins outs S d head0 rows) (hS:S<=100) {t:Th} (hz:t.size<=40000):il ins rows head t.walk:=by
 have hfk:∀ u:Th,u.Fit ins->∀ k∈u.kids,k.Fit ins:=fun u hu k hk=>by
  cases u with
  | call a b=>rw [Th.Fit] at hu;exact hu.elim
  | knot m hs=>rw [Th.Fit] at hu;exact fE hu.2 k hk
 refine ⟨fun u hu k hk=>lL t u k hu hk,by rw [Th.walk_len];exact hz,by have:=ok.len;omega,fun u hu=>?_,fun u hu=>?_,hfk,fun u s p hu s0 hp c hc=>?_⟩
 · cases u with
   | call a b=>rw [Th.Fit] at hu;exact hu.elim
   | knot m hs =>
     rw [Th.Fit] at hu;have:=(gi.num _ hu.1).2;simp only at this;show hs.length<=100;omega
 · cases u with
   | call a b=>rw [Th.Fit] at hu;exact hu.elim
   | knot m hs=>exact ⟨m,hs,rfl⟩
 · rcases hp with ⟨h1,_⟩ | ⟨_,m,hs,cc,j,row,rfl,hj,hrow,hpj⟩
   · omega
   · have hu':=hu;rw [Th.Fit] at hu';obtain ⟨j',hj'⟩:=List.mem_iff_getElem?.mp hu'.1;have hjj:=gi.nd _ _ _ _ hj hj' rfl;subst hjj;rw [hj] at hj';have hcc:cc=(hs.length:Int):=congrArg Prod.snd (Option.some.inj hj');obtain ⟨hfs,_⟩:=(ok.row row (List.mem_of_getElem? hrow)).fit j p _ hpj hj;obtain ⟨a1,a2,a3,a4⟩:=iI p [] hfs c hc;simp only at a4;exact kN ok a1 a2 a3 (by show c.2.2<((hs.length:Nat):Int);rw [<- hcc];exact a4) (hfk _ hu)
end BB
namespace LAW
open PySem L2 BB
def top (i:Nat):Stmt:=PySem.Challenge.pw_boughbook_k23_outcomes_counted.main.body.getD i (.Pass ⟨0,0,0,0⟩)
theorem scm {N P:List Str} {sc:Scope} (a:sc.kind=.function:=by rfl) (b:sc.isCoroutine=false:=by rfl) (c:sc.isGenerator=false:=by rfl) (d:N.Nodup:=by decide +kernel) (e:N.take P.length=P:=by rfl) (f:∀ x∈P,sc.names.lookup x=some .local∨sc.names.lookup x=some .cell:=by decide +kernel) (g:∀ y∈sc.names,y.2≠.free:=by decide +kernel):ax N P sc:=⟨a,b,c,d,e,f,g⟩
abbrev iQ:Stmt:=top 2
theorem og:ax ["thing"] ["thing"] (ao iQ):=scm
abbrev ko:Stmt:=top 3
theorem fR:ax ["thing","met","ahead","part"] ["thing"] (ao ko):=scm
abbrev jO:Stmt:=top 4
theorem cZ:ax ["thing","met","ahead","place","part","kids"] ["thing"] (ao jO):=scm
abbrev oj:Stmt:=top 5
theorem eE:ax ["tree","level","rows","beneath","part"] ["tree"] (ao oj):=scm
abbrev iH:Stmt:=top 8
theorem oh:ax ["thing"] ["thing"] (ao iH):=scm
abbrev iT:Stmt:=top 9
theorem oK:ax ["thing"] ["thing"] (ao iT):=scm
abbrev iJ:Stmt:=top 10
theorem nZ:ax ["thing"] ["thing"] (ao iJ):=scm
abbrev fq:Stmt:=top 11
theorem lN:ax ["call"] ["call"] (ao fq):=scm
abbrev gy:Stmt:=top 12
theorem nw:ax ["pattern"] ["pattern"] (ao gy):=scm
abbrev iD:Stmt:=top 13
theorem oG:ax ["pattern"] ["pattern"] (ao iD):=scm
abbrev gE:Stmt:=top 14
theorem mQ:ax ["pattern"] ["pattern"] (ao gE):=scm
abbrev jH:Stmt:=top 16
theorem qc:ax ["book"] ["book"] (ao jH):=scm
abbrev iK:Stmt:=top 17
theorem oF:ax ["book"] ["book"] (ao iK):=scm
abbrev gz:Stmt:=top 18
theorem mG:ax ["book"] ["book"] (ao gz):=scm
abbrev ml:Stmt:=top 21
theorem qQ:ax ["tree"] ["tree"] (ao ml):=scm
abbrev iU:Stmt:=top 22
theorem nU:ax ["state"] ["state"] (ao iU):=scm
abbrev ce:Stmt:=pj (top 24) 0
theorem kG:ax ["self"] ["self"] (ao ce):=scm
abbrev bF:Stmt:=pj (top 24) 1
theorem iu:ax ["self","tree"] ["self","tree"] (ao bF):=scm
abbrev et:Stmt:=top 25
theorem bU:ax ["book","digest","told","state","patterns","kind","pattern"] ["book","digest"] (ao et):=scm
abbrev iL:Stmt:=top 26
theorem cb:ax ["digests","level","number","beneath","tree","spots","own","calls","state","kid","part"] ["digests","level","number","beneath"] (ao iL):=scm
abbrev fF:Stmt:=top 27
theorem bQ:ax ["digests","head","tree","level","top","levels","beneath","number"] ["digests","head","tree"] (ao fF):=scm
abbrev eu:Stmt:=top 28
theorem bS:ax ["spots","beneath","told","kid","spot","state","value"] ["spots","beneath"] (ao eu):=scm
abbrev kq:Stmt:=top 29
theorem cv:ax ["book","head","tree","digest","worth","beneath","level","told","asked","spots","kids"] ["book","head","tree","digest","worth"] (ao kq):=scm
abbrev gI:Stmt:=top 31
theorem dG:ax ["pattern","times","place","call"] ["pattern"] (ao gI):=scm
abbrev dP:Stmt:=top 32
theorem dh:ax ["pair","counts","own","times"] ["pair","counts"] (ao dP):=scm
abbrev fK:Stmt:=top 33
theorem cV:ax ["pattern","depths","place","call"] ["pattern"] (ao fK):=scm
abbrev dn:Stmt:=top 34
theorem cO:ax ["pair","heights","own","depths"] ["pair","heights"] (ao dn):=scm
abbrev gv:Stmt:=top 35
theorem mU:ax ["book","tree"] ["book","tree"] (ao gv):=scm
abbrev gF:Stmt:=top 36
theorem nN:ax ["book","state","tree"] ["book","state","tree"] (ao gF):=scm
abbrev fb:Stmt:=top 37
theorem lY:ax ["book","tree"] ["book","tree"] (ao fb):=scm
abbrev ft:Stmt:=top 38
theorem lT:ax ["book","state","tree"] ["book","state","tree"] (ao ft):=scm
abbrev fB:Stmt:=top 40
theorem lU:ax ["script","k"] ["script","k"] (ao fB):=scm
abbrev fk:Stmt:=top 41
theorem eQ:ax ["cell","k","near"] ["cell","k"] (ao fk):=scm
abbrev eK:Stmt:=top 42
theorem aI:ax ["cell","letters","rest","size","more","stem","at","leaf","turn","begun","kinds","k","many","pick","name"] ["cell","letters"] (ao eK):=scm
abbrev fJ:Stmt:=top 43
theorem g7:ax ["kinds","cell","leaves"] ["kinds","cell"] (ao fJ):=scm
abbrev dk:Stmt:=top 44
theorem bG:ax ["cell","outs","states","kids","deep","rest","kind","parts","k"] ["cell","outs","states","kids","deep"] (ao dk):=scm
abbrev eP:Stmt:=top 45
theorem gh:ax ["left","many","digit"] ["left","many"] (ao eP):=scm
abbrev cF:Stmt:=top 46
theorem bp:ax ["left","outs","states","kids","deep","state","some","kind","parts","k"] ["left","outs","states","kids","deep"] (ao cF):=scm
abbrev bW:Stmt:=top 47
theorem aO:ax ["cell","ins","outs","states","deep","left","rules","state","row","k"] ["cell","ins","outs","states","deep"] (ao bW):=scm
abbrev fC:Stmt:=top 48
theorem cC:ax ["cell","ins","outs","states","deep","rules","state","row","k"] ["cell","ins","outs","states","deep"] (ao fC):=scm
abbrev fz:Stmt:=top 49
theorem ie:ax ["kind","kids","high"] ["kind","kids"] (ao fz):=scm
abbrev fj:Stmt:=top 50
theorem aY:ax ["cells","ins","leaf","wide","row","cell","rest","kind","made"] ["cells","ins"] (ao fj):=scm
abbrev fL:Stmt:=top 51
theorem gS:ax ["pattern","kids","sizes"] ["pattern","kids"] (ao fL):=scm
abbrev eI:Stmt:=top 52
theorem dO:ax ["book","tree","names","kids"] ["book","tree"] (ao eI):=scm
abbrev dz:Stmt:=top 53
theorem cm:ax ["pattern","kind","leaf","many","k","kids"] ["pattern","kind","leaf","many"] (ao dz):=scm
abbrev db:Stmt:=top 54
theorem aL:ax ["script","most","deep","ins","outs","cell","book","rest","wide","leaf","kind","rules","row"] ["script","most","deep"] (ao db):=scm
abbrev dJ:Stmt:=top 55
theorem jw:ax ["found","due"] ["found","due"] (ao dJ):=scm
abbrev gL:Stmt:=top 56
theorem iB:ax ["script","book","tree","sizes","due","state"] ["script"] (ao gL):=scm
set_option genInjectivity false in
set_option genSizeOf false in
structure FX (K:PySem.W.Frag) (mg:Str->Option Value) (n:Str) (s:Stmt) (ps:List Str) where
 f:Addr
 d:FuncData
 F:Fun K n n s f d
 b:Binds K d ps []
 m:mg n=some (.ref f)
section
open PySem.W
variable {K:Frag} {mg:Str->Option Value} {h:Heap} {n:Str} {st:Stmt} {f:Addr} {oc kV dc pm cd ct:Value} {od an:Option Addr} {sl:Array (Option Value)} (X:K.In h) (G:h.Ns mainGlobals mg)
noncomputable def fx1 {p0:Str} (a:nsIn K mainGlobals n=some (some (.ref f)):=by k_is) (l:K.lookup f=some ⟨oc,od,.func (fnOf n n (bE st) (bu st) (ao st) .none kV dc pm an cd ct),sl⟩:=by k_is) (c:codeIn K cd n=true:=by k_is) (k:keepIn K (.ref f)=true:=by k_is) (hb:∀ (kV dc pm:Value) (an:Option Addr) (cd ct u0:Value),bindArgs (fnOf n n (bE st) (bu st) (ao st) .none kV dc pm an cd ct) ⟨[u0],[]⟩=pure [(p0,u0)]:=by intros;rfl):FX K mg n st [p0] :=
 ⟨f,_,cE l c k,(cE l c k).binds fun a b c d e f us hl=>by obtain ⟨u0,rfl⟩:=us1 hl;exact hb a b c d e f u0,mg_of X G a⟩
noncomputable def fx2 {p0 p1:Str} (a:nsIn K mainGlobals n=some (some (.ref f)):=by k_is) (l:K.lookup f=some ⟨oc,od,.func (fnOf n n (bE st) (bu st) (ao st) .none kV dc pm an cd ct),sl⟩:=by k_is) (c:codeIn K cd n=true:=by k_is) (k:keepIn K (.ref f)=true:=by k_is) (hb:∀ (kV dc pm:Value) (an:Option Addr) (cd ct u0 u1:Value),bindArgs (fnOf n n (bE st) (bu st) (ao st) .none kV dc pm an cd ct) ⟨[u0,u1],[]⟩=pure [(p0,u0),(p1,u1)]:=by intros;rfl):FX K mg n st [p0,p1] :=
 ⟨f,_,cE l c k,(cE l c k).binds fun a b c d e f us hl=>by obtain ⟨u0,u1,rfl⟩:=us2 hl;exact hb a b c d e f u0 u1,mg_of X G a⟩
noncomputable def fx3 {p0 p1 p2:Str} (a:nsIn K mainGlobals n=some (some (.ref f)):=by k_is) (l:K.lookup f=some ⟨oc,od,.func (fnOf n n (bE st) (bu st) (ao st) .none kV dc pm an cd ct),sl⟩:=by k_is) (c:codeIn K cd n=true:=by k_is) (k:keepIn K (.ref f)=true:=by k_is) (hb:∀ (kV dc pm:Value) (an:Option Addr) (cd ct u0 u1 u2:Value),bindArgs (fnOf n n (bE st) (bu st) (ao st) .none kV dc pm an cd ct) ⟨[u0,u1,u2],[]⟩=pure [(p0,u0),(p1,u1),(p2,u2)]:=by intros;rfl):FX K mg n st [p0,p1,p2] :=
 ⟨f,_,cE l c k,(cE l c k).binds fun a b c d e f us hl=>by obtain ⟨u0,u1,u2,rfl⟩:=us3 hl;exact hb a b c d e f u0 u1 u2,mg_of X G a⟩
noncomputable def fx4 {p0 p1 p2 p3:Str} (a:nsIn K mainGlobals n=some (some (.ref f)):=by k_is) (l:K.lookup f=some ⟨oc,od,.func (fnOf n n (bE st) (bu st) (ao st) .none kV dc pm an cd ct),sl⟩:=by k_is) (c:codeIn K cd n=true:=by k_is) (k:keepIn K (.ref f)=true:=by k_is) (hb:∀ (kV dc pm:Value) (an:Option Addr) (cd ct u0 u1 u2 u3:Value),bindArgs (fnOf n n (bE st) (bu st) (ao st) .none kV dc pm an cd ct) ⟨[u0,u1,u2,u3],[]⟩=pure [(p0,u0),(p1,u1),(p2,u2),(p3,u3)]:=by intros;rfl):FX K mg n st [p0,p1,p2,p3] :=
 ⟨f,_,cE l c k,(cE l c k).binds fun a b c d e f us hl=>by obtain ⟨u0,u1,u2,u3,rfl⟩:=us4 hl;exact hb a b c d e f u0 u1 u2 u3,mg_of X G a⟩
noncomputable def fx5 {p0 p1 p2 p3 p4:Str} (a:nsIn K mainGlobals n=some (some (.ref f)):=by k_is) (l:K.lookup f=some ⟨oc,od,.func (fnOf n n (bE st) (bu st) (ao st) .none kV dc pm an cd ct),sl⟩:=by k_is) (c:codeIn K cd n=true:=by k_is) (k:keepIn K (.ref f)=true:=by k_is) (hb:∀ (kV dc pm:Value) (an:Option Addr) (cd ct u0 u1 u2 u3 u4:Value),bindArgs (fnOf n n (bE st) (bu st) (ao st) .none kV dc pm an cd ct) ⟨[u0,u1,u2,u3,u4],[]⟩=pure [(p0,u0),(p1,u1),(p2,u2),(p3,u3),(p4,u4)]:=by intros;rfl):FX K mg n st [p0,p1,p2,p3,p4] :=
 ⟨f,_,cE l c k,(cE l c k).binds fun a b c d e f us hl=>by obtain ⟨u0,u1,u2,u3,u4,rfl⟩:=us5 hl;exact hb a b c d e f u0 u1 u2 u3 u4,mg_of X G a⟩
end
theorem pcF {X:Cx} {kk k:Nat} {sp:Sp} {n:Str} {st:Stmt} {ps:List Str} {e:Expr} {es:List Expr} {t:TA} {p pos:Pos} (g:FX X.K X.mg n st ps) (F:aW X.prog X.w X.K X.mg X.base CX0 k g.f g.d ps sp) (hr:Room kk X.A) (ha:PA X (e::es) t) (hle:k<=kk:=by first | decide | omega) (hg:Gl X n:=by rfl) (hdb:(n == ("__debug__":Str))=false:=by decide) (he:starEach (e::es) X.env=(false,eval e X.env)::starEach es X.env:=by rfl) (hpl:(backTo pos (starEach es X.env)).any (·.1)=false:=by rfl):PE X (.Call (.Name n p) (e::es) [] pos) (fW sp [] E0 t) :=
 d9 F (hr.mono hle) hg g.m g.F.kp g.b .nil dC ha hdb he hpl
set_option genInjectivity false in
set_option genSizeOf false in
structure TX (K:PySem.W.Frag) (mg:Str->Option Value) where
 c_CALL_SIGN:∃ tk,mg "CALL_SIGN"=some (.str (Str.ofString "?") tk)
 a_HOLE:Addr
 c_HOLE:mg "HOLE"=some (.ref a_HOLE)
 q_HOLE:∀ H:Hp,SqT K H a_HOLE [.str (Str.ofString "*")]
 c_HEAD:∃ tk,mg "HEAD"=some (.int (-1) tk)
 g_kids_of:FX K mg "kids_of" iQ ["thing"]
 g_walked:FX K mg "walked" ko ["thing"]
 g_placed:FX K mg "placed" jO ["thing"]
 g_tall:FX K mg "tall" oj ["tree"]
 g_is_call:FX K mg "is_call" iH ["thing"]
 g_is_hole:FX K mg "is_hole" iT ["thing"]
 g_is_knot:FX K mg "is_knot" iJ ["thing"]
 g_called_by:FX K mg "called_by" fq ["call"]
 g_knots_of:FX K mg "knots_of" gy ["pattern"]
 g_tall_of:FX K mg "tall_of" iD ["pattern"]
 g_calls_in:FX K mg "calls_in" gE ["pattern"]
 g_ins_of:FX K mg "ins_of" jH ["book"]
 g_head_of:FX K mg "head_of" iK ["book"]
 g_rules_of:FX K mg "rules_of" gz ["book"]
 g_above:FX K mg "above" ml ["tree"]
 g_call_of:FX K mg "call_of" iU ["state"]
 f_Level_init:Addr
 d_Level_init:FuncData
 F_Level_init:Fun K "__init__" "Level.__init__" ce f_Level_init d_Level_init
 b_Level_init:Binds K d_Level_init ["self"] []
 f_Level_spot_of:Addr
 d_Level_spot_of:FuncData
 F_Level_spot_of:Fun K "spot_of" "Level.spot_of" bF f_Level_spot_of d_Level_spot_of
 b_Level_spot_of:Binds K d_Level_spot_of ["self","tree"] []
 g_digests_of:FX K mg "digests_of" et ["book","digest"]
 g_hand_on:FX K mg "hand_on" iL ["digests","level","number","beneath"]
 g_levels_of:FX K mg "levels_of" fF ["digests","head","tree"]
 g_kid_worths:FX K mg "kid_worths" eu ["spots","beneath"]
 g_folded:FX K mg "folded" kq ["book","head","tree","digest","worth"]
 g_times_in:FX K mg "times_in" gI ["pattern"]
 g_count_worth:FX K mg "count_worth" dP ["pair","counts"]
 g_depths_in:FX K mg "depths_in" fK ["pattern"]
 g_height_worth:FX K mg "height_worth" dn ["pair","heights"]
 g_count_of:FX K mg "count_of" gv ["book","tree"]
 g_count_by:FX K mg "count_by" gF ["book","state","tree"]
 g_height_of:FX K mg "height_of" fb ["book","tree"]
 g_height_by:FX K mg "height_by" ft ["book","state","tree"]
 g__law_cell:FX K mg "_law_cell" fB ["script","k"]
 g__law_turn:FX K mg "_law_turn" fk ["cell","k"]
 g__law_kinds:FX K mg "_law_kinds" eK ["cell","letters"]
 g__law_leaf:FX K mg "_law_leaf" fJ ["kinds","cell"]
 g__law_pattern:FX K mg "_law_pattern" dk ["cell","outs","states","kids","deep"]
 g__law_digit:FX K mg "_law_digit" eP ["left","many"]
 g__law_by_digits:FX K mg "_law_by_digits" cF ["left","outs","states","kids","deep"]
 g__law_book_by_digits:FX K mg "_law_book_by_digits" bW ["cell","ins","outs","states","deep"]
 g__law_book:FX K mg "_law_book" fC ["cell","ins","outs","states","deep"]
 g__law_knot:FX K mg "_law_knot" fz ["kind","kids"]
 g__law_tree:FX K mg "_law_tree" fj ["cells","ins"]
 g__law_size:FX K mg "_law_size" fL ["pattern","kids"]
 g__law_sizes:FX K mg "_law_sizes" eI ["book","tree"]
 g__law_wrapped:FX K mg "_law_wrapped" dz ["pattern","kind","leaf","many"]
 g__law_setting:FX K mg "_law_setting" db ["script","most","deep"]
 g__law_number:FX K mg "_law_number" dJ ["found","due"]
 g_law:FX K mg "law" gL ["script"]
 e_Level:Addr
 x_Level:mg "Level"=some (.ref e_Level)
 cl_Level:Cls K e_Level
 mk_Level:Mk K e_Level f_Level_init
 na_Level_trees:NoAttr K e_Level "trees"
 na_Level_asked:NoAttr K e_Level "asked"
 na_Level_kid_spots:NoAttr K e_Level "kid_spots"
 me_Level_spot_of:uH K e_Level "spot_of" f_Level_spot_of
 n_bool:mg "bool"=none
 n_dict:mg "dict"=none
 n_enumerate:mg "enumerate"=none
 n_int:mg "int"=none
 n_isinstance:mg "isinstance"=none
 n_len:mg "len"=none
 n_max:mg "max"=none
 n_range:mg "range"=none
 n_reversed:mg "reversed"=none
 n_sum:mg "sum"=none
 n_tuple:mg "tuple"=none
 n_zip:mg "zip"=none
theorem vH:([Str.ofString "number",Str.ofString "kid",Str.ofString "place"]:List Str).Nodup:=by decide +kernel
theorem vL:([Str.ofString "place",Str.ofString "part"]:List Str).Nodup:=by decide +kernel
theorem wa:([Str.ofString "part"]:List Str).Nodup:=by decide +kernel
theorem vB:([Str.ofString "call",Str.ofString "many",Str.ofString "counts"]:List Str).Nodup:=by decide +kernel
theorem vE:([Str.ofString "call",Str.ofString "depth",Str.ofString "heights"]:List Str).Nodup:=by decide +kernel
theorem vt:([Str.ofString "state",Str.ofString "pair",Str.ofString "worth",Str.ofString "kids"]:List Str).Nodup:=by decide +kernel
theorem sJ:([Str.ofString "kind"]:List Str).Nodup:=by decide +kernel
theorem wq:([Str.ofString "kind",Str.ofString "deep"]:List Str).Nodup:=by decide +kernel
theorem uX:([Str.ofString "kid"]:List Str).Nodup:=by decide +kernel
theorem wz:([Str.ofString "part",Str.ofString "kind",Str.ofString "leaf",Str.ofString "many"]:List Str).Nodup:=by decide +kernel
theorem vM:([Str.ofString "pattern",Str.ofString "kind",Str.ofString "leaf",Str.ofString "rest"]:List Str).Nodup:=by decide +kernel
theorem u5:([Str.ofString "part",Str.ofString "kids"]:List Str).Nodup:=by decide +kernel
theorem tZ:([Str.ofString "size"]:List Str).Nodup:=by decide +kernel
theorem u8:([Str.ofString "kid",Str.ofString "book"]:List Str).Nodup:=by decide +kernel
theorem va:([Str.ofString "row",Str.ofString "kids",Str.ofString "names",Str.ofString "tree"]:List Str).Nodup:=by decide +kernel
section
variable {P:Program} {w:World} {K:PySem.W.Frag} {mg:Str->Option Value} {base:Heap} (T:TX K mg)
inductive i8 (vs:List V) (H:Hp) (Q:VK) (_E:XK):Prop
 | mk (a:Addr) (t:Th) (zz0:vs=[.ref a]) (zz1:At H t a) (zz2:∀ (r:Addr) (as:List Addr) (H':Hp),L2.Same H H'->H' r=some (.tup (as.map V.ref))->Ats H' t.kids as->Q (.ref r) H'):i8  vs H Q _E
def oz:Sp:=i8
theorem gC:aW P w K mg base CX0 1 T.g_kids_of.f T.g_kids_of.d ["thing"] oz:=by
 refine T.g_kids_of.F.ok og (fun vs H Q E h=>?_) (fun cdv A outer s H vs Q E hr h=>?_)
 · obtain ⟨a,t,rfl,_⟩:=h;rfl
 obtain ⟨a,t,rfl,hA,k⟩:=h
 refine ⟨_,(ag (cM (aP eR (az aA (pv 0) ai (fun _ _=>rfl)) (bX (v:=.str (Str.ofString "?")) rfl T.c_CALL_SIGN.choose_spec ⟨_,rfl⟩) (aR _)) (aj (aD (aU ad))) bN)
  (aj (aD (bI lS (pv 0) (bP ai) bZ)))),?_⟩
 try dsimp only [cxK,cxKn]
 cases t with
 | knot n ks =>
   rw [At] at hA;refine hid fun ZZ kZ=>?_;obtain ⟨hn,as,h1,h2⟩:=hA;refine kZ ?_;refine ⟨_,rfl,a,_,0,.str n,rfl,rfl,SqT.of h1,at0,rfl,_,rfl,?_⟩;refine dw (fun c=>absurd (of_decide_eq_true c) (fun z=>hn (V.str.inj z))) (fun _=>?_);refine ⟨_,rfl,1,rfl,a,_,rfl,SqT.of h1,?_,fun r hr=>?_⟩
   · intro z;have:=z.1;simp [HT.sIx] at this
   · rw [gQ];exact k r as _ (af hr _) ac (h2.mono (gx hr))
 | call sn kn =>
   rw [At] at hA;refine ⟨_,rfl,a,_,0,.str q,rfl,rfl,SqT.of hA,at0,rfl,_,rfl,?_⟩;refine dw (fun _=>?_) (fun c=>absurd (decide_eq_true rfl) c);refine ⟨by show 0<=sizeLine;decide,fun r hr=>?_⟩;exact k r [] _ (af hr _) ac .nil
inductive jN (vs:List V) (H:Hp) (Q:VK) (_E:XK):Prop
 | mk (a:Addr) (t:Th) (zz0:vs=[.ref a]) (zz1:At H t a) (zz2:t.size<=100000) (zz3:∀ (r:Addr) (as:List Addr) (H':Hp),L2.Same H H'->H r=none->H' r=some (.lst (as.map V.ref))->Ats H' t.walk as->Q (.ref r) H'):jN  vs H Q _E
def qp:Sp:=jN
theorem pS:aW P w K mg base CX0 2 T.g_walked.f T.g_walked.d ["thing"] qp:=by
 refine T.g_walked.F.ok fR (fun vs H Q E h=>?_) (fun cdv A outer s H vs Q E hr h=>?_)
 · obtain ⟨a,t,rfl,_⟩:=h;rfl
 obtain ⟨a,t,rfl,hA,hsz,k⟩:=h
 refine ⟨_,(ag (ar (i:=1) fR.nd rfl (Or.inl rfl) (aM ad))
  (ag (ar (i:=2) fR.nd rfl (Or.inl rfl) (aM (ab (pv 0) ad)))
  (ag (fG PassesOwn.never (b9 (pv 2) (fun _=>rfl)) (ag (ar (i:=3) fR.nd rfl (Or.inl rfl) (qD PySem.F.plainAttrs_list PySem.F.slot_list_pop PySem.F.type_list_pop rD (pv 2)))
  (ag (bm (ci PySem.F.plainAttrs_list PySem.F.slot_list_append PySem.F.type_list_append aV (pv 1) (ab (pv 3) ad)))
  (aj (bm (ci PySem.F.plainAttrs_list PySem.F.slot_list_extend PySem.F.type_list_extend jS (pv 2) (ab (o8 uA (pcF T.g_kids_of (gC T) hr (ab (pv 3) ad))) ad)))))))
  (aj (aD (pv 1)))))),?_⟩
 try dsimp only [cxK,cxKn]
 refine ⟨by show 0<=sizeLine;decide,fun mt hmt=>?_⟩;refine ⟨_,rfl,by show 1<=sizeLine;decide,fun ah hah=>?_⟩;have nah:H ah=none:=(af hmt _).free hah;have hne:ah≠mt:=fun z=>by rw [z,ac] at hah;cases hah
 refine ⟨fun m σ H2=>Ex5 fun (ms as:List Addr) (Ms As:List Th) (p:Option V)=>An8 (σ=[some (.ref a),some (.ref mt),some (.ref ah),p]) (L2.Same H H2) (H2 mt=some (.lst (ms.map V.ref))) (H2 ah=some (.lst (as.map V.ref))) (Ats H2 Ms ms) (Ats H2 As as) (Ms++bi As.reverse=t.walk) (m=aw As),⟨_,[],[a],[],[t],none,rfl,?_,?_,?_,.nil,.cons (hA.mono ?_) .nil,?_,rfl⟩,?_⟩
 · exact aH (af hmt _) nah
 · rw [ae hne.symm,ac];rfl
 · rw [ac];rfl
 · exact Same.kt (aH (af hmt _) nah)
 · simp [bi]
 rintro m σ H2 ⟨ms,as,Ms,As,p,rfl,sm,e1,e2,a1,a2,hw,rfl⟩
 have hlen:ms.length+aw As<=100000:=by
  have h1:=congrArg List.length hw;rw [List.length_append,iR,Th.walk_len,<- a1.length] at h1;have h2:=lg As;omega
 refine ⟨_,rfl,_,.inl ⟨_,SqL.of e2,rfl⟩,?_⟩;refine dw (fun c=>?_) (fun c=>?_)
 · -- a part is taken off
   refine ⟨fun σ' H'=>∃ m',m'<aw As/\Ex5 fun (ms as:List Addr) (Ms As:List Th) (p:Option V)=>An8 (σ'=[some (.ref a),some (.ref mt),some (.ref ah),p]) (L2.Same H H') (H' mt=some (.lst (ms.map V.ref))) (H' ah=some (.lst (as.map V.ref))) (Ats H' Ms ms) (Ats H' As as) (Ms++bi As.reverse=t.walk) (m'=aw As),fun σ' H' h=>h,?_⟩;have hne0:as≠[]:=by intro z;subst z;simp at c
   obtain ⟨as',b,rfl⟩:∃ as' b,as=as'++[b]:=⟨as.dropLast,as.getLast hne0,(List.dropLast_concat_getLast hne0).symm⟩;obtain ⟨Us,x,rfl,a3,a4⟩:=a2.snoc_inv;have hs:aw (Us++[x])=aw Us+x.size:=by rw [aZ,aw,aw];omega
   have hxs:=x.size_eq;rw [hs] at hlen;refine ⟨_,rfl,.inl ⟨rfl,_,SqL.of e2⟩,ah,_,.ref b,rfl,rfl,e2,by simp,?_⟩;have d1:((as'++[b]).map V.ref).dropLast=as'.map V.ref:=by simp
   rw [d1];refine ⟨_,rfl,.inl ⟨rfl,_,SqL.of (by rw [ae hne.symm];exact e1)⟩,_,rfl,mt,_,.ref b,rfl,rfl,by rw [ae hne.symm];exact e1,aK (by rw [List.length_map];omega),?_⟩;have k1:KT H2 (upd (upd H2 ah (.lst (as'.map V.ref))) mt (.lst (ms.map V.ref++[.ref b]))):=(bt e2).trans (bt (xs:=ms.map V.ref) (by rw [ae hne.symm];exact e1));refine ⟨_,rfl,.inl ⟨rfl,_,SqL.of (by rw [ae hne,ac])⟩,_,rfl,b,x,rfl,a4.mono k1,fun r ks H3 s3 e3 a5=>?_⟩;refine ⟨r,_,rfl,SqT.of e3,fun l hl=>?_⟩;have l1:l≠ah:=fun z=>by rw [z,s3 ah _ (by rw [ae hne,ac])] at hl;cases hl
   have l2:l≠mt:=fun z=>by rw [z,s3 mt _ ac] at hl;cases hl
   refine ⟨ah,l,_,_,rfl,rfl,by rw [ae l1.symm];exact s3 ah _ (by rw [ae hne,ac]),SqT.of ac,Nat.le_of_lt (aK ?_),?_⟩
   · have q1:=a3.length;have q2:=a5.length;have q3:=d3 Us;have q4:=d3 x.kids;rw [List.length_map,List.length_reverse,List.length_map];omega
   · have k2:KT H2 (upd (upd H3 l (.tup (ks.map V.ref).reverse)) ah (.lst (as'.map V.ref++(ks.map V.ref).reverse))) :=
      k1.trans ((Same.kt s3).trans ((gx hl).trans (bt (xs:=as'.map V.ref) (by rw [ae l1.symm];exact s3 ah _ (by rw [ae hne,ac])))))
     have k3:KT H3 (upd (upd H3 l (.tup (ks.map V.ref).reverse)) ah (.lst (as'.map V.ref++(ks.map V.ref).reverse))) :=
      (gx hl).trans (bt (xs:=as'.map V.ref) (by rw [ae l1.symm];exact s3 ah _ (by rw [ae hne,ac])))
     refine ⟨aw (Us++x.kids.reverse),?_,ms++[b],as'++ks.reverse,Ms++[x],Us++x.kids.reverse,some (.ref b),rfl,?_,?_,?_,?_,?_,?_,rfl⟩
     · rw [aZ,lg,hs];omega
     · have s4:L2.Same H (upd (upd H2 ah (.lst (as'.map V.ref))) mt (.lst (ms.map V.ref++[.ref b]))):=aH (aH sm nah) hmt;have nl:H l=none:=s4.free (s3.free hl);exact aH (aH (s4.trans s3) nl) nah
     · rw [ae hne.symm,ae l2.symm,s3 mt _ ac,List.map_append];rfl
     · rw [ac,List.map_append,List.map_reverse]
     · exact (a1.mono k2).append (.cons (a4.mono k2) .nil)
     · exact (a3.mono k2).append (a5.mono k3).reverse
     · rw [<- hw,List.append_assoc,List.reverse_append,List.reverse_append,List.reverse_reverse,gJ];show Ms++([x]++(bi x.kids++bi Us.reverse))=Ms++bi (x::Us.reverse);rw [bi,x.walk_eq];rfl
 · have hz:as=[]:=by
    cases as with
    | nil=>rfl
    | cons y ys=>simp at c
   subst hz;have hA0:As=[]:=List.length_eq_zero_iff.mp a2.length.symm;subst hA0;refine ⟨_,rfl,k mt ms H2 sm hmt e1 ?_⟩;have hw':Ms=t.walk:=by simpa [bi] using hw
   rw [<- hw'];exact a1
inductive j3 (vs:List V) (H:Hp) (Q:VK) (_E:XK):Prop
 | mk (a:Addr) (t:Th) (zz0:vs=[.ref a]) (zz1:At H t a) (zz2:t.size<=100000) (zz3:t.tall<=100000) (zz4:∀ (r:Addr) (as:List Addr) (H':Hp),L2.Same H H'->H r=none->H' r=some (.lst (as.map V.ref))->PsAt H' (t.pl []) as->Q (.ref r) H'):j3  vs H Q _E
def p5:Sp:=j3
theorem qv:aW P w K mg base CX0 2 T.g_placed.f T.g_placed.d ["thing"] p5:=by
 refine T.g_placed.F.ok cZ (fun vs H Q E h=>?_) (fun cdv A outer s H vs Q E hr h=>?_)
 · obtain ⟨a,t,rfl,_⟩:=h;rfl
 obtain ⟨a,t,rfl,hA,hsz,htl,k⟩:=h
 refine ⟨_,(ag (ar (i:=1) cZ.nd rfl (Or.inl rfl) (aM ad))
  (ag (ar (i:=2) cZ.nd rfl (Or.inl rfl) (aM (ab (aU (ab (aU ad) (ab (pv 0) ad))) ad)))
  (ag (fG PassesOwn.never (b9 (pv 2) (fun _=>rfl)) (ag (iS (qD PySem.F.plainAttrs_list PySem.F.slot_list_pop PySem.F.type_list_pop rD (pv 2)) (bV rfl (aF (aq (i:=3) cZ.nd rfl (Or.inr rfl)) (aF (aq (i:=4) cZ.nd rfl (Or.inl rfl)) bD))))
  (ag (bm (ci PySem.F.plainAttrs_list PySem.F.slot_list_append PySem.F.type_list_append aV (pv 1) (ab (aU (ab (pv 3) (ab (pv 4) ad))) ad)))
  (ag (fN (i:=5) (N:=[Str.ofString "number",Str.ofString "kid",Str.ofString "place"]) (js:=[none,none,some 3]) (g:=(oo K 2 (eT (aE 0) (eT (aE 1) oi)))) (tt:=bK) (te:=(rF (bM (tOp (qK K) (bv 2) (rF (bM (bv 0) fT))) (bM (bv 1) fT)))) cZ.nd rfl (Or.inl rfl) rfl (cw rfl (by decide +kernel) (by decide +kernel) rfl rfl rfl) (o0 rfl T.n_enumerate (pcF T.g_kids_of (gC T) hr (ab (pv 4) ad))) (fun _ _ _ _ _ _=>(bV rfl (aF (aq (i:=0) vH rfl (Or.inl rfl)) (aF (aq (i:=1) vH rfl (Or.inl rfl)) bD)))) (jR (cG bL (aS rfl) (cG bL (aS rfl) kb))) (fun _ _ _ _ _ _=>b6) (fun _ _ _ _ _ _=>(aU (ab (av fS (pv 2) (aU (ab (pv 0) ad))) (ab (pv 1) ad)))))
  (aj (bm (ci PySem.F.plainAttrs_list PySem.F.slot_list_extend PySem.F.type_list_extend qh (pv 2) (ab (o8 tz (pv 5)) ad))))))))
  (aj (aD (pv 1)))))),?_⟩
 try dsimp only [cxK,cxKn]
 refine ⟨am (by show 0<=1000000;decide),fun mt hmt=>?_⟩;have s1:L2.Same H (upd H mt (.lst [])):=af hmt _;have em1:(upd H mt (.lst [])) mt=some (.lst []):=ac;generalize upd H mt (.lst [])=H1 at s1 em1 ⊢;refine ⟨am (by show 0<=1000000;decide),fun p0 hp0=>?_⟩;refine ⟨_,rfl,am (by show 2<=1000000;decide),fun p1 hp1=>?_⟩;refine ⟨am (by show 1<=1000000;decide),fun ah hah=>?_⟩;have s2:L2.Same H1 (upd (upd H1 p0 (.tup [])) p1 (.tup [.ref p0,.ref a])):=(af hp0 _).trans (af hp1 _);have e1:(upd (upd H1 p0 (.tup [])) p1 (.tup [.ref p0,.ref a])) p1=some (.tup [.ref p0,.ref a]):=ac;have e0:(upd (upd H1 p0 (.tup [])) p1 (.tup [.ref p0,.ref a])) p0=some (.tup []):=af hp1 _ _ _ ac;generalize (upd (upd H1 p0 (.tup [])) p1 (.tup [.ref p0,.ref a]))=H2 at s2 e1 e0 hah ⊢;have nah1:H1 ah=none:=s2.free hah;have nah:H ah=none:=s1.free nah1;have hne:ah≠mt:=fun z=>by rw [z,em1] at nah1;cases nah1
 refine ⟨fun m σ H3=>Ex7 fun (ms as:List Addr) (Ms As:List (List Int×Th)) (c3 c4 c5:Option V)=>An9 (σ=[some (.ref a),some (.ref mt),some (.ref ah),c3,c4,c5]) (L2.Same H H3) (H3 mt=some (.lst (ms.map V.ref))) (H3 ah=some (.lst (as.map V.ref))) (PsAt H3 Ms ms) (PsAt H3 As as) (Ms++plP As.reverse=t.pl []) ((∀ p∈As,p.1.length+p.2.tall<=100000)) (m=szP As),⟨_,[],[p1],[],[([],t)],none,none,none,rfl,?_,?_,?_,.nil,.cons ⟨p0,a,?_,?_,?_⟩ .nil,?_,?_,rfl⟩,?_⟩
 · exact aH (s1.trans s2) nah
 · rw [ae hne.symm];exact s2 _ _ em1
 · rw [ac];rfl
 · exact af hah _ _ _ e1
 · exact af hah _ _ _ e0
 · exact hA.mono (Same.kt (aH (s1.trans s2) nah))
 · simp [plP]
 · intro p hp;rw [List.mem_singleton] at hp;subst hp;simpa using htl
 rintro m σ H3 ⟨ms,as,Ms,As,c3,c4,c5,rfl,sm,em,ea,a1,a2,hw,hb,rfl⟩
 have hlen:ms.length+szP As<=100000:=by
  have h1:=congrArg List.length hw;rw [List.length_append,pw,Th.pl_len,pL] at h1;have h2:=Paired.length a1;omega
 refine ⟨_,rfl,_,.inl ⟨_,SqL.of ea,rfl⟩,?_⟩;refine dw (fun c=>?_) (fun c=>?_)
 · refine ⟨fun σ' H'=>∃ m',m'<szP As/\Ex7 fun (ms as:List Addr) (Ms As:List (List Int×Th)) (c3 c4 c5:Option V)=>An9 (σ'=[some (.ref a),some (.ref mt),some (.ref ah),c3,c4,c5]) (L2.Same H H') (H' mt=some (.lst (ms.map V.ref))) (H' ah=some (.lst (as.map V.ref))) (PsAt H' Ms ms) (PsAt H' As as) (Ms++plP As.reverse=t.pl []) ((∀ p∈As,p.1.length+p.2.tall<=100000)) (m'=szP As),fun σ' H' h=>h,?_⟩;have hne0:as≠[]:=by intro z;subst z;simp at c
   refine hid fun ZZ kZ=>?_;obtain ⟨as',b,rfl⟩:∃ as' b,as=as'++[b]:=⟨as.dropLast,as.getLast hne0,(List.dropLast_concat_getLast hne0).symm⟩;obtain ⟨Us,⟨pre,x⟩,rfl,a3,pa,ta,eb,epa,hta⟩:=P2.snoc_inv a2;refine kZ ?_;have hsP:szP (Us++[(pre,x)])=szP Us+x.size:=by rw [ej,szP,szP];rfl
   have hxs:=x.size_eq;rw [hsP] at hlen;have hbx:=hb (pre,x) (by simp);simp only at hbx epa hta;refine ⟨_,rfl,.inl ⟨rfl,_,SqL.of ea⟩,ah,_,.ref b,rfl,rfl,ea,by simp,?_⟩;have d1:((as'++[b]).map V.ref).dropLast=as'.map V.ref:=by simp
   rw [d1];have k1:KT H3 (upd H3 ah (.lst (as'.map V.ref))):=bt ea;have sm1:L2.Same H (upd H3 ah (.lst (as'.map V.ref))):=aH sm nah;have em2:(upd H3 ah (.lst (as'.map V.ref))) mt=some (.lst (ms.map V.ref)):=by rw [ae hne.symm];exact em
   have ea2:(upd H3 ah (.lst (as'.map V.ref))) ah=some (.lst (as'.map V.ref)):=ac;generalize (upd H3 ah (.lst (as'.map V.ref)))=H4 at k1 sm1 em2 ea2 ⊢;refine ⟨b,_,rfl,SqT.of (k1 _ _ eb),rfl,_,_,rfl,_,_,rfl,rfl,?_⟩
   -- met.append((place,part))
   refine ⟨_,rfl,.inl ⟨rfl,_,SqL.of em2⟩,_,rfl,_,rfl,am (by show 2<=1000000;decide),fun pr hpr=>?_⟩;have hprm:mt≠pr:=au em2 hpr;refine ⟨mt,_,_,rfl,rfl,af hpr _ _ _ em2,aK (by rw [List.length_map];omega),?_⟩;have em2':(upd H4 pr (.tup [.ref pa,.ref ta])) mt=some (.lst (ms.map V.ref)):=af hpr _ _ _ em2;have k2:KT H4 (upd (upd H4 pr (.tup [.ref pa,.ref ta])) mt (.lst (ms.map V.ref++[.ref pr]))):=(gx hpr).trans (bt em2');have sm2:L2.Same H (upd (upd H4 pr (.tup [.ref pa,.ref ta])) mt (.lst (ms.map V.ref++[.ref pr]))):=aH (aH sm1 (sm1.free hpr)) hmt;have em3:(upd (upd H4 pr (.tup [.ref pa,.ref ta])) mt (.lst (ms.map V.ref++[.ref pr]))) mt=some (.lst ((ms++[pr]).map V.ref)):=by rw [ac,List.map_append];rfl
   have ea3:(upd (upd H4 pr (.tup [.ref pa,.ref ta])) mt (.lst (ms.map V.ref++[.ref pr]))) ah=some (.lst (as'.map V.ref)):=by rw [ae hne,ae (au ea2 hpr)];exact ea2
   have epr:(upd (upd H4 pr (.tup [.ref pa,.ref ta])) mt (.lst (ms.map V.ref++[.ref pr]))) pr=some (.tup [.ref pa,.ref ta]):=by rw [ae hprm.symm,ac]
   generalize (upd (upd H4 pr (.tup [.ref pa,.ref ta])) mt (.lst (ms.map V.ref++[.ref pr])))=H5 at k2 sm2 em3 ea3 epr ⊢;have k35:KT H3 H5:=k1.trans k2;have epa5:=k35 _ _ epa
   -- kids
   refine ⟨_,rfl,ta,x,rfl,hta.mono k35,fun r ks H6 s6 er hks=>⟨r,rfl,⟨_,SqT.of er⟩,?_⟩⟩;have hkl:ks.length=x.kids.length:=hks.length;have hkz:=d3 x.kids;intro D hD;have epa6:=s6 _ _ epa5;refine ⟨ks.length,fun j H7=>An3 (j<=ks.length) (L2.Same H6 H7) (Ex1 fun (bs:List Addr)=>An2 (H7 D=some (.lst (bs.map V.ref))) (PsAt H7 ((dZ pre 0 x.kids).take j) bs)),⟨Nat.zero_le _,af hD _,[],ac,.nil⟩,?_⟩;rintro j H7 ⟨hj,s7,bs,eD,hbs⟩;by_cases hjk:j=ks.length
   · left;refine ⟨⟨_,SqT.of (s7 _ _ er),by rw [List.length_map];exact hjk.symm⟩,?_⟩;have hall:(dZ pre 0 x.kids).take j=dZ pre 0 x.kids:=by rw [hjk,hkl,<- jD pre 0 x.kids,List.take_length]
     rw [hall] at hbs;have ea7:=s7 _ _ (s6 _ _ ea3);have em7:=s7 _ _ (s6 _ _ em3)
     have hbl:bs.length=x.kids.length:=by
      have:=Paired.length hbs;rw [jD] at this;exact this.symm
     refine ⟨_,rfl,.inl ⟨rfl,_,SqL.of ea7⟩,_,rfl,D,_,rfl,SqL.of eD,fun l hl=>?_⟩;have hla:ah≠l:=au ea7 hl;have hlm:mt≠l:=au em7 hl;have ea8:(upd H7 l (.lst (bs.map V.ref).reverse)) ah=some (.lst (as'.map V.ref)):=by rw [ae hla];exact ea7
     have q3:as'.length=Us.length:=(Paired.length a3).symm;have q4:=pJ Us;refine ⟨ah,l,_,_,rfl,rfl,ea8,ac,am ?_,?_⟩
     · rw [List.length_map,List.length_reverse,List.length_map];omega
     have k8:KT H7 (upd (upd H7 l (.lst (bs.map V.ref).reverse)) ah (.lst (as'.map V.ref++(bs.map V.ref).reverse))):=(gx hl).trans (bt ea8);have k38:KT H3 (upd (upd H7 l (.lst (bs.map V.ref).reverse)) ah (.lst (as'.map V.ref++(bs.map V.ref).reverse))):=k35.trans ((Same.kt (s6.trans s7)).trans k8);refine ⟨szP (Us++(dZ pre 0 x.kids).reverse),?_,ms++[pr],as'++bs.reverse,Ms++[(pre,x)],Us++(dZ pre 0 x.kids).reverse,_,_,_,rfl,?_,?_,?_,?_,?_,?_,?_,rfl⟩
     · rw [ej,pL,nC,hsP];omega
     · exact aH (aH ((sm2.trans s6).trans s7) ((sm2.trans s6).trans s7 |>.free hl)) nah
     · rw [ae hne.symm,ae hlm];exact em7
     · rw [ac,List.map_append,List.map_reverse]
     · exact P2.append (a1.mono k38) (.cons ⟨pa,ta,k8 _ _ (s7 _ _ (s6 _ _ epr)),k38 _ _ epa,hta.mono k38⟩ .nil)
     · exact P2.append (PsAt.mono k38 a3) (P2.reverse (PsAt.mono k8 hbs))
     · rw [<- hw,List.append_assoc,List.reverse_append,List.reverse_append,List.reverse_reverse,jM,mY];show Ms++([(pre,x)]++(pls pre 0 x.kids++plP Us.reverse))=Ms++plP ((pre,x)::Us.reverse);rw [plP,x.pl_eq pre];rfl
     · intro p hp;rcases List.mem_append.mp hp with hp | hp
       · exact hb p (List.mem_append_left _ hp)
       · obtain ⟨g1,g2⟩:=nn pre 0 x.kids p (List.mem_reverse.mp hp);have:=lO g2;omega
   · right;have hj':j<ks.length:=by omega
     refine ⟨hj',⟨_,.ref ks[j],SqT.of (s7 _ _ er),by rw [List.getElem?_map,List.getElem?_eq_getElem hj'];rfl⟩,?_⟩;rintro y H8 ⟨p,v,hp,rfl,rfl,hv⟩;have hv':=hv _ (SqT.of (s7 _ _ er));obtain ⟨kd,rfl,hkd⟩:=bc hv';obtain ⟨tk,htk,atk⟩:=hks.get hkd;have s8:L2.Same H7 (upd H7 p (.tup [.int (j:Nat),.ref kd])):=af hp _;refine ⟨p,_,rfl,SqT.of ac,rfl,_,_,rfl,_,_,rfl,rfl,?_⟩;generalize (upd H7 p (.tup [.int (j:Nat),.ref kd]))=H8 at s8 ⊢;refine ⟨_,rfl,_,rfl,am (by show 1<=1000000;decide),fun n1 hn1=>?_⟩;have s9:L2.Same H8 (upd H8 n1 (.tup [.int (j:Nat)])):=af hn1 _;have e9:(upd H8 n1 (.tup [.int (j:Nat)])) n1=some (.tup [.int (j:Nat)]):=ac;generalize (upd H8 n1 (.tup [.int (j:Nat)]))=H9 at s9 e9 ⊢;refine pP (s9 _ _ (s8 _ _ (s7 _ _ epa6))) e9 (by rw [List.length_map];show pre.length+1<=1000000;omega) fun n2 H10 s10 e10=>?_;refine ⟨_,rfl,am (by show 2<=1000000;decide),fun n3 hn3=>?_⟩;have s11:L2.Same H7 (upd H10 n3 (.tup [.ref n2,.ref kd])):=(s8.trans (s9.trans s10)).trans (af hn3 _);have eD11:=s11 _ _ eD;refine ⟨_,eD11,aK ?_,hj',?_,bs++[n3],?_,?_⟩
     · have:=Paired.length hbs;rw [List.length_take] at this;rw [List.length_map];omega
     · exact aH (s7.trans s11) hD
     · rw [ac,List.map_append];rfl
     · have k12:KT (upd H10 n3 (.tup [.ref n2,.ref kd])) (upd (upd H10 n3 (.tup [.ref n2,.ref kd])) D (.lst (bs.map V.ref++[.ref n3]))):=bt eD11;rw [List.take_add_one,mN pre 0 x.kids j tk htk];refine P2.append (PsAt.mono ((Same.kt s11).trans k12) hbs) (.cons ⟨n2,kd,k12 _ _ ac,k12 _ _ (af hn3 _ _ _ ?_),?_⟩ .nil)
       · rw [e10,List.map_append,Int.zero_add];rfl
       · exact atk.mono ((Same.kt (s7.trans s11)).trans k12)
 · have hz:as=[]:=by
    cases as with
    | nil=>rfl
    | cons y ys=>simp at c
   subst hz;have hA0:As=[]:=List.length_eq_zero_iff.mp (Paired.length a2);subst hA0;refine ⟨_,rfl,k mt ms H3 sm hmt em ?_⟩;have hw':Ms=t.pl []:=by simpa [plP] using hw
   rw [<- hw'];exact a1
inductive jc (vs:List V) (H:Hp) (Q:VK) (_E:XK):Prop
 | mk (a:Addr) (t:Th) (zz0:vs=[.ref a]) (zz1:At H t a) (zz2:Q (.bl t.isCall) H):jc  vs H Q _E
def jA:Sp:=jc
theorem jF:aW P w K mg base CX0 1 T.g_is_call.f T.g_is_call.d ["thing"] jA:=by
 refine T.g_is_call.F.ok oh (fun vs H Q E h=>?_) (fun cdv A outer s H vs Q E hr h=>?_)
 · obtain ⟨a,t,rfl,_⟩:=h;rfl
 obtain ⟨a,t,rfl,hA,k⟩:=h;refine ⟨_,(aj (aD (ef eR (az aA (pv 0) ai (fun _ _=>rfl)) (bX (v:=.str (Str.ofString "?")) rfl T.c_CALL_SIGN.choose_spec ⟨_,rfl⟩) (aR _)))),?_⟩
 try dsimp only [cxK,cxKn]
 cases t with
 | knot n ks =>
   rw [At] at hA;refine hid fun ZZ kZ=>?_;obtain ⟨hn,as,h1,h2⟩:=hA;refine kZ ?_;refine ⟨_,rfl,a,_,0,.str n,rfl,rfl,SqT.of h1,at0,rfl,?_⟩;have e:decide (V.str n=V.str (Str.ofString "?"))=false:=decide_eq_false (fun z=>hn (V.str.inj z));rw [e];exact k
 | call sn kn =>
   rw [At] at hA;refine ⟨_,rfl,a,_,0,.str q,rfl,rfl,SqT.of hA,at0,rfl,?_⟩;have e:decide (V.str q=V.str (Str.ofString "?"))=true:=decide_eq_true rfl;rw [e];exact k
inductive f9 (vs:List V) (H:Hp) (Q:VK) (_E:XK):Prop
 | mk (a:Addr) (sn kn:Int) (zz0:vs=[.ref a]) (zz1:At H (.call sn kn) a) (zz2:∀ p,H p=none->Q (.ref p) (upd H p (.tup [.int sn,.int kn]))):f9  vs H Q _E
def g9:Sp:=f9
theorem mD:aW P w K mg base CX0 1 T.g_called_by.f T.g_called_by.d ["call"] g9:=by
 refine T.g_called_by.F.ok lN (fun vs H Q E h=>?_) (fun cdv A outer s H vs Q E hr h=>?_)
 · obtain ⟨a,sn,kn,rfl,_⟩:=h;rfl
 obtain ⟨a,sn,kn,rfl,hA,k⟩:=h;refine ⟨_,(aj (aD (aU (ab (az aA (pv 0) ai (fun _ _=>rfl)) (ab (az aA (pv 0) ai (fun _ _=>rfl)) ad))))),?_⟩
 try dsimp only [cxK,cxKn]
 rw [At] at hA;exact ⟨_,rfl,a,_,1,_,rfl,rfl,SqT.of hA,at1,_,rfl,a,_,2,_,rfl,rfl,SqT.of hA,at2,am (by show 2<=1000000;decide),fun p hp=>k p hp⟩
inductive iV (vs:List V) (H:Hp) (Q:VK) (_E:XK):Prop
 | mk (a:Addr) (t:Th) (zz0:vs=[.ref a]) (zz1:At H t a) (zz2:t.tall<=150) (zz3:Q (.bl t.isHole) H):iV  vs H Q _E
def n9:Sp:=iV
theorem nV:aW P w K mg base CX0 1 T.g_is_hole.f T.g_is_hole.d ["thing"] n9:=by
 refine T.g_is_hole.F.ok oK (fun vs H Q E h=>?_) (fun cdv A outer s H vs Q E hr h=>?_)
 · obtain ⟨a,t,rfl,_⟩:=h;rfl
 obtain ⟨a,t,rfl,hA,htl,k⟩:=h;refine ⟨_,(aj (aD (ef (uI (B:=150) (jB hr)) (pv 0) (bX (v:=.ref T.a_HOLE) rfl T.c_HOLE rfl) (aR _)))),?_⟩
 try dsimp only [cxK,cxKn]
 refine ⟨_,rfl,?_⟩;cases t with
 | knot n ks =>
   rw [At] at hA;refine hid fun ZZ kZ=>?_;obtain ⟨hn,as,h1,h2⟩:=hA;refine kZ ?_;rw [Th.tall] at htl;have hd:=ju ks;refine ⟨a,T.a_HOLE,_,_,.str n::dvs ks,[.str oS],rfl,rfl,SqT.of h1,T.q_HOLE _,.cons (by rw [DAt]) h2.dvs,.cons (by rw [DAt];rfl) .nil,by rw [cK,Dv.deep];omega,fun b hb=>?_⟩
   have e:b=(Th.knot n ks).isHole:=by
    rw [Bool.eq_iff_iff,hb];show _↔decide (n=oS/\ks=[])=true;rw [decide_eq_true_iff];constructor
    · intro z;have z1:=List.cons.inj z;refine ⟨Dv.str.inj z1.1,?_⟩;cases ks with
      | nil=>rfl
      | cons x xs=>rw [dvs] at z1;cases z1.2
    · rintro ⟨z1,z2⟩;rw [z1,z2,dvs]
   rw [e];exact k
 | call sn kn =>
   rw [At] at hA;refine ⟨a,T.a_HOLE,_,_,[.str q,.int sn,.int kn],[.str oS],rfl,rfl,SqT.of hA,T.q_HOLE _,.cons (by rw [DAt]) (.cons (by rw [DAt]) (.cons (by rw [DAt]) .nil)),.cons (by rw [DAt];rfl) .nil,by simp [cK,Dv.deep],fun b hb=>?_⟩
   have e:b=(Th.call sn kn).isHole:=by
    show b=false;cases b with
    | false=>rfl
    | true=>exact absurd (hb.mp rfl) (by simp)
   rw [e];exact k
inductive iZ (vs:List V) (H:Hp) (Q:VK) (_E:XK):Prop
 | mk (a:Addr) (t:Th) (zz0:vs=[.ref a]) (zz1:At H t a) (zz2:t.tall<=150) (zz3:Q (.bl t.isKnot) H):iZ  vs H Q _E
def jT:Sp:=iZ
theorem nX:aW P w K mg base CX0 2 T.g_is_knot.f T.g_is_knot.d ["thing"] jT:=by
 refine T.g_is_knot.F.ok nZ (fun vs H Q E h=>?_) (fun cdv A outer s H vs Q E hr h=>?_)
 · obtain ⟨a,t,rfl,_⟩:=h;rfl
 obtain ⟨a,t,rfl,hA,htl,k⟩:=h;refine ⟨_,(aj (aD (ow (oq (pcF T.g_is_call (jF T) hr (ab (pv 0) ad))) (rb (oq (pcF T.g_is_hole (nV T) hr (ab (pv 0) ad))))))),?_⟩
 try dsimp only [cxK,cxKn]
 refine ⟨_,rfl,a,t,rfl,hA,_,rfl,_,rfl,?_⟩;refine dw (fun c=>?_) (fun c=>?_)
 · refine ⟨_,rfl,a,t,rfl,hA,htl,_,rfl,?_⟩;have e:t.isKnot=!t.isHole:=by unfold Th.isKnot;rw [c];rfl
   rw [e] at k;exact k
 · have e:t.isKnot=false:=by unfold Th.isKnot;rw [Bool.eq_false_iff.mpr c];rfl
   rw [e] at k;exact k
inductive gU (vs:List V) (H:Hp) (Q:VK) (_E:XK):Prop
 | mk (a:Addr) (t:Th) (zz0:vs=[.ref a]) (zz1:At H t a) (zz2:t.size<=100000) (zz3:t.tall<=100000) (zz4:∀ (r:Addr) (as:List Addr) (H':Hp),L2.Same H H'->H' r=some (.lst (as.map V.ref))->CsAt H' (ay (t.pl [])) as->Q (.ref r) H'):gU  vs H Q _E
def mK:Sp:=gU
theorem i9:aW P w K mg base CX0 3 T.g_calls_in.f T.g_calls_in.d ["pattern"] mK:=by
 refine T.g_calls_in.F.ok mQ (fun vs H Q E h=>?_) (fun cdv A outer s H vs Q E hr h=>?_)
 · obtain ⟨a,t,rfl,_⟩:=h;rfl
 obtain ⟨a,t,rfl,hA,hsz,htl,k⟩:=h;refine ⟨_,(aj (aD (bY (N:=[Str.ofString "place",Str.ofString "part"]) (js:=[none,none]) (g:=(oo K 2 (eT (aE 0) (eT (aE 1) oi)))) (tt:=(fun σ H Q=>(fW jA [] E0 (bM (bv 1) fT)) σ H fun x H1=>∃ k,sY K x H1 k/\Q k H1)) (te:=(rF (bM (bv 0) (bM (fW g9 [] E0 (bM (bv 1) fT)) fT)))) rfl (cw rfl (by decide +kernel) (by decide +kernel) rfl rfl rfl) (cI (pcF T.g_placed (qv T) hr (ab (pv 0) ad))) (fun _ _ _ _ _ _=>(bV rfl (aF (aq (i:=0) vL rfl (Or.inl rfl)) (aF (aq (i:=1) vL rfl (Or.inl rfl)) bD)))) (jR (cG bL (aS rfl) (cG bL (aS rfl) kb))) (fun _ _ _ _ _ _=>fP (b9 (pcF T.g_is_call (jF T) hr (ab (pv 1) ad)) (fun _=>rfl))) (fun _ _ _ _ _ _=>(aU (ab (pv 0) (ab (pcF T.g_called_by (mD T) hr (ab (pv 1) ad)) ad))))))),?_⟩
 try dsimp only [cxK,cxKn]
 refine ⟨_,rfl,a,t,rfl,hA,hsz,htl,fun r as H1 s1 nr er hps=>⟨r,rfl,⟨_,SqL.of er⟩,?_⟩⟩;have hal:(t.pl []).length=as.length:=Paired.length hps;have hpl:=Th.pl_len [] t;intro D hD;refine ⟨as.length,fun j H2=>An3 (j<=as.length) (L2.Same H1 H2) (Ex1 fun (bs:List Addr)=>An2 (H2 D=some (.lst (bs.map V.ref))) (CsAt H2 (ay ((t.pl []).take j)) bs)),⟨Nat.zero_le _,af hD _,[],ac,.nil⟩,?_⟩;rintro j H2 ⟨hj,s2,bs,eD,hbs⟩;by_cases hjk:j=as.length
 · left;refine ⟨⟨_,SqL.of (s2 _ _ er),by rw [List.length_map,hjk];exact Nat.le_refl _⟩,?_⟩;have hall:(t.pl []).take j=t.pl []:=by rw [hjk,<- hal,List.take_length]
   rw [hall] at hbs;exact k D bs H2 (s1.trans s2) eD hbs
 · right;have hj':j<as.length:=by omega
   refine ⟨hj',⟨_,.ref as[j],SqL.of (s2 _ _ er),by rw [List.getElem?_map,List.getElem?_eq_getElem hj'];rfl⟩,?_⟩;rintro y H3 ⟨rfl,hv⟩;have hv':=hv _ (SqL.of (s2 _ _ er));refine hid fun ZZ kZ=>?_;obtain ⟨pr,rfl,hpr⟩:=bc hv';obtain ⟨⟨p,u⟩,hpu,pa,ta,e1,e2,e3⟩:=P2.get' (hps.mono (Same.kt s2)) hpr;refine kZ ?_;simp only at e2 e3;have htk:(t.pl []).take (j+1)=(t.pl []).take j++[(p,u)]:=by rw [List.take_add_one,hpu];rfl
   have hbl:bs.length<=j:=by
    have g1:=Paired.length hbs;have g2:=dF ((t.pl []).take j);rw [List.length_take] at g2;omega
   refine ⟨pr,_,rfl,SqT.of e1,rfl,_,_,rfl,_,_,rfl,rfl,?_⟩;refine ⟨_,rfl,ta,u,rfl,e3,_,rfl,?_⟩;cases u with
   | knot n ks =>
     refine sS ⟨hj',s2,bs,eD,?_⟩;rw [htk,dm];show CsAt H3 (ay ((t.pl []).take j)++[]) bs;rw [List.append_nil];exact hbs
   | call sn kn =>
     refine qy ?_;refine ⟨_,rfl,_,rfl,ta,sn,kn,rfl,e3,fun ca hca=>⟨am (by show 2<=1000000;decide),fun n3 hn3=>?_⟩⟩;have s4:L2.Same H3 (upd (upd H3 ca (.tup [.int sn,.int kn])) n3 (.tup [.ref pa,.ref ca])):=(af hca _).trans (af hn3 _);have eD4:=s4 _ _ eD;refine ⟨_,eD4,aK (by rw [List.length_map];omega),hj',aH (s2.trans s4) hD,bs++[n3],?_,?_⟩
     · rw [ac,List.map_append];rfl
     · have k5:KT (upd (upd H3 ca (.tup [.int sn,.int kn])) n3 (.tup [.ref pa,.ref ca])) (upd (upd (upd H3 ca (.tup [.int sn,.int kn])) n3 (.tup [.ref pa,.ref ca])) D (.lst (bs.map V.ref++[.ref n3]))):=bt eD4;rw [htk,dm];exact P2.append (CsAt.mono ((Same.kt s4).trans k5) hbs) (.cons ⟨pa,ca,k5 _ _ ac,k5 _ _ (s4 _ _ e2),k5 _ _ (af hn3 _ _ _ ac)⟩ .nil)
inductive nP (vs:List V) (H:Hp) (Q:VK) (_E:XK):Prop
 | mk (a:Addr) (t:Th) (zz0:vs=[.ref a]) (zz1:At H t a) (zz2:t.size<=100000) (zz3:∀ H',L2.Same H H'->Q (.int (t.tall:Nat)) H'):nP  vs H Q _E
def o4:Sp:=nP
theorem tF:aW P w K mg base CX0 2 T.g_tall.f T.g_tall.d ["tree"] o4:=by
 refine T.g_tall.F.ok eE (fun vs H Q E h=>?_) (fun cdv A outer s H vs Q E hr h=>?_)
 · obtain ⟨a,t,rfl,_⟩:=h;rfl
 obtain ⟨a,t,rfl,hA,hsz,k⟩:=h
 refine ⟨_,(ag (ar (i:=1) eE.nd rfl (Or.inl rfl) (aM (ab (pv 0) ad)))
  (ag (ar (i:=2) eE.nd rfl (Or.inl rfl) ai)
  (ag (fG PassesOwn.never (b9 (pv 1) (fun _=>rfl)) (ag (ut (i:=2) eE.nd rfl (Or.inl rfl) ai uo)
  (ag (ar (i:=3) eE.nd rfl (Or.inl rfl) (aM ad))
  (ag (bB PassesOwn.never rfl (cI (pv 1)) (aq (i:=4) eE.nd rfl (Or.inl rfl)) (aj (bm (ci PySem.F.plainAttrs_list PySem.F.slot_list_extend PySem.F.type_list_extend jS (pv 3) (ab (pcF T.g_kids_of (gC T) hr (ab (pv 4) ad)) ad)))))
  (aj (ar (i:=1) eE.nd rfl (Or.inl rfl) (pv 3)))))))
  (aj (aD (pv 2)))))),?_⟩
 try dsimp only [cxK,cxKn]
 refine ⟨_,rfl,am (by show 1<=1000000;decide),fun lv hlv=>?_⟩;refine ⟨fun m σ H2=>Ex6 fun (lv:Addr) (as:List Addr) (Ls:List Th) (r:Int) (c3 c4:Option V)=>An7 (σ=[some (.ref a),some (.ref lv),some (.int r),c3,c4]) (L2.Same H H2) (H2 lv=some (.lst (as.map V.ref))) (Ats H2 Ls as) (aw Ls<=100000) (r+(aC Ls:Nat)=(t.tall:Nat)) (m=aC Ls),⟨_,lv,[a],[t],0,none,none,rfl,af hlv _,ac,.cons (hA.mono (gx hlv)) .nil,by rw [aw,aw];omega,by rw [aC,aC];omega,rfl⟩,?_⟩;rintro m σ H2 ⟨lv,as,Ls,r,c3,c4,rfl,s2,elv,hLs,hz,hr',rfl⟩;refine ⟨_,rfl,_,.inl ⟨_,SqL.of elv,rfl⟩,?_⟩;refine dw (fun c=>?_) (fun c=>?_)
 · have hne:Ls≠[]:=by
    intro z;subst z;rw [Ats] at hLs;subst hLs;simp at c
   have ht:=ik hne;have hks:=eL Ls;have hll:as.length=Ls.length:=hLs.length;refine ⟨fun σ' H'=>∃ m',m'<aC Ls/\Ex6 fun (lv:Addr) (as:List Addr) (Ls:List Th) (r:Int) (c3 c4:Option V)=>An7 (σ'=[some (.ref a),some (.ref lv),some (.int r),c3,c4]) (L2.Same H H') (H' lv=some (.lst (as.map V.ref))) (Ats H' Ls as) (aw Ls<=100000) (r+(aC Ls:Nat)=(t.tall:Nat)) (m'=aC Ls),fun σ' H' h=>h,?_⟩;refine ⟨_,rfl,_,_,rfl,rfl,?_⟩;refine ⟨am (by show 0<=1000000;decide),fun bn hbn=>?_⟩;have hbl:lv≠bn:=au elv hbn;refine ⟨_,rfl,lv,rfl,⟨_,SqL.of (af hbn _ _ _ elv)⟩,?_⟩
   refine io (K:=K) (a:=lv) (xs:=as.map V.ref) (fun i σ H3=>Ex2 fun c4 bs=>An4 (σ=[some (.ref a),some (.ref lv),some (.int (r+1)),some (.ref bn),c4]) (L2.Same H2 H3) (H3 bn=some (.lst (bs.map V.ref))) (Ats H3 (bd (Ls.take i)) bs))
    ⟨c4,[],rfl,af hbn _,ac,.nil⟩ (fun i σ H3 _ ⟨_,_,_,s3,_,_⟩=>SqL.of (s3 _ _ elv)) ?_ ?_
   · rintro i x σ H3 hx ⟨c4,bs,rfl,s3,ebn,hbs⟩;obtain ⟨xa,rfl,hxa⟩:=bc hx;obtain ⟨tx,htx,atx⟩:=(hLs.mono (Same.kt s3)).get hxa;have htk:Ls.take (i+1)=Ls.take i++[tx]:=by rw [List.take_add_one,htx];rfl
     refine ⟨_,rfl,.inl ⟨rfl,_,SqL.of ebn⟩,_,rfl,xa,tx,rfl,atx,fun kr kas H4 s4 ekr hkr=>?_⟩;have ebn4:=s4 _ _ ebn
     have hle:bs.length+kas.length<=100000:=by
      have g1:=hbs.length;have g2:=hkr.length;have g3:(bd (Ls.take (i+1))).length<=aw (bd (Ls.take (i+1))):=d3 _;have g4:=eL (Ls.take (i+1));have g5:=kx (i+1) Ls
      have g6:bd (Ls.take (i+1))=bd (Ls.take i)++tx.kids:=by
       rw [htk,fe,cB];show _++(tx.kids++bd [])=_;unfold bd;simp
      rw [g6,List.length_append] at g3;rw [g6] at g4;omega
     refine ⟨bn,kr,_,_,rfl,rfl,ebn4,SqT.of ekr,am (by rw [List.length_map,List.length_map];omega),?_⟩;have k5:KT H4 (upd H4 bn (.lst (bs.map V.ref++kas.map V.ref))):=bt ebn4;refine ⟨_,bs++kas,rfl,aH (s3.trans s4) hbn,by rw [ac,List.map_append],?_⟩;rw [htk,fe,cB];refine (hbs.mono ((Same.kt s4).trans k5)).append ?_;have:tx.kids++bd []=tx.kids:=by unfold bd;simp
     rw [this];exact hkr.mono k5
   · rintro σ H3 ⟨c4,bs,rfl,s3,ebn,hbs⟩;rw [List.length_map,hll,List.take_length] at hbs;refine ⟨_,rfl,aC (bd Ls),by omega,bn,bs,bd Ls,r+1,_,_,rfl,s2.trans s3,ebn,hbs,by omega,by omega,rfl⟩
 · have hz0:as=[]:=by
    cases as with
    | nil=>rfl
    | cons y ys=>simp at c
   subst hz0;have hA0:Ls=[]:=List.length_eq_zero_iff.mp hLs.length.symm;subst hA0;rw [aC] at hr';refine ⟨_,rfl,?_⟩;have:r=((t.tall:Nat):Int):=by omega
   rw [this];exact k H2 s2
def oA:Sp:=o4
theorem oR:aW P w K mg base CX0 3 T.g_tall_of.f T.g_tall_of.d ["pattern"] oA:=by
 refine T.g_tall_of.F.ok oG (fun vs H Q E h=>?_) (fun cdv A outer s H vs Q E hr h=>?_)
 · obtain ⟨a,t,rfl,_⟩:=h;rfl
 obtain ⟨a,t,rfl,hA,hsz,k⟩:=h;refine ⟨_,(aj (aD (pcF T.g_tall (tF T) hr (ab (pv 0) ad)))),?_⟩
 try dsimp only [cxK,cxKn]
 exact ⟨_,rfl,a,t,rfl,hA,hsz,k⟩
inductive gR (vs:List V) (H:Hp) (Q:VK) (_E:XK):Prop
 | mk (a:Addr) (t:Th) (zz0:vs=[.ref a]) (zz1:At H t a) (zz2:t.size<=100000) (zz3:t.tall<=150) (zz4:∀ H',L2.Same H H'->Q (.int ((t.walk.filter Th.isKnot).length:Nat)) H'):gR  vs H Q _E
def mH:Sp:=gR
theorem mW:aW P w K mg base CX0 3 T.g_knots_of.f T.g_knots_of.d ["pattern"] mH:=by
 refine T.g_knots_of.F.ok nw (fun vs H Q E h=>?_) (fun cdv A outer s H vs Q E hr h=>?_)
 · obtain ⟨a,t,rfl,_⟩:=h;rfl
 obtain ⟨a,t,rfl,hA,hsz,htl,k⟩:=h;refine ⟨_,(aj (aD (aG aB rfl T.n_len PySem.boot_len (ab (bY (N:=[Str.ofString "part"]) (js:=[none]) (g:=(aE 0)) (tt:=(fun σ H Q=>(fW jT [] E0 (bM (bv 0) fT)) σ H fun x H1=>∃ k,sY K x H1 k/\Q k H1)) (te:=(bv 0)) rfl (cw rfl (by decide +kernel) (by decide +kernel) rfl rfl rfl) (cI (pcF T.g_walked (pS T) hr (ab (pv 0) ad))) (fun _ _ _ _ _ _=>(aq (i:=0) wa rfl (Or.inl rfl))) (aS rfl) (fun _ _ _ _ _ _=>fP (b9 (pcF T.g_is_knot (nX T) hr (ab (pv 0) ad)) (fun _=>rfl))) (fun _ _ _ _ _ _=>(pv 0))) ad)))),?_⟩
 try dsimp only [cxK,cxKn]
 refine ⟨_,rfl,a,t,rfl,hA,hsz,fun r as H1 s1 nr er hw=>⟨r,rfl,⟨_,SqL.of er⟩,?_⟩⟩;have hwl:as.length=t.walk.length:=hw.length;have hwz:=Th.walk_len t;have hzl:(t.walk.zip as).length=(as.map V.ref).length:=by rw [List.length_zip,List.length_map];omega
 have hpart:∀ (i:Nat) (x:V) (z:Th×Addr),(as.map V.ref)[i]?=some x->(t.walk.zip as)[i]?=some z->x=.ref z.2/\At H1 z.1 z.2/\z.1.tall<=150:=by
  intro i x z hx hz;obtain ⟨xa,rfl,hxa⟩:=bc hx;obtain ⟨tx,htx,atx⟩:=hw.get hxa;rw [List.getElem?_zip_eq_some] at hz;obtain ⟨g1,g2⟩:=hz;rw [htx] at g1;rw [hxa] at g2;cases g1;cases g2;refine ⟨rfl,atx,?_⟩;have:=qw t z.1 (List.mem_of_getElem? htx);omega
 refine mh (t.walk.zip as) (fun z=>z.1.isKnot) (fun z=>.ref z.2) (SqL.of er) hzl (by rw [List.length_map];omega) (fun i x z H2 R hx hz sm r=>?_) (fun i x z H2 R hx hz _ sm r=>?_) (fun D hD=>?_)
 · obtain ⟨rfl,g2,g3⟩:=hpart i x z hx hz;exact ⟨_,rfl,z.2,z.1,rfl,g2.mono (Same.kt sm),g3,_,rfl,r⟩
 · obtain ⟨rfl,g2,g3⟩:=hpart i x z hx hz;exact ⟨_,rfl,r⟩
 · refine ⟨D,_,rfl,.inl (SqL.of ac),?_⟩
   have e:(((t.walk.zip as).filter fun z=>z.1.isKnot).map fun z=>V.ref z.2).length=(t.walk.filter Th.isKnot).length:=by
    rw [List.length_map];have h1:t.walk=(t.walk.zip as).map Prod.fst:=by rw [List.map_fst_zip (by omega)]
    have h2:t.walk.filter Th.isKnot=((t.walk.zip as).filter fun z=>z.1.isKnot).map Prod.fst:=by
     conv=>lhs;rw [h1]
     rw [List.filter_map];rfl
    rw [h2,List.length_map]
   rw [e];exact k _ (s1.trans (af hD _))
inductive jZ (vs:List V) (H:Hp) (Q:VK) (_E:XK):Prop
 | mk (b:Addr) (v1 v2 v3 v4:V) (zz0:vs=[.ref b]) (zz1:H b=some (.tup [v1,v2,v3,v4])) (zz2:Q v1 H):jZ  vs H Q _E
def p8:Sp:=jZ
inductive gO (vs:List V) (H:Hp) (Q:VK) (_E:XK):Prop
 | mk (b:Addr) (v1 v2 v3 v4:V) (zz0:vs=[.ref b]) (zz1:H b=some (.tup [v1,v2,v3,v4])) (zz2:Q v4 H):gO  vs H Q _E
def na:Sp:=gO
theorem qg:aW P w K mg base CX0 1 T.g_ins_of.f T.g_ins_of.d ["book"] p8:=by
 refine T.g_ins_of.F.ok qc (fun vs H Q E h=>?_) (fun cdv A outer s H vs Q E hr h=>?_)
 · obtain ⟨b,v1,v2,v3,v4,rfl,_⟩:=h;rfl
 obtain ⟨b,v1,v2,v3,v4,rfl,e,q⟩:=h;refine ⟨_,(aj (aD (az aA (pv 0) ai (fun _ _=>rfl)))),?_⟩
 try dsimp only [cxK,cxKn]
 exact ⟨_,rfl,b,_,0,v1,rfl,rfl,SqT.of e,at0,q⟩
theorem nh:aW P w K mg base CX0 1 T.g_rules_of.f T.g_rules_of.d ["book"] na:=by
 refine T.g_rules_of.F.ok mG (fun vs H Q E h=>?_) (fun cdv A outer s H vs Q E hr h=>?_)
 · obtain ⟨b,v1,v2,v3,v4,rfl,_⟩:=h;rfl
 obtain ⟨b,v1,v2,v3,v4,rfl,e,q⟩:=h;refine ⟨_,(aj (aD (az aA (pv 0) ai (fun _ _=>rfl)))),?_⟩
 try dsimp only [cxK,cxKn]
 exact ⟨_,rfl,b,_,3,v4,rfl,rfl,SqT.of e,br (j:=3) rfl,q⟩
inductive iY (vs:List V) (H:Hp) (Q:VK) (_E:XK):Prop
 | mk (b:Addr) (v1 v2 v3 v4:V) (zz0:vs=[.ref b]) (zz1:H b=some (.tup [v1,v2,v3,v4])) (zz2:Q v3 H):iY  vs H Q _E
def om:Sp:=iY
def qG:Sp:=fun vs H Q _=>∃ v:V,vs=[v]/\∀ p,H p=none->Q (.ref p) (upd H p (.tup [.str (Str.ofString ""),v]))
def nY:Sp:=fun vs H Q _=>∃ s:Int,vs=[.int s]/\∀ p,H p=none->Q (.ref p) (upd H p (.tup [.str q,.int s,.int 0]))
theorem jx:aW P w K mg base CX0 1 T.g_head_of.f T.g_head_of.d ["book"] om:=by
 refine T.g_head_of.F.ok oF (fun vs H Q E h=>?_) (fun cdv A outer s H vs Q E hr h=>?_)
 · obtain ⟨b,v1,v2,v3,v4,rfl,_⟩:=h;rfl
 obtain ⟨b,v1,v2,v3,v4,rfl,e,q⟩:=h;refine ⟨_,(aj (aD (az aA (pv 0) ai (fun _ _=>rfl)))),?_⟩
 try dsimp only [cxK,cxKn]
 exact ⟨_,rfl,b,_,2,v3,rfl,rfl,SqT.of e,br (j:=2) rfl,q⟩
theorem rS:aW P w K mg base CX0 1 T.g_above.f T.g_above.d ["tree"] qG:=by
 refine T.g_above.F.ok qQ (fun vs H Q E h=>?_) (fun cdv A outer s H vs Q E hr h=>?_)
 · obtain ⟨v,rfl,_⟩:=h;rfl
 obtain ⟨v,rfl,q⟩:=h;refine ⟨_,(aj (aD (aU (ab dM (ab (pv 0) ad))))),?_⟩
 try dsimp only [cxK,cxKn]
 exact ⟨_,rfl,am (by show 2<=1000000;decide),fun p hp=>q p hp⟩
theorem j7:aW P w K mg base CX0 1 T.g_call_of.f T.g_call_of.d ["state"] nY:=by
 refine T.g_call_of.F.ok nU (fun vs H Q E h=>?_) (fun cdv A outer s H vs Q E hr h=>?_)
 · obtain ⟨v,rfl,_⟩:=h;rfl
 obtain ⟨v,rfl,q⟩:=h;refine ⟨_,(aj (aD (aU (ab (bX (v:=.str (Str.ofString "?")) rfl T.c_CALL_SIGN.choose_spec ⟨_,rfl⟩) (ab (pv 0) (ab ai ad)))))),?_⟩
 try dsimp only [cxK,cxKn]
 exact ⟨_,rfl,am (by show 3<=1000000;decide),fun p hp=>q p hp⟩
inductive hX (vs:List V) (H:Hp) (Q:VK) (_E:XK):Prop
 | mk (a:Addr) (t:Th) (zz0:vs=[.ref a]) (zz1:At H t a) (zz2:t.size<=10000) (zz3:t.tall<=150) (zz4:∀ (r d:Addr) (es:CE) (H':Hp),L2.Same H H'->H d=none->H' r=some (.tup [.int ((t.walk.filter Th.isKnot).length:Nat),.ref d])->H' d=some (.dT (dE es))->TimesE (ay (t.pl [])) es->Q (.ref r) H'):hX  vs H Q _E
def i3:Sp:=hX
inductive gb (vs:List V) (H:Hp) (Q:VK) (_E:XK):Prop
 | mk (a:Addr) (t:Th) (zz0:vs=[.ref a]) (zz1:At H t a) (zz2:t.size<=10000) (zz3:t.tall<=150) (zz4:∀ (r d:Addr) (es:CE) (H':Hp),L2.Same H H'->H d=none->H' r=some (.tup [.int (t.tall:Nat),.ref d])->H' d=some (.dT (dE es))->DepthE (ay (t.pl [])) es->Q (.ref r) H'):gb  vs H Q _E
def hU:Sp:=gb
theorem jC {α:Type} {l:List α} {i:Nat} {x:α} (h:l[i]?=some x):l.take (i+1)=l.take i++[x]:=by rw [List.take_add_one,h];rfl
theorem i6:aW P w K mg base CX0 4 T.g_times_in.f T.g_times_in.d ["pattern"] i3:=by
 refine T.g_times_in.F.ok dG (fun vs H Q E h=>?_) (fun cdv A outer s H vs Q E hr h=>?_)
 · obtain ⟨a,t,rfl,_⟩:=h;rfl
 obtain ⟨a,t,rfl,hA,hsz,htl,k⟩:=h
 refine ⟨_,(ag (ar (i:=1) dG.nd rfl (Or.inl rfl) gY)
  (ag (bB PassesOwn.never rfl (cI (pcF T.g_calls_in (i9 T) hr (ab (pv 0) ad))) (bV rfl (aF (aq (i:=2) dG.nd rfl (Or.inl rfl)) (aF (aq (i:=3) dG.nd rfl (Or.inl rfl)) bD))) (aj (d8 (dA hr) (pv 1) (pv 3) (av bq (m8 (dA hr) (pv 1) (pv 3) ai ⟨rfl,rfl,rfl,rfl⟩) ai) rfl)))
  (aj (aD (aU (ab (pcF T.g_knots_of (mW T) hr (ab (pv 0) ad)) (ab (pv 1) ad))))))),?_⟩
 try dsimp only [cxK,cxKn]
 intro d hd;dsimp only [aE];have s1:L2.Same H (upd H d (.dT [])):=af hd _;have e1:(upd H d (.dT [])) d=some (.dT (dE [])):=ac;generalize (upd H d (.dT []))=H1 at s1 e1 ⊢;refine ⟨_,rfl,a,t,rfl,hA.mono (Same.kt s1),by omega,by omega,fun r as H2 s2 er hcs=>⟨r,rfl,⟨_,SqL.of er⟩,?_⟩⟩;have hcl:=Paired.length hcs;have hl:=dF (t.pl []);have hpl:=Th.pl_len [] t;generalize hcv:ay (t.pl [])=cs at hcs hcl hl k;have hrd:r≠d:=fun z=>by rw [z,s2 _ _ e1] at er;cases er
 refine io (K:=K) (a:=r) (xs:=as.map V.ref) (fun i σ H3=>Ex3 fun (c3 c4:Option V) (es:CE)=>An7 (σ=[some (.ref a),some (.ref d),c3,c4]) (L2.Same H H3) (H3 r=some (.lst (as.map V.ref))) (CsAt H3 cs as) (H3 d=some (.dT (dE es))) (es.length<=i) (TimesE (cs.take i) es))
  ⟨none,none,[],rfl,s1.trans s2,er,hcs,s2 _ _ e1,Nat.le_refl _,by rw [List.take_zero];exact TimesE.nil⟩ (fun i σ H3 _ ⟨_,_,_,_,_,e,_,_,_,_⟩=>SqL.of e) ?_ ?_
 · rintro i x σ H3 hx ⟨c3,c4,es,rfl,s3,er3,hcs3,ed3,hlen,hes⟩;refine hid fun ZZ kZ=>?_;obtain ⟨ca,rfl,hca⟩:=bc hx;obtain ⟨⟨pl,sn,kn⟩,hc,pa,cca,ec,ep,ecc⟩:=P2.get' hcs3 hca;refine kZ ?_;have hil:i<10000:=by have:=(List.getElem?_eq_some_iff.mp hc).1;omega
   refine ⟨ca,_,rfl,SqT.of ec,rfl,_,_,rfl,_,_,rfl,rfl,?_⟩;dsimp only [aE];have eck:H3 cca=some (.tup ((ky (sn,kn)).map kV)):=ecc;refine ⟨_,rfl,d,rfl,.inr ⟨_,.inl ed3⟩,_,rfl,_,DGet.t ed3 eck,?_⟩;rw [ma];have hg:((cj es (sn,kn)).map V.int).getD (.int 0)=.int ((cj es (sn,kn)).getD 0):=by cases cj es (sn,kn) <;> rfl
   rw [hg];refine ⟨_,_,rfl,rfl,_,rfl,_,rfl,d,_,rfl,DPut.t ed3 eck (aK (by unfold dE;rw [List.length_map];omega)),?_⟩;rw [pq];have k6:KT H3 (upd H3 d (.dT (dE (dI es (sn,kn) ((cj es (sn,kn)).getD 0+1))))):=fun b xs e=>by rw [ae (aJ e ed3 (fun z=>nomatch z))];exact e
   refine ⟨_,_,_,rfl,aH s3 hd,by rw [ae hrd];exact er3,hcs3.mono k6,ac,?_,?_⟩
   · have:=nR es (sn,kn) ((cj es (sn,kn)).getD 0+1);omega
   · rw [jC hc];exact hes.put (pl,sn,kn)
 · rintro σ H3 ⟨c3,c4,es,rfl,s3,er3,hcs3,ed3,hlen,hes⟩;rw [List.take_of_length_le (by rw [List.length_map];omega)] at hes;refine ⟨_,rfl,a,t,rfl,hA.mono (Same.kt s3),by omega,htl,fun H4 s4=>⟨_,rfl,am (by show 2<=1000000;decide),fun p hp=>?_⟩⟩;have s5:=af hp (.tup [.int ((t.walk.filter Th.isKnot).length:Nat),.ref d]);exact k p d es _ (s3.trans (s4.trans s5)) hd ac (s5 _ _ (s4 _ _ ed3)) hes
theorem hI:aW P w K mg base CX0 4 T.g_depths_in.f T.g_depths_in.d ["pattern"] hU:=by
 refine T.g_depths_in.F.ok cV (fun vs H Q E h=>?_) (fun cdv A outer s H vs Q E hr h=>?_)
 · obtain ⟨a,t,rfl,_⟩:=h;rfl
 obtain ⟨a,t,rfl,hA,hsz,htl,k⟩:=h
 refine ⟨_,(ag (ar (i:=1) cV.nd rfl (Or.inl rfl) gY)
  (ag (bB PassesOwn.never rfl (cI (pcF T.g_calls_in (i9 T) hr (ab (pv 0) ad))) (bV rfl (aF (aq (i:=2) cV.nd rfl (Or.inl rfl)) (aF (aq (i:=3) cV.nd rfl (Or.inl rfl)) bD))) (aj (d8 (dA hr) (pv 1) (pv 3) (aG (iN rfl) rfl T.n_max PyProof.Rows.boot_max (ab (aG aB rfl T.n_len PySem.boot_len (ab (pv 2) ad)) (ab (m8 (dA hr) (pv 1) (pv 3) ai ⟨rfl,rfl,rfl,rfl⟩) ad))) rfl)))
  (aj (aD (aU (ab (pcF T.g_tall_of (oR T) hr (ab (pv 0) ad)) (ab (pv 1) ad))))))),?_⟩
 try dsimp only [cxK,cxKn]
 intro d hd;dsimp only [aE];have s1:L2.Same H (upd H d (.dT [])):=af hd _;have e1:(upd H d (.dT [])) d=some (.dT (dE [])):=ac;generalize (upd H d (.dT []))=H1 at s1 e1 ⊢;refine ⟨_,rfl,a,t,rfl,hA.mono (Same.kt s1),by omega,by omega,fun r as H2 s2 er hcs=>⟨r,rfl,⟨_,SqL.of er⟩,?_⟩⟩;have hcl:=Paired.length hcs;have hl:=dF (t.pl []);have hpl:=Th.pl_len [] t;generalize hcv:ay (t.pl [])=cs at hcs hcl hl k;have hrd:r≠d:=fun z=>by rw [z,s2 _ _ e1] at er;cases er
 refine io (K:=K) (a:=r) (xs:=as.map V.ref) (fun i σ H3=>Ex3 fun (c3 c4:Option V) (es:CE)=>An7 (σ=[some (.ref a),some (.ref d),c3,c4]) (L2.Same H H3) (H3 r=some (.lst (as.map V.ref))) (CsAt H3 cs as) (H3 d=some (.dT (dE es))) (es.length<=i) (DepthE (cs.take i) es))
  ⟨none,none,[],rfl,s1.trans s2,er,hcs,s2 _ _ e1,Nat.le_refl _,by rw [List.take_zero];exact DepthE.nil⟩ (fun i σ H3 _ ⟨_,_,_,_,_,e,_,_,_,_⟩=>SqL.of e) ?_ ?_
 · rintro i x σ H3 hx ⟨c3,c4,es,rfl,s3,er3,hcs3,ed3,hlen,hes⟩;refine hid fun ZZ kZ=>?_;obtain ⟨ca,rfl,hca⟩:=bc hx;obtain ⟨⟨pl,sn,kn⟩,hc,pa,cca,ec,ep,ecc⟩:=P2.get' hcs3 hca;refine kZ ?_;have hil:i<10000:=by have:=(List.getElem?_eq_some_iff.mp hc).1;omega
   refine ⟨ca,_,rfl,SqT.of ec,rfl,_,_,rfl,_,_,rfl,rfl,?_⟩;dsimp only [aE];have eck:H3 cca=some (.tup ((ky (sn,kn)).map kV)):=ecc;refine ⟨_,rfl,pa,_,rfl,.inr (SqT.of ep),_,rfl,d,rfl,.inr ⟨_,.inl ed3⟩,_,rfl,_,DGet.t ed3 eck,?_⟩;rw [ma];have hg:((cj es (sn,kn)).map V.int).getD (.int 0)=.int ((cj es (sn,kn)).getD 0):=by cases cj es (sn,kn) <;> rfl
   rw [hg];refine ⟨_,_,rfl,?_⟩;simp only [List.length_map];refine ⟨_,rfl,_,rfl,d,_,rfl,DPut.t ed3 eck (aK (by unfold dE;rw [List.length_map];omega)),?_⟩;rw [pq];generalize hv:(if (cj es (sn,kn)).getD 0 > ((pl.length:Nat):Int) then (cj es (sn,kn)).getD 0 else ((pl.length:Nat):Int))=v;have k6:KT H3 (upd H3 d (.dT (dE (dI es (sn,kn) v)))):=fun b xs e=>by rw [ae (aJ e ed3 (fun z=>nomatch z))];exact e
   refine ⟨_,_,_,rfl,aH s3 hd,by rw [ae hrd];exact er3,hcs3.mono k6,ac,?_,?_⟩
   · have:=nR es (sn,kn) v;omega
   · rw [jC hc,<- hv];exact hes.put (pl,sn,kn)
 · rintro σ H3 ⟨c3,c4,es,rfl,s3,er3,hcs3,ed3,hlen,hes⟩;rw [List.take_of_length_le (by rw [List.length_map];omega)] at hes;refine ⟨_,rfl,a,t,rfl,hA.mono (Same.kt s3),by omega,fun H4 s4=>⟨_,rfl,am (by show 2<=1000000;decide),fun p hp=>?_⟩⟩;have s5:=af hp (.tup [.int (t.tall:Nat),.ref d]);exact k p d es _ (s3.trans (s4.trans s5)) hd ac (s5 _ _ (s4 _ _ ed3)) hes
inductive eW (vs:List V) (H:Hp) (Q:VK) (_E:XK):Prop
 | mk (pa d ca:Addr) (own:Int) (es:CE) (ckv:List (List Key×V)) (f:Int->Int->Int) (zz0:vs=[.ref pa,.ref ca]) (zz1:H pa=some (.tup [.int own,.ref d])) (zz2:H d=some (.dT (dE es))) (zz3:H ca=some (.dT ckv)) (zz4:d≠ca) (zz5:es.length<=10000) (zz6:(∀ e∈es,0<=e.2/\e.2<=10000/\aQ ckv (ky e.1)=some (.int (f e.1.1 e.1.2)))) (zz7:∀ H',L2.Same H H'->Q (.int (own+smE f es)) H'):eW  vs H Q _E
def ff:Sp:=eW
inductive dS (vs:List V) (H:Hp) (Q:VK) (_E:XK):Prop
 | mk (pa d ca:Addr) (own:Int) (es:CE) (ckv:List (List Key×V)) (f:Int->Int->Int) (zz0:vs=[.ref pa,.ref ca]) (zz1:H pa=some (.tup [.int own,.ref d])) (zz2:H d=some (.dT (dE es))) (zz3:H ca=some (.dT ckv)) (zz4:d≠ca) (zz5:es.length<=10000) (zz6:(∀ e∈es,aQ ckv (ky e.1)=some (.int (f e.1.1 e.1.2)))) (zz7:∀ (H':Hp) (M:Int),L2.Same H H'->M∈own::es.map (fun e=>e.2+f e.1.1 e.1.2)->(∀ a∈own::es.map (fun e=>e.2+f e.1.1 e.1.2),a<=M)->Q (.int M) H'):dS  vs H Q _E
def eX:Sp:=dS
theorem fD:aW P w K mg base CX0 2 T.g_count_worth.f T.g_count_worth.d ["pair","counts"] ff:=by
 refine T.g_count_worth.F.ok dh (fun vs H Q E h=>?_) (fun cdv A outer s H vs Q E hr h=>?_)
 · obtain ⟨pa,d,ca,own,es,ckv,f,rfl,_⟩:=h;rfl
 obtain ⟨pa,d,ca,own,es,ckv,f,rfl,epa,ed,eca,hdc,hlen,hes,k⟩:=h
 refine ⟨_,(ag (iS (pv 0) (bV rfl (aF (aq (i:=2) dh.nd rfl (Or.inl rfl)) (aF (aq (i:=3) dh.nd rfl (Or.inl rfl)) bD))))
  (aj (aD (av bq (pv 2) (aG (mO rfl) rfl T.n_sum PyProof.Rows.boot_sum (ab (mw (bY (N:=[Str.ofString "call",Str.ofString "many",Str.ofString "counts"]) (js:=[none,none,some 1]) (g:=(oo K 2 (eT (aE 0) (eT (aE 1) oi)))) (tt:=bK) (te:=(tOp (rI CMul fun i j=>.int (i * j)) (bv 1) (rH (bv 2) (bv 0)))) rfl (cw rfl (by decide +kernel) (by decide +kernel) rfl rfl rfl) (lu (pv 3)) (fun _ _ _ _ _ _=>(bV rfl (aF (aq (i:=0) vB rfl (Or.inl rfl)) (aF (aq (i:=1) vB rfl (Or.inl rfl)) bD)))) (jR (cG bL (aS rfl) (cG bL (aS rfl) kb))) (fun _ _ _ _ _ _=>b6) (fun _ _ _ _ _ _=>(av dq (pv 1) (ip (dA hr) (pv 2) (pv 0) (fun _ _=>rfl)))))) ad)))))),?_⟩
 try dsimp only [cxK,cxKn]
 refine ⟨_,rfl,pa,_,rfl,SqT.of epa,rfl,_,_,rfl,_,_,rfl,rfl,?_⟩;dsimp only [aE];refine ⟨_,rfl,?_⟩;change jL _ _ _ _;refine i5 (d:=d) (es:=es) (val:=fun e=>e.2 * f e.1.1 e.1.2) (fun R hR=>⟨_,rfl,hR⟩) ed hlen (fun i e p b H2 R he sb ep eb hR=>?_) (fun D H2 s2 eD=>?_)
 · obtain ⟨h1,h2,h3⟩:=hes e (List.mem_of_getElem? he);refine ⟨p,_,rfl,SqT.of ep,rfl,_,_,rfl,_,_,rfl,rfl,?_⟩;dsimp only [aE];exact ⟨_,rfl,_,rfl,_,rfl,ca,_,rfl,by have:=DGet.t (sb _ _ hdc.symm eca) eb;rw [h3] at this;exact this,_,_,rfl,rfl,.inl ⟨by omega,by omega⟩,hR⟩
 · exact ⟨D,_,rfl,SqL.of eD,_,_,rfl,rfl,k H2 s2⟩
theorem eY:aW P w K mg base CX0 2 T.g_height_worth.f T.g_height_worth.d ["pair","heights"] eX:=by
 refine T.g_height_worth.F.ok cO (fun vs H Q E h=>?_) (fun cdv A outer s H vs Q E hr h=>?_)
 · obtain ⟨pa,d,ca,own,es,ckv,f,rfl,_⟩:=h;rfl
 obtain ⟨pa,d,ca,own,es,ckv,f,rfl,epa,ed,eca,hdc,hlen,hes,k⟩:=h
 refine ⟨_,(ag (iS (pv 0) (bV rfl (aF (aq (i:=2) cO.nd rfl (Or.inl rfl)) (aF (aq (i:=3) cO.nd rfl (Or.inl rfl)) bD))))
  (aj (aD (aG (iy rfl) rfl T.n_max PyProof.Rows.boot_max (ab (av gB (aM (ab (pv 2) ad)) (mw (bY (N:=[Str.ofString "call",Str.ofString "depth",Str.ofString "heights"]) (js:=[none,none,some 1]) (g:=(oo K 2 (eT (aE 0) (eT (aE 1) oi)))) (tt:=bK) (te:=(tOp (rI0 fun i j=>.int (i+j)) (bv 1) (rH (bv 2) (bv 0)))) rfl (cw rfl (by decide +kernel) (by decide +kernel) rfl rfl rfl) (lu (pv 3)) (fun _ _ _ _ _ _=>(bV rfl (aF (aq (i:=0) vE rfl (Or.inl rfl)) (aF (aq (i:=1) vE rfl (Or.inl rfl)) bD)))) (jR (cG bL (aS rfl) (cG bL (aS rfl) kb))) (fun _ _ _ _ _ _=>b6) (fun _ _ _ _ _ _=>(av bq (pv 1) (ip (dA hr) (pv 2) (pv 0) (fun _ _=>rfl))))))) ad))))),?_⟩
 try dsimp only [cxK,cxKn]
 refine ⟨_,rfl,pa,_,rfl,SqT.of epa,rfl,_,_,rfl,_,_,rfl,rfl,?_⟩;dsimp only [aE];refine ⟨_,rfl,am (by show 1<=1000000;decide),fun l hl=>?_⟩;have s1:L2.Same H (upd H l (.lst [.int own])):=af hl _;have e1:(upd H l (.lst [.int own])) l=some (.lst [.int own]):=ac;generalize (upd H l (.lst [.int own]))=H1 at s1 e1 ⊢;refine i5 (d:=d) (es:=es) (val:=fun e=>e.2+f e.1.1 e.1.2) (fun R hR=>⟨_,rfl,hR⟩) (s1 _ _ ed) hlen (fun i e p b H2 R he sb ep eb hR=>?_) (fun D H2 s2 eD=>?_)
 · have h3:=hes e (List.mem_of_getElem? he);refine ⟨p,_,rfl,SqT.of ep,rfl,_,_,rfl,_,_,rfl,rfl,?_⟩;dsimp only [aE];exact ⟨_,rfl,_,rfl,_,rfl,ca,_,rfl,by have:=DGet.t (sb _ _ hdc.symm (s1 _ _ eca)) eb;rw [h3] at this;exact this,_,_,rfl,rfl,hR⟩
 · refine ⟨l,D,_,_,rfl,rfl,s2 _ _ e1,eD,by refine am ?_;rw [List.length_map,List.length_map,List.length_singleton];omega,fun r hr'=>?_⟩;refine ⟨r,own::es.map (fun e=>e.2+f e.1.1 e.1.2),rfl,SqL.of (by rw [ac];rfl),by simp,fun M hM hall=>k _ M (s1.trans (s2.trans (af hr' _))) hM hall⟩
theorem rm {k:Nat} {A:Around} (hr:L2.Room k A):A.units+148+4<cLine:=by
 have:=jB hr;omega
inductive fw (C:Addr) (vs:List V) (H:Hp) (Q:VK) (_E:XK):Prop
 | mk (x dx:Addr) (zz0:vs=[.ref x]) (zz1:H x=some (.ins C dx [])) (zz2:∀ (tl al kl:Addr) (H':Hp),SameB x H H'->H tl=none->H al=none->H kl=none->tl≠al->tl≠kl->al≠kl->H' x=some (.ins C dx (lvF tl al kl))->H' tl=some (.lst [])->H' al=some (.lst [])->H' kl=some (.lst [])->Q .non H'):fw C vs H Q _E
def kJ (C:Addr):Sp:=fw C
inductive dH (C:Addr) (vs:List V) (H:Hp) (Q:VK) (_E:XK):Prop
 | mk (L:Lv) (ta:Addr) (t:Th) (zz0:vs=[.ref L.x,.ref ta]) (zz1:LvSh C H L) (zz2:At H t ta) (zz3:t.tall<=140) (zz4:(∀ n∈L.ns,n.t.tall<=140)) (zz5:L.ns.length<=50000) (zz6:∀ (L':Lv) (j:Nat) (n:Nd) (H':Hp),LvSh C H' L'->(L'=L∨∃ aa ka,H aa=none/\H ka=none/\L'=L.add t ta aa ka)->L'.ns[j]?=some n->n.t=t->FrB [L.tl,L.al,L.kl] H H'->Q (.int (j:Nat)) H'):dH C vs H Q _E
def iE (C:Addr):Sp:=dH C
theorem fY:aW P w K mg base CX0 1 T.f_Level_init T.d_Level_init ["self"] (kJ T.e_Level):=by
 refine T.F_Level_init.ok kG (fun vs H Q E h=>?_) (fun cdv A outer s H vs Q E hr h=>?_)
 · obtain ⟨x,dx,rfl,_⟩:=h;rfl
 obtain ⟨x,dx,rfl,ex,q⟩:=h
 refine ⟨_,(ag (nS (pv 0) (aM ad) rfl)
  (ag (nS (pv 0) (aM ad) rfl)
  (aj (nS (pv 0) (aM ad) rfl)))),?_⟩
 try dsimp only [cxK,cxKn]
 refine ⟨am (by show 0<=1000000;decide),fun tl htl=>?_⟩;have nx1:x≠tl:=fun z=>by rw [<- z,ex] at htl;cases htl
 refine ⟨_,rfl,x,T.e_Level,dx,_,rfl,by rw [ae nx1];exact ex,T.cl_Level,T.na_Level_trees,(by show 0<1000;decide),?_⟩;refine ⟨am (by show 0<=1000000;decide),fun al hal=>?_⟩;have nx2:x≠al:=fun z=>by rw [<- z,ac] at hal;cases hal
 have ntl:tl≠al:=fun z=>by rw [<- z,ae nx1.symm,ac] at hal;cases hal
 rw [ae nx2.symm,ae ntl.symm] at hal;refine ⟨_,rfl,x,T.e_Level,dx,_,rfl,by rw [ae nx2];exact ac,T.cl_Level,T.na_Level_asked,(by show 1<1000;decide),?_⟩;refine ⟨am (by show 0<=1000000;decide),fun kl hkl=>?_⟩;have nx3:x≠kl:=fun z=>by rw [<- z,ac] at hkl;cases hkl
 have nal:al≠kl:=fun z=>by rw [<- z,ae nx2.symm,ac] at hkl;cases hkl
 have nkl:tl≠kl:=fun z=>by rw [<- z,ae nx1.symm,ae ntl,ae nx1.symm,ac] at hkl;cases hkl
 rw [ae nx3.symm,ae nal.symm,ae nx3.symm,ae nkl.symm] at hkl;refine ⟨_,rfl,x,T.e_Level,dx,_,rfl,by rw [ae nx3];exact ac,T.cl_Level,T.na_Level_kid_spots,(by show 2<1000;decide),?_⟩;refine q tl al kl _ (fun b o hb e=>?_) htl hal hkl ntl nkl nal ?_ ?_ ?_ ?_
 · rw [ae hb,ae (au e hkl),ae hb,ae (au e hal),ae hb,ae (au e htl)];exact e
 · rw [ac];exact congrArg some (congrArg (HO.ins T.e_Level dx) (sQ tl al kl))
 · rw [ae nx1.symm,ae nkl,ae nx1.symm,ae ntl,ae nx1.symm,ac]
 · rw [ae nx2.symm,ae nal,ae nx2.symm,ac]
 · rw [ae nx3.symm,ac]
theorem dW:aW P w K mg base CX0 2 T.f_Level_spot_of T.d_Level_spot_of ["self","tree"] (iE T.e_Level):=by
 refine T.F_Level_spot_of.ok iu (fun vs H Q E h=>?_) (fun cdv A outer s H vs Q E hr h=>?_)
 · obtain ⟨L,ta,t,rfl,_⟩:=h;rfl
 obtain ⟨L,ta,t,rfl,hL,hA,htl,hts,hlen,k⟩:=h
 refine ⟨_,(ag (cM (aP (pT (B:=150) (jB hr)) (pv 1) (cD (pv 0) rfl) (by with_unfolding_all rfl)) (ag (bm (ci PySem.F.plainAttrs_list PySem.F.slot_list_append PySem.F.type_list_append aV (cD (pv 0) rfl) (ab (pv 1) ad)))
  (ag (bm (ci PySem.F.plainAttrs_list PySem.F.slot_list_append PySem.F.type_list_append aV (cD (pv 0) rfl) (ab mM ad)))
  (aj (bm (ci PySem.F.plainAttrs_list PySem.F.slot_list_append PySem.F.type_list_append aV (cD (pv 0) rfl) (ab mM ad)))))) bN)
  (aj (aD (ci PySem.F.plainAttrs_list PySem.F.slot_list_index PySem.F.type_list_index (ql (B:=148) (rm hr)) (cD (pv 0) rfl) (ab (pv 1) ad))))),?_⟩
 try dsimp only [cxK,cxKn]
 have hinj:∀ a b:Th,a.dv=b.dv->a=b:=fun a b=>Th.dv_inj
 have htall:∀ u∈L.ns.map (·.t),u.tall<=140:=fun u hu=>by
  obtain ⟨n,hn,rfl⟩:=List.mem_map.mp hu;exact hts n hn
 have ltl:(L.ns.map fun n=>V.ref n.ta).length<sizeLine:=aK (by rw [List.length_map];omega);refine cf (fun σ' H'=>An2 (σ'=[some (.ref L.x),some (.ref ta)]) (Ex1 fun (L':Lv)=>An5 (LvSh T.e_Level H' L') ((L'=L∨∃ aa ka,H aa=none/\H ka=none/\L'=L.add t ta aa ka)) (t∈L'.ns.map (·.t)) (At H' t ta) (FrB [L.tl,L.al,L.kl] H H'))) (fun kk hk=>?_) ?_
 · refine ck (fun b H'=>An2 (H=H') ((b=true↔t∉L.ns.map (·.t)))) (fun k2 hk2=>?_) (fun H' hb=>?_) (fun H' hb=>?_)
   · refine ⟨_,rfl,_,rfl,L.x,T.e_Level,L.dx,_,_,rfl,hL.ins,T.cl_Level,T.na_Level_trees,lD _ _ _,L.tl,_,_,_,rfl,SqL.of hL.tl,At.dv hA,hL.dats,Nat.le_trans (eJ htall) (by decide),fun r hr=>⟨r,rfl,hk2 _ _ ⟨rfl,hr.trans (not_congr ⟨fun z=>?_,fun z=>List.mem_map.mpr ⟨_,z,rfl⟩⟩)⟩⟩⟩;obtain ⟨u,hu,e⟩:=List.mem_map.mp z;exact hinj _ _ e ▸ hu
   · obtain ⟨rfl,hb⟩:=hb;have hno:=hb.mp rfl;refine ⟨_,rfl,L.x,T.e_Level,L.dx,_,_,rfl,hL.ins,T.cl_Level,T.na_Level_trees,lD _ _ _,.inl ⟨rfl,_,SqL.of hL.tl⟩,_,rfl,L.tl,_,_,rfl,rfl,hL.tl,ltl,?_⟩;have nxt:L.x≠L.tl:=aJ hL.ins hL.tl (fun z=>nomatch z);have nxa:L.x≠L.al:=aJ hL.ins hL.al (fun z=>nomatch z);have nxk:L.x≠L.kl:=aJ hL.ins hL.kl (fun z=>nomatch z);have f1:FrB [L.tl,L.al,L.kl] H (upd H L.tl (.lst ((L.ns.map fun n=>V.ref n.ta)++[.ref ta]))):=FrB.set (List.mem_cons_self ..);have x1:(upd H L.tl (.lst ((L.ns.map fun n=>V.ref n.ta)++[.ref ta]))) L.x=_:=(ae nxt).trans hL.ins;have a1:(upd H L.tl (.lst ((L.ns.map fun n=>V.ref n.ta)++[.ref ta]))) L.al=_:=(ae hL.n1.symm).trans hL.al;have k1:(upd H L.tl (.lst ((L.ns.map fun n=>V.ref n.ta)++[.ref ta]))) L.kl=_:=(ae hL.n2.symm).trans hL.kl;have t1:(upd H L.tl (.lst ((L.ns.map fun n=>V.ref n.ta)++[.ref ta]))) L.tl=some (.lst ((L.ns.map fun n=>V.ref n.ta)++[.ref ta])):=ac
     have g1:∀ b,(upd H L.tl (.lst ((L.ns.map fun n=>V.ref n.ta)++[.ref ta]))) b=none->H b=none:=fun b e=>by
      by_cases z:b=L.tl
      · rw [z,ac] at e;cases e
      · rw [ae z] at e;exact e
     generalize (upd H L.tl (.lst ((L.ns.map fun n=>V.ref n.ta)++[.ref ta])))=H1 at f1 x1 a1 k1 t1 g1 ⊢;refine ⟨_,rfl,L.x,T.e_Level,L.dx,_,_,rfl,x1,T.cl_Level,T.na_Level_asked,nz _ _ _,.inl ⟨rfl,_,SqL.of a1⟩,fun aa haa=>⟨L.al,_,_,rfl,rfl,(af haa _) _ _ a1,aK (by rw [List.length_map];omega),?_⟩⟩;have naa:=g1 _ haa;have q1:L.tl≠aa:=fun z=>by rw [<- z,t1] at haa;cases haa
     have q2:L.al≠aa:=fun z=>by rw [<- z,a1] at haa;cases haa
     have q3:L.kl≠aa:=fun z=>by rw [<- z,k1] at haa;cases haa
     have q4:L.x≠aa:=fun z=>by rw [<- z,x1] at haa;cases haa
     have f2:FrB [L.tl,L.al,L.kl] H (upd (upd H1 aa (.dK [])) L.al (.lst ((L.ns.map fun n=>V.ref n.aa)++[.ref aa]))):=f1.trans ((FrB.of (af haa _)).trans (FrB.set (List.mem_cons_of_mem _ (List.mem_cons_self ..))));have x2:(upd (upd H1 aa (.dK [])) L.al (.lst ((L.ns.map fun n=>V.ref n.aa)++[.ref aa]))) L.x=_:=(ae nxa).trans ((ae q4).trans x1);have k2:(upd (upd H1 aa (.dK [])) L.al (.lst ((L.ns.map fun n=>V.ref n.aa)++[.ref aa]))) L.kl=_:=(ae hL.n3.symm).trans ((ae q3).trans k1);have t2:(upd (upd H1 aa (.dK [])) L.al (.lst ((L.ns.map fun n=>V.ref n.aa)++[.ref aa]))) L.tl=_:=(ae hL.n1).trans ((ae q1).trans t1);have a2:(upd (upd H1 aa (.dK [])) L.al (.lst ((L.ns.map fun n=>V.ref n.aa)++[.ref aa]))) L.al=_:=ac;have d2:(upd (upd H1 aa (.dK [])) L.al (.lst ((L.ns.map fun n=>V.ref n.aa)++[.ref aa]))) aa=some (.dK []):=(ae q2.symm).trans ac
     have g2:∀ b,(upd (upd H1 aa (.dK [])) L.al (.lst ((L.ns.map fun n=>V.ref n.aa)++[.ref aa]))) b=none->H b=none:=fun b e=>by
      by_cases z:b=L.al
      · rw [z,ac] at e;cases e
      · rw [ae z] at e;by_cases z2:b=aa
        · rw [z2,ac] at e;cases e
        · rw [ae z2] at e;exact g1 _ e
     generalize (upd (upd H1 aa (.dK [])) L.al (.lst ((L.ns.map fun n=>V.ref n.aa)++[.ref aa])))=H2 at f2 x2 k2 t2 a2 d2 g2 ⊢;refine ⟨_,rfl,L.x,T.e_Level,L.dx,_,_,rfl,x2,T.cl_Level,T.na_Level_kid_spots,qV _ _ _,.inl ⟨rfl,_,SqL.of k2⟩,fun ka hka=>⟨L.kl,_,_,rfl,rfl,(af hka _) _ _ k2,aK (by rw [List.length_map];omega),?_⟩⟩;have nka:=g2 _ hka;have r1:L.tl≠ka:=fun z=>by rw [<- z,t2] at hka;cases hka
     have r2:L.al≠ka:=fun z=>by rw [<- z,a2] at hka;cases hka
     have r3:L.kl≠ka:=fun z=>by rw [<- z,k2] at hka;cases hka
     have r4:aa≠ka:=fun z=>by rw [<- z,d2] at hka;cases hka
     have f3:FrB [L.tl,L.al,L.kl] H (upd (upd H2 ka (.dK [])) L.kl (.lst ((L.ns.map fun n=>V.ref n.ka)++[.ref ka]))):=f2.trans ((FrB.of (af hka _)).trans (FrB.set (List.mem_cons_of_mem _ (List.mem_cons_of_mem _ (List.mem_cons_self ..)))));have hL':=hL.add f3 naa nka r4 hA hno ((ae hL.n2).trans ((ae r1).trans t2)) ((ae hL.n3).trans ((ae r2).trans a2)) ac ((ae q3.symm).trans ((ae r4).trans d2)) ((ae r3.symm).trans ac);exact hk _ _ ⟨rfl,_,hL',.inr ⟨aa,ka,naa,nka,rfl⟩,by show t∈(L.ns++[_]).map _;simp,hL'.tr ⟨t,ta,aa,ka,[],[]⟩ (List.mem_append_right _ (List.mem_singleton.mpr rfl)),f3⟩
   · obtain ⟨rfl,hb⟩:=hb;have hin:t∈L.ns.map (·.t):=Classical.byContradiction fun z=>by cases hb.mpr z
     exact hk _ _ ⟨rfl,L,hL,.inl rfl,hin,hA,FrB.refl⟩
 rintro σ' H' ⟨rfl,L',hL',hor,hin,hA',hf⟩;refine hid fun ZZ kZ=>?_;obtain ⟨n,hn,hnt⟩:=List.mem_map.mp hin;obtain ⟨j,hj⟩:=List.mem_iff_getElem?.mp hn;refine kZ ?_;have hx:L'.x=L.x:=by rcases hor with rfl | ⟨_,_,_,_,rfl⟩ <;> rfl
 have hl':L'.ns.length<=100000/\∀ u∈L'.ns.map (·.t),u.tall<=140:=by
  rcases hor with rfl | ⟨aa,ka,_,_,rfl⟩
  · exact ⟨by omega,htall⟩
  · refine ⟨by show (L.ns++[_]).length<=_;rw [List.length_append,List.length_singleton];omega,fun u hu=>?_⟩;have hu':u∈(L.ns++[(⟨t,ta,aa,ka,[],[]⟩:Nd)]).map (fun n:Nd=>n.t):=hu;rw [List.map_append] at hu';rcases List.mem_append.mp hu' with h | h
    · exact htall u h
    · have:u=t:=by simpa using h
      rw [this];exact htl
 have hji:((L'.ns.map (·.t)).map Th.dv)[j]?=some t.dv:=by rw [List.getElem?_map,List.getElem?_map,hj,<- hnt];rfl
 have hun:=k9 hinj hL'.un;exact ⟨_,rfl,L.x,T.e_Level,L'.dx,_,_,rfl,by rw [<- hx];exact hL'.ins,T.cl_Level,T.na_Level_trees,lD _ _ _,.inl ⟨rfl,_,SqL.of hL'.tl⟩,_,rfl,L'.tl,_,_,_,_,j,rfl,rfl,SqL.of hL'.tl,At.dv hA',hL'.dats,Nat.le_trans (eJ hl'.2) (by decide),hji,fun i hi e=>absurd (kh hun e hji) (by omega),by rw [List.length_map,List.length_map];exact hl'.1,k L' j n H' hL' hor hj hnt hf⟩
inductive fA (P:Program) (w:World) (K:PySem.W.Frag) (mg:Str->Option Value) (base:Heap) (vs:List V) (H:Hp) (Q:VK) (_E:XK):Prop
 | mk (b f:Addr) (ins outs:List (Str×Int)) (head:Th) (rows:List (List Th)) (spf:Sp) (Dp:DP) (ok:Th->Prop) (zz0:vs=[.ref b,.ref f]) (zz1:Bk H ins outs head rows b) (zz2:bx ins) (zz3:rows.length<=100) (zz4:(∀ row∈rows,row.length=ins.length/\∀ p∈row,ok p)) (zz5:FvOk P w K mg base CX0 4 f spf) (zz6:tM Dp spf ok) (zz7:∀ (td:Addr) (H':Hp),L2.Same H H'->DgTab Dp H' ins rows td->Q (.ref td) H'):fA P w K mg base vs H Q _E
def kH (P:Program) (w:World) (K:PySem.W.Frag) (mg:Str->Option Value) (base:Heap):Sp:=fA P w K mg base
set_option maxHeartbeats 2000000 in
theorem kF:aW P w K mg base CX0 5 T.g_digests_of.f T.g_digests_of.d ["book","digest"] (kH P w K mg base):=by
 refine T.g_digests_of.F.ok bU (fun vs H Q E h=>?_) (fun cdv A outer s H vs Q E hr h=>?_)
 · obtain ⟨b,f,ins,outs,head,rows,spf,Dp,ok,rfl,_⟩:=h;rfl
 obtain ⟨b,f,ins,outs,head,rows,spf,Dp,ok,rfl,hB,gi,hrl,hrows,hfv,hspf,k⟩:=h;refine hid fun ZZ kZ=>?_;obtain ⟨ia,oa,ha,ra,ias,oas,ras,hB⟩:=hB;refine kZ ?_
 refine ⟨_,(ag (ar (i:=2) bU.nd rfl (Or.inl rfl) gY)
  (ag (bB PassesOwn.never rfl (o0 rfl T.n_enumerate (pcF T.g_rules_of (nh T) hr (ab (pv 0) ad))) (bV rfl (aF (aq (i:=3) bU.nd rfl (Or.inl rfl)) (aF (aq (i:=4) bU.nd rfl (Or.inl rfl)) bD))) (aj (bB PassesOwn.never rfl (uQ rfl T.n_zip (ab (pcF T.g_ins_of (qg T) hr (ab (pv 0) ad)) (ab (pv 4) ad))) (bV rfl (aF (aq (i:=5) bU.nd rfl (Or.inl rfl)) (aF (aq (i:=6) bU.nd rfl (Or.inl rfl)) bD))) (aj (d8 (dA hr) (pv 2) (aU (ab (pv 3) (ab (az aA (pv 5) ai (fun _ _=>rfl)) ad))) (kA (k:=4) (i:=1) rfl (Or.inl rfl) (hr.mono (by first | decide | omega)) dC (ab (pv 6) ad)) rfl)))))
  (aj (aD (pv 2))))),?_⟩
 try dsimp only [cxK,cxKn]
 intro td htd;dsimp only [aE];have s1:L2.Same H (upd H td (.dT [])):=af htd _;have e1:(upd H td (.dT [])) td=some (.dT []):=ac;generalize (upd H td (.dT []))=H1 at s1 e1 ⊢;have hras:rows.length=ras.length:=Paired.length hB.rw;have hias:ins.length=ias.length:=Paired.length hB.inK;refine ⟨_,rfl,b,_,_,_,_,rfl,s1 _ _ hB.bk,ra,rfl,⟨_,SqT.of (s1 _ _ hB.rl)⟩,?_⟩
 refine qT (K:=K) (a:=ra) (xs:=ras.map V.ref) (fun i σ H3=>Ex5 fun (c3 c4 c5 c6:Option V) (tk:List (List Key×V))=>An5 (σ=[some (.ref b),some (.ref f),some (.ref td),c3,c4,c5,c6]) (L2.Same H H3) (H3 td=some (.dT tk)) (tk.length<=8 * i) (vf Dp td H3 ins rows tk i 0))
  ⟨none,none,none,none,[],rfl,s1,e1,Nat.zero_le _,fun s c row p kd h=>by rcases h with h | ⟨_,h⟩ <;> cases h⟩ (fun i σ H3 _ ⟨_,_,_,_,_,_,s3,_,_,_⟩=>SqT.of (s3 _ _ hB.rl)) ?_ ?_
 · rintro i x pr σ H3 hx hpr ⟨c3,c4,c5,c6,tk,rfl,s3,et3,hlen,hall⟩;refine hid fun ZZ kZ=>?_;obtain ⟨rwa,rfl,hrwa⟩:=bc hx;obtain ⟨row,hrow,as,eas,hats⟩:=P2.get' hB.rw hrwa;have hil:i<100:=by have:=(List.getElem?_eq_some_iff.mp hrow).1;omega
   obtain ⟨hrl2,hok⟩:=hrows row (List.mem_of_getElem? hrow);refine kZ ?_;have hasl:=hats.length;have s4:L2.Same H3 (upd H3 pr (.tup [.int ((i:Nat):Int),.ref rwa])):=af hpr _;have e4:(upd H3 pr (.tup [.int ((i:Nat):Int),.ref rwa])) pr=some (.tup [.int ((i:Nat):Int),.ref rwa]):=ac;generalize (upd H3 pr (.tup [.int ((i:Nat):Int),.ref rwa]))=H4 at s4 e4 ⊢;have s04:=s3.trans s4;refine ⟨pr,_,rfl,SqT.of e4,rfl,_,_,rfl,_,_,rfl,rfl,?_⟩;dsimp only [aE];refine ⟨_,rfl,b,_,_,_,_,rfl,s04 _ _ hB.bk,_,rfl,ia,rwa,rfl,⟨_,SqT.of (s04 _ _ hB.inE)⟩,⟨_,SqT.of (s04 _ _ eas)⟩,?_⟩
   refine tD (K:=K) (a:=ia) (b:=rwa) (xs:=ias.map V.ref) (ys:=as.map V.ref) (by rw [List.length_map,List.length_map];omega) (fun j σ H5=>Ex3 fun (c5 c6:Option V) (tk:List (List Key×V))=>An5 (σ=[some (.ref b),some (.ref f),some (.ref td),some (.int ((i:Nat):Int)),some (.ref rwa),c5,c6]) (L2.Same H H5) (H5 td=some (.dT tk)) (tk.length<=8 * i+j) (vf Dp td H5 ins rows tk i j))
    ⟨_,_,tk,rfl,s04,s4 _ _ et3,hlen,fun s c row p kd h h1 h2 h3=>by
     obtain ⟨da,a1,a2⟩:=hall s c row p kd h h1 h2 h3;exact ⟨da,a1,a2.same s4⟩⟩ (fun j σ H5 _ ⟨_,_,_,_,s5,_,_,_⟩=>⟨SqT.of (s5 _ _ hB.inE),SqT.of (s5 _ _ eas)⟩) ?_ ?_
   · rintro j x y p2 σ H5 hx hy hp2 ⟨c5,c6,tk,rfl,s5,et5,hlen,hall⟩;refine hid fun ZZ kZ=>?_;obtain ⟨ka,rfl,hka⟩:=bc hx;obtain ⟨pa,rfl,hpa⟩:=bc hy;obtain ⟨⟨nm,cn⟩,hk,ek⟩:=P2.get' hB.inK hka;obtain ⟨p,hp,hpat⟩:=hats.get hpa;refine kZ ?_;have hj8:j<8:=by have:=(List.getElem?_eq_some_iff.mp hk).1;have:=gi.le;omega
     have s6:L2.Same H5 (upd H5 p2 (.tup [.ref ka,.ref pa])):=af hp2 _;have e6:(upd H5 p2 (.tup [.ref ka,.ref pa])) p2=some (.tup [.ref ka,.ref pa]):=ac;generalize (upd H5 p2 (.tup [.ref ka,.ref pa]))=H6 at s6 e6 ⊢;have s06:=s5.trans s6;refine ⟨p2,_,rfl,SqT.of e6,rfl,_,_,rfl,_,_,rfl,rfl,?_⟩;dsimp only [aE];refine ⟨f,spf,rfl,hfv,_,rfl,hspf H6 p pa _ (hpat.mono (Same.kt s06)) (hok p (List.mem_of_getElem? hp)) fun r d own kvs H7 s7 hd er ed hDp=>?_⟩;have et6:=s6 _ _ et5;have et7:=s7 _ _ et6;have hdt:d≠td:=fun z=>by rw [z,et6] at hd;cases hd
     have ek7:H7 ka=some (.tup [.str nm,.int cn]):=(s06.trans s7) _ _ ek;refine ⟨_,rfl,_,rfl,_,rfl,ka,_,0,.str nm,rfl,rfl,SqT.of ek7,at0,am (by show 2<=1000000;decide),fun kp hkp=>?_⟩;have s8:L2.Same H7 (upd H7 kp (.tup [.int ((i:Nat):Int),.str nm])):=af hkp _;have e8:(upd H7 kp (.tup [.int ((i:Nat):Int),.str nm])) kp=some (.tup ((kn2 i nm).map kV)):=ac;generalize (upd H7 kp (.tup [.int ((i:Nat):Int),.str nm]))=H8 at s8 e8 ⊢;have et8:=s8 _ _ et7;refine ⟨td,_,rfl,DPut.t et8 e8 (aK (by omega)),?_⟩;have s58:=(s6.trans s7).trans s8;refine ⟨_,_,_,rfl,aH (s5.trans s58) htd,ac,?_,fun s c row' p' kd h h1 h2 h3=>?_⟩
     · have:=cq tk (kn2 i nm) (.ref r);omega
     · rw [de];by_cases hkk:kn2 s kd.1=kn2 i nm
       · obtain ⟨rfl,hn⟩:=sO hkk;rw [if_pos hkk];have hcj:=gi.nd _ _ _ _ h3 hk hn;subst hcj;rw [hrow] at h1;cases h1;rw [hp] at h2;cases h2;exact ⟨r,rfl,DgN.upd ⟨d,own,kvs,hdt,s8 _ _ er,s8 _ _ ed,hDp⟩ et8⟩
       · rw [if_neg hkk]
         have h':s<i∨(s=i/\c<j):=by
          rcases h with h | ⟨h,hc⟩
          · exact .inl h
          · refine .inr ⟨h,?_⟩;rcases Nat.lt_succ_iff_lt_or_eq.mp hc with z | z
            · exact z
            · refine absurd ?_ hkk;rw [z,hk] at h3;cases h3;rw [h]
         obtain ⟨da,a1,a2⟩:=hall s c row' p' kd h' h1 h2 h3;exact ⟨da,a1,(a2.same s58).upd et8⟩
   · rintro σ H5 ⟨c5,c6,tk,rfl,s5,et5,hlen,hall⟩;rw [List.length_map] at hlen hall;have hi8:=gi.le;refine ⟨_,_,_,_,tk,rfl,s5,et5,by omega,fun s c row' p' kd h h1 h2 h3=>hall s c row' p' kd ?_ h1 h2 h3⟩;rcases h with h | ⟨_,h⟩
     · rcases Nat.lt_succ_iff_lt_or_eq.mp h with z | z
       · exact .inl z
       · refine .inr ⟨z,?_⟩;have:=(List.getElem?_eq_some_iff.mp h3).1;omega
     · cases h
 · rintro σ H3 ⟨c3,c4,c5,c6,tk,rfl,s3,et3,hlen,hall⟩;rw [List.length_map] at hall;refine ⟨_,rfl,k td H3 s3 ⟨tk,et3,fun s c row p kd h1 h2 h3=>?_⟩⟩;obtain ⟨da,a1,a2⟩:=hall s c row p kd (.inl (by have:=(List.getElem?_eq_some_iff.mp h1).1;omega)) h1 h2 h3;exact ⟨da,a1,a2.at⟩
inductive i0 (C:Addr) (vs:List V) (H:Hp) (Q:VK) (_E:XK):Prop
 | mk (td:Addr) (L B:Lv) (i:Nat) (n:Nd) (Dp:DP) (ins:List (Str×Int)) (rows:List (List Th)) (head:Th) (ok:Th->Prop) (W:List Th) (zz0:vs=[.ref td,.ref L.x,.int (i:Nat),.ref B.x]) (zz1:DgTab Dp H ins rows td) (zz2:(∀ p own kvs,Dp p own kvs->kU p kvs)) (zz3:HandC C H L i n B) (zz4:n.sp=[]) (zz5:(∀ kv∈n.ask,∃ s p da,AskE Dp ins rows head H n.t kv s p da/\∀ c∈ay (p.pl []),∃ p' h,Step ins rows c.2.1 c.2.2 n.t.kids p' h/\ok h)) (zz6:(∀ m∈B.ns,GoodNd Dp ins rows head ok H m)) (zz7:(∀ h,ok h->h.tall<=140/\h∈W)) (zz8:W.length<=40000) (zz9:rows.length<=100) (zz10:n.t.kids.length<=100) (zz11:(∃ nm ks,n.t=.knot nm ks)) (zz12:∀ (B':Lv) (sp:List (Key×V)) (H':Hp),HandI C Dp ins rows head ok H L i n B H' B' sp->(∀ kv∈n.ask,EDone Dp ins rows head H n.t sp B'.ns kv)->Q .non H'):i0 C vs H Q _E
def oI (C:Addr):Sp:=i0 C
set_option maxHeartbeats 4000000 in
theorem oQ:aW P w K mg base CX0 3 T.g_hand_on.f T.g_hand_on.d ["digests","level","number","beneath"] (oI T.e_Level):=by
 refine T.g_hand_on.F.ok cb (fun vs H Q E h=>?_) (fun cdv A outer s H vs Q E hr h=>?_)
 · obtain ⟨td,L,B,i,n,Dp,ins,rows,head,ok,W,rfl,_⟩:=h;rfl
 obtain ⟨td,L,B,i,n,Dp,ins,rows,head,ok,W,rfl,hT,hDp,hc,hsp0,hask,hgood,hW,hWl,hrl,hkl,⟨nm,ks,hnt⟩,k⟩:=h;have ni:=List.mem_of_getElem? hc.hi;have ilt:=(List.getElem?_eq_some_iff.mp hc.hi).1;have eta:=hc.lv.tr n ni;rw [hnt,At] at eta;refine hid fun ZZ kZ=>?_;obtain ⟨_,kas,eta,hkas⟩:=eta;obtain ⟨tk,etd,htk⟩:=hT;refine kZ ?_
 refine ⟨_,(ag (ar (i:=4) cb.nd rfl (Or.inl rfl) (az bh (cD (pv 1) rfl) (pv 2) (fun _ _=>rfl)))
  (ag (ar (i:=5) cb.nd rfl (Or.inl rfl) (az bh (cD (pv 1) rfl) (pv 2) (fun _ _=>rfl)))
  (aj (jn (bB PassesOwn.never rfl (pY (az bh (cD (pv 1) rfl) (pv 2) (fun _ _=>rfl))) (bV rfl (aF (aq (i:=6) cb.nd rfl (Or.inl rfl)) (aF (aq (i:=7) cb.nd rfl (Or.inl rfl)) bD))) (aj (jn (bB PassesOwn.never rfl (sP (pv 7)) (bV rfl (aF (aq (i:=8) cb.nd rfl (Or.inl rfl)) (aF (aq (i:=9) cb.nd rfl (Or.inl rfl)) bD))) (ag (ar (i:=10) cb.nd rfl (Or.inl rfl) (az aA (pv 4) (av bq (pv 9) ai) (fun _ _=>rfl)))
  (ag (cM (uN (pZ (dA hr) (pv 9) (pv 5))) (aj (d8 (dA hr) (pv 5) (pv 9) (pA (pv 3) T.cl_Level T.me_Level_spot_of (dW T) (hr.mono (by first | decide | omega)) T.b_Level_spot_of .nil dC (ab (pv 10) ad)) rfl)) bN)
  (aj (d8 (dA hr) (az bh (cD (pv 3) rfl) (ip (dA hr) (pv 5) (pv 9) (fun _ _=>rfl)) (fun _ _=>rfl)) (pv 8) (ip (dA hr) (pv 0) (aU (ab (pv 8) (ab (az aA (pv 10) ai (fun _ _=>rfl)) ad))) (fun _ _=>rfl)) rfl)))))))))))),?_⟩
 try dsimp only [cxK,cxKn]
 refine ⟨_,rfl,L.x,T.e_Level,L.dx,_,_,rfl,hc.lv.ins,T.cl_Level,T.na_Level_trees,lD _ _ _,_,rfl,L.tl,_,_,.ref n.ta,rfl,rfl,SqL.of hc.lv.tl,br (by rw [List.getElem?_map,hc.hi];rfl),?_⟩;dsimp only [aE];refine ⟨_,rfl,L.x,T.e_Level,L.dx,_,_,rfl,hc.lv.ins,T.cl_Level,T.na_Level_kid_spots,qV _ _ _,_,rfl,L.kl,_,_,.ref n.ka,rfl,rfl,SqL.of hc.lv.kl,br (by rw [List.getElem?_map,hc.hi];rfl),?_⟩;dsimp only [aE];refine ⟨_,rfl,L.x,T.e_Level,L.dx,_,_,rfl,hc.lv.ins,T.cl_Level,T.na_Level_asked,nz _ _ _,_,rfl,L.al,_,_,.ref n.aa,rfl,rfl,SqL.of hc.lv.al,br (by rw [List.getElem?_map,hc.hi];rfl),n.aa,n.ask,rfl,hc.lv.ak n ni,fun o1=>?_⟩
 refine oH (a:=n.aa) (o:=o1) (kvs:=n.ask) (fun e σ H3=>Ex8 fun (c6 c7 c8 c9 c10:Option V) (Hg:Hp) (B':Lv) (sp:List (Key×V))=>An5 (σ=[some (.ref td),some (.ref L.x),some (.int ((i:Nat):Int)),some (.ref B.x),some (.ref n.ta),some (.ref n.ka),c6,c7,c8,c9,c10]) ((∀ b,b≠n.aa->H3 b=Hg b)) (H3 n.aa=some (.frz o1 (.dK n.ask))) (HandI T.e_Level Dp ins rows head ok H L i n B Hg B' sp) (∀ (e':Nat) (kv:Key×V),e'<e->n.ask[e']?=some kv->EDone Dp ins rows head H n.t sp B'.ns kv))
  ⟨none,none,none,none,none,H,B,[],rfl,fun b hb=>ae hb,ac,hc.start hsp0 hgood,fun e' kv h=>by cases h⟩ (fun e σ H3 _ ⟨_,_,_,_,_,_,_,_,_,_,h,_,_⟩=>h) ?_ ?_
 · rintro e kv σ H3 hkv ⟨c6,c7,c8,c9,c10,Hg,B1,sp,rfl,eq3,ea3,I,hdone⟩;refine hid fun ZZ kZ=>?_;obtain ⟨s0,p,da,hE,hcalls⟩:=hask kv (List.mem_of_getElem? hkv);obtain ⟨d,own,kvs,eda,ed,hDpp⟩:=hE.dg;obtain ⟨kc1,kc2⟩:=hDp p own kvs hDpp;refine kZ ?_;have gda:=I.ktd.tup _ _ eda;have gd:=I.ktd.dct _ _ ed;have gaa:=I.aa hc;have e3da:H3 da=some (.tup [own,.ref d]):=(eq3 _ (aJ gda gaa (fun z=>nomatch z))).trans gda;have hda:d≠n.aa:=aJ gd gaa (fun z=>nomatch z);have e3d:H3 d=some (.dT kvs):=(eq3 _ hda).trans gd;rw [hE.v];refine ⟨da,_,rfl,SqT.of e3da,rfl,_,_,rfl,_,_,rfl,rfl,?_⟩;dsimp only [aE];refine ⟨_,rfl,d,kvs,rfl,e3d,fun o2=>?_⟩
   refine rN (a:=d) (o:=o2) (kvs:=kvs) (fun f σ H4=>Ex6 fun (c8 c9 c10:Option V) (Hg:Hp) (B':Lv) (sp:List (Key×V))=>An5 (σ=[some (.ref td),some (.ref L.x),some (.int ((i:Nat):Int)),some (.ref B.x),some (.ref n.ta),some (.ref n.ka),some own,some (.ref d),c8,c9,c10]) (Fz2 n.aa d o1 o2 n.ask kvs Hg H4) (HandI T.e_Level Dp ins rows head ok H L i n B Hg B' sp) ((∀ (e':Nat) (kv:Key×V),e'<e->n.ask[e']?=some kv->EDone Dp ins rows head H n.t sp B'.ns kv)) (∀ (f':Nat) (kv:List Key×V) (c:Int×Int),f'<f->kvs[f']?=some kv->kv.1=ky c->CDone sp n.t B'.ns c))
    ⟨_,_,_,Hg,B1,sp,rfl,⟨fun b h1 h2=>by rw [ae h2];exact eq3 b h1,by rw [ae hda.symm];exact ea3,ac,gaa,gd⟩,I,hdone,fun f' kv c h=>by cases h⟩ (fun f σ H4 _ ⟨_,_,_,_,_,_,_,z,_,_,_⟩=>z.fd) ?_ ?_
   · rintro f kv2 b σ H4 hkv2 eb ⟨c8,c9,c10,Hg,B1,sp,rfl,z,I,hdone,hdone2⟩;refine hid fun ZZ kZ=>?_;obtain ⟨c,hcm,hkc⟩:=kc1 kv2 (List.mem_of_getElem? hkv2);obtain ⟨pl,s',kid⟩:=c;obtain ⟨p',h,st,hok⟩:=hcalls _ hcm;refine kZ ?_;rw [hkc] at eb;have eb':H4 b=some (.tup [.int s',.int kid]):=eb;refine ⟨b,_,rfl,SqT.of eb',rfl,_,_,rfl,_,_,rfl,rfl,?_⟩;dsimp only [aE];refine hid fun ZZ kZ=>?_;obtain ⟨s0',k0,hkid,m,hs,cc,j0,row,hm,hins,hrow,hp'⟩:=id st;refine kZ ?_;simp only at s0' k0 hkid hrow
     have frm:∀ b' xs,H b'=some (.tup xs)->H4 b'=some (.tup xs):=fun b' xs eb2=>by
      have g:=I.ktd.tup _ _ eb2;rw [z.eq b' (aJ g z.ga (fun z=>nomatch z)) (aJ g z.gd (fun z=>nomatch z))];exact g
     have e4ta:H4 n.ta=_:=frm _ _ eta;have hkas4:=hkas.mono frm;rw [hnt] at hkid;obtain ⟨pa,hpa,hAp⟩:=hkas4.get' hkid;refine ⟨_,rfl,_,rfl,_,_,rfl,rfl,n.ta,_,kid+1,.ref pa,rfl,rfl,SqT.of e4ta,bz (by omega) (by rw [show (kid+1).toNat=kid.toNat+1 by omega,List.getElem?_cons_succ,List.getElem?_map,hpa];rfl),?_⟩;dsimp only [aE];have e4ka:H4 n.ka=some (.dK sp):=(z.eq _ (gP hc.lv.nd hc.hi).symm (aJ (I.ka hc) z.gd (fun z=>nomatch z))).trans (I.ka hc);refine cf (fun σ' H5=>Ex5 fun (Hg:Hp) (B':Lv) (sp:List (Key×V)) (j:Nat) (mj:Nd)=>An8 (σ'=[some (.ref td),some (.ref L.x),some (.int ((i:Nat):Int)),some (.ref B.x),some (.ref n.ta),some (.ref n.ka),some own,some (.ref d),some (.int s'),some (.int kid),some (.ref pa)]) (Fz2 n.aa d o1 o2 n.ask kvs Hg H5) (HandI T.e_Level Dp ins rows head ok H L i n B Hg B' sp) ((∀ (e':Nat) (kv:Key×V),e'<e->n.ask[e']?=some kv->EDone Dp ins rows head H n.t sp B'.ns kv)) ((∀ (f':Nat) (kv:List Key×V) (c:Int×Int),f'<f->kvs[f']?=some kv->kv.1=ky c->CDone sp n.t B'.ns c)) (aQ sp (Sum.inl kid)=some (.int (j:Nat))) (B'.ns[j]?=some mj) (mj.t=h)) (fun kk hk=>?_) ?_
     · refine ck (fun bb H'=>An2 (H4=H') (bb=!(aQ sp (Sum.inl kid)).isSome)) (fun k2 hk2=>?_) (fun H' hb=>?_) (fun H' hb=>?_)
       · exact ⟨_,rfl,_,rfl,n.ka,_,rfl,DGet.k (k:=Sum.inl kid) e4ka,_,rfl,hk2 _ _ ⟨rfl,rfl⟩⟩
       · obtain ⟨rfl,hb⟩:=hb
         have hno:aQ sp (Sum.inl kid)=none:=by
          cases hv:aQ sp (Sum.inl kid) with
          | none=>rfl
          | some v=>rw [hv] at hb;cases hb
         have hx:=I.bn.ins;rw [I.gr.x] at hx;have hx4:H4 B.x=_:=(z.eq _ (aJ hx z.ga (fun z=>nomatch z)) (aJ hx z.gd (fun z=>nomatch z))).trans hx
         have hB4:LvSh T.e_Level H4 B1:=by
          refine I.bn.keep (fun b' xs eb2=>?_) (fun b' hb' o eo=>?_)
          · rw [z.eq b' (aJ eb2 z.ga (fun z=>nomatch z)) (aJ eb2 z.gd (fun z=>nomatch z))];exact eb2
          · have h1:b'≠n.aa:=fun y=>I.dis hc _ (eF ni) (y ▸ hb')
            have h2:b'≠d:=fun y=>by
             obtain ⟨o',e',_,h2,_⟩:=cg I.bn hb';rw [y,z.gd] at e';exact h2 _ (Option.some.inj e').symm
            rw [z.eq b' h1 h2];exact eo
         have hlen:B1.ns.length<=50000:=by
          have:=cY (m:=W) I.bn.un fun u hu=>by
           obtain ⟨m',hm',rfl⟩:=List.mem_map.mp hu;exact (hW _ (I.good m' hm').ok).2
          rw [List.length_map] at this;omega
         have hgx:=I.gr.x;refine ⟨_,rfl,B.x,_,_,rfl,hx4,qA _ _ _ (by decide +kernel) (by decide +kernel) (by decide +kernel),_,rfl,B1,pa,h,by rw [hgx];rfl,hB4,hAp,(hW h hok).1,fun m' hm'=>(hW _ (I.good m' hm').ok).1,hlen,fun B2 j mj H5 hB2 hor hj hmj fr=>?_⟩;have hnk:n.t.kids[kid.toNat]?=some h:=by rw [hnt];exact hkid
         obtain ⟨e5k,z',I'⟩:=I.spot hc z hB2 hor hj hmj fr hnk k0 hno hok;have hspl:=I.spk.len I.spn;refine ⟨_,rfl,_,rfl,n.ka,_,rfl,DPut.k (k:=Sum.inl kid) e5k (aK (by omega)),?_⟩
         have g2:Grow B1 B2:=by
          rcases hor with rfl | ⟨_,_,_,_,rfl⟩
          · exact Grow.refl
          · exact Grow.add
         have hs2:∀ (k:Key) (v:V),aQ sp k=some v->aQ (bj sp (Sum.inl kid) (.int ((j:Nat):Int))) k=some v:=fun k v hv=>by
          rw [de,if_neg (fun y=>by rw [y,hno] at hv;cases hv)];exact hv
         exact hk _ _ ⟨_,B2,_,j,mj,rfl,z',I',fun e' kv h1 h2=>(hdone e' kv h1 h2).grow g2 hs2,fun f' kv c h1 h2 h3=>(hdone2 f' kv c h1 h2 h3).mono g2 hs2,by rw [de,if_pos rfl],hj,hmj⟩
       · obtain ⟨rfl,hb⟩:=hb;cases hv:aQ sp (Sum.inl kid) with
         | none=>rw [hv] at hb;cases hb
         | some v =>
           refine hid fun ZZ kZ=>?_;obtain ⟨kid',j,mj,he,hj,_,hk3⟩:=I.spk _ (hV hv);refine kZ ?_;injection he with he1 he2;injection he1 with he1;subst he1;rw [hnt] at hk3;rw [he2] at hv;exact hk _ _ ⟨Hg,B1,sp,j,mj,rfl,z,I,hdone,hdone2,hv,hj,Option.some.inj (hk3.symm.trans hkid)⟩
     rintro σ' H5 ⟨Hg,B1,sp,j,mj,rfl,z,I,hdone,hdone2,hvj,hj,hmj⟩
     have frm:∀ b' xs,H b'=some (.tup xs)->H5 b'=some (.tup xs):=fun b' xs eb2=>by
      have g:=I.ktd.tup _ _ eb2;rw [z.eq b' (aJ g z.ga (fun z=>nomatch z)) (aJ g z.gd (fun z=>nomatch z))];exact g
     obtain ⟨pa',hpa',hAp5⟩:=(hkas.mono frm).get' hkid;have epa:pa'=pa:=Option.some.inj (hpa'.symm.trans hpa);subst epa;rw [hm,At] at hAp5;refine hid fun ZZ kZ=>?_;obtain ⟨_,has,e5pa,_⟩:=hAp5;obtain ⟨da',hda',hdg'⟩:=htk s'.toNat j0 row p' (m,cc) hrow hp' hins;refine kZ ?_;refine ⟨_,rfl,_,rfl,_,rfl,pa',_,0,.str m,rfl,rfl,SqT.of e5pa,at0,am (by show 2<=1000000;decide),fun kp hkp=>?_⟩;have s7:L2.Same H5 (upd H5 kp (.tup [.int s',.str m])):=af hkp _
     have e7:(upd H5 kp (.tup [.int s',.str m])) kp=some (.tup ((kn2 s'.toNat m).map kV)):=by
      rw [ac];show _=some (HO.tup [.int ((s'.toNat:Nat):Int),.str m]);rw [Int.toNat_of_nonneg s0']
     generalize (upd H5 kp (.tup [.int s',.str m]))=H7 at s7 e7 ⊢;have gtd:=I.ktd.dct _ _ etd
     have rtd:Rd H7 td (.dT tk):=by
      by_cases y:td=d
      · refine .inr ⟨o2,?_⟩
        have:kvs=tk:=by
         have g:=z.gd;rw [<- y,gtd] at g;cases g;rfl
        rw [y,<- this];exact s7 _ _ z.fd
      · exact .inl (s7 _ _ ((z.eq td (aJ gtd z.ga (fun z=>nomatch z)) y).trans gtd))
     obtain ⟨e7m,z',I'⟩:=I.ask hc z s7 hj s0' (by rw [hmj];exact st.pat) (hdg'.mono I.ktd);have hx:=I.bn.ins;have hal:=I.bn.al;rw [I.gr.x,I.gr.tl,I.gr.al,I.gr.kl,I.gr.dx] at hx;rw [I.gr.al] at hal;have hx7:H7 B.x=_:=s7 _ _ ((z.eq _ (aJ hx z.ga (fun z=>nomatch z)) (aJ hx z.gd (fun z=>nomatch z))).trans hx);have hal7:H7 B.al=_:=s7 _ _ ((z.eq _ (aJ hal z.ga (fun z=>nomatch z)) (aJ hal z.gd (fun z=>nomatch z))).trans hal);have e7ka:H7 n.ka=some (.dK sp):=s7 _ _ ((z.eq _ (gP hc.lv.nd hc.hi).symm (aJ (I.ka hc) z.gd (fun z=>nomatch z))).trans (I.ka hc));have gk:DGet H7 n.ka (.int kid) (some (.int ((j:Nat):Int))):=by have:=DGet.k (k:=Sum.inl kid) e7ka;rw [hvj] at this;exact this
     have hgm:=I.good mj (List.mem_of_getElem? hj);have hal2:=hgm.ask.len hgm.nd;refine ⟨td,.ref da',rfl,.inr ⟨tk,kn2 s'.toNat m,kp,rtd,rfl,e7,hda'.symm⟩,_,rfl,B.x,T.e_Level,B.dx,_,_,rfl,hx7,T.cl_Level,T.na_Level_asked,nz _ _ _,_,rfl,_,rfl,n.ka,_,rfl,gk,B.al,_,_,.ref mj.aa,rfl,rfl,SqL.of hal7,br (by rw [List.getElem?_map,hj];rfl),_,rfl,mj.aa,_,rfl,DPut.k (k:=Sum.inl s') e7m (aK (by omega)),?_⟩;have g2:Grow B1 (B1.setAsk j mj (bj mj.ask (Sum.inl s') (.ref da'))):=Grow.setAsk hj;refine ⟨_,_,_,_,_,_,rfl,z',I',fun e' kv h1 h2=>(hdone e' kv h1 h2).grow g2 (fun _ _ h=>h),fun f' kv c h1 h2 h3=>?_⟩;rcases Nat.lt_succ_iff_lt_or_eq.mp h1 with h4 | h4
     · exact (hdone2 f' kv c h4 h2 h3).mono g2 (fun _ _ h=>h)
     · rw [h4,hkv2] at h2;cases h2;have:=iz (hkc.symm.trans h3);subst this;refine ⟨j,{ mj with ask:=bj mj.ask (Sum.inl s') (.ref da') },hvj,List.getElem?_set_self (List.getElem?_eq_some_iff.mp hj).1,?_,?_⟩
       · rw [hnt];exact hkid.trans (congrArg some hmj.symm)
       · show (aQ (bj _ _ _) _).isSome=true;rw [de,if_pos rfl];rfl
   · rintro σ H4 ⟨c8,c9,c10,Hg,B1,sp,rfl,z,I,hdone,hdone2⟩;refine ⟨fun b=>if b=d then some (.dT kvs) else H4 b,fun b=>?_,?_⟩
     · by_cases hb:b=d
       · refine .inr ⟨o2,.dT kvs,by rw [hb];exact z.fd,by rw [hb];exact e3d,if_pos hb⟩
       · exact .inl (if_neg hb)
     · refine ⟨_,_,_,_,_,Hg,B1,sp,rfl,fun b hb=>?_,(if_neg hda.symm).trans z.fa,I,fun e' kv' h1 h2=>?_⟩
       · dsimp only;by_cases hbd:b=d
         · rw [if_pos hbd,hbd,z.gd]
         · rw [if_neg hbd];exact z.eq b hb hbd
       · rcases Nat.lt_succ_iff_lt_or_eq.mp h1 with h4 | h4
         · exact hdone e' kv' h4 h2
         · rw [h4,hkv] at h2;cases h2;refine ⟨s0,p,da,hE,fun c hcm=>?_⟩;refine hid fun ZZ kZ=>?_;obtain ⟨kv3,hkv3,hk3⟩:=kc2 c hcm;obtain ⟨f',hf'⟩:=List.mem_iff_getElem?.mp hkv3;refine kZ ?_;exact hdone2 f' kv3 c.2 (List.getElem?_eq_some_iff.mp hf').1 hf' hk3
 · rintro σ H3 ⟨c6,c7,c8,c9,c10,Hg,B1,sp,rfl,eq3,ea3,I,hdone⟩;refine ⟨Hg,fun b=>?_,?_⟩
   · by_cases hb:b=n.aa
     · refine .inr ⟨o1,.dK n.ask,by rw [hb];exact ea3,by rw [hb];exact hc.lv.ak n ni,by rw [hb];exact I.aa hc⟩
     · exact .inl (eq3 b hb).symm
   · refine k B1 sp Hg I fun kv hkv=>?_;obtain ⟨e',he'⟩:=List.mem_iff_getElem?.mp hkv;exact hdone e' kv (List.getElem?_eq_some_iff.mp he').1 he'
inductive gu (C:Addr) (vs:List V) (H:Hp) (Q:VK) (_E:XK):Prop
 | mk (td hda ta:Addr) (t:Th) (Dp:DP) (ins:List (Str×Int)) (rows:List (List Th)) (head:Th) (W:List Th) (zz0:vs=[.ref td,.ref hda,.ref ta]) (zz1:DgTab Dp H ins rows td) (zz2:DgAt Dp H head hda) (zz3:(∀ p own kvs,Dp p own kvs->kU p kvs)) (zz4:At H t ta) (zz5:t.Fit ins) (zz6:t.tall<=100) (zz7:t∈W) (zz8:il ins rows head W) (zz9:(∀ c∈ay (head.pl []),∃ p',Step ins rows c.2.1 c.2.2 [t] p' t)) (zz10:∀ (r:Addr) (Ls:List Lv) (H':Hp),L2.Same H H'->H' r=some (.lst (Ls.map fun L=>V.ref L.x))->tV C Dp ins rows head H' Ls []->qB t Ls->Ls.length<=150->Q (.ref r) H'):gu C vs H Q _E
def mC (C:Addr):Sp:=gu C
set_option maxHeartbeats 4000000 in
theorem l4:aW P w K mg base CX0 4 T.g_levels_of.f T.g_levels_of.d ["digests","head","tree"] (mC T.e_Level):=by
 refine T.g_levels_of.F.ok bQ (fun vs H Q E h=>?_) (fun cdv A outer s H vs Q E hr h=>?_)
 · obtain ⟨td,hda,ta,t,Dp,ins,rows,head,W,rfl,_⟩:=h;rfl
 obtain ⟨td,hda,ta,t,Dp,ins,rows,head,W,rfl,hT,hhd,hDp,hA,hfit,htl,htW,TO,hhead,k⟩:=h
 refine ⟨_,(ag (ar (i:=3) bQ.nd rfl (Or.inl rfl) (nI T.mk_Level (fY T) (hr.mono (by first | decide | omega)) rfl T.x_Level T.b_Level_init .nil dC))
  (ag (ar (i:=4) bQ.nd rfl (Or.inl rfl) (pA (pv 3) T.cl_Level T.me_Level_spot_of (dW T) (hr.mono (by first | decide | omega)) T.b_Level_spot_of .nil dC (ab (pcF T.g_above (rS T) hr (ab (pv 2) ad)) ad)))
  (ag (d8 (dA hr) (az bh (cD (pv 3) rfl) (pv 4) (fun _ _=>rfl)) (bX (v:=.int (-1)) rfl T.c_HEAD.choose_spec ⟨_,rfl⟩) (pv 1) rfl)
  (ag (ar (i:=5) bQ.nd rfl (Or.inl rfl) (aM ad))
  (ag (fG PassesOwn.never (b9 (cD (pv 3) rfl) (fun _=>rfl)) (ag (bm (ci PySem.F.plainAttrs_list PySem.F.slot_list_append PySem.F.type_list_append aV (pv 5) (ab (pv 3) ad)))
  (ag (ar (i:=6) bQ.nd rfl (Or.inl rfl) (nI T.mk_Level (fY T) (hr.mono (by first | decide | omega)) rfl T.x_Level T.b_Level_init .nil dC))
  (ag (bB PassesOwn.never rfl (bT rfl T.n_range (ab (aG aB rfl T.n_len PySem.boot_len (ab (cD (pv 3) rfl) ad)) ad)) (aq (i:=7) bQ.nd rfl (Or.inl rfl)) (aj (bm (pcF T.g_hand_on (oQ T) hr (ab (pv 0) (ab (pv 3) (ab (pv 7) (ab (pv 6) ad))))))))
  (aj (ar (i:=3) bQ.nd rfl (Or.inl rfl) (pv 6)))))))
  (aj (aD (pv 5)))))))),?_⟩
 try dsimp only [cxK,cxKn]
 intro x dx hx hdx hne;refine ⟨x,dx,rfl,ac,fun tl al kl H1 sb htl' hal hkl n1 n2 n3 ex e1 e2 e3=>⟨rfl,?_⟩⟩;dsimp only [aE];obtain ⟨s1,hL0,hown0⟩:=pE hx hdx hne sb htl' hal hkl n1 n2 n3 ex e1 e2 e3;refine ⟨_,rfl,x,_,_,rfl,hL0.ins,qA _ _ _ (by decide +kernel) (by decide +kernel) (by decide +kernel),_,rfl,.ref ta,rfl,fun ap hap=>?_⟩;have s2:L2.Same H1 (upd H1 ap (.tup [.str (Str.ofString ""),.ref ta])):=af hap _;have e2':(upd H1 ap (.tup [.str (Str.ofString ""),.ref ta])) ap=some (.tup [.str (Str.ofString ""),.ref ta]):=ac;generalize (upd H1 ap (.tup [.str (Str.ofString ""),.ref ta]))=H2 at s2 e2' ⊢
 have hAa:At H2 (.knot Str.empty [t]) ap:=by
  rw [At];exact ⟨by decide +kernel,[ta],e2',.cons (hA.mono (Same.kt (s1.trans s2))) .nil⟩
 have htall:(Th.knot Str.empty [t]).tall=t.tall+1:=by rw [Th.tall,aC,aC];omega
 have hap0:H ap=none:=s1.free hap;refine ⟨⟨x,dx,tl,al,kl,[]⟩,ap,.knot Str.empty [t],rfl,hL0.keep (Same.kt s2) (fun b _ o e=>s2 b o e),hAa,by omega,fun n hn=>(by cases hn),by show 0<=50000;decide,fun L1 j n H3 hL1 hor hj hnt fr=>?_⟩;dsimp only [aE];rcases hor with rfl | ⟨aa,ka,haa,hka,rfl⟩
 · cases hj
 have hn0:j=0/\n=⟨.knot Str.empty [t],ap,aa,ka,[],[]⟩:=by
  cases j with
  | zero=>exact ⟨rfl,(Option.some.inj hj).symm⟩
  | succ j=>cases hj
 obtain ⟨rfl,rfl⟩:=hn0;have e3a:=hL1.ak _ (List.mem_of_getElem? hj);refine ⟨_,rfl,_,rfl,x,T.e_Level,dx,_,_,rfl,hL1.ins,T.cl_Level,T.na_Level_asked,nz _ _ _,_,rfl,al,_,_,.ref aa,rfl,rfl,SqL.of hL1.al,br (j:=0) rfl,aa,_,rfl,DPut.k (k:=Sum.inl (-1)) e3a (aK (by show 0<=1000000;decide)),?_⟩;have f3:L2.Same H H3:=fun b o e=>fr b o (fun z=>by rw [hown0 b (cu (L:=⟨x,dx,tl,al,kl,[]⟩) b z)] at e;cases e) (s2 _ _ (s1 _ _ e));have haa0:H aa=none:=(s1.trans s2).free haa;have hka0:H ka=none:=(s1.trans s2).free hka;have s4:L2.Same H (upd H3 aa (.dK (bj [] (Sum.inl (-1)) (.ref hda)))):=aH f3 haa0;have e4a:(upd H3 aa (.dK (bj [] (Sum.inl (-1)) (.ref hda)))) aa=some (.dK (bj [] (Sum.inl (-1)) (.ref hda))):=ac;have hL4:=hL1.setAsk (ask:=bj [] (Sum.inl (-1)) (.ref hda)) hj (fun b xs e=>by rw [ae (aJ e e3a (fun z=>nomatch z))];exact e) (fun b _ hb o e=>by rw [ae hb];exact e) e4a;generalize (upd H3 aa (.dK (bj [] (Sum.inl (-1)) (.ref hda))))=H4 at s4 e4a hL4 ⊢;refine ⟨am (by show 0<=1000000;decide),fun lv hlv=>?_⟩;dsimp only [aE];have s5:L2.Same H4 (upd H4 lv (.lst [])):=af hlv _;have e5:(upd H4 lv (.lst [])) lv=some (.lst []):=ac;generalize (upd H4 lv (.lst []))=H5 at s5 e5 ⊢;have s05:=s4.trans s5;have hlv0:H lv=none:=s4.free hlv;generalize hLd:(Lv.add ⟨x,dx,tl,al,kl,[]⟩ (.knot Str.empty [t]) ap aa ka).setAsk 0 ⟨.knot Str.empty [t],ap,aa,ka,[],[]⟩ (bj [] (Sum.inl (-1)) (.ref hda))=L at hL4;have hLns:L.ns=[⟨.knot Str.empty [t],ap,aa,ka,[(Sum.inl (-1),.ref hda)],[]⟩]:=by rw [<- hLd];rfl
 have hLx:L.x=x:=by rw [<- hLd];rfl
 have hLown:∀ b∈L.own,H b=none:=fun b hb=>by
  have hb':b∈(Lv.mk x dx tl al kl []).own∨b=aa∨b=ka:=by
   rw [<- hLd] at hb;have:b=x∨b=tl∨b=al∨b=kl∨b=aa∨b=ka:=by simpa [Lv.own,Lv.setAsk,Lv.add,dcts] using hb
   rcases this with h | h | h | h | h | h
   · exact .inl (by rw [h];simp [Lv.own])
   · exact .inl (by rw [h];simp [Lv.own])
   · exact .inl (by rw [h];simp [Lv.own])
   · exact .inl (by rw [h];simp [Lv.own])
   · exact .inr (.inl h)
   · exact .inr (.inr h)
  rcases hb' with h | rfl | rfl
  · exact hown0 b h
  · exact haa0
  · exact hka0
 have hL5:LvSh T.e_Level H5 L:=hL4.keep (Same.kt s5) (fun b _ o e=>s5 b o e)
 have hlvL:lv∉L.own:=fun z=>by
  obtain ⟨o,e,_⟩:=cg hL4 z;rw [hlv] at e;cases e
 have I0:LoopI T.e_Level Dp ins rows head W t H lv (t.tall+1) H5 [] L:=by
  refine ⟨s05,e5,⟨fun M hM=>(by cases hM),fun k M hk=>(by cases hk)⟩,hL5,fun n hn=>?_,fun M hM=>(by cases hM),⟨hlvL,fun M hM=>(by cases hM)⟩,⟨hlv0,hLown,fun M hM=>(by cases hM)⟩,⟨L,_,rfl,hLns,rfl,?_⟩,by show 0+_<=_;omega,by rw [hLns];show 1<=50000;decide⟩
  · rw [hLns] at hn;rw [List.mem_singleton.mp hn];refine ⟨rfl,by simp,fun kv hkv=>?_,⟨_,_,rfl⟩,by show 1<=100;decide,by show (Th.knot Str.empty [t]).tall<=_;omega⟩;have hkv':kv=(Sum.inl (-1),.ref hda):=List.mem_singleton.mp hkv;subst hkv';refine ⟨-1,head,hda,⟨rfl,rfl,.inl ⟨rfl,rfl,t,rfl⟩,hhd.mono (KTD.of s05)⟩,fun c hc=>?_⟩;obtain ⟨p',st⟩:=hhead c hc;exact ⟨p',t,st,by omega,htW,hfit⟩
  · show (aQ [((Sum.inl (-1):Key),V.ref hda)] (Sum.inl (-1))).isSome=true;rw [bA rfl];rfl
 have hx0:x=L.x:=hLx.symm;rw [hx0];refine ⟨fun mz σ H6=>Ex5 fun (Ls:List Lv) (L:Lv) (c4 c6 c7:Option V)=>An2 (σ=[some (.ref td),some (.ref hda),some (.ref ta),some (.ref L.x),c4,some (.ref lv),c6,c7]) (LoopI T.e_Level Dp ins rows head W t H lv mz H6 Ls L),⟨_,[],L,_,_,_,rfl,I0⟩,?_⟩;rintro mz σ H6 ⟨Ls,L,c4,c6,c7,rfl,I⟩;refine ⟨_,rfl,L.x,T.e_Level,L.dx,_,_,rfl,I.cur.ins,T.cl_Level,T.na_Level_trees,lD _ _ _,!(L.ns.map fun n=>V.ref n.ta).isEmpty,?_,?_⟩
 · exact .inl ⟨_,SqL.of I.cur.tl,rfl⟩
 refine dw (fun cc=>?_) (fun cc=>?_)
 · have hne:L.ns≠[]:=fun z=>by rw [z] at cc;cases cc
   refine ⟨fun σ' H'=>∃ m',m'<mz/\Ex5 fun (Ls:List Lv) (L:Lv) (c4 c6 c7:Option V)=>An2 (σ'=[some (.ref td),some (.ref hda),some (.ref ta),some (.ref L.x),c4,some (.ref lv),c6,c7]) (LoopI T.e_Level Dp ins rows head W t H lv m' H' Ls L),fun σ' H' h=>h,?_⟩;have hll:=I.len;refine ⟨_,rfl,.inl ⟨rfl,_,SqL.of I.ls⟩,_,rfl,lv,_,_,rfl,rfl,I.ls,aK (by rw [List.length_map];omega),?_⟩
   have eLx:(upd H6 lv (.lst ((Ls.map fun L=>V.ref L.x)++[.ref L.x]))) L.x=some (.ins T.e_Level L.dx (lvF L.tl L.al L.kl)):=by
    rw [ae (aJ I.cur.ins I.ls (fun z=>nomatch z))];exact I.cur.ins
   have hL7:LvSh T.e_Level (upd H6 lv (.lst ((Ls.map fun L=>V.ref L.x)++[.ref L.x]))) L:=I.cur.keep (bt I.ls) (fun b hb o e=>by rw [ae (show b≠lv from fun z=>I.lvn.1 (z ▸ hb))];exact e);have k7:KTD H6 (upd H6 lv (.lst ((Ls.map fun L=>V.ref L.x)++[.ref L.x]))):=⟨bt I.ls,fun b xs e=>by rw [ae (aJ e I.ls (fun z=>nomatch z))];exact e⟩;generalize hH7:(upd H6 lv (.lst ((Ls.map fun L=>V.ref L.x)++[.ref L.x])))=H7 at eLx hL7 k7 ⊢;intro x dx hx hdx hne2;refine ⟨x,dx,rfl,ac,fun tl al kl H8 sb htl' hal hkl n1 n2 n3 ex e1 e2 e3=>⟨rfl,?_⟩⟩;dsimp only [aE];obtain ⟨s8,hB,hown⟩:=pE hx hdx hne2 sb htl' hal hkl n1 n2 n3 ex e1 e2 e3;have hL8:LvSh T.e_Level H8 L:=hL7.keep (Same.kt s8) (fun b _ o e=>s8 b o e)
   have disLB:∀ b∈L.own,b∉(Lv.mk x dx tl al kl []).own:=fun b hb hz=>by
    obtain ⟨o,e,_⟩:=cg hL7 hb;rw [hown b hz] at e;cases e
   have k08:KTD H H8:=((KTD.of I.same).trans k7).trans (KTD.of s8);refine ⟨_,rfl,L.x,T.e_Level,L.dx,_,_,rfl,hL8.ins,T.cl_Level,T.na_Level_trees,lD _ _ _,L.tl,_,rfl,.inl (SqL.of hL8.tl),_,rfl,?_⟩;have hlen:((L.ns.map fun n=>V.ref n.ta).length:Int).toNat=L.ns.length:=by rw [List.length_map,Int.toNat_natCast]
   have hcnt:=I.cnt;refine ⟨by rw [List.length_map];omega,by rw [List.length_map];omega,?_⟩;rw [hlen]
   refine bR (fun i σ H9=>Ex3 fun (c7:Option V) (L' B':Lv)=>An2 (σ=[some (.ref td),some (.ref hda),some (.ref ta),some (.ref L.x),c4,some (.ref lv),some (.ref x),c7]) (RunI T.e_Level Dp ins rows head (Okd W ins (mz - 1)) H8 L ⟨x,dx,tl,al,kl,[]⟩ i H9 L' B'))
    ⟨_,L,⟨x,dx,tl,al,kl,[]⟩,rfl,RunI.start hL8 hB rfl⟩ ?_ ?_
   · rintro i σ H9 hi ⟨c7,L',B',rfl,R⟩;dsimp only [aE];obtain ⟨n,hn⟩:∃ n,L.ns[i]?=some n:=⟨_,List.getElem?_eq_getElem hi⟩;have hn':L'.ns[i]?=some n:=(R.todo i (Nat.le_refl _)).trans hn;have rdy:=(I.rd n (List.mem_of_getElem? hn)).mono ((k7.trans (KTD.of s8)).trans R.ktd);have hC:=R.handC hL8 disLB hn';have hLx':L'.x=L.x:=R.up.x;have hBx:B'.x=x:=R.gr.x;have ei:(0:Int)+((i:Nat):Int)=((i:Nat):Int):=by omega
     refine ⟨_,rfl,_,rfl,_,rfl,_,rfl,td,L',B',i,n,Dp,ins,rows,head,Okd W ins (mz - 1),W,by rw [hLx',hBx,ei];rfl,hT.mono (k08.trans R.ktd),hDp,hC,rdy.sp,rdy.ask,R.good,fun h ho=>⟨?_,ho.mem⟩,TO.wl,TO.rl,rdy.kids,rdy.knot,fun B2 sp H10 I2 hd=>?_⟩
     · have:=ho.tall;have:=I.len;omega
     · exact ⟨_,_,_,rfl,R.step hn' I2 hd⟩
   · rintro σ H9 ⟨c7,L',B',rfl,R⟩;have hBx:B'.x=x:=R.gr.x;subst hH7;obtain ⟨hlt,I'⟩:=I.step TO hne s8 hown R;exact ⟨_,rfl,mz - 1,hlt,_,B',_,_,_,by rw [hBx];rfl,I'⟩
 · have hns:L.ns=[]:=by
    cases hL:L.ns with
    | nil=>rfl
    | cons a as=>rw [hL] at cc;exact absurd rfl cc
   have htop:qB t Ls:=by
    obtain ⟨L0,n0,h1,h2,h3,h4⟩:=I.top;cases Ls with
    | cons M Ms=>exact ⟨L0,n0,h1,h2,h3,h4⟩
    | nil =>
      have hL0:L=L0:=Option.some.inj h1;rw [<- hL0,hns] at h2;cases h2
   have hch:=I.ch;rw [hns] at hch;exact ⟨_,rfl,k lv Ls H6 I.same I.ls hch htop (by have:=I.len;omega)⟩
def WsAt (H:Hp) (bl:Addr) (ws:List (Addr×List (Key×V))):Prop:=H bl=some (.lst (ws.map fun w=>V.ref w.1))/\∀ w∈ws,H w.1=some (.dK w.2)/\(w.2.map (·.1)).Nodup/\∀ kv∈w.2,∃ s:Int,kv.1=Sum.inl s
inductive fy (vs:List V) (H:Hp) (Q:VK) (_E:XK):Prop
 | mk (ka bl:Addr) (sp:List (Key×V)) (ws:List (Addr×List (Key×V))) (zz0:vs=[.ref ka,.ref bl]) (zz1:H ka=some (.dK sp)) (zz2:(sp.map (·.1)).Nodup) (zz3:sp.length<=100) (zz4:WsAt H bl ws) (zz5:(∀ w∈ws,w.1≠ka/\w.2.length<=101)) (zz6:(∀ kv∈sp,∃ (kid:Int) (j:Nat) (w:Addr×List (Key×V)),kv=(Sum.inl kid,.int (j:Nat))/\ws[j]?=some w)) (zz7:∀ (r:Addr) (ckv:List (List Key×V)) (H':Hp),L2.Same H H'->H r=none->H' r=some (.dT ckv)->(∀ (kid:Int) (j:Nat) (w:Addr×List (Key×V)) (s:Int) (v:V),aQ sp (Sum.inl kid)=some (.int (j:Nat))->ws[j]?=some w->aQ w.2 (Sum.inl s)=some v->aQ ckv (ky (s,kid))=some v)->Q (.ref r) H'):fy  vs H Q _E
def kI:Sp:=fy
set_option maxHeartbeats 4000000 in
theorem kB:aW P w K mg base CX0 1 T.g_kid_worths.f T.g_kid_worths.d ["spots","beneath"] kI:=by
 refine T.g_kid_worths.F.ok bS (fun vs H Q E h=>?_) (fun cdv A outer s H vs Q E hr h=>?_)
 · obtain ⟨ka,bl,sp,ws,rfl,_⟩:=h;rfl
 obtain ⟨ka,bl,sp,ws,rfl,eka,hnd,hspl,⟨ebl,hws⟩,hwk,hsp,k⟩:=h
 refine ⟨_,(ag (ar (i:=2) bS.nd rfl (Or.inl rfl) gY)
  (ag (jn (bB PassesOwn.never rfl (jK (pv 0)) (bV rfl (aF (aq (i:=3) bS.nd rfl (Or.inl rfl)) (aF (aq (i:=4) bS.nd rfl (Or.inl rfl)) bD))) (aj (jn (bB PassesOwn.never rfl (jK (az bh (pv 1) (pv 4) (fun _ _=>rfl))) (bV rfl (aF (aq (i:=5) bS.nd rfl (Or.inl rfl)) (aF (aq (i:=6) bS.nd rfl (Or.inl rfl)) bD))) (aj (d8 (dA hr) (pv 2) (aU (ab (pv 5) (ab (pv 3) ad))) (pv 6) rfl)))))))
  (aj (aD (pv 2))))),?_⟩
 try dsimp only [cxK,cxKn]
 intro r hr0;dsimp only [aE];have s1:L2.Same H (upd H r (.dT [])):=af hr0 _;have e1:(upd H r (.dT [])) r=some (.dT []):=ac;generalize (upd H r (.dT []))=H1 at s1 e1 ⊢;have hkr:ka≠r:=au eka hr0;refine ⟨_,rfl,ka,sp,rfl,s1 _ _ eka,fun o1=>?_⟩
 refine lm (a:=ka) (o:=o1) (kvs:=sp) (fun e σ H3=>Ex5 fun (c3 c4 c5 c6:Option V) (ckv:List (List Key×V))=>An6 (σ=[some (.ref ka),some (.ref bl),some (.ref r),c3,c4,c5,c6]) ((∀ b u,b≠ka->H b=some u->H3 b=some u)) (H3 ka=some (.frz o1 (.dK sp))) (H3 r=some (.dT ckv)) (ckv.length<=101 * e) (∀ (e':Nat) (kid:Int) (j:Nat) (w:Addr×List (Key×V)) (s:Int) (v:V),e'<e->sp[e']?=some (Sum.inl kid,.int (j:Nat))->ws[j]?=some w->aQ w.2 (Sum.inl s)=some v->aQ ckv (ky (s,kid))=some v))
  ⟨none,none,none,none,[],rfl,fun b u hb e=>by rw [ae hb];exact s1 _ _ e,ac,by rw [ae hkr.symm];exact e1,Nat.zero_le _,fun e' kid j w s v h=>by cases h⟩ (fun e σ H3 _ ⟨_,_,_,_,_,_,_,h,_,_,_⟩=>h) ?_ ?_
 · rintro e kv p σ H3 hkv hp ⟨c3,c4,c5,c6,ckv,rfl,fr3,ek3,er3,hlen,hall⟩;refine hid fun ZZ kZ=>?_;obtain ⟨kid,j,w,rfl,hw⟩:=hsp kv (List.mem_of_getElem? hkv);have wm:=List.mem_of_getElem? hw;obtain ⟨ew,wnd,wks⟩:=hws w wm;obtain ⟨hwka,hwl⟩:=hwk w wm;refine kZ ?_;have hel:e<100:=by have:=(List.getElem?_eq_some_iff.mp hkv).1;omega
   dsimp only;have s4:L2.Same H3 (upd H3 p (.tup [kV (Sum.inl kid),.int ((j:Nat):Int)])):=af hp _;have e4:(upd H3 p (.tup [kV (Sum.inl kid),.int ((j:Nat):Int)])) p=some (.tup [.int kid,.int ((j:Nat):Int)]):=ac;generalize (upd H3 p (.tup [kV (Sum.inl kid),.int ((j:Nat):Int)]))=H4 at s4 e4 ⊢;refine ⟨p,_,rfl,SqT.of e4,rfl,_,_,rfl,_,_,rfl,rfl,?_⟩;dsimp only [aE];have ebl4:=s4 _ _ (fr3 _ _ (aJ ebl eka (fun z=>nomatch z)) ebl);have ew4:=s4 _ _ (fr3 _ _ hwka ew);have er4:=s4 _ _ er3;have hwr:w.1≠r:=aJ ew4 er4 (fun z=>nomatch z);refine ⟨_,rfl,_,rfl,bl,_,_,.ref w.1,rfl,rfl,SqL.of ebl4,br (by rw [List.getElem?_map,hw];rfl),w.1,w.2,rfl,ew4,fun o2=>?_⟩
   refine lm (a:=w.1) (o:=o2) (kvs:=w.2) (fun f σ H5=>Ex3 fun (c5 c6:Option V) (ckv:List (List Key×V))=>An7 (σ=[some (.ref ka),some (.ref bl),some (.ref r),some (.int kid),some (.int ((j:Nat):Int)),c5,c6]) ((∀ b u,b≠w.1->b≠r->H4 b=some u->H5 b=some u)) (H5 w.1=some (.frz o2 (.dK w.2))) (H5 r=some (.dT ckv)) (ckv.length<=101 * e+f) ((∀ (e':Nat) (kid:Int) (j:Nat) (w:Addr×List (Key×V)) (s:Int) (v:V),e'<e->sp[e']?=some (Sum.inl kid,.int (j:Nat))->ws[j]?=some w->aQ w.2 (Sum.inl s)=some v->aQ ckv (ky (s,kid))=some v)) (∀ (f':Nat) (s:Int) (v:V),f'<f->w.2[f']?=some (Sum.inl s,v)->aQ ckv (ky (s,kid))=some v))
    ⟨_,_,ckv,rfl,fun b u hb _ eb=>by rw [ae hb];exact eb,ac,by rw [ae hwr.symm];exact er4,by omega,hall,fun f' s v h=>by cases h⟩ (fun f σ H5 _ ⟨_,_,_,_,_,h,_,_,_,_⟩=>h) ?_ ?_
   · rintro f kv2 p2 σ H5 hkv2 hp2 ⟨c5,c6,ckv,rfl,fr5,ew5,er5,hlen,hall,hal2⟩;obtain ⟨s',hs'⟩:=wks kv2 (List.mem_of_getElem? hkv2);obtain ⟨k2,v2⟩:=kv2;simp only at hs';subst hs';have hfl:f<101:=by have:=(List.getElem?_eq_some_iff.mp hkv2).1;omega
     dsimp only;have s6:L2.Same H5 (upd H5 p2 (.tup [kV (Sum.inl s'),v2])):=af hp2 _;have e6:(upd H5 p2 (.tup [kV (Sum.inl s'),v2])) p2=some (.tup [.int s',v2]):=ac;generalize (upd H5 p2 (.tup [kV (Sum.inl s'),v2]))=H6 at s6 e6 ⊢;refine ⟨p2,_,rfl,SqT.of e6,rfl,_,_,rfl,_,_,rfl,rfl,?_⟩;dsimp only [aE];refine ⟨_,rfl,_,rfl,_,rfl,_,rfl,am (by show 2<=1000000;decide),fun kp hkp=>?_⟩;have s7:L2.Same H6 (upd H6 kp (.tup [.int s',.int kid])):=af hkp _;have e7:(upd H6 kp (.tup [.int s',.int kid])) kp=some (.tup ((ky (s',kid)).map kV)):=ac;generalize (upd H6 kp (.tup [.int s',.int kid]))=H7 at s7 e7 ⊢;have s57:=s6.trans s7;have er7:=s57 _ _ er5;refine ⟨r,_,rfl,DPut.t er7 e7 (aK (by omega)),?_⟩;refine ⟨_,_,_,rfl,fun b u hb hbr eb=>by rw [ae hbr];exact s57 _ _ (fr5 b u hb hbr eb),by rw [ae hwr];exact s57 _ _ ew5,ac,?_,fun e' kid' j' w' s v he h1 h2 h3=>?_,fun f' s v hf h1=>?_⟩
     · have:=cq ckv (ky (s',kid)) v2;omega
     · rw [de];by_cases hk:ky (s,kid')=ky (s',kid)
       · have hkk:kid'=kid:=congrArg Prod.snd (iz hk);rw [hkk] at h1;exact absurd (kh hnd (i:=e') (j:=e) (x:=Sum.inl kid) (by rw [List.getElem?_map,h1];rfl) (by rw [List.getElem?_map,hkv];rfl)) (by omega)
       · rw [if_neg hk];exact hall e' kid' j' w' s v he h1 h2 h3
     · rw [de];by_cases hk:ky (s,kid)=ky (s',kid)
       · rw [if_pos hk];have hss:s=s':=congrArg Prod.fst (iz hk);rw [hss] at h1;have hff:=kh wnd (i:=f') (j:=f) (x:=Sum.inl s') (by rw [List.getElem?_map,h1];rfl) (by rw [List.getElem?_map,hkv2];rfl);rw [hff,hkv2] at h1;cases h1;rfl
       · rw [if_neg hk];rcases Nat.lt_succ_iff_lt_or_eq.mp hf with h4 | h4
         · exact hal2 f' s v h4 h1
         · rw [h4,hkv2] at h1;cases h1;exact absurd rfl hk
   · rintro σ H5 ⟨c5,c6,ckv,rfl,fr5,ew5,er5,hlen,hall,hal2⟩;refine ⟨upd H5 w.1 (.dK w.2),fun b=>?_,?_⟩
     · by_cases hb:b=w.1
       · rw [hb];exact .inr ⟨o2,_,ew5,ew4,ac⟩
       · exact .inl (ae hb)
     · refine ⟨_,_,_,_,ckv,rfl,fun b u hb eb=>?_,?_,by rw [ae hwr.symm];exact er5,by omega,fun e' kid' j' w' s v he h1 h2 h3=>?_⟩
       · by_cases hbw:b=w.1
         · rw [hbw,ew] at eb;cases eb;rw [hbw,ac]
         · rw [ae hbw];exact fr5 b u hbw (au eb hr0) (s4 _ _ (fr3 b u hb eb))
       · rw [ae hwka.symm];exact fr5 _ _ hwka.symm hkr (s4 _ _ ek3)
       · rcases Nat.lt_succ_iff_lt_or_eq.mp he with h4 | h4
         · exact hall e' kid' j' w' s v h4 h1 h2 h3
         · rw [h4,hkv] at h1;cases h1;rw [hw] at h2;cases h2;obtain ⟨f',hf'⟩:=List.mem_iff_getElem?.mp (hV h3);exact hal2 f' s v (List.getElem?_eq_some_iff.mp hf').1 hf'
 · rintro σ H3 ⟨c3,c4,c5,c6,ckv,rfl,fr3,ek3,er3,hlen,hall⟩;refine ⟨upd H3 ka (.dK sp),fun b=>?_,?_⟩
   · by_cases hb:b=ka
     · rw [hb];exact .inr ⟨o1,_,ek3,s1 _ _ eka,ac⟩
     · exact .inl (ae hb)
   · refine ⟨_,rfl,k r ckv _ (fun b u eb=>?_) hr0 (by rw [ae hkr.symm];exact er3) fun kid j w s v h1 h2 h3=>?_⟩
     · by_cases hb:b=ka
       · rw [hb,eka] at eb;cases eb;rw [hb,ac]
       · rw [ae hb];exact fr3 b u hb eb
     · obtain ⟨e',he'⟩:=List.mem_iff_getElem?.mp (hV h1);exact hall e' kid j w s v (List.getElem?_eq_some_iff.mp he').1 he' h2 h3
theorem gX:∀ (prs acc:List (Key×V)),((acc++prs).map (·.1)).Nodup->dU acc prs=acc++prs
 | [],acc,_=>by rw [List.append_nil];rfl
 | pr::prs,acc,h=>by
   have e:acc++pr::prs=(acc++[pr])++prs:=by rw [List.append_assoc];rfl
   rw [e] at h ⊢
   have hv:aQ acc pr.1=none:=by
    cases hv:aQ acc pr.1 with
    | none=>rfl
    | some v =>
      rw [List.map_append,List.map_append,List.append_assoc,List.nodup_append] at h;exact absurd rfl (h.2.2 _ (List.mem_map.mpr ⟨_,hV hv,rfl⟩) pr.1 (List.mem_append_left _ (by simp)))
   show dU (bj acc pr.1 pr.2) prs=_;rw [qP _ hv];exact gX prs _ h
def fOf (ckv:List (List Key×V)) (s k:Int):Int:=match aQ ckv (ky (s,k)) with
 | some (.int v)=>v
 | _=>0
structure Ws1 (VR:Int->Th->Int->Prop) (Hl:Hp) (m:Nd) (w:Addr×List (Key×V)):Prop where
 new:Hl w.1=none
 len:w.2.length<=101
 val:∀ s,(aQ m.ask (Sum.inl s)).isSome=true->∃ v,aQ w.2 (Sum.inl s)=some (.int v)/\VR s m.t v
structure vR (VR:Int->Th->Int->Prop) (Hl H:Hp) (bl:Addr) (ns:List Nd) (ws:List (Addr×List (Key×V))):Prop where
 «at»:WsAt H bl ws
 len:ws.length=ns.length
 one:∀ (j:Nat) (m:Nd) (w:Addr×List (Key×V)),ns[j]?=some m->ws[j]?=some w->Ws1 VR Hl m w
theorem WsAt.same {H H':Hp} {bl:Addr} {ws:List (Addr×List (Key×V))} (h:WsAt H bl ws) (s:L2.Same H H'):WsAt H' bl ws:=⟨s _ _ h.1,fun w hw=>⟨s _ _ (h.2 w hw).1,(h.2 w hw).2⟩⟩
def WSp (Dp:DP) (spw:Sp) (Wv:Th->(Int->Int->Int)->Int->Prop):Prop:=∀ (H1:Hp) (p:Th) (da ca:Addr) (ckv:List (List Key×V)) (f:Int->Int->Int) (R:VK),DgN Dp ca H1 p da->H1 ca=some (.dT ckv)->(∀ c∈ay (p.pl []),aQ ckv (ky c.2)=some (.int (f c.2.1 c.2.2)))->(∀ (v:Int) (H2:Hp),L2.Same H1 H2->Wv p f v->R (.int v) H2)->spw [.ref da,.ref ca] H1 R E0
inductive jG (P:Program) (w:World) (K:PySem.W.Frag) (mg:Str->Option Value) (base:Heap) (vs:List V) (H:Hp) (Q:VK) (_E:XK):Prop
 | mk (b hd ta f g:Addr) (ins outs:List (Str×Int)) (head0 head t:Th) (rows:List (List Th)) (spf spw:Sp) (Dp:DP) (okp:Th->Prop) (Wv:Th->(Int->Int->Int)->Int->Prop) (W:List Th) (VR:Int->Th->Int->Prop) (zz0:vs=[.ref b,.ref hd,.ref ta,.ref f,.ref g]) (zz1:Bk H ins outs head0 rows b) (zz2:bx ins) (zz3:(∀ row∈rows,row.length=ins.length/\∀ p∈row,okp p)) (zz4:At H head hd) (zz5:okp head) (zz6:FvOk P w K mg base CX0 4 f spf) (zz7:tM Dp spf okp) (zz8:(∀ p own kvs,Dp p own kvs->kU p kvs)) (zz9:At H t ta) (zz10:t.Fit ins) (zz11:t.tall<=100) (zz12:t∈W) (zz13:il ins rows head W) (zz14:(∀ c∈ay (head.pl []),∃ p',Step ins rows c.2.1 c.2.2 [t] p' t)) (zz15:FvOk P w K mg base CX0 2 g spw) (zz16:WSp Dp spw Wv) (zz17:(∀ (s:Int) (u p:Th) (f:Int->Int->Int) (v:Int),iM ins rows head s u p->(∀ c∈ay (p.pl []),∀ h,u.kids[c.2.2.toNat]?=some h->VR c.2.1 h (f c.2.1 c.2.2))->Wv p f v->VR s u v)) (zz18:∀ (v:Int) (H':Hp),L2.Same H H'->VR (-1) (.knot Str.empty [t]) v->Q (.int v) H'):jG P w K mg base vs H Q _E
def pV (P:Program) (w:World) (K:PySem.W.Frag) (mg:Str->Option Value) (base:Heap):Sp:=jG P w K mg base
set_option maxHeartbeats 4000000 in
theorem fQ:aW P w K mg base CX0 6 T.g_folded.f T.g_folded.d ["book","head","tree","digest","worth"] (pV P w K mg base):=by
 refine T.g_folded.F.ok cv (fun vs H Q E h=>?_) (fun cdv A outer s H vs Q E hr h=>?_)
 · obtain ⟨b,hd,ta,f,g,ins,outs,head0,head,t,rows,spf,spw,Dp,okp,Wv,W,VR,rfl,_⟩:=h;rfl
 obtain ⟨b,hd,ta,f,g,ins,outs,head0,head,t,rows,spf,spw,Dp,okp,Wv,W,VR,rfl,hB,gi,hrows,hAh,hokh,hfv,hspf,hDp,hAt,hfit,htl,htW,TO,hhead,hfw,hspw,hval,k⟩:=h
 refine ⟨_,(ag (ar (i:=5) cv.nd rfl (Or.inl rfl) (aM ad))
  (ag (bB PassesOwn.never rfl (uL rfl T.n_reversed (pcF T.g_levels_of (l4 T) hr (ab (pcF T.g_digests_of (kF T) hr (ab (pv 0) (ab (pv 3) ad))) (ab (kA (k:=4) (i:=3) rfl (Or.inl rfl) (hr.mono (by first | decide | omega)) dC (ab (pv 1) ad)) (ab (pv 2) ad))))) (aq (i:=6) cv.nd rfl (Or.inl rfl)) (ag (ar (i:=7) cv.nd rfl (Or.inl rfl) (aM ad))
  (ag (bB PassesOwn.never rfl (sL rfl T.n_zip (ab (cD (pv 6) rfl) (ab (cD (pv 6) rfl) ad))) (bV rfl (aF (aq (i:=8) cv.nd rfl (Or.inl rfl)) (aF (aq (i:=9) cv.nd rfl (Or.inl rfl)) bD))) (ag (ar (i:=10) cv.nd rfl (Or.inr rfl) (pcF T.g_kid_worths (kB T) hr (ab (pv 9) (ab (pv 5) ad))))
  (aj (bm (ci PySem.F.plainAttrs_list PySem.F.slot_list_append PySem.F.type_list_append aV (pv 7) (ab (ba (jg (tK hr) rfl) rfl T.n_dict PyProof.Rows.boot_dict (ab (mw (bY (N:=[Str.ofString "state",Str.ofString "pair",Str.ofString "worth",Str.ofString "kids"]) (js:=[none,none,some 4,some 10]) (g:=(oo K 2 (eT (aE 0) (eT (aE 1) oi)))) (tt:=bK) (te:=(rF (bM (bv 0) (bM (qJ P w K mg base CX0 2 2 E0 (bM (bv 1) (bM (bv 3) fT))) fT)))) rfl (cw rfl (by decide +kernel) (by decide +kernel) rfl rfl rfl) (jK (pv 8)) (fun _ _ _ _ _ _=>(bV rfl (aF (aq (i:=0) vt rfl (Or.inl rfl)) (aF (aq (i:=1) vt rfl (Or.inl rfl)) bD)))) (jR (cG bL (aS rfl) (cG bL (aS rfl) kb))) (fun _ _ _ _ _ _=>b6) (fun _ _ _ _ _ _=>(aU (ab (pv 0) (ab (kA (k:=2) (i:=2) rfl (by first | exact Or.inl rfl | exact Or.inr (Or.inl rfl) | exact Or.inr (Or.inr rfl)) (hr.mono (by first | decide | omega)) dC (ab (pv 1) (ab (pv 3) ad))) ad)))))) ad)) ad))))))
  (aj (ar (i:=5) cv.nd rfl (Or.inl rfl) (pv 7))))))
  (aj (aD (ip (dA hr) (az bh (pv 5) ai (fun _ _=>rfl)) (bX (v:=.int (-1)) rfl T.c_HEAD.choose_spec ⟨_,rfl⟩) (fun _ _=>rfl)))))),?_⟩
 try dsimp only [cxK,cxKn]
 refine ⟨am (by show 0<=1000000;decide),fun bl hbl=>?_⟩;dsimp only [aE];have s1:L2.Same H (upd H bl (.lst [])):=af hbl _;have e1:(upd H bl (.lst [])) bl=some (.lst []):=ac;generalize (upd H bl (.lst []))=H1 at s1 e1 ⊢
 have hB1:Bk H1 ins outs head0 rows b:=by
  obtain ⟨ia,oa,ha,ra,ias,oas,ras,hB⟩:=hB;exact ⟨ia,oa,ha,ra,ias,oas,ras,hB.mono (Same.kt s1)⟩
 refine ⟨_,rfl,_,rfl,b,f,ins,outs,head0,rows,spf,Dp,okp,rfl,hB1,gi,TO.rl,hrows,hfv,hspf,fun td H2 s2 hTab=>?_⟩;refine ⟨f,spf,rfl,hfv,_,rfl,hspf H2 head hd _ (hAh.mono (Same.kt (s1.trans s2))) hokh fun r d own kvs H3 s3 hd0 er ed hDpp=>?_⟩;refine ⟨_,rfl,td,r,ta,t,Dp,ins,rows,head,W,rfl,hTab.mono (KTD.of s3),⟨d,own,kvs,er,ed,hDpp⟩,hDp,hAt.mono (Same.kt ((s1.trans s2).trans s3)),hfit,htl,htW,TO,hhead,fun lr Ls H4 s4 elr hch htop hlen=>?_⟩;have s04:=((s1.trans s2).trans s3).trans s4;refine ⟨lr,_,rfl,SqL.of elr,?_⟩
 refine tw (K:=K) (a:=lr) (xs:=Ls.map fun L=>V.ref L.x) (fun i σ H5=>Ex7 fun (c6 c7 c8 c9 c10:Option V) (bl:Addr) (ws:List (Addr×List (Key×V)))=>An3 (σ=[some (.ref b),some (.ref hd),some (.ref ta),some (.ref f),some (.ref g),some (.ref bl),c6,c7,c8,c9,c10]) (L2.Same H4 H5) (vR VR H4 H5 bl (nxt Ls (Ls.length - i) []) ws))
  ⟨none,none,none,none,none,bl,[],rfl,.refl _,⟨⟨((s2.trans s3).trans s4) _ _ e1,fun w hw=>by cases hw⟩,by unfold nxt;rw [Nat.sub_zero,List.getElem?_eq_none (Nat.le_refl _)];rfl,fun j m w _ hw=>by cases hw⟩⟩ (fun i σ H5 _ ⟨_,_,_,_,_,_,_,_,s5,_⟩=>SqL.of (s5 _ _ elr)) ?_ ?_
 · rintro i x σ H5 hi hx ⟨c6,c7,c8,c9,c10,bl,ws,rfl,s5,hws⟩;rw [List.length_map] at hi hx;rw [List.getElem?_map] at hx
   obtain ⟨L,hL,rfl⟩:∃ L,Ls[Ls.length - 1 - i]?=some L/\V.ref L.x=x:=by
    cases h:Ls[Ls.length - 1 - i]? with
    | none=>rw [h] at hx;cases hx
    | some L=>rw [h] at hx;exact ⟨L,rfl,Option.some.inj hx⟩
   have hLsh:=hch.sh L (List.mem_of_getElem? hL);have hcl:=hch.cl _ L hL;rw [show Ls.length - 1 - i+1=Ls.length - i by omega] at hcl;dsimp only [aE];refine ⟨am (by show 0<=1000000;decide),fun tl htl=>?_⟩;dsimp only [aE];have s6:L2.Same H5 (upd H5 tl (.lst [])):=af htl _;have e6:(upd H5 tl (.lst [])) tl=some (.lst []):=ac;generalize (upd H5 tl (.lst []))=H6 at s6 e6 ⊢;have s46:=s5.trans s6;have htl4:H4 tl=none:=s5.free htl;refine ⟨_,rfl,L.x,T.e_Level,L.dx,_,_,rfl,s46 _ _ hLsh.ins,T.cl_Level,T.na_Level_asked,nz _ _ _,_,rfl,L.x,T.e_Level,L.dx,_,_,rfl,s46 _ _ hLsh.ins,T.cl_Level,T.na_Level_kid_spots,qV _ _ _,L.al,L.kl,rfl,⟨_,SqL.of (s46 _ _ hLsh.al)⟩,⟨_,SqL.of (s46 _ _ hLsh.kl)⟩,?_⟩
   refine rM (K:=K) (a:=L.al) (b:=L.kl) (xs:=L.ns.map fun n=>V.ref n.aa) (ys:=L.ns.map fun n=>V.ref n.ka) (by rw [List.length_map,List.length_map]) (fun q σ H7=>Ex4 fun (c8 c9 c10:Option V) (us:List (Addr×List (Key×V)))=>An3 (σ=[some (.ref b),some (.ref hd),some (.ref ta),some (.ref f),some (.ref g),some (.ref bl),some (.ref L.x),some (.ref tl),c8,c9,c10]) (SameB tl H6 H7) (vR VR H4 H7 tl (L.ns.take q) us))
    ⟨_,_,_,[],rfl,SameB.refl,⟨⟨e6,fun w hw=>by cases hw⟩,by rw [List.take_zero];rfl,fun j m w _ hw=>by cases hw⟩⟩ (fun q σ H7 _ ⟨_,_,_,_,_,s7,_⟩=>⟨SqL.of (s7 _ _ (fun z=>by rw [<- z,hLsh.al] at htl4;cases htl4) (s46 _ _ hLsh.al)),SqL.of (s7 _ _ (fun z=>by rw [<- z,hLsh.kl] at htl4;cases htl4) (s46 _ _ hLsh.kl))⟩) ?_ ?_
   · rintro q x y pz σ H7 hx hy hpz ⟨c8,c9,c10,us,rfl,s7,hus⟩;rw [List.getElem?_map] at hx hy
     obtain ⟨n,hn,rfl⟩:∃ n,L.ns[q]?=some n/\V.ref n.aa=x:=by
      cases h:L.ns[q]? with
      | none=>rw [h] at hx;cases hx
      | some n=>rw [h] at hx;exact ⟨n,rfl,Option.some.inj hx⟩
     rw [hn] at hy;have hy':V.ref n.ka=y:=Option.some.inj hy;subst hy';have hnm:=List.mem_of_getElem? hn;have s8:L2.Same H7 (upd H7 pz (.tup [.ref n.aa,.ref n.ka])):=af hpz _;have e8:(upd H7 pz (.tup [.ref n.aa,.ref n.ka])) pz=some (.tup [.ref n.aa,.ref n.ka]):=ac;generalize (upd H7 pz (.tup [.ref n.aa,.ref n.ka]))=H8 at s8 e8 ⊢;have s58:L2.Same H5 H8:=fun c o e=>s8 _ _ (s7 c o (fun z=>by rw [z,htl] at e;cases e) (s6 _ _ e));have s48:=s5.trans s58;refine ⟨pz,_,rfl,SqT.of e8,rfl,_,_,rfl,_,_,rfl,rfl,?_⟩;dsimp only [aE];have hsp:=hcl.sp n hnm;have hspl:=hsp.len (hcl.sn n hnm);have hkd:=hcl.kd n hnm;have hwl:=hws.len
     have hw1:∀ (j:Nat) (w':Addr×List (Key×V)),ws[j]?=some w'->∃ m,(nxt Ls (Ls.length - i) [])[j]?=some m/\Ws1 VR H4 m w':=fun j w' hw'=>by
      obtain ⟨m,hm⟩:∃ m,(nxt Ls (Ls.length - i) [])[j]?=some m:=⟨_,List.getElem?_eq_getElem (by rw [<- hwl];exact (List.getElem?_eq_some_iff.mp hw').1)⟩;exact ⟨m,hm,hws.one j m w' hm hw'⟩
     refine ⟨_,rfl,_,rfl,n.ka,bl,n.sp,ws,rfl,s48 _ _ (hLsh.sp n hnm),hcl.sn n hnm,by omega,hws.at.same s58,fun w' hw'=>?_,fun kv hkv=>?_,fun ca ckv H9 s9 hca eca hck=>?_⟩
     · refine hid fun ZZ kZ=>?_;obtain ⟨j,hj⟩:=List.mem_iff_getElem?.mp hw';obtain ⟨m,hm,hW⟩:=hw1 j w' hj;refine kZ ?_;exact ⟨fun z=>(by have:=hW.new;rw [z,hLsh.sp n hnm] at this;cases this),hW.len⟩
     · refine hid fun ZZ kZ=>?_;obtain ⟨kid,j,m,h1,h2,_⟩:=hsp kv hkv;obtain ⟨w',hw'⟩:∃ w',ws[j]?=some w':=⟨_,List.getElem?_eq_getElem (by rw [hwl];exact (List.getElem?_eq_some_iff.mp h2).1)⟩;refine kZ ?_;exact ⟨kid,j,w',h1,hw'⟩
     dsimp only [aE];have s49:=s48.trans s9;have e9tl:=s9 _ _ (s8 _ _ hus.at.1);have e9aa:=s49 _ _ (hLsh.ak n hnm)
     have hask:AskOk Dp ins rows head H4 n.t n.ask:=fun kv hkv=>by
      obtain ⟨s,p,da,h,_⟩:=hcl.ed n hnm kv hkv;exact ⟨s,p,da,h⟩
     have hal:=hask.len (hcl.an n hnm);have hrl:=TO.rl;refine ⟨_,rfl,.inl ⟨rfl,_,SqL.of e9tl⟩,?_⟩;change jL _ _ _ _;refine nA (aa:=n.aa) (ask:=n.ask) (VW:=fun kv v=>∃ s,kv.1=Sum.inl s/\VR s n.t v) (fun R hR=>⟨_,rfl,hR⟩) e9aa (by omega) (fun e kv p H2 R hkv sb ep hR=>?_) (fun D ps prs H2 s2 eD hps hks hvs=>?_)
     · refine hid fun ZZ kZ=>?_;obtain ⟨s0,p0,da,hE,hcalls⟩:=hcl.ed n hnm kv (List.mem_of_getElem? hkv);refine kZ ?_;rw [hE.k,hE.v] at ep;refine ⟨p,_,rfl,SqT.of ep,rfl,_,_,rfl,_,_,rfl,rfl,?_⟩;dsimp only [aE];refine hid fun ZZ kZ=>?_;obtain ⟨d,own,kvs,g1,g2,g3⟩:=hE.dg;refine kZ ?_;have kp:∀ c o,H4 c=some o->c≠n.aa->H2 c=some o:=fun c o e hc=>sb c o hc (s49 _ _ e);have hdc:d≠ca:=fun z=>by rw [z] at g2;rw [s48 _ _ g2] at hca;cases hca
       have dgn:DgN Dp ca H2 p0 da:=⟨d,own,kvs,hdc,kp _ _ g1 (aJ g1 (hLsh.ak n hnm) (fun z=>nomatch z)),kp _ _ g2 (aJ g2 (hLsh.ak n hnm) (fun z=>nomatch z)),g3⟩;have eca2:H2 ca=some (.dT ckv):=sb _ _ (aJ eca e9aa (fun z=>nomatch z)) eca
       have hfc:∀ c∈ay (p0.pl []),∃ (v:Int) (m:Nd),aQ ckv (ky c.2)=some (.int v)/\n.t.kids[c.2.2.toNat]?=some m.t/\VR c.2.1 m.t v:=fun c hc=>by
        obtain ⟨j,m,h1,h2,h3,h4⟩:=hcalls c hc;obtain ⟨w',hw'⟩:∃ w',ws[j]?=some w':=⟨_,List.getElem?_eq_getElem (by rw [hwl];exact (List.getElem?_eq_some_iff.mp h2).1)⟩;obtain ⟨v,hv1,hv2⟩:=(hws.one j m w' h2 hw').val _ h4;exact ⟨v,m,hck _ j w' _ _ h1 hw' hv1,h3,hv2⟩
       have hff:∀ c∈ay (p0.pl []),∀ v,aQ ckv (ky c.2)=some (.int v)->fOf ckv c.2.1 c.2.2=v:=fun c _ v h=>by
        unfold fOf;rw [show ky (c.2.1,c.2.2)=ky c.2 from rfl,h]
       refine ⟨_,rfl,g,spw,rfl,hfw,_,rfl,_,rfl,hspw H2 p0 da ca ckv (fOf ckv) _ dgn eca2 (fun c hc=>?_) fun v H3 s3 hWv=>?_⟩
       · refine hid fun ZZ kZ=>?_;obtain ⟨v,m,h1,_,_⟩:=hfc c hc;refine kZ ?_;rw [hff c hc v h1];exact h1
       · refine ⟨am (by show 2<=1000000;decide),fun pr hpr=>?_⟩;refine hR v pr _ (s3.trans (af hpr _)) (by rw [hE.k];exact ac) ⟨s0,hE.k,hval s0 n.t p0 (fOf ckv) v hE.pat (fun c hc h hh=>?_) hWv⟩;refine hid fun ZZ kZ=>?_;obtain ⟨v',m,h1,h2,h3⟩:=hfc c hc;refine kZ ?_;rw [h2] at hh;cases hh;rw [hff c hc v' h1];exact h3
     · have hpl:=Paired.length hps;have hkl:=congrArg List.length hks;rw [List.length_map,List.length_map] at hkl;refine ⟨D,ps,prs,rfl,eD,hps,by omega,fun wd hwd=>?_⟩;have hnd:(prs.map (·.1)).Nodup:=by rw [hks];exact hcl.an n hnm
       rw [gX prs [] hnd,List.nil_append];have s3:L2.Same H2 (upd H2 wd (.dK prs)):=af hwd _;have e3:(upd H2 wd (.dK prs)) wd=some (.dK prs):=ac;generalize (upd H2 wd (.dK prs))=H3 at s3 e3 ⊢;have s93:=s2.trans s3;have e3tl:=s93 _ _ e9tl;have hul:=hus.len;rw [List.length_take] at hul;have hql:=(List.getElem?_eq_some_iff.mp hn).1;have hln:=hcl.ln;refine ⟨tl,_,_,rfl,rfl,e3tl,aK (by rw [List.length_map];omega),?_⟩;have hwt:wd≠tl:=aJ e3 e3tl (fun z=>nomatch z);have s73:L2.Same H7 H3:=(s8.trans s9).trans s93;refine ⟨_,_,_,us++[(wd,prs)],rfl,fun c o hc e=>by rw [ae hc];exact s73 _ _ (s7 c o hc e),⟨⟨by rw [ac,List.map_append];rfl,fun w' hw'=>?_⟩,by rw [List.length_append,List.length_take,List.length_singleton];omega,fun j m w' hm hw'=>?_⟩⟩
       · rcases List.mem_append.mp hw' with h | h
         · obtain ⟨h1,h2⟩:=hus.at.2 w' h;exact ⟨by rw [ae (aJ h1 hus.at.1 (fun z=>nomatch z))];exact s73 _ _ h1,h2⟩
         · rw [List.mem_singleton.mp h];refine ⟨by rw [ae hwt];exact e3,hnd,fun kv hkv=>?_⟩;refine hid fun ZZ kZ=>?_;obtain ⟨v,_,kv',_,h1,s,h2,_⟩:=hvs kv hkv;refine kZ ?_;exact ⟨s,h1.symm.trans h2⟩
       · by_cases hjq:j<q
         · rw [List.getElem?_append_left (by omega)] at hw';refine hus.one j m w' ?_ hw';rw [List.getElem?_take,if_pos (by omega)] at hm;rw [List.getElem?_take,if_pos hjq];exact hm
         · have hj2:=(List.getElem?_eq_some_iff.mp hw').1;rw [List.length_append,List.length_singleton] at hj2;have hjq2:j=q:=by omega
           subst hjq2;rw [List.getElem?_append_right (by omega),show j - us.length=0 by omega] at hw';have hw2:(wd,prs)=w':=Option.some.inj hw';rw [List.getElem?_take,if_pos (by omega),hn] at hm;cases hm;rw [<- hw2];refine ⟨(s49.trans s2).free hwd,by show prs.length<=101;omega,fun s hsome=>?_⟩;refine hid fun ZZ kZ=>?_;obtain ⟨u,hu⟩:=Option.isSome_iff_exists.mp hsome;have hin:(Sum.inl s:Key)∈prs.map (·.1):=by rw [hks];exact List.mem_map.mpr ⟨_,hV hu,rfl⟩
           obtain ⟨pr,hpr,hpk⟩:=List.mem_map.mp hin;obtain ⟨v,h1,kv',_,h2,s',h3,h4⟩:=hvs pr hpr;refine kZ ?_;have hss:s'=s:=Sum.inl.inj (h3.symm.trans (h2.trans hpk));have:=sK hnd hpr;rw [hpk,h1] at this;exact ⟨v,this,hss ▸ h4⟩
   · rintro σ H7 ⟨c8,c9,c10,us,rfl,s7,hus⟩;rw [List.length_map,List.take_length] at hus;refine ⟨_,rfl,_,_,_,_,_,tl,us,rfl,fun c o e=>s7 c o (fun z=>by rw [z,htl4] at e;cases e) (s46 _ _ e),?_⟩
     have e2:nxt Ls (Ls.length - (i+1)) []=L.ns:=by
      unfold nxt;rw [show Ls.length - (i+1)=Ls.length - 1 - i by omega,hL]
     rw [e2];exact hus
 · rintro σ H5 ⟨c6,c7,c8,c9,c10,bl,ws,rfl,s5,hws⟩;rw [List.length_map,Nat.sub_self] at hws;refine hid fun ZZ kZ=>?_;obtain ⟨L0,n0,h1,h2,h3,h4⟩:=htop
   have e2:nxt Ls 0 []=[n0]:=by
    unfold nxt;rw [h1];exact h2
   rw [e2] at hws
   obtain ⟨w0,hw0⟩:∃ w0,ws[0]?=some w0:=by
    have:=hws.len;exact ⟨_,List.getElem?_eq_getElem (by rw [this];exact Nat.zero_lt_one)⟩
   obtain ⟨v,hv1,hv2⟩:=(hws.one 0 n0 w0 rfl hw0).val (-1) h4;refine kZ ?_;rw [h3] at hv2;have gk:DGet H5 w0.1 (.int (-1)) (some (.int v)):=by have:=DGet.k (k:=Sum.inl (-1)) ((hws.at.2 w0 (List.mem_of_getElem? hw0)).1);rw [hv1] at this;exact this
   exact ⟨_,rfl,bl,_,_,.ref w0.1,rfl,rfl,SqL.of hws.at.1,br (j:=0) (by rw [List.getElem?_map,hw0];rfl),w0.1,_,rfl,gk,k v H5 (s04.trans s5) hv2⟩
def qC:DP:=fun p own kvs=>∃ es:CE,own=.int (p.kn:Nat)/\kvs=dE es/\TimesE (ay (p.pl [])) es/\(ay (p.pl [])).length<=10000
def qR:DP:=fun p own kvs=>∃ es:CE,own=.int (p.tall:Nat)/\kvs=dE es/\DepthE (ay (p.pl [])) es/\(ay (p.pl [])).length<=10000
structure PatS (p:Th):Prop where
 size:p.size<=10000
 tall:p.tall<=150
 kn:(p.walk.filter Th.isKnot).length=p.kn
theorem PatS.calls {p:Th} (h:PatS p):(ay (p.pl [])).length<=10000:=by
 have h1:=dF (p.pl []);have h2:=Th.pl_len [] p;have h3:=h.size;omega
theorem dgS:tM qC i3 PatS:=fun H1 p pa R hA ok hR=>⟨pa,p,rfl,hA,ok.size,ok.tall,fun r d es H' s hd er ed hT=>hR r d _ _ H' s hd er ed ⟨es,by rw [ok.kn],rfl,hT,ok.calls⟩⟩
theorem dgT:tM qR hU PatS:=fun H1 p pa R hA ok hR=>⟨pa,p,rfl,hA,ok.size,ok.tall,fun r d es H' s hd er ed hT=>hR r d _ _ H' s hd er ed ⟨es,rfl,rfl,hT,ok.calls⟩⟩
theorem vi (p:Th) (own:V) (kvs:List (List Key×V)) (h:qC p own kvs):kU p kvs:=by
 obtain ⟨es,_,rfl,h,_⟩:=h;exact ny h.toCallsE
theorem uW (p:Th) (own:V) (kvs:List (List Key×V)) (h:qR p own kvs):kU p kvs:=by
 obtain ⟨es,_,rfl,h,_⟩:=h;exact ny h.toCallsE
theorem wS:WSp qC ff Wvs:=fun H1 p da ca ckv f R hd eca hv hR=>by
 refine hid fun ZZ kZ=>?_;obtain ⟨d,own,kvs,h0,h1,h2,es,rfl,rfl,hT,hl⟩:=hd;refine kZ ?_;have hl2:=hT.toCallsE.len;refine ⟨da,d,ca,_,es,ckv,f,rfl,h1,h2,eca,h0,by omega,fun e he=>?_,fun H' s=>hR _ H' s ?_⟩
 · refine hid fun ZZ kZ=>?_;obtain ⟨p1,p2⟩:=hT.pos e he;obtain ⟨c,hc,e2⟩:=hT.of e he;refine kZ ?_;have:=hv c hc;rw [e2] at this;exact ⟨p1,by omega,this⟩
 · unfold Wvs;rw [hT.sum f]
theorem wT:WSp qR eX Wvt:=fun H1 p da ca ckv f R hd eca hv hR=>by
 refine hid fun ZZ kZ=>?_;obtain ⟨d,own,kvs,h0,h1,h2,es,rfl,rfl,hT,hl⟩:=hd;refine kZ ?_;have hl2:=hT.toCallsE.len;refine ⟨da,d,ca,_,es,ckv,f,rfl,h1,h2,eca,h0,by omega,fun e he=>?_,fun H' M s hm ha=>hR _ H' s (p7 hT hm ha)⟩;obtain ⟨c,hc,e2⟩:=hT.of e he;have:=hv c hc;rw [e2] at this;exact this
structure CntI (H:Hp) (ins outs:List (Str×Int)) (S:Int) (dp:Nat) (head:Th) (rows:List (List Th)) (t:Th) (b ta:Addr):Prop where
 bk:Bk H ins outs head rows b
 gi:bx ins
 ok:cN ins outs S dp head rows
 le:S<=100
 pat:∀ row∈rows,∀ p∈row,PatS p
 hd:PatS head
 tr:At H t ta
 fit:t.Fit ins
 tall:t.tall<=100
 size:t.size<=40000
inductive ii (vs:List V) (H:Hp) (Q:VK) (_E:XK):Prop
 | mk (b ta:Addr) (ins outs:List (Str×Int)) (S:Int) (dp:Nat) (head:Th) (rows:List (List Th)) (t:Th) (zz0:vs=[.ref b,.ref ta]) (zz1:CntI H ins outs S dp head rows t b ta) (zz2:∀ (v:Int) (H':Hp),L2.Same H H'->VRs ins rows head (-1) (.knot Str.empty [t]) v->Q (.int v) H'):ii  vs H Q _E
def nK:Sp:=ii
inductive gf (vs:List V) (H:Hp) (Q:VK) (_E:XK):Prop
 | mk (b ta:Addr) (ins outs:List (Str×Int)) (S:Int) (dp:Nat) (head:Th) (rows:List (List Th)) (t:Th) (zz0:vs=[.ref b,.ref ta]) (zz1:CntI H ins outs S dp head rows t b ta) (zz2:∀ (v:Int) (H':Hp),L2.Same H H'->VRt ins rows head (-1) (.knot Str.empty [t]) v->Q (.int v) H'):gf  vs H Q _E
def mx:Sp:=gf
theorem CntI.head {H:Hp} {ins outs:List (Str×Int)} {S:Int} {dp:Nat} {hd head:Th} {rows:List (List Th)} {t:Th} {b ta:Addr} (h:CntI H ins outs S dp hd rows t b ta) (hf:head.FitS outs S 1):∀ c∈ay (head.pl []),∃ p',Step ins rows c.2.1 c.2.2 [t] p' t:=fun c hc=>by
 refine hid fun ZZ kZ=>?_;obtain ⟨a1,a2,a3,a4⟩:=iI head [] hf c hc;obtain ⟨p',u,st⟩:=kN h.ok (ks:=[t]) a1 a2 a3 (by simpa using a4) (fun u hu=>by rw [List.mem_singleton.mp hu];exact h.fit);refine kZ ?_;have hu:=st.2.2.1;have e:c.2.2.toNat=0:=by omega
 rw [e] at hu;have:t=u:=Option.some.inj hu;subst this;exact ⟨p',st⟩
theorem mI:aW P w K mg base CX0 7 T.g_count_of.f T.g_count_of.d ["book","tree"] nK:=by
 refine T.g_count_of.F.ok mU (fun vs H Q E h=>?_) (fun cdv A outer s H vs Q E hr h=>?_)
 · obtain ⟨b,ta,ins,outs,S,dp,head,rows,t,rfl,_⟩:=h;rfl
 obtain ⟨b,ta,ins,outs,S,dp,head,rows,t,rfl,I,k⟩:=h;refine ⟨_,(aj (aD (pcF T.g_folded (fQ T) hr (ab (pv 0) (ab (pcF T.g_head_of (jx T) hr (ab (pv 0) ad)) (ab (pv 1) (ab (bX (v:=.ref T.g_times_in.f) rfl T.g_times_in.m rfl) (ab (bX (v:=.ref T.g_count_worth.f) rfl T.g_count_worth.m rfl) ad)))))))),?_⟩
 try dsimp only [cxK,cxKn]
 refine hid fun ZZ kZ=>?_;obtain ⟨ia,oa,ha,ra,ias,oas,ras,hB⟩:=I.bk;refine kZ ?_;exact ⟨_,rfl,_,rfl,b,_,_,_,_,rfl,hB.bk,_,rfl,b,ha,ta,T.g_times_in.f,T.g_count_worth.f,ins,outs,head,head,t,rows,_,_,qC,PatS,Wvs,t.walk,VRs ins rows head,rfl,I.bk,I.gi,fun row hr=>⟨(I.ok.row row hr).len,I.pat row hr⟩,hB.hd,I.hd,FvOk.of (i6 T) T.g_times_in.F T.g_times_in.b,dgS,vi,I.tr,I.fit,I.tall,by rw [Th.walk_eq];exact List.mem_cons_self ..,jo I.gi I.ok I.le I.size,I.head I.ok.hdf,FvOk.of (fD T) T.g_count_worth.F T.g_count_worth.b,wS,qS I.gi,k⟩
theorem l7:aW P w K mg base CX0 7 T.g_height_of.f T.g_height_of.d ["book","tree"] mx:=by
 refine T.g_height_of.F.ok lY (fun vs H Q E h=>?_) (fun cdv A outer s H vs Q E hr h=>?_)
 · obtain ⟨b,ta,ins,outs,S,dp,head,rows,t,rfl,_⟩:=h;rfl
 obtain ⟨b,ta,ins,outs,S,dp,head,rows,t,rfl,I,k⟩:=h;refine ⟨_,(aj (aD (pcF T.g_folded (fQ T) hr (ab (pv 0) (ab (pcF T.g_head_of (jx T) hr (ab (pv 0) ad)) (ab (pv 1) (ab (bX (v:=.ref T.g_depths_in.f) rfl T.g_depths_in.m rfl) (ab (bX (v:=.ref T.g_height_worth.f) rfl T.g_height_worth.m rfl) ad)))))))),?_⟩
 try dsimp only [cxK,cxKn]
 refine hid fun ZZ kZ=>?_;obtain ⟨ia,oa,ha,ra,ias,oas,ras,hB⟩:=I.bk;refine kZ ?_;exact ⟨_,rfl,_,rfl,b,_,_,_,_,rfl,hB.bk,_,rfl,b,ha,ta,T.g_depths_in.f,T.g_height_worth.f,ins,outs,head,head,t,rows,_,_,qR,PatS,Wvt,t.walk,VRt ins rows head,rfl,I.bk,I.gi,fun row hr=>⟨(I.ok.row row hr).len,I.pat row hr⟩,hB.hd,I.hd,FvOk.of (hI T) T.g_depths_in.F T.g_depths_in.b,dgT,uW,I.tr,I.fit,I.tall,by rw [Th.walk_eq];exact List.mem_cons_self ..,jo I.gi I.ok I.le I.size,I.head I.ok.hdf,FvOk.of (eY T) T.g_height_worth.F T.g_height_worth.b,wT,qI I.gi,k⟩
theorem lh (s:Int):PatS (.call s 0):=⟨by rw [Th.size];decide,by rw [Th.tall];decide,by rw [Th.walk,Th.kn];rfl⟩
theorem lb {outs:List (Str×Int)} {S s:Int} (h0:0<=s) (h1:s<S):(Th.call s 0).FitS outs S 1:=by
 rw [Th.FitS];exact ⟨h0,h1,Int.le_refl _,by decide⟩
theorem CntI.same {H H':Hp} {ins outs:List (Str×Int)} {S:Int} {dp:Nat} {head:Th} {rows:List (List Th)} {t:Th} {b ta:Addr} (h:CntI H ins outs S dp head rows t b ta) (k:L2.Same H H'):CntI H' ins outs S dp head rows t b ta:=by
 refine hid fun ZZ kZ=>?_;obtain ⟨ia,oa,ha,ra,ias,oas,ras,hB⟩:=h.bk;refine kZ ?_;exact ⟨⟨ia,oa,ha,ra,ias,oas,ras,hB.mono (Same.kt k)⟩,h.gi,h.ok,h.le,h.pat,h.hd,h.tr.mono (Same.kt k),h.fit,h.tall,h.size⟩
inductive gK (vs:List V) (H:Hp) (Q:VK) (_E:XK):Prop
 | mk (b ta:Addr) (s:Int) (ins outs:List (Str×Int)) (S:Int) (dp:Nat) (head:Th) (rows:List (List Th)) (t:Th) (zz0:vs=[.ref b,.int s,.ref ta]) (zz1:CntI H ins outs S dp head rows t b ta) (zz2:0<=s) (zz3:s<S) (zz4:∀ (v:Int) (H':Hp),L2.Same H H'->VRs ins rows (.call s 0) (-1) (.knot Str.empty [t]) v->Q (.int v) H'):gK  vs H Q _E
def ng:Sp:=gK
inductive gq (vs:List V) (H:Hp) (Q:VK) (_E:XK):Prop
 | mk (b ta:Addr) (s:Int) (ins outs:List (Str×Int)) (S:Int) (dp:Nat) (head:Th) (rows:List (List Th)) (t:Th) (zz0:vs=[.ref b,.int s,.ref ta]) (zz1:CntI H ins outs S dp head rows t b ta) (zz2:0<=s) (zz3:s<S) (zz4:∀ (v:Int) (H':Hp),L2.Same H H'->VRt ins rows (.call s 0) (-1) (.knot Str.empty [t]) v->Q (.int v) H'):gq  vs H Q _E
def me:Sp:=gq
theorem nM:aW P w K mg base CX0 7 T.g_count_by.f T.g_count_by.d ["book","state","tree"] ng:=by
 refine T.g_count_by.F.ok nN (fun vs H Q E h=>?_) (fun cdv A outer s H vs Q E hr h=>?_)
 · obtain ⟨b,ta,sn,ins,outs,S,dp,head,rows,t,rfl,_⟩:=h;rfl
 obtain ⟨b,ta,sn,ins,outs,S,dp,head,rows,t,rfl,I0,h0,h1,k⟩:=h;refine ⟨_,(aj (aD (pcF T.g_folded (fQ T) hr (ab (pv 0) (ab (pcF T.g_call_of (j7 T) hr (ab (pv 1) ad)) (ab (pv 2) (ab (bX (v:=.ref T.g_times_in.f) rfl T.g_times_in.m rfl) (ab (bX (v:=.ref T.g_count_worth.f) rfl T.g_count_worth.m rfl) ad)))))))),?_⟩
 try dsimp only [cxK,cxKn]
 refine ⟨_,rfl,_,rfl,sn,rfl,fun p hp=>?_⟩;have s1:L2.Same H (upd H p (.tup [.str q,.int sn,.int 0])):=af hp _;have e1:At (upd H p (.tup [.str q,.int sn,.int 0])) (.call sn 0) p:=by rw [At];exact ac
 generalize (upd H p (.tup [.str q,.int sn,.int 0]))=H1 at s1 e1 ⊢;have I:=I0.same s1;exact ⟨_,rfl,b,p,ta,T.g_times_in.f,T.g_count_worth.f,ins,outs,head,.call sn 0,t,rows,_,_,qC,PatS,Wvs,t.walk,VRs ins rows (.call sn 0),rfl,I.bk,I.gi,fun row hr=>⟨(I.ok.row row hr).len,I.pat row hr⟩,e1,lh sn,FvOk.of (i6 T) T.g_times_in.F T.g_times_in.b,dgS,vi,I.tr,I.fit,I.tall,by rw [Th.walk_eq];exact List.mem_cons_self ..,jo I.gi I.ok I.le I.size,I.head (lb h0 h1),FvOk.of (fD T) T.g_count_worth.F T.g_count_worth.b,wS,qS I.gi,fun v H' s2 hv=>k v H' (s1.trans s2) hv⟩
theorem l8:aW P w K mg base CX0 7 T.g_height_by.f T.g_height_by.d ["book","state","tree"] me:=by
 refine T.g_height_by.F.ok lT (fun vs H Q E h=>?_) (fun cdv A outer s H vs Q E hr h=>?_)
 · obtain ⟨b,ta,sn,ins,outs,S,dp,head,rows,t,rfl,_⟩:=h;rfl
 obtain ⟨b,ta,sn,ins,outs,S,dp,head,rows,t,rfl,I0,h0,h1,k⟩:=h;refine ⟨_,(aj (aD (pcF T.g_folded (fQ T) hr (ab (pv 0) (ab (pcF T.g_call_of (j7 T) hr (ab (pv 1) ad)) (ab (pv 2) (ab (bX (v:=.ref T.g_depths_in.f) rfl T.g_depths_in.m rfl) (ab (bX (v:=.ref T.g_height_worth.f) rfl T.g_height_worth.m rfl) ad)))))))),?_⟩
 try dsimp only [cxK,cxKn]
 refine ⟨_,rfl,_,rfl,sn,rfl,fun p hp=>?_⟩;have s1:L2.Same H (upd H p (.tup [.str q,.int sn,.int 0])):=af hp _;have e1:At (upd H p (.tup [.str q,.int sn,.int 0])) (.call sn 0) p:=by rw [At];exact ac
 generalize (upd H p (.tup [.str q,.int sn,.int 0]))=H1 at s1 e1 ⊢;have I:=I0.same s1;exact ⟨_,rfl,b,p,ta,T.g_depths_in.f,T.g_height_worth.f,ins,outs,head,.call sn 0,t,rows,_,_,qR,PatS,Wvt,t.walk,VRt ins rows (.call sn 0),rfl,I.bk,I.gi,fun row hr=>⟨(I.ok.row row hr).len,I.pat row hr⟩,e1,lh sn,FvOk.of (hI T) T.g_depths_in.F T.g_depths_in.b,dgT,uW,I.tr,I.fit,I.tall,by rw [Th.walk_eq];exact List.mem_cons_self ..,jo I.gi I.ok I.le I.size,I.head (lb h0 h1),FvOk.of (eY T) T.g_height_worth.F T.g_height_worth.b,wT,qI I.gi,fun v H' s2 hv=>k v H' (s1.trans s2) hv⟩
inductive gm (K:PySem.W.Frag) (vs:List V) (H:Hp) (Q:VK) (_E:XK):Prop
 | mk (a:Addr) (ns:List Int) (k:Int) (zz0:vs=[.ref a,.int k]) (zz1:SqL K H a (ns.map V.int)) (zz2:0<=k) (zz3:∀ c:Int,Q (.int c) H):gm K vs H Q _E
def l9 (K:PySem.W.Frag):Sp:=gm K
theorem cT:aW P w K mg base CX0 1 T.g__law_cell.f T.g__law_cell.d ["script","k"] (l9 K):=by
 refine T.g__law_cell.F.ok lU (fun vs H Q E h=>?_) (fun cdv A outer s H vs Q E hr h=>?_)
 · obtain ⟨a,ns,k,rfl,_⟩:=h;rfl
 obtain ⟨a,ns,k,rfl,hS,h0,q⟩:=h
 refine ⟨_,(ag (cM (aP tT (pv 1) (aG aB rfl T.n_len PySem.boot_len (ab (pv 0) ad)) (aR _)) (aj (aD (az bh (pv 0) (pv 1) (fun _ _=>rfl)))) bN)
  (aj (aD ai))),?_⟩
 try dsimp only [cxK,cxKn]
 refine ⟨_,rfl,_,rfl,a,_,rfl,.inl hS,_,_,rfl,rfl,_,rfl,?_⟩;refine dw (fun c=>?_) (fun c=>q 0);have c':k<(((ns.map V.int).length:Nat):Int):=of_decide_eq_true c;rw [List.length_map] at c';exact ⟨_,rfl,_,rfl,a,_,k,_,rfl,rfl,hS,uy h0 c',q _⟩
inductive fZ (vs:List V) (H:Hp) (Q:VK) (_E:XK):Prop
 | mk (c k:Int) (zz0:vs=[.int c,.int k]) (zz1:0<=k) (zz2:k<=100000) (zz3:∀ r:Int,0<=r->r<2147483629->Q (.int r) H):fZ  vs H Q _E
def mr:Sp:=fZ
theorem bJ:aW P w K mg base CX0 1 T.g__law_turn.f T.g__law_turn.d ["cell","k"] mr:=by
 refine T.g__law_turn.F.ok eQ (fun vs H Q E h=>?_) (fun cdv A outer s H vs Q E hr h=>?_)
 · obtain ⟨c,k,rfl,_⟩:=h;rfl
 obtain ⟨c,k,rfl,h0,h1,q⟩:=h
 refine ⟨_,(ag (ar (i:=2) eQ.nd rfl (Or.inl rfl) (av bf (av bq (av bq (av bq (pv 0) (av dq (av dq ai (pv 1)) (pv 1))) (av dq ai (pv 1))) ai) ai))
  (ag (ar (i:=2) eQ.nd rfl (Or.inl rfl) (av bf (av dq (pv 2) (pv 2)) ai))
  (aj (aD (av bf (av dq (av bq (pv 2) (av dq ai (av bq (pv 1) ai))) ai) ai))))),?_⟩
 try dsimp only [cxK,cxKn]
 refine ⟨_,rfl,_,rfl,_,_,rfl,rfl,.inl ⟨by decide,by decide⟩,_,rfl,_,_,rfl,rfl,.inr ⟨by omega,by omega⟩,_,_,rfl,rfl,_,rfl,_,_,rfl,rfl,.inl ⟨by decide,by decide⟩,_,_,rfl,rfl,_,_,rfl,rfl,_,_,rfl,rfl,(by show (0:Int)<2147483647;decide),?_⟩;have n0:=Int.emod_nonneg (c+977 * k * k+31 * k+1) (show (2147483647:Int)≠0 by decide);have n1:=Int.emod_lt_of_pos (c+977 * k * k+31 * k+1) (show (0:Int)<2147483647 by decide);dsimp only;generalize (c+977 * k * k+31 * k+1)%2147483647=near at n0 n1;refine ⟨_,rfl,_,rfl,_,_,rfl,rfl,.inl ⟨by omega,by omega⟩,_,_,rfl,rfl,(by show (0:Int)<2147483647;decide),?_⟩;dsimp only;generalize near * near%2147483647=far;refine ⟨_,rfl,_,rfl,_,_,rfl,rfl,_,_,rfl,rfl,.inl ⟨by decide,by decide⟩,_,_,rfl,rfl,_,_,rfl,rfl,.inr ⟨by decide,by decide⟩,_,_,rfl,rfl,(by show (0:Int)<2147483629;decide),q _ (Int.emod_nonneg _ (by decide)) (Int.emod_lt_of_pos _ (by decide))⟩
inductive fV (vs:List V) (H:Hp) (Q:VK) (_E:XK):Prop
 | mk (kr:Addr) (kas:List Addr) (ks:List (Str×Int)) (cell:Int) (zz0:vs=[.ref kr,.int cell]) (zz1:H kr=some (.tup (kas.map V.ref))) (zz2:KsAt H ks kas) (zz3:bx ks) (zz4:∀ (k0:Str×Int) (ka:Addr) (H':Hp),L2.Same H H'->k0∈ks->k0.2=0->KAt H' k0 ka->Q (.ref ka) H'):fV  vs H Q _E
def lR:Sp:=fV
theorem gM {H:Hp}:∀ {ks:List (Str×Int)} {as:List Addr},KsAt H ks as->∀ z∈ks.zip as,z.1∈ks/\KAt H z.1 z.2
 | _,_,.nil,z,hz=>by simp at hz
 | _,_,.cons (a:=k) (b:=a) r t,z,hz=>by
   rw [List.zip_cons_cons] at hz;rcases List.mem_cons.mp hz with rfl | hz
   · exact ⟨List.mem_cons_self ..,r⟩
   · obtain ⟨h1,h2⟩:=gM t z hz;exact ⟨List.mem_cons_of_mem _ h1,h2⟩
theorem j8 {js:List (Option Nat)} {tt:TT} {te:TE} {σ:St} {H:Hp} {kr:Addr} {kas:List Addr} {ks:List (Str×Int)} {fin:Addr->Hp->Prop} (p:Str×Int->Bool) (e:H kr=some (.tup (kas.map V.ref))) (hks:KsAt H ks kas) (hl:ks.length<=1000) (hp:∃ k∈ks,p k=true)
 (htt:∀ (z:Str×Int) (ka:Addr) (H2:Hp) (R:Bool->Hp->Prop),L2.Same H H2->KAt H2 z ka->R (p z) H2->tt ((cσ js σ).set 0 (some (.ref ka))) H2 R)
 (hte:∀ (ka:Addr) (H2:Hp) (R:VK),R (.ref ka) H2->te ((cσ js σ).set 0 (some (.ref ka))) H2 R)
 (q:∀ (D:Addr) (bs:List ((Str×Int)×Addr)) (H':Hp),H D=none->H'=upd H D (.lst (bs.map fun z=>V.ref z.2))->1<=bs.length->bs.length<=ks.length->(∀ z∈bs,z.1∈ks/\p z.1=true/\KAt H z.1 z.2)->fin D H') :
 ∀ D,H D=none->∃ (n:Nat) (W:Nat->Hp->Prop),W 0 (upd H D (.lst []))/\eU js (aE 0) tt te σ (Itt K kr) D n W fun H'=>fin D H':=by
 have hkl:ks.length=kas.length:=Paired.length hks;have hzl:(ks.zip kas).length=ks.length:=by rw [List.length_zip];omega
 have hza:∀ (i:Nat) (x:V) (z:(Str×Int)×Addr),(kas.map V.ref)[i]?=some x->(ks.zip kas)[i]?=some z->x=.ref z.2:=fun i x z hx hz=>by
  obtain ⟨ka,rfl,hka⟩:=bc hx;obtain ⟨h1,h2⟩:=List.getElem?_zip_eq_some.mp hz;rw [hka] at h2;cases h2;rfl
 refine jd (ks.zip kas) (fun z=>p z.1) (fun z=>.ref z.2) (SqT.of e) (by rw [hzl,List.length_map];exact hkl) (by rw [List.length_map];omega) (fun i x z H2 R hx hz sm r=>?_) (fun i x z H2 R hx hz _ sm r=>?_) (fun D hD=>?_)
 · rw [hza i x z hx hz];have:=(gM hks z (List.mem_of_getElem? hz)).2;exact htt z.1 z.2 H2 R sm (sm _ _ this) r
 · rw [hza i x z hx hz];exact hte z.2 H2 R r
 · refine q D _ _ hD rfl ?_ ?_ ?_
   · obtain ⟨k,hk,hpk⟩:=hp;obtain ⟨i,hi,rfl⟩:=List.getElem_of_mem hk;have hz:(ks.zip kas)[i]'(by omega)∈(ks.zip kas).filter fun z=>p z.1:=List.mem_filter.mpr ⟨List.getElem_mem _,by rw [List.getElem_zip];exact hpk⟩;exact List.length_pos_of_mem hz
   · exact Nat.le_trans (List.length_filter_le _ _) (by omega)
   · intro z hz;obtain ⟨h1,h2⟩:=List.mem_filter.mp hz;obtain ⟨h3,h4⟩:=gM hks z h1;exact ⟨h3,h2,h4⟩
theorem cX:aW P w K mg base CX0 1 T.g__law_leaf.f T.g__law_leaf.d ["kinds","cell"] lR:=by
 refine T.g__law_leaf.F.ok g7 (fun vs H Q E h=>?_) (fun cdv A outer s H vs Q E hr h=>?_)
 · obtain ⟨kr,kas,ks,cell,rfl,_⟩:=h;rfl
 obtain ⟨kr,kas,ks,cell,rfl,ek,hks,g,k⟩:=h
 refine ⟨_,(ag (fN (i:=2) (N:=[Str.ofString "kind"]) (js:=[none]) (g:=(aE 0)) (tt:=(lx (tOp (rEq) (tOp (jj K) (bv 0) (tC (.int 1))) (tC (.int 0))))) (te:=(bv 0)) g7.nd rfl (Or.inl rfl) rfl (cw rfl (by decide +kernel) (by decide +kernel) rfl rfl rfl) (du (pv 0)) (fun _ _ _ _ _ _=>(aq (i:=0) sJ rfl (Or.inl rfl))) (aS rfl) (fun _ _ _ _ _ _=>fP (aP eR (az aA (pv 0) ai (fun _ _=>rfl)) ai (aR _))) (fun _ _ _ _ _ _=>(pv 0)))
  (aj (aD (az bh (pv 2) (av bf (pv 1) (aG aB rfl T.n_len PySem.boot_len (ab (pv 2) ad))) (fun _ _=>rfl))))),?_⟩
 try dsimp only [cxK,cxKn]
 have hk8:=g.le;obtain ⟨kz,hkz,hkz0⟩:=g.zero;refine ⟨_,rfl,kr,rfl,⟨_,SqT.of ek⟩,j8 (K:=K) (fun k=>decide (V.int k.2=V.int 0)) ek hks (by omega) ⟨kz,hkz,by rw [hkz0];rfl⟩ (fun z ka H2 R sm hz r=>?_) (fun ka H2 R r=>⟨_,rfl,r⟩) (fun D bs H' hD e' hb1 hb8 hbs=>?_)⟩
 · exact ⟨_,rfl,ka,_,1,_,rfl,rfl,SqT.of hz,at1,rfl,_,rfl,r⟩
 subst e';have hlm:0<((bs.map fun z=>V.ref z.2).length:Int):=by rw [List.length_map];omega
 have hy0:=Int.emod_nonneg cell (Int.ne_of_gt hlm);have hy1:=Int.emod_lt_of_pos cell hlm;refine hid fun ZZ kZ=>?_;obtain ⟨z,hz⟩:∃ z,bs[(cell%((bs.map fun z=>V.ref z.2).length:Int)).toNat]?=some z:=⟨_,List.getElem?_eq_getElem (by rw [List.length_map] at hy0 hy1 ⊢;omega)⟩;obtain ⟨g1,g2,g3⟩:=hbs z (List.mem_of_getElem? hz);refine kZ ?_;refine ⟨_,rfl,_,rfl,_,rfl,D,_,rfl,.inl (SqL.of ac),_,_,rfl,rfl,hlm,D,_,_,.ref z.2,rfl,rfl,SqL.of ac,bz hy0 (by rw [List.getElem?_map,hz];rfl),?_⟩;exact k z.1 z.2 _ (af hD _) g1 (V.int.inj (of_decide_eq_true g2)) (af hD _ _ _ g3)
inductive fm (vs:List V) (H:Hp) (Q:VK) (_E:XK):Prop
 | mk (cell:Int) (lt:Str) (zz0:vs=[.int cell,.str lt]) (zz1:nF lt) (zz2:∀ (r:Addr) (as:List Addr) (ks:List (Str×Int)) (H':Hp),L2.Same H H'->H' r=some (.tup (as.map V.ref))->KsAt H' ks as->bx ks->Q (.ref r) H'):fm  vs H Q _E
def kC:Sp:=fm
theorem uT {begun:Bool} {c0:Nat} {stem:Str} {a':Nat} {L:List Nat} (hs:stem.length<=7) (ha:a'<=stem.length) {p:Nat} (hp:p<8):(kc begun c0 stem (a':Int) L p).length<=8:=by
 unfold kc;cases begun with
 | true =>
   simp only [if_true];rw [ig];omega
 | false =>
   simp only [Bool.false_eq_true,if_false];have h1:=(iF (z:=stem) ha).2
   have h2:(cp stem (some (a':Int)) none).length=stem.length - a':=by
    show (cp stem (some (a':Int)) none).cps.size=_;rw [<- Array.length_toList];show ((jk stem.cps.toList (some (a':Int)) none).toArray.toList).length=_;rw [List.toList_toArray];unfold jk;have hz:stem.cps.toList.length=stem.length:=Array.length_toList;rw [HT.sIx_nat,HT.sIx_none,hz,Nat.min_eq_left ha,List.length_take,List.length_drop,hz];omega
   rw [strLen_append,strLen_append,h1,h2];show a'+1+(stem.length - a')<=8;omega
theorem rq {x:Int} (h0:0<=x) (h1:x<4):1<=1+x/\1+x<=8:=by omega
theorem o7 {x:Int} (h0:0<=x) (h1:x<4):1<=5+x/\5+x<=8:=by omega
theorem uz {i j:Nat} {t:Int} (hi:i<4) (hj:j<4) (h:(3 * (i:Int)+t)%4=(3 * (j:Int)+t)%4):i=j:=by omega
theorem um {i j:Nat} {t:Int} (hi:i<8) (hj:j<8) (h:(3 * (i:Int)+t)%8=(3 * (j:Int)+t)%8):i=j:=by omega
theorem oW {x:Int} {m:Nat} (h0:0<=x) (h1:x<(m:Int)):x.toNat<m:=by omega
def KInv (nm:Nat->Str) (turn leaf:Int) (m:Nat) (ks:List (Str×Int)):Prop :=
 ∀ (j:Nat) (k:Str×Int),ks[j]?=some k->k.1=nm ((3 * (j:Int)+turn)%(m:Int)).toNat/\0<=k.2/\k.2<=3/\((j:Int)=leaf->k.2=0)
theorem KInv.good {nm:Nat->Str} {turn leaf:Int} {m:Nat} {ks:List (Str×Int)} (h:KInv nm turn leaf m ks) (h1:1<=ks.length) (hm:(m=4/\ks.length<=4)∨(m=8/\ks.length<=8)) (ht:0<=turn) (hlf:0<=leaf/\leaf<(ks.length:Int))
 (hlow:∀ p,p<m->Low (nm p)/\(nm p).length<=8) (hinj:∀ p r,p<m->r<m->nm p=nm r->p=r):bx ks:=by
 have hm0:(0:Int)<(m:Int):=by rcases hm with ⟨rfl,_⟩ | ⟨rfl,_⟩ <;> decide
 have hb:∀ j:Nat,((3 * (j:Int)+turn)%(m:Int)).toNat<m:=fun j=>by
  exact oW (Int.emod_nonneg _ (Int.ne_of_gt hm0)) (Int.emod_lt_of_pos _ hm0)
 refine ⟨h1,(by rcases hm with ⟨_,h⟩ | ⟨_,h⟩;exact Nat.le_trans h (by decide);exact h),fun k hk=>?_,fun k hk=>?_,?_,fun i j k l hk hl e=>?_⟩
 · obtain ⟨i,hi⟩:=List.mem_iff_getElem?.mp hk;rw [(h i k hi).1];exact hlow _ (hb i)
 · obtain ⟨i,hi⟩:=List.mem_iff_getElem?.mp hk;exact ⟨(h i k hi).2.1,(h i k hi).2.2.1⟩
 · have hl:leaf.toNat<ks.length:=oW hlf.1 hlf.2;exact ⟨ks[leaf.toNat],List.getElem_mem hl,(h leaf.toNat _ (List.getElem?_eq_getElem hl)).2.2.2 (Int.toNat_of_nonneg hlf.1)⟩
 · have hi':i<ks.length:=(List.getElem?_eq_some_iff.mp hk).1;have hj':j<ks.length:=(List.getElem?_eq_some_iff.mp hl).1;rw [(h i k hk).1,(h j l hl).1] at e;have e2:=hinj _ _ (hb i) (hb j) e;have e3:(3 * (i:Int)+turn)%(m:Int)=(3 * (j:Int)+turn)%(m:Int):=by rw [<- Int.toNat_of_nonneg (Int.emod_nonneg (3 * (i:Int)+turn) (Int.ne_of_gt hm0)),e2,Int.toNat_of_nonneg (Int.emod_nonneg (3 * (j:Int)+turn) (Int.ne_of_gt hm0))]
   rcases hm with ⟨rfl,hm⟩ | ⟨rfl,hm⟩
   · exact uz (Nat.lt_of_lt_of_le hi' hm) (Nat.lt_of_lt_of_le hj' hm) e3
   · exact um (Nat.lt_of_lt_of_le hi' hm) (Nat.lt_of_lt_of_le hj' hm) e3
set_option maxHeartbeats 4000000 in
theorem gj:aW P w K mg base CX0 2 T.g__law_kinds.f T.g__law_kinds.d ["cell","letters"] kC:=by
 refine T.g__law_kinds.F.ok aI (fun vs H Q E h=>?_) (fun cdv A outer s H vs Q E hr h=>?_)
 · obtain ⟨c,lt,rfl,_⟩:=h;rfl
 obtain ⟨cell,lt,rfl,pk,q⟩:=h
 refine ⟨_,(ag (ar (i:=2) aI.nd rfl (Or.inl rfl) (pcF T.g__law_turn (bJ T) hr (ab (pv 0) (ab ai ad))))
  (ag (ar (i:=3) aI.nd rfl (Or.inl rfl) (av bq ai (av bf (pv 2) ai)))
  (ag (cM (aP eR (av bf (av bC (pv 2) ai) ai) ai (aR _)) (aj (ar (i:=3) aI.nd rfl (Or.inl rfl) (av bq ai (av bf (av bC (pv 2) ai) ai)))) bN)
  (ag (ar (i:=4) aI.nd rfl (Or.inl rfl) (bI mq (av gG (pv 1) dM) bZ (bP (av bq ai (av dq ai (ba ir rfl T.n_int PyProof.Rows.boot_int (ab (ef df (pv 3) ai (aR _)) ad)))))))
  (ag (ar (i:=5) aI.nd rfl (Or.inl rfl) (bI mq dM bZ (bP (av bf (av bC (pv 2) ai) ai))))
  (ag (ar (i:=6) aI.nd rfl (Or.inl rfl) (av bf (av bC (pv 2) ai) (av bq (aG im rfl T.n_len PySem.boot_len (ab (pv 5) ad)) ai)))
  (ag (ar (i:=7) aI.nd rfl (Or.inl rfl) (av bf (av bC (pv 2) ai) (pv 3)))
  (ag (ar (i:=8) aI.nd rfl (Or.inl rfl) (av bf (av bC (pv 2) ai) ai))
  (ag (ar (i:=9) aI.nd rfl (Or.inl rfl) (ef eR (av bf (av bC (pv 2) ai) ai) ai (aR _)))
  (ag (ar (i:=10) aI.nd rfl (Or.inl rfl) (aM ad))
  (ag (bB PassesOwn.never rfl (bT rfl T.n_range (ab (pv 3) ad)) (aq (i:=11) aI.nd rfl (Or.inl rfl)) (ag (ar (i:=2) aI.nd rfl (Or.inl rfl) (pcF T.g__law_turn (bJ T) hr (ab (pv 2) (ab (av bq (pv 11) ai) ad))))
  (ag (ar (i:=12) aI.nd rfl (Or.inl rfl) (av dq (az bh (aM (ab ai (ab ai (ab ai (ab ai (ab ai ad)))))) (av bf (pv 2) ai) (fun _ _=>rfl)) (ba ir rfl T.n_int PyProof.Rows.boot_int (ab (ef vA (pv 11) (pv 7) (aR _)) ad))))
  (ag (ar (i:=13) aI.nd rfl (Or.inl rfl) (av bf (av bq (av dq ai (pv 11)) (pv 8)) (aG im rfl T.n_len PySem.boot_len (ab (pv 4) ad))))
  (ag (ar (i:=14) aI.nd rfl (Or.inl rfl) (av gG (av gG (bI mq (pv 5) bZ (bP (pv 6))) (az qF (pv 4) (pv 13) (fun _ _=>rfl))) (bI mq (pv 5) (bP (pv 6)) bZ)))
  (ag (cM (b9 (pv 9) (fun _=>rfl)) (aj (ar (i:=14) aI.nd rfl (Or.inl rfl) (av tj (az qF (pv 1) ai (fun _ _=>rfl)) (av bq ai (pv 13))))) bN)
  (aj (bm (ci PySem.F.plainAttrs_list PySem.F.slot_list_append PySem.F.type_list_append aV (pv 10) (ab (aU (ab (pv 14) (ab (pv 12) ad))) ad))))))))))
  (aj (aD (ba aN rfl T.n_tuple PyProof.Rows.boot_tuple (ab (pv 10) ad))))))))))))))),?_⟩
 try dsimp only [cxK,cxKn]
 refine ⟨_,rfl,_,_,rfl,by decide,by decide,fun rest r0 r1=>?_⟩;have z0:=Int.emod_nonneg rest (show (4:Int)≠0 by decide);have z1:=Int.emod_lt_of_pos rest (show (0:Int)<4 by decide);refine ⟨_,rfl,_,_,rfl,rfl,(by show (0:Int)<4;decide),_,_,rfl,rfl,?_⟩;dsimp only [aE];refine cf (fun σ' H'=>An2 (H=H') (Ex1 fun (size:Int)=>An3 (1<=size) (size<=8) (σ'=[some (.int cell),some (.str lt),some (.int rest),some (.int size),none,none,none,none,none,none,none,none,none,none,none]))) (fun kk hk=>?_) ?_
 · refine ⟨_,rfl,_,_,rfl,rfl,⟨by decide,by decide⟩,_,_,rfl,rfl,(by show (0:Int)<4;decide),rfl,_,rfl,?_⟩;refine dw (fun _=>?_) (fun _=>hk _ _ ⟨rfl,_,(rq z0 z1).1,(rq z0 z1).2,rfl⟩);have y0:=Int.emod_nonneg (rest / 55296) (show (4:Int)≠0 by decide);have y1:=Int.emod_lt_of_pos (rest / 55296) (show (0:Int)<4 by decide);exact ⟨_,rfl,_,_,rfl,rfl,⟨by decide,by decide⟩,_,_,rfl,rfl,(by show (0:Int)<4;decide),_,_,rfl,rfl,hk _ _ ⟨rfl,_,(o7 y0 y1).1,(o7 y0 y1).2,rfl⟩⟩
 rintro σ' H' ⟨rfl,size,sz1,sz8,rfl⟩
 -- more
 have hl4:=pk.len;have hL8:(lt++cU).length=8:=by rw [strLen_append,hl4];rfl
 have hsz0:(0:Int)<size:=sz1
 obtain ⟨m,hm,hm4⟩:∃ m:Nat,(4+4 * (if decide ((4:Int)<size) then 1 else 0):Int)=(m:Int)/\((m=4/\size<=4)∨(m=8/\size<=8)):=by
  by_cases c:(4:Int)<size
  · exact ⟨8,by rw [decide_eq_true c];rfl,.inr ⟨rfl,sz8⟩⟩
  · exact ⟨4,by rw [decide_eq_false c];rfl,.inl ⟨rfl,Int.not_lt.mp c⟩⟩
 refine ⟨_,rfl,_,_,rfl,rfl,am (by rw [hl4];decide +kernel),_,rfl,_,_,rfl,rfl,.inr ⟨_,rfl,?_⟩⟩;refine ⟨_,_,rfl,rfl,.inl ⟨by decide,by decide⟩,_,_,rfl,rfl,_,rfl,_,rfl,am (by show (lt++cU).length<=1000000;rw [hL8];decide),?_⟩;have hm8:m<=(lt++cU).length:=by rw [hL8];rcases hm4 with ⟨rfl,_⟩ | ⟨rfl,_⟩ <;> decide
 generalize (4+4 * (if decide ((4:Int)<size)=true then 1 else 0):Int)=x4 at hm ⊢;subst hm;obtain ⟨cl,cn⟩:(cp (lt++Str.ofString "aeio") none (some (m:Int))).cps.toList=(lt++cU).cps.toList.take m/\(cp (lt++Str.ofString "aeio") none (some (m:Int))).length=m:=iF (z:=lt++cU) (n:=m) hm8
 have hmore:∀ p:Nat,p<m->(lt++cU).cps.toList[p]?=some ((lt++cU).cps.toList.getD p 0)/\(cp (lt++Str.ofString "aeio") none (some (m:Int))).cps.toList[p]?=some ((lt++cU).cps.toList.getD p 0):=fun p hp=>by
  have hpl:p<(lt++cU).cps.toList.length:=by rw [Array.length_toList];exact Nat.lt_of_lt_of_le hp hm8
  have h1:(lt++cU).cps.toList[p]?=some ((lt++cU).cps.toList.getD p 0):=by rw [List.getD,List.getElem?_eq_getElem hpl];rfl
  refine ⟨h1,?_⟩;rw [cl,List.getElem?_take_of_lt hp];exact h1
 generalize cp (lt++Str.ofString "aeio") none (some (m:Int))=more at cn hmore cl ⊢
 -- stem
 have y0:=Int.emod_nonneg (rest / 4) (show (8:Int)≠0 by decide);have y1:=Int.emod_lt_of_pos (rest / 4) (show (0:Int)<8 by decide);refine ⟨_,rfl,_,_,rfl,rfl,⟨by decide,by decide⟩,_,_,rfl,rfl,(by show (0:Int)<8;decide),_,rfl,_,rfl,am (by decide +kernel),?_⟩;generalize rest / 4%8=x8 at y0 y1 ⊢;obtain ⟨sn,rfl⟩:∃ n:Nat,x8=(n:Int):=⟨_,(Int.toNat_of_nonneg y0).symm⟩
 have hsl:(cp (Str.ofString "gumleafs") none (some (sn:Int))).length<=7:=by
  show (cp gum none (some (sn:Int))).length<=7;rw [(iF (z:=gum) (n:=sn) (by show sn<=8;omega)).2];omega
 have hsw:Low (cp (Str.ofString "gumleafs") none (some (sn:Int))):=lX sr _ _;generalize cp (Str.ofString "gumleafs") none (some (sn:Int))=stem at hsl hsw ⊢
 -- at
 have hst0:(0:Int)<(stem.length:Int)+1:=Int.lt_add_one_of_le (Int.natCast_nonneg _);have x0:=Int.emod_nonneg (rest / 32) (Int.ne_of_gt hst0);have x1:=Int.emod_lt_of_pos (rest / 32) hst0;refine ⟨_,rfl,_,_,rfl,rfl,⟨by decide,by decide⟩,_,rfl,_,rfl,am (Nat.le_trans hsl (by decide)),_,_,rfl,rfl,_,_,rfl,rfl,hst0,?_⟩;generalize rest / 32%((stem.length:Int)+1)=xa at x0 x1 ⊢;obtain ⟨a',rfl⟩:∃ n:Nat,xa=(n:Int):=⟨_,(Int.toNat_of_nonneg x0).symm⟩;have ha'':a'<=stem.length:=by omega
 -- leaf,turn,begun
 have l0:=Int.emod_nonneg (rest / 288) (Int.ne_of_gt hsz0);have l1:=Int.emod_lt_of_pos (rest / 288) hsz0;refine ⟨_,rfl,_,_,rfl,rfl,⟨by decide,by decide⟩,_,rfl,_,_,rfl,rfl,hsz0,?_⟩;generalize rest / 288%size=leaf at l0 l1 ⊢;have t0:=Int.emod_nonneg (rest / 1152) (show (4:Int)≠0 by decide);refine ⟨_,rfl,_,_,rfl,rfl,⟨by decide,by decide⟩,_,_,rfl,rfl,(by show (0:Int)<4;decide),?_⟩;generalize rest / 1152%4=turn at t0 ⊢;refine ⟨_,rfl,_,_,rfl,rfl,⟨by decide,by decide⟩,_,_,rfl,rfl,(by show (0:Int)<3;decide),rfl,?_⟩;generalize decide (V.int (rest / 4608%3)=V.int 1)=bg;refine ⟨am (by show 0<=1000000;decide),fun kl hkl=>?_⟩;obtain ⟨c0,hc0⟩:∃ c0,lt.cps.toList[0]?=some c0:=⟨_,List.getElem?_eq_getElem (by rw [Array.length_toList];show 0<lt.length;omega)⟩
 have hc0l:97<=c0/\c0<=122:=pk.low c0 (by
  show c0∈(lt.cps++cU.cps).toList;rw [Array.toList_append];exact List.mem_append_left _ (List.mem_of_getElem? hc0))
 refine ⟨_,rfl,size,rfl,by omega,by omega,?_⟩
 refine bR (n:=size.toNat) (fun i σ H2=>Ex7 fun (rest':Int) (kv mv pv nv:Option V) (as:List Addr) (ks:List (Str×Int))=>An6 (σ=[some (.int cell),some (.str lt),some (.int rest'),some (.int size),some (.str more),some (.str stem),some (.int (a':Int)),some (.int leaf),some (.int turn),some (.bl bg),some (.ref kl),kv,mv,pv,nv]) (L2.Same H H2) (H2 kl=some (.lst (as.map V.ref))) (KsAt H2 ks as) (ks.length=i) (KInv (kc bg c0 stem (a':Int) (lt++cU).cps.toList) turn leaf m ks))
  ⟨rest,none,none,none,none,[],[],rfl,af hkl _,ac,.nil,rfl,fun j k hj=>by simp at hj⟩ ?_ ?_
 · rintro i σ H2 hi ⟨rest',kv,mv,pv,nv,as,ks,rfl,sm,e,hp,hkn,hinv⟩;have hi8:i<size.toNat:=hi;have hl:ks.length=as.length:=Paired.length hp;refine ⟨_,rfl,_,rfl,_,_,rfl,rfl,_,_,rfl,by omega,by omega,fun rest2 _ _=>?_⟩;have v0:=Int.emod_nonneg rest2 (show (5:Int)≠0 by decide);have v1:=Int.emod_lt_of_pos rest2 (show (0:Int)<5 by decide);refine hid fun ZZ kZ=>?_
   obtain ⟨v,hv,hv0,hv3⟩:∃ v:Int,atI [V.int 0,V.int 2,V.int 1,V.int 3,V.int 2] (rest2%5)=some (.int v)/\0<=v/\v<=3:=by
    rcases (by omega:rest2%5=0∨rest2%5=1∨rest2%5=2∨rest2%5=3∨rest2%5=4) with z | z | z | z | z <;> rw [z]
    · exact ⟨0,rfl,by decide,by decide⟩
    · exact ⟨2,rfl,by decide,by decide⟩
    · exact ⟨1,rfl,by decide,by decide⟩
    · exact ⟨3,rfl,by decide,by decide⟩
    · exact ⟨2,rfl,by decide,by decide⟩
   refine kZ ?_;refine ⟨am (by show 5<=1000000;decide),fun ll hll=>?_⟩;refine ⟨_,rfl,_,_,rfl,rfl,(by show (0:Int)<5;decide),ll,_,_,.int v,rfl,rfl,SqL.of ac,hv,_,rfl,_,rfl,rfl,.inr ⟨_,rfl,_,_,rfl,rfl,.inl ⟨by omega,by omega⟩,?_⟩⟩;have s3:L2.Same H2 (upd H2 ll (.lst [.int 0,.int 2,.int 1,.int 3,.int 2])):=af hll _;generalize (upd H2 ll (.lst [.int 0,.int 2,.int 1,.int 3,.int 2]))=H3 at s3 ⊢;have e3:=s3 _ _ e;have hp3:=hp.mono (Same.kt s3);have sm3:=sm.trans s3
   have hmny:0<=(v * (if (!decide (V.int (0+(i:Int))=V.int leaf))=true then 1 else 0):Int)/\(v * (if (!decide (V.int (0+(i:Int))=V.int leaf))=true then 1 else 0):Int)<=3/\((i:Int)=leaf->(v * (if (!decide (V.int (0+(i:Int))=V.int leaf))=true then 1 else 0):Int)=0):=by
    by_cases c:(i:Int)=leaf
    · have:(!decide (V.int (0+(i:Int))=V.int leaf))=false:=by rw [Int.zero_add,c,decide_eq_true rfl];rfl
      rw [this];simp
    · have:(!decide (V.int (0+(i:Int))=V.int leaf))=true:=by
       rw [Int.zero_add,decide_eq_false (fun z=>c (V.int.inj z))];rfl
      rw [this];simp;exact ⟨hv0,hv3,fun z=>absurd z c⟩
   generalize (v * (if (!decide (V.int (0+(i:Int))=V.int leaf))=true then 1 else 0):Int)=mny at hmny ⊢;obtain ⟨hm0,hm3,hmz⟩:=hmny;have p0:=Int.emod_nonneg (3 * (0+(i:Int))+turn) (show (more.length:Int)≠0 by omega);have p1:=Int.emod_lt_of_pos (3 * (0+(i:Int))+turn) (show (0:Int)<(more.length:Int) by omega);refine ⟨_,rfl,_,_,rfl,rfl,.inl ⟨by decide,by decide⟩,_,rfl,_,_,rfl,rfl,_,rfl,_,rfl,am (by omega),_,_,rfl,rfl,(by show (0:Int)<(more.length:Int);omega),?_⟩;generalize hpc:(3 * (0+(i:Int))+turn)%(more.length:Int)=xp at p0 p1 ⊢;obtain ⟨pc,rfl⟩:∃ n:Nat,xp=(n:Int):=⟨_,(Int.toNat_of_nonneg p0).symm⟩
   have hpc2:((3 * (i:Int)+turn)%(m:Int)).toNat=pc:=by
    rw [cn,Int.zero_add] at hpc;omega
   have hpm:pc<m:=by omega
   obtain ⟨hL1,hL2⟩:=hmore pc hpm;have hc1:=(fh stem none (some (a':Int)));have hc2:=(fh stem (some (a':Int)) none);refine ⟨_,rfl,_,rfl,_,rfl,_,rfl,am (by omega),_,rfl,_,rfl,_,_,_,rfl,rfl,am (by omega),br hL2,_,_,rfl,rfl,am (by show (cp stem none (some (a':Int))).length+1<=1000000;omega),_,rfl,_,rfl,_,rfl,_,rfl,am (by omega),_,_,rfl,rfl,am (by rw [strLen_append];show (cp stem none (some (a':Int))).length+1+(cp stem (some (a':Int)) none).length<=1000000;omega),?_⟩;dsimp only [aE];refine cf (fun σ' H'=>An2 (H3=H') (σ'=[some (.int cell),some (.str lt),some (.int rest2),some (.int size),some (.str more),some (.str stem),some (.int (a':Int)),some (.int leaf),some (.int turn),some (.bl bg),some (.ref kl),some (.int (0+(i:Int))),some (.int mny),some (.int (pc:Int)),some (.str (kc bg c0 stem (a':Int) (lt++cU).cps.toList pc))])) (fun kk hk=>?_) ?_
   · refine ⟨_,rfl,bg,rfl,?_⟩;cases bg with
     | false=>exact sS (hk _ _ ⟨rfl,rfl⟩)
     | true =>
       refine qy ⟨_,rfl,_,_,c0,rfl,rfl,am (by omega),br (j:=0) hc0,_,rfl,_,_,rfl,rfl,c0,_,rfl,rfl,by omega,by omega,hk _ _ ⟨rfl,?_⟩⟩;have:(1+(pc:Int)).toNat=1+pc:=by omega
       rw [this];rfl
   rintro σ' H' ⟨rfl,rfl⟩;refine ⟨_,rfl,.inl ⟨rfl,_,SqL.of e3⟩,_,rfl,_,rfl,am (by show 2<=1000000;decide),fun p hp'=>?_⟩;have hpk:kl≠p:=au e3 hp';refine ⟨kl,_,_,rfl,rfl,by rw [ae hpk];exact e3,aK (by rw [List.length_map];omega),?_⟩;refine ⟨rest2,_,_,_,_,as++[p],ks++[(kc bg c0 stem (a':Int) (lt++cU).cps.toList pc,mny)],rfl,aH (aH sm3 (sm3.free hp')) hkl,?_,?_,?_,?_⟩
   · rw [ac,List.map_append];rfl
   · have kt:KT H3 (upd (upd H3 p (.tup [.str (kc bg c0 stem (a':Int) (lt++cU).cps.toList pc),.int mny])) kl (.lst (as.map V.ref++[.ref p]))):=(gx hp').trans (bt (xs:=as.map V.ref) (by rw [ae hpk];exact e3));refine P2.append (hp3.mono kt) (.cons ?_ .nil);show (upd (upd H3 p _) kl _) p=_;rw [ae hpk.symm,ac]
   · rw [List.length_append,hkn];rfl
   · intro j k hj;by_cases hji:j<ks.length
     · rw [List.getElem?_append_left hji] at hj;exact hinv j k hj
     · rw [List.getElem?_append_right (by omega)] at hj
       have hj0:j - ks.length=0:=by
        have:=(List.getElem?_eq_some_iff.mp hj).1;simp at this;omega
       rw [hj0] at hj;cases hj;have hji':j=i:=by omega
       subst hji';exact ⟨by rw [hpc2],hm0,hm3,hmz⟩
 · rintro σ H2 ⟨rest',kv,mv,pv,nv,as,ks,rfl,sm,e,hp,hkn,hinv⟩;refine ⟨_,rfl,kl,_,rfl,.inl ⟨SqL.of e,fun tp htp=>?_⟩⟩;have s3:=af htp (.tup (as.map V.ref));refine q tp as ks _ (sm.trans s3) ac (hp.mono (Same.kt s3)) ?_;refine hinv.good (by omega) (by omega) t0 ⟨l0,by omega⟩ (fun p hp'=>⟨uF hc0l hsw (fun c hc=>pk.low c hc) (by rw [Array.length_toList];show p<(lt++cU).length;omega),uT hsl ha'' (by omega)⟩) (fun p r hp' hr' e'=>uk (fun p r c h1 h2=>pk.inj p r c h1 h2) (by rw [Array.length_toList];show p<(lt++cU).length;omega) (by rw [Array.length_toList];show r<(lt++cU).length;omega) e')
inductive fI (vs:List V) (H:Hp) (Q:VK) (_E:XK):Prop
 | mk (l:Addr) (x m:Int) (zz0:vs=[.ref l,.int m]) (zz1:H l=some (.lst [.int x])) (zz2:0<m) (zz3:m<1000000) (zz4:∀ d x':Int,0<=d->d<m->Q (.int d) (upd H l (.lst [.int x']))):fI  vs H Q _E
def kE:Sp:=fI
theorem cJ:aW P w K mg base CX0 1 T.g__law_digit.f T.g__law_digit.d ["left","many"] kE:=by
 refine T.g__law_digit.F.ok gh (fun vs H Q E h=>?_) (fun cdv A outer s H vs Q E hr h=>?_)
 · obtain ⟨l,x,m,rfl,_⟩:=h;rfl
 obtain ⟨l,x,m,rfl,e,h0,h1,q⟩:=h
 refine ⟨_,(ag (ar (i:=2) gh.nd rfl (Or.inl rfl) (av bf (az bh (pv 0) ai (fun _ _=>rfl)) (pv 1)))
  (ag (iS (av bC (az bh (pv 0) ai (fun _ _=>rfl)) (pv 1)) (rh (pv 0) ai nQ))
  (aj (aD (pv 2))))),?_⟩
 try dsimp only [cxK,cxKn]
 refine ⟨_,rfl,l,_,0,.int x,rfl,rfl,SqL.of e,at0,_,rfl,_,_,rfl,rfl,h0,?_⟩;refine ⟨_,rfl,l,_,0,.int x,rfl,rfl,SqL.of e,at0,_,rfl,_,_,rfl,rfl,⟨h0,by omega⟩,?_⟩;refine ⟨_,rfl,l,_,0,0,rfl,rfl,e,rfl,?_⟩;exact ⟨_,rfl,q _ _ (Int.emod_nonneg _ (by omega)) (Int.emod_lt_of_pos _ h0)⟩
inductive dQ (n:Nat) (vs:List V) (H:Hp) (Q:VK) (_E:XK):Prop
 | mk (cell:Int) (oa:Addr) (oas:List Addr) (outs:List (Str×Int)) (S C deep:Int) (zz0:vs=[.int cell,.ref oa,.int S,.int C,.int deep]) (zz1:H oa=some (.tup (oas.map V.ref))) (zz2:KsAt H outs oas) (zz3:bx outs) (zz4:0<=deep) (zz5:deep<(n:Int)) (zz6:∀ (t:Th) (r:Addr) (H':Hp),L2.Same H H'->At H' t r->t.FitS outs S C->t.tall<=deep.toNat+1->Q (.ref r) H'):dQ n vs H Q _E
def je (n:Nat):Sp:=dQ n
theorem cQ:∀ n:Nat,aW P w K mg base CX0 (n+2) T.g__law_pattern.f T.g__law_pattern.d ["cell","outs","states","kids","deep"] (je n)
 | 0=>⟨fun _ _ _ _ h=>by obtain ⟨_,_,_,_,_,_,_,_,_,_,_,h1,h2,_⟩:=h;omega,fun _ _ _ _ _ _ _ _ _ _ _ _ _ h=>by obtain ⟨_,_,_,_,_,_,_,_,_,_,_,h1,h2,_⟩:=h;omega⟩
 | n+1=>by
   have ih:=cQ n;refine T.g__law_pattern.F.ok bG (fun vs H Q E h=>?_) (fun cdv A outer s H vs Q E hr h=>?_)
   · obtain ⟨cell,oa,oas,outs,S,C,deep,rfl,_⟩:=h;rfl
   obtain ⟨cell,oa,oas,outs,S,C,deep,rfl,eo,hks,g,d0,d1,q⟩:=h
   refine ⟨_,(ag (ar (i:=5) bG.nd rfl (Or.inl rfl) (pcF T.g__law_turn (bJ T) hr (ab (pv 0) (ab ai ad))))
    (ag (cM (PW.pt (gD (aP df (pv 2) ai (aR _)) (gD (aP df (pv 3) ai (aR _)) (g8 (aP tT (av bf (pv 5) ai) ai (aR _)))))) (aj (aD (aU (ab dM (ab (av bf (av bC (pv 5) ai) (pv 2)) (ab (av bf (av bC (pv 5) ai) (pv 3)) ad)))))) bN)
    (ag (ar (i:=6) bG.nd rfl (Or.inl rfl) (az aA (pv 1) (av bf (av bC (pv 5) ai) (aG aB rfl T.n_len PySem.boot_len (ab (pv 1) ad))) (fun _ _=>rfl)))
    (ag (cM (PW.pt (gD (aP eR (pv 4) ai (aR _)) (g8 (aP df (az aA (pv 6) ai (fun _ _=>rfl)) ai (aR _))))) (aj (ar (i:=6) bG.nd rfl (Or.inl rfl) (pcF T.g__law_leaf (cX T) hr (ab (pv 1) (ab (av bC (pv 5) ai) ad))))) bN)
    (ag (ar (i:=7) bG.nd rfl (Or.inl rfl) (aM ad))
    (ag (bB PassesOwn.never rfl (bT rfl T.n_range (ab (az aA (pv 6) ai (fun _ _=>rfl)) ad)) (aq (i:=8) bG.nd rfl (Or.inl rfl)) (aj (bm (ci PySem.F.plainAttrs_list PySem.F.slot_list_append PySem.F.type_list_append aV (pv 7) (ab (d9 (ih) (hr.mono (Nat.le_refl _)) rfl T.g__law_pattern.m T.g__law_pattern.F.kp T.g__law_pattern.b .nil dC (ab (pcF T.g__law_turn (bJ T) hr (ab (pv 5) (ab (av bq (pv 8) ai) ad))) (ab (pv 1) (ab (pv 2) (ab (pv 3) (ab (av j4 (pv 4) ai) ad)))))) ad)))))
    (aj (aD (av fS (aU (ab (az aA (pv 6) ai (fun _ _=>rfl)) ad)) (ba aN rfl T.n_tuple PyProof.Rows.boot_tuple (ab (pv 7) ad))))))))))),?_⟩
   try dsimp only [cxK,cxKn]
   have hkl:outs.length=oas.length:=Paired.length hks;have hk8:=g.le;have hk1:=g.ne;refine ⟨_,rfl,_,_,rfl,by decide,by decide,fun rest r0 r1=>?_⟩;dsimp only [aE];refine cf (fun σ' H'=>An2 (H=H') (σ'=[some (.int cell),some (.ref oa),some (.int S),some (.int C),some (.int deep),some (.int rest),none,none,none])) (fun kk hk=>?_) ?_
   · refine ck (fun b H'=>An2 (H=H') ((b=true->0<S/\0<C))) (fun k2 hk2=>?_) (fun H' hb=>?_) (fun H' hb=>?_)
     · refine ⟨_,rfl,_,_,rfl,rfl,_,rfl,?_⟩;refine dw (fun c1=>?_) (fun c1=>hk2 _ _ ⟨rfl,fun z=>by cases z⟩);refine ⟨_,rfl,_,_,rfl,rfl,_,rfl,?_⟩;refine dw (fun c2=>?_) (fun c2=>hk2 _ _ ⟨rfl,fun z=>by cases z⟩);exact ⟨_,rfl,_,_,rfl,rfl,(by show (0:Int)<5;decide),_,_,rfl,rfl,_,rfl,hk2 _ _ ⟨rfl,fun _=>⟨of_decide_eq_true c1,of_decide_eq_true c2⟩⟩⟩
     · obtain ⟨rfl,hb⟩:=hb;obtain ⟨hS,hC⟩:=hb rfl;refine ⟨_,rfl,_,_,rfl,rfl,⟨by decide,by decide⟩,_,rfl,_,_,rfl,rfl,hS,_,rfl,_,_,rfl,rfl,⟨by decide,by decide⟩,_,rfl,_,_,rfl,rfl,hC,am (by show 3<=1000000;decide),fun ca hca=>?_⟩;refine q (.call (rest / 5%S) (rest / 97%C)) ca _ (af hca _) ?_ ?_ ?_
       · rw [At];exact ac
       · rw [Th.FitS];exact ⟨Int.emod_nonneg _ (by omega),Int.emod_lt_of_pos _ hS,Int.emod_nonneg _ (by omega),Int.emod_lt_of_pos _ hC⟩
       · rw [Th.tall];omega
     · obtain ⟨rfl,_⟩:=hb;exact hk _ _ ⟨rfl,rfl⟩
   rintro σ' H' ⟨rfl,rfl⟩;have m0:=Int.emod_nonneg (rest / 5) (show ((oas.map V.ref).length:Int)≠0 by rw [List.length_map];omega);have m1:=Int.emod_lt_of_pos (rest / 5) (show (0:Int)<((oas.map V.ref).length:Int) by rw [List.length_map];omega);refine hid fun ZZ kZ=>?_;obtain ⟨k0,hk0⟩:∃ k0,outs[(rest / 5%((oas.map V.ref).length:Int)).toNat]?=some k0:=⟨_,List.getElem?_eq_getElem (by rw [List.length_map] at m0 m1 ⊢;omega)⟩;obtain ⟨ka,hka,eka⟩:=P2.get hks hk0;refine kZ ?_;refine ⟨_,rfl,_,rfl,_,_,rfl,rfl,⟨by decide,by decide⟩,_,rfl,oa,_,rfl,.inr (SqT.of eo),_,_,rfl,rfl,(by show (0:Int)<((oas.map V.ref).length:Int);rw [List.length_map];omega),oa,_,_,.ref ka,rfl,rfl,SqT.of eo,bz m0 (by rw [List.getElem?_map,hka];rfl),?_⟩;dsimp only [aE];refine cf (fun σ' H'=>Ex2 fun (k0:Str×Int) (ka:Addr)=>An5 (k0∈outs) (KAt H' k0 ka) ((deep=0->k0.2=0)) (L2.Same H H') (σ'=[some (.int cell),some (.ref oa),some (.int S),some (.int C),some (.int deep),some (.int rest),some (.ref ka),none,none])) (fun kk hk=>?_) ?_
   · refine ck (fun b H'=>An2 (H=H') ((b=false->deep=0->k0.2=0))) (fun k2 hk2=>?_) (fun H' hb=>?_) (fun H' hb=>?_)
     · refine ⟨_,rfl,rfl,_,rfl,?_⟩;refine dw (fun c1=>?_) (fun c1=>hk2 _ _ ⟨rfl,fun _ z=>absurd (decide_eq_true (congrArg V.int z)) c1⟩);refine ⟨_,rfl,ka,_,1,_,rfl,rfl,SqT.of eka,at1,_,_,rfl,rfl,_,rfl,hk2 _ _ ⟨rfl,fun z _=>?_⟩⟩;have z':¬ 0<k0.2:=of_decide_eq_false z;have:=(g.num k0 (List.mem_of_getElem? hk0)).1;omega
     · obtain ⟨rfl,_⟩:=hb;refine ⟨_,rfl,_,rfl,_,_,rfl,rfl,⟨by decide,by decide⟩,oa,oas,outs,_,rfl,eo,hks,g,fun k1 ka1 H1 s1 hm1 hz1 e1=>?_⟩;exact hk _ _ ⟨k1,ka1,hm1,e1,fun _=>hz1,s1,rfl⟩
     · obtain ⟨rfl,hb⟩:=hb;exact hk _ _ ⟨k0,ka,List.mem_of_getElem? hk0,eka,hb rfl,.refl _,rfl⟩
   rintro σ' H1 ⟨k0,ka,hmem,eka,hz,s1,rfl⟩;have hnum:=g.num k0 hmem;refine ⟨am (by show 0<=1000000;decide),fun pl hpl=>?_⟩;have s2:L2.Same H1 (upd H1 pl (.lst [])):=af hpl _;have e2:(upd H1 pl (.lst [])) pl=some (.lst []):=ac;generalize (upd H1 pl (.lst []))=H2 at s2 e2 ⊢;have eka2:=s2 _ _ eka;refine ⟨_,rfl,ka,_,1,_,rfl,rfl,SqT.of eka2,at1,k0.2,rfl,by omega,by omega,?_⟩
   refine bR (n:=k0.2.toNat) (fun i σ H3=>Ex3 fun (kv:Option V) (bs:List Addr) (ts:List Th)=>An6 (σ=[some (.int cell),some (.ref oa),some (.int S),some (.int C),some (.int deep),some (.int rest),some (.ref ka),some (.ref pl),kv]) ((∀ b o,b≠pl->H2 b=some o->H3 b=some o)) (H3 pl=some (.lst (bs.map V.ref))) (Ats H3 ts bs) (ts.length=i) (∀ t∈ts,t.FitS outs S C/\t.tall<=(deep - 1).toNat+1))
    ⟨none,[],[],rfl,fun _ _ _ e=>e,e2,.nil,rfl,fun t ht=>by cases ht⟩ ?_ ?_
   · rintro i σ H3 hi ⟨kv,bs,ts,rfl,s3,e3,hts,htl,hall⟩;have hi3:i<k0.2.toNat:=hi;have sB:∀ b o,H b=some o->H3 b=some o:=fun b o e=>s3 b o (au (s1 _ _ e) hpl) (s2 _ _ (s1 _ _ e))
     have hdeep:1<=deep:=by
      by_cases z:deep=0
      · have:=hz z;omega
      · omega
     refine ⟨_,rfl,.inl ⟨rfl,_,SqL.of e3⟩,_,rfl,_,rfl,_,_,rfl,rfl,_,_,rfl,by omega,by omega,fun r2 _ _=>?_⟩;refine ⟨_,rfl,_,rfl,_,rfl,_,rfl,_,_,rfl,rfl,r2,oa,oas,outs,S,C,deep - 1,rfl,sB _ _ eo,hks.mono (fun b ys e=>sB b _ e),g,by omega,by omega,fun t r H4 s4 hat hfit htall=>?_⟩;have e4:=s4 _ _ e3;have hbl:bs.length=ts.length:=hts.length;refine ⟨pl,_,_,rfl,rfl,e4,aK (by rw [List.length_map];omega),?_⟩;have kt:KT H4 (upd H4 pl (.lst (bs.map V.ref++[.ref r]))):=bt e4;refine ⟨_,bs++[r],ts++[t],rfl,fun b o hb e=>?_,?_,?_,?_,?_⟩
     · rw [ae hb];exact s4 _ _ (s3 b o hb e)
     · rw [ac,List.map_append];rfl
     · exact (hts.mono ((Same.kt s4).trans kt)).append (.cons (hat.mono kt) .nil)
     · rw [List.length_append,htl];rfl
     · intro u hu;rcases List.mem_append.mp hu with hu | hu
       · exact hall u hu
       · rw [List.mem_singleton.mp hu];exact ⟨hfit,htall⟩
   · rintro σ H3 ⟨kv,bs,ts,rfl,s3,e3,hts,htl,hall⟩;have sH:L2.Same H H3:=fun b o e=>s3 b o (au (s1 _ _ e) hpl) (s2 _ _ (s1 _ _ e));have eka3:H3 ka=some (.tup [.str k0.1,.int k0.2]):=s3 ka _ (au eka hpl) eka2;have hbl:bs.length=ts.length:=hts.length;refine ⟨_,rfl,ka,_,0,.str k0.1,rfl,rfl,SqT.of eka3,at0,am (by show 1<=1000000;decide),fun p1 hp1=>?_⟩;have s4:L2.Same H3 (upd H3 p1 (.tup [.str k0.1])):=af hp1 _;have e4:(upd H3 p1 (.tup [.str k0.1])) p1=some (.tup [.str k0.1]):=ac;generalize (upd H3 p1 (.tup [.str k0.1]))=H4 at s4 e4 ⊢;refine ⟨_,rfl,pl,_,rfl,.inl ⟨SqL.of (s4 _ _ e3),fun tp htp=>?_⟩⟩;have s5:L2.Same H4 (upd H4 tp (.tup (bs.map V.ref))):=af htp _;have e5:(upd H4 tp (.tup (bs.map V.ref))) tp=some (.tup (bs.map V.ref)):=ac;generalize (upd H4 tp (.tup (bs.map V.ref)))=H5 at s5 e5 ⊢;refine pP (s5 _ _ e4) e5 (by rw [List.length_map];show 1+bs.length<=1000000;omega) fun p H6 s6 e6=>?_;have hlow:=(g.low k0 hmem).1;refine q (.knot k0.1 ts) p H6 (sH.trans (s4.trans (s5.trans s6))) ?_ ?_ ?_
     · rw [At];exact ⟨iW hlow,bs,e6,hts.mono (Same.kt (s4.trans (s5.trans s6)))⟩
     · rw [Th.FitS];refine ⟨?_,FitSs.of fun t ht=>(hall t ht).1⟩
       have:(k0.1,(ts.length:Int))=k0:=by
        rw [htl];exact Prod.ext rfl (by show ((k0.2.toNat:Nat):Int)=k0.2;omega)
       rw [this];exact hmem
     · rw [Th.tall];by_cases z:deep=0
       · have hk2:=hz z;have:ts=[]:=List.length_eq_zero_iff.mp (by omega);subst this;rw [aC];omega
       · have:=dR (n:=(deep - 1).toNat+1) fun t ht=>(hall t ht).2;omega
inductive di (n:Nat) (vs:List V) (H:Hp) (Q:VK) (_E:XK):Prop
 | mk (l:Addr) (x:Int) (oa:Addr) (oas:List Addr) (outs:List (Str×Int)) (S C deep:Int) (zz0:vs=[.ref l,.ref oa,.int S,.int C,.int deep]) (zz1:H l=some (.lst [.int x])) (zz2:H oa=some (.tup (oas.map V.ref))) (zz3:KsAt H outs oas) (zz4:bx outs) (zz5:S<1000000) (zz6:C<1000000) (zz7:0<=deep) (zz8:deep<(n:Int)) (zz9:∀ (t:Th) (r:Addr) (x':Int) (H':Hp),SameB l H H'->H' l=some (.lst [.int x'])->At H' t r->t.FitS outs S C->t.tall<=deep.toNat+1->Q (.ref r) H'):di n vs H Q _E
def gZ (n:Nat):Sp:=di n
set_option maxHeartbeats 2000000 in
theorem cA:∀ n:Nat,aW P w K mg base CX0 (n+2) T.g__law_by_digits.f T.g__law_by_digits.d ["left","outs","states","kids","deep"] (gZ n)
 | 0=>⟨fun _ _ _ _ h=>by obtain ⟨_,_,_,_,_,_,_,_,_,_,_,_,_,_,_,h1,h2,_⟩:=h;omega,fun _ _ _ _ _ _ _ _ _ _ _ _ _ h=>by obtain ⟨_,_,_,_,_,_,_,_,_,_,_,_,_,_,_,h1,h2,_⟩:=h;omega⟩
 | n+1=>by
   have ih:=cA n;refine T.g__law_by_digits.F.ok bp (fun vs H Q E h=>?_) (fun cdv A outer s H vs Q E hr h=>?_)
   · obtain ⟨l,x,oa,oas,outs,S,C,deep,rfl,_⟩:=h;rfl
   obtain ⟨l,x,oa,oas,outs,S,C,deep,rfl,el,eo,hks,g,hSm,hCm,d0,d1,q⟩:=h
   refine ⟨_,(ag (cM (PW.pt (gD (aP df (pv 2) ai (aR _)) (gD (aP df (pv 3) ai (aR _)) (g8 (aP eR (pcF T.g__law_digit (cJ T) hr (ab (pv 0) (ab ai ad))) ai (aR _)))))) (ag (ar (i:=5) bp.nd rfl (Or.inl rfl) (pcF T.g__law_digit (cJ T) hr (ab (pv 0) (ab (pv 2) ad))))
    (aj (aD (aU (ab dM (ab (pv 5) (ab (pcF T.g__law_digit (cJ T) hr (ab (pv 0) (ab (pv 3) ad))) ad))))))) bN)
    (ag (fN (i:=6) (N:=[Str.ofString "kind",Str.ofString "deep"]) (js:=[none,some 4]) (g:=(aE 0)) (tt:=(tOr (lx (tOp (rEq) (tOp (jj K) (bv 0) (tC (.int 1))) (tC (.int 0)))) (lx (tOp (rI0 fun i j=>.bl (decide (j<i))) (bv 1) (tC (.int 0)))))) (te:=(bv 0)) bp.nd rfl (Or.inl rfl) rfl (cw rfl (by decide +kernel) (by decide +kernel) rfl rfl rfl) (du (pv 1)) (fun _ _ _ _ _ _=>(aq (i:=0) wq rfl (Or.inl rfl))) (aS rfl) (fun _ _ _ _ _ _=>fP (PW.pt (rW (aP eR (az aA (pv 0) ai (fun _ _=>rfl)) ai (aR _)) (oE (aP df (pv 1) ai (aR _)))))) (fun _ _ _ _ _ _=>(pv 0)))
    (ag (ar (i:=7) bp.nd rfl (Or.inl rfl) (az bh (pv 6) (pcF T.g__law_digit (cJ T) hr (ab (pv 0) (ab (aG aB rfl T.n_len PySem.boot_len (ab (pv 6) ad)) ad))) (fun _ _=>rfl)))
    (ag (ar (i:=8) bp.nd rfl (Or.inl rfl) (aM ad))
    (ag (bB PassesOwn.never rfl (bT rfl T.n_range (ab (az aA (pv 7) ai (fun _ _=>rfl)) ad)) (aq (i:=9) bp.nd rfl (Or.inl rfl)) (aj (bm (ci PySem.F.plainAttrs_list PySem.F.slot_list_append PySem.F.type_list_append aV (pv 8) (ab (d9 (ih) (hr.mono (Nat.le_refl _)) rfl T.g__law_by_digits.m T.g__law_by_digits.F.kp T.g__law_by_digits.b .nil dC (ab (pv 0) (ab (pv 1) (ab (pv 2) (ab (pv 3) (ab (av j4 (pv 4) ai) ad)))))) ad)))))
    (aj (aD (av fS (aU (ab (az aA (pv 7) ai (fun _ _=>rfl)) ad)) (ba aN rfl T.n_tuple PyProof.Rows.boot_tuple (ab (pv 8) ad)))))))))),?_⟩
   try dsimp only [cxK,cxKn]
   have hkl:outs.length=oas.length:=Paired.length hks;have hk8:=g.le;have hk1:=g.ne;refine cf (fun σ' H'=>(∃ x',SameB l H H'/\H' l=some (.lst [.int x']))/\σ'=[some (.ref l),some (.ref oa),some (.int S),some (.int C),some (.int deep),none,none,none,none,none]) (fun kk hk=>?_) ?_
   · refine ck (fun b H'=>(∃ x',SameB l H H'/\H' l=some (.lst [.int x']))/\(b=true->0<S/\0<C)) (fun k2 hk2=>?_) (fun H' hb=>?_) (fun H' hb=>?_)
     · refine ⟨_,rfl,_,_,rfl,rfl,_,rfl,?_⟩;refine dw (fun c1=>?_) (fun c1=>hk2 _ _ ⟨⟨x,.refl,el⟩,fun z=>by cases z⟩);refine ⟨_,rfl,_,_,rfl,rfl,_,rfl,?_⟩;refine dw (fun c2=>?_) (fun c2=>hk2 _ _ ⟨⟨x,.refl,el⟩,fun z=>by cases z⟩);exact ⟨_,rfl,l,x,_,rfl,el,by decide,by decide,fun d x' _ _=>⟨rfl,_,rfl,hk2 _ _ ⟨⟨x',.set,ac⟩,fun _=>⟨of_decide_eq_true c1,of_decide_eq_true c2⟩⟩⟩⟩
     · refine hid fun ZZ kZ=>?_;obtain ⟨⟨x1,s1,e1⟩,hb⟩:=hb;obtain ⟨hS,hC⟩:=hb rfl;refine kZ ?_;refine ⟨_,rfl,_,rfl,l,x1,_,rfl,e1,hS,hSm,fun d x2 d0' d1'=>?_⟩;refine ⟨_,rfl,_,rfl,_,rfl,l,x2,_,rfl,ac,hC,hCm,fun c x3 c0' c1'=>?_⟩;refine ⟨am (by show 3<=1000000;decide),fun ca hca=>?_⟩;have hcl:l≠ca:=fun z=>by rw [<- z,ac] at hca;cases hca
       refine q (.call d c) ca x3 _ (s1.trans (SameB.set.trans (SameB.set.trans (.of (af hca _))))) (by rw [ae hcl];exact ac) ?_ ?_ ?_
       · rw [At];exact ac
       · rw [Th.FitS];exact ⟨d0',d1',c0',c1'⟩
       · rw [Th.tall];omega
     · obtain ⟨h1,_⟩:=hb;exact hk _ _ ⟨h1,rfl⟩
   rintro σ' H1 ⟨⟨x1,s1,e1⟩,rfl⟩;have eo1:H1 oa=some (.tup (oas.map V.ref)):=s1 _ _ (aJ eo el (by intro z;cases z)) eo;have kt1:KT H H1:=s1.kt el;have hks1:=hks.mono kt1;obtain ⟨kz,hkz,hkz0⟩:=g.zero;refine ⟨_,rfl,oa,rfl,⟨_,SqT.of eo1⟩,j8 (K:=K) (fun k=>decide (V.int k.2=V.int 0) || decide (0<deep)) eo1 hks1 (by omega) ⟨kz,hkz,by rw [hkz0];rfl⟩ (fun z ka H2 R sm hz r=>?_) (fun ka H2 R r=>⟨_,rfl,r⟩) (fun D bs H2 hD e' hb1 hb8 hbs=>?_)⟩
   · refine ⟨_,rfl,ka,_,1,_,rfl,rfl,SqT.of hz,at1,rfl,_,rfl,?_⟩;refine dw (fun c=>?_) (fun c=>?_)
     · rw [c] at r;exact r
     · rw [Bool.eq_false_iff.mpr c] at r;exact ⟨_,rfl,_,_,rfl,rfl,_,rfl,r⟩
   have s2:L2.Same H1 H2:=by rw [e'];exact af hD _
   have eD:H2 D=some (.lst (bs.map fun z=>V.ref z.2)):=by rw [e'];exact ac
   have hDl:D≠l:=fun z=>by rw [z,e1] at hD;cases hD
   have el2:=s2 _ _ e1;clear e';have hlm:0<((bs.map fun z=>V.ref z.2).length:Int):=by rw [List.length_map];omega
   refine ⟨_,rfl,_,rfl,_,rfl,D,_,rfl,.inl (SqL.of eD),l,x1,_,rfl,el2,hlm,(by rw [List.length_map];omega),fun d x2 d0' d1'=>?_⟩;have s3:SameB l H2 (upd H2 l (.lst [.int x2])):=.set;have el3:(upd H2 l (.lst [.int x2])) l=some (.lst [.int x2]):=ac;generalize (upd H2 l (.lst [.int x2]))=H3 at s3 el3 ⊢;refine hid fun ZZ kZ=>?_;obtain ⟨z,hz⟩:∃ z,bs[d.toNat]?=some z:=⟨_,List.getElem?_eq_getElem (by rw [List.length_map] at d1';omega)⟩;obtain ⟨hmem,gp,eka⟩:=hbs z (List.mem_of_getElem? hz);obtain ⟨k0,ka⟩:=z;refine kZ ?_;dsimp only at hmem gp eka hz;have kt3:KT H2 H3:=s3.kt el2;have eka3:H3 ka=some (.tup [.str k0.1,.int k0.2]):=kt3 _ _ (s2 _ _ eka);have s13:SameB l H H3:=s1.trans ((SameB.of s2).trans s3);have eo3:H3 oa=some (.tup (oas.map V.ref)):=kt3 _ _ (s2 _ _ eo1);have hks3:=hks1.mono ((Same.kt s2).trans kt3)
   have hz0:deep=0->k0.2=0:=fun z=>by
    rw [z] at gp;have:decide (V.int k0.2=V.int 0)=true:=by simpa using gp
    exact V.int.inj (of_decide_eq_true this)
   refine ⟨D,_,d,.ref ka,rfl,rfl,SqL.of (s3 _ _ hDl eD),bz d0' (by rw [List.getElem?_map,hz];rfl),?_⟩;have hnum:=g.num k0 hmem;refine ⟨am (by show 0<=1000000;decide),fun pl hpl=>?_⟩;have hpl':pl≠l:=fun z=>by rw [z,el3] at hpl;cases hpl
   have s4:L2.Same H3 (upd H3 pl (.lst [])):=af hpl _;have e4:(upd H3 pl (.lst [])) pl=some (.lst []):=ac;generalize (upd H3 pl (.lst []))=H4 at s4 e4 ⊢;have eka4:=s4 _ _ eka3;have el4:=s4 _ _ el3;have eo4:=s4 _ _ eo3;refine ⟨_,rfl,ka,_,1,_,rfl,rfl,SqT.of eka4,at1,k0.2,rfl,by omega,by omega,?_⟩
   refine bR (n:=k0.2.toNat) (fun i σ H5=>Ex4 fun (kv:Option V) (bs:List Addr) (ts:List Th) (x':Int)=>An7 (σ=[some (.ref l),some (.ref oa),some (.int S),some (.int C),some (.int deep),none,some (.ref D),some (.ref ka),some (.ref pl),kv]) ((∀ b o,b≠pl->b≠l->H4 b=some o->H5 b=some o)) (H5 l=some (.lst [.int x'])) (H5 pl=some (.lst (bs.map V.ref))) (Ats H5 ts bs) (ts.length=i) (∀ t∈ts,t.FitS outs S C/\t.tall<=(deep - 1).toNat+1))
    ⟨none,[],[],x2,rfl,fun _ _ _ _ e=>e,el4,e4,.nil,rfl,fun t ht=>by cases ht⟩ ?_ ?_
   · rintro i σ H5 hi ⟨kv,bs',ts,x',rfl,s5,el5,e5,hts,htl,hall⟩;have hi3:i<k0.2.toNat:=hi;have kt5:KT H4 H5:=fun b ys e=>s5 b _ (aJ e e4 (by intro z;cases z)) (aJ e el4 (by intro z;cases z)) e
     have hdeep:1<=deep:=by
      by_cases z:deep=0
      · have:=hz0 z;omega
      · omega
     refine ⟨_,rfl,.inl ⟨rfl,_,SqL.of e5⟩,_,rfl,_,rfl,_,rfl,_,rfl,_,rfl,_,_,rfl,rfl,l,x',oa,oas,outs,S,C,deep - 1,rfl,el5,kt5 _ _ eo4,hks3.mono ((Same.kt s4).trans kt5),g,hSm,hCm,by omega,by omega,fun t r x6 H6 s6 el6 hat hfit htall=>?_⟩;have e6:=s6 _ _ hpl' e5;have kt6:KT H5 H6:=s6.kt el5;have hbl:bs'.length=ts.length:=hts.length;refine ⟨pl,_,_,rfl,rfl,e6,aK (by rw [List.length_map];omega),?_⟩;have kt:KT H6 (upd H6 pl (.lst (bs'.map V.ref++[.ref r]))):=bt e6;refine ⟨_,bs'++[r],ts++[t],x6,rfl,fun b o hb hb2 e=>?_,?_,?_,?_,?_,?_⟩
     · rw [ae hb];exact s6 _ _ hb2 (s5 b o hb hb2 e)
     · rw [ae hpl'.symm];exact el6
     · rw [ac,List.map_append];rfl
     · exact (hts.mono (kt6.trans kt)).append (.cons (hat.mono kt) .nil)
     · rw [List.length_append,htl];rfl
     · intro u hu;rcases List.mem_append.mp hu with hu | hu
       · exact hall u hu
       · rw [List.mem_singleton.mp hu];exact ⟨hfit,htall⟩
   · rintro σ H5 ⟨kv,bs',ts,x',rfl,s5,el5,e5,hts,htl,hall⟩;have hpH:H pl=none:=s13.free el3 hpl;have sH:SameB l H H5:=fun b o hb e=>s5 b o (au e hpH) hb (s4 _ _ (s13 b o hb e));have kt5:KT H4 H5:=fun b ys e=>s5 b _ (aJ e e4 (by intro z;cases z)) (aJ e el4 (by intro z;cases z)) e;have eka5:H5 ka=some (.tup [.str k0.1,.int k0.2]):=kt5 _ _ eka4;have hbl:bs'.length=ts.length:=hts.length;refine ⟨_,rfl,ka,_,0,.str k0.1,rfl,rfl,SqT.of eka5,at0,am (by show 1<=1000000;decide),fun p1 hp1=>?_⟩;have s6:L2.Same H5 (upd H5 p1 (.tup [.str k0.1])):=af hp1 _;have e6:(upd H5 p1 (.tup [.str k0.1])) p1=some (.tup [.str k0.1]):=ac;generalize (upd H5 p1 (.tup [.str k0.1]))=H6 at s6 e6 ⊢;refine ⟨_,rfl,pl,_,rfl,.inl ⟨SqL.of (s6 _ _ e5),fun tp htp=>?_⟩⟩;have s7:L2.Same H6 (upd H6 tp (.tup (bs'.map V.ref))):=af htp _;have e7:(upd H6 tp (.tup (bs'.map V.ref))) tp=some (.tup (bs'.map V.ref)):=ac;generalize (upd H6 tp (.tup (bs'.map V.ref)))=H7 at s7 e7 ⊢;refine pP (s7 _ _ e6) e7 (by rw [List.length_map];show 1+bs'.length<=1000000;omega) fun p H8 s8 e8=>?_;have s58:=s6.trans (s7.trans s8);have hlow:=(g.low k0 hmem).1;refine q (.knot k0.1 ts) p x' H8 (sH.trans (.of s58)) (s58 _ _ el5) ?_ ?_ ?_
     · rw [At];exact ⟨iW hlow,bs',e8,hts.mono (Same.kt s58)⟩
     · rw [Th.FitS];refine ⟨?_,FitSs.of fun t ht=>(hall t ht).1⟩
       have:(k0.1,(ts.length:Int))=k0:=by
        rw [htl];exact Prod.ext rfl (by show ((k0.2.toNat:Nat):Int)=k0.2;omega)
       rw [this];exact hmem
     · rw [Th.tall];by_cases z:deep=0
       · have hk2:=hz0 z;have:ts=[]:=List.length_eq_zero_iff.mp (by omega);subst this;rw [aC];omega
       · have:=dR (n:=(deep - 1).toNat+1) fun t ht=>(hall t ht).2;omega
inductive cx (vs:List V) (H:Hp) (Q:VK) (_E:XK):Prop
 | mk (cell:Int) (ia:Addr) (ias:List Addr) (ins:List (Str×Int)) (oa:Addr) (oas:List Addr) (outs:List (Str×Int)) (S deep:Int) (zz0:vs=[.int cell,.ref ia,.ref oa,.int S,.int deep]) (zz1:H ia=some (.tup (ias.map V.ref))) (zz2:KsAt H ins ias) (zz3:bx ins) (zz4:H oa=some (.tup (oas.map V.ref))) (zz5:KsAt H outs oas) (zz6:bx outs) (zz7:0<=S) (zz8:S<=1000) (zz9:0<=deep) (zz10:deep<5) (zz11:∀ (r ha ra:Addr) (ras:List Addr) (head:Th) (rows:List (List Th)) (H':Hp),L2.Same H H'->BookAt H' ins outs head rows r ia oa ha ra ias oas ras->cN ins outs S deep.toNat head rows->Q (.ref r) H'):cx  vs H Q _E
def d6:Sp:=cx
set_option maxHeartbeats 4000000 in
theorem d4:aW P w K mg base CX0 8 T.g__law_book_by_digits.f T.g__law_book_by_digits.d ["cell","ins","outs","states","deep"] d6:=by
 refine T.g__law_book_by_digits.F.ok aO (fun vs H Q E h=>?_) (fun cdv A outer s H vs Q E hr h=>?_)
 · obtain ⟨cell,ia,ias,ins,oa,oas,outs,S,deep,rfl,_⟩:=h;rfl
 obtain ⟨cell,ia,ias,ins,oa,oas,outs,S,deep,rfl,ei,hki,gi,eo,hko,go,hS0,hS1,d0,d1,q⟩:=h
 refine ⟨_,(ag (ar (i:=5) aO.nd rfl (Or.inl rfl) (aM (ab (pv 0) ad)))
  (ag (ar (i:=6) aO.nd rfl (Or.inl rfl) (aM ad))
  (ag (bB PassesOwn.never rfl (bT rfl T.n_range (ab (pv 3) ad)) (aq (i:=7) aO.nd rfl (Or.inl rfl)) (ag (ar (i:=8) aO.nd rfl (Or.inl rfl) (aM ad))
  (ag (bB PassesOwn.never rfl (bT rfl T.n_range (ab (aG aB rfl T.n_len PySem.boot_len (ab (pv 1) ad)) ad)) (aq (i:=9) aO.nd rfl (Or.inl rfl)) (aj (bm (ci PySem.F.plainAttrs_list PySem.F.slot_list_append PySem.F.type_list_append aV (pv 8) (ab (pcF T.g__law_by_digits (cA T 5) hr (ab (pv 5) (ab (pv 2) (ab (pv 3) (ab (az aA (az aA (pv 1) (pv 9) (fun _ _=>rfl)) ai (fun _ _=>rfl)) (ab (pv 4) ad)))))) ad)))))
  (aj (bm (ci PySem.F.plainAttrs_list PySem.F.slot_list_append PySem.F.type_list_append aV (pv 6) (ab (ba aN rfl T.n_tuple PyProof.Rows.boot_tuple (ab (pv 8) ad)) ad)))))))
  (aj (aD (aU (ab (pv 1) (ab (pv 2) (ab (pcF T.g__law_by_digits (cA T 5) hr (ab (pv 5) (ab (pv 2) (ab (pv 3) (ab ai (ab ai ad)))))) (ab (ba aN rfl T.n_tuple PyProof.Rows.boot_tuple (ab (pv 6) ad)) ad)))))))))),?_⟩
 try dsimp only [cxK,cxKn]
 have hil:ins.length=ias.length:=Paired.length hki;have hi8:=gi.le;have hrl:((ias.map V.ref).length:Int)=(ins.length:Int):=by rw [List.length_map,hil]
 refine ⟨_,rfl,am (by show 1<=1000000;decide),fun lf hlf=>?_⟩;refine ⟨am (by show 0<=1000000;decide),fun rl hrl0=>?_⟩;have hrlf:rl≠lf:=fun z=>by rw [z,ac] at hrl0;cases hrl0
 have hrlH:H rl=none:=(af hlf _).free hrl0;have sm1:L2.Same H (upd (upd H lf (.lst [.int cell])) rl (.lst [])):=(af hlf _).trans (af hrl0 _);have el1:(upd (upd H lf (.lst [.int cell])) rl (.lst [])) lf=some (.lst [.int cell]):=by rw [ae hrlf.symm,ac]
 have er1:(upd (upd H lf (.lst [.int cell])) rl (.lst [])) rl=some (.lst []):=ac;generalize (upd (upd H lf (.lst [.int cell])) rl (.lst []))=H1 at sm1 el1 er1 ⊢;refine ⟨_,rfl,S,rfl,by omega,by omega,?_⟩
 refine bR (n:=S.toNat) (fun i σ H3=>Ex6 fun (sv rv kv:Option V) (ras:List Addr) (rows:List (List Th)) (x:Int)=>An7 (σ=[some (.int cell),some (.ref ia),some (.ref oa),some (.int S),some (.int deep),some (.ref lf),some (.ref rl),sv,rv,kv]) (L2.Same H H3) (H3 lf=some (.lst [.int x])) (H3 rl=some (.lst (ras.map V.ref))) (Paired (RowAt H3) rows ras) (rows.length=i) (∀ row∈rows,pi ins outs S deep.toNat row))
  ⟨none,none,none,[],[],cell,rfl,sm1,el1,er1,.nil,rfl,fun t ht=>by cases ht⟩ ?_ ?_
 · rintro i σ H3 hi ⟨sv,rv,kv,ras,rows,x,rfl,s3,el3,er3,hrows,hrn,hall⟩;have hi3:i<S.toNat:=hi;have hrasl:rows.length=ras.length:=Paired.length hrows;refine ⟨am (by show 0<=1000000;decide),fun rw hrw=>?_⟩;have hrwH:H rw=none:=s3.free hrw;have hrwr:rw≠rl:=fun z=>by rw [z,er3] at hrw;cases hrw
   have hrwl:rw≠lf:=fun z=>by rw [z,el3] at hrw;cases hrw
   have s4:L2.Same H3 (upd H3 rw (.lst [])):=af hrw _;have ew4:(upd H3 rw (.lst [])) rw=some (.lst []):=ac;generalize (upd H3 rw (.lst []))=H4 at s4 ew4 ⊢;refine ⟨_,rfl,ia,_,rfl,.inr (SqT.of (s4 _ _ (s3 _ _ ei))),_,rfl,by omega,by omega,?_⟩
   refine bR (n:=((ias.map V.ref).length:Int).toNat) (fun j σ H5=>Ex4 fun (kv:Option V) (bs:List Addr) (ts:List Th) (x:Int)=>An9 (σ=[some (.int cell),some (.ref ia),some (.ref oa),some (.int S),some (.int deep),some (.ref lf),some (.ref rl),some (.int (0+(i:Int))),some (.ref rw),kv]) (L2.Same H H5) (H5 lf=some (.lst [.int x])) (H5 rl=some (.lst (ras.map V.ref))) (KT H4 H5) (H5 rw=some (.lst (bs.map V.ref))) (Ats H5 ts bs) (ts.length=j) (∀ (j:Nat) (t:Th) (k:Str×Int),ts[j]?=some t->ins[j]?=some k->t.FitS outs S k.2/\t.tall<=deep.toNat+1))
    ⟨kv,[],[],x,rfl,s3.trans s4,s4 _ _ el3,s4 _ _ er3,fun _ _ e=>e,ew4,.nil,rfl,fun j t k h=>by simp at h⟩ ?_ ?_
   · rintro j σ H5 hj ⟨kv,bs,ts,x5,rfl,s5,el5,er5,kt5,ew5,hts,htl,hfits⟩
     have hj3:j<ins.length:=by
      have:j<((ias.map V.ref).length:Int).toNat:=hj;omega
     refine hid fun ZZ kZ=>?_;obtain ⟨k0,hk0⟩:∃ k0,ins[j]?=some k0:=⟨_,List.getElem?_eq_getElem hj3⟩;obtain ⟨ka,hka,eka⟩:=P2.get hki hk0;refine kZ ?_;have hnum:=gi.num k0 (List.mem_of_getElem? hk0);have hat:atI (ias.map V.ref) (0+(j:Int))=some (.ref ka):=bz (by omega) (by rw [show (0+(j:Int)).toNat=j by omega,List.getElem?_map,hka];rfl);refine ⟨_,rfl,.inl ⟨rfl,_,SqL.of ew5⟩,_,rfl,_,rfl,_,rfl,_,rfl,_,rfl,ia,_,_,.ref ka,rfl,rfl,SqT.of (s5 _ _ ei),hat,ka,_,1,_,rfl,rfl,SqT.of (s5 _ _ eka),at1,_,rfl,lf,x5,oa,oas,outs,S,k0.2,deep,rfl,el5,s5 _ _ eo,hko.mono (Same.kt s5),go,by omega,by omega,d0,by omega,fun t r x6 H6 s6 el6 hat hfit htall=>?_⟩;have ew6:=s6 _ _ hrwl ew5;have er6:=s6 _ _ hrlf er5;have kt6:KT H5 H6:=s6.kt el5;have sH6:L2.Same H H6:=fun b o e=>s6 b o (au e hlf) (s5 b o e);have hbl:bs.length=ts.length:=hts.length;refine ⟨rw,_,_,rfl,rfl,ew6,aK (by rw [List.length_map];omega),?_⟩;have kt:KT H6 (upd H6 rw (.lst (bs.map V.ref++[.ref r]))):=bt ew6;refine ⟨_,bs++[r],ts++[t],x6,rfl,aH sH6 hrwH,by rw [ae hrwl.symm];exact el6,by rw [ae hrwr.symm];exact er6,kt5.trans (kt6.trans kt),?_,?_,?_,?_⟩
     · rw [ac,List.map_append];rfl
     · exact (hts.mono (kt6.trans kt)).append (.cons (hat.mono kt) .nil)
     · rw [List.length_append,htl];rfl
     · intro j' t' k' ht' hk';by_cases hji:j'<ts.length
       · rw [List.getElem?_append_left hji] at ht';exact hfits j' t' k' ht' hk'
       · rw [List.getElem?_append_right (by omega)] at ht'
         have hj0:j' - ts.length=0:=by
          have:=(List.getElem?_eq_some_iff.mp ht').1;simp at this;omega
         rw [hj0] at ht';cases ht';have:j'=j:=by omega
         subst this;rw [hk0] at hk';cases hk';exact ⟨hfit,htall⟩
   · rintro σ H5 ⟨kv,bs,ts,x5,rfl,s5,el5,er5,kt5,ew5,hts,htl,hfits⟩;refine ⟨_,rfl,.inl ⟨rfl,_,SqL.of er5⟩,_,rfl,rw,_,rfl,.inl ⟨SqL.of ew5,fun tp htp=>?_⟩⟩;have s6:L2.Same H5 (upd H5 tp (.tup (bs.map V.ref))):=af htp _;have e6:(upd H5 tp (.tup (bs.map V.ref))) tp=some (.tup (bs.map V.ref)):=ac;generalize (upd H5 tp (.tup (bs.map V.ref)))=H6 at s6 e6 ⊢;have er6:=s6 _ _ er5;refine ⟨rl,_,_,rfl,rfl,er6,aK (by rw [List.length_map];omega),?_⟩;have kt:KT H6 (upd H6 rl (.lst (ras.map V.ref++[.ref tp]))):=bt er6;have ktA:KT H3 (upd H6 rl (.lst (ras.map V.ref++[.ref tp]))):=(Same.kt s4).trans (kt5.trans ((Same.kt s6).trans kt));refine ⟨_,_,_,ras++[tp],rows++[ts],x5,rfl,aH (s5.trans s6) hrlH,by rw [ae hrlf.symm];exact s6 _ _ el5,?_,?_,?_,?_⟩
     · rw [ac,List.map_append];rfl
     · exact P2.append (P2.mp (fun _ _ e=>RowAt.mono ktA e) hrows) (.cons ⟨bs,kt _ _ e6,hts.mono ((Same.kt s6).trans kt)⟩ .nil)
     · rw [List.length_append,hrn];rfl
     · intro row hrow;rcases List.mem_append.mp hrow with hrow | hrow
       · exact hall row hrow
       · rw [List.mem_singleton.mp hrow];exact ⟨by rw [htl];omega,hfits⟩
 · rintro σ H3 ⟨sv,rv,kv,ras,rows,x,rfl,s3,el3,er3,hrows,hrn,hall⟩;have hrasl:rows.length=ras.length:=Paired.length hrows;refine ⟨_,rfl,_,rfl,_,rfl,_,rfl,_,rfl,lf,x,oa,oas,outs,S,1,1,rfl,el3,s3 _ _ eo,hko.mono (Same.kt s3),go,by omega,by decide,by decide,by decide,fun t ha x6 H6 s6 el6 hat hfit htall=>?_⟩;have er6:=s6 _ _ hrlf er3;have kt6:KT H3 H6:=s6.kt el3;have sH6:L2.Same H H6:=fun b o e=>s6 b o (au e hlf) (s3 b o e);refine ⟨_,rfl,rl,_,rfl,.inl ⟨SqL.of er6,fun ra hra=>?_⟩⟩;have s7:L2.Same H6 (upd H6 ra (.tup (ras.map V.ref))):=af hra _;have e7:(upd H6 ra (.tup (ras.map V.ref))) ra=some (.tup (ras.map V.ref)):=ac;generalize (upd H6 ra (.tup (ras.map V.ref)))=H7 at s7 e7 ⊢;refine ⟨am (by show 4<=1000000;decide),fun r hr'=>?_⟩;have s8:L2.Same H7 (upd H7 r (.tup [.ref ia,.ref oa,.ref ha,.ref ra])):=af hr' _;have sA:=sH6.trans (s7.trans s8);refine q r ha ra ras t rows _ sA ⟨ac,sA _ _ ei,hki.mono (Same.kt sA),sA _ _ eo,hko.mono (Same.kt sA),hat.mono (Same.kt (s7.trans s8)),s8 _ _ e7,P2.mp (fun _ _ e=>RowAt.mono (kt6.trans (Same.kt (s7.trans s8))) e) hrows⟩ ⟨by rw [hrn];omega,hall,hfit,htall⟩
inductive fU (vs:List V) (H:Hp) (Q:VK) (_E:XK):Prop
 | mk (cell:Int) (ia:Addr) (ias:List Addr) (ins:List (Str×Int)) (oa:Addr) (oas:List Addr) (outs:List (Str×Int)) (S deep:Int) (zz0:vs=[.int cell,.ref ia,.ref oa,.int S,.int deep]) (zz1:H ia=some (.tup (ias.map V.ref))) (zz2:KsAt H ins ias) (zz3:bx ins) (zz4:H oa=some (.tup (oas.map V.ref))) (zz5:KsAt H outs oas) (zz6:bx outs) (zz7:0<=S) (zz8:S<=1000) (zz9:0<=deep) (zz10:deep<5) (zz11:∀ (r ha ra:Addr) (ras:List Addr) (head:Th) (rows:List (List Th)) (H':Hp),L2.Same H H'->BookAt H' ins outs head rows r ia oa ha ra ias oas ras->cN ins outs S deep.toNat head rows->Q (.ref r) H'):fU  vs H Q _E
def mB:Sp:=fU
set_option maxHeartbeats 4000000 in
theorem lW:aW P w K mg base CX0 9 T.g__law_book.f T.g__law_book.d ["cell","ins","outs","states","deep"] mB:=by
 refine T.g__law_book.F.ok cC (fun vs H Q E h=>?_) (fun cdv A outer s H vs Q E hr h=>?_)
 · obtain ⟨cell,ia,ias,ins,oa,oas,outs,S,deep,rfl,_⟩:=h;rfl
 obtain ⟨cell,ia,ias,ins,oa,oas,outs,S,deep,rfl,ei,hki,gi,eo,hko,go,hS0,hS1,d0,d1,q⟩:=h
 refine ⟨_,(ag (cM (aP vk (pv 0) ai (aR _)) (aj (aD (pcF T.g__law_book_by_digits (d4 T) hr (ab (av qE (pv 0) ai) (ab (pv 1) (ab (pv 2) (ab (pv 3) (ab (pv 4) ad)))))))) bN)
  (ag (ar (i:=5) cC.nd rfl (Or.inl rfl) (aM ad))
  (ag (bB PassesOwn.never rfl (bT rfl T.n_range (ab (pv 3) ad)) (aq (i:=6) cC.nd rfl (Or.inl rfl)) (ag (ar (i:=7) cC.nd rfl (Or.inl rfl) (aM ad))
  (ag (bB PassesOwn.never rfl (bT rfl T.n_range (ab (aG aB rfl T.n_len PySem.boot_len (ab (pv 1) ad)) ad)) (aq (i:=8) cC.nd rfl (Or.inl rfl)) (aj (bm (ci PySem.F.plainAttrs_list PySem.F.slot_list_append PySem.F.type_list_append aV (pv 7) (ab (pcF T.g__law_pattern (cQ T 5) hr (ab (pcF T.g__law_turn (bJ T) hr (ab (pv 0) (ab (av bq (av bq (av dq ai (pv 6)) (pv 8)) ai) ad))) (ab (pv 2) (ab (pv 3) (ab (az aA (az aA (pv 1) (pv 8) (fun _ _=>rfl)) ai (fun _ _=>rfl)) (ab (pv 4) ad)))))) ad)))))
  (aj (bm (ci PySem.F.plainAttrs_list PySem.F.slot_list_append PySem.F.type_list_append aV (pv 5) (ab (ba aN rfl T.n_tuple PyProof.Rows.boot_tuple (ab (pv 7) ad)) ad)))))))
  (aj (aD (aU (ab (pv 1) (ab (pv 2) (ab (pcF T.g__law_pattern (cQ T 5) hr (ab (pcF T.g__law_turn (bJ T) hr (ab (pv 0) (ab ai ad))) (ab (pv 2) (ab (pv 3) (ab ai (ab ai ad)))))) (ab (ba aN rfl T.n_tuple PyProof.Rows.boot_tuple (ab (pv 5) ad)) ad)))))))))),?_⟩
 try dsimp only [cxK,cxKn]
 have hil:ins.length=ias.length:=Paired.length hki;have hi8:=gi.le;have hrl:((ias.map V.ref).length:Int)=(ins.length:Int):=by rw [List.length_map,hil]
 refine cf (fun σ' H'=>An2 (H=H') (σ'=[some (.int cell),some (.ref ia),some (.ref oa),some (.int S),some (.int deep),none,none,none,none])) (fun kk hk=>?_) ?_
 · refine ⟨_,rfl,_,_,rfl,rfl,_,rfl,?_⟩;refine dw (fun c1=>?_) (fun c1=>hk _ _ ⟨rfl,rfl⟩);exact ⟨_,rfl,_,_,rfl,rfl,⟨by decide,by decide⟩,_,rfl,_,rfl,_,rfl,_,rfl,_,ia,ias,ins,oa,oas,outs,S,deep,rfl,ei,hki,gi,eo,hko,go,hS0,hS1,d0,d1,fun r ha ra ras head rows H' s1 b1 b2=>q r ha ra ras head rows H' s1 b1 b2⟩
 rintro σ' H' ⟨rfl,rfl⟩;refine ⟨am (by show 0<=1000000;decide),fun rl hrlH=>?_⟩;have sm1:L2.Same H (upd H rl (.lst [])):=af hrlH _;have er1:(upd H rl (.lst [])) rl=some (.lst []):=ac;generalize (upd H rl (.lst []))=H1 at sm1 er1 ⊢;refine ⟨_,rfl,S,rfl,by omega,by omega,?_⟩
 refine bR (n:=S.toNat) (fun i σ H3=>Ex5 fun (sv rv kv:Option V) (ras:List Addr) (rows:List (List Th))=>An6 (σ=[some (.int cell),some (.ref ia),some (.ref oa),some (.int S),some (.int deep),some (.ref rl),sv,rv,kv]) (L2.Same H H3) (H3 rl=some (.lst (ras.map V.ref))) (Paired (RowAt H3) rows ras) (rows.length=i) (∀ row∈rows,pi ins outs S deep.toNat row))
  ⟨none,none,none,[],[],rfl,sm1,er1,.nil,rfl,fun t ht=>by cases ht⟩ ?_ ?_
 · rintro i σ H3 hi ⟨sv,rv,kv,ras,rows,rfl,s3,er3,hrows,hrn,hall⟩;have hi3:i<S.toNat:=hi;have hrasl:rows.length=ras.length:=Paired.length hrows;refine ⟨am (by show 0<=1000000;decide),fun rw hrw=>?_⟩;have hrwH:H rw=none:=s3.free hrw;have hrwr:rw≠rl:=fun z=>by rw [z,er3] at hrw;cases hrw
   have s4:L2.Same H3 (upd H3 rw (.lst [])):=af hrw _;have ew4:(upd H3 rw (.lst [])) rw=some (.lst []):=ac;generalize (upd H3 rw (.lst []))=H4 at s4 ew4 ⊢;refine ⟨_,rfl,ia,_,rfl,.inr (SqT.of (s4 _ _ (s3 _ _ ei))),_,rfl,by omega,by omega,?_⟩
   refine bR (n:=((ias.map V.ref).length:Int).toNat) (fun j σ H5=>Ex3 fun (kv:Option V) (bs:List Addr) (ts:List Th)=>An8 (σ=[some (.int cell),some (.ref ia),some (.ref oa),some (.int S),some (.int deep),some (.ref rl),some (.int (0+(i:Int))),some (.ref rw),kv]) (L2.Same H H5) (H5 rl=some (.lst (ras.map V.ref))) (KT H4 H5) (H5 rw=some (.lst (bs.map V.ref))) (Ats H5 ts bs) (ts.length=j) (∀ (j:Nat) (t:Th) (k:Str×Int),ts[j]?=some t->ins[j]?=some k->t.FitS outs S k.2/\t.tall<=deep.toNat+1))
    ⟨kv,[],[],rfl,s3.trans s4,s4 _ _ er3,fun _ _ e=>e,ew4,.nil,rfl,fun j t k h=>by simp at h⟩ ?_ ?_
   · rintro j σ H5 hj ⟨kv,bs,ts,rfl,s5,er5,kt5,ew5,hts,htl,hfits⟩
     have hj3:j<ins.length:=by
      have:j<((ias.map V.ref).length:Int).toNat:=hj;omega
     refine hid fun ZZ kZ=>?_;obtain ⟨k0,hk0⟩:∃ k0,ins[j]?=some k0:=⟨_,List.getElem?_eq_getElem hj3⟩;obtain ⟨ka,hka,eka⟩:=P2.get hki hk0;refine kZ ?_;have hnum:=gi.num k0 (List.mem_of_getElem? hk0);have hat:atI (ias.map V.ref) (0+(j:Int))=some (.ref ka):=bz (by omega) (by rw [show (0+(j:Int)).toNat=j by omega,List.getElem?_map,hka];rfl);refine ⟨_,rfl,.inl ⟨rfl,_,SqL.of ew5⟩,_,rfl,_,rfl,_,_,rfl,rfl,.inl ⟨by decide,by decide⟩,_,rfl,_,_,rfl,rfl,_,_,rfl,rfl,_,_,rfl,by omega,by omega,fun r2 _ _=>?_⟩;refine ⟨_,rfl,_,rfl,_,rfl,_,rfl,ia,_,_,.ref ka,rfl,rfl,SqT.of (s5 _ _ ei),hat,ka,_,1,_,rfl,rfl,SqT.of (s5 _ _ eka),at1,_,rfl,r2,oa,oas,outs,S,k0.2,deep,rfl,s5 _ _ eo,hko.mono (Same.kt s5),go,d0,by omega,fun t r H6 s6 hat hfit htall=>?_⟩;have ew6:=s6 _ _ ew5;have er6:=s6 _ _ er5;have kt6:KT H5 H6:=Same.kt s6;have sH6:L2.Same H H6:=s5.trans s6;have hbl:bs.length=ts.length:=hts.length;refine ⟨rw,_,_,rfl,rfl,ew6,aK (by rw [List.length_map];omega),?_⟩;have kt:KT H6 (upd H6 rw (.lst (bs.map V.ref++[.ref r]))):=bt ew6;refine ⟨_,bs++[r],ts++[t],rfl,aH sH6 hrwH,by rw [ae hrwr.symm];exact er6,kt5.trans (kt6.trans kt),?_,?_,?_,?_⟩
     · rw [ac,List.map_append];rfl
     · exact (hts.mono (kt6.trans kt)).append (.cons (hat.mono kt) .nil)
     · rw [List.length_append,htl];rfl
     · intro j' t' k' ht' hk';by_cases hji:j'<ts.length
       · rw [List.getElem?_append_left hji] at ht';exact hfits j' t' k' ht' hk'
       · rw [List.getElem?_append_right (by omega)] at ht'
         have hj0:j' - ts.length=0:=by
          have:=(List.getElem?_eq_some_iff.mp ht').1;simp at this;omega
         rw [hj0] at ht';cases ht';have:j'=j:=by omega
         subst this;rw [hk0] at hk';cases hk';exact ⟨hfit,htall⟩
   · rintro σ H5 ⟨kv,bs,ts,rfl,s5,er5,kt5,ew5,hts,htl,hfits⟩;refine ⟨_,rfl,.inl ⟨rfl,_,SqL.of er5⟩,_,rfl,rw,_,rfl,.inl ⟨SqL.of ew5,fun tp htp=>?_⟩⟩;have s6:L2.Same H5 (upd H5 tp (.tup (bs.map V.ref))):=af htp _;have e6:(upd H5 tp (.tup (bs.map V.ref))) tp=some (.tup (bs.map V.ref)):=ac;generalize (upd H5 tp (.tup (bs.map V.ref)))=H6 at s6 e6 ⊢;have er6:=s6 _ _ er5;refine ⟨rl,_,_,rfl,rfl,er6,aK (by rw [List.length_map];omega),?_⟩;have kt:KT H6 (upd H6 rl (.lst (ras.map V.ref++[.ref tp]))):=bt er6;have ktA:KT H3 (upd H6 rl (.lst (ras.map V.ref++[.ref tp]))):=(Same.kt s4).trans (kt5.trans ((Same.kt s6).trans kt));refine ⟨_,_,_,ras++[tp],rows++[ts],rfl,aH (s5.trans s6) hrlH,?_,?_,?_,?_⟩
     · rw [ac,List.map_append];rfl
     · exact P2.append (P2.mp (fun _ _ e=>RowAt.mono ktA e) hrows) (.cons ⟨bs,kt _ _ e6,hts.mono ((Same.kt s6).trans kt)⟩ .nil)
     · rw [List.length_append,hrn];rfl
     · intro row hrow;rcases List.mem_append.mp hrow with hrow | hrow
       · exact hall row hrow
       · rw [List.mem_singleton.mp hrow];exact ⟨by rw [htl];omega,hfits⟩
 · rintro σ H3 ⟨sv,rv,kv,ras,rows,rfl,s3,er3,hrows,hrn,hall⟩;have hrasl:rows.length=ras.length:=Paired.length hrows;refine ⟨_,rfl,_,rfl,_,rfl,_,_,rfl,by decide,by decide,fun r2 _ _=>?_⟩;refine ⟨_,rfl,_,rfl,r2,oa,oas,outs,S,1,1,rfl,s3 _ _ eo,hko.mono (Same.kt s3),go,by decide,by decide,fun t ha H6 s6 hat hfit htall=>?_⟩;have er6:=s6 _ _ er3;have kt6:KT H3 H6:=Same.kt s6;have sH6:L2.Same H H6:=s3.trans s6;refine ⟨_,rfl,rl,_,rfl,.inl ⟨SqL.of er6,fun ra hra=>?_⟩⟩;have s7:L2.Same H6 (upd H6 ra (.tup (ras.map V.ref))):=af hra _;have e7:(upd H6 ra (.tup (ras.map V.ref))) ra=some (.tup (ras.map V.ref)):=ac;generalize (upd H6 ra (.tup (ras.map V.ref)))=H7 at s7 e7 ⊢;refine ⟨am (by show 4<=1000000;decide),fun r hr'=>?_⟩;have s8:L2.Same H7 (upd H7 r (.tup [.ref ia,.ref oa,.ref ha,.ref ra])):=af hr' _;have sA:=sH6.trans (s7.trans s8);refine q r ha ra ras t rows _ sA ⟨ac,sA _ _ ei,hki.mono (Same.kt sA),sA _ _ eo,hko.mono (Same.kt sA),hat.mono (Same.kt (s7.trans s8)),s8 _ _ e7,P2.mp (fun _ _ e=>RowAt.mono (kt6.trans (Same.kt (s7.trans s8))) e) hrows⟩ ⟨by rw [hrn];omega,hall,hfit,htall⟩
def EH (H:Hp) (t:Th) (a:Addr):Prop:=∃ ta,H a=some (.tup [.ref ta,.int (t.tall:Nat)])/\At H t ta
theorem EH.mono {H H':Hp} (k:KT H H') {t:Th} {a:Addr} (h:EH H t a):EH H' t a:=by
 obtain ⟨ta,h1,h2⟩:=h;exact ⟨ta,k _ _ h1,h2.mono k⟩
theorem mL {H:Hp}:∀ {ts:List Th} {es:List Addr},Paired (EH H) ts es->∃ tas:List Addr,Ats H ts tas/\tas.length=es.length/\∀ (i:Nat) (e:Addr),es[i]?=some e->∃ ta t,tas[i]?=some ta/\ts[i]?=some t/\H e=some (.tup [.ref ta,.int (t.tall:Nat)])
 | _,_,.nil=>⟨[],.nil,rfl,fun i e h=>by simp at h⟩
 | _,_,.cons (a:=t) (b:=e) r h=>by
   refine hid fun ZZ kZ=>?_;obtain ⟨ta,h1,h2⟩:=r;obtain ⟨tas,g1,g2,g3⟩:=mL h;refine kZ ?_;refine ⟨ta::tas,.cons h2 g1,by rw [List.length_cons,List.length_cons,g2],fun i e' he=>?_⟩;cases i with
   | zero =>
     simp at he;subst he;exact ⟨ta,t,rfl,rfl,h1⟩
   | succ i =>
     refine hid fun ZZ kZ=>?_;obtain ⟨ta',t',q1,q2,q3⟩:=g3 i e' (by simpa using he);refine kZ ?_;exact ⟨ta',t',by simpa using q1,by simpa using q2,q3⟩
theorem kj {ts:List Th} {M:Int} (h1:M∈(ts.map fun t:Th=>((t.tall:Nat):Int))++[0]) (h2:∀ a∈(ts.map fun t:Th=>((t.tall:Nat):Int))++[0],a<=M):M=((aC ts:Nat):Int):=by
 by_cases h:ts=[]
 · subst h;have:M=0:=by simpa using h1
   rw [this,aC];rfl
 · have h0:=h2 0 (by simp);obtain ⟨t,ht,he⟩:=kS h;have h3:=h2 _ (List.mem_append_left _ (List.mem_map_of_mem (f:=fun t:Th=>((t.tall:Nat):Int)) ht));rcases List.mem_append.mp h1 with h1 | h1
   · obtain ⟨u,hu,e⟩:=List.mem_map.mp h1;have:=cL hu;omega
   · have h4:M=0:=List.mem_singleton.mp h1;have h5:t.tall=0:=by omega
     cases t with
     | knot n ks=>rw [Th.tall] at h5;omega
     | call a b=>rw [Th.tall] at h5;omega
inductive f7 (vs:List V) (H:Hp) (Q:VK) (_E:XK):Prop
 | mk (ka kl:Addr) (k0:Str×Int) (es:List Addr) (ts:List Th) (zz0:vs=[.ref ka,.ref kl]) (zz1:KAt H k0 ka) (zz2:k0.1≠q) (zz3:H kl=some (.lst (es.map V.ref))) (zz4:Paired (EH H) ts es) (zz5:ts.length<=1000) (zz6:∀ (r:Addr) (H':Hp),L2.Same H H'->EH H' (.knot k0.1 ts) r->Q (.ref r) H'):f7  vs H Q _E
def my:Sp:=f7
theorem cS:aW P w K mg base CX0 1 T.g__law_knot.f T.g__law_knot.d ["kind","kids"] my:=by
 refine T.g__law_knot.F.ok ie (fun vs H Q E h=>?_) (fun cdv A outer s H vs Q E hr h=>?_)
 · obtain ⟨ka,kl,k0,es,ts,rfl,_⟩:=h;rfl
 obtain ⟨ka,kl,k0,es,ts,rfl,eka,hq,ekl,hes,hlen,q⟩:=h
 refine ⟨_,(ag (ar (i:=2) ie.nd rfl (Or.inl rfl) (av bq ai (aG (iy rfl) rfl T.n_max PyProof.Rows.boot_max (ab (av gB (bY (N:=[Str.ofString "kid"]) (js:=[none]) (g:=(aE 0)) (tt:=bK) (te:=(tOp (jj K) (bv 0) (tC (.int 1)))) rfl (cw rfl (by decide +kernel) (by decide +kernel) rfl rfl rfl) (cI (pv 1)) (fun _ _ _ _ _ _=>(aq (i:=0) uX rfl (Or.inl rfl))) (aS rfl) (fun _ _ _ _ _ _=>b6) (fun _ _ _ _ _ _=>(az aA (pv 0) ai (fun _ _=>rfl)))) (aM (ab ai ad))) ad))))
  (aj (aD (aU (ab (av fS (aU (ab (az aA (pv 0) ai (fun _ _=>rfl)) ad)) (ba aN rfl T.n_tuple PyProof.Rows.boot_tuple (ab (bY (N:=[Str.ofString "kid"]) (js:=[none]) (g:=(aE 0)) (tt:=bK) (te:=(tOp (jj K) (bv 0) (tC (.int 0)))) rfl (cw rfl (by decide +kernel) (by decide +kernel) rfl rfl rfl) (cI (pv 1)) (fun _ _ _ _ _ _=>(aq (i:=0) uX rfl (Or.inl rfl))) (aS rfl) (fun _ _ _ _ _ _=>b6) (fun _ _ _ _ _ _=>(az aA (pv 0) ai (fun _ _=>rfl)))) ad))) (ab (pv 2) ad)))))),?_⟩
 try dsimp only [cxK,cxKn]
 have hel:ts.length=es.length:=Paired.length hes;refine ⟨_,rfl,kl,rfl,⟨_,SqL.of ekl⟩,cR ts (fun t:Th=>V.int (t.tall:Nat)) (SqL.of ekl) (by rw [List.length_map];exact hel) (by rw [List.length_map];omega) (fun i x z H2 R W' hx hz s2 hR=>?_) (fun D H1 hD s1 e1=>?_)⟩
 · refine hid fun ZZ kZ=>?_;obtain ⟨e,rfl,he⟩:=bc hx;obtain ⟨t,ht,ta,h1,_⟩:=P2.get' hes he;refine kZ ?_;rw [hz] at ht;cases ht;exact ⟨_,rfl,e,_,1,.int (z.tall:Nat),rfl,rfl,SqT.of (s2 _ _ h1),at1,hR H2 (.refl _)⟩
 refine ⟨am (by show 1<=1000000;decide),fun zl hzl=>?_⟩;have s2:=af hzl (.lst [.int 0]);refine ⟨D,zl,_,_,rfl,rfl,s2 _ _ e1,ac,am (by rw [List.length_map];show ts.length+1<=1000000;omega),fun cl hcl=>?_⟩;have s3:L2.Same H _:=s1.trans (s2.trans (af hcl (.lst (ts.map (fun t:Th=>V.int (t.tall:Nat))++[.int 0]))))
 have e3:(upd (upd H1 zl (.lst [.int 0])) cl (.lst (ts.map (fun t:Th=>V.int (t.tall:Nat))++[.int 0]))) cl=some (.lst (((ts.map fun t:Th=>((t.tall:Nat):Int))++[0]).map V.int)):=by
  rw [ac,List.map_append,List.map_map];rfl
 generalize (upd (upd H1 zl (.lst [.int 0])) cl (.lst (ts.map (fun t:Th=>V.int (t.tall:Nat))++[.int 0])))=H3 at s3 e3 ⊢;refine ⟨cl,(ts.map fun t:Th=>((t.tall:Nat):Int))++[0],rfl,SqL.of e3,by simp,fun M hM hmax=>⟨_,_,rfl,rfl,?_⟩⟩;have hMe:=kj hM hmax;subst hMe;have eka3:=s3 _ _ eka;refine ⟨_,rfl,ka,_,0,.str k0.1,rfl,rfl,SqT.of eka3,at0,am (by show 1<=1000000;decide),fun p1 hp1=>?_⟩;have s4:=s3.trans (af hp1 (.tup [.str k0.1]));have e4:(upd H3 p1 (.tup [.str k0.1])) p1=some (.tup [.str k0.1]):=ac;generalize (upd H3 p1 (.tup [.str k0.1]))=H4 at s4 e4 ⊢;refine hid fun ZZ kZ=>?_;obtain ⟨tas,hats,htl,hget⟩:=mL (P2.mp (fun _ _ e=>EH.mono (Same.kt s4) e) hes);refine kZ ?_;have ekl4:=s4 _ _ ekl;refine ⟨_,rfl,kl,rfl,⟨_,SqL.of ekl4⟩,cR tas V.ref (SqL.of ekl4) (by rw [List.length_map];exact htl) (by rw [List.length_map];omega) (fun i x z H5 R W' hx hz s5 hR=>?_) (fun D5 H5 hD5 s5 e5=>?_)⟩
 · refine hid fun ZZ kZ=>?_;obtain ⟨e,rfl,he⟩:=bc hx;obtain ⟨ta,t,g1,_,g3⟩:=hget i e he;refine kZ ?_;rw [hz] at g1;cases g1;exact ⟨_,rfl,e,_,0,.ref z,rfl,rfl,SqT.of (s5 _ _ g3),at0,hR H5 (.refl _)⟩
 refine ⟨D5,_,rfl,.inl ⟨SqL.of e5,fun tp htp=>?_⟩⟩;have s6:L2.Same H5 (upd H5 tp (.tup (tas.map V.ref))):=af htp _;have e6:(upd H5 tp (.tup (tas.map V.ref))) tp=some (.tup (tas.map V.ref)):=ac;generalize (upd H5 tp (.tup (tas.map V.ref)))=H6 at s6 e6 ⊢;refine pP (s6 _ _ (s5 _ _ e4)) e6 (by rw [List.length_map];show 1+tas.length<=1000000;omega) fun p H7 s7 e7=>?_;refine ⟨_,rfl,am (by show 2<=1000000;decide),fun r hr'=>?_⟩;have s8:=af hr' (.tup [.ref p,.int (1+((aC ts:Nat):Int))]);have s48:=s5.trans (s6.trans (s7.trans s8));refine q r _ (s4.trans s48) ⟨p,?_,?_⟩
 · rw [ac,Th.tall];congr 4;simp;omega
 · rw [At];exact ⟨hq,tas,s8 _ _ e7,hats.mono (Same.kt s48)⟩
theorem rc {c:TT} {σ:St} {H:Hp} {K:Bool->Hp->Prop} (R:Bool->Hp->Prop) (h1:∀ k:Bool->Hp->Prop,(∀ b H',R b H'->k b H')->c σ H k) (h2:∀ b H',R b H'->K b H'):c σ H K:=h1 K h2
theorem jb {K:PySem.W.Frag} {js:List (Option Nat)} {tt:TT} {te:TE} {σ:St} {H:Hp} {kr:Addr} {kas:List Addr} {ks:List (Str×Int)} {fin:Addr->Hp->Prop} (p:Str×Int->Bool) (e:H kr=some (.tup (kas.map V.ref))) (hks:KsAt H ks kas) (hl:ks.length<=1000)
 (htt:∀ (z:Str×Int) (ka:Addr) (H2:Hp) (R:Bool->Hp->Prop),L2.Same H H2->KAt H2 z ka->R (p z) H2->tt ((cσ js σ).set 0 (some (.ref ka))) H2 R)
 (hte:∀ (ka:Addr) (H2:Hp) (R:VK),R (.ref ka) H2->te ((cσ js σ).set 0 (some (.ref ka))) H2 R)
 (q:∀ (D:Addr) (bs:List ((Str×Int)×Addr)) (H':Hp),H D=none->H'=upd H D (.lst (bs.map fun z=>V.ref z.2))->bs.length<=ks.length->(∀ z∈bs,z.1∈ks/\p z.1=true/\KAt H z.1 z.2)->fin D H') :
 ∀ D,H D=none->∃ (n:Nat) (W:Nat->Hp->Prop),W 0 (upd H D (.lst []))/\eU js (aE 0) tt te σ (Itt K kr) D n W fun H'=>fin D H':=by
 have hkl:ks.length=kas.length:=Paired.length hks;have hzl:(ks.zip kas).length=ks.length:=by rw [List.length_zip];omega
 have hza:∀ (i:Nat) (x:V) (z:(Str×Int)×Addr),(kas.map V.ref)[i]?=some x->(ks.zip kas)[i]?=some z->x=.ref z.2:=fun i x z hx hz=>by
  obtain ⟨ka,rfl,hka⟩:=bc hx;obtain ⟨h1,h2⟩:=List.getElem?_zip_eq_some.mp hz;rw [hka] at h2;cases h2;rfl
 refine jd (ks.zip kas) (fun z=>p z.1) (fun z=>.ref z.2) (SqT.of e) (by rw [hzl,List.length_map];exact hkl) (by rw [List.length_map];omega) (fun i x z H2 R hx hz sm r=>?_) (fun i x z H2 R hx hz _ sm r=>?_) (fun D hD=>?_)
 · rw [hza i x z hx hz];have:=(gM hks z (List.mem_of_getElem? hz)).2;exact htt z.1 z.2 H2 R sm (sm _ _ this) r
 · rw [hza i x z hx hz];exact hte z.2 H2 R r
 · refine q D _ _ hD rfl ?_ ?_
   · exact Nat.le_trans (List.length_filter_le _ _) (by omega)
   · intro z hz;obtain ⟨h1,h2⟩:=List.mem_filter.mp hz;obtain ⟨h3,h4⟩:=gM hks z h1;exact ⟨h3,h2,h4⟩
theorem oV {xs:List V} {n:Nat} (h:n<=xs.length):cW xs none (some (n:Int))=xs.take n:=by
 unfold cW;rw [HT.sIx_nat,HT.sIx_none,Nat.min_eq_left h,Nat.sub_zero,List.drop_zero]
theorem lj (n:Nat) (ts:List Th):aw (ts.take n)+aw (ts.drop n)=aw ts:=by rw [<- aZ,List.take_append_drop]
inductive f6 (K:PySem.W.Frag) (vs:List V) (H:Hp) (Q:VK) (_E:XK):Prop
 | mk (cl ia:Addr) (xs:List V) (ias:List Addr) (ins:List (Str×Int)) (zz0:vs=[.ref cl,.ref ia]) (zz1:H cl=some (.lst xs)) (zz2:(∀ v∈xs,∃ z,v=.int z)) (zz3:xs.length<=60) (zz4:H ia=some (.tup (ias.map V.ref))) (zz5:KsAt H ins ias) (zz6:bx ins) (zz7:∀ (t:Th) (r:Addr) (H':Hp),L2.Same H H'->At H' t r->t.Fit ins->t.tall<=79->t.size<=300->Q (.ref r) H'):f6 K vs H Q _E
def mf (K:PySem.W.Frag):Sp:=f6 K
set_option maxHeartbeats 4000000 in
theorem lP:aW P w K mg base CX0 2 T.g__law_tree.f T.g__law_tree.d ["cells","ins"] (mf K):=by
 refine T.g__law_tree.F.ok aY (fun vs H Q E h=>?_) (fun cdv A outer s H vs Q E hr h=>?_)
 · obtain ⟨cl,ia,xs,ias,ins,rfl,_⟩:=h;rfl
 obtain ⟨cl,ia,xs,ias,ins,rfl,ecl,hint,hxl,ei,hki,gi,q⟩:=h
 refine ⟨_,(ag (ar (i:=2) aY.nd rfl (Or.inl rfl) (pcF T.g__law_knot (cS T) hr (ab (pcF T.g__law_leaf (cX T) hr (ab (pv 1) (ab (aG aB rfl T.n_len PySem.boot_len (ab (pv 0) ad)) ad))) (ab (aM ad) ad))))
  (ag (fN (i:=3) (N:=[Str.ofString "kind"]) (js:=[none]) (g:=(aE 0)) (tt:=(lx (tOp (rI0 fun i j=>.bl (decide (j<i))) (tOp (jj K) (bv 0) (tC (.int 1))) (tC (.int 1))))) (te:=(bv 0)) aY.nd rfl (Or.inl rfl) rfl (cw rfl (by decide +kernel) (by decide +kernel) rfl rfl rfl) (du (pv 1)) (fun _ _ _ _ _ _=>(aq (i:=0) sJ rfl (Or.inl rfl))) (aS rfl) (fun _ _ _ _ _ _=>fP (aP df (az aA (pv 0) ai (fun _ _=>rfl)) ai (aR _))) (fun _ _ _ _ _ _=>(pv 0)))
  (ag (ar (i:=4) aY.nd rfl (Or.inl rfl) (aM ad))
  (ag (bB PassesOwn.never rfl (cI (bI fM (pv 0) bZ (bP ai))) (aq (i:=5) aY.nd rfl (Or.inl rfl)) (ag (ar (i:=6) aY.nd rfl (Or.inl rfl) (pcF T.g__law_turn (bJ T) hr (ab (pv 5) (ab (aG aB rfl T.n_len PySem.boot_len (ab (pv 4) ad)) ad))))
  (ag (ar (i:=7) aY.nd rfl (Or.inl rfl) (az aA (pv 1) (av bf (pv 6) (aG aB rfl T.n_len PySem.boot_len (ab (pv 1) ad))) (fun _ _=>rfl)))
  (ag (ar (i:=8) aY.nd rfl (Or.inl rfl) (pcF T.g__law_knot (cS T) hr (ab (pv 7) (ab (av qM (bI fM (pv 4) (bP (aG (iN rfl) rfl T.n_max PyProof.Rows.boot_max (ab ai (ab (av j4 (aG aB rfl T.n_len PySem.boot_len (ab (pv 4) ad)) (az aA (pv 7) ai (fun _ _=>rfl))) ad)))) bZ) (ba ir rfl T.n_int PyProof.Rows.boot_int (ab (ef df (az aA (pv 7) ai (fun _ _=>rfl)) ai (aR _)) ad))) ad))))
  (aj (cM (PW.pt (rW (aP df (az aA (pv 7) ai (fun _ _=>rfl)) (aG aB rfl T.n_len PySem.boot_len (ab (pv 4) ad)) (aR _)) (oE (aP df (az aA (pv 8) ai (fun _ _=>rfl)) ai (aR _))))) (aj (bm (ci PySem.F.plainAttrs_list PySem.F.slot_list_append PySem.F.type_list_append aV (pv 4) (ab (pcF T.g__law_knot (cS T) hr (ab (pcF T.g__law_leaf (cX T) hr (ab (pv 1) (ab (av bC (pv 6) ai) ad))) (ab (aM ad) ad))) ad)))) (aj (ar (i:=4) aY.nd rfl (Or.inl rfl) (av gB (bI fM (pv 4) bZ (bP (av j4 (aG aB rfl T.n_len PySem.boot_len (ab (pv 4) ad)) (az aA (pv 7) ai (fun _ _=>rfl))))) (aM (ab (pv 8) ad)))))))))))
  (ag (fG PassesOwn.never (PW.pt (gD (aP df (aG aB rfl T.n_len PySem.boot_len (ab (pv 4) ad)) ai (aR _)) (g8 (aP df (aG aB rfl T.n_len PySem.boot_len (ab (pv 3) ad)) ai (aR _))))) (ag (ar (i:=7) aY.nd rfl (Or.inl rfl) (az bh (pv 3) (av bf (aG aB rfl T.n_len PySem.boot_len (ab (pv 4) ad)) (aG aB rfl T.n_len PySem.boot_len (ab (pv 3) ad))) (fun _ _=>rfl)))
  (aj (ar (i:=4) aY.nd rfl (Or.inl rfl) (av gB (bI fM (pv 4) (bP (az aA (pv 7) ai (fun _ _=>rfl))) bZ) (aM (ab (pcF T.g__law_knot (cS T) hr (ab (pv 7) (ab (bI fM (av gB (pv 4) (aM (ab (pv 2) (ab (pv 2) ad)))) bZ (bP (az aA (pv 7) ai (fun _ _=>rfl)))) ad))) ad)))))))
  (aj (aD (az aA (az bh (av gB (pv 4) (aM (ab (pv 2) ad))) (aG (iN rfl) rfl T.n_max PyProof.Rows.boot_max (ab ai (ab (av j4 (aG aB rfl T.n_len PySem.boot_len (ab (pv 4) ad)) ai) ad))) (fun _ _=>rfl)) ai (fun _ _=>rfl))))))))),?_⟩
 try dsimp only [cxK,cxKn]
 have hil:ins.length=ias.length:=Paired.length hki;have hi8:=gi.le;have hi1:=gi.ne
 -- a leaf
 have leafFit:∀ k0:Str×Int,k0∈ins->k0.2=0->(Th.knot k0.1 []).Fit ins:=fun k0 hm hz=>by
  rw [Th.Fit,Fits];refine ⟨?_,trivial⟩;have:(k0.1,((([]:List Th).length:Nat):Int))=k0:=Prod.ext rfl hz.symm;rw [this];exact hm
 refine ⟨_,rfl,_,rfl,cl,_,rfl,.inl (SqL.of ecl),ia,ias,ins,_,rfl,ei,hki,gi,fun k0 ka H1 s1 hm0 hz0 eka=>?_⟩;refine ⟨am (by show 0<=1000000;decide),fun el hel=>?_⟩;have s2:=s1.trans (af hel (.lst []));refine ⟨ka,el,k0,[],[],rfl,af hel _ _ _ eka,iW (gi.low k0 hm0).1,ac,.nil,Nat.zero_le _,fun lf H2 s2' hlf=>?_⟩;have s12:L2.Same H H2:=s2.trans s2';have hlfit:=leafFit k0 hm0 hz0;have hlft:(Th.knot k0.1 []).tall<=1:=by rw [Th.tall,aC];exact Nat.le_refl _
 have hlfs:(Th.knot k0.1 []).size<=1:=by rw [Th.size,aw];exact Nat.le_refl _
 generalize Th.knot k0.1 []=lft at hlf hlfit hlft hlfs;clear s2 s2' eka hm0 hz0 s1 hel
 -- the wide ones
 have ei2:=s12 _ _ ei;have hki2:=hki.mono (Same.kt s12);refine ⟨_,rfl,ia,rfl,⟨_,SqT.of ei2⟩,jb (K:=K) (fun k=>decide (1<k.2)) ei2 hki2 (by omega) (fun z ka H2 R sm hz r=>⟨_,rfl,ka,_,1,_,rfl,rfl,SqT.of hz,at1,_,_,rfl,rfl,_,rfl,r⟩) (fun ka H2 R r=>⟨_,rfl,r⟩) (fun wd bs H3 hD e' hb8 hbs=>?_)⟩;have s3:L2.Same H2 H3:=by rw [e'];exact af hD _
 have ewd:H3 wd=some (.lst (bs.map fun z=>V.ref z.2)):=by rw [e'];exact ac
 clear e';refine ⟨am (by show 0<=1000000;decide),fun rw0 hrw0=>?_⟩;have ecl3:=s3 _ _ (s12 _ _ ecl);have s4:L2.Same H3 (upd H3 rw0 (.lst [])):=af hrw0 _;refine ⟨_,rfl,_,rfl,cl,_,rfl,SqL.of (s4 _ _ ecl3),fun cc hcc=>?_⟩;have hrc:rw0≠cc:=fun z=>by rw [<- z,ac] at hcc;cases hcc
 have s5:L2.Same H3 (upd (upd H3 rw0 (.lst [])) cc (.lst (cW xs none (some 96)))):=s4.trans (af hcc _);have er5:(upd (upd H3 rw0 (.lst [])) cc (.lst (cW xs none (some 96)))) rw0=some (.lst []):=by rw [ae hrc,ac]
 have ec5:(upd (upd H3 rw0 (.lst [])) cc (.lst (cW xs none (some 96)))) cc=some (.lst (cW xs none (some 96))):=ac;generalize (upd (upd H3 rw0 (.lst [])) cc (.lst (cW xs none (some 96))))=H5 at s5 er5 ec5 ⊢;have hint2:∀ v∈cW xs none (some 96),∃ z,v=.int z:=fun v hv=>hint v (List.mem_of_mem_drop (List.mem_of_mem_take hv));have hcl:=dD xs none (some 96);generalize cW xs none (some 96)=ys at ec5 hint2 hcl ⊢;have hlf3:=hlf.mono (Same.kt s3);have sb:L2.Same H H3:=s12.trans s3;have ei3:=sb _ _ ei;have hki3:=hki.mono (Same.kt sb)
 have hbs3:∀ z∈bs,z.1∈ins/\1<z.1.2/\KAt H3 z.1 z.2:=fun z hz=>by
  obtain ⟨h1,h2,h3⟩:=hbs z hz;exact ⟨h1,of_decide_eq_true h2,s3 _ _ h3⟩
 clear hbs hlf hki2 ei2 s4;refine ⟨cc,rfl,⟨_,SqL.of ec5⟩,?_⟩
 refine io (K:=K) (a:=cc) (xs:=ys) (fun i σ H6=>Ex7 fun (rw:Addr) (es:List Addr) (ts:List Th) (c5 c6 c7 c8:Option V)=>vz (σ=[some (.ref cl),some (.ref ia),some (.ref lf),some (.ref wd),some (.ref rw),c5,c6,c7,c8]) (L2.Same H3 H6) (H3 rw=none) (rw≠cc) (H6 cc=some (.lst ys)) (H6 rw=some (.lst (es.map V.ref))) (Paired (EH H6) ts es) ((∀ t∈ts,t.Fit ins)) ((∀ t∈ts,t.tall<=20)) (ts.length<=i) (aw ts<=i))
  ⟨rw0,[],[],none,none,none,none,rfl,s5,hrw0,hrc,ec5,er5,.nil,(fun t ht=>by cases ht),(fun t ht=>by cases ht),Nat.le_refl _,Nat.le_refl _⟩ (fun i σ H6 _ ⟨_,_,_,_,_,_,_,_,_,_,_,h,_,_,_,_,_,_⟩=>SqL.of h) ?_ ?_
 · rintro i x σ H6 hx ⟨rw,es,ts,c5,c6,c7,c8,rfl,s6,hrw,hrwc,ecc,erw,hes,hfit,h20,hti,hsz⟩;obtain ⟨c,rfl⟩:=hint2 x (List.mem_of_getElem? hx);have hix:i<ys.length:=(List.getElem?_eq_some_iff.mp hx).1;have hel:ts.length=es.length:=Paired.length hes;have hml:((es.map V.ref).length:Int)=(es.length:Int):=by rw [List.length_map]
   refine ⟨_,rfl,_,rfl,rw,_,rfl,.inl (SqL.of erw),_,_,rfl,by omega,by omega,fun rest r0 r1=>?_⟩;have ei6:=s6 _ _ ei3;have m0:=Int.emod_nonneg rest (show ((ias.map V.ref).length:Int)≠0 by rw [List.length_map];omega);have m1:=Int.emod_lt_of_pos rest (show (0:Int)<((ias.map V.ref).length:Int) by rw [List.length_map];omega);refine hid fun ZZ kZ=>?_;obtain ⟨k0,hk0⟩:∃ k0,ins[(rest%((ias.map V.ref).length:Int)).toNat]?=some k0:=⟨_,List.getElem?_eq_getElem (by rw [List.length_map] at m0 m1 ⊢;omega)⟩;obtain ⟨ka,hka,eka3⟩:=P2.get hki3 hk0;refine kZ ?_;have hm0:=List.mem_of_getElem? hk0;have hnum:=gi.num k0 hm0;have eka:=s6 _ _ eka3;refine ⟨_,rfl,_,rfl,_,rfl,ia,_,rfl,.inr (SqT.of ei6),_,_,rfl,rfl,(by show (0:Int)<((ias.map V.ref).length:Int);rw [List.length_map];omega),ia,_,_,.ref ka,rfl,rfl,SqT.of ei6,bz m0 (by rw [List.getElem?_map,hka];rfl),?_⟩
   -- made
   obtain ⟨lo,hlo,hlo2⟩:∃ lo:Nat,(if ((es.map V.ref).length:Int) - k0.2 > 0 then ((es.map V.ref).length:Int) - k0.2 else 0)=(lo:Int)/\lo=es.length - k0.2.toNat:=by
    refine ⟨es.length - k0.2.toNat,?_,rfl⟩;rw [hml];split <;> omega
   have hcut:cW (es.map V.ref) (some (lo:Int)) none=(es.drop lo).map V.ref:=by rw [iO (by rw [List.length_map];omega),List.map_drop]
   refine ⟨_,rfl,_,rfl,_,rfl,rw,_,rfl,.inl (SqL.of erw),_,rfl,ka,_,1,_,rfl,rfl,SqT.of eka,at1,_,_,rfl,rfl,_,_,rfl,_,rfl,rw,_,rfl,SqL.of erw,fun s1l hs1=>?_⟩;dsimp only;rw [hlo,hcut];have sA:L2.Same H6 (upd H6 s1l (.lst ((es.drop lo).map V.ref))):=af hs1 _;have eA:(upd H6 s1l (.lst ((es.drop lo).map V.ref))) s1l=some (.lst ((es.drop lo).map V.ref)):=ac;generalize (upd H6 s1l (.lst ((es.drop lo).map V.ref)))=H7 at sA eA ⊢
   have hrep:(List.replicate (if decide ((0:Int)<k0.2)=true then (1:Int) else 0).toNat ((es.drop lo).map V.ref)).flatten=(es.drop lo).map V.ref:=by
    by_cases hc:(0:Int)<k0.2
    · rw [decide_eq_true hc];simp
    · have:es.drop lo=[]:=List.drop_eq_nil_of_le (by omega);rw [this];simp
   have hk01:(if decide ((0:Int)<k0.2)=true then (1:Int) else 0)=0∨(if decide ((0:Int)<k0.2)=true then (1:Int) else 0)=1:=by split <;> simp
   refine ⟨_,rfl,ka,_,1,_,rfl,rfl,SqT.of (sA _ _ eka),at1,_,_,rfl,rfl,.inr ⟨_,rfl,s1l,_,_,rfl,rfl,eA,by omega,by omega,am ?_,fun rp hrp=>?_⟩⟩
   · have:((es.drop lo).map V.ref).length<=1000:=by rw [List.length_map,List.length_drop];omega
     rcases hk01 with z | z <;> rw [z] <;> simp <;> omega
   dsimp only;rw [hrep];have sB:=sA.trans (af hrp (.lst ((es.drop lo).map V.ref)));have eB:(upd H7 rp (.lst ((es.drop lo).map V.ref))) rp=some (.lst ((es.drop lo).map V.ref)):=ac;generalize (upd H7 rp (.lst ((es.drop lo).map V.ref)))=H8 at sB eB ⊢;refine ⟨ka,rp,k0,es.drop lo,ts.drop lo,rfl,sB _ _ eka,iW (gi.low k0 hm0).1,eB,P2.mp (fun _ _ e=>EH.mono (Same.kt sB) e) (P2.drop lo hes),by rw [List.length_drop];omega,fun md H9 s9 hmd=>?_⟩;have s69:L2.Same H6 H9:=sB.trans s9;have erw9:=s69 _ _ erw;have ecc9:=s69 _ _ ecc;have eka9:=s69 _ _ eka;have hes9:=P2.mp (fun _ _ e=>EH.mono (Same.kt s69) e) hes;have s39:=s6.trans s69;obtain ⟨mta,emd,hmA⟩:=id hmd;dsimp only [aE];refine ck (fun b H'=>An2 (H9=H') ((b=false->k0.2<=(es.length:Int)/\(Th.knot k0.1 (ts.drop lo)).tall<=20))) (fun k2 hk2=>?_) (fun H' hb=>?_) (fun H' hb=>?_)
   · refine ⟨_,rfl,ka,_,1,_,rfl,rfl,SqT.of eka9,at1,_,rfl,rw,_,rfl,.inl (SqL.of erw9),_,_,rfl,rfl,_,rfl,?_⟩;refine dw (fun c1=>hk2 _ _ ⟨rfl,fun z=>by cases z⟩) (fun c1=>?_);refine ⟨_,rfl,md,_,1,_,rfl,rfl,SqT.of emd,at1,_,_,rfl,rfl,_,rfl,hk2 _ _ ⟨rfl,fun z2=>⟨?_,?_⟩⟩⟩
     · have:¬ ((es.map V.ref).length:Int)<k0.2:=fun z=>c1 (decide_eq_true z);omega
     · have:=of_decide_eq_false z2;omega
   · obtain ⟨rfl,_⟩:=hb;refine ⟨_,rfl,.inl ⟨rfl,_,SqL.of erw9⟩,_,rfl,_,rfl,_,_,rfl,rfl,⟨by decide,by decide⟩,ia,ias,ins,_,rfl,s39 _ _ ei3,hki3.mono (Same.kt s39),gi,fun k1 ka1 H10 s10 hm1 hz1 eka1=>?_⟩;refine ⟨am (by show 0<=1000000;decide),fun el hel'=>?_⟩;refine ⟨ka1,el,k1,[],[],rfl,af hel' _ _ _ eka1,iW (gi.low k1 hm1).1,ac,.nil,Nat.zero_le _,fun l2 H11 s11 hl2=>?_⟩;have sC:L2.Same H9 H11:=s10.trans ((af hel' _).trans s11);refine ⟨rw,_,_,rfl,rfl,sC _ _ erw9,aK (by rw [List.length_map];omega),?_⟩;have kt:KT H11 (upd H11 rw (.lst (es.map V.ref++[.ref l2]))):=bt (sC _ _ erw9);refine ⟨rw,es++[l2],ts++[.knot k1.1 []],_,_,_,_,rfl,aH (s39.trans sC) hrw,hrw,hrwc,by rw [ae hrwc.symm];exact sC _ _ ecc9,by rw [ac,List.map_append];rfl,P2.append (P2.mp (fun _ _ e=>EH.mono ((Same.kt sC).trans kt) e) hes9) (.cons (hl2.mono kt) .nil),fun t ht=>?_,fun t ht=>?_,by rw [List.length_append];show ts.length+1<=i+1;omega,by rw [aZ,aw,aw,Th.size,aw];omega⟩
     rotate_left
     · rcases List.mem_append.mp ht with ht | ht
       · exact h20 t ht
       · rw [List.mem_singleton.mp ht,Th.tall,aC];decide
     rcases List.mem_append.mp ht with ht | ht
     · exact hfit t ht
     · rw [List.mem_singleton.mp ht];exact leafFit k1 hm1 hz1
   · obtain ⟨rfl,hb⟩:=hb;obtain ⟨hle,hmt⟩:=hb rfl;have hn:(((es.map V.ref).length:Int) - k0.2)=(lo:Int):=by rw [hml];omega
     refine ⟨_,rfl,_,rfl,rw,_,rfl,.inl (SqL.of erw9),_,rfl,ka,_,1,_,rfl,rfl,SqT.of eka9,at1,_,_,rfl,rfl,_,rfl,rw,_,rfl,SqL.of erw9,fun s2l hs2=>?_⟩;dsimp only;rw [hn,oV (by rw [List.length_map];omega)];have sC:L2.Same H9 (upd H9 s2l (.lst ((es.map V.ref).take lo))):=af hs2 _;have eC:(upd H9 s2l (.lst ((es.map V.ref).take lo))) s2l=some (.lst ((es.map V.ref).take lo)):=ac;generalize (upd H9 s2l (.lst ((es.map V.ref).take lo)))=H10 at sC eC ⊢;refine ⟨_,rfl,am (by show 1<=1000000;decide),fun m1l hm1l=>?_⟩;have sD:=sC.trans (af hm1l (.lst [.ref md]));refine ⟨s2l,m1l,_,_,rfl,rfl,af hm1l _ _ _ eC,ac,am (by rw [List.length_take,List.length_map];show min lo es.length+1<=1000000;omega),fun nr hnr=>?_⟩;have sE:=sD.trans (af hnr (.lst ((es.map V.ref).take lo++[.ref md])));have hnr9:H9 nr=none:=sD.free hnr;refine ⟨nr,es.take lo++[md],ts.take lo++[.knot k0.1 (ts.drop lo)],_,_,_,_,rfl,s39.trans sE,s39.free hnr9,(fun z=>by rw [z,ecc9] at hnr9;cases hnr9),sE _ _ ecc9,by rw [ac,List.map_append,List.map_take];rfl,P2.append (P2.mp (fun _ _ e=>EH.mono (Same.kt sE) e) (P2.take lo hes9)) (.cons (hmd.mono (Same.kt sE)) .nil),fun t ht=>?_,fun t ht=>?_,by rw [List.length_append,List.length_take];show min lo ts.length+1<=i+1;omega,by rw [aZ,aw,aw,Th.size];have:=lj lo ts;omega⟩
     rotate_left
     · rcases List.mem_append.mp ht with ht | ht
       · exact h20 t (List.mem_of_mem_take ht)
       · rw [List.mem_singleton.mp ht];exact hmt
     rcases List.mem_append.mp ht with ht | ht
     · exact hfit t (List.mem_of_mem_take ht)
     · rw [List.mem_singleton.mp ht,Th.Fit];refine ⟨?_,Fits.of fun u hu=>hfit u (List.mem_of_mem_drop hu)⟩;have:(k0.1,((ts.drop lo).length:Int))=k0:=Prod.ext rfl (by show (((ts.drop lo).length:Nat):Int)=k0.2;rw [List.length_drop];omega);rw [this];exact hm0
 · rintro σ H6 ⟨rw,es,ts,c5,c6,c7,c8,rfl,s6,hrw,hrwc,ecc,erw,hes,hfit,h20,hti,hsz⟩;have hti2:ts.length<=1000:=by omega
   have hel0:ts.length=es.length:=Paired.length hes
   have h80:∀ t∈ts,t.tall+es.length<=80:=fun t ht=>by
    have:=h20 t ht;omega
   have hes60:es.length<=60:=by omega
   have hsz2:aw ts+3 * es.length<=260:=by omega
   clear hti ecc hrwc h20 hel0;refine ⟨fun m σ H6=>Ex7 fun (rw:Addr) (es:List Addr) (ts:List Th) (c5 c6 c7 c8:Option V)=>uJ (σ=[some (.ref cl),some (.ref ia),some (.ref lf),some (.ref wd),some (.ref rw),c5,c6,c7,c8]) (L2.Same H3 H6) (H6 rw=some (.lst (es.map V.ref))) (Paired (EH H6) ts es) ((∀ t∈ts,t.Fit ins)) ((∀ t∈ts,t.tall+es.length<=80)) (es.length<=60) (ts.length<=1000) (aw ts+3 * es.length<=260) (m=es.length),⟨_,rw,es,ts,c5,c6,c7,c8,rfl,s6,erw,hes,hfit,h80,hes60,hti2,hsz2,rfl⟩,?_⟩;clear s6 hrw erw hes hfit hti2 h80 hes60 hsz2 hsz;rintro m σ H6 ⟨rw,es,ts,c5,c6,c7,c8,rfl,s6,erw,hes,hfit,h80,hes60,hti2,hsz2,rfl⟩;have hel:ts.length=es.length:=Paired.length hes;have hml:((es.map V.ref).length:Int)=(es.length:Int):=by rw [List.length_map]
   have ewd6:=s6 _ _ ewd;have hwl:((bs.map fun z=>V.ref z.2).length:Int)=(bs.length:Int):=by rw [List.length_map]
   have hlf:=hlf3;refine rc (fun b H'=>An2 (H6=H') ((b=true->(1:Int)<((es.map V.ref).length:Int)/\(0:Int)<((bs.map fun z=>V.ref z.2).length:Int)))) (fun k2 hk2=>?_) (fun b H' hb=>?_)
   · refine ⟨_,rfl,rw,_,rfl,.inl (SqL.of erw),_,_,rfl,rfl,_,rfl,?_⟩;refine dw (fun c1=>?_) (fun c1=>hk2 _ _ ⟨rfl,fun z=>absurd z Bool.false_ne_true⟩);exact ⟨_,rfl,wd,_,rfl,.inl (SqL.of ewd6),_,_,rfl,rfl,_,rfl,hk2 _ _ ⟨rfl,fun z=>⟨of_decide_eq_true c1,of_decide_eq_true z⟩⟩⟩
   obtain ⟨rfl,hb⟩:=hb;cases b with
   | true =>
     obtain ⟨c1',c2'⟩:=hb rfl;refine qy ?_;refine ⟨fun σ' H'=>∃ m',m'<es.length/\Ex7 fun (rw:Addr) (es:List Addr) (ts:List Th) (c5 c6 c7 c8:Option V)=>uJ (σ'=[some (.ref cl),some (.ref ia),some (.ref lf),some (.ref wd),some (.ref rw),c5,c6,c7,c8]) (L2.Same H3 H') (H' rw=some (.lst (es.map V.ref))) (Paired (EH H') ts es) ((∀ t∈ts,t.Fit ins)) ((∀ t∈ts,t.tall+es.length<=80)) (es.length<=60) (ts.length<=1000) (aw ts+3 * es.length<=260) (m'=es.length),fun σ' H' h=>h,?_⟩;have m0:=Int.emod_nonneg ((es.map V.ref).length:Int) (show ((bs.map fun z=>V.ref z.2).length:Int)≠0 by omega);have m1:=Int.emod_lt_of_pos ((es.map V.ref).length:Int) c2';refine hid fun ZZ kZ=>?_;obtain ⟨z,hz⟩:∃ z,bs[(((es.map V.ref).length:Int)%((bs.map fun z=>V.ref z.2).length:Int)).toNat]?=some z:=⟨_,List.getElem?_eq_getElem (by omega)⟩;obtain ⟨hm0,hk1,eka3⟩:=hbs3 z (List.mem_of_getElem? hz);obtain ⟨k0,ka⟩:=z;refine kZ ?_;dsimp only at hm0 hk1 eka3 hz;have hnum:=gi.num k0 hm0;have eka:=s6 _ _ eka3;refine ⟨_,rfl,_,rfl,rw,_,rfl,.inl (SqL.of erw),_,rfl,wd,_,rfl,.inl (SqL.of ewd6),_,_,rfl,rfl,c2',wd,_,_,.ref ka,rfl,rfl,SqL.of ewd6,bz m0 (by rw [List.getElem?_map,hz];rfl),?_⟩;obtain ⟨kn,hkn⟩:∃ kn:Nat,k0.2=(kn:Int):=⟨k0.2.toNat,by omega⟩
     have hcut:cW (es.map V.ref) (some (kn:Int)) none=(es.drop kn).map V.ref:=by
      by_cases hc:kn<=es.length
      · rw [iO (by rw [List.length_map];exact hc),List.map_drop]
      · have h1:es.drop kn=[]:=List.drop_eq_nil_of_le (by omega);have h2:HT.sIx (es.map V.ref).length 0 (some (kn:Int))=(es.map V.ref).length:=by rw [HT.sIx_nat,List.length_map];omega
        unfold cW;rw [h1,h2,List.drop_length];simp
     refine ⟨_,rfl,_,rfl,ka,_,1,_,rfl,rfl,SqT.of eka,at1,_,rfl,rw,_,rfl,SqL.of erw,fun dl hdl=>?_⟩;dsimp only;rw [hkn,hcut];have sA:L2.Same H6 (upd H6 dl (.lst ((es.drop kn).map V.ref))):=af hdl _;have eA:(upd H6 dl (.lst ((es.drop kn).map V.ref))) dl=some (.lst ((es.drop kn).map V.ref)):=ac;generalize (upd H6 dl (.lst ((es.drop kn).map V.ref)))=H7 at sA eA ⊢;refine ⟨_,rfl,_,rfl,_,rfl,_,rfl,am (by show 2<=1000000;decide),fun ll hll=>?_⟩;have s7B:=af hll (.lst [.ref lf,.ref lf]);have sB:=sA.trans s7B;refine ⟨rw,ll,_,_,rfl,rfl,sB _ _ erw,ac,am (by rw [List.length_map];show es.length+2<=1000000;omega),fun cl2 hcl2=>?_⟩;have s7C:=s7B.trans (af hcl2 (.lst (es.map V.ref++[.ref lf,.ref lf])));have eC:(upd (upd H7 ll (.lst [.ref lf,.ref lf])) cl2 (.lst (es.map V.ref++[.ref lf,.ref lf]))) cl2=some (.lst ((es++[lf,lf]).map V.ref)):=by rw [ac,List.map_append];rfl
     generalize (upd (upd H7 ll (.lst [.ref lf,.ref lf])) cl2 (.lst (es.map V.ref++[.ref lf,.ref lf])))=H8 at s7C eC ⊢;have sC:=sA.trans s7C;refine ⟨_,rfl,ka,_,1,_,rfl,rfl,SqT.of (sC _ _ eka),at1,_,rfl,cl2,_,rfl,SqL.of eC,fun tl htl=>?_⟩;have hesl:(es++[lf,lf]).length=es.length+2:=by rw [List.length_append];rfl
     dsimp only;rw [hkn,oV (by rw [List.length_map];omega),<- List.map_take];have s7D:=s7C.trans (af htl (.lst (((es++[lf,lf]).take kn).map V.ref)));have eD:(upd H8 tl (.lst (((es++[lf,lf]).take kn).map V.ref))) tl=some (.lst (((es++[lf,lf]).take kn).map V.ref)):=ac;generalize (upd H8 tl (.lst (((es++[lf,lf]).take kn).map V.ref)))=H9 at s7D eD ⊢;have sD:=sA.trans s7D;have hlf9:=hlf.mono (Same.kt (s6.trans sD));have hes9:Paired (EH H9) (ts++[lft,lft]) (es++[lf,lf]):=P2.append (P2.mp (fun _ _ e=>EH.mono (Same.kt sD) e) hes) (.cons hlf9 (.cons hlf9 .nil));refine ⟨ka,tl,k0,(es++[lf,lf]).take kn,(ts++[lft,lft]).take kn,rfl,sD _ _ eka,iW (gi.low k0 hm0).1,eD,P2.take kn hes9,by rw [List.length_take,List.length_append];show min kn (ts.length+2)<=1000;omega,fun md H10 s10 hmd=>?_⟩;have sE:=sD.trans s10;have eA10:=s10 _ _ (s7D _ _ eA);refine ⟨am (by show 1<=1000000;decide),fun m1l hm1l=>?_⟩;have sF:=af hm1l (.lst [.ref md]);refine ⟨dl,m1l,_,_,rfl,rfl,sF _ _ eA10,ac,am (by rw [List.length_map,List.length_drop];show es.length - kn+1<=1000000;omega),fun nr hnr=>?_⟩;have sG:=sF.trans (af hnr (.lst ((es.drop kn).map V.ref++[.ref md])));have sH:=sE.trans sG;refine ⟨(es.drop kn++[md]).length,?_,nr,es.drop kn++[md],ts.drop kn++[.knot k0.1 ((ts++[lft,lft]).take kn)],_,_,_,_,rfl,s6.trans sH,by rw [ac,List.map_append];rfl,P2.append (P2.mp (fun _ _ e=>EH.mono (Same.kt sH) e) (P2.drop kn hes)) (.cons (hmd.mono (Same.kt sG)) .nil),fun t ht=>?_,fun t ht=>?_,by rw [List.length_append,List.length_drop];show es.length - kn+1<=60;omega,by rw [List.length_append,List.length_drop];show ts.length - kn+1<=1000;omega,?_,rfl⟩
     · rw [List.length_append,List.length_drop];show es.length - kn+1<es.length;omega
     rotate_left 2
     · have hl2:(es.drop kn++[md]).length=es.length - kn+1:=by rw [List.length_append,List.length_drop];rfl
       rw [hl2,aZ,aw,aw,Th.size,List.take_append,aZ];have h1:=lj kn ts;have h2:=kx (kn - ts.length) [lft,lft];have h3:aw [lft,lft]<=2:=by rw [aw,aw,aw];omega
       omega
     rotate_left
     · have hl2:(es.drop kn++[md]).length=es.length - kn+1:=by rw [List.length_append,List.length_drop];rfl
       rw [hl2];rcases List.mem_append.mp ht with ht | ht
       · have:=h80 t (List.mem_of_mem_drop ht);omega
       · rw [List.mem_singleton.mp ht,Th.tall]
         have h1:aC ((ts++[lft,lft]).take kn)<=80 - es.length:=dR fun u hu=>by
          rcases List.mem_append.mp (List.mem_of_mem_take hu) with hu | hu
          · have:=h80 u hu;omega
          · have:u=lft:=by
             rcases List.mem_cons.mp hu with h | h
             · exact h
             · exact List.mem_singleton.mp h
            rw [this];omega
         omega
     · rcases List.mem_append.mp ht with ht | ht
       · exact hfit t (List.mem_of_mem_drop ht)
       · rw [List.mem_singleton.mp ht,Th.Fit];refine ⟨?_,Fits.of fun u hu=>?_⟩
         · have:(k0.1,(((ts++[lft,lft]).take kn).length:Int))=k0:=Prod.ext rfl (by
            show ((((ts++[lft,lft]).take kn).length:Nat):Int)=k0.2;rw [List.length_take,List.length_append];show ((min kn (ts.length+2):Nat):Int)=k0.2;omega)
           rw [this];exact hm0
         · rcases List.mem_append.mp (List.mem_of_mem_take hu) with hu | hu
           · exact hfit u hu
           · have:u=lft:=by
              rcases List.mem_cons.mp hu with h | h
              · exact h
              · exact List.mem_singleton.mp h
             rw [this];exact hlfit
   | false =>
     refine sS ?_;refine ⟨_,rfl,_,rfl,am (by show 1<=1000000;decide),fun l1 hl1=>?_⟩;have s7:=af hl1 (.lst [.ref lf]);refine ⟨rw,l1,_,_,rfl,rfl,s7 _ _ erw,ac,am (by rw [List.length_map];show es.length+1<=1000000;omega),fun cr hcr=>?_⟩;have s8:=s7.trans (af hcr (.lst (es.map V.ref++[.ref lf])));have erw8:=s8 _ _ erw;refine hid fun ZZ kZ=>?_
     obtain ⟨e0,t0,he0,hE0,hF0,hT0,hZ0⟩:∃ e0 t0,(es++[lf])[es.length - 1]?=some e0/\EH H6 t0 e0/\t0.Fit ins/\t0.tall<=79/\t0.size<=300:=by
      by_cases hz:es.length=0
      · refine ⟨lf,_,?_,hlf.mono (Same.kt s6),hlfit,by omega,by omega⟩;rw [List.length_eq_zero_iff.mp hz];rfl
      · obtain ⟨e0,he0⟩:∃ e0,es[es.length - 1]?=some e0:=⟨_,List.getElem?_eq_getElem (by omega)⟩;obtain ⟨t0,ht0,hE0⟩:=P2.get' hes he0;exact ⟨e0,t0,by rw [List.getElem?_append_left (by omega)];exact he0,hE0,hfit t0 (List.mem_of_getElem? ht0),by have:=h80 t0 (List.mem_of_getElem? ht0);omega,by have:=lB (List.mem_of_getElem? ht0);omega⟩
     obtain ⟨ta0,ee0,hA0⟩:=hE0;refine kZ ?_
     have hix:atI (es.map V.ref++[.ref lf]) (if ((es.map V.ref).length:Int) - 1 > 0 then ((es.map V.ref).length:Int) - 1 else 0)=some (.ref e0):=by
      have hi:(if ((es.map V.ref).length:Int) - 1 > 0 then ((es.map V.ref).length:Int) - 1 else 0)=((es.length - 1:Nat):Int):=by
       rw [List.length_map];split <;> omega
      rw [hi];refine br ?_;have:es.map V.ref++[V.ref lf]=(es++[lf]).map V.ref:=by rw [List.map_append];rfl
      rw [this,List.getElem?_map,he0];rfl
     refine ⟨_,rfl,rw,_,rfl,.inl (SqL.of erw8),_,_,rfl,rfl,_,_,rfl,cr,_,_,.ref e0,rfl,rfl,SqL.of ac,hix,e0,_,0,.ref ta0,rfl,rfl,SqT.of (s8 _ _ ee0),at0,?_⟩;exact q t0 ta0 _ ((sb.trans s6).trans s8) (hA0.mono (Same.kt s8)) hF0 hT0 hZ0
theorem ke {H:Hp}:∀ {ts:List Th} {as:List Addr},ts.length=as.length->(∀ (i:Nat) (a:Addr) (t:Th),as[i]?=some a->ts[i]?=some t->At H t a)->Ats H ts as
 | [],[],_,_=>.nil
 | [],a::as,h,_=>by simp at h
 | t::ts,[],h,_=>by simp at h
 | t::ts,a::as,h,g=>.cons (g 0 a t rfl rfl) (ke (by simpa using h) fun i b u hb hu=>g (i+1) b u (by simpa using hb) (by simpa using hu))
theorem sN (n:Nat) (z:Addr):(List.replicate n [V.ref z]).flatten=(List.replicate n z).map V.ref:=by
 induction n with
 | zero=>rfl
 | succ n ih=>rw [List.replicate_succ,List.flatten_cons,ih,List.replicate_succ];rfl
theorem nq {H:Hp} {R:Th->Prop} {B:Nat}:∀ {ts:List Th} {as:List Addr},Paired (fun (z:Th) a=>∃ t',At H t' a/\R t'/\t'.size<=z.size * B) ts as->∃ ts':List Th,ts'.length=ts.length/\Ats H ts' as/\(∀ t∈ts',R t)/\Paired (fun f t=>Th.size f<=t.size * B) ts' ts
 | _,_,.nil=>⟨[],rfl,.nil,(fun t ht=>by cases ht),.nil⟩
 | _,_,.cons r h=>by
   refine hid fun ZZ kZ=>?_;obtain ⟨t',h1,h2,h3⟩:=r;obtain ⟨ts',g1,g2,g3,g4⟩:=nq h;refine kZ ?_;refine ⟨t'::ts',by rw [List.length_cons,List.length_cons,g1],.cons h1 g2,fun t ht=>?_,.cons h3 g4⟩;rcases List.mem_cons.mp ht with rfl | ht
   · exact h2
   · exact g3 t ht
def cP:Nat->Sp
 | 0=>fun _ _ _ _=>False
 | n+1=>fun vs H Q _=>∃ (pa ka la:Addr) (outs:List (Str×Int)) (S C:Int) (p:Th) (k1:Str×Int) (ln:Str) (many:Int),vs=[.ref pa,.ref ka,.ref la,.int many]/\At H p pa/\p.FitS outs S C/\bx outs/\KAt H k1 ka/\k1∈outs/\0<k1.2/\At H (.knot ln []) la/\(ln,(0:Int))∈outs/\0<=many/\many<=20/\p.tall<=n+1/\∀ (p':Th) (r:Addr) (H':Hp),L2.Same H H'->At H' p' r->p'.FitS outs S C->p'.tall<=p.tall+many.toNat->p'.size<=p.size * (1+3 * many.toNat)->Q (.ref r) H'
set_option maxHeartbeats 2000000 in
theorem eV:∀ n:Nat,aW P w K mg base CX0 n T.g__law_wrapped.f T.g__law_wrapped.d ["pattern","kind","leaf","many"] (cP n)
 | 0=>⟨fun _ _ _ _ h=>h.elim,fun _ _ _ _ _ _ _ _ _ _ _ _ _ h=>h.elim⟩
 | n+1=>by
   have ih:=eV n;refine T.g__law_wrapped.F.ok cm (fun vs H Q E h=>?_) (fun cdv A outer s H vs Q E hr h=>?_)
   · obtain ⟨pa,ka,la,outs,S,C,p,k1,ln,many,rfl,_⟩:=h;rfl
   obtain ⟨pa,ka,la,outs,S,C,p,k1,ln,many,rfl,hA,hF,go,eka,hm1,hk1',hlA,hlm,m0,m1,htl,q⟩:=h
   refine ⟨_,(ag (cM (aP eR (az aA (pv 0) ai (fun _ _=>rfl)) dM (aR _)) (ag (bB PassesOwn.never rfl (bT rfl T.n_range (ab (pv 3) ad)) (aq (i:=4) cm.nd rfl (Or.inl rfl)) (ag (ar (i:=5) cm.nd rfl (Or.inl rfl) (av qM (aM (ab (pv 2) ad)) (az aA (pv 1) ai (fun _ _=>rfl))))
    (ag (iS (pv 0) (rh (pv 5) (av bf (pv 4) (az aA (pv 1) ai (fun _ _=>rfl))) nQ))
    (aj (ar (i:=0) cm.nd rfl (Or.inl rfl) (av fS (aU (ab (az aA (pv 1) ai (fun _ _=>rfl)) ad)) (ba aN rfl T.n_tuple PyProof.Rows.boot_tuple (ab (pv 5) ad))))))))
    (aj (aD (pv 0)))) bN)
    (aj (aD (av fS (aU (ab (az aA (pv 0) ai (fun _ _=>rfl)) ad)) (ba aN rfl T.n_tuple PyProof.Rows.boot_tuple (ab (bY (N:=[Str.ofString "part",Str.ofString "kind",Str.ofString "leaf",Str.ofString "many"]) (js:=[none,some 1,some 2,some 3]) (g:=(aE 0)) (tt:=bK) (te:=(fW (cP _) [] E0 (bM (bv 0) (bM (bv 1) (bM (bv 2) (bM (bv 3) fT)))))) rfl (cw rfl (by decide +kernel) (by decide +kernel) rfl rfl rfl) (du (bI lS (pv 0) (bP ai) bZ)) (fun _ _ _ _ _ _=>(aq (i:=0) wz rfl (Or.inl rfl))) (aS rfl) (fun _ _ _ _ _ _=>b6) (fun _ _ _ _ _ _=>(d9 (ih) (hr.mono (Nat.le_refl _)) rfl T.g__law_wrapped.m T.g__law_wrapped.F.kp T.g__law_wrapped.b .nil dC (ab (pv 0) (ab (pv 1) (ab (pv 2) (ab (pv 3) ad))))))) ad)))))),?_⟩
   try dsimp only [cxK,cxKn]
   have hnum:=go.num k1 hm1;cases p with
   | call sn cn =>
     have hA':=hA;rw [At] at hA';refine ⟨_,rfl,pa,_,0,.str BB.q,rfl,rfl,SqT.of hA',at0,rfl,_,rfl,?_⟩;refine dw (fun _=>?_) (fun c=>absurd (decide_eq_true rfl) c);refine ⟨_,rfl,_,rfl,by omega,by omega,?_⟩
     have hlF:(Th.knot ln []).FitS outs S C:=by
      rw [Th.FitS,FitSs];exact ⟨hlm,trivial⟩
     have hlT:(Th.knot ln []).tall<=1:=by rw [Th.tall,aC];exact Nat.le_refl _
     have hlS:(Th.knot ln []).size<=1:=by rw [Th.size,aw];exact Nat.le_refl _
     generalize Th.knot ln []=lft at hlA hlF hlT hlS
     refine bR (n:=many.toNat) (fun i σ H5=>Ex4 fun (ta:Addr) (t:Th) (c5 c6:Option V)=>An6 (σ=[some (.ref ta),some (.ref ka),some (.ref la),some (.int many),c5,c6]) (L2.Same H H5) (At H5 t ta) (t.FitS outs S C) (t.tall<=1+i) (t.size<=1+3 * i))
      ⟨pa,.call sn cn,none,none,rfl,.refl _,hA,hF,by rw [Th.tall];exact Nat.le_refl _,by rw [Th.size];exact Nat.le_refl _⟩ ?_ ?_
     · rintro i σ H5 hi ⟨ta,t,c5,c6,rfl,s5,hA5,hF5,hT5,hS5⟩;have eka5:H5 ka=some (.tup [.str k1.1,.int k1.2]):=s5 _ _ eka;refine ⟨_,rfl,am (by show 1<=1000000;decide),fun l1 hl1=>?_⟩;have sa:=af hl1 (.lst [.ref la]);have e1:(upd H5 l1 (.lst [.ref la])) l1=some (.lst [.ref la]):=ac;generalize (upd H5 l1 (.lst [.ref la]))=H6 at sa e1 ⊢;refine ⟨_,rfl,ka,_,1,_,rfl,rfl,SqT.of (sa _ _ eka5),at1,l1,_,_,rfl,rfl,e1,by omega,by omega,am (by show 1 * k1.2.toNat<=1000000;omega),fun kl hkl=>?_⟩;dsimp only;rw [sN];obtain ⟨kn,hkn⟩:∃ kn:Nat,k1.2.toNat=kn:=⟨_,rfl⟩;rw [hkn];have s7:L2.Same H6 (upd H6 kl (.lst ((List.replicate kn la).map V.ref))):=af hkl _;have e7:(upd H6 kl (.lst ((List.replicate kn la).map V.ref))) kl=some (.lst ((List.replicate kn la).map V.ref)):=ac;generalize (upd H6 kl (.lst ((List.replicate kn la).map V.ref)))=H7 at s7 e7 ⊢;have eka7:=s7 _ _ (sa _ _ eka5);have y0:=Int.emod_nonneg (0+(i:Int)) (show k1.2≠0 by omega);have y1:=Int.emod_lt_of_pos (0+(i:Int)) hk1';obtain ⟨ix,hix⟩:∃ ix:Nat,(0+(i:Int))%k1.2=(ix:Int):=⟨_,(Int.toNat_of_nonneg y0).symm⟩;refine ⟨_,rfl,_,rfl,_,rfl,_,rfl,ka,_,1,_,rfl,rfl,SqT.of eka7,at1,_,_,rfl,rfl,hk1',kl,_,_,ix,rfl,rfl,e7,?_,?_⟩
       · rw [hix];unfold ixN;rw [if_pos (by omega),if_pos (by rw [List.length_map,List.length_replicate];omega)];simp
       have e8:(upd H7 kl (.lst (((List.replicate kn la).map V.ref).set ix (.ref ta)))) kl=some (.lst (((List.replicate kn la).set ix ta).map V.ref)):=by rw [ac,List.map_set]
       have kt8:KT H7 (upd H7 kl (.lst (((List.replicate kn la).map V.ref).set ix (.ref ta)))):=bt e7;have hkl5:H5 kl=none:=sa.free hkl;have s8:L2.Same H5 (upd H7 kl (.lst (((List.replicate kn la).map V.ref).set ix (.ref ta)))):=aH (sa.trans s7) hkl5;generalize (upd H7 kl (.lst (((List.replicate kn la).map V.ref).set ix (.ref ta))))=H8 at e8 kt8 s8 ⊢
       have hats:Ats H8 ((List.replicate kn lft).set ix t) ((List.replicate kn la).set ix ta):=by
        refine ke (by rw [List.length_set,List.length_set,List.length_replicate,List.length_replicate]) fun j a u ha hu=>?_;by_cases hj:ix=j
        · subst hj;rw [List.getElem?_set_self (by rw [List.length_replicate];omega)] at ha hu;cases ha;cases hu;exact hA5.mono (Same.kt s8)
        · rw [List.getElem?_set_ne hj] at ha hu;have h1:=List.eq_of_mem_replicate (List.mem_of_getElem? ha);have h2:=List.eq_of_mem_replicate (List.mem_of_getElem? hu);rw [h1,h2];exact hlA.mono (Same.kt (s5.trans s8))
       refine ⟨_,rfl,ka,_,0,.str k1.1,rfl,rfl,SqT.of (s8 _ _ eka5),at0,am (by show 1<=1000000;decide),fun p1 hp1=>?_⟩;dsimp only;have s9:=af hp1 (.tup [.str k1.1]);have e9:(upd H8 p1 (.tup [.str k1.1])) p1=some (.tup [.str k1.1]):=ac;generalize (upd H8 p1 (.tup [.str k1.1]))=H9 at s9 e9 ⊢;refine ⟨_,rfl,kl,_,rfl,.inl ⟨SqL.of (s9 _ _ e8),fun tp htp=>?_⟩⟩;have s10:=af htp (.tup (((List.replicate kn la).set ix ta).map V.ref));have e10:(upd H9 tp (.tup (((List.replicate kn la).set ix ta).map V.ref))) tp=some (.tup (((List.replicate kn la).set ix ta).map V.ref)):=ac;generalize (upd H9 tp (.tup (((List.replicate kn la).set ix ta).map V.ref)))=H10 at s10 e10 ⊢;refine pP (s10 _ _ e9) e10 (by rw [List.length_map,List.length_set,List.length_replicate];show 1+kn<=1000000;omega) fun p H11 s11 e11=>?_;have s811:=s9.trans (s10.trans s11);refine ⟨p,.knot k1.1 ((List.replicate kn lft).set ix t),_,_,rfl,s5.trans (s8.trans s811),?_,?_,?_,?_⟩
       · rw [At];exact ⟨iW (go.low k1 hm1).1,_,e11,hats.mono (Same.kt s811)⟩
       · rw [Th.FitS];refine ⟨?_,FitSs.of fun u hu=>?_⟩
         · have:(k1.1,(((List.replicate kn lft).set ix t).length:Int))=k1:=Prod.ext rfl (by
            show ((((List.replicate kn lft).set ix t).length:Nat):Int)=k1.2;rw [List.length_set,List.length_replicate];omega)
           rw [this];exact hm1
         · rcases List.mem_or_eq_of_mem_set hu with hu | hu
           · rw [List.eq_of_mem_replicate hu];exact hlF
           · rw [hu];exact hF5
       · rw [Th.tall]
         have:aC ((List.replicate kn lft).set ix t)<=1+i:=dR fun u hu=>by
          rcases List.mem_or_eq_of_mem_set hu with hu | hu
          · rw [List.eq_of_mem_replicate hu];omega
          · rw [hu];exact hT5
         omega
       · rw [Th.size];have h0:(List.replicate kn lft)[ix]?=some lft:=by rw [List.getElem?_replicate,if_pos (by omega)]
         have h1:=li (x:=t) h0;have h2:=ly lft kn;have h3:kn * lft.size<=kn * 1:=Nat.mul_le_mul_left _ hlS;have h4:0<lft.size:=size_pos lft;omega
     · rintro σ H5 ⟨ta,t,c5,c6,rfl,s5,hA5,hF5,hT5,hS5⟩;exact ⟨_,rfl,q t ta H5 s5 hA5 hF5 (by rw [Th.tall];exact hT5) (by rw [Th.size,Nat.one_mul];exact hS5)⟩
   | knot m ts =>
     rw [Th.tall] at htl;have hF':=hF;rw [Th.FitS] at hF'
     have hw:ts.length<=3:=by
      have:=(go.num _ hF'.1).2;have h2:((ts.length:Nat):Int)<=3:=this;omega
     rw [At] at hA;refine hid fun ZZ kZ=>?_;obtain ⟨hmq,tas,ea,hta⟩:=hA;refine kZ ?_;have htal:tas.length=ts.length:=hta.length;refine ⟨_,rfl,pa,_,0,.str m,rfl,rfl,SqT.of ea,at0,rfl,_,rfl,?_⟩;refine dw (fun c=>absurd (of_decide_eq_true c) (fun z=>hmq (V.str.inj z))) (fun _=>?_);refine ⟨_,rfl,pa,_,0,.str m,rfl,rfl,SqT.of ea,at0,am (by show 1<=1000000;decide),fun p1 hp1=>?_⟩;dsimp only;have s1:L2.Same H (upd H p1 (.tup [.str m])):=af hp1 _;have e1:(upd H p1 (.tup [.str m])) p1=some (.tup [.str m]):=ac;generalize (upd H p1 (.tup [.str m]))=H1 at s1 e1 ⊢;refine ⟨_,rfl,1,rfl,pa,_,rfl,SqT.of (s1 _ _ ea),?_,fun p2 hp2=>?_⟩
     · rintro ⟨z,_⟩;rw [List.length_cons,show (1:Int)=((1:Nat):Int) by rfl,HT.sIx_nat] at z;omega
     dsimp only;rw [gQ];have s2:L2.Same H1 (upd H1 p2 (.tup (tas.map V.ref))):=af hp2 _;have e2:(upd H1 p2 (.tup (tas.map V.ref))) p2=some (.tup (tas.map V.ref)):=ac;generalize (upd H1 p2 (.tup (tas.map V.ref)))=H2 at s2 e2 ⊢;have s02:=s1.trans s2;refine ⟨p2,rfl,⟨_,SqT.of e2⟩,jp (F:=fun H (z:Th) a=>∃ t',At H t' a/\t'.FitS outs S C/\t'.tall<=aC ts+many.toNat/\t'.size<=z.size * (1+3 * many.toNat)) (xs:=tas.map V.ref) ts (fun H1 H2 z p kt h=>by obtain ⟨t',h1,h2⟩:=h;exact ⟨t',h1.mono kt,h2⟩) (by rw [List.length_map];omega) (by rw [List.length_map];omega) (fun i Hx sx hi=>⟨_,_,SqT.of (sx _ _ e2),List.getElem?_eq_getElem hi⟩) (fun Hx sx=>⟨_,SqT.of (sx _ _ e2),Nat.le_refl _⟩) (fun i Hx x Hy sx hi hy=>⟨hy.1,hy.2 _ (SqT.of (sx _ _ e2))⟩) (fun i x z Hx R W' hx hzz sx hR=>?_) (fun D H3 as hD s3 eD hpD=>?_)⟩
     · obtain ⟨ua,rfl,hua⟩:=bc hx;obtain ⟨u,hu,atu⟩:=hta.get hua;rw [hzz] at hu;cases hu;have hum:z∈ts:=List.mem_of_getElem? hzz;have htu:=cL hum;have hut:=z.tall_eq;have s0x:=s02.trans sx;cases n with
       | zero=>omega
       | succ n =>
       refine ⟨_,rfl,_,rfl,_,rfl,_,rfl,ua,ka,la,outs,S,C,z,k1,ln,many,rfl,atu.mono (Same.kt s0x),iP hF'.2 z hum,go,s0x _ _ eka,hm1,hk1',hlA.mono (Same.kt s0x),hlm,m0,m1,by omega,fun p' r H4 s4 hr4 hf4 ht4 hz4=>?_⟩;exact hR H4 r s4 ⟨p',hr4,hf4,by omega,hz4⟩
     have hal:ts.length=as.length:=Paired.length hpD;refine hid fun ZZ kZ=>?_;obtain ⟨ts',hl',hts',hok',hzs⟩:=nq (R:=fun t'=>t'.FitS outs S C/\t'.tall<=aC ts+many.toNat) (P2.mp (fun _ _ h=>by obtain ⟨t',h1,h2,h3,h4⟩:=h;exact ⟨t',h1,⟨h2,h3⟩,h4⟩) hpD);refine kZ ?_;refine ⟨D,_,rfl,.inl ⟨SqL.of eD,fun tp htp=>?_⟩⟩;have s4:L2.Same H3 (upd H3 tp (.tup (as.map V.ref))):=af htp _;have e4:(upd H3 tp (.tup (as.map V.ref))) tp=some (.tup (as.map V.ref)):=ac;generalize (upd H3 tp (.tup (as.map V.ref)))=H4 at s4 e4 ⊢;refine pP (s4 _ _ (s3 _ _ (s2 _ _ e1))) e4 (by rw [List.length_map];show 1+as.length<=1000000;omega) fun p H5 s5 e5=>?_;refine q (.knot m ts') p H5 (s02.trans (s3.trans (s4.trans s5))) ?_ ?_ ?_ ?_
     · rw [At];exact ⟨hmq,as,e5,hts'.mono (Same.kt (s4.trans s5))⟩
     · rw [Th.FitS,hl'];exact ⟨hF'.1,FitSs.of fun t ht=>(hok' t ht).1⟩
     · rw [Th.tall,Th.tall];have:=dR fun t ht=>(hok' t ht).2;omega
     · rw [Th.size,Th.size,Nat.add_mul];have:=nH hzs;omega
theorem lI {α:Type} {H:Hp} {R:α->Th->Prop}:∀ {zs:List α} {as:List Addr},Paired (fun z a=>∃ t',At H t' a/\R z t') zs as->∃ ts':List Th,ts'.length=zs.length/\Ats H ts' as/\∀ (i:Nat) (z:α) (t:Th),zs[i]?=some z->ts'[i]?=some t->R z t
 | _,_,.nil=>⟨[],rfl,.nil,fun i z t h=>by simp at h⟩
 | _,_,.cons r h=>by
   refine hid fun ZZ kZ=>?_;obtain ⟨t',h1,h2⟩:=r;obtain ⟨ts',g1,g2,g3⟩:=lI h;refine kZ ?_;refine ⟨t'::ts',by rw [List.length_cons,List.length_cons,g1],.cons h1 g2,fun i z t hz ht=>?_⟩;cases i with
   | zero =>
     simp at hz ht;subst hz;subst ht;exact h2
   | succ i=>exact g3 i z t (by simpa using hz) (by simpa using ht)
theorem sj {ins outs:List (Str×Int)} {S:Int} {d d':Nat} {head:Th} {rows:List (List Th)} (h:cN ins outs S d head rows) (hd:d<=d'):cN ins outs S d' head rows:=by
 refine ⟨h.len,fun row hr=>⟨(h.row row hr).len,fun j t k h1 h2=>?_⟩,h.hdf,h.hdt⟩;have:=(h.row row hr).fit j t k h1 h2;exact ⟨this.1,by omega⟩
inductive dY (K:PySem.W.Frag) (vs:List V) (H:Hp) (Q:VK) (_E:XK):Prop
 | mk (a:Addr) (ns:List Int) (most deep:Int) (zz0:vs=[.ref a,.int most,.int deep]) (zz1:SqL K H a (ns.map V.int)) (zz2:ns.length<=63) (zz3:0<=most) (zz4:most<=100) (zz5:0<=deep) (zz6:deep<4) (zz7:∀ (r b ta:Addr) (ins outs:List (Str×Int)) (head:Th) (rows:List (List Th)) (S:Int) (t:Th) (H':Hp),L2.Same H H'->H' r=some (.tup [.ref b,.ref ta])->Bk H' ins outs head rows b->bx ins->bx outs->cN ins outs S (deep.toNat+9) head rows->S<=100->(∀ row∈rows,∀ p∈row,p.size<=10000)->head.size<=10000->At H' t ta->t.Fit ins->t.tall<=79->t.size<=300->Q (.ref r) H'):dY K vs H Q _E
def jf (K:PySem.W.Frag):Sp:=dY K
set_option maxHeartbeats 4000000 in
theorem ji:aW P w K mg base CX0 10 T.g__law_setting.f T.g__law_setting.d ["script","most","deep"] (jf K):=by
 refine T.g__law_setting.F.ok aL (fun vs H Q E h=>?_) (fun cdv A outer s H vs Q E hr h=>?_)
 · obtain ⟨a,ns,most,deep,rfl,_⟩:=h;rfl
 obtain ⟨a,ns,most,deep,rfl,hS,hns,m0,m1,d0,d1,q⟩:=h
 refine ⟨_,(ag (ar (i:=3) aL.nd rfl (Or.inl rfl) (pcF T.g__law_kinds (gj T) hr (ab (pcF T.g__law_cell (cT T) hr (ab (pv 0) (ab ai ad))) (ab dM ad))))
  (ag (ar (i:=4) aL.nd rfl (Or.inl rfl) (pcF T.g__law_kinds (gj T) hr (ab (pcF T.g__law_cell (cT T) hr (ab (pv 0) (ab ai ad))) (ab (az bh (aM (ab dM (ab dM ad))) (av bf (av bC (pcF T.g__law_cell (cT T) hr (ab (pv 0) (ab ai ad))) ai) ai) (fun _ _=>rfl)) ad))))
  (ag (ar (i:=5) aL.nd rfl (Or.inl rfl) (pcF T.g__law_cell (cT T) hr (ab (pv 0) (ab ai ad))))
  (ag (ar (i:=6) aL.nd rfl (Or.inl rfl) (pcF T.g__law_book (lW T) hr (ab (pv 5) (ab (pv 3) (ab (pv 4) (ab (av bf (av bC (pv 5) ai) (av bq (pv 1) ai)) (ab (pv 2) ad)))))))
  (ag (ar (i:=7) aL.nd rfl (Or.inr rfl) (pcF T.g__law_turn (bJ T) hr (ab (pv 5) (ab ai ad))))
  (ag (fN (i:=8) (N:=[Str.ofString "kind"]) (js:=[none]) (g:=(aE 0)) (tt:=(lx (tOp (rI0 fun i j=>.bl (decide (j<i))) (tOp (jj K) (bv 0) (tC (.int 1))) (tC (.int 0))))) (te:=(bv 0)) aL.nd rfl (Or.inl rfl) rfl (cw rfl (by decide +kernel) (by decide +kernel) rfl rfl rfl) (du (pv 4)) (fun _ _ _ _ _ _=>(aq (i:=0) sJ rfl (Or.inl rfl))) (aS rfl) (fun _ _ _ _ _ _=>fP (aP df (az aA (pv 0) ai (fun _ _=>rfl)) ai (aR _))) (fun _ _ _ _ _ _=>(pv 0)))
  (ag (cM (PW.pt (gD (aP eR (av bf (pv 7) ai) ai (aR _)) (g8 (aP df (aG aB rfl T.n_len PySem.boot_len (ab (pv 8) ad)) ai (aR _))))) (ag (ar (i:=9) aL.nd rfl (Or.inr rfl) (aU (ab (az aA (pcF T.g__law_leaf (cX T) hr (ab (pv 4) (ab (av bC (pv 7) ai) ad))) ai (fun _ _=>rfl)) ad)))
  (ag (ar (i:=10) aL.nd rfl (Or.inr rfl) (az bh (pv 8) (av bf (av bC (pv 7) ai) (aG aB rfl T.n_len PySem.boot_len (ab (pv 8) ad))) (fun _ _=>rfl)))
  (ag (ar (i:=11) aL.nd rfl (Or.inl rfl) (aM ad))
  (ag (bB PassesOwn.never rfl (du (az aA (pv 6) ai (fun _ _=>rfl))) (aq (i:=12) aL.nd rfl (Or.inl rfl)) (aj (bm (ci PySem.F.plainAttrs_list PySem.F.slot_list_append PySem.F.type_list_append aV (pv 11) (ab (ba aN rfl T.n_tuple PyProof.Rows.boot_tuple (ab (bY (N:=[Str.ofString "pattern",Str.ofString "kind",Str.ofString "leaf",Str.ofString "rest"]) (js:=[none,some 10,some 9,some 7]) (g:=(aE 0)) (tt:=bK) (te:=(fW (cP _) [] E0 (bM (bv 0) (bM (bv 1) (bM (bv 2) (bM (tOp (rI0 fun i j=>.int (i+j)) (tC (.int 1)) (tOp (rI (fun _ j=>0<j) fun i j=>.int (i%j)) (tOp (rI vD fun i j=>.int (i / j)) (bv 3) (tC (.int 7))) (tC (.int 9)))) fT)))))) rfl (cw rfl (by decide +kernel) (by decide +kernel) rfl rfl rfl) (du (pv 12)) (fun _ _ _ _ _ _=>(aq (i:=0) vM rfl (Or.inl rfl))) (aS rfl) (fun _ _ _ _ _ _=>b6) (fun _ _ _ _ _ _=>(pcF T.g__law_wrapped (eV T 5) hr (ab (pv 0) (ab (pv 1) (ab (pv 2) (ab (av bq ai (av bf (av bC (pv 3) ai) ai)) ad))))))) ad)) ad)))))
  (aj (ar (i:=6) aL.nd rfl (Or.inl rfl) (aU (ab (pv 3) (ab (pv 4) (ab (az aA (pv 6) ai (fun _ _=>rfl)) (ab (ba aN rfl T.n_tuple PyProof.Rows.boot_tuple (ab (pv 11) ad)) ad))))))))))) bN)
  (aj (aD (aU (ab (pv 6) (ab (pcF T.g__law_tree (lP T) hr (ab (bI fM (pv 0) (bP ai) bZ) (ab (pv 3) ad))) ad)))))))))))),?_⟩
 try dsimp only [cxK,cxKn]
 refine ⟨_,rfl,a,ns,0,rfl,hS,by decide,fun c=>⟨c,_,rfl,oY,fun ia ias ins H1 s1 ei hki gi=>?_⟩⟩;refine ⟨_,rfl,a,ns,1,rfl,s1.seq hS,by decide,fun c1=>?_⟩;refine ⟨am (by show 2<=1000000;decide),fun ll hll=>?_⟩;have sl:=af hll (.lst [.str (Str.ofString "npwz"),.str (Str.ofString "bdhk")]);refine ⟨_,rfl,a,ns,1,rfl,(s1.trans sl).seq hS,by decide,fun c2=>?_⟩
 obtain ⟨lt,hlt,hpk⟩:∃ lt,atI [V.str (Str.ofString "npwz"),V.str (Str.ofString "bdhk")] (c2 / 3%2)=some (.str lt)/\nF lt:=by
  have z0:=Int.emod_nonneg (c2 / 3) (show (2:Int)≠0 by decide);have z1:=Int.emod_lt_of_pos (c2 / 3) (show (0:Int)<2 by decide);rcases (by omega:c2 / 3%2=0∨c2 / 3%2=1) with z | z <;> rw [z]
  · exact ⟨_,rfl,sy⟩
  · exact ⟨_,rfl,oY⟩
 refine ⟨_,_,rfl,rfl,⟨by decide,by decide⟩,_,_,rfl,rfl,(by show (0:Int)<2;decide),ll,_,_,.str lt,rfl,rfl,SqL.of ac,hlt,?_⟩;refine ⟨c1,lt,rfl,hpk,fun oa oas outs H2 s2 eo hko go=>?_⟩;have s12:L2.Same H1 H2:=sl.trans s2;have sH2:=s1.trans s12;refine ⟨_,rfl,a,ns,2,rfl,sH2.seq hS,by decide,fun cell=>?_⟩;have z0:=Int.emod_nonneg (cell / 7) (show (most+1)≠0 by omega);have z1:=Int.emod_lt_of_pos (cell / 7) (show (0:Int)<most+1 by omega);refine ⟨_,rfl,_,rfl,_,rfl,_,rfl,_,_,rfl,rfl,⟨by decide,by decide⟩,_,rfl,_,_,rfl,rfl,_,_,rfl,rfl,(by show (0:Int)<most+1;omega),_,rfl,cell,ia,ias,ins,oa,oas,outs,_,deep,rfl,s12 _ _ ei,hki.mono (Same.kt s12),gi,eo,hko,go,z0,by omega,d0,by omega,fun r ha ra ras head rows H3 s3 b3 bo=>?_⟩;have sH3:=sH2.trans s3
 have hrz:∀ row∈rows,∀ p∈row,p.size<=50:=fun row hr p hp=>by
  obtain ⟨j,hj⟩:=List.mem_iff_getElem?.mp hp;have rok:=bo.row row hr;have hjl:=(List.getElem?_eq_some_iff.mp hj).1;obtain ⟨k,hk⟩:∃ k,ins[j]?=some k:=⟨_,List.getElem?_eq_getElem (by rw [<- rok.len];exact hjl)⟩;obtain ⟨h1,h2⟩:=rok.fit j p k hj hk;have h3:=(fO go p h1).1;have h4:3 ^ p.tall<=3 ^ 4:=Nat.pow_le_pow_right (by decide) (by omega);have h5:3 ^ 4=81:=rfl;omega
 have hhz:head.size<=10000:=by
  have h3:=(fO go head bo.hdf).1;have h2:=bo.hdt;have h4:3 ^ head.tall<=3 ^ 4:=Nat.pow_le_pow_right (by decide) (by omega);have h5:3 ^ 4=81:=rfl;omega
 have s13:=s12.trans s3;have ei3:=s13 _ _ ei;have hki3:=hki.mono (Same.kt s13);have eo3:=s3 _ _ eo;have hko3:=hko.mono (Same.kt s3);have hSl:cell / 7%(most+1)<=100:=by omega
 generalize cell / 7%(most+1)=S at bo hSl;refine ⟨_,rfl,_,_,rfl,by omega,by omega,fun rest r0 r1=>?_⟩;have ho8:=go.le;refine ⟨_,rfl,oa,rfl,⟨_,SqT.of eo3⟩,jb (K:=K) (fun k=>decide (0<k.2)) eo3 hko3 (by omega) (fun z ka H2 R sm hz r=>⟨_,rfl,ka,_,1,_,rfl,rfl,SqT.of hz,at1,_,_,rfl,rfl,_,rfl,r⟩) (fun ka H2 R r=>⟨_,rfl,r⟩) (fun wd bs H4 hD e' hb8 hbs=>?_)⟩;have s4:L2.Same H3 H4:=by rw [e'];exact af hD _
 have ewd:H4 wd=some (.lst (bs.map fun z=>V.ref z.2)):=by rw [e'];exact ac
 clear e';have hwl:((bs.map fun z=>V.ref z.2).length:Int)=(bs.length:Int):=by rw [List.length_map]
 have b4:=b3.mono (Same.kt s4);dsimp only;refine cf (fun σ' H'=>Ex6 fun (b':Addr) (rows':List (List Th)) (c9 c10 c11 c12:Option V)=>An5 (σ'=[some (.ref a),some (.int most),some (.int deep),some (.ref ia),some (.ref oa),some (.int cell),some (.ref b'),some (.int rest),some (.ref wd),c9,c10,c11,c12]) (L2.Same H4 H') (Bk H' ins outs head rows' b') (cN ins outs S (deep.toNat+9) head rows') ((∀ row∈rows',∀ p∈row,p.size<=10000))) (fun kk hk=>?_) ?_
 · dsimp only;refine ck (fun b H'=>An2 (H4=H') ((b=true->0<bs.length))) (fun k2 hk2=>?_) (fun H' hb=>?_) (fun H' hb=>?_)
   · refine ⟨_,rfl,_,_,rfl,rfl,(by show (0:Int)<5;decide),rfl,_,rfl,?_⟩;refine dw (fun c1=>?_) (fun c1=>hk2 _ _ ⟨rfl,fun z=>absurd z Bool.false_ne_true⟩);refine ⟨_,rfl,wd,_,rfl,.inl (SqL.of ewd),_,_,rfl,rfl,_,rfl,hk2 _ _ ⟨rfl,fun z=>?_⟩⟩;have:=of_decide_eq_true z;omega
   rotate_left
   · obtain ⟨rfl,_⟩:=hb;exact hk _ _ ⟨r,rows,none,none,none,none,rfl,.refl _,⟨_,_,_,_,_,_,_,b4⟩,sj bo (by omega),fun row hr p hp=>by have:=hrz row hr p hp;omega⟩
   obtain ⟨rfl,hb⟩:=hb;have hbl:=hb rfl;have eo4:=s4 _ _ eo3;have hko4:=hko3.mono (Same.kt s4);refine ⟨_,rfl,_,rfl,_,_,rfl,rfl,⟨by decide,by decide⟩,oa,oas,outs,_,rfl,eo4,hko4,go,fun k0 ka0 H5 s5 hm0 hz0 eka0=>?_⟩;refine ⟨ka0,_,0,.str k0.1,rfl,rfl,SqT.of eka0,at0,am (by show 1<=1000000;decide),fun lf hlf=>?_⟩;have s6:=s5.trans (af hlf (.tup [.str k0.1]));have elf:(upd H5 lf (.tup [.str k0.1])) lf=some (.tup [.str k0.1]):=ac;generalize (upd H5 lf (.tup [.str k0.1]))=H6 at s6 elf ⊢
   have hlA:At H6 (.knot k0.1 []) lf:=by
    rw [At];exact ⟨iW (go.low k0 hm0).1,[],elf,.nil⟩
   have hlm:(k0.1,(0:Int))∈outs:=by
    have:(k0.1,(0:Int))=k0:=Prod.ext rfl hz0.symm;rw [this];exact hm0
   have ewd6:=s6 _ _ ewd;have y0:=Int.emod_nonneg (rest / 5) (show ((bs.map fun z=>V.ref z.2).length:Int)≠0 by omega);have y1:=Int.emod_lt_of_pos (rest / 5) (show (0:Int)<((bs.map fun z=>V.ref z.2).length:Int) by omega);refine hid fun ZZ kZ=>?_;obtain ⟨z,hz⟩:∃ z,bs[(rest / 5%((bs.map fun z=>V.ref z.2).length:Int)).toNat]?=some z:=⟨_,List.getElem?_eq_getElem (by omega)⟩;obtain ⟨hm1,hk1,ekaH⟩:=hbs z (List.mem_of_getElem? hz);obtain ⟨k1,ka⟩:=z;refine kZ ?_;dsimp only at hm1 hk1 ekaH hz;have hk1':(0:Int)<k1.2:=of_decide_eq_true hk1;have eka6:KAt H6 k1 ka:=s6 _ _ (s4 _ _ ekaH);refine ⟨_,rfl,_,rfl,_,_,rfl,rfl,⟨by decide,by decide⟩,_,rfl,wd,_,rfl,.inl (SqL.of ewd6),_,_,rfl,rfl,(by show (0:Int)<((bs.map fun z=>V.ref z.2).length:Int);omega),wd,_,_,.ref ka,rfl,rfl,SqL.of ewd6,bz y0 (by rw [List.getElem?_map,hz];rfl),?_⟩;refine ⟨am (by show 0<=1000000;decide),fun ru hru=>?_⟩;have s7:L2.Same H6 (upd H6 ru (.lst [])):=af hru _;have e7:(upd H6 ru (.lst [])) ru=some (.lst (([]:List Addr).map V.ref)):=ac;generalize (upd H6 ru (.lst []))=H7 at s7 e7 ⊢;have s47:=s6.trans s7;have b7:=b4.mono (Same.kt s47);have hrl:rows.length=ras.length:=Paired.length b7.rw;have hrS:=bo.len;have hil:ins.length=ias.length:=Paired.length hki;have hi8:=gi.le;have w0:=Int.emod_nonneg (rest / 7) (show (9:Int)≠0 by decide);have w1:=Int.emod_lt_of_pos (rest / 7) (show (0:Int)<9 by decide);refine ⟨_,rfl,r,_,3,.ref ra,rfl,rfl,SqT.of b7.bk,br (j:=3) rfl,ra,rfl,⟨_,SqT.of b7.rl⟩,?_⟩
   refine sg (K:=K) (a:=ra) (xs:=ras.map V.ref) (fun i σ H8=>Ex3 fun (c12:Option V) (nas:List Addr) (nrows:List (List Th))=>An7 (σ=[some (.ref a),some (.int most),some (.int deep),some (.ref ia),some (.ref oa),some (.int cell),some (.ref r),some (.int rest),some (.ref wd),some (.ref lf),some (.ref ka),some (.ref ru),c12]) (L2.Same H6 H8) (H8 ru=some (.lst (nas.map V.ref))) (Paired (RowAt H8) nrows nas) (nrows.length=i) ((∀ row∈nrows,pi ins outs S (deep.toNat+9) row)) ((∀ row∈nrows,∀ p∈row,p.size<=10000)))
    ⟨none,[],[],rfl,s7,e7,.nil,rfl,(fun row hrow=>by cases hrow),(fun row hrow=>by cases hrow)⟩ (fun i σ H8 _ ⟨_,_,_,_,s8,_,_,_,_,_⟩=>SqT.of (s8 _ _ (b4.mono (Same.kt s6)).rl)) ?_ ?_
   · rintro i x σ H8 hx ⟨c12,nas,nrows,rfl,s8,eru,hnr,hni,hnok,hnz⟩
     have hix:i<ras.length:=by
      have:=(List.getElem?_eq_some_iff.mp hx).1;rw [List.length_map] at this;exact this
     have b8:=b4.mono (Same.kt (s6.trans s8));refine hid fun ZZ kZ=>?_;obtain ⟨rowA,rfl,hrowA⟩:=bc hx;obtain ⟨row,hrow,tas,erow,htas⟩:=P2.get' b8.rw hrowA;refine kZ ?_;have rok:=bo.row row (List.mem_of_getElem? hrow);have htl:=htas.length;have hzl:(row.zip ins).length=row.length:=by rw [List.length_zip,rok.len];exact Nat.min_self _
     have hnl:nrows.length=nas.length:=Paired.length hnr;refine ⟨_,rfl,.inl ⟨rfl,_,SqL.of eru⟩,_,rfl,rowA,rfl,⟨_,SqT.of erow⟩,jp (F:=fun H (z:Th×(Str×Int)) a=>∃ t',At H t' a/\t'.FitS outs S z.2.2/\t'.tall<=deep.toNat+9+1/\t'.size<=10000) (xs:=tas.map V.ref) (row.zip ins) (fun H1 H2 z p kt h=>by obtain ⟨t',h1,h2⟩:=h;exact ⟨t',h1.mono kt,h2⟩) (by rw [List.length_map];omega) (by rw [List.length_map,htl,rok.len];omega) (fun i Hx sx hi=>⟨_,_,SqT.of (sx _ _ erow),List.getElem?_eq_getElem hi⟩) (fun Hx sx=>⟨_,SqT.of (sx _ _ erow),Nat.le_refl _⟩) (fun i Hx x Hy sx hi hy=>⟨hy.1,hy.2 _ (SqT.of (sx _ _ erow))⟩) (fun i x z Hx R W' hx hzz sx hR=>?_) (fun D H9 as hD s9 eD hpD=>?_)⟩
     · obtain ⟨ua,rfl,hua⟩:=bc hx;obtain ⟨u,hu,atu⟩:=htas.get hua;obtain ⟨h1,h2⟩:=List.getElem?_zip_eq_some.mp hzz;rw [hu] at h1;cases h1;obtain ⟨hf1,ht1⟩:=rok.fit i _ _ hu h2;have s6x:=s8.trans sx;refine ⟨_,rfl,_,rfl,_,rfl,_,rfl,_,_,rfl,rfl,⟨by decide,by decide⟩,_,_,rfl,rfl,(by show (0:Int)<9;decide),_,_,rfl,rfl,ua,ka,lf,outs,S,z.2.2,z.1,k1,k0.1,_,rfl,atu.mono (Same.kt sx),hf1,go,s6x _ _ eka6,hm1,hk1',hlA.mono (Same.kt s6x),hlm,by omega,by omega,(by show z.1.tall<=5;omega),fun p' r4 H4' s4' hr4 hf4 ht4 hz4=>?_⟩;have hz5:=hrz row (List.mem_of_getElem? hrow) z.1 (List.mem_of_getElem? hu);have hz6:z.1.size * (1+3 * (1+rest / 7%9).toNat)<=50 * 28:=Nat.mul_le_mul hz5 (by omega);exact hR H4' r4 s4' ⟨p',hr4,hf4,by omega,by omega⟩
     · refine hid fun ZZ kZ=>?_;obtain ⟨ts',hl',hts',hok'⟩:=lI (R:=fun (z:Th×(Str×Int)) t'=>t'.FitS outs S z.2.2/\t'.tall<=deep.toNat+9+1/\t'.size<=10000) hpD;refine kZ ?_;refine ⟨D,_,rfl,.inl ⟨SqL.of eD,fun tp htp=>?_⟩⟩;have s10:L2.Same H9 (upd H9 tp (.tup (as.map V.ref))):=af htp _;have e10:(upd H9 tp (.tup (as.map V.ref))) tp=some (.tup (as.map V.ref)):=ac;generalize (upd H9 tp (.tup (as.map V.ref)))=H10 at s10 e10 ⊢;have s810:=s9.trans s10;have eru10:=s810 _ _ eru;refine ⟨ru,_,_,rfl,rfl,eru10,aK (by rw [List.length_map];omega),?_⟩;have kt:KT H10 (upd H10 ru (.lst (nas.map V.ref++[.ref tp]))):=bt eru10;refine ⟨_,nas++[tp],nrows++[ts'],rfl,aH (s8.trans s810) hru,by rw [ac,List.map_append];rfl,P2.append (P2.mp (fun _ _ e=>e.mono ((Same.kt s810).trans kt)) hnr) (.cons ⟨as,kt _ _ e10,hts'.mono ((Same.kt s10).trans kt)⟩ .nil),by rw [List.length_append,hni];rfl,fun row' hrow'=>?_,fun row' hrow' p' hp'=>?_⟩
       rotate_left
       · rcases List.mem_append.mp hrow' with hrow' | hrow'
         · exact hnz row' hrow' p' hp'
         · rw [List.mem_singleton.mp hrow'] at hp';obtain ⟨j,hj⟩:=List.mem_iff_getElem?.mp hp';have hjl:=(List.getElem?_eq_some_iff.mp hj).1;obtain ⟨zz,hzz⟩:∃ zz,(row.zip ins)[j]?=some zz:=⟨_,List.getElem?_eq_getElem (by omega)⟩;exact (hok' j zz p' hzz hj).2.2
       rcases List.mem_append.mp hrow' with hrow' | hrow'
       · exact hnok row' hrow'
       · rw [List.mem_singleton.mp hrow'];refine ⟨by rw [hl',hzl,rok.len],fun j t k h1 h2=>?_⟩;have hjl:=(List.getElem?_eq_some_iff.mp h2).1;obtain ⟨u,hu⟩:∃ u,row[j]?=some u:=⟨_,List.getElem?_eq_getElem (by rw [rok.len];exact hjl)⟩;have:=hok' j (u,k) t (List.getElem?_zip_eq_some.mpr ⟨hu,h2⟩) h1;exact ⟨this.1,this.2.1⟩
   · rintro σ H8 ⟨c12,nas,nrows,rfl,s8,eru,hnr,hni,hnok,hnz⟩;rw [List.length_map] at hni;have b8:=b4.mono (Same.kt (s6.trans s8));refine ⟨_,rfl,_,rfl,_,rfl,r,_,2,.ref ha,rfl,rfl,SqT.of b8.bk,at2,_,rfl,ru,_,rfl,.inl ⟨SqL.of eru,fun tp htp=>?_⟩⟩;have s9:L2.Same H8 (upd H8 tp (.tup (nas.map V.ref))):=af htp _;have e9:(upd H8 tp (.tup (nas.map V.ref))) tp=some (.tup (nas.map V.ref)):=ac;generalize (upd H8 tp (.tup (nas.map V.ref)))=H9 at s9 e9 ⊢;refine ⟨am (by show 4<=1000000;decide),fun nb hnb=>?_⟩;have s10:=af hnb (.tup [.ref ia,.ref oa,.ref ha,.ref tp]);have s810:=s9.trans s10;have b10:=b8.mono (Same.kt s810);refine hk _ _ ⟨nb,nrows,_,_,_,_,rfl,s6.trans (s8.trans s810),⟨ia,oa,ha,tp,ias,oas,nas,⟨ac,b10.inE,b10.inK,b10.outE,b10.outK,b10.hd,s10 _ _ e9,P2.mp (fun _ _ e=>e.mono (Same.kt s810)) hnr⟩⟩,⟨by omega,hnok,bo.hdf,bo.hdt⟩,hnz⟩
 rintro σ' H5 ⟨b',rows',c9,c10,c11,c12,rfl,s5,bk5,bo5,hz5⟩;have s35:=s4.trans s5;have sH5:=sH3.trans s35;refine ⟨_,rfl,_,rfl,_,rfl,a,_,rfl,sH5.seq hS,fun sc hsc=>?_⟩;have s6:=af hsc (.lst (cW (ns.map V.int) (some 3) none))
 have hcut:(cW (ns.map V.int) (some 3) none).length<=60:=by
  by_cases h3:3<=ns.length
  · rw [show (some (3:Int))=some ((3:Nat):Int) from rfl,iO (by rw [List.length_map];exact h3),List.length_drop,List.length_map];omega
  · have hcl:=dD (ns.map V.int) (some 3) none;rw [List.length_map] at hcl;omega
 refine ⟨_,rfl,sc,ia,_,ias,ins,rfl,ac,(fun v hv=>?_),hcut,s6 _ _ (s35 _ _ ei3),hki3.mono (Same.kt (s35.trans s6)),gi,fun t ta H7 s7 hA hF hT hZ=>?_⟩
 · obtain ⟨z,_,rfl⟩:=List.mem_map.mp (List.mem_of_mem_drop (List.mem_of_mem_take hv));exact ⟨z,rfl⟩
 refine ⟨am (by show 2<=1000000;decide),fun rr hrr=>?_⟩;have s8:=af hrr (.tup [.ref b',.ref ta]);have s58:=s6.trans (s7.trans s8);exact q rr b' ta ins outs head rows' S t _ (sH5.trans s58) ac (bk5.mono (Same.kt s58)) gi go bo5 hSl hz5 hhz (hA.mono (Same.kt s8)) hF hT hZ
def qb (H:Hp) (o:Th) (r:Addr):Prop:=H r=some (.tup [.int (o.size:Nat),.int (o.tall:Nat)])
def eh:Nat->Sp
 | 0=>fun _ _ _ _=>False
 | n+1=>fun vs H Q _=>∃ (pa kl:Addr) (ins outs:List (Str×Int)) (rows:List (List Th)) (S C:Int) (p:Th) (nm:Str) (ks:List Th) (kas:List Addr) (o:Th),vs=[.ref pa,.ref kl]/\At H p pa/\H kl=some (.lst (kas.map V.ref))/\Paired (SzAt H ins rows) ks kas/\Out ins rows p (.knot nm ks) o/\p.tall<=n+1/\p.FitS outs S C/\bx outs/\∀ (r:Addr) (H':Hp),L2.Same H H'->qb H' o r->Q (.ref r) H'
set_option maxHeartbeats 2000000 in
theorem d7:∀ n:Nat,aW P w K mg base CX0 n T.g__law_size.f T.g__law_size.d ["pattern","kids"] (eh n)
 | 0=>⟨fun _ _ _ _ h=>h.elim,fun _ _ _ _ _ _ _ _ _ _ _ _ _ h=>h.elim⟩
 | n+1=>by
   have ih:=d7 n;refine T.g__law_size.F.ok gS (fun vs H Q E h=>?_) (fun cdv A outer s H vs Q E hr h=>?_)
   · obtain ⟨pa,kl,ins,outs,rows,S,C,p,nm,ks,kas,o,rfl,_⟩:=h;rfl
   obtain ⟨pa,kl,ins,outs,rows,S,C,p,nm,ks,kas,o,rfl,hA,ekl,hks,hout,htl,hfit,go,k⟩:=h
   refine ⟨_,(ag (cM (aP eR (az aA (pv 0) ai (fun _ _=>rfl)) dM (aR _)) (aj (aD (az bh (az bh (pv 1) (az aA (pv 0) ai (fun _ _=>rfl)) (fun _ _=>rfl)) (az aA (pv 0) ai (fun _ _=>rfl)) (fun _ _=>rfl)))) bN)
    (ag (fN (i:=2) (N:=[Str.ofString "part",Str.ofString "kids"]) (js:=[none,some 1]) (g:=(aE 0)) (tt:=bK) (te:=(fW (eh _) [] E0 (bM (bv 0) (bM (bv 1) fT)))) gS.nd rfl (Or.inl rfl) rfl (cw rfl (by decide +kernel) (by decide +kernel) rfl rfl rfl) (du (bI lS (pv 0) (bP ai) bZ)) (fun _ _ _ _ _ _=>(aq (i:=0) u5 rfl (Or.inl rfl))) (aS rfl) (fun _ _ _ _ _ _=>b6) (fun _ _ _ _ _ _=>(d9 (ih) (hr.mono (Nat.le_refl _)) rfl T.g__law_size.m T.g__law_size.F.kp T.g__law_size.b .nil dC (ab (pv 0) (ab (pv 1) ad)))))
    (aj (aD (aU (ab (av bq ai (aG (mO rfl) rfl T.n_sum PyProof.Rows.boot_sum (ab (bY (N:=[Str.ofString "size"]) (js:=[none]) (g:=(aE 0)) (tt:=bK) (te:=(tOp (jj K) (bv 0) (tC (.int 0)))) rfl (cw rfl (by decide +kernel) (by decide +kernel) rfl rfl rfl) (cI (pv 2)) (fun _ _ _ _ _ _=>(aq (i:=0) tZ rfl (Or.inl rfl))) (aS rfl) (fun _ _ _ _ _ _=>b6) (fun _ _ _ _ _ _=>(az aA (pv 0) ai (fun _ _=>rfl)))) ad))) (ab (av bq ai (aG (iy rfl) rfl T.n_max PyProof.Rows.boot_max (ab (av gB (bY (N:=[Str.ofString "size"]) (js:=[none]) (g:=(aE 0)) (tt:=bK) (te:=(tOp (jj K) (bv 0) (tC (.int 1)))) rfl (cw rfl (by decide +kernel) (by decide +kernel) rfl rfl rfl) (cI (pv 2)) (fun _ _ _ _ _ _=>(aq (i:=0) tZ rfl (Or.inl rfl))) (aS rfl) (fun _ _ _ _ _ _=>b6) (fun _ _ _ _ _ _=>(az aA (pv 0) ai (fun _ _=>rfl)))) (aM (ab ai ad))) ad))) ad))))))),?_⟩
   try dsimp only [cxK,cxKn]
   cases p with
   | call sn cn =>
     rw [At] at hA;refine hid fun ZZ kZ=>?_;obtain ⟨p',h,st,ho⟩:=hout.unstep;obtain ⟨s0,c0,hkc,_⟩:=id st;obtain ⟨ka,hka,es,ees,_,hes⟩:=P2.get hks hkc;obtain ⟨e,he,ee⟩:=hes sn o (Out.step (qz st) ho);refine kZ ?_;refine ⟨_,rfl,pa,_,0,.str q,rfl,rfl,SqT.of hA,at0,rfl,_,rfl,?_⟩;refine dw (fun _=>?_) (fun c=>absurd (decide_eq_true rfl) c);exact ⟨_,rfl,_,rfl,pa,_,2,.int cn,rfl,rfl,SqT.of hA,at2,kl,_,cn,.ref ka,rfl,rfl,SqL.of ekl,bz c0 (by rw [List.getElem?_map,hka];rfl),_,rfl,pa,_,1,.int sn,rfl,rfl,SqT.of hA,at1,ka,_,sn,.ref e,rfl,rfl,SqL.of ees,bz s0 (by rw [List.getElem?_map,he];rfl),k e H (.refl _) ee⟩
   | knot m ts =>
     refine hid fun ZZ kZ=>?_;obtain ⟨os,rfl,hos⟩:=hout.unknot;have hol:=hos.length;rw [Th.tall] at htl;rw [Th.FitS] at hfit
     have hw:ts.length<=3:=by
      have:=(go.num _ hfit.1).2;have h2:((ts.length:Nat):Int)<=3:=this;omega
     rw [At] at hA;obtain ⟨hmq,tas,ea,hta⟩:=hA;refine kZ ?_;have htal:tas.length=ts.length:=hta.length;refine ⟨_,rfl,pa,_,0,.str m,rfl,rfl,SqT.of ea,at0,rfl,_,rfl,?_⟩;refine dw (fun c=>absurd (of_decide_eq_true c) (fun z=>hmq (V.str.inj z))) (fun _=>?_);refine ⟨_,rfl,1,rfl,pa,_,rfl,SqT.of ea,?_,fun p2 hp2=>?_⟩
     · rintro ⟨z,_⟩;rw [List.length_cons,show (1:Int)=((1:Nat):Int) by rfl,HT.sIx_nat] at z;omega
     dsimp only;rw [gQ];have s1:L2.Same H (upd H p2 (.tup (tas.map V.ref))):=af hp2 _;have e1:(upd H p2 (.tup (tas.map V.ref))) p2=some (.tup (tas.map V.ref)):=ac;generalize (upd H p2 (.tup (tas.map V.ref)))=H1 at s1 e1 ⊢;refine ⟨p2,rfl,⟨_,SqT.of e1⟩,jp (F:=qb) (xs:=tas.map V.ref) os (fun H1 H2 z p kt h=>kt _ _ h) (by rw [List.length_map];omega) (by rw [List.length_map];omega) (fun i Hx sx hi=>⟨_,_,SqT.of (sx _ _ e1),List.getElem?_eq_getElem hi⟩) (fun Hx sx=>⟨_,SqT.of (sx _ _ e1),Nat.le_refl _⟩) (fun i Hx x Hy sx hi hy=>⟨hy.1,hy.2 _ (SqT.of (sx _ _ e1))⟩) (fun i x z Hx R W' hx hzz sx hR=>?_) (fun D H2 as hD s2 eD hpD=>?_)⟩
     · obtain ⟨ua,rfl,hua⟩:=bc hx;obtain ⟨u,hu,atu⟩:=hta.get hua;have hum:u∈ts:=List.mem_of_getElem? hu;have htu:=cL hum;have s1x:=s1.trans sx;cases n with
       | zero =>
         have:=u.tall_eq;omega
       | succ n =>
       refine ⟨_,rfl,_,rfl,ua,kl,ins,outs,rows,S,C,u,nm,ks,kas,z,rfl,atu.mono (Same.kt s1x),s1x _ _ ekl,P2.mp (fun _ _ e=>e.same s1x) hks,hos.get i hu hzz,by omega,iP hfit.2 u hum,go,fun r H3 s3 hr3=>?_⟩;exact hR H3 r s3 hr3
     have hal:os.length=as.length:=Paired.length hpD;have s02:=s1.trans s2;refine ⟨_,rfl,D,rfl,⟨_,SqL.of eD⟩,cR os (fun o:Th=>V.int (o.size:Nat)) (SqL.of eD) (by rw [List.length_map];exact hal) (by rw [List.length_map];omega) (fun i x z Hx R W' hx hz sx hR=>?_) (fun D2 H3 hD2 s3 e3=>?_)⟩
     · obtain ⟨e,rfl,he⟩:=bc hx;obtain ⟨t,ht,h1⟩:=P2.get' hpD he;rw [hz] at ht;cases ht;exact ⟨_,rfl,e,_,0,.int (z.size:Nat),rfl,rfl,SqT.of (sx _ _ h1),at0,hR Hx (.refl _)⟩
     refine ⟨D2,os.map (fun o=>((o.size:Nat):Int)),rfl,SqL.of (by rw [<- rQ];exact e3),⟨_,_,rfl,rfl,?_⟩⟩;rw [lH];have eD3:=s3 _ _ eD;have hpD3:Paired (qb H3) os as:=P2.mp (fun _ _ e=>s3 _ _ e) hpD;refine ⟨_,rfl,D,rfl,⟨_,SqL.of eD3⟩,cR os (fun o:Th=>V.int (o.tall:Nat)) (SqL.of eD3) (by rw [List.length_map];exact hal) (by rw [List.length_map];omega) (fun i x z Hx R W' hx hz sx hR=>?_) (fun D4 H4 hD4 s4 e4=>?_)⟩
     · obtain ⟨e,rfl,he⟩:=bc hx;obtain ⟨t,ht,h1⟩:=P2.get' hpD3 he;rw [hz] at ht;cases ht;exact ⟨_,rfl,e,_,1,.int (z.tall:Nat),rfl,rfl,SqT.of (sx _ _ h1),at1,hR Hx (.refl _)⟩
     refine ⟨am (by show 1<=1000000;decide),fun zl hzl=>?_⟩;have s5:=af hzl (.lst [.int 0]);refine ⟨D4,zl,_,_,rfl,rfl,s5 _ _ e4,ac,am (by rw [List.length_map];show os.length+1<=1000000;omega),fun cl hcl=>?_⟩;have s6:L2.Same H _:=s02.trans (s3.trans (s4.trans (s5.trans (af hcl (.lst (os.map (fun t:Th=>V.int (t.tall:Nat))++[.int 0]))))))
     have e6:(upd (upd H4 zl (.lst [.int 0])) cl (.lst (os.map (fun t:Th=>V.int (t.tall:Nat))++[.int 0]))) cl=some (.lst (((os.map fun t:Th=>((t.tall:Nat):Int))++[0]).map V.int)):=by
      rw [ac,List.map_append,List.map_map];rfl
     generalize (upd (upd H4 zl (.lst [.int 0])) cl (.lst (os.map (fun t:Th=>V.int (t.tall:Nat))++[.int 0])))=H6 at s6 e6 ⊢;refine ⟨cl,(os.map fun t:Th=>((t.tall:Nat):Int))++[0],rfl,SqL.of e6,by simp,fun M hM hmax=>⟨_,_,rfl,rfl,?_⟩⟩;have hMe:=kj hM hmax;subst hMe;refine ⟨am (by show 2<=1000000;decide),fun r hr'=>?_⟩;refine k r _ (s6.trans (af hr' _)) ?_;unfold qb;rw [ac,Th.size,Th.tall];congr 4
     · simp;omega
     · simp;omega
def fX:Nat->Sp
 | 0=>fun _ _ _ _=>False
 | n+1=>fun vs H Q _=>∃ (b ta:Addr) (ins outs:List (Str×Int)) (head:Th) (rows:List (List Th)) (S:Int) (d:Nat) (t:Th),vs=[.ref b,.ref ta]/\Bk H ins outs head rows b/\bx ins/\bx outs/\cN ins outs S d head rows/\d<=18/\S<=1000/\At H t ta/\t.Fit ins/\t.tall<=n+1/\∀ (r:Addr) (H':Hp),L2.Same H H'->H r=none->SzAt H' ins rows t r->Q (.ref r) H'
set_option maxHeartbeats 2000000 in
theorem gg:∀ n:Nat,aW P w K mg base CX0 (21+n) T.g__law_sizes.f T.g__law_sizes.d ["book","tree"] (fX n)
 | 0=>⟨fun _ _ _ _ h=>h.elim,fun _ _ _ _ _ _ _ _ _ _ _ _ _ h=>h.elim⟩
 | n+1=>by
   have ih:=gg n;refine T.g__law_sizes.F.ok dO (fun vs H Q E h=>?_) (fun cdv A outer s H vs Q E hr h=>?_)
   · obtain ⟨b,ta,ins,outs,head,rows,S,d,t,rfl,_⟩:=h;rfl
   obtain ⟨b,ta,ins,outs,head,rows,S,d,t,rfl,hb,gi,go,ok,hd,hS,hA,hfit,htl,k⟩:=h
   refine ⟨_,(ag (ar (i:=2) dO.nd rfl (Or.inr rfl) (bY (N:=[Str.ofString "kind"]) (js:=[none]) (g:=(aE 0)) (tt:=bK) (te:=(tOp (jj K) (bv 0) (tC (.int 0)))) rfl (cw rfl (by decide +kernel) (by decide +kernel) rfl rfl rfl) (du (az aA (pv 0) ai (fun _ _=>rfl))) (fun _ _ _ _ _ _=>(aq (i:=0) sJ rfl (Or.inl rfl))) (aS rfl) (fun _ _ _ _ _ _=>b6) (fun _ _ _ _ _ _=>(az aA (pv 0) ai (fun _ _=>rfl)))))
    (ag (ar (i:=3) dO.nd rfl (Or.inr rfl) (bY (N:=[Str.ofString "kid",Str.ofString "book"]) (js:=[none,some 0]) (g:=(aE 0)) (tt:=bK) (te:=(fW (fX _) [] E0 (bM (bv 1) (bM (bv 0) fT)))) rfl (cw rfl (by decide +kernel) (by decide +kernel) rfl rfl rfl) (du (bI lS (pv 1) (bP ai) bZ)) (fun _ _ _ _ _ _=>(aq (i:=0) u8 rfl (Or.inl rfl))) (aS rfl) (fun _ _ _ _ _ _=>b6) (fun _ _ _ _ _ _=>(d9 (ih) (hr.mono (Nat.le_refl _)) rfl T.g__law_sizes.m T.g__law_sizes.F.kp T.g__law_sizes.b .nil dC (ab (pv 1) (ab (pv 0) ad))))))
    (aj (aD (bY (N:=[Str.ofString "row",Str.ofString "kids",Str.ofString "names",Str.ofString "tree"]) (js:=[none,some 3,some 2,some 1]) (g:=(aE 0)) (tt:=bK) (te:=(fW (eh _) [] E0 (bM (tOp (jj K) (bv 0) (tBM K "list" (ph K) (bv 2) (bM (tOp (jj K) (bv 3) (tC (.int 0))) fT))) (bM (bv 1) fT)))) rfl (cw rfl (by decide +kernel) (by decide +kernel) rfl rfl rfl) (du (az aA (pv 0) ai (fun _ _=>rfl))) (fun _ _ _ _ _ _=>(aq (i:=0) va rfl (Or.inl rfl))) (aS rfl) (fun _ _ _ _ _ _=>b6) (fun _ _ _ _ _ _=>(d9 (d7 T 20) (hr.mono (Nat.le_trans (by decide:20<=21) (Nat.le_add_right 21 n))) rfl T.g__law_size.m T.g__law_size.F.kp T.g__law_size.b .nil dC (ab (az aA (pv 0) (ci PySem.F.plainAttrs_list PySem.F.slot_list_index PySem.F.type_list_index p6 (pv 2) (ab (az aA (pv 3) ai (fun _ _=>rfl)) ad)) (fun _ _=>rfl)) (ab (pv 1) ad))))))))),?_⟩
   try dsimp only [cxK,cxKn]
   refine hid fun ZZ kZ=>?_;obtain ⟨ia,oa,hda,ra,ias,oas,ras,bk⟩:=id hb;refine kZ ?_;have hil:ins.length=ias.length:=Paired.length bk.inK;have hi8:=gi.le;have hrl:rows.length=ras.length:=Paired.length bk.rw;have hrS:=ok.len;cases t with
   | call a b=>rw [Th.Fit] at hfit;exact hfit.elim
   | knot m hs =>
   have hfit0:=hfit;rw [Th.Fit] at hfit;refine hid fun ZZ kZ=>?_;obtain ⟨j,hj⟩:=List.mem_iff_getElem?.mp hfit.1;rw [At] at hA;obtain ⟨hmq,has,ea,hha⟩:=hA;refine kZ ?_;have hhl:has.length=hs.length:=hha.length
   have hw:hs.length<=3:=by
    have:=(gi.num _ hfit.1).2;have h2:((hs.length:Nat):Int)<=3:=this;omega
   rw [Th.tall] at htl
   -- names
   refine ⟨_,rfl,b,_,0,.ref ia,rfl,rfl,SqT.of bk.bk,at0,ia,rfl,⟨_,SqT.of bk.inE⟩,mR ins (fun k=>V.str k.1) (SqT.of bk.inE) (by rw [List.length_map];exact hil) (by rw [List.length_map];omega) (fun i x z H2 R W' hx hz s2 hR=>?_) (fun D H1 hD s1 e1=>?_)⟩
   · obtain ⟨ka,rfl,hka⟩:=bc hx;obtain ⟨z',hz',ez⟩:=P2.get' bk.inK hka;rw [hz] at hz';cases hz';exact ⟨_,rfl,ka,_,0,.str z.1,rfl,rfl,SqT.of (s2 _ _ ez),at0,hR H2 (.refl _)⟩
   have en:ins.map (fun k=>V.str k.1)=(ins.map (·.1)).map V.str:=by rw [List.map_map];rfl
   rw [en] at e1
   -- kids
   refine ⟨_,rfl,1,rfl,ta,_,rfl,SqT.of (s1 _ _ ea),?_,fun p2 hp2=>?_⟩
   · rintro ⟨z,_⟩;rw [List.length_cons,show (1:Int)=((1:Nat):Int) by rfl,HT.sIx_nat] at z;omega
   dsimp only;rw [gQ];have s2:L2.Same H1 (upd H1 p2 (.tup (has.map V.ref))):=af hp2 _;have e2:(upd H1 p2 (.tup (has.map V.ref))) p2=some (.tup (has.map V.ref)):=ac;generalize (upd H1 p2 (.tup (has.map V.ref)))=H2 at s2 e2 ⊢;have s02:=s1.trans s2;refine ⟨p2,rfl,⟨_,SqT.of e2⟩,tH (F:=fun H h a=>SzAt H ins rows h a) (xs:=has.map V.ref) hs (fun H1 H2 z p kt hk h=>h.keep kt hk) (by rw [List.length_map];omega) (by rw [List.length_map];omega) (fun i Hx sx hi=>⟨_,_,SqT.of (sx _ _ e2),List.getElem?_eq_getElem hi⟩) (fun Hx sx=>⟨_,SqT.of (sx _ _ e2),Nat.le_refl _⟩) (fun i Hx x Hy sx hi hy=>⟨hy.1,hy.2 _ (SqT.of (sx _ _ e2))⟩) (fun i x z Hx R W' hx hzz sx hR=>?_) (fun kd H3 kas hkd s3 ekd hkas=>?_)⟩
   · obtain ⟨ua,rfl,hua⟩:=bc hx;obtain ⟨u,hu,atu⟩:=hha.get hua;rw [hzz] at hu;cases hu;have hum:z∈hs:=List.mem_of_getElem? hzz;have htu:=cL hum;have s0x:=s02.trans sx;cases n with
     | zero =>
       have:=z.tall_eq;omega
     | succ n =>
     refine ⟨_,rfl,_,rfl,b,ua,ins,outs,head,rows,S,d,z,rfl,hb.mono (Same.kt s0x),gi,go,ok,hd,hS,atu.mono (Same.kt s0x),fE hfit.2 z hum,by omega,fun r H4 s4 nr hr4=>?_⟩;exact hR H4 r s4 nr hr4
   have s03:=s02.trans s3
   -- the outcomes
   obtain ⟨os,hol,hos⟩:∃ os:List Th,os.length=rows.length/\∀ (i:Nat) (row:List Th) (o:Th),rows[i]?=some row->os[i]?=some o->∃ p,row[j]?=some p/\Out ins rows p (.knot m hs) o/\p.FitS outs S (hs.length:Int)/\p.tall<=d+1:=by
    refine o3 rows fun row hrow=>?_;have rok:=ok.row row hrow;have hjl:=(List.getElem?_eq_some_iff.mp hj).1;obtain ⟨p,hp⟩:∃ p,row[j]?=some p:=⟨_,List.getElem?_eq_getElem (by rw [rok.len];exact hjl)⟩;obtain ⟨h1,h2⟩:=rok.fit j p _ hp hj;obtain ⟨o,g1,_⟩:=oP ok _ m hs (Nat.le_refl _) (fE hfit.2) _ p (Nat.le_refl _) h1;exact ⟨o,p,hp,g1,h1,h2⟩
   have bk3:=bk.mono (Same.kt s03);refine ⟨_,rfl,b,_,3,.ref ra,rfl,rfl,SqT.of bk3.bk,br (j:=3) rfl,ra,rfl,⟨_,SqT.of bk3.rl⟩,jp (F:=qb) (xs:=ras.map V.ref) os (fun H1 H2 z p kt h=>kt _ _ h) (by rw [List.length_map];omega) (by rw [List.length_map];omega) (fun i Hx sx hi=>⟨_,_,SqT.of (sx _ _ bk3.rl),List.getElem?_eq_getElem hi⟩) (fun Hx sx=>⟨_,SqT.of (sx _ _ bk3.rl),Nat.le_refl _⟩) (fun i Hx x Hy sx hi hy=>⟨hy.1,hy.2 _ (SqT.of (sx _ _ bk3.rl))⟩) (fun i x z Hx R W' hx hzz sx hR=>?_) (fun D5 H5 as hD5 s5 e5 hp5=>?_)⟩
   · refine hid fun ZZ kZ=>?_;obtain ⟨rowA,rfl,hrowA⟩:=bc hx;obtain ⟨row,hrow,tas,erow,htas⟩:=P2.get' bk3.rw hrowA;obtain ⟨p,hp,hout,hpf,hpt⟩:=hos i row z hrow hzz;have hl2:=htas.length;have hkl2:=(List.getElem?_eq_some_iff.mp hp).1;obtain ⟨pa1,hpa1⟩:∃ a,tas[j]?=some a:=⟨_,List.getElem?_eq_getElem (by omega)⟩;obtain ⟨t2,ht2,hat2⟩:=htas.get hpa1;refine kZ ?_;rw [hp] at ht2;cases ht2;have s0x:=s03.trans sx;have e1x:=sx _ _ (s3 _ _ (s2 _ _ e1));refine ⟨_,rfl,_,rfl,.inl ⟨rfl,_,SqL.of e1x⟩,_,rfl,ta,_,0,.str m,rfl,rfl,SqT.of (s0x _ _ ea),at0,?_⟩;refine ⟨D,ins.map (·.1),m,j,rfl,rfl,SqL.of e1x,by rw [List.getElem?_map,hj];rfl,fun i hi hz=>?_,by rw [List.length_map];omega,?_⟩
     · rw [List.getElem?_map] at hz;obtain ⟨k',hk',e⟩:=Option.map_eq_some_iff.mp hz;have:=gi.nd i j k' _ hk' hj e;omega
     refine ⟨rowA,_,(j:Int),.ref pa1,rfl,rfl,SqT.of (sx _ _ erow),br (by rw [List.getElem?_map,hpa1];rfl),?_⟩;refine ⟨_,rfl,pa1,kd,ins,outs,rows,S,(hs.length:Int),p,m,hs,kas,z,rfl,hat2.mono (Same.kt sx),sx _ _ ekd,P2.mp (fun _ _ e=>e.same sx) hkas,hout,(by show p.tall<=20;omega),hpf,go,fun r H6 s6 hr6=>?_⟩;exact hR H6 r s6 hr6
   · have hal:=Paired.length hp5;refine k D5 H5 (s03.trans s5) (s03.free hD5) ⟨as,e5,by omega,fun st o ho=>?_⟩;refine hid fun ZZ kZ=>?_;obtain ⟨p,h,stp,ho'⟩:=ho.unstep;obtain ⟨s0,_,hh0,m',hs',c',j',row,rfl,hj',hrow,hp⟩:=stp;refine kZ ?_;simp at hh0;obtain ⟨rfl,rfl⟩:=hh0;have hjj:=gi.nd j j' _ _ hj hj' rfl;subst hjj;have hlt:=(List.getElem?_eq_some_iff.mp hrow).1;refine hid fun ZZ kZ=>?_;obtain ⟨z,hz⟩:∃ z,os[st.toNat]?=some z:=⟨_,List.getElem?_eq_getElem (by omega)⟩;obtain ⟨p',hp',hout',_⟩:=hos _ row z hrow hz;refine kZ ?_;rw [hp] at hp';cases hp';have:=tL gi ho' hout';subst this;obtain ⟨e,he,hpe⟩:=P2.get hp5 hz;exact ⟨e,he,hpe⟩
inductive eS (vs:List V) (H:Hp) (Q:VK) (_E:XK):Prop
 | mk (i:Int) (zz0:vs=[.int i,.int i]) (zz1:Q (.bl true) H):eS  vs H Q _E
def ku:Sp:=eS
theorem cy:aW P w K mg base CX0 1 T.g__law_number.f T.g__law_number.d ["found","due"] ku:=by
 refine T.g__law_number.F.ok jw (fun vs H Q E h=>?_) (fun cdv A outer s H vs Q E hr h=>?_)
 · obtain ⟨i,rfl,_⟩:=h;rfl
 obtain ⟨i,rfl,k⟩:=h;refine ⟨_,(aj (aD (ow (aG (kP (T:="int")) rfl T.n_isinstance PyProof.Rows.boot_isinstance (ab (pv 0) (ab (pd (v:=.ty "int") rfl T.n_int PyProof.Rows.boot_int rfl) ad))) (ow (oq (aG (kP (T:="bool")) rfl T.n_isinstance PyProof.Rows.boot_isinstance (ab (pv 0) (ab (pd (v:=.ty "bool") rfl T.n_bool PyProof.Rows.boot_bool rfl) ad)))) (rb (ef eR (pv 0) (pv 1) (aR _))))))),?_⟩
 try dsimp only [cxK,cxKn]
 refine ⟨_,rfl,_,_,_,rfl,.int i,uv,_,rfl,?_⟩;refine qy ?_;refine ⟨_,rfl,_,_,_,rfl,.int i,uU,_,rfl,true,rfl,qy ?_⟩;refine ⟨_,rfl,_,rfl,rfl,?_⟩;have e:decide (V.int i=V.int i)=true:=decide_eq_true rfl;show Q (V.bl (decide (V.int i=V.int i))) H;rw [e];exact k
theorem mE {ks:List (Str×Int)} {S C:Int} (g:bx ks):∀ n:Nat,(∀ t:Th,t.size<=n->t.FitS ks S C->(t.walk.filter Th.isKnot).length=t.kn)/\(∀ ts:List Th,aw ts<=n->FitSs ks S C ts->((bi ts).filter Th.isKnot).length=kns ts):=by
 intro n;induction n with
 | zero =>
   refine ⟨fun t h=>?_,fun ts h _=>?_⟩
   · have:=size_pos t;omega
   · cases ts with
     | nil=>rw [bi,kns];rfl
     | cons t ts =>
       rw [aw] at h;have:=size_pos t;omega
 | succ n ih =>
   have one:∀ t:Th,t.size<=n+1->t.FitS ks S C->(t.walk.filter Th.isKnot).length=t.kn:=fun t hn h=>by
    cases t with
    | call s k=>rw [Th.walk,Th.kn];rfl
    | knot nm ts =>
      rw [Th.FitS] at h;rw [Th.size] at hn;have hs:nm≠oS:=qW (g.low _ h.1).1
      have e:(Th.knot nm ts).isKnot=true:=by
       show (!false && !(decide (nm=oS/\ts=[])))=true;rw [decide_eq_false (fun z=>hs z.1)];rfl
      rw [Th.walk,List.filter_cons,if_pos e,List.length_cons,ih.2 ts (by omega) h.2,Th.kn]
   refine ⟨one,fun ts=>?_⟩;induction ts with
   | nil=>intro _ _;rw [bi,kns];rfl
   | cons t ts ih2 =>
     intro h hf;rw [aw] at h;rw [FitSs] at hf;rw [bi,kns,List.filter_append,List.length_append,one t (by omega) hf.1,ih2 (by omega) hf.2]
theorem pe {ks:List (Str×Int)} {S C:Int} (g:bx ks) {p:Th} (h:p.FitS ks S C) (hz:p.size<=10000) (ht:p.tall<=150):PatS p:=⟨hz,ht,(mE g _).1 p (Nat.le_refl _) h⟩
inductive pC (K:PySem.W.Frag) (vs:List V) (H:Hp) (Q:VK) (_E:XK):Prop
 | mk (a:Addr) (ns:List Int) (zz0:vs=[.ref a]) (zz1:SqL K H a (ns.map V.int)) (zz2:ns.length<=63) (zz3:∀ H',Q (.bl true) H'):pC K vs H Q _E
def l5 (K:PySem.W.Frag):Sp:=pC K
set_option maxHeartbeats 4000000 in
theorem ud:aW P w K mg base CX0 120 T.g_law.f T.g_law.d ["script"] (l5 K):=by
 refine T.g_law.F.ok iB (fun vs H Q E h=>?_) (fun cdv A outer s H vs Q E hr h=>?_)
 · obtain ⟨a,ns,rfl,_⟩:=h;rfl
 obtain ⟨a,ns,rfl,hS,hns,k⟩:=h
 refine ⟨_,(ag (iS (pcF T.g__law_setting (ji T) hr (ab (pv 0) (ab ai (ab ai ad)))) (bV rfl (aF (aq (i:=1) iB.nd rfl (Or.inl rfl)) (aF (aq (i:=2) iB.nd rfl (Or.inl rfl)) bD))))
  (ag (ar (i:=3) iB.nd rfl (Or.inl rfl) (pcF T.g__law_sizes (gg T 80) hr (ab (pv 1) (ab (pv 2) ad))))
  (ag (ar (i:=4) iB.nd rfl (Or.inl rfl) (pcF T.g__law_size (d7 T 20) hr (ab (az aA (pv 1) ai (fun _ _=>rfl)) (ab (aM (ab (pv 3) ad)) ad))))
  (ag (cM (PW.pt (rW (lM (b9 (pcF T.g__law_number (cy T) hr (ab (pcF T.g_count_of (mI T) hr (ab (pv 1) (ab (pv 2) ad))) (ab (az aA (pv 4) ai (fun _ _=>rfl)) ad))) (fun _=>rfl))) (oE (lM (b9 (pcF T.g__law_number (cy T) hr (ab (pcF T.g_height_of (l7 T) hr (ab (pv 1) (ab (pv 2) ad))) (ab (az aA (pv 4) ai (fun _ _=>rfl)) ad))) (fun _=>rfl)))))) (aj (aD pI)) bN)
  (ag (bB PassesOwn.never rfl (bT rfl T.n_range (ab (aG aB rfl T.n_len PySem.boot_len (ab (pv 3) ad)) ad)) (aq (i:=5) iB.nd rfl (Or.inl rfl)) (ag (cM (lM (b9 (pcF T.g__law_number (cy T) hr (ab (pcF T.g_count_by (nM T) hr (ab (pv 1) (ab (pv 5) (ab (pv 2) ad)))) (ab (az aA (az bh (pv 3) (pv 5) (fun _ _=>rfl)) ai (fun _ _=>rfl)) ad))) (fun _=>rfl))) (aj (aD pI)) bN)
  (aj (cM (lM (b9 (pcF T.g__law_number (cy T) hr (ab (pcF T.g_height_by (l8 T) hr (ab (pv 1) (ab (pv 5) (ab (pv 2) ad)))) (ab (az aA (az bh (pv 3) (pv 5) (fun _ _=>rfl)) ai (fun _ _=>rfl)) ad))) (fun _=>rfl))) (aj (aD pI)) bN))))
  (aj (aD pI))))))),?_⟩
 try dsimp only [cxK,cxKn]
 refine ⟨_,rfl,a,ns,4,2,rfl,hS,hns,by decide,by decide,by decide,by decide,fun r b ta ins outs head rows S t H1 s1 er bk gi go bo hSl hzr hzh hA hF hT hZ=>?_⟩;refine ⟨r,_,rfl,SqT.of er,rfl,_,_,rfl,_,_,rfl,rfl,?_⟩;have hd:((2:Int).toNat+9)=11:=rfl;rw [hd] at bo;have hht:=bo.hdt
 have I1:CntI H1 ins outs S 11 head rows t b ta:=⟨bk,gi,bo,hSl,fun row hr p hp=>by
  obtain ⟨j,hj⟩:=List.mem_iff_getElem?.mp hp;have rok:=bo.row row hr;have hjl:=(List.getElem?_eq_some_iff.mp hj).1;obtain ⟨kk,hk⟩:∃ kk,ins[j]?=some kk:=⟨_,List.getElem?_eq_getElem (by rw [<- rok.len];exact hjl)⟩;obtain ⟨h1,h2⟩:=rok.fit j p kk hj hk;exact pe go h1 (hzr row hr p hp) (by omega),pe go bo.hdf hzh (by omega),hA,hF,by omega,by omega⟩
 refine ⟨_,rfl,_,rfl,b,ta,ins,outs,head,rows,S,11,t,rfl,bk,gi,go,bo,by decide,by omega,hA,hF,(by show t.tall<=80;omega),fun sz H2 s2 nsz hsz=>?_⟩;have bk2:=bk.mono (Same.kt s2);refine hid fun ZZ kZ=>?_;obtain ⟨ia,oa,hda,ra,ias,oas,ras,bka⟩:=id bk2;have hfit1:∀ h∈[t],h.Fit ins:=fun h hh=>by rw [List.mem_singleton.mp hh];exact hF
 obtain ⟨o,ho,hoF⟩:=oP bo _ Str.empty [t] (Nat.le_refl _) hfit1 _ head (Nat.le_refl _) bo.hdf;refine kZ ?_;refine ⟨_,rfl,b,_,2,.ref hda,rfl,rfl,SqT.of bka.bk,at2,_,rfl,am (by show 1<=1000000;decide),fun l1 hl1=>?_⟩;have s3:=af hl1 (.lst [.ref sz]);refine ⟨hda,l1,ins,outs,rows,S,1,head,Str.empty,[t],[sz],o,rfl,bka.hd.mono (Same.kt s3),ac,.cons (hsz.same s3) .nil,ho,(by show head.tall<=20;omega),bo.hdf,go,fun pr H4 s4 hpr=>?_⟩;have s24:=s3.trans s4;have I4:=I1.same (s2.trans s24);have hsz4:=hsz.same s24;clear I1 bk2 bka s3 s4 hl1 hsz nsz bk;unfold qb at hpr;dsimp only [aE,rK];refine ck (fun bb H'=>An2 (L2.Same H4 H') (bb=false)) (fun k2 hk2=>?_) (fun H' hb2=>by cases hb2.2) (fun H' hb2=>?_)
 · refine ⟨_,rfl,_,rfl,b,ta,ins,outs,S,11,head,rows,t,rfl,I4,fun v H5 s5 hv=>?_⟩;have e1:=hv head o (.inl ⟨rfl,rfl,t,rfl⟩) ho;subst e1;refine ⟨_,rfl,pr,_,0,_,rfl,rfl,SqT.of (s5 _ _ hpr),at0,_,rfl,?_⟩;refine ⟨true,rfl,sS ?_⟩;refine ⟨_,rfl,_,rfl,b,ta,ins,outs,S,11,head,rows,t,rfl,I4.same s5,fun v H6 s6 hv=>?_⟩;have e1:=hv head o (.inl ⟨rfl,rfl,t,rfl⟩) ho;subst e1;refine ⟨_,rfl,pr,_,1,_,rfl,rfl,SqT.of (s6 _ _ (s5 _ _ hpr)),at1,_,rfl,?_⟩;exact ⟨_,rfl,hk2 _ _ ⟨s5.trans s6,rfl⟩⟩
 refine hid fun ZZ kZ=>?_;obtain ⟨s5,_⟩:=hb2;have I5:=I4.same s5;have hsz5:=hsz4.same s5;obtain ⟨es,ees,hel,hes⟩:=id hsz5;refine kZ ?_
 have hS0:(es.length:Int)=S:=by
  have:=bo.len;omega
 clear I4 hsz4 hsz5;generalize H'=H5 at *;refine ⟨_,rfl,sz,_,rfl,.inl (SqL.of ees),?_⟩;have hml:(es.map V.ref).length=es.length:=List.length_map ..;refine ⟨_,rfl,by omega,by omega,?_⟩;refine bR (n:=(es.map V.ref).length) (fun i σ H6=>Ex1 fun (c5:Option V)=>An2 (σ=[some (.ref a),some (.ref b),some (.ref ta),some (.ref sz),some (.ref pr),c5]) (L2.Same H5 H6)) ⟨none,rfl,.refl _⟩ ?_ ?_
 · rintro i σ H6 hi ⟨c5,rfl,s6⟩
   have hcf:(Th.call (0+(i:Int)) 0).FitS outs S (([t]:List Th).length:Int):=by
    rw [Th.FitS];exact ⟨by omega,by omega,Int.le_refl _,by show (0:Int)<1;decide⟩
   refine hid fun ZZ kZ=>?_;obtain ⟨o2,ho2,ho2F⟩:=oP bo _ Str.empty [t] (Nat.le_refl _) hfit1 _ (.call (0+(i:Int)) 0) (Nat.le_refl _) hcf;obtain ⟨e,he,hee⟩:=hes _ o2 ho2;refine kZ ?_;have hix:atI (es.map V.ref) (0+(i:Int))=some (.ref e):=bz (by omega) (by rw [List.getElem?_map,he];rfl);have I6:=I5.same s6;dsimp only [aE,rX,rK];refine ck (fun bb H'=>An2 (L2.Same H6 H') (bb=false)) (fun k2 hk2=>?_) (fun H' hb2=>by cases hb2.2) (fun H' hb2=>?_)
   · refine ⟨_,rfl,_,rfl,_,rfl,b,ta,_,ins,outs,S,11,head,rows,t,rfl,I6,by omega,by omega,fun v H7 s7 hv=>?_⟩;have e1:=hv _ o2 (.inl ⟨rfl,rfl,t,rfl⟩) ho2;subst e1;have s57:=s6.trans s7;refine ⟨_,rfl,_,rfl,sz,_,_,.ref e,rfl,rfl,SqL.of (s57 _ _ ees),hix,e,_,0,_,rfl,rfl,SqT.of (s57 _ _ hee),at0,_,rfl,?_⟩;exact ⟨true,rfl,hk2 _ _ ⟨s7,rfl⟩⟩
   obtain ⟨s7,_⟩:=hb2;have s57:=s6.trans s7;have I7:=I6.same s7;dsimp only [aE,rX,rK];refine ck (fun bb H''=>L2.Same H' H''/\bb=false) (fun k2 hk2=>?_) (fun H'' hb2=>by cases hb2.2) (fun H'' hb2=>?_)
   · refine ⟨_,rfl,_,rfl,_,rfl,b,ta,_,ins,outs,S,11,head,rows,t,rfl,I7,by omega,by omega,fun v H8 s8 hv=>?_⟩;have e1:=hv _ o2 (.inl ⟨rfl,rfl,t,rfl⟩) ho2;subst e1;have s58:=s57.trans s8;refine ⟨_,rfl,_,rfl,sz,_,_,.ref e,rfl,rfl,SqL.of (s58 _ _ ees),hix,e,_,1,_,rfl,rfl,SqT.of (s58 _ _ hee),at1,_,rfl,?_⟩;exact ⟨true,rfl,hk2 _ _ ⟨s8,rfl⟩⟩
   exact ⟨_,rfl,s57.trans hb2.1⟩
 · rintro σ H6 ⟨c5,rfl,s6⟩;exact k _
end
set_option maxHeartbeats 8000000 in
theorem uG {l:PySem.W.OpenLaw} {w:World} {K:PySem.W.Frag} {h:Heap} {mg:Str->Option Value} {fa:Addr} (X:K.In h) (G:h.Ns mainGlobals mg) (hfa:mg "law"=some (.ref fa))
 {own_Level:Addr} {f16:Addr} {od16 an16:Option Addr} {sl16:Array (Option Value)} {oc16 kV16 dc16 pm16 cd16 ct16:Value} {f17:Addr} {od17 an17:Option Addr} {sl17:Array (Option Value)} {oc17 kV17 dc17 pm17 cd17 ct17:Value} {f47:Addr} {od47 an47:Option Addr} {sl47:Array (Option Value)} {oc47 kV47 dc47 pm47 cd47 ct47:Value} {tk0:Tok} {ac1:Addr} {oc_1:Option Addr} {nc1:Nat} {sc_1:Array (Option Value)} {tc1_0:Tok} {tk2:Tok}
 (g_kids_of:FX K mg "kids_of" iQ ["thing"])
 (g_walked:FX K mg "walked" ko ["thing"])
 (g_placed:FX K mg "placed" jO ["thing"])
 (g_tall:FX K mg "tall" oj ["tree"])
 (g_is_call:FX K mg "is_call" iH ["thing"])
 (g_is_hole:FX K mg "is_hole" iT ["thing"])
 (g_is_knot:FX K mg "is_knot" iJ ["thing"])
 (g_called_by:FX K mg "called_by" fq ["call"])
 (g_knots_of:FX K mg "knots_of" gy ["pattern"])
 (g_tall_of:FX K mg "tall_of" iD ["pattern"])
 (g_calls_in:FX K mg "calls_in" gE ["pattern"])
 (g_ins_of:FX K mg "ins_of" jH ["book"])
 (g_head_of:FX K mg "head_of" iK ["book"])
 (g_rules_of:FX K mg "rules_of" gz ["book"])
 (g_above:FX K mg "above" ml ["tree"])
 (g_call_of:FX K mg "call_of" iU ["state"])
 (g_digests_of:FX K mg "digests_of" et ["book","digest"])
 (g_hand_on:FX K mg "hand_on" iL ["digests","level","number","beneath"])
 (g_levels_of:FX K mg "levels_of" fF ["digests","head","tree"])
 (g_kid_worths:FX K mg "kid_worths" eu ["spots","beneath"])
 (g_folded:FX K mg "folded" kq ["book","head","tree","digest","worth"])
 (g_times_in:FX K mg "times_in" gI ["pattern"])
 (g_count_worth:FX K mg "count_worth" dP ["pair","counts"])
 (g_depths_in:FX K mg "depths_in" fK ["pattern"])
 (g_height_worth:FX K mg "height_worth" dn ["pair","heights"])
 (g_count_of:FX K mg "count_of" gv ["book","tree"])
 (g_count_by:FX K mg "count_by" gF ["book","state","tree"])
 (g_height_of:FX K mg "height_of" fb ["book","tree"])
 (g_height_by:FX K mg "height_by" ft ["book","state","tree"])
 (g__law_cell:FX K mg "_law_cell" fB ["script","k"])
 (g__law_turn:FX K mg "_law_turn" fk ["cell","k"])
 (g__law_kinds:FX K mg "_law_kinds" eK ["cell","letters"])
 (g__law_leaf:FX K mg "_law_leaf" fJ ["kinds","cell"])
 (g__law_pattern:FX K mg "_law_pattern" dk ["cell","outs","states","kids","deep"])
 (g__law_digit:FX K mg "_law_digit" eP ["left","many"])
 (g__law_by_digits:FX K mg "_law_by_digits" cF ["left","outs","states","kids","deep"])
 (g__law_book_by_digits:FX K mg "_law_book_by_digits" bW ["cell","ins","outs","states","deep"])
 (g__law_book:FX K mg "_law_book" fC ["cell","ins","outs","states","deep"])
 (g__law_knot:FX K mg "_law_knot" fz ["kind","kids"])
 (g__law_tree:FX K mg "_law_tree" fj ["cells","ins"])
 (g__law_size:FX K mg "_law_size" fL ["pattern","kids"])
 (g__law_sizes:FX K mg "_law_sizes" eI ["book","tree"])
 (g__law_wrapped:FX K mg "_law_wrapped" dz ["pattern","kind","leaf","many"])
 (g__law_setting:FX K mg "_law_setting" db ["script","most","deep"])
 (g__law_number:FX K mg "_law_number" dJ ["found","due"])
 (on_Level:PySem.W.nsIn K mainGlobals "Level"=some (some (.ref own_Level)))
 (pg_Level:PySem.W.plainGet K own_Level Str.empty=true)
 (hd_Level:PySem.W.hasDictIn K own_Level=true)
 (po_Level:PySem.W.plainOver K own_Level=true)
 (sa_Level:PySem.W.findIn K (.ref own_Level) "__setattr__"=some (some (.builtin "object.__setattr__")))
 (mk_Level:PySem.W.makesIn K own_Level=true)
 (kc_Level:PySem.W.keepIn K (.ref own_Level)=true)
 (na_Level_trees:PySem.W.findIn K (.ref own_Level) "trees"=some none)
 (na_Level_asked:PySem.W.findIn K (.ref own_Level) "asked"=some none)
 (na_Level_kid_spots:PySem.W.findIn K (.ref own_Level) "kid_spots"=some none)
 (a16:PySem.W.findIn K (.ref own_Level) "__init__"=some (some (.ref f16))) (i16:PySem.W.isFn K (.ref f16)=true) (l16:K.lookup f16=some ⟨oc16,od16,.func (PySem.W.fnOf "__init__" "Level.__init__" (bE ce) (bu ce) (ao ce) .none kV16 dc16 pm16 an16 cd16 ct16),sl16⟩) (c16:PySem.W.codeIn K cd16 "Level.__init__"=true) (k16:PySem.W.keepIn K (.ref f16)=true)
 (a17:PySem.W.findIn K (.ref own_Level) "spot_of"=some (some (.ref f17))) (i17:PySem.W.isFn K (.ref f17)=true) (l17:K.lookup f17=some ⟨oc17,od17,.func (PySem.W.fnOf "spot_of" "Level.spot_of" (bE bF) (bu bF) (ao bF) .none kV17 dc17 pm17 an17 cd17 ct17),sl17⟩) (c17:PySem.W.codeIn K cd17 "Level.spot_of"=true) (k17:PySem.W.keepIn K (.ref f17)=true)
 (a47:PySem.W.nsIn K mainGlobals "law"=some (some (.ref f47))) (l47:K.lookup f47=some ⟨oc47,od47,.func (PySem.W.fnOf "law" "law" (bE gL) (bu gL) (ao gL) .none kV47 dc47 pm47 an47 cd47 ct47),sl47⟩) (c47:PySem.W.codeIn K cd47 "law"=true) (k47:PySem.W.keepIn K (.ref f47)=true)
 (z0:PySem.W.nsIn K mainGlobals "bool"=some none)
 (z1:PySem.W.nsIn K mainGlobals "dict"=some none)
 (z2:PySem.W.nsIn K mainGlobals "enumerate"=some none)
 (z3:PySem.W.nsIn K mainGlobals "int"=some none)
 (z4:PySem.W.nsIn K mainGlobals "isinstance"=some none)
 (z5:PySem.W.nsIn K mainGlobals "len"=some none)
 (z6:PySem.W.nsIn K mainGlobals "max"=some none)
 (z7:PySem.W.nsIn K mainGlobals "range"=some none)
 (z8:PySem.W.nsIn K mainGlobals "reversed"=some none)
 (z9:PySem.W.nsIn K mainGlobals "sum"=some none)
 (z10:PySem.W.nsIn K mainGlobals "tuple"=some none)
 (z11:PySem.W.nsIn K mainGlobals "zip"=some none)
 (y0:PySem.W.nsIn K mainGlobals "CALL_SIGN"=some (some (.str (Str.ofString "?") tk0)))
 (y1:PySem.W.nsIn K mainGlobals "HOLE"=some (some (.ref ac1)))
 (w1:K.lookup ac1=some ⟨.type "tuple",oc_1,.seq #[.str (Str.ofString "*") tc1_0] nc1,sc_1⟩)
 (y2:PySem.W.nsIn K mainGlobals "HEAD"=some (some (.int (-1) tk2))) :
 ∃ fd:FuncData,(∀ (s:Shared) (v:Value),BindsTo s fd ⟨[v],[]⟩ [("script",v)])/\∀ base:Heap,K.In base->base.Ns mainGlobals mg->aW l.prog w K mg base CX0 120 fa fd ["script"] (l5 K):=by
 have e0:=hfa.symm.trans (PySem.W.mg_of X G a47);have e:f47=fa:=(Value.ref.inj (Option.some.inj e0)).symm;subst e;have F16:=cE (st:=ce) l16 c16 k16;have b16:=F16.binds (ps:=["self"]) fun _ _ _ _ _ _ us hl=>by obtain ⟨y0,rfl⟩:=us1 hl;rfl
 have F17:=cE (st:=bF) l17 c17 k17;have b17:=F17.binds (ps:=["self","tree"]) fun _ _ _ _ _ _ us hl=>by obtain ⟨y0,y1,rfl⟩:=us2 hl;rfl
 have F47:=cE (st:=gL) l47 c47 k47;have b47:=F47.binds (ps:=["script"]) fun _ _ _ _ _ _ us hl=>by obtain ⟨y0,rfl⟩:=us1 hl;rfl
 let T:TX K mg:=⟨⟨tk0,PySem.W.mg_of X G y0⟩,ac1,PySem.W.mg_of X G y1,fun H=>.inr ⟨_,_,_,w1,rfl,rfl,(by show 1<=sizeLine;decide),.cons ⟨_,rfl⟩ (.nil)⟩,⟨tk2,PySem.W.mg_of X G y2⟩,g_kids_of,g_walked,g_placed,g_tall,g_is_call,g_is_hole,g_is_knot,g_called_by,g_knots_of,g_tall_of,g_calls_in,g_ins_of,g_head_of,g_rules_of,g_above,g_call_of,f16,_,F16,b16,f17,_,F17,b17,g_digests_of,g_hand_on,g_levels_of,g_kid_worths,g_folded,g_times_in,g_count_worth,g_depths_in,g_height_worth,g_count_of,g_count_by,g_height_of,g_height_by,g__law_cell,g__law_turn,g__law_kinds,g__law_leaf,g__law_pattern,g__law_digit,g__law_by_digits,g__law_book_by_digits,g__law_book,g__law_knot,g__law_tree,g__law_size,g__law_sizes,g__law_wrapped,g__law_setting,g__law_number,⟨f47,_,F47,b47,PySem.W.mg_of X G a47⟩,own_Level,PySem.W.mg_of X G on_Level,⟨pg_Level,hd_Level,po_Level,sa_Level⟩,⟨mk_Level,a16,i16,kc_Level⟩,na_Level_trees,na_Level_asked,na_Level_kid_spots,⟨a17,i17,k17⟩,PySem.W.mg_none_of X G z0,PySem.W.mg_none_of X G z1,PySem.W.mg_none_of X G z2,PySem.W.mg_none_of X G z3,PySem.W.mg_none_of X G z4,PySem.W.mg_none_of X G z5,PySem.W.mg_none_of X G z6,PySem.W.mg_none_of X G z7,PySem.W.mg_none_of X G z8,PySem.W.mg_none_of X G z9,PySem.W.mg_none_of X G z10,PySem.W.mg_none_of X G z11⟩
 refine ⟨PySem.W.fnOf "law" "law" (bE gL) (bu gL) (ao gL) .none kV47 dc47 pm47 an47 cd47 ct47,fun s v=>.of_eq rfl,fun base _ _=>?_⟩;exact ud T
theorem walk {l:PySem.W.OpenLaw} {q:Program} {loose:List Str} {XP:(Str->Option Value)->Heap->Prop} {YP:World->Heap->Prop} {d:DefRec} {K:Params->PySem.W.Frag} (hn:l.most=some 63) (hdf:d.params.defaults=[])
 (hY:∀ (w:World) (h:Heap),YP w h->(K w.params).In h)
 (F:∀ (w:World) (mg:Str->Option Value) (fa:Addr) (h:Heap),(K w.params).In h->h.Ns mainGlobals mg->mg d.name=some (.ref fa) →
  ∃ fd:FuncData,(∀ (s:Shared) (u:Value),BindsTo s fd ⟨[u],[]⟩ [("script",u)])/\∀ base:Heap,(K w.params).In base->base.Ns mainGlobals mg->aW l.prog w (K w.params) mg base CX0 120 fa fd ["script"] (l5 (K w.params))) :
 PySem.W.WalkO q loose XP YP l.row.toRowW d [] (fun f vs=>PySem.call f vs) :=
 L2.ss (n:=63) (k:=120) (x:="script") (CX:=fun _=>CX0) (sp:=fun w=>l5 (K w.params)) hn (by decide) hdf ⟨rfl,by decide,by decide⟩ hY F (fun _ _ a ns hl _ hS=>⟨a,ns,rfl,hS,hl,fun _=>rfl⟩) fun _ _ _ _ _ z=>z
end LAW
open PySem PySem.W PyProof.Rows
def LAW.vw:Program:=PySem.W.view PySem.Challenge.pw_boughbook_k23_outcomes_counted [1,2,3,4,5,7,8,9,10,11,12,13,14,16,17,18,20,21,22,24,25,26,27,28,29,31,32,33,34,35,36,37,38,40,41,42,43,44,45,46,47,48,49,50,51,52,53,54,55,56]
def LAW.xt (s:Shared):Bool:=xlAt LAW.vw [] s && recOk (RowW.records (OpenRow.toRowW (OpenLaw.row PySem.Challenge.rw_boughbook_k23_outcomes_counted))) s
set_option maxHeartbeats 0 in
theorem LAW.lk0:HD.Tr0 PySem.Challenge.pw_boughbook_k23_outcomes_counted LAW.vw [] LAW.xt 90000 true:=fun _ _=>by kernel_rfl
set_option maxHeartbeats 0 in
theorem LAW.lk1:HD.Tr1 PySem.Challenge.pw_boughbook_k23_outcomes_counted LAW.vw 90000:=fun _ _=>by kernel_rfl
set_option maxHeartbeats 0 in
theorem LAW.lk2:HD.Tr2 PySem.Challenge.pw_boughbook_k23_outcomes_counted LAW.vw [] 90000:=fun _ _=>by kernel_rfl
set_option maxHeartbeats 0 in
theorem LAW.lk3:HD.Tr3 PySem.Challenge.pw_boughbook_k23_outcomes_counted LAW.vw 90000:=fun _ _=>by kernel_rfl
set_option maxHeartbeats 0 in
theorem LAW.lk4:HD.Tr4 PySem.Challenge.pw_boughbook_k23_outcomes_counted LAW.vw [] 90000:=fun _ _=>by kernel_rfl
set_option maxHeartbeats 0 in
theorem LAW.lk5:HD.Tr5 PySem.Challenge.pw_boughbook_k23_outcomes_counted LAW.vw 90000:=fun _ _=>by kernel_rfl
local macro_rules | `(tactic| o_head $H) => `(tactic| (
 refine holds_open (q := LAW.vw) (N := 90000) (loose := []) (XP := XL LAW.vw [])
  (Yf := Hook.obs $H) (Ya := Hook.val $H) (YP := Hook.says $H) (Xt := LAW.xt)
  (HD.pM (by kernel_rfl) (by kernel_rfl) (fun _ => by kernel_rfl) LAW.lk0 LAW.lk1 LAW.lk2 LAW.lk3 LAW.lk4 LAW.lk5 fun _ _ => by kernel_rfl)
  (Hook.of $H) (Hook.keeps $H)
  (fun s e => xl_of s (Bool.and_eq_true_iff.mp e).1) XL.keeps
  (by rfl) (by rfl) (by rfl)
  (fun s e => recFacts_of (Bool.and_eq_true_iff.mp e).2)
  (by rfl) (by assumption) (by decide +kernel) ⟨rfl, rfl, rfl, rfl, rfl, by decide +kernel⟩ ?_ ?_))
set_option maxRecDepth 100000 in
set_option maxHeartbeats 0 in
theorem PySem.Challenge.cw_boughbook_k23_outcomes_counted_holds : PySem.Challenge.rw_boughbook_k23_outcomes_counted.Holds := by
 w_on;o_law;k_head;w_witness2
 k_fill
 refine LAW.walk (l:=PySem.Challenge.rw_boughbook_k23_outcomes_counted) rfl rfl (fun w h Y=>PySem.W.kIn_of Y) ?F
 case F =>
  intro w mg fa h KX G hmg;refine' LAW.uG KX G hmg (LAW.fx1 KX G) (LAW.fx1 KX G) (LAW.fx1 KX G) (LAW.fx1 KX G) (LAW.fx1 KX G) (LAW.fx1 KX G) (LAW.fx1 KX G) (LAW.fx1 KX G) (LAW.fx1 KX G) (LAW.fx1 KX G) (LAW.fx1 KX G) (LAW.fx1 KX G) (LAW.fx1 KX G) (LAW.fx1 KX G) (LAW.fx1 KX G) (LAW.fx1 KX G) (LAW.fx2 KX G) (LAW.fx4 KX G) (LAW.fx3 KX G) (LAW.fx2 KX G) (LAW.fx5 KX G) (LAW.fx1 KX G) (LAW.fx2 KX G) (LAW.fx1 KX G) (LAW.fx2 KX G) (LAW.fx2 KX G) (LAW.fx3 KX G) (LAW.fx2 KX G) (LAW.fx3 KX G) (LAW.fx2 KX G) (LAW.fx2 KX G) (LAW.fx2 KX G) (LAW.fx2 KX G) (LAW.fx5 KX G) (LAW.fx2 KX G) (LAW.fx5 KX G) (LAW.fx5 KX G) (LAW.fx5 KX G) (LAW.fx2 KX G) (LAW.fx2 KX G) (LAW.fx2 KX G) (LAW.fx2 KX G) (LAW.fx4 KX G) (LAW.fx3 KX G) (LAW.fx2 KX G) ?on_Level ?pg_Level ?hd_Level ?po_Level ?sa_Level ?mk_Level ?kc_Level ?na_Level_trees ?na_Level_asked ?na_Level_kid_spots ?a16 ?i16 ?l16 ?c16 ?k16 ?a17 ?i17 ?l17 ?c17 ?k17 ?a47 ?l47 ?c47 ?k47 ?z0 ?z1 ?z2 ?z3 ?z4 ?z5 ?z6 ?z7 ?z8 ?z9 ?z10 ?z11 ?y0 ?y1 ?w1 ?y2
  (case on_Level=>k_is)
  (case pg_Level=>k_is)
  (case hd_Level=>k_is)
  (case po_Level=>k_is)
  (case sa_Level=>k_is)
  (case mk_Level=>k_is)
  (case kc_Level=>k_is)
  (case na_Level_trees=>k_is)
  (case na_Level_asked=>k_is)
  (case na_Level_kid_spots=>k_is)
  (case a16=>k_is)
  (case i16=>k_is)
  (case l16=>k_is)
  (case c16=>k_is)
  (case k16=>k_is)
  (case a17=>k_is)
  (case i17=>k_is)
  (case l17=>k_is)
  (case c17=>k_is)
  (case k17=>k_is)
  (case a47=>k_is)
  (case l47=>k_is)
  (case c47=>k_is)
  (case k47=>k_is)
  (case z0=>k_is)
  (case z1=>k_is)
  (case z2=>k_is)
  (case z3=>k_is)
  (case z4=>k_is)
  (case z5=>k_is)
  (case z6=>k_is)
  (case z7=>k_is)
  (case z8=>k_is)
  (case z9=>k_is)
  (case z10=>k_is)
  (case z11=>k_is)
  (case y0=>k_is)
  (case y1=>k_is)
  (case w1=>k_is)
  (case y2=>k_is)
