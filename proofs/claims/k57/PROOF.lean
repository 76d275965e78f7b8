import PyProof.Rows.All
import Wide.All
import OpenK.AllK
import Wide.FinOn
import Lean
import PyProof.EqAt
import PyProof.EqKinds
import PyProof.TupleCall
import KE.KRevIter
import PyProof.ListNew
import PyProof.Draws
import PyProof.EnumMake
import PyProof.Rows.EnumRows
import PyProof.ZipIter
import PyProof.ConsumeWalk
import KE.LcSums
import PyProof.AttrMissHeap
import KE.KDictOf
import PyProof.DictWalks
import PyProof.ListMulRoad
import PyProof.FactsAll.tuple
import PyProof.NeKinds
import KE.RegKTryMore
import KE.RegKIsAll
import PyProof.StrWalks
import PyProof.Rows.SetFrom
import PyProof.FString5
import Wide.Txt
import PyProof.Rows.SeqMore
import PyProof.StrOps2
import KE.KEqDict
import PyProof.CollectIter
import PyProof.JoinWalk
import PyProof.CallStr
import PyProof.DictRoadsH
import PyProof.MeetsDictList
import PyProof.DictTruth
import PyProof.StrLawsChain
import PyProof.StrCalls6
import PyProof.ToksMono
import PyProof.StrCalls2
import KE.KWords
import PyProof.MeetsStr2
import KE.KLam
import KE.KDictLaws
import PyProof.DictItems
import PyProof.DictValues
import PyProof.DictItemsLoops
import PySem.Challenge.RW_boughbook_k57_fronts_are_closed
set_option Elab.async false
set_option linter.all false
set_option maxRecDepth 100000
set_option genInjectivity false
set_option genSizeOf false
local macro_rules | `(tactic| omega) => `(tactic| lia)
open PySem renaming wpAny_bind→Qz,Addr→QD,Value→QE,wpAny_pure→QI,Shared→QJ,Program→QR,wpAny→QU,sizeLine→QW,World→Q3,model→Ra,Str→Rc,Paired→Rf,boot_len→Ri,mainGlobals→Rp,Around→Rr,wpAny_field→Rx,starEach→RA,wpAny_callSpecial?_slot→RE,wpAny_newObj_type→RK,wpAny_call_entry→RL,Expr→RO,Heap→RS,builtinLookup_eq_fast→RV,wpAny_seqItems→RZ,wpAny_holding→R1,wpAny_specialOf→Sa,wpAny_Call_Name_kw→Sf,cLine→Sl,wpAny_updateSeq→Sq,sysModules→Sv,typeLookup_type→Sz,Stmt→SD,wpAny_mono→SH,IsPair→SO,Obj→SQ,rawInt→S3,eval→S4,NameKind→Td,wpAny_typeOf→Tf,Builtin→Tj,wpAny_isInstance→Tn,wpAny_setField_rec→Tu,wpAny_rule→Tv,wpAny_attempt→TH,pyNext→TJ,plainId_quiet→TL,isSubtype_type→TQ,wpAny_typeNameOfWhole_keyiter→T3,wpAny_of_eq→T4,wpAny_pyIter_tuple→T5,wpAny_passesOwn→T7,FuncData→Ua,wpAny_truthy_bool→Uj,mem_of_lookup→Uk,wpAny_setField→Up,typeLookup→Uq,atKey→Ur,compareOp→UE,wpAny_typeNameOf_keyiter→UI,binaryOp→UJ,codeAny_builtin→UN,tupleKind_room_in1→UO,sliceBounds→UP,sizeLine_eq→UQ,Scope→UR,Pos→US,tupleKeyHash→UW,getItem→UX,firstArgMember→UY,codeAny→UZ,backTo→U0,bootBuiltins→Vn,updateSeq→Vs,wpAny_pyIter_enum→Vz,wpAny_letGo→VA,wpAny_dictEntries→VB,storedH→VC,atKey_none_of_get→VD,behindInMarks→VJ,tupleKind→VN,IsZip→VU,call_meets→VY,assignEach→VZ,OsState→V0,IsPart→V2,wpAny_ite_split→V3,wpAny_execs_nil→V4,letOwnedTupleGo→V5,importedModules→V6,wpAny_notOrdered_dict→Wa,wpAny_updateSeq_pair→Wg,slicePicked→Wh,callType_codes→Wi,ZipApart→Wj
open List renaming length_map→QA,getElem?_eq_getElem→QC,mem_of_getElem?→QH,getElem?_eq_some_iff→QL,length_cons→QM,size_toArray→QN,getElem?_map→QO,map_append→QS,length_append→QX,mem_cons→QZ,mem_cons_of_mem→Q1,mem_singleton→Q2,mem_cons_self→Q6,mem_iff_getElem?→Rb,range→Rl,length_range→Rm,length_take→Ro,mem_append_right→Rt,mem_append→Rv,append_nil→Rw,mem_append_left→RC,map_cons→RD,reverse_cons→RF,append_assoc→RG,mem_map→RN,length_reverse→RU,take_add_one→RX,reverse_append→R5,getElem?_range→R6,length_drop→R7,getElem?_cons_succ→R8,take_of_length_le→Sd,length_eq_zero_iff→Sj,getElem?_eq_none→Su,reverse_reverse→Sx,replicate→SE,not_mem_nil→SM,filter_cons→SN,dropLast_concat_getLast→SV,map_nil→S5,take_length→S8,lookup_cons→S9,cons_append→Ta,all_eq_true→Tb,drop_zero→Te,getElem?_zip_eq_some→To,getElem?_append_left→Tp,mem_filter→Tq,find?_cons→Tr,map_map→Tx,mem_range→TC,zip_cons_cons→TN,of_mem_zip→TR,length_replicate→TZ,length_filter_le→T1,getElem?_append_right→T9,map_congr_left→Ul,filterMap_cons→Um,nil_append→UB,length_zip→UC,forIn_cons→UD,take_zero→UL,getElem_mem→UT,length→U1,nodup_cons→U4,length_nil→U5,zip_nil_right→Vc,nodup_nil→Vd,filter_append→Ve,drop_eq_getElem_cons→Vi,zip_nil_left→Vj,nodup_append→Vk,ext_getElem?→Vl,map_reverse→Vw,length_set→VG,filter_nil→VH,replicate_succ'→VR,getElem?_set_ne→VS,forIn_nil→VT,drop_succ_cons→V1,map_drop→V7,mem_replicate→Wc,mem_filterMap→Wd,map_inj_right→We,filterMap_map→Wf,flatMap_cons→Wr
open PySem.W renaming Frag→QB,mg_none_of→Sb,kia_one→Sk,nsIn→Sm,boot_heap→Tw,kitOne→T8,fnOf→Ue,mg_of→Vo,keepIn→VO,codeIn→VP,methodObj→Wk
open Nat renaming le_refl→QF,zero_le→Q7,ne_of_lt→Rh,lt_of_lt_of_le→RB,lt_irrefl→RY,le_trans→Sn,le_add_right→S7,ne_of_gt→Ug,lt_trans→Uh,le_of_lt→Ui,not_lt_zero→UA,lt_succ_of_lt→UK,not_lt→Va,lt_of_le_of_lt→Vb,add_assoc→Vq,min_eq_left→VF,mul_le_mul_right→VQ,sub_zero→Wm,sub_self→Wn,min_self→Wo,le_of_eq→Wq
open PySem.Heap renaming get?_push_of_some→QG,get?_push_size→QQ,lt_size→QT,get?_update_self→Rn,get?_update_other→Ru,size_push→RR,SameBut→Ss,size_update→U8,ExtBut→Wt
open PySem.Str renaming ofString→QK
open PySem.Paired renaming length→QP
open PySem.F renaming plainAttrs_list→QV,type_list_append→Q4,slot_list_append→Q5,plain_extend_loop→R9,slot_dict_keyiterator_next→Tc,type_list_pop→TU,slot_list_pop→TV,slot_dict_get→TY,slot_zip_next→Uc,type_list_extend→Ut,slot_list_extend→Uu,slot_tuple_iterator_next→Uw,slot_dict_setdefault→U2,entry_extend_loop→Vm,args_tuple_add_2→Vp,plainAttrs_dict→Vt,entry_tuple_add→Vu,args_dict_get_3→Vv,slot_tuple_add→Vx,entry_dict_get→Vy,slot_tuple_hash→VI,slot_list_getattribute→VM
open Or renaming inl→QY,inr→Wb
open Bool renaming false_ne_true→Q0,false_eq_true→RQ,eq_false_iff→Sh,and_eq_true→Sy,false_or→Uz,not_true→UU,eq_iff_iff→U6,and_false→Vg,and_eq_true_iff→VX,or_false→V9
open Option.some renaming inj→Q8
open PySem.Value renaming ref→Q9,none→R4,type→S6
open PySem.PassesOwn renaming never→Rg
open Array renaming length_toList→Rj,getElem?_eq_getElem→SG,getElem?_toList→T2,toList_append→Uo,forIn_toList→UG,getElem?_eq_none→UM,getElem?_eq_some_iff→Vh,toList→Wu
open Sum renaming inl→Rk,inr→Ud
open PyProof.Rows renaming slot_tuple_getitem→Rq,callWith_type1→Ry,boot_tuple→SU,IsTup→TM,boot_isinstance→U3,boot_all→VL
open PySem.Builtin.SmallTypes renaming nextOf→Rz,ownedTupleIsFree→RI
open Int renaming toNat_natCast→RH,emod_lt_of_pos→RP,emod_nonneg→RT,zero_add→Sw,toNat_of_nonneg→TB,ediv_one→Ws
open Option renaming map_eq_some_iff→RJ,isSome_iff_exists→Uv,map_some→VE,isSome_map→Wl
open PySem.Obj renaming mapSeq→RM,data_mapFields→SS,isFreed_of_fields→U7
open PySem.NameKind renaming free→RW,cell→U9
open PySem.Builtin.Slice renaming slicePlaces→Se,sliceAdjust→Tz,sliceApplied→Uy
open PySem.Calls renaming spliced_cons→Sg,spliced_nil→SI,callWith_builtin→T6,evalArgs_plain→Vf
open PySem.Builtin.Tuple renaming tupleExact→Si,tupleHashOf→SR,tupleItemsOf→Ux
open PySem.Value.type renaming inj→So
open Ne renaming symm→Sr
open PySem.Builtin.List renaming listExtendWith→SF,listTooLong→SW,listSameRef→SX,listLengthHint→Tg,listItems→Ti,listUpdate→VW
open PySem.Heap.SameBut renaming update→SJ
open True renaming intro→SK
open PySem.AutoSeq1 renaming wpAny_loadPart'→SY
open ForInStep renaming yield→Tt
open PySem.Around renaming under_plainId→TF
open False renaming elim→Ub
open Sum.inl renaming inj→UH
open PySem.Builtin.Str renaming strSliceIndices→Vr
open List.cons renaming inj→V8
namespace L2
open PySem PySem.Spec PyProof.Rows
abbrev Key:=Sum Int Rc
def fZ:Key->QE->Bool
 | .inl k,v=>Value.isInt k v
 | .inr x,v=>Value.isStrOf x v
def wx (w:Q3):Key->Int
 | .inl k=>hashInt k
 | .inr x=>hashStr w x
theorem aZ:∀ {k:Key} {v:QE},fZ k v=true->(∃ i t,k=Rk i/\v=Value.int i t)∨(∃ x t,k=Ud x/\v=Value.str x t)
 | .inl i,v,h=>by
   obtain ⟨t,e⟩:=Value.isInt_shape (k:=i) (v:=v) h;exact .inl ⟨i,t,rfl,e⟩
 | .inr x,v,h=>by
   obtain ⟨t,e⟩:=Value.isStrOf_shape (x:=x) (v:=v) h;exact .inr ⟨x,t,rfl,e⟩
theorem qf (i:Int) (t:Tok):fZ (.inl i) (.int i t)=true:=by simp [fZ,Value.isInt]
theorem qQ (x:Rc) (t:Tok):fZ (.inr x) (.str x t)=true:=by simp [fZ,Value.isStrOf]
theorem uM (a b:Int):decide ((Rk a:Key)=Rk b)=(a == b):=by
 by_cases e:a=b
 · subst e;simp
 · have h:¬ (Rk a:Key)=Rk b:=fun q=>e (UH q);rw [decide_eq_false h];exact (beq_eq_false_iff_ne.mpr e).symm
theorem uu (a b:Rc):decide ((Ud a:Key)=Ud b)=decide (a=b):=by
 by_cases e:a=b
 · subst e;simp
 · have h:¬ (Ud a:Key)=Ud b:=fun q=>e (Sum.inr.inj q);rw [decide_eq_false h,decide_eq_false e]
theorem uO (a:Int) (b:Rc):decide ((Rk a:Key)=Ud b)=false:=decide_eq_false (fun q=>nomatch q)
theorem uK (a:Rc) (b:Int):decide ((Ud a:Key)=Rk b)=false:=decide_eq_false (fun q=>nomatch q)
def aB (prog:QR) (w:Q3):PySem.KeyKind prog w Key where
 is:=fZ
 hash:=wx w
 inj:=fun v a b ha hb=>by
  rcases aZ ha with ⟨i,t,rfl,rfl⟩ | ⟨x,t,rfl,rfl⟩
  · rcases aZ hb with ⟨j,u,rfl,e⟩ | ⟨y,u,rfl,e⟩
    · injection e with e1 _;rw [e1]
    · exact nomatch e
  · rcases aZ hb with ⟨j,u,rfl,e⟩ | ⟨y,u,rfl,e⟩
    · exact nomatch e
    · injection e with e1 _;rw [e1]
 byValue:=fun k v h=>by
  rcases aZ h with ⟨i,t,rfl,rfl⟩ | ⟨x,t,rfl,rfl⟩ <;> rfl
 pyHash:=fun hv h=>by
  rcases aZ hv with ⟨i,t,rfl,rfl⟩ | ⟨x,t,rfl,rfl⟩
  · exact wpAny_pyHash_int h
  · exact wpAny_pyHash_str h
 eqBool:=fun hu hv h=>by
  rcases aZ hu with ⟨i,t,rfl,rfl⟩ | ⟨x,t,rfl,rfl⟩
  · rcases aZ hv with ⟨j,u,rfl,rfl⟩ | ⟨y,u,rfl,rfl⟩
    · rw [uM] at h;exact wpAny_eqBool_int h
    · rw [uO] at h;exact SeqAt.EqAt.int_str i t y u _ _ _ _ h
  · rcases aZ hv with ⟨j,u,rfl,rfl⟩ | ⟨y,u,rfl,rfl⟩
    · rw [uK] at h;exact SeqAt.EqAt.str_int x t j u _ _ _ _ h
    · rw [uu] at h;exact wpAny_eqBool_str h
 «strs»:=fun k x t v h=>by
  rcases aZ h with ⟨i,u,rfl,e⟩ | ⟨y,u,rfl,e⟩
  · exact nomatch e
  · injection e with e1 _;subst e1;cases v <;> rfl
theorem no (prog:QR) (w:Q3) (i:Int) (t:Tok):(aB prog w).is (.inl i) (.int i t)=true:=qf i t
theorem mU (prog:QR) (w:Q3) (x:Rc) (t:Tok):(aB prog w).is (.inr x) (.str x t)=true:=qQ x t
end L2
namespace L2
open PySem PySem.Spec PyProof.Rows
set_option genInjectivity true in
inductive V where
 | non | bl (b:Bool) | int (i:Int) | str (x:Rc) | byt (b:Array UInt8) | flt (b:UInt64) | ref (a:QD) | ty (n:String)
 deriving DecidableEq
def RelV:V->QE->Prop
 | .non,u=>u=R4
 | .bl b,u=>u=Value.bool b
 | .int i,u=>∃ t,u=Value.int i t
 | .str x,u=>∃ t,u=Value.str x t
 | .byt b,u=>∃ t,u=Value.bytes b t
 | .flt b,u=>∃ t,u=Value.float b t
 | .ref a,u=>u=Q9 a
 | .ty n,u=>u=S6 n
abbrev Vals:List V->List QE->Prop:=Rf RelV
theorem Vals.length {xs:List V} {us:List QE} (r:Vals xs us):xs.length=us.length:=QP r
theorem Vals.get:∀ {xs:List V} {us:List QE} {i:Nat} {x:V},Vals xs us->xs[i]?=some x->∃ u,us[i]?=some u/\RelV x u
 | _,_,_,_,.nil,e=>by simp at e
 | _,_,0,_,.cons r _,e=>by simp at e;subst e;exact ⟨_,rfl,r⟩
 | _,_,i+1,x,.cons _ t,e=>by
   obtain ⟨u,h1,h2⟩:=Vals.get (i:=i) (x:=x) t (by simpa using e);exact ⟨u,by simpa using h1,h2⟩
theorem Vals.set {x:V} {u:QE} (r:RelV x u):∀ {xs:List V} {us:List QE} (i:Nat),Vals xs us->Vals (xs.set i x) (us.set i u)
 | _,_,_,.nil=>.nil
 | _,_,0,.cons _ t=>.cons r t
 | _,_,i+1,.cons q t=>.cons q (Vals.set r i t)
theorem Vals.append:∀ {xs ys:List V} {us ws:List QE},Vals xs us->Vals ys ws->Vals (xs++ys) (us++ws)
 | _,_,_,_,.nil,s=>s
 | _,_,_,_,.cons r t,s=>.cons r (Vals.append t s)
theorem Vals.take:∀ {xs:List V} {us:List QE} (n:Nat),Vals xs us->Vals (xs.take n) (us.take n)
 | _,_,0,_=>.nil
 | _,_,_+1,.nil=>.nil
 | _,_,n+1,.cons r t=>.cons r (Vals.take n t)
theorem Vals.drop:∀ {xs:List V} {us:List QE} (n:Nat),Vals xs us->Vals (xs.drop n) (us.drop n)
 | _,_,0,r=>r
 | _,_,_+1,.nil=>.nil
 | _,_,n+1,.cons _ t=>Vals.drop n t
def RelO:Option V->Option QE->Prop
 | some v,some u=>RelV v u
 | none,none=>True
 | _,_=>False
def KV {κ:Type}:List (κ×V)->List (κ×QE)->Prop:=Rf fun (p:κ×V) (q:κ×QE)=>p.1=q.1/\RelV p.2 q.2
def kV:Key->V
 | .inl i=>.int i
 | .inr x=>.str x
inductive HO where
 /-- a list -/
 | lst (xs:List V)
 /-- a tuple (never changes) -/
 | tup (xs:List V)
 /-- a dict El keys are ints and texts;one El keys are tuples of ints and texts (zp empty one is both) -/
 | dK (f':List (Key×V)) | dT (f':List (List Key×V))
 /-- a set of ints: its members,its size -/
 | set (S:Int->Bool) (n:Nat)
 /-- an instance of zp class at C,its dict at dx,its attributes -/
 | ins (C dx:QD) (fs:List (Rc×V))
 /-- zp dict of zp instance at x -/
 | own (x:QD)
 /-- zp dict of an exception -/
 | xd (fs:List (Rc×V))
 /-- a bound method,f of x -/
 | met (f x:QD)
 /-- a range object lo,lo+1,.. below hi -/
 | rng (lo hi:Int)
 /-- a thing MH is known to zp object (zp script;a dict while a loop walks it): read,never written while it is so -/
 | frz (o:SQ) (u:HO)
 /-- a code Em table -/
 | tbl (ps:Array QE)
 /-- any other thing,by HK is true of its one object (a def of K1 own: MI a S n:=HO.ext fun h=>..) -/
 | ext (φ:RS->Prop)
abbrev Hp:=QD->Option HO
def upd (H:Hp) (a:QD) (o:HO):Hp:=fun b=>if b=a then some o else H b
theorem ab {H:Hp} {a:QD} {o:HO}:upd H a o a=some o:=by unfold upd;rw [if_pos rfl]
theorem ai {H:Hp} {a b:QD} {o:HO} (h:b≠a):upd H a o b=H b:=by unfold upd;rw [if_neg h]
theorem jj {H:Hp} {a:QD} {o u:HO}:upd (upd H a o) a u=upd H a u:=by
 funext b;unfold upd;split <;> rfl
theorem eX {H:Hp} {a b:QD} {o u:HO} (h:H a=some o) (h':H b=some u) (d:o≠u):a≠b:=by
 intro e;subst e;rw [h] at h';exact d (Q8 h')
theorem aE {H:Hp} {a b:QD} {o:HO} (h:H a=some o) (h':H b=none):a≠b:=by
 intro e;subst e;rw [h] at h';cases h'
section
variable (P:QR) (w:Q3)
def ObjOk (H:Hp) (h:RS) (a:QD):HO->Prop
 | .lst xs=>xs.length<=QW/\∃ (its:List QE) (n:Nat),Vals xs its/\h.get? a=some { cls:=.type "list",data:=.seq its.toArray n }
 | .tup xs=>xs.length<=QW/\∃ (its:List QE) (n:Nat),Vals xs its/\h.get? a=some { cls:=.type "tuple",data:=.seq its.toArray n }
 | .dK f'=>f'.length<=QW/\(a == Sv)=false/\∃ vs,KV f' vs/\h.DictOf (aB P w) a vs
 | .dT f'=>f'.length<=QW/\(a == Sv)=false/\∃ xs:List (List Key×QD×QE),
  Rf (fun (p:List Key×V) (q:List Key×QD×QE)=>p.1=q.1/\H q.2.1=some (.tup (p.1.map kV))/\RelV p.2 q.2.2) f' xs ∧
  ∃ o es ep,h.get? a=some o/\o.ExactDict/\o.data=.dict es ep/\es.toList=xs.map (entryOfKey (VN (aB P w)))/\(xs.map (·.1)).Nodup
 | .set S n=>h.SetOf (intKind P w) a S n
 | .ins C dx fs=>H dx=some (.own a)/\fs.length<=1000/\dx≠a/\h.get? a=some (PySem.W.instObj C dx) ∧
  ∃ mA,h.Ns1 dx mA/\(∀ f,RelO (fs.lookup f) (mA f))/\PySem.Within mA (fs.map (·.1))
 | .own _=>∃ o,h.get? a=some o
 | .xd fs=>∃ mA,h.Ns1 a mA/\∀ f,RelO (fs.lookup f) (mA f)
 | .rng lo hi=>∃ t u v,h.get? a=some { cls:=.type "range",data:=.fields #[.int lo t,.int hi u,.int 1 v] }
 | .frz o u=>h.get? a=some o/\ObjOk H h a u
 | .tbl ps=>h.get? a=some { cls:=.none,data:=.fields ps }
 | .met f x=>h.get? a=some (Wk (.ref f) (.ref x))
 | .ext φ=>φ h/\(∃ o,h.get? a=some o)/\∀ h1 h2:RS,φ h1->(∀ o,h1.get? a=some o->h2.get? a=some o)->φ h2
def HOk (H:Hp) (h:RS):Prop:=∀ a o,H a=some o->ObjOk P w H h a o
end
section
variable {P:QR} {w:Q3} {H H':Hp} {h h':RS} {a:QD} {o:HO}
theorem ObjOk.lt (x:ObjOk P w H h a o):a<h.objs.size:=by
 cases o with
 | lst xs=>obtain ⟨_,_,_,_,e⟩:=x;exact QT e
 | tup xs=>obtain ⟨_,_,_,_,e⟩:=x;exact QT e
 | dK f'=>obtain ⟨_,_,_,_,o,_,_,e,_⟩:=x;exact QT e
 | dT f'=>obtain ⟨_,_,_,_,o,_,_,e,_⟩:=x;exact QT e
 | set S n=>obtain ⟨o,_,_,_,e,_⟩:=x;exact QT e
 | ins C dx fs=>obtain ⟨_,_,_,e,_⟩:=x;exact QT e
 | own y=>obtain ⟨_,e⟩:=x;exact QT e
 | xd fs=>obtain ⟨_,⟨_,_,_,e,_⟩,_⟩:=x;exact QT e
 | rng lo hi=>obtain ⟨_,_,_,e⟩:=x;exact QT e
 | frz ob u=>obtain ⟨e,_⟩:=x;exact QT e
 | tbl ps=>exact QT (show h.get? a=some _ from x)
 | met f y=>exact QT (show h.get? a=some _ from x)
 | ext φ=>obtain ⟨_,⟨_,e⟩,_⟩:=x;exact QT e
theorem Rf.mapP {α β:Type} {F G:α->β->Prop}:∀ {En:List α} {Eo:List β},Rf F En Eo->(∀ a b,F a b->G a b)->Rf G En Eo
 | _,_,.nil,_=>.nil
 | _,_,.cons r t,f=>.cons (f _ _ r) (Rf.mapP t f)
theorem ObjOk.stay (x:ObjOk P w H h a o) (k:∀ b u,(b=a∨H b=some (.own a))->h.get? b=some u->h'.get? b=some u)
 (ho:∀ b,H b=some (.own a)->H' b=some (.own a)) (ht:∀ b xs,H b=some (.tup xs)->H' b=some (.tup xs)):ObjOk P w H' h' a o:=by
 induction o with
 | lst xs=>obtain ⟨z,its,n,r,e⟩:=x;exact ⟨z,its,n,r,k _ _ (.inl rfl) e⟩
 | tup xs=>obtain ⟨z,its,n,r,e⟩:=x;exact ⟨z,its,n,r,k _ _ (.inl rfl) e⟩
 | dK f'=>obtain ⟨z,y,vs,r,ob,es,ep,e,c⟩:=x;exact ⟨z,y,vs,r,ob,es,ep,k _ _ (.inl rfl) e,c⟩
 | dT f' =>
   obtain ⟨z,y,xs,r,ob,es,ep,e,c⟩:=x;exact ⟨z,y,xs,Rf.mapP r fun p q z=>⟨z.1,ht _ _ z.2.1,z.2.2⟩,ob,es,ep,k _ _ (.inl rfl) e,c⟩
 | set S n=>obtain ⟨ob,es,ep,t,e,c⟩:=x;exact ⟨ob,es,ep,t,k _ _ (.inl rfl) e,c⟩
 | ins C dx fs =>
   obtain ⟨d,z,ne,e,mA,⟨od,es,ep,e2,c⟩,r⟩:=x;exact ⟨ho _ d,z,ne,k _ _ (.inl rfl) e,mA,⟨od,es,ep,k _ _ (.inr d) e2,c⟩,r⟩
 | own y=>obtain ⟨ob,e⟩:=x;exact ⟨ob,k _ _ (.inl rfl) e⟩
 | xd fs=>obtain ⟨mA,⟨od,es,ep,e,c⟩,r⟩:=x;exact ⟨mA,⟨od,es,ep,k _ _ (.inl rfl) e,c⟩,r⟩
 | rng lo hi=>obtain ⟨t,u,v,e⟩:=x;exact ⟨t,u,v,k _ _ (.inl rfl) e⟩
 | frz ob u ih=>obtain ⟨e,q⟩:=x;exact ⟨k _ _ (.inl rfl) e,ih q⟩
 | tbl ps =>
   have e:h.get? a=some { cls:=.none,data:=.fields ps }:=x;show h'.get? a=some { cls:=.none,data:=.fields ps };exact k a _ (.inl rfl) e
 | met f y =>
   have e:h.get? a=some (Wk (.ref f) (.ref y)):=x;show h'.get? a=some (Wk (.ref f) (.ref y));exact k a _ (.inl rfl) e
 | ext φ=>obtain ⟨p,⟨o,e⟩,st⟩:=x;exact ⟨st _ _ p fun o q=>k _ _ (.inl rfl) q,⟨o,k _ _ (.inl rfl) e⟩,st⟩
theorem HOk.lt (x:HOk P w H h) (e:H a=some o):a<h.objs.size:=(x a o e).lt
theorem HOk.fresh (x:HOk P w H h) (e:h.objs.size<=a):H a=none:=by
 cases q:H a with
 | none=>rfl
 | some u=>exact absurd (RB (x.lt q) e) (RY _)
theorem HOk.kept (x:HOk P w H h) (k:∀ b u,h.get? b=some u->h'.get? b=some u):HOk P w H h':=fun a o e =>
 (x a o e).stay (fun b u _ q=>k b u q) (fun _ q=>q) fun _ _ q=>q
theorem HOk.laid (x:HOk P w H h) (k:∀ b u,h.get? b=some u->h'.get? b=some u) (hp:h.objs.size<=a) (new:ObjOk P w (upd H a o) h' a o):HOk P w (upd H a o) h':=fun b u e=>by
 have hn:=x.fresh hp;by_cases hb:b=a
 · subst hb;rw [ab] at e;cases e;exact new
 · rw [ai hb] at e;exact (x b u e).stay (fun c v _ q=>k c v q) (fun c q=>by rw [ai (aE q hn)];exact q) fun c xs q=>by rw [ai (aE q hn)];exact q
end
def Rd (H:Hp) (a:QD) (u:HO):Prop:=H a=some u∨∃ o,H a=some (.frz o u)
theorem Rd.ok {P:QR} {w:Q3} {H:Hp} {h:RS} {a:QD} {u:HO} (r:Rd H a u) (x:HOk P w H h):ObjOk P w H h a u:=by
 rcases r with r | ⟨o,r⟩
 · exact x a u r
 · obtain ⟨_,q⟩:=x a _ r;exact q
def Mut:Option HO->Prop
 | some (.lst _)=>True
 | some (.dK _)=>True
 | some (.dT _)=>True
 | some (.set _ _)=>True
 | some (.ins _ _ _)=>True
 | some (.ext _)=>True
 | _=>False
section
variable {P:QR} {w:Q3} {H:Hp} {h h':RS} {x e:QD} {o':HO}
theorem HOk.write (ok:HOk P w H h) (mu:Mut (H x)) (he:e=x∨H e=some (.own x)) (k:∀ b u,b≠e->h.get? b=some u->h'.get? b=some u) (DX:∃ u,h'.get? e=some u)
 (new:ObjOk P w (upd H x o') h' x o'):HOk P w (upd H x o') h':=fun b u q=>by
 have Ep:∀ c y,H c=some (.own y)->c≠x:=fun c y r z=>by subst z;rw [r] at mu;exact mu
 have HL:∀ c xs,H c=some (.tup xs)->c≠x:=fun c xs r z=>by subst z;rw [r] at mu;exact mu
 by_cases hb:b=x
 · subst hb;rw [ab] at q;cases q;exact new
 · rw [ai hb] at q;by_cases zT:b=e
   · have q':H b=some (.own x):=by
      rcases he with z | z
      · exact absurd (zT.trans z) hb
      · rw [zT];exact z
     rw [q] at q';cases q';obtain ⟨v,hv⟩:=DX;exact ⟨v,by rw [zT];exact hv⟩
   · refine (ok b u q).stay (fun c v hc r=>k c v ?_ r) (fun c r=>by rw [ai (Ep c b r)];exact r) fun c xs r=>by rw [ai (HL c xs r)];exact r
     rcases hc with rfl | hc
     · exact zT
     · rintro rfl;rcases he with z | z
       · exact Ep c b hc z
       · rw [hc] at z;cases z;exact hb rfl
end
structure Un (fs ex:List QD) (H H':Hp) (h h':RS):Prop where
 keep:∀ b o,h.get? b=some o->H b=none->b∉fs->b∉ex->h'.get? b=some o
 slot:∀ b o,h.get? b=some o->H b=none->b∈fs->b∉ex->∃ sl,h'.get? b=some { o with slots:=sl }
 free:∀ b o,h.get? b=some o->H b=none->b∉ex->H' b=none
 there:∀ b o,h.get? b=some o->b∉ex->∃ o',h'.get? b=some o'
 tups:∀ b xs,H b=some (.tup xs)->H' b=some (.tup xs)
 frzs:∀ b o u,H b=some (.frz o u)->H' b=some (.frz o u)
 tbls:∀ b ps,H b=some (.tbl ps)->∃ more,H' b=some (.tbl (ps++more))
section
variable {fs MJ ex Px:List QD} {H H1 H2:Hp} {h h1 h2 h':RS} {a x e:QD} {o:HO}
theorem Un.any (u:Un fs ex H H1 h h1) {b:QD} {ob:SQ} (q:h.get? b=some ob) (n:H b=none) (hx:b∉ex):∃ sl,h1.get? b=some { ob with slots:=sl }:=by
 by_cases hb:b∈fs
 · exact u.slot b ob q n hb hx
 · exact ⟨ob.slots,u.keep b ob q n hb hx⟩
theorem Un.kept (k:∀ b u,h.get? b=some u->h'.get? b=some u):Un fs ex H H h h' :=
 ⟨fun b ob q _ _ _=>k b ob q,fun b ob q _ _ _=>⟨ob.slots,k b ob q⟩,fun _ _ _ n _=>n,fun b ob q _=>⟨ob,k b ob q⟩,fun _ _ q=>q,fun _ _ _ q=>q,fun _ ps q=>⟨#[],by rw [q];simp⟩⟩
theorem Un.refl:Un fs ex H H h h:=Un.kept fun _ _ q=>q
theorem Un.laid (k:∀ b u,h.get? b=some u->h'.get? b=some u) (hp:h.objs.size<=a) (hn:H a=none):Un fs ex H (upd H a o) h h' where
 keep:=fun b u q _ _ _=>k b u q
 slot:=fun b u q _ _ _=>⟨u.slots,k b u q⟩
 free:=fun b u q n _=>by rw [ai (Rh (RB (QT q) hp))];exact n
 there:=fun b u q _=>⟨u,k b u q⟩
 tups:=fun b xs q=>by rw [ai (aE q hn)];exact q
 frzs:=fun b u xs q=>by rw [ai (aE q hn)];exact q
 tbls:=fun b ps q=>⟨#[],by rw [ai (aE q hn),q];simp⟩
theorem Un.write (mu:Mut (H x)) (he:e=x∨H e=some (.own x)) (k:∀ b u,b≠e->h.get? b=some u->h'.get? b=some u) (DX:∃ u,h'.get? e=some u):Un fs ex H (upd H x o) h h':=by
 have hx:∀ b,H b=none->b≠x:=fun b n z=>by subst z;rw [n] at mu;exact mu
 have hb:∀ b,H b=none->b≠e:=fun b n z=>by
  subst z;rcases he with r | r
  · exact hx b n r
  · rw [n] at r;cases r
 have hm:∀ b u,H b=some u->¬ Mut (some u)->b≠x:=fun b u q nm z=>by subst z;rw [q] at mu;exact nm mu
 refine ⟨fun b u q n _ _=>k b u (hb b n) q,fun b u q n _ _=>⟨u.slots,k b u (hb b n) q⟩,fun b u q n _=>by rw [ai (hx b n)];exact n,fun b u q _=>?_,
  fun b xs q=>by rw [ai (hm b _ q fun z=>z)];exact q,fun b u xs q=>by rw [ai (hm b _ q fun z=>z)];exact q,fun b ps q=>⟨#[],by rw [ai (hm b _ q fun z=>z),q];simp⟩⟩
 by_cases zT:b=e
 · subst zT;exact DX
 · exact ⟨u,k b u zT q⟩
end
def trk (h:RS) (H:Hp):List QD:=(Rl h.objs.size).filter fun a=>(H a).isSome
def mr (h:RS) (H:Hp):RS:=PySem.W.hideAll h (trk h H)
theorem qu (h:RS) (H:Hp):(mr h H).objs.size=h.objs.size:=PySem.W.hideAll_size _ _
theorem rn {h:RS} {H:Hp} {b:QD} {o:SQ} (e:h.get? b=some o) (n:H b=none):(mr h H).get? b=some o :=
 PySem.W.hideAll_get _ e fun hm=>by
  have q:(H b).isSome=true:=(Tq.mp hm).2;rw [n] at q;simp at q
theorem sR {h:RS} {H:Hp} {b:QD} {o:SQ} (e:(mr h H).get? b=some o):h.get? b=some o/\H b=none:=by
 have e':h.get? b=some o:=PySem.W.of_hideAll (trk h H) e;refine ⟨e',?_⟩;cases q:H b with
 | none=>rfl
 | some x =>
   have hm:b∈trk h H:=Tq.mpr ⟨TC.mpr (QT e'),by simp [q]⟩;have z:(mr h H).get? b=none:=PySem.W.hideAll_none (trk h H) hm;rw [z] at e;cases e
end L2
namespace L2
open PySem PySem.Spec PyProof.Rows
structure Mod (K:QB) (mg:Rc->Option QE) (base:RS):Prop where
 kin:K.In base
 glob:base.Ns Rp mg
 blt:∃ mb,base.Ns builtinsNs mb/\∀ x:Rc,x≠"__name__"->mb x=Vn x
 nolimit:base.NoLimit
set_option genInjectivity true in
structure Cx where
 prog:QR
 w:Q3
 K:QB
 mg:Rc->Option QE
 base:RS
 A:Rr
 N:List Rc
 s₀:QJ
 H₀:Hp
 env:Env
 outer:List Env
 stack:List Env
 ex:List QD
 fn:Rc->Bool
 calm:Bool
 pn:List (QD×SQ)
 xe:QE->QJ->Prop
def frs (l:List Env):List QD:=l.filterMap (·.frame)
abbrev Cx.fs (X:Cx):List QD:=frs X.outer
def Vis (sc:UR) (x:Rc):Prop:=sc.names.lookup x=some .local∨sc.names.lookup x=some .cell∨sc.names.lookup x=some .free
def Loc (sc:UR) (x:Rc):Prop:=sc.names.lookup x=some .local∨sc.names.lookup x=some .cell
def Look (env:Env) (h:RS) (m:Rc->Option QE) (x:Rc) (u:QE):Prop :=
 (env.kindOf x=some .local/\m x=some u)∨((env.kindOf x=some .cell∨env.kindOf x=some .free)/\∃ c,env.cells.lookup x=some c/\h.IsCell c (some u))
structure Cx.Ok (X:Cx):Prop where
 mod:Mod X.K X.mg X.base
 kind:X.env.scope.kind=.function
 glob:X.env.globals=Rp
 blt:X.env.builtins=builtinsNs
 above:X.s₀.heap.objs.size<=X.env.locals
 inj:∀ x y c,X.env.cells.lookup x=some c->X.env.cells.lookup y=some c->x=y
 has:∀ x,(X.env.kindOf x=some .cell∨X.env.kindOf x=some .free)->∃ c,X.env.cells.lookup x=some c
 cab:∀ x c,X.fn x=true->X.env.cells.lookup x=some c->X.s₀.heap.objs.size<=c
 hd:X.calm=true->X.A.handled=none
 frames:X.A.frames=some X.stack
 stk:X.stack=X.outer∨(X.stack=X.env::X.outer/\X.env.frame=some X.env.locals)
 exf:∀ b∈X.ex,b≠X.env.locals/\∀ x c,X.env.cells.lookup x=some c->c≠b
 bs:∀ b o,X.base.get? b=some o->X.s₀.heap.get? b=some o/\X.H₀ b=none
 bsz:X.base.objs.size<=X.s₀.heap.objs.size
 noex:∀ b o,X.base.get? b=some o->b∉X.ex
 exfs:∀ b∈X.ex,b∉X.fs
 funs:X.s₀.heap.FunFrames X.base X.outer
 frf:∀ b∈X.fs,X.H₀ b=none
structure Inv (X:Cx) (pins:List (QD×SQ)) (σ:List (Option V)) (H:Hp) (s:QJ):Prop where
 ok:X.Ok
 os:s.os=X.s₀.os
 bare:AllBare s.gens
 base:Un X.fs X.ex X.H₀ H X.s₀.heap s.heap
 loc:∃ m,s.heap.Ns X.env.locals m/\∀ (i:Nat) (x:Rc) (v:V),X.N[i]?=some x->σ[i]?=some (some v)->Vis X.env.scope x->∃ u,RelV v u/\Look X.env s.heap m x u
 cell:∀ x c,X.env.cells.lookup x=some c->∃ v,s.heap.IsCell c v
 free:H X.env.locals=none
 freeC:∀ x c,X.env.cells.lookup x=some c->H c=none
 pin:∀ p∈X.pn++pins,s.heap.get? p.1=some p.2/\H p.1=none/\p.1≠X.env.locals/\p.1∉X.fs/\∀ v,p.2.data≠.cell v
 hok:HOk X.prog X.w H s.heap
 len:σ.length=X.N.length
section
variable {X:Cx} {pins:List (QD×SQ)} {σ:List (Option V)} {H H':Hp} {s:QJ} {h':RS}
theorem Cx.Ok.nofr (ok:X.Ok) {b:QD} {o:SQ} (e:X.base.get? b=some o):b∉X.fs:=fun hb=>by
 have:=(ok.funs.mem hb).1;rw [e] at this;cases this
theorem Inv.bs (I:Inv X pins σ H s):∀ b o,X.base.get? b=some o->s.heap.get? b=some o/\H b=none:=fun b o e =>
 ⟨I.base.keep b o (I.ok.bs b o e).1 (I.ok.bs b o e).2 (I.ok.nofr e) (I.ok.noex b o e),I.base.free b o (I.ok.bs b o e).1 (I.ok.bs b o e).2 (I.ok.noex b o e)⟩
theorem Inv.bk (I:Inv X pins σ H s):∀ b o,X.base.get? b=some o->s.heap.get? b=some o:=fun b o e=>(I.bs b o e).1
theorem Inv.mod (I:Inv X pins σ H s):Mod X.K X.mg X.base:=I.ok.mod
theorem Inv.kIn (I:Inv X pins σ H s):X.K.In s.heap:=I.ok.mod.kin.keeps I.bk
theorem Inv.lt (I:Inv X pins σ H s):X.env.locals<s.heap.objs.size:=let ⟨_,hn,_⟩:=I.loc;hn.lt
theorem Inv.sz (I:Inv X pins σ H s):X.s₀.heap.objs.size<=s.heap.objs.size:=Sn I.ok.above (Ui I.lt)
theorem Inv.nofs (I:Inv X pins σ H s) {a:QD} (h:s.heap.objs.size<=a):a∉X.fs:=fun hb=>by
 obtain ⟨_,o,ho,_⟩:=I.ok.funs.mem hb;exact absurd (RB (QT ho) (Sn I.sz h)) (RY _)
theorem Inv.cne (I:Inv X pins σ H s):∀ x c,X.env.cells.lookup x=some c->c≠X.env.locals:=fun x c e z=>by
 obtain ⟨v,o,ho,hd⟩:=I.cell x c e;obtain ⟨m,⟨o',es,ep,yC,yj,_⟩,_⟩:=I.loc;rw [z,yC] at ho;cases ho;rw [yj] at hd;cases hd
theorem Inv.funs (I:Inv X pins σ H s):s.heap.FunFrames X.base X.outer:=by
 have all:∀ (l:List Env),(∀ b∈frs l,b∈X.fs)->X.s₀.heap.FunFrames X.base l->s.heap.FunFrames X.base l:=by
  intro l;induction l with
  | nil=>intro _ _;trivial
  | cons env r ih =>
    intro hs hl;obtain ⟨hk,⟨L,o,hf,hn,ho,hd⟩,hr⟩:=hl;have hL:L∈X.fs:=hs L (by unfold frs;rw [Um,hf];exact Q6);obtain ⟨sl,e⟩:=I.base.slot L o ho (I.ok.frf L hL) hL fun z=>I.ok.exfs L z hL;exact ⟨hk,⟨L,_,hf,hn,e,hd⟩,ih (fun b hb=>hs b (by unfold frs;rw [Um,hf];exact Q1 _ hb)) hr⟩
 exact all X.outer (fun _ hb=>hb) I.ok.funs
theorem Inv.stack (I:Inv X pins σ H s):s.heap.FunFrames X.base X.stack:=by
 rcases I.ok.stk with e | ⟨e,hf⟩
 · rw [e];exact I.funs
 · rw [e];obtain ⟨m,hn,_⟩:=I.loc;refine .cons (by rw [I.ok.kind];decide) hf hn ?_ I.funs;exact Heap.get?_none_of_le (Sn I.ok.bsz I.ok.above)
theorem Inv.stkSub (I:Inv X pins σ H s):∀ b∈frs X.stack,b∈X.env.locals::X.fs:=fun b hb=>by
 rcases I.ok.stk with e | ⟨e,hf⟩
 · rw [e] at hb;exact Q1 _ hb
 · rw [e] at hb;unfold frs at hb;rw [Um,hf] at hb;exact hb
theorem Inv.stkFree (I:Inv X pins σ H s):∀ b∈frs X.stack,H b=none:=fun b hb=>by
 rcases QZ.mp (I.stkSub b hb) with e | hb
 · rw [e];exact I.free
 · obtain ⟨_,o,ho,_⟩:=I.ok.funs.mem hb;exact I.base.free b o ho (I.ok.frf b hb) fun z=>I.ok.exfs b z hb
theorem Inv.step {g':Array GenState} {t':Nat} {d':Drawn} {ch:List QD} (I:Inv X pins σ H s)
 (Br:∀ b∈ch,(b∈X.ex∨X.s₀.heap.objs.size<=b)/\b≠X.env.locals/\(∀ x c,X.env.cells.lookup x=some c->c≠b)/\∀ p∈X.pn++pins,p.1≠b)
 (keep:∀ b o,b≠X.env.locals->b∉X.fs->b∉ch->s.heap.get? b=some o->H b=none->h'.get? b=some o)
 (slot:∀ b o,b≠X.env.locals->b∈X.fs->b∉ch->s.heap.get? b=some o->H b=none->∃ sl,h'.get? b=some { o with slots:=sl }) (free:∀ b o,b∉ch->s.heap.get? b=some o->H b=none->H' b=none)
 (there:∀ b o,b∉ch->s.heap.get? b=some o->∃ o',h'.get? b=some o')
 (tups:∀ b xs,H b=some (.tup xs)->H' b=some (.tup xs)) (frzs:∀ b o u,H b=some (.frz o u)->H' b=some (.frz o u)) (tbls:∀ b ps,H b=some (.tbl ps)->∃ more,H' b=some (.tbl (ps++more)))
 (ns:∀ m,s.heap.Ns X.env.locals m->h'.Ns X.env.locals m) (hok:HOk X.prog X.w H' h') (hg:AllBare g') :
 Inv X pins σ H' { s with heap:=h',gens:=g',drawn:=d',toks:=t' }:=by
 have K2:∀ b o,X.s₀.heap.get? b=some o->b≠X.env.locals:=fun b o e=>Rh (RB (QT e) I.ok.above)
 have GK:∀ b o,X.s₀.heap.get? b=some o->b∉X.ex->b∉ch:=fun b o e hx hb=>by
  rcases (Br b hb).1 with z | z
  · exact hx z
  · exact absurd (RB (QT e) z) (RY _)
 have cellK:∀ x c,X.env.cells.lookup x=some c->∀ v,s.heap.IsCell c v->h'.IsCell c v:=fun x c e v ⟨o,ho,hd⟩=>by
  have Er:c∉ch:=fun z=>(Br c z).2.2.1 x c e rfl;by_cases hc:c∈X.fs
  · obtain ⟨sl,q⟩:=slot c o (I.cne x c e) hc Er ho (I.freeC x c e);exact ⟨_,q,hd⟩
  · exact ⟨o,keep c o (I.cne x c e) hc Er ho (I.freeC x c e),hd⟩
 refine ⟨I.ok,I.os,hg,⟨fun b o e n hb hx=>?_,fun b o e n hb hx=>?_,fun b o e n hx=>?_,fun b o e hx=>?_,fun b xs e=>tups b xs (I.base.tups b xs e),fun b o xs e=>frzs b o xs (I.base.frzs b o xs e),fun b ps e=>?_⟩,?_,fun x c e=>?_,?_,fun x c e=>?_,fun p hp=>?_,hok,I.len⟩
 · exact keep b o (K2 b o e) hb (GK b o e hx) (I.base.keep b o e n hb hx) (I.base.free b o e n hx)
 · obtain ⟨sl,e1⟩:=I.base.slot b o e n hb hx;obtain ⟨MK,e2⟩:=slot b _ (K2 b o e) hb (GK b o e hx) e1 (I.base.free b o e n hx);exact ⟨MK,e2⟩
 · obtain ⟨o',e1⟩:=I.base.there b o e hx;exact free b o' (GK b o e hx) e1 (I.base.free b o e n hx)
 · obtain ⟨o',e1⟩:=I.base.there b o e hx;exact there b o' (GK b o e hx) e1
 · obtain ⟨m1,e1⟩:=I.base.tbls b ps e;obtain ⟨m2,e2⟩:=tbls b _ e1;exact ⟨m1++m2,by rw [e2,Array.append_assoc]⟩
 · obtain ⟨m,hn,hl⟩:=I.loc;refine ⟨m,ns m hn,fun i x v e1 e2 e3=>?_⟩;obtain ⟨u,r,l⟩:=hl i x v e1 e2 e3;refine ⟨u,r,?_⟩;rcases l with l | ⟨k,c,e,z⟩
   · exact .inl l
   · exact .inr ⟨k,c,e,cellK x c e _ z⟩
 · obtain ⟨v,z⟩:=I.cell x c e;exact ⟨v,cellK x c e v z⟩
 · obtain ⟨m,⟨o,_,_,ho,_⟩,_⟩:=I.loc;exact free _ o (fun z=>(Br _ z).2.1 rfl) ho I.free
 · obtain ⟨v,o,ho,hd⟩:=I.cell x c e;exact free c o (fun z=>(Br c z).2.2.1 x c e rfl) ho (I.freeC x c e)
 · obtain ⟨e,n,ne,nf,d⟩:=I.pin p hp;have Er:p.1∉ch:=fun z=>(Br p.1 z).2.2.2 p hp rfl;exact ⟨keep p.1 p.2 ne nf Er e n,free p.1 p.2 Er e n,ne,nf,d⟩
theorem Inv.un {t':Nat} (I:Inv X pins σ H s) (u:Un X.fs [] H H' s.heap h') (hok:HOk X.prog X.w H' h'):Inv X pins σ H' { s with heap:=h',toks:=t' }:=by
 obtain ⟨m,⟨o,es,ep,ho,r⟩,_⟩:=id I.loc;obtain ⟨sl,hL⟩:=u.any ho I.free (by simp)
 exact I.step (g':=s.gens) (d':=s.drawn) (ch:=[]) (fun _ z=>nomatch z) (fun b o _ hb _ e n=>u.keep b o e n hb (by simp)) (fun b o _ hb _ e n=>u.slot b o e n hb (by simp)) (fun b o _ e n=>u.free b o e n (by simp)) (fun b o _ e=>u.there b o e (by simp)) u.tups u.frzs u.tbls (fun m' hm=>by
  obtain ⟨o',HM,HN,yC,r'⟩:=hm;rw [ho] at yC;cases yC;exact ⟨_,HM,HN,hL,r'⟩) hok I.bare
theorem Inv.call {g':Array GenState} {t':Nat} {d':Drawn} {ch:List QD} (I:Inv X pins σ H s) (u:Un (frs X.stack) ch H H' s.heap h') (hok:HOk X.prog X.w H' h') (hg:AllBare g')
 (Br:∀ b∈ch,(b∈X.ex∨X.s₀.heap.objs.size<=b)/\b≠X.env.locals/\(∀ x c,X.env.cells.lookup x=some c->c≠b)/\∀ p∈X.pn++pins,p.1≠b) :
 Inv X pins σ H' { s with heap:=h',gens:=g',drawn:=d',toks:=t' }:=by
 obtain ⟨m,⟨o,es,ep,ho,r⟩,_⟩:=id I.loc;obtain ⟨sl,hL⟩:=u.any ho I.free fun z=>(Br _ z).2.1 rfl
 exact I.step (ch:=ch) Br (fun b o hL hb hc e n=>u.keep b o e n (fun z=>(QZ.mp (I.stkSub b z)).elim hL hb) hc) (fun b o _ _ hc e n=>u.any e n hc) (fun b o hc e n=>u.free b o e n hc) (fun b o hc e=>u.there b o e hc) u.tups u.frzs u.tbls (fun m' hm=>by
  obtain ⟨o',HM,HN,yC,r'⟩:=hm;rw [ho] at yC;cases yC;exact ⟨_,HM,HN,hL,r'⟩) hok hg
theorem Inv.turned {t':Nat} {it:QD} (I:Inv X pins σ H s) (k:∀ b o,b≠it->s.heap.get? b=some o->h'.get? b=some o) (hn:H it=none) (hL:it≠X.env.locals)
 (h1:it∈X.ex∨X.s₀.heap.objs.size<=it) (h2:∀ x c,X.env.cells.lookup x=some c->c≠it) (h3:∀ p∈X.pn++pins,p.1≠it):Inv X pins σ H { s with heap:=h',toks:=t' }:=by
 have Es:∀ b u,H b=some u->b≠it:=fun b u e z=>by rw [z,hn] at e;cases e
 refine I.step (g':=s.gens) (d':=s.drawn) (ch:=[it]) (fun b hb=>?_) (fun b o _ _ hc e _=>k b o (fun z=>hc (by simp [z])) e) (fun b o _ _ hc e _=>⟨o.slots,k b o (fun z=>hc (by simp [z])) e⟩) (fun _ _ _ _ n=>n)
  (fun b o hc e=>⟨o,k b o (fun z=>hc (by simp [z])) e⟩) (fun _ _ e=>e) (fun _ _ _ e=>e) (fun b ps e=>⟨#[],by rw [e];simp⟩) (fun m hm=>?_) (fun b u e=>?_) I.bare
 · have e:b=it:=by simpa using hb
   subst e;exact ⟨h1,hL,h2,h3⟩
 · obtain ⟨o,es,ep,ho,r⟩:=hm;exact ⟨o,es,ep,k _ o (Sr hL) ho,r⟩
 · refine (I.hok b u e).stay (fun c v hc q=>k c v ?_ q) (fun _ q=>q) fun _ _ q=>q;rcases hc with z | z
   · rw [z];exact Es b u e
   · exact Es c _ z
theorem Inv.tok (I:Inv X pins σ H s) (t:Nat):Inv X pins σ H { s with toks:=t }:=I.un (h':=s.heap) (t':=t) Un.refl I.hok
theorem Inv.kept {t':Nat} (I:Inv X pins σ H s) (k:∀ b u,s.heap.get? b=some u->h'.get? b=some u):Inv X pins σ H { s with heap:=h',toks:=t' }:=I.un (Un.kept k) (I.hok.kept k)
theorem Inv.laid {a:QD} {o:HO} {t':Nat} (I:Inv X pins σ H s) (k:∀ b u,s.heap.get? b=some u->h'.get? b=some u) (hp:s.heap.objs.size<=a) (new:ObjOk X.prog X.w (upd H a o) h' a o) :
 Inv X pins σ (upd H a o) { s with heap:=h',toks:=t' }:=I.un (Un.laid k hp (I.hok.fresh hp)) (I.hok.laid k hp new)
theorem Inv.write {x e:QD} {o:HO} {t':Nat} (I:Inv X pins σ H s) (mu:Mut (H x)) (he:e=x∨H e=some (.own x)) (k:∀ b u,b≠e->s.heap.get? b=some u->h'.get? b=some u) (DX:∃ u,h'.get? e=some u)
 (new:ObjOk X.prog X.w (upd H x o) h' x o):Inv X pins σ (upd H x o) { s with heap:=h',toks:=t' }:=I.un (Un.write mu he k DX) (I.hok.write mu he k DX new)
theorem Inv.weak {wH:List (Option V)} (I:Inv X pins σ H s) (hl:wH.length=σ.length) (w:∀ (i:Nat) v,wH[i]?=some (some v)->σ[i]?=some (some v)):Inv X pins wH H s :=
 ⟨I.ok,I.os,I.bare,I.base,let ⟨m,hn,HP⟩:=I.loc;⟨m,hn,fun i x v e1 e2 e3=>HP i x v e1 (w i v e2) e3⟩,I.cell,I.free,I.freeC,I.pin,I.hok,hl.trans I.len⟩
theorem Inv.pins_of {Ca:List (QD×SQ)} (I:Inv X pins σ H s) (h:∀ p∈Ca,s.heap.get? p.1=some p.2/\H p.1=none/\p.1≠X.env.locals/\p.1∉X.fs/\∀ v,p.2.data≠.cell v):Inv X Ca σ H s :=
 ⟨I.ok,I.os,I.bare,I.base,I.loc,I.cell,I.free,I.freeC,fun p hp=>(Rv.mp hp).elim (fun z=>I.pin p (RC _ z)) (h p),I.hok,I.len⟩
theorem m3 {N:List Rc} (hN:N.Nodup) {i j:Nat} {x:Rc} (a:N[i]?=some x) (b:N[j]?=some x):i=j:=by
 obtain ⟨h1,e1⟩:=QL.mp a;obtain ⟨h2,e2⟩:=QL.mp b;exact (List.getElem_inj hN).mp (e1.trans e2.symm)
theorem ld {M:Model} {A:Rr} {E:QE->QJ->Prop} {i:Nat} {x:Rc} {v:V} {u:QE} {Q:Unit->QJ->Prop} (I:Inv X pins σ H s) (hN:X.N.Nodup) (hi:X.N[i]?=some x) (hx:Loc X.env.scope x) (r:RelV v u)
 (h:∀ s',Inv X pins (σ.set i (some v)) H s'->(∃ a,Ss a s.heap s'.heap/\(a=X.env.locals∨X.env.cells.lookup x=some a))->Q () s') (hf:X.fn x=true∨X.env.scope.names.lookup x=some .local:=by first | exact .inl rfl | exact .inr rfl | assumption):QU M A (storeName X.env x u) Q E s:=by
 obtain ⟨m,hn,hl⟩:=id I.loc;have HQ:(X.env.scope.kind == .class || (X.env.scope.kind == .module && X.env.locals != X.env.globals))=false:=by rw [I.ok.kind];rfl
 have Et:i<σ.length:=by rw [I.len];exact (QL.mp hi).1
 have cne:=I.cne
 have tracked:∀ {a:QD} {h':RS},(∃ o,s.heap.get? a=some o/\H a=none)->Ss a s.heap h'->HOk X.prog X.w H h':=fun {a h'} ha hs b ob e=>by
  obtain ⟨_,_,Cb⟩:=ha;refine (I.hok b ob e).stay (fun c w' hc q=>(hs.2 c ?_).trans q) (fun _ q=>q) fun _ _ q=>q;rintro rfl;rcases hc with rfl | hc
  · rw [Cb] at e;cases e
  · rw [Cb] at hc;cases hc
 rcases hx with hk | hk
 · refine wpAny_storeName_local hk hn (fun h' ML hs=>?_) HQ;obtain ⟨oL,_,_,MM,_⟩:=id hn;refine h _ ⟨I.ok,I.os,I.bare,⟨fun b o e n hb hx=>?_,fun b o e n hb hx=>?_,I.base.free,fun b o e hx=>?_,I.base.tups,I.base.frzs,I.base.tbls⟩,⟨_,ML,fun j y v' e1 e2 e3=>?_⟩,fun y c e=>?_,I.free,I.freeC,fun p hp=>?_,tracked ⟨oL,MM,I.free⟩ hs,by simpa using I.len⟩ ⟨_,hs,.inl rfl⟩
   · exact (hs.2 b (Rh (RB (QT e) I.ok.above))).trans (I.base.keep b o e n hb hx)
   · obtain ⟨sl,e1⟩:=I.base.slot b o e n hb hx;exact ⟨sl,(hs.2 b (Rh (RB (QT e) I.ok.above))).trans e1⟩
   · obtain ⟨o',e1⟩:=I.base.there b o e hx;exact ⟨o',(hs.2 b (Rh (RB (QT e) I.ok.above))).trans e1⟩
   · by_cases hj:j=i
     · subst hj;rw [hi] at e1;cases e1;rw [List.getElem?_set_self Et] at e2;cases e2;exact ⟨u,r,.inl ⟨hk,by simp⟩⟩
     · rw [VS (Sr hj)] at e2;obtain ⟨u',r',q⟩:=hl j y v' e1 e2 e3;refine ⟨u',r',?_⟩;rcases q with ⟨k,e⟩ | ⟨k,c,e,z⟩
       · refine .inl ⟨k,?_⟩;have:y≠x:=fun e=>hj (m3 hN e1 (e ▸ hi));simp [this,e]
       · exact .inr ⟨k,c,e,z.sameBut hs (cne y c e)⟩
   · obtain ⟨w',z⟩:=I.cell y c e;exact ⟨w',z.sameBut hs (cne y c e)⟩
   · obtain ⟨e,n,ne,nf,d⟩:=I.pin p hp;exact ⟨(hs.2 p.1 ne).trans e,n,ne,nf,d⟩
 · have CO:X.fn x=true:=by
    rcases hf with z | z
    · exact z
    · rw [z] at hk;cases hk
   obtain ⟨c,hc⟩:=I.ok.has x (.inl hk);obtain ⟨w',z⟩:=I.cell x c hc;refine wpAny_storeName_cell I.ok.kind hk hc z (fun h' xV hs=>?_);obtain ⟨oc,K3,HR⟩:=id z;refine h { s with heap:=h' } ⟨I.ok,I.os,I.bare,⟨fun b o e n hb hx=>?_,fun b o e n hb hx=>?_,I.base.free,fun b o e hx=>?_,I.base.tups,I.base.frzs,I.base.tbls⟩,⟨m,hn.sameBut hs (Sr (cne x c hc)),fun j y v' e1 e2 e3=>?_⟩,fun y c' e=>?_,I.free,I.freeC,fun p hp=>?_,tracked ⟨oc,K3,I.freeC x c hc⟩ hs,by simpa using I.len⟩ ⟨c,hs,.inr hc⟩
   · exact (hs.2 b (Rh (RB (QT e) (I.ok.cab x c CO hc)))).trans (I.base.keep b o e n hb hx)
   · obtain ⟨sl,e1⟩:=I.base.slot b o e n hb hx;exact ⟨sl,(hs.2 b (Rh (RB (QT e) (I.ok.cab x c CO hc)))).trans e1⟩
   · obtain ⟨o',e1⟩:=I.base.there b o e hx;exact ⟨o',(hs.2 b (Rh (RB (QT e) (I.ok.cab x c CO hc)))).trans e1⟩
   · by_cases hj:j=i
     · subst hj;rw [hi] at e1;cases e1;rw [List.getElem?_set_self Et] at e2;cases e2;exact ⟨u,r,.inr ⟨.inl hk,c,hc,xV⟩⟩
     · rw [VS (Sr hj)] at e2;obtain ⟨u',r',q⟩:=hl j y v' e1 e2 e3;refine ⟨u',r',?_⟩;rcases q with q | ⟨k,c',e,z'⟩
       · exact .inl q
       · refine .inr ⟨k,c',e,z'.sameBut hs ?_⟩;rintro rfl;exact hj (m3 hN e1 (I.ok.inj _ _ _ e hc ▸ hi))
   · by_cases CP:c'=c
     · subst CP;exact ⟨_,xV⟩
     · obtain ⟨w2,z2⟩:=I.cell y c' e;exact ⟨w2,z2.sameBut hs CP⟩
   · obtain ⟨e,n,ne,nf,d⟩:=I.pin p hp;refine ⟨(hs.2 p.1 ?_).trans e,n,ne,nf,d⟩;intro q;rw [q,K3] at e;have q':oc=p.2:=Q8 e;exact d w' (by rw [<- q'];exact HR)
theorem jX {M:Model} {A:Rr} {E:QE->QJ->Prop} {i:Nat} {x:Rc} {v:V} {u:QE} {Q:Unit->QJ->Prop} (I:Inv X pins σ H s) (hN:X.N.Nodup) (hi:X.N[i]?=some x) (hx:Loc X.env.scope x) (r:RelV v u)
 (h:∀ s',Inv X pins (σ.set i (some v)) H s'->Q () s') (hf:X.fn x=true∨X.env.scope.names.lookup x=some .local:=by first | exact .inl rfl | exact .inr rfl | assumption):QU M A (storeName X.env x u) Q E s :=
 ld I hN hi hx r (fun s' I' _=>h s' I') hf
theorem Inv.call' {s':QJ} {ch:List QD} (I:Inv X pins σ H s) (ho:s'.os=s.os) (u:Un (frs X.stack) ch H H' s.heap s'.heap) (hok:HOk X.prog X.w H' s'.heap) (hg:AllBare s'.gens)
 (Br:∀ b∈ch,(b∈X.ex∨X.s₀.heap.objs.size<=b)/\b≠X.env.locals/\(∀ x c,X.env.cells.lookup x=some c->c≠b)/\∀ p∈X.pn++pins,p.1≠b):Inv X pins σ H' s':=by
 obtain ⟨h',g',d',t',o'⟩:=s';have e:o'=s.os:=ho;subst e;exact I.call (g':=g') (t':=t') (d':=d') u hok hg Br
end
abbrev XK:=QE->Option QD->Hp->Prop
abbrev St:=List (Option V)
abbrev VK:=V->Hp->Prop
abbrev TE:=St->Hp->VK->Prop
abbrev TT:=St->Hp->(Bool->Hp->Prop)->Prop
abbrev TA:=St->Hp->(List V->Hp->Prop)->Prop
structure Ends where
 nx:St->Hp->Prop
 rt:VK
 bk:St->Hp->Prop:=fun _ _=>False
 ct:St->Hp->Prop:=fun _ _=>False
abbrev TS:=Ends->St->Hp->Prop
def EP (X:Cx) (pins:List (QD×SQ)) (σ:St) (Q:VK) (u:QE) (s':QJ):Prop:=∃ v H',Inv X pins σ H' s'/\RelV v u/\Q v H'
def TP (X:Cx) (pins:List (QD×SQ)) (σ:St) (Q:Bool->Hp->Prop) (b:Bool) (s':QJ):Prop:=∃ H',Inv X pins σ H' s'/\Q b H'
def AP (X:Cx) (pins:List (QD×SQ)) (σ:St) (Q:List V->Hp->Prop) (us:List QE) (s':QJ):Prop:=∃ vs H',Inv X pins σ H' s'/\Vals vs us/\Q vs H'
def SP (X:Cx) (pins:List (QD×SQ)) (D:Ends) (f:Flow) (s':QJ):Prop :=
 match f with
 | .next=>∃ wH H',Inv X pins wH H' s'/\D.nx wH H'
 | .brk=>∃ wH H',Inv X pins wH H' s'/\D.bk wH H'
 | .cont=>∃ wH H',Inv X pins wH H' s'/\D.ct wH H'
 | .ret u=>∃ v wH H',Inv X pins wH H' s'/\RelV v u/\D.rt v H'
def PE (X:Cx) (e:RO) (t:TE):Prop :=
 ∀ (pins:List (QD×SQ)) (s:QJ) (σ:St) (H:Hp) (Q:VK),Inv X pins σ H s->t σ H Q->QU (Ra X.prog X.w) X.A (S4 e X.env) (EP X pins σ Q) X.xe s
def PT (X:Cx) (e:RO) (t:TT):Prop :=
 ∀ (pins:List (QD×SQ)) (s:QJ) (σ:St) (H:Hp) (Q:Bool->Hp->Prop),Inv X pins σ H s->t σ H Q->QU (Ra X.prog X.w) X.A (isTrue e X.env (S4 e X.env)) (TP X pins σ Q) X.xe s
def PW (X:Cx) (e:RO) (t:TT):Prop :=
 ∀ (whole:Sem QE) (pins:List (QD×SQ)) (s:QJ) (σ:St) (H:Hp) (Q:Bool->Hp->Prop),Inv X pins σ H s->t σ H Q->QU (Ra X.prog X.w) X.A (isTrue e X.env whole) (TP X pins σ Q) X.xe s
theorem PW.pt {X:Cx} {e:RO} {t:TT} (h:PW X e t):PT X e t:=h _
def PA (X:Cx) (es:List RO) (t:TA):Prop :=
 ∀ (pos:US) (pins:List (QD×SQ)) (s:QJ) (σ:St) (H:Hp) (Q:List V->Hp->Prop),Inv X pins σ H s->t σ H Q->QU (Ra X.prog X.w) X.A (spliced (U0 pos (RA es X.env))) (AP X pins σ Q) X.xe s
def PS (X:Cx) (st:SD) (t:TS):Prop :=
 ∀ (pins:List (QD×SQ)) (s:QJ) (σ:St) (H:Hp) (D:Ends),Inv X pins σ H s->t D σ H->QU (Ra X.prog X.w) X.A (exec st X.env) (SP X pins D) X.xe s
def PSs (X:Cx) (st:List SD) (t:TS):Prop :=
 ∀ (pins:List (QD×SQ)) (s:QJ) (σ:St) (H:Hp) (D:Ends),Inv X pins σ H s->t D σ H->QU (Ra X.prog X.w) X.A (execs st X.env) (SP X pins D) X.xe s
theorem thn {α:Type} {t:Sem α} {Q Q':α->QJ->Prop} {M:Model} {A:Rr} {E:QE->QJ->Prop} {s:QJ} (h:QU M A t Q E s) (hQ:∀ a s,Q a s->Q' a s):QU M A t Q' E s:=SH h hQ fun _ _ x=>x
end L2
namespace L2
open PySem PySem.Spec PyProof.Rows
section
variable {X:Cx}
inductive t8 (i:Nat) (σ:St) (H:Hp) (Q:VK):Prop
 | mk (v:_) (wZ:σ[i]?=some (some v)) (w4:Q v H):t8 i σ H Q
def bu (i:Nat):TE:=t8 i
def tC (v:V):TE:=fun _ H Q=>Q v H
theorem vb {i:Nat} {x:Rc} {pos:US} (hN:X.N[i]?=some x) (hv:Vis X.env.scope x) (hd:(x == ("__debug__":Rc))=false:=by decide) (AD:(x == ("__classdict__":Rc))=false:=by decide):PE X (.Name x pos) (bu i):=by
 intro pins s σ H Q I h;obtain ⟨v,e,h⟩:=h;obtain ⟨m,hn,hl⟩:=I.loc;obtain ⟨u,r,l⟩:=hl i x v hN e hv;have fin:EP X pins σ Q u s:=⟨v,H,I,r,h⟩;rcases l with ⟨hk,hm⟩ | ⟨hk,c,hc,zK⟩
 · exact wpAny_Name (wpAny_loadName_local I.ok.kind hk hn hm fin) hd
 · rcases hk with hk | hk
   · exact wpAny_Name (wpAny_loadName_cell I.ok.kind hk hc zK fin) hd
   · exact wpAny_Name (wpAny_loadName_free I.ok.kind hk hc zK fin AD) hd
theorem af {i j pos}:PE X (.Constant (.int i) j pos) (tC (.int i)):=fun _ _ _ H _ I h=>wpAny_Constant_int ⟨.int i,H,I.tok _,⟨_,rfl⟩,h⟩
theorem jw {b j pos}:PE X (.Constant (.bool b) j pos) (tC (.bl b)):=fun _ _ _ H _ I h=>Constant_bool ⟨.bl b,H,I,rfl,h⟩
theorem gD {x j pos}:PE X (.Constant (.str x) j pos) (tC (.str x)):=fun _ _ _ H _ I h=>Calls.Constant_str ⟨.str x,H,I.tok _,⟨_,rfl⟩,h⟩
def Gl (X:Cx) (x:Rc):Prop:=X.env.kindOf x=some .globalImplicit
theorem qc {E:QE->QJ->Prop} {pins:List (QD×SQ)} {s:QJ} {σ:St} {H:Hp} {x:Rc} {u:QE} {pos:US} {Q:QE->QJ->Prop} (I:Inv X pins σ H s) (hg:Gl X x) (hm:X.mg x=some u) (h:Q u s)
 (hd:(x == ("__debug__":Rc))=false:=by decide):QU (Ra X.prog X.w) X.A (S4 (.Name x pos) X.env) Q E s :=
 Calls.Name_function_global I.ok.kind hg (Calls.loadGlobal_global (by rw [I.ok.glob];exact I.mod.glob.keeps I.bk) hm h) hd
theorem cF {E:QE->QJ->Prop} {pins:List (QD×SQ)} {s:QJ} {σ:St} {H:Hp} {x:Rc} {u:QE} {pos:US} {Q:QE->QJ->Prop} (I:Inv X pins σ H s) (hg:Gl X x) (hm:X.mg x=none) (hv:Vn x=some u) (h:Q u s)
 (hn:x≠"__name__":=by decide) (hd:(x == ("__debug__":Rc))=false:=by decide):QU (Ra X.prog X.w) X.A (S4 (.Name x pos) X.env) Q E s:=by
 obtain ⟨mb,h1,h2⟩:=I.mod.blt;exact Calls.Name_function_global I.ok.kind hg (Calls.loadGlobal_builtin (by rw [I.ok.glob];exact I.mod.glob.keeps I.bk) hm (by rw [I.ok.blt];exact h1.keeps I.bk) ((h2 x hn).trans hv) h) hd
theorem fL {x:Rc} {v:V} {u:QE} {pos:US} (hg:Gl X x) (hm:X.mg x=some u) (r:RelV v u) (hd:(x == ("__debug__":Rc))=false:=by decide):PE X (.Name x pos) (tC v) :=
 fun _ _ _ H _ I h=>qc I hg hm ⟨v,H,I,r,h⟩ hd
theorem mC {x:Rc} {v:V} {u:QE} {pos:US} (hg:Gl X x) (hm:X.mg x=none) (hv:Vn x=some u) (r:RelV v u) (hn:x≠"__name__":=by decide) (hd:(x == ("__debug__":Rc))=false:=by decide):PE X (.Name x pos) (tC v) :=
 fun _ _ _ H _ I h=>cF I hg hm hv ⟨v,H,I,r,h⟩ hn hd
variable {a b:RO} {ta tb:TE} {pos:US}
def PC (X:Cx) (op:CmpOp) (a b:RO) (t:TE):Prop :=
 ∀ (pins:List (QD×SQ)) (s:QJ) (σ:St) (H:Hp) (Q:VK),Inv X pins σ H s->t σ H Q →
   QU (Ra X.prog X.w) X.A (S4 a X.env) (fun v wI=>QU (Ra X.prog X.w) X.A (S4 b X.env) (fun u xo=>QU (Ra X.prog X.w) X.A (UE op v u) (EP X pins σ Q) X.xe xo) X.xe wI) X.xe s
def tB (t:TE):TT:=fun σ H Q=>t σ H fun x H1=>∃ c,x=.bl c/\Q c H1
theorem oy {op:CmpOp} {t:TE} (h:PC X op a b t) (h1:VJ op b=false:=by first | exact Eu _ (by decide) (by decide) | rfl):PT X (.Compare a [op] [b] pos) (tB t):=by
 intro pins s σ H Q I hw;refine wpAny_isTrue_Compare1 (thn (h pins s σ H _ I hw) fun v s1 h1=>thn h1 fun u s2 h2=>thn h2 fun c s3 ⟨x,H1,I1,r1,q1⟩=>?_) h1;obtain ⟨d,rfl,q⟩:=q1;cases r1;exact Uj ⟨H1,I1,q⟩
variable {tA GL:TT} {rest:List RO}
def wn (t u:TT):TT:=fun σ H Q=>t σ H fun c H1=>if c=true then u σ H1 Q else Q false H1
def tOr (t u:TT):TT:=fun σ H Q=>t σ H fun c H1=>if c=true then Q true H1 else u σ H1 Q
def wu (t:TT):TT:=fun σ H Q=>t σ H fun c H1=>Q (!c) H1
theorem tj (ha:PT X a tA):PW X (.BoolOp .And [a] pos) tA:=by
 intro wh pins s σ H Q I h;refine isTrue_and (thn (ha pins s σ H Q I h) fun c s1 e=>?_);cases c with
 | true=>exact isTrue_and_nil e
 | false=>exact e
theorem l6 (ha:PT X a tA):PW X (.BoolOp .Or [a] pos) tA:=by
 intro wh pins s σ H Q I h;refine isTrue_or (thn (ha pins s σ H Q I h) fun c s1 e=>?_);cases c with
 | false=>exact isTrue_or_nil e
 | true=>exact e
theorem rP (ha:PT X a tA) (hb:PW X (.BoolOp .And (b::rest) pos) GL):PW X (.BoolOp .And (a::b::rest) pos) (wn tA GL):=by
 intro wh pins s σ H Q I h;refine isTrue_and (thn (ha pins s σ H _ I h) fun c s1 ⟨H1,I1,q1⟩=>?_);cases c with
 | true=>exact hb wh pins s1 σ H1 Q I1 q1
 | false=>exact ⟨H1,I1,q1⟩
theorem nV (ha:PT X a tA) (hb:PW X (.BoolOp .Or (b::rest) pos) GL):PW X (.BoolOp .Or (a::b::rest) pos) (tOr tA GL):=by
 intro wh pins s σ H Q I h;refine isTrue_or (thn (ha pins s σ H _ I h) fun c s1 ⟨H1,I1,q1⟩=>?_);cases c with
 | true=>exact ⟨H1,I1,q1⟩
 | false=>exact hb wh pins s1 σ H1 Q I1 q1
theorem mE (ha:PT X a tA):PT X (.UnaryOp .Not a pos) (wu tA):=by
 intro pins s σ H Q I h;exact isTrue_not (ha pins s σ H (fun c H1=>Q (!c) H1) I h)
def vd (ta tb:TE):TE:=fun σ H Q=>ta σ H fun x H1=>∃ c,x=.bl c/\if c=true then tb σ H1 Q else Q (.bl false) H1
def vA (ta:TE):TE:=fun σ H Q=>ta σ H fun x H1=>∃ c,x=.bl c/\Q (.bl (!c)) H1
theorem oG {op} {t:TE} (h:PE X a t):PE X (.BoolOp op [a] pos) t:=fun pins s σ H Q I hw=>BoolOp_one (h pins s σ H Q I hw)
theorem mn (ha:PE X a ta) (hb:PE X (.BoolOp .And (b::rest) pos) tb):PE X (.BoolOp .And (a::b::rest) pos) (vd ta tb):=by
 intro pins s σ H Q I h;refine BoolOp_and (thn (ha pins s σ H _ I h) fun v s1 ⟨x,H1,I1,r1,q1⟩=>?_);obtain ⟨c,rfl,q1⟩:=q1;cases r1;refine Uj ?_;cases c with
 | true=>exact hb pins s1 σ H1 Q I1 q1
 | false=>exact ⟨.bl false,H1,I1,rfl,q1⟩
theorem sG (ha:PE X a ta):PE X (.UnaryOp .Not a pos) (vA ta):=by
 intro pins s σ H Q I h;refine UnaryOp_ (thn (ha pins s σ H _ I h) fun v s1 ⟨x,H1,I1,r1,q1⟩=>?_);obtain ⟨c,rfl,q1⟩:=q1;cases r1;exact not_of (Uj ⟨.bl (!c),H1,I1,rfl,q1⟩)
def tIf (t:TT) (ta tb:TE):TE:=fun σ H Q=>t σ H fun c H1=>if c=true then ta σ H1 Q else tb σ H1 Q
theorem rR {c:RO} (hc:PT X c tA) (ha:PE X a ta) (hb:PE X b tb):PE X (.IfExp c a b pos) (tIf tA ta tb):=by
 intro pins s σ H Q I h;refine wpAny_IfExp (thn (hc pins s σ H _ I h) fun d s1 ⟨H1,I1,q1⟩=>?_);cases d with
 | true=>exact ha pins s1 σ H1 Q I1 q1
 | false=>exact hb pins s1 σ H1 Q I1 q1
end
end L2
namespace L2
open PySem PySem.Spec PyProof.Rows
def SqL (K:QB) (H:Hp) (a:QD) (xs:List V):Prop :=
 Rd H a (.lst xs) ∨
  ∃ (o:SQ) (its:Array QE) (n:Nat),K.lookup a=some o/\o.cls=.type "list"/\o.dict=none/\o.data=.seq its n/\its.size<=QW/\Vals xs its.toList
def SqT (K:QB) (H:Hp) (a:QD) (xs:List V):Prop :=
 Rd H a (.tup xs) ∨
  ∃ (o:SQ) (its:Array QE) (n:Nat),K.lookup a=some o/\o.cls=.type "tuple"/\o.data=.seq its n/\its.size<=QW/\Vals xs its.toList
def v5:QE->Option V
 | .none=>some .non
 | .bool b=>some (.bl b)
 | .int i _=>some (.int i)
 | .str x _=>some (.str x)
 | .bytes b _=>some (.byt b)
 | .float b _=>some (.flt b)
 | .ref a=>some (.ref a)
 | .type n=>some (.ty n)
 | _=>none
theorem RelV.abs {x:V} {u:QE} (r:RelV x u):v5 u=some x:=by
 cases x with
 | non=>cases r;rfl
 | bl _=>cases r;rfl
 | int _=>obtain ⟨t,rfl⟩:=r;rfl
 | str _=>obtain ⟨t,rfl⟩:=r;rfl
 | byt _=>obtain ⟨t,rfl⟩:=r;rfl
 | flt _=>obtain ⟨t,rfl⟩:=r;rfl
 | ref _=>cases r;rfl
 | ty _=>cases r;rfl
theorem RelV.inj {x y:V} {u:QE} (r:RelV x u) (q:RelV y u):x=y:=Q8 (r.abs.symm.trans q.abs)
theorem Vals.inj:∀ {xs ys:List V} {us:List QE},Vals xs us->Vals ys us->xs=ys
 | _,_,_,.nil,.nil=>rfl
 | _,_,_,.cons r t,.cons r' t'=>by rw [r.inj r',Vals.inj t t']
section
variable {X:Cx} {pins:List (QD×SQ)} {σ:St} {H:Hp} {s:QJ} {a:QD} {xs ys:List V}
theorem SqL.of {K:QB} (h:H a=some (.lst xs)):SqL K H a xs:=.inl (.inl h)
theorem SqT.of {K:QB} (h:H a=some (.tup xs)):SqT K H a xs:=.inl (.inl h)
theorem Inv.list (I:Inv X pins σ H s) (h:SqL X.K H a xs):∃ its:List QE,Vals xs its/\PlainL s.heap a its.toArray/\xs.length<=QW:=by
 rcases h with h | ⟨o,its,n,hk,hc,hd,hs,hz,r⟩
 · obtain ⟨z,its,n,r,e⟩:=h.ok I.hok;exact ⟨its,r,⟨_,n,e,rfl,rfl,rfl⟩,z⟩
 · refine ⟨its.toList,r,⟨o,n,I.kIn a o hk,hc,hd,by simpa using hs⟩,?_⟩;have e:=r.length;simp only [Rj] at e;omega
theorem Inv.tuple (I:Inv X pins σ H s) (h:SqT X.K H a xs):∃ its:List QE,Vals xs its/\IsTup s.heap a its.toArray/\xs.length<=QW:=by
 rcases h with h | ⟨o,its,n,hk,hc,hs,hz,r⟩
 · obtain ⟨z,its,n,r,p⟩:=h.ok I.hok;exact ⟨its,r,⟨_,p,rfl,n,rfl⟩,z⟩
 · refine ⟨its.toList,r,⟨o,I.kIn a o hk,hc,n,by simpa using hs⟩,?_⟩;have e:=r.length;simp only [Rj] at e;omega
theorem Inv.list_inj (I:Inv X pins σ H s) (h:SqL X.K H a xs) (h':SqL X.K H a ys):xs=ys:=by
 obtain ⟨its,r,⟨o,n,e,_,_,d⟩,_⟩:=I.list h;obtain ⟨its',r',⟨o',n',e',_,_,d'⟩,_⟩:=I.list h';rw [e] at e';cases e';rw [d] at d';injection d' with d1 _;have:its=its':=by simpa using congrArg Wu d1
 subst this;exact r.inj r'
theorem Inv.tuple_inj (I:Inv X pins σ H s) (h:SqT X.K H a xs) (h':SqT X.K H a ys):xs=ys:=by
 obtain ⟨its,r,⟨o,e,_,n,d⟩,_⟩:=I.tuple h;obtain ⟨its',r',⟨o',e',_,n',d'⟩,_⟩:=I.tuple h';rw [e] at e';cases e';rw [d] at d';injection d' with d1 _;have:its=its':=by simpa using congrArg Wu d1
 subst this;exact r.inj r'
end
abbrev Cx.wish (X:Cx) (E:QE->QJ->Prop):Cx:={ X with xe:=E }
abbrev Cx.nox (X:Cx):Cx:=X.wish fun _ _=>False
theorem Cx.Ok.wish {X:Cx} (ok:X.Ok) (E:QE->QJ->Prop):(X.wish E).Ok :=
 ⟨ok.mod,ok.kind,ok.glob,ok.blt,ok.above,ok.inj,ok.has,ok.cab,ok.hd,ok.frames,ok.stk,ok.exf,ok.bs,ok.bsz,ok.noex,ok.exfs,ok.funs,ok.frf⟩
theorem Cx.Ok.unwish {X:Cx} {E:QE->QJ->Prop} (ok:(X.wish E).Ok):X.Ok :=
 ⟨ok.mod,ok.kind,ok.glob,ok.blt,ok.above,ok.inj,ok.has,ok.cab,ok.hd,ok.frames,ok.stk,ok.exf,ok.bs,ok.bsz,ok.noex,ok.exfs,ok.funs,ok.frf⟩
section
variable {X:Cx} {pins:List (QD×SQ)} {σ:St} {H:Hp} {s:QJ} {E:QE->QJ->Prop}
theorem Inv.wish (I:Inv X pins σ H s) (E:QE->QJ->Prop):Inv (X.wish E) pins σ H s:=⟨I.ok.wish E,I.os,I.bare,I.base,I.loc,I.cell,I.free,I.freeC,I.pin,I.hok,I.len⟩
theorem Inv.unwish (I:Inv (X.wish E) pins σ H s):Inv X pins σ H s:=⟨I.ok.unwish,I.os,I.bare,I.base,I.loc,I.cell,I.free,I.freeC,I.pin,I.hok,I.len⟩
theorem SP.unwish {D:Ends} {f:Flow} {s':QJ} (h:SP (X.wish E) pins D f s'):SP X pins D f s':=by
 cases f with
 | next=>obtain ⟨wH,H',I,q⟩:=h;exact ⟨wH,H',I.unwish,q⟩
 | brk=>obtain ⟨wH,H',I,q⟩:=h;exact ⟨wH,H',I.unwish,q⟩
 | cont=>obtain ⟨wH,H',I,q⟩:=h;exact ⟨wH,H',I.unwish,q⟩
 | ret u=>obtain ⟨v,wH,H',I,r,q⟩:=h;exact ⟨v,wH,H',I.unwish,r,q⟩
theorem PSs.nox {st:List SD} {t:TS} (h:PSs X.nox st t):PSs X st t:=fun pins s σ H D I hw =>
 SH (h pins s σ H D (I.wish _) hw) (fun _ _ q=>q.unwish) fun _ _ z=>Ub z
end
section
variable {X:Cx} {st:SD} {rest:List SD} {t u:TS} {e:RO} {te:TE} {pos:US}
def vm:TS:=fun D σ H=>D.nx σ H
def vK (t u:TS):TS:=fun D σ H=>t { D with nx:=u D } σ H
theorem bH:PSs X [] vm:=fun _ _ σ H _ I h=>V4 ⟨σ,H,I,h⟩
theorem ae (h1:PS X st t) (h2:PSs X rest u):PSs X (st::rest) (vK t u):=by
 intro pins s σ H D I h;refine wpAny_execs_cons (thn (h1 pins s σ H { D with nx:=u D } I h) fun f s1 q=>?_);cases f with
 | next =>
   obtain ⟨wH,H',I',q⟩:=q;exact h2 pins s1 wH H' D I' q
 | ret v=>exact q
 | brk=>exact q
 | cont=>exact q
theorem ag (h1:PS X st t):PSs X [st] t:=by
 intro pins s σ H D I h;refine wpAny_execs_cons (thn (h1 pins s σ H D I h) fun f s1 q=>?_);cases f with
 | next=>exact V4 q
 | ret v=>exact q
 | brk=>exact q
 | cont=>exact q
theorem Inv.quiet {pins:List (QD×SQ)} {σ:St} {H:Hp} {s:QJ} (I:Inv X pins σ H s):interactive X.env=false:=by simp [interactive,I.ok.kind]
def vD (te:TE):TS:=fun D σ H=>te σ H fun _ H1=>D.nx σ H1
theorem aN (he:PE X e te) (hs:swapsWith e none pos.line X.env=pure false:=by rfl):PS X (.Expr e pos) (vD te):=by
 intro pins s σ H D I h;exact wpAny_Expr_any (thn (he pins s σ H _ I h) fun v s1 ⟨x,H1,I1,r1,q1⟩=>⟨σ,H1,I1,q1⟩) I.quiet hs
def wC (te:TE):TS:=fun D σ H=>te σ H D.rt
theorem aA (he:PE X e te):PS X (.Return (some e) pos) (wC te):=by
 intro pins s σ H D I h;exact wpAny_Return_some (thn (he pins s σ H _ I h) fun v s1 ⟨x,H1,I1,r1,q1⟩=>⟨x,σ,H1,I1,r1,q1⟩)
def vk (c:TT) (t u:TS):TS:=fun D σ H=>c σ H fun b H1=>if b=true then t D σ H1 else u D σ H1
theorem bS {c:RO} {a b:List SD} {tc:TT} (hc:PT X c tc) (ha:PSs X a t) (hb:PSs X b u):PS X (.If c a b pos) (vk tc t u):=by
 intro pins s σ H D I h;refine wpAny_If (thn (hc pins s σ H _ I h) fun d s1 ⟨H1,I1,q1⟩=>?_);cases d with
 | true=>exact ha pins s1 σ H1 D I1 q1
 | false=>exact hb pins s1 σ H1 D I1 q1
end
abbrev TG:=V->St->Hp->(St->Hp->Prop)->Prop
abbrev TGs:=List V->St->Hp->(St->Hp->Prop)->Prop
def PG (X:Cx) (target:RO) (t:TG):Prop :=
 ∀ (pins:List (QD×SQ)) (s:QJ) (σ:St) (H:Hp) (v:V) (u:QE) (Q:St->Hp->Prop),Inv X pins σ H s->RelV v u->t v σ H Q →
   QU (Ra X.prog X.w) X.A (assign target X.env u) (fun _ s'=>∃ wH H',Inv X pins wH H' s'/\Q wH H') X.xe s
def PGs (X:Cx) (ts:List RO) (t:TGs):Prop :=
 ∀ (pins:List (QD×SQ)) (s:QJ) (σ:St) (H:Hp) (vs:List V) (us:List QE) (Q:St->Hp->Prop),Inv X pins σ H s->Vals vs us->t vs σ H Q →
   QU (Ra X.prog X.w) X.A (assignInOrder ((VZ ts X.env).map (·.2)) us) (fun _ s'=>∃ wH H',Inv X pins wH H' s'/\Q wH H') X.xe s
abbrev u4:=V->V->V->Hp->(Hp->Prop)->Prop
def vT (X:Cx) (t:u4):Prop :=
 ∀ (pins:List (QD×SQ)) (s:QJ) (σ:St) (H:Hp) (o i v:V) (ov iv u:QE) (Q:Hp->Prop),Inv X pins σ H s->RelV o ov->RelV i iv->RelV v u->t o i v H Q →
   QU (Ra X.prog X.w) X.A (setItem ov iv u) (fun _ s'=>∃ H',Inv X pins σ H' s'/\Q H') X.xe s
abbrev TIp:=V->V->Hp->VK->Prop
def PIp (X:Cx) (op:Operator) (t:TIp):Prop :=
 ∀ (pins:List (QD×SQ)) (s:QJ) (σ:St) (H:Hp) (x y:V) (v u:QE) (Q:VK),Inv X pins σ H s->RelV x v->RelV y u->t x y H Q →
   QU (Ra X.prog X.w) X.A (inplaceOp op v u) (EP X pins σ Q) X.xe s
section
variable {X:Cx} {pos:US}
def aI (i:Nat):TG:=fun v σ H Q=>Q (σ.set i (some v)) H
theorem am {i:Nat} {x:Rc} (hN:X.N.Nodup) (hi:X.N[i]?=some x) (hx:Loc X.env.scope x) (hf:X.fn x=true∨X.env.scope.names.lookup x=some .local:=by first | exact .inl rfl | exact .inr rfl | assumption):PG X (.Name x pos) (aI i):=by
 intro pins s σ H v u Q I r h;exact wpAny_assign_Name (jX I hN hi hx r (fun s' I'=>⟨_,H,I',h⟩) hf)
def kH:TGs:=fun vs σ H Q=>vs=[]/\Q σ H
def cD (t:TG) (u:TGs):TGs:=fun vs σ H Q=>∃ v r,vs=v::r/\t v σ H fun wH H'=>u r wH H' Q
theorem aX:PGs X [] kH:=by
 intro pins s σ H vs us Q I r h;obtain ⟨e,h⟩:=h;subst e;cases r;exact assignInOrder_nil ⟨σ,H,I,h⟩
theorem aq {e:RO} {es:List RO} {t:TG} {u:TGs} (h1:PG X e t) (h2:PGs X es u)
 (hs:(VZ (e::es) X.env).map (·.2)=assign e X.env::(VZ es X.env).map (·.2):=by rfl):PGs X (e::es) (cD t u):=by
 intro pins s σ H vs us Q I r h;obtain ⟨v,vr,e1,h⟩:=h;subst e1;cases r with
 | cons r rr =>
   rw [hs];refine assignInOrder_cons (thn (h1 pins s σ H _ _ _ I r h) fun _ s1 ⟨yt,H1,I1,q1⟩=>?_);exact h2 pins s1 yt H1 _ _ Q I1 rr q1
def kM (K:QB) (n:Nat) (t:TGs):TG:=fun v σ H Q=>∃ a xs,v=.ref a/\SqT K H a xs/\xs.length=n/\t xs σ H Q
theorem bp {es:List RO} {k:Nat} {t:TGs} {n:Nat} (hc:X.calm=true) (h:PGs X es t)
 (hn:(VZ es X.env).length=n:=by rfl) (xO:(VZ es X.env).findIdx? (·.1)=none:=by rfl):PG X (.Tuple es k pos) (kM X.K n t):=by
 intro pins s σ H v u Q I r hw;obtain ⟨a,xs,e1,hq,hl,hw⟩:=hw;subst e1;cases r;obtain ⟨its,rv,ht,hz⟩:=I.tuple hq;refine assign_Tuple_tuple (I.ok.hd hc) ht (by simp [hn,<- hl,rv.length]) xO fun h' hx=>?_;have I1:Inv X pins σ H { s with heap:=h' }:=I.kept (t':=s.toks) fun b o e=>hx b o (Rh (QT e)) e;exact h pins _ σ H xs _ Q I1 (by simpa using rv) hw
def wG (to ti:TE) (t:u4):TG:=fun v σ H Q=>to σ H fun o H1=>ti σ H1 fun i H2=>t o i v H2 fun H3=>Q σ H3
theorem iF {o i:RO} {to ti:TE} {t:u4} (ho:PE X o to) (hi:PE X i ti) (hs:vT X t)
 (ha:∀ v,assign (.Subscript o i pos) X.env v=(do
  let ov ← holding [v] (S4 o X.env)
  let iv ← holding [v,ov] (S4 i X.env)
  standAt pos
  holding [v,ov,iv] (setItem ov iv v)
  release [v,ov,iv] []):=by intro _;rfl):PG X (.Subscript o i pos) (wG to ti t):=by
 intro pins s σ H v u Q I r h;rw [ha];refine Qz (R1 (thn (ho pins s σ H _ I h) fun ov s1 ⟨x,H1,I1,r1,q1⟩=>?_));refine Qz (R1 (thn (hi pins s1 σ H1 _ I1 q1) fun iv s2 ⟨y,H2,I2,r2,q2⟩=>?_));refine Qz (wpAny_standAt (Qz (R1 (thn (hs pins s2 σ H2 x y v ov iv u _ I2 r1 r2 r q2) fun _ s3 ⟨H3,I3,q3⟩=>?_))));exact wpAny_release ⟨σ,H3,I3,q3⟩
def vc (te:TE) (g:TG):TS:=fun D σ H=>te σ H fun x H1=>g x σ H1 D.nx
theorem cO {tg e:RO} {te:TE} {g:TG} (he:PE X e te) (hg:PG X tg g) (hs:swapsWithSole [tg] e pos.line X.env=pure false:=by rfl) (hw:swappedStores [tg] e X.env=pure none:=by rfl)
 (h1:(VZ [tg] X.env).map (·.2)=[assign tg X.env]:=by rfl):PS X (.Assign [tg] e pos) (vc te g):=by
 intro pins s σ H D I h;refine wpAny_Assign_stores (thn (he pins s σ H _ I h) fun v s1 ⟨x,H1,I1,r1,q1⟩=>?_) hs hw;rw [h1];exact thn (hg pins s1 σ H1 x v _ I1 r1 q1) fun _ s2 q=>q
theorem aw {i:Nat} {x:Rc} {e:RO} {te:TE} {pos':US} (hN:X.N.Nodup) (hi:X.N[i]?=some x) (hx:Loc X.env.scope x) (he:PE X e te) (hs:swapsWith e (some (.Name x pos')) pos.line X.env=pure false:=by rfl) (hf:X.fn x=true∨X.env.scope.names.lookup x=some .local:=by first | exact .inl rfl | exact .inr rfl | assumption) :
 PS X (.Assign [.Name x pos'] e pos) (vc te (aI i)):=by
 intro pins s σ H D I h;refine wpAny_Assign_Name (thn (he pins s σ H _ I h) fun v s1 ⟨y,H1,I1,r1,q1⟩=>?_) hs;exact jX I1 hN hi hx r1 (fun s2 I2=>⟨_,H1,I2,q1⟩) hf
def v7 (i:Nat) (te:TE) (ti:TIp):TS:=fun D σ H=>∃ x,σ[i]?=some (some x)/\te σ H fun y H1=>ti x y H1 fun z H2=>D.nx (σ.set i (some z)) H2
theorem uy {i:Nat} {x:Rc} {e:RO} {te:TE} {op:Operator} {ti:TIp} {pos':US} (hN:X.N.Nodup) (hi:X.N[i]?=some x) (hx:Loc X.env.scope x) (he:PE X e te) (ho:PIp X op ti) (hf:X.fn x=true∨X.env.scope.names.lookup x=some .local:=by first | exact .inl rfl | exact .inr rfl | assumption) :
 PS X (.AugAssign (.Name x pos') op e pos) (v7 i te ti):=by
 intro pins s σ H D I h;obtain ⟨v,e1,h⟩:=h;obtain ⟨m,hn,hl⟩:=I.loc;have K4:Vis X.env.scope x:=by rcases hx with k | k;exact .inl k;exact .inr (.inl k)
 obtain ⟨u,r,l⟩:=hl i x v hi e1 K4;refine wpAny_AugAssign_Name ?_
 have go:QU (Ra X.prog X.w) X.A (S4 e X.env) (fun w xo=>QU (Ra X.prog X.w) X.A (inplaceOp op u w) (fun r yD=>QU (Ra X.prog X.w) X.A (storeName X.env x r) (fun _=>SP X pins D .next) X.xe yD) X.xe xo) X.xe s:=by
  refine thn (he pins s σ H _ I h) fun w s1 ⟨y,H1,I1,r1,q1⟩=>?_;refine thn (ho pins s1 σ H1 v y u w _ I1 r r1 q1) fun z s2 ⟨zv,H2,I2,r2,q2⟩=>?_;exact jX I2 hN hi hx r2 (fun s3 I3=>⟨_,H2,I3,q2⟩) hf
 rcases l with ⟨hk,hm⟩ | ⟨hk,c,hc,zK⟩
 · exact wpAny_loadName_local I.ok.kind hk hn hm go
 · rcases hk with hk | hk
   · exact wpAny_loadName_cell I.ok.kind hk hc zK go
   · rcases hx with k | k
     · have:X.env.scope.names.lookup x=some .free:=hk;rw [k] at this;cases this
     · have:X.env.scope.names.lookup x=some .free:=hk;rw [k] at this;cases this
def ipI (f:Int->Int->Int):TIp:=fun x y H Q=>∃ i j,x=.int i/\y=.int j/\Q (.int (f i j)) H
theorem uY:PIp X .Add (ipI fun i j=>i+j):=by
 intro pins s σ H x y v u Q I r1 r2 h;obtain ⟨i,j,e1,e2,q⟩:=h;subst e1;subst e2;obtain ⟨t,rfl⟩:=r1;obtain ⟨t',rfl⟩:=r2;exact iadd_int ⟨.int _,H,I.tok _,⟨_,rfl⟩,q⟩
end
section
variable {X:Cx} {pos:US}
def uv (c:TT) (tb:TS):TS:=fun D σ H=>∃ W:Nat->St->Hp->Prop,(∃ m,W m σ H)/\∀ m σ H,W m σ H →
 c σ H fun b H1=>if b=true then ∃ N:St->Hp->Prop,(∀ wH H',N wH H'->∃ m',m'<m/\W m' wH H')/\tb { D with nx:=N,ct:=N,bk:=D.nx } σ H1 else D.nx σ H1
theorem ft {c:RO} {body:List SD} {tc:TT} {tb:TS} (hp:PassesOwn (Ra X.prog X.w) X.A X.env X.xe) (hc:PT X c tc) (hb:PSs X body tb):PS X (.While c body [] pos) (uv tc tb):=by
 intro pins s σ H D I h;obtain ⟨W,⟨m0,w0⟩,turn⟩:=h;refine wpAny_While (codeAny_whileLoop (fun n s'=>∃ wH H',Inv X pins wH H' s'/\W n wH H') ?_ m0 ⟨σ,H,I,w0⟩);rintro n s1 ⟨yt,H1,I1,w1⟩;refine T7 hp (thn (hc pins s1 yt H1 _ I1 (turn n yt H1 w1)) fun b s2 ⟨H2,I2,q2⟩=>?_);cases b with
 | true =>
   obtain ⟨N,hN,q2⟩:=q2;rw [if_pos rfl];refine T7 hp (thn (hb pins s2 yt H2 _ I2 q2) fun f s3 q3=>?_);cases f with
   | next =>
     obtain ⟨AE,H3,I3,n3⟩:=q3;obtain ⟨m',hm,w3⟩:=hN AE H3 n3;exact ⟨m',hm,AE,H3,I3,w3⟩
   | cont =>
     obtain ⟨AE,H3,I3,n3⟩:=q3;obtain ⟨m',hm,w3⟩:=hN AE H3 n3;exact ⟨m',hm,AE,H3,I3,w3⟩
   | brk=>exact q3
   | ret v=>exact q3
 | false =>
   rw [if_neg Q0];exact V4 ⟨yt,H2,I2,q2⟩
end
structure It where
 go:Nat->Hp->Prop
 yld:Nat->Hp->V->Hp->Prop
 stop:Nat->Hp->Prop
def jc (X:Cx) (pins:List (QD×SQ)) (H:Hp) (b:QD):Prop :=
 H b=none/\b≠X.env.locals/\b∉X.fs/\(b∈X.ex∨X.s₀.heap.objs.size<=b)/\(∀ x c,X.env.cells.lookup x=some c->c≠b)/\∀ p∈X.pn++pins,p.1≠b
theorem Inv.fpOk {X:Cx} {pins:List (QD×SQ)} {σ:St} {H H':Hp} {s:QJ} {b:QD} (I:Inv X pins σ H s) (hb:s.heap.objs.size<=b) (hn:H' b=none):jc X pins H' b:=by
 refine ⟨hn,Ug (RB I.lt hb),I.nofs hb,.inr (Sn I.sz hb),fun x c e z=>?_,fun p hp z=>?_⟩
 · obtain ⟨v,q⟩:=I.cell x c e;exact absurd (RB q.lt (by rw [z];exact hb)) (RY _)
 · exact absurd (RB (QT (I.pin p hp).1) (by rw [z];exact hb)) (RY _)
structure Turn (P:QR) (w:Q3) (K:QB) (tg:RO) (J:It) (fp:List QD) (it:QD) (tn:Nat->RS->Prop):Prop where
 mem:it∈fp
 obj:∀ i h,tn i h->∀ b∈fp,∃ o,h.get? b=some o/\∀ v,o.data≠.cell v
 keep:∀ i h h',tn i h->(∀ b∈fp,∀ o,h.get? b=some o->h'.get? b=some o)->tn i h'
 item:∀ (X:Cx),X.prog=P->X.w=w->X.K=K->X.calm=true->∀ (i:Nat) (pins:List (QD×SQ)) (s:QJ) (σ:St) (H:Hp) (E:QE->QJ->Prop),Inv X pins σ H s->(∀ b∈fp,jc X pins H b)->tn i s.heap->J.go i H →
  QU (Ra P w) X.A (TJ (.ref it)) (fun r s1=>∃ u,r=some u ∧
   QU (Ra P w) X.A (V5 tg (.ref it) u) (fun _ s2=>∃ x H',Inv X pins σ H' s2/\RelV x u/\J.yld i H x H'/\tn (i+1) s2.heap/\∀ b∈fp,H' b=none) E s1) E s
 done:∀ (X:Cx),X.prog=P->X.w=w->X.K=K->X.calm=true->∀ (i:Nat) (pins:List (QD×SQ)) (s:QJ) (σ:St) (H:Hp) (E:QE->QJ->Prop),Inv X pins σ H s->(∀ b∈fp,jc X pins H b)->tn i s.heap->J.stop i H →
  QU (Ra P w) X.A (TJ (.ref it)) (fun r s1=>r=none/\Inv X pins σ H s1) E s
 self:∀ (A:Rr) (i:Nat) (s:QJ) (Q:QE->QJ->Prop) (E:QE->QJ->Prop),tn i s.heap->Q (.ref it) s->QU (Ra P w) A (pyIter (.ref it)) Q E s
abbrev TI:=St->Hp->(It->Hp->Prop)->Prop
def PIE (X:Cx) (pins:List (QD×SQ)) (σ:St) (tg:RO) (R:It->Hp->Prop) (GN:QE) (s2:QJ):Prop :=
 ∃ (it:QD) (fp:List QD) (tn:Nat->RS->Prop) (J:It) (H':Hp),GN=.ref it/\Inv X pins σ H' s2/\Turn X.prog X.w X.K tg J fp it tn/\tn 0 s2.heap/\(∀ b∈fp,jc X pins H' b)/\R J H'
def PI (X:Cx) (tg iter:RO) (wi:TI):Prop :=
 ∀ (pins:List (QD×SQ)) (s:QJ) (σ:St) (H:Hp) (R:It->Hp->Prop),Inv X pins σ H s->wi σ H R →
   QU (Ra X.prog X.w) X.A (S4 iter X.env) (fun v s1=>QU (Ra X.prog X.w) X.A (pyIter v) (PIE X pins σ tg R) X.xe s1) X.xe s
theorem pA {M:Model} {A:Rr} {E:QE->QJ->Prop} {s:QJ} {tg:RO} {it:QD} {u:QE} {o:SQ} {n:String} {vs:Array QE} {Q:Unit->QJ->Prop} (ho:s.heap.get? it=some o) (hc:o.cls=.type n) (hd:o.data=.fields vs)
 (hn:["enumerate","zip","dict_itemiterator","dict_reverseitemiterator","odict_iterator","itertools.zip_longest","itertools.pairwise"].contains n=false) (hQ:Q () s):QU M A (V5 tg (.ref it) u) Q E s:=by
 unfold V5
 cases tg <;> first
  | exact QI hQ
  | (cases u <;> first
   | exact QI hQ
   | (refine Qz (wpAny_load ho ?_)
      rw [hc,hd];show QU M A (if (["enumerate","zip","dict_itemiterator","dict_reverseitemiterator","odict_iterator","itertools.zip_longest","itertools.pairwise"].contains n && vs[0]? == some (S3 _))=true then _ else _) Q E s;rw [if_neg (by intro h;rw [hn,Bool.false_and] at h;cases h)];exact QI hQ))
def Itl (K:QB) (a:QD):It :=
 ⟨fun i H=>∃ xs x,SqL K H a xs/\xs[i]?=some x,fun i H x H'=>H'=H/\∀ xs,SqL K H a xs->xs[i]?=some x,fun i H=>∃ xs,SqL K H a xs/\xs.length<=i⟩
def Itt (K:QB) (a:QD):It :=
 ⟨fun i H=>∃ xs x,SqT K H a xs/\xs[i]?=some x,fun i H x H'=>H'=H/\∀ xs,SqT K H a xs->xs[i]?=some x,fun i H=>∃ xs,SqT K H a xs/\xs.length<=i⟩
def Itr (lo:Int) (n:Nat):It:=⟨fun i _=>i<n,fun i H x H'=>H'=H/\x=.int (lo+i),fun i _=>n<=i⟩
theorem qG {P:QR} {w:Q3} {K:QB} {tg:RO} (a it:QD):Turn P w K tg (Itl K a) [it] it (fun i h=>h.IsListIter it a i) where
 mem:=by simp
 obj:=fun i h st b hb=>by
  have e:b=it:=by simpa using hb
  subst e;obtain ⟨o,e,c,d⟩:=st;exact ⟨o,e,fun v z=>by rw [d] at z;cases z⟩
 keep:=fun i h h' st k=>st.at fun o e=>k it (by simp) o e
 item:=by
  intro X hP hw hK hc i pins s σ H E I hf st hg;subst hP hw hK;obtain ⟨xs,x,hq,hx⟩:=hg;obtain ⟨its,rv,p,hz⟩:=I.list hq;obtain ⟨u,hu,ru⟩:=rv.get hx;obtain ⟨f0,f1,f2,f3,f4,f5⟩:=hf it (by simp);refine wpAny_pyNext_list_item st p.isList (x:=u) (by simpa using hu) fun h' Aj sb=>?_;have I1:Inv X pins σ H { s with heap:=h' }:=I.turned (t':=s.toks) (fun b o hb e=>(sb.2 b hb).trans e) f0 f1 f3 f4 f5;obtain ⟨o,e,c,d⟩:=id Aj;exact ⟨u,rfl,pA (s:={ s with heap:=h' }) e c d (by decide) ⟨x,H,I1,ru,⟨rfl,fun ys hy=>by rw [I.list_inj hy hq];exact hx⟩,Aj,fun b hb=>(hf b hb).1⟩⟩
 done:=by
  intro X hP hw hK hc i pins s σ H E I hf st hg;subst hP hw hK;obtain ⟨xs,hq,hx⟩:=hg;obtain ⟨its,rv,p,hz⟩:=I.list hq;obtain ⟨f0,f1,f2,f3,f4,f5⟩:=hf it (by simp);have hl:=rv.length;exact wpAny_pyNext_list_end (I.ok.hd hc) st p.isList (by simp;omega) fun h' eb=>⟨rfl,I.turned (t':=s.toks) (fun b o hb e=>eb b o hb e) f0 f1 f3 f4 f5⟩
 self:=fun _ _ _ _ _ st h=>wpAny_pyIter_listiter st h
theorem oF {P:QR} {w:Q3} {K:QB} {tg:RO} (a it:QD):Turn P w K tg (Itt K a) [it] it (fun i h=>h.IsTupleIter it a i) where
 mem:=by simp
 obj:=fun i h st b hb=>by
  have e:b=it:=by simpa using hb
  subst e;obtain ⟨o,e,c,d⟩:=st;exact ⟨o,e,fun v z=>by rw [d] at z;cases z⟩
 keep:=fun i h h' st k=>st.at fun o e=>k it (by simp) o e
 item:=by
  intro X hP hw hK hc i pins s σ H E I hf st hg;subst hP hw hK;obtain ⟨xs,x,hq,hx⟩:=hg;obtain ⟨its,rv,p,hz⟩:=I.tuple hq;obtain ⟨u,hu,ru⟩:=rv.get hx;obtain ⟨f0,f1,f2,f3,f4,f5⟩:=hf it (by simp);refine wpAny_pyNext_tuple_item st (show s.heap.IsTuple a its.toArray from p) (x:=u) (by simpa using hu) fun h' Aj sb=>?_;have I1:Inv X pins σ H { s with heap:=h' }:=I.turned (t':=s.toks) (fun b o hb e=>(sb.2 b hb).trans e) f0 f1 f3 f4 f5;obtain ⟨o,e,c,d⟩:=id Aj;exact ⟨u,rfl,pA (s:={ s with heap:=h' }) e c d (by decide) ⟨x,H,I1,ru,⟨rfl,fun ys hy=>by rw [I.tuple_inj hy hq];exact hx⟩,Aj,fun b hb=>(hf b hb).1⟩⟩
 done:=by
  intro X hP hw hK hc i pins s σ H E I hf st hg;subst hP hw hK;obtain ⟨xs,hq,hx⟩:=hg;obtain ⟨its,rv,p,hz⟩:=I.tuple hq;obtain ⟨f0,f1,f2,f3,f4,f5⟩:=hf it (by simp);have hl:=rv.length;exact wpAny_pyNext_tuple_end (I.ok.hd hc) st (show s.heap.IsTuple a its.toArray from p) (by simp;omega) fun h' eb=>⟨rfl,I.turned (t':=s.toks) (fun b o hb e=>eb b o hb e) f0 f1 f3 f4 f5⟩
 self:=fun _ _ _ _ _ st h=>wpAny_pyIter_tupleiter st h
theorem oJ {P:QR} {w:Q3} {K:QB} {tg:RO} (it:QD) (lo:Int) (n:Nat):Turn P w K tg (Itr lo n) [it] it (fun i h=>IsRangeIter h it (lo+(i:Nat) * 1) ((n:Int) - (i:Nat)) 1) where
 mem:=by simp
 obj:=fun i h st b hb=>by
  have e:b=it:=by simpa using hb
  subst e
  exact ⟨_,st,fun v z=>by
   have z':Data.fields _=Data.cell v:=z;cases z'⟩
 keep:=fun i h h' st k=>k it (by simp) _ st
 item:=by
  intro X hP hw hK hc i pins s σ H E I hf st hg;subst hP hw hK;obtain ⟨f0,f1,f2,f3,f4,f5⟩:=hf it (by simp);have W:=Walks.range (prog:=X.prog) (w:=X.w) (I.ok.hd hc) it lo 1 n;refine W.item i s _ _ hg st fun v h' tk hv Aj kk=>?_;obtain ⟨t,rfl⟩:=hv;have I1:Inv X pins σ H { s with heap:=h',toks:=tk }:=I.turned (fun b o hb e=>kk b o (by simpa using hb) e) f0 f1 f3 f4 f5;refine ⟨_,rfl,pA (s:={ s with heap:=h',toks:=tk }) (n:="range_iterator") Aj rfl rfl (by decide) ⟨.int (lo+i),H,I1,⟨t,?_⟩,⟨rfl,rfl⟩,Aj,fun b hb=>(hf b hb).1⟩⟩;rw [Int.mul_one]
 done:=by
  intro X hP hw hK hc i pins s σ H E I hf st hg;subst hP hw hK;obtain ⟨f0,f1,f2,f3,f4,f5⟩:=hf it (by simp);exact wpAny_pyNext_range_end (I.ok.hd hc) st (by have:n<=i:=hg;omega) fun h' eb=>⟨rfl,I.turned (t':=s.toks) (fun b o hb e=>eb b o hb e) f0 f1 f3 f4 f5⟩
 self:=fun _ _ _ _ _ st h=>wpAny_pyIter_rangeiter st h
end L2
namespace L2
open PySem PySem.Spec PyProof.Rows
section
variable {X:Cx} {tg:RO}
def vF (K:QB) (tl:TE):TI:=fun σ H R=>tl σ H fun x H1=>∃ a,x=.ref a/\(∃ xs,SqL K H1 a xs)/\R (Itl K a) H1
def wf (K:QB) (tl:TE):TI:=fun σ H R=>tl σ H fun x H1=>∃ a,x=.ref a/\(∃ xs,SqT K H1 a xs)/\R (Itt K a) H1
theorem cy {l:RO} {tl:TE} (hl:PE X l tl):PI X tg l (vF X.K tl):=by
 intro pins s σ H R I h;refine thn (hl pins s σ H _ I h) fun v s1 ⟨x,H1,I1,r1,q1⟩=>?_;obtain ⟨a,e,⟨xs,hq⟩,q⟩:=q1;subst e;cases r1;obtain ⟨its,rv,p,hz⟩:=I1.list hq;refine wpAny_pyIter_list p.isList ?_;refine ⟨s1.heap.objs.size,[s1.heap.objs.size],_,_,H1,rfl,I1.kept (t':=s1.toks) fun b o e=>QG _ e,qG a _,⟨_,QQ _ rfl,rfl,rfl⟩,fun b hb=>?_,q⟩;have e:b=s1.heap.objs.size:=by simpa using hb
 subst e;exact I1.fpOk (QF _) (I1.hok.fresh (QF _))
theorem kB {l:RO} {tl:TE} (hl:PE X l tl):PI X tg l (wf X.K tl):=by
 intro pins s σ H R I h;refine thn (hl pins s σ H _ I h) fun v s1 ⟨x,H1,I1,r1,q1⟩=>?_;obtain ⟨a,e,⟨xs,hq⟩,q⟩:=q1;subst e;cases r1;obtain ⟨its,rv,p,hz⟩:=I1.tuple hq;refine T5 (show s1.heap.IsTuple a its.toArray from p) ?_;refine ⟨s1.heap.objs.size,[s1.heap.objs.size],_,_,H1,rfl,I1.kept (t':=s1.toks) fun b o e=>QG _ e,oF a _,⟨_,QQ _ rfl,rfl,rfl⟩,fun b hb=>?_,q⟩;have e:b=s1.heap.objs.size:=by simpa using hb
 subst e;exact I1.fpOk (QF _) (I1.hok.fresh (QF _))
theorem nq {pins:List (QD×SQ)} {σ:St} {H:Hp} {s:QJ} {R:It->Hp->Prop} {E:QE->QJ->Prop} {lo hi:Int} {t u v:Tok} {tk:Nat} (I:Inv X pins σ H s) (h1:-(2 ^ 62)<=lo) (h2:lo<2 ^ 62) (h3:-(2 ^ 62)<=hi) (h4:hi<2 ^ 62)
 (q:R (Itr lo (hi - lo).toNat) H):QU (Ra X.prog X.w) X.A (pyIter (.ref s.heap.objs.size)) (PIE X pins σ tg R) E { s with heap:=s.heap.push { cls:=.type "range",data:=.fields #[.int lo t,.int hi u,.int 1 v] },toks:=tk }:=by
 refine wpAny_pyIter_range (IsRange.new ..) (small_one h1 h2 h3 h4) ?_;have I1:Inv X pins σ H { s with heap:=s.heap.push { cls:=.type "range",data:=.fields #[.int lo t,.int hi u,.int 1 v] },toks:=tk }:=I.kept fun b o e=>QG _ e
 refine ⟨(s.heap.push { cls:=.type "range",data:=.fields #[.int lo t,.int hi u,.int 1 v] }).objs.size,[(s.heap.push { cls:=.type "range",data:=.fields #[.int lo t,.int hi u,.int 1 v] }).objs.size],_,_,H,rfl,
  I1.kept (t':=tk) fun b o e=>QG _ e,oJ _ lo (hi - lo).toNat,?_,fun b hb=>?_,q⟩
 · have e1:lo+((0:Nat):Int) * 1=lo:=by simp
   have e2:(((hi - lo).toNat:Nat):Int) - ((0:Nat):Int)=Builtin.Range.rangeSize lo hi 1:=by rw [rangeSize_one];split <;> omega
   show IsRangeIter _ _ (lo+((0:Nat):Int) * 1) ((((hi - lo).toNat:Nat):Int) - ((0:Nat):Int)) 1;rw [e1,e2];exact QQ _ rfl
 · have e:b=(s.heap.push { cls:=.type "range",data:=.fields #[.int lo t,.int hi u,.int 1 v] }).objs.size:=by simpa using hb
   subst e;exact I1.fpOk (QF _) (I1.hok.fresh (QF _))
def vx (ta:TA):TI:=fun σ H R=>ta σ H fun vs H1=>∃ j:Int,vs=[.int j]/\-(2 ^ 62)<=j/\j<2 ^ 62/\R (Itr 0 j.toNat) H1
def vt (ta:TA):TI:=fun σ H R=>ta σ H fun vs H1=>∃ i j:Int,vs=[.int i,.int j]/\(-(2 ^ 62)<=i/\i<2 ^ 62/\-(2 ^ 62)<=j/\j<2 ^ 62)/\R (Itr i (j - i).toNat) H1
theorem bx {a:RO} {ta:TA} {p pos:US} (hg:Gl X "range") (hm:X.mg "range"=none) (ha:PA X [a] ta) (hs:RA [a] X.env=[(false,S4 a X.env)]:=by rfl):PI X tg (.Call (.Name "range" p) [a] [] pos) (vx ta):=by
 intro pins s σ H R I h;refine Call_ (cF I hg hm boot_range (Ry (thn (ha pos pins s σ H _ I h) fun us s1 ⟨vs,H1,I1,r1,q1⟩=>?_) hs rfl));obtain ⟨j,e,q1,q2,q⟩:=q1;subst e;cases r1 with
 | cons r rr =>
   cases rr;obtain ⟨t,rfl⟩:=r;exact call_range_1 (nq I1 (by omega) (by omega) q1 q2 (by simpa using q))
theorem iC {a b:RO} {ta:TA} {p pos:US} (hg:Gl X "range") (hm:X.mg "range"=none) (ha:PA X [a,b] ta) (hs:RA [a,b] X.env=[(false,S4 a X.env),(false,S4 b X.env)]:=by rfl) (K5:RA [b] X.env=[(false,S4 b X.env)]:=by rfl) :
 PI X tg (.Call (.Name "range" p) [a,b] [] pos) (vt ta):=by
 intro pins s σ H R I h;refine Call_ (cF I hg hm boot_range (Ry (thn (ha pos pins s σ H _ I h) fun us s1 ⟨vs,H1,I1,r1,q1⟩=>?_) (by rw [hs,K5]) (by rw [K5];rfl)));obtain ⟨i,j,e,⟨q1,q2,q3,q4⟩,q⟩:=q1;subst e;cases r1 with
 | cons r rr =>
   cases rr with
   | cons r' rr =>
     cases rr;obtain ⟨t,rfl⟩:=r;obtain ⟨t',rfl⟩:=r';exact call_range_2 (nq I1 q1 q2 q3 q4 q)
def wz (wi:TI) (g:TG) (tb:TS):TS:=fun D σ H=>wi σ H fun J H1=>∃ W:Nat->Nat->St->Hp->Prop,(∃ m,W 0 m σ H1)/\∀ i m σ H,W i m σ H →
 (J.stop i H/\D.nx σ H)∨(J.go i H/\∃ N:St->Hp->Prop,(∀ wH H',N wH H'->∃ m',m'<m/\W (i+1) m' wH H')/\∀ x H',J.yld i H x H'->g x σ H' fun w9 H2=>tb { D with nx:=N,ct:=N,bk:=D.nx } w9 H2)
def jq (fp:List QD) (h:RS):List (QD×SQ):=fp.filterMap fun b=>(h.get? b).map fun o=>(b,o)
theorem eN {fp:List QD} {h:RS} {b:QD} {o:SQ} (hb:b∈fp) (e:h.get? b=some o):(b,o)∈jq fp h:=Wd.mpr ⟨b,hb,by rw [e];rfl⟩
theorem qT {fp:List QD} {h:RS} {p:QD×SQ} (hp:p∈jq fp h):p.1∈fp/\h.get? p.1=some p.2:=by
 obtain ⟨b,hb,e⟩:=Wd.mp hp;cases q:h.get? b with
 | none=>rw [q] at e;cases e
 | some o =>
   rw [q] at e;have e':(b,o)=p:=Q8 e;subst e';exact ⟨hb,q⟩
theorem Inv.pinned {pins:List (QD×SQ)} {σ:St} {H:Hp} {s:QJ} {fp:List QD} (I:Inv X pins σ H s) (hf:∀ b∈fp,jc X pins H b) (ho:∀ b∈fp,∃ o,s.heap.get? b=some o/\∀ v,o.data≠.cell v):Inv X (pins++jq fp s.heap) σ H s :=
 I.pins_of fun p hp=>(Rv.mp hp).elim (fun z=>I.pin p (Rt _ z)) fun z=>by
  obtain ⟨hb,e⟩:=qT z;obtain ⟨f0,f1,f2,_⟩:=hf p.1 hb;obtain ⟨o,e',d⟩:=ho p.1 hb;rw [e] at e';cases e';exact ⟨e,f0,f1,f2,d⟩
theorem Inv.unpinned {pins pl:List (QD×SQ)} {σ:St} {H:Hp} {s:QJ} (I:Inv X (pins++pl) σ H s):Inv X pins σ H s:=I.pins_of fun p hp=>I.pin p (Rt _ (RC _ hp))
theorem bw {iter:RO} {body:List SD} {wi:TI} {g:TG} {tb:TS} {pos:US} (hp:PassesOwn (Ra X.prog X.w) X.A X.env X.xe) (hc:X.calm=true) (hi:PI X tg iter wi) (hg:PG X tg g) (hb:PSs X body tb)
 (hs:∀ x,foldedSetIterable iter X.env x=pure x:=by intro _;rfl):PS X (.For tg iter body [] pos) (wz wi g tb):=by
 intro pins s σ H D I h;refine wpAny_For (thn (hi pins s σ H _ I h) fun v s1 h1=>thn h1 fun GN s2 h2=>?_) hs;obtain ⟨it,fp,tn,J,H2,e,I2,T,zq,f2,W,⟨m0,w0⟩,turn⟩:=h2;subst e
 -- HK stays true of zp CQ objects through zp loop
 have zr:∀ {H':Hp},(∀ b∈fp,H' b=none)->∀ b∈fp,jc X pins H' b:=fun hn b hb=>⟨hn b hb,(f2 b hb).2⟩;refine codeAny_forLoop_any (fun n s'=>∃ i wH H',Inv X pins wH H' s'/\tn i s'.heap/\(∀ b∈fp,H' b=none)/\W i n wH H') ?_ m0 ⟨0,σ,H2,I2,zq,fun b hb=>(f2 b hb).1,w0⟩;rintro n s3 ⟨i,AE,H3,I3,K6,K7,w3⟩;rcases turn i n AE H3 w3 with ⟨stop,qn⟩ | ⟨go,N,hN,step⟩
 · refine T7 hp (thn (T.done X rfl rfl rfl hc i pins s3 AE H3 X.xe I3 (zr K7) K6 stop) fun r s4 ⟨hr,I4⟩=>?_);subst hr;exact V4 ⟨AE,H3,I4,qn⟩
 · refine T7 hp (thn (T.item X rfl rfl rfl hc i pins s3 AE H3 X.xe I3 (zr K7) K6 go) fun r s4 ⟨u,hr,h4⟩=>?_);subst hr;refine T7 hp (thn h4 fun _ s5 ⟨x,H5,I5,r5,y5,DY,GO⟩=>?_);have MN:=I5.pinned (zr GO) (T.obj _ _ DY);refine T7 hp (thn (hg _ s5 AE H5 x u _ MN r5 (step x H5 y5)) fun _ s6 ⟨MO,H6,I6,q6⟩=>?_);refine T7 hp (thn (hb _ s6 MO H6 _ I6 q6) fun f s7 q7=>?_)
   have again:∀ {AF:St} {H7:Hp},Inv X (pins++jq fp s5.heap) AF H7 s7->N AF H7->∃ m,m<n/\∃ i wH H',Inv X pins wH H' s7/\tn i s7.heap/\(∀ b∈fp,H' b=none)/\W i m wH H':=fun {AF H7} I7 n7=>by
    obtain ⟨m',hm,w7⟩:=hN AF H7 n7;refine ⟨m',hm,i+1,AF,H7,I7.unpinned,T.keep _ _ _ DY fun b hb o e=>(I7.pin (b,o) (Rt _ (Rt _ (eN hb e)))).1,fun b hb=>?_,w7⟩;obtain ⟨o,e,d⟩:=T.obj _ _ DY b hb;exact (I7.pin (b,o) (Rt _ (Rt _ (eN hb e)))).2.1
   cases f with
   | next=>obtain ⟨AF,H7,I7,n7⟩:=q7;exact again I7 n7
   | cont=>obtain ⟨AF,H7,I7,n7⟩:=q7;exact again I7 n7
   | brk=>obtain ⟨AF,H7,I7,q7⟩:=q7;exact ⟨AF,H7,I7.unpinned,q7⟩
   | ret v=>obtain ⟨x7,AF,H7,I7,r7,q7⟩:=q7;exact ⟨x7,AF,H7,I7.unpinned,r7,q7⟩
end
theorem dZ {K:QB} {a:QD} {xs:List V} {g:TG} {tb:TS} {D:Ends} {σ:St} {H:Hp} (Pv:Nat->St->Hp->Prop) (h0:Pv 0 σ H) (hl:∀ i σ H,i<=xs.length->Pv i σ H->SqL K H a xs)
 (hs:∀ i x σ H,xs[i]?=some x->Pv i σ H->g x σ H fun w9 H2=>tb { D with nx:=Pv (i+1),ct:=Pv (i+1),bk:=D.nx } w9 H2) (hd:∀ σ H,Pv xs.length σ H->D.nx σ H) :
 ∃ W:Nat->Nat->St->Hp->Prop,(∃ m,W 0 m σ H)/\∀ i m σ H,W i m σ H →
   ((Itl K a).stop i H/\D.nx σ H)∨((Itl K a).go i H/\∃ N:St->Hp->Prop,(∀ wH H',N wH H'->∃ m',m'<m/\W (i+1) m' wH H')/\∀ x H',(Itl K a).yld i H x H'->g x σ H' fun w9 H2=>tb { D with nx:=N,ct:=N,bk:=D.nx } w9 H2):=by
 refine ⟨fun i m σ H=>m=xs.length - i/\i<=xs.length/\Pv i σ H,⟨xs.length,by simp,Q7 _,h0⟩,?_⟩;rintro i m σ H ⟨rfl,hi,p⟩;have q:=hl i σ H hi p;by_cases wX:i<xs.length
 · refine .inr ⟨⟨xs,xs[i],q,by simp [wX]⟩,Pv (i+1),fun wH H' p'=>⟨xs.length - (i+1),by omega,rfl,wX,p'⟩,fun x H' y=>?_⟩;obtain ⟨e,y⟩:=y;subst e;exact hs i x σ _ (y xs q) p
 · have e:i=xs.length:=by omega
   subst e;exact .inl ⟨⟨xs,q,QF _⟩,hd σ H p⟩
theorem tm {K:QB} {a:QD} {xs:List V} {g:TG} {tb:TS} {D:Ends} {σ:St} {H:Hp} (Pv:Nat->St->Hp->Prop) (h0:Pv 0 σ H) (hl:∀ i σ H,i<=xs.length->Pv i σ H->SqT K H a xs)
 (hs:∀ i x σ H,xs[i]?=some x->Pv i σ H->g x σ H fun w9 H2=>tb { D with nx:=Pv (i+1),ct:=Pv (i+1),bk:=D.nx } w9 H2) (hd:∀ σ H,Pv xs.length σ H->D.nx σ H) :
 ∃ W:Nat->Nat->St->Hp->Prop,(∃ m,W 0 m σ H)/\∀ i m σ H,W i m σ H →
   ((Itt K a).stop i H/\D.nx σ H)∨((Itt K a).go i H/\∃ N:St->Hp->Prop,(∀ wH H',N wH H'->∃ m',m'<m/\W (i+1) m' wH H')/\∀ x H',(Itt K a).yld i H x H'->g x σ H' fun w9 H2=>tb { D with nx:=N,ct:=N,bk:=D.nx } w9 H2):=by
 refine ⟨fun i m σ H=>m=xs.length - i/\i<=xs.length/\Pv i σ H,⟨xs.length,by simp,Q7 _,h0⟩,?_⟩;rintro i m σ H ⟨rfl,hi,p⟩;have q:=hl i σ H hi p;by_cases wX:i<xs.length
 · refine .inr ⟨⟨xs,xs[i],q,by simp [wX]⟩,Pv (i+1),fun wH H' p'=>⟨xs.length - (i+1),by omega,rfl,wX,p'⟩,fun x H' y=>?_⟩;obtain ⟨e,y⟩:=y;subst e;exact hs i x σ _ (y xs q) p
 · have e:i=xs.length:=by omega
   subst e;exact .inl ⟨⟨xs,q,QF _⟩,hd σ H p⟩
theorem bU {lo:Int} {n:Nat} {g:TG} {tb:TS} {D:Ends} {σ:St} {H:Hp} (Pv:Nat->St->Hp->Prop) (h0:Pv 0 σ H)
 (hs:∀ i σ H,i<n->Pv i σ H->g (.int (lo+i)) σ H fun w9 H2=>tb { D with nx:=Pv (i+1),ct:=Pv (i+1),bk:=D.nx } w9 H2) (hd:∀ σ H,Pv n σ H->D.nx σ H) :
 ∃ W:Nat->Nat->St->Hp->Prop,(∃ m,W 0 m σ H)/\∀ i m σ H,W i m σ H →
   ((Itr lo n).stop i H/\D.nx σ H)∨((Itr lo n).go i H/\∃ N:St->Hp->Prop,(∀ wH H',N wH H'->∃ m',m'<m/\W (i+1) m' wH H')/\∀ x H',(Itr lo n).yld i H x H'->g x σ H' fun w9 H2=>tb { D with nx:=N,ct:=N,bk:=D.nx } w9 H2):=by
 refine ⟨fun i m σ H=>m=n - i/\i<=n/\Pv i σ H,⟨n,by simp,Q7 _,h0⟩,?_⟩;rintro i m σ H ⟨rfl,hi,p⟩;by_cases wX:i<n
 · refine .inr ⟨wX,Pv (i+1),fun wH H' p'=>⟨n - (i+1),by omega,rfl,wX,p'⟩,fun x H' y=>?_⟩;obtain ⟨e,y⟩:=y;subst e y;exact hs i σ _ wX p
 · have e:i=n:=by omega
   subst e;exact .inl ⟨QF _,hd σ H p⟩
end L2
namespace L2
open PySem PySem.Spec PyProof.Rows
abbrev R2:=V->V->Hp->VK->Prop
def OpR (X:Cx) (f:QE->QE->Sem QE) (r:R2):Prop :=
 ∀ (pins:List (QD×SQ)) (s:QJ) (σ:St) (H:Hp) (x y:V) (v u:QE) (Q:VK),Inv X pins σ H s->RelV x v->RelV y u->r x y H Q →
   QU (Ra X.prog X.w) X.A (f v u) (EP X pins σ Q) X.xe s
def UnR (X:Cx) (f:QE->Sem QE) (r:V->Hp->VK->Prop):Prop :=
 ∀ (pins:List (QD×SQ)) (s:QJ) (σ:St) (H:Hp) (x:V) (v:QE) (Q:VK),Inv X pins σ H s->RelV x v->r x H Q →
   QU (Ra X.prog X.w) X.A (f v) (EP X pins σ Q) X.xe s
def f7 (X:Cx) (f:QE) (r:List V->Hp->VK->Prop):Prop :=
 ∀ (pins:List (QD×SQ)) (s:QJ) (σ:St) (H:Hp) (xs:List V) (us:List QE) (Q:VK),Inv X pins σ H s->Vals xs us->r xs H Q →
   QU (Ra X.prog X.w) X.A (call f us) (EP X pins σ Q) X.xe s
def wv (X:Cx) (r:V->Hp->(Bool->Hp->Prop)->Prop):Prop :=
 ∀ (pins:List (QD×SQ)) (s:QJ) (σ:St) (H:Hp) (x:V) (v:QE) (Q:Bool->Hp->Prop),Inv X pins σ H s->RelV x v->r x H Q →
   QU (Ra X.prog X.w) X.A (truthy v) (TP X pins σ Q) X.xe s
def tOp (r:R2) (ta tb:TE):TE:=fun σ H Q=>ta σ H fun x H1=>tb σ H1 fun y H2=>r x y H2 Q
def tUn (r:V->Hp->VK->Prop) (ta:TE):TE:=fun σ H Q=>ta σ H fun x H1=>r x H1 Q
inductive IrI (C:Int->Int->Prop) (g:Int->Int->V) (x:V) (y:V) (H:Hp) (Q:VK):Prop
 | mk (i:_) (j:_) (wZ:x=.int i) (w4:y=.int j) (w8:C i j) (xj:Q (g i j) H):IrI C g x y H Q
def rI (C:Int->Int->Prop) (g:Int->Int->V):R2:=IrI C g
inductive vB (g:Int->Int->V) (x:V) (y:V) (H:Hp) (Q:VK):Prop
 | mk (i:_) (j:_) (wZ:x=.int i) (w4:y=.int j) (w8:Q (g i j) H):vB g x y H Q
def rI0 (g:Int->Int->V):R2:=vB g
inductive IrU (g:Int->V) (x:V) (H:Hp) (Q:VK):Prop
 | mk (i:_) (wZ:x=.int i) (w4:Q (g i) H):IrU g x H Q
def rU (g:Int->V):V->Hp->VK->Prop:=IrU g
section
variable {X:Cx} {a b c:RO} {ta tb tc:TE} {pos:US}
theorem va (ha:PE X a ta) (hb:PE X b tb) {pins:List (QD×SQ)} {s:QJ} {σ:St} {H:Hp} {R:V->V->Hp->Prop} (I:Inv X pins σ H s)
 (h:ta σ H fun x H1=>tb σ H1 fun y H2=>R x y H2) {Q:QE->QJ->Prop} {f:QE->QE->Sem QE}
 (hf:∀ v u s2 x y H2,Inv X pins σ H2 s2->RelV x v->RelV y u->R x y H2->QU (Ra X.prog X.w) X.A (f v u) Q X.xe s2) :
 QU (Ra X.prog X.w) X.A (S4 a X.env) (fun v wI=>QU (Ra X.prog X.w) X.A (S4 b X.env) (fun u xo=>QU (Ra X.prog X.w) X.A (f v u) Q X.xe xo) X.xe wI) X.xe s:=by
 refine thn (ha pins s σ H _ I h) fun v s1 ⟨x,H1,I1,r1,q1⟩=>?_;refine thn (hb pins s1 σ H1 _ I1 q1) fun u s2 ⟨y,H2,I2,r2,q2⟩=>?_;exact hf v u s2 x y H2 I2 r1 r2 q2
theorem av {op:Operator} {r:R2} (ho:OpR X (UJ op) r) (ha:PE X a ta) (hb:PE X b tb):PE X (.BinOp a op b pos) (tOp r ta tb):=by
 intro pins s σ H Q I h;exact wpAny_BinOp (va ha hb I h fun v u s2 x y H2 I2 rx ry q=>ho pins s2 σ H2 x y v u Q I2 rx ry q)
theorem vO {op:UnaryOp} {r:V->Hp->VK->Prop} (ho:UnR X (unaryOp op) r) (ha:PE X a ta):PE X (.UnaryOp op a pos) (tUn r ta):=by
 intro pins s σ H Q I h;exact UnaryOp_ (thn (ha pins s σ H _ I h) fun v s1 ⟨x,H1,I1,r1,q1⟩=>ho pins s1 σ H1 x v Q I1 r1 q1)
theorem opI {f:QE->QE->Sem QE} {C:Int->Int->Prop} {g:Int->Int->Int}
 (rule:∀ (i j:Int) (t u:Tok) (s:QJ) (Q:QE->QJ->Prop) (E:QE->QJ->Prop),C i j->Q (.int (g i j) s.toks) { s with toks:=s.toks+1 }->QU (Ra X.prog X.w) X.A (f (.int i t) (.int j u)) Q E s) :
 OpR X f (rI C fun i j=>.int (g i j)):=by
 intro pins s σ H x y v u Q I rx ry h;obtain ⟨i,j,rfl,rfl,hc,q⟩:=h;obtain ⟨t,rfl⟩:=rx;obtain ⟨t',rfl⟩:=ry;exact rule i j t t' s _ _ hc ⟨.int (g i j),H,I.tok _,⟨_,rfl⟩,q⟩
theorem vJ {f:QE->QE->Sem QE} {g:Int->Int->Int}
 (rule:∀ (i j:Int) (t u:Tok) (s:QJ) (Q:QE->QJ->Prop) (E:QE->QJ->Prop),Q (.int (g i j) s.toks) { s with toks:=s.toks+1 }->QU (Ra X.prog X.w) X.A (f (.int i t) (.int j u)) Q E s) :
 OpR X f (rI0 fun i j=>.int (g i j)):=by
 intro pins s σ H x y v u Q I rx ry h;obtain ⟨i,j,rfl,rfl,q⟩:=h;obtain ⟨t,rfl⟩:=rx;obtain ⟨t',rfl⟩:=ry;exact rule i j t t' s _ _ ⟨.int (g i j),H,I.tok _,⟨_,rfl⟩,q⟩
theorem uN {f:QE->QE->Sem QE} {g:Int->Int->Bool}
 (rule:∀ (i j:Int) (t u:Tok) (s:QJ) (Q:QE->QJ->Prop) (E:QE->QJ->Prop),Q (.bool (g i j)) s->QU (Ra X.prog X.w) X.A (f (.int i t) (.int j u)) Q E s) :
 OpR X f (rI0 fun i j=>.bl (g i j)):=by
 intro pins s σ H x y v u Q I rx ry h;obtain ⟨i,j,rfl,rfl,q⟩:=h;obtain ⟨t,rfl⟩:=rx;obtain ⟨t',rfl⟩:=ry;exact rule i j t t' s _ _ ⟨.bl (g i j),H,I,rfl,q⟩
def wg (i j:Int):Prop:=0<j/\j<1073741824
def vY (i j:Int):Prop:=0<=j/\j<=1000000/\i.natAbs<2 ^ 64
def CMul (i j:Int):Prop:=(-(2 ^ 64)<i/\i<2 ^ 64)∨(-(2 ^ 64)<j/\j<2 ^ 64)
theorem CMul.ok {i j:Int} (h:CMul i j):IntMulOk i j:=by
 rcases h with ⟨h1,h2⟩ | ⟨h1,h2⟩
 · exact .of_left (intBits_le_64 h1 h2)
 · exact .of_right (intBits_le_64 h1 h2)
theorem bW:OpR X (UJ .Add) (rI0 fun i j=>.int (i+j)):=vJ fun _ _ _ _ _ _ _ q=>add_int q
theorem j5:OpR X (UJ .Sub) (rI0 fun i j=>.int (i - j)):=vJ fun _ _ _ _ _ _ _ q=>sub_int q
theorem cI:OpR X (UJ .Mult) (rI CMul fun i j=>.int (i * j)):=opI fun _ _ _ _ _ _ _ hc q=>mul_int q hc.ok
theorem bP:OpR X (UJ .FloorDiv) (rI wg fun i j=>.int (i / j)):=opI fun i j _ _ _ _ _ hc q=>by
 have h1:(0:Int)<j:=hc.1;have h2:j<1073741824:=hc.2;exact floordiv_int (by omega) (by rw [Int.fdiv_eq_ediv_of_nonneg i (by omega)];exact q) (.inl (PyProof.noPylong_small (by omega)))
theorem bo:OpR X (UJ .Mod) (rI (fun _ j=>0<j) fun i j=>.int (i%j)):=opI fun i j _ _ _ _ _ hc q=>by
 have h1:(0:Int)<j:=hc;exact mod_int' (by omega) (by rw [Int.fmod_eq_emod_of_nonneg i (by omega)];exact q)
theorem oY:OpR X (UJ .Pow) (rI vY fun i j=>.int (i ^ j.toNat)):=opI fun _ _ _ _ _ _ _ hc q=>pow_int_small hc.1 hc.2.1 hc.2.2 q
theorem unI {f:QE->Sem QE} {g:Int->Int}
 (rule:∀ (i:Int) (t:Tok) (s:QJ) (Q:QE->QJ->Prop) (E:QE->QJ->Prop),Q (.int (g i) s.toks) { s with toks:=s.toks+1 }->QU (Ra X.prog X.w) X.A (f (.int i t)) Q E s) :
 UnR X f (rU fun i=>.int (g i)):=by
 intro pins s σ H x v Q I rx h;obtain ⟨i,rfl,q⟩:=h;obtain ⟨t,rfl⟩:=rx;exact rule i t s _ _ ⟨.int (g i),H,I.tok _,⟨_,rfl⟩,q⟩
theorem uX:UnR X (unaryOp .USub) (rU fun i=>.int (-i)):=unI fun _ _ _ _ _ q=>neg_int q
end
def vS:V->V->Bool
 | .non,.non=>true | .non,.int _=>true | .int _,.non=>true | .non,.bl _=>true | .bl _,.non=>true | .non,.str _=>true | .str _,.non=>true
 | .int _,.int _=>true | .bl _,.bl _=>true | .str _,.str _=>true | .byt _,.byt _=>true
 | .int _,.str _=>true | .str _,.int _=>true | .bl _,.str _=>true | .str _,.bl _=>true
 | _,_=>false
inductive vH (x:V) (y:V) (H:Hp) (Q:VK):Prop
 | mk  (wZ:vS x y=true) (w4:Q (.bl (decide (x=y))) H):vH  x y H Q
def rEq:R2:=vH
inductive vj (x:V) (y:V) (H:Hp) (Q:VK):Prop
 | mk  (wZ:vS x y=true) (w4:Q (.bl (!decide (x=y))) H):vj  x y H Q
def rNe:R2:=vj
theorem pB {i j:Int}:decide (V.int i=V.int j)=(i == j):=by
 rw [U6];simp
theorem ss {i j:Bool}:decide (V.bl i=V.bl j)=(i == j):=by
 rw [U6];simp
theorem pW {i j:Rc}:decide (V.str i=V.str j)=(i == j):=by
 rw [U6];simp
theorem pJ {i j:Array UInt8}:decide (V.byt i=V.byt j)=(i.toList == j.toList):=by
 rw [U6];cases i;cases j;simp
section
variable {X:Cx} {a b c:RO} {ta tb tc:TE} {pos:US}
theorem aU {pins:List (QD×SQ)} {σ:St} {H:Hp} {s:QJ} {Q:VK} {k k':Bool} (I:Inv X pins σ H s) (q:Q (.bl k) H) (e:k=k'):EP X pins σ Q (.bool k') s:=by
 subst e;exact ⟨.bl k,H,I,rfl,q⟩
theorem cP:OpR X (UE .Eq) rEq:=by
 intro pins s σ H x y v u Q I rx ry h;obtain ⟨hs,q⟩:=h;cases x with
 | non =>
   cases rx;cases y with
   | non=>cases ry;exact PySem.EqNone.eq_none_none (aU I q (by simp))
   | bl j=>cases ry;exact PySem.EqNone.eq_none_bool (aU I q (by simp))
   | int j=>obtain ⟨t',rfl⟩:=ry;exact PySem.EqNone.eq_none_int (aU I q (by simp))
   | str j=>obtain ⟨t',rfl⟩:=ry;exact PySem.EqNone.eq_none_str (aU I q (by simp))
   | _=>exact absurd (show false=true from hs) Q0
 | bl i =>
   cases rx;cases y with
   | non=>cases ry;exact PySem.EqNone.eq_bool_none (aU I q (by simp))
   | bl j=>cases ry;exact eq_bool (aU I q ss)
   | str j=>obtain ⟨t',rfl⟩:=ry;exact PySem.EqMixed.eq_bool_str (aU I q (by simp))
   | _=>exact absurd (show false=true from hs) Q0
 | int i =>
   obtain ⟨t,rfl⟩:=rx;cases y with
   | non=>cases ry;exact PySem.EqNone.eq_int_none (aU I q (by simp))
   | int j=>obtain ⟨t',rfl⟩:=ry;exact eq_int (aU I q pB)
   | str j=>obtain ⟨t',rfl⟩:=ry;exact PySem.EqMixed.eq_int_str (aU I q (by simp))
   | _=>exact absurd (show false=true from hs) Q0
 | str i =>
   obtain ⟨t,rfl⟩:=rx;cases y with
   | non=>cases ry;exact PySem.EqNone.eq_str_none (aU I q (by simp))
   | bl j=>cases ry;exact PySem.EqMixed.eq_str_bool (aU I q (by simp))
   | int j=>obtain ⟨t',rfl⟩:=ry;exact PySem.EqMixed.eq_str_int (aU I q (by simp))
   | str j=>obtain ⟨t',rfl⟩:=ry;exact eq_str (aU I q pW)
   | _=>exact absurd (show false=true from hs) Q0
 | byt i =>
   obtain ⟨t,rfl⟩:=rx;cases y with
   | byt j=>obtain ⟨t',rfl⟩:=ry;exact PySem.W.eq_bytes (aU I q pJ)
   | _=>exact absurd (show false=true from hs) Q0
 | _=>cases y <;> exact absurd (show false=true from hs) Q0
theorem pK:OpR X (UE .NotEq) rNe:=by
 intro pins s σ H x y v u Q I rx ry h;obtain ⟨hs,q⟩:=h;cases x with
 | non =>
   cases rx;cases y with
   | non=>cases ry;exact PySem.EqNone.ne_none_none (aU I q (by simp))
   | bl j=>cases ry;exact PySem.EqNone.ne_none_bool (aU I q (by simp))
   | int j=>obtain ⟨t',rfl⟩:=ry;exact PySem.EqNone.ne_none_int (aU I q (by simp))
   | str j=>obtain ⟨t',rfl⟩:=ry;exact PySem.EqNone.ne_none_str (aU I q (by simp))
   | _=>exact absurd (show false=true from hs) Q0
 | bl i =>
   cases rx;cases y with
   | non=>cases ry;exact PySem.EqNone.ne_bool_none (aU I q (by simp))
   | bl j=>cases ry;exact ne_bool (aU I q (congrArg not ss))
   | str j=>obtain ⟨t',rfl⟩:=ry;exact PySem.EqMixed.ne_bool_str (aU I q (by simp))
   | _=>exact absurd (show false=true from hs) Q0
 | int i =>
   obtain ⟨t,rfl⟩:=rx;cases y with
   | non=>cases ry;exact PySem.EqNone.ne_int_none (aU I q (by simp))
   | int j=>obtain ⟨t',rfl⟩:=ry;exact ne_int (aU I q (congrArg not pB))
   | str j=>obtain ⟨t',rfl⟩:=ry;exact PySem.EqMixed.ne_int_str (aU I q (by simp))
   | _=>exact absurd (show false=true from hs) Q0
 | str i =>
   obtain ⟨t,rfl⟩:=rx;cases y with
   | non=>cases ry;exact PySem.EqNone.ne_str_none (aU I q (by simp))
   | bl j=>cases ry;exact PySem.EqMixed.ne_str_bool (aU I q (by simp))
   | int j=>obtain ⟨t',rfl⟩:=ry;exact PySem.EqMixed.ne_str_int (aU I q (by simp))
   | str j=>obtain ⟨t',rfl⟩:=ry;exact ne_str (aU I q (congrArg not pW))
   | _=>exact absurd (show false=true from hs) Q0
 | byt i =>
   obtain ⟨t,rfl⟩:=rx;cases y with
   | byt j=>obtain ⟨t',rfl⟩:=ry;exact PySem.W.ne_bytes (aU I q (congrArg not pJ))
   | _=>exact absurd (show false=true from hs) Q0
 | _=>cases y <;> exact absurd (show false=true from hs) Q0
theorem pR:OpR X (UE .Lt) (rI0 fun i j=>.bl (decide (i<j))):=uN fun _ _ _ _ _ _ _ q=>lt_int q
theorem ve:OpR X (UE .LtE) (rI0 fun i j=>.bl (decide (i<=j))):=uN fun _ _ _ _ _ _ _ q=>le_int q
theorem rF:OpR X (UE .Gt) (rI0 fun i j=>.bl (decide (j<i))):=uN fun _ _ _ _ _ _ _ q=>gt_int q
theorem aW (b:RO) {op:CmpOp} (h:op≠.In:=by decide) (h2:op≠.NotIn:=by decide):VJ op b=false:=by
 have e1:(op == CmpOp.In)=false:=by cases op <;> first | rfl | exact absurd rfl h
 have e2:(op == CmpOp.NotIn)=false:=by cases op <;> first | rfl | exact absurd rfl h2
 cases b <;> simp [VJ,e1,e2]
theorem g7 {op:CmpOp} {r:R2} (ho:OpR X (UE op) r) (ha:PE X a ta) (hb:PE X b tb) (hm:VJ op b=false):PE X (.Compare a [op] [b] pos) (tOp r ta tb):=by
 intro pins s σ H Q I h;exact wpAny_Compare1 (va ha hb I h fun v u s2 x y H2 I2 rx ry q=>ho pins s2 σ H2 x y v u Q I2 rx ry q) hm
inductive ud (x:V) (Q:Bool->Hp->Prop) (H':Hp):Prop
 | mk (k:Bool) (wZ:x=.bl k) (w4:Q k H'):ud x Q H'
def qd (t:TE):TT:=fun σ H Q=>t σ H fun x H'=>ud x Q H'
theorem aS {op:CmpOp} {r:R2} (ho:OpR X (UE op) r) (ha:PE X a ta) (hb:PE X b tb) (hm:VJ op b=false):PT X (.Compare a [op] [b] pos) (qd (tOp r ta tb)):=by
 intro pins s σ H Q I h
 refine wpAny_isTrue_Compare1 (thn (ha pins s σ H _ I h) fun v s1 ⟨x,H1,I1,r1,q1⟩=>thn (hb pins s1 σ H1 _ I1 q1) fun u s2 ⟨y,H2,I2,r2,q2⟩ =>
  thn (ho pins s2 σ H2 x y v u _ I2 r1 r2 q2) fun c s3 ⟨z,H3,I3,r3,k,e,q3⟩=>?_) hm
 subst e;cases r3;exact Uj ⟨H3,I3,q3⟩
def tT (K:QB) (x:V) (H:Hp) (k:Bool):Prop :=
 match x with
 | .non=>k=false
 | .bl b=>k=b
 | .int i=>k=(i != 0)
 | .str y=>y.length<=QW/\k=((y.length:Int) != 0)
 | .byt y=>y.size<=QW/\k=((y.size:Int) != 0)
 | .ref p=>(∃ xs,SqL K H p xs/\k=!xs.isEmpty)∨(∃ xs,SqT K H p xs/\k=!xs.isEmpty)∨∃ f',H p=some (.dK f')/\k=!f'.isEmpty
 | _=>False
theorem oB {κ:Type} {f':List (κ×V)} {vs:List (κ×QE)} (r:KV f' vs):(!vs.isEmpty)=!f'.isEmpty:=by
 cases r <;> rfl
theorem j3 {xs:List V} {its:List QE} (r:Vals xs its):(!its.toArray.isEmpty)=!xs.isEmpty:=by
 cases r <;> simp
theorem eU:(QW:Nat)<2 ^ 63:=by rw [UQ];decide
theorem uF:wv X (fun x H Q=>∃ k,tT X.K x H k/\Q k H):=by
 intro pins s σ H x v Q I rx h;obtain ⟨k,e,q⟩:=h;have hl:=eU;have hs:QW=16777216:=UQ;cases x with
 | non =>
   cases rx;have e':k=false:=e;subst e';exact truthy_none ⟨H,I,q⟩
 | bl b =>
   cases rx;have e':k=b:=e;subst e';exact Uj ⟨H,I,q⟩
 | int i =>
   obtain ⟨t,rfl⟩:=rx;have e':k=(i != 0):=e;subst e';exact PySem.P.truthy_int ⟨H,I,q⟩
 | str y =>
   obtain ⟨t,rfl⟩:=rx;obtain ⟨hy,e'⟩:y.length<=QW/\k=((y.length:Int) != 0):=e;subst e';exact PySem.P.truthy_str (by omega) ⟨H,I.tok _,q⟩
 | byt y =>
   obtain ⟨t,rfl⟩:=rx;obtain ⟨hy,e'⟩:y.size<=QW/\k=((y.size:Int) != 0):=e;subst e';exact PySem.W.truthy_bytes (by omega) ⟨H,I.tok _,q⟩
 | ref p =>
   cases rx;have e':(∃ xs,SqL X.K H p xs/\k=!xs.isEmpty)∨(∃ xs,SqT X.K H p xs/\k=!xs.isEmpty)∨∃ f',H p=some (.dK f')/\k=!f'.isEmpty:=e;rcases e' with ⟨xs,hx,e'⟩ | ⟨xs,hx,e'⟩ | ⟨f',hx,e'⟩
   · subst e';obtain ⟨its,r,pl,hz⟩:=I.list hx;have hlen:=r.length;exact wpAny_truthy_list pl.isList (by simp only [QN];omega) ⟨H,I.tok _,by rw [j3 r];exact q⟩
   · subst e';obtain ⟨its,r,pl,hz⟩:=I.tuple hx;have hlen:=r.length;exact truthy_tuple pl (by simp only [QN];omega) ⟨H,I.tok _,by rw [j3 r];exact q⟩
   · subst e';obtain ⟨hz,hS,vs,r,m⟩:f'.length<=QW/\(p == Sv)=false/\∃ vs,KV f' vs/\s.heap.DictOf (aB X.prog X.w) p vs:=I.hok p _ hx;have hlen:f'.length=vs.length:=QP r;exact wpAny_truthy_dict hS m (by omega) ⟨H,I.tok _,by rw [oB r];exact q⟩
 | _=>exact (show False from e).elim
theorem bA (ha:PE X a ta) (he:∀ whole,isTrue a X.env whole=(do let v ← whole;standAt a.pos;holding [v] (truthy v))) :
 PT X a (fun σ H Q=>ta σ H fun x H'=>∃ k,tT X.K x H' k/\Q k H'):=by
 intro pins s σ H Q I h;exact isTrue_plain (thn (ha pins s σ H _ I h) fun v s1 ⟨x,H1,I1,r1,q1⟩=>uF pins s1 σ H1 x v Q I1 r1 q1) (he _)
theorem gu:OpR X (UJ .Add) (fun x y H Q=>∃ i j,x=.str i/\y=.str j/\i.length+j.length<=QW/\Q (.str (i++j)) H):=by
 intro pins s σ H x y v u Q I rx ry h;obtain ⟨i,j,rfl,rfl,hz,q⟩:=h;obtain ⟨t,rfl⟩:=rx;obtain ⟨t',rfl⟩:=ry;exact add_str (fun t' tk=>⟨.str (i++j),H,I.tok _,⟨_,rfl⟩,q⟩) hz
theorem vals1 {x:V} {us:List QE} (r:Vals [x] us):∃ u,us=[u]/\RelV x u:=by
 cases r with
 | cons r1 r2=>cases r2;exact ⟨_,rfl,r1⟩
theorem vals2 {x y:V} {us:List QE} (r:Vals [x,y] us):∃ u w',us=[u,w']/\RelV x u/\RelV y w':=by
 cases r with
 | cons r1 r2 =>
   cases r2 with
   | cons r3 r4=>cases r4;exact ⟨_,_,rfl,r1,r3⟩
end
end L2
namespace L2
open PySem PySem.Spec PyProof.Rows
structure ObjM (h:RS) (x dx C:QD) (mA:Rc->Option QE):Prop where
 obj:h.get? x=some (PySem.W.instObj C dx)
 ns:h.Ns1 dx mA
 ne:dx≠x
theorem qK {h:RS} {dx:QD} {mA:Rc->Option QE} (n:h.Ns1 dx mA):∃ od,h.get? dx=some od/\∀ name,PySem.W.lookIn name od=some (mA name):=by
 obtain ⟨o,es,ep,ho,hd,hk,_,hm⟩:=n;refine ⟨o,ho,fun name=>?_⟩;have e:=hm name;unfold nsFind findBy at e;rw [<- Array.find?_toList] at e;unfold PySem.W.lookIn;rw [hd];dsimp only;split
 · rename_i y q
   rw [q] at e;exact congrArg some e
 · rename_i q
   rw [q] at e
   have a:es.toList.any (·.refKey)=false:=by
    rw [List.any_eq_false];intro y hy;obtain ⟨z,t,zt⟩:=hk y (Array.mem_toList_iff.mp hy);simp [DictEntry.refKey,zt]
   have a':¬ es.toList.any (·.refKey)=true:=by rw [a];exact Q0
   rw [if_neg a'];exact congrArg some e
theorem ObjM.look {h:RS} {x dx C:QD} {mA:Rc->Option QE} (I:ObjM h x dx C mA):∃ od,PySem.W.InstAt h x (PySem.W.instObj C dx) C (some od)/\∀ name,PySem.W.lookIn name od=some (mA name) :=
 let ⟨od,ho,hl⟩:=qK I.ns
 ⟨od,⟨I.obj,rfl,rfl,ho⟩,hl⟩
section
variable {prog:QR} {w:Q3} {A:Rr} {E:QE->QJ->Prop} {s:QJ} {K:QB} {x dx C f:QD} {mA:Rc->Option QE} {name:Rc} {v:QE}
end
theorem RelO.some_of {v:V} {o:Option QE} (r:RelO (some v) o):∃ u,o=some u/\RelV v u:=by
 cases o with
 | none=>exact (show False from r).elim
 | some u=>exact ⟨u,rfl,r⟩
section
variable {P:QR} {w:Q3} {H H':Hp} {h h':RS} {a C dx:QD} {fs MJ:List (Rc×V)}
theorem tS (hok:HOk P w H h) (e:H a=some (.ins C dx fs)):∃ mA,ObjM h a dx C mA/\(∀ f,RelO (fs.lookup f) (mA f))/\PySem.Within mA (fs.map (·.1))/\fs.length<=1000/\H dx=some (.own a):=by
 obtain ⟨d,z,ne,ob,mA,n,r,q⟩:=(show ObjOk P w H h a (.ins C dx fs) from hok a _ e);exact ⟨mA,⟨ob,n,ne⟩,r,q,z,d⟩
end
structure Cls (K:QB) (C:QD):Prop where
 pg:PySem.W.plainGet K C Str.empty=true
 hd:PySem.W.hasDictIn K C=true
 po:PySem.W.plainOver K C=true
 sa:PySem.W.findIn K (.ref C) "__setattr__"=some (some (.builtin "object.__setattr__"))
theorem Cls.get {K:QB} {C:QD} (c:Cls K C) (f:Rc):PySem.W.plainGet K C f=true:=c.pg
section
variable {X:Cx} {pins:List (QD×SQ)} {σ:St} {H:Hp} {s:QJ} {a C dx:QD} {fs:List (Rc×V)} {f:Rc} {v:V} {A:Rr} {E:QE->QJ->Prop}
end
section
variable {X:Cx} {o e value:RO} {f:Rc} {pos pos' HS:US} {ta tv:TE}
end
section
variable {X:Cx} {pins:List (QD×SQ)} {σ:St} {H:Hp} {s:QJ} {A:Rr} {E:QE->QJ->Prop} {Q:QE->QJ->Prop} {c:QE} {b:Bool}
inductive gU (K:QB) (H:Hp):V->QE->Prop where
 | non:gU K H .non (.type "NoneType")
 | bl (x:Bool):gU K H (.bl x) (.type "bool")
 | int (i:Int):gU K H (.int i) (.type "int")
 | str (x:Rc):gU K H (.str x) (.type "str")
 | flt (x:UInt64):gU K H (.flt x) (.type "float")
 | lst {a:QD} {xs:List V} (e:H a=some (.lst xs)):gU K H (.ref a) (.type "list")
 | frz {a:QD} {o:SQ} {xs:List V} (e:H a=some (.frz o (.lst xs))):gU K H (.ref a) (.type "list")
 | tup {a:QD} {xs:List V} (e:H a=some (.tup xs)):gU K H (.ref a) (.type "tuple")
 | dK {a:QD} {f':List (Key×V)} (e:H a=some (.dK f')):gU K H (.ref a) (.type "dict")
 | dT {a:QD} {f':List (List Key×V)} (e:H a=some (.dT f')):gU K H (.ref a) (.type "dict")
 | ins {a C dx:QD} {fs:List (Rc×V)} (e:H a=some (.ins C dx fs)) (cl:Cls K C) (ha:PySem.W.findIn K (.ref C) "__class__"=some (some (.builtin "object.__class__")))
  (hn:PySem.W.specialIn K (.builtin "object.__class__") "__get__"=some (some (.builtin "getset_descriptor.__get__"))) (yR:PySem.W.takesIn K (.builtin "object.__class__")=some true)
  (hm:PySem.W.mroIn K C (.type "object")=some true):gU K H (.ref a) (.ref C)
theorem qV {x:V} {u t:QE} (I:Inv X pins σ H s) (rx:RelV x u) (ty:gU X.K H x t) (e:T8 X.K t c=some b) (h:∀ tk,Q (.bool b) { s with toks:=tk }) :
 QU (Ra X.prog X.w) A (call (.builtin "isinstance") [u,c]) Q E s:=by
 cases ty with
 | non=>cases (show u=R4 from rx);exact Sk PySem.W.kitx_none I.kIn SK e (fun z=>nomatch z) h
 | bl y=>cases (show u=Value.bool y from rx);exact Sk PySem.W.kitx_bool I.kIn SK e (fun z=>nomatch z) h
 | int i=>obtain ⟨t,q⟩:=(show ∃ t,u=Value.int i t from rx);cases q;exact Sk PySem.W.kitx_int I.kIn SK e (fun z=>nomatch z) h
 | str y=>obtain ⟨t,q⟩:=(show ∃ t,u=Value.str y t from rx);cases q;exact Sk PySem.W.kitx_str I.kIn SK e (fun z=>nomatch z) h
 | flt y=>obtain ⟨t,q⟩:=(show ∃ t,u=Value.float y t from rx);cases q;exact Sk PySem.W.kitx_float I.kIn SK e (fun z=>nomatch z) h
 | @lst a xs ea =>
   cases (show u=Q9 a from rx);obtain ⟨_,_,n,_,h1⟩:=(show ObjOk X.prog X.w H s.heap a (.lst xs) from I.hok a _ ea);exact Sk PySem.W.kitx_list I.kIn ⟨_,h1,rfl⟩ e (fun z=>nomatch z) h
 | @frz a ob xs ea =>
   cases (show u=Q9 a from rx);obtain ⟨_,_,_,n,_,h1⟩:=(show ObjOk X.prog X.w H s.heap a (.frz ob (.lst xs)) from I.hok a _ ea);exact Sk PySem.W.kitx_list I.kIn ⟨_,h1,rfl⟩ e (fun z=>nomatch z) h
 | @tup a xs ea =>
   cases (show u=Q9 a from rx);obtain ⟨_,_,_,_,h1⟩:=(show ObjOk X.prog X.w H s.heap a (.tup xs) from I.hok a _ ea);exact Sk PySem.W.kitx_tuple I.kIn ⟨_,h1,rfl⟩ e (fun z=>nomatch z) h
 | @dK a f' ea =>
   cases (show u=Q9 a from rx);obtain ⟨_,_,vs,_,p⟩:=(show ObjOk X.prog X.w H s.heap a (.dK f') from I.hok a _ ea);obtain ⟨o,es,ep,h1,h2,_⟩:=p;exact Sk PySem.W.kitx_dict I.kIn ⟨o,h1,h2.1⟩ e (fun z=>nomatch z) h
 | @dT a f' ea =>
   cases (show u=Q9 a from rx);obtain ⟨_,_,xs,_,o,es,ep,h1,h2,_⟩:=(show ObjOk X.prog X.w H s.heap a (.dT f') from I.hok a _ ea);exact Sk PySem.W.kitx_dict I.kIn ⟨o,h1,h2.1⟩ e (fun z=>nomatch z) h
 | @ins a C dx fs ea cl ha hn yR hm =>
   cases (show u=Q9 a from rx);obtain ⟨mA,O,_⟩:=tS I.hok ea;obtain ⟨od,J,_⟩:=O.look;exact Sk (PySem.W.kitx_own (cl.get _) cl.hd ha hn yR hm) I.kIn J e (fun z=>nomatch z) h
end
end L2
namespace L2
open PySem PySem.Spec PyProof.Rows
structure Room (k:Nat) (A:Rr):Prop where
 hd:A.handled=none
 dp:A.depth+3 * k+5<recursionLimit
 un:A.units+16 * k+200<Sl
theorem Room.mono {j k:Nat} {A:Rr} (r:Room k A) (h:j<=k):Room j A:=⟨r.hd,by have:=r.dp;omega,by have:=r.un;omega⟩
theorem Room.deeper {k:Nat} {A:Rr} (r:Room (k+1) A) (env:Env):Room k (A.deeper env) :=
 ⟨r.hd,by have:=r.dp;show A.depth+1+3 * k+5<_;omega,by have:=r.un;show A.units+3+16 * k+200<_;omega⟩
theorem Room.depth {k:Nat} {A:Rr} (r:Room k A):A.depth<recursionLimit:=by have:=r.dp;omega
theorem Room.units {k:Nat} {A:Rr} (r:Room k A):A.units+64<Sl:=by have:=r.un;omega
def dP:TA:=fun _ H Q=>Q [] H
def bn (ta:TE) (tr:TA):TA:=fun σ H Q=>ta σ H fun x H1=>tr σ H1 fun xs H2=>Q (x::xs) H2
section
variable {X:Cx} {e:RO} {es:List RO} {te:TE} {t:TA} {pos:US}
theorem ac:PA X [] dP:=fun _ _ _ _ H Q I h=>SI ⟨[],H,I,.nil,h⟩
theorem aa (ha:PE X e te) (hr:PA X es t) (hs:RA (e::es) X.env=(false,S4 e X.env)::RA es X.env:=by rfl):PA X (e::es) (bn te t):=by
 intro pos pins s σ H Q I h;rw [hs];show QU _ _ (spliced ((false,S4 e X.env)::U0 pos (RA es X.env))) _ _ s;refine Sg (thn (ha pins s σ H _ I h) fun u s1 ⟨x,H1,I1,r1,q1⟩=>?_);exact thn (hr pos pins s1 σ H1 _ I1 q1) fun us s2 ⟨xs,H2,I2,r2,q2⟩=>⟨x::xs,H2,I2,.cons r1 r2,q2⟩
def mm (t:TA):TE:=fun σ H Q=>t σ H fun xs H1=>xs.length<=QW/\∀ p,H1 p=none->Q (.ref p) (upd H1 p (.tup xs))
def v6 (t:TA):TE:=fun σ H Q=>t σ H fun xs H1=>xs.length<=QW/\∀ p,H1 p=none->Q (.ref p) (upd H1 p (.lst xs))
theorem aH {x1} (h:PA X es t):PE X (.Tuple es x1 pos) (mm t):=by
 intro pins s σ H Q I hq;refine wpAny_Tuple_spliced (thn (h pos pins s σ H _ I hq) fun us s1 ⟨xs,H1,I1,r,z,q⟩=>⟨by rw [<- r.length];exact z,?_⟩);have hf:H1 s1.heap.objs.size=none:=I1.hok.fresh (QF _);refine ⟨.ref s1.heap.objs.size,upd H1 s1.heap.objs.size (.tup xs),I1.laid (t':=s1.toks) (fun b u e=>QG _ e) (QF _) ?_,rfl,q _ hf⟩;exact ⟨z,us,0,r,QQ _ rfl⟩
theorem bv (h:PA X es t):PE X (.List es pos) (v6 t):=by
 intro pins s σ H Q I hq;refine wpAny_List_spliced (thn (h pos pins s σ H _ I hq) fun us s1 ⟨xs,H1,I1,r,z,q⟩=>⟨by rw [<- r.length];exact z,?_⟩);have hf:H1 s1.heap.objs.size=none:=I1.hok.fresh (QF _);refine ⟨.ref s1.heap.objs.size,upd H1 s1.heap.objs.size (.lst xs),I1.laid (t':=s1.toks) (fun b u e=>QG _ e) (QF _) ?_,rfl,q _ hf⟩;exact ⟨z,us,0,r,QQ _ rfl⟩
end
abbrev Sp:=List V->Hp->VK->XK->Prop
abbrev CXT:=List Env->Hp->QJ->XK->QE->QJ->Prop
structure sN (P:QR) (w:Q3) (K:QB) (mg:Rc->Option QE) (base:RS) (A:Rr) (outer:List Env) (s:QJ) (H:Hp):Prop where
 frames:A.frames=some outer
 mod:Mod K mg base
 bs:∀ b o,base.get? b=some o->s.heap.get? b=some o/\H b=none
 bsz:base.objs.size<=s.heap.objs.size
 funs:s.heap.FunFrames base outer
 frf:∀ b∈frs outer,H b=none
 hok:HOk P w H s.heap
 bare:AllBare s.gens
def CE (outer:List Env) (P:QR) (w:Q3) (H:Hp) (s:QJ) (Q:VK) (u:QE) (s':QJ):Prop :=
 ∃ v H',s'.os=s.os/\AllBare s'.gens/\Un (frs outer) [] H H' s.heap s'.heap/\HOk P w H' s'.heap/\RelV v u/\Q v H'
def CR (CX:CXT) (outer:List Env) (P:QR) (w:Q3) (H:Hp) (s:QJ) (Q:VK) (E:XK) (r:Result) (s':QJ):Prop :=
 match r with
 | .ok (.ret u)=>CE outer P w H s Q u s'
 | .ok _=>False
 | .error e=>CX outer H s E e s'
structure bh (P:QR) (w:Q3) (K:QB) (mg:Rc->Option QE) (base:RS) (CX:CXT) (k:Nat) (f:QD) (fd:Ua) (ps:List Rc) (sp:Sp):Prop where
 len:∀ vs H Q E,sp vs H Q E->vs.length=ps.length
 run:∀ (A:Rr) (outer:List Env) (s:QJ) (H:Hp) (args:Args) (us:List QE) (vs:List V) (Q:VK) (E:XK),Room k A->sN P w K mg base A outer s H->BindsTo s fd args (ps.zip us)->Vals vs us->sp vs H Q E →
  UZ (Ra P w) A (.call (.ref f) args) (CR CX outer P w H s Q E) s
section
variable {X:Cx} {pins:List (QD×SQ)} {σ:St} {H:Hp} {s s':QJ}
theorem Inv.env0 (I:Inv X pins σ H s):sN X.prog X.w X.K X.mg X.base X.A X.stack s H :=
 ⟨I.ok.frames,I.ok.mod,I.bs,Sn I.ok.bsz I.sz,I.stack,I.stkFree,I.hok,I.bare⟩
theorem Inv.after {Q:VK} {u:QE} (I:Inv X pins σ H s) (h:CE X.stack X.prog X.w H s Q u s'):EP X pins σ Q u s':=by
 obtain ⟨v,H',os,bare,un,hok,r,q⟩:=h;obtain ⟨hh,g,d,t,MP⟩:=s';obtain rfl:MP=s.os:=os;exact ⟨v,H',I.call (h':=hh) (g':=g) (d':=d) (t':=t) (ch:=[]) un hok bare (fun b z=>absurd z (by simp)),r,q⟩
end
def fF (sp:Sp) (dvs:List V) (E:XK) (t:TA):TE:=fun σ H Q=>t σ H fun vs H1=>sp (vs++dvs) H1 Q E
def Binds (K:QB) (fd:Ua) (ps:List Rc) (ds:List QE):Prop :=
 ∀ (s:QJ) (us:List QE),K.In s.heap->(us++ds).length=ps.length->BindsTo s fd ⟨us,[]⟩ (ps.zip (us++ds))
theorem Binds.all {K:QB} {fd:Ua} {ps:List Rc} (h:∀ us:List QE,us.length=ps.length->bindArgs fd ⟨us,[]⟩=pure (ps.zip us)):Binds K fd ps []:=fun s us _ hl=>by
 rw [Rw] at hl ⊢;exact .of_eq (h us hl)
def Passes (CX:CXT) (X:Cx) (E:XK):Prop:=∀ (pins:List (QD×SQ)) (σ:St) (H:Hp) (s:QJ) (e:QE) (s':QJ),Inv X pins σ H s->CX X.stack H s E e s'->X.xe e s'
section
variable {X:Cx} {CX:CXT} {k:Nat} {f C:QD} {fd:Ua} {ps:List Rc} {sp:Sp} {dvs:List V} {ds:List QE} {E:XK} {x m:Rc} {p pos apos:US} {e o:RO} {es:List RO} {ta:TE} {t:TA}
theorem uV {pins:List (QD×SQ)} {σ:St} {H:Hp} {s:QJ} {Q:VK} {us:List QE} {vs:List V} (F:bh X.prog X.w X.K X.mg X.base CX k f fd ps sp) (hr:Room k X.A) (hb:Binds X.K fd ps ds) (hd:Vals dvs ds) (hx:Passes CX X E)
 (I:Inv X pins σ H s) (r:Vals vs us) (h:sp (vs++dvs) H Q E):QU (Ra X.prog X.w) X.A (call (.ref f) us) (EP X pins σ Q) X.xe s:=by
 have r2:Vals (vs++dvs) (us++ds):=r.append hd;have hl:(us++ds).length=ps.length:=by rw [<- r2.length];exact F.len _ _ _ _ h
 refine wpAny_call (codeAny_mono (F.run X.A X.stack s H ⟨us,[]⟩ (us++ds) (vs++dvs) Q E hr I.env0 (hb s us I.kIn hl) r2 h) fun r s' hq=>?_);cases r with
 | error e=>exact hx pins σ H s e s' I hq
 | ok fl =>
   cases fl with
   | ret u=>exact I.after hq
   | next=>exact Ub hq
   | brk=>exact Ub hq
   | cont=>exact Ub hq
theorem eR (F:bh X.prog X.w X.K X.mg X.base CX k f fd ps sp) (hr:Room k X.A) (hg:Gl X x) (hm:X.mg x=some (.ref f)) (hk:VO X.K (.ref f)=true) (hb:Binds X.K fd ps ds) (hd:Vals dvs ds) (hx:Passes CX X E)
 (ha:PA X (e::es) t) (CS:(x == ("__debug__":Rc))=false:=by decide) (he:RA (e::es) X.env=(false,S4 e X.env)::RA es X.env:=by rfl) (xW:(U0 pos (RA es X.env)).any (·.1)=false:=by rfl) :
 PE X (.Call (.Name x p) (e::es) [] pos) (fF sp dvs E t):=by
 intro pins s σ H Q I h;refine Sf (qc I hg hm ?_ CS);refine PySem.W.callWith_K (h₀:=X.base) I.ok.mod.kin hk (thn (ha pos pins s σ H _ I h) fun us s1 ⟨vs,H1,I1,r,q⟩=>⟨I1.kIn,?_⟩) he xW;exact uV F hr hb hd hx I1 r q
end
section
variable {X:Cx} {CX:CXT} {k:Nat} {f C:QD} {fd:Ua} {ps ks:List Rc} {sp:Sp} {E:XK} {x m:Rc} {p pos apos MQ:US} {e o:RO} {es:List RO} {Py:List Keyword} {te ta:TE} {t tk:TA} {nm:Option Rc}
variable {g:List QE->List QE->List QE} {gV:List V->List V->List V}
end
structure ay (N P:List Rc) (sc:UR):Prop where
 kind:sc.kind=.function
 co:sc.isCoroutine=false
 gen:sc.isGenerator=false
 nd:N.Nodup
 pre:N.take P.length=P
 par:∀ x∈P,sc.names.lookup x=some .local∨sc.names.lookup x=some .cell
 nofree:∀ y∈sc.names,y.2≠.free
theorem lz {kindOf:Rc->Option Td} {x:Rc}:∀ {binds:List (Rc×QE)} {m:Rc->Option QE},(∀ v,(x,v)∉binds)->bindL kindOf binds m x=m x
 | [],_,_=>rfl
 | (n,v)::r,m,h=>by
   unfold bindL;rw [lz fun w hw=>h w (Q1 _ hw)];split
   · have:x≠n:=by rintro rfl;exact h v Q6
     simp [this]
   · rfl
theorem lb {kindOf:Rc->Option Td} {x:Rc}:∀ {binds:List (Rc×QE)} {m:Rc->Option QE},(∀ v,(x,v)∉binds)->bindC kindOf binds m x=m x
 | [],_,_=>rfl
 | (n,v)::r,m,h=>by
   unfold bindC;rw [lb fun w hw=>h w (Q1 _ hw)];split
   · rfl
   · have:x≠n:=by rintro rfl;exact h v Q6
     simp [this]
theorem lF {kindOf:Rc->Option Td} {x:Rc} {v:QE}:∀ {P:List Rc} {vs:List QE} {i:Nat} {m:Rc->Option QE},P.Nodup->P[i]?=some x->vs[i]?=some v->kindOf x=some .local →
 bindL kindOf (P.zip vs) m x=some v
 | [],_,_,_,_,h,_,_=>by simp at h
 | _::_,[],_,_,_,_,h,_=>by simp at h
 | p::P,w::vs,0,m,nd,h1,h2,hk=>by
   simp at h1 h2;subst h1;subst h2;show bindL kindOf ((p,w)::P.zip vs) m p=_;unfold bindL;rw [lz fun v hv=>(U4.mp nd).1 (TR hv).1,if_pos hk];simp
 | p::P,w::vs,i+1,m,nd,h1,h2,hk=>by
   show bindL kindOf ((p,w)::P.zip vs) m x=_;unfold bindL;exact lF (i:=i) (U4.mp nd).2 (by simpa using h1) (by simpa using h2) hk
theorem li {kindOf:Rc->Option Td} {x:Rc} {v:QE}:∀ {P:List Rc} {vs:List QE} {i:Nat} {m:Rc->Option QE},P.Nodup->P[i]?=some x->vs[i]?=some v->kindOf x≠some .local →
 bindC kindOf (P.zip vs) m x=some v
 | [],_,_,_,_,h,_,_=>by simp at h
 | _::_,[],_,_,_,_,h,_=>by simp at h
 | p::P,w::vs,0,m,nd,h1,h2,hk=>by
   simp at h1 h2;subst h1;subst h2;show bindC kindOf ((p,w)::P.zip vs) m p=_;unfold bindC;rw [lb fun v hv=>(U4.mp nd).1 (TR hv).1,if_neg hk];simp
 | p::P,w::vs,i+1,m,nd,h1,h2,hk=>by
   show bindC kindOf ((p,w)::P.zip vs) m x=_;unfold bindC;exact li (i:=i) (U4.mp nd).2 (by simpa using h1) (by simpa using h2) hk
def start (N:List Rc) (vs:List V):St:=vs.map some++SE (N.length - vs.length) none
def qw (CX:CXT) (P:QR) (w:Q3) (K:QB) (mg:Rc->Option QE) (base:RS) (N:List Rc) (qual:Rc) (scope:UR) (f:QD) (cd:QE) (A:Rr) (outer:List Env) (s:QJ) (H:Hp) (E:XK):Cx where
 prog:=P
 w:=w
 K:=K
 mg:=mg
 base:=base
 A:=A.deeper (envOfC qual scope s.heap.objs.size f cd)
 N:=N
 s₀:=s
 H₀:=H
 env:=envOfC qual scope s.heap.objs.size f cd
 outer:=outer
 stack:=envOfC qual scope s.heap.objs.size f cd::outer
 ex:=[]
 calm:=true
 fn:=fun _=>true
 pn:=[]
 xe:=fun e s'=>QU (Ra P w) (A.deeper (envOfC qual scope s.heap.objs.size f cd)) (leaving (envOfC qual scope s.heap.objs.size f cd) e) (fun _ HU=>CX outer H s E e HU) (fun e' HU=>CX outer H s E e' HU) s'
theorem np {sc:UR} {n:Nat} {x:Rc} (h:sc.names.lookup x=some .cell):∃ c,(cellsFrom n sc.names []).lookup x=some c:=by
 have q:=PySem.W.cellsFrom_some sc.names n [] (.inl h);exact Uv.mp q
theorem qo {CX:CXT} {P:QR} {w:Q3} {K:QB} {mg:Rc->Option QE} {base:RS} {N ps:List Rc} {qual:Rc} {scope:UR} {f:QD} {cd:QE} {A:Rr} {outer:List Env} {s s1:QJ} {H:Hp} {E:XK} {us:List QE} {vs:List V}
 (S:ay N ps scope) (hd:A.handled=none) (e0:sN P w K mg base A outer s H) (hl:vs.length=ps.length) (r:Vals vs us)
 (x:InCallC s s.heap.objs.size (bindL (envOfC qual scope s.heap.objs.size f cd).kindOf (ps.zip us) fun _=>none) (cellsFrom (s.heap.objs.size+1) scope.names []) (bindC (envOfC qual scope s.heap.objs.size f cd).kindOf (ps.zip us) fun _=>none) s1) :
 Inv (qw CX P w K mg base N qual scope f cd A outer s H E) [] (start N vs) H s1:=by
 have xW:ps.length<=N.length:=by have:=congrArg U1 S.pre;rw [Ro] at this;omega
 obtain ⟨h1,tk,rfl,hk⟩:=x.done;have Ew:∀ b:QD,b∉(qw CX P w K mg base N qual scope f cd A outer s H E).ex:=fun b z=>absurd (show b∈([]:List QD) from z) (by simp)
 refine ⟨⟨e0.mod,S.kind,rfl,rfl,QF _,fun y z c h1 h2=>?_,fun y hy=>?_,fun y c _ h=>?_,fun _=>hd,Around.frames_deeper e0.frames,.inr ⟨rfl,rfl⟩,fun b z=>absurd z (Ew b),e0.bs,e0.bsz,fun b _ _=>Ew b,fun b z=>absurd z (Ew b),e0.funs,e0.frf⟩,
  rfl,e0.bare,Un.kept hk,⟨_,x.toInCall.ns,fun i y v h1 h2 h3=>?_⟩,fun y c h=>⟨_,x.cell y c h⟩,e0.hok.fresh (QF _),fun y c h=>?_,fun p hp=>absurd (show p∈([]:List (QD×SQ)) from hp) (by simp),e0.hok.kept hk,?_⟩
 · exact name_of_addr x.apart (Uk h1) (Uk h2)
 · have hy:scope.names.lookup y=some .cell∨scope.names.lookup y=some .free:=hy;rcases hy with hy | hy
   · exact np hy
   · exact absurd rfl (S.nofree _ (Uk hy))
 · exact Ui (x.above y c (Uk h))
 · have hi:i<vs.length:=by
    unfold start at h2;by_cases hi:i<vs.length
    · exact hi
    · rw [T9 (by simpa using hi)] at h2;rw [List.getElem?_replicate] at h2;split at h2 <;> cases h2
   have ha:vs[i]?=some v:=by
    unfold start at h2;rw [Tp (by simpa using hi),QO] at h2;cases e:vs[i]? with
    | none=>rw [e] at h2;cases h2
    | some a=>rw [e] at h2;cases h2;rfl
   obtain ⟨u,hu,rv⟩:=r.get ha
   have hp:ps[i]?=some y:=by
    rw [<- S.pre,List.getElem?_take_of_lt (by omega)];exact h1
   have K8:ps.Nodup:=by rw [<- S.pre];exact S.nd.sublist (List.take_sublist _ _)
   refine ⟨u,rv,?_⟩;rcases S.par y (QH hp) with k | k
   · exact .inl ⟨k,lF K8 hp hu k⟩
   · obtain ⟨c,e⟩:=np (n:=s.heap.objs.size+1) k;refine .inr ⟨.inl k,c,e,?_⟩;have q:=x.cell y c e;rw [li K8 hp hu (by show scope.names.lookup y≠_;rw [k];decide)] at q;exact q
 · exact e0.hok.fresh (Ui (x.above y c (Uk h)))
 · unfold start;show _=N.length;rw [QX,QA,TZ];omega
theorem vG {CX:CXT} {P:QR} {w:Q3} {K:QB} {mg:Rc->Option QE} {base:RS} {k:Nat} {f:QD} {name qual:Rc} {params:Arguments} {body:List SD} {scope:UR} {dV kV doc pm wQ ct oc:QE} {an od:Option QD}
 {Cc:Array (Option QE)} {N ps:List Rc} {sp:Sp} (lk:K.lookup f=some ⟨oc,od,.func (Ue name qual params body scope dV kV doc pm an wQ ct),Cc⟩) (AD:VP K wQ qual=true) (S:ay N ps scope)
 (len:∀ vs H Q E,sp vs H Q E->vs.length=ps.length)
 (AG:∀ (A:Rr) (outer:List Env) (s:QJ) (H:Hp) (vs:List V) (Q:VK) (E:XK),Room k (A.deeper (envOfC qual scope s.heap.objs.size f wQ))->sp vs H Q E →
  ∃ t,PSs (qw CX P w K mg base N qual scope f wQ A outer s H E) body t/\t { nx:=fun _ H'=>Q .non H',rt:=Q } (start N vs) H) :
 bh P w K mg base CX (k+1) f (Ue name qual params body scope dV kV doc pm an wQ ct) ps sp:=by
 refine ⟨len,fun A outer s H args us vs Q E hr e0 hb r Cd=>?_⟩;have hl:=len _ _ _ _ Cd;have KX:K.In s.heap:=e0.mod.kin.keeps fun b o e=>(e0.bs b o e).1;have lim:s.heap.NoLimit:=e0.mod.nolimit.keeps fun b o e=>(e0.bs b o e).1
 have Ex:∀ y∈ps.zip us,scope.names.lookup y.1=some .local∨(scope.names.lookup y.1=some .cell/\((cellsFrom (s.heap.objs.size+1) scope.names []).lookup y.1).isSome=true):=fun ⟨n,v⟩ hy=>by
  rcases S.par n (TR hy).1 with q | q
  · exact .inl q
  · exact .inr ⟨q,PySem.W.cellsFrom_some _ _ _ (.inl q)⟩
 refine codeAny_call_function hr.depth (KX _ _ lk) rfl S.co S.gen rfl (PySem.W.codeRec_of KX AD) (hb _ _ _ _ ?_);refine wpAny_newFunctionEnv_cells S.kind Ex fun env he s1 x=>?_;subst he;refine ⟨lim.keeps x.toInCall.keep,codeAny_func ?_⟩;obtain ⟨t,ht,hq⟩:=AG A outer s H vs Q E (hr.deeper _) Cd;have I:Inv (qw CX P w K mg base N qual scope f wQ A outer s H E) [] (start N vs) H s1:=qo S hr.hd e0 hl r x;refine SH (ht [] s1 (start N vs) H _ I hq) (fun fl s' hs=>?_) fun e s' hs=>hs
 have fin:∀ {wH:St} {H':Hp} {v:V} {u:QE},Inv (qw CX P w K mg base N qual scope f wQ A outer s H E) [] wH H' s'->RelV v u->Q v H'->CE outer P w H s Q u s' :=
  fun {wH H' v u} J rv q=>⟨v,H',J.os,J.bare,J.base,J.hok,rv,q⟩
 cases fl with
 | ret u =>
   obtain ⟨v,wH,H',J,rv,q⟩:=hs;exact fin J rv q
 | next =>
   obtain ⟨wH,H',J,q⟩:=hs;exact fin (v:=V.non) (u:=R4) J rfl q
 | brk =>
   obtain ⟨_,_,_,q⟩:=hs;exact Ub q
 | cont =>
   obtain ⟨_,_,_,q⟩:=hs;exact Ub q
end L2
namespace L2
open PySem PySem.Spec PyProof.Rows
section
variable {X:Cx} {x:Rc} {p pos:US} {e:RO} {es:List RO} {t:TA} {id T:String} {r:List V->Hp->VK->Prop}
def tCB (r:List V->Hp->VK->Prop) (t:TA):TE:=fun σ H Q=>t σ H fun vs H1=>r vs H1 Q
theorem aC (hc:f7 X (.builtin id) r) (hg:Gl X x) (hm:X.mg x=none) (hv:Vn x=some (.builtin id)) (ha:PA X (e::es) t) (hn:x≠"__name__":=by decide) (CS:(x == ("__debug__":Rc))=false:=by decide)
 (he:RA (e::es) X.env=(false,S4 e X.env)::RA es X.env:=by rfl) (xW:(U0 pos (RA es X.env)).any (·.1)=false:=by rfl):PE X (.Call (.Name x p) (e::es) [] pos) (tCB r t):=by
 intro pins s σ H Q I h;refine Sf (cF I hg hm hv ?_ hn CS);exact PyProof.Rows.callWith_builtin1 (thn (ha pos pins s σ H _ I h) fun us s1 ⟨vs,H1,I1,r1,q1⟩=>hc pins s1 σ H1 vs us Q I1 r1 q1) he xW
theorem cH (hc:f7 X (.type T) r) (hg:Gl X x) (hm:X.mg x=none) (hv:Vn x=some (.type T)) (ha:PA X (e::es) t) (hn:x≠"__name__":=by decide) (CS:(x == ("__debug__":Rc))=false:=by decide)
 (he:RA (e::es) X.env=(false,S4 e X.env)::RA es X.env:=by rfl) (xW:(U0 pos (RA es X.env)).any (·.1)=false:=by rfl):PE X (.Call (.Name x p) (e::es) [] pos) (tCB r t):=by
 intro pins s σ H Q I h;refine Sf (cF I hg hm hv ?_ hn CS);exact Ry (thn (ha pos pins s σ H _ I h) fun us s1 ⟨vs,H1,I1,r1,q1⟩=>hc pins s1 σ H1 vs us Q I1 r1 q1) he xW
end
end L2
namespace HT
open PySem PyProof.Rows
section
open PySem.SeqAt
open PySem.AutoSeq1 (wpAny_loadPart')
open PySem.MeetsSeq PySem.MeetsSeq2 PySem.MeetsSeq3
end
section
variable {prog:QR} {w:Q3} {A:Rr} {E:QE->QJ->Prop} {s:QJ}
theorem cat_tup {t b:QD} {vs ws:List QE} {Q:QE->QJ->Prop} (ht:IsTup s.heap t vs.toArray) (hb:IsTup s.heap b ws.toArray) (hv:vs≠[])
 (h1:ws=[]->Q (.ref t) s) (h2:ws≠[]->Q (.ref s.heap.objs.size) { s with heap:=s.heap.push { cls:=.type "tuple",data:=.seq (vs++ws).toArray } })
 (hsz:vs.length+ws.length<=QW):QU (Ra prog w) A (UJ .Add (.ref t) (.ref b)) Q E s:=by
 obtain ⟨⟨cls,dd,data,sl⟩,ho,hc,n,hd⟩:=id ht;obtain ⟨⟨Ey,DZ,data2,D0⟩,BA,Ak,n2,hd2⟩:=id hb;simp only at hc hd Ak hd2;subst hc hd Ak hd2;have e:vs.toArray++ws.toArray=(vs++ws).toArray:=by simp
 by_cases hw:ws=[]
 · exact concat_meets ⟨_,ho,rfl⟩ ⟨_,BA,rfl⟩ noFill_tuple_add seq_tuple_add Vx Vu (Vp _ _)
    (tuple_addW1 t b vs.toArray ws.toArray n n2 dd DZ sl D0 (by simpa using hv) (by simp [hw])) ⟨ho,BA,h1 hw⟩
 · refine concat_meets ⟨_,ho,rfl⟩ ⟨_,BA,rfl⟩ noFill_tuple_add seq_tuple_add Vx Vu (Vp _ _)
    (tuple_addW2 t b vs.toArray ws.toArray n n2 dd DZ sl D0 (by simpa using hv) (by simpa using hw) (by rw [QN,QN];exact hsz)) ⟨ho,BA,?_⟩
   rw [e];exact h2 hw
def sIx (n d:Nat):Option Int->Nat
 | none=>d
 | some v=>if v<0 then (v+(n:Int)).toNat else min v.toNat n
theorem sIx_none (n d:Nat):sIx n d none=d:=rfl
theorem sIx_nat (n d k:Nat):sIx n d (some (k:Int))=min k n:=by
 show (if (k:Int)<0 then ((k:Int)+(n:Int)).toNat else min (k:Int).toNat n)=min k n;rw [if_neg (by omega),RH]
theorem sIx_le (n d:Nat) (hd:d<=n) (o:Option Int):sIx n d o<=n:=by
 cases o with
 | none=>exact hd
 | some v =>
   show (if v<0 then (v+(n:Int)).toNat else min v.toNat n)<=n;by_cases hv:v<0
   · rw [if_pos hv];omega
   · rw [if_neg hv];exact Nat.min_le_right _ _
theorem clip_eq (v:Int) (n d:Nat):(if v<0 then max (v+(n:Int)) 0 else min v (n:Int))=((sIx n d (some v):Nat):Int):=by
 show (if v<0 then max (v+(n:Int)) 0 else min v (n:Int))=(((if v<0 then (v+(n:Int)).toNat else min v.toNat n):Nat):Int);by_cases hv:v<0
 · simp only [if_pos hv];omega
 · simp only [if_neg hv];omega
theorem adjust_gen (lo hi:Option Int) (n:Nat):Tz lo hi 1 (n:Int)=(((sIx n 0 lo:Nat):Int),((sIx n n hi:Nat):Int)):=by
 have h1:¬ ((1:Int)<0):=by omega
 unfold Tz;simp only [h1,if_false];refine Prod.ext ?_ ?_
 · cases lo with
   | none=>rfl
   | some v=>exact clip_eq v n 0
 · cases hi with
   | none=>rfl
   | some v=>exact clip_eq v n n
theorem places_gen (i j:Nat):Se (i:Int) (j:Int) 1=j - i:=by
 unfold Se;have h1:(1:Int) > 0:=by omega
 simp only [h1,if_true,Ws];split <;> omega
theorem slicePart_ {v:QE} {o:Option Int} {Q:Option Int->QJ->Prop} (p:V2 v o) (h:Q o s):QU (Ra prog w) A (Builtin.Slice.slicePartIndex v) Q E s:=by
 cases p with
 | none=>exact slicePart_none h
 | int i t=>exact slicePart_int h
theorem sliceApplied_gen {sl:QD} {vl vu:QE} {lo hi:Option Int} {n:Nat} {Q:Int×Int×Nat->QJ->Prop} (hs:s.heap.IsSliceOf sl vl vu .none) (pl:V2 vl lo) (pu:V2 vu hi)
 (h:Q (((sIx n 0 lo:Nat):Int),1,sIx n n hi - sIx n 0 lo) s):QU (Ra prog w) A (Uy (.ref sl) (pure (n:Int))) Q E s:=by
 obtain ⟨os,yS,Am,yN⟩:=id hs;unfold Uy Builtin.Slice.sliceFields;refine Qz (Qz (Rx yS yN (x:=vl) rfl (Qz (Rx yS yN (x:=vu) rfl (Qz (Rx yS yN (x:=.none) rfl (QI ?_)))))));refine Qz (slicePart_none ?_);show QU _ _ (if ((1:Int) == 0)=true then _ else _) _ _ s;rw [if_neg (by decide)];refine Qz (slicePart_ pl (Qz (slicePart_ pu (Qz (QI ?_)))));show QU _ _ (match Tz lo hi 1 (n:Int) with | (lo,hi)=>pure (lo,(1:Int),Se lo hi 1)) _ _ s;rw [adjust_gen lo hi n];show QU _ _ (pure (((sIx n 0 lo:Nat):Int),(1:Int),Se ((sIx n 0 lo:Nat):Int) ((sIx n n hi:Nat):Int) 1)) _ _ s;rw [places_gen];exact QI h
theorem pick_gen (xs:Array QE) (i k:Nat):((Rl k).filterMap fun (m:Nat)=>xs[((i:Int)+(m:Int) * 1).toNat]?).toArray=((xs.toList.drop i).take k).toArray:=by
 have e:(fun (m:Nat)=>xs[((i:Int)+(m:Int) * 1).toNat]?)=fun m=>xs[i+m]?:=by
  funext m;have:((i:Int)+(m:Int) * 1).toNat=i+m:=by omega
  rw [this]
 rw [e];have:=pick_run xs i k;rw [Wf] at this;have e2:((fun x=>xs[x]?) ∘ fun x=>i+x)=fun m=>xs[i+m]?:=rfl;rw [e2] at this;rw [this]
theorem getItem_tuple_cut {t sl:QD} {items:Array QE} {vl vu:QE} {lo hi:Option Int} {Q:QE->QJ->Prop} (ht:IsTup s.heap t items) (hs:s.heap.IsSliceOf sl vl vu .none) (pl:V2 vl lo) (pu:V2 vu hi)
 (hw:¬ (sIx items.size 0 lo=0/\sIx items.size items.size hi=items.size))
 (h:Q (.ref s.heap.objs.size) { s with heap:=s.heap.push { cls:=.type "tuple",data:=.seq ((items.toList.drop (sIx items.size 0 lo)).take (sIx items.size items.size hi - sIx items.size 0 lo)).toArray } })
 (hsz:items.size<=QW):QU (Ra prog w) A (UX (.ref t) (.ref sl)) Q E s:=by
 have xI:sizeOk (.seq ((items.toList.drop (sIx items.size 0 lo)).take (sIx items.size items.size hi - sIx items.size 0 lo)).toArray):=by
  show ((items.toList.drop (sIx items.size 0 lo)).take (sIx items.size items.size hi - sIx items.size 0 lo)).toArray.size<=QW;rw [QN,Ro,R7,Rj];omega
 have hj:sIx items.size items.size hi<=items.size:=sIx_le _ _ (QF _) hi;obtain ⟨os,yS,Am,yN⟩:=id hs;have Ez:s.TypeIs (.ref sl) "slice":=⟨os,yS,Am⟩;unfold UX
 try with_reducible refine R1 ?_
 first | refine Qz (QI ?_) | skip
 refine Qz (wpAny_sequenceKey ht.typeIs (by decide) ?_)
 refine Qz (RE (name:=QK "__getitem__") ht.typeIs Rq
  (RL Rq ht.typeIs entry_tuple_getitem ?_ (args_tuple_getitem _ _)))
 show QU _ _ (Ux (.ref t) >>= _) _ _ s;refine Qz (tupleItemsOf_ ht ?_);refine Qz (Tf Ez ?_);rw [if_pos (by decide)];refine Qz (sliceApplied_gen hs pl pu ?_)
 have AH:¬ ((((sIx items.size 0 lo:Nat):Int) == 0 && (1:Int) == 1 && (sIx items.size items.size hi - sIx items.size 0 lo) == items.size)=true):=by
  intro q;rw [Sy,Sy] at q;have q1:((sIx items.size 0 lo:Nat):Int)=0:=eq_of_beq q.1.1;have q2:sIx items.size items.size hi - sIx items.size 0 lo=items.size:=eq_of_beq q.2;exact hw ⟨by omega,by omega⟩
 show QU _ _ (if (((sIx items.size 0 lo:Nat):Int) == 0 && (1:Int) == 1 && (sIx items.size items.size hi - sIx items.size 0 lo) == items.size)=true then _ else _) _ _ s;rw [if_neg AH,pick_gen]
 first
  | exact Qz (m:=Si _) (RK (QI ⟨_,rfl,QI h⟩) xI)
  | exact Qz (m:=Si _) (RK (Qz (QI (QI ⟨_,rfl,QI h⟩))) xI)
  | exact Qz (Qz (m:=Si _) (RK (QI (QI ⟨_,rfl,QI h⟩)) xI))
  | exact Qz (Qz (m:=Si _) (RK (QI ⟨_,rfl,QI h⟩) xI))
end
end HT
namespace L2
open PySem PySem.Spec PyProof.Rows
abbrev TO:=St->Hp->(Option Int->Hp->Prop)->Prop
def PO (X:Cx) (e:Option RO) (t:TO):Prop :=
 ∀ (pins:List (QD×SQ)) (s:QJ) (σ:St) (H:Hp) (Q:Option Int->Hp->Prop),Inv X pins σ H s->t σ H Q →
   QU (Ra X.prog X.w) X.A (evalPart e X.env) (fun u s'=>∃ o H',Inv X pins σ H' s'/\V2 u o/\Q o H') X.xe s
def tR:TO:=fun _ H Q=>Q none H
inductive uq (x:V) (Q:Option Int->Hp->Prop) (H1:Hp):Prop
 | mk (i:Int) (wZ:x=.int i) (w4:Q (some i) H1):uq x Q H1
def ui (t:TE):TO:=fun σ H Q=>t σ H fun x H1=>uq x Q H1
section
variable {X:Cx} {e:RO} {te:TE} {lo hi:Option RO} {tl th:TO} {pos p2:US}
theorem bQ:PO X none tR:=by
 intro pins s σ H Q I h;rw [evalPart_none];exact QI ⟨none,H,I,.none,h⟩
theorem bq (h:PE X e te):PO X (some e) (ui te):=by
 intro pins s σ H Q I hw;rw [evalPart_some];refine thn (h pins s σ H _ I hw) fun u s1 ⟨x,H1,I1,r1,q1⟩=>?_;obtain ⟨i,rfl,q⟩:=q1;obtain ⟨t,rfl⟩:=r1;exact ⟨some i,H1,I1,.int i t,q⟩
def SlR (X:Cx) (r:V->Option Int->Option Int->Hp->VK->Prop):Prop :=
 ∀ (pins:List (QD×SQ)) (s:QJ) (σ:St) (H:Hp) (x:V) (v vl vu:QE) (lo hi:Option Int) (sl:QD) (Q:VK),Inv X pins σ H s->RelV x v->s.heap.IsSliceOf sl vl vu .none->V2 vl lo->V2 vu hi->r x lo hi H Q →
   ∃ T id,Uq (.type T) "__getitem__"=pure (some (.builtin id))/\s.TypeIs v T/\QU (Ra X.prog X.w) X.A (UX v (.ref sl)) (EP X pins σ Q) X.xe s
def tSl (r:V->Option Int->Option Int->Hp->VK->Prop) (te:TE) (tl th:TO):TE:=fun σ H Q=>te σ H fun x H1=>tl σ H1 fun l H2=>th σ H2 fun u H3=>r x l u H3 Q
theorem bj {r:V->Option Int->Option Int->Hp->VK->Prop} (hr:SlR X r) (he:PE X e te) (hl:PO X lo tl) (hu:PO X hi th):PE X (.Subscript e (.Slice lo hi none p2) pos) (tSl r te tl th):=by
 intro pins s σ H Q I h;refine Subscript_ (thn (he pins s σ H _ I h) fun v s1 ⟨x,H1,I1,r1,q1⟩=>?_);refine wpAny_Slice (thn (hl pins s1 σ H1 _ I1 q1) fun vl s2 ⟨l,H2,I2,pl,q2⟩=>thn (hu pins s2 σ H2 _ I2 q2) fun vu s3 ⟨u,H3,I3,pu,q3⟩=>?_);rw [evalPart_none];refine QI ?_;have I4:Inv X pins σ H3 { s3 with heap:=s3.heap.push { cls:=.type "slice",data:=.fields #[vl,vu,.none] } }:=I3.kept (t':=s3.toks) fun b ob q=>QG _ q;obtain ⟨T,id,hT,ht,hg⟩:=hr pins { s3 with heap:=s3.heap.push { cls:=.type "slice",data:=.fields #[vl,vu,.none] } } σ H3 x v vl vu l u s3.heap.objs.size Q I4 r1 (Heap.IsSliceOf.new ..) pl pu q3;show QU (Ra X.prog X.w) X.A (subscriptTail e (.Slice lo hi none p2) v (.ref s3.heap.objs.size)) (EP X pins σ Q) X.xe { s3 with heap:=s3.heap.push { cls:=.type "slice",data:=.fields #[vl,vu,.none] } };exact tail_any (ops:=[.ref s3.heap.objs.size,v]) ht hT hg (by with_unfolding_all rfl)
def cY (xs:List V) (lo hi:Option Int):List V:=(xs.drop (HT.sIx xs.length 0 lo)).take (HT.sIx xs.length xs.length hi - HT.sIx xs.length 0 lo)
theorem ja (xs:List V) (lo hi:Option Int):(cY xs lo hi).length<=xs.length:=by
 unfold cY;rw [Ro,R7];omega
inductive t5 (K:QB) (x:V) (lo:Option Int) (hi:Option Int) (H:Hp) (Q:VK):Prop
 | mk (a:_) (xs:_) (wZ:x=.ref a) (w4:SqT K H a xs) (w8:¬ (HT.sIx xs.length 0 lo=0/\HT.sIx xs.length xs.length hi=xs.length)) (xj:∀ p,H p=none->Q (.ref p) (upd H p (.tup (cY xs lo hi)))):t5 K x lo hi H Q
def wE (K:QB):V->Option Int->Option Int->Hp->VK->Prop:=t5 K
theorem eE:SlR X (wE X.K):=by
 intro pins s σ H x v vl vu lo hi sl Q I rx hs pl pu h;obtain ⟨a,xs,rfl,hx,hw,q⟩:=h;cases rx;obtain ⟨its,r,ht,hz⟩:=I.tuple hx;have hlen:its.toArray.size=xs.length:=by rw [QN];exact r.length.symm
 refine ⟨"tuple",_,Rq.lookup,ht.typeIs,?_⟩;refine HT.getItem_tuple_cut ht hs pl pu (by rw [hlen];exact hw) ?_ (by rw [hlen];exact hz);rw [hlen];refine ⟨.ref s.heap.objs.size,_,I.laid (t':=s.toks) (o:=.tup (cY xs lo hi)) (fun b ob q=>QG _ q) (QF _) ?_,rfl,q _ (I.hok.fresh (QF _))⟩;exact ⟨Sn (ja xs lo hi) hz,_,0,(r.drop (HT.sIx xs.length 0 lo)).take (HT.sIx xs.length xs.length hi - HT.sIx xs.length 0 lo),QQ _ rfl⟩
def vz (K:QB):R2:=fun x y H Q=>∃ a b xs ys,x=.ref a/\y=.ref b/\SqT K H a xs/\SqT K H b ys/\xs≠[]/\xs.length+ys.length<=QW ∧
 (ys=[]->Q (.ref a) H)/\(ys≠[]->∀ p,H p=none->Q (.ref p) (upd H p (.tup (xs++ys))))
theorem Vals.nil_iff {xs:List V} {us:List QE} (r:Vals xs us):us=[]↔xs=[]:=by
 cases r with
 | nil=>simp
 | cons _ _=>simp
theorem tw:OpR X (UJ .Add) (vz X.K):=by
 intro pins s σ H x y v u Q I rx ry h;obtain ⟨a,b,xs,ys,rfl,rfl,ha,hb,hx,hz,q1,q2⟩:=h;cases rx;cases ry;obtain ⟨its,r1,p1,_⟩:=I.tuple ha;obtain ⟨wL,r2,p2,_⟩:=I.tuple hb;refine HT.cat_tup p1 p2 (fun z=>hx (r1.nil_iff.mp z)) (fun z=>⟨.ref a,H,I,rfl,q1 (r2.nil_iff.mp z)⟩) (fun z=>?_) (by rw [<- r1.length,<- r2.length];exact hz);refine ⟨.ref s.heap.objs.size,_,I.laid (t':=s.toks) (o:=.tup (xs++ys)) (fun b ob q=>QG _ q) (QF _) ?_,rfl,q2 (fun w=>z (r2.nil_iff.mpr w)) _ (I.hok.fresh (QF _))⟩;exact ⟨by rw [QX];exact hz,_,0,r1.append r2,QQ _ rfl⟩
end
end L2
namespace L2
open PySem PySem.Spec PyProof.Rows
def ixN (n:Nat) (i:Int):Option Nat:=if 0<=i then (if i<n then some i.toNat else none) else if -(n:Int)<=i then some (i+n).toNat else none
def atI {α:Type} (xs:List α) (i:Int):Option α:=(ixN xs.length i).bind fun j=>xs[j]?
theorem lK {n:Nat} {i:Int} {j:Nat} (h:ixN n i=some j):seqIndex? i n=some j/\j<n/\-(n:Int)<=i/\i<n:=by
 unfold ixN at h;by_cases h0:0<=i
 · rw [if_pos h0] at h;by_cases h1:i<n
   · rw [if_pos h1] at h;have e:i.toNat=j:=Q8 h;exact ⟨by rw [seqIndex_of h0 h1,e],by omega,by omega,h1⟩
   · rw [if_neg h1] at h;cases h
 · rw [if_neg h0] at h;by_cases h1:-(n:Int)<=i
   · rw [if_pos h1] at h;have e:(i+n).toNat=j:=Q8 h;exact ⟨by rw [seqIndex_neg (by omega) h1,e],by omega,h1,by omega⟩
   · rw [if_neg h1] at h;cases h
theorem mN {α:Type} {xs:List α} {i:Int} {v:α} (h:atI xs i=some v):∃ j,seqIndex? i xs.length=some j/\xs[j]?=some v/\j<xs.length/\-(xs.length:Int)<=i/\i<xs.length:=by
 unfold atI at h;cases e:ixN xs.length i with
 | none=>rw [e] at h;cases h
 | some j =>
   rw [e] at h;obtain ⟨h1,h2,h3,h4⟩:=lK e;exact ⟨j,h1,h,h2,h3,h4⟩
theorem cU {α:Type} {xs:List α} {j:Nat} {v:α} (h:xs[j]?=some v):atI xs (j:Int)=some v:=by
 have hj:j<xs.length:=(QL.mp h).1
 have e:ixN xs.length (j:Int)=some j:=by
  unfold ixN;rw [if_pos (by omega),if_pos (by omega)];simp
 unfold atI;rw [e];exact h
def sV (b:RO):Prop:=∀ o i,subscripted b false o i=operate [o,i] (UX o i)
def IxR (X:Cx) (r:R2):Prop :=
 ∀ (value slice:RO) (pins:List (QD×SQ)) (s:QJ) (σ:St) (H:Hp) (x y:V) (v u:QE) (Q:VK),Inv X pins σ H s->RelV x v->RelV y u->r x y H Q →
   subscripted slice false v u=operate [v,u] (UX v u)->QU (Ra X.prog X.w) X.A (subscriptTail value slice v u) (EP X pins σ Q) X.xe s
def MtR (X:Cx) (id:String) (r:V->List V->Hp->VK->Prop):Prop :=
 ∀ (pins:List (QD×SQ)) (s:QJ) (σ:St) (H:Hp) (x:V) (xs:List V) (v:QE) (us:List QE) (Q:VK),Inv X pins σ H s->RelV x v->Vals xs us->r x xs H Q →
   QU (Ra X.prog X.w) X.A (call (.builtin id) (v::us)) (EP X pins σ Q) X.xe s
section
variable {X:Cx} {a b:RO} {ta tb:TE} {pos:US}
theorem aG {r:R2} (hr:IxR X r) (ha:PE X a ta) (hb:PE X b tb) (hs:sV b):PE X (.Subscript a b pos) (tOp r ta tb):=by
 intro pins s σ H Q I h;exact Subscript_ (va ha hb I h fun v u s2 x y H2 I2 rx ry q=>hr a b pins s2 σ H2 x y v u Q I2 rx ry q (hs _ _))
inductive uk (K:QB) (x:V) (y:V) (H:Hp) (Q:VK):Prop
 | mk (p:_) (xs:_) (i:_) (v:_) (wZ:x=.ref p) (w4:y=.int i) (w8:SqL K H p xs) (xj:atI xs i=some v) (xB:Q v H):uk K x y H Q
def uJ (K:QB):R2:=uk K
inductive t6 (K:QB) (x:V) (y:V) (H:Hp) (Q:VK):Prop
 | mk (p:_) (xs:_) (i:_) (v:_) (wZ:x=.ref p) (w4:y=.int i) (w8:SqT K H p xs) (xj:atI xs i=some v) (xB:Q v H):t6 K x y H Q
def se (K:QB):R2:=t6 K
inductive uo (x:V) (y:V) (H:Hp) (Q:VK):Prop
 | mk (z:_) (i:_) (c:_) (wZ:x=.str z) (w4:y=.int i) (w8:z.length<=QW) (xj:atI z.cps.toList i=some c) (xB:Q (.str ⟨#[c]⟩) H):uo  x y H Q
def wy:R2:=uo
theorem aP:IxR X (uJ X.K):=by
 intro value slice pins s σ H x y v u Q I rx ry h hs;obtain ⟨p,xs,i,z,rfl,rfl,hq,he,q⟩:=h;cases rx;obtain ⟨t,rfl⟩:=ry;obtain ⟨its,r,pl,hz⟩:=I.list hq;obtain ⟨j,h1,h2,h3,h4,h5⟩:=mN he;obtain ⟨w,ew,zU⟩:=r.get h2;have hl:=r.length;have hn:=eU;have fin:EP X pins σ Q w s:=⟨z,H,I,zU,q⟩;by_cases h0:0<=i
 · have hj:i.toNat=j:=by
    rw [seqIndex_of h0 h5] at h1;exact Q8 h1
   exact item_listR pl.isList h0 (by omega) (by rw [hj];simpa using ew) fin hs
 · have hj:(i+(its.toArray.size:Int)).toNat=j:=by
    rw [seqIndex_neg (by omega) h4] at h1;rw [QN,<- hl];exact Q8 h1
   exact subscriptTail_builtinR (x:=w) pl.isList.typeIs slot_list_getitem.lookup
    (wpAny_getItem_list_neg (Q:=fun r s'=>r=w/\EP X pins σ Q r s') pl.isList (by omega) (by rw [QN] <;> omega) (by omega) (by rw [hj];simpa using ew) ⟨rfl,fin⟩) hs
theorem aL:IxR X (se X.K):=by
 intro value slice pins s σ H x y v u Q I rx ry h hs;obtain ⟨p,xs,i,z,rfl,rfl,hq,he,q⟩:=h;cases rx;obtain ⟨t,rfl⟩:=ry;obtain ⟨its,r,pl,hz⟩:=I.tuple hq;obtain ⟨j,h1,h2,h3,h4,h5⟩:=mN he;obtain ⟨w,ew,zU⟩:=r.get h2;have hl:=r.length;have hn:=eU;have fin:EP X pins σ Q w s:=⟨z,H,I,zU,q⟩
 exact subscriptTail_builtinR (x:=w) pl.typeIs slot_tuple_getitem.lookup
  (getItem_tuple (j:=j) (Q:=fun r s'=>r=w/\EP X pins σ Q r s') pl (by omega) (by omega) (by rw [QN,<- hl];exact h1) (by simpa using ew) ⟨rfl,fin⟩) hs
theorem sF:IxR X wy:=by
 intro value slice pins s σ H x y v u Q I rx ry h hs;obtain ⟨z,i,c,rfl,rfl,hz,he,q⟩:=h;obtain ⟨t,rfl⟩:=rx;obtain ⟨t',rfl⟩:=ry;obtain ⟨j,h1,h2,h3,h4,h5⟩:=mN he;have hl:z.cps.toList.length=z.length:=by simp [Str.length]
 rw [hl] at h1 h4 h5;have hn:=eU
 exact tail_any (typeIs_str s z t) slot_str_getitem.lookup (getItem_str (c:=c) (by
  have e1:decide (i < -(2 ^ 63:Int))=false:=decide_eq_false (by omega);have e2:decide (i ≥ 2 ^ 63)=false:=decide_eq_false (by omega);rw [e1,e2,V9]) (by rw [h1];simpa using h2) ⟨.str ⟨#[c]⟩,H,I.tok _,⟨_,rfl⟩,q⟩) hs
theorem o6 (its:List QE) (n j:Nat) (u:QE):RM (·.setIfInBounds j u) { cls:=.type "list",data:=.seq its.toArray n }={ cls:=.type "list",data:=.seq (its.set j u).toArray n }:=by
 simp [RM]
theorem Inv.lst {pins:List (QD×SQ)} {σ:St} {H:Hp} {s:QJ} {p:QD} {xs:List V} (I:Inv X pins σ H s) (h:H p=some (.lst xs)) :
 ∃ (its:List QE) (n:Nat),Vals xs its/\s.heap.get? p=some { cls:=.type "list",data:=.seq its.toArray n }/\xs.length<=QW:=by
 obtain ⟨z,its,n,r,e⟩:=I.hok p _ h;exact ⟨its,n,r,e,z⟩
theorem Inv.lstUpd {pins:List (QD×SQ)} {σ:St} {H:Hp} {s:QJ} {p:QD} {xs ys:List V} {its its':List QE} {n n':Nat} {f:SQ->SQ} (I:Inv X pins σ H s) (h:H p=some (.lst xs))
 (ho:s.heap.get? p=some { cls:=.type "list",data:=.seq its.toArray n }) (hf:f { cls:=.type "list",data:=.seq its.toArray n }={ cls:=.type "list",data:=.seq its'.toArray n' }) (r:Vals ys its') (hz:ys.length<=QW) (t:Nat) :
 Inv X pins σ (upd H p (.lst ys)) { s with heap:=s.heap.update p f,toks:=t }:=by
 have e:(s.heap.update p f).get? p=some { cls:=.type "list",data:=.seq its'.toArray n' }:=by
  rw [Rn f ho (by rw [hf] <;> rfl),hf]
 refine I.write (x:=p) (e:=p) (by rw [h];trivial) (.inl rfl) (fun b u hb q=>(Ru _ _ (Sr hb)).trans q) ⟨_,e⟩ ?_;exact ⟨hz,its',n',r,e⟩
def vC:V->V->V->Hp->(Hp->Prop)->Prop:=fun o i v H Q=>∃ p xs k j,o=.ref p/\i=.int k/\H p=some (.lst xs)/\ixN xs.length k=some j/\Q (upd H p (.lst (xs.set j v)))
theorem set_list:vT X vC:=by
 intro pins s σ H o i v ov iv u Q I ro ri rv h;obtain ⟨p,xs,k,j,rfl,rfl,hp,hj,q⟩:=h;cases ro;obtain ⟨t,rfl⟩:=ri;obtain ⟨its,n,r,ho,hz⟩:=I.lst hp;obtain ⟨h1,h2,h3,h4⟩:=lK hj;have hl:=r.length;have hn:=eU
 have I':Inv X pins σ (upd H p (.lst (xs.set j v))) { s with heap:=s.heap.update p (RM (·.setIfInBounds j u)) } :=
  I.lstUpd hp ho (o6 its n j u) (r.set rv j) (by rw [VG];exact hz) s.toks
 by_cases h0:0<=k
 · have hk:k.toNat=j:=by
    rw [seqIndex_of h0 h4] at h1;exact Q8 h1
   exact PySem.W.ki_setAt ho h0 (by omega) (by rw [QN,<- hl];exact h4) (by rw [hk];exact ⟨_,I',q⟩)
 · have hk:(k+(its.toArray.size:Int)).toNat=j:=by
    rw [seqIndex_neg (by omega) h3] at h1;rw [QN,<- hl];exact Q8 h1
   exact PySem.W.ki_setBack ho (by omega) (by rw [QN,<- hl];exact h3) (by omega) (by rw [hk];exact ⟨_,I',q⟩)
theorem me (lo hi:Option Int) (n:Nat):(UP lo hi none n).1=((HT.sIx n 0 lo:Nat):Int)/\(UP lo hi none n).2.1=((HT.sIx n n hi:Nat):Int)/\(UP lo hi none n).2.2=1:=by
 refine ⟨?_,?_,rfl⟩
 · cases lo with
   | none=>simp [UP,HT.sIx]
   | some i =>
     simp only [UP,HT.sIx,Option.getD_none,show (1:Int) > 0 by decide,if_true];by_cases h:i<0
     · simp only [h,if_true] <;> omega
     · simp only [h,if_false] <;> omega
 · cases hi with
   | none=>simp [UP,HT.sIx]
   | some i =>
     simp only [UP,HT.sIx,Option.getD_none,show (1:Int) > 0 by decide,if_true];by_cases h:i<0
     · simp only [h,if_true] <;> omega
     · simp only [h,if_false] <;> omega
theorem kP (its:List QE) (lo hi:Option Int):slicePick its.toArray lo hi none=((its.drop (HT.sIx its.length 0 lo)).take (HT.sIx its.length its.length hi - HT.sIx its.length 0 lo)).toArray:=by
 obtain ⟨h1,h2,h3⟩:=me lo hi its.toArray.size;unfold slicePick;rw [h1,h2,h3];simp only [sliceRange_one,pick_run,QN] <;> rfl
inductive ut (K:QB) (x:V) (lo:Option Int) (hi:Option Int) (H:Hp) (Q:VK):Prop
 | mk (a:_) (xs:_) (wZ:x=.ref a) (w4:SqL K H a xs) (w8:∀ p,H p=none->Q (.ref p) (upd H p (.lst (cY xs lo hi)))):ut K x lo hi H Q
def wm (K:QB):V->Option Int->Option Int->Hp->VK->Prop:=ut K
theorem lY:SlR X (wm X.K):=by
 intro pins s σ H x v vl vu lo hi sl Q I rx hs pl pu h;obtain ⟨a,xs,rfl,hx,q⟩:=h;cases rx;obtain ⟨its,r,ht,hz⟩:=I.list hx;have hlen:=r.length;refine ⟨"list",_,slot_list_getitem.lookup,ht.isList.typeIs,?_⟩;refine wpAny_getItem_list_slice ht.isList hs pl pu .none (by simp) ?_ (by rw [QN] <;> omega);rw [kP,<- hlen];refine ⟨.ref s.heap.objs.size,_,I.laid (t':=s.toks) (o:=.lst (cY xs lo hi)) (fun b ob q=>QG _ q) (QF _) ?_,rfl,q _ (I.hok.fresh (QF _))⟩;exact ⟨Sn (ja xs lo hi) hz,_,0,(r.drop (HT.sIx xs.length 0 lo)).take (HT.sIx xs.length xs.length hi - HT.sIx xs.length 0 lo),QQ _ rfl⟩
inductive sA (K:QB) (xs:List V) (H:Hp) (Q:VK):Prop
 | mk (p:QD) (ys:List V) (wZ:xs=[.ref p]) (w4:SqL K H p ys∨SqT K H p ys) (w8:Q (.int ys.length) H):sA K xs H Q
theorem au:f7 X (.builtin "len") (sA X.K):=by
 intro pins s σ H xs us Q I r h;obtain ⟨p,ys,rfl,hq,q⟩:=h;obtain ⟨u,rfl,rx⟩:=vals1 r;cases rx;have hn:=eU;rcases hq with hq | hq
 · obtain ⟨its,r',pl,hz⟩:=I.list hq;have hlen:=r'.length;exact Calls.call_len_list pl.isList (by simp only [QN] <;> omega) ⟨.int ys.length,H,I.tok _,⟨s.toks+1,by rw [QN,hlen]⟩,q⟩
 · obtain ⟨its,r',pl,hz⟩:=I.tuple hq;have hlen:=r'.length;exact len_tuple pl (by simp only [QN] <;> omega) ⟨.int ys.length,H,I.tok _,⟨s.toks+1,by rw [QN,hlen]⟩,q⟩
theorem cj:f7 X (.type "tuple") (fun xs H Q=>∃ p ys,xs=[.ref p]/\((SqL X.K H p ys/\∀ l,H l=none->Q (.ref l) (upd H l (.tup ys)))∨(SqT X.K H p ys/\Q (.ref p) H))):=by
 intro pins s σ H xs us Q I r h;obtain ⟨p,ys,rfl,h⟩:=h;obtain ⟨u,rfl,rx⟩:=vals1 r;cases rx;rcases h with ⟨hq,q⟩ | ⟨hq,q⟩
 · obtain ⟨its,r',pl,hz⟩:=I.list hq;have hlen:=r'.length;refine call_tuple_list pl.isList (fun h' kp=>?_) (by simp only [QN] <;> omega);have I1:Inv X pins σ H { s with heap:=h' }:=I.kept (t':=s.toks) kp
   have I2:Inv X pins σ (upd H h'.objs.size (.tup ys)) { s with heap:=h'.push { cls:=.type "tuple",data:=.seq its.toArray } } :=
    I1.laid (t':=s.toks) (fun b o e=>QG _ e) (QF _) (show ObjOk X.prog X.w _ _ _ (.tup ys) from ⟨hz,its,0,r',QQ _ rfl⟩)
   exact ⟨.ref h'.objs.size,_,I2,rfl,q _ (I1.hok.fresh (QF _))⟩
 · obtain ⟨its,r',pl,hz⟩:=I.tuple hq;exact call_tuple_same pl ⟨.ref p,H,I,rfl,q⟩
def tyV (K:QB) (T:String) (x:V) (H:Hp):Prop:=match x with
 | .str _=>T="str"
 | .int _=>T="int"
 | .ref p=>(T="list"/\∃ xs,SqL K H p xs)∨(T="tuple"/\∃ o,K.lookup p=some o/\o.cls=.type "tuple"/\o.dict=none) ∨
  (T="dict"/\((∃ f',H p=some (.dK f'))∨∃ f',H p=some (.dT f')))∨(T="set"/\∃ S n,H p=some (.set S n))
 | _=>False
theorem sK {pins:List (QD×SQ)} {σ:St} {H:Hp} {s:QJ} {T:String} {x:V} {v:QE} (I:Inv X pins σ H s) (r:RelV x v) (ty:tyV X.K T x H) :
 s.TypeIs v T/\∀ a,v=.ref a->∃ ob,s.heap.get? a=some ob/\ob.dict=none:=by
 cases x with
 | str z =>
   obtain ⟨t,rfl⟩:=r;cases (show T="str" from ty);exact ⟨typeIs_str s z t,fun _ e=>nomatch e⟩
 | int i =>
   obtain ⟨t,rfl⟩:=r;cases (show T="int" from ty);exact ⟨typeIs_int s i t,fun _ e=>nomatch e⟩
 | ref p =>
   cases r;rcases ty with ⟨rfl,xs,hq⟩ | ⟨rfl,o,hk,hc,hd⟩ | ⟨rfl,hk⟩ | ⟨rfl,S,n,hk⟩
   · obtain ⟨its,_,pl,_⟩:=I.list hq;refine ⟨pl.isList.typeIs,fun a e=>?_⟩;cases e;obtain ⟨o,n,e,c,hd,_⟩:=pl;exact ⟨o,e,hd⟩
   · refine ⟨⟨o,I.kIn p o hk,hc⟩,fun a e=>?_⟩;cases e;exact ⟨o,I.kIn _ o hk,hd⟩
   · have z:∃ o,s.heap.get? p=some o/\o.ExactDict:=by
      rcases hk with ⟨f',hk⟩ | ⟨f',hk⟩
      · obtain ⟨_,_,_,_,o,_,_,e,ex,_⟩:=I.hok p _ hk;exact ⟨o,e,ex⟩
      · obtain ⟨_,_,_,_,o,_,_,e,ex,_⟩:=I.hok p _ hk;exact ⟨o,e,ex⟩
     obtain ⟨o,e,ex⟩:=z;refine ⟨⟨o,e,ex.1⟩,fun a e2=>?_⟩;cases e2;exact ⟨o,e,ex.2.1⟩
   · obtain ⟨o,_,_,_,e,ex,_⟩:=I.hok p _ hk;refine ⟨⟨o,e,ex.1⟩,fun a e2=>?_⟩;cases e2;exact ⟨o,e,ex.2.1⟩
 | _=>exact Ub ty
def vp (K:QB) (T:String) (r:V->List V->Hp->VK->Prop) (to:TE):TE:=fun σ H Q=>to σ H fun x H1=>tyV K T x H1/\r x [] H1 Q
def tBM (K:QB) (T:String) (r:V->List V->Hp->VK->Prop) (to:TE) (t:TA):TE:=fun σ H Q=>to σ H fun x H1=>tyV K T x H1/\t σ H1 fun xs H2=>r x xs H2 Q
variable {o e:RO} {es:List RO} {to:TE} {t:TA} {name:Rc} {apos wV:US} {T id:String} {r:V->List V->Hp->VK->Prop}
theorem ko (pa:PlainAttrs T) (slot:Slot T name id) (EA:typeOf (.builtin id)=pure (.type "method_descriptor")) (hm:MtR X id r) (ho:PE X o to)
 (yT:attributeBase o name X.env (S4 o X.env)=S4 o X.env:=by rfl) (yU:(apos.endLine == wV.line)=true:=by rfl):PE X (.Call (.Attribute o name apos) [] [] wV) (vp X.K T r to):=by
 intro pins s σ H Q I h;refine wpAny_Call_method0_late yT yU (thn (ho pins s σ H _ I h) fun v s1 ⟨x,H1,I1,r1,ty,q1⟩=>?_);obtain ⟨h1,h2⟩:=sK I1 r1 ty;exact ⟨T,id,pa,slot,EA,h1,h2,T6 rfl (PySem.evalArgs_none (hm pins s1 σ H1 x [] v [] Q I1 r1 .nil q1))⟩
theorem bN (pa:PlainAttrs T) (slot:Slot T name id) (EA:typeOf (.builtin id)=pure (.type "method_descriptor")) (hm:MtR X id r) (ho:PE X o to) (ha:PA X (e::es) t)
 (yT:attributeBase o name X.env (S4 o X.env)=S4 o X.env:=by rfl)
 (CT:((U0 wV (RA (e::es) X.env)).all (fun x=>!x.1) && (backToKw wV (keywordEach [] X.env)).all (fun x=>x.1.isSome)
  && decide ((e::es).length+([]:List Keyword).length+(if ([]:List Keyword).isEmpty then 0 else 1)<30))=true:=by rfl)
 (yU:(apos.endLine == wV.line)=true:=by rfl) (hs:RA (e::es) X.env=(false,S4 e X.env)::RA es X.env:=by rfl) (zu:(U0 wV (RA es X.env)).any (·.1)=false:=by rfl) :
 PE X (.Call (.Attribute o name apos) (e::es) [] wV) (tBM X.K T r to t):=by
 intro pins s σ H Q I h;refine wpAny_Call_method_late yT CT yU rfl (thn (ho pins s σ H _ I h) fun v s1 ⟨x,H1,I1,r1,ty,q1⟩=>?_);obtain ⟨h1,h2⟩:=sK I1 r1 ty;refine ⟨T,id,pa,slot,EA,h1,h2,?_⟩;have hA:=ha wV pins s1 σ H1 _ I1 q1;rw [hs] at hA ⊢;refine T6 (by show (false || (U0 wV (RA es X.env)).any (·.1))=false;rw [zu] <;> rfl) (Vf ?_);exact thn hA fun us s2 ⟨vs,H2,I2,r2,q2⟩=>hm pins s2 σ H2 x vs v us Q I2 r1 r2 q2
end
end L2
namespace L2
open PySem PySem.Spec PyProof.Rows
def MtM (X:Cx) (id:String) (r:V->List V->Hp->VK->Prop):Prop :=
 ∀ (pins:List (QD×SQ)) (s:QJ) (σ:St) (H:Hp) (x:V) (xs:List V) (v:QE) (us:List QE) (Q:VK),Inv X pins σ H s->RelV x v->Vals xs us->r x xs H Q →
   QU (Ra X.prog X.w) X.A (call (.builtin id) (v::us)) (EP X pins σ Q) X.xe s
theorem Vals.one:∀ {x:V} {us:List QE},Vals [x] us->∃ u,us=[u]/\RelV x u
 | _,_,.cons r .nil=>⟨_,rfl,r⟩
theorem Vals.zero:∀ {us:List QE},Vals [] us->us=[]
 | _,.nil=>rfl
theorem Vals.dropLast {xs:List V} {us:List QE} (h:Vals xs us):Vals xs.dropLast us.dropLast:=by
 induction h with
 | nil=>exact .nil
 | cons r t ih =>
   cases t with
   | nil=>exact .nil
   | cons q t'=>exact .cons r ih
theorem Vals.reverse {xs:List V} {us:List QE} (h:Vals xs us):Vals xs.reverse us.reverse:=by
 induction h with
 | nil=>exact .nil
 | cons r t ih=>rw [RF,RF];exact Vals.append ih (.cons r .nil)
theorem oC {α:Type} (l:List α):l.eraseIdx (l.length - 1)=l.dropLast:=by
 induction l with
 | nil=>rfl
 | cons a r ih =>
   cases r with
   | nil=>rfl
   | cons b r =>
     have e:(a::b::r).length - 1=((b::r).length - 1)+1:=by
      have h1:(a::b::r).length=r.length+2:=rfl;have h2:(b::r).length=r.length+1:=rfl;omega
     rw [e,List.eraseIdx_cons_succ,ih]
     all_goals rfl
section
variable {X:Cx} {pins:List (QD×SQ)} {σ:St} {H:Hp} {s:QJ} {l b:QD} {xs ys zs:List V}
theorem Inv.lset {its its':List QE} {n:Nat} {f:Array QE->Array QE} {t':Nat} (I:Inv X pins σ H s) (hH:H l=some (.lst xs))
 (e:s.heap.get? l=some { cls:=.type "list",data:=.seq its.toArray n }) (hf:f its.toArray=its'.toArray) (hv:Vals ys its') (hz:ys.length<=QW) :
 Inv X pins σ (upd H l (.lst ys)) { s with heap:=s.heap.update l (RM f),toks:=t' }:=by
 have q:=PySem.IsL.update e f;rw [hf] at q;refine I.write (x:=l) (e:=l) (by rw [hH];exact trivial) (.inl rfl) (fun b' u hb hu=>(Ru s.heap (RM f) (Sr hb)).trans hu) ⟨_,q⟩ ?_;exact ⟨hz,its',_,hv,q⟩
theorem Inv.lnew {its:List QE} {t':Nat} (I:Inv X pins σ H s) (hv:Vals ys its) (hz:ys.length<=QW) :
 Inv X pins σ (upd H s.heap.objs.size (.lst ys)) { s with heap:=s.heap.push { cls:=.type "list",data:=.seq its.toArray },toks:=t' } :=
 I.laid (fun _ _ q=>QG _ q) (QF _) ⟨hz,its,0,hv,QQ _ rfl⟩
theorem Inv.fresh (I:Inv X pins σ H s):H s.heap.objs.size=none:=I.hok.fresh (QF _)
theorem Inv.lstM (I:Inv X pins σ H s) (hH:H l=some (.lst xs)):xs.length<=QW/\∃ (its:List QE) (n:Nat),Vals xs its/\xs.length=its.length/\s.heap.get? l=some { cls:=.type "list",data:=.seq its.toArray n }:=by
 obtain ⟨z,its,n,r,e⟩:=I.hok l _ hH;exact ⟨z,its,n,r,r.length,e⟩
theorem jY {n:Nat} (h:n<=QW):SW n=false:=by
 unfold SW;exact decide_eq_false (by omega)
end
section
variable {X:Cx}
inductive n8 (x:V) (vs:List V) (H:Hp) (Q:VK):Prop
 | mk (l:_) (xs:_) (y:_) (wZ:x=.ref l) (w4:vs=[y]) (w8:H l=some (.lst xs)) (xj:xs.length<QW) (xB:Q .non (upd H l (.lst (xs++[y])))):n8  x vs H Q
def pD:V->List V->Hp->VK->Prop:=n8
theorem aJ:MtM X "list.append" pD:=by
 intro pins s σ H x vs v us Q I rx rv h;obtain ⟨l,xs,y,rfl,rfl,hH,hz,q⟩:=h;cases rx;obtain ⟨u,rfl,ru⟩:=rv.one;obtain ⟨z,its,n,r,hl,e⟩:=I.lstM hH;refine VY F.slot_list_append ⟨_,e,rfl⟩ F.entry_list_append (F.args_list_append_2 _ _) (PySem.list_append l its.toArray n u (by rw [QN];omega)) ⟨e,?_⟩;refine ⟨.non,_,I.lset (its':=its++[u]) hH e (by simp) (r.append (.cons ru .nil)) ?_,rfl,q⟩;rw [QX,List.length_singleton];omega
inductive oi (x:V) (vs:List V) (H:Hp) (Q:VK):Prop
 | mk (l:_) (b:_) (xs:_) (zs:_) (wZ:x=.ref l) (w4:vs=[.ref b]) (w8:H l=some (.lst xs)) (xj:H b=some (.lst zs)) (xB:xs.length+zs.length<=QW) (yu:Q .non (upd H l (.lst (xs++zs)))):oi  x vs H Q
def tQ:V->List V->Hp->VK->Prop:=oi
theorem iA:MtM X "list.extend" tQ:=by
 intro pins s σ H x vs v us Q I rx rv h;obtain ⟨l,b,xs,zs,rfl,rfl,hH,hB,hz,q⟩:=h;cases rx;obtain ⟨u,rfl,ru⟩:=rv.one;cases ru;obtain ⟨z,its,n,r,hl,e⟩:=I.lstM hH;obtain ⟨z2,wL,n2,r2,xD,e2⟩:=I.lstM hB;have hsz:its.toArray.size+wL.toArray.size<=QW:=by rw [QN,QN];omega
 have AI:¬ (!its.toArray.isEmpty && SW (its.toArray.size+wL.toArray.size))=true:=by
  rw [jY hsz,Vg];exact Q0
 refine VY F.slot_list_extend ⟨_,e,rfl⟩ F.entry_list_extend (F.args_list_extend_2 _ _)
  (AutoSeq1.list_extend_list_list_0 l its.toArray n b wL.toArray n2 AI (by rw [QN];omega) (by omega)) ⟨e,e2,?_⟩
 refine ⟨.non,_,I.lset (its':=its++wL) hH e (by simp) (r.append r2) ?_,rfl,q⟩;rw [QX];omega
inductive tY (x:V) (vs:List V) (H:Hp) (Q:VK):Prop
 | mk (l:_) (xs:_) (y:_) (wZ:x=.ref l) (w4:vs=[]) (w8:H l=some (.lst xs)) (xj:xs[xs.length - 1]?=some y) (xB:Q y (upd H l (.lst xs.dropLast))):tY  x vs H Q
def vP:V->List V->Hp->VK->Prop:=tY
theorem jV:MtM X "list.pop" vP:=by
 intro pins s σ H x vs v us Q I rx rv h;obtain ⟨l,xs,y,rfl,rfl,hH,hy,q⟩:=h;cases rx;have EB:=rv.zero;subst EB;obtain ⟨z,its,n,r,hl,e⟩:=I.lstM hH;obtain ⟨u,hu,ru⟩:=r.get hy
 have zV:its.toArray[its.toArray.size - 1]?=some u:=by
  show its.toArray[its.length - 1]?=some u;rw [<- T2,<- hl];exact hu
 refine VY F.slot_list_pop ⟨_,e,rfl⟩ F.entry_list_pop (F.args_list_pop_1 _) (MeetsSeq.list_pop_last l its.toArray n u zV (by rw [QN];omega)) ⟨e,?_⟩;refine ⟨y,_,I.lset (its':=its.dropLast) hH e ?_ r.dropLast ?_,ru,q⟩
 · show its.toArray.eraseIdxIfInBounds (its.toArray.size - 1)=its.dropLast.toArray;rw [QN,List.eraseIdxIfInBounds_toArray,oC]
 · rw [List.length_dropLast];omega
inductive t3 (x:V) (y:V) (H:Hp) (Q:VK):Prop
 | mk (l:_) (b:_) (xs:_) (zs:_) (wZ:x=.ref l) (w4:y=.ref b) (w8:H l=some (.lst xs)) (xj:H b=some (.lst zs)) (xB:xs.length+zs.length<=QW) (yu:∀ p,H p=none->Q (.ref p) (upd H p (.lst (xs++zs)))):t3  x y H Q
def wt:R2:=t3
theorem u6:OpR X (UJ .Add) wt:=by
 intro pins s σ H x y v u Q I rx ry h;obtain ⟨l,b,xs,zs,rfl,rfl,hH,hB,hz,q⟩:=h;cases rx;cases ry;obtain ⟨z,its,n,r,hl,e⟩:=I.lstM hH;obtain ⟨z2,wL,n2,r2,xD,e2⟩:=I.lstM hB;refine PySem.P.add_list e e2 ?_ (by rw [QN,QN];omega);have ea:its.toArray++wL.toArray=(its++wL).toArray:=by simp
 rw [ea];exact ⟨.ref _,_,I.lnew (t':=s.toks) (r.append r2) (by rw [QX];omega),rfl,q _ I.fresh⟩
end
section
variable {prog:QR} {w:Q3} {A:Rr} {E:QE->QJ->Prop} {s:QJ}
end
section
variable {X:Cx}
end
end L2
namespace Att
open PySem PySem.W PySem.Calls PyProof.Rows
theorem ints_of_wellAll {P:Params} {h:RS}:∀ (ns:List Int) (vs:List QE),WellAll P h vs (ns.map WData.int)->IntsAre vs ns:=by
 intro ns;induction ns with
 | nil =>
   intro vs w;rw [S5] at w;cases w;exact .nil
 | cons n ns ih =>
   intro vs w;rw [RD] at w;cases w with
   | cons a b =>
     cases a;exact .cons _ _ (ih _ b)
theorem script_of {l:OpenLaw} {n:Nat} (hn:l.most=some n) {P:Params} {h:RS} {args:List WData} {vals:List QE}
 (BC:l.row.toRowW.claim.pre args=true) (AJ:WellAll P h vals args) :
 ∃ a vs ns,vals=[Q9 a]/\args=[WData.list (ns.map WData.int)]/\h.get? a=some { cls:=.type "list",data:=.seq vs.toArray }/\IntsAre vs ns/\ns.length<=n:=by
 have MR:WShape.hasAll [] args [.list .int]=true:=(pre_splitW BC).1;have hc:l.pre.holds [] { args:=args }=true:=(pre_splitW BC).2;obtain ⟨d,r,rfl,h1,h2⟩:=hasAllW_cons MR;obtain rfl:=hasAllW_nil h2;obtain ⟨xs,rfl,h3⟩:=hasW_list h1;obtain ⟨ns,rfl⟩:=items_int h3
 have hlen:ns.length<=n:=by
  unfold OpenLaw.pre at hc
  have h4:(WTm.not (.lt (.lit (.int (n:Int))) (.len (.arg 0)))).holds [] { args:=[.list (ns.map .int)] }=true:=by
   have h4:=(holds_andW hc).1;rw [hn] at h4;exact h4
  have h5:=condW_of h4 (w_not (w_lt w_lit (w_len_list (w_arg rfl))));rw [QA] at h5;refine Nat.le_of_not_lt fun q=>?_;have q':(n:Int)<((ns.length:Nat):Int):=by omega
  first
   | (rw [decide_eq_true q'] at h5;exact absurd h5 (by decide))
   | (simp at h5;omega)
 cases AJ with
 | cons w1 w2 =>
   cases w2;cases w1 with
   | list ho wM=>exact ⟨_,_,ns,rfl,rfl,ho,ints_of_wellAll ns _ wM,hlen⟩
theorem post_true (l:OpenLaw) (args:List WData):l.row.toRowW.claim.post args (.bool true) args=true :=
 postW_of (r:=l.row.toRowW) (X:=(true == true))
  (show WShape.has [] (.bool true) .bool=true by first | rfl | decide | simp [WShape.has,WShape.arms,WShape.armsAll])
  (show (WTm.eq .res (.lit (.bool true))).value [] { args:=args,res:=some (.bool true),after:=args }=some (.bool (true == true)) from w_eq_bool (w_res rfl) w_lit) rfl
theorem attach_call {l:OpenLaw} {n:Nat} {q:QR} {loose:List Rc} {XP:(Rc->Option QE)->RS->Prop} {YP:Q3->RS->Prop} {d:DefRec}
 (hn:l.most=some n) (hdf:d.params.defaults=[])
 (call:∀ (w:Q3) (s₀ wI:QJ) (mg mb:Rc->Option QE) (fa:QD) (o:SQ) (pm cd doc:QE) (a:QD) (vs:List QE) (ns:List Int),
  Ground q loose [] XP w s₀ mg mb wI.heap->YP w wI.heap →
  wI.heap.get? fa=some o->o.data=.func (docDef d.name d.params d.body d.scope pm cd doc)->wI.heap.CodeRec cd d.name->mg d.name=some (.ref fa) →
  wI.heap.get? a=some { cls:=.type "list",data:=.seq vs.toArray }->IntsAre vs ns->ns.length<=n->wI.gens=#[] →
  UZ (Ra l.prog w) callerA (.call (.ref fa) ⟨[.ref a],[]⟩) (fun r s'=>r=.ok (.ret (.bool true))/\OldK wI.heap s'.heap/\s'.os=wI.os/\AllBare s'.gens) wI) :
 WalkO q loose XP YP l.row.toRowW d [] (fun f vs=>PySem.call f vs):=by
 intro w s₀ wI mg mb G Y fa o pm cd doc dV kV ho hd AD hD EC hg args vals as BC MS K9 AJ MT;obtain rfl:dV=.none:=Dflts.none hD hdf;obtain rfl:kV=.none:=Dflts.noKw hD;obtain ⟨a,vs,ns,rfl,rfl,CU,hints,hlen⟩:=script_of hn BC AJ;refine enter_call (codeAny_mono (call w s₀ wI mg mb fa o pm cd doc a vs ns G Y ho (fd_plain hd) AD EC CU hints hlen hg) fun r s' hq=>?_);obtain ⟨rfl,h2,h3,h4⟩:=hq;exact ⟨.inl ⟨.bool true,.bool true,[],rfl,fun _=>rfl,.bool true,post_true l _,fun _=>⟨List.Pairwise.nil,fun _ hm=>(nomatch hm)⟩⟩,h2,h3,h4⟩
section
variable {prog:QR} {w:Q3} {A:Rr} {E:QE->QJ->Prop} {s:QJ} {K:Frag}
end
end Att
namespace L2
open PySem PySem.Spec PyProof.Rows
theorem lc:∀ {vs:List QE} {ns:List Int},IntsAre vs ns->Vals (ns.map V.int) vs
 | _,_,.nil=>.nil
 | _,_,.cons n t h=>.cons ⟨t,rfl⟩ (lc h)
def uH (H:Hp):Prop:=∀ b,H b=none∨∃ o xs,H b=some (.frz o (.lst xs))
theorem re {P:QR} {w:Q3} {K:QB} {mg mb:Rc->Option QE} {CX:CXT} {k:Nat} {fa a:QD} {fd:Ua} {x:Rc} {sp:Sp} {wI:QJ} {vs:List QE} {ns:List Int}
 (KX:K.In wI.heap) (Ce:wI.heap.Ns Rp mg) (hb:wI.heap.Ns builtinsNs mb) (MU:∀ x:Rc,x≠"__name__"->mb x=Vn x) (HV:wI.heap.NoLimit) (hg:wI.gens=#[])
 (ha:wI.heap.get? a=some { cls:=.type "list",data:=.seq vs.toArray }) (hi:IntsAre vs ns) (hl:ns.length<=QW) (hr:Room k callerA)
 (F:∀ base:RS,K.In base->base.Ns Rp mg->bh P w K mg base CX k fa fd [x] sp) (ED:∀ (s:QJ) (u:QE),BindsTo s fd ⟨[u],[]⟩ [(x,u)])
 (Cd:∀ H:Hp,uH H->SqL K H a (ns.map V.int)->sp [.ref a] H (fun v _=>v=.bl true) fun _ _ _=>False)
 (HW:∀ H e s',CX [] H wI (fun _ _ _=>False) e s'->False) :
 UZ (Ra P w) callerA (.call (.ref fa) ⟨[.ref a],[]⟩) (fun r s'=>r=.ok (.ret (.bool true))/\OldK wI.heap s'.heap/\s'.os=wI.os/\AllBare s'.gens) wI:=by
 have rv:=lc hi;have HX:=hi.length
 -- from an abstract heap in K' nothing but zp script may be tracked
 have core:∀ H:Hp,uH H->SqL K H a (ns.map V.int)->HOk P w H wI.heap->(∀ b,H b≠none->b=a)->(H a≠none->K.lookup a=none) →
  UZ (Ra P w) callerA (.call (.ref fa) ⟨[.ref a],[]⟩) (fun r s'=>r=.ok (.ret (.bool true))/\OldK wI.heap s'.heap/\s'.os=wI.os/\AllBare s'.gens) wI:=by
  intro H hO hS hok hA hK;have zL:∀ {b:QD} {o:SQ},wI.heap.get? b=some o->H b=none->(mr wI.heap H).get? b=some o:=fun e n=>rn e n
  have Ew:∀ {b:QD} {o:SQ} {es:Array DictEntry} {ep:Nat},wI.heap.get? b=some o->o.data=.dict es ep->H b=none:=fun {b o es ep} e d=>by
   cases q:H b with
   | none=>rfl
   | some u =>
     have e':b=a:=hA b (by rw [q];simp);subst e';rw [ha] at e;cases e;have d':Data.seq vs.toArray _=Data.dict es ep:=d;cases d'
  have GP:∀ {b:QD} {m:Rc->Option QE},wI.heap.Ns b m->(mr wI.heap H).Ns b m:=fun {b m} ⟨o,es,ep,e,d,r⟩=>⟨o,es,ep,zL e (Ew e d),d,r⟩
  have La:K.In (mr wI.heap H):=fun b o e=>zL (KX b o e) (by
   cases q:H b with
   | none=>rfl
   | some u =>
     have e':b=a:=hA b (by rw [q];simp);subst e';rw [hK (by rw [q];simp)] at e;cases e)
  have hM:Mod K mg (mr wI.heap H):=⟨La,GP Ce,⟨mb,GP hb,MU⟩,let ⟨mc,h1,h2⟩:=HV;⟨mc,GP h1,h2⟩⟩;have e0:sN P w K mg (mr wI.heap H) callerA [] wI H:=⟨rfl,hM,fun b o e=>sR e,Wq (qu _ _),trivial,fun b hb=>absurd (show b∈([]:List QD) from hb) (by simp),hok,.of_eq hg⟩;refine codeAny_mono ((F _ La (GP Ce)).run callerA [] wI H ⟨[.ref a],[]⟩ [.ref a] [.ref a] _ _ hr e0 (ED wI (.ref a)) (.cons rfl .nil) (Cd H hO hS)) fun r s' h=>?_;cases r with
  | error e=>exact (HW H e s' h).elim
  | ok fl =>
    cases fl with
    | next=>exact Ub h
    | brk=>exact Ub h
    | cont=>exact Ub h
    | ret u =>
      obtain ⟨v,H',os,bare,un,HY,r',q⟩:=h;have q':v=.bl true:=q;subst q';obtain rfl:u=Value.bool true:=r';refine ⟨rfl,OldK.of_keep fun b o e=>?_,os,bare⟩;cases q:H b with
      | none=>exact un.keep b o e q (by intro z;exact absurd (show b∈([]:List QD) from z) (by simp)) (by simp)
      | some u =>
        rcases hO b with z | ⟨ob,xs,z⟩
        · rw [q] at z;cases z
        · have z2:=un.frzs b ob _ z;obtain ⟨e1,_⟩:=hok b _ z;obtain ⟨e2,_⟩:=HY b _ z2;rw [e] at e1;cases e1;exact e2
 cases hk:K.lookup a with
 | some o =>
   -- zp script is one of zp EE own objects
   have e:=KX a o hk;rw [ha] at e;cases e;refine core (fun _=>none) (fun _=>.inl rfl) (.inr ⟨_,vs.toArray,_,hk,rfl,rfl,rfl,by rw [QN,HX];exact hl,by simpa using rv⟩) (fun b u z=>by have z':(none:Option HO)=some u:=z;cases z') (fun b z=>absurd rfl z) fun z=>absurd rfl z
 | none =>
   refine core (fun b=>if b=a then some (.frz { cls:=.type "list",data:=.seq vs.toArray } (.lst (ns.map V.int))) else none) (fun b=>?_) (.inl (.inr ⟨{ cls:=.type "list",data:=.seq vs.toArray },if_pos rfl⟩)) (fun b u z=>?_) (fun b z=>?_) fun _=>hk
   · by_cases hb:b=a
     · exact .inr ⟨_,_,if_pos hb⟩
     · exact .inl (if_neg hb)
   · by_cases hb:b=a
     · have z':=(if_pos hb).symm.trans z;cases z';subst hb;exact ⟨ha,by rw [QA];exact hl,vs,_,rv,ha⟩
     · have z':=(if_neg hb).symm.trans z;cases z'
   · by_cases hb:b=a
     · exact hb
     · exact absurd (if_neg hb) z
end L2
namespace L2
open PySem PySem.Spec PyProof.Rows
theorem sO {l:PySem.W.OpenLaw} {n k:Nat} {q:QR} {loose:List Rc} {XP:(Rc->Option QE)->RS->Prop} {YP:Q3->RS->Prop} {d:DefRec} {K:Params->QB} {CX:Q3->CXT} {sp:Q3->Sp} {x:Rc}
 (hn:l.most=some n) (Lb:n<=QW) (hdf:d.params.defaults=[]) (hr:Room k callerA)
 (hY:∀ (w:Q3) (h:RS),YP w h->(K w.params).In h)
 (F:∀ (w:Q3) (mg:Rc->Option QE) (fa:QD) (h:RS),(K w.params).In h->h.Ns Rp mg->mg d.name=some (.ref fa) →
  ∃ fd:Ua,(∀ (s:QJ) (u:QE),BindsTo s fd ⟨[u],[]⟩ [(x,u)]) ∧
    ∀ base:RS,(K w.params).In base->base.Ns Rp mg->bh l.prog w (K w.params) mg base (CX w) k fa fd [x] (sp w))
 (Cd:∀ (w:Q3) (H:Hp) (a:QD) (ns:List Int),ns.length<=n->uH H->SqL (K w.params) H a (ns.map V.int)->sp w [.ref a] H (fun v _=>v=.bl true) fun _ _ _=>False)
 (HW:∀ (w:Q3) (H:Hp) (s:QJ) (e:QE) (s':QJ),CX w [] H s (fun _ _ _=>False) e s'->False) :
 PySem.W.WalkO q loose XP YP l.row.toRowW d [] (fun f vs=>PySem.call f vs):=by
 refine Att.attach_call hn hdf fun w s₀ wI mg mb fa o pm cd doc a vs ns G Y ho hd AD EC CU hints hlen hg=>?_;have KX:=hY w _ Y;obtain ⟨fd,hb,hF⟩:=F w mg fa _ KX G.T.g EC;exact re KX G.T.g G.T.b G.T.builtins G.T.nolimit hg CU hints (Sn hlen Lb) hr hF hb (fun H hO hS=>Cd w H a ns hlen hO hS) fun H e s'=>HW w H wI e s'
end L2
namespace L2
open PySem PySem.Spec PyProof.Rows
def bY (s:SD):Arguments:=match s with
 | .FunctionDef _ a _ _ _ _ _ _ _ _=>a
 | _=>{ posonlyargs:=[],args:=[],vararg:=none,kwonlyargs:=[],kw_defaults:=[],kwarg:=none,defaults:=[] }
def bR (s:SD):List SD:=match s with
 | .FunctionDef _ _ b _ _ _ _ _ _ _=>b
 | _=>[]
def aj (s:SD):UR:=match s with
 | .FunctionDef _ _ _ _ _ _ sc _ _ _=>sc
 | _=>{ kind:=.function,names:=[],isGenerator:=false,isCoroutine:=false }
abbrev CX0:CXT:=fun _ _ _ _ _ _=>False
abbrev E0:XK:=fun _ _ _=>False
theorem jW {X:Cx}:Passes CX0 X E0:=fun _ _ _ _ _ _ _ h=>h.elim
structure Fun (K:QB) (x qual:Rc) (st:SD) (f:QD) (fd:Ua):Prop where
 ex:∃ (oc:QE) (od:Option QD) (kV doc pm:QE) (an:Option QD) (wQ ct:QE) (Cc:Array (Option QE)),
  fd=Ue x qual (bY st) (bR st) (aj st) .none kV doc pm an wQ ct/\K.lookup f=some ⟨oc,od,.func fd,Cc⟩/\VP K wQ qual=true
 kp:VO K (.ref f)=true
section
variable {P:QR} {w:Q3} {K:QB} {mg:Rc->Option QE} {base:RS}
theorem Fun.ok {x qual:Rc} {st:SD} {f:QD} {fd:Ua} {N ps:List Rc} {k:Nat} {sp:Sp} (F:Fun K x qual st f fd) (S:ay N ps (aj st)) (len:∀ vs H Q E,sp vs H Q E->vs.length=ps.length)
 (AG:∀ (wQ:QE) (A:Rr) (outer:List Env) (s:QJ) (H:Hp) (vs:List V) (Q:VK) (E:XK),Room k (A.deeper (envOfC qual (aj st) s.heap.objs.size f wQ))->sp vs H Q E →
  ∃ t,PSs (qw CX0 P w K mg base N qual (aj st) f wQ A outer s H E).nox (bR st) t/\t { nx:=fun _ H'=>Q .non H',rt:=Q } (start N vs) H):bh P w K mg base CX0 (k+1) f fd ps sp:=by
 obtain ⟨oc,od,kV,doc,pm,an,wQ,ct,Cc,rfl,lk,AD⟩:=F.ex;refine vG lk AD S len fun A outer s H vs Q E hr Cd=>?_;obtain ⟨t,h,q⟩:=AG wQ A outer s H vs Q E hr Cd;exact ⟨t,h.nox,q⟩
theorem Fun.binds {x qual:Rc} {st:SD} {f:QD} {fd:Ua} {ps:List Rc} (F:Fun K x qual st f fd)
 (h:∀ (kV doc pm:QE) (an:Option QD) (wQ ct:QE) (us:List QE),us.length=ps.length->bindArgs (Ue x qual (bY st) (bR st) (aj st) .none kV doc pm an wQ ct) ⟨us,[]⟩=pure (ps.zip us)):Binds K fd ps []:=by
 obtain ⟨oc,od,kV,doc,pm,an,wQ,ct,Cc,rfl,lk,AD⟩:=F.ex;exact .all (h kV doc pm an wQ ct)
theorem eG {x qual:Rc} {st:SD} {f:QD} {oc:QE} {od an:Option QD} {Cc:Array (Option QE)} {kV doc pm wQ ct:QE} (l:K.lookup f=some ⟨oc,od,.func (Ue x qual (bY st) (bR st) (aj st) .none kV doc pm an wQ ct),Cc⟩)
 (c:VP K wQ qual=true) (k:VO K (.ref f)=true):Fun K x qual st f (Ue x qual (bY st) (bR st) (aj st) .none kV doc pm an wQ ct):=⟨⟨oc,od,kV,doc,pm,an,wQ,ct,Cc,rfl,l,c⟩,k⟩
end
theorem ll {A:Rr} {k:Nat} (hr:Room k A):A.units+1<Sl:=Vb (Nat.add_le_add_left (by decide:1<=64) _) hr.units
section
variable {X:Cx}
theorem pv (i:Nat) {x:Rc} {pos:US} (hN:X.N[i]?=some x:=by rfl) (hv:Vis X.env.scope x:=by first | exact QY rfl | exact Wb (QY rfl) | exact Wb (Wb rfl)) (hd:(x == ("__debug__":Rc))=false:=by decide)
 (AD:(x == ("__classdict__":Rc))=false:=by decide):PE X (.Name x pos) (bu i):=vb hN hv hd AD
end
theorem kS {A B:Prop} (h:B):if false=true then A else B:=by
 rw [if_neg Q0];exact h
theorem rh {A B:Prop} (h:A):if true=true then A else B:=by
 rw [if_pos rfl];exact h
theorem cr {c A B:Prop} [Decidable c] (h1:c->A) (h2:¬ c->B):if c then A else B:=by
 by_cases h:c
 · rw [if_pos h];exact h1 h
 · rw [if_neg h];exact h2 h
def Same (H H':Hp):Prop:=∀ b o,H b=some o->H' b=some o
theorem Same.refl (H:Hp):Same H H:=fun _ _ h=>h
theorem Same.trans {H H1 H2:Hp} (a:Same H H1) (b:Same H1 H2):Same H H2:=fun c o h=>b c o (a c o h)
theorem Same.free {H H':Hp} (e:Same H H') {l:QD} (h:H' l=Option.none):H l=Option.none:=by
 cases q:H l with
 | none=>rfl
 | some o =>
   rw [e l o q] at h;cases h
theorem Same.seq {K:QB} {H H':Hp} {a:QD} {xs:List V} (e:Same H H') (h:SqL K H a xs):SqL K H' a xs:=by
 rcases h with (h | ⟨o,h⟩) | h
 · exact .inl (.inl (e _ _ h))
 · exact .inl (.inr ⟨o,e _ _ h⟩)
 · exact .inr h
end L2
namespace L2
open PySem PySem.Spec PyProof.Rows
theorem gA (env:Env):∀ (ns:List (Rc×Td)) (acc:List (Rc×QD)),(∀ n,(n,RW)∈ns->∃ c,env.cells.lookup n=some c) →
 (∀ x c,acc.lookup x=some c->env.cells.lookup x=some c) →
 ∃ cl,(forIn ns acc fun (x:Rc×Td) (cs:List (Rc×QD))=>(if (x.2 == RW)=true then (do let a ← cellOf env x.1;pure (Tt ((x.1,a)::cs))) else pure (Tt cs):Sem _))=pure cl ∧
   (∀ x c,cl.lookup x=some c->env.cells.lookup x=some c)/\(∀ n,(n,RW)∈ns->∃ c,cl.lookup n=some c)/\∀ n c,acc.lookup n=some c->cl.lookup n=some c
 | [],acc,_,ha=>⟨acc,rfl,ha,fun _ h=>by simp at h,fun _ _ h=>h⟩
 | (n,k)::r,acc,hf,ha=>by
   by_cases hk:k=RW
   · subst hk;obtain ⟨c,hc⟩:=hf n Q6
     have zW:∀ x c',((n,c)::acc).lookup x=some c'->env.cells.lookup x=some c':=fun x c' e=>by
      rw [S9] at e;cases hx:x == n with
      | true =>
        rw [hx] at e;have e1:x=n:=by simpa using hx
        cases e;rw [e1];exact hc
      | false=>rw [hx] at e;exact ha x c' e
     obtain ⟨cl,h1,h2,h3,h4⟩:=gA env r ((n,c)::acc) (fun m hm=>hf m (Q1 _ hm)) zW;have up:∀ m c',((n,c)::acc).lookup m=some c'->cl.lookup m=some c':=h4;refine ⟨cl,?_,h2,?_,?_⟩
     · rw [UD];have e0:cellOf env n=pure c:=by unfold cellOf;rw [hc]
       simp only [beq_self_eq_true,if_true,e0,pure_bind];exact h1
     · intro m hm;rcases QZ.mp hm with e | e
       · have:m=n:=by simpa using (Prod.mk.inj e).1
         subst this;exact ⟨c,up m c (by rw [S9];simp)⟩
       · exact h3 m e
     · intro m c' e;by_cases hm:m=n
       · subst hm;have:=ha m c' e;rw [hc] at this;cases this;exact up m c (by rw [S9];simp)
       · have MV:(m == n)=false:=by simpa using hm
         exact up m c' (by rw [S9,MV];exact e)
   · have hb:(k == RW)=false:=by simpa using hk
     obtain ⟨cl,h1,h2,h3,h4⟩:=gA env r acc (fun m hm=>hf m (Q1 _ hm)) ha;refine ⟨cl,?_,h2,?_,h4⟩
     · rw [UD];simp only [hb,RQ,if_false,pure_bind];exact h1
     · intro m hm;rcases QZ.mp hm with e | e
       · exact absurd (Prod.mk.inj e).2.symm hk
       · exact h3 m e
theorem j8 {env:Env} {sc:UR} (hf:∀ n,(n,RW)∈sc.names->∃ c,env.cells.lookup n=some c) :
 ∃ cl,closureFor sc env=pure cl/\(∀ x c,cl.lookup x=some c->env.cells.lookup x=some c)/\∀ n,(n,RW)∈sc.names->∃ c,cl.lookup n=some c:=by
 obtain ⟨cl,h1,h2,h3,_⟩:=gA env sc.names [] hf (fun x c e=>by simp at e);refine ⟨cl,?_,h2,h3⟩;unfold closureFor;have e:(forIn sc.names ([]:List (Rc×QD)) fun (x:Rc×Td) (cs:List (Rc×QD))=>(do if (x.2 == RW)=true then (do let a ← cellOf env x.1;pure (Tt ((x.1,a)::cs))) else pure (Tt cs):Sem _))=pure cl:=h1
 first
  | (rw [show (forIn sc.names ([]:List (Rc×QD)) _:Sem _)=pure cl from h1];rfl)
  | (simp only [h1,pure_bind])
theorem jt {f:Rc×Td->Rc×Td} (hf:∀ p,(f p).1=p.1):∀ {l:List (Rc×Td)} {x:Rc} {k:Td},l.lookup x=some k->(l.map f).lookup x=some (f (x,k)).2
 | [],_,_,h=>by simp at h
 | (n,k0)::r,x,k,h=>by
   have ih:=@jt f hf r x k;rw [RD];obtain ⟨a,b,e⟩:∃ a b,f (n,k0)=(a,b):=⟨_,_,rfl⟩;have ea:a=n:=by have:=hf (n,k0);rw [e] at this;exact this
   subst ea;rw [e,S9];cases hx:x == a with
   | true =>
     rw [S9,hx] at h;cases h;have:x=a:=by simpa using hx
     subst this;rw [e]
   | false=>rw [S9,hx] at h;exact ih h
theorem dG {f:Rc×Td->Rc×Td} (hf:∀ p,(f p).1=p.1):∀ {l:List (Rc×Td)} {x:Rc} {k:Td},(l.map f).lookup x=some k->∃ k0,(x,k0)∈l/\(f (x,k0)).2=k
 | [],_,_,h=>by simp at h
 | (n,k0)::r,x,k,h=>by
   have ih:=@dG f hf r x k;rw [RD] at h;obtain ⟨a,b,e⟩:∃ a b,f (n,k0)=(a,b):=⟨_,_,rfl⟩;have ea:a=n:=by have:=hf (n,k0);rw [e] at this;exact this
   subst ea;rw [e,S9] at h;cases hx:x == a with
   | true =>
     rw [hx] at h;cases h;have:x=a:=by simpa using hx
     subst this;exact ⟨k0,Q6,by rw [e]⟩
   | false =>
     rw [hx] at h;obtain ⟨k1,h1,h2⟩:=ih h;exact ⟨k1,Q1 _ h1,h2⟩
def rlb (env:Env) (p:Rc×Td):Rc×Td:=if (p.2 == RW && env.scope.kind == .function && env.kindOf p.1 == some .cell) then (p.1,U9) else (p.1,p.2)
theorem l7 (env:Env) (p:Rc×Td):(rlb env p).1=p.1:=by unfold rlb;split <;> rfl
theorem f6 (sc:UR) (env:Env):(relabel sc env).names=sc.names.map (rlb env):=rfl
theorem im {sc:UR} {env:Env} {x:Rc} (h:sc.names.lookup x=some .free):(relabel sc env).names.lookup x=some .cell∨(relabel sc env).names.lookup x=some .free:=by
 rw [f6,jt (l7 env) h];unfold rlb;split
 · exact .inl rfl
 · exact .inr rfl
theorem kj {sc:UR} {env:Env} {x:Rc} (hn:∀ y∈sc.names,y.2≠U9) (h:(relabel sc env).names.lookup x=some .cell∨(relabel sc env).names.lookup x=some .free):(x,RW)∈sc.names:=by
 rw [f6] at h
 have:∃ k0,(x,k0)∈sc.names/\((rlb env (x,k0)).2=.cell∨(rlb env (x,k0)).2=.free):=by
  rcases h with h | h
  · obtain ⟨k0,a,b⟩:=dG (l7 env) h;exact ⟨k0,a,.inl b⟩
  · obtain ⟨k0,a,b⟩:=dG (l7 env) h;exact ⟨k0,a,.inr b⟩
 obtain ⟨k0,hm,hk⟩:=this;have nc:=hn _ hm;cases k0 with
 | free=>exact hm
 | cell=>exact absurd rfl nc
 | _=>simp [rlb] at hk
def bO (X:Cx) (N:List Rc) (sc:UR) (cl:List (Rc×QD)) (C:QD) (s:QJ) (H:Hp) (fp:List QD) (pins:List (QD×SQ)):Cx :=
 { X with N:=N,s₀:=s,H₀:=H,env:=compEnvC sc cl C X.env,outer:=X.stack,ex:=fp,fn:=fun _=>false,pn:=X.pn++pins,xe:=fun _ _=>False }
def cσ (js:List (Option Nat)) (σ:St):St:=js.map fun o=>o.bind fun j=>(σ[j]?).join
structure dQ (X:Cx) (sc:UR) (N:List Rc) (js:List (Option Nat)):Prop where
 kind:sc.kind=.function
 nocell:∀ y∈sc.names,y.2≠U9
 names:∀ y∈sc.names,y.2=NameKind.local->sc.names.lookup y.1=some .local
 frees:∀ y∈sc.names,y.2=RW->X.env.kindOf y.1=some .cell∨X.env.kindOf y.1=some .free
 len:js.length=N.length
 slots:∀ (i j:Nat) (x:Rc),js[i]?=some (some j)->N[i]?=some x->X.N[j]?=some x/\sc.names.lookup x=some .free/\(X.env.kindOf x=some .cell∨X.env.kindOf x=some .free)
theorem cL {X:Cx} {sc:UR} {N:List Rc} {js:List (Option Nat)} (k:sc.kind=.function) (nc:∀ y∈sc.names,y.2≠U9) (nm:∀ y∈sc.names,y.2=NameKind.local->sc.names.lookup y.1=some .local)
 (fr:(sc.names.all fun y=>y.2 != RW || X.env.kindOf y.1 == some U9 || X.env.kindOf y.1 == some RW)=true) (ln:js.length=N.length)
 (sl:((js.zip N).all fun p=>match p.1 with | none=>true | some j=>X.N[j]? == some p.2 && sc.names.lookup p.2 == some RW && (X.env.kindOf p.2 == some U9 || X.env.kindOf p.2 == some RW))=true):dQ X sc N js:=by
 refine ⟨k,nc,nm,fun y hy hf=>?_,ln,fun i j x e1 e2=>?_⟩
 · have h:=Tb.mp fr y hy;rw [hf] at h;simpa using h
 · have hm:(some j,x)∈js.zip N:=by
    have:(js.zip N)[i]?=some (some j,x):=by rw [To];exact ⟨e1,e2⟩
    exact QH this
   have h:=Tb.mp sl _ hm;simp at h;exact ⟨h.1.1,h.1.2,h.2⟩
def PTs (X:Cx) (ifs:List RO) (t:TT):Prop :=
 ∀ (pins:List (QD×SQ)) (s:QJ) (σ:St) (H:Hp) (Q:Bool->Hp->Prop),Inv X pins σ H s->t σ H Q →
   QU (Ra X.prog X.w) X.A (forIn ifs true fun c r=>if r=true then do let ok ← isTrue c X.env (S4 c X.env);pure (Tt ok) else pure (Tt r)) (TP X pins σ Q) X.xe s
def bZ:TT:=fun _ H Q=>Q true H
theorem cg {X:Cx}:PTs X [] bZ:=fun _ _ _ H _ I h=>wpAny_tests_nil ⟨H,I,h⟩
theorem jl {X:Cx} {c:RO} {t:TT} (h:PT X c t):PTs X [c] t:=fun pins s σ H Q I q=>wpAny_tests_one (h pins s σ H Q I q)
def Keep (σ wH:St):Prop:=σ.length=wH.length/\∀ (i:Nat) (v:V),σ[i]?=some (some v)->wH[i]?=some (some v)
def k9 (js:List (Option Nat)) (g:TG):Prop:=∀ (σ yt:St) (x:V) (H:Hp) (Q:St->Hp->Prop),Keep (cσ js σ) yt->g x yt H Q->g x yt H fun w9 H2=>Keep (cσ js σ) w9/\Q w9 H2
def mL (js:List (Option Nat)) (g:TGs):Prop:=∀ (σ yt:St) (x:List V) (H:Hp) (Q:St->Hp->Prop),Keep (cσ js σ) yt->g x yt H Q->g x yt H fun w9 H2=>Keep (cσ js σ) w9/\Q w9 H2
theorem Keep.refl (σ:St):Keep σ σ:=⟨rfl,fun _ _ h=>h⟩
theorem tH {js:List (Option Nat)} {σ:St} {i:Nat} (h:js[i]?=some none):(cσ js σ)[i]?=some none:=by
 unfold cσ;rw [QO,h];rfl
theorem aR {js:List (Option Nat)} {i:Nat} (h:js[i]?=some none):k9 js (aI i):=fun σ yt x H Q k q=>by
 refine ⟨⟨by rw [VG];exact k.1,fun j v e=>?_⟩,q⟩;by_cases hj:i=j
 · subst hj;rw [tH h] at e;cases e
 · rw [VS hj];exact k.2 j v e
theorem fw {js:List (Option Nat)}:mL js kH:=fun σ yt x H Q k ⟨e,q⟩=>⟨e,k,q⟩
theorem bJ {js:List (Option Nat)} {t:TG} {u:TGs} (mono:∀ x σ H (Q Q':St->Hp->Prop),(∀ a b,Q a b->Q' a b)->t x σ H Q->t x σ H Q') (h1:k9 js t) (h2:mL js u):mL js (cD t u):=fun σ yt x H Q k ⟨v,r,e,q⟩ =>
 ⟨v,r,e,mono _ _ _ _ _ (fun a b ⟨k',q'⟩=>h2 σ a r b Q k' q') (h1 σ yt v H _ k q)⟩
theorem aO {i:Nat}:∀ x σ H (Q Q':St->Hp->Prop),(∀ a b,Q a b->Q' a b)->aI i x σ H Q->aI i x σ H Q':=fun _ _ _ _ _ h q=>h _ _ q
theorem fI {js:List (Option Nat)} {K:QB} {n:Nat} {t:TGs} (h:mL js t):k9 js (kM K n t):=fun σ yt x H Q k ⟨a,xs,e,hs,hl,q⟩=>⟨a,xs,e,hs,hl,h σ yt xs H Q k q⟩
def fV (js:List (Option Nat)) (g:TG) (tt:TT) (te:TE) (σ:St) (J:It) (D:QD) (n:Nat) (W:Nat->Hp->Prop) (fin:Hp->Prop):Prop :=
 ∀ i H,W i H->(J.stop i H/\fin H)∨(i<n/\J.go i H/\∀ x H1,J.yld i H x H1->g x (cσ js σ) H1 fun w9 H2=>tt w9 H2 fun b H3 =>
   if b=true then te w9 H3 fun v H4=>∃ ys,H4 D=some (.lst ys)/\ys.length<QW/\W (i+1) (upd H4 D (.lst (ys++[v]))) else W (i+1) H3)
def ug (js:List (Option Nat)) (wi:TI) (g:TG) (tt:TT) (te:TE):TE:=fun σ H Q=>wi σ H fun J H1=>∀ D,H1 D=none →
 ∃ (n:Nat) (W:Nat->Hp->Prop),W 0 (upd H1 D (.lst []))/\fV js g tt te σ J D n W fun H'=>Q (.ref D) H'
section
variable {X:Cx} {pins:List (QD×SQ)} {σ:St} {s:QJ} {H:Hp}
theorem rL {sc:UR} {N:List Rc} {js:List (Option Nat)} {cl:List (Rc×QD)} {fp:List QD} {h1:RS} {t':Nat} (S:dQ X sc N js) (I:Inv X pins σ H s)
 (zh:∀ x c,cl.lookup x=some c->X.env.cells.lookup x=some c) (zw:∀ n,(n,RW)∈sc.names->∃ c,cl.lookup n=some c)
 (hf:∀ b∈fp,jc X pins H b) (wX:∀ b∈fp,b<s.heap.objs.size) (Ce:h1.Ns s.heap.objs.size fun x=>List.lookup x ([]:List (Rc×QE)))
 (Cf:∀ b o,s.heap.get? b=some o->h1.get? b=some o) :
 Inv (bO X N sc cl s.heap.objs.size s H fp pins) [] (cσ js σ) H { s with heap:=h1,toks:=t' }:=by
 have hok:(bO X N sc cl s.heap.objs.size s H fp pins).Ok :=
  { mod:=I.ok.mod
    kind:=S.kind
    glob:=I.ok.glob
    blt:=I.ok.blt
    above:=QF _
    inj:=fun x y c a b=>I.ok.inj x y c (zh x c a) (zh y c b)
    has:=fun x h=>zw x (kj S.nocell h)
    cab:=fun x c h=>by cases h
    hd:=I.ok.hd
    frames:=I.ok.frames
    stk:=.inl rfl
    exf:=fun b hb=>⟨fun e=>absurd (wX b hb) (by rw [e];exact RY _),fun x c e z=>(hf b hb).2.2.2.2.1 x c (zh x c e) z⟩
    bs:=I.bs
    bsz:=Sn I.ok.bsz I.sz
    noex:=fun b o e hb=>by
     rcases (hf b hb).2.2.2.1 with h | h
     · exact I.ok.noex b o e h
     · exact absurd (RB (RB (QT e) I.ok.bsz) h) (RY _)
    exfs:=fun b hb hm=>by
     rcases QZ.mp (I.stkSub b hm) with e | e
     · exact (hf b hb).2.1 e
     · exact (hf b hb).2.2.1 e
    funs:=I.stack
    frf:=I.stkFree }
 have hC:H s.heap.objs.size=none:=I.hok.fresh (QF _);obtain ⟨m0,Pz,An⟩:=I.loc
 exact
  { ok:=hok
    os:=rfl
    bare:=I.bare
    base:=Un.kept Cf
    loc:=⟨_,Ce,fun i x v e1 e2 K4=>by
     have yv:∃ j,js[i]?=some (some j)/\σ[j]?=some (some v):=by
      unfold cσ at e2;rw [QO] at e2;cases q:js[i]? with
      | none=>rw [q] at e2;cases e2
      | some o =>
        rw [q] at e2;cases o with
        | none=>cases e2
        | some j =>
          refine ⟨j,rfl,?_⟩;have e3:(σ[j]?).join=some v:=Q8 e2;cases r:σ[j]? with
          | none=>rw [r] at e3;cases e3
          | some z=>rw [r] at e3;exact congrArg some e3
     obtain ⟨j,q1,q2⟩:=yv;obtain ⟨n1,n2,n3⟩:=S.slots i j x q1 e1;obtain ⟨u,ru,look⟩:=An j x v n1 q2 (by rcases n3 with z | z;exact .inr (.inl z);exact .inr (.inr z));refine ⟨u,ru,.inr ⟨im n2,?_⟩⟩;have hm:(x,RW)∈sc.names:=kj (env:=X.env) S.nocell (im n2);obtain ⟨c,hc⟩:=zw x hm;refine ⟨c,hc,?_⟩;rcases look with ⟨k1,_⟩ | ⟨_,c',xV,ic⟩
     · rcases n3 with z | z <;> (rw [k1] at z;cases z)
     · have:=zh x c hc;rw [xV] at this;cases this;exact ic.keeps Cf⟩
    cell:=fun x c e=>by
     obtain ⟨v,q⟩:=I.cell x c (zh x c e);exact ⟨v,q.keeps Cf⟩
    free:=hC
    freeC:=fun x c e=>I.freeC x c (zh x c e)
    pin:=fun p hp=>by
     have yc:p∈X.pn++pins:=by simpa [bO] using hp
     obtain ⟨a1,a2,a3,a4,a5⟩:=I.pin p yc;refine ⟨Cf _ _ a1,a2,fun e=>?_,fun hm=>?_,a5⟩
     · have e':p.1=s.heap.objs.size:=e;exact absurd (QT a1) (by rw [e'];exact RY _)
     · rcases QZ.mp (I.stkSub p.1 hm) with e | e
       · exact a3 e
       · exact a4 e
    hok:=I.hok.kept Cf
    len:=by
     show (cσ js σ).length=N.length;unfold cσ;rw [QA];exact S.len }
theorem qm {prog:QR} {w:Q3} {A:Rr} {R:Result->QJ->Prop} {elt target iter:RO} {ifs:List RO} {scope:UR} {pos:US} {it acc:QE} {env:Env} (J:Nat->QJ->Prop)
 (turn:∀ n s,J n s->QU (Ra prog w) A (TJ it) (fun r wI=>(r=none/\R (.ok .next) wI)∨∃ v,r=some v ∧
  QU (Ra prog w) A (V5 target it v) (fun _ xo=>QU (Ra prog w) A (assign target env v) (fun _ yD =>
   QU (Ra prog w) A (forIn ifs true fun c r=>if r=true then do let ok ← isTrue c env (S4 c env);pure (Tt ok) else pure (Tt r)) (fun ok AK =>
    (ok=false/\∃ m,m<n/\J m AK)∨(ok=true/\QU (Ra prog w) A (S4 elt env) (fun x EF=>QU (Ra prog w) A (call (.builtin "list.append") [acc,x]) (fun _ EG=>∃ m,m<n/\J m EG) (fun _ _=>False) EF) (fun _ _=>False) AK))
    (fun _ _=>False) yD) (fun _ _=>False) xo) (fun _ _=>False) wI) (fun _ _=>False) s)
 {s:QJ} (n:Nat) (h:J n s):UZ (Ra prog w) A (.compLoop (.ListComp elt [⟨target,iter,ifs,0⟩] scope pos) 0 it acc env) R s:=by
 refine codeAny_loop rfl J (fun n s hJ=>?_) n h;show QU _ A ((compTurn (.ListComp elt [⟨target,iter,ifs,0⟩] scope pos) 0 it acc env).onRaise _) _ _ s;refine wpAny_noted ?_;rw [compTurn_list];have up:∀ {α:Type} {m:Sem α} {Q:α->QJ->Prop} {E:QE->QJ->Prop} {s:QJ},QU (Ra prog w) A m Q (fun _ _=>False) s->QU (Ra prog w) A m Q E s:=fun q=>SH q (fun _ _ z=>z) fun _ _ z=>z.elim;refine Qz (wpAny_standAt (Qz (SH (up (turn n s hJ)) (fun r wI wW=>?_) fun _ _ z=>z)));rcases wW with ⟨rfl,wW⟩ | ⟨v,rfl,wW⟩
 · exact QI wW
 · refine Qz (SH (up wW) (fun _ xo xE=>?_) fun _ _ z=>z);refine Qz (SH (up xE) (fun _ yD yV=>?_) fun _ _ z=>z);refine Qz (SH (up yV) (fun ok AK xp=>?_) fun _ _ z=>z);rcases xp with ⟨rfl,xp⟩ | ⟨rfl,xp⟩
   · exact QI ⟨rfl,xp⟩
   · exact Qz (Qz (SH (up xp) (fun x EF xq=>Qz (SH (up xq) (fun _ EG HZ=>QI (QI ⟨rfl,HZ⟩)) fun _ _ z=>z)) fun _ _ z=>z))
theorem kx {elt tg iter:RO} {ifs:List RO} {sc:UR} {pos:US} {N:List Rc} {js:List (Option Nat)} {g:TG} {tt:TT} {te:TE} {cl:List (Rc×QD)} {fp:List QD} {it:QD} {tn:Nat->RS->Prop} {J:It} {n:Nat} {W:Nat->Hp->Prop} {fin:Hp->Prop}
 {R:QE->QD->Result->QJ->Prop} (hc:X.calm=true) (S:dQ X sc N js) (I:Inv X pins σ H s) (T:Turn X.prog X.w X.K tg J fp it tn) (st:tn 0 s.heap) (hf:∀ b∈fp,jc X pins H b)
 (zh:∀ x c,cl.lookup x=some c->X.env.cells.lookup x=some c) (zw:∀ n,(n,RW)∈sc.names->∃ c,cl.lookup n=some c)
 (hg:∀ cl C s H fp pins,PG (bO X N sc cl C s H fp pins) tg g) (gk:k9 js g) (ht:∀ cl C s H fp pins,PTs (bO X N sc cl C s H fp pins) ifs tt) (he:∀ cl C s H fp pins,PE (bO X N sc cl C s H fp pins) elt te)
 (w0:W 0 (upd H s.heap.objs.size (.lst []))) (turn:fV js g tt te σ J s.heap.objs.size n W fin)
 (hR:∀ C H' s',C≠X.env.locals->s.heap.objs.size<C->(∃ m,s'.heap.Ns C m)->H' C=none->(∀ h' t',Ss C s'.heap h'->Inv X pins σ H' { s' with heap:=h',toks:=t' })->fin H'->R (.ref s.heap.objs.size) C (.ok .next) s') {E:QE->QJ->Prop} :
 QU (Ra X.prog X.w) X.A (newList []) (fun acc yD=>QU (Ra X.prog X.w) X.A (newFunctionEnv sc X.env.globals cl [] X.env.qual none .none (some X.env)) (fun EH AK =>
  UZ (Ra X.prog X.w) X.A (.compStart (.ListComp elt [⟨tg,iter,ifs,0⟩] sc pos) 0 (.ref it) acc { EH with scope:=relabel sc X.env }) (R acc EH.locals) AK) E yD) E s:=by
 refine RK (wpAny_newFunctionEnv S.nocell (by intro y hy;simp at hy) (fun wW zx zy=>?_) S.kind);dsimp only at zx zy ⊢;have I3:Inv X pins σ (upd H s.heap.objs.size (.lst [])) { s with heap:=s.heap.push { cls:=.type "list",dict:=none,data:=.seq ([]:List QE).toArray } }:=I.lnew (t':=s.toks) (its:=[]) .nil (by decide)
 have wX:∀ b∈fp,b<s.heap.objs.size:=fun b hb=>by
  obtain ⟨o,ho,_⟩:=T.obj _ _ st b hb;exact QT ho
 have Cg:∀ b o,s.heap.get? b=some o->(s.heap.push { cls:=.type "list",dict:=none,data:=.seq ([]:List QE).toArray }).get? b=some o:=fun b o e=>QG _ e;have hsz:(s.heap.push { cls:=.type "list",dict:=none,data:=.seq ([]:List QE).toArray }).objs.size=s.heap.objs.size+1:=RR ..;generalize Lc:({ s with heap:=s.heap.push { cls:=.type "list",dict:=none,data:=.seq ([]:List QE).toArray } }:QJ)=s3 at I3;have EI:s.heap.push { cls:=.type "list",dict:=none,data:=.seq ([]:List QE).toArray }=s3.heap:=by rw [<- Lc]
 rw [EI] at zx zy Cg hsz;rw [EI];have Ia:∀ t',({ s with heap:=wW,toks:=t' }:QJ)={ s3 with heap:=wW,toks:=t' }:=fun t'=>by rw [<- Lc]
 rw [Ia];have Cf:∀ b o,s3.heap.get? b=some o->wW.get? b=some o:=fun b o e=>zy.extBut b o (Rh (QT e)) (QG _ e);have Ib:∀ b∈fp,jc X pins (upd H s.heap.objs.size (.lst [])) b:=fun b hb=>⟨by rw [ai (Rh (wX b hb))];exact (hf b hb).1,(hf b hb).2⟩;have I4:=rL (t':=s.toks+([]:List (Rc×QE)).length) S I3 zh zw Ib (fun b hb=>by rw [hsz];exact UK (wX b hb)) zx Cf;generalize PB:upd H s.heap.objs.size (.lst [])=H3 at I3 I4 Ib w0;have xO:tn 0 wW:=T.keep _ _ _ st fun b hb o e=>Cf _ _ (Cg _ _ e)
 have zr:∀ {H':Hp},(∀ b∈fp,H' b=none)->∀ b∈fp,jc (bO X N sc cl s3.heap.objs.size s3 H3 fp pins) [] H' b:=fun {H'} hn b hb=>by
  obtain ⟨f0,f1,f2,f3,f4,f5⟩:=hf b hb;refine ⟨hn b hb,fun e=>?_,fun hm=>?_,.inl hb,fun x c e=>f4 x c (zh x c e),fun p hp=>f5 p (by simpa [bO] using hp)⟩
  · have e':b=s3.heap.objs.size:=e;have h9:b<s.heap.objs.size:=wX b hb;rw [e',hsz] at h9;exact absurd h9 (Va.mpr (Nat.le_succ _))
  · rcases QZ.mp (I.stkSub b hm) with e | e
    · exact f1 e
    · exact f2 e
 have loop:UZ (Ra X.prog X.w) X.A (.compLoop (.ListComp elt [⟨tg,iter,ifs,0⟩] sc pos) 0 (.ref it) (.ref s.heap.objs.size) (compEnvC sc cl s3.heap.objs.size X.env)) (R (.ref s.heap.objs.size) s3.heap.objs.size)
  { s3 with heap:=wW,toks:=s.toks+([]:List (Rc×QE)).length }:=by
  refine qm (fun k s'=>∃ i H',Inv (bO X N sc cl s3.heap.objs.size s3 H3 fp pins) [] (cσ js σ) H' s'/\tn i s'.heap/\(∀ b∈fp,H' b=none)/\W i H'/\k=n - i) ?_ n ⟨0,H3,I4,xO,fun b hb=>(Ib b hb).1,w0,rfl⟩;rintro k s5 ⟨i,H5,I5,DY,GO,w5,rfl⟩;rcases turn i H5 w5 with ⟨stop,qn⟩ | ⟨Bs,go,step⟩
  · refine thn (T.done (bO X N sc cl s3.heap.objs.size s3 H3 fp pins) rfl rfl rfl hc i [] s5 (cσ js σ) H5 _ I5 (zr GO) DY stop) fun r s6 ⟨hr,I6⟩=>.inl ⟨hr,?_⟩;have I7:Inv X pins σ H5 s6:=I3.call' (ch:=fp) (I6.os.trans rfl) I6.base I6.hok I6.bare fun b hb=>⟨(hf b hb).2.2.2.1,(hf b hb).2.1,(hf b hb).2.2.2.2.1,(hf b hb).2.2.2.2.2⟩;have Ld:H5 s3.heap.objs.size=none:=I6.free;have Le:s3.heap.objs.size≠X.env.locals:=Ug I3.lt;obtain ⟨m6,MW,_⟩:=I6.loc;refine hR s3.heap.objs.size H5 s6 Le (by omega) ⟨m6,MW⟩ Ld (fun h' t' sb=>?_) qn;refine I7.turned (it:=s3.heap.objs.size) (fun b o hb e=>sb.extBut b o hb e) Ld Le (.inr I3.sz) (fun x c e z=>?_) fun p hp z=>?_
    · obtain ⟨v,q⟩:=I3.cell x c e;exact absurd q.lt (by rw [z];exact RY _)
    · exact absurd (QT (I3.pin p hp).1) (by rw [z];exact RY _)
  · refine thn (T.item (bO X N sc cl s3.heap.objs.size s3 H3 fp pins) rfl rfl rfl hc i [] s5 (cσ js σ) H5 _ I5 (zr GO) DY go) fun r s6 ⟨u,hr,h6⟩=>.inr ⟨u,hr,?_⟩;refine thn h6 fun _ s7 ⟨x,H7,I7,r7,y7,Ic,MX⟩=>?_;have MY:=I7.pinned (zr MX) (T.obj _ _ Ic);refine thn (hg cl s3.heap.objs.size s3 H3 fp pins _ s7 (cσ js σ) H7 x u _ MY r7 (gk σ (cσ js σ) x H7 _ (.refl _) (step x H7 y7))) fun _ s8 ⟨Ie,H8,I8,k8,q8⟩=>?_;refine thn (ht cl s3.heap.objs.size s3 H3 fp pins _ s8 Ie H8 _ I8 q8) fun ok s9 ⟨H9,I9,q9⟩=>?_
    have again:∀ {s':QJ} {wH:St} {H':Hp},Keep (cσ js σ) wH->Inv (bO X N sc cl s3.heap.objs.size s3 H3 fp pins) ([]++jq fp s7.heap) wH H' s'->W (i+1) H'->∃ m,m<n - i/\∃ i H',Inv (bO X N sc cl s3.heap.objs.size s3 H3 fp pins) [] (cσ js σ) H' s'/\tn i s'.heap/\(∀ b∈fp,H' b=none)/\W i H'/\m=n - i:=fun {s' wH H'} kp I' w'=>by
     refine ⟨n - (i+1),by omega,i+1,H',(I'.unpinned).weak kp.1 kp.2,T.keep _ _ _ Ic fun b hb o e=>(I'.pin (b,o) (Rt _ (Rt _ (eN hb e)))).1,fun b hb=>?_,w',rfl⟩;obtain ⟨o,e,d⟩:=T.obj _ _ Ic b hb;exact (I'.pin (b,o) (Rt _ (Rt _ (eN hb e)))).2.1
    cases ok with
    | false =>
      refine .inl ⟨rfl,again k8 I9 ?_⟩;have Lf:if false=true then _ else W (i+1) H9:=q9
      rw [if_neg Q0] at Lf;exact Lf
    | true =>
      refine .inr ⟨rfl,?_⟩;rw [if_pos rfl] at q9;refine thn (he cl s3.heap.objs.size s3 H3 fp pins _ s9 Ie H9 _ I9 q9) fun vv xu ⟨v,xC,MZ,rv,ys,hD,EJ,M0⟩=>?_;refine thn (aJ _ xu Ie xC (.ref s.heap.objs.size) [v] (.ref s.heap.objs.size) [vv] (fun _ H'=>W (i+1) H') MZ rfl (.cons rv .nil) ⟨_,ys,v,rfl,rfl,hD,EJ,M0⟩) fun _ yd ⟨_,xX,M1,_,M3⟩=>?_;exact again k8 M1 M3
 exact codeAny_compStart_list loop (T.self X.A 0 _ _ _ xO loop)
theorem cA {elt tg iter:RO} {ifs:List RO} {sc:UR} {pos:US} {N:List Rc} {js:List (Option Nat)} {wi:TI} {g:TG} {tt:TT} {te:TE} (hc:X.calm=true) (S:dQ X sc N js) (hi:PI X tg iter wi)
 (hg:∀ cl C s H fp pins,PG (bO X N sc cl C s H fp pins) tg g) (gk:k9 js g) (ht:∀ cl C s H fp pins,PTs (bO X N sc cl C s H fp pins) ifs tt) (he:∀ cl C s H fp pins,PE (bO X N sc cl C s H fp pins) elt te)
 (hs:∀ x,foldedSetIterable iter X.env x=pure x:=by intro _;rfl):PE X (.ListComp elt [⟨tg,iter,ifs,0⟩] sc pos) (ug js wi g tt te):=by
 intro pins s σ H Q I h;obtain ⟨cl,e1,e2,e3⟩:=j8 (env:=X.env) (sc:=sc) fun n hn=>I.ok.has n (S.frees _ hn rfl);rw [eval_ListComp];refine wpAny_comprehension_free (use:=none) rfl hs e1 S.kind S.names (thn (hi pins s σ H _ I h) fun v s1 h1=>thn h1 fun GN s2 h2=>?_);obtain ⟨it,fp,tn,J,H2,rfl,I2,T,zq,f2,R2⟩:=h2;obtain ⟨n,W,w0,turn⟩:=R2 s2.heap.objs.size I2.fresh;refine kx (R:=fun acc C=>compPost (Ra X.prog X.w) X.A X.xe none (EP X pins σ Q) acc C) hc S I2 T zq f2 e2 e3 hg gk ht he w0 turn fun C H' s' _ _ hn _ inv fi=>?_;obtain ⟨m,hm⟩:=hn;exact ⟨m,hm,fun h' sb=>⟨.ref s2.heap.objs.size,H',inv h' s'.toks sb,rfl,fi⟩⟩
theorem fN {i:Nat} {y:Rc} {elt tg iter:RO} {ifs:List RO} {sc:UR} {pos EK py:US} {N:List Rc} {js:List (Option Nat)} {wi:TI} {g:TG} {tt:TT} {te:TE} (hN:X.N.Nodup) (hy:X.N[i]?=some y) (M4:Loc X.env.scope y) (hc:X.calm=true) (S:dQ X sc N js) (hi:PI X tg iter wi)
 (hg:∀ cl C s H fp pins,PG (bO X N sc cl C s H fp pins) tg g) (gk:k9 js g) (ht:∀ cl C s H fp pins,PTs (bO X N sc cl C s H fp pins) ifs tt) (he:∀ cl C s H fp pins,PE (bO X N sc cl C s H fp pins) elt te)
 (M5:swapsWith (.ListComp elt [⟨tg,iter,ifs,0⟩] sc pos) (some (.Name y py)) EK.line X.env=pure true:=by rfl)
 (hs:∀ x,foldedSetIterable iter X.env x=pure x:=by intro _;rfl) (hf:X.fn y=true∨X.env.scope.names.lookup y=some .local:=by first | exact .inl rfl | exact .inr rfl | assumption) :
 PS X (.Assign [.Name y py] (.ListComp elt [⟨tg,iter,ifs,0⟩] sc pos) EK) (vc (ug js wi g tt te) (aI i)):=by
 intro pins s σ H D I h;obtain ⟨cl,e1,e2,e3⟩:=j8 (env:=X.env) (sc:=sc) fun n hn=>I.ok.has n (S.frees _ hn rfl);rw [exec_Assign_Name_used _ _ _ _ M5];refine Qz (wpAny_standAt (Qz ?_));show QU _ X.A (do let _ ← comprehension (.ListComp elt [⟨tg,iter,ifs,0⟩] sc pos) sc X.env _ (newList []) false (S4 iter X.env) (some (assign (.Name y py) X.env))) _ _ s;refine Qz (SH (wpAny_comprehension_free (use:=some (assign (.Name y py) X.env)) (Q:=fun _ s'=>SP X pins D .next s') rfl hs e1 S.kind S.names (thn (hi pins s σ H _ I h) fun v s1 h1=>thn h1 fun GN s2 h2=>?_)) (fun _ s' hq=>QI (QI hq)) fun _ _ z=>z);obtain ⟨it,fp,tn,J,H2,rfl,I2,T,zq,f2,R2⟩:=h2;obtain ⟨n,W,w0,turn⟩:=R2 s2.heap.objs.size I2.fresh;refine kx (R:=fun acc C=>compPost (Ra X.prog X.w) X.A X.xe (some (assign (.Name y py) X.env)) (fun _ s'=>SP X pins D .next s') acc C) hc S I2 T zq f2 e2 e3 hg gk ht he w0 turn fun C H' s' Lg hC hn M6 inv fi=>?_;obtain ⟨m,hm⟩:=hn
 have I5:Inv X pins σ H' s':=by
  have q:=inv s'.heap s'.toks (.refl ..);exact q
 refine wpAny_assign_Name (ld (v:=.ref s2.heap.objs.size) I5 hN hy M4 rfl (fun s6 I6 ⟨a,sb,ha⟩=>?_) hf)
 have M7:C≠a:=by
  rcases ha with ha | ha
  · rw [ha];exact Lg
  · intro z;obtain ⟨v,q⟩:=I2.cell y a ha;exact absurd (Uh q.lt hC) (by rw [z];exact RY _)
 refine ⟨m,hm.sameBut sb M7,fun h' M8=>⟨_,H',I6.turned (it:=C) (t':=s6.toks) (fun b o hb e=>M8.extBut b o hb e) M6 Lg (.inr (Sn I2.sz (Ui hC))) (fun x c e z=>?_) fun p hp z=>?_,fi⟩⟩
 · obtain ⟨v,q⟩:=I2.cell x c e;exact absurd (Uh q.lt hC) (by rw [z];exact RY _)
 · exact absurd (Uh (QT (I2.pin p hp).1) hC) (by rw [z];exact RY _)
end
end L2
namespace L2
open PySem PySem.Spec PyProof.Rows
def jh {α:Type} (xs:List α) (lo hi:Option Int):List α:=(xs.drop (HT.sIx xs.length 0 lo)).take (HT.sIx xs.length xs.length hi - HT.sIx xs.length 0 lo)
def dr (z:Rc) (lo hi:Option Int):Rc:=⟨(jh z.cps.toList lo hi).toArray⟩
theorem rp {α:Type} (xs:List α) (a n:Nat):((Rl n).map fun (k:Nat)=>a+k).filterMap (xs[·]?)=(xs.drop a).take n:=by
 induction n with
 | zero=>simp
 | succ n ih =>
   rw [List.range_succ,QS,List.filterMap_append,ih,RX];congr 1;rw [List.getElem?_drop];cases h:xs[a+n]? <;> simp [h]
theorem qN (n d:Nat) (i:Int):max 0 (min (if i<0 then i+(n:Int) else i) (n:Int))=((HT.sIx n d (some i):Nat):Int):=by
 show max 0 (min (if i<0 then i+(n:Int) else i) (n:Int))=(((if i<0 then (i+(n:Int)).toNat else min i.toNat n):Nat):Int);by_cases h:i<0
 · rw [if_pos h,if_pos h];omega
 · rw [if_neg h,if_neg h];omega
theorem rV (A B:Int) (a b:Nat) (hA:A=(a:Int)) (hB:B=(b:Int)):sliceRange A B 1=(Rl (b - a)).map fun (k:Nat)=>a+k:=by
 subst hA;subst hB;unfold sliceRange;simp only [show (1:Int) > 0 by decide,if_true]
 have c:(if (a:Int)<(b:Int) then ((b:Int) - a+1 - 1) / 1 else 0).toNat=b - a:=by
  split
  · rw [Ws];omega
  · omega
 rw [c];refine Ul fun k _=>?_;omega
theorem pP (lo hi:Option Int) (n:Nat):Vr lo hi 1 n=(Rl (HT.sIx n n hi - HT.sIx n 0 lo)).map fun (k:Nat)=>HT.sIx n 0 lo+k:=by
 unfold Vr;simp only [show (1:Int) > 0 by decide,if_true];cases lo <;> cases hi <;> refine rV _ _ _ _ ?_ ?_ <;> first | rfl | exact qN _ _ _
theorem mR (z:Rc) (lo hi:Option Int):(dr z lo hi).length<=z.length:=by
 show (jh z.cps.toList lo hi).toArray.size<=z.cps.size;unfold jh;rw [QN,Ro,R7,Rj];omega
theorem kR (x:Rc) (t:Tok) (l u:Option (Int×Tok)) {Q:QE->QJ->Prop} {s:QJ} (hz:x.length<=QW) (h:∀ t' k,Q (.str (dr x (l.map (·.1)) (u.map (·.1))) t') { s with toks:=k }):(sliceMade x t l u none).post Q s:=by
 have e:(Wh x l u none).filterMap (x.cps[·]?)=jh x.cps.toList (l.map (·.1)) (u.map (·.1)):=by
  unfold Wh jh;show (Vr (l.map (·.1)) (u.map (·.1)) 1 x.length).filterMap (x.cps[·]?)=_;rw [pP,show (x.cps[·]?)=(x.cps.toList[·]?) from funext fun i=>(T2 ..).symm,rp,Rj];rfl
 unfold sliceMade;split
 · rename_i hc
   have hl:(Wh x l u none).length=x.length:=by
    have:=(Sy _ _ ▸ hc).2;simpa using this
   have hw:dr x (l.map (·.1)) (u.map (·.1))=x:=by
    have e2:(jh x.cps.toList (l.map (·.1)) (u.map (·.1)))=x.cps.toList:=by
     have hp:Wh x l u none=(Rl (HT.sIx x.length x.length (u.map (·.1)) - HT.sIx x.length 0 (l.map (·.1)))).map fun (k:Nat)=>HT.sIx x.length 0 (l.map (·.1))+k:=pP _ _ _;rw [hp,QA,Rm] at hl;have b1:=HT.sIx_le x.length x.length (QF _) (u.map (·.1));have hx:x.cps.toList.length=x.length:=Rj;unfold jh;rw [hx,hl];have CV:HT.sIx x.length 0 (l.map (·.1))=0∨x.length=0:=by omega
     rcases CV with h0 | h0
     · rw [h0,Te,Sd (by rw [hx];exact QF _)]
     · have:x.cps.toList=[]:=Sj.mp (by rw [hx];exact h0);rw [this];simp
    unfold dr;rw [e2]
   have:=h t s.toks;rw [hw] at this;exact this
 · show (⟨((Wh x l u none).filterMap (x.cps[·]?)).toArray⟩:Rc).length<=QW/\Q _ _;rw [e];exact ⟨Sn (mR x _ _) hz,h s.toks (s.toks+1)⟩
section
variable {X:Cx}
inductive ub (x:V) (lo:Option Int) (hi:Option Int) (H:Hp) (Q:VK):Prop
 | mk (z:_) (wZ:x=.str z) (w4:z.length<=QW) (w8:Q (.str (dr z lo hi)) H):ub  x lo hi H Q
def wD:V->Option Int->Option Int->Hp->VK->Prop:=ub
theorem part_of {v:QE} {o:Option Int} (h:V2 v o):∃ l:Option (Int×Tok),v=partValue l/\l.map (·.1)=o:=by
 cases h with
 | none=>exact ⟨none,rfl,rfl⟩
 | int i t=>exact ⟨some (i,t),rfl,rfl⟩
theorem o7:SlR X wD:=by
 intro pins s σ H x v vl vu lo hi sl Q I rx hs pl pu h;obtain ⟨z,rfl,hz,q⟩:=h;obtain ⟨t,rfl⟩:=rx;obtain ⟨l,rfl,rfl⟩:=part_of pl;obtain ⟨u,rfl,rfl⟩:=part_of pu;refine ⟨"str",_,F.slot_str_getitem.lookup,typeIs_str s z t,wpAny_getItem_str_slice (l:=l) (u:=u) (st:=none) ?_ rfl (kR z t l u hz fun t' k=>?_)⟩
 · obtain ⟨o,ho,hc,hd⟩:=hs;exact ⟨o,ho,hc,hd⟩
 · exact ⟨.str (dr z (l.map (·.1)) (u.map (·.1))),H,I.tok k,⟨_,rfl⟩,q⟩
theorem rK {T:String} {b:Bool} {t:QE}:f7 X (.builtin "isinstance") (fun xs H Q=>∃ x,xs=[x,.ty T]/\gU X.K H x t/\T8 X.K t (.type T)=some b/\Q (.bl b) H):=by
 intro pins s σ H xs us Q I r h;obtain ⟨x,rfl,ty,k,q⟩:=h;obtain ⟨u,w',rfl,r1,r2⟩:=vals2 r;cases r2;exact qV I r1 ty k fun tk=>⟨.bl b,H,I.tok tk,rfl,q⟩
end
end L2
namespace PySem
namespace F
theorem bb_owner_rev:Manifest.owners.lookup (String.ofList ['d','e','s','r','e','v','e','r'].reverse)=some Manifest.sig_reversed:=by kernel_rfl
theorem bb_slot_rev_next:Slot "reversed" "__next__" "reversed.__next__" :=
 .of (owner:="reversed") (n:="__next__") (by rw [Sz,RV];kernel_rfl) (by decide +kernel) (by decide +kernel) (by decide +kernel)
  (by first | exact .inl (by decide +kernel) | exact .inr (by decide +kernel)) (by rw [TQ];kernel_rfl)
theorem bb_entry_rev_next:entryFor table "reversed.__next__"=some Tj.«reversed.__next__»:=entryFor_of_tree (by kernel_rfl)
theorem bb_args_rev_next (a:QE):argsOk "reversed.__next__" ⟨[a],[]⟩:=by
 unfold argsOk;rw [signature?_of (id:="reversed.__next__") (n:=['_','_','t','x','e','n','_','_']) (o:=['d','e','s','r','e','v','e','r']) (by kernel_rfl) bb_owner_rev];kernel_rfl
theorem bb_slot_rev_iter:Slot "reversed" "__iter__" "reversed.__iter__" :=
 .of (owner:="reversed") (n:="__iter__") (by rw [Sz,RV];kernel_rfl) (by decide +kernel) (by decide +kernel) (by decide +kernel)
  (by first | exact .inl (by decide +kernel) | exact .inr (by decide +kernel)) (by rw [TQ];kernel_rfl)
theorem bb_args_rev_iter (a:QE):argsOk "reversed.__iter__" ⟨[a],[]⟩:=by
 unfold argsOk;rw [signature?_of (id:="reversed.__iter__") (n:=['_','_','r','e','t','i','_','_']) (o:=['d','e','s','r','e','v','e','r']) (by kernel_rfl) bb_owner_rev];kernel_rfl
theorem bb_entry_rev_iter:entryFor table "reversed.__iter__"=some Tj.«dict_keyiterator.__iter__» :=
 entryFor_alias (id':="dict_keyiterator.__iter__") (by kernel_rfl) (by first | rfl | decide +kernel | (unfold String.splitOn;simp +decide [String.splitOnAux])) (by decide +kernel) (by kernel_rfl)
theorem bb_slot_rev_hint:Slot "reversed" "__length_hint__" "reversed.__length_hint__" :=
 .of (owner:="reversed") (n:="__length_hint__") (by rw [Sz,RV];kernel_rfl) (by decide +kernel) (by decide +kernel) (by decide +kernel)
  (by first | exact .inl (by decide +kernel) | exact .inr (by decide +kernel)) (by rw [TQ];kernel_rfl)
theorem bb_entry_rev_hint:entryFor table "reversed.__length_hint__"=some Tj.«reversed.__length_hint__»:=entryFor_of_tree (by kernel_rfl)
theorem bb_args_rev_hint (a:QE):argsOk "reversed.__length_hint__" ⟨[a],[]⟩:=by
 unfold argsOk;rw [signature?_of (id:="reversed.__length_hint__") (n:=['_','_','t','n','i','h','_','h','t','g','n','e','l','_','_']) (o:=['d','e','s','r','e','v','e','r']) (by kernel_rfl) bb_owner_rev];kernel_rfl
theorem bb_nolen_rev:Uq (.type "reversed") "__len__"=pure none:=by rw [Sz,RV];kernel_rfl
theorem bb_nolen_lri:Uq (.type "list_reverseiterator") "__len__"=pure none:=by rw [Sz,RV];kernel_rfl
theorem bb_hint_lri:Uq (.type "list_reverseiterator") "__length_hint__"=pure (some (.builtin "list_reverseiterator.__length_hint__")):=by rw [Sz,RV];kernel_rfl
theorem bb_tuple_norev:Uq (.type "tuple") "__reversed__"=pure none:=by rw [Sz,RV];kernel_rfl
theorem bb_sub_rev_rev:isSubtype (.type "reversed") (.type "reversed")=pure true:=by rw [TQ];kernel_rfl
theorem bb_sub_tuple_dict:isSubtype (.type "tuple") (.type "dict")=pure false:=by rw [TQ];kernel_rfl
end F
end PySem
namespace PySem
open Sem (wp)
section
variable {prog:QR} {w:Q3} {A:Rr} {E:QE->QJ->Prop} {s:QJ}
theorem bb_slot_rev_init:Slot "reversed" "__init__" "object.__init__" :=
 .of (owner:="object") (n:="__init__") (by rw [Sz,RV];kernel_rfl) (by decide +kernel) (by decide +kernel) (by decide +kernel)
  (by first | exact .inl (by decide +kernel) | exact .inr (by decide +kernel)) (by rw [TQ];kernel_rfl)
theorem bb_called_rev:TypeCalled "reversed" "reversed.__new__" "object.__init__" :=
 ⟨by decide +kernel,by decide +kernel,⟨_,_,F.mro_reversed⟩,F.made_reversed,by decide +kernel,F.bb_sub_rev_rev,bb_slot_rev_init⟩
def revTup (t:QD) (i:Int):SQ:={ cls:=.type "reversed",data:=.fields #[.ref t,S3 i] }
theorem bb_meets_rev_tuple (t:QD) (items:Array QE) (hz:(items.size:Int)<2 ^ 63) :
 Meets (Tj.«reversed.__new__» ⟨[.type "reversed",.ref t],[]⟩) (fun _ R s=>TM s.heap t items/\∀ tk,R (.ok (.ret (.ref s.heap.objs.size))) { s with heap:=s.heap.push (revTup t ((items.size:Int) - 1)),toks:=tk }):=by
 refine .of_wp fun prog w A R s h=>?_;obtain ⟨ht,h⟩:=h;unfold Tj.«reversed.__new__»;refine Qz (T4 (newClass_reversed _) ?_)
 try dsimp only
 refine Qz (T4 (a:=()) (by first | rfl | kernel_rfl) ?_);refine Qz (T4 (a:=()) (by first | rfl | kernel_rfl) ?_)
 try dsimp only
 refine Qz (Sa ht.typeIs F.bb_tuple_norev ?_)
 try dsimp only
 have PD:=F.bb_sub_tuple_dict;have PF:=Rq.lookup;have hT:s.TypeIs (.ref t) "tuple":=ht.typeIs
 wp_walk using PyProof.Rows.len_tuple ht hz,Tf hT
 exact ⟨_,rfl,h _⟩
theorem bb_call_rev_tuple {t:QD} {items:Array QE} {Q:QE->QJ->Prop} (ht:TM s.heap t items) (hz:(items.size:Int)<2 ^ 63)
 (h:∀ tk,Q (.ref s.heap.objs.size) { s with heap:=s.heap.push (revTup t ((items.size:Int) - 1)),toks:=tk }):QU (Ra prog w) A (call (.type "reversed") [.ref t]) Q E s :=
 callType_new bb_called_rev (by decide) (F.typeCall_reversed_1 _) (F.newCall_reversed_1 _) (fun obj=>F.args_object_init_2 obj _) F.entry_reversed_new (bb_meets_rev_tuple t items hz)
  ⟨ht,fun tk=>⟨⟨_,QQ _ rfl,rfl⟩,h tk⟩⟩
def IsRevT (h:RS) (a t:QD) (i:Int):Prop:=∃ o,h.get? a=some o/\o.cls=.type "reversed"/\o.data=.fields #[.ref t,S3 i]
theorem IsRevT.typeIs {a t:QD} {i:Int} (x:IsRevT s.heap a t i):s.TypeIs (.ref a) "reversed":=let ⟨o,ho,hc,_⟩:=x;⟨o,ho,hc⟩
theorem IsRevT.at {h h':RS} {a t:QD} {i:Int} (x:IsRevT h a t i) (e:∀ o,h.get? a=some o->h'.get? a=some o):IsRevT h' a t i:=let ⟨o,ho,r⟩:=x;⟨o,e _ ho,r⟩
theorem bb_rev_iter {it t:QD} {i:Int} {Q:QE->QJ->Prop} (hit:IsRevT s.heap it t i) (h:Q (.ref it) s):QU (Ra prog w) A (pyIter (.ref it)) Q E s:=by
 refine wpAny_pyIter_slot hit.typeIs F.bb_slot_rev_iter (RL F.bb_slot_rev_iter hit.typeIs F.bb_entry_rev_iter ?_ (F.bb_args_rev_iter _));show QU _ _ (ret (.ref it)) _ _ s;exact QI ⟨_,rfl,"reversed",_,hit.typeIs,F.bb_slot_rev_next.lookup,h⟩
theorem bb_rev_next {it t:QD} {i:Nat} {items:Array QE} {x:QE} {Q:Option QE->QJ->Prop} (hit:IsRevT s.heap it t (i:Int)) (ht:TM s.heap t items) (hx:items[i]?=some x) (hz:(items.size:Int)<2 ^ 63)
 (hQ:∀ h' tk,IsRevT h' it t ((i:Int) - 1)->Ss it s.heap h'->Q (some x) { s with heap:=h',toks:=tk }):QU (Ra prog w) A (TJ (.ref it)) Q E s:=by
 obtain ⟨o,ho,hc,hd⟩:=id hit;have hi:i<items.size:=(Vh.mp hx).1;unfold TJ
 refine Qz (TH (RE (name:=QK "__next__") hit.typeIs F.bb_slot_rev_next
  (RL F.bb_slot_rev_next hit.typeIs F.bb_entry_rev_next ?_ (F.bb_args_rev_next _))))
 unfold Tj.«reversed.__next__»;refine Qz (T4 (a:=(Q9 it,[])) rfl ?_)
 try dsimp only
 refine Qz (Rx ho hd (x:=.ref t) rfl ?_);refine Qz (Rx ho hd (x:=S3 (i:Int)) rfl ?_);show QU _ _ (if (i:Int)<0 then _ else _) _ _ s;rw [if_neg (by omega)];refine Qz (Sa ht.typeIs Rq.lookup ?_)
 try dsimp only
 rw [if_neg (by decide)];refine Qz (m:=mkInt (i:Int)) (wpAny_mkInt ?_);refine Qz (TH (PyProof.Rows.getItem_tuple (j:=i) (x:=x) ht (by omega) (by omega) ?_ hx ?_))
 · refine (L2.lK (n:=items.size) (i:=(i:Int)) (j:=i) ?_).1;unfold L2.ixN;rw [if_pos (by omega),if_pos (by omega)];simp
 · try dsimp only
   refine Qz (Rx ho hd (x:=S3 (i:Int)) rfl ?_)
   try dsimp only
   refine Qz (Up ho hd (by simp) ?_);refine QI ⟨x,rfl,QI (hQ _ _ ?_ (SJ ..))⟩;exact ⟨_,Rn _ ho (U7 (SS hd _)),(Obj.cls_mapFields ..).trans hc,by rw [SS hd];simp⟩
theorem bb_rev_end {it t:QD} {Q:Option QE->QJ->Prop} (hh:A.handled=none) (hit:IsRevT s.heap it t (-1))
 (hQ:∀ h' tk,Wt it s.heap h'->Q none { s with heap:=h',toks:=tk }):QU (Ra prog w) A (TJ (.ref it)) Q E s:=by
 obtain ⟨o,ho,hc,hd⟩:=id hit;unfold TJ
 refine Qz (TH (RE (name:=QK "__next__") hit.typeIs F.bb_slot_rev_next
  (RL F.bb_slot_rev_next hit.typeIs F.bb_entry_rev_next ?_ (F.bb_args_rev_next _))))
 unfold Tj.«reversed.__next__»;refine Qz (T4 (a:=(Q9 it,[])) rfl ?_)
 try dsimp only
 refine Qz (Rx ho hd (x:=.ref t) rfl ?_);refine Qz (Rx ho hd (x:=S3 (-1)) rfl ?_);show QU _ _ (if (-1:Int)<0 then _ else _) _ _ s;rw [if_pos (by decide)];refine Qz (Tv ?_);refine Qz ?_
 wp_delta
 refine Qz (Up ho hd (by simp) ?_);have BA:=Rn (Obj.mapFields (·.setIfInBounds 1 (S3 (-1)))) ho (U7 (SS hd _));refine Up BA (SS hd _) (by simp) ?_;refine Qz ?_
 wp_delta
 refine Qz ?_;simp only [newExc,newTuple];refine Qz (RK ?_ (by size_fits));refine Qz (m:=UY _ _) (T4 (a:=R4) (by first | rfl | (simp only [UY];rfl)) ?_);refine RK ?_ (by size_fits);simp only [raiseNew];refine Qz (wpAny_handled ?_)
 first | rw [show A.in1.handled=none from hh] | rw [hh]
 refine Qz (QI (wpAny_throw ?_));refine Qz (Tn (T:="StopIteration") (b:=true) ⟨_,QQ _ rfl,rfl⟩ isSubtype_stop ?_);refine QI (hQ _ _ ?_);refine Heap.ExtBut.push (Heap.ExtBut.push ?_ _) _;intro b o' hb e;rw [Ru _ _ (Sr hb),Ru _ _ (Sr hb)];exact e
theorem bb_walk_revT (hh:A.handled=none) (I t:QD) (xf:t≠I) (items:Array QE) (hz:(items.size:Int)<2 ^ 63) :
 Walks prog w A I [I,t] [I] items.size (fun i v=>items[items.size - 1 - i]?=some v) (fun i h=>i<=items.size/\IsRevT h I t ((items.size:Int) - 1 - (i:Int))/\TM h t items) where
 sub:=fun b hb=>by simp at hb;simp [hb]
 frame:=fun _ _ _ x hk=>⟨x.1,x.2.1.at fun o e=>hk I (by simp) o e,by obtain ⟨o,e,r⟩:=x.2.2;exact ⟨o,hk t (by simp) o e,r⟩⟩
 item:=fun i s Q E hi x hQ=>by
  have e:(items.size:Int) - 1 - (i:Int)=((items.size - 1 - i:Nat):Int):=by omega
  have hit:=x.2.1;rw [e] at hit;have hx:items[items.size - 1 - i]?=some (items[items.size - 1 - i]'(by omega)):=SG (by omega);refine bb_rev_next hit x.2.2 hx hz fun h' tk BD yw=>?_;have e2:((items.size - 1 - i:Nat):Int) - 1=(items.size:Int) - 1 - ((i+1:Nat):Int):=by omega
  rw [e2] at BD;exact hQ _ h' tk hx ⟨hi,BD,by obtain ⟨o,e,r⟩:=x.2.2;exact ⟨o,(yw.2 t xf).trans e,r⟩⟩ fun b o hb eo=>yw.extBut b o (fun h=>hb (by simp [h])) eo
 done:=fun s Q E x hQ=>by
  have e:(items.size:Int) - 1 - (items.size:Int)=-1:=by omega
  have hit:=x.2.1;rw [e] at hit;exact bb_rev_end hh hit fun h' tk M9=>hQ h' tk fun b o hb eo=>M9 b o (fun h=>hb (by simp [h])) eo
 self:=fun _ _ _ _ x hQ=>bb_rev_iter x.2.1 hQ
def HintOk (prog:QR) (w:Q3) (A:Rr) (I:QD) (St:Nat->RS->Prop):Prop :=
 ∀ (s:QJ) (Q:Bool->QJ->Prop) (E:QE->QJ->Prop),St 0 s.heap->(∀ b tk,s.toks<=tk->Q b { s with toks:=tk })->QU (Ra prog w) A (Tg (.ref I)) Q E s
theorem bb_hint_lri {I l:QD} {items:Array QE}:HintOk prog w A I (fun i h=>i<=items.size/\h.IsRevIter I l ((items.size:Int) - 1 - (i:Int))/\h.IsList l items):=by
 intro s Q E st h;unfold Tg;refine Qz (Sa st.2.1.typeIs F.bb_nolen_lri ?_);show QU _ A (specialOf (Q9 I) (QK "__length_hint__") >>= _) _ _ _;refine Qz (Sa st.2.1.typeIs F.bb_hint_lri ?_)
 (generalize hid:("list_reverseiterator.__length_hint__":String)=CW;(fail_if_success (clear hid CW));wp_delta;rw [show splitId CW=some ("list_reverseiterator","__length_hint__") from by subst hid;decide +kernel];subst hid)
 refine Qz (Tn (b:=true) st.2.1.typeIs (by rw [TQ];kernel_rfl) ?_);exact QI (h _ _ (QF _))
theorem bb_len_hint {I t:QD} {items:Array QE} {Q:QE->QJ->Prop} (hit:IsRevT s.heap I t ((items.size:Int) - 1)) (ht:TM s.heap t items) (hz:(items.size:Int)<2 ^ 63)
 (h:∀ u tk,s.toks<=tk->Q (.int (items.size:Int) u) { s with toks:=tk }):QU (Ra prog w) A (call (.builtin "reversed.__length_hint__") [.ref I]) Q E s:=by
 obtain ⟨o,ho,hc,hd⟩:=id hit;refine RL F.bb_slot_rev_hint hit.typeIs F.bb_entry_rev_hint ?_ (F.bb_args_rev_hint _);unfold Tj.«reversed.__length_hint__»;refine Qz (T4 (a:=Q9 I) rfl ?_)
 try dsimp only
 refine Qz (Rx ho hd (x:=.ref t) rfl ?_);rw [if_neg (show ¬ ((Q9 t == R4)=true) from Q0)];refine Qz (PyProof.Rows.len_tuple ht hz ?_);refine Qz (m:=asInt? _) (QI ?_)
 try dsimp only
 refine Qz (Rx ho hd (x:=S3 ((items.size:Int) - 1)) rfl ?_);show QU _ _ (if (items.size:Int)<((items.size:Int) - 1)+1 then _ else _) _ _ _;rw [if_neg (by omega)];have e:((items.size:Int) - 1)+1=(items.size:Int):=by omega
 rw [e];refine Qz (wpAny_mkInt (QI ⟨_,rfl,h _ _ ?_⟩));show s.toks<=s.toks+1+1+1;omega
theorem bb_hint_rev {I t:QD} {items:Array QE} (hz:items.size<=QW):HintOk prog w A I (fun i h=>i<=items.size/\IsRevT h I t ((items.size:Int) - 1 - (i:Int))/\TM h t items):=by
 intro s Q E st h;unfold Tg;refine Qz (Sa st.2.1.typeIs F.bb_nolen_rev ?_);show QU _ A (specialOf (Q9 I) (QK "__length_hint__") >>= _) _ _ _;refine Qz (Sa st.2.1.typeIs F.bb_slot_rev_hint.lookup ?_)
 (generalize hid:("reversed.__length_hint__":String)=CW;(fail_if_success (clear hid CW));wp_delta;rw [show splitId CW=some ("reversed","__length_hint__") from by subst hid;decide +kernel];subst hid)
 refine Qz (Tn (b:=true) st.2.1.typeIs F.bb_sub_rev_rev ?_)
 have Lh:(items.size:Int)<2 ^ 63:=by
  have:=L2.eU;omega
 rw [if_neg (by decide)]
 try dsimp only
 rw [if_neg (by decide +kernel)];refine Qz (Tv ?_);refine Qz (T4 (F.bb_slot_rev_hint.bind _) ?_)
 try dsimp only
 have hit:=st.2.1;rw [show (items.size:Int) - 1 - ((0:Nat):Int)=(items.size:Int) - 1 by omega] at hit;refine Qz (TH (bb_len_hint hit st.2.2 Lh fun u tk yR=>?_));have f1:Builtin.List.listFitsIndex (items.size:Int)=true:=fitsIndex_of (Int.natCast_nonneg _) Lh;have f2:SW (items.size:Int).toNat=false:=L2.jY (Sn (Wq (RH _)) hz);have f3:¬ (items.size:Int)<0:=Int.not_lt.mpr (Int.natCast_nonneg _);generalize (items.size:Int)=k at f1 f2 f3 ⊢;have fin:QU (Ra prog w) A (pure (k != 0):Sem Bool) Q E { s with toks:=tk }:=QI (h _ _ yR);simp only [asInt?,pure_bind,f1,f2,f3,UU,RQ,if_false];exact fin
theorem bb_list_walk {T:String} {I:QD} {fp wr:List QD} {n:Nat} {P:Nat->QE->Prop} {St:Nat->RS->Prop} {Q:QE->QJ->Prop} (W:Walks prog w A.in1.in1 I fp wr n P St)
 (hT:∀ i (s:QJ),St i s.heap->s.TypeIs (.ref I) T) (h2:(S6 T == S6 "list")=false) (h3:(S6 T == S6 "tuple")=false) (hint:HintOk prog w A.in1.in1 I St)
 (xO:St 0 s.heap) (M':∀ b∈fp,b<s.heap.objs.size) (hI:I∈fp) (hn:n<=QW)
 (hQ:∀ h' tk acc c,(∀ b o,b∉wr->s.heap.get? b=some o->h'.get? b=some o)->h'.get? s.heap.objs.size=some { cls:=.type "list",dict:=none,data:=.seq acc c,slots:=#[] }->ItemsOf P acc n->Q (.ref s.heap.objs.size) { s with heap:=h',toks:=tk }) :
 QU (Ra prog w) A (call (.type "list") [.ref I]) Q E s:=by
 have D1:s.heap.objs.size∉fp:=fun hm=>RY _ (M' _ hm)
 refine Wi (Q₁:=fun obj wI=>obj=.ref s.heap.objs.size/\wI={ s with heap:=s.heap.push { cls:=.type "list",data:=.seq #[] } }) F.called_list (F.typeCall_list_1 _) F.entry_list_init
  (code_list_new _ ⟨rfl,rfl⟩) fun obj wI wW=>?_
 obtain ⟨rfl,rfl⟩:=wW;have hS:(s.heap.push { cls:=.type "list",data:=.seq #[] }).get? s.heap.objs.size=some { cls:=.type "list",data:=.seq #[] }:=QQ _ rfl;have Ig:s.heap.objs.size≠I:=fun e=>D1 (e ▸ hI);refine ⟨⟨_,hS,rfl⟩,F.args_list_init_2 _ _,?_⟩;show QU _ A.in1.in1 (do let old ← Ti (.ref s.heap.objs.size);VW (.ref s.heap.objs.size) (fun _=>#[]);letGo old.toList.reverse;SF (.ref s.heap.objs.size) (.ref I) .none) _ _ _;refine Qz ?_;unfold Ti;refine Qz (RZ hS rfl (QI ?_));refine Qz (Sq hS rfl ?_);have xQ:=Rn (RM (fun _=>(#[]:Array QE))) hS rfl;refine Qz (VA ?_);generalize hH:(s.heap.push { cls:=.type "list",data:=.seq #[] }).update s.heap.objs.size (RM (fun _=>(#[]:Array QE)))=H2 at xQ ⊢
 have old:∀ b o,s.heap.get? b=some o->H2.get? b=some o:=fun b o e=>by
  rw [<- hH,Ru _ _ (Sr (Rh (QT e)))];exact QG _ e
 obtain ⟨c2,BE⟩:∃ c,H2.get? s.heap.objs.size=some { cls:=.type "list",data:=.seq #[] c }:=⟨_,xQ⟩;have zq:St 0 H2:=W.frame 0 _ _ xO fun b _ o e=>old b o e;unfold SF;refine Qz (Tf (hT 0 _ zq) ?_);have h1:SX (.ref s.heap.objs.size) (.ref I)=false:=by simp [SX,Ig]
 simp only [h1,h2,h3,V9,RQ,if_false];refine Qz (W.self 0 _ _ _ zq ?_);refine Qz (R1 (hint _ _ _ zq fun b tk _=>?_))
 have key:∀ (h:RS) (c₁ tk:Nat),St 0 h->(∀ b o,b≠s.heap.objs.size->H2.get? b=some o->h.get? b=some o)->h.get? s.heap.objs.size=some { cls:=.type "list",data:=.seq #[] c₁ } →
  UZ (Ra prog w) A.in1 (.builtin "list.extend.loop" ⟨[.ref s.heap.objs.size,.ref I,.none],[]⟩) (wants (fun r xo=>r=.none/\Q (.ref s.heap.objs.size) xo) E) { s with heap:=h,toks:=tk }:=by
  intro h c₁ tk hs hk yW;refine codeAny_extend_loopS W.toS hn _ D1 .none n 0 _ #[] c₁ rfl (Q7 _) hs yW (ItemsOf.nil _) fun s' xF c' hm Ao wR=>?_;rw [Moved.eq_with hm];refine ⟨rfl,hQ s'.heap s'.toks xF c' (fun b o hb e=>hm.heap b o (fun yl=>?_) (hk b o (Rh (QT e)) (old b o e))) Ao wR⟩;rcases QZ.mp yl with e' | yl
  · exact absurd (QT e) (by rw [e'];exact RY _)
  · exact hb yl
 refine V3 (fun _=>?_) (fun _=>QI ⟨TL R9 _,key _ c2 _ zq (fun b o _ e=>e) BE⟩);refine Qz (Tv ?_);refine Qz ?_;show QU _ _ (Vs s.heap.objs.size (·.push .none) >>= fun _=>Vs s.heap.objs.size (·.pop)) _ _ _;refine Qz (Sq BE rfl ?_);have xR:=Rn (RM (·.push R4)) BE rfl;refine Sq (hz:=by seq_fits) xR rfl ?_;have yX:=Rn (RM (·.pop)) xR rfl
 have yY:∀ b o,b≠s.heap.objs.size->H2.get? b=some o->((H2.update s.heap.objs.size (RM (·.push R4))).update s.heap.objs.size (RM (·.pop))).get? b=some o :=
  fun b o hb e=>(Ru _ _ (Sr hb)).trans ((Ru _ _ (Sr hb)).trans e)
 exact QI ⟨TL R9 _,key _ _ _ (W.frame 0 _ _ zq fun b hb o e=>yY b o (fun z=>D1 (z ▸ hb)) e) yY yX⟩
end
end PySem
namespace L2
open PySem PySem.Spec PyProof.Rows
def SqB (b:Bool) (K:QB) (H:Hp) (a:QD) (xs:List V):Prop:=if b=true then SqL K H a xs else SqT K H a xs
theorem SqB.l {K:QB} {H:Hp} {a:QD} {xs:List V} (h:SqL K H a xs):SqB true K H a xs:=h
theorem rm {ys:List V} {its:List QE} {acc:Array QE} (rv:Vals ys its) (wR:ItemsOf (fun i v=>its.toArray[its.toArray.size - 1 - i]?=some v) acc its.toArray.size):Vals ys.reverse acc.toList:=by
 have e:acc.toList=its.reverse:=by
  apply Vl;intro i;have hs:acc.size=its.length:=by rw [wR.1,QN]
  by_cases hi:i<acc.size
  · have h1:acc[i]?=some acc[i]:=SG hi;have h2:=wR.2 i _ h1;rw [QN] at h2;rw [T2,h1,List.getElem?_reverse (by omega),<- h2];simp
  · rw [T2,UM (by omega),Su (by rw [RU];omega)]
 rw [e];exact rv.reverse
section
variable {X:Cx} {e:RO} {te:TE} {p p2 pos xg:US}
def sC (K:QB) (te:TE):TE:=fun σ H Q=>te σ H fun x H1=>∃ b a ys,x=.ref a/\SqB b K H1 a ys/\∀ l,H1 l=none->Q (.ref l) (upd H1 l (.lst ys.reverse))
theorem mH {pins:List (QD×SQ)} {σ:St} {H:Hp} {s:QJ} {Q:VK} {b:Bool} {a:QD} {ys:List V} (hc:X.calm=true) (I:Inv X pins σ H s) (hq:SqB b X.K H a ys) (q:∀ l,H l=none->Q (.ref l) (upd H l (.lst ys.reverse))) :
 QU (Ra X.prog X.w) X.A (call (.type "reversed") [.ref a]) (fun u s1=>QU (Ra X.prog X.w) X.A (call (.type "list") [u]) (EP X pins σ Q) X.xe s1) X.xe s:=by
 have hn:=eU;have hh:X.A.in1.in1.handled=none:=I.ok.hd hc
 have fin:∀ {its:List QE} {s1:QJ} {h':RS} {tk:Nat} {acc:Array QE} {c:Nat},Vals ys its->ys.length<=QW->s1.heap.objs.size=s.heap.objs.size+1->s1.os=s.os->s1.gens=s.gens->s1.drawn=s.drawn->(∀ b o,s.heap.get? b=some o->s1.heap.get? b=some o) →
  (∀ b o,b∉[s.heap.objs.size]->s1.heap.get? b=some o->h'.get? b=some o)->h'.get? s1.heap.objs.size=some { cls:=.type "list",dict:=none,data:=.seq acc c,slots:=#[] }->ItemsOf (fun i v=>its.toArray[its.toArray.size - 1 - i]?=some v) acc its.toArray.size →
  EP X pins σ Q (.ref s1.heap.objs.size) { s1 with heap:=h',toks:=tk }:=fun {its s1 h' tk acc c} rv hz es eo eg ed k1 kp hS wR=>by
  have Ia:({ s1 with heap:=h',toks:=tk }:QJ)={ s with heap:=h',toks:=tk }:=by
   obtain ⟨a1,a2,a3,a4,a5⟩:=s1;have e1:a5=s.os:=eo;have e2:a2=s.gens:=eg;have e3:a3=s.drawn:=ed;subst e1;subst e2;subst e3;rfl
  have hp:s.heap.objs.size<=s1.heap.objs.size:=by rw [es];exact Nat.le_succ _
  refine ⟨.ref s1.heap.objs.size,upd H s1.heap.objs.size (.lst ys.reverse),?_,rfl,q _ (I.hok.fresh hp)⟩;rw [Ia];refine I.laid (t':=tk) (fun b o e=>kp b o (fun z=>?_) (k1 b o e)) hp ⟨by rw [RU];exact hz,acc.toList,c,rm rv wR,hS⟩;exact absurd (QT e) (by rw [Q2.mp z];exact RY _)
 cases b
 · have Ih:SqT X.K H a ys:=hq;obtain ⟨its,rv,p,hz⟩:=I.tuple Ih;have hl:=rv.length;refine bb_call_rev_tuple p (by rw [QN];omega) fun tk=>?_;obtain ⟨oa,yZ,ca,da⟩:=id p;have xf:a≠s.heap.objs.size:=Rh (QT yZ)
   refine bb_list_walk (T:="reversed") (bb_walk_revT hh s.heap.objs.size a xf its.toArray (by rw [QN];omega)) (fun i s st=>st.2.1.typeIs) (by decide) (by decide) (bb_hint_rev (by rw [QN];omega))
    ⟨Q7 _,?_,⟨oa,QG _ yZ,ca,da⟩⟩ (fun b hb=>?_) (by simp) (by rw [QN];omega) fun h' tk acc c kp hS wR=>fin rv hz (RR ..) rfl rfl rfl (fun b o e=>QG _ e) kp hS wR
   · rw [show (its.toArray.size:Int) - 1 - ((0:Nat):Int)=(its.toArray.size:Int) - 1 by omega];exact ⟨_,QQ _ rfl,rfl,rfl⟩
   · show b<(s.heap.push _).objs.size;rw [RR];rcases QZ.mp hb with e | e
     · rw [e];exact Nat.lt_succ_self _
     · rw [Q2.mp e];exact UK (QT yZ)
 · have Ih:SqL X.K H a ys:=hq;obtain ⟨its,rv,p,hz⟩:=I.list Ih;have hl:=rv.length;refine call_reversed_list p.isList ?_;obtain ⟨oa,yZ,ca,na,da⟩:=id p.isList;have xf:a≠s.heap.objs.size:=Rh (QT yZ)
   refine bb_list_walk (T:="list_reverseiterator") (Walks.listRev hh s.heap.objs.size a xf its.toArray) (fun i s st=>st.2.1.typeIs) (by decide) (by decide) bb_hint_lri
    ⟨Q7 _,?_,⟨oa,QG _ yZ,ca,na,da⟩⟩ (fun b hb=>?_) (by simp) (by rw [QN];omega) fun h' tk acc c kp hS wR=>fin rv hz (RR ..) rfl rfl rfl (fun b o e=>QG _ e) kp hS wR
   · rw [show (its.toArray.size:Int) - 1 - ((0:Nat):Int)=(its.toArray.size:Int) - 1 by omega];exact ⟨_,QQ _ rfl,rfl,rfl⟩
   · show b<(s.heap.push _).objs.size;rw [RR];rcases QZ.mp hb with e | e
     · rw [e];exact Nat.lt_succ_self _
     · rw [Q2.mp e];exact UK (QT yZ)
theorem jC (hc:X.calm=true) (g1:Gl X "list") (m1:X.mg "list"=none) (g2:Gl X "reversed") (m2:X.mg "reversed"=none) (he:PE X e te)
 (h1:RA [.Call (.Name "reversed" p2) [e] [] xg] X.env=[(false,S4 (.Call (.Name "reversed" p2) [e] [] xg) X.env)]:=by rfl) (h2:RA [e] X.env=[(false,S4 e X.env)]:=by rfl) :
 PE X (.Call (.Name "list" p) [.Call (.Name "reversed" p2) [e] [] xg] [] pos) (sC X.K te):=by
 intro pins s σ H Q I h;refine Sf (cF I g1 m1 boot_list (Ry ?_ h1 rfl));rw [h1];show QU _ _ (spliced ((false,S4 (.Call (.Name "reversed" p2) [e] [] xg) X.env)::[])) _ _ s;refine Sg ?_;refine Sf (cF I g2 m2 boot_reversed (Ry ?_ h2 rfl));rw [h2];show QU _ _ (spliced ((false,S4 e X.env)::[])) _ _ s;refine Sg (thn (he pins s σ H _ I h) fun u s1 ⟨x,H1,I1,r1,b,a,ys,ex,hq,q⟩=>?_);subst ex;cases r1;refine SI ?_;refine thn (mH hc I1 hq q) fun v s2 h2=>SI ?_;exact h2
def Itv (K:QB) (a:QD) (n:Nat):It:=⟨fun i H=>i<n/\∃ xs,SqL K H a xs/\xs.length=n,fun i H x H'=>H'=H/\∀ xs,SqL K H a xs->xs[n - 1 - i]?=some x,fun i _=>i=n⟩
theorem rZ {P:QR} {w:Q3} {K:QB} {tg:RO} (a it:QD) (n:Nat):Turn P w K tg (Itv K a n) [it] it (fun i h=>h.IsRevIter it a ((n:Int) - 1 - (i:Nat))) where
 mem:=by simp
 obj:=fun i h st b hb=>by
  have e:b=it:=by simpa using hb
  subst e;obtain ⟨o,e,c,d⟩:=st;exact ⟨o,e,fun v z=>by rw [d] at z;cases z⟩
 keep:=fun i h h' st k=>st.at fun o e=>k it (by simp) o e
 item:=by
  intro X hP hw hK hc i pins s σ H E I hf st hg;subst hP hw hK;obtain ⟨hi,xs,hq,hx⟩:=hg;obtain ⟨its,rv,p,hz⟩:=I.list hq;have hl:=rv.length;obtain ⟨x,Ap⟩:∃ x,xs[n - 1 - i]?=some x:=⟨_,QC (by omega)⟩;obtain ⟨u,hu,ru⟩:=rv.get Ap;obtain ⟨f0,f1,f2,f3,f4,f5⟩:=hf it (by simp);have e1:(n:Int) - 1 - (i:Nat)=((n - 1 - i:Nat):Int):=by omega
  rw [e1] at st;refine wpAny_pyNext_rev_item st p.isList (x:=u) (by simpa using hu) fun h' Aj sb=>?_;have I1:Inv X pins σ H { s with heap:=h' }:=I.turned (t':=s.toks) (fun b o hb e=>(sb.2 b hb).trans e) f0 f1 f3 f4 f5;have e2:((n - 1 - i:Nat):Int) - 1=(n:Int) - 1 - ((i+1:Nat):Int):=by omega
  rw [e2] at Aj;obtain ⟨o,e,c,d⟩:=id Aj;exact ⟨u,rfl,pA (s:={ s with heap:=h' }) e c d (by decide) ⟨x,H,I1,ru,⟨rfl,fun ys hy=>by rw [I.list_inj hy hq];exact Ap⟩,Aj,fun b hb=>(hf b hb).1⟩⟩
 done:=by
  intro X hP hw hK hc i pins s σ H E I hf st hg;subst hP hw hK;have Ii:i=n:=hg;subst Ii;obtain ⟨f0,f1,f2,f3,f4,f5⟩:=hf it (by simp);rw [show (i:Int) - 1 - (i:Nat)=-1 by omega] at st;exact wpAny_pyNext_rev_end (I.ok.hd hc) st fun h' eb=>⟨rfl,I.turned (t':=s.toks) (fun b o hb e=>eb b o hb e) f0 f1 f3 f4 f5⟩
 self:=fun _ _ _ _ _ st h=>wpAny_pyIter_revIter st h
def v9 (K:QB) (tl:TE):TI:=fun σ H R=>tl σ H fun x H1=>∃ a xs,x=.ref a/\SqL K H1 a xs/\R (Itv K a xs.length) H1
theorem uP {tg:RO} (g2:Gl X "reversed") (m2:X.mg "reversed"=none) (he:PE X e te) (h2:RA [e] X.env=[(false,S4 e X.env)]:=by rfl):PI X tg (.Call (.Name "reversed" p2) [e] [] xg) (v9 X.K te):=by
 intro pins s σ H R I h;refine Sf (cF I g2 m2 boot_reversed (Ry ?_ h2 rfl));rw [h2];show QU _ _ (spliced ((false,S4 e X.env)::[])) _ _ s;refine Sg (thn (he pins s σ H _ I h) fun u s1 ⟨x,H1,I1,r1,a,ys,ex,hq,q⟩=>SI ?_);subst ex;cases r1;obtain ⟨its,rv,p,hz⟩:=I1.list hq;have hl:=rv.length;refine call_reversed_list p.isList ?_
 have hit:(s1.heap.push (revObj a ((its.toArray.size:Int) - 1))).IsRevIter s1.heap.objs.size a ((ys.length:Int) - 1 - ((0:Nat):Int)):=by
  rw [hl,show (its.length:Int) - 1 - ((0:Nat):Int)=(its.toArray.size:Int) - 1 by rw [QN];omega];exact ⟨_,QQ _ rfl,rfl,rfl⟩
 refine wpAny_pyIter_revIter (s:={ s1 with heap:=s1.heap.push (revObj a ((its.toArray.size:Int) - 1)) }) hit ?_;refine ⟨s1.heap.objs.size,[s1.heap.objs.size],_,_,H1,rfl,I1.kept (t':=s1.toks) fun b o e=>QG _ e,rZ a _ ys.length,hit,fun b hb=>?_,q⟩;have e:b=s1.heap.objs.size:=by simpa using hb
 subst e;exact I1.fpOk (QF _) (I1.hok.fresh (QF _))
theorem sQ {K:QB} {a:QD} {xs:List V} {g:TG} {tb:TS} {D:Ends} {σ:St} {H:Hp} (Pv:Nat->St->Hp->Prop) (h0:Pv 0 σ H) (hl:∀ i σ H,i<=xs.length->Pv i σ H->SqL K H a xs)
 (hs:∀ i x σ H,i<xs.length->xs[xs.length - 1 - i]?=some x->Pv i σ H->g x σ H fun w9 H2=>tb { D with nx:=Pv (i+1),ct:=Pv (i+1),bk:=D.nx } w9 H2) (hd:∀ σ H,Pv xs.length σ H->D.nx σ H) :
 ∃ W:Nat->Nat->St->Hp->Prop,(∃ m,W 0 m σ H)/\∀ i m σ H,W i m σ H →
   ((Itv K a xs.length).stop i H/\D.nx σ H)∨((Itv K a xs.length).go i H/\∃ N:St->Hp->Prop,(∀ wH H',N wH H'->∃ m',m'<m/\W (i+1) m' wH H')/\∀ x H',(Itv K a xs.length).yld i H x H'->g x σ H' fun w9 H2=>tb { D with nx:=N,ct:=N,bk:=D.nx } w9 H2):=by
 refine ⟨fun i m σ H=>i<=xs.length/\m=xs.length - i/\Pv i σ H,⟨xs.length,Q7 _,rfl,h0⟩,?_⟩;rintro i m σ H ⟨hi,rfl,p⟩;by_cases h:i=xs.length
 · left;exact ⟨h,hd σ H (by rw [<- h];exact p)⟩
 · right;have xJ:i<xs.length:=by omega
   refine ⟨⟨xJ,xs,hl i σ H hi p,rfl⟩,Pv (i+1),fun wH H' q=>⟨xs.length - (i+1),by omega,by omega,rfl,q⟩,?_⟩;rintro x H' ⟨rfl,hx⟩;exact hs i x σ H' xJ (hx xs (hl i σ H' hi p)) p
end
end L2
namespace BB
open PySem L2
inductive Th where
 | knot (n:Rc) (ks:List Th)
 | call (s k:Int)
def q:Rc:=QK "?"
def Th.kids:Th->List Th
 | .knot _ ks=>ks
 | .call _ _=>[]
mutual
def Th.size:Th->Nat
 | .knot _ ks=>ax ks+1
 | .call _ _=>1
def ax:List Th->Nat
 | []=>0
 | t::ts=>t.size+ax ts
end
mutual
def Th.tall:Th->Nat
 | .knot _ ks=>bI ks+1
 | .call _ _=>1
def bI:List Th->Nat
 | []=>0
 | t::ts=>max t.tall (bI ts)
end
mutual
/-- by places D2 -/
def Th.walk:Th->List Th
 | .knot n ks=>.knot n ks::walks ks
 | .call s k=>[.call s k]
def walks:List Th->List Th
 | []=>[]
 | t::ts=>t.walk++walks ts
end
theorem Th.walk_eq (t:Th):t.walk=t::walks t.kids:=by
 cases t with
 | knot n ks=>rw [Th.walk];rfl
 | call s k=>rw [Th.walk];simp [Th.kids,walks]
theorem Th.size_eq (t:Th):t.size=ax t.kids+1:=by
 cases t with
 | knot n ks=>rw [Th.size];rfl
 | call s k=>rw [Th.size];simp [Th.kids,ax]
theorem Th.tall_eq (t:Th):t.tall=bI t.kids+1:=by
 cases t with
 | knot n ks=>rw [Th.tall];rfl
 | call s k=>rw [Th.tall];simp [Th.kids,bI]
theorem ij:∀ a b:List Th,walks (a++b)=walks a++walks b
 | [],b=>by simp [walks]
 | t::a,b=>by rw [Ta,walks,walks,ij a b,RG]
theorem bD:∀ a b:List Th,ax (a++b)=ax a+ax b
 | [],b=>by simp [ax]
 | t::a,b=>by rw [Ta,ax,ax,bD a b,Vq]
mutual
theorem Th.walk_len:∀ t:Th,t.walk.length=t.size
 | .knot n ks=>by rw [Th.walk,Th.size,QM,ir ks]
 | .call s k=>by rw [Th.walk,Th.size];rfl
theorem ir:∀ ts:List Th,(walks ts).length=ax ts
 | []=>rfl
 | t::ts=>by rw [walks,ax,QX,t.walk_len,ir ts]
end
theorem Th.size_pos (t:Th):1<=t.size:=by rw [t.size_eq];omega
mutual
def At (H:Hp):Th->QD->Prop
 | .knot n ks,a=>n≠q/\∃ as:List QD,H a=some (.tup (.str n::as.map V.ref))/\Ats H ks as
 | .call s k,a=>H a=some (.tup [.str q,.int s,.int k])
def Ats (H:Hp):List Th->List QD->Prop
 | [],as=>as=[]
 | t::ts,as=>∃ a r,as=a::r/\At H t a/\Ats H ts r
end
def KT (H H':Hp):Prop:=∀ b xs,H b=some (.tup xs)->H' b=some (.tup xs)
theorem KT.trans {H H1 H2:Hp} (a:KT H H1) (b:KT H1 H2):KT H H2:=fun c o h=>b c o (a c o h)
theorem Same.kt {H H':Hp} (h:L2.Same H H'):KT H H':=fun b xs e=>h b _ e
theorem df {H:Hp} {l:QD} {o:HO} (h:H l=none):KT H (upd H l o):=fun b xs e=>by rw [ai (aE e h)];exact e
theorem aQ {H:Hp} {l:QD} {o:HO} {xs:List V} (h:H l=some (.lst xs)):KT H (upd H l o):=fun b ys e=>by rw [ai (eX e h (by intro z;cases z))];exact e
mutual
theorem At.mono {H H':Hp} (k:KT H H'):∀ {t:Th} {a:QD},At H t a->At H' t a
 | .knot n ks,a,h=>by
   rw [At] at h ⊢;obtain ⟨h0,as,h1,h2⟩:=h;exact ⟨h0,as,k _ _ h1,Ats.mono k h2⟩
 | .call s c,a,h=>by
   rw [At] at h ⊢;exact k _ _ h
theorem Ats.mono {H H':Hp} (k:KT H H'):∀ {ts:List Th} {as:List QD},Ats H ts as->Ats H' ts as
 | [],as,h=>by rw [Ats] at h ⊢;exact h
 | t::ts,as,h=>by
   rw [Ats] at h ⊢;obtain ⟨a,r,e,h1,h2⟩:=h;exact ⟨a,r,e,At.mono k h1,Ats.mono k h2⟩
end
theorem Ats.nil {H:Hp}:Ats H [] []:=by rw [Ats]
theorem Ats.cons {H:Hp} {t:Th} {ts:List Th} {a:QD} {as:List QD} (h1:At H t a) (h2:Ats H ts as):Ats H (t::ts) (a::as):=by rw [Ats];exact ⟨a,as,rfl,h1,h2⟩
theorem Ats.append {H:Hp}:∀ {ts us:List Th} {as bs:List QD},Ats H ts as->Ats H us bs->Ats H (ts++us) (as++bs)
 | [],us,as,bs,h,g=>by rw [Ats] at h;subst h;exact g
 | t::ts,us,as,bs,h,g=>by
   rw [Ats] at h;obtain ⟨a,r,rfl,h1,h2⟩:=h;exact .cons h1 (h2.append g)
theorem Ats.length {H:Hp}:∀ {ts:List Th} {as:List QD},Ats H ts as->as.length=ts.length
 | [],as,h=>by rw [Ats] at h;subst h;rfl
 | t::ts,as,h=>by
   rw [Ats] at h;obtain ⟨a,r,rfl,h1,h2⟩:=h;rw [QM,QM,h2.length]
theorem Ats.get {H:Hp}:∀ {ts:List Th} {as:List QD} {i:Nat} {a:QD},Ats H ts as->as[i]?=some a->∃ t,ts[i]?=some t/\At H t a
 | [],as,i,a,h,e=>by rw [Ats] at h;subst h;simp at e
 | t::ts,as,i,a,h,e=>by
   rw [Ats] at h;obtain ⟨b,r,rfl,h1,h2⟩:=h;cases i with
   | zero=>simp at e;subst e;exact ⟨t,rfl,h1⟩
   | succ i=>exact h2.get (i:=i) (by simpa using e)
end BB
namespace BB
open PySem L2
def Th.nm:Th->Rc
 | .knot n _=>n
 | .call _ _=>q
end BB
namespace BB
open PySem L2
def cR:Rc:=QK "abcdefghijklmnopqrstuvwxyz"
theorem oT:cR.cps.toList=(Rl 26).map (97+·):=by decide +kernel
theorem i7:cR.length=26:=by decide +kernel
theorem at_nonneg {α:Type} {xs:List α} {i:Int} {v:α} (h0:0<=i) (h:xs[i.toNat]?=some v):atI xs i=some v:=by
 have e:i=((i.toNat:Nat):Int):=by omega
 rw [e];exact cU h
theorem lC {i:Int} (h0:0<=i) (h1:i<26):atI cR.cps.toList i=some (97+i.toNat):=by
 refine at_nonneg h0 ?_;rw [oT,QO,R6 (by omega)];rfl
def Low (x:Rc):Prop:=∀ c∈x.cps.toList,97<=c/\c<=122
theorem lL {x:Rc} (h:Low x) (lo hi:Option Int):Low (dr x lo hi):=by
 intro c hc;have xV:c∈jh x.cps.toList lo hi:=by simpa [dr] using hc
 exact h c (List.mem_of_mem_drop (List.mem_of_mem_take xV))
theorem mq {x y:Rc} (hx:Low x) (hy:Low y):Low (x++y):=by
 intro c hc;have xV:c∈(x.cps++y.cps).toList:=hc;rw [Uo,Rv] at xV;rcases xV with h | h
 · exact hx c h
 · exact hy c h
theorem jm {c:Nat} (h1:97<=c) (h2:c<=122):Low ⟨#[c]⟩:=by
 intro d hd;have:d=c:=by simpa using hd
 omega
theorem p8 {x:Rc} (h:Low x):x≠q:=by
 intro e;subst e;have:=h 63 (by decide +kernel);omega
end BB
namespace L2
open PySem PySem.Spec PyProof.Rows
theorem Same.seqT {K:QB} {H H':Hp} {a:QD} {xs:List V} (e:Same H H') (h:SqT K H a xs):SqT K H' a xs:=by
 rcases h with (h | ⟨o,h⟩) | h
 · exact .inl (.inl (e _ _ h))
 · exact .inl (.inr ⟨o,e _ _ h⟩)
 · exact .inr h
theorem ad {H:Hp} {p:QD} (h:H p=none) (o:HO):Same H (upd H p o):=fun b u q=>by rw [ai (aE q h)];exact q
theorem ao {H H1:Hp} {l:QD} {o:HO} (h:Same H H1) (n:H l=none):Same H (upd H1 l o):=fun b u e=>by rw [ai (aE e n)];exact h b u e
theorem tJ {α:Type} {js:List (Option Nat)} {tt:TT} {te:TE} {σ:St} {J:It} {H:Hp} {xs:List V} {fin:QD->Hp->Prop} (zs:List α) (p:α->Bool) (f:α->V) (hz:zs.length=xs.length) (hn:xs.length<=1000000)
 (Aq:∀ i H2,Same H H2->i<xs.length->J.go i H2) (xK:∀ H2,Same H H2->J.stop xs.length H2) (yE:∀ (i:Nat) H2 x H3,Same H H2->i<xs.length->J.yld i H2 x H3->H3=H2/\xs[i]?=some x)
 (EL:∀ (i:Nat) x z H2 (R:Bool->Hp->Prop),xs[i]?=some x->zs[i]?=some z->Same H H2->R (p z) H2->tt ((cσ js σ).set 0 (some x)) H2 R)
 (EM:∀ (i:Nat) x z H2 (R:VK),xs[i]?=some x->zs[i]?=some z->p z=true->Same H H2->R (f z) H2->te ((cσ js σ).set 0 (some x)) H2 R)
 (q:∀ D,H D=none->fin D (upd H D (.lst ((zs.filter p).map f)))) :
 ∀ D,H D=none->∃ (n:Nat) (W:Nat->Hp->Prop),W 0 (upd H D (.lst []))/\fV js (aI 0) tt te σ J D n W fun H'=>fin D H':=by
 intro D hD;refine ⟨xs.length,fun i H2=>i<=xs.length/\H2=upd H D (.lst (((zs.take i).filter p).map f)),⟨Q7 _,by simp⟩,?_⟩;rintro i H2 ⟨hi,rfl⟩;have sm:∀ o,Same H (upd H D o):=fun o=>ad hD o;by_cases h:i=xs.length
 · left;subst h;refine ⟨xK _ (sm _),?_⟩;rw [<- hz,S8];exact q D hD
 · right;have xJ:i<xs.length:=by omega
   refine ⟨xJ,Aq i _ (sm _) xJ,fun x H1 hy=>?_⟩;obtain ⟨rfl,hx⟩:=yE i _ x H1 (sm _) xJ hy;have Ij:i<zs.length:=by omega
   have e1:zs[i]?=some zs[i]:=QC Ij
   have e2:(zs.take (i+1)).filter p=(zs.take i).filter p++(if p zs[i]=true then [zs[i]] else []):=by
    rw [RX,e1,Ve];show _++List.filter p [zs[i]]=_;rw [SN,VH]
   refine EL i x zs[i] _ _ hx e1 (sm _) ?_
   have hlen:(((zs.take i).filter p).map f).length<=1000000:=by
    rw [QA];have:=T1 p (zs.take i);rw [Ro] at this;omega
   by_cases hp:p zs[i]=true
   · rw [if_pos hp];refine EM i x zs[i] _ _ hx e1 hp (sm _) ⟨_,ab,Vb hlen (by decide),xJ,?_⟩;rw [jj,e2,if_pos hp,QS];rfl
   · rw [if_neg hp];refine ⟨xJ,?_⟩;rw [e2,if_neg hp,Rw]
theorem nR {α:Type} {K:QB} {a:QD} {js:List (Option Nat)} {tt:TT} {te:TE} {σ:St} {H:Hp} {xs:List V} {fin:QD->Hp->Prop} (zs:List α) (p:α->Bool) (f:α->V) (hS:SqT K H a xs) (hz:zs.length=xs.length) (hn:xs.length<=1000000)
 (EL:∀ (i:Nat) x z H2 (R:Bool->Hp->Prop),xs[i]?=some x->zs[i]?=some z->Same H H2->R (p z) H2->tt ((cσ js σ).set 0 (some x)) H2 R)
 (EM:∀ (i:Nat) x z H2 (R:VK),xs[i]?=some x->zs[i]?=some z->p z=true->Same H H2->R (f z) H2->te ((cσ js σ).set 0 (some x)) H2 R)
 (q:∀ D,H D=none->fin D (upd H D (.lst ((zs.filter p).map f)))) :
 ∀ D,H D=none->∃ (n:Nat) (W:Nat->Hp->Prop),W 0 (upd H D (.lst []))/\fV js (aI 0) tt te σ (Itt K a) D n W fun H'=>fin D H' :=
 tJ zs p f hz hn (fun i H2 s hi=>⟨xs,xs[i],s.seqT hS,QC hi⟩) (fun H2 s=>⟨xs,s.seqT hS,QF _⟩) (fun i H2 x H3 s hi hy=>⟨hy.1,hy.2 xs (s.seqT hS)⟩) EL EM q
end L2
namespace BB
open PySem L2
theorem at0 {α:Type} {x:α} {xs:List α}:atI (x::xs) 0=some x:=cU (j:=0) rfl
theorem at1 {α:Type} {x y:α} {xs:List α}:atI (x::y::xs) 1=some y:=cU (j:=1) rfl
theorem at2 {α:Type} {x y z:α} {xs:List α}:atI (x::y::z::xs) 2=some z:=cU (j:=2) rfl
theorem d4 (x:V) (xs:List V):cY (x::xs) (some 1) none=xs:=by
 unfold cY;simp [HT.sIx]
theorem bL:∀ ts:List Th,ts.length<=ax ts
 | []=>Q7 _
 | t::ts=>by
   have:=t.size_pos;have:=bL ts;rw [QM,ax];omega
theorem lB (ts:List Th):ax ts.reverse=ax ts:=by
 induction ts with
 | nil=>rfl
 | cons x xs ih=>rw [RF,bD,ih,ax,ax,ax];omega
theorem aD {n:Nat} (h:n<=1000000):n<QW:=Vb h (by decide)
theorem ak {n:Nat} (h:n<=1000000):n<=QW:=Ui (aD h)
theorem int_at {ns:List Int} {k:Int} (h0:0<=k) (h:k<(ns.length:Int)):atI (ns.map V.int) k=some (.int (ns.getD k.toNat 0)):=by
 refine at_nonneg h0 ?_;have hk:k.toNat<ns.length:=by omega
 rw [QO,QC hk,List.getD_eq_getElem?_getD,QC hk];rfl
end BB
namespace BB
open PySem L2
section
variable {α β:Type} {F G:α->β->Prop}
theorem P2.append:∀ {a c:List α} {b d:List β},Rf F a b->Rf F c d->Rf F (a++c) (b++d)
 | _,_,_,_,.nil,h=>h
 | _,_,_,_,.cons r t,h=>.cons r (P2.append t h)
theorem P2.get:∀ {a:List α} {b:List β} {i:Nat} {x:α},Rf F a b->a[i]?=some x->∃ y,b[i]?=some y/\F x y
 | _,_,_,_,.nil,e=>by simp at e
 | _,_,0,_,.cons r _,e=>by simp at e;subst e;exact ⟨_,rfl,r⟩
 | _,_,i+1,x,.cons _ t,e=>by
   obtain ⟨u,h1,h2⟩:=P2.get (i:=i) (x:=x) t (by simpa using e);exact ⟨u,by simpa using h1,h2⟩
theorem P2.get':∀ {a:List α} {b:List β} {i:Nat} {y:β},Rf F a b->b[i]?=some y->∃ x,a[i]?=some x/\F x y
 | _,_,_,_,.nil,e=>by simp at e
 | _,_,0,_,.cons r _,e=>by simp at e;subst e;exact ⟨_,rfl,r⟩
 | _,_,i+1,y,.cons _ t,e=>by
   obtain ⟨u,h1,h2⟩:=P2.get' (i:=i) (y:=y) t (by simpa using e);exact ⟨u,by simpa using h1,h2⟩
theorem P2.mp (f:∀ x y,F x y->G x y):∀ {a:List α} {b:List β},Rf F a b->Rf G a b
 | _,_,.nil=>.nil
 | _,_,.cons r t=>.cons (f _ _ r) (P2.mp f t)
end
def KAt (H:Hp) (k:Rc×Int) (a:QD):Prop:=H a=some (.tup [.str k.1,.int k.2])
def KsAt (H:Hp) (ks:List (Rc×Int)) (as:List QD):Prop:=Rf (KAt H) ks as
theorem KsAt.mono {H H':Hp} (k:KT H H') {ks:List (Rc×Int)} {as:List QD} (h:KsAt H ks as):KsAt H' ks as:=P2.mp (fun x y e=>k _ _ e) h
end BB
namespace L2
open PySem
theorem iE {t u:TS} {D:Ends} {σ:St} {H:Hp} (R:St->Hp->Prop) (h1:∀ k:St->Hp->Prop,(∀ wH H',R wH H'->k wH H')->t { D with nx:=k } σ H) (h2:∀ wH H',R wH H'->u D wH H'):vK t u D σ H:=h1 _ h2
theorem fz {c:TT} {t u:TS} {D:Ends} {σ:St} {H:Hp} (R:Bool->Hp->Prop) (h1:∀ k:Bool->Hp->Prop,(∀ b H',R b H'->k b H')->c σ H k) (h2:∀ H',R true H'->t D σ H') (h3:∀ H',R false H'->u D σ H'):vk c t u D σ H :=
 h1 _ fun b H' r=>by
  cases b with
  | true=>rw [if_pos rfl];exact h2 H' r
  | false=>rw [if_neg Q0];exact h3 H' r
end L2
namespace BB
open PySem L2
section
variable {ext:Th->List V} {H H':Hp} {t:Th} {a:QD} {ts:List Th} {es:List QD}
end
theorem filter_tt {α:Type} (xs:List α):xs.filter (fun _=>true)=xs:=by
 induction xs with
 | nil=>rfl
 | cons x xs ih=>rw [SN,if_pos rfl,ih]
theorem b9:∀ {ts:List Th} {t:Th},t∈ts->t.tall<=bI ts
 | u::ts,t,h=>by
   rw [bI];rcases QZ.mp h with rfl | h
   · omega
   · have:=b9 h;omega
theorem iS {xs:List V} {n:Nat} (h:n<=xs.length):cY xs (some (n:Int)) none=xs.drop n:=by
 unfold cY;rw [HT.sIx_nat,HT.sIx_none,VF h];exact Sd (by rw [R7];exact QF _)
theorem take_snoc {α:Type} {xs:List α} {n:Nat} {x:α} (h:xs[n]?=some x):xs.take (n+1)=xs.take n++[x]:=by rw [RX,h];rfl
theorem bc {xs:List QD} {i:Nat} {x:V} (h:(xs.map V.ref)[i]?=some x):∃ a,x=.ref a/\xs[i]?=some a:=by
 rw [QO] at h;obtain ⟨a,h1,h2⟩:=RJ.mp h;exact ⟨a,h2.symm,h1⟩
end BB
namespace PySem
open Sem (wp)
section
variable {prog:QR} {w:Q3} {A:Rr} {E:QE->QJ->Prop} {s:QJ}
theorem bb_tupNext {cur tp:QD} {i:Nat} {items:Array QE} {x:QE} {Q:QE->QJ->Prop} (g:s.heap.IsTupleIter cur tp i) (gt:s.heap.IsTuple tp items) (hx:items[i]?=some x)
 (fin:∀ h',h'.IsTupleIter cur tp (i+1)->Ss cur s.heap h'->Q x { s with heap:=h' }):QU (Ra prog w) A (Rz (.ref cur)) Q E s:=by
 obtain ⟨ob,e1,e2,e3⟩:=id g;obtain ⟨ot,e4,_,nt,e5⟩:=gt;unfold Rz;refine Qz (RE (name:=QK "__next__") g.typeIs Uw (RL Uw g.typeIs F.entry_tuple_iterator_next ?_ (F.args_tuple_iterator_next_1 _)));show QU _ _ (field (.ref cur) 0 >>= _) _ _ s;refine Qz (Rx e1 e3 (x:=.ref tp) rfl ?_);show QU _ _ (if (Q9 tp == R4)=true then _ else _) _ _ s;rw [if_neg (show ¬ ((Q9 tp == R4)=true) from Q0)];show QU _ _ (field (.ref cur) 1 >>= _) _ _ s;refine Qz (Rx e1 e3 (x:=.int i 0) rfl ?_);show QU _ _ (seqItems? (.ref tp) >>= _) _ _ s;refine Qz (RZ e4 e5 ?_);simp only [RH,hx];refine Qz (Up e1 e3 (by simp) (QI ⟨x,rfl,QI (fin _ ?_ (SJ ..))⟩));exact ⟨_,Rn _ e1 (U7 (SS e3 _)),(Obj.cls_mapFields ..).trans e2,by rw [SS e3];simp [S3]⟩
theorem bb_tupEnd {cur tp:QD} {i:Nat} {items:Array QE} {Q:QE->QJ->Prop} (calm:A.handled=none) (g:s.heap.IsTupleIter cur tp i) (gt:s.heap.IsTuple tp items) (hx:items[i]?=none)
 (fin:∀ h' e,Wt cur s.heap h'->(∃ o,h'.get? e=some o/\o.cls=.type "StopIteration")->E (.ref e) { s with heap:=h' }):QU (Ra prog w) A (Rz (.ref cur)) Q E s:=by
 obtain ⟨ob,e1,e2,e3⟩:=id g;obtain ⟨ot,e4,_,nt,e5⟩:=gt;unfold Rz;refine Qz (RE (name:=QK "__next__") g.typeIs Uw (RL Uw g.typeIs F.entry_tuple_iterator_next ?_ (F.args_tuple_iterator_next_1 _)));show QU _ _ (field (.ref cur) 0 >>= _) _ _ s;refine Qz (Rx e1 e3 (x:=.ref tp) rfl ?_);show QU _ _ (if (Q9 tp == R4)=true then _ else _) _ _ s;rw [if_neg (show ¬ ((Q9 tp == R4)=true) from Q0)];show QU _ _ (field (.ref cur) 1 >>= _) _ _ s;refine Qz (Rx e1 e3 (x:=.int i 0) rfl ?_);show QU _ _ (seqItems? (.ref tp) >>= _) _ _ s;refine Qz (RZ e4 e5 ?_);simp only [RH,hx];refine Qz (Tv (Qz (Up e1 e3 (by simp) ?_)));show QU _ _ (newExc (.type "StopIteration") [] >>= _) _ _ _;refine Qz ?_;simp only [newExc,newTuple];refine Qz (RK ?_ (by size_fits));refine Qz (m:=UY _ _) (T4 (a:=R4) (by first | rfl | (simp only [UY];rfl)) ?_);refine RK ?_ (by size_fits);simp only [raiseNew];refine Qz (wpAny_handled ?_)
 first | rw [show A.in1.handled=none from calm] | rw [calm]
 refine Qz (QI (wpAny_throw ?_));exact fin _ _ (((SJ ..).extBut.push _).push _) ⟨_,QQ _ rfl,rfl⟩
end
theorem bb_drawsT {prog:QR} {w:Q3} {A:Rr} (calm:A.handled=none) (cur tp:QD) (ne:tp≠cur) (items:Array QE) :
 Draws prog w A cur [cur,tp] items.size (fun i v=>items[i]?=some v) (fun i h=>h.IsTupleIter cur tp i/\h.IsTuple tp items) where
 live:=fun _ _ st=>let ⟨o,e,_⟩:=st.1;⟨o,e⟩
 frame:=fun _ _ _ st k=>⟨let ⟨o,e,r⟩:=st.1;⟨o,k cur (by simp) o e,r⟩,let ⟨o,e,r⟩:=st.2;⟨o,k tp (by simp) o e,r⟩⟩
 item:=fun i s Q E hi st q=>by
  refine bb_tupNext st.1 st.2 (x:=items[i]) (by simp [hi]) fun h' g' sb=>?_;exact q _ h' s.toks (by simp [hi]) ⟨g',st.2.extBut sb.extBut ne⟩ sb
 done:=fun s Q E st e=>bb_tupEnd calm st.1 st.2 (by simp) e
theorem bb_meetsEnumT (tp:QD) (items:Array QE) (n:Nat) (Ik:Option QD) (sl:Array (Option QE)) :
 Meets (Tj.«enumerate.__new__» ⟨[.type "enumerate",.ref tp],[]⟩) (fun _ R s=>s.heap.get? tp=some { cls:=.type "tuple",dict:=Ik,data:=.seq items n,slots:=sl } ∧
  R (.ok (.ret (.ref (s.heap.push { cls:=.type "tuple_iterator",data:=.fields #[.ref tp,.int 0 0] }).objs.size)))
    { s with heap:=(s.heap.push { cls:=.type "tuple_iterator",data:=.fields #[.ref tp,.int 0 0] }).push { cls:=.type "enumerate",data:=.fields #[.none,.bool false,.ref s.heap.objs.size,S3 0,.none,.none] } }) :=
 .of_wp fun prog w A R s h=>by
  obtain ⟨hp,g,d,tk,os⟩:=s;obtain ⟨gt,fin⟩:=h;have su:=sub_enumerate;have gT:Heap.IsTuple (Shared.heap ⟨hp,g,d,tk,os⟩) tp items:=⟨_,gt,rfl,n,rfl⟩
  wp_walk using SY gt
  refine wpAny_stack_any fun st=>QI ?_;split
  · rename_i c _ _ _ _ _
    cases (c == S6 "enumerate")
    · wp_walk using SY gt,T5 gT
      exact ⟨_,rfl,fin⟩
    · wp_walk using SY gt,T5 gT
      exact ⟨_,rfl,fin⟩
  · wp_walk using SY gt,T5 gT
    exact ⟨_,rfl,fin⟩
section
variable {prog:QR} {w:Q3} {A:Rr} {E:QE->QJ->Prop} {s:QJ}
theorem bb_callEnumT {tp:QD} {items:Array QE} {Q:QE->QJ->Prop} (gT:s.heap.IsTuple tp items)
 (fin:∀ h',IsEnum h' (s.heap.objs.size+1) s.heap.objs.size 0 .none->h'.IsTupleIter s.heap.objs.size tp 0->h'.objs.size=s.heap.objs.size+2 →
  (∀ b o,s.heap.get? b=some o->h'.get? b=some o)->Q (.ref (s.heap.objs.size+1)) { s with heap:=h' }):QU (Ra prog w) A (call (.type "enumerate") [.ref tp]) Q E s:=by
 obtain ⟨⟨c,Ik,dt,sl⟩,e1,e2,n,e3⟩:=gT;replace e2:c=.type "tuple":=e2;replace e3:dt=.seq items n:=e3;subst e2 e3;refine callType_new F.called_enumerate (by decide) (F.typeCall_enumerate_1 _) (F.newCall_enumerate_1 _) (fun obj=>F.args_object_init_2 obj _) F.entry_enumerate_new (bb_meetsEnumT tp items n Ik sl) ⟨e1,?_⟩;have z:(s.heap.push { cls:=.type "tuple_iterator",data:=.fields #[.ref tp,.int 0 0] }).objs.size=s.heap.objs.size+1:=RR ..;show _/\_;rw [z]
 have ge:IsEnum ((s.heap.push { cls:=.type "tuple_iterator",data:=.fields #[.ref tp,.int 0 0] }).push { cls:=.type "enumerate",data:=.fields #[.none,.bool false,.ref s.heap.objs.size,S3 0,.none,.none] }) (s.heap.objs.size+1) s.heap.objs.size 0 .none:=by
  have t:=QQ (s.heap.push { cls:=.type "tuple_iterator",data:=.fields #[.ref tp,.int 0 0] }) (o:={ cls:=.type "enumerate",data:=.fields #[.none,.bool false,.ref s.heap.objs.size,S3 0,.none,.none] }) rfl;rw [z] at t;exact t
 exact ⟨⟨_,ge,rfl⟩,fin _ ge ⟨_,QG _ (QQ _ rfl),rfl,rfl⟩ (by rw [RR,z]) fun b o x=>QG _ (QG _ x)⟩
end
end PySem
namespace L2
open PySem PySem.Spec PyProof.Rows
theorem Inv.turnedL {X:Cx} {pins:List (QD×SQ)} {σ:St} {H:Hp} {s:QJ} {h':RS} {t':Nat} {fp:List QD} (I:Inv X pins σ H s) (k:∀ b o,b∉fp->s.heap.get? b=some o->h'.get? b=some o) (hf:∀ b∈fp,jc X pins H b) :
 Inv X pins σ H { s with heap:=h',toks:=t' }:=by
 have Es:∀ b u,H b=some u->b∉fp:=fun b u e z=>by rw [(hf b z).1] at e;cases e
 refine I.step (g':=s.gens) (d':=s.drawn) (ch:=fp) (fun b hb=>?_) (fun b o _ _ hc e _=>k b o hc e) (fun b o _ _ hc e _=>⟨o.slots,k b o hc e⟩) (fun _ _ _ _ n=>n)
  (fun b o hc e=>⟨o,k b o hc e⟩) (fun _ _ e=>e) (fun _ _ _ e=>e) (fun b ps e=>⟨#[],by rw [e];simp⟩) (fun m hm=>?_) (fun b u e=>?_) I.bare
 · obtain ⟨f0,f1,f2,f3,f4,f5⟩:=hf b hb;exact ⟨f3,f1,f4,f5⟩
 · obtain ⟨o,es,ep,ho,r⟩:=hm;exact ⟨o,es,ep,k _ o (fun z=>(hf _ z).2.1 rfl) ho,r⟩
 · refine (I.hok b u e).stay (fun c v hc q=>k c v ?_ q) (fun _ q=>q) fun _ _ q=>q;rcases hc with z | z
   · rw [z];exact Es b u e
   · exact Es c _ z
def Ite (K:QB) (a:QD):It:=⟨fun i H=>∃ xs x,SqT K H a xs/\xs[i]?=some x,fun i H x H'=>∃ p y,H p=none/\x=.ref p/\H'=upd H p (.tup [.int (i:Nat),y])/\∀ xs,SqT K H a xs->xs[i]?=some y,fun i H=>∃ xs,SqT K H a xs/\xs.length=i⟩
theorem qI {P:QR} {w:Q3} {K:QB} {elts:List RO} {k1} {pos:US} (a e it:QD):Turn P w K (.Tuple elts k1 pos) (Ite K a) [e,it] e (fun i h=>(∃ old,IsEnum h e it ((i:Nat):Int) old)/\h.IsTupleIter it a i) where
 mem:=by simp
 obj:=fun i h st b hb=>by
  obtain ⟨⟨old,he⟩,o,e1,e2,e3⟩:=st;rcases QZ.mp hb with rfl | hb
  · exact ⟨_,he,fun v z=>by cases z⟩
  · have:b=it:=by simpa using hb
    subst this;exact ⟨o,e1,fun v z=>by rw [e3] at z;cases z⟩
 keep:=fun i h h' st k=>by
  obtain ⟨⟨old,he⟩,o,e1,e2⟩:=st;exact ⟨⟨old,k e (by simp) _ he⟩,o,k it (by simp) _ e1,e2⟩
 item:=by
  intro X hP hw hK hc i pins s σ H E I hf st hg;subst hP hw hK;obtain ⟨xs,x,hq,hx⟩:=hg;obtain ⟨its,rv,p,hz⟩:=I.tuple hq;obtain ⟨u,hu,ru⟩:=rv.get hx;obtain ⟨⟨old,he⟩,hi⟩:=st
  have CY:e≠it:=by
   rintro rfl;obtain ⟨o,e1,e2,_⟩:=hi;rw [he] at e1;cases e1;exact absurd (So e2) (by decide)
  have CZ:a≠it:=by
   rintro rfl;obtain ⟨o,e1,e2,_⟩:=hi;obtain ⟨o',yx,yv,_⟩:=p;rw [yx] at e1;cases e1;rw [yv] at e2;exact absurd (So e2) (by decide)
  have Il:a≠e:=by
   rintro rfl;obtain ⟨o',yx,yv,_⟩:=p;rw [he] at yx;cases yx;exact absurd (So yv) (by decide)
  have wX:i<its.toArray.size:=by
   have:=(QL.mp hu).1;simpa using this
  have Im:e<s.heap.objs.size:=QT he;have yO:it<s.heap.objs.size:=by obtain ⟨o,e1,_⟩:=hi;exact QT e1
  refine wpAny_pyNext_enum_itemD (bb_drawsT (A:=X.A.in1) (show X.A.in1.handled=none from I.ok.hd hc) it a CZ its.toArray) he ⟨hi,p⟩ wX CY (by simp [CY,Il.symm]) fun y h1 tk hy ho D3 hT hsz hk=>?_
  have Io:y=u:=by
   have:its[i]?=some y:=by simpa using hy
   rw [hu] at this;exact (Q8 this).symm
  subst Io;refine ⟨_,rfl,wpAny_letOwnedTupleGo_enum ho fun h2 Ip AL=>?_⟩;replace AL:Ss e h1 h2:=AL
  have xf:∀ b∈[e,it],b<s.heap.objs.size:=fun b hb=>by
   rcases QZ.mp hb with rfl | hb
   · exact Im
   · have:b=it:=by simpa using hb
     subst this;exact yO
  have EN:H s.heap.objs.size=none:=I.hok.fresh (QF _)
  have IA:Inv X pins σ (upd H s.heap.objs.size (.tup [.int (i:Nat),x])) { s with heap:=s.heap.push { cls:=.type "tuple",data:=.seq #[.int (i:Nat) tk,y] },toks:=tk } :=
   I.laid (o:=.tup [.int (i:Nat),x]) (fun b ob q=>QG _ q) (QF _) ⟨by show 2<=QW;decide,[.int (i:Nat) tk,y],0,.cons ⟨tk,rfl⟩ (.cons ru .nil),QQ _ rfl⟩
  refine ⟨.ref s.heap.objs.size,upd H s.heap.objs.size (.tup [.int (i:Nat),x]),?_,rfl,⟨_,x,EN,rfl,rfl,fun ys EJ=>by rw [I.tuple_inj EJ hq];exact hx⟩,⟨⟨y,by simpa using Ip⟩,?_⟩,fun b hb=>?_⟩
  · have IB:Inv X pins σ (upd H s.heap.objs.size (.tup [.int (i:Nat),x])) { s with heap:=h2,toks:=tk+1 }:=by
     refine Inv.turnedL (s:={ s with heap:=s.heap.push { cls:=.type "tuple",data:=.seq #[.int (i:Nat) tk,y] },toks:=tk }) (h':=h2) (fp:=[e,it]) (t':=tk+1) IA (fun b o hb q=>?_) fun b hb=>?_
     · have zT:b≠e:=fun z=>hb (by simp [z]);have Iq:b≠it:=fun z=>hb (by simp [z]);rw [AL.2 b zT];by_cases xb:b=s.heap.objs.size
       · subst xb;rw [hT];have q':(s.heap.push { cls:=.type "tuple",data:=.seq #[.int (i:Nat) tk,y] }).get? s.heap.objs.size=some o:=q;rw [QQ _ rfl] at q';exact q'
       · have y4:b<(s.heap.push { cls:=.type "tuple",data:=.seq #[.int (i:Nat) tk,y] }).objs.size:=QT q;rw [RR] at y4;refine hk b o zT Iq ?_;have q':(s.heap.push { cls:=.type "tuple",data:=.seq #[.int (i:Nat) tk,y] }).get? b=some o:=q;rw [Heap.get?_push_ne _ _ _ xb] at q';exact q'
     · obtain ⟨f0,f1⟩:=hf b hb;exact ⟨by rw [ai (Rh (xf b hb))];exact f0,f1⟩
    exact IB
  · obtain ⟨o,e1,r⟩:=D3.1;exact ⟨o,(AL.2 it (Sr CY)).trans e1,r⟩
  · rw [ai (Rh (xf b hb))];exact (hf b hb).1
 done:=by
  intro X hP hw hK hc i pins s σ H E I hf st hg;subst hP hw hK;obtain ⟨xs,hq,hx⟩:=hg;obtain ⟨its,rv,p,hz⟩:=I.tuple hq;obtain ⟨⟨old,he⟩,hi⟩:=st
  have CZ:a≠it:=by
   rintro rfl;obtain ⟨o,e1,e2,_⟩:=hi;obtain ⟨o',yx,yv,_⟩:=p;rw [yx] at e1;cases e1;rw [yv] at e2;exact absurd (So e2) (by decide)
  have hn:its.toArray.size=i:=by
   have:=rv.length;rw [QN];omega
  refine wpAny_pyNext_enum_endD (bb_drawsT (A:=X.A.in1) (show X.A.in1.handled=none from I.ok.hd hc) it a CZ its.toArray) he (by rw [hn];exact ⟨hi,p⟩) fun h' eb=>⟨rfl,?_⟩;exact I.turnedL (fp:=[e,it]) (t':=s.toks) (fun b o hb q=>eb b o (fun z=>hb (by simp [z])) q) hf
 self:=fun _ _ _ _ _ st h=>by
  obtain ⟨⟨old,he⟩,_⟩:=st;exact Vz he h
section
variable {X:Cx} {e:RO} {te:TE} {p2 xg:US}
def vq (K:QB) (tl:TE):TI:=fun σ H R=>tl σ H fun x H1=>∃ a,x=.ref a/\(∃ xs,SqT K H1 a xs)/\R (Ite K a) H1
theorem mB {elts:List RO} {k1} {pos:US} (g2:Gl X "enumerate") (m2:X.mg "enumerate"=none) (he:PE X e te) (h2:RA [e] X.env=[(false,S4 e X.env)]:=by rfl):PI X (.Tuple elts k1 pos) (.Call (.Name "enumerate" p2) [e] [] xg) (vq X.K te):=by
 intro pins s σ H R I h;refine Sf (cF I g2 m2 boot_enumerate (Ry ?_ h2 rfl));rw [h2];show QU _ _ (spliced ((false,S4 e X.env)::[])) _ _ s;refine Sg (thn (he pins s σ H _ I h) fun u s1 ⟨x,H1,I1,r1,a,ex,⟨xs,hq⟩,q⟩=>SI ?_);subst ex;cases r1;obtain ⟨its,rv,p,hz⟩:=I1.tuple hq;refine bb_callEnumT (show s1.heap.IsTuple a its.toArray from p) fun h' g1 g2 g3 g4=>?_;refine Vz (s:={ s1 with heap:=h' }) g1 ?_;refine ⟨s1.heap.objs.size+1,[s1.heap.objs.size+1,s1.heap.objs.size],_,_,H1,rfl,I1.kept (t':=s1.toks) g4,qI a _ _,⟨⟨_,g1⟩,g2⟩,fun b hb=>?_,q⟩
 have yk:s1.heap.objs.size<=b:=by
  rcases QZ.mp hb with rfl | hb
  · omega
  · have:b=s1.heap.objs.size:=by simpa using hb
    exact Wq this.symm
 exact I1.fpOk yk (I1.hok.fresh yk)
inductive rB (K:QB) (x:V) (y:V) (H:Hp) (Q:VK):Prop
 | mk (a:_) (b:_) (xs:_) (ys:_) (wZ:x=.ref a) (w4:y=.ref b) (w8:SqT K H a xs) (xj:SqT K H b ys) (xB:xs.length+ys.length<=QW) (yu:(xs=[]->Q (.ref b) H)) (AM:(xs≠[]->ys=[]->Q (.ref a) H)) (Bt:(xs≠[]->ys≠[]->∀ p,H p=none->Q (.ref p) (upd H p (.tup (xs++ys))))):rB K x y H Q
def lI (K:QB):R2:=rB K
theorem cS:OpR X (UJ .Add) (lI X.K):=by
 intro pins s σ H x y v u Q I rx ry h;obtain ⟨a,b,xs,ys,e1,e2,ha,hb,hz,q0,q1,q2⟩:=h;by_cases hx:xs=[]
 · subst e1 e2;cases rx;cases ry;obtain ⟨its,r1,p1,_⟩:=I.tuple ha;obtain ⟨wL,r2,p2,_⟩:=I.tuple hb;have hi:its=[]:=r1.nil_iff.mpr hx;obtain ⟨⟨cls,dd,data,sl⟩,ho,hc,n,hd⟩:=p1;obtain ⟨⟨Ey,DZ,data2,D0⟩,BA,Ak,n2,hd2⟩:=p2;simp only at hc hd Ak hd2;subst hc hd Ak hd2;exact concat_meets ⟨_,ho,rfl⟩ ⟨_,BA,rfl⟩ noFill_tuple_add seq_tuple_add Vx Vu (Vp _ _) (tuple_addW0 a b its.toArray wL.toArray n n2 dd DZ sl D0 (by simp [hi])) ⟨ho,BA,⟨.ref b,H,I,rfl,q0 hx⟩⟩
 · exact tw pins s σ H x y v u Q I rx ry ⟨a,b,xs,ys,e1,e2,ha,hb,hx,hz,q1 hx,q2 hx⟩
end
end L2
namespace PySem
open Sem (wp)
abbrev tzH1 (h:RS) (l1:QD):RS:=h.push { cls:=.type "tuple_iterator",data:=.fields #[.ref l1,.int 0 0] }
abbrev tzH2 (h:RS) (l1 l2:QD):RS:=(tzH1 h l1).push { cls:=.type "tuple_iterator",data:=.fields #[.ref l2,.int 0 0] }
abbrev tzH3 (h:RS) (l1 l2:QD):RS:=(tzH2 h l1 l2).push { cls:=.type "tuple",data:=.seq #[.ref h.objs.size,.ref (tzH1 h l1).objs.size] }
abbrev tzH4 (h:RS) (l1 l2:QD):RS:=(tzH3 h l1 l2).push { cls:=.type "tuple",data:=.seq #[.none,.none] }
abbrev tzH5 (h:RS) (l1 l2:QD):RS:=(tzH4 h l1 l2).push { cls:=.type "zip",data:=.fields #[.none,.bool false,.bool false,.ref (tzH2 h l1 l2).objs.size,.ref (tzH3 h l1 l2).objs.size] }
theorem IsTuple.push' {h:RS} {l:QD} {xs:Array QE} (x:h.IsTuple l xs) (o:SQ):(h.push o).IsTuple l xs:=let ⟨ob,e,r⟩:=x;⟨ob,QG _ e,r⟩
theorem bb_meets_zip (l1 l2:QD) (xs ys:Array QE) :
 Meets (Tj.«zip.__new__» ⟨[.type "zip",.ref l1,.ref l2],[]⟩) (fun _ R s=>s.heap.IsTuple l1 xs/\s.heap.IsTuple l2 ys ∧
  R (.ok (.ret (.ref (tzH4 s.heap l1 l2).objs.size))) { s with heap:=tzH5 s.heap l1 l2 }) :=
 .of_wp fun prog w A R s h=>by
  obtain ⟨hp,g,d,tk,os⟩:=s;obtain ⟨xY,xD,h⟩:=h;have xZ:=sub_zip;have Na:Heap.IsTuple (Shared.heap ⟨hp,g,d,tk,os⟩) l1 xs:=xY;have Nb:Heap.IsTuple (Shared.heap ⟨hp.push { cls:=.type "tuple_iterator",data:=.fields #[.ref l1,.int 0 0] },g,d,tk,os⟩) l2 ys:=IsTuple.push' xD _
  wp_walk using T5 Na,T5 Nb
  exact ⟨_,rfl,h⟩
section
variable {prog:QR} {w:Q3} {A:Rr} {E:QE->QJ->Prop} {s:QJ}
theorem bb_call_zip {l1 l2:QD} {xs ys:Array QE} {Q:QE->QJ->Prop} (xY:s.heap.IsTuple l1 xs) (xD:s.heap.IsTuple l2 ys)
 (h:∀ h',VU h' (s.heap.objs.size+4) (s.heap.objs.size+2) (s.heap.objs.size+3) .none->SO h' (s.heap.objs.size+2) (.ref s.heap.objs.size) (.ref (s.heap.objs.size+1)) →
  SO h' (s.heap.objs.size+3) .none .none->h'.IsTupleIter s.heap.objs.size l1 0->h'.IsTupleIter (s.heap.objs.size+1) l2 0->h'.objs.size=s.heap.objs.size+5 →
  (∀ c o,s.heap.get? c=some o->h'.get? c=some o)->Q (.ref (s.heap.objs.size+4)) { s with heap:=h' }) :
 QU (Ra prog w) A (call (.type "zip") [.ref l1,.ref l2]) Q E s:=by
 refine callType_new F.called_zip (by decide) (F.typeCall_zip_2 _ _) (F.newCall_zip_2 _ _) (fun obj=>F.args_object_init_3 obj _ _) F.entry_zip_new
  (bb_meets_zip l1 l2 xs ys) ⟨xY,xD,?_⟩
 have z1:(tzH1 s.heap l1).objs.size=s.heap.objs.size+1:=RR ..;have z2:(tzH2 s.heap l1 l2).objs.size=s.heap.objs.size+2:=by rw [RR,z1]
 have z3:(tzH3 s.heap l1 l2).objs.size=s.heap.objs.size+3:=by rw [RR,z2]
 have z4:(tzH4 s.heap l1 l2).objs.size=s.heap.objs.size+4:=by rw [RR,z3]
 have z5:(tzH5 s.heap l1 l2).objs.size=s.heap.objs.size+5:=by rw [RR,z4]
 have g5:(tzH5 s.heap l1 l2).get? (tzH4 s.heap l1 l2).objs.size=some _:=QQ _ rfl;have g4:(tzH5 s.heap l1 l2).get? (tzH3 s.heap l1 l2).objs.size=some _:=QG _ (QQ _ rfl);have g3:(tzH5 s.heap l1 l2).get? (tzH2 s.heap l1 l2).objs.size=some _:=QG _ (QG _ (QQ _ rfl));have g2:(tzH5 s.heap l1 l2).get? (tzH1 s.heap l1).objs.size=some _:=QG _ (QG _ (QG _ (QQ _ rfl)));have g1:(tzH5 s.heap l1 l2).get? s.heap.objs.size=some _:=QG _ (QG _ (QG _ (QG _ (QQ _ rfl))));show _/\_;rw [z2,z3,z4] at g5;rw [z1,z2] at g3;rw [z3] at g4;rw [z1] at g2;rw [z4]
 exact ⟨⟨_,g5,rfl⟩,h _ g5 g3 g4 ⟨_,g1,rfl,rfl⟩ ⟨_,g2,rfl,rfl⟩ z5 fun c o x =>
  QG _ (QG _ (QG _ (QG _ (QG _ x))))⟩
structure ZSt (xs ys:Array QE) (z TI TO i1 i2 l1 l2:QD) (k:Nat) (h:RS):Prop where
 ap:Wj z TI TO i1 i2 l1 l2
 zip:VU h z TI TO .none∨∃ (T:QD) (b:Bool) (x y:QE),h.get? z=some { cls:=.type "zip",data:=.fields #[S3 T,.bool b,.bool false,.ref TI,.ref TO] }/\SO h T x y/\T≠TO
 hTI:SO h TI (.ref i1) (.ref i2)
 hTO:∃ a b,SO h TO a b
 h1:h.IsTupleIter i1 l1 k
 h2:h.IsTupleIter i2 l2 k
 t1:h.IsTuple l1 xs
 t2:h.IsTuple l2 ys
theorem ZSt.typeIs {xs ys:Array QE} {z TI TO i1 i2 l1 l2:QD} {k:Nat} (x:ZSt xs ys z TI TO i1 i2 l1 l2 k s.heap):s.TypeIs (.ref z) "zip":=by
 rcases x.zip with e | ⟨T,b,u,v,e,_⟩
 · exact ⟨_,e,rfl⟩
 · exact ⟨_,e,rfl⟩
theorem IsTuple.but {h h':RS} {c l:QD} {xs:Array QE} (x:h.IsTuple l xs) (e:Wt c h h') (n:l≠c):h'.IsTuple l xs:=let ⟨ob,q,r⟩:=x;⟨ob,e _ _ n q,r⟩
theorem IsTupleIter.but {h h':RS} {c i l:QD} {k:Nat} (x:h.IsTupleIter i l k) (e:Wt c h h') (n:i≠c):h'.IsTupleIter i l k:=let ⟨ob,q,r⟩:=x;⟨ob,e _ _ n q,r⟩
theorem ZSt.frame {xs ys:Array QE} {z TI TO i1 i2 l1 l2:QD} {k:Nat} {h h':RS} (x:ZSt xs ys z TI TO i1 i2 l1 l2 k h)
 (e:∀ b o,o.cls≠.type "list"->h.get? b=some o->h'.get? b=some o):ZSt xs ys z TI TO i1 i2 l1 l2 k h':=by
 obtain ⟨D,hz,hTI,⟨a,b,hTO⟩,⟨o1,a1,a2,a3⟩,⟨o2,b1,b2,b3⟩,⟨o3,c1,c2,c3⟩,⟨o4,d1,d2,d3⟩⟩:=x;refine ⟨D,?_,e _ _ (by simp) hTI,⟨a,b,e _ _ (by simp) hTO⟩,⟨o1,e _ _ (by rw [a2];simp) a1,a2,a3⟩,⟨o2,e _ _ (by rw [b2];simp) b1,b2,b3⟩,⟨o3,e _ _ (by rw [c2];simp) c1,c2,c3⟩,⟨o4,e _ _ (by rw [d2];simp) d1,d2,d3⟩⟩;rcases hz with g | ⟨T,b,u,v,g,g2,g3⟩
 · exact .inl (e _ _ (by simp) g)
 · exact .inr ⟨T,b,u,v,e _ _ (by simp) g,e _ _ (by simp) g2,g3⟩
end
end PySem
namespace PySem
open Sem (wp)
section
variable {prog:QR} {w:Q3} {A:Rr} {E:QE->QJ->Prop} {s:QJ}
theorem bb_zip_itemA {z TI TO i1 i2 l1 l2:QD} {k:Nat} {xs ys:Array QE} {x y a b:QE} {Q:QE->QJ->Prop} (D:Wj z TI TO i1 i2 l1 l2)
 (hz:VU s.heap z TI TO .none) (hTI:SO s.heap TI (.ref i1) (.ref i2)) (hTO:SO s.heap TO a b)
 (h1:s.heap.IsTupleIter i1 l1 k) (h2:s.heap.IsTupleIter i2 l2 k) (xY:s.heap.IsTuple l1 xs) (xD:s.heap.IsTuple l2 ys) (hx:xs[k]?=some x) (hy:ys[k]?=some y)
 (hQ:∀ h',VU h' z TI TO (S3 s.heap.objs.size)->SO h' TO x y->h'.IsTupleIter i1 l1 (k+1)->h'.IsTupleIter i2 l2 (k+1)->SO h' s.heap.objs.size x y->h'.objs.size=s.heap.objs.size+1 →
  (∀ c o,c≠z->c≠TO->c≠i1->c≠i2->s.heap.get? c=some o->h'.get? c=some o)->Q (.ref s.heap.objs.size) { s with heap:=h' }) :
 QU (Ra prog w) A (Tj.«zip.__next__» ⟨[.ref z],[]⟩) (fun fin s'=>∃ v,fin=.done (.ret v)/\Q v s') E s:=by
 show QU _ _ (field (.ref z) 2 >>= _) _ _ _;refine Qz (Rx hz rfl (x:=.bool false) rfl ?_);show QU _ _ (field (.ref z) 3 >>= _) _ _ _;refine Qz (Rx hz rfl (x:=.ref TI) rfl ?_);refine Qz (RZ hTI rfl ?_);show QU _ _ (RI (.ref z) >>= _) _ _ _;refine Qz ?_;unfold RI;refine Qz (Rx hz rfl (x:=.none) rfl (QI ?_));simp only [if_true];refine Qz (Tv ?_);refine Qz (Rx hz rfl (x:=.ref TO) rfl ?_);refine Qz (Tu hz (by simp) fun wW xn wJ=>?_);replace xn:VU wW z TI TO .ellipsis:=xn;refine Qz ?_;simp only [List.zipIdx_cons,List.zipIdx_nil,UD,VT];refine Qz (Qz (wpAny_onRaise ?_));show QU _ _ (Rz (.ref i1) >>= _) _ _ _;refine Qz (bb_tupNext (IsTupleIter.but h1 wJ.extBut D.i1z) (IsTuple.but xY wJ.extBut D.l1z) hx fun xE y6 wO=>QI ?_);have ye:SO xE TO a b:=wO.extBut _ _ D.TOi1 (wJ.extBut _ _ D.TOz hTO);refine Qz (RZ ye rfl ?_);refine Qz (Wg ye fun yV yF xk=>?_);replace yF:SO yV TO x b:=yF;refine Qz (VA (QI ?_));refine Qz (Qz (wpAny_onRaise ?_));show QU _ _ (Rz (.ref i2) >>= _) _ _ _
 refine Qz (bb_tupNext (IsTupleIter.but (IsTupleIter.but (IsTupleIter.but h2 wJ.extBut D.i2z) wO.extBut D.i12.symm) xk.extBut D.TOi2.symm)
  (IsTuple.but (IsTuple.but (IsTuple.but xD wJ.extBut D.l2z) wO.extBut D.l2i1) xk.extBut D.l2TO) hy fun xp AN xh=>QI ?_)
 have AO:SO xp TO x b:=xh.extBut _ _ D.TOi2 yF;refine Qz (RZ AO rfl ?_);refine Qz (Wg AO fun xq yG xS=>?_);replace yG:SO xq TO x y:=yG;refine Qz (VA (QI (QI ?_)));refine Qz (RZ yG rfl ?_);refine Qz (wpAny_newTuple ?_);have hsz:xq.objs.size=s.heap.objs.size:=by rw [xS.1,xh.1,xk.1,wO.1,wJ.1]
 have Ci:VU xq z TI TO .ellipsis:=xS.extBut _ _ D.TOz.symm (xh.extBut _ _ D.i2z.symm (xk.extBut _ _ D.TOz.symm (wO.extBut _ _ D.i1z.symm xn)))
 have EO:∀ c o,c≠z->c≠TO->c≠i1->c≠i2->s.heap.get? c=some o->xq.get? c=some o:=fun c o c1 c2 c3 c4 e =>
  xS.extBut _ _ c2 (xh.extBut _ _ c4 (xk.extBut _ _ c2 (wO.extBut _ _ c3 (wJ.extBut _ _ c1 e))))
 have ER:xq.IsTupleIter i1 l1 (k+1):=IsTupleIter.but (IsTupleIter.but (IsTupleIter.but y6 xk.extBut D.TOi1.symm) xh.extBut D.i12) xS.extBut D.TOi1.symm;have ES:xq.IsTupleIter i2 l2 (k+1):=IsTupleIter.but AN xS.extBut D.TOi2.symm;have ET:z<xq.objs.size:=QT Ci;show QU _ _ (Builtin.SmallTypes.ownedTupleHandOut (.ref z) (.ref xq.objs.size) >>= _) _ _ _;refine Qz ?_;unfold Builtin.SmallTypes.ownedTupleHandOut;have EU:VU (xq.push { cls:=.type "tuple",data:=.seq #[x,y] }) z TI TO .ellipsis:=QG _ Ci;refine Qz (Tu EU (by simp) fun Ir AQ AR=>?_);replace AQ:VU Ir z TI TO (S3 xq.objs.size):=AQ;refine Tu AQ (by simp) fun AS zM AU=>?_;replace zM:VU AS z TI TO (S3 xq.objs.size):=zM;have up:∀ c o,c≠z->xq.get? c=some o->AS.get? c=some o:=fun c o c1 e=>AU.extBut _ _ c1 (AR.extBut _ _ c1 (QG _ e));have Cj:SO AS xq.objs.size x y:=AU.extBut _ _ (Ug ET) (AR.extBut _ _ (Ug ET) (QQ _ rfl));have Li:AS.objs.size=xq.objs.size+1:=by rw [AU.1,AR.1,RR]
 rw [hsz] at zM Cj Li;refine QI ⟨_,rfl,?_⟩;show Q (.ref xq.objs.size) _;rw [hsz];refine hQ AS zM (up _ _ D.TOz yG) ?_ ?_ Cj Li fun c o c1 c2 c3 c4 e=>up c o c1 (EO c o c1 c2 c3 c4 e)
 · obtain ⟨o,e,r⟩:=ER;exact ⟨o,up _ o D.i1z e,r⟩
 · obtain ⟨o,e,r⟩:=ES;exact ⟨o,up _ o D.i2z e,r⟩
theorem bb_loadIfAlive {a:QD} {o:SQ} {Q:Option SQ->QJ->Prop} (hQ:∀ u,some o=some u->Q (some u) s) (h:s.heap.get? a=some o):QU (Ra prog w) A (loadIfAlive a) Q E s:=by
 intro Γ p PH;show Sem.wp _ _ (.loadIfAlive a .pure) _ _ _ _;rw [Sem.wp_loadIfAlive,h];exact hQ o rfl
theorem bb_notfree {z T:QD} {b:Bool} {f2 TI TO u v:QE} (hz:s.heap.get? z=some { cls:=.type "zip",data:=.fields #[S3 T,.bool b,f2,TI,TO] }) (hT:SO s.heap T u v) :
 QU (Ra prog w) A (RI (.ref z)) (fun a s1=>a=false/\∃ wW,s1={ s with heap:=wW }/\wW.get? z=some { cls:=.type "zip",data:=.fields #[S3 T,.bool true,f2,TI,TO] }/\Ss z s.heap wW) E s:=by
 unfold RI;refine Qz (Rx hz rfl (x:=S3 T) rfl ?_);show QU _ _ (loadIfAlive (T:Int).toNat >>= _) _ _ _;rw [RH];refine Qz (bb_loadIfAlive (fun o (e:some _=some o)=>?_) hT);cases e;show QU _ _ (if (some _:Option SQ).isNone=true then _ else _) _ _ _;rw [if_neg (show ¬ ((some _:Option SQ).isNone=true) from Q0)];refine Qz (Rx hz rfl (x:=.bool b) rfl ?_);cases b with
 | true=>exact QI ⟨rfl,s.heap,rfl,hz,rfl,fun _ _=>rfl⟩
 | false=>exact Qz (Tu hz (by simp) fun wW xn wJ=>QI ⟨rfl,wW,rfl,xn,wJ⟩)
theorem bb_zip_itemB {z TI TO i1 i2 l1 l2 T:QD} {k:Nat} {xs ys:Array QE} {x y u v:QE} {b:Bool} {Q:QE->QJ->Prop} (D:Wj z TI TO i1 i2 l1 l2)
 (hz:s.heap.get? z=some { cls:=.type "zip",data:=.fields #[S3 T,.bool b,.bool false,.ref TI,.ref TO] }) (hT:SO s.heap T u v) (hTI:SO s.heap TI (.ref i1) (.ref i2))
 (h1:s.heap.IsTupleIter i1 l1 k) (h2:s.heap.IsTupleIter i2 l2 k) (xY:s.heap.IsTuple l1 xs) (xD:s.heap.IsTuple l2 ys) (hx:xs[k]?=some x) (hy:ys[k]?=some y)
 (hQ:∀ h',h'.get? z=some { cls:=.type "zip",data:=.fields #[S3 T,.bool true,.bool false,.ref TI,.ref TO] }->h'.IsTupleIter i1 l1 (k+1)->h'.IsTupleIter i2 l2 (k+1)->SO h' s.heap.objs.size x y->h'.objs.size=s.heap.objs.size+1 →
  (∀ c o,c≠z->c≠i1->c≠i2->s.heap.get? c=some o->h'.get? c=some o)->Q (.ref s.heap.objs.size) { s with heap:=h' }) :
 QU (Ra prog w) A (Tj.«zip.__next__» ⟨[.ref z],[]⟩) (fun fin s'=>∃ v,fin=.done (.ret v)/\Q v s') E s:=by
 show QU _ _ (field (.ref z) 2 >>= _) _ _ _;refine Qz (Rx hz rfl (x:=.bool false) rfl ?_);show QU _ _ (field (.ref z) 3 >>= _) _ _ _;refine Qz (Rx hz rfl (x:=.ref TI) rfl ?_);refine Qz (RZ hTI rfl ?_);show QU _ _ (RI (.ref z) >>= _) _ _ _;refine Qz (SH (bb_notfree hz hT) (fun a s1 ⟨e1,wW,e2,xn,wJ⟩=>?_) fun _ _ x=>x);subst e1 e2;simp only [RQ,if_false];rw [<- UG];refine Qz ?_;simp only [UD,VT];refine Qz (Qz (R1 ?_));show QU _ _ (Rz (.ref i1) >>= _) _ _ _;refine Qz (bb_tupNext (IsTupleIter.but h1 wJ.extBut D.i1z) (IsTuple.but xY wJ.extBut D.l1z) hx fun xE y6 wO=>QI (QI ?_));refine Qz (Qz (R1 ?_));show QU _ _ (Rz (.ref i2) >>= _) _ _ _;refine Qz (bb_tupNext (IsTupleIter.but (IsTupleIter.but h2 wJ.extBut D.i2z) wO.extBut D.i12.symm) (IsTuple.but (IsTuple.but xD wJ.extBut D.l2z) wO.extBut D.l2i1) hy fun xp AN xh=>QI (QI (QI ?_)));refine Qz (wpAny_newTuple (hsz:=by show 2<=QW;decide) (QI ⟨_,rfl,?_⟩));have hsz:xp.objs.size=s.heap.objs.size:=by rw [xh.1,wO.1,wJ.1]
 show Q (.ref xp.objs.size) { s with heap:=xp.push { cls:=.type "tuple",data:=.seq #[x,y] } };have Ck:SO (xp.push { cls:=.type "tuple",data:=.seq #[x,y] }) xp.objs.size x y:=QQ _ rfl;have yP:(xp.push { cls:=.type "tuple",data:=.seq #[x,y] }).objs.size=xp.objs.size+1:=RR ..;have EV:=IsTupleIter.but y6 xh.extBut D.i12;rw [hsz] at Ck yP;rw [hsz];refine hQ _ (QG _ (xh.extBut _ _ D.i2z.symm (wO.extBut _ _ D.i1z.symm xn))) ?_ ?_ Ck yP fun c o c1 c3 c4 e=>QG _ (xh.extBut _ _ c4 (wO.extBut _ _ c3 (wJ.extBut _ _ c1 e)))
 · obtain ⟨o,e,r⟩:=EV;exact ⟨o,QG _ e,r⟩
 · obtain ⟨o,e,r⟩:=AN;exact ⟨o,QG _ e,r⟩
theorem bb_zip_end {z TI TO i1 i2 l1 l2:QD} {k:Nat} {xs ys:Array QE} {Q:Fin->QJ->Prop} (hh:A.handled=none)
 (S:ZSt xs ys z TI TO i1 i2 l1 l2 k s.heap) (y8:xs[k]?=none∨ys[k]?=none)
 (hE:∀ h' e,(∀ c o,c≠z->c≠TO->c≠i1->c≠i2->s.heap.get? c=some o->h'.get? c=some o)->(∃ o,h'.get? e=some o/\o.cls=.type "StopIteration")->E (.ref e) { s with heap:=h' }) :
 QU (Ra prog w) A (Tj.«zip.__next__» ⟨[.ref z],[]⟩) Q E s:=by
 obtain ⟨D,hz,hTI,⟨a,b,hTO⟩,h1,h2,xY,xD⟩:=S;rcases hz with hz | ⟨T,bb,u,v,hz,hT,Lj⟩
 · show QU _ _ (field (.ref z) 2 >>= _) _ _ _;refine Qz (Rx hz rfl (x:=.bool false) rfl ?_);show QU _ _ (field (.ref z) 3 >>= _) _ _ _;refine Qz (Rx hz rfl (x:=.ref TI) rfl ?_);refine Qz (RZ hTI rfl ?_);show QU _ _ (RI (.ref z) >>= _) _ _ _;refine Qz ?_;unfold RI;refine Qz (Rx hz rfl (x:=.none) rfl (QI ?_));simp only [if_true];refine Qz (Tv ?_);refine Qz (Rx hz rfl (x:=.ref TO) rfl ?_);refine Qz (Tu hz (by simp) fun wW xn wJ=>?_);replace xn:VU wW z TI TO .ellipsis:=xn;refine Qz ?_;simp only [List.zipIdx_cons,List.zipIdx_nil,UD,VT];refine Qz (Qz (wpAny_onRaise ?_));show QU _ _ (Rz (.ref i1) >>= _) _ _ _;cases hx:xs[k]? with
   | none =>
     refine Qz (bb_tupEnd hh (IsTupleIter.but h1 wJ.extBut D.i1z) (IsTuple.but xY wJ.extBut D.l1z) hx fun xE e wO he=>?_);obtain ⟨oe,C0,EW⟩:=he;have Cm:VU xE z TI TO .ellipsis:=wO _ _ D.i1z.symm xn;have Iu:e≠z:=fun x=>by subst x;rw [Cm] at C0;cases C0;simp at EW
     refine Tu Cm (by simp) fun yV _ xk=>hE yV e (fun c o c1 _ c3 _ x=>xk.extBut _ _ c1 (wO _ _ c3 (wJ.extBut _ _ c1 x))) ⟨oe,xk.extBut _ _ Iu C0,EW⟩
   | some x =>
     have hy:ys[k]?=none:=by rcases y8 with h | h;rw [hx] at h;cases h;exact h
     refine Qz (bb_tupNext (IsTupleIter.but h1 wJ.extBut D.i1z) (IsTuple.but xY wJ.extBut D.l1z) hx fun xE y6 wO=>QI ?_);have ye:SO xE TO a b:=wO.extBut _ _ D.TOi1 (wJ.extBut _ _ D.TOz hTO);refine Qz (RZ ye rfl ?_);refine Qz (Wg ye fun yV yF xk=>?_);refine Qz (VA (QI ?_));refine Qz (Qz (wpAny_onRaise ?_));show QU _ _ (Rz (.ref i2) >>= _) _ _ _
     refine Qz (bb_tupEnd hh (IsTupleIter.but (IsTupleIter.but (IsTupleIter.but h2 wJ.extBut D.i2z) wO.extBut D.i12.symm) xk.extBut D.TOi2.symm)
      (IsTuple.but (IsTuple.but (IsTuple.but xD wJ.extBut D.l2z) wO.extBut D.l2i1) xk.extBut D.l2TO) hy fun xp e xh he=>?_)
     obtain ⟨oe,C0,EW⟩:=he;have Cn:VU xp z TI TO .ellipsis:=xh _ _ D.i2z.symm (xk.extBut _ _ D.TOz.symm (wO.extBut _ _ D.i1z.symm xn));have Iu:e≠z:=fun x=>by subst x;rw [Cn] at C0;cases C0;simp at EW
     refine Tu Cn (by simp) fun xq _ xS=>hE xq e (fun c o c1 c2 c3 c4 x=>xS.extBut _ _ c1 (xh _ _ c4 (xk.extBut _ _ c2 (wO.extBut _ _ c3 (wJ.extBut _ _ c1 x))))) ⟨oe,xS.extBut _ _ Iu C0,EW⟩
 · show QU _ _ (field (.ref z) 2 >>= _) _ _ _;refine Qz (Rx hz rfl (x:=.bool false) rfl ?_);show QU _ _ (field (.ref z) 3 >>= _) _ _ _;refine Qz (Rx hz rfl (x:=.ref TI) rfl ?_);refine Qz (RZ hTI rfl ?_);show QU _ _ (RI (.ref z) >>= _) _ _ _;refine Qz (SH (bb_notfree hz hT) (fun a s1 ⟨e1,wW,e2,xn,wJ⟩=>?_) fun _ _ x=>x);subst e1 e2;simp only [RQ,if_false];rw [<- UG];refine Qz ?_;simp only [UD,VT];refine Qz (Qz (R1 ?_));show QU _ _ (Rz (.ref i1) >>= _) _ _ _;cases hx:xs[k]? with
   | none =>
     refine Qz (bb_tupEnd hh (IsTupleIter.but h1 wJ.extBut D.i1z) (IsTuple.but xY wJ.extBut D.l1z) hx fun xE e wO he=>?_);exact hE xE e (fun c o c1 _ c3 _ x=>wO _ _ c3 (wJ.extBut _ _ c1 x)) he
   | some x =>
     have hy:ys[k]?=none:=by rcases y8 with h | h;rw [hx] at h;cases h;exact h
     refine Qz (bb_tupNext (IsTupleIter.but h1 wJ.extBut D.i1z) (IsTuple.but xY wJ.extBut D.l1z) hx fun xE y6 wO=>QI (QI ?_));refine Qz (Qz (R1 ?_));show QU _ _ (Rz (.ref i2) >>= _) _ _ _;refine Qz (bb_tupEnd hh (IsTupleIter.but (IsTupleIter.but h2 wJ.extBut D.i2z) wO.extBut D.i12.symm) (IsTuple.but (IsTuple.but xD wJ.extBut D.l2z) wO.extBut D.l2i1) hy fun xp e xh he=>?_);exact hE xp e (fun c o c1 _ c3 c4 x=>xh _ _ c4 (wO.extBut _ _ c3 (wJ.extBut _ _ c1 x))) he
theorem bb_zip_next {z TI TO i1 i2 l1 l2:QD} {k:Nat} {xs ys:Array QE} {x y:QE} {Q:Option QE->QJ->Prop} (S:ZSt xs ys z TI TO i1 i2 l1 l2 k s.heap) (hx:xs[k]?=some x) (hy:ys[k]?=some y)
 (hQ:∀ h',ZSt xs ys z TI TO i1 i2 l1 l2 (k+1) h'->SO h' s.heap.objs.size x y->h'.objs.size=s.heap.objs.size+1 →
  (∀ c o,c∉[z,TO,i1,i2]->s.heap.get? c=some o->h'.get? c=some o)->Q (some (.ref s.heap.objs.size)) { s with heap:=h' }) :
 QU (Ra prog w) A (TJ (.ref z)) Q E s:=by
 have hT:=S.typeIs;obtain ⟨D,hz,hTI,⟨a,b,hTO⟩,h1,h2,xY,xD⟩:=S;have n1:s.heap.objs.size≠TO:=Ug (QT hTO);unfold TJ;refine Qz (TH (RE (name:=QK "__next__") hT Uc (RL Uc hT F.entry_zip_next ?_ (F.args_zip_next_1 _))));rcases hz with hz | ⟨T,bb,u,v,hz,Ck,Lj⟩
 · refine bb_zip_itemA D hz hTI hTO h1 h2 xY xD hx hy fun h' a1 a2 a3 a4 a5 a6 a7=>QI ?_;refine hQ h' ⟨D,.inr ⟨_,_,_,_,a1,a5,n1⟩,a7 _ _ D.TIz D.TITO D.TIi1 D.TIi2 hTI,⟨_,_,a2⟩,a3,a4,?_,?_⟩ a5 a6 fun c o hc e=>a7 c o (fun q=>hc (by simp [q])) (fun q=>hc (by simp [q])) (fun q=>hc (by simp [q])) (fun q=>hc (by simp [q])) e
   · obtain ⟨o,e,r⟩:=xY;exact ⟨o,a7 _ _ D.l1z D.l1TO D.l1i1 D.l1i2 e,r⟩
   · obtain ⟨o,e,r⟩:=xD;exact ⟨o,a7 _ _ D.l2z D.l2TO D.l2i1 D.l2i2 e,r⟩
 · refine bb_zip_itemB D hz Ck hTI h1 h2 xY xD hx hy fun h' a1 a3 a4 a5 a6 a7=>QI ?_;have Nc:T≠z:=by rintro rfl;exact absurd (So (congrArg Obj.cls (Q8 (hz.symm.trans Ck)))) (by decide)
   have Iv:T≠i1:=by rintro rfl;obtain ⟨o,e,c,_⟩:=h1;have e2:=Q8 (Ck.symm.trans e);rw [<- e2] at c;exact absurd (So c) (by decide)
   have Iw:T≠i2:=by rintro rfl;obtain ⟨o,e,c,_⟩:=h2;have e2:=Q8 (Ck.symm.trans e);rw [<- e2] at c;exact absurd (So c) (by decide)
   refine hQ h' ⟨D,.inr ⟨T,true,u,v,a1,a7 _ _ Nc Iv Iw Ck,Lj⟩,a7 _ _ D.TIz D.TIi1 D.TIi2 hTI,⟨a,b,a7 _ _ D.TOz D.TOi1 D.TOi2 hTO⟩,a3,a4,?_,?_⟩ a5 a6 fun c o hc e=>a7 c o (fun q=>hc (by simp [q])) (fun q=>hc (by simp [q])) (fun q=>hc (by simp [q])) e
   · obtain ⟨o,e,r⟩:=xY;exact ⟨o,a7 _ _ D.l1z D.l1i1 D.l1i2 e,r⟩
   · obtain ⟨o,e,r⟩:=xD;exact ⟨o,a7 _ _ D.l2z D.l2i1 D.l2i2 e,r⟩
theorem bb_zip_done {z TI TO i1 i2 l1 l2:QD} {k:Nat} {xs ys:Array QE} {Q:Option QE->QJ->Prop} (hh:A.handled=none) (S:ZSt xs ys z TI TO i1 i2 l1 l2 k s.heap) (y8:xs[k]?=none∨ys[k]?=none)
 (hQ:∀ h',(∀ c o,c∉[z,TO,i1,i2]->s.heap.get? c=some o->h'.get? c=some o)->Q none { s with heap:=h' }):QU (Ra prog w) A (TJ (.ref z)) Q E s:=by
 have hT:=S.typeIs;unfold TJ
 refine Qz (TH (RE (name:=QK "__next__") hT Uc
  (RL Uc hT F.entry_zip_next (bb_zip_end hh S y8 fun h' e hk he=>?_) (F.args_zip_next_1 _))))
 obtain ⟨o,ho,hc⟩:=he;refine Qz (Tn (T:="StopIteration") (b:=true) ⟨o,ho,hc⟩ isSubtype_stop ?_);exact QI (hQ _ fun c o hc=>hk c o (fun q=>hc (by simp [q])) (fun q=>hc (by simp [q])) (fun q=>hc (by simp [q])) (fun q=>hc (by simp [q])))
theorem bb_zip_iter {z TI TO i1 i2 l1 l2:QD} {k:Nat} {xs ys:Array QE} {Q:QE->QJ->Prop} (S:ZSt xs ys z TI TO i1 i2 l1 l2 k s.heap) (h:Q (.ref z) s):QU (Ra prog w) A (pyIter (.ref z)) Q E s:=by
 have hT:=S.typeIs;refine wpAny_pyIter_slot hT F.slot_zip_iter (RL F.slot_zip_iter hT F.entry_zip_iter ?_ (F.args_zip_iter_1 _));show QU _ _ (ret (.ref z)) _ _ s;exact QI ⟨_,rfl,"zip",_,hT,Uc.lookup,h⟩
end
end PySem
namespace PySem
open Sem (wp)
namespace F
theorem bb_nolen_zip:Uq (.type "zip") "__len__"=pure none:=by rw [Sz,RV];kernel_rfl
theorem bb_nohint_zip:Uq (.type "zip") "__length_hint__"=pure none:=by rw [Sz,RV];kernel_rfl
end F
def ZIt (xs ys:Array QE) (n0:Nat) (h:RS) (acc:Array QE) (k:Nat):Prop:=acc.size=k/\∀ (j:Nat) (v:QE),acc[j]?=some v->∃ (T:QD) (x y:QE),v=Q9 T/\n0<=T/\SO h T x y/\xs[j]?=some x/\ys[j]?=some y
section
variable {prog:QR} {w:Q3} {A:Rr} {R:Result->QJ->Prop}
theorem bb_zip_loop {z TI TO i1 i2 l1 l2 S:QD} {xs ys:Array QE} {n n0:Nat} (hh:A.in1.handled=none) (hn:n=min xs.size ys.size) (hz:n<=QW) (GQ:S∉[z,TO,i1,i2]) (hf:∀ c∈[z,TO,i1,i2],c<n0) (res:QE) :
 ∀ (k i:Nat) (s:QJ) (acc:Array QE) (c:Nat),n - i=k->i<=n->ZSt xs ys z TI TO i1 i2 l1 l2 i s.heap->n0<=s.heap.objs.size->s.heap.get? S=some { cls:=.type "list",dict:=none,data:=.seq acc c,slots:=#[] }->ZIt xs ys n0 s.heap acc i →
 (∀ h' xF c',(∀ b o,b≠S->b∉[z,TO,i1,i2]->s.heap.get? b=some o->h'.get? b=some o)->h'.get? S=some { cls:=.type "list",dict:=none,data:=.seq xF c',slots:=#[] }->ZIt xs ys n0 h' xF n->R (.ok (.ret res)) { s with heap:=h' }) →
 UZ (Ra prog w) A (.builtin "list.extend.loop" ⟨[.ref S,.ref z,res],[]⟩) R s:=by
 intro k;have Co:∀ {T:QD},n0<=T->T∉[z,TO,i1,i2]:=fun h m=>absurd (hf _ m) (Va.mpr h);induction k with
 | zero =>
   intro i s acc c hk hi xO h0 hS wR hR;have Bs:i=n:=by omega
   subst Bs;refine UN Vm ?_;rw [TF R9 _];show QU _ A.in1 (TJ (.ref z) >>= _) _ _ s
   have y8:xs[i]?=none∨ys[i]?=none:=by
    rcases Nat.le_total xs.size ys.size with h | h
    · exact .inl (UM (by omega))
    · exact .inr (UM (by omega))
   refine Qz (bb_zip_done hh xO y8 fun h' ym=>QI ?_);refine hR h' acc c (fun b o _ hb e=>ym b o hb e) (ym _ _ GQ hS) ⟨wR.1,fun j v hv=>?_⟩;obtain ⟨T,x,y,e1,e2,e3,e4⟩:=wR.2 j v hv;exact ⟨T,x,y,e1,e2,ym _ _ (Co e2) e3,e4⟩
 | succ k ih =>
   intro i s acc c hk hi xO h0 hS wR hR;have wX:i<n:=by omega
   refine UN Vm ?_;rw [TF R9 _];show QU _ A.in1 (TJ (.ref z) >>= _) _ _ s;have hx:xs[i]?=some xs[i]:=SG (by omega);have hy:ys[i]?=some ys[i]:=SG (by omega);refine Qz (bb_zip_next xO hx hy fun h' Iy hT hsz ym=>?_);have Ao:=ym S _ GQ hS;have Iz:S<s.heap.objs.size:=QT hS;show QU _ A.in1 (Vs S (·.push (.ref s.heap.objs.size)) >>= _) _ _ _;refine Qz ?_;have yY:∀ b o,b≠S->h'.get? b=some o->(h'.update S (RM (·.push (Q9 s.heap.objs.size)))).get? b=some o:=fun b o hb e=>(Ru _ _ (Sr hb)).trans e
   refine Sq Ao rfl (QI ⟨TL R9 _,ih (i+1) _ (acc.push (.ref s.heap.objs.size)) _ (by omega) wX (Iy.frame fun b o ho e=>yY b o (fun z=>?_) e) ?_ (Rn _ Ao rfl) ?_ fun IC xF c' C1 C2 AV=>?_⟩)
    (by rw [wR.1];omega) (by show (acc.push _).size<=QW+1;rw [Array.size_push,wR.1];omega)
   · rw [z,Ao] at e;cases e;exact ho rfl
   · show n0<=(h'.update S _).objs.size;rw [U8];omega
   · refine ⟨by rw [Array.size_push,wR.1],fun j v hv=>?_⟩;rw [Array.getElem?_push] at hv;split at hv
     · rename_i e
       rw [wR.1] at e;cases hv;subst e;exact ⟨_,_,_,rfl,h0,yY _ _ (Ug Iz) hT,hx,hy⟩
     · obtain ⟨T,x,y,e1,e2,e3,e4⟩:=wR.2 j v hv
       have Nf:T≠S:=by
        rintro rfl;exact absurd (So (congrArg Obj.cls (Q8 (e3.symm.trans hS)))) (by decide)
       exact ⟨T,x,y,e1,e2,yY _ _ Nf (ym _ _ (Co e2) e3),e4⟩
   · exact hR IC xF c' (fun b o hb xb e=>C1 b o hb xb (yY b o hb (ym b o xb e))) C2 AV
end
section
variable {prog:QR} {w:Q3} {A:Rr} {E:QE->QJ->Prop} {s:QJ}
theorem bb_list_zip {z TI TO i1 i2 l1 l2:QD} {xs ys:Array QE} {n n0:Nat} {Q:QE->QJ->Prop} (hh:A.in1.in1.handled=none) (xO:ZSt xs ys z TI TO i1 i2 l1 l2 0 s.heap) (hn:n=min xs.size ys.size) (hz:n<=QW) (h0:n0<=s.heap.objs.size) (hf:∀ c∈[z,TO,i1,i2],c<n0)
 (hQ:∀ h' acc c,(∀ b o,b∉[z,TO,i1,i2]->s.heap.get? b=some o->h'.get? b=some o)->h'.get? s.heap.objs.size=some { cls:=.type "list",dict:=none,data:=.seq acc c,slots:=#[] }->ZIt xs ys n0 h' acc n->Q (.ref s.heap.objs.size) { s with heap:=h' }) :
 QU (Ra prog w) A (call (.type "list") [.ref z]) Q E s:=by
 have D1:s.heap.objs.size∉[z,TO,i1,i2]:=fun hm=>absurd (hf _ hm) (Va.mpr h0);have Ig:s.heap.objs.size≠z:=fun e=>D1 (by simp [e])
 refine Wi (Q₁:=fun obj wI=>obj=.ref s.heap.objs.size/\wI={ s with heap:=s.heap.push { cls:=.type "list",data:=.seq #[] } }) F.called_list (F.typeCall_list_1 _) F.entry_list_init
  (code_list_new _ ⟨rfl,rfl⟩) fun obj wI wW=>?_
 obtain ⟨rfl,rfl⟩:=wW;have hS:(s.heap.push { cls:=.type "list",data:=.seq #[] }).get? s.heap.objs.size=some { cls:=.type "list",data:=.seq #[] }:=QQ _ rfl;refine ⟨⟨_,hS,rfl⟩,F.args_list_init_2 _ _,?_⟩;show QU _ A.in1.in1 (do let old ← Ti (.ref s.heap.objs.size);VW (.ref s.heap.objs.size) (fun _=>#[]);letGo old.toList.reverse;SF (.ref s.heap.objs.size) (.ref z) .none) _ _ _;refine Qz ?_;unfold Ti;refine Qz (RZ hS rfl (QI ?_));refine Qz (Sq hS rfl ?_);have xQ:=Rn (RM (fun _=>(#[]:Array QE))) hS rfl;refine Qz (VA ?_);have zX:((s.heap.push { cls:=.type "list",data:=.seq #[] }).update s.heap.objs.size (RM (fun _=>(#[]:Array QE)))).objs.size=s.heap.objs.size+1:=by rw [U8,RR]
 generalize hH:(s.heap.push { cls:=.type "list",data:=.seq #[] }).update s.heap.objs.size (RM (fun _=>(#[]:Array QE)))=H2 at xQ zX ⊢
 have old:∀ b o,s.heap.get? b=some o->H2.get? b=some o:=fun b o e=>by
  rw [<- hH,Ru _ _ (Sr (Rh (QT e)))];exact QG _ e
 obtain ⟨c2,BE⟩:∃ c,H2.get? s.heap.objs.size=some { cls:=.type "list",data:=.seq #[] c }:=⟨_,xQ⟩;have zq:ZSt xs ys z TI TO i1 i2 l1 l2 0 H2:=xO.frame fun b o _ e=>old b o e;have EX:({ s with heap:=H2 }:QJ).TypeIs (.ref z) "zip":=zq.typeIs;unfold SF;refine Qz (Tf EX ?_);have h1:SX (.ref s.heap.objs.size) (.ref z)=false:=by simp [SX,Ig]
 have h2:(S6 "zip" == S6 "list")=false:=by decide
 have h3:(S6 "zip" == S6 "tuple")=false:=by decide
 simp only [h1,h2,h3,V9,RQ,if_false];refine Qz (bb_zip_iter zq ?_);refine Qz (R1 ?_);unfold Tg;refine Qz (Sa EX F.bb_nolen_zip ?_);show QU _ _ (specialOf (Q9 z) (QK "__length_hint__") >>= _) _ _ _;refine Qz (Sa EX F.bb_nohint_zip ?_);refine QI ?_
 have key:∀ (h:RS) (c₁:Nat),ZSt xs ys z TI TO i1 i2 l1 l2 0 h->n0<=h.objs.size->(∀ b o,b≠s.heap.objs.size->H2.get? b=some o->h.get? b=some o)->h.get? s.heap.objs.size=some { cls:=.type "list",data:=.seq #[] c₁ } →
  UZ (Ra prog w) A.in1 (.builtin "list.extend.loop" ⟨[.ref s.heap.objs.size,.ref z,.none],[]⟩) (wants (fun r xo=>r=.none/\Q (.ref s.heap.objs.size) xo) E) { s with heap:=h }:=by
  intro h c₁ hs CV hk yW;refine bb_zip_loop hh hn hz D1 hf .none n 0 _ #[] c₁ rfl (Q7 _) hs CV yW ⟨rfl,fun j v e=>by simp at e⟩ fun h' xF c' hm Ao wR=>?_;exact ⟨rfl,hQ h' xF c' (fun b o hb e=>hm b o (Rh (QT e)) hb (hk b o (Rh (QT e)) (old b o e))) Ao wR⟩
 show QU _ _ (rule "list.extend.makes-room" >>= fun _=>Builtin.List.listTouch (.ref s.heap.objs.size) >>= fun _=>again (.builtin "list.extend.loop" ⟨[.ref s.heap.objs.size,.ref z,.none],[]⟩)) _ _ _;refine Qz (Tv ?_);refine Qz ?_;show QU _ _ (Vs s.heap.objs.size (·.push .none) >>= fun _=>Vs s.heap.objs.size (·.pop)) _ _ _;refine Qz (Sq BE rfl ?_);have xR:=Rn (RM (·.push R4)) BE rfl;refine Sq (hz:=by seq_fits) xR rfl ?_;have yX:=Rn (RM (·.pop)) xR rfl
 have yY:∀ b o,b≠s.heap.objs.size->H2.get? b=some o->((H2.update s.heap.objs.size (RM (·.push R4))).update s.heap.objs.size (RM (·.pop))).get? b=some o :=
  fun b o hb e=>(Ru _ _ (Sr hb)).trans ((Ru _ _ (Sr hb)).trans e)
 refine QI ⟨TL R9 _,key _ _ (zq.frame fun b o ho e=>yY b o (fun q=>?_) e) ?_ yY yX⟩
 · rw [q,BE] at e;cases e;exact ho rfl
 · rw [U8,U8];show n0<=H2.objs.size;omega
end
end PySem
namespace L2
open PySem PySem.Spec PyProof.Rows
theorem Inv.laidAll {X:Cx} {pins:List (QD×SQ)} {σ:St} {H H':Hp} {s:QJ} {h':RS} {t':Nat} (I:Inv X pins σ H s) (k:∀ b u,s.heap.get? b=some u->h'.get? b=some u)
 (old:∀ b,b<s.heap.objs.size->H' b=H b) (new:∀ b u,s.heap.objs.size<=b->H' b=some u->ObjOk X.prog X.w H' h' b u):Inv X pins σ H' { s with heap:=h',toks:=t' }:=by
 have sm:∀ b u,H b=some u->H' b=some u:=fun b u e=>by rw [old b (I.hok.lt e)];exact e
 refine I.un ⟨fun b u q _ _ _=>k b u q,fun b u q _ _ _=>⟨u.slots,k b u q⟩,fun b u q n _=>by rw [old b (QT q)];exact n,fun b u q _=>⟨u,k b u q⟩,fun b xs q=>sm _ _ q,fun b u xs q=>sm _ _ q,fun b ps q=>⟨#[],by rw [sm _ _ q];simp⟩⟩ fun b u q=>?_;by_cases hb:b<s.heap.objs.size
 · rw [old b hb] at q;exact (I.hok b u q).stay (fun c v _ e=>k c v e) (fun c e=>sm _ _ e) fun c xs e=>sm _ _ e
 · exact new b u (Va.mp hb) q
def kQ (H:Hp):List QD->List (V×V)->Hp
 | t::ts,p::ps=>upd (kQ H ts ps) t (.tup [p.1,p.2])
 | _,_=>H
theorem kC {H:Hp} {b:QD}:∀ {ts:List QD} {ps:List (V×V)},b∉ts->kQ H ts ps b=H b
 | [],_,_=>rfl
 | _::_,[],_=>rfl
 | t::ts,p::ps,h=>by
   rw [kQ,ai (fun e=>h (by simp [e]))];exact kC fun m=>h (Q1 _ m)
theorem nW {H:Hp}:∀ {ts:List QD} {ps:List (V×V)} {b:QD} {u:HO},kQ H ts ps b=some u->H b=some u∨∃ (j:Nat) (p:V×V),ts[j]?=some b/\ps[j]?=some p/\u=.tup [p.1,p.2]
 | [],_,_,_,h=>.inl h
 | _::_,[],_,_,h=>.inl h
 | t::ts,p::ps,b,u,h=>by
   rw [kQ] at h;by_cases e:b=t
   · subst e;rw [ab] at h;exact .inr ⟨0,p,rfl,rfl,(Q8 h).symm⟩
   · rw [ai e] at h;rcases nW h with q | ⟨j,p',q1,q2,q3⟩
     · exact .inl q
     · exact .inr ⟨j+1,p',by simpa using q1,by simpa using q2,q3⟩
theorem m5 {H:Hp}:∀ {ts:List QD} {ps:List (V×V)} {t:QD},ts.length=ps.length->t∈ts->∃ (i:Nat) (p:V×V),ts[i]?=some t/\ps[i]?=some p/\kQ H ts ps t=some (.tup [p.1,p.2])
 | [],_,_,_,h=>nomatch h
 | _::_,[],_,hl,_=>by simp at hl
 | u::ts,p::ps,t,hl,h=>by
   by_cases e:t=u
   · subst e;exact ⟨0,p,rfl,rfl,by rw [kQ,ab]⟩
   · obtain ⟨i,p',q1,q2,q3⟩:=m5 (H:=H) (ts:=ts) (ps:=ps) (t:=t) (by simpa using hl) (by
      rcases QZ.mp h with h | h
      · exact absurd h e
      · exact h)
     exact ⟨i+1,p',by simpa using q1,by simpa using q2,by rw [kQ,ai e];exact q3⟩
theorem iG {α β:Type} {F:α->β->Prop}:∀ {ps:List α} {ts:List β},ps.length=ts.length->(∀ (j:Nat) p t,ps[j]?=some p->ts[j]?=some t->F p t)->Rf F ps ts
 | [],[],_,_=>.nil
 | [],_::_,h,_=>by simp at h
 | _::_,[],h,_=>by simp at h
 | p::ps,t::ts,h,f=>.cons (f 0 p t rfl rfl) (iG (by simpa using h) fun j p' t' e1 e2=>f (j+1) p' t' (by simpa using e1) (by simpa using e2))
theorem px {P:Nat->QD->Prop}:∀ {vs:List QE} (n:Nat),(∀ (j:Nat) v,vs[j]?=some v->∃ T,v=Q9 T/\P (n+j) T)->∃ ts:List QD,vs=ts.map Q9/\∀ (j:Nat) T,ts[j]?=some T->P (n+j) T
 | [],n,_=>⟨[],rfl,fun j T h=>by simp at h⟩
 | v::vs,n,h=>by
   obtain ⟨T,e1,e2⟩:=h 0 v rfl
   obtain ⟨ts,q1,q2⟩:=px (P:=P) (vs:=vs) (n+1) fun j v' hv=>by
    have:=h (j+1) v' (by simpa using hv);rw [show n+1+j=n+(j+1) by omega];exact this
   refine ⟨T::ts,by rw [e1,q1];rfl,fun j T' hT=>?_⟩;cases j with
   | zero=>simp at hT;subst hT;exact e2
   | succ j =>
     have:=q2 j T' (by simpa using hT);rw [show n+1+j=n+(j+1) by omega] at this;exact this
theorem uZ {α β:Type} {xs:List α} {ys:List β} {j:Nat} {p:α×β} (h:(xs.zip ys)[j]?=some p):xs[j]?=some p.1/\ys[j]?=some p.2:=by
 rw [To] at h;exact h
def rQ (K:QB) (t:TA):TE:=fun σ H Q=>t σ H fun vs H2=>∃ a b xs ys,vs=[.ref a,.ref b]/\SqT K H2 a xs/\SqT K H2 b ys ∧
 ∀ (l:QD) (ts:List QD) (H':Hp),Same H2 H'->H2 l=none->H' l=some (.lst (ts.map V.ref))->Rf (fun (p:V×V) t=>H' t=some (.tup [p.1,p.2])) (xs.zip ys) ts->Q (.ref l) H'
section
variable {X:Cx} {e1 e2:RO} {t:TA} {p p2 pos xg:US}
theorem oz (hc:X.calm=true) (g1:Gl X "list") (m1:X.mg "list"=none) (g2:Gl X "zip") (m2:X.mg "zip"=none) (ha:PA X [e1,e2] t)
 (h1:RA [.Call (.Name "zip" p2) [e1,e2] [] xg] X.env=[(false,S4 (.Call (.Name "zip" p2) [e1,e2] [] xg) X.env)]:=by rfl) (h2:RA [e1,e2] X.env=(false,S4 e1 X.env)::RA [e2] X.env:=by rfl) (h3:(U0 xg (RA [e2] X.env)).any (·.1)=false:=by rfl) :
 PE X (.Call (.Name "list" p) [.Call (.Name "zip" p2) [e1,e2] [] xg] [] pos) (rQ X.K t):=by
 intro pins s σ H Q I h;refine Sf (cF I g1 m1 boot_list (Ry ?_ h1 rfl));rw [h1];show QU _ _ (spliced ((false,S4 (.Call (.Name "zip" p2) [e1,e2] [] xg) X.env)::[])) _ _ s;refine Sg ?_;refine Sf (cF I g2 m2 boot_zip ?_);refine Ry (thn (ha xg pins s σ H _ I h) fun us s2 ⟨vs,H2,I2,r,a,b,xs,ys,ev,Cp,Cq,q⟩=>?_) h2 h3;subst ev;obtain ⟨u1,u2,rfl,r1,r2⟩:=vals2 r;cases r1;cases r2;obtain ⟨ia,C3,pa,D4⟩:=I2.tuple Cp;obtain ⟨ib,C4,pb,ID⟩:=I2.tuple Cq;have BF:=C3.length;have Ng:=C4.length;have yn:a<s2.heap.objs.size:=by obtain ⟨o,e,_⟩:=pa;exact QT e
 have y4:b<s2.heap.objs.size:=by obtain ⟨o,e,_⟩:=pb;exact QT e
 have hh:X.A.in1.in1.handled=none:=I2.ok.hd hc;refine bb_call_zip (show s2.heap.IsTuple a ia.toArray from pa) (show s2.heap.IsTuple b ib.toArray from pb) fun h' z1 z2 z3 z4 z5 z6 z7=>SI ?_;have D:Wj (s2.heap.objs.size+4) (s2.heap.objs.size+2) (s2.heap.objs.size+3) s2.heap.objs.size (s2.heap.objs.size+1) a b:=zipApart_new yn y4
 have st:ZSt ia.toArray ib.toArray (s2.heap.objs.size+4) (s2.heap.objs.size+2) (s2.heap.objs.size+3) s2.heap.objs.size (s2.heap.objs.size+1) a b 0 h':=by
  refine ⟨D,.inl z1,z2,⟨_,_,z3⟩,z4,z5,?_,?_⟩
  · obtain ⟨o,e,r⟩:=pa;exact ⟨o,z7 _ _ e,r⟩
  · obtain ⟨o,e,r⟩:=pb;exact ⟨o,z7 _ _ e,r⟩
 have hf:∀ c∈[s2.heap.objs.size+4,s2.heap.objs.size+3,s2.heap.objs.size,s2.heap.objs.size+1],s2.heap.objs.size<=c/\c<h'.objs.size:=fun c hc=>by
  simp at hc;rw [z6];have xV:(c:Nat)=s2.heap.objs.size+4∨(c:Nat)=s2.heap.objs.size+3∨(c:Nat)=s2.heap.objs.size∨(c:Nat)=s2.heap.objs.size+1:=hc;constructor
  · show (s2.heap.objs.size:Nat)<=(c:Nat);omega
  · show (c:Nat)<s2.heap.objs.size+5;omega
 refine bb_list_zip (s:={ s2 with heap:=h' }) hh st rfl (by rw [QN,QN];omega) (QF _) (fun c hc=>(hf c hc).2) fun h2 acc c kp hS wR=>?_;replace hS:h2.get? h'.objs.size=some { cls:=.type "list",dict:=none,data:=.seq acc c,slots:=#[] }:=hS;have C5:∀ b o,s2.heap.get? b=some o->h2.get? b=some o:=fun b o e=>kp b o (fun m=>absurd (QT e) (Va.mpr (hf b m).1)) (z7 b o e);obtain ⟨hsz,hit⟩:=wR
 obtain ⟨ts,et,ht⟩:=px (P:=fun j T=>h'.objs.size<=T/\∃ x y,SO h2 T x y/\ia.toArray[j]?=some x/\ib.toArray[j]?=some y) (vs:=acc.toList) 0 (fun j v hv=>by
  obtain ⟨T,x,y,g1,g2,g3,g4,g5⟩:=hit j v (by simpa using hv);rw [Nat.zero_add];exact ⟨T,g1,g2,x,y,g3,g4,g5⟩)
 simp only [Nat.zero_add] at ht
 have xw:ts.length=(xs.zip ys).length:=by
  have e:=congrArg U1 et;rw [QA,Rj,hsz,QN,QN] at e;rw [UC];omega
 have rel:∀ (j:Nat) (p:V×V) (T:QD),(xs.zip ys)[j]?=some p->ts[j]?=some T->∃ x y,SO h2 T x y/\RelV p.1 x/\RelV p.2 y:=fun j p T hp hT=>by
  obtain ⟨_,x,y,g3,g4,g5⟩:=ht j T hT;obtain ⟨y9,yH⟩:=uZ hp;obtain ⟨x',k1,k2⟩:=C3.get y9;obtain ⟨y',k3,k4⟩:=C4.get yH
  have e1:x'=x:=by
   have:ia[j]?=some x:=by simpa using g4
   rw [k1] at this;exact Q8 this
  have e2:y'=y:=by
   have:ib[j]?=some y:=by simpa using g5
   rw [k3] at this;exact Q8 this
  subst e1 e2;exact ⟨_,_,g3,k2,k4⟩
 have same:∀ (i j:Nat) (p p':V×V) (T:QD),(xs.zip ys)[i]?=some p->(xs.zip ys)[j]?=some p'->ts[i]?=some T->ts[j]?=some T->p=p':=fun i j p p' T h1 h2 h3 h4=>by
  obtain ⟨x,y,g1,g2,g3⟩:=rel i p T h1 h3;obtain ⟨x',y',k1,k2,k3⟩:=rel j p' T h2 h4;have e:=Q8 (g1.symm.trans k1);have ed:=congrArg Obj.data e;injection ed with Nh _;have el:=congrArg Wu Nh;have ex:x=x':=(V8 el).1;have ey:y=y':=(V8 (V8 el).2).1;subst ex ey;obtain ⟨p1,p2⟩:=p;obtain ⟨q1,q2⟩:=p';have f1:p1=q1:=g2.inj k2;have f2:p2=q2:=g3.inj k3;rw [f1,f2]
 have EY:h'.objs.size∉ts:=fun m=>by
  obtain ⟨j,hj⟩:=List.getElem?_of_mem m;obtain ⟨_,x,y,g3,_⟩:=ht j _ hj;exact absurd (So (congrArg Obj.cls (Q8 (g3.symm.trans hS)))) (by decide)
 have EZ:s2.heap.objs.size<h'.objs.size:=by rw [z6];omega
 have E1:∀ T∈ts,h'.objs.size<=T:=fun T m=>by
  obtain ⟨j,hj⟩:=List.getElem?_of_mem m;exact (ht j _ hj).1
 have Cr:∀ b,s2.heap.objs.size<=b->H2 b=none:=fun b hb=>I2.hok.fresh hb;have xD:H2 h'.objs.size=none:=Cr _ (Ui EZ)
 have Ni:∀ (j:Nat) (p:V×V) (T:QD),(xs.zip ys)[j]?=some p->ts[j]?=some T->kQ H2 ts (xs.zip ys) T=some (.tup [p.1,p.2]):=fun j p T hp hT=>by
  obtain ⟨i,p',k1,k2,k3⟩:=m5 (H:=H2) xw (QH hT);rw [k3,same i j p' p T k2 hp k1 hT]
 have I3:Inv X pins σ (upd (kQ H2 ts (xs.zip ys)) h'.objs.size (.lst (ts.map V.ref))) { s2 with heap:=h2,toks:=s2.toks }:=by
  refine I2.laidAll C5 (fun b hb=>?_) fun b u hb hu=>?_
  · rw [ai (Rh (Uh hb EZ)),kC];exact fun m=>absurd (Uh hb EZ) (Va.mpr (E1 b m))
  · by_cases e:b=h'.objs.size
    · subst e;rw [ab] at hu;cases hu;refine ⟨by rw [QA,xw,UC];omega,ts.map Q9,c,?_,by rw [<- et];exact hS⟩
      exact iG (by simp) fun j p t e1 e2=>by
       rw [QO] at e1 e2;cases q:ts[j]? with
       | none=>rw [q] at e1;cases e1
       | some T=>rw [q] at e1 e2;cases e1;cases e2;rfl
    · rw [ai e] at hu;rcases nW hu with q | ⟨j,p,q1,q2,q3⟩
      · rw [Cr b hb] at q;cases q
      · subst q3;obtain ⟨x,y,g1,g2,g3⟩:=rel j p b q2 q1;exact ⟨by show 2<=QW;decide,[x,y],0,.cons g2 (.cons g3 .nil),g1⟩
 refine ⟨.ref h'.objs.size,_,I3,rfl,q h'.objs.size ts _ (fun b o e=>?_) xD ab ?_⟩
 · have hb:=I2.hok.lt e;rw [ai (Rh (Uh hb EZ)),kC]
   · exact e
   · exact fun m=>absurd (Uh hb EZ) (Va.mpr (E1 b m))
 · refine iG xw.symm fun j p T hp hT=>?_;rw [ai (show T≠h'.objs.size from fun e=>EY (by rw [<- e];exact QH hT))];exact Ni j p T hp hT
end
end L2
namespace L2
open PySem PySem.Spec PyProof.Rows
section
variable {κ:Type} [DecidableEq κ]
def aT (f':List (κ×V)) (k:κ):Option V:=(f'.find? fun kv=>decide (kv.1=k)).map (·.2)
def putK (f':List (κ×V)) (k:κ) (v:V):List (κ×V) :=
 if (f'.any fun kv=>decide (kv.1=k))=true then f'.map (fun kv=>if kv.1=k then (kv.1,v) else kv) else f'++[(k,v)]
theorem bF {p:κ×V} {r:List (κ×V)} {k:κ} (e:p.1=k):aT (p::r) k=some p.2:=by simp [aT,Tr,e]
theorem bz {p:κ×V} {r:List (κ×V)} {k:κ} (e:¬ p.1=k):aT (p::r) k=aT r k:=by simp [aT,Tr,e]
theorem dq (k:κ):∀ f':List (κ×V),(f'.any fun kv=>decide (kv.1=k))=(aT f' k).isSome
 | []=>rfl
 | p::r=>by
   rw [List.any_cons];by_cases e:p.1=k
   · simp only [bF e,decide_eq_true e,Bool.true_or,Option.isSome_some]
   · rw [bz e,decide_eq_false e,Uz];exact dq k r
theorem nC (k j:κ) (y:V):∀ f':List (κ×V),aT (f'.map fun kv=>if kv.1=k then (kv.1,y) else kv) j=(aT f' j).map fun x=>if j=k then y else x
 | []=>rfl
 | p::r=>by
   have ih:=nC k j y r;rw [RD];by_cases h:p.1=k
   · rw [if_pos h];by_cases e:p.1=j
     · rw [bF (p:=(p.1,y)) e,bF e,VE,if_pos (e.symm.trans h)]
     · rw [bz (p:=(p.1,y)) e,bz e,ih]
   · rw [if_neg h];by_cases e:p.1=j
     · rw [bF (p:=p) e,bF e,VE,if_neg (fun z=>h (e.trans z))]
     · rw [bz (p:=p) e,bz e,ih]
theorem lv (k j:κ) (y:V):∀ f':List (κ×V),aT f' k=none->aT (f'++[(k,y)]) j=if j=k then some y else aT f' j
 | [],_=>by
   by_cases e:k=j
   · rw [if_pos e.symm];exact bF (p:=(k,y)) e
   · rw [if_neg (fun z=>e z.symm)];exact bz (p:=(k,y)) e
 | p::r,hn=>by
   rw [Ta];have hk:¬ p.1=k:=fun z=>by rw [bF z] at hn;cases hn
   rw [bz hk] at hn;have ih:=lv k j y r hn;by_cases e:p.1=j
   · rw [bF e,bF e,if_neg (fun z=>hk (e.trans z))]
   · rw [bz e,bz e,ih]
theorem gZ (f':List (κ×V)) (k j:κ) (y:V):aT (putK f' k y) j=if j=k then some y else aT f' j:=by
 unfold putK;by_cases a:(f'.any fun kv=>decide (kv.1=k))=true
 · rw [if_pos a,nC];rw [dq] at a;by_cases e:j=k
   · obtain ⟨x,hx⟩:=Uv.mp a;rw [if_pos e,e,hx,VE,if_pos rfl]
   · rw [if_neg e];cases aT f' j with
     | none=>rfl
     | some x=>rw [VE,if_neg e]
 · rw [if_neg a];refine lv k j y f' ?_;rw [dq] at a;cases q:aT f' k with
   | none=>rfl
   | some x=>rw [q] at a;exact (a rfl).elim
theorem bM (f':List (κ×V)) (k:κ) (v:V):(putK f' k v).length<=f'.length+1:=by
 unfold putK;split
 · rw [QA];omega
 · rw [QX,QM,U5];omega
theorem jP {f':List (κ×V)} {k:κ} (v:V) (h:aT f' k=none):putK f' k v=f'++[(k,v)]:=by
 unfold putK;rw [dq,h];exact if_neg (by decide)
theorem RelO.isSome_eq {o:Option V} {u:Option QE} (r:RelO o u):o.isSome=u.isSome:=by
 cases o with
 | none=>cases u with
   | none=>rfl
   | some _=>exact (show False from r).elim
 | some _=>cases u with
   | none=>exact (show False from r).elim
   | some _=>rfl
theorem RelO.getD {o:Option V} {u:Option QE} {d:V} {d':QE} (r:RelO o u) (rd:RelV d d'):RelV (o.getD d) (u.getD d'):=by
 cases o with
 | none=>cases u with
   | none=>exact rd
   | some _=>exact (show False from r).elim
 | some _=>cases u with
   | none=>exact (show False from r).elim
   | some _=>exact r
theorem KV.val {f':List (κ×V)} {vs:List (κ×QE)} (r:KV f' vs) (k:κ):RelO (aT f' k) (valueAt vs k):=by
 unfold KV at r;induction r with
 | nil=>exact SK
 | @cons p q ps qs h t ih =>
   obtain ⟨h1,h2⟩:=h;by_cases e:p.1=k
   · have e':q.1=k:=h1.symm.trans e;have b:valueAt (q::qs) k=some q.2:=by simp [valueAt,Tr,e']
     rw [bF e,b];exact h2
   · have e':¬ q.1=k:=fun z=>e (h1.trans z);have b:valueAt (q::qs) k=valueAt qs k:=by simp [valueAt,Tr,e']
     rw [bz e,b];exact ih
theorem KV.any {f':List (κ×V)} {vs:List (κ×QE)} (r:KV f' vs) (k:κ):(f'.any fun kv=>decide (kv.1=k))=vs.any fun kv=>decide (kv.1=k):=by
 unfold KV at r;induction r with
 | nil=>rfl
 | cons h t ih=>rw [List.any_cons,List.any_cons,ih,h.1]
theorem KV.repl {f':List (κ×V)} {vs:List (κ×QE)} (r:KV f' vs) (k:κ) {y:V} {u:QE} (ry:RelV y u) :
 KV (f'.map fun kv=>if kv.1=k then (kv.1,y) else kv) (vs.map fun kv=>if kv.1=k then (kv.1,u) else kv):=by
 unfold KV at r ⊢;induction r with
 | nil=>exact .nil
 | @cons p q ps qs h t ih =>
   rw [RD,RD];refine .cons ?_ ih;obtain ⟨h1,h2⟩:=h;by_cases e:p.1=k
   · rw [if_pos e,if_pos (h1.symm.trans e)];exact ⟨h1,ry⟩
   · rw [if_neg e,if_neg (fun z=>e (h1.trans z))];exact ⟨h1,h2⟩
theorem KV.put {f':List (κ×V)} {vs:List (κ×QE)} (r:KV f' vs) (k:κ) {y:V} {u:QE} (ry:RelV y u):KV (putK f' k y) (stored vs k u):=by
 unfold putK stored;rw [r.any k];by_cases e:(vs.any fun kv=>decide (kv.1=k))=true
 · rw [if_pos e,if_pos e];exact r.repl k ry
 · rw [if_neg e,if_neg e];exact Paired.snoc r ⟨rfl,ry⟩
theorem KV.length {f':List (κ×V)} {vs:List (κ×QE)} (r:KV f' vs):f'.length=vs.length:=QP r
end
theorem jG {P:QR} {w:Q3} {k:Key} {u:QE} (r:RelV (kV k) u):(aB P w).is k u=true:=by
 cases k with
 | inl i=>obtain ⟨t,e⟩:=(show ∃ t,u=Value.int i t from r);subst e;exact no P w i t
 | inr x=>obtain ⟨t,e⟩:=(show ∃ t,u=Value.str x t from r);subst e;exact mU P w x t
theorem lJ {P:QR} {w:Q3}:∀ {ks:List Key} {us:List QE},Vals (ks.map kV) us->ItemsAre (aB P w) ks us
 | [],_,r=>by rw [S5] at r;cases r;exact .nil
 | k::ks,_,r=>by
   rw [RD] at r;cases r with
   | cons h t=>exact .cons (jG h) (lJ t)
abbrev KTd (H:Hp):List (List Key×V)->List (List Key×QD×QE)->Prop:=Rf fun p q=>p.1=q.1/\H q.2.1=some (.tup (p.1.map kV))/\RelV p.2 q.2.2
theorem KTd.val {H:Hp} {f':List (List Key×V)} {xs:List (List Key×QD×QE)} (r:KTd H f' xs) (k:List Key):RelO (aT f' k) ((Ur xs k).map (·.2)):=by
 induction r with
 | nil=>exact SK
 | @cons p q ps qs h t ih =>
   obtain ⟨h1,_,h2⟩:=h;by_cases e:p.1=k
   · have e':q.1=k:=h1.symm.trans e;have b:Ur (q::qs) k=some q.2:=by simp [Ur,Tr,e']
     rw [bF e,b];exact h2
   · have e':¬ q.1=k:=fun z=>e (h1.trans z);have b:Ur (q::qs) k=Ur qs k:=by simp [Ur,Tr,e']
     rw [bz e,b];exact ih
theorem KTd.repl {H:Hp} {f':List (List Key×V)} {xs:List (List Key×QD×QE)} (r:KTd H f' xs) (k:List Key) {y:V} {u:QE} (ry:RelV y u) :
 KTd H (f'.map fun kv=>if kv.1=k then (kv.1,y) else kv) (xs.map (putAt k u)):=by
 induction r with
 | nil=>exact .nil
 | @cons p q ps qs h t ih =>
   rw [RD,RD];refine .cons ?_ ih;obtain ⟨h1,h2,h3⟩:=h;unfold putAt;by_cases e:p.1=k
   · rw [if_pos e,if_pos (h1.symm.trans e)];exact ⟨h1,h2,ry⟩
   · rw [if_neg e,if_neg (fun z=>e (h1.trans z))];exact ⟨h1,h2,h3⟩
theorem KTd.put {H:Hp} {f':List (List Key×V)} {xs:List (List Key×QD×QE)} (r:KTd H f' xs) (k:List Key) {b:QD} {y:V} {u:QE} (hb:H b=some (.tup (k.map kV))) (ry:RelV y u) :
 KTd H (putK f' k y) (VC xs k b u):=by
 have e:(f'.any fun kv=>decide (kv.1=k))=(Ur xs k).isSome:=by
  rw [dq,(r.val k).isSome_eq,Wl]
 unfold putK VC;rw [e];by_cases q:(Ur xs k).isSome=true
 · rw [if_pos q,if_pos q];exact r.repl k ry
 · rw [if_neg q,if_neg q];exact Paired.snoc r ⟨rfl,hb,ry⟩
theorem KTd.keeps {H H':Hp} {f':List (List Key×V)} {xs:List (List Key×QD×QE)} (r:KTd H f' xs) (ht:∀ b ys,H b=some (.tup ys)->H' b=some (.tup ys)):KTd H' f' xs :=
 Rf.mapP r fun _ _ z=>⟨z.1,ht _ _ z.2.1,z.2.2⟩
section
variable {P:QR} {w:Q3} {H:Hp} {h:RS} {a:QD}
theorem tV {u:HO} (ok:HOk P w H h) (e:Rd H a u):ObjOk P w H h a u:=e.ok ok
theorem lh {f':List (Key×V)} (ok:HOk P w H h) (e:Rd H a (.dK f')):f'.length<=QW/\(a == Sv)=false/\∃ vs,KV f' vs/\h.DictOf (aB P w) a vs :=
 show ObjOk P w H h a (.dK f') from tV ok e
theorem uc {f':List (Key×V)} (ok:HOk P w H h) (e:H a=some (.dK f')):f'.length<=QW/\(a == Sv)=false/\∃ vs,KV f' vs/\h.DictOf (aB P w) a vs:=lh ok (.inl e)
theorem gL {ks:List Key} (ok:HOk P w H h) (e:H a=some (.tup (ks.map kV))):(VN (aB P w)).is h ks a:=by
 obtain ⟨_,its,n,r,h1⟩:=(show ObjOk P w H h a (.tup (ks.map kV)) from ok a _ e);exact ⟨_,its.toArray,n,h1,rfl,rfl,by simpa using lJ r⟩
theorem kX {f':List (List Key×V)} (ok:HOk P w H h) (e:Rd H a (.dT f')):f'.length<=QW/\(a == Sv)=false ∧
 ∃ xs,KTd H f' xs/\h.DictOfH (VN (aB P w)) a xs:=by
 obtain ⟨z,y,xs,r,o,es,ep,h1,h2,h3,h4,h5⟩:=(show ObjOk P w H h a (.dT f') from tV ok e);refine ⟨z,y,xs,r,o,es,ep,h1,h2,h3,h4,fun x hx=>?_,h5⟩
 have all:∀ {l:List (List Key×V)} {m:List (List Key×QD×QE)},KTd H l m->∀ x∈m,(VN (aB P w)).is h x.1 x.2.1:=by
  intro l m q;induction q with
  | nil=>intro x hx;exact nomatch hx
  | @cons p q ps qs hq t ih =>
    intro x hx;rcases QZ.mp hx with e | hx
    · subst e;exact gL ok (by rw [<- hq.1];exact hq.2.1)
    · exact ih x hx
 exact all r x hx
theorem tX {f':List (List Key×V)} (ok:HOk P w H h) (e:H a=some (.dT f')):f'.length<=QW/\(a == Sv)=false ∧
 ∃ xs,KTd H f' xs/\h.DictOfH (VN (aB P w)) a xs:=kX ok (.inl e)
end
def DGet (H:Hp) (a:QD) (y:V) (r:Option V):Prop :=
 (∃ f' k,Rd H a (.dK f')/\y=kV k/\r=aT f' k)∨∃ f' k b,Rd H a (.dT f')/\y=.ref b/\H b=some (.tup (k.map kV))/\r=aT f' k
def DPut (H:Hp) (a:QD) (y v:V) (H':Hp):Prop :=
 (∃ f' k,H a=some (.dK f')/\y=kV k/\f'.length<QW/\H'=upd H a (.dK (putK f' k v))) ∨
 ∃ f' k b,H a=some (.dT f')/\y=.ref b/\H b=some (.tup (k.map kV))/\f'.length<QW/\H'=upd H a (.dT (putK f' k v))
theorem DGet.k {H:Hp} {a:QD} {f':List (Key×V)} {k:Key} (e:H a=some (.dK f')):DGet H a (kV k) (aT f' k):=.inl ⟨f',k,.inl e,rfl,rfl⟩
theorem DGet.t {H:Hp} {a b:QD} {f':List (List Key×V)} {k:List Key} (e:H a=some (.dT f')) (eb:H b=some (.tup (k.map kV))):DGet H a (.ref b) (aT f' k):=.inr ⟨f',k,b,.inl e,rfl,eb,rfl⟩
theorem DPut.t {H:Hp} {a b:QD} {f':List (List Key×V)} {k:List Key} {v:V} (e:H a=some (.dT f')) (eb:H b=some (.tup (k.map kV))) (hl:f'.length<QW) :
 DPut H a (.ref b) v (upd H a (.dT (putK f' k v))):=.inr ⟨f',k,b,e,rfl,eb,hl,rfl⟩
section
variable {X:Cx} {pins:List (QD×SQ)} {σ:St} {H:Hp} {s:QJ} {a:QD} {y v:V} {u r:QE} {o:Option V} {A:Rr} {E:QE->QJ->Prop}
theorem Inv.big (I:Inv X pins σ H s):Sv<s.heap.objs.size:=by
 have h:Rp<s.heap.objs.size:=(I.mod.glob.keeps I.bk).lt;exact Uh (by decide) h
theorem qk {Q:QE->QJ->Prop} (hu:A.units+1<Sl) (I:Inv X pins σ H s) (g:DGet H a y (some v)) (ry:RelV y u) (h:∀ w' s',Inv X pins σ H s'->RelV v w'->Q w' s') :
 QU (Ra X.prog X.w) A (UX (.ref a) u) Q E s:=by
 rcases g with ⟨f',k,e,ey,l⟩ | ⟨f',k,b,e,ey,eb,l⟩
 · subst ey;obtain ⟨z,hd,vs,rel,dd⟩:=lh I.hok e;obtain ⟨w',hw,zU⟩:=RelO.some_of (v:=v) (o:=valueAt vs k) (by rw [l];exact rel.val k);exact wpAny_getItem_of (jG ry) dd.mapOf hw (h w' _ (I.tok _) zU)
 · subst ey;cases (show u=Q9 b from ry);obtain ⟨z,hd,xs,rel,dd⟩:=kX I.hok e;obtain ⟨w',hw,zU⟩:=RelO.some_of (v:=v) (o:=(Ur xs k).map (·.2)) (by rw [l];exact rel.val k);obtain ⟨p,hp,yH⟩:=RJ.mp hw;refine wpAny_getItem_heap (UO hu) (gL I.hok eb) dd hp ?_;rw [yH];exact h w' _ (I.tok _) zU
theorem wj {Q:QE->QJ->Prop} (hu:A.units+1<Sl) (I:Inv X pins σ H s) (g:DGet H a y o) (ry:RelV y u) (h:∀ s',Inv X pins σ H s'->Q (.bool o.isSome) s') :
 QU (Ra X.prog X.w) A (UE .In u (.ref a)) Q E s:=by
 rcases g with ⟨f',k,e,ey,l⟩ | ⟨f',k,b,e,ey,eb,l⟩
 · subst ey;obtain ⟨z,hd,vs,rel,dd⟩:=lh I.hok e;refine wpAny_in_of (jG ry) hd dd.mapOf ?_;rw [<- (rel.val k).isSome_eq,<- l];exact h _ (I.tok _)
 · subst ey;cases (show u=Q9 b from ry);obtain ⟨z,hd,xs,rel,dd⟩:=kX I.hok e;refine wpAny_in_heap (UO hu) (gL I.hok eb) hd dd ?_;have q:=(rel.val k).isSome_eq;rw [Wl] at q;rw [<- q,<- l];exact h _ (I.tok _)
theorem fM {h':RS} {t':Nat} {ob:HO} (I:Inv X pins σ H s) (mu:Mut (H a)) (hs:Ss a s.heap h') (he:∃ q,h'.get? a=some q) (new:ObjOk X.prog X.w (upd H a ob) h' a ob) :
 Inv X pins σ (upd H a ob) { s with heap:=h',toks:=t' } :=
 I.write (x:=a) (e:=a) mu (.inl rfl) (fun b q hb z=>(hs.2 b hb).trans z) he new
theorem sv {P:QR} {w:Q3} {H':Hp} {h':RS} {f':List (Key×V)} {vs:List (Key×QE)} (z:f'.length<=QW) (hd:(a == Sv)=false) (rel:KV f' vs) (dd:h'.DictOf (aB P w) a vs) :
 ObjOk P w H' h' a (.dK f'):=⟨z,hd,vs,rel,dd⟩
theorem qv {H':Hp} {Q:Unit->QJ->Prop} (hu:A.units+1<Sl) (I:Inv X pins σ H s) (g:DPut H a y v H') (ry:RelV y u) (rv:RelV v r) (h:∀ s',Inv X pins σ H' s'->Q () s') :
 QU (Ra X.prog X.w) A (setItem (.ref a) u r) Q E s:=by
 rcases g with ⟨f',k,e,ey,l,eH⟩ | ⟨f',k,b,e,ey,eb,l,eH⟩
 · subst ey eH;obtain ⟨z,hd,vs,rel,dd⟩:=uc I.hok e;have hz:vs.length<=QW:=by rw [<- rel.length];exact z
   have hl:(putK f' k v).length<=QW:=by have:=bM f' k v;omega
   refine wpAny_setItem_pairs (hsz:=hz) (jG ry) dd fun h' zY hs=>h _ ?_;have he:∃ q,h'.get? a=some q:=let ⟨q,_,_,hq,_⟩:=zY;⟨q,hq⟩
   exact fM I (by rw [e];exact SK) hs he (sv hl hd (rel.put k rv) zY)
 · subst ey eH;cases (show u=Q9 b from ry);obtain ⟨z,hd,xs,rel,dd⟩:=tX I.hok e;have hz:xs.length<=QW:=by rw [<- QP rel];exact z
   have hl:(putK f' k v).length<=QW:=by have:=bM f' k v;omega
   refine wpAny_setItem_heap (hsz:=hz) (UO hu) (gL I.hok eb) dd fun h' zY hs=>h _ ?_;obtain ⟨q,es,ep,hq,h2,h3,h4,_,h5⟩:=zY;refine fM I (by rw [e];exact SK) hs ⟨q,hq⟩ ⟨hl,hd,_,(rel.put k eb rv).keeps fun c ys ec=>?_,q,es,ep,hq,h2,h3,h4,h5⟩;rw [ai (eX ec e (fun z=>nomatch z))];exact ec
end
section
variable {X:Cx} {pins:List (QD×SQ)} {σ:St} {H:Hp} {s:QJ} {a:QD} {f':List (Key×V)} {k:Key} {u:QE} {A:Rr} {E:QE->QJ->Prop}
end
def u8 (i:RO):Prop:=∀ ov iv,subscripted i false ov iv=operate [ov,iv] (UX ov iv)
theorem p9 {prog:QR} {w:Q3} {A:Rr} {E:QE->QJ->Prop} {s:QJ} {env:Env} {value slice:RO} {pos:US} {T id:String} {Q:QE->QJ->Prop}
 (hl:Uq (.type T) "__getitem__"=pure (some (.builtin id))) (hs:u8 slice)
 (h:QU (Ra prog w) A (S4 value env) (fun o wI=>QU (Ra prog w) A (S4 slice env) (fun i xo=>xo.TypeIs o T/\QU (Ra prog w) A (UX o i) Q E xo) E wI) E s) :
 QU (Ra prog w) A (S4 (.Subscript value slice pos) env) Q E s:=by
 refine Subscript_ (SH h (fun o wI wW=>SH wW (fun i xo xE=>?_) fun _ _ x=>x) fun _ _ x=>x);obtain ⟨hT,xE⟩:=xE;unfold subscriptTail;refine Qz ?_;rw [getitemInPython_of_ne hT.not_modules];refine Qz (Sa hT hl ?_)
 have fin:QU (Ra prog w) A (subscripted slice false o i) (fun r yD=>QU (Ra prog w) A (letTemporaryGo value o r >>= fun _=>pure r) Q E yD) E xo:=by
  rw [hs o i];exact wpAny_operating (SH xE (fun r yD yV=>Qz (wpAny_letTemporaryGo (QI yV))) fun _ _ x=>x)
 first
  | exact QI (Qz fin)
  | exact Qz (QI (Qz fin))
  | exact Qz fin
theorem oj {X:Cx} {pins:List (QD×SQ)} {σ:St} {H:Hp} {s:QJ} {a:QD} {y:V} {o:Option V} (I:Inv X pins σ H s) (g:DGet H a y o):s.TypeIs (.ref a) "dict":=by
 rcases g with ⟨f',k,e,_,_⟩ | ⟨f',k,b,e,_,_,_⟩
 · obtain ⟨_,_,vs,_,dd⟩:=lh I.hok e;exact dd.typeIs
 · obtain ⟨_,_,xs,_,dd⟩:=kX I.hok e;exact dd.typeIs
def vR (td ty:TE):TE:=fun σ H Q=>td σ H fun x H1=>ty σ H1 fun y H2=>∃ a v,x=.ref a/\DGet H2 a y (some v)/\Q v H2
def wk (ty td:TE):TE:=fun σ H Q=>ty σ H fun y H1=>td σ H1 fun x H2=>∃ a o,x=.ref a/\DGet H2 a y o/\Q (.bl o.isSome) H2
def vQ (td ty tv:TE):TS:=fun D σ H=>tv σ H fun v H1=>td σ H1 fun x H2=>ty σ H2 fun y H3=>∃ a H4,x=.ref a/\DPut H3 a y v H4/\D.nx σ H4
section
variable {X:Cx} {o i e value:RO} {pos pos' HS:US} {td ty tv:TE}
theorem mx (hu:X.A.units+1<Sl) (ho:PE X o td) (hi:PE X i ty) (hs:u8 i):PE X (.Subscript o i pos) (vR td ty):=by
 intro pins s σ H Q I h;refine p9 PySem.F.slot_dict_getitem.lookup hs (thn (ho pins s σ H _ I h) fun u s1 ⟨x,H1,I1,rx,q1⟩=>thn (hi pins s1 σ H1 _ I1 q1) fun iv s2 ⟨y,H2,I2,ry,a,v,ex,g,q2⟩=>?_);subst ex;obtain rfl:u=Q9 a:=rx;exact ⟨oj I2 g,qk hu I2 g ry fun w' s3 I3 zU=>⟨v,H2,I3,zU,q2⟩⟩
theorem uC (hu:X.A.units+1<Sl) (hi:PE X i ty) (ho:PE X o td):PC X .In i o (wk ty td):=by
 intro pins s σ H Q I h;refine thn (hi pins s σ H _ I h) fun iv s1 ⟨y,H1,I1,ry,q1⟩=>thn (ho pins s1 σ H1 _ I1 q1) fun u s2 ⟨x,H2,I2,rx,a,ov,ex,g,q2⟩=>?_;subst ex;obtain rfl:u=Q9 a:=rx;exact wj hu I2 g ry fun s3 I3=>⟨.bl ov.isSome,H2,I3,rfl,q2⟩
theorem tP (hu:X.A.units+1<Sl) (ho:PE X o td) (hi:PE X i ty) (hv:PE X value tv) (hs:swapsWith value (some (.Subscript o i pos')) pos.line X.env=pure false) :
 PS X (.Assign [.Subscript o i pos'] value pos) (vQ td ty tv):=by
 intro pins s σ H D I h;refine wpAny_Assign_Subscript (thn (hv pins s σ H _ I h) fun r s1 ⟨v,H1,I1,rv,q1⟩=>thn (ho pins s1 σ H1 _ I1 q1) fun u s2 ⟨x,H2,I2,rx,q2⟩=>thn (hi pins s2 σ H2 _ I2 q2) fun iv s3 ⟨y,H3,I3,ry,a,H4,ex,g,q3⟩=>?_) hs;subst ex;obtain rfl:u=Q9 a:=rx;exact qv hu I3 g ry rv fun s4 I4=>⟨σ,H4,I4,q3⟩
end
theorem m9 {P:QR} {w:Q3} {H:Hp} (h:RS) (hb:Sv<h.objs.size):ObjOk P w H (h.push { cls:=.type "dict",data:=.dict #[] }) h.objs.size (.dK []) :=
 ⟨Q7 _,beq_eq_false_iff_ne.mpr (Sr (Rh hb)),[],.nil,Heap.DictOf.new h⟩
theorem nH {P:QR} {w:Q3} {H:Hp} (h:RS) (hb:Sv<h.objs.size):ObjOk P w H (h.push { cls:=.type "dict",data:=.dict #[] }) h.objs.size (.dT []) :=
 ⟨Q7 _,beq_eq_false_iff_ne.mpr (Sr (Rh hb)),[],.nil,_,#[],0,QQ _ rfl,⟨rfl,rfl,rfl⟩,rfl,rfl,Vd⟩
def u5:TE:=fun _ H Q=>∀ p,H p=none->Q (.ref p) (upd H p (.dK []))
def uB:TE:=fun _ H Q=>∀ p,H p=none->Q (.ref p) (upd H p (.dT []))
section
variable {X:Cx} {pos:US}
theorem sw:PE X (.Dict [] [] pos) u5:=fun pins s σ H Q I h =>
 wpAny_Dict_empty ⟨.ref s.heap.objs.size,_,I.laid (a:=s.heap.objs.size) (o:=.dK []) (t':=s.toks) (fun _ _ q=>QG _ q) (QF _) (m9 s.heap I.big),rfl,h _ (I.hok.fresh (QF _))⟩
theorem rM:PE X (.Dict [] [] pos) uB:=fun pins s σ H Q I h =>
 wpAny_Dict_empty ⟨.ref s.heap.objs.size,_,I.laid (a:=s.heap.objs.size) (o:=.dT []) (t':=s.toks) (fun _ _ q=>QG _ q) (QF _) (nH s.heap I.big),rfl,h _ (I.hok.fresh (QF _))⟩
end
def oV:List (TE×TE)->St->Hp->(List (V×V)->Hp->Prop)->Prop
 | [],_,H,Q=>Q [] H
 | (tk,tv)::r,σ,H,Q=>tk σ H fun x H1=>tv σ H1 fun y H2=>oV r σ H2 fun ps H3=>Q ((x,y)::ps) H3
abbrev VV:List (V×V)->List (QE×QE)->Prop:=Rf fun p q=>RelV p.1 q.1/\RelV p.2 q.2
def PPs (X:Cx) (pos:US) (keys:List (Option RO)) (values:List RO) (BG:List (TE×TE)):Prop :=
 ∀ (pins:List (QD×SQ)) (s:QJ) (σ:St) (H:Hp) (Q:List (V×V)->Hp->Prop),Inv X pins σ H s->oV BG σ H Q →
   QU (Ra X.prog X.w) X.A (evalPairs (pairTrees keys values X.env pos)) (fun vs s'=>∃ ps H',Inv X pins σ H' s'/\VV ps vs/\Q ps H') X.xe s
theorem pZ {X:Cx} {pos:US}:PPs X pos [] [] []:=fun pins s σ H Q I h=>pairTrees_nil_walk ⟨[],H,I,.nil,h⟩
theorem nB {X:Cx} {pos:US} {k v:RO} {ks:List (Option RO)} {vs:List RO} {tk tv:TE} {BG:List (TE×TE)} (hk:PE X k tk) (hv:PE X v tv) (hr:PPs X pos ks vs BG) :
 PPs X pos (some k::ks) (v::vs) ((tk,tv)::BG):=fun pins s σ H Q I h =>
 pairTrees_cons_walk (thn (hk pins s σ H _ I h) fun u s1 ⟨x,H1,I1,rx,q1⟩=>thn (hv pins s1 σ H1 _ I1 q1) fun w2 s2 ⟨y,H2,I2,ry,q2⟩ =>
  thn (hr pins s2 σ H2 _ I2 q2) fun ws s3 ⟨ps,H3,I3,rel,q3⟩=>⟨(x,y)::ps,H3,I3,.cons ⟨rx,ry⟩ rel,q3⟩)
def iw (f' more:List (Key×V)):List (Key×V):=more.foldl (fun acc kv=>putK acc kv.1 kv.2) f'
theorem KV.merge:∀ {more:List (Key×V)} {rs:List (Key×QE)} {f':List (Key×V)} {vs:List (Key×QE)},KV more rs->KV f' vs->KV (iw f' more) (merged vs rs):=by
 intro more rs f' vs r;unfold KV at r;induction r generalizing f' vs with
 | nil=>intro q;exact q
 | @cons p q ps qs h t ih =>
   intro r0
   have e:KV (putK f' p.1 p.2) (stored vs q.1 q.2):=by
    have:=r0.put p.1 h.2;rw [<- h.1];exact this
   exact ih e
theorem gb:∀ (more f':List (Key×V)),(iw f' more).length<=f'.length+more.length
 | [],f'=>by show f'.length<=f'.length+0;omega
 | p::r,f'=>by
   have h1:=gb r (putK f' p.1 p.2);have h2:=bM f' p.1 p.2;show (iw (putK f' p.1 p.2) r).length<=_;rw [QM];omega
theorem jJ {P:QR} {w:Q3}:∀ {f':List (Key×V)} {ws:List (QE×QE)},VV (f'.map fun kv=>(kV kv.1,kv.2)) ws->∃ rs,Carries (aB P w) ws rs/\KV f' rs
 | [],_,r=>by rw [S5] at r;cases r;exact ⟨[],SK,.nil⟩
 | p::f',_,r=>by
   rw [RD] at r;cases r with
   | @cons a b as bs h t =>
     obtain ⟨rs,c,q⟩:=jJ (P:=P) (w:=w) t;obtain ⟨b1,b2⟩:=b;exact ⟨(p.1,b2)::rs,⟨jG h.1,rfl,c⟩,.cons ⟨rfl,h.2⟩ q⟩
def vI (BG:List (TE×TE)):TE:=fun σ H Q=>∀ p,H p=none->oV BG σ (upd H p (.dK [])) fun ps H2=>H2 p=some (.dK [])/\∃ f':List (Key×V),ps=f'.map (fun kv=>(kV kv.1,kv.2))/\f'.length<=15/\Q (.ref p) (upd H2 p (.dK (iw [] f')))
theorem ph {X:Cx} {pos:US} {keys:List (Option RO)} {values:List RO} {BG:List (TE×TE)} (h:PPs X pos keys values BG) (wM:keys.all (·.isSome)=true) (hl:keys.length=values.length) (h0:keys≠[])
 (Nj:keys.length<=15):PE X (.Dict keys values pos) (vI BG):=by
 intro pins s σ H Q I q;have hn:=I.hok.fresh (QF s.heap.objs.size);have I1:=I.laid (a:=s.heap.objs.size) (o:=.dK []) (h':=s.heap.push { cls:=.type "dict",data:=.dict #[] }) (t':=s.toks) (fun _ _ q=>QG _ q) (QF _) (m9 s.heap I.big);refine wpAny_Dict_walk (knd:=aB X.prog X.w) wM hl h0 Nj (thn (h pins _ σ _ _ I1 (q _ hn)) fun ws s2 ⟨ps,H2,I2,rel,e,f',ep,lk,q2⟩=>?_);subst ep;obtain ⟨rs,c,rk⟩:=jJ (P:=X.prog) (w:=X.w) rel;obtain ⟨z,hd,PJ,r0,dd⟩:=uc I2.hok e;cases r0;refine ⟨rs,c,dd,fun h' zY hs=>⟨.ref s.heap.objs.size,_,?_,rfl,q2⟩⟩
 have hz:(iw [] f').length<=QW:=by
  have h1:=gb f' [];rw [U5] at h1;rw [UQ];omega
 have he:∃ q,h'.get? s.heap.objs.size=some q:=let ⟨q,_,_,hq,_⟩:=zY;⟨q,hq⟩
 exact fM I2 (by rw [e];exact SK) hs he (sv hz hd (rk.merge .nil) zY)
structure M2 (X:Cx) (o:RO) (m:Rc) (apos:US) (e f:RO) (wV:US):Prop where
 base:attributeBase o m X.env (S4 o X.env)=S4 o X.env
 few:((U0 wV (RA [e,f] X.env)).all (fun x=>!x.1) && (backToKw wV (keywordEach [] X.env)).all (fun x=>x.1.isSome)
  && decide (([e,f]:List RO).length+([]:List Keyword).length+(if ([]:List Keyword).isEmpty then 0 else 1)<30))=true
 line:(apos.endLine == wV.line)=true
 trees:U0 wV (RA [e,f] X.env)=[(false,S4 e X.env),(false,S4 f X.env)]
def IsD (H:Hp) (a:QD):Prop:=(∃ f',Rd H a (.dK f'))∨∃ f',Rd H a (.dT f')
theorem uA {X:Cx} {pins:List (QD×SQ)} {σ:St} {H:Hp} {s:QJ} {a:QD} (I:Inv X pins σ H s) (d:IsD H a) :
 s.TypeIs (.ref a) "dict"/\(∀ b,Q9 a=.ref b->∃ ob,s.heap.get? b=some ob/\ob.dict=none)/\(a == Sv)=false:=by
 rcases d with ⟨f',e⟩ | ⟨f',e⟩
 · obtain ⟨_,hd,vs,_,dd⟩:=lh I.hok e;refine ⟨dd.typeIs,fun b q=>?_,hd⟩;cases q;obtain ⟨ob,_,_,h1,h2,_⟩:=dd;exact ⟨ob,h1,h2.2.1⟩
 · obtain ⟨_,hd,xs,_,dd⟩:=kX I.hok e;refine ⟨dd.typeIs,fun b q=>?_,hd⟩;cases q;obtain ⟨ob,_,_,h1,h2,_⟩:=dd;exact ⟨ob,h1,h2.2.1⟩
section
variable {X:Cx} {pins:List (QD×SQ)} {σ:St} {H:Hp} {s:QJ} {a:QD} {y d:V} {u r:QE} {o:Option V} {A:Rr} {E:QE->QJ->Prop}
theorem uS {Q:QE->QJ->Prop} (hu:A.units+1<Sl) (I:Inv X pins σ H s) (g:DGet H a y o) (ry:RelV y u) (rd:RelV d r) (h:∀ w' s',Inv X pins σ H s'->RelV (o.getD d) w'->Q w' s') :
 QU (Ra X.prog X.w) A (call (.builtin "dict.get") [.ref a,u,r]) Q E s:=by
 rcases g with ⟨f',k,e,ey,l⟩ | ⟨f',k,b,e,ey,eb,l⟩
 · subst ey;obtain ⟨z,hd,vs,rel,dd⟩:=lh I.hok e;refine call_meetsIn TY dd.typeIs Vy (Vv _ _ _) (meets_dict_get_default (aB X.prog X.w) a (jG ry) hd r) ⟨_,dd.mapOf,h _ _ (I.tok _) ?_⟩;rw [l];exact (rel.val k).getD rd
 · subst ey;cases (show u=Q9 b from ry);obtain ⟨z,hd,xs,rel,dd⟩:=kX I.hok e;refine call_meetsIn TY dd.typeIs Vy (Vv _ _ _) (meetsH_dict_get_default (VN (aB X.prog X.w)) a b hd r) ⟨UO hu,k,xs,gL I.hok eb,dd,h _ _ (I.tok _) ?_⟩;rw [l];exact (rel.val k).getD rd
end
def qZ (td ty tx:TE):TE:=fun σ H Q=>td σ H fun x H1=>∃ a,x=.ref a/\IsD H1 a/\ty σ H1 fun y H2=>tx σ H2 fun z H3=>∃ o,DGet H3 a y o/\Q (o.getD z) H3
section
variable {X:Cx} {o e f:RO} {apos wV:US} {td ty tx:TE}
theorem r9 (hu:X.A.units+1<Sl) (ho:PE X o td) (he:PE X e ty) (hf:PE X f tx) (m:M2 X o "get" apos e f wV):PE X (.Call (.Attribute o "get" apos) [e,f] [] wV) (qZ td ty tx):=by
 intro pins s σ H Q I h;refine wpAny_Call_method m.base m.few m.line Vt TY PySem.F.type_dict_get (thn (ho pins s σ H _ I h) fun u s1 ⟨x,H1,I1,rx,a,ex,d,q1⟩=>?_);subst ex;obtain rfl:u=Q9 a:=rx;obtain ⟨t1,t2,_⟩:=uA I1 d;refine ⟨t1,t2,?_⟩;rw [m.trees]
 refine T6 rfl (Vf (Sg (thn (he pins s1 σ H1 _ I1 q1) fun iv s2 ⟨y,H2,I2,ry,q2⟩ =>
  Sg (thn (hf pins s2 σ H2 _ I2 q2) fun fv s3 ⟨z,H3,I3,rz,ov,g,q3⟩=>SI ?_))))
 exact uS hu I3 g ry rz fun w' s4 I4 zU=>⟨_,H3,I4,zU,q3⟩
end
section
variable {X:Cx} {pins:List (QD×SQ)} {σ:St} {H:Hp} {s:QJ} {a:QD} {f':List (Key×V)} {A:Rr} {E:QE->QJ->Prop}
end
section
variable {X:Cx} {pins:List (QD×SQ)} {σ:St} {H:Hp} {s:QJ} {a:QD} {y:V} {u:QE} {A:Rr} {E:QE->QJ->Prop}
end
end L2
namespace L2
open PySem PySem.Spec PyProof.Rows
inductive uj (K:QB) (T:String) (xs:List V) (H:Hp) (Q:VK):Prop
 | mk (x:_) (b:_) (t:_) (wZ:xs=[x,.ty T]) (w4:gU K H x t) (w8:T8 K t (.type T)=some b) (xj:Q (.bl b) H):uj K T xs H Q
def vy (K:QB) (T:String):List V->Hp->VK->Prop:=uj K T
theorem ip {X:Cx} {T:String}:f7 X (.builtin "isinstance") (vy X.K T):=by
 intro pins s σ H xs us Q I r h;obtain ⟨x,b,t,e,ty,k,q⟩:=h;exact rK (T:=T) (b:=b) (t:=t) pins s σ H xs us Q I r ⟨x,e,ty,k,q⟩
theorem rD {α:Type} {js:List (Option Nat)} {g:TG} {tt:TT} {te:TE} {σ:St} {J:It} {H:Hp} {xs:List V} {fin:QD->Hp->Prop} (zs:List α) (p:α->Bool) (f:α->V) (hz:zs.length=xs.length) (hn:xs.length<=1000000)
 (Aq:∀ i H2,Same H H2->i<xs.length->J.go i H2) (xK:∀ H2,Same H H2->J.stop xs.length H2) (yE:∀ (i:Nat) H2 x H3,Same H H2->i<xs.length->J.yld i H2 x H3->H3=H2/\xs[i]?=some x)
 (hb:∀ (i:Nat) x z H2 (R:VK) (R0:Hp->Prop),xs[i]?=some x->zs[i]?=some z->Same H H2->(p z=true->R (f z) H2)->(p z=false->R0 H2)->g x (cσ js σ) H2 fun w9 H3=>tt w9 H3 fun b H4=>if b=true then te w9 H4 R else R0 H4)
 (q:∀ D,H D=none->fin D (upd H D (.lst ((zs.filter p).map f)))) :
 ∀ D,H D=none->∃ (n:Nat) (W:Nat->Hp->Prop),W 0 (upd H D (.lst []))/\fV js g tt te σ J D n W fun H'=>fin D H':=by
 intro D hD;refine ⟨xs.length,fun i H2=>i<=xs.length/\H2=upd H D (.lst (((zs.take i).filter p).map f)),⟨Q7 _,by simp⟩,?_⟩;rintro i H2 ⟨hi,rfl⟩;have sm:∀ o,Same H (upd H D o):=fun o=>ad hD o;by_cases h:i=xs.length
 · left;subst h;refine ⟨xK _ (sm _),?_⟩;rw [<- hz,S8];exact q D hD
 · right;have xJ:i<xs.length:=by omega
   refine ⟨xJ,Aq i _ (sm _) xJ,fun x H1 hy=>?_⟩;obtain ⟨rfl,hx⟩:=yE i _ x H1 (sm _) xJ hy;have Ij:i<zs.length:=by omega
   have e1:zs[i]?=some zs[i]:=QC Ij
   have e2:(zs.take (i+1)).filter p=(zs.take i).filter p++(if p zs[i]=true then [zs[i]] else []):=by
    rw [RX,e1,Ve];show _++List.filter p [zs[i]]=_;rw [SN,VH]
   have hlen:(((zs.take i).filter p).map f).length<=1000000:=by
    rw [QA];have:=T1 p (zs.take i);rw [Ro] at this;omega
   refine hb i x zs[i] _ _ _ hx e1 (sm _) (fun hp=>⟨_,ab,Vb hlen (by decide),xJ,?_⟩) (fun hp=>⟨xJ,?_⟩)
   · rw [jj,e2,if_pos hp,QS];rfl
   · rw [e2,if_neg (by rw [hp];exact Q0),Rw]
theorem fW {α:Type} {K:QB} {a:QD} {js:List (Option Nat)} {g:TG} {tt:TT} {te:TE} {σ:St} {H:Hp} {xs:List V} {fin:QD->Hp->Prop} (zs:List α) (p:α->Bool) (f:α->V) (hS:SqL K H a xs) (hz:zs.length=xs.length) (hn:xs.length<=1000000)
 (hb:∀ (i:Nat) x z H2 (R:VK) (R0:Hp->Prop),xs[i]?=some x->zs[i]?=some z->Same H H2->(p z=true->R (f z) H2)->(p z=false->R0 H2)->g x (cσ js σ) H2 fun w9 H3=>tt w9 H3 fun b H4=>if b=true then te w9 H4 R else R0 H4)
 (q:∀ D,H D=none->fin D (upd H D (.lst ((zs.filter p).map f)))) :
 ∀ D,H D=none->∃ (n:Nat) (W:Nat->Hp->Prop),W 0 (upd H D (.lst []))/\fV js g tt te σ (Itl K a) D n W fun H'=>fin D H' :=
 rD zs p f hz hn (fun i H2 s hi=>⟨xs,xs[i],s.seq hS,QC hi⟩) (fun H2 s=>⟨xs,s.seq hS,QF _⟩) (fun i H2 x H3 s hi hy=>⟨hy.1,hy.2 xs (s.seq hS)⟩) hb q
variable {K:QB}
theorem uT:T8 K (.type "tuple") (.type "tuple")=some true:=rfl
theorem uR:T8 K (.type "str") (.type "str")=some true:=rfl
theorem uQ:T8 K (.type "list") (.type "list")=some true:=rfl
end L2
namespace BB
open PySem L2
set_option genInjectivity true in
inductive Dv where
 | int (i:Int)
 | str (x:Rc)
 | tup (ds:List Dv)
mutual
def Dv.deep:Dv->Nat
 | .int _=>0
 | .str _=>0
 | .tup ds=>cC ds+1
def cC:List Dv->Nat
 | []=>0
 | d::ds=>max d.deep (cC ds)
end
mutual
def Dv.tot:Dv->Nat
 | .int _=>1
 | .str _=>1
 | .tup ds=>tf ds+1
def tf:List Dv->Nat
 | []=>0
 | d::ds=>d.tot+tf ds
end
mutual
def DAt (H:Hp):Dv->V->Prop
 | .int i,v=>v=.int i
 | .str x,v=>v=.str x
 | .tup ds,v=>∃ a vs,v=.ref a/\H a=some (.tup vs)/\DAts H ds vs
def DAts (H:Hp):List Dv->List V->Prop
 | [],vs=>vs=[]
 | d::ds,vs=>∃ v r,vs=v::r/\DAt H d v/\DAts H ds r
end
theorem DAts.nil {H:Hp}:DAts H [] []:=by rw [DAts]
theorem DAts.cons {H:Hp} {d:Dv} {ds:List Dv} {v:V} {vs:List V} (h1:DAt H d v) (h2:DAts H ds vs):DAts H (d::ds) (v::vs):=by rw [DAts];exact ⟨v,vs,rfl,h1,h2⟩
theorem DAts.length {H:Hp}:∀ {ds:List Dv} {vs:List V},DAts H ds vs->vs.length=ds.length
 | [],vs,h=>by rw [DAts] at h;subst h;rfl
 | d::ds,vs,h=>by
   rw [DAts] at h;obtain ⟨v,r,rfl,h1,h2⟩:=h;rw [QM,QM,h2.length]
theorem DAts.at {H:Hp}:∀ {ds:List Dv} {vs:List V} {i:Nat} {d:Dv},DAts H ds vs->ds[i]?=some d->∃ v,vs[i]?=some v/\DAt H d v
 | [],vs,i,d,h,e=>by simp at e
 | d0::ds,vs,i,d,h,e=>by
   rw [DAts] at h;obtain ⟨v,r,rfl,h1,h2⟩:=h;cases i with
   | zero=>simp at e;subst e;exact ⟨v,rfl,h1⟩
   | succ i =>
     obtain ⟨u,g1,g2⟩:=h2.at (i:=i) (by simpa using e);exact ⟨u,by simpa using g1,g2⟩
theorem dX:∀ {ds:List Dv} {i:Nat} {d:Dv},ds[i]?=some d->d.deep<=cC ds
 | [],i,d,e=>by simp at e
 | d0::ds,i,d,e=>by
   rw [cC];cases i with
   | zero=>simp at e;subst e;omega
   | succ i =>
     have:=dX (ds:=ds) (i:=i) (by simpa using e);omega
theorem mM:∀ {ds:List Dv} {i:Nat} {d:Dv},ds[i]?=some d->d.tot<=tf ds
 | [],i,d,e=>by simp at e
 | d0::ds,i,d,e=>by
   rw [tf];cases i with
   | zero=>simp at e;subst e;omega
   | succ i =>
     have:=mM (ds:=ds) (i:=i) (by simpa using e);omega
theorem Dv.tot_pos (d:Dv):1<=d.tot:=by
 cases d with
 | int i=>rw [Dv.tot];omega
 | str x=>rw [Dv.tot];omega
 | tup ds=>rw [Dv.tot];omega
mutual
def Th.dv:Th->Dv
 | .knot n ks=>.tup (.str n::dvs ks)
 | .call s k=>.tup [.str q,.int s,.int k]
def dvs:List Th->List Dv
 | []=>[]
 | t::ts=>t.dv::dvs ts
end
mutual
theorem At.dv {H:Hp}:∀ {t:Th} {a:QD},At H t a->DAt H t.dv (.ref a)
 | .knot n ks,a,h=>by
   rw [At] at h;obtain ⟨_,as,h1,h2⟩:=h;rw [Th.dv,DAt];exact ⟨a,_,rfl,h1,.cons (by rw [DAt]) (Ats.dvs h2)⟩
 | .call s k,a,h=>by
   rw [At] at h;rw [Th.dv,DAt];exact ⟨a,_,rfl,h,.cons (by rw [DAt]) (.cons (by rw [DAt]) (.cons (by rw [DAt]) .nil))⟩
theorem Ats.dvs {H:Hp}:∀ {ts:List Th} {as:List QD},Ats H ts as->DAts H (dvs ts) (as.map V.ref)
 | [],as,h=>by rw [Ats] at h;subst h;rw [BB.dvs];exact .nil
 | t::ts,as,h=>by
   rw [Ats] at h;obtain ⟨a,r,rfl,h1,h2⟩:=h;rw [BB.dvs,RD];exact .cons (At.dv h1) (Ats.dvs h2)
end
mutual
theorem Th.dv_deep:∀ t:Th,t.dv.deep<=t.tall
 | .knot n ks=>by
   have:=gR ks;rw [Th.dv,Dv.deep,cC,Dv.deep,Th.tall];omega
 | .call s k=>by rw [Th.dv,Th.tall];simp [Dv.deep,cC]
theorem gR:∀ ts:List Th,cC (dvs ts)<=bI ts
 | []=>by rw [dvs,cC];exact Q7 _
 | t::ts=>by
   have:=t.dv_deep;have:=gR ts;rw [dvs,cC,bI];omega
end
theorem lP {K:QB} {H:Hp} {a b:QD} {xs ys:List V} {Q:VK} (ha:H a=some (.tup xs)) (hb:H b=some (.tup ys)) (hz:xs.length+ys.length<=1000000) (q:∀ p H',L2.Same H H'->H' p=some (.tup (xs++ys))->Q (.ref p) H'):lI K (.ref a) (.ref b) H Q:=by
 refine ⟨a,b,xs,ys,rfl,rfl,SqT.of ha,SqT.of hb,ak hz,fun e=>?_,fun _ e=>?_,fun _ _ p hp=>?_⟩
 · exact q b H (.refl _) (by rw [e];exact hb)
 · exact q a H (.refl _) (by rw [e,Rw];exact ha)
 · exact q p _ (ad hp _) ab
mutual
/-- all Lk with Ll places,a knot ahead of its kids -/
def Th.pl (pre:List Int):Th->List (List Int×Th)
 | .knot n ks=>(pre,.knot n ks)::pls pre 0 ks
 | .call s k=>[(pre,.call s k)]
def pls (pre:List Int) (i:Int):List Th->List (List Int×Th)
 | []=>[]
 | t::ts=>t.pl (pre++[i])++pls pre (i+1) ts
end
theorem Th.pl_eq (pre:List Int) (t:Th):t.pl pre=(pre,t)::pls pre 0 t.kids:=by
 cases t with
 | knot n ks=>rw [Th.pl];rfl
 | call s k=>rw [Th.pl];simp [Th.kids,pls]
mutual
theorem Th.pl_len (pre:List Int):∀ t:Th,(t.pl pre).length=t.size
 | .knot n ks=>by rw [Th.pl,Th.size,QM,pS pre 0 ks]
 | .call s k=>by rw [Th.pl,Th.size];rfl
theorem pS (pre:List Int) (i:Int):∀ ts:List Th,(pls pre i ts).length=ax ts
 | []=>by rw [pls,ax];rfl
 | t::ts=>by rw [pls,ax,QX,Th.pl_len _ t,pS pre (i+1) ts]
end
def szP:List (List Int×Th)->Nat
 | []=>0
 | p::ps=>p.2.size+szP ps
def plP:List (List Int×Th)->List (List Int×Th)
 | []=>[]
 | p::ps=>p.2.pl p.1++plP ps
theorem cp:∀ a b,szP (a++b)=szP a+szP b
 | [],b=>by simp [szP]
 | p::a,b=>by rw [Ta,szP,szP,cp a b,Vq]
theorem ji (a:List (List Int×Th)):szP a.reverse=szP a:=by
 induction a with
 | nil=>rfl
 | cons x xs ih=>rw [RF,cp,ih,szP,szP,szP];omega
theorem kf:∀ a b,plP (a++b)=plP a++plP b
 | [],b=>by simp [plP]
 | p::a,b=>by rw [Ta,plP,plP,kf a b,RG]
theorem pX:∀ a,(plP a).length=szP a
 | []=>rfl
 | p::a=>by rw [plP,szP,QX,Th.pl_len,pX a]
theorem lZ:∀ a,a.length<=szP a
 | []=>Q7 _
 | p::a=>by
   have:=p.2.size_pos;have:=lZ a;rw [QM,szP];omega
def cB (pre:List Int) (i:Int):List Th->List (List Int×Th)
 | []=>[]
 | t::ts=>(pre++[i],t)::cB pre (i+1) ts
theorem fH (pre:List Int) (i:Int):∀ ts,(cB pre i ts).length=ts.length
 | []=>rfl
 | t::ts=>by rw [cB,QM,QM,fH pre (i+1) ts]
theorem nO (pre:List Int) (i:Int):∀ ts,plP (cB pre i ts)=pls pre i ts
 | []=>by rw [cB,plP,pls]
 | t::ts=>by rw [cB,plP,pls,nO pre (i+1) ts]
theorem hZ (pre:List Int) (i:Int):∀ ts,szP (cB pre i ts)=ax ts
 | []=>by rw [cB,szP,ax]
 | t::ts=>by rw [cB,szP,ax,hZ pre (i+1) ts]
theorem kh (pre:List Int):∀ (i:Int) (ts:List Th) (j:Nat) (t:Th),ts[j]?=some t->(cB pre i ts)[j]?=some (pre++[i+j],t)
 | i,[],j,t,e=>by simp at e
 | i,u::ts,0,t,e=>by simp at e;subst e;rw [cB];simp
 | i,u::ts,j+1,t,e=>by
   rw [cB,R8,kh pre (i+1) ts j t (by simpa using e)];have:i+1+(j:Int)=i+((j+1:Nat):Int):=by omega
   rw [this]
theorem jE (pre:List Int):∀ (i:Int) (ts:List Th) (p:List Int×Th),p∈cB pre i ts->p.1.length=pre.length+1/\p.2∈ts
 | i,[],p,h=>by rw [cB] at h;cases h
 | i,u::ts,p,h=>by
   rw [cB] at h;rcases QZ.mp h with rfl | h
   · exact ⟨by simp,Q6 ..⟩
   · have:=jE pre (i+1) ts p h;exact ⟨this.1,Q1 _ this.2⟩
theorem P2.reverse {α β:Type} {F:α->β->Prop}:∀ {a:List α} {b:List β},Rf F a b->Rf F a.reverse b.reverse
 | _,_,.nil=>.nil
 | _,_,.cons r t=>by
   rw [RF,RF];exact P2.append (P2.reverse t) (.cons r .nil)
theorem P2.snoc_inv {α β:Type} {F:α->β->Prop} {a:List α} {b:List β} {y:β} (h:Rf F a (b++[y])):∃ us x,a=us++[x]/\Rf F us b/\F x y:=by
 have r:=P2.reverse h;rw [R5,List.reverse_singleton,List.singleton_append] at r;cases e:a.reverse with
 | nil=>rw [e] at r;cases r
 | cons x us =>
   rw [e] at r;cases r with
   | cons h1 h2 =>
     refine ⟨us.reverse,x,?_,?_,h1⟩
     · rw [<- RF,<- e,Sx]
     · have:=P2.reverse h2;rw [Sx] at this;exact this
theorem mo {t u:Th} (h:u∈t.kids):u.tall+1<=t.tall:=by
 have:=b9 h;rw [t.tall_eq];omega
def Th.sub:Th->List Int->Option Th
 | t,[]=>some t
 | t,i::r=>if 0<=i then (match t.kids[i.toNat]? with | some u=>u.sub r | none=>none) else none
termination_by _ p=>p.length
theorem gY (t:Th):t.sub []=some t:=by rw [Th.sub]
theorem nn {t u:Th} {i:Int} {r:List Int} (h0:0<=i) (h:t.kids[i.toNat]?=some u):t.sub (i::r)=u.sub r:=by rw [Th.sub,if_pos h0,h]
mutual
theorem rf:∀ (t:Th) (pre p:List Int) (u:Th),(p,u)∈t.pl pre->∃ r,p=pre++r/\t.sub r=some u/\r.length+u.tall<=t.tall/\u.size<=t.size
 | .knot n ks,pre,p,u,h=>by
   rw [Th.pl] at h;rcases QZ.mp h with e | h
   · cases e;exact ⟨[],by simp,gY _,by simp,QF _⟩
   · obtain ⟨j,v,r,h1,rfl,h3,h4,h5,h6,h7⟩:=pY ks pre 0 p u h;refine ⟨(0+(j:Int))::r,by simp,?_,?_,?_⟩
     · rw [nn (u:=v) (by omega) (by rw [show (0+(j:Int)).toNat=j by omega];exact h1)];exact h3
     · rw [Th.tall,QM];omega
     · rw [Th.size];omega
 | .call s k,pre,p,u,h=>by
   rw [Th.pl] at h;have e:(p,u)=(pre,Th.call s k):=by simpa using h
   cases e;exact ⟨[],by simp,gY _,by simp,QF _⟩
theorem pY:∀ (ts:List Th) (pre:List Int) (i:Int) (p:List Int) (u:Th),(p,u)∈pls pre i ts->∃ (j:Nat) (v:Th) (r:List Int),ts[j]?=some v/\p=pre++(i+(j:Int))::r/\v.sub r=some u/\r.length+u.tall<=v.tall/\v.tall<=bI ts/\u.size<=v.size/\v.size<=ax ts
 | [],pre,i,p,u,h=>by rw [pls] at h;cases h
 | t::ts,pre,i,p,u,h=>by
   rw [pls] at h;rcases Rv.mp h with h | h
   · obtain ⟨r,rfl,h1,h2,h3⟩:=rf t (pre++[i]) p u h;exact ⟨0,t,r,rfl,by simp,h1,h2,by rw [bI];omega,h3,by rw [ax];omega⟩
   · obtain ⟨j,v,r,h1,rfl,h3,h4,h5,h6,h7⟩:=pY ts pre (i+1) p u h;refine ⟨j+1,v,r,by simpa using h1,?_,h3,h4,by rw [bI];omega,h6,by rw [ax];omega⟩;have:i+1+(j:Int)=i+((j+1:Nat):Int):=by omega
     rw [this]
end
theorem aK:∀ {ts:List Th} {t:Th},t∈ts->t.size<=ax ts
 | u::ts,t,h=>by
   rw [ax];rcases QZ.mp h with rfl | h
   · omega
   · have:=aK h;omega
end BB
namespace BB
open PySem L2
section
variable {ext:Th->List V} {H H':Hp} {t:Th} {a:QD} {ts:List Th} {es:List QD}
end
def Th.isCall:Th->Bool
 | .knot _ _=>false
 | .call _ _=>true
def lX:List Int×Th->Option (List Int×Int×Int)
 | (_,.knot _ _)=>none
 | (p,.call s k)=>some (p,s,k)
def callsOf (ps:List (List Int×Th)):List (List Int×Int×Int):=ps.filterMap lX
theorem dg (a b:List (List Int×Th)):callsOf (a++b)=callsOf a++callsOf b:=List.filterMap_append
theorem iV (a:List (List Int×Th)):(callsOf a).length<=a.length:=List.length_filterMap_le _ _
def CAt (H:Hp) (c:List Int×Int×Int) (a:QD):Prop:=∃ pa ca,H a=some (.tup [.ref pa,.ref ca])/\H pa=some (.tup (c.1.map V.int))/\H ca=some (.tup [.int c.2.1,.int c.2.2])
def CsAt (H:Hp) (cs:List (List Int×Int×Int)) (as:List QD):Prop:=Rf (CAt H) cs as
theorem CAt.mono {H H':Hp} (k:KT H H') {c:List Int×Int×Int} {a:QD} (h:CAt H c a):CAt H' c a:=by
 obtain ⟨pa,ca,h1,h2,h3⟩:=h;exact ⟨pa,ca,k _ _ h1,k _ _ h2,k _ _ h3⟩
theorem CsAt.mono {H H':Hp} (k:KT H H') {cs:List (List Int×Int×Int)} {as:List QD} (h:CsAt H cs as):CsAt H' cs as:=P2.mp (fun _ _ e=>CAt.mono k e) h
end BB
namespace BB
open PySem PySem.Spec PyProof.Rows L2
mutual
theorem DAt.inj {H:Hp}:∀ {d e:Dv} {v:V},DAt H d v->DAt H e v->d=e
 | .int i,.int j,v,h,g=>by rw [DAt] at h;rw [DAt] at g;rw [h] at g;cases g;rfl
 | .int i,.str y,v,h,g=>by rw [DAt] at h;rw [DAt] at g;rw [h] at g;cases g
 | .int i,.tup es,v,h,g=>by rw [DAt] at h;rw [DAt] at g;obtain ⟨a,vs,e,_⟩:=g;rw [h] at e;cases e
 | .str x,.int j,v,h,g=>by rw [DAt] at h;rw [DAt] at g;rw [h] at g;cases g
 | .str x,.str y,v,h,g=>by rw [DAt] at h;rw [DAt] at g;rw [h] at g;cases g;rfl
 | .str x,.tup es,v,h,g=>by rw [DAt] at h;rw [DAt] at g;obtain ⟨a,vs,e,_⟩:=g;rw [h] at e;cases e
 | .tup ds,.int j,v,h,g=>by rw [DAt] at h;rw [DAt] at g;obtain ⟨a,vs,e,_⟩:=h;rw [e] at g;cases g
 | .tup ds,.str y,v,h,g=>by rw [DAt] at h;rw [DAt] at g;obtain ⟨a,vs,e,_⟩:=h;rw [e] at g;cases g
 | .tup ds,.tup es,v,h,g=>by
   rw [DAt] at h;rw [DAt] at g;obtain ⟨a,vs,e1,h1,h2⟩:=h;obtain ⟨b,ws,e2,g1,g2⟩:=g;rw [e1] at e2;cases e2;rw [h1] at g1;cases g1;rw [DAts.inj h2 g2]
theorem DAts.inj {H:Hp}:∀ {ds es:List Dv} {vs:List V},DAts H ds vs->DAts H es vs->ds=es
 | [],[],vs,h,g=>rfl
 | [],e::es,vs,h,g=>by rw [DAts] at h;rw [DAts] at g;obtain ⟨v,r,z,_⟩:=g;rw [h] at z;cases z
 | d::ds,[],vs,h,g=>by rw [DAts] at h;rw [DAts] at g;obtain ⟨v,r,z,_⟩:=h;rw [g] at z;cases z
 | d::ds,e::es,vs,h,g=>by
   rw [DAts] at h;rw [DAts] at g;obtain ⟨v,r,z,h1,h2⟩:=h;obtain ⟨v',r',z',g1,g2⟩:=g;rw [z] at z';cases z';rw [DAt.inj h1 g1,DAts.inj h2 g2]
end
end BB
namespace L2
open PySem PySem.Spec PySem.SeqAt PyProof.Rows BB
open Classical in
theorem rC {X:Cx} {pins:List (QD×SQ)} {σ:St} {H:Hp} {s:QJ} (I:Inv X pins σ H s) {ds es:List Dv} {a b:QD} {vs ws:List V} {A:Rr} (ha:SqT X.K H a vs) (hb:SqT X.K H b ws) (Ar:DAts H ds vs) (xA:DAts H es ws) (hu:A.units<Sl)
 (ih:∀ (j:Nat) (d e:Dv) (x y:V) (u v:QE),ds[j]?=some d->DAt H d x->DAt H e y->RelV x u->RelV y v->EqAt A.in1 s u v (decide (d=e))):RcAt A s (.ref a) (.ref b) (decide (Dv.tup ds=Dv.tup es)):=by
 obtain ⟨its,r1,p1,_⟩:=I.tuple ha;obtain ⟨wL,r2,p2,_⟩:=I.tuple hb;have l1:its.length=ds.length:=by rw [<- r1.length,Ar.length]
 have l2:wL.length=es.length:=by rw [<- r2.length,xA.length]
 have AW:RcAt A s (.ref a) (.ref b) ((Rl (min its.toArray.size wL.toArray.size)).all (fun j=>decide (ds[j]?=es[j]?)) && its.toArray.size == wL.toArray.size):=by
  refine RcAt.tuples (show s.heap.IsTuple a its.toArray from p1) (show s.heap.IsTuple b wL.toArray from p2) hu fun j h1 h2=>?_;have zZ:j<ds.length:=by rw [<- l1];simpa using h1
  have zz:j<es.length:=by rw [<- l2];simpa using h2
  have e1:ds[j]?=some ds[j]:=QC zZ;have e2:es[j]?=some es[j]:=QC zz;obtain ⟨x',Ap,dx⟩:=Ar.at e1;obtain ⟨y',zV,dy⟩:=xA.at e2;obtain ⟨u',yo,BH⟩:=r1.get Ap;obtain ⟨v',xG,zA⟩:=r2.get zV;have e3:decide (ds[j]?=es[j]?)=decide (ds[j]=es[j]):=by rw [e1,e2];simp
  have e4:its.toArray[j]=u':=by
   rw [QC (by rw [l1];exact zZ)] at yo;simpa using yo
  have e5:wL.toArray[j]=v':=by
   rw [QC (by rw [l2];exact zz)] at xG;simpa using xG
  rw [e3,e4,e5];exact ih j ds[j] es[j] x' y' u' v' e1 dx dy BH zA
 have e:decide (Dv.tup ds=Dv.tup es)=((Rl (min its.toArray.size wL.toArray.size)).all (fun j=>decide (ds[j]?=es[j]?)) && its.toArray.size == wL.toArray.size):=by
  rw [QN,QN,l1,l2];by_cases h:ds=es
  · subst h;rw [decide_eq_true rfl];symm;simp
  · rw [decide_eq_false (fun z=>h (Dv.tup.inj z))];symm;by_cases hl:ds.length=es.length
    · rw [hl,Wo]
      have:¬ ((Rl es.length).all (fun j=>decide (ds[j]?=es[j]?)))=true:=by
       intro z;apply h;apply Vl;intro j;by_cases hj:j<es.length
       · have:=Tb.mp z j (TC.mpr hj);exact of_decide_eq_true this
       · rw [Su (by omega),Su (by omega)]
      rw [Sh.mpr this];rfl
    · have:(ds.length == es.length)=false:=by simpa using hl
      rw [this,Vg]
 rw [e];exact AW
open Classical in
theorem mj {X:Cx} {pins:List (QD×SQ)} {σ:St} {H:Hp} {s:QJ} (I:Inv X pins σ H s):∀ (n:Nat) (d e:Dv),d.tot<=n->∀ (x y:V) (u v:QE) (A:Rr),DAt H d x->DAt H e y->RelV x u->RelV y v->A.units+d.deep<Sl->EqAt A s u v (decide (d=e))
 | 0,d,e,hn,x,y,u,v,A,hd,he,ru,rv,hu=>by have:=d.tot_pos;omega
 | n+1,.int i,.int j,hn,x,y,u,v,A,hd,he,ru,rv,hu=>by
   rw [DAt] at hd;rw [DAt] at he;subst hd he;obtain ⟨t,rfl⟩:=ru;obtain ⟨t',rfl⟩:=rv
   have e:decide (Dv.int i=Dv.int j)=(i == j):=by
    by_cases h:i=j
    · subst h;simp
    · rw [decide_eq_false (fun z=>h (Dv.int.inj z))];simp [h]
   rw [e];exact EqAt.int_int i t j t'
 | n+1,.int i,.str b,hn,x,y,u,v,A,hd,he,ru,rv,hu=>by
   rw [DAt] at hd;rw [DAt] at he;subst hd he;obtain ⟨t,rfl⟩:=ru;obtain ⟨t',rfl⟩:=rv;rw [decide_eq_false (fun z=>by cases z)];exact EqAt.int_str i t b t'
 | n+1,.int i,.tup es,hn,x,y,u,v,A,hd,he,ru,rv,hu=>by
   rw [DAt] at hd;rw [DAt] at he;obtain ⟨a,vs,rfl,ha,_⟩:=he;subst hd;obtain ⟨t,rfl⟩:=ru;cases rv;obtain ⟨its,_,p,_⟩:=I.tuple (SqT.of (K:=X.K) ha);rw [decide_eq_false (fun z=>by cases z)];exact EqAt.int_tuple i t (show s.heap.IsTuple a its.toArray from p) (by omega)
 | n+1,.str b,.int j,hn,x,y,u,v,A,hd,he,ru,rv,hu=>by
   rw [DAt] at hd;rw [DAt] at he;subst hd he;obtain ⟨t,rfl⟩:=ru;obtain ⟨t',rfl⟩:=rv;rw [decide_eq_false (fun z=>by cases z)];exact EqAt.str_int b t j t'
 | n+1,.str b,.str c,hn,x,y,u,v,A,hd,he,ru,rv,hu=>by
   rw [DAt] at hd;rw [DAt] at he;subst hd he;obtain ⟨t,rfl⟩:=ru;obtain ⟨t',rfl⟩:=rv
   have e:decide (Dv.str b=Dv.str c)=(b == c):=by
    by_cases h:b=c
    · subst h;simp
    · rw [decide_eq_false (fun z=>h (Dv.str.inj z))];simp [h]
   rw [e];exact EqAt.str_str b t c t'
 | n+1,.str b,.tup es,hn,x,y,u,v,A,hd,he,ru,rv,hu=>by
   rw [DAt] at hd;rw [DAt] at he;obtain ⟨a,vs,rfl,ha,_⟩:=he;subst hd;obtain ⟨t,rfl⟩:=ru;cases rv;obtain ⟨its,_,p,_⟩:=I.tuple (SqT.of (K:=X.K) ha);rw [decide_eq_false (fun z=>by cases z)];exact EqAt.str_tuple b t (show s.heap.IsTuple a its.toArray from p) (by omega)
 | n+1,.tup ds,.int j,hn,x,y,u,v,A,hd,he,ru,rv,hu=>by
   rw [DAt] at hd;rw [DAt] at he;obtain ⟨a,vs,rfl,ha,_⟩:=hd;subst he;cases ru;obtain ⟨t,rfl⟩:=rv;obtain ⟨its,_,p,_⟩:=I.tuple (SqT.of (K:=X.K) ha);rw [decide_eq_false (fun z=>by cases z)];exact EqAt.tuple_int j t (show s.heap.IsTuple a its.toArray from p) (by omega)
 | n+1,.tup ds,.str b,hn,x,y,u,v,A,hd,he,ru,rv,hu=>by
   rw [DAt] at hd;rw [DAt] at he;obtain ⟨a,vs,rfl,ha,_⟩:=hd;subst he;cases ru;obtain ⟨t,rfl⟩:=rv;obtain ⟨its,_,p,_⟩:=I.tuple (SqT.of (K:=X.K) ha);rw [decide_eq_false (fun z=>by cases z)];exact EqAt.tuple_str b t (show s.heap.IsTuple a its.toArray from p) (by omega)
 | n+1,.tup ds,.tup es,hn,x,y,u,v,A,hd,he,ru,rv,hu=>by
   have Au:=hd;have IE:=he;rw [DAt] at hd;rw [DAt] at he;obtain ⟨a,vs,rfl,ha,Ar⟩:=hd;obtain ⟨b,ws,rfl,hb,xA⟩:=he;cases ru;cases rv;by_cases yp:a=b
   · subst yp;rw [decide_eq_true (DAt.inj Au IE)];exact EqAt.same _
   rw [Dv.tot] at hn;rw [Dv.deep] at hu;refine EqAt.of_refs yp (rC I (SqT.of ha) (SqT.of hb) Ar xA (by omega) fun j d e x' y' u' v' e1 dx dy BH zA=>?_);have q1:=mM e1;have q2:=dX e1;refine mj I n d e (by omega) x' y' u' v' A.in1 dx dy BH zA ?_;show A.units+1+_<Sl;omega
def tN (K:QB) (B:Nat):R2:=fun x y H Q=>∃ b ws d es,y=.ref b/\SqT K H b ws/\DAt H d x/\DAts H es ws/\cC es<=B/\∀ r:Bool,(r=true↔d∉es)->Q (.bl r) H
open Classical in
theorem qD {X:Cx} {B:Nat} (hu:X.A.units+B+2<Sl):OpR X (UE .NotIn) (tN X.K B):=by
 intro pins s σ H x y v u Q I rx ry h;obtain ⟨b,ws,d,es,rfl,hb,hd,xA,hB,q⟩:=h;cases ry;obtain ⟨its,r1,p1,_⟩:=I.tuple hb
 have key:∀ (j:Nat) (z:QE),its[j]?=some z->∃ e y',es[j]?=some e/\DAt H e y'/\RelV y' z:=by
  intro j z hz;have hj:j<its.length:=(QL.mp hz).1;have l1:=r1.length;have l2:=xA.length;have D5:j<es.length:=by omega
  obtain ⟨y',zV,dy⟩:=xA.at (QC D5);obtain ⟨v',xG,zA⟩:=r1.get zV;rw [hz] at xG;cases xG;exact ⟨_,y',QC D5,dy,zA⟩
 have uniq:∀ (z:QE) (e e':Dv) (y' AX:V),DAt H e y'->RelV y' z->DAt H e' AX->RelV AX z->e=e':=by
  intro z e e' y' AX h1 h2 h3 h4;have:=h2.inj h4;subst this;exact h1.inj h3
 refine notIn_tupleAt (fun z=>decide (∃ y',DAt H d y'/\RelV y' z)) (show s.heap.IsTuple b its.toArray from p1) (fun z hz=>?_) ⟨.bl _,H,I,rfl,q _ ?_⟩
 · obtain ⟨j,hj⟩:=Rb.mp (show z∈its by simpa using hz);obtain ⟨e,y',he,dy,ry⟩:=key j z hj;have hq:=dX he
   have e3:decide (∃ y',DAt H d y'/\RelV y' z)=decide (e=d):=by
    by_cases h:e=d
    · rw [decide_eq_true h,decide_eq_true ⟨y',h ▸ dy,ry⟩]
    · rw [decide_eq_false h,decide_eq_false];rintro ⟨AX,h1,h2⟩;exact h (uniq z e d y' AX dy ry h1 h2)
   rw [e3];refine mj I _ e d (QF _) y' x z v X.A.in1 dy hd ry rx ?_;show X.A.units+1+_<Sl;omega
 · rw [Bool.not_eq_true',<- Bool.not_eq_true];refine not_congr ?_;constructor
   · intro z;obtain ⟨v',h1,h2⟩:=Array.any_eq_true'.mp z;obtain ⟨j,hj⟩:=Rb.mp (show v'∈its by simpa using h1);obtain ⟨e,y',he,dy,ry⟩:=key j v' hj;obtain ⟨AX,h3,h4⟩:=of_decide_eq_true h2;rw [<- uniq v' e d y' AX dy ry h3 h4];exact QH he
   · intro z;obtain ⟨j,hj⟩:=Rb.mp z;obtain ⟨y',zV,dy⟩:=xA.at hj;obtain ⟨v',xG,zA⟩:=r1.get zV;refine Array.any_eq_true'.mpr ⟨v',?_,decide_eq_true ⟨y',dy,zA⟩⟩;have:=QH xG;simpa using this
end L2
namespace BB
open PySem L2
def Th.put:Th->List Int->Th->Th
 | _,[],o=>o
 | t,i::r,o=>match t.kids[i.toNat]? with
   | some u=>.knot t.nm (t.kids.set i.toNat (u.put r o))
   | none=>o
termination_by _ p=>p.length
theorem l5 (t o:Th):t.put [] o=o:=by rw [Th.put]
theorem jz {t u o:Th} {i:Int} {r:List Int} (h:t.kids[i.toNat]?=some u):t.put (i::r) o=.knot t.nm (t.kids.set i.toNat (u.put r o)):=by rw [Th.put,h]
theorem lT {t u:Th} {i:Int} {r:List Int} (h:t.sub (i::r)=some u):0<=i/\∃ w,t.kids[i.toNat]?=some w/\w.sub r=some u:=by
 rw [Th.sub] at h;split at h
 · rename_i h0
   split at h
   · rename_i w hw
     exact ⟨h0,w,hw,h⟩
   · cases h
 · cases h
theorem kY:∀ {ks:List Th} {i:Nat} {w x:Th},ks[i]?=some w->ax (ks.set i x)+w.size=ax ks+x.size
 | [],i,w,x,h=>by simp at h
 | k::ks,0,w,x,h=>by
   simp at h;subst h;rw [List.set_cons_zero,ax,ax];omega
 | k::ks,i+1,w,x,h=>by
   have:=kY (ks:=ks) (i:=i) (w:=w) (x:=x) (by simpa using h);rw [List.set_cons_succ,ax,ax];omega
theorem n5:∀ (p:List Int) (t u o:Th),t.sub p=some u->(t.put p o).size+u.size=t.size+o.size
 | [],t,u,o,h=>by
   rw [gY] at h;cases h;rw [l5];omega
 | i::r,t,u,o,h=>by
   obtain ⟨h0,w,hw,hs⟩:=lT h;have h1:=n5 r w u o hs;have h2:=kY (x:=w.put r o) hw;rw [jz hw,Th.size,t.size_eq];omega
theorem Ats.set {H:Hp}:∀ {ts:List Th} {as:List QD} (i:Nat) {x:Th} {a:QD},Ats H ts as->At H x a->Ats H (ts.set i x) (as.set i a)
 | [],as,i,x,a,h,g=>by rw [Ats] at h;subst h;exact .nil
 | t::ts,as,i,x,a,h,g=>by
   rw [Ats] at h;obtain ⟨b,r,rfl,h1,h2⟩:=h;cases i with
   | zero=>exact .cons g h2
   | succ i=>exact .cons h1 (Ats.set i h2 g)
end BB
namespace PySem
theorem bb_extendT (l:QD) (items:Array QE) (n:Nat) (b:QD) (yf:Array QE) (n2:Nat) (dd:Option QD) (sl:Array (Option QE)) (g0:¬(!items.isEmpty && SW (items.size+yf.size))=true) (g1:items.size<=QW) (g2:items.size+yf.size<=QW+1) :
 Meets (Tj.«list.extend» ⟨[.ref l,.ref b],[]⟩) (fun _ R s=>s.heap.get? l=some { cls:=.type "list",dict:=none,data:=.seq items n,slots:=#[] }/\s.heap.get? b=some { cls:=.type "tuple",dict:=dd,data:=.seq yf n2,slots:=sl }/\R (.ok (.ret R4)) { s with heap:=s.heap.update l (RM fun x=>x++yf),toks:=s.toks }) :=
 .of_wp fun prog w A R s h=>by
  obtain ⟨hp,g,d,tk,os⟩:=s;obtain ⟨hl,hb,h⟩:=h;have f1:=AutoSeq1.idx_int;have f2:=AutoSeq1.sub_tuple_tuple;have f3:=AutoSeq1.sub_list_list;have f4:=AutoSeq1.sub_tuple_list;have f5:=AutoSeq1.sub_list_tuple;have z2:(items++yf).size<=QW+1:=by rw [Array.size_append];exact g2
  wp_walk using (Sq hl rfl (hz:=g1) (_hz':=z2)),SY hl,SY hb
  exact ⟨_,rfl,h⟩
end PySem
namespace L2
open PySem PySem.Spec PyProof.Rows
section
variable {X:Cx}
def sh (K:QB):V->List V->Hp->VK->Prop:=fun x vs H Q=>∃ l b xs zs,x=.ref l/\vs=[.ref b]/\H l=some (.lst xs)/\SqT K H b zs/\xs.length+zs.length<=QW/\Q .non (upd H l (.lst (xs++zs)))
theorem oQ:MtM X "list.extend" (sh X.K):=by
 intro pins s σ H x vs v us Q I rx rv h;obtain ⟨l,b,xs,zs,rfl,rfl,hH,hB,hz,q⟩:=h;cases rx;obtain ⟨u,rfl,ru⟩:=rv.one;cases ru;obtain ⟨z,its,n,r,hl,e⟩:=I.lstM hH;obtain ⟨wL,r2,p2,_⟩:=I.tuple hB;have xD:=r2.length;obtain ⟨⟨Ey,DZ,data2,D0⟩,e2,Ak,n2,hd2⟩:=p2;simp only at Ak hd2;subst Ak hd2;have hsz:its.toArray.size+wL.toArray.size<=QW:=by rw [QN,QN];omega
 have AI:¬ (!its.toArray.isEmpty && SW (its.toArray.size+wL.toArray.size))=true:=by
  rw [jY hsz,Vg];exact Q0
 refine VY F.slot_list_extend ⟨_,e,rfl⟩ F.entry_list_extend (F.args_list_extend_2 _ _)
  (bb_extendT l its.toArray n b wL.toArray n2 DZ D0 AI (by rw [QN];omega) (by omega)) ⟨e,e2,?_⟩
 refine ⟨.non,_,I.lset (its':=its++wL) hH e (by simp) (r.append r2) ?_,rfl,q⟩;rw [QX];omega
theorem qW {bs:List Bool} {its:List QE} (r:Vals (bs.map V.bl) its) {i:Nat} {v:QE} (h:its[i]?=some v):∃ b,bs[i]?=some b/\v=.bool b:=by
 have hl:=r.length;have hi:i<its.length:=(QL.mp h).1;rw [QA] at hl;obtain ⟨u,hu,ru⟩:=r.get (i:=i) (x:=.bl bs[i]) (by rw [QO,QC (by omega)];rfl);rw [h] at hu;cases hu;cases ru;exact ⟨_,QC (by omega),rfl⟩
def ww (K:QB):List V->Hp->VK->Prop:=fun xs H Q=>∃ (p:QD) (bs:List Bool),xs=[.ref p]/\SqL K H p (bs.map V.bl)/\Q (.bl (bs.all id)) H
theorem ki (hc:X.calm=true):f7 X (.builtin "all") (ww X.K):=by
 intro pins s σ H xs us Q I r h;obtain ⟨p,bs,rfl,hl,q⟩:=h;obtain ⟨u,rfl,rx⟩:=vals1 r;cases rx;obtain ⟨its,rv,pl,_⟩:=I.list hl;have hlen:=rv.length;rw [QA] at hlen;have wX:p<s.heap.objs.size:=by obtain ⟨_,_,e,_⟩:=pl;exact QT e
 refine call_all_walk (wpAny_pyIter_list pl.isList ?_);refine ⟨s.heap.objs.size,[s.heap.objs.size,p],[s.heap.objs.size],its.toArray.size,_,_,fun i=>(bs[i]?).getD true,rfl,Walks.list (A:=X.A.in1) (I.ok.hd hc) _ p (Rh wX) its.toArray,⟨⟨_,QQ _ rfl,rfl,rfl⟩,pl.isList.push _⟩,fun i v s' Q' E' hP hQ=>?_,fun h' tk hk=>?_⟩
 · obtain ⟨b,e,rfl⟩:=qW rv (i:=i) (v:=v) (by simpa using hP);simp only [e,Option.getD_some] at hQ;exact Uj hQ
 · have e:((Rl its.toArray.size).all fun i=>(bs[i]?).getD true)=bs.all id:=by
    rw [QN,<- hlen];exact LSm.range_all bs
   rw [e];exact ⟨.bl (bs.all id),H,I.kept (LSm.kept_iter hk),rfl,q⟩
end
end L2
namespace BB
open PySem L2
def kDv (k:Rc×Int):Dv:=.tup [.str k.1,.int k.2]
theorem uh {H:Hp}:∀ {ks:List (Rc×Int)} {as:List QD},Rf (KAt H) ks as->DAts H (ks.map kDv) (as.map V.ref)
 | _,_,.nil=>.nil
 | _,_,.cons r h=>by
   rw [RD,RD];refine .cons ?_ (uh h);rw [kDv,DAt];exact ⟨_,_,rfl,r,.cons (by rw [DAt]) (.cons (by rw [DAt]) .nil)⟩
theorem mP:∀ ks:List (Rc×Int),cC (ks.map kDv)<=1
 | []=>by rw [S5,cC];exact Q7 _
 | k::ks=>by
   have:=mP ks;rw [RD,cC,kDv];simp only [Dv.deep,cC];omega
def star:Rc:=QK "*"
theorem rH {x:Rc} (h:Low x):x≠star:=by
 intro e;subst e;have:=h 42 (by decide +kernel);omega
open Classical in
def Th.isHole:Th->Bool
 | .knot n ks=>decide (n=star/\ks=[])
 | .call _ _=>false
def Th.isKnot (t:Th):Bool:=!t.isCall && !t.isHole
theorem sP {k:Nat} {A:Rr} (hr:L2.Room k A):A.units+50+2<Sl:=by
 have:=hr.units;omega
end BB
namespace PySem
open Sem (wp)
namespace F
theorem bb_entry_upd:entryFor table "dict.update.loop"=some Tj.«dict.update.loop»:=entryFor_of_tree (by kernel_rfl)
theorem bb_plain_upd:plainId "dict.update.loop"=true:=by decide +kernel
end F
section
variable {prog:QR} {w:Q3} {A:Rr} {E:QE->QJ->Prop} {s:QJ} {a:QD} {xs:Array QE} {k:Nat}
end
end PySem
namespace L2
open PySem PySem.Spec PyProof.Rows BB
section
variable {X:Cx}
end
end L2
namespace BB
open PySem L2
end BB
namespace HT
open PySem PySem.Spec PyProof.Rows
section
variable {prog:QR} {w:Q3} {A:Rr} {E:QE->QJ->Prop} {s:QJ}
theorem getItem_tuple_whole {t sl:QD} {items:Array QE} {vl vu:QE} {lo hi:Option Int} {Q:QE->QJ->Prop} (ht:IsTup s.heap t items) (hs:s.heap.IsSliceOf sl vl vu .none) (pl:V2 vl lo) (pu:V2 vu hi)
 (hw:sIx items.size 0 lo=0/\sIx items.size items.size hi=items.size) (h:Q (.ref t) s):QU (Ra prog w) A (UX (.ref t) (.ref sl)) Q E s:=by
 obtain ⟨os,yS,Am,yN⟩:=id hs;have Ez:s.TypeIs (.ref sl) "slice":=⟨os,yS,Am⟩;have hT:s.TypeIs (.ref t) "tuple":=ht.typeIs;unfold UX
 try with_reducible refine R1 ?_
 first | refine Qz (QI ?_) | skip
 refine Qz (wpAny_sequenceKey ht.typeIs (by decide) ?_)
 refine Qz (RE (name:=QK "__getitem__") ht.typeIs Rq
  (RL Rq ht.typeIs entry_tuple_getitem ?_ (args_tuple_getitem _ _)))
 show QU _ _ (Ux (.ref t) >>= _) _ _ s;refine Qz (tupleItemsOf_ ht ?_);refine Qz (Tf Ez ?_);rw [if_pos (by decide)];refine Qz (sliceApplied_gen hs pl pu ?_)
 have IF:(((sIx items.size 0 lo:Nat):Int) == 0 && (1:Int) == 1 && (sIx items.size items.size hi - sIx items.size 0 lo) == items.size)=true:=by
  rw [hw.1,hw.2];simp
 show QU _ _ (if (((sIx items.size 0 lo:Nat):Int) == 0 && (1:Int) == 1 && (sIx items.size items.size hi - sIx items.size 0 lo) == items.size)=true then _ else _) _ _ s;rw [if_pos IF];refine Qz (m:=Builtin.Tuple.tupleIsExact _) ?_;unfold Builtin.Tuple.tupleIsExact;refine Qz (Tf hT (QI ?_));rw [if_pos (by decide)];exact Qz (Tv (QI ⟨_,rfl,QI h⟩))
end
end HT
namespace L2
open PySem PySem.Spec PyProof.Rows
end L2
namespace PySem
open Sem (wp)
section
variable {prog:QR} {w:Q3} {A:Rr} {E:QE->QJ->Prop} {s:QJ} {it d:QD} {i ep:Nat} {od:SQ} {es:Array DictEntry}
theorem bb_keyNext {en:DictEntry} {Q:Option QE->QJ->Prop} (g:s.heap.IsKeyIter it d i es.size ep) (g1:s.heap.get? d=some od) (g2:od.data=.dict es ep) (hx:es[i]?=some en)
 (fin:∀ h',h'.IsKeyIter it d (i+1) es.size ep->Ss it s.heap h'->Q (some en.key) { s with heap:=h' }):QU (Ra prog w) A (TJ (.ref it)) Q E s:=by
 obtain ⟨o,q1,q2,q3⟩:=id g;unfold TJ;refine Qz (TH (RE (name:=QK "__next__") g.typeIs Tc (RL Tc g.typeIs F.entry_dict_keyiterator_next ?_ (F.args_dict_keyiterator_next_1 _))));refine Qz (QI ?_);refine Qz ?_;refine Qz ?_
 first | refine Qz (T3 g.typeIs (QI ?_)) | refine Qz (UI g.typeIs (QI ?_))
 refine Qz (wpAny_fieldsOf q1 q3 ?_);have own:Builtin.Dict_items.ownsTuple "dict_keyiterator"=false:=by decide
 simp only [own,RQ,if_false];show QU _ _ (if (Q9 d == R4)=true then _ else _) _ _ s;rw [if_neg (show ¬ ((Q9 d == R4)=true) from Q0)];refine Qz (QI ?_);refine Qz (VB g1 g2 ?_);rw [if_neg (by simp)];refine Qz (QI ?_);refine Qz (wpAny_dictEpoch g1 g2 ?_);rw [if_neg (by simp)];refine QI ?_;have lt:i<es.size:=(Vh.mp hx).1;have ee:es[i]=en:=(Vh.mp hx).2;simp only [show ¬ ((i:Int)<0) from by omega,if_false,RH,SG lt];refine Qz ?_
 first | refine Qz (T3 g.typeIs (QI ?_)) | refine Qz (UI g.typeIs (QI ?_))
 refine Qz (wpAny_isOneOf_keyiter g.typeIs ?_);show QU _ _ (setField (.ref it) 1 (S3 ((i:Int)+1)) >>= _) _ _ s;refine Qz (Up q1 q3 (by simp) ?_);have g':(s.heap.update it (Obj.mapFields (·.setIfInBounds 1 (S3 ((i:Int)+1))))).IsKeyIter it d (i+1) es.size ep:=⟨_,Rn _ q1 (U7 (SS q3 _)),(Obj.cls_mapFields ..).trans q2,by rw [SS q3];simp [S3]⟩;refine Qz (R1 ?_);refine Qz (wpAny_isOneOf_keyiter (s:={ s with heap:=s.heap.update it (Obj.mapFields (·.setIfInBounds 1 (S3 ((i:Int)+1)))) }) g'.typeIs ?_);show QU _ _ (pure es[i].key) _ _ _;rw [ee];exact QI (QI ⟨_,rfl,QI (fin _ g' (SJ ..))⟩)
theorem bb_keyEnd {Q:Option QE->QJ->Prop} (calm:A.handled=none) (g:s.heap.IsKeyIter it d i es.size ep) (g1:s.heap.get? d=some od) (g2:od.data=.dict es ep) (hx:es.size<=i)
 (fin:∀ h',Wt it s.heap h'->Q none { s with heap:=h' }):QU (Ra prog w) A (TJ (.ref it)) Q E s:=by
 obtain ⟨o,q1,q2,q3⟩:=id g;unfold TJ;refine Qz (TH (RE (name:=QK "__next__") g.typeIs Tc (RL Tc g.typeIs F.entry_dict_keyiterator_next ?_ (F.args_dict_keyiterator_next_1 _))));refine Qz (QI ?_);refine Qz ?_;refine Qz ?_
 first | refine Qz (T3 g.typeIs (QI ?_)) | refine Qz (UI g.typeIs (QI ?_))
 refine Qz (wpAny_fieldsOf q1 q3 ?_);have own:Builtin.Dict_items.ownsTuple "dict_keyiterator"=false:=by decide
 simp only [own,RQ,if_false];show QU _ _ (if (Q9 d == R4)=true then _ else _) _ _ s;rw [if_neg (show ¬ ((Q9 d == R4)=true) from Q0)];refine Qz (QI ?_);refine Qz (VB g1 g2 ?_);rw [if_neg (by simp)];refine Qz (QI ?_);refine Qz (wpAny_dictEpoch g1 g2 ?_);rw [if_neg (by simp)];refine QI ?_;simp only [show ¬ ((i:Int)<0) from by omega,if_false,RH,UM hx];refine Qz ?_
 first | refine Qz (T3 g.typeIs (QI ?_)) | refine Qz (UI g.typeIs (QI ?_))
 show QU _ _ (setField (.ref it) 0 .none >>= _) _ _ s;refine Qz (Up q1 q3 (by simp) ?_);show QU _ _ (newExc (.type "StopIteration") [] >>= _) _ _ _;refine Qz ?_;simp only [newExc,newTuple];refine Qz (RK ?_ (by size_fits));refine Qz (m:=UY _ _) (T4 (a:=R4) (by first | rfl | (simp only [UY];rfl)) ?_);refine RK ?_ (by size_fits);simp only [raiseNew];refine Qz (wpAny_handled ?_)
 first | rw [show A.in1.handled=none from calm] | rw [calm]
 refine Qz (QI (wpAny_throw ?_));refine Qz (Tn (T:="StopIteration") (b:=true) ⟨_,QQ _ rfl,rfl⟩ isSubtype_stop ?_);exact QI (fin _ (((SJ ..).extBut.push _).push _))
theorem bb_keyIter {Q:QE->QJ->Prop} (ns:(d == Sv)=false) (g1:s.heap.get? d=some od) (gc:od.cls=.type "dict") (g2:od.data=.dict es ep)
 (fin:Q (.ref s.heap.objs.size) { s with heap:=s.heap.push { cls:=.type "dict_keyiterator",data:=.fields #[.ref d,.int 0 0,.int es.size 0,.int ep 0] } }):QU (Ra prog w) A (pyIter (.ref d)) Q E s:=by
 have gT:s.TypeIs (.ref d) "dict":=⟨_,g1,gc⟩;refine wpAny_pyIter_slot gT F.slot_dict_iter (RL F.slot_dict_iter gT F.entry_dict_iter ?_ (F.args_dict_iter_1 _));unfold Tj.«dict.__iter__»;refine Qz ?_;unfold Builtin.Dict.dictSlotNone;refine Qz (Wa gT ?_);show QU _ _ (pure (Q9 d)) _ _ s;refine QI ?_;show QU _ _ (Builtin.Dict.showsAll d >>= _) _ _ s;unfold Builtin.Dict.showsAll;rw [if_neg (by rw [ns];exact Q0)];refine Qz (QI ?_);refine Qz (VB g1 g2 ?_);refine Qz (wpAny_dictEpoch g1 g2 ?_);refine Qz (RK (QI ⟨_,rfl,"dict_keyiterator",_,⟨_,QQ _ rfl,rfl⟩,Tc.lookup,?_⟩));simpa [S3] using fin
end
end PySem
namespace L2
open PySem PySem.Spec PyProof.Rows
section
variable {X:Cx} {e:RO} {te:TE}
end
end L2
namespace BB
open PySem L2
inductive Top where
 | nm (n:Rc) (m:Nat)
 | th (t:Th)
def bl:List Top->List Th
 | []=>[]
 | .nm n m::S=>.knot n ((bl S).take m)::(bl S).drop m
 | .th t::S=>t::bl S
def TopsOk:List Top->Prop
 | []=>True
 | .nm _ m::S=>m<=(bl S).length/\TopsOk S
 | .th _::S=>TopsOk S
theorem TopsOk.drop:∀ {l:List Top} (i:Nat),TopsOk l->TopsOk (l.drop i)
 | l,0,h=>by rw [Te];exact h
 | [],i+1,h=>by rw [List.drop_nil];exact h
 | .nm n m::S,i+1,h=>by
   rw [TopsOk] at h;rw [V1];exact TopsOk.drop i h.2
 | .th t::S,i+1,h=>by
   rw [TopsOk] at h;rw [V1];exact TopsOk.drop i h
theorem o0:∀ l:List Top,(bl l).length<=l.length
 | []=>QF _
 | .nm n m::S=>by
   have:=o0 S;rw [bl,QM,QM,R7];omega
 | .th t::S=>by
   have:=o0 S;rw [bl,QM,QM];omega
mutual
def Th.fill (f:Int->Int->Th):Th->Th
 | .knot n ks=>.knot n (fills f ks)
 | .call s k=>f s k
def fills (f:Int->Int->Th):List Th->List Th
 | []=>[]
 | t::ts=>t.fill f::fills f ts
end
theorem iJ (f:Int->Int->Th):∀ ts:List Th,(fills f ts).length=ts.length
 | []=>by rw [fills]
 | t::ts=>by rw [fills,QM,QM,iJ f ts]
mutual
theorem pI:∀ t:Th,t.fill Th.call=t
 | .knot n ks=>by rw [Th.fill,nZ ks]
 | .call s k=>by rw [Th.fill]
theorem nZ:∀ ts:List Th,fills Th.call ts=ts
 | []=>by rw [fills]
 | t::ts=>by rw [fills,pI t,nZ ts]
end
def dA (f:Int->Int->Th):Th->Top
 | .knot n ks=>.nm n ks.length
 | .call s k=>.th (f s k)
theorem kq (f:Int->Int->Th):∀ (n:Nat) (ts:List Th),ax ts<=n->∀ S,bl ((walks ts).map (dA f)++S)=fills f ts++bl S/\(TopsOk S->TopsOk ((walks ts).map (dA f)++S))
 | _,[],_,S=>by rw [walks,fills];exact ⟨rfl,fun h=>h⟩
 | 0,t::ts,hn,S=>by
   have:=t.size_pos;rw [ax] at hn;omega
 | n+1,t::ts,hn,S=>by
   have hs:=t.size_eq;rw [ax] at hn;have h2:=kq f n ts (by omega) S;have e:(walks (t::ts)).map (dA f)++S=dA f t::((walks t.kids).map (dA f)++((walks ts).map (dA f)++S)):=by rw [walks,t.walk_eq];simp
   have h1:=kq f n t.kids (by omega) ((walks ts).map (dA f)++S);rw [e];cases t with
   | knot nm ks =>
     simp only [Th.kids] at h1 ⊢;refine ⟨?_,fun hS=>?_⟩
     · show bl (.nm nm ks.length::_)=_;rw [bl,h1.1,h2.1,<- iJ f ks,List.take_left,List.drop_left,fills,Th.fill];rfl
     · show TopsOk (.nm nm ks.length::_);rw [TopsOk];refine ⟨?_,h1.2 (h2.2 hS)⟩;rw [h1.1,QX,iJ];exact S7 _ _
   | call s k =>
     simp only [Th.kids,walks,S5,UB] at h1 ⊢;refine ⟨?_,fun hS=>?_⟩
     · show bl (.th (f s k)::_)=_;rw [bl,h2.1,fills,Th.fill];rfl
     · show TopsOk (.th (f s k)::_);rw [TopsOk];exact h2.2 hS
theorem pV (f:Int->Int->Th) (t:Th):bl (t.walk.map (dA f))=[t.fill f]/\TopsOk (t.walk.map (dA f)):=by
 have h:=kq f _ [t] (QF _) [];have e:walks [t]=t.walk:=by simp [walks]
 rw [e,Rw] at h;refine ⟨?_,h.2 (by rw [TopsOk];trivial)⟩;rw [h.1,fills,fills,bl];rfl
theorem pe (x:V) (xs:List V):cY (x::xs) none (some 1)=[x]:=by
 unfold cY;rw [show (some (1:Int))=some ((1:Nat):Int) from rfl,HT.sIx_nat,HT.sIx_none,QM,VF (by omega)];rfl
end BB
namespace PySem
open Sem (wp)
end PySem
namespace L2
open PySem PySem.Spec PyProof.Rows BB
end L2
namespace BB
open PySem L2
theorem oh {k:Nat} {A:Rr} (hr:L2.Room k A):A.units+150+2<Sl:=by
 have:=hr.un;omega
def hole:Th:=.knot star []
def Th.name:Th->Rc
 | .knot n _=>n
 | .call _ _=>q
def aF:Th->Th->Bool
 | .knot n ks,.knot m us=>!(Th.knot n ks).isHole && decide (n=m) && decide (ks.length=us.length)
 | _,_=>false
mutual
def Th.sbs:Th->Th->List (Th×Th)
 | .knot n ks,r=>(.knot n ks,r)::(if aF (.knot n ks) r=true then qH ks r.kids else [])
 | .call s k,r=>[(.call s k,r)]
def qH:List Th->List Th->List (Th×Th)
 | [],_=>[]
 | k::ks,us=>match us with
   | []=>[]
   | u::us=>k.sbs u++qH ks us
end
def wks:List (Th×Th)->List (Th×Th)
 | []=>[]
 | p::ps=>p.1.sbs p.2++wks ps
theorem j4:∀ a b:List (Th×Th),wks (a++b)=wks a++wks b
 | [],b=>rfl
 | p::a,b=>by rw [Ta,wks,wks,j4 a b,RG]
theorem pk:∀ ks us:List Th,wks (ks.zip us)=qH ks us
 | [],_=>by rw [Vj,wks,qH]
 | k::ks,[]=>by rw [Vc,wks,qH]
 | k::ks,u::us=>by rw [TN,wks,qH,pk ks us]
theorem Th.sbs_eq (l r:Th):l.sbs r=(l,r)::(if aF l r=true then wks (l.kids.zip r.kids) else []):=by
 cases l with
 | knot n ks=>rw [Th.sbs,pk];rfl
 | call s k =>
   rw [Th.sbs];have:aF (.call s k) r=false:=by cases r <;> rfl
   rw [this];rfl
def szL:List (Th×Th)->Nat
 | []=>0
 | p::ps=>p.1.size+szL ps
theorem di:∀ a b,szL (a++b)=szL a+szL b
 | [],b=>by simp [szL]
 | p::a,b=>by rw [Ta,szL,szL,di a b,Vq]
theorem pE (a:List (Th×Th)):szL a.reverse=szL a:=by
 induction a with
 | nil=>rfl
 | cons x xs ih=>rw [RF,di,ih,szL,szL,szL];omega
theorem io:∀ ks us:List Th,szL (ks.zip us)<=ax ks
 | [],_=>by rw [Vj,szL];exact Q7 _
 | k::ks,[]=>by rw [Vc,szL];exact Q7 _
 | k::ks,u::us=>by
   have:=io ks us;rw [TN,szL,ax];show k.size+_<=_;omega
theorem lN:∀ a:List (Th×Th),a.length<=szL a
 | []=>Q7 _
 | p::a=>by
   have:=p.1.size_pos;have:=lN a;rw [QM,szL];omega
theorem mI:∀ (n:Nat) (ps:List (Th×Th)),szL ps<=n->(wks ps).length<=szL ps
 | _,[],_=>Q7 _
 | 0,p::ps,h=>by
   have:=p.1.size_pos;rw [szL] at h;omega
 | n+1,p::ps,h=>by
   have hs:=p.1.size_eq;have hz:=io p.1.kids p.2.kids;rw [szL] at h;have h1:=mI n ps (by omega);have h2:=mI n (p.1.kids.zip p.2.kids) (by omega);rw [wks,Th.sbs_eq,szL,QX,QM];split
   · omega
   · rw [U5];omega
theorem tU (l r:Th):(l.sbs r).length<=l.size:=by
 have:=mI _ [(l,r)] (QF _);rw [wks,wks,Rw,szL,szL] at this;exact this
theorem mK:∀ (n:Nat) (ps:List (Th×Th)),szL ps<=n->∀ x∈wks ps,∃ p∈ps,x.1.tall<=p.1.tall/\x.2.tall<=p.2.tall/\x.1.size<=p.1.size/\x.2.size<=p.2.size
 | _,[],_,x,h=>nomatch h
 | 0,p::ps,h,x,_=>by
   have:=p.1.size_pos;rw [szL] at h;omega
 | n+1,p::ps,h,x,hx=>by
   have hs:=p.1.size_eq;have hz:=io p.1.kids p.2.kids;rw [szL] at h;rw [wks,Th.sbs_eq,Rv] at hx;rcases hx with hx | hx
   · rcases QZ.mp hx with rfl | hx
     · exact ⟨p,Q6 ..,QF _,QF _,QF _,QF _⟩
     · split at hx
       · obtain ⟨y,hy,h1,h2,h3,h4⟩:=mK n _ (by omega) x hx;have m1:y.1∈p.1.kids:=(TR hy).1;have m2:y.2∈p.2.kids:=(TR hy).2;have t1:=b9 m1;have t2:=b9 m2;have z1:=aK m1;have z2:=aK m2;have e1:=p.1.tall_eq;have e2:=p.2.tall_eq;have e4:=p.2.size_eq;exact ⟨p,Q6 ..,by omega,by omega,by omega,by omega⟩
       · cases hx
   · obtain ⟨y,hy,r⟩:=mK n ps (by omega) x hx;exact ⟨y,Q1 _ hy,r⟩
theorem sY {l r:Th} {x:Th×Th} (h:x∈l.sbs r):x.1.tall<=l.tall/\x.2.tall<=r.tall/\x.1.size<=l.size/\x.2.size<=r.size:=by
 obtain ⟨p,hp,r⟩:=mK _ [(l,r)] (QF _) x (by rw [wks,wks,Rw];exact h);rw [Q2] at hp;subst hp;exact r
mutual
def Th.lies:Th->Th->Bool
 | .knot n ks,r=>(Th.knot n ks).isHole || (aF (.knot n ks) r && bC ks r.kids)
 | .call _ _,_=>false
def bC:List Th->List Th->Bool
 | [],_=>true
 | k::ks,us=>match us with
   | []=>true
   | u::us=>k.lies u && bC ks us
end
theorem gX {l r:Th} (h:l.isHole=true):aF l r=false:=by
 cases l with
 | knot n ks =>
   cases r with
   | knot m us =>
     show (!(Th.knot n ks).isHole && decide (n=m) && decide (ks.length=us.length))=false;rw [h];rfl
   | call s k=>rfl
 | call s k=>cases h
mutual
def Th.noCall:Th->Prop
 | .knot _ ks=>bK ks
 | .call _ _=>False
def bK:List Th->Prop
 | []=>True
 | t::ts=>t.noCall/\bK ts
end
theorem bE:∀ {ts:List Th} {t:Th},bK ts->t∈ts->t.noCall
 | [],_,_,h=>nomatch h
 | u::ts,t,hn,h=>by
   rw [bK] at hn;rcases QZ.mp h with rfl | h
   · exact hn.1
   · exact bE hn.2 h
end BB
namespace BB
open PySem L2
def Th.wid:Th->Nat
 | .knot _ ks=>ks.length
 | .call _ _=>2
theorem bG {l r:Th} (h:aF l r=true):∃ n ks us,l=.knot n ks/\r=.knot n us/\ks.length=us.length/\l.isHole=false:=by
 cases l with
 | knot n ks =>
   cases r with
   | knot m us =>
     have h':(!(Th.knot n ks).isHole && decide (n=m) && decide (ks.length=us.length))=true:=h;simp only [Sy,decide_eq_true_eq,Bool.not_eq_true'] at h';obtain ⟨⟨h1,h2⟩,h3⟩:=h';subst h2;exact ⟨n,ks,us,rfl,rfl,h3,h1⟩
   | call s k=>cases h
 | call s k=>cases r <;> cases h
theorem sd (l r:Th) (S:List (Th×Th)):wks ((l,r)::S)=(l,r)::((if aF l r=true then wks (l.kids.zip r.kids) else [])++wks S):=by
 rw [wks,Th.sbs_eq];rfl
end BB
namespace BB
open PySem L2
theorem jK:∀ {ts:List Th},(∀ t∈ts,t.noCall)->bK ts
 | [],_=>by rw [bK];trivial
 | t::ts,h=>by
   rw [bK];exact ⟨h t (Q6 ..),jK fun u hu=>h u (Q1 _ hu)⟩
theorem iZ:hole.noCall:=by rw [hole,Th.noCall,bK];trivial
theorem i8:hole.isHole=true:=by
 show decide (star=star/\([]:List Th)=[])=true;exact decide_eq_true ⟨rfl,rfl⟩
theorem lf:hole.tall=1:=by rw [hole,Th.tall,bI]
theorem dU:hole.size=1:=by rw [hole,Th.size,ax]
theorem sZ:star≠q:=by decide
end BB
namespace L2
open PySem PySem.Spec PySem.SeqAt PyProof.Rows BB
end L2
namespace BB
open PySem L2
theorem gC {k u:Th} {ks us:List Th}:bC (k::ks) (u::us)=(k.lies u && bC ks us):=by rw [bC]
theorem pick {α β γ:Type} {F:α->β->Prop} {G:α->β->γ->Prop} (h:∀ x a,F x a->∃ c,G x a c):∀ {xs:List α} {as:List β},Rf F xs as->∃ cs:List γ,cs.length=as.length/\∀ (i:Nat) x a c,xs[i]?=some x->as[i]?=some a->cs[i]?=some c->G x a c
 | _,_,.nil=>⟨[],rfl,fun i x a c e=>by simp at e⟩
 | _,_,.cons r t=>by
   obtain ⟨c,hc⟩:=h _ _ r;obtain ⟨cs,h1,h2⟩:=pick h t;refine ⟨c::cs,by rw [QM,QM,h1],fun i x a c' e1 e2 e3=>?_⟩;cases i with
   | zero=>simp at e1 e2 e3;subst e1 e2 e3;exact hc
   | succ i=>exact h2 i x a c' (by simpa using e1) (by simpa using e2) (by simpa using e3)
theorem pQ {α γ:Type} {R:α->γ->Prop} (p:α->Bool):∀ {xs:List α} {cs:List γ},xs.length=cs.length->(∀ (i:Nat) x c,xs[i]?=some x->cs[i]?=some c->R x c)->Rf R (xs.filter p) (((xs.zip cs).filter fun z=>p z.1).map (·.2))
 | [],[],_,_=>.nil
 | [],_::_,h,_=>by simp at h
 | _::_,[],h,_=>by simp at h
 | x::xs,c::cs,h,r=>by
   rw [TN,SN,SN];have ih:=pQ p (xs:=xs) (cs:=cs) (R:=R) (by simpa using h) fun i x' c' e1 e2=>r (i+1) x' c' (by simpa using e1) (by simpa using e2);by_cases e:p x=true
   · rw [if_pos e,if_pos e];exact .cons (r 0 x c rfl rfl) ih
   · rw [if_neg e,if_neg e];exact ih
theorem P2.mapl {α β γ:Type} {R:β->γ->Prop} (f:α->β):∀ {xs:List α} {cs:List γ},Rf (fun x c=>R (f x) c) xs cs->Rf R (xs.map f) cs
 | _,_,.nil=>.nil
 | _,_,.cons r h=>.cons r (P2.mapl f h)
end BB
namespace BB
open PySem L2
def TK (K:QB) (H:Hp) (a:QD) (xs:List V):Prop:=H a=some (.tup xs)∨∃ (o:SQ) (its:Array QE) (n:Nat),K.lookup a=some o/\o.cls=.type "tuple"/\o.data=.seq its n/\its.size<=QW/\Vals xs its.toList
theorem TK.of {K:QB} {H:Hp} {a:QD} {xs:List V} (h:H a=some (.tup xs)):TK K H a xs:=.inl h
theorem TK.sq {K:QB} {H:Hp} {a:QD} {xs:List V} (h:TK K H a xs):SqT K H a xs:=by
 rcases h with h | h
 · exact SqT.of h
 · exact .inr h
theorem TK.mono {K:QB} {H H':Hp} {a:QD} {xs:List V} (h:TK K H a xs) (k:KT H H'):TK K H' a xs:=by
 rcases h with h | h
 · exact .inl (k _ _ h)
 · exact .inr h
mutual
def AtK (K:QB) (H:Hp):Th->QD->Prop
 | .knot n ks,a=>n≠q/\∃ as:List QD,TK K H a (.str n::as.map V.ref)/\AtsK K H ks as
 | .call s k,a=>TK K H a [.str q,.int s,.int k]
def AtsK (K:QB) (H:Hp):List Th->List QD->Prop
 | [],as=>as=[]
 | t::ts,as=>∃ a r,as=a::r/\AtK K H t a/\AtsK K H ts r
end
mutual
theorem AtK.mono {K:QB} {H H':Hp} (k:KT H H'):∀ {t:Th} {a:QD},AtK K H t a->AtK K H' t a
 | .knot n ks,a,h=>by
   rw [AtK] at h ⊢;obtain ⟨h0,as,h1,h2⟩:=h;exact ⟨h0,as,h1.mono k,AtsK.mono k h2⟩
 | .call s c,a,h=>by
   rw [AtK] at h ⊢;exact h.mono k
theorem AtsK.mono {K:QB} {H H':Hp} (k:KT H H'):∀ {ts:List Th} {as:List QD},AtsK K H ts as->AtsK K H' ts as
 | [],as,h=>by rw [AtsK] at h ⊢;exact h
 | t::ts,as,h=>by
   rw [AtsK] at h ⊢;obtain ⟨a,r,e,h1,h2⟩:=h;exact ⟨a,r,e,AtK.mono k h1,AtsK.mono k h2⟩
end
theorem AtsK.nil {K:QB} {H:Hp}:AtsK K H [] []:=by rw [AtsK]
theorem AtsK.cons {K:QB} {H:Hp} {t:Th} {ts:List Th} {a:QD} {as:List QD} (h1:AtK K H t a) (h2:AtsK K H ts as):AtsK K H (t::ts) (a::as):=by rw [AtsK];exact ⟨a,as,rfl,h1,h2⟩
theorem AtsK.append {K:QB} {H:Hp}:∀ {ts us:List Th} {as bs:List QD},AtsK K H ts as->AtsK K H us bs->AtsK K H (ts++us) (as++bs)
 | [],us,as,bs,h,g=>by rw [AtsK] at h;subst h;exact g
 | t::ts,us,as,bs,h,g=>by
   rw [AtsK] at h;obtain ⟨a,r,rfl,h1,h2⟩:=h;exact .cons h1 (h2.append g)
theorem AtsK.length {K:QB} {H:Hp}:∀ {ts:List Th} {as:List QD},AtsK K H ts as->as.length=ts.length
 | [],as,h=>by rw [AtsK] at h;subst h;rfl
 | t::ts,as,h=>by
   rw [AtsK] at h;obtain ⟨a,r,rfl,h1,h2⟩:=h;rw [QM,QM,h2.length]
theorem AtsK.reverse {K:QB} {H:Hp}:∀ {ts:List Th} {as:List QD},AtsK K H ts as->AtsK K H ts.reverse as.reverse
 | [],as,h=>by rw [AtsK] at h;subst h;exact .nil
 | t::ts,as,h=>by
   rw [AtsK] at h;obtain ⟨a,r,rfl,h1,h2⟩:=h;rw [RF,RF];exact h2.reverse.append (.cons h1 .nil)
theorem AtsK.get {K:QB} {H:Hp}:∀ {ts:List Th} {as:List QD} {i:Nat} {a:QD},AtsK K H ts as->as[i]?=some a->∃ t,ts[i]?=some t/\AtK K H t a
 | [],as,i,a,h,e=>by rw [AtsK] at h;subst h;simp at e
 | t::ts,as,i,a,h,e=>by
   rw [AtsK] at h;obtain ⟨b,r,rfl,h1,h2⟩:=h;cases i with
   | zero=>simp at e;subst e;exact ⟨t,rfl,h1⟩
   | succ i=>exact h2.get (i:=i) (by simpa using e)
theorem AtsK.at {K:QB} {H:Hp}:∀ {ts:List Th} {as:List QD} {i:Nat} {t:Th},AtsK K H ts as->ts[i]?=some t->∃ a,as[i]?=some a/\AtK K H t a
 | [],as,i,a,h,e=>by simp at e
 | t::ts,as,i,a,h,e=>by
   rw [AtsK] at h;obtain ⟨b,r,rfl,h1,h2⟩:=h;cases i with
   | zero=>simp at e;subst e;exact ⟨b,rfl,h1⟩
   | succ i=>exact h2.at (i:=i) (by simpa using e)
theorem AtsK.snoc_inv {K:QB} {H:Hp} {ts:List Th} {as:List QD} {a:QD} (h:AtsK K H ts (as++[a])):∃ us t,ts=us++[t]/\AtsK K H us as/\AtK K H t a:=by
 have r:=h.reverse;rw [R5,List.reverse_singleton,List.singleton_append] at r;cases e:ts.reverse with
 | nil=>rw [e,AtsK] at r;cases r
 | cons t us =>
   rw [e,AtsK] at r;obtain ⟨b,z,e1,h1,h2⟩:=r;cases e1;refine ⟨us.reverse,t,?_,?_,h1⟩
   · rw [<- RF,<- e,Sx]
   · have:=h2.reverse;rw [Sx] at this;exact this
mutual
def DAtK (K:QB) (H:Hp):Dv->V->Prop
 | .int i,v=>v=.int i
 | .str x,v=>v=.str x
 | .tup ds,v=>∃ a vs,v=.ref a/\TK K H a vs/\DAtsK K H ds vs
def DAtsK (K:QB) (H:Hp):List Dv->List V->Prop
 | [],vs=>vs=[]
 | d::ds,vs=>∃ v r,vs=v::r/\DAtK K H d v/\DAtsK K H ds r
end
theorem DAtsK.nil {K:QB} {H:Hp}:DAtsK K H [] []:=by rw [DAtsK]
theorem DAtsK.cons {K:QB} {H:Hp} {d:Dv} {ds:List Dv} {v:V} {vs:List V} (h1:DAtK K H d v) (h2:DAtsK K H ds vs):DAtsK K H (d::ds) (v::vs):=by rw [DAtsK];exact ⟨v,vs,rfl,h1,h2⟩
theorem DAtsK.length {K:QB} {H:Hp}:∀ {ds:List Dv} {vs:List V},DAtsK K H ds vs->vs.length=ds.length
 | [],vs,h=>by rw [DAtsK] at h;subst h;rfl
 | d::ds,vs,h=>by
   rw [DAtsK] at h;obtain ⟨v,r,rfl,h1,h2⟩:=h;rw [QM,QM,h2.length]
theorem DAtsK.at {K:QB} {H:Hp}:∀ {ds:List Dv} {vs:List V} {i:Nat} {d:Dv},DAtsK K H ds vs->ds[i]?=some d->∃ v,vs[i]?=some v/\DAtK K H d v
 | [],vs,i,d,h,e=>by simp at e
 | d0::ds,vs,i,d,h,e=>by
   rw [DAtsK] at h;obtain ⟨v,r,rfl,h1,h2⟩:=h;cases i with
   | zero=>simp at e;subst e;exact ⟨v,rfl,h1⟩
   | succ i =>
     obtain ⟨u,g1,g2⟩:=h2.at (i:=i) (by simpa using e);exact ⟨u,by simpa using g1,g2⟩
mutual
theorem AtK.dv {K:QB} {H:Hp}:∀ {t:Th} {a:QD},AtK K H t a->DAtK K H t.dv (.ref a)
 | .knot n ks,a,h=>by
   rw [AtK] at h;obtain ⟨_,as,h1,h2⟩:=h;rw [Th.dv,DAtK];exact ⟨a,_,rfl,h1,.cons (by rw [DAtK]) (AtsK.dvs h2)⟩
 | .call s k,a,h=>by
   rw [AtK] at h;rw [Th.dv,DAtK];exact ⟨a,_,rfl,h,.cons (by rw [DAtK]) (.cons (by rw [DAtK]) (.cons (by rw [DAtK]) .nil))⟩
theorem AtsK.dvs {K:QB} {H:Hp}:∀ {ts:List Th} {as:List QD},AtsK K H ts as->DAtsK K H (dvs ts) (as.map V.ref)
 | [],as,h=>by rw [AtsK] at h;subst h;rw [BB.dvs];exact .nil
 | t::ts,as,h=>by
   rw [AtsK] at h;obtain ⟨a,r,rfl,h1,h2⟩:=h;rw [BB.dvs,RD];exact .cons (AtK.dv h1) (AtsK.dvs h2)
end
mutual
theorem At.k {K:QB} {H:Hp}:∀ {t:Th} {a:QD},At H t a->AtK K H t a
 | .knot n ks,a,h=>by
   rw [At] at h;rw [AtK];obtain ⟨h0,as,h1,h2⟩:=h;exact ⟨h0,as,.of h1,Ats.k h2⟩
 | .call s c,a,h=>by
   rw [At] at h;rw [AtK];exact .of h
theorem Ats.k {K:QB} {H:Hp}:∀ {ts:List Th} {as:List QD},Ats H ts as->AtsK K H ts as
 | [],as,h=>by rw [Ats] at h;rw [AtsK];exact h
 | t::ts,as,h=>by
   rw [Ats] at h;rw [AtsK];obtain ⟨a,r,e,h1,h2⟩:=h;exact ⟨a,r,e,At.k h1,Ats.k h2⟩
end
theorem AtK.row {K:QB} {H:Hp} {t:Th} {a:QD} (h:AtK K H t a):∃ r,TK K H a (.str t.name::r)/\r.length=t.wid:=by
 cases t with
 | knot n ks =>
   rw [AtK] at h;obtain ⟨_,as,h1,h2⟩:=h;exact ⟨_,h1,by rw [QA,h2.length];rfl⟩
 | call s k =>
   rw [AtK] at h;exact ⟨_,h,rfl⟩
theorem nJ {K:QB} {H:Hp} {l:Th} {x:QD} (h:AtK K H l x) (r:Th):aF l r=(l.isKnot && (decide (l.name=r.name) && decide (l.wid=r.wid))):=by
 cases l with
 | knot n ks =>
   rw [AtK] at h;cases r with
   | knot m us =>
     show (!(Th.knot n ks).isHole && decide (n=m) && decide (ks.length=us.length))=(!false && !(Th.knot n ks).isHole && (decide (n=m) && decide (ks.length=us.length)));rw [Bool.and_assoc];rfl
   | call s k =>
     show false=(_ && (decide (n=q) && _));rw [decide_eq_false h.1];simp
 | call s k=>cases r <;> rfl
theorem we {K:QB} {H:Hp} {a b:QD} {xs ys:List V} {Q:VK} (ha:TK K H a xs) (hb:TK K H b ys) (hz:xs.length+ys.length<=1000000) (q:∀ p H',L2.Same H H'->TK K H' p (xs++ys)->Q (.ref p) H'):lI K (.ref a) (.ref b) H Q:=by
 refine ⟨a,b,xs,ys,rfl,rfl,ha.sq,hb.sq,ak hz,fun e=>?_,fun _ e=>?_,fun _ _ p hp=>?_⟩
 · exact q b H (.refl _) (by rw [e];exact hb)
 · exact q a H (.refl _) (by rw [e,Rw];exact ha)
 · exact q p _ (ad hp _) (.of ab)
def PPK (K:QB) (H:Hp) (p:Th×Th) (a:QD):Prop:=∃ x y,H a=some (.tup [.ref x,.ref y])/\AtK K H p.1 x/\AtK K H p.2 y
theorem PPK.mono {K:QB} {H H':Hp} (k:KT H H') {p:Th×Th} {a:QD} (h:PPK K H p a):PPK K H' p a:=by
 obtain ⟨x,y,h1,h2,h3⟩:=h;exact ⟨x,y,k _ _ h1,h2.mono k,h3.mono k⟩
theorem cW {K:QB} {H H':Hp} (k:KT H H') {ps:List (Th×Th)} {as:List QD} (h:Rf (PPK K H) ps as):Rf (PPK K H') ps as:=P2.mp (fun _ _ e=>PPK.mono k e) h
theorem nu {K:QB} {H:Hp}:∀ {ks us:List Th} {as bs ts:List QD},AtsK K H ks as->AtsK K H us bs->Rf (fun (p:V×V) t=>H t=some (.tup [p.1,p.2])) ((as.map V.ref).zip (bs.map V.ref)) ts->Rf (PPK K H) (ks.zip us) ts
 | [],us,as,bs,ts,h1,h2,h=>by
   rw [AtsK] at h1;subst h1;rw [S5,Vj] at h;cases h;rw [Vj];exact .nil
 | k::ks,[],as,bs,ts,h1,h2,h=>by
   rw [AtsK] at h2;subst h2;rw [S5,Vc] at h;cases h;rw [Vc];exact .nil
 | k::ks,u::us,as,bs,ts,h1,h2,h=>by
   rw [AtsK] at h1 h2;obtain ⟨a,ar,rfl,a1,a2⟩:=h1;obtain ⟨b,br,rfl,b1,b2⟩:=h2;rw [RD,RD,TN] at h;cases h with
   | cons r h =>
     rw [TN];exact .cons ⟨a,b,r,a1,b1⟩ (nu a2 b2 h)
def TopAtK (K:QB) (H:Hp):Top->QD->Prop
 | .nm n m,a=>∃ ta,H a=some (.tup [.ref ta,.int (m:Nat)])/\n≠q/\TK K H ta [.str n]
 | .th t,a=>∃ ta,H a=some (.tup [.ref ta,.int 0])/\AtK K H t ta
theorem TopAtK.mono {K:QB} {H H':Hp} (k:KT H H'):∀ {x:Top} {a:QD},TopAtK K H x a->TopAtK K H' x a
 | .nm n m,a,h=>by
   obtain ⟨ta,h1,h2,h3⟩:=h;exact ⟨ta,k _ _ h1,h2,h3.mono k⟩
 | .th t,a,h=>by
   obtain ⟨ta,h1,h2⟩:=h;exact ⟨ta,k _ _ h1,h2.mono k⟩
theorem dj {K:QB} {H H':Hp} (k:KT H H') {l:List Top} {as:List QD} (h:Rf (TopAtK K H) l as):Rf (TopAtK K H') l as:=P2.mp (fun _ _ e=>TopAtK.mono k e) h
theorem AtK.whole {K:QB} {H:Hp} {t:Th} {a:QD} (h:AtK K H t a):∃ xs,TK K H a xs/\xs.length<=t.size+2/\∀ (H':Hp) (p:QD),KT H H'->TK K H' p xs->AtK K H' t p:=by
 cases t with
 | knot n ks =>
   rw [AtK] at h;obtain ⟨h0,as,h1,h2⟩:=h;refine ⟨_,h1,?_,fun H' p kt hp=>?_⟩
   · have:=h2.length;have:=bL ks;rw [QM,QA,Th.size];omega
   · rw [AtK];exact ⟨h0,as,hp,h2.mono kt⟩
 | call s k =>
   rw [AtK] at h;refine ⟨_,h,by rw [Th.size];exact QF _,fun H' p kt hp=>?_⟩;rw [AtK];exact hp
theorem rc {K:QB} {H:Hp} {a:QD} (h:TK K H a [.str star]):AtK K H hole a:=by
 rw [hole,AtK];exact ⟨sZ,[],h,by rw [AtsK]⟩
mutual
theorem DAtK.inj {X:Cx} {pins:List (QD×SQ)} {σ:St} {H:Hp} {s:QJ} (I:Inv X pins σ H s):∀ {d e:Dv} {v:V},DAtK X.K H d v->DAtK X.K H e v->d=e
 | .int i,.int j,v,h,g=>by rw [DAtK] at h;rw [DAtK] at g;rw [h] at g;cases g;rfl
 | .int i,.str y,v,h,g=>by rw [DAtK] at h;rw [DAtK] at g;rw [h] at g;cases g
 | .int i,.tup es,v,h,g=>by rw [DAtK] at h;rw [DAtK] at g;obtain ⟨a,vs,e,_⟩:=g;rw [h] at e;cases e
 | .str x,.int j,v,h,g=>by rw [DAtK] at h;rw [DAtK] at g;rw [h] at g;cases g
 | .str x,.str y,v,h,g=>by rw [DAtK] at h;rw [DAtK] at g;rw [h] at g;cases g;rfl
 | .str x,.tup es,v,h,g=>by rw [DAtK] at h;rw [DAtK] at g;obtain ⟨a,vs,e,_⟩:=g;rw [h] at e;cases e
 | .tup ds,.int j,v,h,g=>by rw [DAtK] at h;rw [DAtK] at g;obtain ⟨a,vs,e,_⟩:=h;rw [e] at g;cases g
 | .tup ds,.str y,v,h,g=>by rw [DAtK] at h;rw [DAtK] at g;obtain ⟨a,vs,e,_⟩:=h;rw [e] at g;cases g
 | .tup ds,.tup es,v,h,g=>by
   rw [DAtK] at h;rw [DAtK] at g;obtain ⟨a,vs,e1,h1,h2⟩:=h;obtain ⟨b,ws,e2,g1,g2⟩:=g;rw [e1] at e2;cases e2;have e3:=I.tuple_inj h1.sq g1.sq;subst e3;rw [DAtsK.inj I h2 g2]
theorem DAtsK.inj {X:Cx} {pins:List (QD×SQ)} {σ:St} {H:Hp} {s:QJ} (I:Inv X pins σ H s):∀ {ds es:List Dv} {vs:List V},DAtsK X.K H ds vs->DAtsK X.K H es vs->ds=es
 | [],[],vs,h,g=>rfl
 | [],e::es,vs,h,g=>by rw [DAtsK] at h;rw [DAtsK] at g;obtain ⟨v,r,z,_⟩:=g;rw [h] at z;cases z
 | d::ds,[],vs,h,g=>by rw [DAtsK] at h;rw [DAtsK] at g;obtain ⟨v,r,z,_⟩:=h;rw [g] at z;cases z
 | d::ds,e::es,vs,h,g=>by
   rw [DAtsK] at h;rw [DAtsK] at g;obtain ⟨v,r,z,h1,h2⟩:=h;obtain ⟨v',r',z',g1,g2⟩:=g;rw [z] at z';cases z';rw [DAtK.inj I h1 g1,DAtsK.inj I h2 g2]
end
end BB
namespace L2
open PySem PySem.Spec PySem.SeqAt PyProof.Rows BB
open Classical in
theorem lA {X:Cx} {pins:List (QD×SQ)} {σ:St} {H:Hp} {s:QJ} (I:Inv X pins σ H s) {ds es:List Dv} {a b:QD} {vs ws:List V} {A:Rr} (ha:SqT X.K H a vs) (hb:SqT X.K H b ws) (Ar:DAtsK X.K H ds vs) (xA:DAtsK X.K H es ws) (hu:A.units<Sl)
 (ih:∀ (j:Nat) (d e:Dv) (x y:V) (u v:QE),ds[j]?=some d->DAtK X.K H d x->DAtK X.K H e y->RelV x u->RelV y v->EqAt A.in1 s u v (decide (d=e))):RcAt A s (.ref a) (.ref b) (decide (Dv.tup ds=Dv.tup es)):=by
 obtain ⟨its,r1,p1,_⟩:=I.tuple ha;obtain ⟨wL,r2,p2,_⟩:=I.tuple hb;have l1:its.length=ds.length:=by rw [<- r1.length,Ar.length]
 have l2:wL.length=es.length:=by rw [<- r2.length,xA.length]
 have AW:RcAt A s (.ref a) (.ref b) ((Rl (min its.toArray.size wL.toArray.size)).all (fun j=>decide (ds[j]?=es[j]?)) && its.toArray.size == wL.toArray.size):=by
  refine RcAt.tuples (show s.heap.IsTuple a its.toArray from p1) (show s.heap.IsTuple b wL.toArray from p2) hu fun j h1 h2=>?_;have zZ:j<ds.length:=by rw [<- l1];simpa using h1
  have zz:j<es.length:=by rw [<- l2];simpa using h2
  have e1:ds[j]?=some ds[j]:=QC zZ;have e2:es[j]?=some es[j]:=QC zz;obtain ⟨x',Ap,dx⟩:=Ar.at e1;obtain ⟨y',zV,dy⟩:=xA.at e2;obtain ⟨u',yo,BH⟩:=r1.get Ap;obtain ⟨v',xG,zA⟩:=r2.get zV;have e3:decide (ds[j]?=es[j]?)=decide (ds[j]=es[j]):=by rw [e1,e2];simp
  have e4:its.toArray[j]=u':=by
   rw [QC (by rw [l1];exact zZ)] at yo;simpa using yo
  have e5:wL.toArray[j]=v':=by
   rw [QC (by rw [l2];exact zz)] at xG;simpa using xG
  rw [e3,e4,e5];exact ih j ds[j] es[j] x' y' u' v' e1 dx dy BH zA
 have e:decide (Dv.tup ds=Dv.tup es)=((Rl (min its.toArray.size wL.toArray.size)).all (fun j=>decide (ds[j]?=es[j]?)) && its.toArray.size == wL.toArray.size):=by
  rw [QN,QN,l1,l2];by_cases h:ds=es
  · subst h;rw [decide_eq_true rfl];symm;simp
  · rw [decide_eq_false (fun z=>h (Dv.tup.inj z))];symm;by_cases hl:ds.length=es.length
    · rw [hl,Wo]
      have:¬ ((Rl es.length).all (fun j=>decide (ds[j]?=es[j]?)))=true:=by
       intro z;apply h;apply Vl;intro j;by_cases hj:j<es.length
       · have:=Tb.mp z j (TC.mpr hj);exact of_decide_eq_true this
       · rw [Su (by omega),Su (by omega)]
      rw [Sh.mpr this];rfl
    · have:(ds.length == es.length)=false:=by simpa using hl
      rw [this,Vg]
 rw [e];exact AW
open Classical in
theorem ol {X:Cx} {pins:List (QD×SQ)} {σ:St} {H:Hp} {s:QJ} (I:Inv X pins σ H s):∀ (n:Nat) (d e:Dv),d.tot<=n->∀ (x y:V) (u v:QE) (A:Rr),DAtK X.K H d x->DAtK X.K H e y->RelV x u->RelV y v->A.units+d.deep<Sl->EqAt A s u v (decide (d=e))
 | 0,d,e,hn,x,y,u,v,A,hd,he,ru,rv,hu=>by have:=d.tot_pos;omega
 | n+1,.int i,.int j,hn,x,y,u,v,A,hd,he,ru,rv,hu=>by
   rw [DAtK] at hd;rw [DAtK] at he;subst hd he;obtain ⟨t,rfl⟩:=ru;obtain ⟨t',rfl⟩:=rv
   have e:decide (Dv.int i=Dv.int j)=(i == j):=by
    by_cases h:i=j
    · subst h;simp
    · rw [decide_eq_false (fun z=>h (Dv.int.inj z))];simp [h]
   rw [e];exact EqAt.int_int i t j t'
 | n+1,.int i,.str b,hn,x,y,u,v,A,hd,he,ru,rv,hu=>by
   rw [DAtK] at hd;rw [DAtK] at he;subst hd he;obtain ⟨t,rfl⟩:=ru;obtain ⟨t',rfl⟩:=rv;rw [decide_eq_false (fun z=>by cases z)];exact EqAt.int_str i t b t'
 | n+1,.int i,.tup es,hn,x,y,u,v,A,hd,he,ru,rv,hu=>by
   rw [DAtK] at hd;rw [DAtK] at he;obtain ⟨a,vs,rfl,ha,_⟩:=he;subst hd;obtain ⟨t,rfl⟩:=ru;cases rv;obtain ⟨its,_,p,_⟩:=I.tuple (ha.sq);rw [decide_eq_false (fun z=>by cases z)];exact EqAt.int_tuple i t (show s.heap.IsTuple a its.toArray from p) (by omega)
 | n+1,.str b,.int j,hn,x,y,u,v,A,hd,he,ru,rv,hu=>by
   rw [DAtK] at hd;rw [DAtK] at he;subst hd he;obtain ⟨t,rfl⟩:=ru;obtain ⟨t',rfl⟩:=rv;rw [decide_eq_false (fun z=>by cases z)];exact EqAt.str_int b t j t'
 | n+1,.str b,.str c,hn,x,y,u,v,A,hd,he,ru,rv,hu=>by
   rw [DAtK] at hd;rw [DAtK] at he;subst hd he;obtain ⟨t,rfl⟩:=ru;obtain ⟨t',rfl⟩:=rv
   have e:decide (Dv.str b=Dv.str c)=(b == c):=by
    by_cases h:b=c
    · subst h;simp
    · rw [decide_eq_false (fun z=>h (Dv.str.inj z))];simp [h]
   rw [e];exact EqAt.str_str b t c t'
 | n+1,.str b,.tup es,hn,x,y,u,v,A,hd,he,ru,rv,hu=>by
   rw [DAtK] at hd;rw [DAtK] at he;obtain ⟨a,vs,rfl,ha,_⟩:=he;subst hd;obtain ⟨t,rfl⟩:=ru;cases rv;obtain ⟨its,_,p,_⟩:=I.tuple (ha.sq);rw [decide_eq_false (fun z=>by cases z)];exact EqAt.str_tuple b t (show s.heap.IsTuple a its.toArray from p) (by omega)
 | n+1,.tup ds,.int j,hn,x,y,u,v,A,hd,he,ru,rv,hu=>by
   rw [DAtK] at hd;rw [DAtK] at he;obtain ⟨a,vs,rfl,ha,_⟩:=hd;subst he;cases ru;obtain ⟨t,rfl⟩:=rv;obtain ⟨its,_,p,_⟩:=I.tuple (ha.sq);rw [decide_eq_false (fun z=>by cases z)];exact EqAt.tuple_int j t (show s.heap.IsTuple a its.toArray from p) (by omega)
 | n+1,.tup ds,.str b,hn,x,y,u,v,A,hd,he,ru,rv,hu=>by
   rw [DAtK] at hd;rw [DAtK] at he;obtain ⟨a,vs,rfl,ha,_⟩:=hd;subst he;cases ru;obtain ⟨t,rfl⟩:=rv;obtain ⟨its,_,p,_⟩:=I.tuple (ha.sq);rw [decide_eq_false (fun z=>by cases z)];exact EqAt.tuple_str b t (show s.heap.IsTuple a its.toArray from p) (by omega)
 | n+1,.tup ds,.tup es,hn,x,y,u,v,A,hd,he,ru,rv,hu=>by
   have Au:=hd;have IE:=he;rw [DAtK] at hd;rw [DAtK] at he;obtain ⟨a,vs,rfl,ha,Ar⟩:=hd;obtain ⟨b,ws,rfl,hb,xA⟩:=he;cases ru;cases rv;by_cases yp:a=b
   · subst yp;rw [decide_eq_true (DAtK.inj I Au IE)];exact EqAt.same _
   rw [Dv.tot] at hn;rw [Dv.deep] at hu;refine EqAt.of_refs yp (lA I ha.sq hb.sq Ar xA (by omega) fun j d e x' y' u' v' e1 dx dy BH zA=>?_);have q1:=mM e1;have q2:=dX e1;refine ol I n d e (by omega) x' y' u' v' A.in1 dx dy BH zA ?_;show A.units+1+_<Sl;omega
def tW (K:QB) (B:Nat):R2:=fun x y H Q=>∃ a b vs ws ds es,x=.ref a/\y=.ref b/\SqT K H a vs/\SqT K H b ws/\DAtsK K H ds vs/\DAtsK K H es ws/\cC ds<=B/\∀ b:Bool,(b=true↔ds=es)->Q (.bl b) H
open Classical in
theorem sU {X:Cx} {B:Nat} (hu:X.A.units+B+2<Sl):OpR X (UE .Eq) (tW X.K B):=by
 intro pins s σ H x y v u Q I rx ry h;obtain ⟨a,b,vs,ws,ds,es,rfl,rfl,ha,hb,Ar,xA,hB,q⟩:=h;cases rx;cases ry
 have r:RcAt X.A s (.ref a) (.ref b) (decide (Dv.tup ds=Dv.tup es)):=lA I ha hb Ar xA (by omega) fun j d e x' y' u' v' e1 dx dy BH zA=>by
  have q2:=dX e1;refine ol I _ d e (QF _) x' y' u' v' X.A.in1 dx dy BH zA ?_;show X.A.units+1+_<Sl;omega
 refine r X.prog X.w X.xe _ ⟨.bl (decide (Dv.tup ds=Dv.tup es)),H,I,rfl,q _ ?_⟩;constructor
 · intro z;exact Dv.tup.inj (of_decide_eq_true z)
 · intro z;rw [z];exact decide_eq_true rfl
def wB (K:QB):V->Option Int->Option Int->Hp->VK->Prop:=fun x lo hi H Q=>∃ a xs,x=.ref a/\TK K H a xs/\∀ p H',Same H H'->TK K H' p (cY xs lo hi)->Q (.ref p) H'
theorem pT {X:Cx}:SlR X (wB X.K):=by
 intro pins s σ H x v vl vu lo hi sl Q I rx hs pl pu h;obtain ⟨a,xs,rfl,ha,q⟩:=h;by_cases hw:HT.sIx xs.length 0 lo=0/\HT.sIx xs.length xs.length hi=xs.length
 · obtain ⟨its,r,p1,hz⟩:=I.tuple ha.sq;have hl:=r.length;cases rx
   have e:cY xs lo hi=xs:=by
    unfold cY;rw [hw.1,hw.2,Te,Wm,S8]
   refine ⟨"tuple",_,Rq.lookup,p1.typeIs,HT.getItem_tuple_whole p1 hs pl pu (by rw [QN,<- hl];exact hw) ⟨.ref a,H,I,rfl,q a H (.refl _) (by rw [e];exact ha)⟩⟩
 · exact eE pins s σ H _ v vl vu lo hi sl Q I rx hs pl pu ⟨a,xs,rfl,ha.sq,hw,fun p hp=>q p _ (ad hp _) (.of ab)⟩
end L2
namespace BB
open PySem L2
mutual
def Th.com:Th->Th->Th
 | .knot n ks,r=>if aF (.knot n ks) r=true then .knot n (cT ks r.kids) else hole
 | .call _ _,_=>hole
def cT:List Th->List Th->List Th
 | [],_=>[]
 | k::ks,us=>match us with
   | []=>[]
   | u::us=>k.com u::cT ks us
end
theorem nE:∀ ks us:List Th,cT ks us=(ks.zip us).map fun p=>p.1.com p.2
 | [],_=>by rw [cT];rfl
 | k::ks,[]=>by rw [cT];rfl
 | k::ks,u::us=>by rw [cT,nE ks us];rfl
theorem iQ (l r:Th):l.com r=if aF l r=true then .knot l.name ((l.kids.zip r.kids).map fun p=>p.1.com p.2) else hole:=by
 cases l with
 | knot n ks=>rw [Th.com,nE];rfl
 | call s k =>
   rw [Th.com];have:aF (.call s k) r=false:=by cases r <;> rfl
   rw [this];rfl
def topC (p:Th×Th):Top:=if aF p.1 p.2=true then .nm p.1.name p.1.kids.length else .th hole
theorem oH:∀ (n:Nat) (ps:List (Th×Th)),szL ps<=n->∀ S,bl ((wks ps).map topC++S)=ps.map (fun p=>p.1.com p.2)++bl S/\(TopsOk S->TopsOk ((wks ps).map topC++S))
 | _,[],_,S=>⟨rfl,fun h=>h⟩
 | 0,p::ps,h,S=>by
   have:=p.1.size_pos;rw [szL] at h;omega
 | n+1,p::ps,h,S=>by
   have hs:=p.1.size_eq;have hz:=io p.1.kids p.2.kids;rw [szL] at h;have i2:=oH n ps (by omega) S;rw [wks,Th.sbs_eq,QS,RG,RD,Ta];have hc:(p::ps).map (fun p=>p.1.com p.2)=p.1.com p.2::ps.map (fun p=>p.1.com p.2):=rfl;by_cases xO:aF p.1 p.2=true
   · have i1:=oH n (p.1.kids.zip p.2.kids) (by omega) ((wks ps).map topC++S);obtain ⟨nm,ks,us,e1,e2,e3,_⟩:=bG xO
     have hl:((p.1.kids.zip p.2.kids).map fun p=>p.1.com p.2).length=p.1.kids.length:=by
      rw [QA,UC,e1,e2];simp only [Th.kids];omega
     have ht:topC (p.1,p.2)=.nm p.1.name p.1.kids.length:=by unfold topC;rw [if_pos xO]
     rw [if_pos xO,ht];refine ⟨?_,fun hS=>?_⟩
     · rw [bl,i1.1,i2.1,hc,iQ,if_pos xO,<- hl,List.take_left,List.drop_left];rfl
     · rw [TopsOk];exact ⟨by rw [i1.1,QX,hl];exact S7 _ _,i1.2 (i2.2 hS)⟩
   · have ht:topC (p.1,p.2)=.th hole:=by unfold topC;rw [if_neg xO]
     rw [if_neg xO,ht,S5,UB];refine ⟨?_,fun hS=>?_⟩
     · rw [bl,i2.1,hc,iQ,if_neg xO];rfl
     · rw [TopsOk];exact i2.2 hS
theorem u7 (l r:Th):bl ((l.sbs r).map topC)=[l.com r]/\TopsOk ((l.sbs r).map topC):=by
 have h:=oH _ [(l,r)] (QF _) [];rw [wks,wks,Rw,Rw] at h;refine ⟨?_,h.2 (by rw [TopsOk];trivial)⟩;rw [h.1,bl];rfl
theorem cw (l r:Th):aF l r=aF r l:=by
 cases l with
 | knot n ks =>
   cases r with
   | knot m us =>
     show (!decide (n=star/\ks=[]) && decide (n=m) && decide (ks.length=us.length))=(!decide (m=star/\us=[]) && decide (m=n) && decide (us.length=ks.length));by_cases h1:n=m
     · subst h1;by_cases h2:ks.length=us.length
       · have h3:(n=star/\ks=[])↔(n=star/\us=[]):=by
          constructor
          · rintro ⟨a,b⟩;rw [b] at h2;exact ⟨a,Sj.mp h2.symm⟩
          · rintro ⟨a,b⟩;rw [b] at h2;exact ⟨a,Sj.mp h2⟩
         rw [decide_eq_decide.mpr h3,h2]
       · have zz:¬ us.length=ks.length:=fun e=>h2 e.symm;simp [h2,zz]
     · have zZ:¬ m=n:=fun e=>h1 e.symm;simp [h1,zZ]
   | call s k=>rfl
 | call s k=>cases r <;> rfl
mutual
theorem nz:∀ l r:Th,(l.com r).size<=l.size/\(l.com r).tall<=l.tall
 | .knot n ks,r=>by
   have h:=lp ks r.kids;rw [Th.com];split
   · rw [Th.size,Th.size,Th.tall,Th.tall];omega
   · have:=(Th.knot n ks).size_pos;have:=(Th.knot n ks).tall_eq;rw [dU,lf];omega
 | .call s k,r=>by rw [Th.com,dU,lf,Th.size,Th.tall];omega
theorem lp:∀ ks us:List Th,ax (cT ks us)<=ax ks/\bI (cT ks us)<=bI ks
 | [],us=>by rw [cT,ax,bI];exact ⟨QF _,QF _⟩
 | k::ks,[]=>by rw [cT,ax,bI];exact ⟨Q7 _,Q7 _⟩
 | k::ks,u::us=>by
   have h1:=nz k u;have h2:=lp ks us;rw [cT,ax,ax,bI,bI];omega
end
mutual
theorem j9:∀ l r:Th,(l.com r).noCall
 | .knot n ks,r=>by
   rw [Th.com];split
   · rw [Th.noCall];exact iW ks r.kids
   · exact iZ
 | .call s k,r=>by rw [Th.com];exact iZ
theorem iW:∀ ks us:List Th,bK (cT ks us)
 | [],us=>by rw [cT,bK];trivial
 | k::ks,[]=>by rw [cT,bK];trivial
 | k::ks,u::us=>by rw [cT,bK];exact ⟨j9 k u,iW ks us⟩
end
end BB
namespace BB
open PySem L2
theorem TK.const {K:QB} {H:Hp} {a:QD} {xs:List V} (h:∀ H:Hp,SqT K H a xs):TK K H a xs:=by
 rcases h (fun _=>none) with (h | ⟨o,h⟩) | h
 · cases h
 · cases h
 · exact .inr h
theorem tI {K:QB} {H:Hp} {t:Th} {a h0:QD} {Q:VK} (hA:AtK K H t a) (e0:TK K H h0 [.str star]) (xw:t.tall<=150) (k:Q (.bl t.isHole) H):tW K 150 (.ref a) (.ref h0) H Q:=by
 cases t with
 | knot n ks =>
   rw [AtK] at hA;obtain ⟨hn,as,h1,h2⟩:=hA;rw [Th.tall] at xw;have hd:=gR ks;refine ⟨a,h0,_,_,.str n::dvs ks,[.str star],rfl,rfl,h1.sq,e0.sq,.cons (by rw [DAtK]) h2.dvs,.cons (by rw [DAtK]) .nil,by rw [cC,Dv.deep];omega,fun b hb=>?_⟩
   have e:b=(Th.knot n ks).isHole:=by
    rw [U6,hb];show _↔decide (n=star/\ks=[])=true;rw [decide_eq_true_iff];constructor
    · intro z;have z1:=V8 z;refine ⟨Dv.str.inj z1.1,?_⟩;cases ks with
      | nil=>rfl
      | cons x xs=>rw [dvs] at z1;cases z1.2
    · rintro ⟨z1,z2⟩;rw [z1,z2,dvs]
   rw [e];exact k
 | call sn kn =>
   rw [AtK] at hA;refine ⟨a,h0,_,_,[.str q,.int sn,.int kn],[.str star],rfl,rfl,hA.sq,e0.sq,.cons (by rw [DAtK]) (.cons (by rw [DAtK]) (.cons (by rw [DAtK]) .nil)),.cons (by rw [DAtK]) .nil,by simp [cC,Dv.deep],fun b hb=>?_⟩
   have e:b=(Th.call sn kn).isHole:=by
    show b=false;cases b with
    | false=>rfl
    | true=>exact absurd (hb.mp rfl) (by simp)
   rw [e];exact k
end BB
namespace L2
open PySem PySem.Spec PyProof.Rows BB
def vo (K:QB) (T:String):List V->Hp->VK->Prop:=fun xs H Q=>vy K T xs H Q∨∃ a ys b,xs=[.ref a,.ty T]/\SqT K H a ys/\T8 K (.type "tuple") (.type T)=some b/\Q (.bl b) H
theorem qp {X:Cx} {T:String}:f7 X (.builtin "isinstance") (vo X.K T):=by
 intro pins s σ H xs us Q I r h;rcases h with h | ⟨a,ys,b,rfl,hq,e,q⟩
 · exact ip pins s σ H xs us Q I r h
 · obtain ⟨u1,u2,rfl,r1,r2⟩:=vals2 r;cases r1;cases r2;obtain ⟨its,rv,⟨o,h1,h2,_⟩,hz⟩:=I.tuple hq;exact Sk PySem.W.kitx_tuple I.kIn ⟨o,h1,h2⟩ e (fun z=>nomatch z) fun tk=>⟨.bl b,H,I.tok _,rfl,q⟩
end L2
namespace BB
open PySem L2
theorem gI {f:Th} (h:f.isHole=false):f.lies hole=false:=by
 cases f with
 | knot n ks =>
   rw [Th.lies,h]
   have:aF (.knot n ks) hole=false:=by
    rw [cw];exact gX i8
   rw [this];rfl
 | call s k=>rw [Th.lies]
theorem dC {f a b:Th} (h1:aF f a=true) (h2:aF f b=true):aF a b=true:=by
 obtain ⟨n,ks,us,rfl,rfl,e3,hh⟩:=bG h1;obtain ⟨n',PK,vs,e1,rfl,e4,_⟩:=bG h2;cases e1
 have hn:(Th.knot n us).isHole=false:=by
  cases hz:(Th.knot n us).isHole with
  | false=>rfl
  | true =>
    rw [cw,gX hz] at h1;cases h1
 show (!(Th.knot n us).isHole && decide (n=n) && decide (us.length=vs.length))=true;rw [hn];have:us.length=vs.length:=by omega
 simp [this]
theorem kU {f a b:Th} (h:aF a b=true):aF f a=aF f b:=by
 cases h1:aF f a with
 | true =>
   cases h2:aF f b with
   | true=>rfl
   | false =>
     have:=dC (f:=a) (a:=f) (b:=b) (by rw [cw];exact h1) h;rw [h2] at this;cases this
 | false =>
   cases h2:aF f b with
   | false=>rfl
   | true =>
     have:=dC (f:=b) (a:=f) (b:=a) (by rw [cw];exact h2) (by rw [cw];exact h);rw [h1] at this;cases this
theorem nM {n:Rc} {us vs:List Th} (f:Th) (h:us.length=vs.length):aF f (.knot n us)=aF f (.knot n vs):=by
 cases f with
 | knot m ks=>show (_ && _ && decide (ks.length=us.length))=(_ && _ && decide (ks.length=vs.length));rw [h]
 | call s k=>rfl
theorem oo:∀ ks us:List Th,(cT ks us).length=min ks.length us.length
 | [],us=>by rw [cT];simp
 | k::ks,[]=>by rw [cT];simp
 | k::ks,u::us=>by rw [cT,QM,oo ks us,QM,QM];omega
mutual
theorem nD:∀ f a b:Th,f.lies (a.com b)=(f.lies a && f.lies b)
 | .call s k,a,b=>by rw [Th.lies,Th.lies,Th.lies];rfl
 | .knot n ks,a,b=>by
   cases hh:(Th.knot n ks).isHole with
   | true =>
     rw [Th.lies,Th.lies,Th.lies,hh];rfl
   | false =>
     by_cases yp:aF a b=true
     · obtain ⟨m,us,vs,rfl,rfl,e3,_⟩:=bG yp;have hc:(Th.knot m us).com (.knot m vs)=.knot m (cT us vs):=by rw [Th.com,if_pos yp];rfl
       have hl:(cT us vs).length=us.length:=by rw [oo];omega
       rw [hc,Th.lies,Th.lies,Th.lies,hh,Uz,Uz,Uz,nM (.knot n ks) hl,<- kU (f:=.knot n ks) yp];cases hs:aF (.knot n ks) (.knot m us) with
       | false=>rfl
       | true =>
         show (true && bC ks (cT us vs))=((true && bC ks us) && (true && bC ks vs));rw [Bool.true_and,Bool.true_and,Bool.true_and];obtain ⟨_,_,_,e1,e2,e4,_⟩:=bG hs;cases e1;cases e2;exact jZ ks us vs e4 (by omega)
     · have hc:a.com b=hole:=by rw [iQ,if_neg yp]
       rw [hc,gI hh];cases h1:(Th.knot n ks).lies a with
       | false=>rfl
       | true =>
         cases h2:(Th.knot n ks).lies b with
         | false=>rfl
         | true =>
           rw [Th.lies,hh,Uz,Sy] at h1 h2;exact absurd (dC h1.1 h2.1) yp
theorem jZ:∀ ks us vs:List Th,ks.length=us.length->ks.length=vs.length->bC ks (cT us vs)=(bC ks us && bC ks vs)
 | [],us,vs,_,_=>by rw [bC,bC,bC];rfl
 | k::ks,[],vs,h,_=>by simp at h
 | k::ks,u::us,[],_,h=>by simp at h
 | k::ks,u::us,v::vs,h1,h2=>by
   rw [cT,gC,gC,gC,nD k u v,jZ ks us vs (by simpa using h1) (by simpa using h2)];cases k.lies u <;> cases k.lies v <;> cases bC ks us <;> cases bC ks vs <;> rfl
end
end BB
namespace BB
open PySem L2
def PAtK (K:QB) (H:Hp) (p:List Int×Th) (a:QD):Prop:=∃ pa ta,H a=some (.tup [.ref pa,.ref ta])/\H pa=some (.tup (p.1.map V.int))/\AtK K H p.2 ta
def PsAtK (K:QB) (H:Hp) (ps:List (List Int×Th)) (as:List QD):Prop:=Rf (PAtK K H) ps as
theorem PAtK.mono {K:QB} {H H':Hp} (k:KT H H') {p:List Int×Th} {a:QD} (h:PAtK K H p a):PAtK K H' p a:=by
 obtain ⟨pa,ta,h1,h2,h3⟩:=h;exact ⟨pa,ta,k _ _ h1,k _ _ h2,h3.mono k⟩
theorem PsAtK.mono {K:QB} {H H':Hp} (k:KT H H') {ps:List (List Int×Th)} {as:List QD} (h:PsAtK K H ps as):PsAtK K H' ps as:=P2.mp (fun _ _ e=>PAtK.mono k e) h
theorem tL {xs:List V} {n:Nat} (h:n<=xs.length):cY xs none (some (n:Int))=xs.take n:=by
 unfold cY;rw [HT.sIx_none,HT.sIx_nat,VF h,Te,Wm]
end BB
namespace L2
open PySem PySem.Spec PySem.Calls PyProof.Rows PySem.W
section
variable {prog:QR} {w:Q3} {A:Rr} {E:QE->QJ->Prop} {h:RS} {g:Array GenState} {d:Drawn} {t:Nat} {os:V0} {a C:QD} {o:SQ} {K:Frag}
end
end L2
namespace L2
open PySem PySem.Spec PySem.Calls PyProof.Rows PySem.W
section
variable {P:QR} {w:Q3} {K:QB} {mg:Rc->Option QE} {base:RS} {N:List Rc} {qual:Rc} {scope:UR} {f:QD} {cd:QE} {A:Rr} {outer:List Env} {s:QJ} {H:Hp} {E:XK}
end
end L2
namespace L2
open PySem PySem.Spec PySem.Calls PyProof.Rows PySem.W
section
variable {X:Cx} {pins:List (QD×SQ)} {σ:St} {H:Hp} {s:QJ}
end
end L2
namespace L2
open PySem PySem.Spec PySem.Calls PyProof.Rows PySem.W
section
variable {P:QR} {w:Q3} {K:QB} {mg:Rc->Option QE} {base:RS}
end
end L2
namespace L2
open PySem PySem.Spec PySem.Calls PyProof.Rows PySem.SeqAt
theorem gr {k:Nat} {A:Rr} (hr:Room k A):A.units+2<Sl:=by
 have:=hr.units;omega
end L2
namespace L2
open PySem PySem.Spec PySem.Calls PyProof.Rows
end L2
namespace BB
open PySem
end BB
namespace L2
open PySem PySem.Spec PySem.Calls PyProof.Rows BB
section
variable {prog:QR} {w:Q3} {A:Rr} {R:Result->QJ->Prop}
end
end L2
namespace PySem
section
variable {prog:QR} {w:Q3} {A:Rr} {E:QE->QJ->Prop} {s:QJ}
end
end PySem
namespace L2
open PySem PySem.Spec PySem.Calls PyProof.Rows BB
end L2
namespace L2
open PySem PySem.Spec PySem.Calls PyProof.Rows BB
section
variable {X:Cx}
end
end L2
namespace BB
open PySem L2
theorem tO {α:Type} {js:List (Option Nat)} {g:TG} {tt:TT} {te:TE} {σ:St} {J:It} {H:Hp} {xs:List V} {fin:QD->Hp->Prop} (zs:List α) (f:α->V) (hz:zs.length=xs.length) (hn:xs.length<=1000000)
 (Aq:∀ i H2,L2.Same H H2->i<xs.length->J.go i H2) (xK:∀ H2,L2.Same H H2->J.stop xs.length H2) (yE:∀ (i:Nat) H2 x H3,L2.Same H H2->i<xs.length->J.yld i H2 x H3->H3=H2/\xs[i]?=some x)
 (hb:∀ (i:Nat) x z H2 (R:VK) (W':Hp->Prop),xs[i]?=some x->zs[i]?=some z->L2.Same H H2->(∀ H3,L2.Same H2 H3->R (f z) H3)->g x (cσ js σ) H2 fun w9 H3=>tt w9 H3 fun b H4=>if b=true then te w9 H4 R else W' H4)
 (za:∀ D H',H D=none->L2.Same H H'->H' D=some (.lst (zs.map f))->fin D H') :
 ∀ D,H D=none->∃ (n:Nat) (W:Nat->Hp->Prop),W 0 (upd H D (.lst []))/\fV js g tt te σ J D n W fun H'=>fin D H':=by
 intro D hD;refine ⟨xs.length,fun i H'=>i<=xs.length/\L2.Same H H'/\H' D=some (.lst ((zs.take i).map f)),⟨Q7 _,ad hD _,by rw [ab];rfl⟩,?_⟩;rintro i H' ⟨hi,s1,e1⟩;by_cases wX:i<xs.length
 · refine .inr ⟨wX,Aq i H' s1 wX,fun v H1 hy=>?_⟩;obtain ⟨e,hx⟩:=yE i H' v H1 s1 wX hy;subst e;obtain ⟨z,yP⟩:∃ z,zs[i]?=some z:=⟨_,QC (by omega)⟩;refine hb i v z _ _ _ hx yP s1 fun H3 s3=>⟨_,s3 _ _ e1,?_,wX,ao (s1.trans s3) hD,?_⟩
   · rw [QA,Ro];have:QW=16777216:=UQ;omega
   · rw [ab,take_snoc yP,QS];rfl
 · have xJ:i=xs.length:=by omega
   subst xJ;refine .inl ⟨xK _ s1,za D H' hD s1 ?_⟩;rw [e1,Sd (by omega)]
end BB
namespace HT
open PySem PySem.Spec PyProof.Rows
section
variable {prog:QR} {w:Q3} {A:Rr} {E:QE->QJ->Prop} {s:QJ}
theorem adjust_back (n:Nat):Tz none none (-1) (n:Int)=((n:Int) - 1,-1):=rfl
theorem places_back (n:Nat):Se ((n:Int) - 1) (-1) (-1)=n:=by
 unfold Se;have h1:¬ ((-1:Int) > 0):=by omega
 simp only [h1,if_false];by_cases h:n=0
 · subst h;decide
 · have h2:((n:Int) - 1) > -1:=by omega
   simp only [h2,if_true];rw [show (- -1:Int)=1 by decide,Ws];omega
theorem pick_back (xs:Array QE):((Rl xs.size).filterMap fun (m:Nat)=>xs[(((xs.size:Nat):Int) - 1+(m:Int) * (-1)).toNat]?).toArray=xs.toList.reverse.toArray:=by
 congr 1
 have e:∀ m∈Rl xs.size,xs[(((xs.size:Nat):Int) - 1+(m:Int) * (-1)).toNat]?=xs.toList.reverse[m]?:=by
  intro m hm;have Cs:=TC.mp hm;rw [List.getElem?_reverse (by rw [Rj];exact Cs),T2,Rj];congr 1;omega
 have f:∀ (l:List Nat) (f g:Nat->Option QE),(∀ m∈l,f m=g m)->l.filterMap f=l.filterMap g:=by
  intro l f g;induction l with
  | nil=>intro _;rfl
  | cons y ys ih =>
    intro h;rw [Um,Um,h y (by simp),ih (fun m hm=>h m (by simp [hm]))]
 rw [f _ _ _ e]
 have gl:∀ (ys:List QE),(Rl ys.length).filterMap (fun m=>ys[m]?)=ys:=by
  intro ys;have:=pick_run ys.toArray 0 ys.length;simp only [Wf] at this
  have e3:((fun x=>ys.toArray[x]?) ∘ fun x=>0+x)=fun m=>ys[m]?:=by
   funext m;simp
  rw [e3] at this;rw [this];simp
 have:=gl xs.toList.reverse;rw [RU,Rj] at this;exact this
theorem sliceApplied_back {sl:QD} {n:Nat} {t:Tok} {Q:Int×Int×Nat->QJ->Prop} (hs:s.heap.IsSliceOf sl .none .none (.int (-1) t))
 (h:Q ((n:Int) - 1,-1,n) s):QU (Ra prog w) A (Uy (.ref sl) (pure (n:Int))) Q E s:=by
 obtain ⟨os,yS,Am,yN⟩:=id hs;unfold Uy Builtin.Slice.sliceFields;refine Qz (Qz (Rx yS yN (x:=.none) rfl (Qz (Rx yS yN (x:=.none) rfl (Qz (Rx yS yN (x:=.int (-1) t) rfl (QI ?_)))))));refine Qz (slicePart_int ?_);show QU _ _ (if ((-1:Int) == 0)=true then _ else _) _ _ s;rw [if_neg (by decide)];refine Qz (slicePart_none (Qz (slicePart_none (Qz (QI ?_)))));show QU _ _ (match Tz none none (-1) (n:Int) with | (lo,hi)=>pure (lo,(-1:Int),Se lo hi (-1))) _ _ s;rw [adjust_back n];show QU _ _ (pure ((n:Int) - 1,(-1:Int),Se ((n:Int) - 1) (-1) (-1))) _ _ s;rw [places_back];exact QI h
theorem getItem_tuple_back {t sl:QD} {items:Array QE} {tk:Tok} {Q:QE->QJ->Prop} (ht:IsTup s.heap t items) (hs:s.heap.IsSliceOf sl .none .none (.int (-1) tk))
 (h:Q (.ref s.heap.objs.size) { s with heap:=s.heap.push { cls:=.type "tuple",data:=.seq items.toList.reverse.toArray } })
 (hsz:items.size<=QW):QU (Ra prog w) A (UX (.ref t) (.ref sl)) Q E s:=by
 have xI:sizeOk (.seq items.toList.reverse.toArray):=by
  show items.toList.reverse.toArray.size<=QW;rw [QN,RU,Rj];exact hsz
 obtain ⟨os,yS,Am,yN⟩:=id hs;have Ez:s.TypeIs (.ref sl) "slice":=⟨os,yS,Am⟩;unfold UX
 try with_reducible refine R1 ?_
 first | refine Qz (QI ?_) | skip
 refine Qz (wpAny_sequenceKey ht.typeIs (by decide) ?_)
 refine Qz (RE (name:=QK "__getitem__") ht.typeIs Rq
  (RL Rq ht.typeIs entry_tuple_getitem ?_ (args_tuple_getitem _ _)))
 show QU _ _ (Ux (.ref t) >>= _) _ _ s;refine Qz (tupleItemsOf_ ht ?_);refine Qz (Tf Ez ?_);rw [if_pos (by decide)];refine Qz (sliceApplied_back hs ?_)
 have AH:¬ ((((items.size:Nat):Int) - 1 == 0 && (-1:Int) == 1 && items.size == items.size)=true):=by
  simp
 show QU _ _ (if (((items.size:Nat):Int) - 1 == 0 && (-1:Int) == 1 && items.size == items.size)=true then _ else _) _ _ s;rw [if_neg AH,pick_back]
 first
  | exact Qz (m:=Si _) (RK (QI ⟨_,rfl,QI h⟩) xI)
  | exact Qz (m:=Si _) (RK (Qz (QI (QI ⟨_,rfl,QI h⟩))) xI)
  | exact Qz (Qz (m:=Si _) (RK (QI (QI ⟨_,rfl,QI h⟩)) xI))
  | exact Qz (Qz (m:=Si _) (RK (QI ⟨_,rfl,QI h⟩) xI))
end
end HT
namespace L2
open PySem PySem.Spec PyProof.Rows
section
variable {X:Cx} {e:RO} {te:TE} {pos p2 p3 p4:US}
def BkR (X:Cx) (r:V->Hp->VK->Prop):Prop :=
 ∀ (pins:List (QD×SQ)) (s:QJ) (σ:St) (H:Hp) (x:V) (v:QE) (t:Tok) (sl:QD) (Q:VK),Inv X pins σ H s->RelV x v->s.heap.IsSliceOf sl .none .none (.int (-1) t)->r x H Q →
   ∃ T id,Uq (.type T) "__getitem__"=pure (some (.builtin id))/\s.TypeIs v T/\QU (Ra X.prog X.w) X.A (UX v (.ref sl)) (EP X pins σ Q) X.xe s
def tBk (r:V->Hp->VK->Prop) (te:TE):TE:=fun σ H Q=>te σ H fun x H1=>r x H1 Q
theorem pN {r:V->Hp->VK->Prop} (hr:BkR X r) (he:PE X e te):PE X (.Subscript e (.Slice none none (some (.UnaryOp .USub (.Constant (.int 1) 0 p3) p4)) p2) pos) (tBk r te):=by
 intro pins s σ H Q I h;refine Subscript_ (thn (he pins s σ H _ I h) fun v s1 ⟨x,H1,I1,r1,q1⟩=>?_);refine wpAny_Slice ?_;rw [evalPart_none];refine QI ?_;refine QI ?_;have Nk:PO X (some (.UnaryOp .USub (.Constant (.int 1) 0 p3) p4)) (ui (tUn (rU fun i=>.int (-i)) (tC (.int 1)))):=bq (vO uX af);refine thn (Nk pins s1 σ H1 (fun o H'=>o=some (-1)/\r x H' Q) I1 ⟨1,rfl,_,rfl,rfl,q1⟩) fun vs s2 ⟨o,H2,I2,ps,ho,q2⟩=>?_;subst ho;cases ps with
 | int i t =>
   have I4:Inv X pins σ H2 { s2 with heap:=s2.heap.push { cls:=.type "slice",data:=.fields #[.none,.none,.int (-1) t] } }:=I2.kept (t':=s2.toks) fun b ob q=>QG _ q;obtain ⟨T,id,hT,ht,hg⟩:=hr pins { s2 with heap:=s2.heap.push { cls:=.type "slice",data:=.fields #[.none,.none,.int (-1) t] } } σ H2 x v t s2.heap.objs.size Q I4 r1 (Heap.IsSliceOf.new ..) q2;show QU (Ra X.prog X.w) X.A (subscriptTail e (.Slice none none (some (.UnaryOp .USub (.Constant (.int 1) 0 p3) p4)) p2) v (.ref s2.heap.objs.size)) (EP X pins σ Q) X.xe { s2 with heap:=s2.heap.push { cls:=.type "slice",data:=.fields #[.none,.none,.int (-1) t] } };exact tail_any (ops:=[v,.ref s2.heap.objs.size]) ht hT hg (by with_unfolding_all rfl)
def vX (K:QB):V->Hp->VK->Prop:=fun x H Q=>∃ a xs,x=.ref a/\SqT K H a xs/\∀ p,H p=none->Q (.ref p) (upd H p (.tup xs.reverse))
def wb (K:QB):V->Hp->VK->Prop:=fun x H Q=>∃ a xs,x=.ref a/\SqL K H a xs/\∀ p,H p=none->Q (.ref p) (upd H p (.lst xs.reverse))
theorem Vals.rev {xs:List V} {us:List QE} (r:Vals xs us):Vals xs.reverse us.reverse:=by
 induction r with
 | nil=>exact .nil
 | cons r1 r2 ih=>rw [RF,RF];exact ih.append (.cons r1 .nil)
theorem uW:BkR X (vX X.K):=by
 intro pins s σ H x v t sl Q I rx hs h;obtain ⟨a,xs,rfl,hx,q⟩:=h;cases rx;obtain ⟨its,r,ht,hz⟩:=I.tuple hx;have hlen:its.toArray.size=xs.length:=by rw [QN];exact r.length.symm
 refine ⟨"tuple",_,Rq.lookup,ht.typeIs,?_⟩;refine HT.getItem_tuple_back ht hs ?_ (by rw [hlen];exact hz);refine ⟨.ref s.heap.objs.size,_,I.laid (t':=s.toks) (o:=.tup xs.reverse) (fun b ob q=>QG _ q) (QF _) ?_,rfl,q _ (I.hok.fresh (QF _))⟩;exact ⟨by rw [RU];exact hz,_,0,r.rev,QQ _ rfl⟩
theorem kF (its:List QE):slicePick its.toArray none none (some (-1))=its.reverse.toArray:=by
 unfold slicePick;have e:UP none none (some (-1)) its.toArray.size=((its.toArray.size:Int) - 1,-1,-1):=rfl;rw [e];unfold sliceRange;have h1:¬ ((-1:Int) > 0):=by omega
 simp only [h1,if_false]
 have hc:(if ((its.toArray.size:Nat):Int) - 1 > -1 then (((its.toArray.size:Nat):Int) - 1 - -1 - -1 - 1) / (- -1) else 0).toNat=its.toArray.size:=by
  by_cases h:its.toArray.size=0
  · rw [h];decide
  · rw [if_pos (by omega),show (- -1:Int)=1 by decide,Ws];omega
 rw [hc,Wf];have:=HT.pick_back its.toArray;rw [<- this];congr 1;congr 1;funext m;show its.toArray[(((its.toArray.size:Nat):Int) - 1+-1 * (m:Int)).toNat]?=_;rw [Int.mul_comm]
theorem sW:BkR X (wb X.K):=by
 intro pins s σ H x v t sl Q I rx hs h;obtain ⟨a,xs,rfl,hx,q⟩:=h;cases rx;obtain ⟨its,r,ht,hz⟩:=I.list hx;have hlen:=r.length;refine ⟨"list",_,slot_list_getitem.lookup,ht.isList.typeIs,?_⟩;refine wpAny_getItem_list_slice ht.isList hs .none .none (.int _ _) (by simp) ?_ (by rw [QN] <;> omega);rw [kF];refine ⟨.ref s.heap.objs.size,_,I.laid (t':=s.toks) (o:=.lst xs.reverse) (fun b ob q=>QG _ q) (QF _) ?_,rfl,q _ (I.hok.fresh (QF _))⟩;exact ⟨by rw [RU];exact hz,_,0,r.rev,QQ _ rfl⟩
end
end L2
namespace L2
open PySem PySem.Spec PySem.Calls PyProof.Rows
section
variable {X:Cx}
end
end L2
namespace L2
open PySem PySem.Spec PySem.Calls PyProof.Rows
section
variable {X:Cx}
end
end L2
namespace BB
open PySem L2
structure cZ (ks:List (Rc×Int)):Prop where
 ne:1<=ks.length
 le:ks.length<=8
 low:∀ k∈ks,Low k.1/\k.1.length<=8
 num:∀ k∈ks,0<=k.2/\k.2<=3
 zero:∃ k∈ks,k.2=0
 nd:∀ (i j:Nat) (k l:Rc×Int),ks[i]?=some k->ks[j]?=some l->k.1=l.1->i=j
mutual
/-- a pattern over kinds,its calls of so many states and kids -/
def Th.FitS (ks:List (Rc×Int)) (S C:Int):Th->Prop
 | .knot n ts=>(n,(ts.length:Int))∈ks/\FitSs ks S C ts
 | .call s k=>0<=s/\s<S/\0<=k/\k<C
def FitSs (ks:List (Rc×Int)) (S C:Int):List Th->Prop
 | []=>True
 | t::ts=>t.FitS ks S C/\FitSs ks S C ts
end
theorem FitSs.of {ks:List (Rc×Int)} {S C:Int}:∀ {ts:List Th},(∀ t∈ts,t.FitS ks S C)->FitSs ks S C ts
 | [],_=>by rw [FitSs];trivial
 | t::ts,h=>by
   rw [FitSs];exact ⟨h t (Q6 ..),FitSs.of fun u hu=>h u (Q1 _ hu)⟩
theorem qO {ts:List Th} {n:Nat} (h:∀ t∈ts,t.tall<=n):bI ts<=n:=by
 induction ts with
 | nil=>rw [bI];exact Q7 _
 | cons t ts ih =>
   rw [bI];have h1:=h t (Q6 ..);have h2:=ih fun u hu=>h u (Q1 _ hu);omega
def SameB (l:QD) (H H':Hp):Prop:=∀ b o,b≠l->H b=some o->H' b=some o
theorem SameB.refl {l:QD} {H:Hp}:SameB l H H:=fun _ _ _ e=>e
theorem SameB.trans {l:QD} {A B C:Hp} (h:SameB l A B) (k:SameB l B C):SameB l A C:=fun b o hb e=>k b o hb (h b o hb e)
theorem SameB.of {l:QD} {H H':Hp} (h:L2.Same H H'):SameB l H H':=fun b o _ e=>h b o e
theorem SameB.set {l:QD} {H:Hp} {o:HO}:SameB l H (upd H l o):=fun b o hb e=>by rw [ai hb];exact e
theorem SameB.kt {l:QD} {H H':Hp} {xs:List V} (h:SameB l H H') (e:H l=some (.lst xs)):KT H H':=fun b ys eb=>h b _ (eX eb e (by intro z;cases z)) eb
def RowAt (H:Hp) (row:List Th) (a:QD):Prop:=∃ as:List QD,H a=some (.tup (as.map V.ref))/\Ats H row as
theorem RowAt.mono {H H':Hp} (k:KT H H') {row:List Th} {a:QD} (h:RowAt H row a):RowAt H' row a:=by
 obtain ⟨as,h1,h2⟩:=h;exact ⟨as,k _ _ h1,h2.mono k⟩
structure BookAt (H:Hp) (ins outs:List (Rc×Int)) (head:Th) (rows:List (List Th)) (r ia oa ha ra:QD) (wU xc xv:List QD):Prop where
 bk:H r=some (.tup [.ref ia,.ref oa,.ref ha,.ref ra])
 inE:H ia=some (.tup (wU.map V.ref))
 inK:KsAt H ins wU
 outE:H oa=some (.tup (xc.map V.ref))
 outK:KsAt H outs xc
 hd:At H head ha
 rl:H ra=some (.tup (xv.map V.ref))
 rw:Rf (RowAt H) rows xv
theorem BookAt.mono {H H':Hp} (k:KT H H') {ins outs:List (Rc×Int)} {head:Th} {rows:List (List Th)} {r ia oa ha ra:QD} {wU xc xv:List QD} (b:BookAt H ins outs head rows r ia oa ha ra wU xc xv):BookAt H' ins outs head rows r ia oa ha ra wU xc xv :=
 ⟨k _ _ b.bk,k _ _ b.inE,b.inK.mono k,k _ _ b.outE,b.outK.mono k,b.hd.mono k,k _ _ b.rl,P2.mp (fun _ _ e=>e.mono k) b.rw⟩
theorem dW {z:Rc} {n:Nat} (h:n<=z.length):(dr z none (some (n:Int))).cps.toList=z.cps.toList.take n/\(dr z none (some (n:Int))).length=n:=by
 have hz:z.cps.toList.length=z.length:=Rj
 have e:(dr z none (some (n:Int))).cps.toList=z.cps.toList.take n:=by
  show (jh z.cps.toList none (some (n:Int))).toArray.toList=_;rw [List.toList_toArray];unfold jh;rw [HT.sIx_nat,HT.sIx_none,hz,VF h];simp
 refine ⟨e,?_⟩;show (dr z none (some (n:Int))).cps.size=n;rw [<- Rj,e,Ro,hz];omega
end BB
namespace BB
open PySem L2
theorem dY {ks:List (Rc×Int)} {S C:Int}:∀ {ts:List Th},FitSs ks S C ts->∀ t∈ts,t.FitS ks S C
 | [],_,t,ht=>by cases ht
 | a::ts,h,t,ht=>by
   rw [FitSs] at h;rcases QZ.mp ht with rfl | ht
   · exact h.1
   · exact dY h.2 t ht
def Bk (H:Hp) (ins outs:List (Rc×Int)) (head:Th) (rows:List (List Th)) (r:QD):Prop:=∃ ia oa ha ra wU xc xv,BookAt H ins outs head rows r ia oa ha ra wU xc xv
theorem Bk.mono {H H':Hp} (k:KT H H') {ins outs:List (Rc×Int)} {head:Th} {rows:List (List Th)} {r:QD} (b:Bk H ins outs head rows r):Bk H' ins outs head rows r:=by
 obtain ⟨ia,oa,ha,ra,wU,xc,xv,b⟩:=b;exact ⟨ia,oa,ha,ra,wU,xc,xv,b.mono k⟩
end BB
namespace L2
open PySem PySem.Spec PySem.Calls PyProof.Rows PySem.SeqAt
end L2
namespace BB
open PySem L2
end BB
namespace L2
open PySem PySem.Spec PyProof.Rows
section
variable {X:Cx} {e:RO} {te:TE} {p p2 pos xg:US}
end
end L2
namespace BB
open PySem L2
theorem mz {α:Type} {F:Hp->α->QD->Prop} {js:List (Option Nat)} {g:TG} {tt:TT} {te:TE} {σ:St} {J:It} {H:Hp} {xs:List V} {fin:QD->Hp->Prop} (zs:List α) (hF:∀ H1 H2 z p,KT H1 H2->F H1 z p->F H2 z p) (hz:zs.length=xs.length) (hn:xs.length<=1000000)
 (Aq:∀ i H2,L2.Same H H2->i<xs.length->J.go i H2) (xK:∀ H2,L2.Same H H2->J.stop xs.length H2) (yE:∀ (i:Nat) H2 x H3,L2.Same H H2->i<xs.length->J.yld i H2 x H3->H3=H2/\xs[i]?=some x)
 (hb:∀ (i:Nat) x z H2 (R:VK) (W':Hp->Prop),xs[i]?=some x->zs[i]?=some z->L2.Same H H2->(∀ H3 p,L2.Same H2 H3->F H3 z p->R (.ref p) H3)->g x (cσ js σ) H2 fun w9 H3=>tt w9 H3 fun b H4=>if b=true then te w9 H4 R else W' H4)
 (za:∀ D H' as,H D=none->L2.Same H H'->H' D=some (.lst (as.map V.ref))->Rf (F H') zs as->fin D H') :
 ∀ D,H D=none->∃ (n:Nat) (W:Nat->Hp->Prop),W 0 (upd H D (.lst []))/\fV js g tt te σ J D n W fun H'=>fin D H':=by
 intro D hD;refine ⟨xs.length,fun i H'=>i<=xs.length/\L2.Same H H'/\∃ as:List QD,H' D=some (.lst (as.map V.ref))/\Rf (F H') (zs.take i) as,⟨Q7 _,ad hD _,[],by rw [ab];rfl,.nil⟩,?_⟩;rintro i H' ⟨hi,s1,as,e1,hp⟩;by_cases wX:i<xs.length
 · refine .inr ⟨wX,Aq i H' s1 wX,fun v H1 hy=>?_⟩;obtain ⟨e,hx⟩:=yE i H' v H1 s1 wX hy;subst e;obtain ⟨z,yP⟩:∃ z,zs[i]?=some z:=⟨_,QC (by omega)⟩;have hl:(zs.take i).length=as.length:=QP hp;rw [Ro] at hl;refine hb i v z _ _ _ hx yP s1 fun H3 p s3 IG=>⟨_,s3 _ _ e1,?_,wX,ao (s1.trans s3) hD,as++[p],?_,?_⟩
   · rw [QA];have:QW=16777216:=UQ;omega
   · rw [ab,QS];rfl
   · have kt:KT H3 (upd H3 D (.lst (as.map V.ref++[.ref p]))):=aQ (s3 _ _ e1);rw [take_snoc yP];exact P2.append (P2.mp (fun x y e=>hF _ _ _ _ ((Same.kt s3).trans kt) e) hp) (.cons (hF _ _ _ _ kt IG) .nil)
 · have xJ:i=xs.length:=by omega
   subst xJ;refine .inl ⟨xK _ s1,za D H' as hD s1 e1 ?_⟩;rw [Sd (by omega)] at hp;exact hp
end BB
namespace L2
open PySem PySem.Spec PyProof.Rows
end L2
namespace L2
open PySem
theorem us1 {α:Type}:∀ {us:List α},us.length=1->∃ a,us=[a]
 | [a],_=>⟨a,rfl⟩
theorem us2 {α:Type}:∀ {us:List α},us.length=2->∃ a b,us=[a,b]
 | [a,b],_=>⟨a,b,rfl⟩
theorem us3 {α:Type}:∀ {us:List α},us.length=3->∃ a b c,us=[a,b,c]
 | [a,b,c],_=>⟨a,b,c,rfl⟩
theorem us4 {α:Type}:∀ {us:List α},us.length=4->∃ a b c d,us=[a,b,c,d]
 | [a,b,c,d],_=>⟨a,b,c,d,rfl⟩
end L2
namespace PySem
open Sem (wp)
section
variable {prog:QR} {w:Q3} {K:Type} [DecidableEq K] {knd:HeapKind prog w K} {A:Rr} {E:QE->QJ->Prop} {s:QJ}
end
end PySem
namespace L2
open PySem PySem.Spec PyProof.Rows BB
end L2
namespace BB
open PySem L2
theorem uD:(QK "*")≠q:=by decide +kernel
end BB
namespace PySem
open Sem (wp)
section
variable {prog:QR} {w:Q3} {A:Rr} {E:QE->QJ->Prop} {s:QJ} {I:QD} {fp wr:List QD} {G:Array GenState->Array GenState->Prop} {n:Nat} {P:Nat->QE->Prop} {St:Nat->QJ->Prop}
end
end PySem
namespace L2
open PySem PySem.Spec PyProof.Rows
section
variable {X:Cx} {o e:RO} {to te:TE} {p2 xg apos wV:US}
end
end L2
namespace PySem
open Sem (wp)
namespace F
theorem bb_list_nokeys:Uq (.type "list") "keys"=pure none:=by rw [Sz,RV];kernel_rfl
end F
section
variable {prog:QR} {w:Q3} {A:Rr} {E:QE->QJ->Prop} {s:QJ} {a:QD} {xs:Array QE} {k:Nat}
theorem bb_nokeysL {Q:Option QE->QJ->Prop} (hA:A.handled=none) (hx:s.heap.get? a=some { cls:=.type "list",data:=.seq xs k })
 (q:∀ h' tk,(∀ b o,s.heap.get? b=some o->h'.get? b=some o)->Q none { s with heap:=h',toks:=tk }):QU (Ra prog w) A (getAttr? (.ref a) "keys") Q E s:=by
 obtain ⟨hp,g,d,tk,os⟩:=s;have gT:∀ z,(⟨hp,g,d,z,os⟩:QJ).TypeIs (.ref a) "list":=fun _=>⟨_,hx,rfl⟩;have g1:=sub_AttributeError;have g3:=VM.lookup;have g4:=VM.bind (.ref a);have g5:=am_list_getattr_none;unfold getAttr? getAttrBy? getAttrBy
 repeat (any_goals (first | assumption | exact gT _ | ((with_reducible show QU _ _ (call (Value.builtin "list.__getattribute__") _ _) _ _ _);refine VY VM (gT _) am_entry_list_getattribute (F.args_list_getattribute_2 _ _) (meets_getattribute_miss_list a xs k #[] "keys" _ F.bb_list_nokeys (by decide +kernel) (by decide)) ⟨hx,hA,fun h' Nl e Ap=>?_⟩) | wp_step))
 obtain ⟨t',u',he⟩:=Ap.there;show QU _ _ (getattributeRaised _ _ _ _ _ _ _) _ _ _;unfold getattributeRaised
 repeat (any_goals (first | assumption | wp_step))
 exact q h' Nl Ap.keeps
end
end PySem
namespace L2
open PySem PySem.Spec PyProof.Rows
def bX:List (List Key×V)->List (List Key×V)->List (List Key×V)
 | f',[]=>f'
 | f',p::ps=>bX (putK f' p.1 p.2) ps
def PrA (H:Hp) (pr:List Key×V) (pa:QD):Prop:=∃ ka,H pa=some (.tup [.ref ka,pr.2])/\H ka=some (.tup (pr.1.map kV))
section
variable {X:Cx} {pins:List (QD×SQ)} {σ:St}
theorem qt {H:Hp} {s:QJ} {a b:QD} {v:V} {r:QE} {k:List Key} {f':List (List Key×V)} {A:Rr} {E:QE->QJ->Prop} {Q:Unit->QJ->Prop} (hu:(VN (aB X.prog X.w)).room A) (I:Inv X pins σ H s) (e:H a=some (.dT f')) (eb:H b=some (.tup (k.map kV))) (l:f'.length<QW) (rv:RelV v r) (h:∀ h' tk,Ss a s.heap h'->Inv X pins σ (upd H a (.dT (putK f' k v))) { s with heap:=h',toks:=tk }->Q () { s with heap:=h',toks:=tk }) :
 QU (Ra X.prog X.w) A (dictSet a (.ref b) r) Q E s:=by
 obtain ⟨z,hd,xs,rel,dd⟩:=tX I.hok e;have hz:xs.length<=QW:=by rw [<- QP rel];exact z
 have hl:(putK f' k v).length<=QW:=by have:=bM f' k v;omega
 refine wpAny_dictSet_heap (hsz:=hz) hu (gL I.hok eb) dd fun h' zY hs=>h _ _ hs ?_;obtain ⟨q,es,ep,hq,h2,h3,h4,_,h5⟩:=zY;refine fM I (by rw [e];exact SK) hs ⟨q,hq⟩ ⟨hl,hd,_,(rel.put k eb rv).keeps fun c ys ec=>?_,q,es,ep,hq,h2,h3,h4,h5⟩;rw [ai (eX ec e (fun z=>nomatch z))];exact ec
theorem oR {A:Rr} {d it l:QD} {prs:List (List Key×V)} {ps:List QD} {R:Result->QJ->Prop} (hh:A.handled=none) (hu:A.units+8<Sl) (hn:prs.length<=10000) :
 ∀ (m i:Nat) (s:QJ) (tk:Tok) (H:Hp) (f':List (List Key×V)),prs.length - i=m->i<=prs.length->Inv X pins σ H s->H d=some (.dT f')->f'.length<=i->jc X pins H it->s.heap.IsListIter it l i->H l=some (.lst (ps.map V.ref))->Rf (PrA H) prs ps →
   (∀ s',Inv X pins σ (upd H d (.dT (bX f' (prs.drop i)))) s'->R (.ok (.ret .none)) s') →
   UZ (Ra X.prog X.w) A (.builtin "dict.update.loop" ⟨[.ref d,.ref it,.int i tk,.none],[]⟩) R s:=by
 intro m;induction m with
 | zero =>
   intro i s tk H f' hk hi I ed xT hf hit el xP hR;have Bs:i=prs.length:=by omega
   subst Bs;obtain ⟨its,rv,p,hz⟩:=I.list (SqL.of (K:=X.K) el);have xW:prs.length=ps.length:=QP xP;have hl:=rv.length;rw [QA] at hl;obtain ⟨f0,f1,f2,f3,f4,f5⟩:=hf;refine UN PySem.F.bb_entry_upd ?_;rw [TF PySem.F.bb_plain_upd _];show QU _ A.in1 (TJ (.ref it) >>= _) _ _ s;refine Qz (wpAny_pyNext_list_end hh hit p.isList (by simp;omega) fun h' eb=>?_);refine Qz (QI (QI ?_));refine hR _ ?_;rw [List.drop_length]
   have e0:upd H d (.dT (bX f' []))=H:=by
    funext b;by_cases hb:b=d
    · rw [hb,ab,ed];rfl
    · rw [ai hb]
   rw [e0];exact I.turned (t':=s.toks) (fun b o hb e=>eb b o hb e) f0 f1 f3 f4 f5
 | succ m ih =>
   intro i s tk H f' hk hi I ed xT hf hit el xP hR;have wX:i<prs.length:=by omega
   have xW:prs.length=ps.length:=QP xP;obtain ⟨its,rv,p,hz⟩:=I.list (SqL.of (K:=X.K) el);have hl:=rv.length;rw [QA] at hl;obtain ⟨pa,Bu,ka,zb,D6⟩:=BB.P2.get xP (QC wX);have hx:(ps.map V.ref)[i]?=some (.ref pa):=by rw [QO,Bu];rfl
   obtain ⟨u,Nm,ru⟩:=rv.get hx;cases ru;obtain ⟨f0,f1,f2,f3,f4,f5⟩:=id hf;refine UN PySem.F.bb_entry_upd ?_;rw [TF PySem.F.bb_plain_upd _];show QU _ A.in1 (TJ (.ref it) >>= _) _ _ s;refine Qz (wpAny_pyNext_list_item hit p.isList (x:=.ref pa) (by simpa using Nm) fun h1 IH Nn=>?_);have I1:Inv X pins σ H { s with heap:=h1 }:=I.turned (t':=s.toks) (fun b o hb e=>(Nn.2 b hb).trans e) f0 f1 f3 f4 f5;obtain ⟨_,wL,n2,Np,e2⟩:=(show ObjOk X.prog X.w H h1 pa (.tup [.ref ka,(prs[i]).2]) from I1.hok pa _ zb)
   obtain ⟨vv,rfl,Nq⟩:∃ vv,wL=[.ref ka,vv]/\RelV (prs[i]).2 vv:=by
    cases Np with
    | cons a b =>
      cases b with
      | cons c d =>
        cases d;cases a;exact ⟨_,rfl,c⟩
   have Nr:(⟨h1,s.gens,s.drawn,s.toks,s.os⟩:QJ).TypeIs (.ref pa) "tuple":=⟨_,e2,rfl⟩;refine Qz (R1 ?_);refine Qz (wpAny_tryCatch ?_);unfold Builtin.Dict.pairItems;refine Qz (Tf Nr ?_);rw [if_pos (by decide)];refine Qz (RZ e2 rfl (QI ?_));show QU _ _ (holding [.ref ka,vv] (dictSet d (.ref ka) vv)) _ _ _;refine R1 (qt (k:=(prs[i]).1) ?_ I1 ed D6 (by have:=eU;rw [UQ];omega) Nq fun h2 PL AL I2=>?_)
   · exact UO (by omega)
   refine QI ⟨TL PySem.F.bb_plain_upd _,?_⟩
   have E2:S3 ((i:Int)+1)=.int ((i+1:Nat):Int) 0:=by
    show Value.int ((i:Int)+1) 0=_;rw [show ((i+1:Nat):Int)=(i:Int)+1 by omega]
   rw [E2];have GR:it≠d:=fun z=>by rw [z,ed] at f0;cases f0
   refine ih (i+1) _ 0 _ (putK f' (prs[i]).1 (prs[i]).2) (by omega) wX I2 ab (by have:=bM f' (prs[i]).1 (prs[i]).2;omega) ⟨by rw [ai GR];exact f0,f1,f2,f3,f4,f5⟩ ?_ ?_ ?_ fun s' I'=>hR s' ?_
   · obtain ⟨o,g1,r⟩:=IH;exact ⟨o,(AL.2 it GR).trans g1,r⟩
   · rw [ai (eX el ed (fun z=>nomatch z))];exact el
   · refine BB.P2.mp (fun x y e=>?_) xP;obtain ⟨AY,g1,g2⟩:=e;exact ⟨AY,by rw [ai (eX g1 ed (fun z=>nomatch z))];exact g1,by rw [ai (eX g2 ed (fun z=>nomatch z))];exact g2⟩
   · rw [jj] at I';rw [Vi wX];exact I'
def uU:List V->Hp->VK->Prop:=fun xs H Q=>∃ (l:QD) (ps:List QD) (prs:List (List Key×V)),xs=[.ref l]/\H l=some (.lst (ps.map V.ref))/\Rf (PrA H) prs ps/\prs.length<=10000/\∀ d,H d=none->Q (.ref d) (upd H d (.dT (bX [] prs)))
theorem kb (hu:X.A.units+12<Sl) (hc:X.calm=true):f7 X (.type "dict") uU:=by
 intro pins s σ H xs us Q I r h;obtain ⟨l,ps,prs,rfl,el,xP,hn,q⟩:=h;obtain ⟨u,rfl,rx⟩:=vals1 r;cases rx;obtain ⟨z,its,n,rv,e⟩:=(show ObjOk X.prog X.w H s.heap l (.lst (ps.map V.ref)) from I.hok l _ el);refine Wi (Q₁:=fun obj wI=>obj=.ref s.heap.objs.size/\wI={ s with heap:=s.heap.push { cls:=.type "dict",data:=.dict #[] } }) PySem.F.kt_called_dict (PySem.F.kt_typeCall_dict_1 _) PySem.F.entry_dict_init (kt_code_dict_new _ ⟨rfl,rfl⟩) ?_;rintro obj wI ⟨rfl,rfl⟩;have gn:(s.heap.push { cls:=.type "dict",data:=.dict #[] }).DictOf (aB X.prog X.w) s.heap.objs.size []:=Heap.DictOf.new s.heap;have gt:(s.heap.push { cls:=.type "dict",data:=.dict #[] }).get? l=some { cls:=.type "list",data:=.seq its.toArray n }:=QG _ e;refine ⟨gn.typeIs,PySem.F.args_dict_init_2 _ _,?_⟩;have Au:=I.hok.fresh (QF s.heap.objs.size);have I1:Inv X pins σ (upd H s.heap.objs.size (.dT [])) { s with heap:=s.heap.push { cls:=.type "dict",data:=.dict #[] } }:=I.laid (a:=s.heap.objs.size) (o:=.dT []) (t':=s.toks) (fun _ _ q=>QG _ q) (QF _) (nH s.heap I.big);unfold Tj.«dict.__init__»;refine Qz ?_;unfold Builtin.Dict.selfAndRest;refine Qz (Wa gn.typeIs ?_);show QU _ _ (pure (s.heap.objs.size,[Q9 l])) _ _ _;refine QI ?_;show QU _ _ (Builtin.Dict.updateFrom "dict.__init__" s.heap.objs.size (.ref l) [] .none) _ _ _;unfold Builtin.Dict.updateFrom;refine Qz (Tf (T:="list") ⟨_,gt,rfl⟩ ?_);rw [if_pos (by decide)];refine Qz (bb_nokeysL (A:=X.A.in1.in1) (I.ok.hd hc) gt fun h1 D7 k1=>?_);have I2:Inv X pins σ (upd H s.heap.objs.size (.dT [])) { s with heap:=h1,toks:=D7 }:=I1.kept (t':=D7) fun b o e=>k1 b o e;simp only [Option.isNone_none,if_true];refine Qz (Tv ?_);obtain ⟨od,es,ep,Nt,PM⟩:=id gn;have wX:s.heap.objs.size<h1.objs.size:=QT (k1 _ _ Nt);refine Qz (wpAny_pyIter_list (l:=l) (items:=its.toArray) ⟨_,k1 _ _ gt,rfl,n,rfl⟩ ?_);refine QI ⟨TL PySem.F.bb_plain_upd _,?_⟩;have Nu:l≠s.heap.objs.size:=aE el Au
 have II:Rf (PrA (upd H s.heap.objs.size (.dT []))) prs ps:=BB.P2.mp (fun x y e=>by
  obtain ⟨ka,g1,g2⟩:=e;exact ⟨ka,by rw [ai (aE g1 Au)];exact g1,by rw [ai (aE g2 Au)];exact g2⟩) xP
 have Nv:(upd H s.heap.objs.size (.dT [])) h1.objs.size=none:=I2.hok.fresh (QF _);refine oR (A:=X.A.in1) (d:=s.heap.objs.size) (it:=h1.objs.size) (l:=l) (prs:=prs) (ps:=ps) (I.ok.hd hc) (by show X.A.units+1+8<Sl;omega) hn prs.length 0 _ 0 (upd H s.heap.objs.size (.dT [])) [] (Wm _) (Q7 _) (I2.kept (t':=D7) fun b o e=>QG _ e) ab (QF _) (I2.fpOk (QF _) Nv) ⟨_,QQ _ rfl,rfl,rfl⟩ (by rw [ai Nu];exact el) II fun s' I'=>?_;rw [jj,Te] at I';exact ⟨rfl,.ref s.heap.objs.size,_,I',rfl,q _ Au⟩
end
end L2
namespace BB
open PySem L2
theorem tM {k:Nat} {A:Rr} (hr:L2.Room k A):A.units+12<Sl:=by
 have:=hr.units;omega
theorem iT {R:List Key->V->Prop}:∀ (prs f':List (List Key×V)),(∀ k v,aT f' k=some v->R k v)->(∀ p∈prs,R p.1 p.2) →
 (∀ k v,aT (bX f' prs) k=some v->R k v)/\(∀ k,((∃ v,aT f' k=some v)∨∃ p∈prs,p.1=k)->∃ v,aT (bX f' prs) k=some v)
 | [],f',h1,_=>⟨h1,fun k h=>by
   rcases h with h | ⟨p,hp,_⟩
   · exact h
   · cases hp⟩
 | p::prs,f',h1,h2=>by
   have ih:=iT (R:=R) prs (putK f' p.1 p.2) (fun k v hv=>by
    rw [gZ] at hv;by_cases e:k=p.1
    · rw [if_pos e] at hv;cases hv;rw [e];exact h2 p (Q6 ..)
    · rw [if_neg e] at hv;exact h1 k v hv) (fun x hx=>h2 x (Q1 _ hx))
   refine ⟨ih.1,fun k h=>ih.2 k ?_⟩;by_cases e:k=p.1
   · left;exact ⟨p.2,by rw [gZ,if_pos e]⟩
   · rcases h with ⟨v,hv⟩ | ⟨x,hx,Lm⟩
     · left;exact ⟨v,by rw [gZ,if_neg e];exact hv⟩
     · rcases QZ.mp hx with rfl | hx
       · exact absurd Lm.symm e
       · exact .inr ⟨x,hx,Lm⟩
end BB
namespace PySem
section
variable {prog:QR} {w:Q3} {A:Rr} {E:QE->QJ->Prop} {s:QJ}
theorem bb_zip_next0 {z TI TO i1 i2 l1 l2:QD} {k:Nat} {xs ys:Array QE} {x y a b:QE} {Q:Option QE->QJ->Prop} (D:Wj z TI TO i1 i2 l1 l2)
 (hz:VU s.heap z TI TO .none) (hTI:SO s.heap TI (.ref i1) (.ref i2)) (hTO:SO s.heap TO a b)
 (h1:s.heap.IsTupleIter i1 l1 k) (h2:s.heap.IsTupleIter i2 l2 k) (xY:s.heap.IsTuple l1 xs) (xD:s.heap.IsTuple l2 ys) (hx:xs[k]?=some x) (hy:ys[k]?=some y)
 (hQ:∀ h',VU h' z TI TO (S3 s.heap.objs.size)->SO h' TO x y->h'.IsTupleIter i1 l1 (k+1)->h'.IsTupleIter i2 l2 (k+1)->SO h' s.heap.objs.size x y->h'.objs.size=s.heap.objs.size+1 →
  (∀ c o,c≠z->c≠TO->c≠i1->c≠i2->s.heap.get? c=some o->h'.get? c=some o)->Q (some (.ref s.heap.objs.size)) { s with heap:=h' }) :
 QU (Ra prog w) A (TJ (.ref z)) Q E s:=by
 have hT:s.TypeIs (.ref z) "zip":=⟨_,hz,rfl⟩;unfold TJ;refine Qz (TH (RE (name:=QK "__next__") hT Uc (RL Uc hT F.entry_zip_next ?_ (F.args_zip_next_1 _))));exact bb_zip_itemA D hz hTI hTO h1 h2 xY xD hx hy fun h' a1 a2 a3 a4 a5 a6 a7=>QI (hQ h' a1 a2 a3 a4 a5 a6 a7)
end
end PySem
namespace L2
open PySem PySem.Spec PyProof.Rows
def Itz (K:QB) (a b:QD):It:=⟨fun i H=>∃ xs ys x y,SqT K H a xs/\SqT K H b ys/\xs[i]?=some x/\ys[i]?=some y,fun i H v H'=>∃ p x y,H p=none/\v=.ref p/\H'=upd H p (.tup [x,y])/\(∀ xs,SqT K H a xs->xs[i]?=some x)/\(∀ ys,SqT K H b ys->ys[i]?=some y),fun i H=>∃ xs ys,SqT K H a xs/\SqT K H b ys/\(xs.length<=i∨ys.length<=i)⟩
structure ZTn (z TI TO i1 i2 a b:QD) (i:Nat) (h:RS):Prop where
 ap:Wj z TI TO i1 i2 a b
 zip:VU h z TI TO .none
 hTI:SO h TI (.ref i1) (.ref i2)
 hTO:∃ u v,SO h TO u v
 h1:h.IsTupleIter i1 a i
 h2:h.IsTupleIter i2 b i
theorem rA {P:QR} {w:Q3} {K:QB} {elts:List RO} {k1} {pos:US} (a b z TI TO i1 i2:QD):Turn P w K (.Tuple elts k1 pos) (Itz K a b) [z,TI,TO,i1,i2] z (ZTn z TI TO i1 i2 a b) where
 mem:=by simp
 obj:=fun i h st c hc=>by
  obtain ⟨D,hz,hTI,⟨u,v,hTO⟩,⟨o1,a1,a2,a3⟩,⟨o2,b1,b2,b3⟩⟩:=st;simp only [QZ,SM,or_false] at hc;rcases hc with rfl | rfl | rfl | rfl | rfl
  · exact ⟨_,hz,fun v z=>by cases z⟩
  · exact ⟨_,hTI,fun v z=>by cases z⟩
  · exact ⟨_,hTO,fun v z=>by cases z⟩
  · exact ⟨o1,a1,fun v z=>by rw [a3] at z;cases z⟩
  · exact ⟨o2,b1,fun v z=>by rw [b3] at z;cases z⟩
 keep:=fun i h h' st k=>by
  obtain ⟨D,hz,hTI,⟨u,v,hTO⟩,⟨o1,a1,a2⟩,⟨o2,b1,b2⟩⟩:=st;exact ⟨D,k _ (by simp) _ hz,k _ (by simp) _ hTI,⟨u,v,k _ (by simp) _ hTO⟩,⟨o1,k _ (by simp) _ a1,a2⟩,⟨o2,k _ (by simp) _ b1,b2⟩⟩
 item:=by
  intro X hP hw hK hc i pins s σ H E I hf st hg;subst hP hw hK;obtain ⟨xs,ys,x,y,Cp,Cq,hx,hy⟩:=hg;obtain ⟨ia,C3,pa,D4⟩:=I.tuple Cp;obtain ⟨ib,C4,pb,ID⟩:=I.tuple Cq;obtain ⟨u,hu,ru⟩:=C3.get hx;obtain ⟨v,hv,rv⟩:=C4.get hy;obtain ⟨D,hz,hTI,⟨ta,tb,hTO⟩,h1,h2⟩:=st
  have lt:∀ c∈[z,TI,TO,i1,i2],c<s.heap.objs.size:=fun c hc=>by
   simp only [QZ,SM,or_false] at hc;rcases hc with rfl | rfl | rfl | rfl | rfl
   · exact QT hz
   · exact QT hTI
   · exact QT hTO
   · obtain ⟨o,e,_⟩:=h1;exact QT e
   · obtain ⟨o,e,_⟩:=h2;exact QT e
  refine bb_zip_next0 D hz hTI hTO h1 h2 (show s.heap.IsTuple a ia.toArray from pa) (show s.heap.IsTuple b ib.toArray from pb) (by simpa using hu) (by simpa using hv) fun zZ a1 a2 a3 a4 a5 a6 a7=>?_;refine ⟨_,rfl,wpAny_letOwnedTupleGo_zip a1 fun zz g1 sb=>?_⟩;replace sb:Ss z zZ zz:=sb;have EN:H s.heap.objs.size=none:=I.hok.fresh (QF _)
  have IA:Inv X pins σ (upd H s.heap.objs.size (.tup [x,y])) { s with heap:=s.heap.push { cls:=.type "tuple",data:=.seq #[u,v] },toks:=s.toks } :=
   I.laid (o:=.tup [x,y]) (fun b ob q=>QG _ q) (QF _) ⟨by show 2<=QW;decide,[u,v],0,.cons ru (.cons rv .nil),QQ _ rfl⟩
  have PN:s.heap.objs.size≠z:=Ug (lt z (by simp));refine ⟨.ref s.heap.objs.size,upd H s.heap.objs.size (.tup [x,y]),?_,rfl,⟨_,x,y,EN,rfl,rfl,fun zs E3=>by rw [I.tuple_inj E3 Cp];exact hx,fun zs E3=>by rw [I.tuple_inj E3 Cq];exact hy⟩,?_,fun c hc=>?_⟩
  · have IB:Inv X pins σ (upd H s.heap.objs.size (.tup [x,y])) { s with heap:=zz,toks:=s.toks }:=by
     refine Inv.turnedL (s:={ s with heap:=s.heap.push { cls:=.type "tuple",data:=.seq #[u,v] },toks:=s.toks }) (h':=zz) (fp:=[z,TI,TO,i1,i2]) (t':=s.toks) IA (fun c o hc q=>?_) fun c hc=>?_
     · have n1:c≠z:=fun e=>hc (by simp [e]);have n2:c≠TO:=fun e=>hc (by simp [e]);have n3:c≠i1:=fun e=>hc (by simp [e]);have n4:c≠i2:=fun e=>hc (by simp [e]);rw [sb.2 c n1];by_cases xb:c=s.heap.objs.size
       · subst xb;have q':(s.heap.push { cls:=.type "tuple",data:=.seq #[u,v] }).get? s.heap.objs.size=some o:=q;rw [QQ _ rfl] at q';rw [<- q'];exact a5
       · have q':(s.heap.push { cls:=.type "tuple",data:=.seq #[u,v] }).get? c=some o:=q;rw [Heap.get?_push_ne _ _ _ xb] at q';exact a7 c o n1 n2 n3 n4 q'
     · obtain ⟨f0,f1⟩:=hf c hc;exact ⟨by rw [ai (Rh (lt c hc))];exact f0,f1⟩
    exact IB
  · have sT:∀ c o,c≠z->zZ.get? c=some o->zz.get? c=some o:=fun c o hc e=>(sb.2 c hc).trans e;refine ⟨D,g1,sT _ _ D.TIz (a7 _ _ D.TIz D.TITO D.TIi1 D.TIi2 hTI),⟨_,_,sT _ _ D.TOz a2⟩,?_,?_⟩
    · obtain ⟨o,e,r⟩:=a3;exact ⟨o,sT _ _ D.i1z e,r⟩
    · obtain ⟨o,e,r⟩:=a4;exact ⟨o,sT _ _ D.i2z e,r⟩
  · rw [ai (Rh (lt c hc))];exact (hf c hc).1
 done:=by
  intro X hP hw hK hc i pins s σ H E I hf st hg;subst hP hw hK;obtain ⟨xs,ys,Cp,Cq,y8⟩:=hg;obtain ⟨ia,C3,pa,D4⟩:=I.tuple Cp;obtain ⟨ib,C4,pb,ID⟩:=I.tuple Cq;have BF:=C3.length;have Ng:=C4.length;obtain ⟨D,hz,hTI,hTO,h1,h2⟩:=st;refine bb_zip_done (show X.A.handled=none from I.ok.hd hc) ⟨D,.inl hz,hTI,hTO,h1,h2,pa,pb⟩ ?_ fun h' kp=>⟨rfl,?_⟩
  · rcases y8 with h | h
    · exact .inl (by simp;omega)
    · exact .inr (by simp;omega)
  exact I.turnedL (fp:=[z,TI,TO,i1,i2]) (t':=s.toks) (fun c o hc q=>kp c o (fun hm=>hc (by simp only [QZ,SM,or_false] at hm ⊢;rcases hm with h | h | h | h <;> simp [h])) q) hf
 self:=fun _ _ _ _ _ st h=>wpAny_pyIter_zip st.zip h
section
variable {X:Cx} {e1 e2:RO} {t:TA} {p2 xg:US}
def v8 (K:QB) (t:TA):TI:=fun σ H R=>t σ H fun vs H1=>∃ a b,vs=[.ref a,.ref b]/\(∃ xs,SqT K H1 a xs)/\(∃ ys,SqT K H1 b ys)/\R (Itz K a b) H1
theorem qY {elts:List RO} {k1} {pos:US} (g2:Gl X "zip") (m2:X.mg "zip"=none) (ha:PA X [e1,e2] t)
 (h2:RA [e1,e2] X.env=(false,S4 e1 X.env)::RA [e2] X.env:=by rfl) (h3:(U0 xg (RA [e2] X.env)).any (·.1)=false:=by rfl):PI X (.Tuple elts k1 pos) (.Call (.Name "zip" p2) [e1,e2] [] xg) (v8 X.K t):=by
 intro pins s σ H R I h;refine Sf (cF I g2 m2 boot_zip ?_);refine Ry (thn (ha xg pins s σ H _ I h) fun us s2 ⟨vs,H2,I2,r,a,b,ev,⟨xs,Cp⟩,⟨ys,Cq⟩,q⟩=>?_) h2 h3;subst ev;obtain ⟨u1,u2,rfl,r1,r2⟩:=vals2 r;cases r1;cases r2;obtain ⟨ia,C3,pa,D4⟩:=I2.tuple Cp;obtain ⟨ib,C4,pb,ID⟩:=I2.tuple Cq;have yn:a<s2.heap.objs.size:=by obtain ⟨o,e,_⟩:=pa;exact QT e
 have y4:b<s2.heap.objs.size:=by obtain ⟨o,e,_⟩:=pb;exact QT e
 refine bb_call_zip (show s2.heap.IsTuple a ia.toArray from pa) (show s2.heap.IsTuple b ib.toArray from pb) fun h' z1 z2 z3 z4 z5 z6 z7=>?_;have D:Wj (s2.heap.objs.size+4) (s2.heap.objs.size+2) (s2.heap.objs.size+3) s2.heap.objs.size (s2.heap.objs.size+1) a b:=zipApart_new yn y4;refine wpAny_pyIter_zip (s:={ s2 with heap:=h' }) z1 ?_;refine ⟨s2.heap.objs.size+4,[s2.heap.objs.size+4,s2.heap.objs.size+2,s2.heap.objs.size+3,s2.heap.objs.size,s2.heap.objs.size+1],_,_,H2,rfl,I2.kept (t':=s2.toks) z7,rA a b _ _ _ _ _,⟨D,z1,z2,⟨_,_,z3⟩,z4,z5⟩,fun c hc=>?_,q⟩
 have xV:s2.heap.objs.size<=c:=by
  simp only [QZ,SM,or_false] at hc;rcases hc with h | h | h | h | h <;> rw [h]
  · exact S7 _ _
  · exact S7 _ _
  · exact S7 _ _
  · exact QF _
  · exact S7 _ _
 exact I2.fpOk xV (I2.hok.fresh xV)
end
end L2
namespace BB
open PySem L2
end BB
namespace BB
open PySem L2
noncomputable section
local instance:DecidableEq Th:=fun _ _=>Classical.propDecidable _
end
end BB
namespace PySem
open Sem (wp)
section
variable {prog:QR} {w:Q3} {K:Type} [DecidableEq K] {knd:HeapKind prog w K} {A:Rr} {E:QE->QJ->Prop} {s:QJ}
theorem bb_setDefault_heap {d a:QD} {xs:List (K×QD×QE)} {k:K} {v:QE} {Q:QE->QJ->Prop} (hu:knd.room A) (zt:knd.is s.heap k a) (hm:s.heap.DictOfH knd d xs)
 (C6:∀ p,Ur xs k=some p->Q p.2 { s with toks:=s.toks+knd.draws k })
 (IJ:Ur xs k=none->∀ h',h'.DictOfH knd d (VC xs k a v)->Ss d s.heap h'->Q v { s with heap:=h',toks:=s.toks+knd.draws k })
 (hsz:xs.length<=QW):QU (Ra prog w) A (dictSetDefault d (.ref a) v) Q E s:=by
 obtain ⟨o,es,ep,ho,hc,hd,he,GS,hn⟩:=hm;unfold dictSetDefault
 try with_reducible refine R1 ?_
 refine Qz (knd.pyHash hu zt ?_);refine Qz (wpAny_dictFind_heap (s:={ s with toks:=s.toks+knd.draws k }) hu zt ho hd he GS hn ?_ ?_)
 · intro AH;have IK:k∉xs.map (·.1):=not_mem_keys_of_get AH
   refine Qz (Tv (Qz (wpAny_updateDictKeys (hz:=by have e:=size_of_entries he;omega) (s:={ s with toks:=s.toks+knd.draws k }) ho hd (QI (IJ (VD AH) _ ⟨_,_,ep+1,Rn _ ho (Obj.isFreed_of_dict (Obj.data_mapDictKeys hd _)),
    hc.mapDictKeys _,Obj.data_mapDictKeys hd _,?_,?_,?_⟩ (SJ ..))))))
   · rw [storedH_new (VD AH)];simp [he,entryOfKey]
   · rw [storedH_new (VD AH)];intro x hx;rcases Rv.mp hx with hx | hx
     · exact knd.keeps (GS x hx) ho hd (SJ ..)
     · simp only [Q2] at hx;subst hx;exact knd.keeps zt ho hd (SJ ..)
   · rw [storedH_new (VD AH)];rw [QS,Vk];refine ⟨hn,by simp,?_⟩;intro x hx y hy;simp only [RD,S5,Q2] at hy;subst hy;exact fun e=>IK (e ▸ hx)
 · intro j p hj;have h1:=C6 _ (atKey_of_get hn hj);refine Qz (VB (s:={ s with toks:=s.toks+knd.draws k }) ho hd ?_);rw [entry_at he j,hj];exact Qz (Tv (QI h1))
theorem bb_meets_setdefault (knd:HeapKind prog w K) (d a:QD) (dflt:QE) (hd:(d == Sv)=false) :
 MeetsIn prog w (Tj.«dict.setdefault» ⟨[.ref d,.ref a,dflt],[]⟩) (fun A R s=>knd.room A.in1/\∃ k xs,knd.is s.heap k a/\s.heap.DictOfH knd d xs/\xs.length<=QW ∧
  (∀ p,Ur xs k=some p->R (.ok (.ret p.2)) { s with toks:=s.toks+knd.draws k }) ∧
  (Ur xs k=none->∀ h',h'.DictOfH knd d (VC xs k a dflt)->Ss d s.heap h'->R (.ok (.ret dflt)) { s with heap:=h',toks:=s.toks+knd.draws k })) :=
 .of_wp fun A R s ⟨hu,k,xs,zt,hm,hz,h1,h2⟩=>by
  unfold Tj.«dict.setdefault»;refine Qz ?_;unfold Builtin.Dict.keyAndDefault;have hT:s.TypeIs (.ref d) "dict":=hm.typeIs;refine Qz (Wa hT ?_);show QU _ _ (pure (d,Q9 a,some dflt)) _ _ s;refine QI ?_;show QU _ _ (if (d == Sv)=true then _ else (dictSetDefault d (.ref a) dflt >>= _)) _ _ s;rw [if_neg (by rw [hd];exact Q0)];exact Qz (bb_setDefault_heap hu zt hm (fun p hp=>QI ⟨_,rfl,h1 p hp⟩) (fun hn h' Cs yw=>QI ⟨_,rfl,h2 hn h' Cs yw⟩) hz)
end
end PySem
namespace L2
open PySem PySem.Spec PyProof.Rows
end L2
namespace PySem
open Sem (wp)
section
variable {prog:QR} {w:Q3} {A:Rr} {R:Result->QJ->Prop}
theorem bb_key_loop {S it d:QD} {es:Array DictEntry} {ep:Nat} {od:SQ} (hh:A.in1.handled=none) (hz:es.size<=QW) (C7:S≠it) (E4:S≠d) (GR:d≠it) (g2:od.data=.dict es ep) (res:QE) :
 ∀ (k i:Nat) (s:QJ) (acc:Array QE) (c:Nat),es.size - i=k->i<=es.size->s.heap.IsKeyIter it d i es.size ep->s.heap.get? d=some od->s.heap.get? S=some { cls:=.type "list",dict:=none,data:=.seq acc c,slots:=#[] }->acc.toList=(es.toList.take i).map (·.key) →
 (∀ h' xF c',(∀ b o,b≠S->b≠it->s.heap.get? b=some o->h'.get? b=some o)->h'.get? S=some { cls:=.type "list",dict:=none,data:=.seq xF c',slots:=#[] }->xF.toList=es.toList.map (·.key)->R (.ok (.ret res)) { s with heap:=h' }) →
 UZ (Ra prog w) A (.builtin "list.extend.loop" ⟨[.ref S,.ref it,res],[]⟩) R s:=by
 intro k;induction k with
 | zero =>
   intro i s acc c hk hi hit hd hS wR hR;have Bs:i=es.size:=by omega
   subst Bs;refine UN Vm ?_;rw [TF R9 _];show QU _ A.in1 (TJ (.ref it) >>= _) _ _ s;refine Qz (bb_keyEnd hh hit hd g2 (QF _) fun h' ym=>QI ?_);refine hR h' acc c (fun b o _ hb e=>ym b o hb e) (ym _ _ C7 hS) ?_;rw [wR,Sd (by rw [Rj];omega)]
 | succ k ih =>
   intro i s acc c hk hi hit hd hS wR hR;have wX:i<es.size:=by omega
   refine UN Vm ?_;rw [TF R9 _];show QU _ A.in1 (TJ (.ref it) >>= _) _ _ s;have hx:es[i]?=some es[i]:=SG wX
   have yn:acc.size=i:=by
    have:=congrArg U1 wR;rw [Rj,QA,Ro,Rj] at this;omega
   refine Qz (bb_keyNext hit hd g2 hx fun h' BD ym=>?_);have Ao:=(ym.2 S C7).trans hS;have yj:=(ym.2 d GR).trans hd;show QU _ A.in1 (Vs S (·.push es[i].key) >>= _) _ _ _;refine Qz ?_;have yY:∀ b o,b≠S->h'.get? b=some o->(h'.update S (RM (·.push es[i].key))).get? b=some o:=fun b o hb e=>(Ru _ _ (Sr hb)).trans e
   refine Sq Ao rfl (QI ⟨TL R9 _,ih (i+1) _ (acc.push es[i].key) _ (by omega) wX (BD.at fun o e=>yY _ _ (Sr C7) e) (yY _ _ (Sr E4) yj) (Rn _ Ao rfl) ?_ fun IC xF c' C1 C2 AV=>?_⟩)
    (by rw [yn];omega) (by show (acc.push _).size<=QW+1;rw [Array.size_push,yn];omega)
   · rw [Array.toList_push,wR,RX,QC (by rw [Rj];exact wX),QS];simp
   · exact hR IC xF c' (fun b o hb xb e=>C1 b o hb xb (yY b o hb ((ym.2 b xb).trans e))) C2 AV
end
section
variable {prog:QR} {w:Q3} {A:Rr} {E:QE->QJ->Prop} {s:QJ}
theorem bb_list_keys {d:QD} {es:Array DictEntry} {ep:Nat} {od:SQ} {Q:QE->QJ->Prop} (hh:A.in1.in1.handled=none) (ns:(d == Sv)=false) (hd:s.heap.get? d=some od) (gc:od.cls=.type "dict") (g2:od.data=.dict es ep) (hz:es.size<=QW)
 (hQ:∀ h' acc c,(∀ b o,s.heap.get? b=some o->h'.get? b=some o)->h'.get? s.heap.objs.size=some { cls:=.type "list",dict:=none,data:=.seq acc c,slots:=#[] }->acc.toList=es.toList.map (·.key)->Q (.ref s.heap.objs.size) { s with heap:=h' }) :
 QU (Ra prog w) A (call (.type "list") [.ref d]) Q E s:=by
 have Av:=QT hd;have E4:s.heap.objs.size≠d:=Ug Av
 refine Wi (Q₁:=fun obj wI=>obj=.ref s.heap.objs.size/\wI={ s with heap:=s.heap.push { cls:=.type "list",data:=.seq #[] } }) F.called_list (F.typeCall_list_1 _) F.entry_list_init
  (code_list_new _ ⟨rfl,rfl⟩) fun obj wI wW=>?_
 obtain ⟨rfl,rfl⟩:=wW;have hS:(s.heap.push { cls:=.type "list",data:=.seq #[] }).get? s.heap.objs.size=some { cls:=.type "list",data:=.seq #[] }:=QQ _ rfl;refine ⟨⟨_,hS,rfl⟩,F.args_list_init_2 _ _,?_⟩;show QU _ A.in1.in1 (do let old ← Ti (.ref s.heap.objs.size);VW (.ref s.heap.objs.size) (fun _=>#[]);letGo old.toList.reverse;SF (.ref s.heap.objs.size) (.ref d) .none) _ _ _;refine Qz ?_;unfold Ti;refine Qz (RZ hS rfl (QI ?_));refine Qz (Sq hS rfl ?_);have xQ:=Rn (RM (fun _=>(#[]:Array QE))) hS rfl;refine Qz (VA ?_);have zX:((s.heap.push { cls:=.type "list",data:=.seq #[] }).update s.heap.objs.size (RM (fun _=>(#[]:Array QE)))).objs.size=s.heap.objs.size+1:=by rw [U8,RR]
 generalize hH:(s.heap.push { cls:=.type "list",data:=.seq #[] }).update s.heap.objs.size (RM (fun _=>(#[]:Array QE)))=H2 at xQ zX ⊢
 have old:∀ b o,s.heap.get? b=some o->H2.get? b=some o:=fun b o e=>by
  rw [<- hH,Ru _ _ (Sr (Rh (QT e)))];exact QG _ e
 obtain ⟨c2,BE⟩:∃ c,H2.get? s.heap.objs.size=some { cls:=.type "list",data:=.seq #[] c }:=⟨_,xQ⟩;have hd2:=old _ _ hd;have EX:({ s with heap:=H2 }:QJ).TypeIs (.ref d) "dict":=⟨_,hd2,gc⟩;unfold SF;refine Qz (Tf EX ?_);have h1:SX (.ref s.heap.objs.size) (.ref d)=false:=by simp [SX,E4]
 have h2:(S6 "dict" == S6 "list")=false:=by decide
 have h3:(S6 "dict" == S6 "tuple")=false:=by decide
 simp only [h1,h2,h3,V9,RQ,if_false];refine Qz (bb_keyIter (s:={ s with heap:=H2 }) ns hd2 gc g2 ?_);refine Qz (R1 ?_);have C8:(H2.push { cls:=.type "dict_keyiterator",data:=.fields #[.ref d,.int 0 0,.int es.size 0,.int ep 0] }).IsKeyIter H2.objs.size d 0 es.size ep:=⟨_,QQ _ rfl,rfl,rfl⟩;have GU:∀ b o,H2.get? b=some o->(H2.push { cls:=.type "dict_keyiterator",data:=.fields #[.ref d,.int 0 0,.int es.size 0,.int ep 0] }).get? b=some o:=fun b o e=>QG _ e;have E5:s.heap.objs.size≠H2.objs.size:=by rw [zX];omega
 have IL:d≠H2.objs.size:=by rw [zX];exact Rh (UK Av)
 show QU _ _ _ _ _ ({ s with heap:=H2.push { cls:=.type "dict_keyiterator",data:=.fields #[.ref d,.int 0 0,.int es.size 0,.int ep 0] } }:QJ);generalize H2.push { cls:=.type "dict_keyiterator",data:=.fields #[.ref d,.int 0 0,.int es.size 0,.int ep 0] }=H3 at C8 GU ⊢;have Ln:=GU _ _ hd2;have IM:=GU _ _ BE;have IP:({ s with heap:=H3 }:QJ).TypeIs (.ref d) "dict":=⟨_,Ln,gc⟩
 have key:∀ (h:RS) (c₁:Nat),h.IsKeyIter H2.objs.size d 0 es.size ep->(∀ b o,b≠s.heap.objs.size->H3.get? b=some o->h.get? b=some o)->h.get? s.heap.objs.size=some { cls:=.type "list",data:=.seq #[] c₁ } →
  UZ (Ra prog w) A.in1 (.builtin "list.extend.loop" ⟨[.ref s.heap.objs.size,.ref H2.objs.size,.none],[]⟩) (wants (fun r xo=>r=.none/\Q (.ref s.heap.objs.size) xo) E) { s with heap:=h }:=by
  intro h c₁ hit hk yW;refine bb_key_loop hh hz E5 E4 IL g2 .none es.size 0 _ #[] c₁ rfl (Q7 _) hit (hk _ _ (Sr E4) Ln) yW rfl fun h' xF c' hm Ao wR=>?_;refine ⟨rfl,hQ h' xF c' (fun b o e=>?_) Ao wR⟩;have hb:=Rh (QT e);exact hm b o hb (by rw [zX];exact Rh (UK (QT e))) (hk b o hb (GU b o (old b o e)))
 unfold Tg;refine Qz (Sa IP F.slot_dict_len.lookup ?_);generalize hid:("dict.__len__":String)=CW
 wp_delta
 rw [show splitId CW=some ("dict","__len__") from by subst hid;decide +kernel];subst hid;refine Qz (Tn (T:="dict") (b:=true) IP (by rw [TQ];kernel_rfl) ?_);refine V3 (fun yp=>absurd yp (by decide)) (fun _=>?_);refine V3 (fun _=>?_) (fun yp=>absurd (by decide +kernel) yp);refine Qz (Tf IP ?_);refine QI ?_;refine V3 (fun _=>?_) (fun _=>QI ⟨TL R9 _,key _ c2 C8 (fun b o _ e=>e) IM⟩);refine Qz (Tv ?_);refine Qz ?_;show QU _ _ (Vs s.heap.objs.size (·.push .none) >>= fun _=>Vs s.heap.objs.size (·.pop)) _ _ _;refine Qz (Sq IM rfl ?_);have xR:=Rn (RM (·.push R4)) IM rfl;refine Sq (hz:=by seq_fits) xR rfl ?_;have yX:=Rn (RM (·.pop)) xR rfl
 have yY:∀ b o,b≠s.heap.objs.size->H3.get? b=some o->((H3.update s.heap.objs.size (RM (·.push R4))).update s.heap.objs.size (RM (·.pop))).get? b=some o :=
  fun b o hb e=>(Ru _ _ (Sr hb)).trans ((Ru _ _ (Sr hb)).trans e)
 exact QI ⟨TL R9 _,key _ _ (C8.at fun o e=>yY _ _ (Sr E5) e) yY yX⟩
end
end PySem
namespace L2
open PySem PySem.Spec PyProof.Rows
end L2
namespace L2
open PySem PySem.Spec PyProof.Rows BB
theorem wF {H:Hp} {es:List Dv} {ws:List V} {its:List QE} (r1:Vals ws its) (xA:DAts H es ws) (j:Nat) (z:QE) (hz:its[j]?=some z):∃ e y',es[j]?=some e/\DAt H e y'/\RelV y' z:=by
 have hj:j<its.length:=(QL.mp hz).1;have l1:=r1.length;have l2:=xA.length;have D5:j<es.length:=by omega
 obtain ⟨y',zV,dy⟩:=xA.at (QC D5);obtain ⟨v',xG,zA⟩:=r1.get zV;rw [hz] at xG;cases xG;exact ⟨_,y',QC D5,dy,zA⟩
theorem vn {H:Hp} {z:QE} {e e':Dv} {y' AX:V} (h1:DAt H e y') (h2:RelV y' z) (h3:DAt H e' AX) (h4:RelV AX z):e=e':=by
 have:=h2.inj h4;subst this;exact h1.inj h3
def tG (K:QB) (B:Nat):V->List V->Hp->VK->Prop:=fun x vs H Q=>∃ (l:QD) (y:V) (ws:List V) (d:Dv) (es:List Dv) (j:Nat),x=.ref l/\vs=[y]/\SqL K H l ws/\DAt H d y/\DAts H es ws/\cC es<=B/\es[j]?=some d/\(∀ i,i<j->es[i]?≠some d)/\es.length<=100000/\Q (.int (j:Nat)) H
open Classical in
theorem qq {X:Cx} {B:Nat} (hu:X.A.units+B+4<Sl):MtM X "list.index" (tG X.K B):=by
 intro pins s σ H x vs v us Q I rx rv h;obtain ⟨l,y,ws,d,es,j,rfl,rfl,hS,hd,xA,hB,hj,AH,hz,q⟩:=h;cases rx;obtain ⟨u,rfl,ru⟩:=rv.one;obtain ⟨its,r,pl,_⟩:=I.list hS;have hlen:=r.length;have xD:=xA.length;obtain ⟨⟨cls,dd,data,sl⟩,ho,hc,n,GV⟩:=pl.isList;simp only at hc GV;subst hc GV;have BI:j<es.length:=(QL.mp hj).1
 have IQ:∀ (m:Nat) (z:QE),its[m]?=some z->∃ e y',es[m]?=some e/\DAt H e y'/\RelV y' z/\decide (∃ y',DAt H d y'/\RelV y' z)=decide (e=d):=fun m z hz=>by
  obtain ⟨e,y',he,dy,ry⟩:=wF r xA m z hz;refine ⟨e,y',he,dy,ry,?_⟩;by_cases h:e=d
  · rw [decide_eq_true h,decide_eq_true ⟨y',h ▸ dy,ry⟩]
  · rw [decide_eq_false h,decide_eq_false];rintro ⟨AX,h1,h2⟩;exact h (vn dy ry h1 h2)
 refine VY PySem.F.slot_list_index ⟨_,ho,rfl⟩ PySem.F.entry_list_index (PySem.F.args_list_index_2 _ _)
  (SeqAt.list_indexAt l its.toArray n dd sl u (fun z=>decide (∃ y',DAt H d y'/\RelV y' z)) j (by rw [QN];omega) (by omega) ?_ ?_) ⟨ho,fun y hy=>?_,⟨.int (j:Nat),H,I.tok _,⟨_,rfl⟩,q⟩⟩
 · obtain ⟨e,y',he,dy,ry,e3⟩:=IQ j (its.toArray[j]'(by rw [QN];omega)) (by simp);rw [hj] at he;cases he;rw [e3];exact decide_eq_true rfl
 · intro m hm wX;obtain ⟨e,y',he,dy,ry,e3⟩:=IQ m (its.toArray[m]'hm) (by simp);rw [e3];exact decide_eq_false fun z=>AH m wX (by rw [he,z])
 · have zV:y∈its:=by simpa using hy
   obtain ⟨m,hm⟩:=Rb.mp zV;obtain ⟨e,y',he,dy,ry,e3⟩:=IQ m y hm;rw [e3];have hq:=dX he;refine mj I _ e d (QF _) y' _ y u _ dy hd ry ru ?_;show X.A.units+1+_<Sl;omega
end L2
namespace PySem
open Sem (wp)
section
variable {prog:QR} {w:Q3} {K:Type} [DecidableEq K] (knd:HeapKind prog w K) (d:QD)
end
section
variable {prog:QR} {w:Q3} {K:Type} [DecidableEq K] {knd:HeapKind prog w K} {A:Rr} {E:QE->QJ->Prop} {s:QJ}
end
end PySem
namespace L2
open PySem PySem.Spec PyProof.Rows
end L2
namespace BB
open PySem L2
end BB
namespace BB
open PySem L2
end BB
namespace BB
open PySem L2
theorem size_pos (t:Th):0<t.size:=by cases t <;> (rw [Th.size];omega)
mutual
theorem cV:∀ t:Th,t.tall<=t.size
 | .knot n ts=>by rw [Th.tall,Th.size];have:=jb ts;omega
 | .call _ _=>by rw [Th.tall,Th.size];omega
theorem jb:∀ ts:List Th,bI ts<=ax ts
 | []=>by rw [bI,ax];omega
 | t::ts=>by rw [bI,ax];have:=cV t;have:=jb ts;omega
end
structure ue (ins outs:List (Rc×Int)) (S:Int) (m:Nat) (head:Th) (rows:List (List Th)):Prop where
 len:(rows.length:Int)=S
 row:∀ row∈rows,row.length=ins.length
 fit:∀ row∈rows,∀ (j:Nat) (t:Th) (k:Rc×Int),row[j]?=some t->ins[j]?=some k->t.FitS outs S k.2/\t.size<=m
 hdf:head.FitS outs S 1
 hdz:head.size<=m
mutual
theorem FitS.up {ks:List (Rc×Int)} {S C:Int}:∀ {t:Th},t.FitS ks 0 0->t.FitS ks S C
 | .call s c,h=>by rw [Th.FitS] at h;omega
 | .knot n ts,h=>by
   rw [Th.FitS] at h ⊢;exact ⟨h.1,FitSs.up h.2⟩
theorem FitSs.up {ks:List (Rc×Int)} {S C:Int}:∀ {ts:List Th},FitSs ks 0 0 ts->FitSs ks S C ts
 | [],_=>by rw [FitSs];trivial
 | t::ts,h=>by
   rw [FitSs] at h ⊢;exact ⟨FitS.up h.1,FitSs.up h.2⟩
end
theorem nQ {ks:List (Rc×Int)} {S C:Int}:∀ (p:List Int) (t u o:Th),t.sub p=some u->t.FitS ks S C->o.FitS ks S C->(t.put p o).FitS ks S C
 | [],t,u,o,_,_,ho=>by rw [l5];exact ho
 | i::p,t,u,o,h,ht,ho=>by
   obtain ⟨h0,w,hw,hs⟩:=lT h;rw [jz hw];cases t with
   | call a b=>rw [Th.kids] at hw;simp at hw
   | knot n ts =>
     rw [Th.kids] at hw;rw [Th.FitS] at ht;show (Th.knot n (ts.set i.toNat (w.put p o))).FitS ks S C;rw [Th.FitS,VG];refine ⟨ht.1,FitSs.of fun v hv=>?_⟩;rcases List.mem_or_eq_of_mem_set hv with hv | rfl
     · exact dY ht.2 v hv
     · exact nQ p w u o hs (dY ht.2 w (QH hw)) ho
end BB
namespace BB
open PySem L2
theorem mv {α β:Type} {F:α->β->Prop}:∀ {xs:List α} {ys:List β} {i:Nat} {x:α} {y:β},Rf F xs ys->xs[i]?=some x->ys[i]?=some y->F x y
 | _,_,_,_,_,.nil,h,_=>by simp at h
 | _,_,0,_,_,.cons r _,h,g=>by simp at h g;subst h;subst g;exact r
 | _,_,i+1,_,_,.cons _ t,h,g=>mv (i:=i) t (by simpa using h) (by simpa using g)
theorem ke {u:Th}:∀ {ts:List Th},u∈ts->u.size<=ax ts
 | [],h=>by cases h
 | t::ts,h=>by
   rw [ax];rcases QZ.mp h with rfl | h
   · omega
   · have:=ke h;omega
structure pz (ws:List Rc):Prop where
 len:ws.length=4
 low:∀ x∈ws,Low x/\x.length<=8
 inj:∀ (i j:Nat) (x:Rc),ws[i]?=some x->ws[j]?=some x->i=j
def fT (a st:Int) (j:Nat):Nat:=97+((a+5 * st * (j:Int))%26).toNat
theorem sH (a st:Int) (j:Nat):97<=fT a st j/\fT a st j<=122:=by
 unfold fT;have h1:=RT (a+5 * st * (j:Int)) (by decide:(26:Int)≠0);have h2:=RP (a+5 * st * (j:Int)) (by decide:(0:Int)<26);omega
theorem jU {a st:Int} (h1:1<=st) (h4:st<=4) {i j:Nat} (hi:i<4) (hj:j<4) (h:fT a st i=fT a st j):i=j:=by
 unfold fT at h;have e1:=RT (a+5 * st * (i:Int)) (by decide:(26:Int)≠0);have e2:=RT (a+5 * st * (j:Int)) (by decide:(26:Int)≠0);have h':(a+5 * st * (i:Int))%26=(a+5 * st * (j:Int))%26:=by omega
 clear h e1 e2;rcases (by omega:st=1∨st=2∨st=3∨st=4) with rfl | rfl | rfl | rfl <;> omega
def iq (c a st:Int) (word:Rc) (j:Nat):Rc :=
 if c=0 then ⟨#[fT a st j]⟩ else if c=1 then ⟨#[fT a st j]⟩++dr word (some 1) (some 4) else if c=2 then dr word none (some 5)++⟨#[fT a st j]⟩ else dr word none (some (2 * (j:Int)+2))
theorem mX {z:Rc} (h:z.length=8):(dr z (some 1) (some 4)).length=3:=by
 have hz:z.cps.toList.length=8:=by rw [Rj];exact h
 show (jh z.cps.toList (some 1) (some 4)).toArray.size=3;rw [QN];unfold jh;rw [show (some (1:Int))=some ((1:Nat):Int) from rfl,show (some (4:Int))=some ((4:Nat):Int) from rfl,HT.sIx_nat,HT.sIx_nat,hz,Ro,R7,hz];rfl
theorem sE {c a st:Int} {word:Rc} (hw:Low word) (hl:word.length=8) {j:Nat} (hj:j<4):Low (iq c a st word j)/\(iq c a st word j).length<=8:=by
 have ht:=sH a st j;unfold iq;split
 · exact ⟨jm ht.1 ht.2,by show 1<=8;omega⟩
 · split
   · refine ⟨mq (jm ht.1 ht.2) (lL hw _ _),?_⟩;rw [strLen_append,mX hl];show 1+3<=8;omega
   · split
     · refine ⟨mq (lL hw _ _) (jm ht.1 ht.2),?_⟩;have:=(dW (z:=word) (n:=5) (by omega)).2;rw [strLen_append];show (dr word none (some ((5:Nat):Int))).length+1<=8;omega
     · refine ⟨lL hw _ _,?_⟩;have:=(dW (z:=word) (n:=2 * j+2) (by omega)).2;have e:(2 * (j:Int)+2)=((2 * j+2:Nat):Int):=by omega
       rw [e];omega
theorem sr {c a st:Int} {word:Rc} (h1:1<=st) (h4:st<=4) (hl:word.length=8) {i j:Nat} (hi:i<4) (hj:j<4) (h:iq c a st word i=iq c a st word j):i=j:=by
 unfold iq at h;split at h
 · refine jU h1 h4 hi hj (a:=a) ?_;have h2:=congrArg (fun z:Rc=>z.cps.toList) h;simpa using h2
 · split at h
   · refine jU h1 h4 hi hj (a:=a) ?_;have h2:((#[fT a st i]:Array Nat)++(dr word (some 1) (some 4)).cps).toList=((#[fT a st j]:Array Nat)++(dr word (some 1) (some 4)).cps).toList:=congrArg (fun z:Rc=>z.cps.toList) h;rw [Uo,Uo] at h2;have h3:=List.append_cancel_right h2;simpa using h3
   · split at h
     · refine jU h1 h4 hi hj (a:=a) ?_;have h2:((dr word none (some 5)).cps++(#[fT a st i]:Array Nat)).toList=((dr word none (some 5)).cps++(#[fT a st j]:Array Nat)).toList:=congrArg (fun z:Rc=>z.cps.toList) h;rw [Uo,Uo] at h2;have h3:=List.append_cancel_left h2;simpa using h3
     · have e1:(2 * (i:Int)+2)=((2 * i+2:Nat):Int):=by omega
       have e2:(2 * (j:Int)+2)=((2 * j+2:Nat):Int):=by omega
       rw [e1,e2] at h;have l1:=(dW (z:=word) (n:=2 * i+2) (by omega)).2;have l2:=(dW (z:=word) (n:=2 * j+2) (by omega)).2;rw [h] at l1;omega
theorem jL {H:Hp}:∀ {ks:List (Rc×Int)} {as:List QD},KsAt H ks as->∀ z∈ks.zip as,z.1∈ks/\KAt H z.1 z.2
 | _,_,.nil,z,hz=>by simp at hz
 | _,_,.cons (a:=k) (b:=a) r t,z,hz=>by
   rw [TN] at hz;rcases QZ.mp hz with rfl | hz
   · exact ⟨Q6 ..,r⟩
   · obtain ⟨h1,h2⟩:=jL t z hz;exact ⟨Q1 _ h1,h2⟩
theorem oO {K:QB} {js:List (Option Nat)} {tt:TT} {te:TE} {σ:St} {H:Hp} {kr:QD} {xi:List QD} {ks:List (Rc×Int)} {fin:QD->Hp->Prop} (p:Rc×Int->Bool) (e:H kr=some (.tup (xi.map V.ref))) (yy:KsAt H ks xi) (hl:ks.length<=1000) (hp:∃ k∈ks,p k=true)
 (EL:∀ (z:Rc×Int) (ka:QD) (H2:Hp) (R:Bool->Hp->Prop),L2.Same H H2->KAt H2 z ka->R (p z) H2->tt ((cσ js σ).set 0 (some (.ref ka))) H2 R)
 (EM:∀ (ka:QD) (H2:Hp) (R:VK),R (.ref ka) H2->te ((cσ js σ).set 0 (some (.ref ka))) H2 R)
 (q:∀ (D:QD) (bs:List ((Rc×Int)×QD)) (H':Hp),H D=none->H'=upd H D (.lst (bs.map fun z=>V.ref z.2))->1<=bs.length->bs.length<=ks.length->(∀ z∈bs,z.1∈ks/\p z.1=true/\KAt H z.1 z.2)->fin D H') :
 ∀ D,H D=none->∃ (n:Nat) (W:Nat->Hp->Prop),W 0 (upd H D (.lst []))/\fV js (aI 0) tt te σ (Itt K kr) D n W fun H'=>fin D H':=by
 have xT:ks.length=xi.length:=QP yy;have Lo:(ks.zip xi).length=ks.length:=by rw [UC];omega
 have D4:∀ (i:Nat) (x:V) (z:(Rc×Int)×QD),(xi.map V.ref)[i]?=some x->(ks.zip xi)[i]?=some z->x=.ref z.2:=fun i x z hx hz=>by
  obtain ⟨ka,rfl,xN⟩:=bc hx;obtain ⟨h1,h2⟩:=To.mp hz;rw [xN] at h2;cases h2;rfl
 refine nR (ks.zip xi) (fun z=>p z.1) (fun z=>.ref z.2) (SqT.of e) (by rw [Lo,QA];exact xT) (by rw [QA];omega) (fun i x z H2 R hx hz sm r=>?_) (fun i x z H2 R hx hz _ sm r=>?_) (fun D hD=>?_)
 · rw [D4 i x z hx hz];have:=(jL yy z (QH hz)).2;exact EL z.1 z.2 H2 R sm (sm _ _ this) r
 · rw [D4 i x z hx hz];exact EM z.2 H2 R r
 · refine q D _ _ hD rfl ?_ ?_ ?_
   · obtain ⟨k,hk,Nw⟩:=hp;obtain ⟨i,hi,rfl⟩:=List.getElem_of_mem hk;have hz:(ks.zip xi)[i]'(by omega)∈(ks.zip xi).filter fun z=>p z.1:=Tq.mpr ⟨UT _,by rw [List.getElem_zip];exact Nw⟩;exact List.length_pos_of_mem hz
   · exact Sn (T1 _ _) (by omega)
   · intro z hz;obtain ⟨h1,h2⟩:=Tq.mp hz;obtain ⟨h3,h4⟩:=jL yy z h1;exact ⟨h3,h2,h4⟩
end BB
namespace BB
open PySem L2 PySem.Builtin PySem.Builtin.Str
end BB
namespace L2
open PySem PySem.Spec PySem.Calls PyProof.Rows BB
section
variable {X:Cx} {pins:List (QD×SQ)} {σ:List (Option V)} {H:Hp} {s:QJ}
end
end L2
namespace L2
open PySem PySem.Spec PySem.Calls PyProof.Rows PySem.Builtin PySem.Builtin.Str BB
variable {X:Cx}
end L2
namespace BB
open PySem L2
end BB
namespace BB
open PySem L2
section
variable {H H':Hp} {t:Th} {a:QD} {ts:List Th} {es:List QD}
end
end BB
namespace L2
open PySem PySem.Spec PyProof.Rows BB
variable {X:Cx}
end L2
namespace L2
open PySem PySem.Spec PyProof.Rows PySem.W
end L2
namespace L2
open PySem PySem.Spec PyProof.Rows BB
variable {X:Cx}
end L2
namespace L2
open PySem PySem.Spec PySem.Calls PyProof.Rows PySem.W
end L2
namespace BB
open PySem L2 PySem.Builtin PySem.Builtin.Str
end BB
namespace L2
open PySem PySem.Spec PySem.Calls PyProof.Rows PySem.Builtin PySem.Builtin.Str BB
variable {X:Cx}
end L2
namespace L2
open PySem PySem.Spec PyProof.Rows
end L2
namespace BB
open PySem L2
end BB
namespace L2
open PySem PySem.Spec PyProof.Rows
end L2
namespace L2
open PySem PySem.Spec PySem.Calls PyProof.Rows
section
variable {X:Cx} {CX:CXT} {k i:Nat} {E:XK} {x:Rc} {p pos:US} {e:RO} {es:List RO} {t:TA}
end
section
variable {X:Cx} {k:Nat} {f:QD} {fd:Ua} {ps:List Rc} {sp:Sp} {x:Rc} {p pos:US} {e:RO} {es:List RO} {t:TA}
end
end L2
namespace L2
open PySem PySem.Spec PyProof.Rows
end L2
namespace L2
open PySem PySem.Spec PyProof.Rows
end L2
namespace BB
open PySem L2
theorem fK (f:Int->Int->Th):∀ ts:List Th,fills f ts=ts.map (·.fill f)
 | []=>rfl
 | t::ts=>by rw [fills,fK f ts];rfl
def rowOf (rows:List (List Th)) (s:Int):List Th:=rows.getD s.toNat []
section
variable {head:Th} {rows:List (List Th)}
end
end BB
namespace L2
open PySem PySem.Spec PySem.SeqAt PyProof.Rows
theorem jH {α:Type} [DecidableEq α] {s:QJ} {A:Rr} {a b:QD} {its wL:List QE} {ds es:List α} (p1:s.heap.IsTuple a its.toArray) (p2:s.heap.IsTuple b wL.toArray) (l1:its.length=ds.length) (l2:wL.length=es.length) (hu:A.units<Sl)
 (ih:∀ (j:Nat) (d e:α) (u v:QE),ds[j]?=some d->es[j]?=some e->its[j]?=some u->wL[j]?=some v->EqAt A.in1 s u v (decide (d=e))):RcAt A s (.ref a) (.ref b) (decide (ds=es)):=by
 have AW:RcAt A s (.ref a) (.ref b) ((Rl (min its.toArray.size wL.toArray.size)).all (fun j=>decide (ds[j]?=es[j]?)) && its.toArray.size == wL.toArray.size):=by
  refine RcAt.tuples p1 p2 hu fun j h1 h2=>?_;have zZ:j<ds.length:=by rw [<- l1];simpa using h1
  have zz:j<es.length:=by rw [<- l2];simpa using h2
  have e1:ds[j]?=some ds[j]:=QC zZ;have e2:es[j]?=some es[j]:=QC zz;have e3:decide (ds[j]?=es[j]?)=decide (ds[j]=es[j]):=by rw [e1,e2];simp
  have g1:its[j]?=some its[j]:=QC (by rw [l1];exact zZ);have g2:wL[j]?=some wL[j]:=QC (by rw [l2];exact zz);rw [e3];exact ih j ds[j] es[j] its[j] wL[j] e1 e2 g1 g2
 have e:decide (ds=es)=((Rl (min its.toArray.size wL.toArray.size)).all (fun j=>decide (ds[j]?=es[j]?)) && its.toArray.size == wL.toArray.size):=by
  rw [QN,QN,l1,l2];by_cases h:ds=es
  · subst h;rw [decide_eq_true rfl];symm;simp
  · rw [decide_eq_false h];symm;by_cases hl:ds.length=es.length
    · rw [hl,Wo]
      have:¬ ((Rl es.length).all (fun j=>decide (ds[j]?=es[j]?)))=true:=by
       intro z;apply h;apply Vl;intro j;by_cases hj:j<es.length
       · exact of_decide_eq_true (Tb.mp z j (TC.mpr hj))
       · rw [Su (by omega),Su (by omega)]
      rw [Sh.mpr this];rfl
    · have:(ds.length == es.length)=false:=by simpa using hl
      rw [this,Vg]
 rw [e];exact AW
theorem nT {A:Rr} {s:QJ} {k l:Key} {u v:QE} (hu:fZ k u=true) (hv:fZ l v=true):EqAt A s u v (decide (k=l)):=by
 rcases aZ hu with ⟨i,t,rfl,rfl⟩ | ⟨x,t,rfl,rfl⟩
 · rcases aZ hv with ⟨j,t',rfl,rfl⟩ | ⟨y,t',rfl,rfl⟩
   · have:decide ((Rk i:Key)=Rk j)=(i == j):=by
      by_cases h:i=j
      · subst h;simp
      · rw [decide_eq_false (fun z=>h (UH z)),beq_eq_false_iff_ne.mpr h]
     rw [this];exact EqAt.int_int i t j t'
   · rw [decide_eq_false (fun z=>nomatch z)];exact EqAt.int_str i t y t'
 · rcases aZ hv with ⟨j,t',rfl,rfl⟩ | ⟨y,t',rfl,rfl⟩
   · rw [decide_eq_false (fun z=>nomatch z)];exact EqAt.str_int x t j t'
   · have:decide ((Ud x:Key)=Ud y)=(x == y):=by
      by_cases h:x=y
      · subst h;simp
      · rw [decide_eq_false (fun z=>h (Sum.inr.inj z)),beq_eq_false_iff_ne.mpr h]
     rw [this];exact EqAt.str_str x t y t'
theorem iB {P:QR} {w:Q3}:∀ {ks:List Key} {vs:List QE} {j:Nat} {k:Key} {v:QE},ItemsAre (aB P w) ks vs->ks[j]?=some k->vs[j]?=some v->fZ k v=true
 | _,_,0,k,v,.cons h _,e1,e2=>by cases e1;cases e2;exact h
 | _,_,j+1,k,v,.cons _ h,e1,e2=>iB (j:=j) h e1 e2
theorem qy {P:QR} {w:Q3} {A:Rr} {s:QJ} {x y:List Key} {a b:QD} (hx:IsTupleKey (aB P w) s.heap x a) (hy:IsTupleKey (aB P w) s.heap y b) (hu:A.units<Sl):EqAt A s (.ref a) (.ref b) (decide (x=y)):=by
 by_cases yp:a=b
 · subst yp;obtain rfl:=hx.inj hy;rw [decide_eq_true rfl];exact EqAt.same _
 · obtain ⟨o,its,n,ho,hc,hd,hi⟩:=hx;obtain ⟨o',its',n',yC,xV,yj,xJ⟩:=hy;have p1:s.heap.IsTuple a its.toList.toArray:=⟨o,ho,hc,n,by rw [hd]⟩;have p2:s.heap.IsTuple b its'.toList.toArray:=⟨o',yC,xV,n',by rw [yj]⟩;have:=jH (ds:=x) (es:=y) p1 p2 hi.length.symm xJ.length.symm hu fun j d e u v e1 e2 e3 e4=>nT (A:=A.in1) (s:=s) (iB hi e1 e3) (iB xJ e2 e4);exact EqAt.of_refs yp this
abbrev az:=List Key×Key
theorem ox {P:QR} {w:Q3} {A:Rr} {E:QE->QJ->Prop} {s:QJ} {m:Nat} {ks:List Key} {a:QD} {Q:Bool->QJ->Prop} (hk:IsTupleKey (aB P w) s.heap ks a) (h:Q true s):QU (Ra P w) A (eqIsQuiet (m+1) (.ref a)) Q E s:=by
 have hT:=hk.typeIs;obtain ⟨o,items,n,ho,_,hd,hi⟩:=hk;unfold eqIsQuiet;refine Qz (Sa hT F.slot_tuple_eq.lookup ?_);show QU _ _ (isInstance (.ref a) (.type "tuple") >>= _) _ _ s;refine Qz (Tn hT isSubtype_tuple_tuple ?_);simp only [UU,RQ,if_false];refine Qz (RZ ho hd ?_);refine Qz ?_;show QU _ _ (forIn items _ _) _ _ s;rw [<- UG];refine wpAny_forIn_list _ (fun rest r s'=>r.1=none/\s'=s/\∀ v∈rest,carriedByValue v=true) _ ?_ ?_ _ _ ⟨rfl,rfl,hi.byValue⟩
 · rintro v rest r s' ⟨hr,rfl,wM⟩;rw [eqIsQuiet_byValue _ (wM v Q6)];refine Qz (QI ?_);simp only [UU,RQ,if_false];exact QI ⟨rfl,rfl,fun u yo=>wM u (Q1 _ yo)⟩
 · rintro ⟨r1,r2⟩ s' ⟨hr,rfl,_⟩;simp only at hr;subst hr;exact QI h
section
variable {X:Cx} {pins:List (QD×SQ)} {σ:St} {H:Hp} {s:QJ} {o i value:RO} {pos pos':US} {td ty tv:TE}
end
end L2
namespace BB
open PySem L2
end BB
namespace BB
open PySem L2
theorem FitSs.mem' {ks:List (Rc×Int)} {S C:Int}:∀ {ts:List Th},FitSs ks S C ts->∀ t∈ts,t.FitS ks S C
 | [],_,t,ht=>by cases ht
 | u::us,h,t,ht=>by
   rw [FitSs] at h;rcases QZ.mp ht with e | e
   · rw [e];exact h.1
   · exact FitSs.mem' h.2 t e
structure vE (ins outs:List (Rc×Int)) (S:Int) (rows:List (List Th)):Prop where
 len:(rows.length:Int)=S
 row:∀ row∈rows,row.length=ins.length/\∀ (j:Nat) (p:Th) (k:Rc×Int),row[j]?=some p->ins[j]?=some k->p.FitS outs S k.2
end BB
namespace BB
open PySem L2
end BB
namespace BB
open PySem L2
theorem qC {ins outs:List (Rc×Int)} {S:Int} {rows:List (List Th)} (ok:vE ins outs S rows) {l:Int} (h0:0<=l) (h1:l<S):∃ row,rows[l.toNat]?=some row/\rowOf rows l=row/\row.length=ins.length/\∀ t∈row,∃ C,t.FitS outs S C:=by
 have hl:=ok.len;have hs:l.toNat<rows.length:=by omega
 refine ⟨rows[l.toNat],QC hs,?_,(ok.row _ (UT hs)).1,fun t ht=>?_⟩
 · unfold rowOf;rw [List.getD,QC hs];rfl
 · obtain ⟨hlen,zB⟩:=ok.row _ (UT hs);obtain ⟨j,hj⟩:=Rb.mp ht;have BI:=(QL.mp hj).1;exact ⟨_,zB j t _ hj (QC (by omega))⟩
section
variable {ins mid outs:List (Rc×Int)} {S1 S2:Int} {AZ A':Th} {Ba Bb:List (List Th)}
end
end BB
namespace L2
open PySem PySem.Spec PySem.Calls PyProof.Rows
end L2
namespace BB
open PySem L2
end BB
namespace BB
open PySem L2
section
variable {ins mid outs:List (Rc×Int)} {S1 S2:Int} {AZ A':Th} {Ba Bb:List (List Th)} {Nx Ny Nz NA NB NC ND:Nat}
end
end BB
namespace BB
open PySem L2
theorem kG {H:Hp}:∀ {ts:List Th} {as:List QD},Rf (At H) ts as->Ats H ts as
 | _,_,.nil=>.nil
 | _,_,.cons h g=>.cons h (kG g)
end BB
namespace BB
open PySem L2
end BB
namespace L2
open PySem PySem.Spec PySem.Calls PyProof.Rows
end L2
namespace L2
open PySem PySem.Spec PySem.Calls PyProof.Rows
end L2
namespace BB
open PySem L2
end BB
namespace BB
open PySem L2
section
variable {k0 k1 k2 k3:List (Rc×Int)} {SA SB SC:Int} {a0 b0 c0:Th} {Lp Lq Lr:List (List Th)}
end
end BB
namespace BB
open PySem L2
section
variable {ins mid outs:List (Rc×Int)} {S1 S2:Int} {AZ A':Th} {Ba Bb:List (List Th)} {Nx Ny Nz NA NB NC ND:Nat}
end
end BB
namespace BB
theorem hid {G:Prop} (k:∀ F:Prop,(G->F)->F):G:=k G id
inductive Ex1 {A0:Type} (p:A0->Prop):Prop
 | mk (x0:A0) (h:p x0):Ex1 p
inductive Ex2 {A0 A1:Type} (p:A0->A1->Prop):Prop
 | mk (x0:A0) (x1:A1) (h:p x0 x1):Ex2 p
inductive Ex3 {A0 A1 A2:Type} (p:A0->A1->A2->Prop):Prop
 | mk (x0:A0) (x1:A1) (x2:A2) (h:p x0 x1 x2):Ex3 p
inductive Ex4 {A0 A1 A2 A3:Type} (p:A0->A1->A2->A3->Prop):Prop
 | mk (x0:A0) (x1:A1) (x2:A2) (x3:A3) (h:p x0 x1 x2 x3):Ex4 p
inductive Ex5 {A0 A1 A2 A3 A4:Type} (p:A0->A1->A2->A3->A4->Prop):Prop
 | mk (x0:A0) (x1:A1) (x2:A2) (x3:A3) (x4:A4) (h:p x0 x1 x2 x3 x4):Ex5 p
inductive Ex6 {A0 A1 A2 A3 A4 A5:Type} (p:A0->A1->A2->A3->A4->A5->Prop):Prop
 | mk (x0:A0) (x1:A1) (x2:A2) (x3:A3) (x4:A4) (x5:A5) (h:p x0 x1 x2 x3 x4 x5):Ex6 p
inductive Ex7 {A0 A1 A2 A3 A4 A5 A6:Type} (p:A0->A1->A2->A3->A4->A5->A6->Prop):Prop
 | mk (x0:A0) (x1:A1) (x2:A2) (x3:A3) (x4:A4) (x5:A5) (x6:A6) (h:p x0 x1 x2 x3 x4 x5 x6):Ex7 p
inductive vU {A0 A1 A2 A3 A4 A5 A6 A7 A8 A9 Lu:Type} (p:A0->A1->A2->A3->A4->A5->A6->A7->A8->A9->Lu->Prop):Prop
 | mk (x0:A0) (x1:A1) (x2:A2) (x3:A3) (x4:A4) (x5:A5) (x6:A6) (x7:A7) (x8:A8) (x9:A9) (NF:Lu) (h:p x0 x1 x2 x3 x4 x5 x6 x7 x8 x9 NF):vU p
inductive An2 (a0 a1:Prop):Prop
 | mk (h0:a0) (h1:a1):An2 a0 a1
inductive An3 (a0 a1 a2:Prop):Prop
 | mk (h0:a0) (h1:a1) (h2:a2):An3 a0 a1 a2
inductive An4 (a0 a1 a2 a3:Prop):Prop
 | mk (h0:a0) (h1:a1) (h2:a2) (h3:a3):An4 a0 a1 a2 a3
inductive An5 (a0 a1 a2 a3 a4:Prop):Prop
 | mk (h0:a0) (h1:a1) (h2:a2) (h3:a3) (h4:a4):An5 a0 a1 a2 a3 a4
inductive An6 (a0 a1 a2 a3 a4 a5:Prop):Prop
 | mk (h0:a0) (h1:a1) (h2:a2) (h3:a3) (h4:a4) (h5:a5):An6 a0 a1 a2 a3 a4 a5
inductive An8 (a0 a1 a2 a3 a4 a5 a6 a7:Prop):Prop
 | mk (h0:a0) (h1:a1) (h2:a2) (h3:a3) (h4:a4) (h5:a5) (h6:a6) (h7:a7):An8 a0 a1 a2 a3 a4 a5 a6 a7
inductive An9 (a0 a1 a2 a3 a4 a5 a6 a7 a8:Prop):Prop
 | mk (h0:a0) (h1:a1) (h2:a2) (h3:a3) (h4:a4) (h5:a5) (h6:a6) (h7:a7) (h8:a8):An9 a0 a1 a2 a3 a4 a5 a6 a7 a8
inductive uG (a0 a1 a2 a3 a4 a5 a6 a7 a8 a9:Prop):Prop
 | mk (h0:a0) (h1:a1) (h2:a2) (h3:a3) (h4:a4) (h5:a5) (h6:a6) (h7:a7) (h8:a8) (h9:a9):uG a0 a1 a2 a3 a4 a5 a6 a7 a8 a9
end BB
namespace L2
open PySem PySem.Spec PyProof.Rows
end L2
namespace BB
open PySem L2
section
variable {ins outs:List (Rc×Int)} {S:Int} {d:Nat} {head:Th} {rows:List (List Th)}
end
end BB
namespace L2
open PySem PySem.Spec PyProof.Rows
end L2
namespace HD
open PySem PySem.W PySem.Calls PyProof.Rows
def jk (tb:String->Option Tj) (p:QR) (w:Q3) (m:Nat) (ann:Option QE):Nat->SharedT->Thread->Option SharedT
 | 0,_,_=>none
 | n+1,s,t=>match through t with
   | true=>some s
   | false=>match stepOk m ann t with
     | false=>none
     | true=>match stepT (denote tb) p w s t with
       | some (s',t')=>jk tb p w m ann n s' t'
       | none=>none
theorem jB {tb:String->Option Tj} {p:QR} {w:Q3} {m:Nat} {ann:Option QE}:∀ {n:Nat} {s s':SharedT} {t:Thread},jk tb p w m ann n s t=some s'->topRun tb p w m ann n s.abs t=some s'.abs
 | 0,_,_,_,h=>by cases h
 | n+1,s,s',t,h=>by
   unfold jk at h;unfold topRun;cases he:through t with
   | true=>rw [he] at h;cases h;rfl
   | false =>
     rw [he] at h;cases hk:stepOk m ann t with
     | false=>rw [hk] at h;cases h
     | true =>
       rw [hk] at h;cases hs:stepT (denote tb) p w s t with
       | none=>rw [hs] at h;cases h
       | some r =>
         obtain ⟨s2,t2⟩:=r;rw [hs] at h;rw [stepT_spec hs];exact jB h
def sk:List SQ->Nat->BT->BT
 | [],_,t=>t
 | o::l,n,t=>sk l (n+1) (t.ins n o)
def tu:List SQ->Nat->BT->Bool
 | [],_,_=>true
 | o::l,n,t=>((t.ins n o).get n).isSome && tu l (n+1) (t.ins n o)
theorem lj:∀ (l:List SQ) (n:Nat) (t:BT),tu l n t=true->(sk l n t).list (n+l.length)=t.list n++l
 | [],n,t,_=>by rw [Rw];rfl
 | o::l,n,t,h=>by
   obtain ⟨h1,h2⟩:=VX.mp h;have e:=absHeap_ins (life:=default) h1
   have e2:(t.ins n o).list (n+1)=t.list n++[o]:=by
    have:=congrArg (fun x:RS=>x.objs.toList) e;simpa [absHeap,Heap.push] using this
   have ih:=lj l (n+1) (t.ins n o) h2;rw [e2,RG] at ih;rw [QM,show n+(l.length+1)=n+1+l.length by omega];exact ih
theorem uE {h:RS} (ok:tu h.objs.toList 0 .nil=true):absHeap (sk h.objs.toList 0 .nil) h.objs.size h.life=h:=by
 have e:=lj _ _ _ ok;rw [Nat.zero_add] at e;unfold absHeap;rw [<- Rj,e];rfl
noncomputable abbrev oD (p:QR) (N:Nat) (w:Q3) (os:V0):Option SharedT :=
 jk treeTable p w 11 (some (.ref 6)) N ⟨sk (Tw w.params).objs.toList 0 .nil,11,(Tw w.params).life,Array.mk [],boot_drawn,boot_toks,os⟩ (topStub p)
theorem tD (P:Params):(tu (Tw P).objs.toList 0 .nil,(Tw P).isNs Rp,(Tw P).objs.size,(Tw P).nsMap Rp "__annotations__")=(true,true,11,some (.ref 6)):=by kernel_rfl
theorem map_some {α β:Type} {o:Option α} {a:α} {f:α->β} {b:β} (h:o=some a) (e:o.map f=some b):f a=b:=by rw [h] at e;exact Q8 e
abbrev Tr0 (p q:QR) (loose:List Rc) (Xt:QJ->Bool) (N:Nat) (g0:Bool):Prop:=∀ (w:Q3) (os:V0),((oD p N w os).map fun s=>(staticsOk (V6 p.main.body) (Tw w.params) s.abs.heap && namesBound p s.abs.heap && gensDone s.abs && laidKept (Tw w.params) s.abs.heap,s.abs.heap.bltView,pinSeenD q (drecsOf q) s.abs,plainSeenD q loose s.abs,clsSeenW q loose s.abs,(s.abs.heap.accountedOkI (V6 p.main.body),s.abs.heap.isNs Rp,s.abs.heap.isNs builtinsNs,tablesOk q s.abs.heap,Xt s.abs,(if g0 then s.abs.gens.size == 0 else !leftWithCleanup s.abs.gens))))=some (true,bltViewBooted,pinGoodD (drecsOf q),plainGoodD q loose,clsGoodW q loose,(true,true,true,true,true,true))
abbrev Tr1 (p q:QR) (N:Nat):Prop:=∀ (w:Q3) (os:V0),((oD p N w os).map fun s=>seen ((recsOf q).map (·.name)) (ownsOf q) [] { s.abs with gens:=#[] })=some (expectedOf q)
abbrev Tr2 (p q:QR) (loose:List Rc) (N:Nat):Prop:=∀ (w:Q3) (os:V0),((oD p N w os).map fun s=>s.abs.heap.keysOk (looseW q loose) ((recsOf q).map (·.name)) ((litsOf q).map (·.1)) ((clssOf q (looseW q loose)).map (·.name)))=some true
abbrev Tr3 (p q:QR) (N:Nat):Prop:=∀ (w:Q3) (os:V0),((oD p N w os).map fun s=>tabsOk q s.abs)=some true
abbrev Tr4 (p q:QR) (loose:List Rc) (N:Nat):Prop:=∀ (w:Q3) (os:V0),((oD p N w os).map fun s=>plainSeenE q (looseW q loose) s.abs)=some (plainGoodE q (looseW q loose))
abbrev Tr5 (p q:QR) (N:Nat):Prop:=∀ (w:Q3) (os:V0),((oD p N w os).map fun s=>wideSeen q s.abs)=some (wideGood q)
theorem qA {p q:QR} {loose:List Rc} {Xt:QJ->Bool} {α:Type} {Yf:QJ->α} {Ya:Q3->α} {N:Nat} {g0:Bool}
 (e:opening p=plainProg p.main.scope.names) (hN:Nat.ble 600 N=true) (f:∀ s,fenceModules? p s=some s)
 (r0:Tr0 p q loose Xt N g0)
 (r1:Tr1 p q N)
 (r2:Tr2 p q loose N)
 (r3:Tr3 p q N)
 (r4:Tr4 p q loose N)
 (r5:Tr5 p q N)
 (rY:∀ (w:Q3) (os:V0),((oD p N w os).map fun s=>Yf s.abs)=some (Ya w)) :
 LeftO p q loose Xt Yf Ya N g0:=fun w=>by
 obtain ⟨⟨h,gs,d,k,os⟩,e1,e'⟩:=RJ.mp (boot_open e hN f w);obtain ⟨rfl,rfl,rfl,rfl⟩:h=Tw w.params/\gs=Array.mk []/\d=boot_drawn/\k=boot_toks:=by simpa using e'
 have GW:=tD w.params;have z0:=congrArg Prod.fst GW;have z1:=congrArg (fun x=>x.2.1) GW;have z2:=congrArg (fun x=>x.2.2.1) GW;have z3:=congrArg (fun x=>x.2.2.2) GW;dsimp only at z0 z1 z2 z3;obtain ⟨s1,C9,hY⟩:=RJ.mp (rY w os);have q0:=map_some C9 (r0 w os);have q1:=map_some C9 (r1 w os);have q2:=map_some C9 (r2 w os);have q3:=map_some C9 (r3 w os);have q4:=map_some C9 (r4 w os);have q5:=map_some C9 (r5 w os);have rr:=jB C9
 have IS:SharedT.abs ⟨sk (Tw w.params).objs.toList 0 .nil,11,(Tw w.params).life,Array.mk [],boot_drawn,boot_toks,os⟩=⟨Tw w.params,Array.mk [],boot_drawn,boot_toks,os⟩:=by
  unfold SharedT.abs;dsimp only;rw [<- z2,uE z0]
 rw [IS] at rr;have a0:=congrArg Prod.fst q0;have a1:=congrArg (fun x=>x.2.1) q0;have a2:=congrArg (fun x=>x.2.2.1) q0;have a3:=congrArg (fun x=>x.2.2.2.1) q0;have a4:=congrArg (fun x=>x.2.2.2.2.1) q0;have b0:=congrArg (fun x=>x.2.2.2.2.2.1) q0;have b1:=congrArg (fun x=>x.2.2.2.2.2.2.1) q0;have b2:=congrArg (fun x=>x.2.2.2.2.2.2.2.1) q0;have b3:=congrArg (fun x=>x.2.2.2.2.2.2.2.2.1) q0;have b4:=congrArg (fun x=>x.2.2.2.2.2.2.2.2.2.1) q0;have b5:=congrArg (fun x=>x.2.2.2.2.2.2.2.2.2.2) q0;dsimp only at a0 a1 a2 a3 a4 b0 b1 b2 b3 b4 b5
 have l2:openSeen q loose (V6 p.main.body) Xt g0 s1.abs=openGood q loose:=by
  unfold openSeen openGood;rw [q1,a1,q2,b0,b1,b2,b3,b4,b5,q3,a2,q4,a3,q5,a4];rfl
 have t:topFrom treeTable p w N ⟨Tw w.params,Array.mk [],boot_drawn,boot_toks,os⟩=some s1.abs:=by
  unfold topFrom;dsimp only;rw [z1,z2,z3,rr];show (match staticsOk (V6 p.main.body) (Tw w.params) s1.abs.heap && namesBound p s1.abs.heap && gensDone s1.abs && laidKept (Tw w.params) s1.abs.heap with | true=>_ | false=>_)=_;rw [a0]
 unfold openEnds;rw [e1];show (topFrom treeTable p w N _).map _=_;rw [t];exact congrArg some (Prod.ext l2 hY)
end HD
namespace L2
open PySem PySem.Spec PyProof.Rows
end L2
namespace L2
open PySem PySem.Spec PyProof.Rows
section
variable {X:Cx} {e:RO} {te:TE} {apos wV:US}
end
section
variable {X:Cx} {e:RO} {te:TE} {apos wV:US}
end
end L2
namespace PySem
open Sem (wp)
section
variable {prog:QR} {w:Q3} {A:Rr} {E:QE->QJ->Prop} {s:QJ} {it d:QD} {i ep:Nat} {od:SQ} {es:Array DictEntry} {ok ov:QE}
end
end PySem
namespace L2
open PySem PySem.Spec PyProof.Rows
section
variable {X:Cx} {e:RO} {te:TE} {apos wV:US}
end
end L2
namespace L2
open PySem PySem.Spec PyProof.Rows
section
variable {X:Cx} {e1 e2:RO} {t:TA} {p2 xg:US}
end
end L2
namespace L2
open PySem PySem.Spec PyProof.Rows
section
variable {X:Cx} {pins:List (QD×SQ)} {σ:St}
end
end L2
namespace BB
open PySem L2
theorem lW (pre:List Int) (n:Rc) (ts:List Th):callsOf (Th.pl pre (.knot n ts))=callsOf (pls pre 0 ts):=by
 rw [Th.pl];rfl
theorem lS (pre:List Int) (s k:Int):callsOf (Th.pl pre (.call s k))=[(pre,s,k)]:=by
 rw [Th.pl];rfl
theorem l4 (pre:List Int) (i:Int) (t:Th) (ts:List Th):callsOf (pls pre i (t::ts))=callsOf (t.pl (pre++[i]))++callsOf (pls pre (i+1) ts):=by
 rw [pls,dg]
end BB
namespace BB
open PySem L2
end BB
namespace BB
open PySem L2
theorem lm {α:Type}:∀ {l m:List α},l.Nodup->(∀ a∈l,a∈m)->l.length<=m.length
 | [],m,_,_=>Q7 _
 | a::l,m,h,hs=>by
   rw [U4] at h;obtain ⟨m1,m2,rfl⟩:=List.append_of_mem (hs a (Q6 ..))
   have:l.length<=(m1++m2).length:=lm h.2 fun b hb=>by
    rcases Rv.mp (hs b (Q1 _ hb)) with z | z
    · exact RC _ z
    · rcases QZ.mp z with z | z
      · exact absurd (z ▸ hb) h.1
      · exact Rt _ z
   rw [QX,QM] at *;rw [QM];omega
end BB
namespace L2
open PySem
theorem rg {K:QB} {a:QD} {xs:List V} {g:TG} {tb:TS} {D:Ends} {σ:St} {H:Hp} (Pv:Nat->St->Hp->Prop) (h0:Pv 0 σ H) (hl:∀ i σ H,i<=xs.length->Pv i σ H->SqT K H a xs)
 (hs:∀ i x p σ H,xs[i]?=some x->H p=none->Pv i σ H->g (.ref p) σ (upd H p (.tup [.int (i:Nat),x])) fun w9 H2=>tb { D with nx:=Pv (i+1),ct:=Pv (i+1),bk:=D.nx } w9 H2) (hd:∀ σ H,Pv xs.length σ H->D.nx σ H) :
 ∃ W:Nat->Nat->St->Hp->Prop,(∃ m,W 0 m σ H)/\∀ i m σ H,W i m σ H →
   ((Ite K a).stop i H/\D.nx σ H)∨((Ite K a).go i H/\∃ N:St->Hp->Prop,(∀ wH H',N wH H'->∃ m',m'<m/\W (i+1) m' wH H')/\∀ x H',(Ite K a).yld i H x H'->g x σ H' fun w9 H2=>tb { D with nx:=N,ct:=N,bk:=D.nx } w9 H2):=by
 refine ⟨fun i m σ H=>m=xs.length - i/\i<=xs.length/\Pv i σ H,⟨xs.length,by simp,Q7 _,h0⟩,?_⟩;rintro i m σ H ⟨rfl,hi,p⟩;have q:=hl i σ H hi p;by_cases wX:i<xs.length
 · refine .inr ⟨⟨xs,xs[i],q,by simp [wX]⟩,Pv (i+1),fun wH H' p'=>⟨xs.length - (i+1),by omega,rfl,wX,p'⟩,fun x H' y=>?_⟩;obtain ⟨pa,y,hp,rfl,rfl,hy⟩:=y;exact hs i y pa σ H (hy xs q) hp p
 · have e:i=xs.length:=by omega
   subst e;exact .inl ⟨⟨xs,q,rfl⟩,hd σ H p⟩
theorem pL {K:QB} {a b:QD} {xs ys:List V} {g:TG} {tb:TS} {D:Ends} {σ:St} {H:Hp} (PQ:xs.length=ys.length) (Pv:Nat->St->Hp->Prop) (h0:Pv 0 σ H) (hl:∀ i σ H,i<=xs.length->Pv i σ H->SqT K H a xs/\SqT K H b ys)
 (hs:∀ i x y p σ H,xs[i]?=some x->ys[i]?=some y->H p=none->Pv i σ H->g (.ref p) σ (upd H p (.tup [x,y])) fun w9 H2=>tb { D with nx:=Pv (i+1),ct:=Pv (i+1),bk:=D.nx } w9 H2) (hd:∀ σ H,Pv xs.length σ H->D.nx σ H) :
 ∃ W:Nat->Nat->St->Hp->Prop,(∃ m,W 0 m σ H)/\∀ i m σ H,W i m σ H →
   ((Itz K a b).stop i H/\D.nx σ H)∨((Itz K a b).go i H/\∃ N:St->Hp->Prop,(∀ wH H',N wH H'->∃ m',m'<m/\W (i+1) m' wH H')/\∀ x H',(Itz K a b).yld i H x H'->g x σ H' fun w9 H2=>tb { D with nx:=N,ct:=N,bk:=D.nx } w9 H2):=by
 refine ⟨fun i m σ H=>m=xs.length - i/\i<=xs.length/\Pv i σ H,⟨xs.length,by simp,Q7 _,h0⟩,?_⟩;rintro i m σ H ⟨rfl,hi,p⟩;obtain ⟨q1,q2⟩:=hl i σ H hi p;by_cases wX:i<xs.length
 · have IT:i<ys.length:=by omega
   refine .inr ⟨⟨xs,ys,xs[i],ys[i],q1,q2,by simp [wX],by simp [IT]⟩,Pv (i+1),fun wH H' p'=>⟨xs.length - (i+1),by omega,rfl,wX,p'⟩,fun x H' y=>?_⟩;obtain ⟨pa,x,y,hp,rfl,rfl,hx,hy⟩:=y;exact hs i x y pa σ H (hx xs q1) (hy ys q2) hp p
 · have e:i=xs.length:=by omega
   subst e;exact .inl ⟨⟨xs,ys,q1,q2,.inl (QF _)⟩,hd σ H p⟩
end L2
namespace BB
open PySem L2
end BB
namespace BB
open PySem L2
end BB
namespace BB
open PySem L2
section
variable {C:QD} {Dp:DP} {ins:List (Rc×Int)} {rows:List (List Th)} {head:Th} {ok:Th->Prop} {H:Hp} {L:Lv} {i:Nat} {n:Nd} {B:Lv} {Hg:Hp} {B':Lv} {sp:List (Key×V)}
end
end BB
namespace BB
open PySem L2
end BB
namespace BB
open PySem L2
end BB
namespace BB
open PySem L2
section
variable {C:QD} {Dp:DP} {ins:List (Rc×Int)} {rows:List (List Th)} {head:Th} {ok:Th->Prop} {H0:Hp} {L B:Lv} {i:Nat} {H:Hp} {L' B':Lv}
end
end BB
namespace BB
open PySem L2
end BB
namespace BB
open PySem L2
end BB
namespace BB
open PySem L2
mutual
theorem iL {ks:List (Rc×Int)} {S C:Int}:∀ (t:Th) (pre:List Int),t.FitS ks S C->∀ c∈callsOf (t.pl pre),0<=c.2.1/\c.2.1<S/\0<=c.2.2/\c.2.2<C
 | .call s k,pre,h,c,hc=>by
   rw [lS] at hc;rw [Q2.mp hc];rw [Th.FitS] at h;exact h
 | .knot n ts,pre,h,c,hc=>by
   rw [lW] at hc;rw [Th.FitS] at h;exact jA ts pre 0 h.2 c hc
theorem jA {ks:List (Rc×Int)} {S C:Int}:∀ (ts:List Th) (pre:List Int) (i:Int),FitSs ks S C ts->∀ c∈callsOf (pls pre i ts),0<=c.2.1/\c.2.1<S/\0<=c.2.2/\c.2.2<C
 | [],pre,i,_,c,hc=>by rw [pls] at hc;cases hc
 | t::ts,pre,i,h,c,hc=>by
   rw [l4] at hc;rw [FitSs] at h;rcases Rv.mp hc with hc | hc
   · exact iL t _ h.1 c hc
   · exact jA ts _ _ h.2 c hc
end
end BB
namespace BB
open PySem L2
end BB
namespace BB
open PySem L2
section
variable {ins mid outs:List (Rc×Int)} {S1 S2:Int} {AZ A':Th} {Ba Bb:List (List Th)}
end
end BB
namespace BB
open PySem L2
end BB
namespace L2
open PySem PySem.Spec PySem.SeqAt PyProof.Rows
def IsNesm (P:QR) (w:Q3) (h:RS) (k:az) (a:QD):Prop:=∃ (o:SQ) (n:Nat) (b:QD) (u:QE),h.get? a=some o/\o.cls=.type "tuple"/\o.data=.seq #[u,.ref b] n/\IsTupleKey (aB P w) h k.1 b/\fZ k.2 u=true
theorem IsNesm.typeIs {P:QR} {w:Q3} {s:QJ} {k:az} {a:QD} (x:IsNesm P w s.heap k a):s.TypeIs (.ref a) "tuple":=let ⟨o,_,_,_,ho,hc,_⟩:=x;⟨o,ho,hc⟩
theorem IsNesm.inj {P:QR} {w:Q3} {h:RS} {a:QD} {x y:az} (hx:IsNesm P w h x a) (hy:IsNesm P w h y a):x=y:=by
 obtain ⟨o,n,b,u,ho,_,hd,hb,hu⟩:=hx;obtain ⟨o',n',b',u',yC,_,yj,yk,yo⟩:=hy;obtain rfl:o=o':=Q8 (ho.symm.trans yC);rw [hd] at yj;injection yj with h1 _;have h2:=congrArg Wu h1;cases h2;exact Prod.ext (hb.inj yk) ((aB P w).inj _ _ _ hu yo)
theorem IsNesm.keeps {P:QR} {w:Q3} {h h':RS} {k:az} {a d:QD} {o:SQ} {es ep} (x:IsNesm P w h k a) (ho:h.get? d=some o) (hd:o.data=.dict es ep) (hs:Ss d h h'):IsNesm P w h' k a:=by
 obtain ⟨o',n,b,u,yC,hc,yj,hb,hu⟩:=x
 have xf:a≠d:=by
  rintro rfl;obtain rfl:o'=o:=Q8 (yC.symm.trans ho);rw [hd] at yj;exact nomatch yj
 exact ⟨o',n,b,u,(hs.2 a xf).trans yC,hc,yj,hb.keeps ho hd hs,hu⟩
theorem qj {P:QR} {w:Q3} {A:Rr} {s:QJ} {x y:az} {a b:QD} (hx:IsNesm P w s.heap x a) (hy:IsNesm P w s.heap y b) (hu:A.units+1<Sl):EqAt A s (.ref a) (.ref b) (decide (x=y)):=by
 by_cases yp:a=b
 · subst yp;obtain rfl:=hx.inj hy;rw [decide_eq_true rfl];exact EqAt.same _
 · obtain ⟨o,n,c,u,ho,hc,hd,hb,hk⟩:=hx;obtain ⟨o',n',c',u',yC,xV,yj,yk,ym⟩:=hy;have p1:s.heap.IsTuple a [u,Q9 c].toArray:=⟨o,ho,hc,n,by rw [hd]⟩;have p2:s.heap.IsTuple b [u',Q9 c'].toArray:=⟨o',yC,xV,n',by rw [yj]⟩
   have:=jH (A:=A) (ds:=[(Ud x.2:Sum (List Key) Key),Rk x.1]) (es:=[Ud y.2,Rk y.1]) p1 p2 rfl rfl (by omega) fun j d e v v' e1 e2 e3 e4=>by
    match j with
    | 0 =>
      cases e1;cases e2;cases e3;cases e4;rw [show decide ((Ud x.2:Sum (List Key) Key)=Ud y.2)=decide (x.2=y.2) from decide_eq_decide.mpr ⟨fun z=>Sum.inr.inj z,fun z=>congrArg _ z⟩];exact nT (A:=A.in1) (s:=s) hk ym
    | 1 =>
      cases e1;cases e2;cases e3;cases e4;rw [show decide ((Rk x.1:Sum (List Key) Key)=Rk y.1)=decide (x.1=y.1) from decide_eq_decide.mpr ⟨fun z=>UH z,fun z=>congrArg _ z⟩];exact qy (A:=A.in1) hb yk (show A.units+1<Sl from hu)
    | j+2=>cases e1
   refine EqAt.of_refs yp ?_
   rw [show decide (x=y)=decide ([(Ud x.2:Sum (List Key) Key),Rk x.1]=[Ud y.2,Rk y.1]) from decide_eq_decide.mpr ⟨fun z=>by rw [z],fun z=>by
    injection z with z1 z2;injection z2 with z2 _;exact Prod.ext (UH z2) (Sum.inr.inj z1)⟩]
   exact this
def jF (P:QR) (w:Q3) (k:az):Int:=reduceHash (SR [(aB P w).hash k.2,UW (aB P w) k.1])
theorem nF {P:QR} {w:Q3} {A:Rr} {E:QE->QJ->Prop} {s:QJ} {k:az} {a:QD} {Q:Int->QJ->Prop} (hu:A.units+1<Sl) (hk:IsNesm P w s.heap k a) (h:Q (jF P w k) { s with toks:=s.toks+(k.1.length+3) }) :
 QU (Ra P w) A (pyHash (.ref a)) Q E s:=by
 have hT:=hk.typeIs;obtain ⟨o,n,c,u,ho,hc,hd,hb,hk⟩:=hk;unfold pyHash
 first | unfold pyHashByItsType | skip
 first | refine Qz (wpAny_cRoomFor_or (.inr (by omega)) ?_) | skip
 refine Qz (Sa hT VI.lookup ?_);show QU _ _ (if (some (Value.builtin "tuple.__hash__") == some R4)=true then _ else _) Q E s;rw [if_neg (by rw [beq_builtin_none];exact Q0)];refine Qz (Sa hT VI.lookup ?_);show QU _ _ (callSpecialIfBoundUnlessNone? (.ref a) "__hash__" _ >>= _) Q E s;refine Qz (wpAny_callSpecialIfBoundUnlessNone?_slot hT VI (RL VI hT F.entry_tuple_hash ?_ (F.args_tuple_hash_1 _)));show QU _ _ (Ux (.ref a) >>= _) _ _ s;refine Qz (wpAny_tupleItemsOf ho hd ?_);refine Qz ?_;rw [<- UG]
 refine wpAny_forIn_list _
  (fun rest (b:Array Int) s'=>(rest=[u,.ref c]/\b=#[]/\s'=s)∨(rest=[.ref c]/\b=#[(aB P w).hash k.2]/\s'={ s with toks:=s.toks+1 })∨(rest=[]/\b=#[(aB P w).hash k.2,UW (aB P w) k.1]/\s'={ s with toks:=s.toks+1+(k.1.length+1) }))
  _ ?_ ?_ _ _ (.inl ⟨rfl,rfl,rfl⟩)
 · rintro x rest b s' (⟨e1,rfl,rfl⟩ | ⟨e1,rfl,rfl⟩ | ⟨e1,_⟩)
   · cases e1;refine Qz ((aB P w).pyHash hk ?_)
     first
      | exact QI (.inr (.inl ⟨rfl,rfl,rfl⟩))
      | exact Qz (QI (QI (.inr (.inl ⟨rfl,rfl,rfl⟩))))
   · cases e1;refine Qz (wpAny_pyHash_tuple (by show _<Sl;first | exact hu | omega) hb ?_)
     first
      | exact QI (.inr (.inr ⟨rfl,rfl,rfl⟩))
      | exact Qz (QI (QI (.inr (.inr ⟨rfl,rfl,rfl⟩))))
   · cases e1
 · rintro b s' (⟨e1,_⟩ | ⟨e1,_⟩ | ⟨_,rfl,rfl⟩)
   · cases e1
   · cases e1
   show QU _ _ (retInt (SR [(aB P w).hash k.2,UW (aB P w) k.1])) _ _ _;refine wpAny_ret_mkInt ?_;show QU _ _ (if (decide (-(2:Int) ^ 63<=SR [(aB P w).hash k.2,UW (aB P w) k.1]) && decide (SR [(aB P w).hash k.2,UW (aB P w) k.1]<2 ^ 63))=true then _ else _) Q E _;unfold jF reduceHash at h;by_cases hr:(decide (-(2:Int) ^ 63<=SR [(aB P w).hash k.2,UW (aB P w) k.1]) && decide (SR [(aB P w).hash k.2,UW (aB P w) k.1]<2 ^ 63))=true
   · rw [if_pos hr];rw [if_pos hr] at h;exact QI (by rw [show k.1.length+3=1+(k.1.length+2) by omega] at h;simpa [Vq] using h)
   · rw [if_neg hr];rw [if_neg hr] at h;exact Qz (Tv (QI (by rw [show k.1.length+3=1+(k.1.length+2) by omega] at h;simpa [Vq] using h)))
theorem oP {P:QR} {w:Q3} {A:Rr} {E:QE->QJ->Prop} {s:QJ} {k:az} {a:QD} {Q:Bool->QJ->Prop} (hk:IsNesm P w s.heap k a) (h:Q true s):QU (Ra P w) A (eqIsQuiet 8 (.ref a)) Q E s:=by
 have hT:=hk.typeIs;obtain ⟨o,n,c,u,ho,hc,hd,hb,hk⟩:=hk;unfold eqIsQuiet;refine Qz (Sa hT F.slot_tuple_eq.lookup ?_);show QU _ _ (isInstance (.ref a) (.type "tuple") >>= _) _ _ s;refine Qz (Tn hT isSubtype_tuple_tuple ?_);simp only [UU,RQ,if_false];refine Qz (RZ ho hd ?_);refine Qz ?_;show QU _ _ (forIn #[u,Q9 c] _ _) _ _ s;rw [<- UG];refine wpAny_forIn_list _ (fun rest r s'=>r.1=none/\s'=s/\∀ v∈rest,v=.ref c∨v=u) _ ?_ ?_ _ _ ⟨rfl,rfl,fun v hv=>by simpa [or_comm] using hv⟩
 · rintro v rest r s' ⟨hr,rfl,wM⟩;have Ct:∀ z∈rest,z=.ref c∨z=u:=fun z hz=>wM z (Q1 _ hz);rcases wM v Q6 with rfl | rfl
   · refine Qz (ox hb ?_);simp only [UU,RQ,if_false];exact QI ⟨rfl,rfl,Ct⟩
   · rw [eqIsQuiet_byValue _ ((aB P w).byValue _ _ hk)];refine Qz (QI ?_);simp only [UU,RQ,if_false];exact QI ⟨rfl,rfl,Ct⟩
 · rintro ⟨r1,r2⟩ s' ⟨hr,rfl,_⟩;simp only at hr;subst hr;exact QI h
def cf (P:QR) (w:Q3):HeapKind P w az where
 is:=IsNesm P w
 hash:=jF P w
 draws:=fun k=>k.1.length+3
 room:=fun A=>A.units+1<Sl
 inj:=fun hx hy=>hx.inj hy
 keeps:=fun x ho hd hs=>x.keeps ho hd hs
 pyHash:=fun hu hk h=>nF hu hk h
 eqBool:=fun hu hx hy h=>qj hx hy hu _ _ _ _ h
 quiet:=fun hk h=>oP hk h
def nv (P:QR) (w:Q3) (xs:List (az×QD×QE)) (a:QD) (h:RS):Prop:=∃ o es ep,h.get? a=some o/\o.ExactDict/\o.data=.dict es ep/\es.toList=xs.map (entryOfKey (cf P w))/\(xs.map (·.1)).Nodup
def MKAt (H:Hp) (k:az) (b:QD):Prop:=∃ c,H b=some (.tup [kV k.2,.ref c])/\H c=some (.tup (k.1.map kV))
abbrev KTm (H:Hp):List (az×V)->List (az×QD×QE)->Prop:=Rf fun p q=>p.1=q.1/\MKAt H q.1 q.2.1/\RelV p.2 q.2.2
def DM (P:QR) (w:Q3) (H:Hp) (a:QD) (f':List (az×V)):Prop:=f'.length<=QW/\(a == Sv)=false/\∃ xs φ,H a=some (.ext φ)/\(∀ h,φ h->nv P w xs a h)/\KTm H f' xs
theorem MKAt.mono {H H':Hp} (k:BB.KT H H') {n:az} {b:QD} (h:MKAt H n b):MKAt H' n b:=by
 obtain ⟨c,h1,h2⟩:=h;exact ⟨c,k _ _ h1,k _ _ h2⟩
theorem KTm.mono {H H':Hp} (k:BB.KT H H') {f':List (az×V)} {xs:List (az×QD×QE)} (r:KTm H f' xs):KTm H' f' xs:=Rf.mapP r fun _ _ z=>⟨z.1,z.2.1.mono k,z.2.2⟩
theorem DM.mono {P:QR} {w:Q3} {H H':Hp} (s:Same H H') {a:QD} {f':List (az×V)} (h:DM P w H a f'):DM P w H' a f':=by
 obtain ⟨z,hd,xs,φ,e,f,r⟩:=h;exact ⟨z,hd,xs,φ,s _ _ e,f,KTm.mono (BB.Same.kt s) r⟩
theorem eO {P:QR} {w:Q3} {H:Hp} {h:RS} {k:az} {b:QD} (ok:HOk P w H h) (e:MKAt H k b):IsNesm P w h k b:=by
 obtain ⟨c,h1,h2⟩:=e;obtain ⟨_,its,n,r,e1⟩:=(show ObjOk P w H h b (.tup [kV k.2,.ref c]) from ok b _ h1);cases r with
 | cons r1 r =>
 cases r with
 | cons r2 r =>
 cases r;cases r2;exact ⟨_,n,c,_,e1,rfl,rfl,gL ok h2,jG (P:=P) (w:=w) r1⟩
theorem i4 {P:QR} {w:Q3} {H:Hp} {h:RS} {a:QD} {f':List (az×V)} (ok:HOk P w H h) (e:DM P w H a f'):f'.length<=QW/\(a == Sv)=false/\∃ xs φ,H a=some (.ext φ)/\KTm H f' xs/\h.DictOfH (cf P w) a xs:=by
 obtain ⟨z,y,xs,φ,ea,f,r⟩:=e;obtain ⟨o,es,ep,h1,h2,h3,h4,h5⟩:=f h (ok a _ ea).1;refine ⟨z,y,xs,φ,ea,r,o,es,ep,h1,h2,h3,h4,fun x hx=>?_,h5⟩
 have all:∀ {l:List (az×V)} {m:List (az×QD×QE)},KTm H l m->∀ x∈m,(cf P w).is h x.1 x.2.1:=by
  intro l m q;induction q with
  | nil=>intro x hx;exact nomatch hx
  | @cons p q ps qs hq t ih =>
    intro x hx;rcases QZ.mp hx with e | hx
    · subst e;exact eO ok hq.2.1
    · exact ih x hx
 exact all r x hx
theorem KTm.val {H:Hp} {f':List (az×V)} {xs:List (az×QD×QE)} (r:KTm H f' xs) (k:az):RelO (aT f' k) ((Ur xs k).map (·.2)):=by
 induction r with
 | nil=>exact SK
 | @cons p q ps qs hq t ih =>
   by_cases e:p.1=k
   · rw [bF e];have:Ur (q::qs) k=some q.2:=by simp [Ur,Tr,<- hq.1,e]
     rw [this];exact hq.2.2
   · rw [bz e];have:Ur (q::qs) k=Ur qs k:=by simp [Ur,Tr,<- hq.1,e]
     rw [this];exact ih
theorem KTm.put {H:Hp} {f':List (az×V)} {xs:List (az×QD×QE)} (r:KTm H f' xs) (k:az) {b:QD} {y:V} {u:QE} (hb:MKAt H k b) (ry:RelV y u):KTm H (putK f' k y) (VC xs k b u):=by
 have hv:=KTm.val r k;cases e:aT f' k with
 | none =>
   rw [e] at hv
   have hn:Ur xs k=none:=by
    cases q:Ur xs k with
    | none=>rfl
    | some p=>rw [q] at hv;exact hv.elim
   rw [jP y e,storedH_new hn];exact BB.P2.append r (.cons ⟨rfl,hb,ry⟩ .nil)
 | some v0 =>
   rw [e] at hv
   obtain ⟨p,hp⟩:∃ p,Ur xs k=some p:=by
    cases q:Ur xs k with
    | none=>rw [q] at hv;exact hv.elim
    | some p=>exact ⟨p,rfl⟩
   rw [storedH_old hp];unfold putK;rw [if_pos (by rw [dq,e];rfl)]
   have all:∀ {l:List (az×V)} {m:List (az×QD×QE)},KTm H l m->KTm H (l.map fun kv=>if kv.1=k then (kv.1,y) else kv) (m.map (putAt k u)):=by
    intro l m q;induction q with
    | nil=>exact .nil
    | @cons p q ps qs hq t ih =>
      refine .cons ?_ ih;unfold putAt;dsimp only;by_cases z:p.1=k
      · rw [if_pos z,if_pos (by rw [<- hq.1];exact z)];exact ⟨hq.1,hq.2.1,ry⟩
      · rw [if_neg z,if_neg (by rw [<- hq.1];exact z)];exact hq
   exact all r
section
variable {X:Cx} {pins:List (QD×SQ)} {σ:St} {H:Hp} {s:QJ} {o i value:RO} {pos pos':US} {td ty tv:TE}
inductive rT (P:QR) (w:Q3) (x y:V) (H:Hp) (Q:VK):Prop
 | mk (a b:QD) (k:az) (f':List (az×V)) (v:V) (z0:x=.ref a) (z1:y=.ref b) (z2:DM P w H a f') (z3:MKAt H k b) (z4:aT f' k=some v) (z5:Q v H):rT P w x y H Q
def ux (P:QR) (w:Q3) (td ty:TE):TE:=fun σ H Q=>td σ H fun x H1=>ty σ H1 fun y H2=>rT P w x y H2 Q
theorem sf (hu:X.A.units+2<Sl) (ho:PE X o td) (hi:PE X i ty) (hs:u8 i):PE X (.Subscript o i pos) (ux X.prog X.w td ty):=by
 intro pins s σ H Q I h;refine p9 PySem.F.slot_dict_getitem.lookup hs (thn (ho pins s σ H _ I h) fun u s1 ⟨x,H1,I1,rx,q1⟩=>thn (hi pins s1 σ H1 _ I1 q1) fun iv s2 ⟨y,H2,I2,ry,q2⟩=>?_);obtain ⟨a,b,k,f',v,rfl,rfl,hd,hk,hv,q⟩:=q2;obtain rfl:u=Q9 a:=rx;obtain rfl:iv=Q9 b:=ry;obtain ⟨_,_,xs,φ,ea,rel,dd⟩:=i4 I2.hok hd;obtain ⟨w',hw,zU⟩:=RelO.some_of (v:=v) (o:=(Ur xs k).map (·.2)) (by rw [<- hv];exact KTm.val rel k);obtain ⟨p,hp,yH⟩:=RJ.mp hw;refine ⟨dd.typeIs,wpAny_getItem_heap (knd:=cf X.prog X.w) (show X.A.units+1+1<Sl from hu) (eO I2.hok hk) dd hp ?_⟩;rw [yH];exact ⟨v,H2,I2.tok _,zU,q⟩
inductive rb (P:QR) (w:Q3) (x y v:V) (H:Hp) (R:Hp->Prop):Prop
 | mk (a b:QD) (k:az) (f':List (az×V)) (z0:x=.ref a) (z1:y=.ref b) (z2:DM P w H a f') (z3:MKAt H k b) (z4:f'.length<QW) (z5:∀ H',(∀ c o,c≠a->H c=some o->H' c=some o)->DM P w H' a (putK f' k v)->R H'):rb P w x y v H R
def uL (P:QR) (w:Q3) (td ty tv:TE):TS:=fun D σ H=>tv σ H fun v H1=>td σ H1 fun x H2=>ty σ H2 fun y H3=>rb P w x y v H3 fun H4=>D.nx σ H4
theorem r8 (hu:X.A.units+2<Sl) (ho:PE X o td) (hi:PE X i ty) (hv:PE X value tv) (hs:swapsWith value (some (.Subscript o i pos')) pos.line X.env=pure false) :
 PS X (.Assign [.Subscript o i pos'] value pos) (uL X.prog X.w td ty tv):=by
 intro pins s σ H D I h;refine wpAny_Assign_Subscript (thn (hv pins s σ H _ I h) fun r s1 ⟨v,H1,I1,rv,q1⟩=>thn (ho pins s1 σ H1 _ I1 q1) fun u s2 ⟨x,H2,I2,rx,q2⟩=>thn (hi pins s2 σ H2 _ I2 q2) fun iv s3 ⟨y,H3,I3,ry,q3⟩=>?_) hs;obtain ⟨a,b,k,f',rfl,rfl,hd,hk,hl,q⟩:=q3;obtain rfl:u=Q9 a:=rx;obtain rfl:iv=Q9 b:=ry;obtain ⟨z,yj,xs,φ,ea,rel,dd⟩:=i4 I3.hok hd;have hz:xs.length<=QW:=by rw [<- QP rel];exact z
 have HP:(putK f' k v).length<=QW:=by have:=bM f' k v;omega
 refine wpAny_setItem_heap (knd:=cf X.prog X.w) (hsz:=hz) (show X.A.units+1+1<Sl from hu) (eO I3.hok hk) dd fun h' zY hs=>?_;obtain ⟨ob,es,ep,hq,h2,h3,h4,_,h5⟩:=zY;have ne:nv X.prog X.w (VC xs k b r) a h':=⟨ob,es,ep,hq,h2,h3,h4,h5⟩
 have I4:=fM (ob:=.ext (nv X.prog X.w (VC xs k b r) a)) (t':=s3.toks+(cf X.prog X.w).draws k) I3 (by rw [ea];exact SK) hs ⟨ob,hq⟩ ⟨ne,⟨ob,hq⟩,fun h1 h2 p kk=>by
  obtain ⟨o1,E6,E7,g1,g2⟩:=p;exact ⟨o1,E6,E7,kk _ g1,g2⟩⟩
 have kt:BB.KT H3 (upd H3 a (.ext (nv X.prog X.w (VC xs k b r) a))):=fun c ys ec=>by
  rw [ai (eX ec ea (fun z=>nomatch z))];exact ec
 exact ⟨σ,_,I4,q _ (fun c o hc e=>by rw [ai hc];exact e) ⟨HP,yj,_,_,ab,fun _ p=>p,KTm.mono kt (KTm.put rel k hk rv)⟩⟩
def u9 (P:QR) (w:Q3):TE:=fun _ H Q=>∀ p H',H p=none->Same H H'->DM P w H' p []->Q (.ref p) H'
theorem m7:PE X (.Dict [] [] pos) (u9 X.prog X.w):=fun pins s σ H Q I h=>by
 have hn:H s.heap.objs.size=none:=I.hok.fresh (QF _);have ne:nv X.prog X.w [] s.heap.objs.size (s.heap.push { cls:=.type "dict",data:=.dict #[] }):=⟨_,#[],0,QQ _ rfl,⟨rfl,rfl,rfl⟩,rfl,rfl,Vd⟩;refine wpAny_Dict_empty ⟨.ref s.heap.objs.size,_,I.laid (a:=s.heap.objs.size) (o:=.ext (nv X.prog X.w [] s.heap.objs.size)) (t':=s.toks) (fun _ _ q=>QG _ q) (QF _) ⟨ne,⟨_,QQ _ rfl⟩,fun h1 h2 p kk=>?_⟩,rfl,h _ _ hn (ad hn _) ⟨Q7 _,beq_eq_false_iff_ne.mpr (Sr (Rh I.big)),[],_,ab,fun _ p=>p,.nil⟩⟩;obtain ⟨o1,E6,E7,g1,g2⟩:=p;exact ⟨o1,E6,E7,kk _ g1,g2⟩
end
end L2
namespace L2
open PySem PySem.Spec PyProof.Rows
section
variable {X:Cx} {pins:List (QD×SQ)} {σ:St} {H:Hp} {s:QJ} {o i e f:RO} {pos apos wV:US} {td ty tx:TE}
theorem pw {f':List (az×V)} {xs:List (az×QD×QE)} (rel:KTm H f' xs) (k:az):(aT f' k).isSome=(Ur xs k).isSome:=by
 have q:=(KTm.val rel k).isSome_eq;rw [Wl] at q;exact q
inductive uf (f:Bool->Bool) (P:QR) (w:Q3) (y x:V) (H:Hp) (Q:VK):Prop
 | mk (a b:QD) (k:az) (f':List (az×V)) (z0:x=.ref a) (z1:y=.ref b) (z2:DM P w H a f') (z3:MKAt H k b) (z4:Q (.bl (f (aT f' k).isSome)) H):uf f P w y x H Q
def t9 (f:Bool->Bool) (P:QR) (w:Q3) (ty td:TE):TE:=fun σ H Q=>ty σ H fun y H1=>td σ H1 fun x H2=>uf f P w y x H2 Q
theorem sM (hu:X.A.units+2<Sl) (hi:PE X i ty) (ho:PE X o td):PC X .In i o (t9 (fun b=>b) X.prog X.w ty td):=by
 intro pins s σ H Q I h;refine thn (hi pins s σ H _ I h) fun iv s1 ⟨y,H1,I1,ry,q1⟩=>thn (ho pins s1 σ H1 _ I1 q1) fun u s2 ⟨x,H2,I2,rx,q2⟩=>?_;obtain ⟨a,b,k,f',rfl,rfl,hd,hk,q⟩:=q2;obtain rfl:u=Q9 a:=rx;obtain rfl:iv=Q9 b:=ry;obtain ⟨_,yj,xs,φ,ea,rel,dd⟩:=i4 I2.hok hd;refine wpAny_in_heap (knd:=cf X.prog X.w) (show X.A.units+1+1<Sl from hu) (eO I2.hok hk) yj dd ?_;rw [<- pw rel k];exact ⟨.bl _,H2,I2.tok _,rfl,q⟩
theorem oX (hu:X.A.units+2<Sl) (hi:PE X i ty) (ho:PE X o td):PC X .NotIn i o (t9 (fun b=>!b) X.prog X.w ty td):=by
 intro pins s σ H Q I h;refine thn (hi pins s σ H _ I h) fun iv s1 ⟨y,H1,I1,ry,q1⟩=>thn (ho pins s1 σ H1 _ I1 q1) fun u s2 ⟨x,H2,I2,rx,q2⟩=>?_;obtain ⟨a,b,k,f',rfl,rfl,hd,hk,q⟩:=q2;obtain rfl:u=Q9 a:=rx;obtain rfl:iv=Q9 b:=ry;obtain ⟨_,yj,xs,φ,ea,rel,dd⟩:=i4 I2.hok hd;refine wpAny_notIn_heap (knd:=cf X.prog X.w) (show X.A.units+1+1<Sl from hu) (eO I2.hok hk) yj dd ?_;rw [<- pw rel k];exact ⟨.bl _,H2,I2.tok _,rfl,q⟩
inductive pF (P:QR) (w:Q3) (x y z:V) (H:Hp) (Q:VK):Prop
 | mk (a b:QD) (k:az) (f':List (az×V)) (z0:x=.ref a) (z1:y=.ref b) (z2:DM P w H a f') (z3:MKAt H k b) (z4:Q ((aT f' k).getD z) H):pF P w x y z H Q
def tE (P:QR) (w:Q3) (td ty tx:TE):TE:=fun σ H Q=>td σ H fun x H1=>∃ a f',x=.ref a/\DM P w H1 a f'/\ty σ H1 fun y H2=>tx σ H2 fun z H3=>pF P w x y z H3 Q
theorem sy {a:QD} {f':List (az×V)} (I:Inv X pins σ H s) (d:DM X.prog X.w H a f'):s.TypeIs (.ref a) "dict"/\(∀ b,Q9 a=.ref b->∃ ob,s.heap.get? b=some ob/\ob.dict=none):=by
 obtain ⟨_,hd,xs,φ,_,_,dd⟩:=i4 I.hok d;refine ⟨dd.typeIs,fun b q=>?_⟩;cases q;obtain ⟨ob,_,_,h1,h2,_⟩:=dd;exact ⟨ob,h1,h2.2.1⟩
theorem qF (hu:X.A.units+2<Sl) (ho:PE X o td) (he:PE X e ty) (hf:PE X f tx) (m:M2 X o "get" apos e f wV):PE X (.Call (.Attribute o "get" apos) [e,f] [] wV) (tE X.prog X.w td ty tx):=by
 intro pins s σ H Q I h;refine wpAny_Call_method m.base m.few m.line Vt TY PySem.F.type_dict_get (thn (ho pins s σ H _ I h) fun u s1 ⟨x,H1,I1,rx,a,NG,ex,d,q1⟩=>?_);subst ex;obtain rfl:u=Q9 a:=rx;obtain ⟨t1,t2⟩:=sy I1 d;refine ⟨t1,t2,?_⟩;rw [m.trees]
 refine T6 rfl (Vf (Sg (thn (he pins s1 σ H1 _ I1 q1) fun iv s2 ⟨y,H2,I2,ry,q2⟩ =>
  Sg (thn (hf pins s2 σ H2 _ I2 q2) fun fv s3 ⟨z,H3,I3,rz,q3⟩=>SI ?_))))
 obtain ⟨a',b,k,f',NH,rfl,hd,hk,q⟩:=q3;cases NH;obtain rfl:iv=Q9 b:=ry;obtain ⟨_,yj,xs,φ,ea,rel,dd⟩:=i4 I3.hok hd;refine call_meetsIn TY dd.typeIs Vy (Vv _ _ _) (meetsH_dict_get_default (cf X.prog X.w) a b yj fv) ⟨(show X.A.units+1+1<Sl from hu),k,xs,eO I3.hok hk,dd,?_⟩;exact ⟨_,H3,I3.tok _,(KTm.val rel k).getD rz,q⟩
inductive nL (P:QR) (w:Q3) (x:V) (vs:List V) (H:Hp) (Q:VK):Prop
 | mk (a b:QD) (v:V) (k:az) (f':List (az×V)) (z0:x=.ref a) (z1:vs=[.ref b,v]) (z2:DM P w H a f') (z3:MKAt H k b) (z4:f'.length<QW)
  (z5:∀ u,aT f' k=some u->Q u H) (z6:aT f' k=none->∀ H',(∀ c o,c≠a->H c=some o->H' c=some o)->DM P w H' a (putK f' k v)->Q v H'):nL P w x vs H Q
theorem fJ (hu:X.A.units+2<Sl):MtM X "dict.setdefault" (nL X.prog X.w):=by
 intro pins s σ H x vs v us Q I rx rv h;obtain ⟨a,b,y,k,f',rfl,rfl,e,eb,l,q1,q2⟩:=h;cases rx;cases rv with
 | cons r1 rv =>
 cases rv with
 | cons r2 rv =>
 cases rv;cases r1;obtain ⟨z,hd,xs,φ,ea,rel,dd⟩:=i4 I.hok e;have hz:xs.length<=QW:=by rw [<- QP rel];exact z
 have hl:(putK f' k y).length<=QW:=by have:=bM f' k y;omega
 have hT:s.TypeIs (.ref a) "dict":=dd.typeIs;refine call_meetsIn U2 hT PySem.F.entry_dict_setdefault (PySem.F.args_dict_setdefault_3 _ _ _) (bb_meets_setdefault (cf X.prog X.w) a b _ hd) ⟨(show X.A.units+1+1<Sl from hu),k,xs,eO I.hok eb,dd,hz,fun p hp=>?_,fun hn h' zY hs=>?_⟩
 · have hr:=KTm.val rel k;rw [hp] at hr;cases hv:aT f' k with
   | none=>rw [hv] at hr;exact hr.elim
   | some u =>
     rw [hv] at hr;exact ⟨u,H,I.tok _,hr,q1 u hv⟩
 · have hr:=KTm.val rel k;rw [hn] at hr;cases hv:aT f' k with
   | some u=>rw [hv] at hr;exact hr.elim
   | none =>
     obtain ⟨ob,es,ep,hq,h2,h3,h4,_,h5⟩:=zY;have ne:nv X.prog X.w (VC xs k b _) a h':=⟨ob,es,ep,hq,h2,h3,h4,h5⟩
     have I4:=fM (t':=s.toks+(cf X.prog X.w).draws k) I (by rw [ea];exact SK) hs ⟨ob,hq⟩ (ob:=.ext (nv X.prog X.w (VC xs k b _) a)) ⟨ne,⟨ob,hq⟩,fun h1 h2 p kk=>by
      obtain ⟨o1,E6,E7,g1,g2⟩:=p;exact ⟨o1,E6,E7,kk _ g1,g2⟩⟩
     have kt:∀ ψ:RS->Prop,BB.KT H (upd H a (.ext ψ)):=fun ψ c ys ec=>by
      rw [ai (eX ec ea (fun z=>nomatch z))];exact ec
     exact ⟨y,_,I4,r2,q2 hv _ (fun c o hc e=>by rw [ai hc];exact e) ⟨hl,hd,_,_,ab,fun _ p=>p,KTm.mono (kt _) (KTm.put rel k eb r2)⟩⟩
inductive rE (P:QR) (w:Q3) (xs:List V) (H:Hp) (Q:VK):Prop
 | mk (a:QD) (f':List (az×V)) (z0:xs=[.ref a]) (z1:DM P w H a f') (z2:∀ (l:QD) (bs:List QD),H l=none->Rf (fun kv b=>MKAt H kv.1 b) f' bs->Q (.ref l) (upd H l (.lst (bs.map V.ref)))):rE P w xs H Q
theorem r6 {f':List (az×V)} {ys:List (az×QD×QE)} (rel:KTm H f' ys):Rf (fun kv b=>MKAt H kv.1 b) f' (ys.map fun y=>y.2.1):=by
 induction rel with
 | nil=>exact .nil
 | cons h t ih=>exact .cons (by rw [h.1];exact h.2.1) ih
theorem o9 (hc:X.calm=true):f7 X (.type "list") (rE X.prog X.w):=by
 intro pins s σ H xs us Q I r h;obtain ⟨a,f',rfl,e,q⟩:=h;obtain ⟨u,rfl,rx⟩:=vals1 r;cases rx;obtain ⟨z,hd,ys,φ,ea,rel,dd⟩:=i4 I.hok e;have hT:=dd.typeIs;obtain ⟨o,es,ep,ho,PR,GV,he,GS,hn⟩:=dd;obtain ⟨o',yC,zh⟩:=hT;have eo:o'=o:=Q8 (yC.symm.trans ho);subst eo;have hl:f'.length=ys.length:=QP rel
 have IU:es.toList.map (·.key)=ys.map fun y=>Q9 y.2.1:=by
  rw [he,Tx];rfl
 have hsz:es.size<=QW:=by
  have:=congrArg U1 IU;rw [QA,QA,Rj] at this;omega
 have hh:X.A.in1.in1.handled=none:=I.ok.hd hc;refine bb_list_keys hh hd yC zh GV hsz fun h' acc c hk hS wR=>?_;have hp:Rf (fun kv b=>MKAt H kv.1 b) f' (ys.map fun y=>y.2.1):=r6 rel;refine ⟨.ref s.heap.objs.size,upd H s.heap.objs.size (.lst ((ys.map fun y=>y.2.1).map V.ref)),?_,rfl,q _ _ I.fresh hp⟩;refine I.laid (t':=s.toks) hk (QF _) ⟨by rw [QA,QA];omega,acc.toList,c,?_,hS⟩;rw [wR,IU];clear hn GS he IU wR hS hl z rel hp q;induction ys with
 | nil=>exact .nil
 | cons y ys ih=>exact .cons rfl ih
def vZ (P:QR) (w:Q3) (r:V->List V->Hp->VK->Prop) (to:TE) (t:TA):TE:=fun σ H Q=>to σ H fun x H1=>(∃ a f',x=.ref a/\DM P w H1 a f')/\t σ H1 fun xs H2=>r x xs H2 Q
theorem sD {es:List RO} {to:TE} {t:TA} {name:Rc} {id:String} {r:V->List V->Hp->VK->Prop} (slot:Slot "dict" name id) (EA:typeOf (.builtin id)=pure (.type "method_descriptor")) (hm:MtR X id r) (ho:PE X o to) (ha:PA X (e::es) t)
 (yT:attributeBase o name X.env (S4 o X.env)=S4 o X.env:=by rfl)
 (CT:((U0 wV (RA (e::es) X.env)).all (fun x=>!x.1) && (backToKw wV (keywordEach [] X.env)).all (fun x=>x.1.isSome)
  && decide ((e::es).length+([]:List Keyword).length+(if ([]:List Keyword).isEmpty then 0 else 1)<30))=true:=by rfl)
 (yU:(apos.endLine == wV.line)=true:=by rfl) (hs:RA (e::es) X.env=(false,S4 e X.env)::RA es X.env:=by rfl) (zu:(U0 wV (RA es X.env)).any (·.1)=false:=by rfl) :
 PE X (.Call (.Attribute o name apos) (e::es) [] wV) (vZ X.prog X.w r to t):=by
 intro pins s σ H Q I h;refine wpAny_Call_method_late yT CT yU rfl (thn (ho pins s σ H _ I h) fun v s1 ⟨x,H1,I1,r1,⟨a,f',ex,hd⟩,q1⟩=>?_);subst ex;obtain rfl:v=Q9 a:=r1;obtain ⟨h1,h2⟩:=sy I1 hd;refine ⟨"dict",id,Vt,slot,EA,h1,h2,?_⟩;have hA:=ha wV pins s1 σ H1 _ I1 q1;rw [hs] at hA ⊢;refine T6 (by show (false || (U0 wV (RA es X.env)).any (·.1))=false;rw [zu] <;> rfl) (Vf ?_);exact thn hA fun vs s2 ⟨xs,H2,I2,rv,q2⟩=>hm pins s2 σ H2 (.ref a) xs (.ref a) vs Q I2 rfl rv q2
end
end L2
namespace BB
open PySem L2
theorem lH {K:QB} {H:Hp}:∀ {ps:List (List Int×Th)} {as:List QD},PsAtK K H ps as->∃ bs,Rf (fun (p:List Int×Th) b=>H b=some (.tup (p.1.map V.int))) ps bs/\bs.length=as.length/\∀ (i:Nat) x b,(as.map V.ref)[i]?=some x->bs[i]?=some b->∃ a ta,x=.ref a/\H a=some (.tup [.ref b,.ref ta])
 | _,_,.nil=>⟨[],.nil,rfl,fun i x b h=>by simp at h⟩
 | _,_,.cons r h=>by
   obtain ⟨pa,ta,h1,h2,_⟩:=r;obtain ⟨bs,g1,g2,g3⟩:=lH h;refine ⟨pa::bs,.cons h2 g1,by rw [QM,QM,g2],fun i x b hx hb=>?_⟩;cases i with
   | zero =>
     simp at hx hb;subst hx;subst hb;exact ⟨_,ta,rfl,h1⟩
   | succ i=>exact g3 i x b (by simpa using hx) (by simpa using hb)
theorem rS {α:Type} {F:Hp->α->QD->Prop} {js:List (Option Nat)} {g:TG} {tt:TT} {te:TE} {σ:St} {J:It} {H:Hp} {xs:List V} {fin:QD->Hp->Prop} (zs:List α) (p:α->Bool) (hF:∀ H1 H2 z p,KT H1 H2->F H1 z p->F H2 z p) (hz:zs.length=xs.length) (hn:xs.length<=1000000)
 (Aq:∀ i H2,L2.Same H H2->i<xs.length->J.go i H2) (xK:∀ H2,L2.Same H H2->J.stop xs.length H2) (yE:∀ (i:Nat) H2 x H3,L2.Same H H2->i<xs.length->J.yld i H2 x H3->H3=H2/\xs[i]?=some x)
 (hb:∀ (i:Nat) x z H2 (R:VK) (W':Hp->Prop),xs[i]?=some x->zs[i]?=some z->L2.Same H H2->(p z=true->∀ H3 q,L2.Same H2 H3->F H3 z q->R (.ref q) H3)->(p z=false->∀ H3,L2.Same H2 H3->W' H3)->g x (cσ js σ) H2 fun w9 H3=>tt w9 H3 fun b H4=>if b=true then te w9 H4 R else W' H4)
 (za:∀ D H' as,H D=none->L2.Same H H'->H' D=some (.lst (as.map V.ref))->Rf (F H') (zs.filter p) as->fin D H') :
 ∀ D,H D=none->∃ (n:Nat) (W:Nat->Hp->Prop),W 0 (upd H D (.lst []))/\fV js g tt te σ J D n W fun H'=>fin D H':=by
 intro D hD;refine ⟨xs.length,fun i H'=>i<=xs.length/\L2.Same H H'/\∃ as:List QD,H' D=some (.lst (as.map V.ref))/\Rf (F H') ((zs.take i).filter p) as,⟨Q7 _,ad hD _,[],by rw [ab];rfl,.nil⟩,?_⟩;rintro i H' ⟨hi,s1,as,e1,hp⟩;by_cases wX:i<xs.length
 · refine .inr ⟨wX,Aq i H' s1 wX,fun v H1 hy=>?_⟩;obtain ⟨e,hx⟩:=yE i H' v H1 s1 wX hy;subst e;obtain ⟨z,yP⟩:∃ z,zs[i]?=some z:=⟨_,QC (by omega)⟩;have hl:((zs.take i).filter p).length=as.length:=QP hp;have xD:=T1 p (zs.take i);rw [Ro] at xD;refine hb i v z _ _ _ hx yP s1 (fun C' H3 q s3 IG=>⟨_,s3 _ _ e1,?_,wX,ao (s1.trans s3) hD,as++[q],?_,?_⟩) (fun C' H3 s3=>⟨wX,s1.trans s3,as,s3 _ _ e1,?_⟩)
   · rw [QA];have:QW=16777216:=UQ;omega
   · rw [ab,QS];rfl
   · have kt:KT H3 (upd H3 D (.lst (as.map V.ref++[.ref q]))):=aQ (s3 _ _ e1);rw [take_snoc yP,Ve,SN,if_pos C',VH];exact P2.append (P2.mp (fun x y e=>hF _ _ _ _ ((Same.kt s3).trans kt) e) hp) (.cons (hF _ _ _ _ kt IG) .nil)
   · rw [take_snoc yP,Ve,SN,if_neg (by rw [C'];exact Q0),VH,Rw];exact P2.mp (fun x y e=>hF _ _ _ _ (Same.kt s3) e) hp
 · have xJ:i=xs.length:=by omega
   subst xJ;refine .inl ⟨xK _ s1,za D H' as hD s1 e1 ?_⟩;rw [Sd (by omega)] at hp;exact hp
def gv (ins:List (Rc×Int)):Th:=.knot (((ins.filter fun k=>decide (k.2=0))[0]?.map (·.1)).getD (QK "")) []
theorem iD {ins:List (Rc×Int)} {k:Rc×Int} (h:(ins.filter fun k=>decide (k.2=0))[0]?=some k):gv ins=.knot k.1 []:=by
 unfold gv;rw [h];rfl
theorem oq {ins:List (Rc×Int)} (g:cZ ins):∃ k,(ins.filter fun k=>decide (k.2=0))[0]?=some k/\k.2=0:=by
 obtain ⟨k,hk,hz⟩:=g.zero;have hm:k∈ins.filter fun k=>decide (k.2=0):=Tq.mpr ⟨hk,decide_eq_true hz⟩;have hl:0<(ins.filter fun k=>decide (k.2=0)).length:=List.length_pos_of_mem hm;refine ⟨_,QC hl,?_⟩;exact of_decide_eq_true (Tq.mp (UT hl)).2
def cE (ins:List (Rc×Int)):Nat:=ins.findIdx fun k=>decide (k.2=0)
theorem iR:∀ {ins:List (Rc×Int)} {k:Rc×Int},(ins.filter fun k=>decide (k.2=0))[0]?=some k->ins[cE ins]?=some k
 | [],k,h=>by simp at h
 | x::xs,k,h=>by
   unfold cE;by_cases hx:x.2=0
   · rw [SN,if_pos (decide_eq_true hx)] at h;rw [List.findIdx_cons,decide_eq_true hx];simpa using h
   · rw [SN,if_neg (by simpa using hx)] at h;rw [List.findIdx_cons,decide_eq_false hx];simpa [cE] using iR h
def MkAt (H:Hp) (ins:List (Rc×Int)) (rows:List (List Th)) (f':List (List Key×V)):Prop :=
 ∀ (s k:Nat) (row:List Th) (p:Th),k<3->rows[s]?=some row->row[cE ins]?=some p->∃ a,aT f' [Rk (s:Int),Rk (k:Int)]=some (.ref a)/\At H p a
theorem MkAt.mono {H H':Hp} (kt:KT H H') {ins:List (Rc×Int)} {rows:List (List Th)} {f':List (List Key×V)} (h:MkAt H ins rows f'):MkAt H' ins rows f':=fun s k row p hk hr hp=>by
 obtain ⟨a,h1,h2⟩:=h s k row p hk hr hp;exact ⟨a,h1,h2.mono kt⟩
theorem o5:∀ {ts:List Th} {i:Nat},(dvs ts)[i]?=(ts[i]?).map Th.dv
 | [],i=>by rw [dvs];simp
 | t::ts,0=>by rw [dvs];rfl
 | t::ts,i+1=>by rw [dvs,R8,R8];exact o5
theorem pO:∀ ts:List Th,(dvs ts).length=ts.length
 | []=>by rw [dvs];rfl
 | t::ts=>by rw [dvs,QM,QM,pO ts]
theorem mT {α:Type} {f:α->Th} {H:Hp}:∀ {zs:List α} {as:List QD},Rf (fun z a=>At H (f z) a) zs as->Ats H (zs.map f) as
 | _,_,.nil=>.nil
 | _,_,.cons r h=>.cons r (mT h)
end BB
namespace BB
open PySem L2
theorem cJ {x:List Int×Th} {pre:List Int}:∀ {ts:List Th} {i:Int},x∈pls pre i ts↔∃ (j:Nat) (t:Th),ts[j]?=some t/\x∈t.pl (pre++[i+(j:Int)])
 | [],i=>by rw [pls];simp
 | t::ts,i=>by
   rw [pls,Rv,cJ (ts:=ts) (i:=i+1)];constructor
   · rintro (h | ⟨j,u,hu,h⟩)
     · exact ⟨0,t,rfl,by simpa using h⟩
     · refine ⟨j+1,u,by simpa using hu,?_⟩;rw [show i+((j+1:Nat):Int)=i+1+(j:Int) by omega];exact h
   · rintro ⟨j,u,hu,h⟩;cases j with
     | zero =>
       simp at hu;subst hu;exact .inl (by simpa using h)
     | succ j =>
       refine .inr ⟨j,u,by simpa using hu,?_⟩;rw [show i+1+(j:Int)=i+((j+1:Nat):Int) by omega];exact h
theorem gJ {n:Rc} {ks:List Th} {pre:List Int} {j:Nat} {t:Th} (h:ks[j]?=some t) {x:List Int×Th} (hx:x∈t.pl (pre++[(j:Int)])):x∈(Th.knot n ks).pl pre:=by
 rw [Th.pl];refine Q1 _ (cJ.mpr ⟨j,t,h,?_⟩);rw [Sw];exact hx
theorem cQ (t:Th) (pre:List Int):(pre,t)∈t.pl pre:=by rw [Th.pl_eq];exact Q6 ..
theorem sL:∀ (n:Nat) (l r:Th) (pre:List Int),l.size<=n->∀ x∈(l.com r).pl pre,∃ u,(x.1,u)∈l.pl pre
 | 0,l,r,pre,hn=>by have:=l.size_pos;omega
 | n+1,.call a b,r,pre,hn=>fun x hx=>by
   rw [iQ,aF] at hx
   · rw [if_neg Q0,hole,Th.pl,pls] at hx;rw [Q2.mp hx];exact ⟨_,cQ _ _⟩
   · intro _ _ _ _ h;cases h
 | n+1,.knot m ks,r,pre,hn=>fun x hx=>by
   rw [iQ] at hx;by_cases hs:aF (.knot m ks) r=true
   · rw [if_pos hs,Th.pl] at hx;rcases QZ.mp hx with rfl | hx
     · exact ⟨_,cQ _ _⟩
     · obtain ⟨j,t,ht,hx⟩:=cJ.mp hx;rw [Sw] at hx;rw [QO,RJ] at ht;obtain ⟨p,hp,rfl⟩:=ht;obtain ⟨h1,h2⟩:=To.mp hp;rw [Th.size] at hn;have hz:p.1.size<=ax ks:=aK (QH h1);obtain ⟨u,hu⟩:=sL n p.1 p.2 _ (by omega) x hx;exact ⟨u,gJ h1 hu⟩
   · rw [if_neg hs,hole,Th.pl,pls] at hx;rw [Q2.mp hx];exact ⟨_,cQ _ _⟩
mutual
/-- a front with holes at some places -/
def Th.cut (D:List Int->Bool) (pre:List Int):Th->Th
 | .knot n ks=>if (Th.knot n ks).isHole=true∨D pre=true then hole else .knot n (cq D pre 0 ks)
 | .call _ _=>hole
def cq (D:List Int->Bool) (pre:List Int) (i:Int):List Th->List Th
 | []=>[]
 | t::ts=>t.cut D (pre++[i])::cq D pre (i+1) ts
end
theorem gP {D:List Int->Bool} {pre:List Int}:∀ {ts:List Th} {i:Int} {j:Nat},(cq D pre i ts)[j]?=(ts[j]?).map fun t=>t.cut D (pre++[i+(j:Int)])
 | [],i,j=>by rw [cq];simp
 | t::ts,i,0=>by rw [cq];simp
 | t::ts,i,j+1=>by
   rw [cq,R8,R8,gP,show i+1+(j:Int)=i+((j+1:Nat):Int) by omega]
theorem cK {D:List Int->Bool} {pre:List Int}:∀ {ts:List Th} {i:Int},(cq D pre i ts).length=ts.length
 | [],i=>by rw [cq]
 | t::ts,i=>by rw [cq,QM,QM,cK]
theorem eT:∀ {as bs:List Th},(∀ (i:Nat) (a b:Th),as[i]?=some a->bs[i]?=some b->a.lies b=true)->bC as bs=true
 | [],bs,_=>by rw [bC]
 | a::as,[],_=>by rw [bC]
 | a::as,b::bs,h=>by
   rw [bC,h 0 a b rfl rfl,eT fun i x y hx hy=>h (i+1) x y (by simpa using hx) (by simpa using hy)];rfl
theorem dO:∀ {as bs:List Th},bC as bs=true->∀ (i:Nat) (a b:Th),as[i]?=some a->bs[i]?=some b->a.lies b=true
 | [],bs,_,i,a,b,ha,_=>by simp at ha
 | x::as,[],_,i,a,b,_,hb=>by simp at hb
 | x::as,y::bs,h,i,a,b,ha,hb=>by
   rw [bC,Sy] at h;cases i with
   | zero =>
     simp at ha hb;subst ha;subst hb;exact h.1
   | succ i=>exact dO h.2 i a b (by simpa using ha) (by simpa using hb)
theorem nw {n:Rc} {ks:List Th} {r:Th} (h:aF (.knot n ks) r=true):∃ us,r=.knot n us/\ks.length=us.length/\(Th.knot n ks).isHole=false:=by
 cases r with
 | call a b=>rw [aF] at h;exact absurd h Q0;intro _ _ _ _ _ h;cases h
 | knot m us =>
   rw [aF,Sy,Sy] at h;obtain ⟨⟨h1,h2⟩,h3⟩:=h;obtain rfl:=of_decide_eq_true h2;exact ⟨us,rfl,of_decide_eq_true h3,by simpa using h1⟩
theorem gz {n:Rc} {ks us:List Th} (h1:(Th.knot n ks).isHole=false) (h2:ks.length=us.length):aF (.knot n ks) (.knot n us)=true:=by
 rw [aF,h1,decide_eq_true rfl,decide_eq_true h2];rfl
theorem lies_of {n:Rc} {ks:List Th} {r:Th} (h:(Th.knot n ks).lies r=true) (hh:(Th.knot n ks).isHole=false):∃ us,r=.knot n us/\ks.length=us.length/\bC ks us=true:=by
 rw [Th.lies,hh,Uz,Sy] at h;obtain ⟨us,rfl,hl,_⟩:=nw h.1;exact ⟨us,rfl,hl,h.2⟩
theorem ky (r:Th):hole.lies r=true:=by
 rw [hole,Th.lies];have:(Th.knot star []).isHole=true:=i8;rw [this];rfl
theorem mW {n:Rc} {ks cs:List Th} (hl:cs.length=ks.length) (h:(Th.knot n ks).isHole=false):(Th.knot n cs).isHole=false:=by
 rw [Th.isHole,decide_eq_false_iff_not] at h ⊢;rintro ⟨h1,h2⟩;rw [h2] at hl;exact h ⟨h1,Sj.mp hl.symm⟩
theorem dz {c:List Int×Int×Int} {ps:List (List Int×Th)}:c∈callsOf ps↔(c.1,Th.call c.2.1 c.2.2)∈ps:=by
 unfold callsOf;rw [Wd];constructor
 · rintro ⟨⟨pl,t⟩,hx,e⟩;cases t with
   | knot n ks=>rw [lX] at e;cases e
   | call a b=>rw [lX] at e;cases e;exact hx
 · intro h;exact ⟨_,h,by rw [lX]⟩
theorem nP {n:Rc} {ks:List Th} {pre:List Int} {j:Nat} {t:Th} (h:ks[j]?=some t) {c:List Int×Int×Int} (hc:c∈callsOf (t.pl (pre++[(j:Int)]))):c∈callsOf ((Th.knot n ks).pl pre):=dz.mpr (gJ h (dz.mp hc))
section
variable {D:Int->List Int->Bool} {mk f0:Int->Th}
theorem lG {s l:Int} {q:List Int} (Hl:∀ (r:List Int) (u:Th),D l r=true->(q++r,u)∈(f0 s).pl []->D s (q++r)=true) (Hh:∀ (r:List Int) (u:Th),(r,u)∈(f0 l).pl []->u.isHole=true->D l r=true) :
 ∀ (n:Nat) (f g m:Th) (r:List Int),f.size<=n->(∀ x∈f.pl (q++r),x∈(f0 s).pl [])->(∀ x∈g.pl r,x∈(f0 l).pl [])->f.noCall->g.noCall->f.lies m=true->g.lies m=true->(f.cut (D s) (q++r)).lies (g.cut (D l) r)=true
 | 0,f,g,m,r,hn=>by have:=f.size_pos;omega
 | n+1,.call a b,g,m,r,_=>fun _ _ h=>by rw [Th.noCall] at h;exact h.elim
 | n+1,.knot nm ks,.call a b,m,r,_=>fun _ _ _ h=>by rw [Th.noCall] at h;exact h.elim
 | n+1,.knot nm ks,.knot gm vs,m,r,hn=>fun hF hG nf ng hf hg=>by
   rw [Th.cut];by_cases hc:(Th.knot nm ks).isHole=true∨D s (q++r)=true
   · rw [if_pos hc];exact ky _
   · rw [if_neg hc];have h1:(Th.knot nm ks).isHole=false:=Sh.mpr fun z=>hc (.inl z);have h2:¬ D s (q++r)=true:=fun z=>hc (.inr z);have h3:¬ D l r=true:=fun z=>h2 (Hl r _ z (hF _ (cQ _ _)));have h4:(Th.knot gm vs).isHole=false:=Sh.mpr fun z=>h3 (Hh r _ (hG _ (cQ _ _)) z);obtain ⟨us,rfl,l1,b1⟩:=lies_of hf h1;obtain ⟨PU,e,l2,b2⟩:=lies_of hg h4;cases e;rw [Th.cut,if_neg (by rintro (z | z);(rw [h4] at z;cases z);exact h3 z)];rw [Th.lies,gz (mW cK h1) (by rw [cK,cK];omega)];rw [Th.size] at hn;rw [Th.noCall] at nf ng
     have:bC (cq (D s) (q++r) 0 ks) (cq (D l) r 0 vs)=true:=eT fun i a b ha hb=>by
      rw [gP,RJ] at ha hb;obtain ⟨k,hk,rfl⟩:=ha;obtain ⟨v,hv,rfl⟩:=hb;have xT:=(QL.mp hk).1;obtain ⟨u,hu⟩:∃ u,us[i]?=some u:=⟨_,QC (by omega)⟩;have hz:=aK (QH hk);rw [Sw,RG];refine lG Hl Hh n k v u (r++[(i:Int)]) (by omega) (fun x hx=>hF x (gJ hk (by rw [RG];exact hx))) (fun x hx=>hG x (gJ hv hx)) (bE nf (QH hk)) (bE ng (QH hv)) (dO b1 i k u hk hu) (dO b2 i v u hv hu)
     show ((Th.knot nm (cq (D s) (q++r) 0 ks)).isHole || (true && bC (cq (D s) (q++r) 0 ks) (Th.knot nm (cq (D l) r 0 vs)).kids))=true;rw [show (Th.knot nm (cq (D l) r 0 vs)).kids=cq (D l) r 0 vs from rfl,this,Bool.or_comm];rfl
theorem km {s:Int} {pat:Th} (Hc:∀ c∈callsOf (pat.pl []),(f0 c.2.1).lies (mk c.2.1)=true/\(f0 c.2.1).noCall/\(∀ (r:List Int) (u:Th),(r,u)∈(f0 c.2.1).pl []->u.isHole=true->D c.2.1 r=true)/\∀ (r:List Int) (u:Th),D c.2.1 r=true->(c.1++r,u)∈(f0 s).pl []->D s (c.1++r)=true) :
 ∀ (n:Nat) (f p:Th) (q:List Int),f.size<=n->(∀ x∈f.pl q,x∈(f0 s).pl [])->(∀ c∈callsOf (p.pl q),c∈callsOf (pat.pl []))->f.noCall->f.lies (p.fill fun l _=>mk l)=true->(f.cut (D s) q).lies (p.fill fun l _=>(f0 l).cut (D l) [])=true
 | 0,f,p,q,hn=>by have:=f.size_pos;omega
 | n+1,.call a b,p,q,_=>fun _ _ h=>by rw [Th.noCall] at h;exact h.elim
 | n+1,.knot nm ks,.call l k,q,hn=>fun hF hC nf hf=>by
   obtain ⟨g1,g2,g3,g4⟩:=Hc (q,l,k) (hC _ (dz.mpr (cQ _ _)));rw [Th.fill] at hf ⊢;have:=lG (q:=q) g4 g3 (n+1) (.knot nm ks) (f0 l) (mk l) [] hn (by rw [Rw];exact hF) (fun x hx=>hx) nf g2 hf g1;rw [Rw] at this;exact this
 | n+1,.knot nm ks,.knot pm ps,q,hn=>fun hF hC nf hf=>by
   rw [Th.cut];by_cases hc:(Th.knot nm ks).isHole=true∨D s q=true
   · rw [if_pos hc];exact ky _
   · rw [if_neg hc];have h1:(Th.knot nm ks).isHole=false:=Sh.mpr fun z=>hc (.inl z);rw [Th.fill,fK] at hf ⊢;obtain ⟨us,e,l1,b1⟩:=lies_of hf h1;cases e;rw [QA] at l1;rw [Th.lies,gz (mW cK h1) (by rw [cK,QA];omega)];rw [Th.size] at hn;rw [Th.noCall] at nf
     have:bC (cq (D s) q 0 ks) (ps.map fun t=>t.fill fun l _=>(f0 l).cut (D l) [])=true:=eT fun i a b ha hb=>by
      rw [gP,RJ] at ha;rw [QO,RJ] at hb;obtain ⟨k,hk,rfl⟩:=ha;obtain ⟨v,hv,rfl⟩:=hb;have hz:=aK (QH hk);rw [Sw];refine km Hc n k v (q++[(i:Int)]) (by omega) (fun x hx=>hF x (gJ hk hx)) (fun c CP=>hC c (nP hv CP)) (bE nf (QH hk)) (dO b1 i k _ hk (by rw [QO,hv];rfl))
     show ((Th.knot nm (cq (D s) q 0 ks)).isHole || (true && bC (cq (D s) q 0 ks) (Th.knot nm (ps.map fun t=>t.fill fun l _=>(f0 l).cut (D l) [])).kids))=true;rw [show (Th.knot nm (ps.map fun t=>t.fill fun l _=>(f0 l).cut (D l) [])).kids=ps.map fun t=>t.fill fun l _=>(f0 l).cut (D l) [] from rfl,this,Bool.or_comm];rfl
end
theorem iM:∀ (n:Nat) (t:Th),t.size<=n->t.noCall->t.lies t=true
 | 0,t,hn,_=>by have:=t.size_pos;omega
 | n+1,.call a b,_,h=>by rw [Th.noCall] at h;exact h.elim
 | n+1,.knot m ks,hn,h=>by
   by_cases hh:(Th.knot m ks).isHole=true
   · rw [Th.lies,hh];rfl
   · have NI:(Th.knot m ks).isHole=false:=Sh.mpr hh;rw [Th.size] at hn;rw [Th.noCall] at h;rw [Th.lies,gz NI rfl]
     have:bC ks ks=true:=eT fun i a b ha hb=>by
      rw [ha] at hb;cases hb;have:=aK (QH ha);exact iM n a (by omega) (bE h (QH ha))
     show ((Th.knot m ks).isHole || (true && bC ks (Th.knot m ks).kids))=true;rw [show (Th.knot m ks).kids=ks from rfl,this,Bool.or_comm];rfl
def mkF (ins:List (Rc×Int)) (rows:List (List Th)) (l:Int):Th:=(rowOf rows l).getD (cE ins) hole
def frF (mk:Int->Th) (m:Th) (row:List Th):Th:=row.foldl (fun f p=>f.com (p.fill fun l _=>mk l)) m
theorem nS (mk:Int->Th) (m:Th) (row:List Th) (p:Th):frF mk m (row++[p])=(frF mk m row).com (p.fill fun l _=>mk l):=by
 unfold frF;rw [List.foldl_append];rfl
theorem o8 {mk:Int->Th} {m:Th} (h:m.noCall):∀ row:List Th,(frF mk m row).noCall:=fun row=>by
 cases hr:row.reverse with
 | nil =>
   have:row=[]:=by simpa using hr
   subst this;exact h
 | cons p ps =>
   have:row=ps.reverse++[p]:=by
    have:=congrArg List.reverse hr;simpa using this
   rw [this,nS];exact j9 _ _
theorem gM (mk:Int->Th) (m:Th) (row:List Th):(frF mk m row).size<=m.size/\(frF mk m row).tall<=m.tall:=by
 unfold frF;induction row generalizing m with
 | nil=>exact ⟨QF _,QF _⟩
 | cons p row ih =>
   rw [List.foldl_cons];have h1:=ih (m.com (p.fill fun l _=>mk l));have h2:=nz m (p.fill fun l _=>mk l);omega
theorem sB (mk:Int->Th) (m:Th) (row:List Th):∀ x∈(frF mk m row).pl [],∃ u,(x.1,u)∈m.pl []:=by
 unfold frF;induction row generalizing m with
 | nil=>exact fun x hx=>⟨x.2,hx⟩
 | cons p row ih =>
   rw [List.foldl_cons];intro x hx;obtain ⟨u,hu⟩:=ih _ x hx;exact sL _ m _ [] (QF _) (x.1,u) hu
theorem nK {mk:Int->Th} (f:Th):∀ (row:List Th) (m:Th),f.lies (frF mk m row)=true->f.lies m=true/\∀ p∈row,f.lies (p.fill fun l _=>mk l)=true
 | [],m,h=>⟨h,fun p hp=>by cases hp⟩
 | p::row,m,h=>by
   have h':f.lies (frF mk (m.com (p.fill fun l _=>mk l)) row)=true:=h;obtain ⟨h1,h2⟩:=nK f row _ h';rw [nD,Sy] at h1;refine ⟨h1.1,fun x hx=>?_⟩;rcases QZ.mp hx with rfl | hx
   · exact h1.2
   · exact h2 x hx
def nk (s:Int) (pl:List Int):az:=(pl.map Rk,Rk s)
theorem lg {H:Hp} {s:Int} {pl:List Int} {b c:QD} (h1:H b=some (.tup [.int s,.ref c])) (h2:H c=some (.tup (pl.map V.int))):MKAt H (nk s pl) b:=by
 refine ⟨c,h1,?_⟩;rw [h2];unfold nk;rw [Tx];rfl
def But (p:QD) (H H':Hp):Prop:=∀ c o,c≠p->H c=some o->H' c=some o
theorem But.refl (p:QD) (H:Hp):But p H H:=fun _ _ _ e=>e
theorem But.trans {p:QD} {H H' E8:Hp} (a:But p H H') (b:But p H' E8):But p H E8:=fun c o hc e=>b c o hc (a c o hc e)
theorem Same.but {p:QD} {H H':Hp} (a:L2.Same H H'):But p H H':=fun c o _ e=>a c o e
theorem But.kt {p:QD} {H H':Hp} {φ:RS->Prop} (a:But p H H') (e:H p=some (.ext φ)):KT H H':=fun c ys ec=>a c _ (fun z=>by rw [z,e] at ec;cases ec) ec
def PtV (H:Hp) (v:V):Prop:=∃ (pr ta tb:QD) (t1 t2:Th),v=.ref pr/\H pr=some (.tup [.ref ta,.ref tb])/\At H t1 ta/\At H t2 tb
theorem PtV.mono {H H':Hp} (k:KT H H') {v:V} (h:PtV H v):PtV H' v:=by
 obtain ⟨pr,ta,tb,t1,t2,e,h1,h2,h3⟩:=h;exact ⟨pr,ta,tb,t1,t2,e,k _ _ h1,h2.mono k,h3.mono k⟩
structure Pt (P:QR) (w:Q3) (H:Hp) (pt:QD) (f':List (az×V)) (Al:List az):Prop where
 dm:DM P w H pt f'
 nd:(f'.map (·.1)).Nodup
 al:∀ p∈f',p.1∈Al
 vl:∀ p∈f',PtV H p.2
theorem ce {P:QR} {w:Q3} {H:Hp} {a:QD} {f':List (az×V)} (h:DM P w H a f'):∃ φ,H a=some (.ext φ):=by
 obtain ⟨_,_,xs,φ,e,_⟩:=h;exact ⟨φ,e⟩
theorem Pt.same {P:QR} {w:Q3} {H H':Hp} {pt:QD} {f':List (az×V)} {Al:List az} (h:Pt P w H pt f' Al) (s:L2.Same H H'):Pt P w H' pt f' Al:=⟨h.dm.mono s,h.nd,h.al,fun p hp=>(h.vl p hp).mono (Same.kt s)⟩
theorem Pt.len {P:QR} {w:Q3} {H:Hp} {pt:QD} {f':List (az×V)} {Al:List az} (h:Pt P w H pt f' Al):f'.length<=Al.length:=by
 have:=lm (m:=Al) h.nd fun k hk=>by
  obtain ⟨p,hp,rfl⟩:=RN.mp hk;exact h.al p hp
 rwa [QA] at this
theorem eB {f':List (az×V)} {k:az} (h:aT f' k=none):k∉f'.map (·.1):=by
 intro hk;obtain ⟨p,hp,rfl⟩:=RN.mp hk;have:=dq p.1 f';rw [h] at this;have h2:(f'.any fun kv=>decide (kv.1=p.1))=true:=List.any_eq_true.mpr ⟨p,hp,decide_eq_true rfl⟩;rw [h2] at this;cases this
theorem dR {f':List (az×V)} {k:az} {v:V} (h:aT f' k=some v):(k,v)∈f':=by
 induction f' with
 | nil=>cases h
 | cons p f' ih =>
   by_cases e:p.1=k
   · rw [bF e] at h;cases h;rw [<- e];exact Q6 ..
   · rw [bz e] at h;exact Q1 _ (ih h)
theorem Pt.put {P:QR} {w:Q3} {H H':Hp} {pt:QD} {f':List (az×V)} {Al:List az} (h:Pt P w H pt f' Al) {k:az} {v:V} (hn:aT f' k=none) (hb:But pt H H') (hd:DM P w H' pt (putK f' k v)) (hv:PtV H v) (hk:k∈Al):Pt P w H' pt (putK f' k v) Al/\(putK f' k v).map (·.1)=f'.map (·.1)++[k]:=by
 obtain ⟨φ,e⟩:=ce h.dm;have kt:=hb.kt e;rw [jP v hn] at hd ⊢;refine ⟨⟨hd,?_,fun p hp=>?_,fun p hp=>?_⟩,by rw [QS];rfl⟩
 · rw [QS];refine Vk.mpr ⟨h.nd,by simp,fun a ha b yk=>?_⟩;simp at yk;subst yk;exact fun z=>eB hn (z ▸ ha)
 · rcases Rv.mp hp with hp | hp
   · exact h.al p hp
   · rw [Q2.mp hp];exact hk
 · rcases Rv.mp hp with hp | hp
   · exact (h.vl p hp).mono kt
   · rw [Q2.mp hp];exact hv.mono kt
mutual
theorem pi {u:Th}:∀ (t:Th) (pre:List Int),u∈t.walk->∃ pl,(pl,u)∈t.pl pre
 | .call a b,pre,h=>by
   rw [Th.walk] at h;rw [Q2.mp h];exact ⟨pre,cQ _ _⟩
 | .knot n ks,pre,h=>by
   rw [Th.walk] at h;rcases QZ.mp h with rfl | h
   · exact ⟨pre,cQ _ _⟩
   · obtain ⟨pl,hp⟩:=m8 ks pre 0 h;exact ⟨pl,by rw [Th.pl];exact Q1 _ hp⟩
theorem m8 {u:Th}:∀ (ts:List Th) (pre:List Int) (i:Int),u∈walks ts->∃ pl,(pl,u)∈pls pre i ts
 | [],pre,i,h=>by rw [walks] at h;cases h
 | t::ts,pre,i,h=>by
   rw [walks] at h;rw [pls];rcases Rv.mp h with h | h
   · obtain ⟨pl,hp⟩:=pi t (pre++[i]) h;exact ⟨pl,RC _ hp⟩
   · obtain ⟨pl,hp⟩:=m8 ts pre (i+1) h;exact ⟨pl,Rt _ hp⟩
end
theorem qh {ks:List (Rc×Int)} {S C:Int} {t:Th} (h:t.FitS ks S C) {s k:Int} (hm:Th.call s k∈t.walk):0<=s/\s<S/\0<=k/\k<C:=by
 obtain ⟨pl,hp⟩:=pi t [] hm;exact iL t [] h (pl,s,k) (dz.mpr hp)
theorem i6 {ks:List (Rc×Int)} {S:Int}:∀ (n:Nat) (t:Th),t.size<=n->t.FitS ks S 0->t.noCall
 | 0,t,hn,_=>by have:=t.size_pos;omega
 | n+1,.call a b,_,h=>by rw [Th.FitS] at h;omega
 | n+1,.knot m us,hn,h=>by
   rw [Th.FitS] at h;rw [Th.size] at hn;rw [Th.noCall]
   have:∀ (l:List Th),(∀ t∈l,t.noCall)->bK l:=fun l=>by
    induction l with
    | nil=>intro _;rw [bK];trivial
    | cons x l ih=>intro hl;rw [bK];exact ⟨hl x (Q6 ..),ih fun t ht=>hl t (Q1 _ ht)⟩
   refine this us fun t ht=>?_;have hz:=aK ht;exact i6 n t (by omega) (FitSs.mem' h.2 t ht)
mutual
theorem rO:∀ (t:Th) (a b:List Int),t.pl (a++b)=(t.pl b).map fun x=>(a++x.1,x.2)
 | .call s k,a,b=>by rw [Th.pl,Th.pl];rfl
 | .knot n ks,a,b=>by rw [Th.pl,Th.pl,RD,pG ks a b 0]
theorem pG:∀ (ts:List Th) (a b:List Int) (i:Int),pls (a++b) i ts=(pls b i ts).map fun x=>(a++x.1,x.2)
 | [],a,b,i=>by rw [pls,pls];rfl
 | t::ts,a,b,i=>by rw [pls,pls,QS,RG,rO t a (b++[i]),pG ts a b (i+1)]
end
theorem eJ {t:Th} {a:List Int} {x:List Int×Th}:x∈t.pl a↔∃ r,x.1=a++r/\(r,x.2)∈t.pl []:=by
 have:=rO t a [];rw [Rw] at this;rw [this,RN];constructor
 · rintro ⟨y,hy,rfl⟩;exact ⟨y.1,rfl,hy⟩
 · rintro ⟨r,h1,h2⟩;exact ⟨(r,x.2),h2,by rw [<- h1]⟩
theorem pp:∀ (n:Nat) {t u v:Th} {a r:List Int},t.size<=n->(a,u)∈t.pl []->(r,v)∈u.pl []->(a++r,v)∈t.pl []
 | 0,t,_,_,_,_,hn=>by have:=t.size_pos;omega
 | n+1,.call s k,u,v,a,r,hn=>fun h1 h2=>by
   rw [Th.pl] at h1;cases Q2.mp h1;exact h2
 | n+1,.knot m ks,u,v,a,r,hn=>fun h1 h2=>by
   rw [Th.pl] at h1;rcases QZ.mp h1 with h1 | h1
   · cases h1;exact h2
   · obtain ⟨j,t,ht,hx⟩:=cJ.mp h1;obtain ⟨r',e,Aa⟩:=eJ.mp hx;dsimp only at e Aa;rw [Sw,UB] at e;rw [Th.size] at hn;have hz:=aK (QH ht);have:=pp n (by omega) Aa h2;refine gJ ht (eJ.mpr ⟨r'++r,?_,this⟩);show a++r=[]++[(j:Int)]++(r'++r);rw [e,UB,RG]
theorem mS:∀ (n:Nat) {t v:Th} {a r:List Int} {u:Th},t.size<=n->(a++r,v)∈t.pl []->(∃ w,(a,w)∈t.pl []/\(r,v)∈w.pl [])
 | 0,t,_,_,_,_,hn=>by have:=t.size_pos;omega
 | n+1,t,v,[],r,_,hn=>fun h=>⟨t,cQ _ _,h⟩
 | n+1,.call s k,v,x::a,r,_,hn=>fun h=>by
   rw [Th.pl] at h;have:=congrArg Prod.fst (Q2.mp h);cases this
 | n+1,.knot m ks,v,x::a,r,u,hn=>fun h=>by
   rw [Th.pl] at h;rcases QZ.mp h with h | h
   · have:=congrArg Prod.fst h;cases this
   · obtain ⟨j,t,ht,hx⟩:=cJ.mp h;obtain ⟨r',e,Aa⟩:=eJ.mp hx;dsimp only at e Aa;rw [Sw,UB] at e;injection e with e1 e2;have e2:a++r=r':=e2;rw [Th.size] at hn;have hz:=aK (QH ht);rw [<- e2] at Aa;obtain ⟨w,h1,h2⟩:=mS n (u:=u) (by omega) Aa;refine ⟨w,gJ ht (eJ.mpr ⟨a,?_,h1⟩),h2⟩;show x::a=[]++[(j:Int)]++a;rw [e1];rfl
end BB
namespace BB
open PySem L2
theorem oZ:∀ (n:Nat) {t u v:Th} {a:List Int},t.size<=n->(a,u)∈t.pl []->(a,v)∈t.pl []->u=v
 | 0,t,_,_,_,hn=>by have:=t.size_pos;omega
 | n+1,.call s k,u,v,a,hn=>fun h1 h2=>by
   rw [Th.pl] at h1 h2;cases Q2.mp h1;cases Q2.mp h2;rfl
 | n+1,.knot m ks,u,v,a,hn=>fun h1 h2=>by
   rw [Th.pl] at h1 h2;rcases QZ.mp h1 with h1 | h1
   · cases h1;rcases QZ.mp h2 with h2 | h2
     · cases h2;rfl
     · obtain ⟨j,t,ht,hx⟩:=cJ.mp h2;obtain ⟨r',e,_⟩:=eJ.mp hx;cases e
   · obtain ⟨j,t,ht,hx⟩:=cJ.mp h1;obtain ⟨r',e,Aa⟩:=eJ.mp hx;rcases QZ.mp h2 with h2 | h2
     · cases h2;cases e
     · obtain ⟨j2,t2,GX,zN⟩:=cJ.mp h2;obtain ⟨r2,e2,Dc⟩:=eJ.mp zN;dsimp only at e e2 Aa Dc;rw [e] at e2;have e3:(0+(j:Int))::r'=(0+(j2:Int))::r2:=e2;injection e3 with e4 e5;have:j=j2:=by omega
       subst this;rw [ht] at GX;cases GX;subst e5;rw [Th.size] at hn;have hz:=aK (QH ht);exact oZ n (by omega) Aa Dc
def LE (H:Hp) (ins:List (Rc×Int)) (Al:List az) (a:QD):Prop:=∃ (s kid:Int) (pl:List Int) (pa ka:QD) (kd:Rc×Int),H a=some (.tup [.int s,.ref pa,.ref ka,.int kid])/\H pa=some (.tup (pl.map V.int))/\KAt H kd ka/\kd∈ins/\nk s pl∈Al
theorem LE.mono {H H':Hp} (k:KT H H') {ins:List (Rc×Int)} {Al:List az} {a:QD} (h:LE H ins Al a):LE H' ins Al a:=by
 obtain ⟨s,kid,pl,pa,ka,kd,h1,h2,h3,h4,h5⟩:=h;exact ⟨s,kid,pl,pa,ka,kd,k _ _ h1,k _ _ h2,k _ _ h3,h4,h5⟩
abbrev LG:=List (az×QD×List QD)
def lkv (G:LG):List (az×V):=G.map fun g=>(g.1,V.ref g.2.1)
structure LkI (P:QR) (w:Q3) (ins:List (Rc×Int)) (Al:List az) (H0 H:Hp) (la:QD) (G:LG) (N:Nat):Prop where
 sm:L2.Same H0 H
 la0:H0 la=none
 dm:DM P w H la (lkv G)
 kn:(G.map (·.1)).Nodup
 an:(G.map (·.2.1)).Nodup
 ls:∀ g∈G,H0 g.2.1=none/\H g.2.1=some (.lst (g.2.2.map V.ref))/\g.2.2.length<=N/\∀ a∈g.2.2,LE H ins Al a
 le:G.length<=N
def fS (H:Hp) (G:LG) (k:az) (s:Int) (pl:List Int):Prop:=∃ g∈G,g.1=k/\∃ a∈g.2.2,∃ (pa ka:QD) (kid:Int),H a=some (.tup [.int s,.ref pa,.ref ka,.int kid])/\H pa=some (.tup (pl.map V.int))
def LSub (H H':Hp) (G G':LG):Prop:=∀ k s pl,fS H G k s pl->fS H' G' k s pl
theorem LSub.refl (H:Hp) (G:LG):LSub H H G G:=fun _ _ _ h=>h
theorem LSub.trans {H H' E8:Hp} {G G' Lw:LG} (a:LSub H H' G G') (b:LSub H' E8 G' Lw):LSub H E8 G Lw:=fun k s pl h=>b k s pl (a k s pl h)
theorem LSub.kt {H H':Hp} (k:KT H H') (G:LG):LSub H H' G G:=fun _ _ _ ⟨g,hg,e,a,ha,pa,ka,kid,h1,h2⟩=>⟨g,hg,e,a,ha,pa,ka,kid,k _ _ h1,k _ _ h2⟩
theorem qa {P:QR} {w:Q3} {H H':Hp} {a:QD} {f':List (az×V)} (h:DM P w H a f') (k:KT H H') (e:∀ o,H a=some o->H' a=some o):DM P w H' a f':=by
 obtain ⟨z,hd,xs,φ,e1,f,r⟩:=h;exact ⟨z,hd,xs,φ,e _ e1,f,KTm.mono k r⟩
section
variable {P:QR} {w:Q3} {ins:List (Rc×Int)} {Al:List az} {H0 H:Hp} {la:QD} {G:LG} {N:Nat}
theorem LkI.ne (h:LkI P w ins Al H0 H la G N) {g:az×QD×List QD} (hg:g∈G):g.2.1≠la:=fun z=>by
 obtain ⟨φ,e⟩:=ce h.dm;have:=(h.ls g hg).2.1;rw [z,e] at this;cases this
theorem LkI.same {H':Hp} (h:LkI P w ins Al H0 H la G N) (s:L2.Same H H'):LkI P w ins Al H0 H' la G N:=by
 refine ⟨h.sm.trans s,h.la0,h.dm.mono s,h.kn,h.an,fun g hg=>?_,h.le⟩;obtain ⟨a,b,c,d⟩:=h.ls g hg;exact ⟨a,s _ _ b,c,fun x hx=>(d x hx).mono (Same.kt s)⟩
theorem LkI.up (h:LkI P w ins Al H0 H la G N) {M:Nat} (hm:N<=M):LkI P w ins Al H0 H la G M:=by
 refine ⟨h.sm,h.la0,h.dm,h.kn,h.an,fun g hg=>?_,Sn h.le hm⟩;obtain ⟨a,b,c,d⟩:=h.ls g hg;exact ⟨a,b,Sn c hm,d⟩
theorem LkI.new {H':Hp} (h:LkI P w ins Al H0 H la G N) {k:az} {l:QD} (hn:aT (lkv G) k=none) (hb:But la H H') (hd:DM P w H' la (putK (lkv G) k (.ref l))) (An:H0 l=none) (hl:H l=some (.lst [])) (hf:∀ g∈G,g.2.1≠l):LkI P w ins Al H0 H' la (G++[(k,l,[])]) (N+1)/\LSub H H' G (G++[(k,l,[])]):=by
 obtain ⟨φ,e⟩:=ce h.dm;have kt:=hb.kt e;have IV:l≠la:=fun z=>by rw [z,e] at hl;cases hl
 refine ⟨⟨fun c o ec=>hb c o (fun z=>by rw [z,h.la0] at ec;cases ec) (h.sm _ _ ec),h.la0,?_,?_,?_,fun g hg=>?_,by rw [QX];have:=h.le;show G.length+1<=N+1;omega⟩,fun k' s pl h'=>?_⟩
 · rw [jP _ hn] at hd;unfold lkv at hd ⊢;rw [QS];exact hd
 · rw [QS];refine Vk.mpr ⟨h.kn,by simp,fun a ha b yk=>?_⟩;simp at yk;subst yk;intro z;subst z;refine eB hn ?_;unfold lkv;rw [Tx];exact ha
 · rw [QS];refine Vk.mpr ⟨h.an,by simp,fun a ha b yk=>?_⟩;simp at yk;subst yk;obtain ⟨g,hg,rfl⟩:=RN.mp ha;exact hf g hg
 · rcases Rv.mp hg with hg | hg
   · obtain ⟨a,b,c,d⟩:=h.ls g hg;exact ⟨a,hb _ _ (h.ne hg) b,by omega,fun x hx=>(d x hx).mono kt⟩
   · rw [Q2.mp hg];exact ⟨An,hb _ _ IV hl,Q7 _,fun x hx=>by cases hx⟩
 · obtain ⟨g,hg,r⟩:=LSub.kt kt G k' s pl h';exact ⟨g,RC _ hg,r⟩
def eP (l en:QD) (g:az×QD×List QD):az×QD×List QD:=if g.2.1=l then (g.1,g.2.1,g.2.2++[en]) else g
theorem db (l en:QD) (g:az×QD×List QD):(eP l en g).1=g.1/\(eP l en g).2.1=g.2.1:=by
 unfold eP;split <;> exact ⟨rfl,rfl⟩
theorem LkI.app (h:LkI P w ins Al H0 H la G N) {g:az×QD×List QD} (hg:g∈G) {en:QD} (he:LE H ins Al en):LkI P w ins Al H0 (upd H g.2.1 (.lst (g.2.2.map V.ref++[.ref en]))) la (G.map (eP g.2.1 en)) (N+1)/\KT H (upd H g.2.1 (.lst (g.2.2.map V.ref++[.ref en])))/\LSub H (upd H g.2.1 (.lst (g.2.2.map V.ref++[.ref en]))) G (G.map (eP g.2.1 en))/\(∀ (s:Int) (pl:List Int) (pa ka:QD) (kid:Int),H en=some (.tup [.int s,.ref pa,.ref ka,.int kid])->H pa=some (.tup (pl.map V.int))->fS (upd H g.2.1 (.lst (g.2.2.map V.ref++[.ref en]))) (G.map (eP g.2.1 en)) g.1 s pl):=by
 obtain ⟨gl,ge,gn,NJ⟩:=h.ls g hg;have kt:KT H (upd H g.2.1 (.lst (g.2.2.map V.ref++[.ref en]))):=aQ ge;have BF:=h.ne hg;have k1:(G.map (eP g.2.1 en)).map (·.1)=G.map (·.1):=by rw [Tx];exact Ul fun x _=>(db _ _ x).1
 have k2:(G.map (eP g.2.1 en)).map (·.2.1)=G.map (·.2.1):=by rw [Tx];exact Ul fun x _=>(db _ _ x).2
 have k3:lkv (G.map (eP g.2.1 en))=lkv G:=by
  unfold lkv;rw [Tx];refine Ul fun x _=>?_;show ((eP g.2.1 en x).1,V.ref (eP g.2.1 en x).2.1)=_;rw [(db _ _ x).1,(db _ _ x).2]
 refine ⟨⟨ao h.sm gl,h.la0,?_,by rw [k1];exact h.kn,by rw [k2];exact h.an,fun x hx=>?_,by rw [QA];have:=h.le;omega⟩,kt,fun k s pl hh=>?_,fun s pl pa ka kid h1 h2=>?_⟩
 · rw [k3];exact qa h.dm kt fun o eo=>by rw [ai BF.symm];exact eo
 · obtain ⟨y,hy,rfl⟩:=RN.mp hx;obtain ⟨a,b,c,d⟩:=h.ls y hy;by_cases hc:y.2.1=g.2.1
   · have NK:y=g:=by
      obtain ⟨i,hi⟩:=Rb.mp hy;obtain ⟨j,hj⟩:=Rb.mp hg
      have E9:i=j:=by
       have h1:(G.map (·.2.1))[i]?=some y.2.1:=by rw [QO,hi];rfl
       have h2:(G.map (·.2.1))[j]?=some y.2.1:=by rw [QO,hj,hc];rfl
       exact (List.getElem?_inj (by have:=(QL.mp h1).1;exact this) h.an).mp (h1.trans h2.symm)
      subst E9;rw [hi] at hj;exact Q8 hj
     subst NK;unfold eP;rw [if_pos rfl];refine ⟨a,?_,?_,fun x hx=>?_⟩
     · show (upd H y.2.1 _) y.2.1=_;rw [ab];show some (HO.lst (y.2.2.map V.ref++[.ref en]))=some (.lst ((y.2.2++[en]).map V.ref));rw [QS];rfl
     · show (y.2.2++[en]).length<=N+1;rw [QX];show y.2.2.length+1<=N+1;omega
     · rcases Rv.mp hx with hx | hx
       · exact (d x hx).mono kt
       · rw [Q2.mp hx];exact he.mono kt
   · unfold eP;rw [if_neg hc];exact ⟨a,by rw [ai hc];exact b,by omega,fun x hx=>(d x hx).mono kt⟩
 · obtain ⟨x,hx,e,a,ha,pa,ka,kid,h1,h2⟩:=hh;refine ⟨eP g.2.1 en x,RN.mpr ⟨x,hx,rfl⟩,by rw [(db _ _ x).1];exact e,a,?_,pa,ka,kid,kt _ _ h1,kt _ _ h2⟩;unfold eP;split
   · exact RC _ ha
   · exact ha
 · refine ⟨eP g.2.1 en g,RN.mpr ⟨g,hg,rfl⟩,(db _ _ g).1,en,?_,pa,ka,kid,kt _ _ h1,kt _ _ h2⟩;unfold eP;rw [if_pos rfl];exact Rt _ (Q6 ..)
end
theorem sJ {K:QB} {H:Hp}:∀ {ps:List (List Int×Th)} {as:List QD},PsAtK K H ps as->∃ prs:List (List Key×V),Rf (PrA H) prs as/\(∀ p∈prs,∃ x∈ps,p.1=x.1.map Rk/\∃ a,p.2=.ref a/\AtK K H x.2 a)/\∀ x∈ps,∃ p∈prs,p.1=x.1.map Rk
 | _,_,.nil=>⟨[],.nil,(fun p hp=>by cases hp),(fun p hp=>by cases hp)⟩
 | _,_,.cons (a:=x) r h=>by
   obtain ⟨pa,ta,h1,h2,h3⟩:=r;obtain ⟨prs,g1,g2,g3⟩:=sJ h;refine ⟨(x.1.map Rk,.ref ta)::prs,.cons ⟨pa,h1,by rw [h2,Tx];rfl⟩ g1,fun p hp=>?_,fun y hy=>?_⟩
   · rcases QZ.mp hp with rfl | hp
     · exact ⟨x,Q6 ..,rfl,ta,rfl,h3⟩
     · obtain ⟨y,hy,r⟩:=g2 p hp;exact ⟨y,Q1 _ hy,r⟩
   · rcases QZ.mp hy with rfl | hy
     · exact ⟨_,Q6 ..,rfl⟩
     · obtain ⟨p,hp,e⟩:=g3 y hy;exact ⟨p,Q1 _ hp,e⟩
structure LQ (P:QR) (w:Q3) (ins:List (Rc×Int)) (Al:List az) (H0:Hp) (la:QD) (Hb:Hp) (Gb:LG) (Hc:Hp) (Gc:LG) (n:Nat):Prop where
 lk:LkI P w ins Al H0 Hc la Gc n
 sub:LSub Hb Hc Gb Gc
 fr:∀ c o,Hb c=some o->c≠la->(∀ g∈Gb,g.2.1≠c)->Hc c=some o
 dom:∀ c o,Hb c=some o->∃ o',Hc c=some o'
 ext:∀ g∈Gc,(∃ g0∈Gb,g0.2.1=g.2.1)∨Hb g.2.1=none
section
variable {P:QR} {w:Q3} {ins:List (Rc×Int)} {Al:List az} {H0 Hb Hc Hd:Hp} {la:QD} {Gb Gc Gd:LG} {n m:Nat}
theorem LQ.refl (h:LkI P w ins Al H0 Hb la Gb n):LQ P w ins Al H0 la Hb Gb Hb Gb n:=⟨h,LSub.refl _ _,fun _ _ e _ _=>e,fun c o e=>⟨o,e⟩,fun g hg=>.inl ⟨g,hg,rfl⟩⟩
theorem LQ.same (h:LQ P w ins Al H0 la Hb Gb Hc Gc n) (s:L2.Same Hc Hd):LQ P w ins Al H0 la Hb Gb Hd Gc n :=
 ⟨h.lk.same s,h.sub.trans (LSub.kt (Same.kt s) _),fun c o e h1 h2=>s _ _ (h.fr c o e h1 h2),fun c o e=>by obtain ⟨o',e'⟩:=h.dom c o e;exact ⟨o',s _ _ e'⟩,h.ext⟩
theorem LQ.up (h:LQ P w ins Al H0 la Hb Gb Hc Gc n) (hm:n<=m):LQ P w ins Al H0 la Hb Gb Hc Gc m:=⟨h.lk.up hm,h.sub,h.fr,h.dom,h.ext⟩
theorem LQ.trans (a:LQ P w ins Al H0 la Hb Gb Hc Gc n) (b:LQ P w ins Al H0 la Hc Gc Hd Gd m):LQ P w ins Al H0 la Hb Gb Hd Gd m:=by
 refine ⟨b.lk,a.sub.trans b.sub,fun c o e h1 h2=>b.fr c o (a.fr c o e h1 h2) h1 fun g hg=>?_,fun c o e=>?_,fun g hg=>?_⟩
 · rcases a.ext g hg with ⟨g0,h3,h4⟩ | h3
   · rw [<- h4];exact h2 g0 h3
   · intro z;rw [z,e] at h3;cases h3
 · obtain ⟨o',e'⟩:=a.dom c o e;exact b.dom c o' e'
 · rcases b.ext g hg with ⟨g0,h3,h4⟩ | h3
   · rw [<- h4];exact a.ext g0 h3
   · refine .inr ?_;cases hh:Hb g.2.1 with
     | none=>rfl
     | some o =>
       obtain ⟨o',e'⟩:=a.dom _ o hh;rw [h3] at e';cases e'
theorem LQ.kt (h:LQ P w ins Al H0 la Hb Gb Hc Gc n) (L:LkI P w ins Al H0 Hb la Gb m):KT Hb Hc:=fun c ys e=>by
 obtain ⟨φ,el⟩:=ce L.dm;refine h.fr c _ e (fun z=>by rw [z,el] at e;cases e) fun g hg z=>?_;have:=(L.ls g hg).2.1;rw [z,e] at this;cases this
theorem LQ.newG (a:LQ P w ins Al H0 la Hb Gb Hc Gc n) {k:az} {l:QD} {He:Hp} (hl:Hc l=none) (hn:aT (lkv Gc) k=none) (hb:But la (upd Hc l (.lst [])) He) (hd:DM P w He la (putK (lkv Gc) k (.ref l))):LQ P w ins Al H0 la Hb Gb He (Gc++[(k,l,[])]) (n+1):=by
 have s1:L2.Same Hc (upd Hc l (.lst [])):=ad hl _;have L1:=a.lk.same s1
 obtain ⟨h1,h2⟩:=L1.new hn hb hd (a.lk.sm.free hl) ab fun g hg z=>by
  have:=(a.lk.ls g hg).2.1;rw [z,hl] at this;cases this
 refine a.trans ⟨h1,(LSub.kt (Same.kt s1) _).trans h2,fun c o e hc _=>hb c o hc (s1 _ _ e),fun c o e=>?_,fun g hg=>?_⟩
 · by_cases hc:c=la
   · obtain ⟨φ,e'⟩:=ce hd;exact ⟨_,by rw [hc];exact e'⟩
   · exact ⟨o,hb c o hc (s1 _ _ e)⟩
 · rcases Rv.mp hg with hg | hg
   · exact .inl ⟨g,hg,rfl⟩
   · rw [Q2.mp hg];exact .inr hl
theorem LQ.appG (a:LQ P w ins Al H0 la Hb Gb Hc Gc n) {g:az×QD×List QD} (hg:g∈Gc) {en:QD} (he:LE Hc ins Al en):LQ P w ins Al H0 la Hb Gb (upd Hc g.2.1 (.lst (g.2.2.map V.ref++[.ref en]))) (Gc.map (eP g.2.1 en)) (n+1)/\∀ (s:Int) (pl:List Int) (pa ka:QD) (kid:Int),Hc en=some (.tup [.int s,.ref pa,.ref ka,.int kid])->Hc pa=some (.tup (pl.map V.int))->fS (upd Hc g.2.1 (.lst (g.2.2.map V.ref++[.ref en]))) (Gc.map (eP g.2.1 en)) g.1 s pl:=by
 obtain ⟨h1,h2,h3,h4⟩:=a.lk.app hg he;refine ⟨⟨h1,a.sub.trans h3,fun c o e hc hf=>?_,fun c o e=>?_,fun x hx=>?_⟩,h4⟩
 · rw [ai]
   · exact a.fr c o e hc hf
   · intro z;rcases a.ext g hg with ⟨g0,h5,h6⟩ | h5
     · exact hf g0 h5 (h6.trans z.symm)
     · rw [<- z,e] at h5;cases h5
 · by_cases hc:c=g.2.1
   · exact ⟨_,by rw [hc];exact ab⟩
   · rw [ai hc];exact a.dom c o e
 · obtain ⟨y,hy,rfl⟩:=RN.mp hx;rw [(db _ _ y).2];exact a.ext y hy
theorem pC {G:LG} {k:az} {u:V} (h:aT (lkv G) k=some u):∃ g∈G,g.1=k/\u=.ref g.2.1:=by
 have:=dR h;unfold lkv at this;obtain ⟨g,hg,e⟩:=RN.mp this;cases e;exact ⟨g,hg,rfl,rfl⟩
end
theorem tZ:∀ (n:Nat) (t:Th) (pre:List Int),t.size<=n->∀ x∈t.pl pre,x.2.size<=t.size/\x.2.tall<=t.tall
 | 0,t,_,hn=>by have:=t.size_pos;omega
 | n+1,.call a b,pre,hn=>fun x hx=>by
   rw [Th.pl] at hx;rw [Q2.mp hx];exact ⟨QF _,QF _⟩
 | n+1,.knot m ks,pre,hn=>fun x hx=>by
   rw [Th.pl] at hx;rcases QZ.mp hx with rfl | hx
   · exact ⟨QF _,QF _⟩
   · obtain ⟨j,t,ht,hx⟩:=cJ.mp hx;rw [Th.size] at hn;have hz:=aK (QH ht);have GX:=b9 (QH ht);obtain ⟨h1,h2⟩:=tZ n t _ (by omega) x hx;rw [Th.size,Th.tall];omega
theorem dS {n:Nat} (h:n<=16000000):n<QW:=by
 have:QW=16777216:=UQ;omega
theorem rN:∀ (n:Nat) (t:Th) (pre:List Int),t.size<=n->∀ x∈t.pl pre,x.1.length<=pre.length+t.tall
 | 0,t,_,hn=>by have:=t.size_pos;omega
 | n+1,.call a b,pre,hn=>fun x hx=>by
   rw [Th.pl] at hx;rw [Q2.mp hx];exact S7 _ _
 | n+1,.knot m ks,pre,hn=>fun x hx=>by
   rw [Th.pl] at hx;rcases QZ.mp hx with rfl | hx
   · exact S7 _ _
   · obtain ⟨j,t,ht,hx⟩:=cJ.mp hx;rw [Th.size] at hn;have hz:=aK (QH ht);have GX:=b9 (QH ht);have h1:=rN n t _ (by omega) x hx;rw [QX] at h1;rw [Th.tall];have h2:[(0:Int)+(j:Int)].length=1:=rfl;omega
structure LkR (P:QR) (w:Q3) (ins:List (Rc×Int)) (Al:List az) (H:Hp) (la:QD) (G:LG):Prop where
 dm:DM P w H la (lkv G)
 ls:∀ g∈G,H g.2.1=some (.lst (g.2.2.map V.ref))/\∀ a∈g.2.2,LE H ins Al a
 kn:(G.map (·.1)).Nodup
theorem LkI.r {P:QR} {w:Q3} {ins:List (Rc×Int)} {Al:List az} {H0 H:Hp} {la:QD} {G:LG} {N:Nat} (h:LkI P w ins Al H0 H la G N):LkR P w ins Al H la G:=⟨h.dm,fun g hg=>⟨(h.ls g hg).2.1,(h.ls g hg).2.2.2⟩,h.kn⟩
theorem LkR.but {P:QR} {w:Q3} {ins:List (Rc×Int)} {Al:List az} {H H':Hp} {la pt:QD} {G:LG} {φ:RS->Prop} (h:LkR P w ins Al H la G) (hb:But pt H H') (e:H pt=some (.ext φ)) (hn:pt≠la):LkR P w ins Al H' la G:=by
 have kt:=hb.kt e;refine ⟨qa h.dm kt fun o eo=>hb _ _ hn.symm eo,fun g hg=>?_,h.kn⟩;obtain ⟨h1,h2⟩:=h.ls g hg;exact ⟨hb _ _ (fun z=>by rw [z,e] at h1;cases h1) h1,fun a ha=>(h2 a ha).mono kt⟩
theorem LkR.at {P:QR} {w:Q3} {ins:List (Rc×Int)} {Al:List az} {H:Hp} {la:QD} {G:LG} (h:LkR P w ins Al H la G) {g:az×QD×List QD} (hg:g∈G) {s:Int} {pl:List Int} (hh:fS H G g.1 s pl):∃ a∈g.2.2,∃ (pa ka:QD) (kid:Int),H a=some (.tup [.int s,.ref pa,.ref ka,.int kid])/\H pa=some (.tup (pl.map V.int)):=by
 obtain ⟨g',Ii,e,r⟩:=hh
 have:g'=g:=by
  obtain ⟨i,hi⟩:=Rb.mp Ii;obtain ⟨j,hj⟩:=Rb.mp hg;have h1:(G.map (·.1))[i]?=some g.1:=by rw [QO,hi,<- e];rfl
  have h2:(G.map (·.1))[j]?=some g.1:=by rw [QO,hj];rfl
  have E9:i=j:=(List.getElem?_inj (by have:=(QL.mp h1).1;exact this) h.kn).mp (h1.trans h2.symm);subst E9;rw [hi] at hj;exact Q8 hj
 subst this;exact r
theorem rq {G:LG} {k:az} (h:aT (lkv G) k=none) {H:Hp} {s:Int} {pl:List Int}:¬ fS H G k s pl:=fun ⟨g,hg,e,_⟩=>by
 refine eB h ?_;unfold lkv;rw [Tx];exact RN.mpr ⟨g,hg,e⟩
theorem nX {a b:List Int} (h:a.map V.int=b.map V.int):a=b:=(We (fun _ _ e=>V.int.inj e)).mp h
theorem LkR.back {P:QR} {w:Q3} {ins:List (Rc×Int)} {Al:List az} {H H':Hp} {la:QD} {G:LG} (R:LkR P w ins Al H la G) (kt:KT H H') {k:az} {s:Int} {pl:List Int} (hh:fS H' G k s pl):fS H G k s pl:=by
 obtain ⟨g,hg,e,a,ha,pa,ka,kid,h1,h2⟩:=hh;obtain ⟨s',yI,zi,Bv,AY,PV,g1,g2,_⟩:=(R.ls g hg).2 a ha;have e1:=kt _ _ g1;rw [h1] at e1;cases e1;have e2:=kt _ _ g2;rw [h2] at e2;have:pl=zi:=nX (by injection e2 with e3;injection e3);subst this;exact ⟨g,hg,e,a,ha,pa,ka,kid,g1,g2⟩
def Dk (f':List (az×V)) (s:Int) (pl:List Int):Bool:=(aT f' (nk s pl)).isSome
def gx (D:List Int->Bool) (As:List (List Int×Th)):List Th:=As.flatMap fun x=>(x.2.cut D x.1).walk
theorem nU (D:List Int->Bool) (a b:List (List Int×Th)):gx D (a++b)=gx D a++gx D b:=by unfold gx;rw [List.flatMap_append]
theorem lr (D:List Int->Bool) (pre:List Int):∀ (i:Int) (ks:List Th),gx D (cB pre i ks)=walks (cq D pre i ks)
 | i,[]=>by rw [cB,cq,walks];rfl
 | i,k::ks=>by
   rw [cB,cq,walks,<- lr D pre (i+1) ks];rfl
theorem mZ (D:List Int->Bool):∀ (n:Nat) (t:Th) (pre:List Int),t.size<=n->(t.cut D pre).size<=t.size
 | 0,t,_,hn=>by have:=t.size_pos;omega
 | n+1,.call a b,pre,hn=>by rw [Th.cut,dU,Th.size];exact QF _
 | n+1,.knot m ks,pre,hn=>by
   rw [Th.cut];split
   · rw [dU,Th.size];omega
   · rw [Th.size] at hn;rw [Th.size,Th.size]
     have:∀ (us:List Th) (i:Int),ax us<=n->ax (cq D pre i us)<=ax us:=fun us=>by
      induction us with
      | nil=>intro i _;rw [cq];exact QF _
      | cons u us ih =>
        intro i h;rw [ax] at h;rw [cq,ax,ax];have h1:=ih (i+1) (by omega);have h2:=mZ D n u (pre++[i]) (by omega);omega
     have:=this ks 0 (by omega);omega
end BB
namespace L2
open PySem PySem.Spec PyProof.Rows
def sg (K:QB) (a:QD):It:=⟨fun i H=>∃ xs x,SqL K H a xs/\xs[i]?=some x,fun i H x H'=>∃ p y,H p=none/\x=.ref p/\H'=upd H p (.tup [.int (i:Nat),y])/\∀ xs,SqL K H a xs->xs[i]?=some y,fun i H=>∃ xs,SqL K H a xs/\xs.length=i⟩
theorem oU {P:QR} {w:Q3} {K:QB} {elts:List RO} {k1} {pos:US} (a e it:QD):Turn P w K (.Tuple elts k1 pos) (sg K a) [e,it] e (fun i h=>(∃ old,IsEnum h e it ((i:Nat):Int) old)/\h.IsListIter it a i) where
 mem:=by simp
 obj:=fun i h st b hb=>by
  obtain ⟨⟨old,he⟩,o,e1,e2,e3⟩:=st;rcases QZ.mp hb with rfl | hb
  · exact ⟨_,he,fun v z=>by cases z⟩
  · have:b=it:=by simpa using hb
    subst this;exact ⟨o,e1,fun v z=>by rw [e3] at z;cases z⟩
 keep:=fun i h h' st k=>by
  obtain ⟨⟨old,he⟩,o,e1,e2⟩:=st;exact ⟨⟨old,k e (by simp) _ he⟩,o,k it (by simp) _ e1,e2⟩
 item:=by
  intro X hP hw hK hc i pins s σ H E I hf st hg;subst hP hw hK;obtain ⟨xs,x,hq,hx⟩:=hg;obtain ⟨its,rv,p,hz⟩:=I.list hq;obtain ⟨u,hu,ru⟩:=rv.get hx;obtain ⟨⟨old,he⟩,hi⟩:=st
  have CY:e≠it:=by
   rintro rfl;obtain ⟨o,e1,e2,_⟩:=hi;rw [he] at e1;cases e1;exact absurd (So e2) (by decide)
  have CZ:a≠it:=by
   rintro rfl;obtain ⟨o,e1,e2,_⟩:=hi;obtain ⟨o',yx,yv,_⟩:=p.isList;rw [yx] at e1;cases e1;rw [yv] at e2;exact absurd (So e2) (by decide)
  have Il:a≠e:=by
   rintro rfl;obtain ⟨o',yx,yv,_⟩:=p.isList;rw [he] at yx;cases yx;exact absurd (So yv) (by decide)
  have wX:i<its.toArray.size:=by
   have:=(QL.mp hu).1;simpa using this
  have Im:e<s.heap.objs.size:=QT he;have yO:it<s.heap.objs.size:=by obtain ⟨o,e1,_⟩:=hi;exact QT e1
  refine wpAny_pyNext_enum_itemD (Draws.list (A:=X.A.in1) (show X.A.in1.handled=none from I.ok.hd hc) it a CZ its.toArray) he ⟨hi,p.isList⟩ wX CY (by simp [CY,Il.symm]) fun y h1 tk hy ho D3 hT hsz hk=>?_
  have Io:y=u:=by
   have:its[i]?=some y:=by simpa using hy
   rw [hu] at this;exact (Q8 this).symm
  subst Io;refine ⟨_,rfl,wpAny_letOwnedTupleGo_enum ho fun h2 Ip AL=>?_⟩;replace AL:Ss e h1 h2:=AL
  have xf:∀ b∈[e,it],b<s.heap.objs.size:=fun b hb=>by
   rcases QZ.mp hb with rfl | hb
   · exact Im
   · have:b=it:=by simpa using hb
     subst this;exact yO
  have EN:H s.heap.objs.size=none:=I.hok.fresh (QF _)
  have IA:Inv X pins σ (upd H s.heap.objs.size (.tup [.int (i:Nat),x])) { s with heap:=s.heap.push { cls:=.type "tuple",data:=.seq #[.int (i:Nat) tk,y] },toks:=tk } :=
   I.laid (o:=.tup [.int (i:Nat),x]) (fun b ob q=>QG _ q) (QF _) ⟨by show 2<=QW;decide,[.int (i:Nat) tk,y],0,.cons ⟨tk,rfl⟩ (.cons ru .nil),QQ _ rfl⟩
  refine ⟨.ref s.heap.objs.size,upd H s.heap.objs.size (.tup [.int (i:Nat),x]),?_,rfl,⟨_,x,EN,rfl,rfl,fun ys EJ=>by rw [I.list_inj EJ hq];exact hx⟩,⟨⟨y,by simpa using Ip⟩,?_⟩,fun b hb=>?_⟩
  · have IB:Inv X pins σ (upd H s.heap.objs.size (.tup [.int (i:Nat),x])) { s with heap:=h2,toks:=tk+1 }:=by
     refine Inv.turnedL (s:={ s with heap:=s.heap.push { cls:=.type "tuple",data:=.seq #[.int (i:Nat) tk,y] },toks:=tk }) (h':=h2) (fp:=[e,it]) (t':=tk+1) IA (fun b o hb q=>?_) fun b hb=>?_
     · have zT:b≠e:=fun z=>hb (by simp [z]);have Iq:b≠it:=fun z=>hb (by simp [z]);rw [AL.2 b zT];by_cases xb:b=s.heap.objs.size
       · subst xb;rw [hT];have q':(s.heap.push { cls:=.type "tuple",data:=.seq #[.int (i:Nat) tk,y] }).get? s.heap.objs.size=some o:=q;rw [QQ _ rfl] at q';exact q'
       · have y4:b<(s.heap.push { cls:=.type "tuple",data:=.seq #[.int (i:Nat) tk,y] }).objs.size:=QT q;rw [RR] at y4;refine hk b o zT Iq ?_;have q':(s.heap.push { cls:=.type "tuple",data:=.seq #[.int (i:Nat) tk,y] }).get? b=some o:=q;rw [Heap.get?_push_ne _ _ _ xb] at q';exact q'
     · obtain ⟨f0,f1⟩:=hf b hb;exact ⟨by rw [ai (Rh (xf b hb))];exact f0,f1⟩
    exact IB
  · obtain ⟨o,e1,r⟩:=D3.1;exact ⟨o,(AL.2 it (Sr CY)).trans e1,r⟩
  · rw [ai (Rh (xf b hb))];exact (hf b hb).1
 done:=by
  intro X hP hw hK hc i pins s σ H E I hf st hg;subst hP hw hK;obtain ⟨xs,hq,hx⟩:=hg;obtain ⟨its,rv,p,hz⟩:=I.list hq;obtain ⟨⟨old,he⟩,hi⟩:=st
  have CZ:a≠it:=by
   rintro rfl;obtain ⟨o,e1,e2,_⟩:=hi;obtain ⟨o',yx,yv,_⟩:=p.isList;rw [yx] at e1;cases e1;rw [yv] at e2;exact absurd (So e2) (by decide)
  have hn:its.toArray.size=i:=by
   have:=rv.length;rw [QN];omega
  refine wpAny_pyNext_enum_endD (Draws.list (A:=X.A.in1) (show X.A.in1.handled=none from I.ok.hd hc) it a CZ its.toArray) he (by rw [hn];exact ⟨hi,p.isList⟩) fun h' eb=>⟨rfl,?_⟩;exact I.turnedL (fp:=[e,it]) (t':=s.toks) (fun b o hb q=>eb b o (fun z=>hb (by simp [z])) q) hf
 self:=fun _ _ _ _ _ st h=>by
  obtain ⟨⟨old,he⟩,_⟩:=st;exact Vz he h
section
variable {X:Cx} {e:RO} {te:TE} {p2 xg:US}
def uz (K:QB) (tl:TE):TI:=fun σ H R=>tl σ H fun x H1=>∃ a,x=.ref a/\(∃ xs,SqL K H1 a xs)/\R (sg K a) H1
theorem mY {elts:List RO} {k1} {pos:US} (g2:Gl X "enumerate") (m2:X.mg "enumerate"=none) (he:PE X e te) (h2:RA [e] X.env=[(false,S4 e X.env)]:=by rfl):PI X (.Tuple elts k1 pos) (.Call (.Name "enumerate" p2) [e] [] xg) (uz X.K te):=by
 intro pins s σ H R I h;refine Sf (cF I g2 m2 boot_enumerate (Ry ?_ h2 rfl));rw [h2];show QU _ _ (spliced ((false,S4 e X.env)::[])) _ _ s;refine Sg (thn (he pins s σ H _ I h) fun u s1 ⟨x,H1,I1,r1,a,ex,⟨xs,hq⟩,q⟩=>SI ?_);subst ex;cases r1;obtain ⟨its,rv,p,hz⟩:=I1.list hq;refine call_enumerate_list (show s1.heap.IsList a its.toArray from p.isList) fun h' g1 g2 g3 g4=>?_;refine Vz (s:={ s1 with heap:=h' }) g1 ?_;refine ⟨s1.heap.objs.size+1,[s1.heap.objs.size+1,s1.heap.objs.size],_,_,H1,rfl,I1.kept (t':=s1.toks) g4,oU a _ _,⟨⟨_,g1⟩,g2⟩,fun b hb=>?_,q⟩
 have yk:s1.heap.objs.size<=b:=by
  rcases QZ.mp hb with rfl | hb
  · omega
  · have:b=s1.heap.objs.size:=by simpa using hb
    exact Wq this.symm
 exact I1.fpOk yk (I1.hok.fresh yk)
end
theorem qi {K:QB} {a:QD} {xs:List V} {g:TG} {tb:TS} {D:Ends} {σ:St} {H:Hp} (Pv:Nat->St->Hp->Prop) (h0:Pv 0 σ H) (hl:∀ i σ H,i<=xs.length->Pv i σ H->SqL K H a xs)
 (hs:∀ i x p σ H,xs[i]?=some x->H p=none->Pv i σ H->g (.ref p) σ (upd H p (.tup [.int (i:Nat),x])) fun w9 H2=>tb { D with nx:=Pv (i+1),ct:=Pv (i+1),bk:=D.nx } w9 H2) (hd:∀ σ H,Pv xs.length σ H->D.nx σ H) :
 ∃ W:Nat->Nat->St->Hp->Prop,(∃ m,W 0 m σ H)/\∀ i m σ H,W i m σ H →
   ((sg K a).stop i H/\D.nx σ H)∨((sg K a).go i H/\∃ N:St->Hp->Prop,(∀ wH H',N wH H'->∃ m',m'<m/\W (i+1) m' wH H')/\∀ x H',(sg K a).yld i H x H'->g x σ H' fun w9 H2=>tb { D with nx:=N,ct:=N,bk:=D.nx } w9 H2):=by
 refine ⟨fun i m σ H=>m=xs.length - i/\i<=xs.length/\Pv i σ H,⟨xs.length,by simp,Q7 _,h0⟩,?_⟩;rintro i m σ H ⟨rfl,hi,p⟩;have q:=hl i σ H hi p;by_cases wX:i<xs.length
 · refine .inr ⟨⟨xs,xs[i],q,by simp [wX]⟩,Pv (i+1),fun wH H' p'=>⟨xs.length - (i+1),by omega,rfl,wX,p'⟩,fun x H' y=>?_⟩;obtain ⟨pa,y,hp,rfl,rfl,hy⟩:=y;exact hs i y pa σ H (hy xs q) hp p
 · have e:i=xs.length:=by omega
   subst e;exact .inl ⟨⟨xs,q,rfl⟩,hd σ H p⟩
end L2
namespace LAW
open PySem L2 BB
def top (i:Nat):SD:=PySem.Challenge.pw_boughbook_k57_fronts_are_closed.main.body.getD i (.Pass ⟨0,0,0,0⟩)
theorem scm {N P:List Rc} {sc:UR} (a:sc.kind=.function:=by rfl) (b:sc.isCoroutine=false:=by rfl) (c:sc.isGenerator=false:=by rfl) (d:N.Nodup:=by decide +kernel) (e:N.take P.length=P:=by rfl) (f:∀ x∈P,sc.names.lookup x=some .local∨sc.names.lookup x=some .cell:=by decide +kernel) (g:∀ y∈sc.names,y.2≠.free:=by decide +kernel):ay N P sc:=⟨a,b,c,d,e,f,g⟩
abbrev iN:SD:=top 3
theorem oE:ay ["thing"] ["thing"] (aj iN):=scm
abbrev jM:SD:=top 4
theorem fR:ay ["thing","met","ahead","part"] ["thing"] (aj jM):=scm
abbrev jo:SD:=top 5
theorem cX:ay ["thing","met","ahead","place","part","kids"] ["thing"] (aj jo):=scm
abbrev mJ:SD:=top 6
theorem gO:ay ["tops","done","top","many"] ["tops"] (aj mJ):=scm
abbrev ku:SD:=top 7
theorem qz:ay ["tree"] ["tree"] (aj ku):=scm
abbrev iu:SD:=top 10
theorem oA:ay ["thing"] ["thing"] (aj iu):=scm
abbrev iK:SD:=top 11
theorem ou:ay ["thing"] ["thing"] (aj iK):=scm
abbrev iH:SD:=top 12
theorem oM:ay ["thing"] ["thing"] (aj iH):=scm
abbrev fA:SD:=top 13
theorem lQ:ay ["call"] ["call"] (aj fA):=scm
abbrev gy:SD:=top 14
theorem nN:ay ["pattern"] ["pattern"] (aj gy):=scm
abbrev gE:SD:=top 15
theorem nA:ay ["front"] ["front"] (aj gE):=scm
abbrev kc:SD:=top 16
theorem lE:ay ["part","many"] ["part"] (aj kc):=scm
abbrev ju:SD:=top 17
theorem iI:ay ["pattern","table","tops","part"] ["pattern","table"] (aj ju):=scm
abbrev gw:SD:=top 18
theorem mV:ay ["one","two"] ["one","two"] (aj gw):=scm
abbrev dl:SD:=top 19
theorem bT:ay ["one","two","met","ahead","left","right"] ["one","two"] (aj dl):=scm
abbrev jT:SD:=top 20
theorem fO:ay ["one","two","tops","left","right"] ["one","two"] (aj jT):=scm
abbrev jN:SD:=top 22
theorem qM:ay ["book"] ["book"] (aj jN):=scm
abbrev gG:SD:=top 23
theorem ni:ay ["book"] ["book"] (aj gG):=scm
abbrev fo:SD:=top 24
theorem lM:ay ["book"] ["book"] (aj fo):=scm
abbrev eF:SD:=top 26
theorem kN:ay ["ins"] ["ins"] (aj eF):=scm
abbrev eC:SD:=top 27
theorem dD:ay ["ins","kind","kids","name","many"] ["ins","kind","kids"] (aj eC):=scm
abbrev cN:SD:=top 28
theorem bd:ay ["book","names","at","made","state","patterns","kid"] ["book"] (aj cN):=scm
abbrev dL:SD:=top 29
theorem bm:ay ["book","state","made","partings","ins","front","kind","pattern","place"] ["book","state","made","partings"] (aj dL):=scm
abbrev fD:SD:=top 30
theorem bB:ay ["book","state","front","links","parts","kind","pattern","place","lower","kid","inner"] ["book","state","front","links"] (aj fD):=scm
abbrev kg:SD:=top 31
theorem bV:ay ["ins","links","partings","holes","at","one","two","state","place","kind","kid"] ["ins","links","partings"] (aj kg):=scm
abbrev fh:SD:=top 32
theorem ci:ay ["front","state","partings","tops","ahead","place","part","kids"] ["front","state","partings"] (aj fh):=scm
abbrev dh:SD:=top 33
theorem bi:ay ["book","made","partings","firsts","links","state","front"] ["book"] (aj dh):=scm
abbrev fE:SD:=top 34
theorem eM:ay ["book","fronts","partings"] ["book"] (aj fE):=scm
abbrev fC:SD:=top 36
theorem lV:ay ["script","k"] ["script","k"] (aj fC):=scm
abbrev dM:SD:=top 37
theorem de:ay ["cells","many","found","k"] ["cells","many"] (aj dM):=scm
abbrev eI:SD:=top 38
theorem aV:ay ["cell","every","step","at","word","k","names","turn"] ["cell"] (aj eI):=scm
abbrev eS:SD:=top 39
theorem bf:ay ["cell","names","many","leaf","rest","kinds","k","count"] ["cell","names"] (aj eS):=scm
abbrev eQ:SD:=top 40
theorem bg:ay ["left","outs","states","kids","digit","state","kid","fit","kind","made","k"] ["left","outs","states","kids"] (aj eQ):=scm
abbrev dJ:SD:=top 41
theorem cz:ay ["thing","found","k"] ["thing"] (aj dJ):=scm
abbrev gB:SD:=top 42
theorem i9:ay ["thing","place","other","k"] ["thing","place","other"] (aj gB):=scm
abbrev eL:SD:=top 43
theorem dI:ay ["cell","k","number"] ["cell","k"] (aj eL):=scm
abbrev fG:SD:=top 44
theorem aY:ay ["cells","ins","outs","states","rows","state","own","base","spots","row","k","number","place","part"] ["cells","ins","outs","states"] (aj fG):=scm
abbrev ff:SD:=top 45
theorem ig:ay ["cells","ins","outs","states","head"] ["cells","ins","outs","states"] (aj ff):=scm
abbrev eK:SD:=top 46
theorem ck:ay ["script","most","ins","outs","states","cells"] ["script","most"] (aj eK):=scm
abbrev cM:SD:=top 47
theorem iP:ay ["outs","front"] ["outs","front"] (aj cM):=scm
abbrev fx:SD:=top 49
theorem lU:ay ["front","thing","fronts"] ["front","thing","fronts"] (aj fx):=scm
abbrev b8:SD:=top 50
theorem fe:ay ["book","fronts"] ["book","fronts"] (aj b8):=scm
abbrev dH:SD:=top 51
theorem dk:ay ["book","fronts","state","pattern"] ["book","fronts"] (aj dH):=scm
abbrev gQ:SD:=top 52
theorem oK:ay ["script","book","fronts"] ["script"] (aj gQ):=scm
structure FX (K:QB) (mg:Rc->Option QE) (n:Rc) (s:SD) (ps:List Rc) where
 f:QD
 d:Ua
 F:Fun K n n s f d
 b:Binds K d ps []
 m:mg n=some (.ref f)
section
open PySem.W
variable {K:Frag} {mg:Rc->Option QE} {h:RS} {n:Rc} {st:SD} {f:QD} {oc kV dc pm cd ct:QE} {od an:Option QD} {sl:Array (Option QE)} (X:K.In h) (G:h.Ns Rp mg)
noncomputable def fx1 {p0:Rc} (a:nsIn K Rp n=some (some (.ref f)):=by k_is) (l:K.lookup f=some ⟨oc,od,.func (fnOf n n (bY st) (bR st) (aj st) .none kV dc pm an cd ct),sl⟩:=by k_is) (c:codeIn K cd n=true:=by k_is) (k:keepIn K (.ref f)=true:=by k_is) (hb:∀ (kV dc pm:QE) (an:Option QD) (cd ct u0:QE),bindArgs (fnOf n n (bY st) (bR st) (aj st) .none kV dc pm an cd ct) ⟨[u0],[]⟩=pure [(p0,u0)]:=by intros;rfl):FX K mg n st [p0] :=
 ⟨f,_,eG l c k,(eG l c k).binds fun a b c d e f us hl=>by obtain ⟨u0,rfl⟩:=us1 hl;exact hb a b c d e f u0,mg_of X G a⟩
noncomputable def fx2 {p0 p1:Rc} (a:nsIn K Rp n=some (some (.ref f)):=by k_is) (l:K.lookup f=some ⟨oc,od,.func (fnOf n n (bY st) (bR st) (aj st) .none kV dc pm an cd ct),sl⟩:=by k_is) (c:codeIn K cd n=true:=by k_is) (k:keepIn K (.ref f)=true:=by k_is) (hb:∀ (kV dc pm:QE) (an:Option QD) (cd ct u0 u1:QE),bindArgs (fnOf n n (bY st) (bR st) (aj st) .none kV dc pm an cd ct) ⟨[u0,u1],[]⟩=pure [(p0,u0),(p1,u1)]:=by intros;rfl):FX K mg n st [p0,p1] :=
 ⟨f,_,eG l c k,(eG l c k).binds fun a b c d e f us hl=>by obtain ⟨u0,u1,rfl⟩:=us2 hl;exact hb a b c d e f u0 u1,mg_of X G a⟩
noncomputable def fx3 {p0 p1 p2:Rc} (a:nsIn K Rp n=some (some (.ref f)):=by k_is) (l:K.lookup f=some ⟨oc,od,.func (fnOf n n (bY st) (bR st) (aj st) .none kV dc pm an cd ct),sl⟩:=by k_is) (c:codeIn K cd n=true:=by k_is) (k:keepIn K (.ref f)=true:=by k_is) (hb:∀ (kV dc pm:QE) (an:Option QD) (cd ct u0 u1 u2:QE),bindArgs (fnOf n n (bY st) (bR st) (aj st) .none kV dc pm an cd ct) ⟨[u0,u1,u2],[]⟩=pure [(p0,u0),(p1,u1),(p2,u2)]:=by intros;rfl):FX K mg n st [p0,p1,p2] :=
 ⟨f,_,eG l c k,(eG l c k).binds fun a b c d e f us hl=>by obtain ⟨u0,u1,u2,rfl⟩:=us3 hl;exact hb a b c d e f u0 u1 u2,mg_of X G a⟩
noncomputable def fx4 {p0 p1 p2 p3:Rc} (a:nsIn K Rp n=some (some (.ref f)):=by k_is) (l:K.lookup f=some ⟨oc,od,.func (fnOf n n (bY st) (bR st) (aj st) .none kV dc pm an cd ct),sl⟩:=by k_is) (c:codeIn K cd n=true:=by k_is) (k:keepIn K (.ref f)=true:=by k_is) (hb:∀ (kV dc pm:QE) (an:Option QD) (cd ct u0 u1 u2 u3:QE),bindArgs (fnOf n n (bY st) (bR st) (aj st) .none kV dc pm an cd ct) ⟨[u0,u1,u2,u3],[]⟩=pure [(p0,u0),(p1,u1),(p2,u2),(p3,u3)]:=by intros;rfl):FX K mg n st [p0,p1,p2,p3] :=
 ⟨f,_,eG l c k,(eG l c k).binds fun a b c d e f us hl=>by obtain ⟨u0,u1,u2,u3,rfl⟩:=us4 hl;exact hb a b c d e f u0 u1 u2 u3,mg_of X G a⟩
end
theorem pcF {X:Cx} {kk k:Nat} {sp:Sp} {n:Rc} {st:SD} {ps:List Rc} {e:RO} {es:List RO} {t:TA} {p pos:US} (g:FX X.K X.mg n st ps) (F:bh X.prog X.w X.K X.mg X.base CX0 k g.f g.d ps sp) (hr:Room kk X.A) (ha:PA X (e::es) t) (hle:k<=kk:=by first | decide | omega) (hg:Gl X n:=by rfl) (CS:(n == ("__debug__":Rc))=false:=by decide) (he:RA (e::es) X.env=(false,S4 e X.env)::RA es X.env:=by rfl) (xW:(U0 pos (RA es X.env)).any (·.1)=false:=by rfl):PE X (.Call (.Name n p) (e::es) [] pos) (fF sp [] E0 t) :=
 eR F (hr.mono hle) hg g.m g.F.kp g.b .nil jW ha CS he xW
structure TX (K:QB) (mg:Rc->Option QE) where
 c_CALL_SIGN:∃ tk,mg "CALL_SIGN"=some (.str (QK "?") tk)
 c_MOST_KIDS:∃ tk,mg "MOST_KIDS"=some (.int (3) tk)
 a_HOLE:QD
 c_HOLE:mg "HOLE"=some (.ref a_HOLE)
 q_HOLE:∀ H:Hp,SqT K H a_HOLE [.str (QK "*")]
 g_kids_of:FX K mg "kids_of" iN ["thing"]
 g_walked:FX K mg "walked" jM ["thing"]
 g_placed:FX K mg "placed" jo ["thing"]
 g_built:FX K mg "built" mJ ["tops"]
 g_places:FX K mg "places" ku ["tree"]
 g_is_call:FX K mg "is_call" iu ["thing"]
 g_is_hole:FX K mg "is_hole" iK ["thing"]
 g_is_knot:FX K mg "is_knot" iH ["thing"]
 g_called_by:FX K mg "called_by" fA ["call"]
 g_calls_in:FX K mg "calls_in" gy ["pattern"]
 g_holes_in:FX K mg "holes_in" gE ["front"]
 g_top_of:FX K mg "top_of" kc ["part"]
 g_filled:FX K mg "filled" ju ["pattern","table"]
 g_same_top:FX K mg "same_top" gw ["one","two"]
 g_side_by_side:FX K mg "side_by_side" dl ["one","two"]
 g_common:FX K mg "common" jT ["one","two"]
 g_ins_of:FX K mg "ins_of" jN ["book"]
 g_rules_of:FX K mg "rules_of" gG ["book"]
 g_states_of:FX K mg "states_of" fo ["book"]
 g_small_tree:FX K mg "small_tree" eF ["ins"]
 g_knot_above:FX K mg "knot_above" eC ["ins","kind","kids"]
 g_first_makings:FX K mg "first_makings" cN ["book"]
 g_first_front:FX K mg "first_front" dL ["book","state","made","partings"]
 g_put_links:FX K mg "put_links" fD ["book","state","front","links"]
 g_spread:FX K mg "spread" kg ["ins","links","partings"]
 g_cut_front:FX K mg "cut_front" fh ["front","state","partings"]
 g_found_fronts:FX K mg "found_fronts" dh ["book"]
 g_fronts_of:FX K mg "fronts_of" fE ["book"]
 g__law_cell:FX K mg "_law_cell" fC ["script","k"]
 g__law_folded:FX K mg "_law_folded" dM ["cells","many"]
 g__law_names:FX K mg "_law_names" eI ["cell"]
 g__law_kinds:FX K mg "_law_kinds" eS ["cell","names"]
 g__law_thing:FX K mg "_law_thing" eQ ["left","outs","states","kids"]
 g__law_places:FX K mg "_law_places" dJ ["thing"]
 g__law_put:FX K mg "_law_put" gB ["thing","place","other"]
 g__law_mixed:FX K mg "_law_mixed" eL ["cell","k"]
 g__law_rows:FX K mg "_law_rows" fG ["cells","ins","outs","states"]
 g__law_book:FX K mg "_law_book" ff ["cells","ins","outs","states"]
 g__law_drawn:FX K mg "_law_drawn" eK ["script","most"]
 g__law_is_front:FX K mg "_law_is_front" cM ["outs","front"]
 g__law_lies:FX K mg "_law_lies" fx ["front","thing","fronts"]
 g__law_fronts_formed:FX K mg "_law_fronts_formed" b8 ["book","fronts"]
 g__law_closed:FX K mg "_law_closed" dH ["book","fronts"]
 g_law:FX K mg "law" gQ ["script"]
 n_all:mg "all"=none
 n_dict:mg "dict"=none
 n_enumerate:mg "enumerate"=none
 n_isinstance:mg "isinstance"=none
 n_len:mg "len"=none
 n_list:mg "list"=none
 n_range:mg "range"=none
 n_reversed:mg "reversed"=none
 n_str:mg "str"=none
 n_tuple:mg "tuple"=none
 n_zip:mg "zip"=none
theorem tK:([QK "number",QK "kid",QK "place"]:List Rc).Nodup:=by decide +kernel
theorem wA:([QK "number",QK "done"]:List Rc).Nodup:=by decide +kernel
theorem vf:([QK "place",QK "knot"]:List Rc).Nodup:=by decide +kernel
theorem tz:([QK "place",QK "part"]:List Rc).Nodup:=by decide +kernel
theorem tF:([QK "name",QK "many"]:List Rc).Nodup:=by decide +kernel
theorem wa:([QK "kid",QK "kids",QK "ins"]:List Rc).Nodup:=by decide +kernel
theorem wd:([QK "state",QK "book",QK "made",QK "partings"]:List Rc).Nodup:=by decide +kernel
theorem vN:([QK "state",QK "front",QK "partings"]:List Rc).Nodup:=by decide +kernel
theorem wq:([QK "k",QK "cells"]:List Rc).Nodup:=by decide +kernel
theorem wc:([QK "kind",QK "left"]:List Rc).Nodup:=by decide +kernel
theorem vW:([QK "place",QK "k"]:List Rc).Nodup:=by decide +kernel
theorem vg:([QK "k",QK "fronts",QK "front",QK "thing"]:List Rc).Nodup:=by decide +kernel
theorem vV:([QK "part",QK "outs"]:List Rc).Nodup:=by decide +kernel
theorem vh:([QK "front",QK "book"]:List Rc).Nodup:=by decide +kernel
section
variable {P:QR} {w:Q3} {K:QB} {mg:Rc->Option QE} {base:RS} (T:TX K mg)
inductive i3 (K:QB) (vs:List V) (H:Hp) (Q:VK) (_E:XK):Prop
 | mk (a:QD) (t:Th) (wZ:vs=[.ref a]) (w4:AtK K H t a) (w8:∀ (r:QD) (as:List QD) (H':Hp),L2.Same H H'->H' r=some (.tup (as.map V.ref))->AtsK K H' t.kids as->Q (.ref r) H'):i3 K vs H Q _E
def pc (K:QB):Sp:=i3 K
theorem gH:bh P w K mg base CX0 1 T.g_kids_of.f T.g_kids_of.d ["thing"] (pc K):=by
 refine T.g_kids_of.F.ok oE (fun vs H Q E h=>?_) (fun wQ A outer s H vs Q E hr h=>?_)
 · obtain ⟨a,t,rfl,_⟩:=h;rfl
 obtain ⟨a,t,rfl,hA,k⟩:=h
 refine ⟨_,(ae (bS (aS cP (aG aL (pv 0) af (fun _ _=>rfl)) (fL (v:=.str (QK "?")) rfl T.c_CALL_SIGN.choose_spec ⟨_,rfl⟩) (aW _)) (ag (aA (aH ac))) bH)
  (ag (aA (bj eE (pv 0) (bq af) bQ)))),?_⟩
 try dsimp only [xl,wN]
 cases t with
 | knot n ks =>
   rw [AtK] at hA;refine hid fun ZZ kZ=>?_;obtain ⟨hn,as,h1,h2⟩:=hA;refine kZ ?_;refine ⟨_,rfl,a,_,0,.str n,rfl,rfl,h1.sq,at0,rfl,_,rfl,?_⟩;refine cr (fun c=>absurd (of_decide_eq_true c) (fun z=>hn (V.str.inj z))) (fun _=>?_);refine ⟨_,rfl,1,rfl,a,_,rfl,h1.sq,?_,fun r hr=>?_⟩
   · intro z;have:=z.1;simp [HT.sIx] at this
   · rw [d4];exact k r as _ (ad hr _) ab (h2.mono (df hr))
 | call sn kn =>
   rw [AtK] at hA;refine ⟨_,rfl,a,_,0,.str q,rfl,rfl,hA.sq,at0,rfl,_,rfl,?_⟩;refine cr (fun _=>?_) (fun c=>absurd (decide_eq_true rfl) c);refine ⟨by show 0<=QW;decide,fun r hr=>?_⟩;exact k r [] _ (ad hr _) ab .nil
inductive jS (K:QB) (vs:List V) (H:Hp) (Q:VK) (_E:XK):Prop
 | mk (a:QD) (t:Th) (wZ:vs=[.ref a]) (w4:AtK K H t a) (w8:t.size<=100000) (xj:∀ (r:QD) (as:List QD) (H':Hp),L2.Same H H'->H r=none->H' r=some (.lst (as.map V.ref))->AtsK K H' t.walk as->Q (.ref r) H'):jS K vs H Q _E
def qg (K:QB):Sp:=jS K
theorem qS:bh P w K mg base CX0 2 T.g_walked.f T.g_walked.d ["thing"] (qg K):=by
 refine T.g_walked.F.ok fR (fun vs H Q E h=>?_) (fun wQ A outer s H vs Q E hr h=>?_)
 · obtain ⟨a,t,rfl,_⟩:=h;rfl
 obtain ⟨a,t,rfl,hA,hsz,k⟩:=h
 refine ⟨_,(ae (aw (i:=1) fR.nd rfl (QY rfl) (bv ac))
  (ae (aw (i:=2) fR.nd rfl (QY rfl) (bv (aa (pv 0) ac)))
  (ae (ft Rg (bA (pv 2) (fun _=>rfl)) (ae (aw (i:=3) fR.nd rfl (QY rfl) (ko QV TV TU jV (pv 2)))
  (ae (aN (bN QV Q5 Q4 aJ (pv 1) (aa (pv 3) ac)))
  (ag (aN (bN QV Uu Ut oQ (pv 2) (aa (pN uW (pcF T.g_kids_of (gH T) hr (aa (pv 3) ac))) ac)))))))
  (ag (aA (pv 1)))))),?_⟩
 try dsimp only [xl,wN]
 refine ⟨by show 0<=QW;decide,fun mt yQ=>?_⟩;refine ⟨_,rfl,by show 1<=QW;decide,fun ah yJ=>?_⟩;have yz:H ah=none:=(ad yQ _).free yJ;have xf:ah≠mt:=fun z=>by rw [z,ab] at yJ;cases yJ
 refine ⟨fun m σ H2=>Ex5 fun (ms as:List QD) (Ms As:List Th) (p:Option V)=>An8 (σ=[some (.ref a),some (.ref mt),some (.ref ah),p]) (L2.Same H H2) (H2 mt=some (.lst (ms.map V.ref))) (H2 ah=some (.lst (as.map V.ref))) (AtsK K H2 Ms ms) (AtsK K H2 As as) (Ms++walks As.reverse=t.walk) (m=ax As),⟨_,[],[a],[],[t],none,rfl,?_,?_,?_,.nil,.cons (hA.mono ?_) .nil,?_,rfl⟩,?_⟩
 · exact ao (ad yQ _) yz
 · rw [ai xf.symm,ab];rfl
 · rw [ab];rfl
 · exact Same.kt (ao (ad yQ _) yz)
 · simp [walks]
 rintro m σ H2 ⟨ms,as,Ms,As,p,rfl,sm,e1,e2,a1,a2,hw,rfl⟩
 have hlen:ms.length+ax As<=100000:=by
  have h1:=congrArg U1 hw;rw [QX,ir,Th.walk_len,<- a1.length] at h1;have h2:=lB As;omega
 refine ⟨_,rfl,_,.inl ⟨_,SqL.of e2,rfl⟩,?_⟩;refine cr (fun c=>?_) (fun c=>?_)
 · -- a part is taken off
   refine ⟨fun wH H'=>∃ m',m'<ax As/\Ex5 fun (ms as:List QD) (Ms As:List Th) (p:Option V)=>An8 (wH=[some (.ref a),some (.ref mt),some (.ref ah),p]) (L2.Same H H') (H' mt=some (.lst (ms.map V.ref))) (H' ah=some (.lst (as.map V.ref))) (AtsK K H' Ms ms) (AtsK K H' As as) (Ms++walks As.reverse=t.walk) (m'=ax As),fun wH H' h=>h,?_⟩;have yg:as≠[]:=by intro z;subst z;simp at c
   obtain ⟨wY,b,rfl⟩:∃ wY b,as=wY++[b]:=⟨as.dropLast,as.getLast yg,(SV yg).symm⟩;obtain ⟨Us,x,rfl,a3,a4⟩:=a2.snoc_inv;have hs:ax (Us++[x])=ax Us+x.size:=by rw [bD,ax,ax];omega
   have Fb:=x.size_eq;rw [hs] at hlen;refine ⟨_,rfl,.inl ⟨rfl,_,SqL.of e2⟩,ah,_,.ref b,rfl,rfl,e2,by simp,?_⟩;have d1:((wY++[b]).map V.ref).dropLast=wY.map V.ref:=by simp
   rw [d1];refine ⟨_,rfl,.inl ⟨rfl,_,SqL.of (by rw [ai xf.symm];exact e1)⟩,_,rfl,mt,_,.ref b,rfl,rfl,by rw [ai xf.symm];exact e1,aD (by rw [QA];omega),?_⟩;have k1:KT H2 (upd (upd H2 ah (.lst (wY.map V.ref))) mt (.lst (ms.map V.ref++[.ref b]))):=(aQ e2).trans (aQ (xs:=ms.map V.ref) (by rw [ai xf.symm];exact e1));refine ⟨_,rfl,.inl ⟨rfl,_,SqL.of (by rw [ai xf,ab])⟩,_,rfl,b,x,rfl,a4.mono k1,fun r ks H3 s3 e3 a5=>?_⟩;refine ⟨r,_,rfl,SqT.of e3,fun l hl=>?_⟩;have l1:l≠ah:=fun z=>by rw [z,s3 ah _ (by rw [ai xf,ab])] at hl;cases hl
   have l2:l≠mt:=fun z=>by rw [z,s3 mt _ ab] at hl;cases hl
   refine ⟨ah,l,_,_,rfl,rfl,by rw [ai l1.symm];exact s3 ah _ (by rw [ai xf,ab]),SqT.of ab,Ui (aD ?_),?_⟩
   · have q1:=a3.length;have q2:=a5.length;have q3:=bL Us;have q4:=bL x.kids;rw [QA,RU,QA];omega
   · have k2:KT H2 (upd (upd H3 l (.tup (ks.map V.ref).reverse)) ah (.lst (wY.map V.ref++(ks.map V.ref).reverse))) :=
      k1.trans ((Same.kt s3).trans ((df hl).trans (aQ (xs:=wY.map V.ref) (by rw [ai l1.symm];exact s3 ah _ (by rw [ai xf,ab])))))
     have k3:KT H3 (upd (upd H3 l (.tup (ks.map V.ref).reverse)) ah (.lst (wY.map V.ref++(ks.map V.ref).reverse))) :=
      (df hl).trans (aQ (xs:=wY.map V.ref) (by rw [ai l1.symm];exact s3 ah _ (by rw [ai xf,ab])))
     refine ⟨ax (Us++x.kids.reverse),?_,ms++[b],wY++ks.reverse,Ms++[x],Us++x.kids.reverse,some (.ref b),rfl,?_,?_,?_,?_,?_,?_,rfl⟩
     · rw [bD,lB,hs];omega
     · have s4:L2.Same H (upd (upd H2 ah (.lst (wY.map V.ref))) mt (.lst (ms.map V.ref++[.ref b]))):=ao (ao sm yz) yQ;have nl:H l=none:=s4.free (s3.free hl);exact ao (ao (s4.trans s3) nl) yz
     · rw [ai xf.symm,ai l2.symm,s3 mt _ ab,QS];rfl
     · rw [ab,QS,Vw]
     · exact (a1.mono k2).append (.cons (a4.mono k2) .nil)
     · exact (a3.mono k2).append (a5.mono k3).reverse
     · rw [<- hw,RG,R5,R5,Sx,ij];show Ms++([x]++(walks x.kids++walks Us.reverse))=Ms++walks (x::Us.reverse);rw [walks,x.walk_eq];rfl
 · have hz:as=[]:=by
    cases as with
    | nil=>rfl
    | cons y ys=>simp at c
   subst hz;have BJ:As=[]:=Sj.mp a2.length.symm;subst BJ;refine ⟨_,rfl,k mt ms H2 sm yQ e1 ?_⟩;have Dd:Ms=t.walk:=by simpa [walks] using hw
   rw [<- Dd];exact a1
inductive j1 (K:QB) (vs:List V) (H:Hp) (Q:VK) (_E:XK):Prop
 | mk (a:QD) (t:Th) (wZ:vs=[.ref a]) (w4:AtK K H t a) (w8:t.size<=100000) (xj:t.tall<=100000) (xB:∀ (r:QD) (as:List QD) (H':Hp),L2.Same H H'->H r=none->H' r=some (.lst (as.map V.ref))->PsAtK K H' (t.pl []) as->Q (.ref r) H'):j1 K vs H Q _E
def qU (K:QB):Sp:=j1 K
theorem fQ:bh P w K mg base CX0 2 T.g_placed.f T.g_placed.d ["thing"] (qU K):=by
 refine T.g_placed.F.ok cX (fun vs H Q E h=>?_) (fun wQ A outer s H vs Q E hr h=>?_)
 · obtain ⟨a,t,rfl,_⟩:=h;rfl
 obtain ⟨a,t,rfl,hA,hsz,xw,k⟩:=h
 refine ⟨_,(ae (aw (i:=1) cX.nd rfl (QY rfl) (bv ac))
  (ae (aw (i:=2) cX.nd rfl (QY rfl) (bv (aa (aH (aa (aH ac) (aa (pv 0) ac))) ac)))
  (ae (ft Rg (bA (pv 2) (fun _=>rfl)) (ae (cO (ko QV TV TU jV (pv 2)) (bp rfl (aq (am (i:=3) cX.nd rfl (Wb rfl)) (aq (am (i:=4) cX.nd rfl (QY rfl)) aX))))
  (ae (aN (bN QV Q5 Q4 aJ (pv 1) (aa (aH (aa (pv 3) (aa (pv 4) ac))) ac)))
  (ae (fN (i:=5) (N:=[QK "number",QK "kid",QK "place"]) (js:=[none,none,some 3]) (g:=(kM K 2 (cD (aI 0) (cD (aI 1) kH)))) (tt:=bZ) (te:=(mm (bn (tOp (lI K) (bu 2) (mm (bn (bu 0) dP))) (bn (bu 1) dP)))) cX.nd rfl (QY rfl) rfl (cL rfl (by decide +kernel) (by decide +kernel) rfl rfl rfl) (mB rfl T.n_enumerate (pcF T.g_kids_of (gH T) hr (aa (pv 4) ac))) (fun _ _ _ _ _ _=>(bp rfl (aq (am (i:=0) tK rfl (QY rfl)) (aq (am (i:=1) tK rfl (QY rfl)) aX)))) (fI (bJ aO (aR rfl) (bJ aO (aR rfl) fw))) (fun _ _ _ _ _ _=>cg) (fun _ _ _ _ _ _=>(aH (aa (av cS (pv 2) (aH (aa (pv 0) ac))) (aa (pv 1) ac)))))
  (ag (aN (bN QV Uu Ut iA (pv 2) (aa (pN sW (pv 5)) ac))))))))
  (ag (aA (pv 1)))))),?_⟩
 try dsimp only [xl,wN]
 refine ⟨ak (by show 0<=1000000;decide),fun mt yQ=>?_⟩;have s1:L2.Same H (upd H mt (.lst [])):=ad yQ _;have De:(upd H mt (.lst [])) mt=some (.lst []):=ab;generalize upd H mt (.lst [])=H1 at s1 De ⊢;refine ⟨ak (by show 0<=1000000;decide),fun p0 BK=>?_⟩;refine ⟨_,rfl,ak (by show 2<=1000000;decide),fun p1 y9=>?_⟩;refine ⟨ak (by show 1<=1000000;decide),fun ah yJ=>?_⟩;have s2:L2.Same H1 (upd (upd H1 p0 (.tup [])) p1 (.tup [.ref p0,.ref a])):=(ad BK _).trans (ad y9 _);have e1:(upd (upd H1 p0 (.tup [])) p1 (.tup [.ref p0,.ref a])) p1=some (.tup [.ref p0,.ref a]):=ab;have e0:(upd (upd H1 p0 (.tup [])) p1 (.tup [.ref p0,.ref a])) p0=some (.tup []):=ad y9 _ _ _ ab;generalize (upd (upd H1 p0 (.tup [])) p1 (.tup [.ref p0,.ref a]))=H2 at s2 e1 e0 yJ ⊢;have zC:H1 ah=none:=s2.free yJ;have yz:H ah=none:=s1.free zC;have xf:ah≠mt:=fun z=>by rw [z,De] at zC;cases zC
 refine ⟨fun m σ H3=>Ex7 fun (ms as:List QD) (Ms As:List (List Int×Th)) (c3 c4 c5:Option V)=>An9 (σ=[some (.ref a),some (.ref mt),some (.ref ah),c3,c4,c5]) (L2.Same H H3) (H3 mt=some (.lst (ms.map V.ref))) (H3 ah=some (.lst (as.map V.ref))) (PsAtK K H3 Ms ms) (PsAtK K H3 As as) (Ms++plP As.reverse=t.pl []) ((∀ p∈As,p.1.length+p.2.tall<=100000)) (m=szP As),⟨_,[],[p1],[],[([],t)],none,none,none,rfl,?_,?_,?_,.nil,.cons ⟨p0,a,?_,?_,?_⟩ .nil,?_,?_,rfl⟩,?_⟩
 · exact ao (s1.trans s2) yz
 · rw [ai xf.symm];exact s2 _ _ De
 · rw [ab];rfl
 · exact ad yJ _ _ _ e1
 · exact ad yJ _ _ _ e0
 · exact hA.mono (Same.kt (ao (s1.trans s2) yz))
 · simp [plP]
 · intro p hp;rw [Q2] at hp;subst hp;simpa using xw
 rintro m σ H3 ⟨ms,as,Ms,As,c3,c4,c5,rfl,sm,em,ea,a1,a2,hw,hb,rfl⟩
 have hlen:ms.length+szP As<=100000:=by
  have h1:=congrArg U1 hw;rw [QX,pX,Th.pl_len,ji] at h1;have h2:=QP a1;omega
 refine ⟨_,rfl,_,.inl ⟨_,SqL.of ea,rfl⟩,?_⟩;refine cr (fun c=>?_) (fun c=>?_)
 · refine ⟨fun wH H'=>∃ m',m'<szP As/\Ex7 fun (ms as:List QD) (Ms As:List (List Int×Th)) (c3 c4 c5:Option V)=>An9 (wH=[some (.ref a),some (.ref mt),some (.ref ah),c3,c4,c5]) (L2.Same H H') (H' mt=some (.lst (ms.map V.ref))) (H' ah=some (.lst (as.map V.ref))) (PsAtK K H' Ms ms) (PsAtK K H' As as) (Ms++plP As.reverse=t.pl []) ((∀ p∈As,p.1.length+p.2.tall<=100000)) (m'=szP As),fun wH H' h=>h,?_⟩;have yg:as≠[]:=by intro z;subst z;simp at c
   refine hid fun ZZ kZ=>?_;obtain ⟨wY,b,rfl⟩:∃ wY b,as=wY++[b]:=⟨as.dropLast,as.getLast yg,(SV yg).symm⟩;obtain ⟨Us,⟨pre,x⟩,rfl,a3,pa,ta,eb,zb,Aw⟩:=P2.snoc_inv a2;refine kZ ?_;have Fc:szP (Us++[(pre,x)])=szP Us+x.size:=by rw [cp,szP,szP];rfl
   have Fb:=x.size_eq;rw [Fc] at hlen;have GY:=hb (pre,x) (by simp);simp only at GY zb Aw;refine ⟨_,rfl,.inl ⟨rfl,_,SqL.of ea⟩,ah,_,.ref b,rfl,rfl,ea,by simp,?_⟩;have d1:((wY++[b]).map V.ref).dropLast=wY.map V.ref:=by simp
   rw [d1];have k1:KT H3 (upd H3 ah (.lst (wY.map V.ref))):=aQ ea;have Cu:L2.Same H (upd H3 ah (.lst (wY.map V.ref))):=ao sm yz;have zO:(upd H3 ah (.lst (wY.map V.ref))) mt=some (.lst (ms.map V.ref)):=by rw [ai xf.symm];exact em
   have Df:(upd H3 ah (.lst (wY.map V.ref))) ah=some (.lst (wY.map V.ref)):=ab;generalize (upd H3 ah (.lst (wY.map V.ref)))=H4 at k1 Cu zO Df ⊢;refine ⟨b,_,rfl,SqT.of (k1 _ _ eb),rfl,_,_,rfl,_,_,rfl,rfl,?_⟩
   -- met.append((place,part))
   refine ⟨_,rfl,.inl ⟨rfl,_,SqL.of zO⟩,_,rfl,_,rfl,ak (by show 2<=1000000;decide),fun pr zj=>?_⟩;have IW:mt≠pr:=aE zO zj;refine ⟨mt,_,_,rfl,rfl,ad zj _ _ _ zO,aD (by rw [QA];omega),?_⟩;have IX:(upd H4 pr (.tup [.ref pa,.ref ta])) mt=some (.lst (ms.map V.ref)):=ad zj _ _ _ zO;have k2:KT H4 (upd (upd H4 pr (.tup [.ref pa,.ref ta])) mt (.lst (ms.map V.ref++[.ref pr]))):=(df zj).trans (aQ IX);have IY:L2.Same H (upd (upd H4 pr (.tup [.ref pa,.ref ta])) mt (.lst (ms.map V.ref++[.ref pr]))):=ao (ao Cu (Cu.free zj)) yQ;have Lx:(upd (upd H4 pr (.tup [.ref pa,.ref ta])) mt (.lst (ms.map V.ref++[.ref pr]))) mt=some (.lst ((ms++[pr]).map V.ref)):=by rw [ab,QS];rfl
   have GZ:(upd (upd H4 pr (.tup [.ref pa,.ref ta])) mt (.lst (ms.map V.ref++[.ref pr]))) ah=some (.lst (wY.map V.ref)):=by rw [ai xf,ai (aE Df zj)];exact Df
   have D8:(upd (upd H4 pr (.tup [.ref pa,.ref ta])) mt (.lst (ms.map V.ref++[.ref pr]))) pr=some (.tup [.ref pa,.ref ta]):=by rw [ai IW.symm,ab]
   generalize (upd (upd H4 pr (.tup [.ref pa,.ref ta])) mt (.lst (ms.map V.ref++[.ref pr])))=H5 at k2 IY Lx GZ D8 ⊢;have D9:KT H3 H5:=k1.trans k2;have IZ:=D9 _ _ zb
   -- kids
   refine ⟨_,rfl,ta,x,rfl,Aw.mono D9,fun r ks H6 s6 er yy=>⟨r,rfl,⟨_,SqT.of er⟩,?_⟩⟩;have xT:ks.length=x.kids.length:=yy.length;have Fd:=bL x.kids;intro D hD;have I0:=s6 _ _ IZ;refine ⟨ks.length,fun j H7=>An3 (j<=ks.length) (L2.Same H6 H7) (Ex1 fun (bs:List QD)=>An2 (H7 D=some (.lst (bs.map V.ref))) (PsAtK K H7 ((cB pre 0 x.kids).take j) bs)),⟨Q7 _,ad hD _,[],ab,.nil⟩,?_⟩;rintro j H7 ⟨hj,s7,bs,eD,xm⟩;by_cases zD:j=ks.length
   · left;refine ⟨⟨_,SqT.of (s7 _ _ er),by rw [QA];exact zD.symm⟩,?_⟩;have wM:(cB pre 0 x.kids).take j=cB pre 0 x.kids:=by rw [zD,xT,<- fH pre 0 x.kids,S8]
     rw [wM] at xm;have Ja:=s7 _ _ (s6 _ _ GZ);have Fe:=s7 _ _ (s6 _ _ Lx)
     have y4:bs.length=x.kids.length:=by
      have:=QP xm;rw [fH] at this;exact this.symm
     refine ⟨_,rfl,.inl ⟨rfl,_,SqL.of Ja⟩,_,rfl,D,_,rfl,SqL.of eD,fun l hl=>?_⟩;have BF:ah≠l:=aE Ja hl;have Bc:mt≠l:=aE Fe hl;have Ff:(upd H7 l (.lst (bs.map V.ref).reverse)) ah=some (.lst (wY.map V.ref)):=by rw [ai BF];exact Ja
     have q3:wY.length=Us.length:=(QP a3).symm;have q4:=lZ Us;refine ⟨ah,l,_,_,rfl,rfl,Ff,ab,ak ?_,?_⟩
     · rw [QA,RU,QA];omega
     have k8:KT H7 (upd (upd H7 l (.lst (bs.map V.ref).reverse)) ah (.lst (wY.map V.ref++(bs.map V.ref).reverse))):=(df hl).trans (aQ Ff);have Cv:KT H3 (upd (upd H7 l (.lst (bs.map V.ref).reverse)) ah (.lst (wY.map V.ref++(bs.map V.ref).reverse))):=D9.trans ((Same.kt (s6.trans s7)).trans k8);refine ⟨szP (Us++(cB pre 0 x.kids).reverse),?_,ms++[pr],wY++bs.reverse,Ms++[(pre,x)],Us++(cB pre 0 x.kids).reverse,_,_,_,rfl,?_,?_,?_,?_,?_,?_,?_,rfl⟩
     · rw [cp,ji,hZ,Fc];omega
     · exact ao (ao ((IY.trans s6).trans s7) ((IY.trans s6).trans s7 |>.free hl)) yz
     · rw [ai xf.symm,ai Bc];exact Fe
     · rw [ab,QS,Vw]
     · exact P2.append (a1.mono Cv) (.cons ⟨pa,ta,k8 _ _ (s7 _ _ (s6 _ _ D8)),Cv _ _ zb,Aw.mono Cv⟩ .nil)
     · exact P2.append (PsAtK.mono Cv a3) (P2.reverse (PsAtK.mono k8 xm))
     · rw [<- hw,RG,R5,R5,Sx,kf,nO];show Ms++([(pre,x)]++(pls pre 0 x.kids++plP Us.reverse))=Ms++plP ((pre,x)::Us.reverse);rw [plP,x.pl_eq pre];rfl
     · intro p hp;rcases Rv.mp hp with hp | hp
       · exact hb p (RC _ hp)
       · obtain ⟨g1,g2⟩:=jE pre 0 x.kids p (List.mem_reverse.mp hp);have:=mo g2;omega
   · right;have w6:j<ks.length:=by omega
     refine ⟨w6,⟨_,.ref ks[j],SqT.of (s7 _ _ er),by rw [QO,QC w6];rfl⟩,?_⟩;rintro y H8 ⟨p,v,hp,rfl,rfl,hv⟩;have xG:=hv _ (SqT.of (s7 _ _ er));obtain ⟨kd,rfl,Dg⟩:=bc xG;obtain ⟨tk,yR,Jb⟩:=yy.get Dg;have s8:L2.Same H7 (upd H7 p (.tup [.int (j:Nat),.ref kd])):=ad hp _;refine ⟨p,_,rfl,SqT.of ab,rfl,_,_,rfl,_,_,rfl,rfl,?_⟩;generalize (upd H7 p (.tup [.int (j:Nat),.ref kd]))=H8 at s8 ⊢;refine ⟨_,rfl,_,rfl,ak (by show 1<=1000000;decide),fun n1 G0=>?_⟩;have s9:L2.Same H8 (upd H8 n1 (.tup [.int (j:Nat)])):=ad G0 _;have e9:(upd H8 n1 (.tup [.int (j:Nat)])) n1=some (.tup [.int (j:Nat)]):=ab;generalize (upd H8 n1 (.tup [.int (j:Nat)]))=H9 at s9 e9 ⊢;refine lP (s9 _ _ (s8 _ _ (s7 _ _ I0))) e9 (by rw [QA];show pre.length+1<=1000000;omega) fun n2 xC xu Dh=>?_;refine ⟨_,rfl,ak (by show 2<=1000000;decide),fun n3 Cw=>?_⟩;have yd:L2.Same H7 (upd xC n3 (.tup [.ref n2,.ref kd])):=(s8.trans (s9.trans xu)).trans (ad Cw _);have Fg:=yd _ _ eD;refine ⟨_,Fg,aD ?_,w6,?_,bs++[n3],?_,?_⟩
     · have:=QP xm;rw [Ro] at this;rw [QA];omega
     · exact ao (s7.trans yd) hD
     · rw [ab,QS];rfl
     · have G1:KT (upd xC n3 (.tup [.ref n2,.ref kd])) (upd (upd xC n3 (.tup [.ref n2,.ref kd])) D (.lst (bs.map V.ref++[.ref n3]))):=aQ Fg;rw [RX,kh pre 0 x.kids j tk yR];refine P2.append (PsAtK.mono ((Same.kt yd).trans G1) xm) (.cons ⟨n2,kd,G1 _ _ ab,G1 _ _ (ad Cw _ _ _ ?_),?_⟩ .nil)
       · rw [Dh,QS,Sw];rfl
       · exact Jb.mono ((Same.kt (s7.trans yd)).trans G1)
 · have hz:as=[]:=by
    cases as with
    | nil=>rfl
    | cons y ys=>simp at c
   subst hz;have BJ:As=[]:=Sj.mp (QP a2);subst BJ;refine ⟨_,rfl,k mt ms H3 sm yQ em ?_⟩;have Dd:Ms=t.pl []:=by simpa [plP] using hw
   rw [<- Dd];exact a1
inductive lD (K:QB) (vs:List V) (H:Hp) (Q:VK) (_E:XK):Prop
 | mk (l:QD) (as:List QD) (tops:List Top) (u:Th) (wZ:vs=[.ref l]) (w4:H l=some (.lst (as.map V.ref))) (w8:Rf (TopAtK K H) tops as) (xj:tops.length<=100000) (xB:TopsOk tops) (yu:(∀ t,Top.th t∈tops->t.size<=100000)) (AM:bl tops=[u]) (Bt:∀ (r:QD) (H':Hp),L2.Same H H'->AtK K H' u r->Q (.ref r) H'):lD K vs H Q _E
def rW (K:QB):Sp:=lD K
theorem jr:bh P w K mg base CX0 1 T.g_built.f T.g_built.d ["tops"] (rW K):=by
 refine T.g_built.F.ok gO (fun vs H Q E h=>?_) (fun wQ A outer s H vs Q E hr h=>?_)
 · obtain ⟨l,as,tops,u,rfl,_⟩:=h;rfl
 obtain ⟨l,as,tops,u,rfl,el,hT,hlen,hok,Jc,hu,k⟩:=h
 refine ⟨_,(ae (aw (i:=1) gO.nd rfl (Wb rfl) (bv ac))
  (ae (bw Rg rfl (uP rfl T.n_reversed (pv 0)) (bp rfl (aq (am (i:=2) gO.nd rfl (QY rfl)) (aq (am (i:=3) gO.nd rfl (QY rfl)) aX))) (ag (bS (aS rF (pv 3) af (aW _)) (ag (aN (bN QV Q5 Q4 aJ (pv 1) (aa (av cS (pv 2) (cH cj rfl T.n_tuple SU (aa (cA (N:=[QK "number",QK "done"]) (js:=[none,some 1]) (g:=(aI 0)) (tt:=bZ) (te:=(vp K "list" (vP) (bu 1))) rfl (cL rfl (by decide +kernel) (by decide +kernel) rfl rfl rfl) (bx rfl T.n_range (aa (pv 3) ac)) (fun _ _ _ _ _ _=>(am (i:=0) wA rfl (QY rfl))) (aR rfl) (fun _ _ _ _ _ _=>cg) (fun _ _ _ _ _ _=>(ko QV TV TU jV (pv 1)))) ac))) ac)))) (ag (aN (bN QV Q5 Q4 aJ (pv 1) (aa (pv 2) ac)))))))
  (ag (aA (aG aP (pv 1) af (fun _ _=>rfl)))))),?_⟩
 try dsimp only [xl,wN]
 have yn:tops.length=as.length:=QP hT;refine ⟨ak (by show 0<=1000000;decide),fun dn G2=>?_⟩;refine ⟨_,rfl,l,_,rfl,SqL.of (ad G2 _ _ _ el),?_⟩
 refine sQ (K:=K) (a:=l) (xs:=as.map V.ref) (fun i σ H2=>Ex3 fun c2 c3 ds=>An4 (σ=[some (.ref l),some (.ref dn),c2,c3]) (L2.Same H H2) (H2 dn=some (.lst (ds.map V.ref))) (AtsK K H2 (bl (tops.drop (tops.length - i))).reverse ds))
  ⟨none,none,[],rfl,ad G2 _,ab,by rw [Wm,List.drop_length];exact .nil⟩ (fun i σ H2 _ ⟨_,_,_,_,s2,_,_⟩=>SqL.of (s2 _ _ el)) ?_ ?_
 · rintro i y σ H2 hi hy ⟨c2,c3,ds,rfl,s2,BL,yN⟩;rw [QA,<- yn] at hi hy;obtain ⟨pr,rfl,zj⟩:=bc hy;obtain ⟨x,hx,Jd⟩:=P2.get' hT zj;have Ly:=Jd.mono (Same.kt s2);have hn:tops.length - 1 - i<tops.length:=by omega
   have G4:tops.drop (tops.length - 1 - i)=x::tops.drop (tops.length - i):=by
    rw [Vi hn,show tops.length - 1 - i+1=tops.length - i by omega];congr 1;rw [QC hn] at hx;exact Q8 hx
   have BM:=hok.drop (tops.length - 1 - i);rw [G4] at BM;have Cy:tops.length - (i+1)=tops.length - 1 - i:=by omega
   have Iz:(bl (tops.drop (tops.length - i))).length<=100000:=by
    have:=o0 (tops.drop (tops.length - i));rw [R7] at this;omega
   generalize tops.drop (tops.length - i)=S at G4 yN BM Iz;refine hid fun ZZ kZ=>?_
   obtain ⟨ta,m,xs,D8,eta,hm,PX,za⟩:∃ (ta:QD) (m:Nat) (xs:List V),H2 pr=some (.tup [.ref ta,.int (m:Nat)])/\TK K H2 ta xs/\m<=(bl S).length/\xs.length<=200000/\∀ (H':Hp) (p:QD) (ks:List QD),KT H2 H'->AtsK K H' ((bl S).take m) ks->TK K H' p (xs++ks.map V.ref)->∃ u',bl (x::S)=u'::(bl S).drop m/\AtK K H' u' p:=by
    cases x with
    | nm n m =>
      rw [TopsOk] at BM;obtain ⟨ta,h1,h2,h3⟩:=Ly;refine ⟨ta,m,_,h1,h3,BM.1,(by show 1<=200000;decide),fun H' p ks kt hk hp=>⟨_,by rw [bl],?_⟩⟩;rw [AtK];exact ⟨h2,ks,hp,hk⟩
    | th t =>
      obtain ⟨ta,h1,h2⟩:=Ly;obtain ⟨xs,h3,hw,h4⟩:=h2.whole;have yk:=Jc t (QH hx);refine ⟨ta,0,_,h1,h3,Q7 _,by omega,fun H' p ks kt hk hp=>⟨t,by rw [bl,Te],?_⟩⟩;rw [UL,AtsK] at hk;subst hk;rw [S5,Rw] at hp;exact h4 _ _ kt hp
   refine kZ ?_;refine ⟨pr,_,rfl,SqT.of D8,rfl,_,_,rfl,_,_,rfl,rfl,?_⟩;have Je:=yN.length;rw [RU] at Je;refine fz (fun b H'=>An2 (H'=H2) (b=decide ((0:Int)<(m:Int)))) (fun kk Ax=>?_) (fun H' hb=>?_) (fun H' hb=>?_)
   · exact ⟨_,rfl,_,_,rfl,rfl,_,rfl,Ax _ _ ⟨rfl,rfl⟩⟩
   rotate_left
   · obtain ⟨rfl,hb⟩:=hb
     have NL:m=0:=by
      have:=of_decide_eq_false hb.symm;omega
     subst NL;obtain ⟨u',yo,yA⟩:=za H' ta [] (Same.kt (.refl _)) (by rw [UL];exact .nil) (by rw [S5,Rw];exact eta);refine ⟨_,rfl,.inl ⟨rfl,_,SqL.of BL⟩,_,rfl,dn,_,_,rfl,rfl,BL,aD (by rw [QA];omega),?_⟩;have k6:KT H' (upd H' dn (.lst (ds.map V.ref++[.ref ta]))):=aQ BL;refine ⟨_,_,ds++[ta],rfl,?_,by rw [ab,QS];rfl,?_⟩
     · intro b o e;rw [ai (aE e G2)];exact s2 b o e
     · rw [Cy,G4,yo,RF];rw [Te];exact (yN.mono k6).append (.cons (yA.mono k6) .nil)
   obtain ⟨rfl,hb⟩:=hb;refine ⟨_,rfl,.inl ⟨rfl,_,SqL.of BL⟩,_,rfl,?_⟩;refine ⟨_,rfl,(m:Int),rfl,by omega,by omega,fun D hD=>?_⟩;have Jf:D≠dn:=fun z=>by rw [z,BL] at hD;cases hD
   have yQ:((m:Nat):Int).toNat=m:=RH m
   refine ⟨m,fun j H3=>An3 (j<=m) ((∀ b o,H' b=some o->b≠dn->H3 b=some o)) (Ex2 fun (BN ks:List QD)=>An4 (H3 dn=some (.lst (BN.map V.ref))) (H3 D=some (.lst (ks.map V.ref))) (AtsK K H3 ((bl S).drop j).reverse BN) (AtsK K H3 ((bl S).take j) ks)),
    ⟨Q7 _,fun b o e hb=>?_,ds,[],?_,?_,?_,?_⟩,?_⟩
   · rw [ai (aE e hD)];exact e
   · rw [ai Jf.symm];exact BL
   · rw [ab];rfl
   · rw [Te];exact yN.mono (df hD)
   · rw [UL];exact .nil
   rintro j H3 ⟨hj,kp,BN,ks,ed,eD,Di,hd2⟩;by_cases Lz:j=m
   · left;refine ⟨(by show ((m:Nat):Int).toNat<=j;rw [yQ,Lz];exact QF _),?_⟩;subst Lz;have Fh:KT H' H3:=fun b PY e=>kp b _ e (eX e BL (by intro z;cases z));refine ⟨D,_,rfl,.inl ⟨SqL.of eD,fun tp Dj=>?_⟩⟩;have s4:L2.Same H3 (upd H3 tp (.tup (ks.map V.ref))):=ad Dj _;have e4:(upd H3 tp (.tup (ks.map V.ref))) tp=some (.tup (ks.map V.ref)):=ab;generalize (upd H3 tp (.tup (ks.map V.ref)))=H4 at s4 e4 ⊢;have xT:=hd2.length;refine we ((eta.mono Fh).mono (Same.kt s4)) (.of e4) (by rw [QA,xT,Ro];omega) fun p H5 s5 e5=>?_;have BO:=s4.trans s5;have LA:=BO _ _ ed;have BP:=Fh.trans (Same.kt BO);obtain ⟨u',yo,yA⟩:=za H5 p ks BP (hd2.mono (Same.kt BO)) e5;have Av:=Di.length;rw [RU,R7] at Av;refine ⟨dn,_,_,rfl,rfl,LA,aD (by rw [QA];omega),?_⟩;have k6:KT H5 (upd H5 dn (.lst (BN.map V.ref++[.ref p]))):=aQ LA;refine ⟨_,_,BN++[p],rfl,?_,by rw [ab,QS];rfl,?_⟩
     · intro b o e;have hb:b≠dn:=aE e G2;rw [ai hb];exact BO _ _ (kp b o (s2 b o e) hb)
     · rw [Cy,G4,yo,RF];exact (Di.mono ((Same.kt BO).trans k6)).append (.cons (yA.mono k6) .nil)
   · right;have w6:j<m:=by omega
     refine ⟨w6,(by show j<((m:Nat):Int).toNat;rw [yQ];exact w6),?_⟩;rintro x' H4 ⟨e1,e2⟩;have yv:H4=H3:=e1;subst yv;have LB:j<(bl S).length:=by omega
     have NM:(bl S).drop j=(bl S)[j]::(bl S).drop (j+1):=Vi LB;rw [NM,RF] at Di
     have xf:BN≠[]:=by
      intro z;subst z;have:=Di.length;rw [QX] at this;simp at this
     refine hid fun ZZ kZ=>?_;obtain ⟨Dm,b,rfl⟩:∃ Dm b,BN=Dm++[b]:=⟨BN.dropLast,BN.getLast xf,(SV xf).symm⟩;obtain ⟨Us,x2,e3,hU,xb⟩:=Di.snoc_inv;have e4:=List.append_inj' e3 rfl;obtain ⟨e5,e6⟩:=e4;refine kZ ?_;cases e6;subst e5;refine ⟨_,rfl,.inl ⟨rfl,_,SqL.of ed⟩,dn,_,.ref b,rfl,rfl,ed,by simp,?_⟩;have d1:((Dm++[b]).map V.ref).dropLast=Dm.map V.ref:=by simp
     rw [d1];have LC:(upd H4 dn (.lst (Dm.map V.ref))) D=some (.lst (ks.map V.ref)):=by rw [ai Jf];exact eD
     have k5:KT H4 (upd (upd H4 dn (.lst (Dm.map V.ref))) D (.lst (ks.map V.ref++[.ref b]))):=(aQ ed).trans (aQ LC);refine ⟨_,LC,aD (by rw [QA,hd2.length,Ro];omega),w6,fun b' o e yk=>?_,Dm,ks++[b],?_,?_,hU.mono k5,?_⟩
     · rw [ai (aE e hD),ai yk];exact kp b' o e yk
     · rw [ai Jf.symm,ab]
     · rw [ab,QS];rfl
     · rw [RX,QC LB];exact (hd2.mono k5).append (.cons (xb.mono k5) .nil)
 · rintro σ H2 ⟨c2,c3,ds,rfl,s2,BL,yN⟩;rw [QA,<- yn,Wn,Te,hu] at yN;have Fi:AtsK K H2 [u] ds:=yN;rw [AtsK] at Fi;obtain ⟨b,r,rfl,hb,Dc⟩:=Fi;exact ⟨_,rfl,dn,_,0,.ref b,rfl,rfl,SqL.of BL,at0,k b H2 s2 hb⟩
inductive jv (K:QB) (vs:List V) (H:Hp) (Q:VK) (_E:XK):Prop
 | mk (a:QD) (t:Th) (wZ:vs=[.ref a]) (w4:AtK K H t a) (w8:t.size<=100000) (xj:t.tall<=100000) (xB:∀ (r:QD) (ps:List QD) (H':Hp),L2.Same H H'->H r=none->H' r=some (.lst (ps.map V.ref))->Rf (fun (p:List Int×Th) b=>H' b=some (.tup (p.1.map V.int))) (t.pl []) ps->Q (.ref r) H'):jv K vs H Q _E
def qE (K:QB):Sp:=jv K
theorem qX:bh P w K mg base CX0 3 T.g_places.f T.g_places.d ["tree"] (qE K):=by
 refine T.g_places.F.ok qz (fun vs H Q E h=>?_) (fun wQ A outer s H vs Q E hr h=>?_)
 · obtain ⟨a,t,rfl,_⟩:=h;rfl
 obtain ⟨a,t,rfl,hA,hsz,xw,k⟩:=h;refine ⟨_,(ag (aA (cA (N:=[QK "place",QK "knot"]) (js:=[none,none]) (g:=(kM K 2 (cD (aI 0) (cD (aI 1) kH)))) (tt:=bZ) (te:=(bu 0)) rfl (cL rfl (by decide +kernel) (by decide +kernel) rfl rfl rfl) (cy (pcF T.g_placed (fQ T) hr (aa (pv 0) ac))) (fun _ _ _ _ _ _=>(bp rfl (aq (am (i:=0) vf rfl (QY rfl)) (aq (am (i:=1) vf rfl (QY rfl)) aX)))) (fI (bJ aO (aR rfl) (bJ aO (aR rfl) fw))) (fun _ _ _ _ _ _=>cg) (fun _ _ _ _ _ _=>(pv 0))))),?_⟩
 try dsimp only [xl,wN]
 refine ⟨_,rfl,a,t,rfl,hA,hsz,xw,fun r as H1 s1 nr er xP=>⟨r,rfl,⟨_,SqL.of er⟩,?_⟩⟩;have yn:(t.pl []).length=as.length:=QP xP;rw [Th.pl_len] at yn;refine hid fun ZZ kZ=>?_;obtain ⟨bs,Bw,xb,NN⟩:=lH xP;refine kZ ?_;refine fW bs (fun _=>true) V.ref (SqL.of er) (by rw [QA];exact xb) (by rw [QA];omega) (fun i x z H2 R R0 hx hz sm g1 g2=>?_) (fun D hD=>?_)
 · obtain ⟨a',ta,rfl,ea⟩:=NN i x z hx hz;refine ⟨a',_,rfl,SqT.of (sm _ _ ea),rfl,_,_,rfl,_,_,rfl,rfl,?_⟩;refine rh (B:=R0 H2) ?_;exact ⟨_,rfl,g1 rfl⟩
 · rw [filter_tt];exact k D bs _ (s1.trans (ad hD _)) (s1.free hD) ab (P2.mp (fun _ _ e=>ad hD _ _ _ e) Bw)
inductive iX (K:QB) (vs:List V) (H:Hp) (Q:VK) (_E:XK):Prop
 | mk (a:QD) (t:Th) (wZ:vs=[.ref a]) (w4:AtK K H t a) (w8:Q (.bl t.isCall) H):iX K vs H Q _E
def j6 (K:QB):Sp:=iX K
theorem gF:bh P w K mg base CX0 1 T.g_is_call.f T.g_is_call.d ["thing"] (j6 K):=by
 refine T.g_is_call.F.ok oA (fun vs H Q E h=>?_) (fun wQ A outer s H vs Q E hr h=>?_)
 · obtain ⟨a,t,rfl,_⟩:=h;rfl
 obtain ⟨a,t,rfl,hA,k⟩:=h;refine ⟨_,(ag (aA (g7 cP (aG aL (pv 0) af (fun _ _=>rfl)) (fL (v:=.str (QK "?")) rfl T.c_CALL_SIGN.choose_spec ⟨_,rfl⟩) (aW _)))),?_⟩
 try dsimp only [xl,wN]
 cases t with
 | knot n ks =>
   rw [AtK] at hA;refine hid fun ZZ kZ=>?_;obtain ⟨hn,as,h1,h2⟩:=hA;refine kZ ?_;refine ⟨_,rfl,a,_,0,.str n,rfl,rfl,h1.sq,at0,rfl,?_⟩;have e:decide (V.str n=V.str (QK "?"))=false:=decide_eq_false (fun z=>hn (V.str.inj z));rw [e];exact k
 | call sn kn =>
   rw [AtK] at hA;refine ⟨_,rfl,a,_,0,.str q,rfl,rfl,hA.sq,at0,rfl,?_⟩;have e:decide (V.str q=V.str (QK "?"))=true:=decide_eq_true rfl;rw [e];exact k
inductive i5 (K:QB) (vs:List V) (H:Hp) (Q:VK) (_E:XK):Prop
 | mk (a:QD) (t:Th) (wZ:vs=[.ref a]) (w4:AtK K H t a) (w8:t.tall<=150) (xj:Q (.bl t.isHole) H):i5 K vs H Q _E
def jI (K:QB):Sp:=i5 K
theorem gK:bh P w K mg base CX0 1 T.g_is_hole.f T.g_is_hole.d ["thing"] (jI K):=by
 refine T.g_is_hole.F.ok ou (fun vs H Q E h=>?_) (fun wQ A outer s H vs Q E hr h=>?_)
 · obtain ⟨a,t,rfl,_⟩:=h;rfl
 obtain ⟨a,t,rfl,hA,xw,k⟩:=h;refine ⟨_,(ag (aA (g7 (sU (B:=150) (oh hr)) (pv 0) (fL (v:=.ref T.a_HOLE) rfl T.c_HOLE rfl) (aW _)))),?_⟩
 try dsimp only [xl,wN]
 refine ⟨_,rfl,?_⟩;exact tI hA (TK.const T.q_HOLE) xw k
inductive iY (K:QB) (vs:List V) (H:Hp) (Q:VK) (_E:XK):Prop
 | mk (a:QD) (t:Th) (wZ:vs=[.ref a]) (w4:AtK K H t a) (w8:t.tall<=150) (xj:Q (.bl t.isKnot) H):iY K vs H Q _E
def oS (K:QB):Sp:=iY K
theorem oW:bh P w K mg base CX0 2 T.g_is_knot.f T.g_is_knot.d ["thing"] (oS K):=by
 refine T.g_is_knot.F.ok oM (fun vs H Q E h=>?_) (fun wQ A outer s H vs Q E hr h=>?_)
 · obtain ⟨a,t,rfl,_⟩:=h;rfl
 obtain ⟨a,t,rfl,hA,xw,k⟩:=h;refine ⟨_,(ag (aA (mn (sG (pcF T.g_is_call (gF T) hr (aa (pv 0) ac))) (oG (sG (pcF T.g_is_hole (gK T) hr (aa (pv 0) ac))))))),?_⟩
 try dsimp only [xl,wN]
 refine ⟨_,rfl,a,t,rfl,hA,_,rfl,_,rfl,?_⟩;refine cr (fun c=>?_) (fun c=>?_)
 · refine ⟨_,rfl,a,t,rfl,hA,xw,_,rfl,?_⟩;have e:t.isKnot=!t.isHole:=by unfold Th.isKnot;rw [c];rfl
   rw [e] at k;exact k
 · have e:t.isKnot=false:=by unfold Th.isKnot;rw [Sh.mpr c];rfl
   rw [e] at k;exact k
inductive gf (K:QB) (vs:List V) (H:Hp) (Q:VK) (_E:XK):Prop
 | mk (a:QD) (sn kn:Int) (wZ:vs=[.ref a]) (w4:AtK K H (.call sn kn) a) (w8:∀ p,H p=none->Q (.ref p) (upd H p (.tup [.int sn,.int kn]))):gf K vs H Q _E
def gS (K:QB):Sp:=gf K
theorem ik:bh P w K mg base CX0 1 T.g_called_by.f T.g_called_by.d ["call"] (gS K):=by
 refine T.g_called_by.F.ok lQ (fun vs H Q E h=>?_) (fun wQ A outer s H vs Q E hr h=>?_)
 · obtain ⟨a,sn,kn,rfl,_⟩:=h;rfl
 obtain ⟨a,sn,kn,rfl,hA,k⟩:=h;refine ⟨_,(ag (aA (aH (aa (aG aL (pv 0) af (fun _ _=>rfl)) (aa (aG aL (pv 0) af (fun _ _=>rfl)) ac))))),?_⟩
 try dsimp only [xl,wN]
 rw [AtK] at hA;exact ⟨_,rfl,a,_,1,_,rfl,rfl,hA.sq,at1,_,rfl,a,_,2,_,rfl,rfl,hA.sq,at2,ak (by show 2<=1000000;decide),fun p hp=>k p hp⟩
inductive g6 (K:QB) (vs:List V) (H:Hp) (Q:VK) (_E:XK):Prop
 | mk (a:QD) (t:Th) (wZ:vs=[.ref a]) (w4:AtK K H t a) (w8:t.size<=100000) (xj:t.tall<=100000) (xB:∀ (r:QD) (as:List QD) (H':Hp),L2.Same H H'->H r=none->H' r=some (.lst (as.map V.ref))->CsAt H' (callsOf (t.pl [])) as->Q (.ref r) H'):g6 K vs H Q _E
def nj (K:QB):Sp:=g6 K
theorem nI:bh P w K mg base CX0 3 T.g_calls_in.f T.g_calls_in.d ["pattern"] (nj K):=by
 refine T.g_calls_in.F.ok nN (fun vs H Q E h=>?_) (fun wQ A outer s H vs Q E hr h=>?_)
 · obtain ⟨a,t,rfl,_⟩:=h;rfl
 obtain ⟨a,t,rfl,hA,hsz,xw,k⟩:=h;refine ⟨_,(ag (aA (cA (N:=[QK "place",QK "part"]) (js:=[none,none]) (g:=(kM K 2 (cD (aI 0) (cD (aI 1) kH)))) (tt:=(fun σ H Q=>(fF (j6 K) [] E0 (bn (bu 1) dP)) σ H fun x H1=>∃ k,tT K x H1 k/\Q k H1)) (te:=(mm (bn (bu 0) (bn (fF (gS K) [] E0 (bn (bu 1) dP)) dP)))) rfl (cL rfl (by decide +kernel) (by decide +kernel) rfl rfl rfl) (cy (pcF T.g_placed (fQ T) hr (aa (pv 0) ac))) (fun _ _ _ _ _ _=>(bp rfl (aq (am (i:=0) tz rfl (QY rfl)) (aq (am (i:=1) tz rfl (QY rfl)) aX)))) (fI (bJ aO (aR rfl) (bJ aO (aR rfl) fw))) (fun _ _ _ _ _ _=>jl (bA (pcF T.g_is_call (gF T) hr (aa (pv 1) ac)) (fun _=>rfl))) (fun _ _ _ _ _ _=>(aH (aa (pv 0) (aa (pcF T.g_called_by (ik T) hr (aa (pv 1) ac)) ac))))))),?_⟩
 try dsimp only [xl,wN]
 refine ⟨_,rfl,a,t,rfl,hA,hsz,xw,fun r as H1 s1 nr er xP=>⟨r,rfl,⟨_,SqL.of er⟩,?_⟩⟩;have yn:(t.pl []).length=as.length:=QP xP;have xW:=Th.pl_len [] t;intro D hD;refine ⟨as.length,fun j H2=>An3 (j<=as.length) (L2.Same H1 H2) (Ex1 fun (bs:List QD)=>An2 (H2 D=some (.lst (bs.map V.ref))) (CsAt H2 (callsOf ((t.pl []).take j)) bs)),⟨Q7 _,ad hD _,[],ab,.nil⟩,?_⟩;rintro j H2 ⟨hj,s2,bs,eD,xm⟩;by_cases zD:j=as.length
 · left;refine ⟨⟨_,SqL.of (s2 _ _ er),by rw [QA,zD];exact QF _⟩,?_⟩;have wM:(t.pl []).take j=t.pl []:=by rw [zD,<- yn,S8]
   rw [wM] at xm;exact k D bs H2 (s1.trans s2) (s1.free hD) eD xm
 · right;have w6:j<as.length:=by omega
   refine ⟨w6,⟨_,.ref as[j],SqL.of (s2 _ _ er),by rw [QO,QC w6];rfl⟩,?_⟩;rintro y H3 ⟨rfl,hv⟩;have xG:=hv _ (SqL.of (s2 _ _ er));refine hid fun ZZ kZ=>?_;obtain ⟨pr,rfl,zj⟩:=bc xG;obtain ⟨⟨p,u⟩,NO,pa,ta,e1,e2,e3⟩:=P2.get' (xP.mono (Same.kt s2)) zj;refine kZ ?_;simp only at e2 e3;have yR:(t.pl []).take (j+1)=(t.pl []).take j++[(p,u)]:=by rw [RX,NO];rfl
   have y4:bs.length<=j:=by
    have g1:=QP xm;have g2:=iV ((t.pl []).take j);rw [Ro] at g2;omega
   refine ⟨pr,_,rfl,SqT.of e1,rfl,_,_,rfl,_,_,rfl,rfl,?_⟩;refine ⟨_,rfl,ta,u,rfl,e3,_,rfl,?_⟩;cases u with
   | knot n ks =>
     refine kS ⟨w6,s2,bs,eD,?_⟩;rw [yR,dg];show CsAt H3 (callsOf ((t.pl []).take j)++[]) bs;rw [Rw];exact xm
   | call sn kn =>
     refine rh ?_;refine ⟨_,rfl,_,rfl,ta,sn,kn,rfl,e3,fun ca Fj=>⟨ak (by show 2<=1000000;decide),fun n3 Cw=>?_⟩⟩;have s4:L2.Same H3 (upd (upd H3 ca (.tup [.int sn,.int kn])) n3 (.tup [.ref pa,.ref ca])):=(ad Fj _).trans (ad Cw _);have Fl:=s4 _ _ eD;refine ⟨_,Fl,aD (by rw [QA];omega),w6,ao (s2.trans s4) hD,bs++[n3],?_,?_⟩
     · rw [ab,QS];rfl
     · have k5:KT (upd (upd H3 ca (.tup [.int sn,.int kn])) n3 (.tup [.ref pa,.ref ca])) (upd (upd (upd H3 ca (.tup [.int sn,.int kn])) n3 (.tup [.ref pa,.ref ca])) D (.lst (bs.map V.ref++[.ref n3]))):=aQ Fl;rw [yR,dg];exact P2.append (CsAt.mono ((Same.kt s4).trans k5) xm) (.cons ⟨pa,ca,k5 _ _ ab,k5 _ _ (s4 _ _ e2),k5 _ _ (ad Cw _ _ _ ab)⟩ .nil)
inductive gW (K:QB) (vs:List V) (H:Hp) (Q:VK) (_E:XK):Prop
 | mk (a:QD) (t:Th) (wZ:vs=[.ref a]) (w4:AtK K H t a) (w8:t.size<=100000) (xj:t.tall<=150) (xB:∀ (r:QD) (ps:List QD) (H':Hp),L2.Same H H'->H' r=some (.lst (ps.map V.ref))->Rf (fun (p:List Int) b=>H' b=some (.tup (p.map V.int))) (((t.pl []).filter fun p=>p.2.isHole).map (·.1)) ps->Q (.ref r) H'):gW K vs H Q _E
def nG (K:QB):Sp:=gW K
theorem ny:bh P w K mg base CX0 3 T.g_holes_in.f T.g_holes_in.d ["front"] (nG K):=by
 refine T.g_holes_in.F.ok nA (fun vs H Q E h=>?_) (fun wQ A outer s H vs Q E hr h=>?_)
 · obtain ⟨a,t,rfl,_⟩:=h;rfl
 obtain ⟨a,t,rfl,hA,hsz,xw,k⟩:=h;refine ⟨_,(ag (aA (cA (N:=[QK "place",QK "part"]) (js:=[none,none]) (g:=(kM K 2 (cD (aI 0) (cD (aI 1) kH)))) (tt:=(fun σ H Q=>(fF (jI K) [] E0 (bn (bu 1) dP)) σ H fun x H1=>∃ k,tT K x H1 k/\Q k H1)) (te:=(bu 0)) rfl (cL rfl (by decide +kernel) (by decide +kernel) rfl rfl rfl) (cy (pcF T.g_placed (fQ T) hr (aa (pv 0) ac))) (fun _ _ _ _ _ _=>(bp rfl (aq (am (i:=0) tz rfl (QY rfl)) (aq (am (i:=1) tz rfl (QY rfl)) aX)))) (fI (bJ aO (aR rfl) (bJ aO (aR rfl) fw))) (fun _ _ _ _ _ _=>jl (bA (pcF T.g_is_hole (gK T) hr (aa (pv 1) ac)) (fun _=>rfl))) (fun _ _ _ _ _ _=>(pv 0))))),?_⟩
 try dsimp only [xl,wN]
 refine ⟨_,rfl,a,t,rfl,hA,hsz,by omega,fun r as H1 s1 nr er xP=>⟨r,rfl,⟨_,SqL.of er⟩,?_⟩⟩;have yn:(t.pl []).length=as.length:=QP xP;have xW:=Th.pl_len [] t;obtain ⟨bs,Bw,xb⟩:=pick (G:=fun (p:List Int×Th) a b=>∃ ta,H1 a=some (.tup [.ref b,.ref ta])/\H1 b=some (.tup (p.1.map V.int))/\AtK K H1 p.2 ta) (fun p a ⟨pa,ta,h1,h2,h3⟩=>⟨pa,ta,h1,h2,h3⟩) xP;refine fW ((t.pl []).zip bs) (fun z=>z.1.2.isHole) (fun z=>V.ref z.2) (SqL.of er) (by rw [QA,UC];omega) (by rw [QA];omega) (fun i x z H2 R R0 hx hz sm g1 g2=>?_) (fun D hD=>?_)
 · rw [To] at hz;refine hid fun ZZ kZ=>?_;obtain ⟨a',rfl,zW⟩:=bc hx;obtain ⟨ta,f1,f2,f3⟩:=xb i _ _ _ hz.1 zW hz.2;obtain ⟨_,_,_,PZ,_⟩:=rf t [] z.1.1 z.1.2 (QH hz.1);refine kZ ?_;refine ⟨a',_,rfl,SqT.of (sm _ _ f1),rfl,_,_,rfl,_,_,rfl,rfl,?_⟩;refine ⟨_,rfl,ta,z.1.2,rfl,f3.mono (Same.kt sm),by omega,_,rfl,?_⟩;refine cr (fun c=>?_) (fun c=>?_)
   · exact ⟨_,rfl,g1 c⟩
   · exact g2 (Sh.mpr c)
 · refine k D ((((t.pl []).zip bs).filter fun z=>z.1.2.isHole).map (·.2)) _ (s1.trans (ad hD _)) (by rw [ab,Tx];rfl) ?_;refine P2.mapl (·.1) (pQ (xs:=t.pl []) (cs:=bs) (fun p:List Int×Th=>p.2.isHole) (by omega) fun i x c e1 e2=>?_);refine hid fun ZZ kZ=>?_;obtain ⟨a',zW⟩:∃ a',as[i]?=some a':=⟨_,QC (by have:=(QL.mp e2).1;omega)⟩;obtain ⟨ta,f1,f2,f3⟩:=xb i _ _ _ e1 zW e2;refine kZ ?_;exact ad hD _ _ _ f2
inductive jp (K:QB) (vs:List V) (H:Hp) (Q:VK) (_E:XK):Prop
 | mk (a:QD) (n:Rc) (ks:List Th) (wZ:vs=[.ref a]) (w4:AtK K H (.knot n ks) a) (w8:∀ (r:QD) (H':Hp),L2.Same H H'->TopAtK K H' (.nm n ks.length) r->Q (.ref r) H'):jp K vs H Q _E
def qR (K:QB):Sp:=jp K
theorem lq:bh P w K mg base CX0 2 T.g_top_of.f T.g_top_of.d ["part"] (qR K):=by
 refine T.g_top_of.F.ok lE (fun vs H Q E h=>?_) (fun wQ A outer s H vs Q E hr h=>?_)
 · obtain ⟨a,n,ks,rfl,_⟩:=h;rfl
 obtain ⟨a,n,ks,rfl,hA,k⟩:=h
 refine ⟨_,(ae (aw (i:=1) lE.nd rfl (QY rfl) (aC au rfl T.n_len Ri (aa (pcF T.g_kids_of (gH T) hr (aa (pv 0) ac)) ac)))
  (ag (aA (aH (aa (bj pT (pv 0) bQ (bq (av j5 (aC au rfl T.n_len Ri (aa (pv 0) ac)) (pv 1)))) (aa (pv 1) ac)))))),?_⟩
 try dsimp only [xl,wN]
 refine ⟨_,rfl,a,.knot n ks,rfl,hA,fun r as H1 s1 er yy=>⟨r,_,rfl,.inr (SqT.of er),?_⟩⟩;rw [AtK] at hA;refine hid fun ZZ kZ=>?_;obtain ⟨hn,ka,ea,xN⟩:=hA;refine kZ ?_;have xT:ka.length=ks.length:=xN.length;have yn:as.length=ks.length:=yy.length;refine ⟨_,rfl,_,rfl,a,_,rfl,.inr ((ea.mono (Same.kt s1)).sq),_,rfl,_,_,rfl,rfl,_,rfl,a,_,rfl,ea.mono (Same.kt s1),fun p H2 s2 e2=>?_⟩
 have e1:((V.str n::ka.map V.ref).length:Int) - ((as.map V.ref).length:Int)=1:=by
  rw [QM,QA,QA,xT,yn];omega
 have e3:TK K H2 p [.str n]:=by
  have yv:TK K H2 p (cY (V.str n::ka.map V.ref) none (some (((V.str n::ka.map V.ref).length:Int) - ((as.map V.ref).length:Int)))):=e2;rw [e1,pe] at yv;exact yv
 refine ⟨_,rfl,ak (by show 2<=1000000;decide),fun l hl=>?_⟩;refine k l _ (s1.trans (s2.trans (ad hl _))) ⟨p,?_,hn,e3.mono (df hl)⟩;rw [ab,QA,yn]
inductive jx (K:QB) (vs:List V) (H:Hp) (Q:VK) (_E:XK):Prop
 | mk (a ta:QD) (t:Th) (f:Int->Int->Th) (f':List (List Key×V)) (wZ:vs=[.ref a,.ref ta]) (w4:AtK K H t a) (w8:t.size<=100000) (xj:Rd H ta (.dT f')) (xB:(∀ s k,Th.call s k∈t.walk->∃ v,aT f' [Rk s,Rk k]=some (.ref v)/\AtK K H (f s k) v/\(f s k).size<=100000)) (yu:∀ (r:QD) (H':Hp),L2.Same H H'->AtK K H' (t.fill f) r->Q (.ref r) H'):jx K vs H Q _E
def qe (K:QB):Sp:=jx K
theorem qx:bh P w K mg base CX0 3 T.g_filled.f T.g_filled.d ["pattern","table"] (qe K):=by
 refine T.g_filled.F.ok iI (fun vs H Q E h=>?_) (fun wQ A outer s H vs Q E hr h=>?_)
 · obtain ⟨a,ta,t,f,f',rfl,_⟩:=h;rfl
 obtain ⟨a,ta,t,f,f',rfl,hA,hsz,K9,Fm,k⟩:=h
 refine ⟨_,(ae (aw (i:=2) iI.nd rfl (QY rfl) (bv ac))
  (ae (bw Rg rfl (cy (pcF T.g_walked (qS T) hr (aa (pv 0) ac))) (am (i:=3) iI.nd rfl (QY rfl)) (ag (bS (bA (pcF T.g_is_call (gF T) hr (aa (pv 3) ac)) (fun _=>rfl)) (ag (aN (bN QV Q5 Q4 aJ (pv 2) (aa (aH (aa (mx (ll hr) (pv 1) (pcF T.g_called_by (ik T) hr (aa (pv 3) ac)) (fun _ _=>rfl)) (aa af ac))) ac)))) (ag (aN (bN QV Q5 Q4 aJ (pv 2) (aa (pcF T.g_top_of (lq T) hr (aa (pv 3) ac)) ac)))))))
  (ag (aA (pcF T.g_built (jr T) hr (aa (pv 2) ac)))))),?_⟩
 try dsimp only [xl,wN]
 refine ⟨ak (by show 0<=1000000;decide),fun tl xw=>?_⟩;refine ⟨_,rfl,a,t,rfl,hA.mono (df xw),hsz,fun wl as H1 s1 LD LF hw=>?_⟩;have AJ:as.length=t.walk.length:=hw.length;have P0:=Th.walk_len t;have Jg:L2.Same H H1:=(ad xw _).trans s1;have NP:wl≠tl:=fun z=>by rw [z,ab] at LD;cases LD
 refine ⟨wl,rfl,⟨_,SqL.of LF⟩,?_⟩
 refine dZ (K:=K) (a:=wl) (xs:=as.map V.ref) (fun i σ H2=>Ex2 fun c bs=>An6 (σ=[some (.ref a),some (.ref ta),some (.ref tl),c]) (L2.Same H H2) (H2 wl=some (.lst (as.map V.ref))) (AtsK K H2 t.walk as) (H2 tl=some (.lst (bs.map V.ref))) (Rf (TopAtK K H2) ((t.walk.take i).map (dA f)) bs))
  ⟨none,[],rfl,Jg,LF,hw,s1 _ _ ab,.nil⟩ (fun i σ H2 _ ⟨_,_,_,_,e,_,_,_⟩=>SqL.of e) ?_ ?_
 · rintro i x σ H2 hx ⟨c,bs,rfl,s2,Fn,Jh,zE,xm⟩;obtain ⟨xa,rfl,NQ⟩:=bc hx;obtain ⟨tx,LH,Ji⟩:=Jh.get NQ;have NR:tx∈t.walk:=QH LH;have yR:t.walk.take (i+1)=t.walk.take i++[tx]:=by rw [RX,LH];rfl
   have y4:bs.length<=100000:=by
    have:=QP xm;rw [QA,Ro] at this;omega
   refine ⟨_,rfl,xa,tx,rfl,Ji,_,rfl,?_⟩
   have push:∀ (H3:Hp) (p:QD),L2.Same H2 H3->TopAtK K H3 (dA f tx) p->Ex2 fun c zP=>An6 (([some (.ref a),some (.ref ta),some (.ref tl),some (.ref xa)]:St)=[some (.ref a),some (.ref ta),some (.ref tl),c]) (L2.Same H (upd H3 tl (.lst (bs.map V.ref++[.ref p])))) ((upd H3 tl (.lst (bs.map V.ref++[.ref p]))) wl=some (.lst (as.map V.ref))) (AtsK K (upd H3 tl (.lst (bs.map V.ref++[.ref p]))) t.walk as) ((upd H3 tl (.lst (bs.map V.ref++[.ref p]))) tl=some (.lst (zP.map V.ref))) (Rf (TopAtK K (upd H3 tl (.lst (bs.map V.ref++[.ref p])))) ((t.walk.take (i+1)).map (dA f)) zP):=by
    intro H3 p s3 hp;have k3:KT H3 (upd H3 tl (.lst (bs.map V.ref++[.ref p]))):=aQ (s3 _ _ zE);refine ⟨_,bs++[p],rfl,ao (s2.trans s3) xw,by rw [ai NP];exact s3 _ _ Fn,Jh.mono ((Same.kt s3).trans k3),by rw [ab,QS];rfl,?_⟩;rw [yR,QS];exact P2.append (dj ((Same.kt s3).trans k3) xm) (.cons (hp.mono k3) .nil)
   cases tx with
   | call sn kn =>
     refine rh ?_;refine hid fun ZZ kZ=>?_;obtain ⟨v,hv,NS,_⟩:=Fm sn kn NR;refine kZ ?_;refine ⟨_,rfl,.inl ⟨rfl,_,SqL.of zE⟩,_,rfl,_,rfl,xa,sn,kn,rfl,Ji,fun cb NT=>?_⟩;have s3:L2.Same H2 (upd H2 cb (.tup [.int sn,.int kn])):=ad NT _
     have Jj:Rd (upd H2 cb (.tup [.int sn,.int kn])) ta (.dT f'):=by
      rcases K9 with h | ⟨o,h⟩
      · exact .inl (s3 _ _ (s2 _ _ h))
      · exact .inr ⟨o,s3 _ _ (s2 _ _ h)⟩
     refine ⟨ta,.ref v,rfl,.inr ⟨f',[Rk sn,Rk kn],cb,Jj,rfl,ab,hv.symm⟩,ak (by show 2<=1000000;decide),fun p hp=>?_⟩;have s4:=s3.trans (ad hp (.tup [.ref v,.int 0]));refine ⟨tl,_,_,rfl,rfl,s4 _ _ zE,aD (by rw [QA];omega),?_⟩;exact push _ p s4 ⟨v,ab,NS.mono (Same.kt (s2.trans s4))⟩
   | knot nm us =>
     refine kS ?_;refine ⟨_,rfl,.inl ⟨rfl,_,SqL.of zE⟩,_,rfl,xa,nm,us,rfl,Ji,fun p H3 s3 hp=>?_⟩;refine ⟨tl,_,_,rfl,rfl,s3 _ _ zE,aD (by rw [QA];omega),?_⟩;exact push _ p s3 hp
 · rintro σ H2 ⟨c,bs,rfl,s2,Fn,Jh,zE,xm⟩;rw [QA,AJ,S8] at xm;obtain ⟨b1,b2⟩:=pV f t;refine ⟨_,rfl,tl,bs,_,t.fill f,rfl,zE,xm,by rw [QA];omega,b2,?_,b1,fun r H3 s3 Fp=>k r H3 (s2.trans s3) Fp⟩;intro u hu;obtain ⟨x,hx,e⟩:=RN.mp hu;cases x with
   | knot nm us=>cases e
   | call sn kn =>
     cases e;refine hid fun ZZ kZ=>?_;obtain ⟨v,_,_,hz⟩:=Fm sn kn hx;refine kZ ?_;exact hz
inductive hV (K:QB) (vs:List V) (H:Hp) (Q:VK) (_E:XK):Prop
 | mk (x y:QD) (l r:Th) (wZ:vs=[.ref x,.ref y]) (w4:AtK K H l x) (w8:AtK K H r y) (xj:l.tall<=150) (xB:Q (.bl (aF l r)) H):hV K vs H Q _E
def og (K:QB):Sp:=hV K
theorem i0:bh P w K mg base CX0 3 T.g_same_top.f T.g_same_top.d ["one","two"] (og K):=by
 refine T.g_same_top.F.ok mV (fun vs H Q E h=>?_) (fun wQ A outer s H vs Q E hr h=>?_)
 · obtain ⟨x,y,l,r,rfl,_⟩:=h;rfl
 obtain ⟨x,y,l,r,rfl,hx,hy,xw,k⟩:=h;refine ⟨_,(ag (aA (mn (pcF T.g_is_knot (oW T) hr (aa (pv 0) ac)) (mn (g7 cP (aG aL (pv 0) af (fun _ _=>rfl)) (aG aL (pv 1) af (fun _ _=>rfl)) (aW _)) (oG (g7 cP (aC au rfl T.n_len Ri (aa (pv 0) ac)) (aC au rfl T.n_len Ri (aa (pv 1) ac)) (aW _))))))),?_⟩
 try dsimp only [xl,wN]
 rw [nJ hx r] at k;refine hid fun ZZ kZ=>?_;obtain ⟨xr,ex,lx⟩:=hx.row;obtain ⟨yr,ey,ly⟩:=hy.row;refine kZ ?_;refine ⟨_,rfl,x,l,rfl,hx,xw,_,rfl,?_⟩;refine cr (fun c=>?_) (fun c=>?_)
 · rw [c] at k;refine ⟨_,rfl,x,_,0,.str l.name,rfl,rfl,ex.sq,at0,_,rfl,y,_,0,.str r.name,rfl,rfl,ey.sq,at0,rfl,_,rfl,?_⟩;refine cr (fun c2=>?_) (fun c2=>?_)
   · have e2:l.name=r.name:=V.str.inj (of_decide_eq_true c2);refine ⟨_,rfl,x,_,rfl,.inr (ex.sq),_,rfl,y,_,rfl,.inr (ey.sq),rfl,?_⟩
     have e3:decide (V.int ((V.str l.name::xr).length:Nat)=V.int ((V.str r.name::yr).length:Nat))=decide (l.wid=r.wid):=by
      rw [QM,QM,lx,ly];by_cases e:l.wid=r.wid
      · rw [e];simp
      · rw [decide_eq_false e,decide_eq_false];intro z;exact e (by have:=V.int.inj z;omega)
     rw [e3];rw [decide_eq_true e2] at k;exact k
   · have e2:l.name≠r.name:=fun e=>c2 (decide_eq_true (by rw [e]));rw [decide_eq_false e2] at k;exact k
 · rw [Sh.mpr c] at k;exact k
inductive ef (K:QB) (vs:List V) (H:Hp) (Q:VK) (_E:XK):Prop
 | mk (x y:QD) (l r:Th) (wZ:vs=[.ref x,.ref y]) (w4:AtK K H l x) (w8:AtK K H r y) (xj:l.tall<=150) (xB:l.size<=100000) (yu:∀ (m:QD) (as:List QD) (H':Hp),L2.Same H H'->H m=none->H' m=some (.lst (as.map V.ref))->Rf (PPK K H') (l.sbs r) as->Q (.ref m) H'):ef K vs H Q _E
def jf (K:QB):Sp:=ef K
theorem jd:bh P w K mg base CX0 4 T.g_side_by_side.f T.g_side_by_side.d ["one","two"] (jf K):=by
 refine T.g_side_by_side.F.ok bT (fun vs H Q E h=>?_) (fun wQ A outer s H vs Q E hr h=>?_)
 · obtain ⟨x,y,l,r,rfl,_⟩:=h;rfl
 obtain ⟨x,y,l,r,rfl,hx,hy,xw,hsz,k⟩:=h
 refine ⟨_,(ae (aw (i:=2) bT.nd rfl (QY rfl) (bv ac))
  (ae (aw (i:=3) bT.nd rfl (QY rfl) (bv (aa (aH (aa (pv 0) (aa (pv 1) ac))) ac)))
  (ae (ft Rg (bA (pv 3) (fun _=>rfl)) (ae (cO (ko QV TV TU jV (pv 3)) (bp rfl (aq (am (i:=4) bT.nd rfl (QY rfl)) (aq (am (i:=5) bT.nd rfl (QY rfl)) aX))))
  (ae (aN (bN QV Q5 Q4 aJ (pv 2) (aa (aH (aa (pv 4) (aa (pv 5) ac))) ac)))
  (ag (bS (bA (pcF T.g_same_top (i0 T) hr (aa (pv 4) (aa (pv 5) ac))) (fun _=>rfl)) (ag (aN (bN QV Uu Ut iA (pv 3) (aa (jC rfl rfl T.n_list rfl T.n_reversed (oz rfl rfl T.n_list rfl T.n_zip (aa (bj eE (pv 4) (bq af) bQ) (aa (bj eE (pv 5) (bq af) bQ) ac)))) ac)))) bH)))))
  (ag (aA (pv 2)))))),?_⟩
 try dsimp only [xl,wN]
 refine ⟨by show 0<=QW;decide,fun mt yQ=>?_⟩;refine ⟨_,rfl,_,rfl,by show 2<=QW;decide,fun t0 LI=>⟨by show 1<=QW;decide,fun ah yJ=>?_⟩⟩;have s0:L2.Same H (upd (upd H mt (.lst [])) t0 (.tup [.ref x,.ref y])):=(ad yQ _).trans (ad LI _);have e0:(upd (upd H mt (.lst [])) t0 (.tup [.ref x,.ref y])) mt=some (.lst []):=ad LI _ _ _ ab;have e1:(upd (upd H mt (.lst [])) t0 (.tup [.ref x,.ref y])) t0=some (.tup [.ref x,.ref y]):=ab;generalize (upd (upd H mt (.lst [])) t0 (.tup [.ref x,.ref y]))=H1 at s0 e0 e1 yJ ⊢;have yz:H ah=none:=s0.free yJ;have xf:ah≠mt:=fun z=>by rw [z,e0] at yJ;cases yJ
 refine ⟨fun m σ H2=>Ex6 fun (ms as:List QD) (Ms As:List (Th×Th)) (p p':Option V)=>uG (σ=[some (.ref x),some (.ref y),some (.ref mt),some (.ref ah),p,p']) (L2.Same H H2) (H2 mt=some (.lst (ms.map V.ref))) (H2 ah=some (.lst (as.map V.ref))) (Rf (PPK K H2) Ms ms) (Rf (PPK K H2) As as) (Ms++wks As.reverse=l.sbs r) ((∀ p∈As,p.1.tall<=150)) (Ms.length+szL As<=100000) (m=szL As),⟨_,[],[t0],[],[(l,r)],none,none,rfl,?_,?_,?_,.nil,.cons ⟨x,y,?_,hx.mono ?_,hy.mono ?_⟩ .nil,?_,?_,?_,rfl⟩,?_⟩
 · exact ao s0 yz
 · rw [ai xf.symm];exact e0
 · rw [ab];rfl
 · rw [ai (aE e1 yJ)];exact e1
 · exact Same.kt (ao s0 yz)
 · exact Same.kt (ao s0 yz)
 · show wks [(l,r)]=_;rw [wks,wks,Rw]
 · intro p hp;rw [Q2] at hp;subst hp;exact xw
 · show 0+(l.size+0)<=100000;omega
 rintro m σ H2 ⟨ms,as,Ms,As,p,p',rfl,sm,e1,e2,a1,a2,hw,Aw,hlen,rfl⟩;have G5:Ms.length=ms.length:=QP a1;refine ⟨_,rfl,_,.inl ⟨_,SqL.of e2,rfl⟩,?_⟩;refine cr (fun c=>?_) (fun c=>?_)
 · refine ⟨fun wH H'=>∃ m',m'<szL As/\Ex6 fun (ms as:List QD) (Ms As:List (Th×Th)) (p p':Option V)=>uG (wH=[some (.ref x),some (.ref y),some (.ref mt),some (.ref ah),p,p']) (L2.Same H H') (H' mt=some (.lst (ms.map V.ref))) (H' ah=some (.lst (as.map V.ref))) (Rf (PPK K H') Ms ms) (Rf (PPK K H') As as) (Ms++wks As.reverse=l.sbs r) ((∀ p∈As,p.1.tall<=150)) (Ms.length+szL As<=100000) (m'=szL As),fun wH H' h=>h,?_⟩;have yg:as≠[]:=by intro z;subst z;simp at c
   refine hid fun ZZ kZ=>?_;obtain ⟨wY,b,rfl⟩:∃ wY b,as=wY++[b]:=⟨as.dropLast,as.getLast yg,(SV yg).symm⟩;obtain ⟨Us,u,rfl,a3,u1,u2,a4,a5,a6⟩:=P2.snoc_inv a2;obtain ⟨ul,ur⟩:=u;refine kZ ?_;simp only at a5 a6;have hs:szL (Us++[(ul,ur)])=szL Us+ul.size:=by rw [di,szL,szL];rfl
   have Fb:=ul.size_eq;rw [hs] at hlen;have Jk:ul.tall<=150:=Aw (ul,ur) (by simp);have LJ:∀ p∈Us,p.1.tall<=150:=fun p hp=>Aw p (by simp [hp]);refine ⟨_,rfl,.inl ⟨rfl,_,SqL.of e2⟩,ah,_,.ref b,rfl,rfl,e2,by simp,?_⟩;have d1:((wY++[b]).map V.ref).dropLast=wY.map V.ref:=by simp
   rw [d1];have k0:KT H2 (upd H2 ah (.lst (wY.map V.ref))):=aQ e2;have f1:(upd H2 ah (.lst (wY.map V.ref))) mt=some (.lst (ms.map V.ref)):=by rw [ai xf.symm];exact e1
   have f2:(upd H2 ah (.lst (wY.map V.ref))) ah=some (.lst (wY.map V.ref)):=ab;have s3:L2.Same H (upd H2 ah (.lst (wY.map V.ref))):=ao sm yz;generalize (upd H2 ah (.lst (wY.map V.ref)))=H3 at k0 f1 f2 s3 ⊢;refine ⟨b,_,rfl,SqT.of (k0 _ _ a4),rfl,_,_,rfl,_,_,rfl,rfl,?_⟩;refine ⟨_,rfl,.inl ⟨rfl,_,SqL.of f1⟩,_,rfl,_,rfl,by show 2<=QW;decide,fun t1 NU=>?_⟩;have s4:L2.Same H3 (upd H3 t1 (.tup [.ref u1,.ref u2])):=ad NU _;have e4:(upd H3 t1 (.tup [.ref u1,.ref u2])) t1=some (.tup [.ref u1,.ref u2]):=ab;generalize (upd H3 t1 (.tup [.ref u1,.ref u2]))=H4 at s4 e4 ⊢;refine ⟨mt,_,_,rfl,rfl,s4 _ _ f1,aD (by rw [QA];omega),?_⟩;have k5:KT H4 (upd H4 mt (.lst (ms.map V.ref++[.ref t1]))):=aQ (s4 _ _ f1);have g1:(upd H4 mt (.lst (ms.map V.ref++[.ref t1]))) mt=some (.lst ((ms++[t1]).map V.ref)):=by rw [ab,QS];rfl
   have g2:(upd H4 mt (.lst (ms.map V.ref++[.ref t1]))) ah=some (.lst (wY.map V.ref)):=by rw [ai xf];exact s4 _ _ f2
   have s5:L2.Same H (upd H4 mt (.lst (ms.map V.ref++[.ref t1]))):=ao (s3.trans s4) yQ;generalize (upd H4 mt (.lst (ms.map V.ref++[.ref t1])))=H5 at k5 g1 g2 s5 ⊢;have BQ:KT H2 H5:=(k0.trans (Same.kt s4)).trans k5;have aM:Rf (PPK K H5) (Ms++[(ul,ur)]) (ms++[t1]):=P2.append (cW BQ a1) (.cons ⟨u1,u2,k5 _ _ e4,a5.mono BQ,a6.mono BQ⟩ .nil);refine ⟨_,rfl,_,rfl,u1,u2,ul,ur,rfl,a5.mono BQ,a6.mono BQ,Jk,_,rfl,?_⟩
   have Dn:Ms++((ul,ur)::((if aF ul ur=true then wks (ul.kids.zip ur.kids) else [])++wks Us.reverse))=l.sbs r:=by
    rw [<- hw,R5];show _=Ms++wks ((ul,ur)::Us.reverse);rw [sd]
   refine cr (fun ct=>?_) (fun ct=>?_)
   · refine hid fun ZZ kZ=>?_;obtain ⟨n,ks,us,rfl,rfl,P1,LK⟩:=bG ct;have LL:=a5.mono BQ;have LM:=a6.mono BQ;rw [AtK] at LL LM;obtain ⟨G0,ka,ek,xN⟩:=LL;obtain ⟨Lb,ua,eu,D'⟩:=LM;refine kZ ?_;rw [if_pos ct] at Dn;have hz:=io ks us;refine ⟨_,rfl,.inl ⟨rfl,_,SqL.of g2⟩,_,rfl,1,rfl,u1,_,rfl,ek.sq,?_,fun c1 G7=>?_⟩
     · intro z;have:=z.1;simp [HT.sIx] at this
     rw [d4];have s6:L2.Same H5 (upd H5 c1 (.tup (ka.map V.ref))):=ad G7 _;have e6:(upd H5 c1 (.tup (ka.map V.ref))) c1=some (.tup (ka.map V.ref)):=ab;generalize (upd H5 c1 (.tup (ka.map V.ref)))=H6 at s6 e6 ⊢;refine ⟨_,rfl,1,rfl,u2,_,rfl,(eu.mono (Same.kt s6)).sq,?_,fun c2 Ak=>?_⟩
     · intro z;have:=z.1;simp [HT.sIx] at this
     rw [d4];have s7:L2.Same H6 (upd H6 c2 (.tup (ua.map V.ref))):=ad Ak _;have e7:(upd H6 c2 (.tup (ua.map V.ref))) c2=some (.tup (ua.map V.ref)):=ab;generalize (upd H6 c2 (.tup (ua.map V.ref)))=H7 at s7 e7 ⊢;refine ⟨c1,c2,_,_,rfl,SqT.of (s7 _ _ e6),SqT.of e7,fun zl zs H8 s8 P4 NV E3=>?_⟩;have BR:L2.Same H5 H8:=s6.trans (s7.trans s8);have LN:Rf (PPK K H8) (ks.zip us) zs:=nu (xN.mono (Same.kt BR)) (D'.mono (Same.kt BR)) E3;have Lo:(ks.zip us).length=zs.length:=QP LN;have P5:(ks.zip us).length<=szL (ks.zip us):=lN _;refine ⟨true,zl,_,rfl,SqB.l (SqL.of NV),fun rl Cz=>?_⟩;have s9:L2.Same H8 (upd H8 rl (.lst (zs.map V.ref).reverse)):=ad Cz _;have e9:(upd H8 rl (.lst (zs.map V.ref).reverse)) rl=some (.lst (zs.map V.ref).reverse):=ab;have P6:H5 rl=none:=BR.free Cz;generalize (upd H8 rl (.lst (zs.map V.ref).reverse))=H9 at s9 e9 ⊢;have Fq:=BR.trans s9;have NW:Us.length=wY.length:=QP a3;have P7:=lN Us;refine ⟨ah,rl,_,_,rfl,rfl,Fq _ _ g2,e9,Ui (aD ?_),?_⟩
     · rw [QA,RU,QA];simp only [Th.kids] at Fb;omega
     have LO:KT H9 (upd H9 ah (.lst (wY.map V.ref++(zs.map V.ref).reverse))):=aQ (Fq _ _ g2);have LP:KT H5 (upd H9 ah (.lst (wY.map V.ref++(zs.map V.ref).reverse))):=(Same.kt Fq).trans LO;simp only [Th.kids] at Fb Dn;refine ⟨szL (Us++(ks.zip us).reverse),?_,ms++[t1],wY++zs.reverse,Ms++[(.knot n ks,.knot n us)],Us++(ks.zip us).reverse,_,_,rfl,?_,?_,?_,cW LP aM,?_,?_,?_,?_,rfl⟩
     · rw [di,pE,hs];omega
     · exact ao (s5.trans Fq) yz
     · rw [ai xf.symm];exact Fq _ _ g1
     · rw [ab,QS,Vw]
     · exact P2.append (cW (BQ.trans LP) a3) (P2.reverse (cW ((Same.kt s9).trans LO) LN))
     · rw [R5,Sx,j4,<- Dn,RG];rfl
     · intro p hp;rcases Rv.mp hp with hp | hp
       · exact LJ p hp
       · have yc:=(TR (List.mem_reverse.mp hp)).1;have:=b9 yc;rw [Th.tall] at Jk;omega
     · rw [di,pE,QX];show Ms.length+1+_<=_;omega
   · rw [if_neg ct] at Dn;refine ⟨szL Us,?_,ms++[t1],wY,Ms++[(ul,ur)],Us,_,_,rfl,s5,g1,g2,aM,cW BQ a3,?_,LJ,?_,rfl⟩
     · rw [hs];omega
     · rw [<- Dn,RG];rfl
     · rw [QX];show Ms.length+1+_<=_;omega
 · have hz:as=[]:=by
    cases as with
    | nil=>rfl
    | cons y ys=>simp at c
   subst hz;have BJ:As=[]:=Sj.mp (QP a2);subst BJ;refine ⟨_,rfl,k mt ms H2 sm yQ e1 ?_⟩
   have Dd:Ms=l.sbs r:=by
    rw [<- hw,List.reverse_nil,wks,Rw]
   rw [<- Dd];exact a1
inductive jD (K:QB) (vs:List V) (H:Hp) (Q:VK) (_E:XK):Prop
 | mk (x y:QD) (l r:Th) (wZ:vs=[.ref x,.ref y]) (w4:AtK K H l x) (w8:AtK K H r y) (xj:l.tall<=150) (xB:l.size<=100000) (yu:∀ (m:QD) (H':Hp),L2.Same H H'->AtK K H' (l.com r) m->Q (.ref m) H'):jD K vs H Q _E
def ql (K:QB):Sp:=jD K
theorem qr:bh P w K mg base CX0 5 T.g_common.f T.g_common.d ["one","two"] (ql K):=by
 refine T.g_common.F.ok fO (fun vs H Q E h=>?_) (fun wQ A outer s H vs Q E hr h=>?_)
 · obtain ⟨x,y,l,r,rfl,_⟩:=h;rfl
 obtain ⟨x,y,l,r,rfl,hx,hy,xw,hsz,k⟩:=h
 refine ⟨_,(ae (aw (i:=2) fO.nd rfl (QY rfl) (bv ac))
  (ae (bw Rg rfl (cy (pcF T.g_side_by_side (jd T) hr (aa (pv 0) (aa (pv 1) ac)))) (bp rfl (aq (am (i:=3) fO.nd rfl (QY rfl)) (aq (am (i:=4) fO.nd rfl (QY rfl)) aX))) (ag (bS (bA (pcF T.g_same_top (i0 T) hr (aa (pv 3) (aa (pv 4) ac))) (fun _=>rfl)) (ag (aN (bN QV Q5 Q4 aJ (pv 2) (aa (pcF T.g_top_of (lq T) hr (aa (pv 3) ac)) ac)))) (ag (aN (bN QV Q5 Q4 aJ (pv 2) (aa (aH (aa (fL (v:=.ref T.a_HOLE) rfl T.c_HOLE rfl) (aa af ac))) ac)))))))
  (ag (aA (pcF T.g_built (jr T) hr (aa (pv 2) ac)))))),?_⟩
 try dsimp only [xl,wN]
 refine ⟨ak (by show 0<=1000000;decide),fun tl BS=>?_⟩;refine ⟨_,rfl,_,rfl,x,y,l,r,rfl,hx.mono (df BS),hy.mono (df BS),xw,hsz,fun m as H1 s1 nm em hp=>⟨m,rfl,⟨_,SqL.of em⟩,?_⟩⟩;have xW:(l.sbs r).length=as.length:=QP hp;have LR:=tU l r;have Jg:L2.Same H H1:=(ad BS _).trans s1;have yQ:m≠tl:=fun z=>by rw [z,ab] at nm;cases nm
 refine dZ (K:=K) (a:=m) (xs:=as.map V.ref) (fun i σ H2=>Ex3 fun c c' bs=>An6 (σ=[some (.ref x),some (.ref y),some (.ref tl),c,c']) (L2.Same H H2) (H2 m=some (.lst (as.map V.ref))) (Rf (PPK K H2) (l.sbs r) as) (H2 tl=some (.lst (bs.map V.ref))) (Rf (TopAtK K H2) (((l.sbs r).take i).map topC) bs)) ⟨none,none,[],rfl,Jg,em,hp,s1 _ _ ab,.nil⟩ (fun i σ H2 _ ⟨_,_,_,_,_,e,_,_,_⟩=>SqL.of e) ?_ ?_
 · rintro i v σ H2 hv ⟨c,c',bs,rfl,s2,zO,yH,zE,xm⟩;refine hid fun ZZ kZ=>?_;obtain ⟨b,rfl,hb⟩:=bc hv;obtain ⟨⟨ul,ur⟩,hu,u1,u2,e1,e2,e3⟩:=P2.get' yH hb;refine kZ ?_;simp only at e2 e3;have hm:=sY (QH hu);simp only at hm;have yR:((l.sbs r).take (i+1)).map topC=((l.sbs r).take i).map topC++[topC (ul,ur)]:=by rw [RX,hu,QS];rfl
   have y4:bs.length<=100000:=by
    have:=QP xm;rw [QA,Ro] at this;omega
   refine ⟨b,_,rfl,SqT.of e1,rfl,_,_,rfl,_,_,rfl,rfl,?_⟩
   have push:∀ (H3:Hp) (p:QD),L2.Same H2 H3->TopAtK K H3 (topC (ul,ur)) p->Ex3 fun c c' zP=>An6 (([some (.ref x),some (.ref y),some (.ref tl),some (.ref u1),some (.ref u2)]:St)=[some (.ref x),some (.ref y),some (.ref tl),c,c']) (L2.Same H (upd H3 tl (.lst (bs.map V.ref++[.ref p])))) ((upd H3 tl (.lst (bs.map V.ref++[.ref p]))) m=some (.lst (as.map V.ref))) (Rf (PPK K (upd H3 tl (.lst (bs.map V.ref++[.ref p])))) (l.sbs r) as) ((upd H3 tl (.lst (bs.map V.ref++[.ref p]))) tl=some (.lst (zP.map V.ref))) (Rf (TopAtK K (upd H3 tl (.lst (bs.map V.ref++[.ref p])))) (((l.sbs r).take (i+1)).map topC) zP):=by
    intro H3 p s3 Fs;have k3:KT H3 (upd H3 tl (.lst (bs.map V.ref++[.ref p]))):=aQ (s3 _ _ zE);refine ⟨_,_,bs++[p],rfl,ao (s2.trans s3) BS,by rw [ai yQ];exact s3 _ _ zO,cW ((Same.kt s3).trans k3) yH,by rw [ab,QS];rfl,?_⟩;rw [yR];exact P2.append (dj ((Same.kt s3).trans k3) xm) (.cons (Fs.mono k3) .nil)
   refine ⟨_,rfl,_,rfl,u1,u2,ul,ur,rfl,e2,e3,by omega,_,rfl,?_⟩;refine cr (fun ct=>?_) (fun ct=>?_)
   · have ht:topC (ul,ur)=.nm ul.name ul.kids.length:=by unfold topC;rw [if_pos ct]
     obtain ⟨n,ks,us,rfl,rfl,_,_⟩:=bG ct;refine ⟨_,rfl,.inl ⟨rfl,_,SqL.of zE⟩,_,rfl,u1,n,ks,rfl,e2,fun p H3 s3 Fs=>?_⟩;refine ⟨tl,_,_,rfl,rfl,s3 _ _ zE,aD (by rw [QA];omega),?_⟩;exact push _ p s3 (by rw [ht];exact Fs)
   · have ht:topC (ul,ur)=.th hole:=by unfold topC;rw [if_neg ct]
     refine ⟨_,rfl,.inl ⟨rfl,_,SqL.of zE⟩,ak (by show 2<=1000000;decide),fun p NX=>?_⟩;have s3:L2.Same H2 (upd H2 p (.tup [.ref T.a_HOLE,.int 0])):=ad NX _;refine ⟨tl,_,_,rfl,rfl,s3 _ _ zE,aD (by rw [QA];omega),?_⟩;exact push _ p s3 (by rw [ht];exact ⟨T.a_HOLE,ab,rc (TK.const T.q_HOLE)⟩)
 · rintro σ H2 ⟨c,c',bs,rfl,s2,zO,yH,zE,xm⟩;rw [QA,<- xW,S8] at xm;obtain ⟨b1,b2⟩:=u7 l r;refine ⟨_,rfl,tl,bs,_,l.com r,rfl,zE,xm,by rw [QA];omega,b2,?_,b1,fun rr H3 s3 Fp=>k rr H3 (s2.trans s3) Fp⟩;intro u hu;obtain ⟨p,yc,e⟩:=RN.mp hu;unfold topC at e;split at e
   · cases e
   · cases e;rw [dU];omega
inductive jQ (vs:List V) (H:Hp) (Q:VK) (_E:XK):Prop
 | mk (b:QD) (v1 v2 v3 v4:V) (wZ:vs=[.ref b]) (w4:H b=some (.tup [v1,v2,v3,v4])) (w8:Q v1 H):jQ  vs H Q _E
def qB:Sp:=jQ
inductive ii (vs:List V) (H:Hp) (Q:VK) (_E:XK):Prop
 | mk (b:QD) (v1 v2 v3 v4:V) (wZ:vs=[.ref b]) (w4:H b=some (.tup [v1,v2,v3,v4])) (w8:Q v4 H):ii  vs H Q _E
def n9:Sp:=ii
theorem eA:bh P w K mg base CX0 1 T.g_ins_of.f T.g_ins_of.d ["book"] qB:=by
 refine T.g_ins_of.F.ok qM (fun vs H Q E h=>?_) (fun wQ A outer s H vs Q E hr h=>?_)
 · obtain ⟨b,v1,v2,v3,v4,rfl,_⟩:=h;rfl
 obtain ⟨b,v1,v2,v3,v4,rfl,e,q⟩:=h;refine ⟨_,(ag (aA (aG aL (pv 0) af (fun _ _=>rfl)))),?_⟩
 try dsimp only [xl,wN]
 exact ⟨_,rfl,b,_,0,v1,rfl,rfl,SqT.of e,at0,q⟩
theorem du:bh P w K mg base CX0 1 T.g_rules_of.f T.g_rules_of.d ["book"] n9:=by
 refine T.g_rules_of.F.ok ni (fun vs H Q E h=>?_) (fun wQ A outer s H vs Q E hr h=>?_)
 · obtain ⟨b,v1,v2,v3,v4,rfl,_⟩:=h;rfl
 obtain ⟨b,v1,v2,v3,v4,rfl,e,q⟩:=h;refine ⟨_,(ag (aA (aG aL (pv 0) af (fun _ _=>rfl)))),?_⟩
 try dsimp only [xl,wN]
 exact ⟨_,rfl,b,_,3,v4,rfl,rfl,SqT.of e,cU (j:=3) rfl,q⟩
inductive fX (vs:List V) (H:Hp) (Q:VK) (_E:XK):Prop
 | mk (b:QD) (v1 v2 v3:V) (ra:QD) (xs:List V) (wZ:vs=[.ref b]) (w4:H b=some (.tup [v1,v2,v3,.ref ra])) (w8:H ra=some (.tup xs)) (xj:Q (.int xs.length) H):fX  vs H Q _E
def mh:Sp:=fX
theorem mi:bh P w K mg base CX0 2 T.g_states_of.f T.g_states_of.d ["book"] mh:=by
 refine T.g_states_of.F.ok lM (fun vs H Q E h=>?_) (fun wQ A outer s H vs Q E hr h=>?_)
 · obtain ⟨b,v1,v2,v3,ra,xs,rfl,_⟩:=h;rfl
 obtain ⟨b,v1,v2,v3,ra,xs,rfl,e,e2,q⟩:=h;refine ⟨_,(ag (aA (aC au rfl T.n_len Ri (aa (pcF T.g_rules_of (du T) hr (aa (pv 0) ac)) ac)))),?_⟩
 try dsimp only [xl,wN]
 exact ⟨_,rfl,b,_,_,_,_,rfl,e,ra,_,rfl,.inr (SqT.of e2),q⟩
inductive fk (vs:List V) (H:Hp) (Q:VK) (_E:XK):Prop
 | mk (ia:QD) (wU:List QD) (ins:List (Rc×Int)) (wZ:vs=[.ref ia]) (w4:H ia=some (.tup (wU.map V.ref))) (w8:KsAt H ins wU) (xj:cZ ins) (xB:∀ (r:QD) (H':Hp),L2.Same H H'->At H' (gv ins) r->Q (.ref r) H'):fk  vs H Q _E
def gj:Sp:=fk
theorem dE:bh P w K mg base CX0 1 T.g_small_tree.f T.g_small_tree.d ["ins"] gj:=by
 refine T.g_small_tree.F.ok kN (fun vs H Q E h=>?_) (fun wQ A outer s H vs Q E hr h=>?_)
 · obtain ⟨ia,wU,ins,rfl,_⟩:=h;rfl
 obtain ⟨ia,wU,ins,rfl,ei,zc,g,q⟩:=h;refine ⟨_,(ag (aA (aG aP (cA (N:=[QK "name",QK "many"]) (js:=[none,none]) (g:=(kM K 2 (cD (aI 0) (cD (aI 1) kH)))) (tt:=(qd (tOp (rEq) (bu 1) (tC (.int 0))))) (te:=(mm (bn (bu 0) dP))) rfl (cL rfl (by decide +kernel) (by decide +kernel) rfl rfl rfl) (kB (pv 0)) (fun _ _ _ _ _ _=>(bp rfl (aq (am (i:=0) tF rfl (QY rfl)) (aq (am (i:=1) tF rfl (QY rfl)) aX)))) (fI (bJ aO (aR rfl) (bJ aO (aR rfl) fw))) (fun _ _ _ _ _ _=>jl (aS cP (pv 1) af (aW _))) (fun _ _ _ _ _ _=>(aH (aa (pv 0) ac)))) af (fun _ _=>rfl)))),?_⟩
 try dsimp only [xl,wN]
 have yO:ins.length=wU.length:=QP zc;have Ft:=g.le;refine ⟨_,rfl,ia,rfl,⟨_,SqT.of ei⟩,rS (F:=fun H (k:Rc×Int) a=>At H (.knot k.1 []) a) (xs:=wU.map V.ref) ins (fun k=>decide (k.2=0)) (fun H1 H2 z p kt h=>h.mono kt) (by rw [QA];exact yO) (by rw [QA];omega) (fun i Hx sx hi=>⟨_,_,SqT.of (sx _ _ ei),QC hi⟩) (fun Hx sx=>⟨_,SqT.of (sx _ _ ei),QF _⟩) (fun i Hx x Hy sx hi hy=>⟨hy.1,hy.2 _ (SqT.of (sx _ _ ei))⟩) (fun i x z Hx R W' hx Bd sx hR hW=>?_) (fun D H1 as hD s1 eD BU=>?_)⟩
 · obtain ⟨ka,rfl,xN⟩:=bc hx;obtain ⟨z',yP,ez⟩:=P2.get' zc xN;rw [Bd] at yP;cases yP;have Jl:Hx ka=some (.tup [.str z.1,.int z.2]):=sx _ _ ez;refine ⟨ka,_,rfl,SqT.of Jl,rfl,_,_,rfl,_,_,rfl,rfl,_,rfl,rfl,_,rfl,?_⟩;have hm:=QH Bd;by_cases hc:z.2=0
   · rw [if_pos (decide_eq_true (by rw [hc]))];refine ⟨_,rfl,ak (by show 1<=1000000;decide),fun p hp=>hR (decide_eq_true hc) _ p (ad hp _) ?_⟩;rw [At];exact ⟨p8 (g.low z hm).1,[],ab,.nil⟩
   · rw [if_neg (fun z2=>hc (V.int.inj (of_decide_eq_true z2)))];exact hW (decide_eq_false hc) _ (.refl _)
 · refine hid fun ZZ kZ=>?_;obtain ⟨k0,zk,CV⟩:=oq g;obtain ⟨r,Jm,hA⟩:=P2.get BU (i:=0) zk;refine kZ ?_;exact ⟨D,_,0,.ref r,rfl,rfl,SqL.of eD,at_nonneg (Int.le_refl _) (by rw [QO];show Option.map V.ref as[0]?=_;rw [Jm];rfl),q r H1 s1 (by rw [iD zk];exact hA)⟩
def t4 (H:Hp) (ins:List (Rc×Int)) (f':List (Key×V)) (us:List Th):Prop:=∀ (i:Nat) (u:Th),us[i]?=some u->(∃ a,aT f' (Rk (i:Int))=some (.ref a)/\At H u a)∨(aT f' (Rk (i:Int))=none/\u=gv ins)
inductive fu (vs:List V) (H:Hp) (Q:VK) (_E:XK):Prop
 | mk (ia ka da:QD) (wU:List QD) (ins:List (Rc×Int)) (kd:Rc×Int) (f':List (Key×V)) (us:List Th) (wZ:vs=[.ref ia,.ref ka,.ref da]) (w4:H ia=some (.tup (wU.map V.ref))) (w8:KsAt H ins wU) (xj:cZ ins) (xB:KAt H kd ka) (yu:kd∈ins) (AM:H da=some (.dK f')) (Bt:us.length=kd.2.toNat) (Ea:t4 H ins f' us) (Fu:∀ (r:QD) (H':Hp),L2.Same H H'->At H' (.knot kd.1 us) r->Q (.ref r) H'):fu  vs H Q _E
def kL:Sp:=fu
set_option maxHeartbeats 1000000 in
theorem dB:bh P w K mg base CX0 2 T.g_knot_above.f T.g_knot_above.d ["ins","kind","kids"] kL:=by
 refine T.g_knot_above.F.ok dD (fun vs H Q E h=>?_) (fun wQ A outer s H vs Q E hr h=>?_)
 · obtain ⟨ia,ka,da,wU,ins,kd,f',us,rfl,_⟩:=h;rfl
 obtain ⟨ia,ka,da,wU,ins,kd,f',us,rfl,ei,zc,g,ek,hm,ed,Jn,EB,q⟩:=h
 refine ⟨_,(ae (cO (pv 1) (bp rfl (aq (am (i:=3) dD.nd rfl (QY rfl)) (aq (am (i:=4) dD.nd rfl (QY rfl)) aX))))
  (ag (aA (av cS (aH (aa (pv 3) ac)) (cH cj rfl T.n_tuple SU (aa (cA (N:=[QK "kid",QK "kids",QK "ins"]) (js:=[none,some 2,some 0]) (g:=(aI 0)) (tt:=bZ) (te:=(qZ (bu 1) (bu 0) (fF gj [] E0 (bn (bu 2) dP)))) rfl (cL rfl (by decide +kernel) (by decide +kernel) rfl rfl rfl) (bx rfl T.n_range (aa (pv 4) ac)) (fun _ _ _ _ _ _=>(am (i:=0) wa rfl (QY rfl))) (aR rfl) (fun _ _ _ _ _ _=>cg) (fun _ _ _ _ _ _=>(r9 (ll hr) (pv 1) (pv 0) (pcF T.g_small_tree (dE T) hr (aa (pv 2) ac)) ⟨rfl,rfl,rfl,rfl⟩))) ac)))))),?_⟩
 try dsimp only [xl,wN]
 have BV:=g.num kd hm;have NY:H ka=some (.tup [.str kd.1,.int kd.2]):=ek;refine ⟨_,rfl,ka,_,rfl,SqT.of NY,rfl,_,_,rfl,_,_,rfl,rfl,?_⟩;refine ⟨_,rfl,ak (by show 1<=1000000;decide),fun p1 y9=>?_⟩;dsimp only;have s1:L2.Same H (upd H p1 (.tup [.str kd.1])):=ad y9 _;have e1:(upd H p1 (.tup [.str kd.1])) p1=some (.tup [.str kd.1]):=ab;generalize (upd H p1 (.tup [.str kd.1]))=H1 at s1 e1 ⊢;have hlen:us.length=((Rl kd.2.toNat).map fun i=>V.int (i:Nat)).length:=by rw [Jn,QA,Rm]
 refine ⟨_,rfl,kd.2,rfl,by omega,by omega,mz (F:=At) (xs:=(Rl kd.2.toNat).map fun i=>V.int (i:Nat)) us (fun H1 H2 z p kt h=>h.mono kt) hlen (by rw [QA,Rm];omega) (fun i Hx sx hi=>by rw [QA,Rm] at hi;exact hi) (fun Hx sx=>by rw [QA,Rm];exact QF _) (fun i Hx x Hy sx hi hy=>⟨hy.1,?_⟩) (fun i y z Hx R W' hy Bd sx hR=>?_) (fun D H2 as hD s2 eD BU=>?_)⟩
 · rw [QA,Rm] at hi;rw [QO,R6 hi,hy.2];show some (V.int ((i:Nat):Int))=some (V.int (0+((i:Nat):Int)));rw [Sw]
 · have hi:i<kd.2.toNat:=by have:=(QL.mp Bd).1;rwa [Jn] at this
   rw [QO,R6 hi] at hy;cases hy;have G9:=s1.trans sx;have LS:Hx da=some (.dK f'):=G9 _ _ ed;refine ⟨_,rfl,da,rfl,.inl ⟨f',.inl LS⟩,_,rfl,_,rfl,ia,wU,ins,rfl,G9 _ _ ei,zc.mono (Same.kt G9),g,fun r H3 s3 Fp=>?_⟩;refine ⟨_,DGet.k (k:=Rk ((i:Nat):Int)) (s3 _ _ LS),?_⟩;rcases EB i z Bd with ⟨a,hv,ha⟩ | ⟨hv,rfl⟩
   · rw [hv];exact hR H3 a s3 (ha.mono (Same.kt (G9.trans s3)))
   · rw [hv];exact hR H3 r s3 Fp
 have yn:=QP BU;refine ⟨D,_,rfl,.inl ⟨SqL.of eD,fun tp Dj=>?_⟩⟩;have s3:L2.Same H2 (upd H2 tp (.tup (as.map V.ref))):=ad Dj _;have e3:(upd H2 tp (.tup (as.map V.ref))) tp=some (.tup (as.map V.ref)):=ab;generalize (upd H2 tp (.tup (as.map V.ref)))=H3 at s3 e3 ⊢;refine lP ((s2.trans s3) _ _ e1) e3 (by rw [QA];show 1+as.length<=1000000;omega) fun p H4 s4 e4=>?_;refine q p H4 (s1.trans (s2.trans (s3.trans s4))) ?_;rw [At];exact ⟨p8 (g.low kd hm).1,as,e4,(kG BU).mono (Same.kt (s3.trans s4))⟩
theorem si {k:Nat} {A:Rr} (hr:L2.Room k A):A.units+148+4<Sl:=by
 have:=oh hr;omega
inductive dw (vs:List V) (H:Hp) (Q:VK) (_E:XK):Prop
 | mk (b:QD) (ins outs:List (Rc×Int)) (head:Th) (rows:List (List Th)) (wZ:vs=[.ref b]) (w4:Bk H ins outs head rows b) (w8:cZ ins) (xj:rows.length<=100) (xB:(∀ row∈rows,row.length=ins.length)) (yu:∀ (r:QD) (f':List (List Key×V)) (H':Hp),L2.Same H H'->H r=none->H' r=some (.dT f')->MkAt H' ins rows f'->Q (.ref r) H'):dw  vs H Q _E
def iO:Sp:=dw
def vi (H:Hp) (ins:List (Rc×Int)) (rows:List (List Th)) (f':List (List Key×V)) (i j:Nat):Prop :=
 ∀ (s k:Nat) (row:List Th) (p:Th),k<3->(s<i∨(s=i/\k<j))->rows[s]?=some row->row[cE ins]?=some p->∃ a,aT f' [Rk (s:Int),Rk (k:Int)]=some (.ref a)/\At H p a
set_option maxHeartbeats 2000000 in
theorem iz:bh P w K mg base CX0 2 T.g_first_makings.f T.g_first_makings.d ["book"] iO:=by
 refine T.g_first_makings.F.ok bd (fun vs H Q E h=>?_) (fun wQ A outer s H vs Q E hr h=>?_)
 · obtain ⟨b,ins,outs,head,rows,rfl,_⟩:=h;rfl
 obtain ⟨b,ins,outs,head,rows,rfl,hB,g,Cz,Fv,q⟩:=h;refine hid fun ZZ kZ=>?_;obtain ⟨ia,oa,ha,ra,wU,xc,xv,hB⟩:=hB;refine kZ ?_
 refine ⟨_,(ae (fN (i:=1) (N:=[QK "name",QK "many"]) (js:=[none,none]) (g:=(kM K 2 (cD (aI 0) (cD (aI 1) kH)))) (tt:=bZ) (te:=(mm (bn (bu 0) dP))) bd.nd rfl (QY rfl) rfl (cL rfl (by decide +kernel) (by decide +kernel) rfl rfl rfl) (kB (pcF T.g_ins_of (eA T) hr (aa (pv 0) ac))) (fun _ _ _ _ _ _=>(bp rfl (aq (am (i:=0) tF rfl (QY rfl)) (aq (am (i:=1) tF rfl (QY rfl)) aX)))) (fI (bJ aO (aR rfl) (bJ aO (aR rfl) fw))) (fun _ _ _ _ _ _=>cg) (fun _ _ _ _ _ _=>(aH (aa (pv 0) ac))))
  (ae (aw (i:=2) bd.nd rfl (QY rfl) (bN QV PySem.F.slot_list_index PySem.F.type_list_index (qq (B:=148) (si hr)) (pv 1) (aa (pcF T.g_small_tree (dE T) hr (aa (pcF T.g_ins_of (eA T) hr (aa (pv 0) ac)) ac)) ac)))
  (ae (aw (i:=3) bd.nd rfl (QY rfl) rM)
  (ae (bw Rg rfl (mB rfl T.n_enumerate (pcF T.g_rules_of (du T) hr (aa (pv 0) ac))) (bp rfl (aq (am (i:=4) bd.nd rfl (QY rfl)) (aq (am (i:=5) bd.nd rfl (QY rfl)) aX))) (ag (bw Rg rfl (bx rfl T.n_range (aa (fL (v:=.int (3)) rfl T.c_MOST_KIDS.choose_spec ⟨_,rfl⟩) ac)) (am (i:=6) bd.nd rfl (QY rfl)) (ag (tP (ll hr) (pv 3) (aH (aa (pv 4) (aa (pv 6) ac))) (aG aL (pv 5) (pv 2) (fun _ _=>rfl)) rfl)))))
  (ag (aA (pv 3))))))),?_⟩
 try dsimp only [xl,wN]
 have yO:ins.length=wU.length:=QP hB.inK;have Be:rows.length=xv.length:=QP hB.rw;have Ft:=g.le;refine ⟨_,rfl,b,_,_,_,_,rfl,hB.bk,ia,rfl,⟨_,SqT.of hB.inE⟩,mz (F:=fun H (k:Rc×Int) a=>At H (.knot k.1 []) a) (xs:=wU.map V.ref) ins (fun H1 H2 z p kt h=>h.mono kt) (by rw [QA];exact yO) (by rw [QA];omega) (fun i Hx sx hi=>⟨_,_,SqT.of (sx _ _ hB.inE),QC hi⟩) (fun Hx sx=>⟨_,SqT.of (sx _ _ hB.inE),QF _⟩) (fun i Hx x Hy sx hi hy=>⟨hy.1,hy.2 _ (SqT.of (sx _ _ hB.inE))⟩) (fun i x z Hx R W' hx Bd sx hR=>?_) (fun D H1 as hD s1 eD BU=>?_)⟩
 · obtain ⟨ka,rfl,xN⟩:=bc hx;obtain ⟨z',yP,ez⟩:=P2.get' hB.inK xN;rw [Bd] at yP;cases yP;have Jl:Hx ka=some (.tup [.str z.1,.int z.2]):=sx _ _ ez;refine ⟨ka,_,rfl,SqT.of Jl,rfl,_,_,rfl,_,_,rfl,rfl,?_⟩;refine ⟨_,rfl,ak (by show 1<=1000000;decide),fun p hp=>hR _ p (ad hp _) ?_⟩;rw [At];exact ⟨p8 (g.low z (QH Bd)).1,[],ab,.nil⟩
 -- at
 obtain ⟨k0,zk,CV⟩:=oq g;have hI:=iR zk;refine ⟨_,rfl,.inl ⟨rfl,_,SqL.of eD⟩,_,rfl,b,_,_,_,_,rfl,s1 _ _ hB.bk,ia,wU,ins,rfl,s1 _ _ hB.inE,hB.inK.mono (Same.kt s1),g,fun st H2 s2 xO=>?_⟩;have zm:=s1.trans s2;have Jo:Ats H2 (ins.map fun k=>Th.knot k.1 []) as:=(mT BU).mono (Same.kt s2);refine ⟨D,.ref st,_,(gv ins).dv,dvs (ins.map fun k=>Th.knot k.1 []),cE ins,rfl,rfl,SqL.of (s2 _ _ eD),xO.dv,Jo.dvs,?_,?_,fun i hi hz=>?_,?_,?_⟩
 · have h1:=gR (ins.map fun k=>Th.knot k.1 [])
   have h2:bI (ins.map fun k=>Th.knot k.1 [])<=1:=qO fun u hu=>by
    obtain ⟨k,_,rfl⟩:=RN.mp hu;rw [Th.tall,bI];exact QF _
   omega
 · rw [o5,QO,hI,iD zk];rfl
 · rw [o5,QO] at hz;cases Ha:ins[i]? with
   | none=>rw [Ha] at hz;cases hz
   | some k =>
     rw [Ha,iD zk] at hz;have LU:(Th.knot k.1 []).dv=(Th.knot k0.1 []).dv:=Q8 hz;rw [Th.dv,Th.dv] at LU;have NZ:=Dv.tup.inj LU;injection NZ with N0 _;injection N0 with N1;have:=g.nd i (cE ins) k k0 Ha hI N1;omega
 · rw [pO,QA];omega
 -- made
 intro td LV;dsimp only [aI];have s3:L2.Same H2 (upd H2 td (.dT [])):=ad LV _;have e3:(upd H2 td (.dT [])) td=some (.dT []):=ab;have Fw:H td=none:=zm.free LV;generalize (upd H2 td (.dT []))=H3 at s3 e3 ⊢;have Dq:=zm.trans s3;refine ⟨_,rfl,b,_,_,_,_,rfl,Dq _ _ hB.bk,ra,rfl,⟨_,SqT.of (Dq _ _ hB.rl)⟩,?_⟩
 refine rg (K:=K) (a:=ra) (xs:=xv.map V.ref) (fun i σ H4=>Ex4 fun (c4 c5 c6:Option V) (tk:List (List Key×V))=>An5 (σ=[some (.ref b),some (.ref D),some (.int (cE ins:Nat)),some (.ref td),c4,c5,c6]) (L2.Same H H4) (H4 td=some (.dT tk)) (tk.length<=3 * i) (vi H4 ins rows tk i 0))
  ⟨none,none,none,[],rfl,Dq,e3,Q7 _,fun s k row p _ h=>by rcases h with h | ⟨_,h⟩ <;> cases h⟩ (fun i σ H4 _ ⟨_,_,_,_,_,s4,_,_,_⟩=>SqT.of (s4 _ _ hB.rl)) ?_ ?_
 · rintro i x pr σ H4 hx zj ⟨c4,c5,c6,tk,rfl,s4,Jp,hlen,wM⟩;refine hid fun ZZ kZ=>?_;obtain ⟨rwa,rfl,Jq⟩:=bc hx;obtain ⟨row,wK,Dr,Bx,CA⟩:=P2.get' hB.rw Jq;refine kZ ?_;have N2:i<100:=by have:=(QL.mp wK).1;omega
   have N3:=Fv row (QH wK);have BW:=CA.length;have N4:=(QL.mp hI).1;have s5:L2.Same H4 (upd H4 pr (.tup [.int ((i:Nat):Int),.ref rwa])):=ad zj _;have e5:(upd H4 pr (.tup [.int ((i:Nat):Int),.ref rwa])) pr=some (.tup [.int ((i:Nat):Int),.ref rwa]):=ab;generalize (upd H4 pr (.tup [.int ((i:Nat):Int),.ref rwa]))=H5 at s5 e5 ⊢;have Eb:=s4.trans s5;refine ⟨pr,_,rfl,SqT.of e5,rfl,_,_,rfl,_,_,rfl,rfl,?_⟩;dsimp only [aI];refine ⟨3,rfl,by decide,by decide,?_⟩
   refine bU (n:=3) (fun j σ H6=>Ex2 fun (c6:Option V) (tk:List (List Key×V))=>An5 (σ=[some (.ref b),some (.ref D),some (.int (cE ins:Nat)),some (.ref td),some (.int ((i:Nat):Int)),some (.ref rwa),c6]) (L2.Same H H6) (H6 td=some (.dT tk)) (tk.length<=3 * i+j) (vi H6 ins rows tk i j))
    ⟨_,tk,rfl,Eb,s5 _ _ Jp,hlen,fun s k row p hk h h1 h2=>by
     obtain ⟨a,a1,a2⟩:=wM s k row p hk h h1 h2;exact ⟨a,a1,a2.mono (Same.kt s5)⟩⟩ ?_ ?_
   · rintro j σ H6 hj ⟨c6,tk,rfl,s6,Jr,hlen,wM⟩;refine hid fun ZZ kZ=>?_;obtain ⟨pa,Bu⟩:∃ a,Dr[cE ins]?=some a:=⟨_,QC (by omega)⟩;obtain ⟨p0,BK,Bf⟩:=CA.get Bu;refine kZ ?_;refine ⟨_,rfl,_,rfl,rwa,_,_,.ref pa,rfl,rfl,SqT.of (s6 _ _ Bx),cU (by rw [QO,Bu];rfl),_,rfl,_,rfl,_,rfl,ak (by show 2<=1000000;decide),fun kp Bg=>?_⟩;have s7:L2.Same H6 (upd H6 kp (.tup [.int ((i:Nat):Int),.int (0+((j:Nat):Int))])):=ad Bg _;have e7:(upd H6 kp (.tup [.int ((i:Nat):Int),.int (0+((j:Nat):Int))])) kp=some (.tup ([Rk ((i:Nat):Int),Rk (0+((j:Nat):Int))].map kV)):=ab;generalize (upd H6 kp (.tup [.int ((i:Nat):Int),.int (0+((j:Nat):Int))]))=H7 at s7 e7 ⊢;have LW:=s7 _ _ Jr;refine ⟨td,_,rfl,DPut.t LW e7 (aD (by omega)),?_⟩
     have Ab:KT H7 (upd H7 td (.dT (putK tk [Rk ((i:Nat):Int),Rk (0+((j:Nat):Int))] (.ref pa)))):=fun c ys ec=>by
      rw [ai (eX ec LW (fun z=>nomatch z))];exact ec
     refine ⟨_,_,rfl,ao (s6.trans s7) Fw,ab,?_,fun s k zd p' hk h h1 h2=>?_⟩
     · have:=bM tk [Rk ((i:Nat):Int),Rk (0+((j:Nat):Int))] (V.ref pa);omega
     · rw [gZ];by_cases Ax:([Rk ((s:Nat):Int),Rk ((k:Nat):Int)]:List Key)=[Rk ((i:Nat):Int),Rk (0+((j:Nat):Int))]
       · rw [if_pos Ax];injection Ax with e1 e2;have yx:((s:Nat):Int)=(i:Nat):=UH e1;have:s=i:=by omega
         subst this;rw [wK] at h1;cases h1;rw [BK] at h2;cases h2;exact ⟨pa,rfl,Bf.mono ((Same.kt (s6.trans s7)).trans Ab)⟩
       · rw [if_neg Ax]
         have N5:s<i∨(s=i/\k<j):=by
          rcases h with h | ⟨rfl,h⟩
          · exact .inl h
          · refine .inr ⟨rfl,?_⟩;by_cases N6:k=j
            · exact absurd (by rw [N6,Sw]) Ax
            · omega
         obtain ⟨a,a1,a2⟩:=wM s k zd p' hk N5 h1 h2;exact ⟨a,a1,a2.mono ((Same.kt s7).trans Ab)⟩
   · rintro σ H6 ⟨c6,tk,rfl,s6,Jr,hlen,wM⟩;exact ⟨_,_,_,tk,rfl,s6,Jr,by omega,fun s k row p hk h h1 h2=>wM s k row p hk (by rcases h with h | ⟨_,h⟩;(· by_cases hs:s=i;exact .inr ⟨hs,hk⟩;exact .inl (by omega));exact absurd h (UA _)) h1 h2⟩
 · rintro σ H4 ⟨c4,c5,c6,tk,rfl,s4,Jp,hlen,wM⟩;refine ⟨_,rfl,q td tk H4 s4 Fw Jp fun s k row p hk h1 h2=>wM s k row p hk (.inl ?_) h1 h2⟩;rw [QA,<- Be];exact (QL.mp h1).1
structure FrB (ins outs:List (Rc×Int)) (rows:List (List Th)):Prop where
 gi:cZ ins
 fit:vE ins outs (rows.length:Nat) rows
 le:rows.length<=20
 sz:∀ row∈rows,∀ p∈row,p.size<=200/\p.tall<=100
theorem FrB.mkd {ins outs:List (Rc×Int)} {rows:List (List Th)} (F:FrB ins outs rows) {l:Int} (h0:0<=l) (h1:l<(rows.length:Nat)):∃ row p,rows[l.toNat]?=some row/\row[cE ins]?=some p/\mkF ins rows l=p/\p.size<=200/\p.tall<=100/\p.FitS outs (rows.length:Nat) 0:=by
 refine hid fun ZZ kZ=>?_;obtain ⟨k0,zk,CV⟩:=oq F.gi;have hI:=iR zk;obtain ⟨row,hr,er,hl,_⟩:=qC F.fit h0 h1;have N4:=(QL.mp hI).1;obtain ⟨p,hp⟩:∃ p,row[cE ins]?=some p:=⟨_,QC (by omega)⟩;have hm:=QH hr;obtain ⟨z1,z2⟩:=F.sz row hm p (QH hp);refine kZ ?_;have hf:=(F.fit.row row hm).2 _ p k0 hp hI;rw [CV] at hf;exact ⟨row,p,hr,hp,by unfold mkF;rw [er,List.getD,hp];rfl,z1,z2,hf⟩
inductive eW (P:QR) (w:Q3) (K:QB) (vs:List V) (H:Hp) (Q:VK) (_E:XK):Prop
 | mk (b md pt:QD) (s:Nat) (ins outs:List (Rc×Int)) (head:Th) (rows:List (List Th)) (row:List Th) (yK:List (List Key×V)) (f':List (az×V)) (Al:List az) (wZ:vs=[.ref b,.int (s:Nat),.ref md,.ref pt]) (w4:Bk H ins outs head rows b) (w8:FrB ins outs rows) (xj:rows[s]?=some row) (xB:H md=some (.dT yK)) (yu:MkAt H ins rows yK) (AM:Pt P w H pt f' Al) (Bt:Al.length<=1000000) (Ea:(∀ x∈(mkF ins rows (s:Nat)).pl [],nk (s:Nat) x.1∈Al)) (Fu:∀ (r:QD) (xM:List (az×V)) (H':Hp),But pt H H'->AtK K H' (frF (mkF ins rows) (mkF ins rows (s:Nat)) row) r->Pt P w H' pt xM Al->(∀ k∈f'.map (·.1),k∈xM.map (·.1))->(∀ x∈(frF (mkF ins rows) (mkF ins rows (s:Nat)) row).pl [],x.2.isHole=true->nk (s:Nat) x.1∈xM.map (·.1))->Q (.ref r) H'):eW P w K vs H Q _E
def fg (P:QR) (w:Q3) (K:QB):Sp:=eW P w K
set_option maxHeartbeats 4000000 in
theorem jR:bh P w K mg base CX0 6 T.g_first_front.f T.g_first_front.d ["book","state","made","partings"] (fg P w K):=by
 refine T.g_first_front.F.ok bm (fun vs H Q E h=>?_) (fun wQ A outer s0 H vs Q E hr h=>?_)
 · obtain ⟨b,md,pt,s,ins,outs,head,rows,row,yK,f',Al,rfl,_⟩:=h;rfl
 obtain ⟨b,md,pt,s,ins,outs,head,rows,row,yK,f',Al,rfl,hB,F,wK,Ec,Ds,CB,Hf,Bs,q⟩:=h;refine hid fun ZZ kZ=>?_;obtain ⟨ia,oa,ha,ra,wU,xc,xv,hB⟩:=hB;refine kZ ?_
 refine ⟨_,(ae (aw (i:=4) bm.nd rfl (QY rfl) (pcF T.g_ins_of (eA T) hr (aa (pv 0) ac)))
  (ae (aw (i:=5) bm.nd rfl (QY rfl) (mx (ll hr) (pv 2) (aH (aa (pv 1) (aa af ac))) (fun _ _=>rfl)))
  (ae (bw Rg rfl (qY rfl T.n_zip (aa (pv 4) (aa (aG aL (pcF T.g_rules_of (du T) hr (aa (pv 0) ac)) (pv 1) (fun _ _=>rfl)) ac))) (bp rfl (aq (am (i:=6) bm.nd rfl (QY rfl)) (aq (am (i:=7) bm.nd rfl (QY rfl)) aX))) (ae (aw (i:=5) bm.nd rfl (QY rfl) (pcF T.g_common (qr T) hr (aa (pv 5) (aa (pcF T.g_filled (qx T) hr (aa (pv 7) (aa (pv 2) ac))) ac))))
  (ag (bw Rg rfl (cy (pcF T.g_holes_in (ny T) hr (aa (pv 5) ac))) (am (i:=8) bm.nd rfl (QY rfl)) (ag (aN (sD U2 PySem.F.type_dict_setdefault (fJ (gr hr)) (pv 3) (aa (aH (aa (pv 1) (aa (pv 8) ac))) (aa (aH (aa (pcF T.g_small_tree (dE T) hr (aa (pv 4) ac)) (aa (pcF T.g_knot_above (dB T) hr (aa (pv 4) (aa (pv 6) (aa sw ac)))) ac))) ac)))))))))
  (ag (aA (pv 5)))))),?_⟩
 try dsimp only [xl,wN]
 have g:=F.gi;have yO:ins.length=wU.length:=QP hB.inK;have Be:rows.length=xv.length:=QP hB.rw;have Ft:=g.le;have LR:=(QL.mp wK).1;obtain ⟨φ,BX⟩:=ce CB.dm;have Fx:md≠pt:=fun z=>by rw [z,BX] at Ec;cases Ec
 -- ins,front
 refine ⟨_,rfl,b,_,_,_,_,rfl,hB.bk,?_⟩;refine hid fun ZZ kZ=>?_;obtain ⟨zd,p0,LX,BK,Dt,z1,z2,f0⟩:=F.mkd (l:=(s:Nat)) (by omega) (by omega);rw [RH,wK] at LX;cases LX;obtain ⟨fa,N7,BJ⟩:=Ds s 0 row p0 (by decide) wK BK;refine kZ ?_;refine ⟨_,rfl,_,rfl,ak (by show 2<=1000000;decide),fun kp Bg=>?_⟩;have s1:L2.Same H (upd H kp (.tup [.int ((s:Nat):Int),.int 0])):=ad Bg _;have e1:(upd H kp (.tup [.int ((s:Nat):Int),.int 0])) kp=some (.tup (([Rk ((s:Nat):Int),Rk 0]:List Key).map kV)):=ab;generalize (upd H kp (.tup [.int ((s:Nat):Int),.int 0]))=H1 at s1 e1 ⊢;refine ⟨md,.ref fa,rfl,.inr ⟨yK,_,kp,.inl (s1 _ _ Ec),rfl,e1,N7.symm⟩,?_⟩
 -- zp loop
 refine hid fun ZZ kZ=>?_;obtain ⟨yh,ze,Dr,Bx,zf⟩:=P2.get hB.rw wK;refine kZ ?_;have xW:=zf.length;have Bh:=(F.fit.row row (QH wK)).1;refine ⟨_,rfl,_,rfl,b,_,_,_,_,rfl,s1 _ _ hB.bk,_,rfl,ra,_,_,.ref yh,rfl,rfl,SqT.of (s1 _ _ hB.rl),cU (by rw [QO,ze];rfl),ia,yh,rfl,⟨_,SqT.of (s1 _ _ hB.inE)⟩,⟨_,SqT.of (s1 _ _ Bx)⟩,?_⟩
 have Fy:∀ (i:Nat) (p:Th),row[i]?=some p->∀ l k,Th.call l k∈p.walk->∃ v,aT yK [Rk l,Rk k]=some (.ref v)/\At H (mkF ins rows l) v/\(mkF ins rows l).size<=200:=fun i p hp l k hc=>by
  have wX:=(QL.mp hp).1;obtain ⟨kd,Dg⟩:∃ kd,ins[i]?=some kd:=⟨_,QC (by omega)⟩;have hf:=(F.fit.row row (QH wK)).2 i p kd hp Dg;have BV:=g.num kd (QH Dg);obtain ⟨a1,a2,a3,a4⟩:=qh hf hc;obtain ⟨N8,p1,b1,b2,b3,b4,_⟩:=F.mkd a1 a2;obtain ⟨v,v1,v2⟩:=Ds l.toNat k.toNat N8 p1 (by omega) b1 b2;rw [TB a1,TB a3] at v1;exact ⟨v,v1,by rw [b3];exact v2,by rw [b3];exact b4⟩
 refine pL (K:=K) (a:=ia) (b:=yh) (xs:=wU.map V.ref) (ys:=Dr.map V.ref) (by rw [QA,QA];omega) (fun i σ H2=>Ex5 fun (fa:QD) (c6 c7 c8:Option V) (xU:List (az×V))=>An6 (σ=[some (.ref b),some (.int ((s:Nat):Int)),some (.ref md),some (.ref pt),some (.ref ia),some (.ref fa),c6,c7,c8]) (But pt H H2) (AtK K H2 (frF (mkF ins rows) (mkF ins rows (s:Nat)) (row.take i)) fa) (Pt P w H2 pt xU Al) ((∀ k∈f'.map (·.1),k∈xU.map (·.1))) ((0<i->∀ x∈(frF (mkF ins rows) (mkF ins rows (s:Nat)) (row.take i)).pl [],x.2.isHole=true->nk (s:Nat) x.1∈xU.map (·.1))))
  ⟨fa,none,none,none,f',rfl,Same.but s1,by rw [UL,Dt];exact (BJ.mono (Same.kt s1)).k,CB.same s1,fun _ h=>h,fun h=>absurd h (RY _)⟩ (fun i σ H2 _ ⟨_,_,_,_,_,_,b2,_,_,_,_⟩=>?_) ?_ ?_
 · have kt:=b2.kt BX;exact ⟨SqT.of (kt _ _ hB.inE),SqT.of (kt _ _ Bx)⟩
 · rintro i x y p2 σ H2 hx hy yH ⟨fa,c6,c7,c8,xU,rfl,b2,xH,yq,xZ,_⟩;refine hid fun ZZ kZ=>?_;obtain ⟨ka,rfl,xN⟩:=bc hx;obtain ⟨pa,rfl,Bu⟩:=bc hy;obtain ⟨kd,hk,ek⟩:=P2.get' hB.inK xN;obtain ⟨p,hp,Bf⟩:=zf.get Bu;refine kZ ?_;have Js:=b2.kt BX;have s3:L2.Same H2 (upd H2 p2 (.tup [.ref ka,.ref pa])):=ad yH _;have e3:(upd H2 p2 (.tup [.ref ka,.ref pa])) p2=some (.tup [.ref ka,.ref pa]):=ab;generalize (upd H2 p2 (.tup [.ref ka,.ref pa]))=H3 at s3 e3 ⊢;have Fz:=Js.trans (Same.kt s3);have b3:=b2.trans (Same.but s3);refine ⟨p2,_,rfl,SqT.of e3,rfl,_,_,rfl,_,_,rfl,rfl,?_⟩;dsimp only [aI]
   -- filled,common
   have C':=F.sz row (QH wK) p (QH hp);refine ⟨_,rfl,_,rfl,_,rfl,pa,md,p,(fun l _=>mkF ins rows l),yK,rfl,(Bf.mono Fz).k,by omega,.inl (b3 _ _ Fx Ec),fun l k hc=>?_,fun fl H4 s4 CC=>?_⟩
   · refine hid fun ZZ kZ=>?_;obtain ⟨v,v1,v2,v3⟩:=Fy i p hp l k hc;refine kZ ?_;exact ⟨v,v1,(v2.mono Fz).k,by omega⟩
   have hsz:=gM (mkF ins rows) (mkF ins rows (s:Nat)) (row.take i);rw [Dt] at hsz;have FA:=xH.mono (Same.kt (s3.trans s4));rw [Dt] at FA;refine ⟨fa,fl,_,_,rfl,FA,CC,by omega,by omega,fun cm H5 s5 FC=>?_⟩;have yR:row.take (i+1)=row.take i++[p]:=by rw [RX,hp];rfl
   have FD:AtK K H5 (frF (mkF ins rows) (mkF ins rows (s:Nat)) (row.take (i+1))) cm:=by
    rw [yR,nS,Dt];exact FC
   have b5:=b3.trans (Same.but (s4.trans s5));have Jt:=yq.same (s3.trans (s4.trans s5));have P8:=b5.kt BX;have Ju:=gM (mkF ins rows) (mkF ins rows (s:Nat)) (row.take (i+1));rw [Dt] at Ju;have FE:=FD;rw [Dt] at FE
   -- holes
   refine ⟨_,rfl,cm,_,rfl,FE,by omega,by omega,fun hl bs H6 s6 Hi xm=>?_⟩;rw [<- Dt] at xm;have b6:=b5.trans (Same.but s6);have FF:=Jt.same s6;have By:=b6.kt BX;obtain ⟨N9,Ac⟩:=ce FF.dm;have Jv:=FD.mono (Same.kt s6);have Du:hl≠pt:=fun z=>by rw [z,Ac] at Hi;cases Hi
   have xT:=QP xm;have N':=T1 (fun p:List Int×Th=>p.2.isHole) ((frF (mkF ins rows) (mkF ins rows (s:Nat)) (row.take (i+1))).pl []);rw [Th.pl_len] at N';have BV:=g.num kd (QH hk);refine ⟨hl,rfl,⟨_,SqL.of Hi⟩,?_⟩
   refine dZ (K:=K) (a:=hl) (xs:=bs.map V.ref) (fun j σ H7=>Ex2 fun (c8:Option V) (BY:List (az×V))=>An5 (σ=[some (.ref b),some (.int ((s:Nat):Int)),some (.ref md),some (.ref pt),some (.ref ia),some (.ref cm),some (.ref ka),some (.ref pa),c8]) (But pt H6 H7) (Pt P w H7 pt BY Al) ((∀ k∈xU.map (·.1),k∈BY.map (·.1))) (∀ (j':Nat) (pl:List Int),j'<j->((((frF (mkF ins rows) (mkF ins rows (s:Nat)) (row.take (i+1))).pl []).filter fun p=>p.2.isHole).map (·.1))[j']?=some pl->nk (s:Nat) pl∈BY.map (·.1)))
    ⟨_,xU,rfl,But.refl _ _,FF,fun _ h=>h,fun _ _ h=>absurd h (UA _)⟩ (fun j σ H7 _ ⟨_,_,_,b7,_,_,_⟩=>SqL.of (b7 _ _ Du Hi)) ?_ ?_
   · rintro j x σ H7 hx ⟨c8,BY,rfl,b7,Bi,yB,wM⟩;obtain ⟨pb,rfl,Ed⟩:=bc hx;obtain ⟨pl,Dw,Jw⟩:=P2.get' xm Ed;have Ab:=b7.kt Ac;have Jx:=By.trans Ab;have Oa:=Ab _ _ Jw
     have Jy:nk (s:Nat) pl∈Al:=by
      obtain ⟨x,Jz,rfl⟩:=RN.mp (QH Dw);obtain ⟨u,hu⟩:=sB (mkF ins rows) (mkF ins rows (s:Nat)) (row.take (i+1)) x (Tq.mp Jz).1;exact Bs (x.1,u) hu
     have P9:=Bi.len;refine ⟨_,rfl,⟨pt,BY,rfl,Bi.dm⟩,_,rfl,_,rfl,ak (by show 2<=1000000;decide),fun C5 JA=>?_⟩;have s8:L2.Same H7 (upd H7 C5 (.tup [.int ((s:Nat):Int),.ref pb])):=ad JA _;have e8:(upd H7 C5 (.tup [.int ((s:Nat):Int),.ref pb])) C5=some (.tup [.int ((s:Nat):Int),.ref pb]):=ab;generalize (upd H7 C5 (.tup [.int ((s:Nat):Int),.ref pb]))=H8 at s8 e8 ⊢;have Ad:=Jx.trans (Same.kt s8);refine ⟨_,rfl,ia,wU,ins,rfl,Ad _ _ hB.inE,hB.inK.mono Ad,g,fun st H9 s9 xO=>?_⟩;have JB:=Ad.trans (Same.kt s9);refine ⟨_,rfl,_,rfl,fun dd Hj=>?_⟩;have xu:L2.Same H9 (upd H9 dd (.dK [])):=ad Hj _;have Dh:(upd H9 dd (.dK [])) dd=some (.dK []):=ab;generalize (upd H9 dd (.dK []))=xC at xu Dh ⊢;have Dx:=JB.trans (Same.kt xu);refine ⟨ia,ka,dd,wU,ins,kd,[],SE kd.2.toNat (gv ins),rfl,Dx _ _ hB.inE,hB.inK.mono Dx,g,Dx _ _ ek,QH hk,Dh,by rw [TZ],fun i' u hu=>.inr ⟨rfl,List.eq_of_mem_replicate (QH hu)⟩,fun r2 xX yd Dc=>?_⟩;refine ⟨ak (by show 2<=1000000;decide),fun pr zj=>?_⟩;have xx:L2.Same xX (upd xX pr (.tup [.ref st,.ref r2])):=ad zj _;have Ae:(upd xX pr (.tup [.ref st,.ref r2])) pr=some (.tup [.ref st,.ref r2]):=ab;generalize (upd xX pr (.tup [.ref st,.ref r2]))=Bj at xx Ae ⊢;have Dy:=xu.trans (yd.trans xx);have BZ:=s8.trans (s9.trans Dy);have Bl:=Bi.same BZ;refine ⟨pt,C5,.ref pr,nk (s:Nat) pl,BY,rfl,rfl,Bl.dm,lg ((s9.trans Dy) _ _ e8) (BZ _ _ Oa),aD (by omega),fun u hu=>?_,fun hn B0 LY JC=>?_⟩
     · refine ⟨_,BY,rfl,b7.trans (Same.but BZ),Bl,yB,fun j' zi w6 yc=>?_⟩;by_cases Bm:j'=j
       · subst Bm;rw [Dw] at yc;cases yc;exact RN.mpr ⟨_,dR hu,rfl⟩
       · exact wM j' zi (by omega) yc
     · obtain ⟨Ee,FG⟩:=Bl.put hn LY JC ⟨pr,st,r2,_,_,rfl,Ae,xO.mono (Same.kt Dy),Dc.mono (Same.kt xx)⟩ Jy;refine ⟨_,_,rfl,(b7.trans (Same.but BZ)).trans LY,Ee,fun k Ax=>by rw [FG];exact RC _ (yB k Ax),fun j' zi w6 yc=>?_⟩;rw [FG];by_cases Bm:j'=j
       · subst Bm;rw [Dw] at yc;cases yc;exact Rt _ (Q6 ..)
       · exact RC _ (wM j' zi (by omega) yc)
   · rintro σ H7 ⟨c8,BY,rfl,b7,Bi,yB,wM⟩;refine ⟨cm,_,_,_,BY,rfl,b6.trans b7,Jv.mono (b7.kt Ac),Bi,fun k Ax=>yB k (xZ k Ax),fun _ x hx hh=>?_⟩;have hm:x.1∈(((frF (mkF ins rows) (mkF ins rows (s:Nat)) (row.take (i+1))).pl []).filter fun p=>p.2.isHole).map (·.1):=RN.mpr ⟨x,Tq.mpr ⟨hx,hh⟩,rfl⟩;obtain ⟨j',w6⟩:=Rb.mp hm;exact wM j' x.1 (by have:=(QL.mp w6).1;rw [QA];omega) w6
 · rintro σ H2 ⟨fa,c6,c7,c8,xU,rfl,b2,xH,yq,xZ,hh⟩;rw [QA] at xH hh;rw [Sd (by omega)] at xH hh;exact ⟨_,rfl,q fa xU H2 b2 xH yq xZ (hh (by have:=g.ne;omega))⟩
def LDone (H:Hp) (G:LG) (s:Nat) (ps:List Th) (f0:Th):Prop:=∀ p∈ps,∀ c∈callsOf (p.pl []),∀ u,(c.1,u)∈f0.pl []->∀ x∈u.pl [],fS H G (nk c.2.1 x.1) (s:Nat) (c.1++x.1)
theorem LDone.sub {H H':Hp} {G G':LG} {s:Nat} {ps:List Th} {f0:Th} (h:LDone H G s ps f0) (k:LSub H H' G G'):LDone H' G' s ps f0:=fun p hp c hc u hu x hx=>k _ _ _ (h p hp c hc u hu x hx)
inductive fY (P:QR) (w:Q3) (K:QB) (vs:List V) (H:Hp) (Q:VK) (_E:XK):Prop
 | mk (b fa la:QD) (s:Nat) (ins outs:List (Rc×Int)) (head:Th) (rows:List (List Th)) (row:List Th) (f0:Th) (H0:Hp) (G:LG) (N:Nat) (Al:List az) (wZ:vs=[.ref b,.int (s:Nat),.ref fa,.ref la]) (w4:Bk H ins outs head rows b) (w8:FrB ins outs rows) (xj:rows[s]?=some row) (xB:AtK K H f0 fa) (yu:f0.size<=200) (AM:f0.tall<=100) (Bt:LkI P w ins Al H0 H la G N) (Ea:N<=15000000) (Fu:(∀ x∈f0.pl [],nk (s:Nat) x.1∈Al)) (FH:∀ (G':LG) (H':Hp),KT H H'->LkI P w ins Al H0 H' la G' (N+640000)->LSub H H' G G'->LDone H' G' s row f0->Q .non H'):fY P w K vs H Q _E
def l3 (P:QR) (w:Q3) (K:QB):Sp:=fY P w K
set_option maxHeartbeats 4000000 in
theorem mD:bh P w K mg base CX0 6 T.g_put_links.f T.g_put_links.d ["book","state","front","links"] (l3 P w K):=by
 refine T.g_put_links.F.ok bB (fun vs H Q E h=>?_) (fun wQ A outer s0 H vs Q E hr h=>?_)
 · obtain ⟨b,fa,la,s,ins,outs,head,rows,row,f0,H0,G,N,Al,rfl,_⟩:=h;rfl
 obtain ⟨b,fa,la,s,ins,outs,head,rows,row,f0,H0,G,N,Al,rfl,hB,F,wK,xH,P',Qa,L,hN,Bs,q⟩:=h;refine hid fun ZZ kZ=>?_;obtain ⟨ia,oa,ha,ra,wU,xc,xv,hB⟩:=hB;refine kZ ?_
 refine ⟨_,(ae (aw (i:=4) bB.nd rfl (QY rfl) (cH (kb (tM hr) rfl) rfl T.n_dict PyProof.Rows.boot_dict (aa (pcF T.g_placed (fQ T) hr (aa (pv 2) ac)) ac)))
  (ag (bw Rg rfl (qY rfl T.n_zip (aa (pcF T.g_ins_of (eA T) hr (aa (pv 0) ac)) (aa (aG aL (pcF T.g_rules_of (du T) hr (aa (pv 0) ac)) (pv 1) (fun _ _=>rfl)) ac))) (bp rfl (aq (am (i:=5) bB.nd rfl (QY rfl)) (aq (am (i:=6) bB.nd rfl (QY rfl)) aX))) (ag (bw Rg rfl (cy (pcF T.g_calls_in (nI T) hr (aa (pv 6) ac))) (bp rfl (aq (am (i:=7) bB.nd rfl (QY rfl)) (aq (bp rfl (aq (am (i:=8) bB.nd rfl (QY rfl)) (aq (am (i:=9) bB.nd rfl (QY rfl)) aX))) aX))) (ag (bS (oy (uC (ll hr) (pv 7) (pv 4))) (ag (bw Rg rfl (cy (pcF T.g_places (qX T) hr (aa (mx (ll hr) (pv 4) (pv 7) (fun _ _=>rfl)) ac))) (am (i:=10) bB.nd rfl (QY rfl)) (ag (aN (bN QV Q5 Q4 aJ (sD U2 PySem.F.type_dict_setdefault (fJ (gr hr)) (pv 3) (aa (aH (aa (pv 8) (aa (pv 10) ac))) (aa (bv ac) ac))) (aa (aH (aa (pv 1) (aa (av cS (pv 7) (pv 10)) (aa (pv 5) (aa (pv 9) ac))))) ac)))))) bH))))))),?_⟩
 try dsimp only [xl,wN]
 have g:=F.gi;have yO:ins.length=wU.length:=QP hB.inK;have Ft:=g.le;have LR:=(QL.mp wK).1
 -- parts
 refine ⟨_,rfl,fa,f0,rfl,xH,by omega,by omega,fun Ob Hk H1 s1 Qb Oc xP=>?_⟩;have JD:(f0.pl []).length=Hk.length:=QP xP;rw [Th.pl_len] at JD;refine hid fun ZZ kZ=>?_;obtain ⟨prs,FI,JE,JF⟩:∃ prs:List (List Key×V),Rf (PrA H1) prs Hk/\(∀ p∈prs,∃ x∈f0.pl [],p.1=x.1.map Rk/\∃ a,p.2=.ref a/\AtK K H1 x.2 a)/\∀ x∈f0.pl [],∃ p∈prs,p.1=x.1.map Rk:=sJ xP;refine kZ ?_;have LZ:prs.length=Hk.length:=QP FI;refine ⟨Ob,Hk,prs,rfl,Oc,FI,by omega,fun pd Od=>?_⟩;have s2:L2.Same H1 (upd H1 pd (.dT (bX [] prs))):=ad Od _;have e2:(upd H1 pd (.dT (bX [] prs))) pd=some (.dT (bX [] prs)):=ab;generalize (upd H1 pd (.dT (bX [] prs)))=H2 at s2 e2 ⊢;refine hid fun ZZ kZ=>?_;obtain ⟨f1,f2⟩:=iT (R:=fun k v=>∃ x∈f0.pl [],k=x.1.map Rk/\∃ a,v=.ref a/\AtK K H1 x.2 a) prs [] (fun k v hv=>by cases hv) JE;have zm:=s1.trans s2;have Dz:=L.same zm;obtain ⟨yh,ze,Dr,Bx,zf⟩:=P2.get hB.rw wK;refine kZ ?_;have xW:=zf.length;have Bh:=(F.fit.row row (QH wK)).1
 have JG:∀ (q:List Int) (u:Th),(q,u)∈f0.pl []->∃ a,aT (bX [] prs) (q.map Rk)=some (.ref a)/\AtK K H1 u a:=fun q u hu=>by
  obtain ⟨p,hp,e⟩:=JF (q,u) hu;obtain ⟨v,hv⟩:=f2 (q.map Rk) (.inr ⟨p,hp,e⟩);obtain ⟨x,hx,ex,a,rfl,ha⟩:=f1 _ v hv;have hq:q=x.1:=(We (fun _ _ e=>UH e)).mp ex;have:u=x.2:=oZ _ (QF _) hu (by rw [hq];exact hx);rw [this];exact ⟨a,hv,ha⟩
 have JH:∀ (q:List Int) (v:V),aT (bX [] prs) (q.map Rk)=some v->∃ u a,(q,u)∈f0.pl []/\v=.ref a/\AtK K H1 u a:=fun q v hv=>by
  obtain ⟨x,hx,ex,a,rfl,ha⟩:=f1 _ v hv;have hq:q=x.1:=(We (fun _ _ e=>UH e)).mp ex;exact ⟨x.2,a,by rw [hq];exact hx,rfl,ha⟩
 have CD:pd≠la:=fun z=>by
  obtain ⟨φ,e⟩:=ce Dz.dm;rw [z,e] at e2;cases e2
 have JI:∀ g∈G,g.2.1≠pd:=fun g hg z=>by
  have:=(Dz.ls g hg).2.1;rw [z,e2] at this;cases this
 refine ⟨_,rfl,b,_,_,_,_,rfl,zm _ _ hB.bk,_,rfl,b,_,_,_,_,rfl,zm _ _ hB.bk,_,rfl,ra,_,_,.ref yh,rfl,rfl,SqT.of (zm _ _ hB.rl),cU (by rw [QO,ze];rfl),ia,yh,rfl,⟨_,SqT.of (zm _ _ hB.inE)⟩,⟨_,SqT.of (zm _ _ Bx)⟩,?_⟩
 refine pL (K:=K) (a:=ia) (b:=yh) (xs:=wU.map V.ref) (ys:=Dr.map V.ref) (by rw [QA,QA];omega) (fun i σ H3=>Ex7 fun (c5 c6 c7 c8 c9 yb:Option V) (G3:LG)=>An3 (σ=[some (.ref b),some (.int ((s:Nat):Int)),some (.ref fa),some (.ref la),some (.ref pd),c5,c6,c7,c8,c9,yb]) (LQ P w ins Al H0 la H2 G H3 G3 (N+i * 80000)) (LDone H3 G3 s (row.take i) f0))
  ⟨none,none,none,none,none,none,G,rfl,(LQ.refl Dz).up (by omega),fun p hp=>by rw [UL] at hp;cases hp⟩ (fun i σ H3 _ ⟨_,_,_,_,_,_,_,_,q3,_⟩=>?_) ?_ ?_
 · have kt:=(Same.kt zm).trans (q3.kt Dz);exact ⟨SqT.of (kt _ _ hB.inE),SqT.of (kt _ _ Bx)⟩
 · rintro i x y p2 σ H3 hx hy yH ⟨c5,c6,c7,c8,c9,yb,G3,rfl,q3,d3⟩;refine hid fun ZZ kZ=>?_;obtain ⟨ka,rfl,xN⟩:=bc hx;obtain ⟨pa,rfl,Bu⟩:=bc hy;obtain ⟨kd,hk,ek⟩:=P2.get' hB.inK xN;obtain ⟨p,hp,Bf⟩:=zf.get Bu;refine kZ ?_;have Oe:i<8:=by have:=(QL.mp hk).1;omega
   have s4:L2.Same H3 (upd H3 p2 (.tup [.ref ka,.ref pa])):=ad yH _;have e4:(upd H3 p2 (.tup [.ref ka,.ref pa])) p2=some (.tup [.ref ka,.ref pa]):=ab;generalize (upd H3 p2 (.tup [.ref ka,.ref pa]))=H4 at s4 e4 ⊢;have q4:=q3.same s4;have DA:=(Same.kt zm).trans (q4.kt Dz);refine ⟨p2,_,rfl,SqT.of e4,rfl,_,_,rfl,_,_,rfl,rfl,?_⟩;dsimp only [aI];have C':=F.sz row (QH wK) p (QH hp);refine ⟨_,rfl,pa,p,rfl,(Bf.mono DA).k,by omega,by omega,fun cl cs H5 s5 Of Hm Am=>?_⟩;have q5:=q4.same s5;have d5:=d3.sub (LSub.kt (Same.kt (s4.trans s5)) G3);have L5:=q5.lk;have JJ:(callsOf (p.pl [])).length=cs.length:=QP Am;have JK:=iV (p.pl []);rw [Th.pl_len] at JK
   have JL:∀ g∈G3,g.2.1≠cl:=fun g hg z=>by
    have:=(q4.lk.ls g hg).2.1;rw [z,Of] at this;cases this
   have FJ:cl≠la:=fun z=>by
    obtain ⟨φ,e⟩:=ce L5.dm;rw [z,e] at Hm;cases Hm
   refine ⟨cl,rfl,⟨_,SqL.of Hm⟩,?_⟩
   refine dZ (K:=K) (a:=cl) (xs:=cs.map V.ref) (fun j σ H6=>Ex5 fun (c7 c8 c9 yb:Option V) (G6:LG)=>An3 (σ=[some (.ref b),some (.int ((s:Nat):Int)),some (.ref fa),some (.ref la),some (.ref pd),some (.ref ka),some (.ref pa),c7,c8,c9,yb]) (LQ P w ins Al H0 la H5 G3 H6 G6 (N+i * 80000+j * 400)) (∀ (j':Nat) (c:List Int×Int×Int),j'<j->(callsOf (p.pl []))[j']?=some c->∀ u,(c.1,u)∈f0.pl []->∀ x∈u.pl [],fS H6 G6 (nk c.2.1 x.1) (s:Nat) (c.1++x.1)))
    ⟨_,_,_,_,G3,rfl,(LQ.refl L5).up (by omega),fun _ _ h=>absurd h (UA _)⟩ (fun j σ H6 _ ⟨_,_,_,_,_,_,q6,_⟩=>SqL.of (q6.fr _ _ Hm FJ JL)) ?_ ?_
   · rintro j x σ H6 hx ⟨c7,c8,c9,yb,G6,rfl,q6,d6⟩;refine hid fun ZZ kZ=>?_;obtain ⟨ca,rfl,Fj⟩:=bc hx;obtain ⟨c,hc,L3,Og,Oh,L4,JM⟩:=P2.get' Am Fj;refine kZ ?_;have By:=q6.kt L5;have D5:j<200:=by have:=(QL.mp hc).1;omega
     have FK:H5 pd=some (.dT (bX [] prs)):=q5.fr _ _ e2 CD JI
     have FL:∀ g∈G3,g.2.1≠pd:=fun g hg z=>by
      have:=(L5.ls g hg).2.1;rw [z,FK] at this;cases this
     have FN:=q6.fr _ _ FK CD FL
     have L6:H6 L3=some (.tup ((c.1.map Rk).map kV)):=by
      rw [By _ _ L4,Tx];rfl
     have B1:=(Same.kt s2).trans ((q5.kt Dz).trans By);refine ⟨ca,_,rfl,SqT.of (By _ _ Oh),rfl,_,_,rfl,_,_,rfl,Og,_,rfl,SqT.of (By _ _ JM),rfl,_,_,rfl,_,_,rfl,rfl,rfl,?_⟩;refine fz (fun bb H'=>An2 (H6=H') (bb=(aT (bX [] prs) (c.1.map Rk)).isSome)) (fun k2 zQ=>?_) (fun H' xb=>?_) (fun H' xb=>?_)
     · exact ⟨_,rfl,_,rfl,pd,_,rfl,DGet.t FN L6,_,rfl,zQ _ _ ⟨rfl,rfl⟩⟩
     · refine hid fun ZZ kZ=>?_;obtain ⟨rfl,xb⟩:=xb;obtain ⟨v,hv⟩:=Uv.mp xb.symm;obtain ⟨u,ua,hu,rfl,D'⟩:=JH c.1 v hv;obtain ⟨EB,Oi⟩:=tZ _ f0 [] (QF _) _ hu;refine kZ ?_;dsimp only at EB Oi;refine ⟨_,rfl,_,rfl,pd,.ref ua,rfl,by rw [<- hv];exact DGet.t FN L6,ua,u,rfl,D'.mono B1,by omega,by omega,fun il L9 H7 s7 nil Hn FO=>⟨il,rfl,⟨_,SqL.of Hn⟩,?_⟩⟩;have q7:=q6.same s7;have L7:=q7.lk;have d7:∀ (j':Nat) (c:List Int×Int×Int),j'<j->(callsOf (p.pl []))[j']?=some c->∀ u,(c.1,u)∈f0.pl []->∀ x∈u.pl [],fS H7 G6 (nk c.2.1 x.1) (s:Nat) (c.1++x.1):=fun j' c h1 h2 u h3 x h4=>LSub.kt (Same.kt s7) G6 _ _ _ (d6 j' c h1 h2 u h3 x h4);have JN:(u.pl []).length=L9.length:=QP FO;rw [Th.pl_len] at JN
       have JO:∀ g∈G6,g.2.1≠il:=fun g hg z=>by
        have:=(q6.lk.ls g hg).2.1;rw [z,nil] at this;cases this
       have FP:il≠la:=fun z=>by
        obtain ⟨φ,e⟩:=ce L7.dm;rw [z,e] at Hn;cases Hn
       have Ab:=By.trans (Same.kt s7);have JP:=(DA.trans (Same.kt s5)).trans Ab
       refine dZ (K:=K) (a:=il) (xs:=L9.map V.ref) (fun m σ H8=>Ex2 fun (yb:Option V) (G8:LG)=>An3 (σ=[some (.ref b),some (.int ((s:Nat):Int)),some (.ref fa),some (.ref la),some (.ref pd),some (.ref ka),some (.ref pa),some (.ref L3),some (.int c.2.1),some (.int c.2.2),yb]) (LQ P w ins Al H0 la H7 G6 H8 G8 (N+i * 80000+j * 400+2 * m)) (∀ (m':Nat) (x:List Int×Th),m'<m->(u.pl [])[m']?=some x->fS H8 G8 (nk c.2.1 x.1) (s:Nat) (c.1++x.1)))
        ⟨_,G6,rfl,LQ.refl L7,fun _ _ h=>absurd h (UA _)⟩ (fun m σ H8 _ ⟨_,_,_,q8,_⟩=>SqL.of (q8.fr _ _ Hn FP JO)) ?_ ?_
       · rintro m x σ H8 hx ⟨yb,G8,rfl,q8,d8⟩;refine hid fun ZZ kZ=>?_;obtain ⟨ib,rfl,Oj⟩:=bc hx;obtain ⟨y,hy,JQ⟩:=P2.get' FO Oj;have Qc:m<200:=by have:=(QL.mp hy).1;rw [Th.pl_len] at this;omega
         have JR:=q8.kt L7;have L8:=q8.lk;have B2:=L8.le;have JS:=JR _ _ JQ;have Ma:=JR _ _ (Ab _ _ L4);have Mb:KAt H8 kd ka:=JR _ _ (JP _ _ ek);obtain ⟨Qd,Ol⟩:=ce L8.dm;refine kZ ?_;have G7:c.1.length<=100:=by have:=rN _ f0 [] (QF _) _ hu;rw [U5] at this;dsimp only at this;omega
         have Qe:y.1.length<=100:=by have:=rN _ u [] (QF _) y (QH hy);rw [U5] at this;omega
         have Mc:nk (s:Nat) (c.1++y.1)∈Al:=Bs (c.1++y.1,y.2) (pp _ (QF _) hu (QH hy));refine ⟨_,rfl,⟨la,_,rfl,L8.dm⟩,_,rfl,_,rfl,ak (by show 2<=1000000;decide),fun kp Bg=>?_⟩;have s9:L2.Same H8 (upd H8 kp (.tup [.int c.2.1,.ref ib])):=ad Bg _;have e9:(upd H8 kp (.tup [.int c.2.1,.ref ib])) kp=some (.tup [.int c.2.1,.ref ib]):=ab;dsimp only;generalize (upd H8 kp (.tup [.int c.2.1,.ref ib]))=H9 at s9 e9 ⊢;refine ⟨ak (by show 0<=1000000;decide),fun l0 An=>?_⟩;have xu:L2.Same H9 (upd H9 l0 (.lst [])):=ad An _;have q9:LQ P w ins Al H0 la H8 G8 H9 G8 (N+i * 80000+j * 400+2 * m):=(LQ.refl L8).same s9;have Ho:=Same.kt (s9.trans xu);refine ⟨la,kp,.ref l0,nk c.2.1 y.1,lkv G8,rfl,rfl,L8.dm.mono (s9.trans xu),lg (xu _ _ e9) ((s9.trans xu) _ _ JS),dS (by unfold lkv;rw [QA];omega),fun u hu=>?_,fun hn xC Om JT=>?_⟩
         · obtain ⟨g,hg,JU,rfl⟩:=pC hu;have qs:LQ P w ins Al H0 la H8 G8 (upd H9 l0 (.lst [])) G8 (N+i * 80000+j * 400+2 * m+1):=(q9.same xu).up (by omega);generalize (upd H9 l0 (.lst []))=Hs at qs Ho ⊢;have Ls:=qs.lk;refine hid fun ZZ kZ=>?_;obtain ⟨_,gl,gn,_⟩:=Ls.ls g hg;refine kZ ?_;refine ⟨.inl ⟨rfl,_,SqL.of gl⟩,_,rfl,_,rfl,_,rfl,?_⟩;refine lP (Ho _ _ Ma) (Ho _ _ JS) (by rw [QA,QA];omega) fun pj xX yd Bz=>?_;rw [<- QS] at Bz;refine ⟨_,rfl,_,rfl,ak (by show 4<=1000000;decide),fun en JV=>?_⟩;have xx:L2.Same xX (upd xX en (.tup [.int ((s:Nat):Int),.ref pj,.ref ka,.int c.2.2])):=ad JV _;have Ae:(upd xX en (.tup [.int ((s:Nat):Int),.ref pj,.ref ka,.int c.2.2])) en=some (.tup [.int ((s:Nat):Int),.ref pj,.ref ka,.int c.2.2]):=ab;generalize (upd xX en (.tup [.int ((s:Nat):Int),.ref pj,.ref ka,.int c.2.2]))=Bj at xx Ae ⊢;have zF:=yd.trans xx;refine ⟨g.2.1,_,_,rfl,rfl,zF _ _ gl,dS (by rw [QA];omega),?_⟩;obtain ⟨FQ,has⟩:=(qs.same zF).appG hg (en:=en) ⟨_,_,c.1++y.1,pj,ka,kd,Ae,xx _ _ Bz,(Same.kt zF) _ _ (Ho _ _ Mb),QH hk,Mc⟩;refine ⟨_,_,rfl,(q8.trans FQ).up (by omega),fun m' x2 Cs zN=>?_⟩;by_cases JW:m'=m
           · rw [JW,hy] at zN;cases zN;have hh:=has _ _ _ _ _ Ae (xx _ _ Bz);rw [JU] at hh;exact hh
           · exact FQ.sub _ _ _ (d8 m' x2 (by omega) zN)
         · have qs:=q9.newG An hn Om JT;have JX:=qs.kt L8;refine hid fun ZZ kZ=>?_;obtain ⟨g,hg,JU,Oo⟩:∃ g∈G8++[(nk c.2.1 y.1,l0,[])],g.1=nk c.2.1 y.1/\g.2.1=l0:=⟨_,Rt _ (Q6 ..),rfl,rfl⟩;refine kZ ?_;rw [<- Oo] at qs hg ⊢;have Ls:=qs.lk;refine hid fun ZZ kZ=>?_;obtain ⟨_,gl,gn,_⟩:=Ls.ls g hg;refine kZ ?_;refine ⟨.inl ⟨rfl,_,SqL.of gl⟩,_,rfl,_,rfl,_,rfl,?_⟩;refine lP (JX _ _ Ma) (JX _ _ JS) (by rw [QA,QA];omega) fun pj xX yd Bz=>?_;rw [<- QS] at Bz;refine ⟨_,rfl,_,rfl,ak (by show 4<=1000000;decide),fun en JV=>?_⟩;have xx:L2.Same xX (upd xX en (.tup [.int ((s:Nat):Int),.ref pj,.ref ka,.int c.2.2])):=ad JV _;have Ae:(upd xX en (.tup [.int ((s:Nat):Int),.ref pj,.ref ka,.int c.2.2])) en=some (.tup [.int ((s:Nat):Int),.ref pj,.ref ka,.int c.2.2]):=ab;generalize (upd xX en (.tup [.int ((s:Nat):Int),.ref pj,.ref ka,.int c.2.2]))=Bj at xx Ae ⊢;have zF:=yd.trans xx;refine ⟨g.2.1,_,_,rfl,rfl,zF _ _ gl,dS (by rw [QA];omega),?_⟩;obtain ⟨FQ,has⟩:=(qs.same zF).appG hg (en:=en) ⟨_,_,c.1++y.1,pj,ka,kd,Ae,xx _ _ Bz,(Same.kt zF) _ _ (JX _ _ Mb),QH hk,Mc⟩;refine ⟨_,_,rfl,(q8.trans FQ).up (by omega),fun m' x2 Cs zN=>?_⟩;by_cases JW:m'=m
           · rw [JW,hy] at zN;cases zN;have hh:=has _ _ _ _ _ Ae (xx _ _ Bz);rw [JU] at hh;exact hh
           · exact FQ.sub _ _ _ (d8 m' x2 (by omega) zN)
       · rintro σ H8 ⟨yb,G8,rfl,q8,d8⟩;refine ⟨_,_,_,_,G8,rfl,(q7.trans q8).up (by rw [QA];omega),fun j' c' w6 xV u' yo x2 zN=>?_⟩;by_cases Bm:j'=j
         · subst Bm;rw [hc] at xV;cases xV;have:u'=u:=oZ _ (QF _) yo hu;subst this;obtain ⟨m',Cs⟩:=Rb.mp zN;exact d8 m' x2 (by have:=(QL.mp Cs).1;rw [Th.pl_len] at this;rw [QA];omega) Cs
         · exact q8.sub _ _ _ (d7 j' c' (by omega) xV u' yo x2 zN)
     · obtain ⟨rfl,xb⟩:=xb;refine ⟨_,_,_,_,G6,rfl,q6.up (by omega),fun j' c' w6 xV u' yo x2 zN=>?_⟩;by_cases Bm:j'=j
       · subst Bm;rw [hc] at xV;cases xV;obtain ⟨a,ha,_⟩:=JG c.1 u' yo;rw [ha] at xb;cases xb
       · exact d6 j' c' (by omega) xV u' yo x2 zN
   · rintro σ H6 ⟨c7,c8,c9,yb,G6,rfl,q6,d6⟩;refine ⟨_,_,_,_,_,_,G6,rfl,(q5.trans q6).up ?_,?_⟩
     · rw [QA];have:cs.length * 400<=200 * 400:=VQ _ (by omega);omega
     · intro p' yc;rw [RX,hp] at yc;rcases Rv.mp yc with yc | yc
       · exact (d5.sub q6.sub) p' yc
       · cases Q2.mp yc;intro c FC;obtain ⟨j',w6⟩:=Rb.mp FC;exact d6 j' c (by have:=(QL.mp w6).1;rw [QA];omega) w6
 · rintro σ H3 ⟨c5,c6,c7,c8,c9,yb,G3,rfl,q3,d3⟩;rw [QA] at q3 d3;rw [Sd (by omega)] at d3;have hmul:wU.length * 80000<=8 * 80000:=VQ _ (by omega);exact q G3 H3 ((Same.kt zm).trans (q3.kt Dz)) (q3.lk.up (by omega)) ((LSub.kt (Same.kt zm) G).trans q3.sub) d3
theorem lw (k:Key) (v:V):iw [] [(k,v)]=[(k,v)]:=rfl
def iy (ins:List (Rc×Int)) (n:Nat) (kid:Int) (t:Th):List Th:=(Rl n).map fun (i:Nat)=>if (i:Int)=kid then t else gv ins
theorem jy (ins:List (Rc×Int)) (n:Nat) (kid:Int) (t:Th):(iy ins n kid t).length=n:=by unfold iy;rw [QA,Rm]
theorem nY {H:Hp} {ins:List (Rc×Int)} {n:Nat} {kid:Int} {t:Th} {a:QD} (h:At H t a):t4 H ins [(Rk kid,.ref a)] (iy ins n kid t):=fun i u hu=>by
 unfold iy at hu;rw [QO,RJ] at hu;obtain ⟨j,hj,rfl⟩:=hu;have Qf:j<n:=by have:=TC.mp (QH hj);exact this
 have E9:i=j:=by
  have hi:i<n:=by have:=(QL.mp hj).1;rwa [Rm] at this
  rw [R6 hi] at hj;exact Q8 hj
 subst E9;by_cases hk:(i:Int)=kid
 · rw [if_pos hk];exact .inl ⟨a,by rw [bF (by rw [hk])],h⟩
 · rw [if_neg hk];exact .inr ⟨by rw [bz (fun z=>hk (UH z).symm)];rfl,rfl⟩
def SpI (P:QR) (w:Q3) (H:Hp) (ia la pt hl:QD) (G:LG) (f':List (az×V)) (Al:List az) (m:Nat) (σ:St) (H2:Hp):Prop:=∃ (i:Nat) (xU:List (az×V)) (Ay:List QD) (c5 c6 c7 c8 c9 yb:Option V),σ=[some (.ref ia),some (.ref la),some (.ref pt),some (.ref hl),some (.int (i:Nat)),c5,c6,c7,c8,c9,yb]/\But pt H H2/\H2 hl=some (.lst (Ay.map V.ref))/\Pt P w H2 pt xU Al/\Rf (fun k b=>MKAt H2 k b) (xU.map (·.1)) Ay/\(∀ k∈f'.map (·.1),k∈xU.map (·.1))/\i<=xU.length/\(∀ (j:Nat) (k:az),j<i->(xU.map (·.1))[j]?=some k->∀ s pl,fS H2 G k s pl->nk s pl∈xU.map (·.1))/\m=Al.length+1 - i
inductive kD (P:QR) (w:Q3) (vs:List V) (H:Hp) (Q:VK) (_E:XK):Prop
 | mk (ia la pt:QD) (wU:List QD) (ins:List (Rc×Int)) (G:LG) (f':List (az×V)) (Al:List az) (wZ:vs=[.ref ia,.ref la,.ref pt]) (w4:H ia=some (.tup (wU.map V.ref))) (w8:KsAt H ins wU) (xj:cZ ins) (xB:LkR P w ins Al H la G) (yu:Pt P w H pt f' Al) (AM:Al.length<=1000000) (Bt:pt≠la) (Ea:∀ (xM:List (az×V)) (H':Hp),But pt H H'->Pt P w H' pt xM Al->(∀ k∈f'.map (·.1),k∈xM.map (·.1))->(∀ k∈xM.map (·.1),∀ s pl,fS H' G k s pl->nk s pl∈xM.map (·.1))->Q .non H'):kD P w vs H Q _E
def qJ (P:QR) (w:Q3):Sp:=kD P w
set_option maxHeartbeats 4000000 in
theorem qP:bh P w K mg base CX0 3 T.g_spread.f T.g_spread.d ["ins","links","partings"] (qJ P w):=by
 refine T.g_spread.F.ok bV (fun vs H Q E h=>?_) (fun wQ A outer s0 H vs Q E hr h=>?_)
 · obtain ⟨ia,la,pt,wU,ins,G,f',Al,rfl,_⟩:=h;rfl
 obtain ⟨ia,la,pt,wU,ins,G,f',Al,rfl,ei,zc,g,R,CB,Hf,xf,q⟩:=h
 refine ⟨_,(ae (aw (i:=3) bV.nd rfl (QY rfl) (cH (o9 rfl) rfl T.n_list PyProof.Rows.boot_list (aa (pv 2) ac)))
  (ae (aw (i:=4) bV.nd rfl (QY rfl) af)
  (ag (ft Rg (aS pR (pv 4) (aC au rfl T.n_len Ri (aa (pv 3) ac)) (aW _)) (ae (cO (sf (gr hr) (pv 2) (aG aP (pv 3) (pv 4) (fun _ _=>rfl)) (fun _ _=>rfl)) (bp rfl (aq (am (i:=5) bV.nd rfl (QY rfl)) (aq (am (i:=6) bV.nd rfl (QY rfl)) aX))))
  (ae (bw Rg rfl (cy (qF (gr hr) (pv 1) (aG aP (pv 3) (pv 4) (fun _ _=>rfl)) (bv ac) ⟨rfl,rfl,rfl,rfl⟩)) (bp rfl (aq (am (i:=7) bV.nd rfl (QY rfl)) (aq (am (i:=8) bV.nd rfl (QY rfl)) (aq (am (i:=9) bV.nd rfl (QY rfl)) (aq (am (i:=10) bV.nd rfl (QY rfl)) aX))))) (ag (bS (oy (oX (gr hr) (aH (aa (pv 7) (aa (pv 8) ac))) (pv 2))) (ae (r8 (gr hr) (pv 2) (aH (aa (pv 7) (aa (pv 8) ac))) (aH (aa (pcF T.g_knot_above (dB T) hr (aa (pv 0) (aa (pv 9) (aa (ph (nB (pv 10) (pv 5) pZ) rfl rfl (by decide) (by decide)) ac)))) (aa (pcF T.g_knot_above (dB T) hr (aa (pv 0) (aa (pv 9) (aa (ph (nB (pv 10) (pv 6) pZ) rfl rfl (by decide) (by decide)) ac)))) ac))) rfl)
  (ag (aN (bN QV Q5 Q4 aJ (pv 3) (aa (aH (aa (pv 7) (aa (pv 8) ac))) ac))))) bH)))
  (ag (uy (i:=4) bV.nd rfl (QY rfl) af uY)))))))),?_⟩
 try dsimp only [xl,wN]
 obtain ⟨φ,BX⟩:=ce CB.dm;have yO:ins.length=wU.length:=QP zc;refine ⟨_,rfl,pt,f',rfl,CB.dm,fun hl bs Du xm=>?_⟩;have s1:L2.Same H (upd H hl (.lst (bs.map V.ref))):=ad Du _;have e1:(upd H hl (.lst (bs.map V.ref))) hl=some (.lst (bs.map V.ref)):=ab;generalize (upd H hl (.lst (bs.map V.ref)))=H1 at s1 e1 ⊢;have Md:hl≠pt:=fun z=>by rw [z,BX] at Du;cases Du
 have JY:Rf (fun k b=>MKAt H1 k b) (f'.map (·.1)) bs:=P2.mapl _ (P2.mp (fun _ _ e=>e.mono (Same.kt s1)) xm);refine ⟨SpI P w H ia la pt hl G f' Al,⟨_,0,f',bs,none,none,none,none,none,none,rfl,Same.but s1,e1,CB.same s1,JY,fun _ h=>h,Q7 _,fun _ _ h=>absurd h (UA _),rfl⟩,?_⟩;rintro m σ H2 ⟨i,xU,Ay,c5,c6,c7,c8,c9,yb,rfl,b2,zG,yq,DB,CF,Ha,zw,rfl⟩;have JZ:(xU.map (·.1)).length=Ay.length:=QP DB;rw [QA] at JZ;have Qg:=yq.len;have Js:=b2.kt BX;obtain ⟨Hq,Af⟩:=ce yq.dm;refine ⟨_,rfl,_,rfl,hl,_,rfl,.inl (SqL.of zG),_,_,rfl,rfl,?_⟩;refine ⟨_,rfl,?_⟩;refine cr (fun cc=>?_) (fun cc=>?_)
 · have wX:i<Ay.length:=by
    have:=of_decide_eq_true cc;rw [QA] at this;omega
   refine hid fun ZZ kZ=>?_;obtain ⟨bk,Hr⟩:∃ bk,Ay[i]?=some bk:=⟨_,QC wX⟩;obtain ⟨k,hk,Ds⟩:=P2.get' DB Hr
   obtain ⟨v,hv⟩:∃ v,aT xU k=some v:=by
    cases FR:aT xU k with
    | none=>exact absurd (QH hk) (eB FR)
    | some v=>exact ⟨v,rfl⟩
   obtain ⟨pr,ta,tb,t1,t2,rfl,D8,Aw,Oq⟩:=yq.vl _ (dR hv);refine kZ ?_;have DC:atI (Ay.map V.ref) ((i:Nat):Int)=some (.ref bk):=cU (by rw [QO,Hr];rfl);refine ⟨fun wH H'=>∃ m',m'<Al.length+1 - i/\SpI P w H ia la pt hl G f' Al m' wH H',fun wH H' h=>h,?_⟩;refine ⟨_,rfl,_,rfl,_,rfl,hl,_,_,.ref bk,rfl,rfl,SqL.of zG,DC,?_⟩;refine ⟨pt,bk,k,xU,.ref pr,rfl,rfl,yq.dm,Ds,hv,?_⟩;refine ⟨pr,_,rfl,SqT.of D8,rfl,_,_,rfl,_,_,rfl,rfl,?_⟩;dsimp only [aI];have R2:=R.but b2 BX xf
   -- zp links of this one
   refine iE (fun wH H'=>Ex6 fun (yi:List (az×V)) (zg:List QD) (d7 d8 d9 Ef:Option V)=>An8 (wH=[some (.ref ia),some (.ref la),some (.ref pt),some (.ref hl),some (.int (i:Nat)),some (.ref ta),some (.ref tb),d7,d8,d9,Ef]) (But pt H H') (KT H2 H') (H' hl=some (.lst (zg.map V.ref))) (Pt P w H' pt yi Al) (Rf (fun k b=>MKAt H' k b) (yi.map (·.1)) zg) ((∃ more,yi.map (·.1)=xU.map (·.1)++more)) (∀ s pl,fS H' G k s pl->nk s pl∈yi.map (·.1))) (fun kk Ax=>?_) ?_
   · refine ⟨_,rfl,la,_,rfl,R2.dm,_,rfl,_,rfl,hl,_,_,.ref bk,rfl,rfl,SqL.of zG,DC,ak (by show 0<=1000000;decide),fun l0 An=>?_⟩;have s3:L2.Same H2 (upd H2 l0 (.lst [])):=ad An _;have e3:(upd H2 l0 (.lst [])) l0=some (.lst (([]:List QD).map V.ref)):=ab;generalize (upd H2 l0 (.lst []))=H3 at s3 e3 ⊢;have R3:=R2.but (Same.but s3 (p:=pt)) Af xf;have J0:l0≠hl:=fun z=>by rw [z,zG] at An;cases An
     refine ⟨la,bk,k,lkv G,rfl,rfl,R3.dm,Ds.mono (Same.kt s3),?_⟩;refine hid fun ZZ kZ=>?_
     obtain ⟨l,as,el,Me,Ot,Ou,hle,Ov⟩:∃ (l:QD) (as:List QD),(aT (lkv G) k).getD (.ref l0)=.ref l/\H3 l=some (.lst (as.map V.ref))/\l≠hl/\l≠pt/\(∀ a∈as,LE H3 ins Al a)/\∀ s pl,fS H3 G k s pl->∃ a∈as,∃ (pa ka:QD) (kid:Int),H3 a=some (.tup [.int s,.ref pa,.ref ka,.int kid])/\H3 pa=some (.tup (pl.map V.int)):=by
      have Ag:H3 pt=some (.ext Hq):=s3 _ _ Af;cases Mf:aT (lkv G) k with
      | none=>exact ⟨l0,[],rfl,e3,J0,(fun z=>by rw [z,Ag] at e3;cases e3),(fun a ha=>by cases ha),fun s pl hh=>absurd hh (rq Mf)⟩
      | some u =>
        obtain ⟨g,hg,rfl,rfl⟩:=pC Mf;obtain ⟨h1,h2⟩:=R3.ls g hg;refine ⟨g.2.1,g.2.2,rfl,h1,(fun z=>?_),(fun z=>by rw [z,Ag] at h1;cases h1),h2,fun s pl hh=>R3.at hg hh⟩;have:=(R.ls g hg).1;rw [z,Du] at this;cases this
     refine kZ ?_;rw [el];refine ⟨l,rfl,⟨_,SqL.of Me⟩,?_⟩;have b3:=b2.trans (Same.but s3 (p:=pt))
     refine dZ (K:=K) (a:=l) (xs:=as.map V.ref) (fun j σ H4=>Ex6 fun (yi:List (az×V)) (zg:List QD) (d7 d8 d9 Ef:Option V)=>An8 (σ=[some (.ref ia),some (.ref la),some (.ref pt),some (.ref hl),some (.int (i:Nat)),some (.ref ta),some (.ref tb),d7,d8,d9,Ef]) (But pt H H4) ((∀ c o,c≠pt->c≠hl->H3 c=some o->H4 c=some o)) (H4 hl=some (.lst (zg.map V.ref))) (Pt P w H4 pt yi Al) (Rf (fun k b=>MKAt H4 k b) (yi.map (·.1)) zg) ((∃ more,yi.map (·.1)=xU.map (·.1)++more)) (∀ (j':Nat) (a:QD),j'<j->as[j']?=some a->∀ (s:Int) (pl:List Int) (pa ka:QD) (kid:Int),H3 a=some (.tup [.int s,.ref pa,.ref ka,.int kid])->H3 pa=some (.tup (pl.map V.int))->nk s pl∈yi.map (·.1)))
      ⟨xU,Ay,_,_,_,_,rfl,b3,fun _ _ _ _ e=>e,s3 _ _ zG,yq.same s3,P2.mp (fun _ _ e=>e.mono (Same.kt s3)) DB,⟨[],by rw [Rw]⟩,fun _ _ h=>absurd h (UA _)⟩ (fun j σ H4 _ ⟨_,_,_,_,_,_,_,_,f4,_,_,_,_,_⟩=>SqL.of (f4 _ _ Ou Ot Me)) ?_ ?_
     · rintro j x σ H4 hx ⟨yi,zg,d7,d8,d9,Ef,rfl,b4,f4,Ah,ya,zH,xy,wM⟩;have Ag:H3 pt=some (.ext Hq):=s3 _ _ Af;have zI:KT H3 H4:=fun c ys ec=>f4 c _ (fun z=>by rw [z,Ag] at ec;cases ec) (fun z=>by rw [z,s3 _ _ zG] at ec;cases ec) ec;have B3:=(Same.kt s3).trans zI;have J1:=Js.trans B3;refine hid fun ZZ kZ=>?_;obtain ⟨Qh,J2⟩:=ce ya.dm;have Ow:=ya.len;have J3:(yi.map (·.1)).length=zg.length:=QP zH;rw [QA] at J3;obtain ⟨a,rfl,ha⟩:=bc hx;obtain ⟨s',kid,pl,pa,ka,kd,g1,g2,g3,g4,g5⟩:=hle a (QH ha);refine kZ ?_;have ea:=zI _ _ g1;have zb:=zI _ _ g2;have Mg:KAt H4 kd ka:=zI _ _ g3
       have FT:∀ (s:Int) (zi:List Int) (Bv AY:QD) (yI:Int),H3 a=some (.tup [.int s,.ref Bv,.ref AY,.int yI])->H3 Bv=some (.tup (zi.map V.int))->nk s zi=nk s' pl:=fun s zi Bv AY yI h1 h2=>by
        rw [g1] at h1;cases h1;rw [g2] at h2;have:pl=zi:=nX (by injection h2 with h3;injection h3);rw [this]
       refine ⟨a,_,rfl,SqT.of ea,rfl,_,_,rfl,_,_,rfl,_,_,rfl,_,_,rfl,rfl,?_⟩;dsimp only [aI];refine fz (fun bb H'=>An2 (L2.Same H4 H') (bb=!(aT yi (nk s' pl)).isSome)) (fun k2 zQ=>?_) (fun H5 xb=>?_) (fun H5 xb=>?_)
       · refine ⟨_,rfl,_,rfl,ak (by show 2<=1000000;decide),fun kp Bg=>?_⟩;have s5:=ad Bg (.tup [.int s',.ref pa]);exact ⟨_,rfl,pt,kp,nk s' pl,yi,rfl,rfl,ya.dm.mono s5,lg ab (s5 _ _ zb),_,rfl,zQ _ _ ⟨s5,rfl⟩⟩
       · obtain ⟨s5,xb⟩:=xb
         have hn:aT yi (nk s' pl)=none:=by
          cases FR:aT yi (nk s' pl) with
          | none=>rfl
          | some u=>rw [FR] at xb;cases xb
         have FU:=J1.trans (Same.kt s5);have BP:=B3.trans (Same.kt s5)
         -- zp first tree
         refine ⟨_,rfl,_,rfl,fun dd Hj=>?_⟩;refine ⟨_,rfl,_,rfl,ab,[(Rk kid,.ref ta)],rfl,(by show 1<=15;decide),?_⟩;rw [lw];have s6:L2.Same H5 (upd (upd H5 dd (.dK [])) dd (.dK [(Rk kid,.ref ta)])):=ao (ad Hj _) Hj;have e6:(upd (upd H5 dd (.dK [])) dd (.dK [(Rk kid,.ref ta)])) dd=some (.dK [(Rk kid,.ref ta)]):=ab;generalize (upd (upd H5 dd (.dK [])) dd (.dK [(Rk kid,.ref ta)]))=H6 at s6 e6 ⊢;have B1:=FU.trans (Same.kt s6);refine ⟨ia,ka,dd,wU,ins,kd,_,iy ins kd.2.toNat kid t1,rfl,B1 _ _ ei,zc.mono B1,g,(s5.trans s6) _ _ Mg,g4,e6,jy ..,nY (Aw.mono (BP.trans (Same.kt s6))),fun r1 H7 s7 Jm=>?_⟩
         -- zp second
         refine ⟨_,rfl,_,rfl,fun d2 hd2=>?_⟩;refine ⟨_,rfl,_,rfl,ab,[(Rk kid,.ref tb)],rfl,(by show 1<=15;decide),?_⟩;rw [lw];have s8:L2.Same H7 (upd (upd H7 d2 (.dK [])) d2 (.dK [(Rk kid,.ref tb)])):=ao (ad hd2 _) hd2;have e8:(upd (upd H7 d2 (.dK [])) d2 (.dK [(Rk kid,.ref tb)])) d2=some (.dK [(Rk kid,.ref tb)]):=ab;generalize (upd (upd H7 d2 (.dK [])) d2 (.dK [(Rk kid,.ref tb)]))=H8 at s8 e8 ⊢;have BR:=s6.trans (s7.trans s8);have Ad:=FU.trans (Same.kt BR);refine ⟨ia,ka,d2,wU,ins,kd,_,iy ins kd.2.toNat kid t2,rfl,Ad _ _ ei,zc.mono Ad,g,(s5.trans BR) _ _ Mg,g4,e8,jy ..,nY (Oq.mono (BP.trans (Same.kt BR))),fun r2 H9 s9 Dc=>?_⟩;refine ⟨ak (by show 2<=1000000;decide),fun p2 yH=>?_⟩;have xu:L2.Same H9 (upd H9 p2 (.tup [.ref r1,.ref r2])):=ad yH _;have Dh:(upd H9 p2 (.tup [.ref r1,.ref r2])) p2=some (.tup [.ref r1,.ref r2]):=ab;generalize (upd H9 p2 (.tup [.ref r1,.ref r2]))=xC at xu Dh ⊢;refine ⟨_,rfl,_,rfl,_,rfl,ak (by show 2<=1000000;decide),fun kp Bg=>?_⟩;have yd:L2.Same xC (upd xC kp (.tup [.int s',.ref pa])):=ad Bg _;have Bz:(upd xC kp (.tup [.int s',.ref pa])) kp=some (.tup [.int s',.ref pa]):=ab;generalize (upd xC kp (.tup [.int s',.ref pa]))=xX at yd Bz ⊢;have Ai:=s5.trans (BR.trans (s9.trans (xu.trans yd)));have CG:=ya.same Ai;refine ⟨pt,kp,nk s' pl,yi,rfl,rfl,CG.dm,lg Bz (Ai _ _ zb),dS (by omega),fun Bj J4 J5=>?_⟩;have Ht:But pt xX Bj:=J4;obtain ⟨Ox,DD⟩:=CG.put hn Ht J5 ⟨p2,r1,r2,_,_,rfl,yd _ _ Dh,Jm.mono (Same.kt (s8.trans (s9.trans (xu.trans yd)))),Dc.mono (Same.kt (xu.trans yd))⟩ g5;have Bn:Bj hl=some (.lst (zg.map V.ref)):=Ht _ _ Md (Ai _ _ Ah);have CH:KT H4 Bj:=(Same.kt Ai).trans (Ht.kt (Ai _ _ J2));dsimp only [aI];refine ⟨_,rfl,.inl ⟨rfl,_,SqL.of Bn⟩,_,rfl,_,rfl,ak (by show 2<=1000000;decide),fun CI J6=>?_⟩;have B4:L2.Same Bj (upd Bj CI (.tup [.int s',.ref pa])):=ad J6 _;have Hu:(upd Bj CI (.tup [.int s',.ref pa])) CI=some (.tup [.int s',.ref pa]):=ab;generalize (upd Bj CI (.tup [.int s',.ref pa]))=B0 at B4 Hu ⊢;refine ⟨hl,_,_,rfl,rfl,B4 _ _ Bn,dS (by rw [QA];omega),?_⟩;have B5:KT B0 (upd B0 hl (.lst (zg.map V.ref++[.ref CI]))):=aQ (B4 _ _ Bn);have FV:=(CH.trans (Same.kt B4)).trans B5;have Ee:=Ox.same B4;have Oy:Pt P w (upd B0 hl (.lst (zg.map V.ref++[.ref CI]))) pt _ Al:=⟨qa Ee.dm B5 fun o eo=>by rw [ai Md.symm];exact eo,Ee.nd,Ee.al,fun p hp=>(Ee.vl p hp).mono B5⟩;obtain ⟨more,xy⟩:=xy
         have go:∀ c o,c≠pt->c≠hl->H4 c=some o->(upd B0 hl (.lst (zg.map V.ref++[.ref CI]))) c=some o:=fun c o h1 h2 e=>by
          rw [ai h2];exact B4 _ _ (Ht _ _ h1 (Ai _ _ e))
         refine ⟨_,zg++[CI],_,_,_,_,rfl,fun c o hc e=>go c o hc (fun z=>by rw [z,Du] at e;cases e) (b4 _ _ hc e),fun c o h1 h2 e=>go c o h1 h2 (f4 c o h1 h2 e),by rw [ab,QS];rfl,Oy,?_,⟨more++[nk s' pl],by rw [DD,xy,RG]⟩,fun j' a' w6 zW s zi Bv AY yI h1 h2=>?_⟩
         · rw [DD];exact P2.append (P2.mp (fun _ _ e=>e.mono FV) zH) (.cons ((lg Hu (B4 _ _ (CH _ _ zb))).mono B5) .nil)
         · rw [DD];by_cases Bm:j'=j
           · rw [Bm,ha] at zW;cases zW;rw [FT s zi Bv AY yI h1 h2];exact Rt _ (Q6 ..)
           · exact RC _ (wM j' a' (by omega) zW s zi Bv AY yI h1 h2)
       · obtain ⟨s5,xb⟩:=xb
         obtain ⟨u,hu⟩:∃ u,aT yi (nk s' pl)=some u:=by
          cases FR:aT yi (nk s' pl) with
          | none=>rw [FR] at xb;cases xb
          | some u=>exact ⟨u,rfl⟩
         refine ⟨yi,zg,_,_,_,_,rfl,b4.trans (Same.but s5),fun c o h1 h2 e=>s5 _ _ (f4 c o h1 h2 e),s5 _ _ Ah,ya.same s5,P2.mp (fun _ _ e=>e.mono (Same.kt s5)) zH,xy,fun j' a' w6 zW s zi Bv AY yI h1 h2=>?_⟩;by_cases Bm:j'=j
         · rw [Bm,ha] at zW;cases zW;rw [FT s zi Bv AY yI h1 h2];exact RN.mpr ⟨_,dR hu,rfl⟩
         · exact wM j' a' (by omega) zW s zi Bv AY yI h1 h2
     · rintro σ H4 ⟨yi,zg,d7,d8,d9,Ef,rfl,b4,f4,Ah,ya,zH,xy,wM⟩;have Ag:H3 pt=some (.ext Hq):=s3 _ _ Af;have zI:KT H3 H4:=fun c ys ec=>f4 c _ (fun z=>by rw [z,Ag] at ec;cases ec) (fun z=>by rw [z,s3 _ _ zG] at ec;cases ec) ec;refine Ax _ _ ⟨yi,zg,_,_,_,_,rfl,b4,(Same.kt s3).trans zI,Ah,ya,zH,xy,fun s pl hh=>?_⟩;refine hid fun ZZ kZ=>?_;obtain ⟨a,ha,pa,ka,kid,h1,h2⟩:=Ov s pl (R3.back zI hh);obtain ⟨j',w6⟩:=Rb.mp ha;refine kZ ?_;exact wM j' a (by have:=(QL.mp w6).1;rw [QA];exact this) w6 s pl pa ka kid h1 h2
   · rintro wH H4 ⟨yi,zg,d7,d8,d9,Ef,rfl,b4,B3,Ah,ya,zH,⟨more,xy⟩,J7⟩;have Ow:=ya.len;have hlen:=congrArg U1 xy;rw [QA,QX,QA] at hlen;refine ⟨_,rfl,_,_,rfl,rfl,Al.length+1 - (i+1),by omega,i+1,yi,zg,_,_,_,_,_,_,rfl,b4,Ah,ya,zH,fun k' ym=>by rw [xy];exact RC _ (CF k' ym),by omega,fun j k' hj ym s pl hh=>?_,rfl⟩;have BI:j<(xU.map (·.1)).length:=by rw [QA];omega
     have zQ:(xU.map (·.1))[j]?=some k':=by rw [xy,Tp BI] at ym;exact ym
     by_cases FW:j=i
     · rw [FW,hk] at zQ;cases zQ;exact J7 s pl hh
     · rw [xy];exact RC _ (zw j k' (by omega) zQ s pl (R2.back B3 hh))
 · have Qi:¬ i<Ay.length:=fun z=>cc (decide_eq_true (by rw [QA];omega));refine q xU H2 b2 yq CF fun k hk s pl hh=>?_;obtain ⟨j,hj⟩:=Rb.mp hk;exact zw j k (by have:=(QL.mp hj).1;rw [QA] at this;omega) hj s pl hh
inductive gd (P:QR) (w:Q3) (K:QB) (vs:List V) (H:Hp) (Q:VK) (_E:XK):Prop
 | mk (fa pt:QD) (s:Nat) (t:Th) (f':List (az×V)) (Al:List az) (wZ:vs=[.ref fa,.int (s:Nat),.ref pt]) (w4:AtK K H t fa) (w8:t.size<=200) (xj:t.tall<=100) (xB:t.noCall) (yu:Pt P w H pt f' Al) (AM:∀ (r:QD) (H':Hp),L2.Same H H'->AtK K H' (t.cut (Dk f' (s:Nat)) []) r->Q (.ref r) H'):gd P w K vs H Q _E
def hX (P:QR) (w:Q3) (K:QB):Sp:=gd P w K
def vL (K:QB) (D:List Int->Bool) (fa pt tl ah:QD) (s:Nat) (t:Th) (H:Hp) (m:Nat) (σ:St) (H3:Hp):Prop:=∃ (ts as:List QD) (Ts:List Th) (As:List (List Int×Th)) (c5 c6 c7:Option V),σ=[some (.ref fa),some (.int (s:Nat)),some (.ref pt),some (.ref tl),some (.ref ah),c5,c6,c7]/\L2.Same H H3/\H3 tl=some (.lst (ts.map V.ref))/\H3 ah=some (.lst (as.map V.ref))/\Rf (TopAtK K H3) (Ts.map (dA Th.call)) ts/\PsAtK K H3 As as/\Ts++gx D As.reverse=(t.cut D []).walk/\(∀ p∈As,p.1.length+p.2.tall<=100/\p.2.noCall)/\Ts.length+szP As<=200/\m=szP As
set_option maxHeartbeats 4000000 in
theorem mf:bh P w K mg base CX0 3 T.g_cut_front.f T.g_cut_front.d ["front","state","partings"] (hX P w K):=by
 refine T.g_cut_front.F.ok ci (fun vs H Q E h=>?_) (fun wQ A outer s0 H vs Q E hr h=>?_)
 · obtain ⟨fa,pt,s,t,f',Al,rfl,_⟩:=h;rfl
 obtain ⟨fa,pt,s,t,f',Al,rfl,hA,hsz,xw,DE,CB,k⟩:=h
 refine ⟨_,(ae (aw (i:=3) ci.nd rfl (QY rfl) (bv ac))
  (ae (aw (i:=4) ci.nd rfl (QY rfl) (bv (aa (aH (aa (aH ac) (aa (pv 0) ac))) ac)))
  (ae (ft Rg (bA (pv 4) (fun _=>rfl)) (ae (cO (ko QV TV TU jV (pv 4)) (bp rfl (aq (am (i:=5) ci.nd rfl (Wb rfl)) (aq (am (i:=6) ci.nd rfl (QY rfl)) aX))))
  (ag (bS (PW.pt (nV (bA (pcF T.g_is_hole (gK T) hr (aa (pv 6) ac)) (fun _=>rfl)) (l6 (oy (sM (gr hr) (aH (aa (pv 1) (aa (pv 5) ac))) (pv 2)))))) (ag (aN (bN QV Q5 Q4 aJ (pv 3) (aa (aH (aa (fL (v:=.ref T.a_HOLE) rfl T.c_HOLE rfl) (aa af ac))) ac)))) (ae (aN (bN QV Q5 Q4 aJ (pv 3) (aa (aH (aa (bj pT (pv 6) bQ (bq af)) (aa (av j5 (aC au rfl T.n_len Ri (aa (pv 6) ac)) af) ac))) ac)))
  (ae (fN (i:=7) (N:=[QK "number",QK "kid",QK "place"]) (js:=[none,none,some 5]) (g:=(kM K 2 (cD (aI 0) (cD (aI 1) kH)))) (tt:=bZ) (te:=(mm (bn (tOp (lI K) (bu 2) (mm (bn (bu 0) dP))) (bn (bu 1) dP)))) ci.nd rfl (QY rfl) rfl (cL rfl (by decide +kernel) (by decide +kernel) rfl rfl rfl) (mB rfl T.n_enumerate (bj eE (pv 6) (bq af) bQ)) (fun _ _ _ _ _ _=>(bp rfl (aq (am (i:=0) tK rfl (QY rfl)) (aq (am (i:=1) tK rfl (QY rfl)) aX)))) (fI (bJ aO (aR rfl) (bJ aO (aR rfl) fw))) (fun _ _ _ _ _ _=>cg) (fun _ _ _ _ _ _=>(aH (aa (av cS (pv 2) (aH (aa (pv 0) ac))) (aa (pv 1) ac)))))
  (ag (aN (bN QV Uu Ut iA (pv 4) (aa (jC rfl rfl T.n_list rfl T.n_reversed (pv 7)) ac))))))))))
  (ag (aA (pcF T.g_built (jr T) hr (aa (pv 3) ac))))))),?_⟩
 try dsimp only [xl,wN]
 generalize Oz:Dk f' (s:Nat)=D at k;refine ⟨ak (by show 0<=1000000;decide),fun tl DF=>?_⟩;have s1:L2.Same H (upd H tl (.lst [])):=ad DF _;have De:(upd H tl (.lst [])) tl=some (.lst []):=ab;generalize upd H tl (.lst [])=H1 at s1 De ⊢;refine ⟨ak (by show 0<=1000000;decide),fun p0 BK=>?_⟩;refine ⟨_,rfl,ak (by show 2<=1000000;decide),fun p1 y9=>?_⟩;refine ⟨ak (by show 1<=1000000;decide),fun ah yJ=>?_⟩;have s2:L2.Same H1 (upd (upd H1 p0 (.tup [])) p1 (.tup [.ref p0,.ref fa])):=(ad BK _).trans (ad y9 _);have e1:(upd (upd H1 p0 (.tup [])) p1 (.tup [.ref p0,.ref fa])) p1=some (.tup [.ref p0,.ref fa]):=ab;have e0:(upd (upd H1 p0 (.tup [])) p1 (.tup [.ref p0,.ref fa])) p0=some (.tup []):=ad y9 _ _ _ ab;generalize (upd (upd H1 p0 (.tup [])) p1 (.tup [.ref p0,.ref fa]))=H2 at s2 e1 e0 yJ ⊢;have zC:H1 ah=none:=s2.free yJ;have yz:H ah=none:=s1.free zC;have xf:ah≠tl:=fun z=>by rw [z,De] at zC;cases zC
 have OA:szP [(([]:List Int),t)]=t.size:=by rw [szP,szP];rfl
 refine ⟨vL K D fa pt tl ah s t H,⟨_,[],[p1],[],[([],t)],none,none,none,rfl,ao (s1.trans s2) yz,by rw [ai xf.symm];exact s2 _ _ De,by rw [ab];rfl,.nil,.cons ⟨p0,fa,ad yJ _ _ _ e1,ad yJ _ _ _ e0,hA.mono (Same.kt (ao (s1.trans s2) yz))⟩ .nil,by show []++((t.cut D []).walk++[])=_;rw [UB,Rw],fun p hp=>by rw [Q2.mp hp];exact ⟨by simpa using xw,DE⟩,by rw [OA];simpa using hsz,rfl⟩,?_⟩;rintro m σ H3 ⟨ts,as,Ts,As,c5,c6,c7,rfl,sm,em,ea,a1,a2,hw,hb,hlen,rfl⟩;have Qj:Ts.length=ts.length:=by have:=QP a1;rwa [QA] at this
 refine ⟨_,rfl,_,.inl ⟨_,SqL.of ea,rfl⟩,?_⟩;refine cr (fun c=>?_) (fun c=>?_)
 · refine ⟨fun wH H'=>∃ m',m'<szP As/\vL K D fa pt tl ah s t H m' wH H',fun wH H' h=>h,?_⟩;have yg:as≠[]:=by intro z;subst z;simp at c
   refine hid fun ZZ kZ=>?_;obtain ⟨wY,b,rfl⟩:∃ wY b,as=wY++[b]:=⟨as.dropLast,as.getLast yg,(SV yg).symm⟩;obtain ⟨Us,⟨pre,x⟩,rfl,a3,pa,ta,eb,zb,Aw⟩:=P2.snoc_inv a2;have Fc:szP (Us++[(pre,x)])=szP Us+x.size:=by rw [cp,szP,szP];rfl
   have Fb:=x.size_eq;rw [Fc] at hlen;obtain ⟨GY,FY⟩:=hb (pre,x) (by simp);refine kZ ?_;simp only at GY FY zb Aw;have NW:Us.length=wY.length:=QP a3;have q4:=lZ Us;refine ⟨_,rfl,.inl ⟨rfl,_,SqL.of ea⟩,ah,_,.ref b,rfl,rfl,ea,by simp,?_⟩;have d1:((wY++[b]).map V.ref).dropLast=wY.map V.ref:=by simp
   rw [d1];have k1:KT H3 (upd H3 ah (.lst (wY.map V.ref))):=aQ ea;have Cu:L2.Same H (upd H3 ah (.lst (wY.map V.ref))):=ao sm yz;have zO:(upd H3 ah (.lst (wY.map V.ref))) tl=some (.lst (ts.map V.ref)):=by rw [ai xf.symm];exact em
   have Df:(upd H3 ah (.lst (wY.map V.ref))) ah=some (.lst (wY.map V.ref)):=ab;generalize (upd H3 ah (.lst (wY.map V.ref)))=H4 at k1 Cu zO Df ⊢;refine ⟨b,_,rfl,SqT.of (k1 _ _ eb),rfl,_,_,rfl,_,_,rfl,rfl,?_⟩
   try dsimp only [aI]
   have ya:=CB.same Cu;refine fz (fun bb H'=>An2 (L2.Same H4 H') (bb=(x.isHole || D pre))) (fun k2 zQ=>?_) (fun H5 xb=>?_) (fun H5 xb=>?_)
   · refine ⟨_,rfl,ta,x,rfl,Aw.mono k1,by omega,_,rfl,?_⟩;refine cr (fun ch=>zQ _ _ ⟨.refl _,by rw [ch];rfl⟩) (fun ch=>?_);have OB:x.isHole=false:=Sh.mpr ch;refine ⟨_,rfl,_,rfl,ak (by show 2<=1000000;decide),fun kp Bg=>?_⟩;have s5:=ad Bg (.tup [.int ((s:Nat):Int),.ref pa]);refine ⟨_,rfl,pt,kp,nk (s:Nat) pre,f',rfl,rfl,ya.dm.mono s5,lg ab (s5 _ _ (k1 _ _ zb)),_,rfl,zQ _ _ ⟨s5,?_⟩⟩;rw [OB,Uz,<- Oz];rfl
   · obtain ⟨s5,xb⟩:=xb
     have DG:x.cut D pre=hole:=by
      cases x with
      | call u v=>rw [Th.cut]
      | knot n ks =>
        rw [Th.cut,if_pos];rcases Bool.or_eq_true_iff.mp xb.symm with h | h
        · exact .inl h
        · exact .inr h
     refine ⟨_,rfl,.inl ⟨rfl,_,SqL.of (s5 _ _ zO)⟩,ak (by show 2<=1000000;decide),fun p hp=>?_⟩;have s6:L2.Same H5 (upd H5 p (.tup [.ref T.a_HOLE,.int 0])):=ad hp _;have e6:(upd H5 p (.tup [.ref T.a_HOLE,.int 0])) p=some (.tup [.ref T.a_HOLE,.int 0]):=ab;generalize (upd H5 p (.tup [.ref T.a_HOLE,.int 0]))=H6 at s6 e6 ⊢;have Mh:=(s5.trans s6) _ _ zO;refine ⟨tl,_,_,rfl,rfl,Mh,aD (by rw [QA];omega),?_⟩;have k7:KT H6 (upd H6 tl (.lst (ts.map V.ref++[.ref p]))):=aQ Mh;have Mi:=(k1.trans (Same.kt (s5.trans s6))).trans k7;refine ⟨szP Us,by omega,ts++[p],wY,Ts++[hole],Us,_,_,_,rfl,ao (Cu.trans (s5.trans s6)) DF,by rw [ab,QS];rfl,by rw [ai xf];exact (s5.trans s6) _ _ Df,?_,PsAtK.mono Mi a3,?_,fun p' yc=>hb p' (RC _ yc),?_,rfl⟩
     · rw [QS];exact P2.append (dj Mi a1) (.cons ⟨T.a_HOLE,k7 _ _ e6,uD,(TK.const T.q_HOLE)⟩ .nil)
     · rw [<- hw,R5,RG];show Ts++([hole]++gx D Us.reverse)=Ts++gx D ((pre,x)::Us.reverse);unfold gx;rw [Wr,DG];rfl
     · rw [QX];show Ts.length+1+szP Us<=200;omega
   · obtain ⟨s5,xb⟩:=xb;obtain ⟨hh,FZ⟩:=Bool.or_eq_false_iff.mp xb.symm;cases x with
     | call u v=>rw [Th.noCall] at FY;exact FY.elim
     | knot n ks =>
     have DG:(Th.knot n ks).cut D pre=.knot n (cq D pre 0 ks):=by
      rw [Th.cut,if_neg];rintro (h | h)
      · rw [hh] at h;cases h
      · rw [FZ] at h;cases h
     have D9:=k1.trans (Same.kt s5);have F0:=Aw.mono D9;rw [AtK] at F0;refine hid fun ZZ kZ=>?_;obtain ⟨OC,xi,J8,yL⟩:=F0;refine kZ ?_;have xT:xi.length=ks.length:=yL.length;rw [Th.size] at hlen;have Fd:=bL ks;rw [Th.noCall] at FY;rw [Th.tall] at GY;refine ⟨_,rfl,.inl ⟨rfl,_,SqL.of (s5 _ _ zO)⟩,_,rfl,_,rfl,ta,_,rfl,J8,fun p2 H6 s6 e6=>?_⟩
     have OD:TK K H6 p2 [.str n]:=by
      have e7:TK K H6 p2 (cY (V.str n::xi.map V.ref) none (some 1)):=e6;rw [pe] at e7;exact e7
     refine ⟨_,rfl,ta,_,rfl,.inr ((J8.mono (Same.kt s6)).sq),_,_,rfl,rfl,ak (by show 2<=1000000;decide),fun tp Dj=>?_⟩
     have F1:((V.str n::xi.map V.ref).length:Int) - 1=((ks.length:Nat):Int):=by
      rw [QM,QA];omega
     dsimp only [dP,pD];rw [F1];have s7:L2.Same H6 (upd H6 tp (.tup [.ref p2,.int (ks.length:Nat)])):=ad Dj _;have e7:(upd H6 tp (.tup [.ref p2,.int (ks.length:Nat)])) tp=some (.tup [.ref p2,.int (ks.length:Nat)]):=ab;generalize (upd H6 tp (.tup [.ref p2,.int (ks.length:Nat)]))=H7 at s7 e7 ⊢;have Eg:=s5.trans (s6.trans s7);have Fe:=Eg _ _ zO;refine ⟨tl,_,_,rfl,rfl,Fe,aD (by rw [QA];omega),?_⟩;have k8:KT H7 (upd H7 tl (.lst (ts.map V.ref++[.ref tp]))):=aQ Fe;have J9:L2.Same H (upd H7 tl (.lst (ts.map V.ref++[.ref tp]))):=ao (Cu.trans Eg) DF;have Mj:(upd H7 tl (.lst (ts.map V.ref++[.ref tp]))) tl=some (.lst ((ts++[tp]).map V.ref)):=by rw [ab,QS];rfl
     have Ff:(upd H7 tl (.lst (ts.map V.ref++[.ref tp]))) ah=some (.lst (wY.map V.ref)):=by rw [ai xf];exact Eg _ _ Df
     generalize (upd H7 tl (.lst (ts.map V.ref++[.ref tp])))=H8 at k8 J9 Mj Ff ⊢;have J':=(Same.kt (s6.trans s7)).trans k8;have Cv:=D9.trans J'
     have Ka:Rf (TopAtK K H8) ((Ts++[Th.knot n (cq D pre 0 ks)]).map (dA Th.call)) (ts++[tp]):=by
      rw [QS];refine P2.append (dj Cv a1) (.cons ⟨p2,?_,OC,OD.mono ((Same.kt s7).trans k8)⟩ .nil);show H8 tp=some (.tup [.ref p2,.int ((cq D pre 0 ks).length:Nat)]);rw [cK];exact k8 _ _ e7
     try dsimp only [aI]
     -- kids
     refine ⟨_,rfl,1,rfl,ta,_,rfl,(J8.mono J').sq,?_,fun p3 Kb=>?_⟩
     · rintro ⟨z,_⟩;rw [QM,show (1:Int)=((1:Nat):Int) by rfl,HT.sIx_nat] at z;omega
     dsimp only;rw [d4];have s9:L2.Same H8 (upd H8 p3 (.tup (xi.map V.ref))):=ad Kb _;have e9:(upd H8 p3 (.tup (xi.map V.ref))) p3=some (.tup (xi.map V.ref)):=ab;generalize (upd H8 p3 (.tup (xi.map V.ref)))=H9 at s9 e9 ⊢;have Kc:=s9 _ _ (Cv _ _ zb);have Kd:=yL.mono (J'.trans (Same.kt s9));refine ⟨p3,rfl,⟨_,SqT.of e9⟩,?_⟩;intro Dl DH;refine ⟨xi.length,fun j xC=>An3 (j<=xi.length) (L2.Same H9 xC) (Ex1 fun (bs:List QD)=>An2 (xC Dl=some (.lst (bs.map V.ref))) (PsAtK K xC ((cB pre 0 ks).take j) bs)),⟨Q7 _,ad DH _,[],ab,.nil⟩,?_⟩;rintro j xC ⟨hj,xu,bs,eD,xm⟩;by_cases zD:j=xi.length
     · left;refine ⟨⟨_,SqT.of (xu _ _ e9),by rw [QA];exact zD.symm⟩,?_⟩;have wM:(cB pre 0 ks).take j=cB pre 0 ks:=by rw [zD,xT,<- fH pre 0 ks,S8]
       rw [wM] at xm;have DI:=xu _ _ (s9 _ _ Ff);have F2:=xu _ _ (s9 _ _ Mj)
       have y4:bs.length=ks.length:=by
        have:=QP xm;rw [fH] at this;exact this.symm
       try dsimp only [aI]
       refine ⟨_,rfl,.inl ⟨rfl,_,SqL.of DI⟩,_,rfl,true,Dl,_,rfl,SqB.l (SqL.of eD),fun l hl=>?_⟩;have BF:ah≠l:=aE DI hl;have Bc:tl≠l:=aE F2 hl;have F3:(upd xC l (.lst (bs.map V.ref).reverse)) ah=some (.lst (wY.map V.ref)):=by rw [ai BF];exact DI
       refine ⟨ah,l,_,_,rfl,rfl,F3,ab,ak ?_,?_⟩
       · rw [QA,RU,QA];omega
       have F4:KT xC (upd (upd xC l (.lst (bs.map V.ref).reverse)) ah (.lst (wY.map V.ref++(bs.map V.ref).reverse))):=(df hl).trans (aQ F3);have F5:=(Same.kt (s9.trans xu)).trans F4;have Ke:=Cv.trans F5;refine ⟨szP (Us++(cB pre 0 ks).reverse),?_,ts++[tp],wY++bs.reverse,Ts++[.knot n (cq D pre 0 ks)],Us++(cB pre 0 ks).reverse,_,_,_,rfl,?_,?_,?_,dj F5 Ka,P2.append (PsAtK.mono Ke a3) (P2.reverse (PsAtK.mono F4 xm)),?_,?_,?_,rfl⟩
       · rw [cp,ji,hZ,Fc,Th.size];omega
       · exact ao (ao ((J9.trans s9).trans xu) ((J9.trans s9).trans xu |>.free hl)) yz
       · rw [ai xf.symm,ai Bc];exact F2
       · rw [ab,QS,Vw]
       · rw [<- hw,RG,R5,R5,Sx,nU,lr];show Ts++([Th.knot n (cq D pre 0 ks)]++(walks (cq D pre 0 ks)++gx D Us.reverse))=Ts++gx D ((pre,Th.knot n ks)::Us.reverse);have:gx D ((pre,Th.knot n ks)::Us.reverse)=((Th.knot n ks).cut D pre).walk++gx D Us.reverse:=by unfold gx;rw [Wr]
         rw [this,DG,Th.walk];rfl
       · intro p hp;rcases Rv.mp hp with hp | hp
         · exact hb p (RC _ hp)
         · obtain ⟨g1,g2⟩:=jE pre 0 ks p (List.mem_reverse.mp hp);have:=b9 g2;exact ⟨by omega,bE FY g2⟩
       · rw [QX,cp,ji,hZ];show Ts.length+1+(szP Us+ax ks)<=200;omega
     · right;have w6:j<xi.length:=by omega
       refine ⟨w6,⟨_,.ref xi[j],SqT.of (xu _ _ e9),by rw [QO,QC w6];rfl⟩,?_⟩;rintro y xX ⟨p,v,hp,rfl,rfl,hv⟩;have xG:=hv _ (SqT.of (xu _ _ e9));obtain ⟨kd,rfl,Dg⟩:=bc xG;obtain ⟨tk,yR,Jb⟩:=Kd.get Dg;have yd:L2.Same xC (upd xC p (.tup [.int (j:Nat),.ref kd])):=ad hp _;refine ⟨p,_,rfl,SqT.of ab,rfl,_,_,rfl,_,_,rfl,rfl,?_⟩;generalize (upd xC p (.tup [.int (j:Nat),.ref kd]))=xX at yd ⊢;refine ⟨_,rfl,_,rfl,ak (by show 1<=1000000;decide),fun n1 G0=>?_⟩;have xx:L2.Same xX (upd xX n1 (.tup [.int (j:Nat)])):=ad G0 _;have Ae:(upd xX n1 (.tup [.int (j:Nat)])) n1=some (.tup [.int (j:Nat)]):=ab;generalize (upd xX n1 (.tup [.int (j:Nat)]))=Bj at xx Ae ⊢;refine lP (xx _ _ (yd _ _ (xu _ _ Kc))) Ae (by rw [QA];show pre.length+1<=1000000;omega) fun n2 B0 B4 Hu=>?_;refine ⟨_,rfl,ak (by show 2<=1000000;decide),fun n3 Cw=>?_⟩;have DJ:L2.Same xC (upd B0 n3 (.tup [.ref n2,.ref kd])):=(yd.trans (xx.trans B4)).trans (ad Cw _);have F6:=DJ _ _ eD;refine ⟨_,F6,aD ?_,w6,?_,bs++[n3],?_,?_⟩
       · have:=QP xm;rw [Ro] at this;rw [QA];omega
       · exact ao (xu.trans DJ) DH
       · rw [ab,QS];rfl
       · have Hv:KT (upd B0 n3 (.tup [.ref n2,.ref kd])) (upd (upd B0 n3 (.tup [.ref n2,.ref kd])) Dl (.lst (bs.map V.ref++[.ref n3]))):=aQ F6;rw [RX,kh pre 0 ks j tk yR];refine P2.append (PsAtK.mono ((Same.kt DJ).trans Hv) xm) (.cons ⟨n2,kd,Hv _ _ ab,Hv _ _ (ad Cw _ _ _ ?_),?_⟩ .nil)
         · rw [Hu,QS,Sw];rfl
         · exact Jb.mono ((Same.kt (xu.trans DJ)).trans Hv)
 · have hz:as=[]:=by
    cases as with
    | nil=>rfl
    | cons y ys=>simp at c
   subst hz;have BJ:As=[]:=Sj.mp (QP a2);subst BJ;have Dd:Ts=(t.cut D []).walk:=by simpa [gx] using hw
   subst Dd;obtain ⟨b1,b2⟩:=pV Th.call (t.cut D []);rw [pI] at b1;refine ⟨_,rfl,tl,ts,_,t.cut D [],rfl,em,a1,by rw [QA];omega,b2,?_,b1,fun r H4 s4 OE=>k r H4 (sm.trans s4) OE⟩;intro u hu;obtain ⟨y,hy,e⟩:=RN.mp hu;cases y with
   | knot n us=>cases e
   | call sn kn =>
     cases e;rw [Th.size];decide
def frS (ins:List (Rc×Int)) (rows:List (List Th)) (s:Nat):Th:=frF (mkF ins rows) (mkF ins rows (s:Nat)) ((rows[s]?).getD [])
theorem uw {ins:List (Rc×Int)} {rows:List (List Th)} {s:Nat} {row:List Th} (h:rows[s]?=some row):frS ins rows s=frF (mkF ins rows) (mkF ins rows (s:Nat)) row:=by
 unfold frS;rw [h];rfl
def j0 (ins:List (Rc×Int)) (rows:List (List Th)):List az:=(Rl rows.length).flatMap fun s=>((mkF ins rows (s:Nat)).pl []).map fun x=>nk (s:Nat) x.1
theorem mQ {α β:Type} {f:α->List β} {B:Nat}:∀ {l:List α},(∀ x∈l,(f x).length<=B)->(l.flatMap f).length<=l.length * B
 | [],_=>Q7 _
 | x::l,h=>by
   rw [Wr,QX,QM,Nat.succ_mul];have h1:=h x (Q6 ..);have h2:=mQ (l:=l) fun y hy=>h y (Q1 _ hy);omega
theorem rJ {ins outs:List (Rc×Int)} {rows:List (List Th)} (F:FrB ins outs rows):(j0 ins rows).length<=1000000:=by
 have h:=mQ (l:=Rl rows.length) (f:=fun s=>((mkF ins rows (s:Nat)).pl []).map fun x=>nk (s:Nat) x.1) (B:=200) fun s hs=>by
  rw [QA,Th.pl_len];have yw:=TC.mp hs;obtain ⟨row,p,_,_,e,z,_⟩:=F.mkd (l:=(s:Nat)) (by omega) (by omega);rw [e];exact z
 rw [Rm] at h;have:=F.le;show ((Rl rows.length).flatMap _).length<=_;omega
theorem n6 {ins:List (Rc×Int)} {rows:List (List Th)} {s:Nat} (hs:s<rows.length) {x:List Int×Th} (hx:x∈(mkF ins rows (s:Nat)).pl []):nk (s:Nat) x.1∈j0 ins rows:=List.mem_flatMap.mpr ⟨s,TC.mpr hs,RN.mpr ⟨x,hx,rfl⟩⟩
theorem tq {ins:List (Rc×Int)} {rows:List (List Th)} {s:Nat} (hs:s<rows.length) {x:List Int×Th} (hx:x∈(frS ins rows s).pl []):nk (s:Nat) x.1∈j0 ins rows:=by
 obtain ⟨u,hu⟩:=sB _ _ _ x hx;exact n6 (x:=(x.1,u)) hs hu
theorem vM {P:QR} {w:Q3} {H H':Hp} {pt:QD} {f':List (az×V)} {Al:List az} (h:Pt P w H pt f' Al) (k:KT H H') (e:∀ o,H pt=some o->H' pt=some o):Pt P w H' pt f' Al:=⟨qa h.dm k e,h.nd,h.al,fun p hp=>(h.vl p hp).mono k⟩
theorem nh {p:QD} {H0 H H':Hp} (hb:But p H H') (s:L2.Same H0 H) (h0:H0 p=none):L2.Same H0 H':=fun c o e=>hb c o (fun z=>by rw [z,h0] at e;cases e) (s c o e)
structure FrD (ins:List (Rc×Int)) (rows:List (List Th)) (ks:List az):Prop where
 hol:∀ s<rows.length,∀ x∈(frS ins rows s).pl [],x.2.isHole=true->nk (s:Nat) x.1∈ks
 cl:∀ (s:Nat) (row:List Th),rows[s]?=some row->∀ p∈row,∀ c∈callsOf (p.pl []),∀ u,(c.1,u)∈(frS ins rows s).pl []->∀ x∈u.pl [],nk c.2.1 x.1∈ks->nk (s:Nat) (c.1++x.1)∈ks
theorem kw {ins outs:List (Rc×Int)} {rows:List (List Th)} (F:FrB ins outs rows) {s:Nat} (hs:s<rows.length):(frS ins rows s).size<=200/\(frS ins rows s).tall<=100/\(frS ins rows s).noCall:=by
 refine hid fun ZZ kZ=>?_;obtain ⟨row,p,hr,hp,e,z1,z2,hf⟩:=F.mkd (l:=(s:Nat)) (by omega) (by omega);refine kZ ?_;have h:=gM (mkF ins rows) (mkF ins rows (s:Nat)) ((rows[s]?).getD []);have hn:(mkF ins rows (s:Nat)).noCall:=by rw [e];exact i6 _ _ (QF _) hf
 unfold frS;rw [e] at h hn;rw [e];exact ⟨by omega,by omega,o8 hn _⟩
inductive eh (P:QR) (w:Q3) (K:QB) (vs:List V) (H:Hp) (Q:VK) (_E:XK):Prop
 | mk (b:QD) (ins outs:List (Rc×Int)) (head:Th) (rows:List (List Th)) (wZ:vs=[.ref b]) (w4:Bk H ins outs head rows b) (w8:FrB ins outs rows) (xj:∀ (r fl pt:QD) (fs:List QD) (f':List (az×V)) (H':Hp),L2.Same H H'->H' r=some (.tup [.ref fl,.ref pt])->H' fl=some (.lst (fs.map V.ref))->Rf (fun s a=>AtK K H' ((frS ins rows s).cut (Dk f' (s:Nat)) []) a) (Rl rows.length) fs->Pt P w H' pt f' (j0 ins rows)->FrD ins rows (f'.map (·.1))->Q (.ref r) H'):eh P w K vs H Q _E
def jg (P:QR) (w:Q3) (K:QB):Sp:=eh P w K
set_option maxHeartbeats 4000000 in
theorem je:bh P w K mg base CX0 7 T.g_found_fronts.f T.g_found_fronts.d ["book"] (jg P w K):=by
 refine T.g_found_fronts.F.ok bi (fun vs H Q E h=>?_) (fun wQ A outer s0 H vs Q E hr h=>?_)
 · obtain ⟨b,ins,outs,head,rows,rfl,_⟩:=h;rfl
 obtain ⟨b,ins,outs,head,rows,rfl,hB,F,k⟩:=h
 refine ⟨_,(ae (aw (i:=1) bi.nd rfl (Wb rfl) (pcF T.g_first_makings (iz T) hr (aa (pv 0) ac)))
  (ae (aw (i:=2) bi.nd rfl (Wb rfl) m7)
  (ae (fN (i:=3) (N:=[QK "state",QK "book",QK "made",QK "partings"]) (js:=[none,some 0,some 1,some 2]) (g:=(aI 0)) (tt:=bZ) (te:=(fF (fg P w K) [] E0 (bn (bu 1) (bn (bu 0) (bn (bu 2) (bn (bu 3) dP)))))) bi.nd rfl (QY rfl) rfl (cL rfl (by decide +kernel) (by decide +kernel) rfl rfl rfl) (bx rfl T.n_range (aa (pcF T.g_states_of (mi T) hr (aa (pv 0) ac)) ac)) (fun _ _ _ _ _ _=>(am (i:=0) wd rfl (QY rfl))) (aR rfl) (fun _ _ _ _ _ _=>cg) (fun _ _ _ _ _ _=>(pcF T.g_first_front (jR T) hr (aa (pv 1) (aa (pv 0) (aa (pv 2) (aa (pv 3) ac)))))))
  (ae (aw (i:=4) bi.nd rfl (QY rfl) m7)
  (ae (bw Rg rfl (mY rfl T.n_enumerate (pv 3)) (bp rfl (aq (am (i:=5) bi.nd rfl (QY rfl)) (aq (am (i:=6) bi.nd rfl (QY rfl)) aX))) (ag (aN (pcF T.g_put_links (mD T) hr (aa (pv 0) (aa (pv 5) (aa (pv 6) (aa (pv 4) ac))))))))
  (ae (aN (pcF T.g_spread (qP T) hr (aa (pcF T.g_ins_of (eA T) hr (aa (pv 0) ac)) (aa (pv 4) (aa (pv 2) ac)))))
  (ag (aA (aH (aa (cA (N:=[QK "state",QK "front",QK "partings"]) (js:=[none,none,some 2]) (g:=(kM K 2 (cD (aI 0) (cD (aI 1) kH)))) (tt:=bZ) (te:=(fF (hX P w K) [] E0 (bn (bu 1) (bn (bu 0) (bn (bu 2) dP))))) rfl (cL rfl (by decide +kernel) (by decide +kernel) rfl rfl rfl) (mY rfl T.n_enumerate (pv 3)) (fun _ _ _ _ _ _=>(bp rfl (aq (am (i:=0) vN rfl (QY rfl)) (aq (am (i:=1) vN rfl (QY rfl)) aX)))) (fI (bJ aO (aR rfl) (bJ aO (aR rfl) fw))) (fun _ _ _ _ _ _=>cg) (fun _ _ _ _ _ _=>(pcF T.g_cut_front (mf T) hr (aa (pv 1) (aa (pv 0) (aa (pv 2) ac)))))) (aa (pv 2) ac))))))))))),?_⟩
 try dsimp only [xl,wN]
 have hle:=F.le;refine ⟨_,rfl,b,ins,outs,head,rows,rfl,hB,F.gi,by omega,fun row wK=>(F.fit.row row wK).1,fun md yK H1 s1 OF Ec Ds=>?_⟩;intro pt H2 F7 s2 Mk;have Kf:=hB.mono (Same.kt s1);refine hid fun ZZ kZ=>?_;obtain ⟨ia,oa,ha,ra,wU,xc,xv,Bw⟩:=id Kf;have Be:rows.length=xv.length:=QP Bw.rw;have Hf:=rJ F;obtain ⟨Hq,Af⟩:=ce Mk;refine kZ ?_;refine ⟨_,rfl,b,_,_,_,ra,_,rfl,s2 _ _ Bw.bk,s2 _ _ Bw.rl,_,rfl,by omega,by rw [QA];omega,fun D hD=>?_⟩;have FZ:D≠pt:=fun z=>by rw [z,Af] at hD;cases hD
 have OG:H1 D=none:=s2.free hD;refine ⟨rows.length,fun j H'=>An3 (j<=rows.length) (L2.Same H1 H') (Ex2 fun (as:List QD) (f':List (az×V))=>An4 (H' D=some (.lst (as.map V.ref))) (Rf (fun s a=>AtK K H' (frS ins rows s) a) (Rl j) as) (Pt P w H' pt f' (j0 ins rows)) (∀ s<j,∀ x∈(frS ins rows s).pl [],x.2.isHole=true->nk (s:Nat) x.1∈f'.map (·.1))),⟨Q7 _,s2.trans (ad hD _),[],[],ab,.nil,⟨Mk.mono (ad hD _),Vd,fun p hp=>(SM hp).elim,fun p hp=>(SM hp).elim⟩,fun s hs=>by omega⟩,?_⟩;rintro j H' ⟨hj,sj,as,f',eD,has,Hw,F8⟩;obtain ⟨Qk,B6⟩:=ce Hw.dm;by_cases zD:j=rows.length
 · left;subst zD;refine ⟨by show _<=_;rw [QA];omega,?_⟩;intro la H5 BF s5 OH;have L0:LkI P w ins (j0 ins rows) H' H5 la [] 0:=⟨s5,BF,OH,Vd,Vd,fun g hg=>(SM hg).elim,QF _⟩;have BW:(Rl rows.length).length=as.length:=QP has;rw [Rm] at BW;refine ⟨_,rfl,D,rfl,⟨_,SqL.of (s5 _ _ eD)⟩,?_⟩
   refine qi (K:=K) (a:=D) (xs:=as.map V.ref) (fun i σ H6=>Ex3 fun (c5 c6:Option V) (G:LG)=>An3 (σ=[some (.ref b),some (.ref md),some (.ref pt),some (.ref D),some (.ref la),c5,c6]) (LkI P w ins (j0 ins rows) H' H6 la G (i * 640000)) (∀ s<i,∀ row,rows[s]?=some row->LDone H6 G s row (frS ins rows s)))
    ⟨none,none,[],rfl,by rw [Nat.zero_mul];exact L0,fun s hs=>by omega⟩ (fun i σ H6 _ ⟨_,_,_,_,L,_⟩=>SqL.of (L.sm _ _ eD)) ?_ ?_
   · rintro i x pr σ H6 hx zj ⟨c5,c6,G,rfl,L,zR⟩;obtain ⟨fa,rfl,xH⟩:=bc hx;have yO:=(QL.mp xH).1;have Hz:i<rows.length:=by omega
     obtain ⟨s',yw,yA⟩:=P2.get' has xH;rw [R6 Hz] at yw;cases yw;obtain ⟨row,wK⟩:∃ row,rows[i]?=some row:=⟨_,QC Hz⟩;have s7:L2.Same H6 (upd H6 pr (.tup [.int ((i:Nat):Int),.ref fa])):=ad zj _;have e7:(upd H6 pr (.tup [.int ((i:Nat):Int),.ref fa])) pr=some (.tup [.int ((i:Nat):Int),.ref fa]):=ab;generalize (upd H6 pr (.tup [.int ((i:Nat):Int),.ref fa]))=H7 at s7 e7 ⊢;refine ⟨pr,_,rfl,SqT.of e7,rfl,_,_,rfl,_,_,rfl,rfl,?_⟩;dsimp only [aI];have L7:=L.same s7;obtain ⟨z1,z2,z3⟩:=kw F Hz;refine ⟨_,rfl,_,rfl,_,rfl,_,rfl,b,fa,la,i,ins,outs,head,rows,row,frS ins rows i,H',G,i * 640000,j0 ins rows,rfl,Kf.mono (Same.kt (sj.trans L7.sm)),F,wK,yA.mono (Same.kt L7.sm),z1,z2,L7,by omega,fun x hx=>tq Hz hx,fun G' H8 k8 L8 Kg F9=>?_⟩;refine ⟨_,_,G',rfl,by rw [Nat.succ_mul];exact L8,fun s hs zd Bo=>?_⟩;by_cases OI:s=i
     · subst OI;rw [wK] at Bo;cases Bo;exact F9
     · exact ((zR s (by omega) zd Bo).sub (LSub.kt (Same.kt s7) _)).sub Kg
   · rintro σ H6 ⟨c5,c6,G,rfl,L,zR⟩;rw [QA,<- BW] at zR;have F':=Hw.same L.sm;obtain ⟨N9,Ac⟩:=ce F'.dm;have HA:=sj.trans L.sm
     have xW:pt≠la:=fun z=>by
      rw [z] at B6;rw [L.la0] at B6;cases B6
     refine ⟨_,rfl,b,_,_,_,_,rfl,HA _ _ Bw.bk,_,rfl,_,rfl,ia,la,pt,wU,ins,G,f',j0 ins rows,rfl,HA _ _ Bw.inE,Bw.inK.mono (Same.kt HA),F.gi,L.r,F',Hf,xW,fun xM H7 Eh Ga yB Kh=>?_⟩;have Ml:L2.Same H1 H7:=nh Eh HA F7;have Ab:=(Same.kt L.sm).trans (Eh.kt Ac);have HB:H7 D=some (.lst (as.map V.ref)):=Eh _ _ FZ (L.sm _ _ eD);refine ⟨_,rfl,D,rfl,⟨_,SqL.of HB⟩,fun Dl DH=>?_⟩;have OJ:H1 Dl=none:=Ml.free DH;refine ⟨rows.length,fun j H8=>An3 (j<=rows.length) (L2.Same H7 H8) (Ex1 fun (bs:List QD)=>An2 (H8 Dl=some (.lst (bs.map V.ref))) (Rf (fun s a=>AtK K H8 ((frS ins rows s).cut (Dk xM (s:Nat)) []) a) (Rl j) bs)),⟨Q7 _,ad DH _,[],ab,.nil⟩,?_⟩;rintro j H8 ⟨Ql,s8,bs,Mm,xm⟩;by_cases OK:j=rows.length
     · left;subst OK;refine ⟨⟨_,SqL.of (s8 _ _ HB),by rw [QA];exact BW.symm⟩,?_⟩;refine ⟨_,rfl,ak (by show 2<=1000000;decide),fun r OL=>?_⟩;have s9:L2.Same H8 (upd H8 r (.tup [.ref Dl,.ref pt])):=ad OL _;refine k r Dl pt bs xM _ (s1.trans (Ml.trans (s8.trans s9))) ab (s9 _ _ Mm) (P2.mp (fun _ _ h=>h.mono (Same.kt s9)) xm) (Ga.same (s8.trans s9)) ⟨fun s hs x hx hh=>yB _ (F8 s hs x hx hh),fun s row wK p hp c hc u hu x hx hk=>?_⟩;have hs:=(QL.mp wK).1;exact Kh _ hk _ _ (LSub.kt (Eh.kt Ac) G _ _ _ (zR s hs row wK p hp c hc u hu x hx))
     · right;have w6:j<rows.length:=by omega
       obtain ⟨fa,xH⟩:∃ fa,as[j]?=some fa:=⟨_,QC (by omega)⟩;refine ⟨w6,⟨_,.ref fa,SqL.of (s8 _ _ HB),by rw [QO,xH];rfl⟩,?_⟩;rintro y H9 ⟨p,v,hp,rfl,rfl,hv⟩;have xG:=hv _ (SqL.of (s8 _ _ HB));rw [QO,xH] at xG;cases xG;obtain ⟨s',yw,yA⟩:=P2.get' has xH;rw [R6 w6] at yw;cases yw;have s9:L2.Same H8 (upd H8 p (.tup [.int (j:Nat),.ref fa])):=ad hp _;refine ⟨p,_,rfl,SqT.of ab,rfl,_,_,rfl,_,_,rfl,rfl,?_⟩;generalize (upd H8 p (.tup [.int (j:Nat),.ref fa]))=H9 at s9 ⊢;obtain ⟨z1,z2,z3⟩:=kw F w6;refine ⟨_,rfl,_,rfl,_,rfl,fa,pt,j,frS ins rows j,xM,j0 ins rows,rfl,yA.mono (Ab.trans (Same.kt (s8.trans s9))),z1,z2,z3,Ga.same (s8.trans s9),fun q xC xu hq=>?_⟩;have Ge:=(s9.trans xu) _ _ Mm;have y4:(Rl j).length=bs.length:=QP xm;rw [Rm] at y4;have F4:KT xC (upd xC Dl (.lst (bs.map V.ref++[.ref q]))):=aQ Ge;refine ⟨_,Ge,aD (by rw [QA];omega),w6,ao (s8.trans (s9.trans xu)) DH,bs++[q],by rw [ab,QS];rfl,?_⟩;rw [List.range_succ];exact P2.append (P2.mp (fun _ _ h=>h.mono ((Same.kt (s9.trans xu)).trans F4)) xm) (.cons (hq.mono F4) .nil)
 · right;have w6:j<rows.length:=by omega
   obtain ⟨row,wK⟩:∃ row,rows[j]?=some row:=⟨_,QC w6⟩;refine ⟨w6,by show _<_;rw [QA];omega,?_⟩;rintro y H9 ⟨rfl,rfl⟩;rw [Sw];refine ⟨_,rfl,_,rfl,_,rfl,_,rfl,b,md,pt,j,ins,outs,head,rows,row,yK,f',j0 ins rows,rfl,Kf.mono (Same.kt sj),F,wK,sj _ _ Ec,Ds.mono (Same.kt sj),Hw,Hf,fun x hx=>n6 w6 hx,fun r xM H4 Ki yA Kj xZ CJ=>?_⟩;have DA:=Ki.kt B6;have Fl:=Ki _ _ FZ eD;have yn:(Rl j).length=as.length:=QP has;rw [Rm] at yn;have k5:KT H4 (upd H4 D (.lst (as.map V.ref++[.ref r]))):=aQ Fl;rw [<- uw wK] at yA CJ;refine ⟨_,Fl,aD (by rw [QA];omega),w6,ao (nh Ki sj F7) OG,as++[r],xM,by rw [ab,QS];rfl,?_,vM Kj k5 (fun o e=>by rw [ai FZ.symm];exact e),fun s hs x hx hh=>?_⟩
   · rw [List.range_succ];exact P2.append (P2.mp (fun _ _ h=>h.mono (DA.trans k5)) has) (.cons (yA.mono k5) .nil)
   · by_cases OM:s=j
     · subst OM;exact CJ x hx hh
     · exact xZ _ (F8 s (by omega) x hx hh)
inductive fm (vs:List V) (H:Hp) (Q:VK) (_E:XK):Prop
 | mk (c k:Int) (wZ:vs=[.int c,.int k]) (w4:∀ z:Int,Q (.int z) H):fm  vs H Q _E
def kK:Sp:=fm
theorem dF:bh P w K mg base CX0 1 T.g__law_mixed.f T.g__law_mixed.d ["cell","k"] kK:=by
 refine T.g__law_mixed.F.ok dI (fun vs H Q E h=>?_) (fun wQ A outer s H vs Q E hr h=>?_)
 · obtain ⟨c,k,rfl,_⟩:=h;rfl
 obtain ⟨c,k,rfl,q⟩:=h
 refine ⟨_,(ae (aw (i:=2) dI.nd rfl (QY rfl) (av bo (av bW (av bW (av cI (av bo (pv 0) (av oY af af)) af) (av cI af (pv 1))) af) af))
  (ae (aw (i:=2) dI.nd rfl (QY rfl) (av bo (av cI (pv 2) (pv 2)) af))
  (ag (aA (av bW (av cI (pv 2) af) (av cI af (pv 1))))))),?_⟩
 try dsimp only [xl,wN]
 refine ⟨_,rfl,_,_,rfl,rfl,⟨by decide,by decide,by decide⟩,_,_,rfl,rfl,(by show (0:Int)<10 ^ 40;decide),_,_,rfl,rfl,.inr ⟨by decide,by decide⟩,_,rfl,_,_,rfl,rfl,.inl ⟨by decide,by decide⟩,_,_,rfl,rfl,_,_,rfl,rfl,_,_,rfl,rfl,(by show (0:Int)<2305843009213693951;decide),?_⟩
 try dsimp only [aI]
 generalize c%(10:Int) ^ (40:Int).toNat * 99999999977+7919 * k+1234567890123=z;have z0:=RT z (show (2305843009213693951:Int)≠0 by decide);have z1:=RP z (show (0:Int)<2305843009213693951 by decide);generalize z%2305843009213693951=y at z0 z1;refine ⟨_,rfl,_,rfl,_,_,rfl,rfl,.inl ⟨by omega,by omega⟩,_,_,rfl,rfl,(by show (0:Int)<2305843009213693951;decide),?_⟩;exact ⟨_,rfl,_,_,rfl,rfl,.inr ⟨by decide,by decide⟩,_,rfl,_,_,rfl,rfl,.inl ⟨by decide,by decide⟩,_,_,rfl,rfl,q _⟩
theorem qL (ns:List Int) (lo hi:Option Int):∃ cs:List Int,cY (ns.map V.int) lo hi=cs.map V.int/\cs.length<=ns.length:=by
 unfold cY;rw [<- V7,<- List.map_take];exact ⟨_,rfl,by rw [Ro,R7];omega⟩
inductive eV (vs:List V) (H:Hp) (Q:VK) (_E:XK):Prop
 | mk (a:QD) (cs:List Int) (many:Int) (wZ:vs=[.ref a,.int many]) (w4:H a=some (.lst (cs.map V.int))) (w8:cs.length<=1000) (xj:1<=many) (xB:many<=1000) (yu:∀ (r:QD) (ds:List Int) (H':Hp),L2.Same H H'->H' r=some (.lst (ds.map V.int))->ds.length=many.toNat->Q (.ref r) H'):eV  vs H Q _E
def jO:Sp:=eV
set_option maxHeartbeats 1000000 in
theorem j7:bh P w K mg base CX0 1 T.g__law_folded.f T.g__law_folded.d ["cells","many"] jO:=by
 refine T.g__law_folded.F.ok de (fun vs H Q E h=>?_) (fun wQ A outer s H vs Q E hr h=>?_)
 · obtain ⟨a,cs,many,rfl,_⟩:=h;rfl
 obtain ⟨a,cs,many,rfl,ea,zh,m1,m2,q⟩:=h
 refine ⟨_,(ae (fN (i:=2) (N:=[QK "k",QK "cells"]) (js:=[none,some 0]) (g:=(aI 0)) (tt:=bZ) (te:=(tIf (qd (tOp (rI0 fun i j=>.bl (decide (i<j))) (bu 0) (tCB (sA K) (bn (bu 1) dP)))) (tOp (uJ K) (bu 1) (bu 0)) (tC (.int 0)))) de.nd rfl (QY rfl) rfl (cL rfl (by decide +kernel) (by decide +kernel) rfl rfl rfl) (bx rfl T.n_range (aa (pv 1) ac)) (fun _ _ _ _ _ _=>(am (i:=0) wq rfl (QY rfl))) (aR rfl) (fun _ _ _ _ _ _=>cg) (fun _ _ _ _ _ _=>(rR (aS pR (pv 0) (aC au rfl T.n_len Ri (aa (pv 1) ac)) (aW _)) (aG aP (pv 1) (pv 0) (fun _ _=>rfl)) af)))
  (ae (bw Rg rfl (iC rfl T.n_range (aa (pv 1) (aa (aC au rfl T.n_len Ri (aa (pv 0) ac)) ac))) (am (i:=3) de.nd rfl (QY rfl)) (ag (cO (av bW (av bo (av cI (aG aP (pv 2) (av bo (pv 3) (pv 1)) (fun _ _=>rfl)) af) (av oY af af)) (av bo (aG aP (pv 0) (pv 3) (fun _ _=>rfl)) (av oY af af))) (iF (pv 2) (av bo (pv 3) (pv 1)) set_list))))
  (ag (aA (pv 2))))),?_⟩
 try dsimp only [xl,wN]
 refine ⟨_,rfl,many,rfl,by omega,by omega,tO (xs:=(Rl many.toNat).map fun (i:Nat)=>V.int (0+(i:Int))) ((Rl many.toNat).map fun (i:Nat)=>cs.getD i 0) V.int (by rw [QA,QA]) (by rw [QA,Rm];omega) (fun i Hx sx hi=>by rw [QA,Rm] at hi;exact hi) (fun Hx sx=>by rw [QA,Rm];exact QF _) (fun i Hx x Hy sx hi hy=>⟨hy.1,?_⟩) (fun i x z Hx R W' hx hz sx hR=>?_) (fun kl H2 xT s2 e2=>?_)⟩
 · rw [QA,Rm] at hi;rw [hy.2,QO,R6 hi];rfl
 · have hi:i<many.toNat:=by
    have:=(QL.mp hz).1;rw [QA,Rm] at this;exact this
   rw [QO,R6 hi] at hx hz;cases hx;cases hz;refine ⟨_,rfl,_,rfl,a,_,rfl,.inl (SqL.of (sx _ _ ea)),_,_,rfl,rfl,_,rfl,?_⟩;refine cr (fun c=>?_) (fun c=>?_)
   · have c':(0+(i:Int))<(((cs.map V.int).length:Nat):Int):=of_decide_eq_true c;rw [QA] at c';refine ⟨_,rfl,_,rfl,a,_,_,.int (cs.getD i 0),rfl,rfl,SqL.of (sx _ _ ea),at_nonneg (by omega) ?_,hR _ (.refl _)⟩;rw [show (0+(i:Int)).toNat=i by omega,QO,List.getD,QC (by omega)];rfl
   · have c':¬ (0+(i:Int))<(((cs.map V.int).length:Nat):Int):=fun z=>c (decide_eq_true z);rw [QA] at c';have:cs.getD i 0=0:=by rw [List.getD,Su (by omega)];rfl
     dsimp only at hR;rw [this] at hR;exact hR _ (.refl _)
 have ON:H kl=none:=xT;refine ⟨_,rfl,_,rfl,a,_,rfl,.inl (SqL.of (s2 _ _ ea)),many,_,rfl,⟨by omega,by omega,by omega,by rw [QA];omega⟩,?_⟩
 refine bU (n:=((((cs.map V.int).length:Nat):Int) - many).toNat) (fun i σ H3=>Ex2 fun (kv:Option V) (ds:List Int)=>An4 (σ=[some (.ref a),some (.int many),some (.ref kl),kv]) (L2.Same H H3) (H3 kl=some (.lst (ds.map V.int))) (ds.length=many.toNat))
  ⟨none,_,rfl,s2,e2,by rw [QA,Rm]⟩ ?_ ?_
 · rintro i σ H3 hi ⟨kv,ds,rfl,s3,e3,Av⟩
   have xJ:(i:Int)<((cs.length:Nat):Int) - many:=by
    have h1:i<((((cs.map V.int).length:Nat):Int) - many).toNat:=hi;rw [QA] at h1;omega
   have y0:=RT (many+(i:Int)) (show many≠0 by omega);have y1:=RP (many+(i:Int)) (show 0<many by omega);refine hid fun ZZ kZ=>?_;obtain ⟨ix,DC⟩:∃ ix:Nat,(many+(i:Int))%many=(ix:Int):=⟨_,(TB y0).symm⟩;obtain ⟨c,hc⟩:∃ c,ds[ix]?=some c:=⟨_,QC (by omega)⟩;obtain ⟨x,hx⟩:∃ x,cs[(many+(i:Int)).toNat]?=some x:=⟨_,QC (by omega)⟩;refine kZ ?_;refine ⟨_,rfl,_,rfl,_,rfl,_,_,rfl,rfl,(by show 0<many;omega),kl,_,_,.int c,rfl,rfl,SqL.of e3,at_nonneg y0 (by rw [DC,RH,QO,hc];rfl),_,_,rfl,rfl,.inr ⟨by decide,by decide⟩,?_⟩;refine ⟨_,_,rfl,rfl,⟨by decide,by decide,by decide⟩,_,_,rfl,rfl,(by show (0:Int)<10 ^ 40;decide),?_⟩;refine ⟨_,rfl,_,rfl,a,_,_,.int x,rfl,rfl,SqL.of (s3 _ _ ea),at_nonneg (by omega) (by rw [QO,hx];rfl),_,_,rfl,rfl,⟨by decide,by decide,by decide⟩,_,_,rfl,rfl,(by show (0:Int)<10 ^ 40;decide),_,_,rfl,rfl,?_⟩;refine ⟨_,rfl,_,rfl,_,rfl,_,_,rfl,rfl,(by show 0<many;omega),kl,_,_,ix,rfl,rfl,e3,?_,?_⟩
   · rw [DC];unfold ixN;rw [if_pos (by omega),if_pos (by rw [QA];omega)];simp
   · refine ⟨_,ds.set ix (c * 31%10 ^ 40+x%10 ^ 40),rfl,ao s3 ON,?_,by rw [VG];exact Av⟩;rw [ab,List.map_set];rfl
 · rintro σ H3 ⟨kv,ds,rfl,s3,e3,Av⟩;exact ⟨_,rfl,q kl ds H3 s3 e3 Av⟩
def kJ:Sp:=fun vs H Q _=>∃ c:Int,vs=[.int c]/\∀ (r:QD) (ws:List Rc) (H':Hp),L2.Same H H'->H' r=some (.lst (ws.map V.str))->pz ws->Q (.ref r) H'
set_option maxHeartbeats 1000000 in
theorem gg:bh P w K mg base CX0 1 T.g__law_names.f T.g__law_names.d ["cell"] kJ:=by
 refine T.g__law_names.F.ok aV (fun vs H Q E h=>?_) (fun wQ A outer s H vs Q E hr h=>?_)
 · obtain ⟨c,rfl,_⟩:=h;rfl
 obtain ⟨c,rfl,q⟩:=h
 refine ⟨_,(ae (aw (i:=1) aV.nd rfl (QY rfl) gD)
  (ae (aw (i:=2) aV.nd rfl (QY rfl) (av bW af (av bo (av bP (pv 0) af) af)))
  (ae (aw (i:=3) aV.nd rfl (QY rfl) (av bP (pv 0) af))
  (ae (aw (i:=4) aV.nd rfl (QY rfl) gD)
  (ae (bw Rg rfl (bx rfl T.n_range (aa af ac)) (am (i:=5) aV.nd rfl (QY rfl)) (ag (aw (i:=4) aV.nd rfl (QY rfl) (av gu (pv 4) (aG sF (pv 1) (av bo (av bP (pv 3) (av bW (pv 5) af)) af) (fun _ _=>rfl))))))
  (ae (aw (i:=6) aV.nd rfl (QY rfl) (bv ac))
  (ae (bw Rg rfl (bx rfl T.n_range (aa af ac)) (am (i:=5) aV.nd rfl (QY rfl)) (ae (aw (i:=7) aV.nd rfl (QY rfl) (aG sF (pv 1) (av bo (av bW (pv 3) (av cI (av cI af (pv 2)) (pv 5))) af) (fun _ _=>rfl)))
  (ag (bS (aS cP (av bo (pv 0) af) af (aW _)) (ag (aN (bN QV Q5 Q4 aJ (pv 6) (aa (pv 7) ac)))) (ag (bS (aS cP (av bo (pv 0) af) af (aW _)) (ag (aN (bN QV Q5 Q4 aJ (pv 6) (aa (av gu (pv 7) (bj o7 (pv 4) (bq af) (bq af))) ac)))) (ag (bS (aS cP (av bo (pv 0) af) af (aW _)) (ag (aN (bN QV Q5 Q4 aJ (pv 6) (aa (av gu (bj o7 (pv 4) bQ (bq af)) (pv 7)) ac)))) (ag (aN (bN QV Q5 Q4 aJ (pv 6) (aa (bj o7 (pv 4) bQ (bq (av bW (av cI af (pv 5)) af))) ac))))))))))))
  (ag (aA (pv 6)))))))))),?_⟩
 try dsimp only [xl,wN]
 have z0:=RT (c / 4) (show (4:Int)≠0 by decide);have z1:=RP (c / 4) (show (0:Int)<4 by decide);refine ⟨_,rfl,_,_,rfl,rfl,⟨by decide,by decide⟩,_,_,rfl,rfl,(by show (0:Int)<4;decide),_,_,rfl,rfl,?_⟩;refine ⟨_,rfl,_,_,rfl,rfl,⟨by decide,by decide⟩,?_⟩
 try dsimp only [aI]
 have D3:1<=1+c / 4%4:=by omega
 have Mn:1+c / 4%4<=4:=by omega
 generalize 1+c / 4%4=st at D3 Mn ⊢;generalize c / 16=a;refine ⟨8,rfl,by decide,by decide,?_⟩
 refine bU (n:=8) (fun i σ H2=>Ex2 fun (word:Rc) (kv:Option V)=>An4 (σ=[some (.int c),some (.str cR),some (.int st),some (.int a),some (.str word),kv,none,none]) (H2=H) (Low word) (word.length=i))
  ⟨QK "",none,rfl,rfl,(fun x hx=>by have:x∈([]:List Nat):=hx;cases this),rfl⟩ ?_ ?_
 · rintro i σ H2 hi ⟨word,kv,rfl,rfl,Bp,hlen⟩;have Ft:i<8:=hi;have y0:=RT (a / (0+(i:Int)+1)) (show (26:Int)≠0 by decide);have y1:=RP (a / (0+(i:Int)+1)) (show (0:Int)<26 by decide);refine ⟨_,rfl,_,rfl,_,rfl,_,rfl,_,_,rfl,rfl,_,_,rfl,rfl,⟨by show (0:Int)<0+(i:Int)+1;omega,by show 0+(i:Int)+1<1073741824;omega⟩,_,_,rfl,rfl,(by show (0:Int)<26;decide),cR,_,_,rfl,rfl,ak (by rw [i7];decide),lC y0 y1,?_⟩;refine ⟨_,_,rfl,rfl,ak (by show word.length+1<=1000000;omega),_,_,rfl,rfl,mq Bp (jm (by omega) (by omega)),?_⟩;rw [strLen_append];show word.length+1=i+1;omega
 rintro σ H2 ⟨word,kv,rfl,rfl,Bp,hlen⟩;have Bq:word.length=8:=hlen;refine ⟨ak (by show 0<=1000000;decide),fun nl B2=>?_⟩;refine ⟨4,rfl,by decide,by decide,?_⟩
 refine bU (n:=4) (fun i σ H3=>Ex3 fun (kv tv:Option V) (ws:List Rc)=>An5 (σ=[some (.int c),some (.str cR),some (.int st),some (.int a),some (.str word),kv,some (.ref nl),tv]) (L2.Same H2 H3) (H3 nl=some (.lst (ws.map V.str))) (ws.length=i) (∀ (j:Nat) (x:Rc),ws[j]?=some x->x=iq (c%4) a st word j))
  ⟨kv,none,[],rfl,ad B2 _,ab,rfl,fun j x hj=>by simp at hj⟩ ?_ ?_
 · rintro i σ H3 hi ⟨kv,tv,ws,rfl,s3,e3,AJ,xA⟩;have Mo:i<4:=hi;have y0:=RT (a+5 * st * (0+(i:Int))) (show (26:Int)≠0 by decide);have y1:=RP (a+5 * st * (0+(i:Int))) (show (0:Int)<26 by decide);refine ⟨_,rfl,_,rfl,_,rfl,_,_,rfl,rfl,.inl ⟨by decide,by decide⟩,_,rfl,_,_,rfl,rfl,.inl ⟨by omega,by omega⟩,_,_,rfl,rfl,_,_,rfl,rfl,(by show (0:Int)<26;decide),cR,_,_,rfl,rfl,ak (by rw [i7];decide),lC y0 y1,?_⟩;have Ei:97+((a+5 * st * (0+(i:Int)))%26).toNat=fT a st i:=by unfold fT;rw [Sw]
   try dsimp only
   rw [Ei]
   have fin:∀ x,x=iq (c%4) a st word i->∀ wH,wH=[some (.int c),some (.str cR),some (.int st),some (.int a),some (.str word),some (.int (0+(i:Int))),some (.ref nl),some (.str ⟨#[fT a st i]⟩)]->Ex3 fun (kv tv:Option V) (Kk:List Rc)=>An5 (wH=[some (.int c),some (.str cR),some (.int st),some (.int a),some (.str word),kv,some (.ref nl),tv]) (L2.Same H2 (upd H3 nl (.lst (ws.map V.str++[.str x])))) ((upd H3 nl (.lst (ws.map V.str++[.str x]))) nl=some (.lst (Kk.map V.str))) (Kk.length=i+1) (∀ (j:Nat) (x:Rc),Kk[j]?=some x->x=iq (c%4) a st word j):=fun x hx wH Kl=>by
    refine ⟨_,_,ws++[x],Kl,ao s3 B2,by rw [ab,QS];rfl,by rw [QX,AJ];rfl,fun j y hj=>?_⟩;by_cases FW:j<ws.length
    · rw [Tp FW] at hj;exact xA j y hj
    · have BI:=(QL.mp hj).1;rw [QX] at BI
      have:j=ws.length:=by
       have:([x]:List Rc).length=1:=rfl;omega
      subst this;rw [T9 (QF _),Wn] at hj;have:x=y:=by simpa using hj
      rw [<- this,hx,AJ]
   have OO:ws.length<=4:=by omega
   refine ⟨_,rfl,_,_,rfl,rfl,(by show (0:Int)<4;decide),rfl,_,rfl,?_⟩;refine cr (fun c0=>?_) (fun c0=>?_)
   · have h0:c%4=0:=V.int.inj (of_decide_eq_true c0);exact ⟨_,rfl,.inl ⟨rfl,_,SqL.of e3⟩,_,rfl,nl,_,_,rfl,rfl,e3,aD (by rw [QA];omega),fin _ (by unfold iq;rw [if_pos h0]) _ rfl⟩
   have n0:¬ c%4=0:=fun z=>c0 (decide_eq_true (congrArg V.int z));refine ⟨_,rfl,_,_,rfl,rfl,(by show (0:Int)<4;decide),rfl,_,rfl,?_⟩;refine cr (fun c1=>?_) (fun c1=>?_)
   · have h1:c%4=1:=V.int.inj (of_decide_eq_true c1);refine ⟨_,rfl,.inl ⟨rfl,_,SqL.of e3⟩,_,rfl,_,rfl,_,rfl,_,rfl,_,rfl,ak (by omega),_,_,rfl,rfl,ak (by rw [mX Bq];show 1+3<=1000000;decide),nl,_,_,rfl,rfl,e3,aD (by rw [QA];omega),fin _ (by unfold iq;rw [if_neg n0,if_pos h1]) _ rfl⟩
   have n1:¬ c%4=1:=fun z=>c1 (decide_eq_true (congrArg V.int z));refine ⟨_,rfl,_,_,rfl,rfl,(by show (0:Int)<4;decide),rfl,_,rfl,?_⟩;refine cr (fun c2=>?_) (fun c2=>?_)
   · have h2:c%4=2:=V.int.inj (of_decide_eq_true c2);have Qm:=(dW (z:=word) (n:=5) (by omega)).2;refine ⟨_,rfl,.inl ⟨rfl,_,SqL.of e3⟩,_,rfl,_,rfl,_,rfl,ak (by omega),_,rfl,_,_,rfl,rfl,ak (by show (dr word none (some ((5:Nat):Int))).length+1<=1000000;omega),nl,_,_,rfl,rfl,e3,aD (by rw [QA];omega),fin _ (by unfold iq;rw [if_neg n0,if_neg n1,if_pos h2]) _ rfl⟩
   have n2:¬ c%4=2:=fun z=>c2 (decide_eq_true (congrArg V.int z));refine ⟨_,rfl,.inl ⟨rfl,_,SqL.of e3⟩,_,rfl,_,rfl,_,_,rfl,rfl,.inl ⟨by decide,by decide⟩,_,_,rfl,rfl,_,rfl,_,rfl,ak (by omega),nl,_,_,rfl,rfl,e3,aD (by rw [QA];omega),fin _ (by unfold iq;rw [if_neg n0,if_neg n1,if_neg n2,Sw]) _ rfl⟩
 · rintro σ H3 ⟨kv,tv,ws,rfl,s3,e3,AJ,xA⟩;refine ⟨_,rfl,q nl ws H3 s3 e3 ⟨AJ,fun x hx=>?_,fun i j x hi hj=>?_⟩⟩
   · obtain ⟨j,hj⟩:=Rb.mp hx;have BI:=(QL.mp hj).1;rw [xA j x hj];exact sE Bp Bq (by omega)
   · have yO:=(QL.mp hi).1;have BI:=(QL.mp hj).1;have h1:=xA i x hi;have h2:=xA j x hj;exact sr D3 Mn Bq (by omega) (by omega) (h1.symm.trans h2)
inductive fy (vs:List V) (H:Hp) (Q:VK) (_E:XK):Prop
 | mk (c:Int) (na:QD) (ws:List Rc) (wZ:vs=[.int c,.ref na]) (w4:H na=some (.lst (ws.map V.str))) (w8:pz ws) (xj:∀ (r:QD) (as:List QD) (ks:List (Rc×Int)) (H':Hp),L2.Same H H'->H' r=some (.tup (as.map V.ref))->KsAt H' ks as->cZ ks->ks.length<=4->Q (.ref r) H'):fy  vs H Q _E
def kT:Sp:=fy
set_option maxHeartbeats 1000000 in
theorem f9:bh P w K mg base CX0 1 T.g__law_kinds.f T.g__law_kinds.d ["cell","names"] kT:=by
 refine T.g__law_kinds.F.ok bf (fun vs H Q E h=>?_) (fun wQ A outer s H vs Q E hr h=>?_)
 · obtain ⟨c,na,ws,rfl,_⟩:=h;rfl
 obtain ⟨c,na,ws,rfl,Km,xA,q⟩:=h
 refine ⟨_,(ae (aw (i:=2) bf.nd rfl (QY rfl) (av bW af (av bo (pv 0) af)))
  (ae (aw (i:=3) bf.nd rfl (QY rfl) (av bo (av bP (pv 0) af) (pv 2)))
  (ae (aw (i:=4) bf.nd rfl (QY rfl) (av bP (pv 0) af))
  (ae (aw (i:=5) bf.nd rfl (QY rfl) (bv ac))
  (ae (bw Rg rfl (bx rfl T.n_range (aa (pv 2) ac)) (am (i:=6) bf.nd rfl (QY rfl)) (ae (aw (i:=7) bf.nd rfl (QY rfl) (av bo (pv 4) af))
  (ae (aw (i:=4) bf.nd rfl (QY rfl) (av bP (pv 4) af))
  (ae (bS (aS cP (pv 6) (pv 3) (aW _)) (ag (aw (i:=7) bf.nd rfl (QY rfl) af)) bH)
  (ag (aN (bN QV Q5 Q4 aJ (pv 5) (aa (aH (aa (aG aP (pv 1) (pv 6) (fun _ _=>rfl)) (aa (pv 7) ac))) ac))))))))
  (ag (aA (cH cj rfl T.n_tuple SU (aa (pv 5) ac))))))))),?_⟩
 try dsimp only [xl,wN]
 have z0:=RT c (show (3:Int)≠0 by decide);have z1:=RP c (show (0:Int)<3 by decide);refine ⟨_,rfl,_,_,rfl,rfl,(by show (0:Int)<3;decide),_,_,rfl,rfl,?_⟩
 try dsimp only [aI]
 have m2:2<=2+c%3:=by omega
 have m4:2+c%3<=4:=by omega
 generalize 2+c%3=many at m2 m4 ⊢;have y0:=RT (c / 3) (show many≠0 by omega);have y1:=RP (c / 3) (show 0<many by omega);refine ⟨_,rfl,_,_,rfl,rfl,⟨by decide,by decide⟩,_,rfl,_,_,rfl,rfl,(by show 0<many;omega),?_⟩
 try dsimp only [aI]
 generalize c / 3%many=leaf at y0 y1 ⊢;refine ⟨_,rfl,_,_,rfl,rfl,⟨by decide,by decide⟩,?_⟩;refine ⟨ak (by show 0<=1000000;decide),fun kl xT=>?_⟩;refine ⟨_,rfl,many,rfl,by omega,by omega,?_⟩;have AJ:=xA.len
 refine bU (n:=many.toNat) (fun i σ H3=>Ex5 fun (rest:Int) (kv cv:Option V) (as:List QD) (ks:List (Rc×Int))=>An6 (σ=[some (.int c),some (.ref na),some (.int many),some (.int leaf),some (.int rest),some (.ref kl),kv,cv]) (L2.Same H H3) (H3 kl=some (.lst (as.map V.ref))) (KsAt H3 ks as) (ks.length=i) (∀ (j:Nat) (k:Rc×Int),ks[j]?=some k->ws[j]?=some k.1/\0<=k.2/\k.2<=3/\((j:Int)=leaf->k.2=0)))
  ⟨c / 12,none,none,[],[],rfl,ad xT _,ab,.nil,rfl,fun j k hj=>by simp at hj⟩ ?_ ?_
 · rintro i σ H3 hi ⟨rest,kv,cv,as,ks,rfl,s3,e3,yy,Kn,hinv⟩;have Mo:i<many.toNat:=hi;have x0:=RT rest (show (4:Int)≠0 by decide);have x1:=RP rest (show (0:Int)<4 by decide);refine ⟨_,rfl,_,_,rfl,rfl,(by show (0:Int)<4;decide),?_⟩
   try dsimp only [aI]
   refine ⟨_,rfl,_,_,rfl,rfl,⟨by decide,by decide⟩,?_⟩
   try dsimp only [aI]
   refine iE (fun wH H'=>An2 (H3=H') (Ex1 fun (ct:Int)=>An4 (0<=ct) (ct<=3) (((i:Int)=leaf->ct=0)) (wH=[some (.int c),some (.ref na),some (.int many),some (.int leaf),some (.int (rest / 4)),some (.ref kl),some (.int (0+(i:Int))),some (.int ct)]))) (fun kk hk=>?_) ?_
   · refine ⟨_,rfl,_,rfl,rfl,_,rfl,?_⟩;refine cr (fun c1=>?_) (fun c1=>?_)
     · exact hk _ _ ⟨rfl,0,by decide,by decide,fun _=>rfl,rfl⟩
     · exact hk _ _ ⟨rfl,_,x0,by omega,fun z=>absurd (decide_eq_true (by rw [<- z];congr 1;omega)) c1,rfl⟩
   rintro wH H' ⟨rfl,ct,OP,OQ,OR,rfl⟩;obtain ⟨x,hx⟩:∃ x,ws[i]?=some x:=⟨_,QC (by omega)⟩;have yn:ks.length=as.length:=QP yy;refine ⟨_,rfl,.inl ⟨rfl,_,SqL.of e3⟩,_,rfl,_,rfl,na,_,_,.str x,rfl,rfl,SqL.of (s3 _ _ Km),at_nonneg (by omega) (by rw [show (0+(i:Int)).toNat=i by omega,QO,hx];rfl),_,rfl,ak (by show 2<=1000000;decide),fun p hp=>?_⟩;have s4:L2.Same H3 (upd H3 p (.tup [.str x,.int ct])):=ad hp _;have e4:(upd H3 p (.tup [.str x,.int ct])) p=some (.tup [.str x,.int ct]):=ab;generalize (upd H3 p (.tup [.str x,.int ct]))=H4 at s4 e4 ⊢;have Mp:=s4 _ _ e3;refine ⟨kl,_,_,rfl,rfl,Mp,aD (by rw [QA];omega),?_⟩;have kt:KT H4 (upd H4 kl (.lst (as.map V.ref++[.ref p]))):=aQ Mp;refine ⟨_,_,_,as++[p],ks++[(x,ct)],rfl,ao (s3.trans s4) xT,by rw [ab,QS];rfl,?_,by rw [QX,Kn];rfl,fun j k hj=>?_⟩
   · exact P2.append (P2.mp (fun _ _ e=>kt _ _ (s4 _ _ e)) yy) (.cons (kt _ _ e4) .nil)
   · by_cases FW:j<ks.length
     · rw [Tp FW] at hj;exact hinv j k hj
     · have BI:=(QL.mp hj).1;rw [QX] at BI
       have:j=ks.length:=by
        have:([(x,ct)]:List (Rc×Int)).length=1:=rfl;omega
       subst this;rw [T9 (QF _),Wn] at hj;have:(x,ct)=k:=by simpa using hj
       rw [<- this,Kn];exact ⟨hx,OP,OQ,OR⟩
 · rintro σ H3 ⟨rest,kv,cv,as,ks,rfl,s3,e3,yy,Kn,hinv⟩;refine ⟨_,rfl,kl,_,rfl,.inl ⟨SqL.of e3,fun p hp=>?_⟩⟩;have s4:=ad hp (.tup (as.map V.ref));refine q p as ks _ (s3.trans s4) ab (yy.mono (Same.kt s4)) ⟨by omega,by omega,fun k hk=>?_,fun k hk=>?_,?_,fun i j k l hk hl e=>?_⟩ (by omega)
   · obtain ⟨j,hj⟩:=Rb.mp hk;exact xA.low _ (QH (hinv j k hj).1)
   · obtain ⟨j,hj⟩:=Rb.mp hk;exact ⟨(hinv j k hj).2.1,(hinv j k hj).2.2.1⟩
   · have hl:leaf.toNat<ks.length:=by omega
     exact ⟨ks[leaf.toNat],UT hl,(hinv leaf.toNat _ (QC hl)).2.2.2 (by omega)⟩
   · refine xA.inj i j k.1 (hinv i k hk).1 ?_;rw [e];exact (hinv j l hl).1
inductive fB (n:Nat) (vs:List V) (H:Hp) (Q:VK) (_E:XK):Prop
 | mk (l oa:QD) (x b:Int) (xc:List QD) (outs:List (Rc×Int)) (S C:Int) (wZ:vs=[.ref l,.ref oa,.int S,.int C]) (w4:H l=some (.lst [.int x,.int b])) (w8:H oa=some (.tup (xc.map V.ref))) (xj:KsAt H outs xc) (xB:cZ outs) (yu:S<1000000) (AM:C<1000000) (Bt:0<=b) (Ea:b<(n:Int)) (Fu:∀ (t:Th) (r:QD) (x' b':Int) (H':Hp),SameB l H H'->H' l=some (.lst [.int x',.int b'])->At H' t r->t.FitS outs S C->0<=b'->(t.size:Int)+b'=b+1->Q (.ref r) H'):fB n vs H Q _E
def kI (n:Nat):Sp:=fB n
set_option maxHeartbeats 2000000 in
theorem cn:∀ n:Nat,bh P w K mg base CX0 (n+1) T.g__law_thing.f T.g__law_thing.d ["left","outs","states","kids"] (kI n)
 | 0=>⟨fun _ _ _ _ h=>by obtain ⟨_,_,_,_,_,_,_,_,_,_,_,_,_,_,_,h1,h2,_⟩:=h;omega,fun _ _ _ _ _ _ _ _ _ _ _ _ _ h=>by obtain ⟨_,_,_,_,_,_,_,_,_,_,_,_,_,_,_,h1,h2,_⟩:=h;omega⟩
 | n+1=>by
   have ih:=cn n;refine T.g__law_thing.F.ok bg (fun vs H Q E h=>?_) (fun wQ A outer s H vs Q E hr h=>?_)
   · obtain ⟨l,oa,x,b,xc,outs,S,C,rfl,_⟩:=h;rfl
   obtain ⟨l,oa,x,b,xc,outs,S,C,rfl,el,eo,yy,g,OS,OT,b0,b1,q⟩:=h
   refine ⟨_,(ae (aw (i:=4) bg.nd rfl (QY rfl) (av bo (aG aP (pv 0) af (fun _ _=>rfl)) af))
    (ae (cO (av bP (aG aP (pv 0) af (fun _ _=>rfl)) af) (iF (pv 0) af set_list))
    (ae (bS (PW.pt (rP (aS rF (pv 2) af (aW _)) (rP (aS rF (pv 3) af (aW _)) (tj (aS pR (pv 4) af (aW _)))))) (ae (aw (i:=5) bg.nd rfl (QY rfl) (av bo (aG aP (pv 0) af (fun _ _=>rfl)) (pv 2)))
    (ae (cO (av bP (aG aP (pv 0) af (fun _ _=>rfl)) (pv 2)) (iF (pv 0) af set_list))
    (ae (aw (i:=6) bg.nd rfl (QY rfl) (av bo (aG aP (pv 0) af (fun _ _=>rfl)) (pv 3)))
    (ae (cO (av bP (aG aP (pv 0) af (fun _ _=>rfl)) (pv 3)) (iF (pv 0) af set_list))
    (ag (aA (aH (aa gD (aa (pv 5) (aa (pv 6) ac)))))))))) bH)
    (ae (fN (i:=7) (N:=[QK "kind",QK "left"]) (js:=[none,some 0]) (g:=(aI 0)) (tt:=(qd (tOp (rI0 fun i j=>.bl (decide (i<=j))) (tOp (se K) (bu 0) (tC (.int 1))) (tOp (uJ K) (bu 1) (tC (.int 1)))))) (te:=(bu 0)) bg.nd rfl (QY rfl) rfl (cL rfl (by decide +kernel) (by decide +kernel) rfl rfl rfl) (kB (pv 1)) (fun _ _ _ _ _ _=>(am (i:=0) wc rfl (QY rfl))) (aR rfl) (fun _ _ _ _ _ _=>jl (aS ve (aG aL (pv 0) af (fun _ _=>rfl)) (aG aP (pv 1) af (fun _ _=>rfl)) (aW _))) (fun _ _ _ _ _ _=>(pv 0)))
    (ae (aw (i:=8) bg.nd rfl (QY rfl) (aG aP (pv 7) (av bo (aG aP (pv 0) af (fun _ _=>rfl)) (aC au rfl T.n_len Ri (aa (pv 7) ac))) (fun _ _=>rfl)))
    (ae (cO (av bP (aG aP (pv 0) af (fun _ _=>rfl)) (aC au rfl T.n_len Ri (aa (pv 7) ac))) (iF (pv 0) af set_list))
    (ae (cO (av j5 (aG aP (pv 0) af (fun _ _=>rfl)) (aG aL (pv 8) af (fun _ _=>rfl))) (iF (pv 0) af set_list))
    (ae (aw (i:=9) bg.nd rfl (QY rfl) (aH (aa (aG aL (pv 8) af (fun _ _=>rfl)) ac)))
    (ae (bw Rg rfl (bx rfl T.n_range (aa (aG aL (pv 8) af (fun _ _=>rfl)) ac)) (am (i:=10) bg.nd rfl (QY rfl)) (ag (aw (i:=9) bg.nd rfl (QY rfl) (av cS (pv 9) (aH (aa (eR (ih) (hr.mono (QF _)) rfl T.g__law_thing.m T.g__law_thing.F.kp T.g__law_thing.b .nil jW (aa (pv 0) (aa (pv 1) (aa (pv 2) (aa (pv 3) ac))))) ac))))))
    (ag (aA (pv 9)))))))))))),?_⟩
   try dsimp only [xl,wN]
   have xT:outs.length=xc.length:=QP yy;have Qn:=g.le;have Mq:=g.ne;have MT:oa≠l:=eX eo el (by intro z;cases z);refine ⟨_,rfl,l,_,0,.int x,rfl,rfl,SqL.of el,at0,_,_,rfl,rfl,(by show (0:Int)<7;decide),?_⟩
   try dsimp only [aI]
   generalize x%7=digit;refine ⟨_,rfl,l,_,0,.int x,rfl,rfl,SqL.of el,at0,_,_,rfl,rfl,⟨by decide,by decide⟩,_,rfl,l,_,_,0,rfl,rfl,el,rfl,?_⟩;have s1:SameB l H (upd H l (.lst [.int (x / 7),.int b])):=.set;have e1:(upd H l (.lst [.int (x / 7),.int b])) l=some (.lst [.int (x / 7),.int b]):=ab
   try dsimp only [List.set]
   generalize (upd H l (.lst [.int (x / 7),.int b]))=H1 at s1 e1 ⊢;generalize x / 7=x1 at e1;have Mr:KT H H1:=s1.kt el;refine iE (fun wH H'=>An2 (H1=H') (wH=[some (.ref l),some (.ref oa),some (.int S),some (.int C),some (.int digit),none,none,none,none,none,none])) (fun kk hk=>?_) ?_
   · refine fz (fun c H'=>An2 (H1=H') ((c=true->0<S/\0<C))) (fun k2 zQ=>?_) (fun H' hb=>?_) (fun H' hb=>?_)
     · refine ⟨_,rfl,_,_,rfl,rfl,_,rfl,?_⟩;refine cr (fun c1=>?_) (fun c1=>zQ _ _ ⟨rfl,fun z=>by cases z⟩);refine ⟨_,rfl,_,_,rfl,rfl,_,rfl,?_⟩;refine cr (fun c2=>?_) (fun c2=>zQ _ _ ⟨rfl,fun z=>by cases z⟩);exact ⟨_,rfl,_,_,rfl,rfl,_,rfl,zQ _ _ ⟨rfl,fun _=>⟨of_decide_eq_true c1,of_decide_eq_true c2⟩⟩⟩
     · obtain ⟨rfl,hb⟩:=hb;obtain ⟨hS,hC⟩:=hb rfl;have d0:=RT x1 (show S≠0 by omega);have d1:=RP x1 hS;refine ⟨_,rfl,l,_,0,.int x1,rfl,rfl,SqL.of e1,at0,_,rfl,_,_,rfl,rfl,hS,?_⟩;refine ⟨_,rfl,l,_,0,.int x1,rfl,rfl,SqL.of e1,at0,_,rfl,_,_,rfl,rfl,⟨hS,by omega⟩,_,rfl,l,_,_,0,rfl,rfl,e1,rfl,?_⟩;have s2:SameB l H1 (upd H1 l (.lst [.int (x1 / S),.int b])):=.set;have e2:(upd H1 l (.lst [.int (x1 / S),.int b])) l=some (.lst [.int (x1 / S),.int b]):=ab
       try dsimp only [List.set]
       generalize (upd H1 l (.lst [.int (x1 / S),.int b]))=H2 at s2 e2 ⊢;generalize x1 / S=x2 at e2;have c0:=RT x2 (show C≠0 by omega);have c1:=RP x2 hC;refine ⟨_,rfl,l,_,0,.int x2,rfl,rfl,SqL.of e2,at0,_,rfl,_,_,rfl,rfl,hC,?_⟩;refine ⟨_,rfl,l,_,0,.int x2,rfl,rfl,SqL.of e2,at0,_,rfl,_,_,rfl,rfl,⟨hC,by omega⟩,_,rfl,l,_,_,0,rfl,rfl,e2,rfl,?_⟩;have s3:SameB l H2 (upd H2 l (.lst [.int (x2 / C),.int b])):=.set;have e3:(upd H2 l (.lst [.int (x2 / C),.int b])) l=some (.lst [.int (x2 / C),.int b]):=ab
       try dsimp only [List.set]
       generalize (upd H2 l (.lst [.int (x2 / C),.int b]))=H3 at s3 e3 ⊢;refine ⟨_,rfl,_,rfl,ak (by show 3<=1000000;decide),fun ca Fj=>?_⟩;have s4:=ad Fj (.tup [.str BB.q,.int (x1%S),.int (x2%C)]);refine q (.call (x1%S) (x2%C)) ca _ b _ (s1.trans (s2.trans (s3.trans (.of s4)))) (s4 _ _ e3) ?_ ?_ b0 ?_
       · rw [At];exact ab
       · rw [Th.FitS];exact ⟨d0,d1,c0,c1⟩
       · rw [Th.size];show (1:Int)+b=b+1;omega
     · obtain ⟨rfl,_⟩:=hb;exact hk _ _ ⟨rfl,rfl⟩
   rintro wH H' ⟨rfl,rfl⟩;have Ko:H1 oa=some (.tup (xc.map V.ref)):=Mr _ _ eo;have Gf:=yy.mono Mr;obtain ⟨kz,Fd,OU⟩:=g.zero;refine ⟨_,rfl,oa,rfl,⟨_,SqT.of Ko⟩,oO (K:=K) (fun k=>decide (k.2<=b)) Ko Gf (by omega) ⟨kz,Fd,decide_eq_true (by omega)⟩ (fun z ka H2 R sm hz r=>?_) (fun ka H2 R r=>⟨_,rfl,r⟩) (fun D bs H2 hD e' Bw Qo xm=>?_)⟩
   · exact ⟨_,rfl,ka,_,1,_,rfl,rfl,SqT.of hz,at1,_,rfl,l,_,1,.int b,rfl,rfl,SqL.of (sm _ _ e1),at1,_,_,rfl,rfl,_,rfl,r⟩
   have s2:L2.Same H1 H2:=by rw [e'];exact ad hD _
   have eD:H2 D=some (.lst (bs.map fun z=>V.ref z.2)):=by rw [e'];exact ab
   have DH:D≠l:=fun z=>by rw [z,e1] at hD;cases hD
   have HC:=s2 _ _ e1;clear e';have Bc:0<((bs.map fun z=>V.ref z.2).length:Int):=by rw [QA];omega
   have y0:=RT x1 (show ((bs.map fun z=>V.ref z.2).length:Int)≠0 by omega);have y1:=RP x1 Bc;refine hid fun ZZ kZ=>?_;obtain ⟨z,hz⟩:∃ z,bs[(x1%((bs.map fun z=>V.ref z.2).length:Int)).toNat]?=some z:=⟨_,QC (by rw [QA] at y1 ⊢;omega)⟩;obtain ⟨yl,gp,D6⟩:=xm z (QH hz);obtain ⟨k0,ka⟩:=z;refine kZ ?_;dsimp only at yl gp D6 hz;have Qp:k0.2<=b:=of_decide_eq_true gp;have BV:=g.num k0 yl;refine ⟨_,rfl,_,rfl,l,_,0,.int x1,rfl,rfl,SqL.of HC,at0,_,rfl,D,_,rfl,.inl (SqL.of eD),_,_,rfl,rfl,Bc,D,_,_,.ref ka,rfl,rfl,SqL.of eD,at_nonneg y0 (by rw [QO,hz];rfl),?_⟩
   try dsimp only [aI]
   refine ⟨_,rfl,l,_,0,.int x1,rfl,rfl,SqL.of HC,at0,_,rfl,D,_,rfl,.inl (SqL.of eD),_,_,rfl,rfl,⟨Bc,by rw [QA];omega⟩,_,rfl,l,_,_,0,rfl,rfl,HC,rfl,?_⟩;have s3:SameB l H2 (upd H2 l (.lst [.int (x1 / ((bs.map fun z=>V.ref z.2).length:Int)),.int b])):=.set;have e3:(upd H2 l (.lst [.int (x1 / ((bs.map fun z=>V.ref z.2).length:Int)),.int b])) l=some (.lst [.int (x1 / ((bs.map fun z=>V.ref z.2).length:Int)),.int b]):=ab
   try dsimp only [List.set]
   generalize (upd H2 l (.lst [.int (x1 / ((bs.map fun z=>V.ref z.2).length:Int)),.int b]))=H3 at s3 e3 ⊢;generalize x1 / ((bs.map fun z=>V.ref z.2).length:Int)=x3 at e3;have Fz:KT H2 H3:=s3.kt HC;have Gg:H3 ka=some (.tup [.str k0.1,.int k0.2]):=Fz _ _ (s2 _ _ D6);refine ⟨_,rfl,l,_,1,.int b,rfl,rfl,SqL.of e3,at1,_,rfl,ka,_,1,.int k0.2,rfl,rfl,SqT.of Gg,at1,_,_,rfl,rfl,_,rfl,l,_,_,1,rfl,rfl,e3,rfl,?_⟩;have s4:SameB l H3 (upd H3 l (.lst [.int x3,.int (b - k0.2)])):=.set;have e4:(upd H3 l (.lst [.int x3,.int (b - k0.2)])) l=some (.lst [.int x3,.int (b - k0.2)]):=ab
   try dsimp only [List.set]
   generalize (upd H3 l (.lst [.int x3,.int (b - k0.2)]))=H4 at s4 e4 ⊢;have DA:KT H3 H4:=s4.kt e3;have Gh:=DA _ _ Gg;refine ⟨_,rfl,ka,_,0,.str k0.1,rfl,rfl,SqT.of Gh,at0,ak (by show 1<=1000000;decide),fun ma OV=>?_⟩;have s5:L2.Same H4 (upd H4 ma (.tup [.str k0.1])):=ad OV _;have e5:(upd H4 ma (.tup [.str k0.1])) ma=some (.tup (.str k0.1::([]:List QD).map V.ref)):=ab
   try dsimp only
   generalize (upd H4 ma (.tup [.str k0.1]))=H5 at s5 e5 ⊢;have Gi:KT H1 H5:=(Same.kt s2).trans (Fz.trans (DA.trans (Same.kt s5)));have Kp:=s5 _ _ Gh;have Mt:=s5 _ _ e4;have Eb:SameB l H H5:=s1.trans ((SameB.of s2).trans (s3.trans (s4.trans (.of s5))));refine ⟨_,rfl,ka,_,1,_,rfl,rfl,SqT.of Kp,at1,k0.2,rfl,by omega,by omega,?_⟩
   refine bU (n:=k0.2.toNat) (fun i σ H6=>Ex6 fun (kv:Option V) (ma:QD) (zP:List QD) (ts:List Th) (x' b':Int)=>An9 (σ=[some (.ref l),some (.ref oa),some (.int S),some (.int C),some (.int digit),none,none,some (.ref D),some (.ref ka),some (.ref ma),kv]) (SameB l H5 H6) (H6 l=some (.lst [.int x',.int b'])) (H6 ma=some (.tup (.str k0.1::zP.map V.ref))) (Ats H6 ts zP) (ts.length=i) ((∀ t∈ts,t.FitS outs S C)) (0<=b') ((ax ts:Int)+b'=b - k0.2+(i:Int)))
    ⟨none,ma,[],[],x3,b - k0.2,rfl,.refl,Mt,e5,.nil,rfl,(fun t ht=>by cases ht),by omega,by rw [ax];show (0:Int)+(b - k0.2)=b - k0.2+0;omega⟩ ?_ ?_
   · rintro i σ H6 hi ⟨kv,ma,zP,ts,x',b',rfl,s6,Gj,Kq,B7,xw,wM,Gk,Kr⟩;have Qq:i<k0.2.toNat:=hi;have By:KT H5 H6:=s6.kt Mt;have hsz:=bL ts;refine ⟨_,rfl,_,rfl,_,rfl,_,rfl,_,rfl,l,oa,x',b',xc,outs,S,C,rfl,Gj,(Gi.trans By) _ _ Ko,Gf.mono (Gi.trans By),g,OS,OT,Gk,by omega,fun t r x7 b7 H7 s7 OW yA zB Eh OX=>?_⟩;have Ab:KT H6 H7:=s7.kt Gj;refine ⟨ak (by show 1<=1000000;decide),fun p1 y9=>?_⟩;have s8:L2.Same H7 (upd H7 p1 (.tup [.ref r])):=ad y9 _;have e8:(upd H7 p1 (.tup [.ref r])) p1=some (.tup [.ref r]):=ab;generalize (upd H7 p1 (.tup [.ref r]))=H8 at s8 e8 ⊢;have y4:zP.length=ts.length:=B7.length;refine lP (s8 _ _ (Ab _ _ Kq)) e8 (by rw [QM,QA];show zP.length+1+1<=1000000;omega) fun p H9 s9 e9=>?_;have HE:=s8.trans s9;refine ⟨_,p,zP++[r],ts++[t],x7,b7,rfl,s6.trans (s7.trans (.of HE)),HE _ _ OW,?_,?_,?_,?_,Eh,?_⟩
     · rw [e9,QS];rfl
     · exact (B7.mono (Ab.trans (Same.kt HE))).append (.cons (yA.mono (Same.kt HE)) .nil)
     · rw [QX,xw];rfl
     · intro u hu;rcases Rv.mp hu with hu | hu
       · exact wM u hu
       · rw [Q2.mp hu];exact zB
     · rw [bD,ax,ax];omega
   · rintro σ H6 ⟨kv,ma,zP,ts,x',b',rfl,s6,Gj,Kq,B7,xw,wM,Gk,Kr⟩;have Bp:=(g.low k0 yl).1;refine ⟨_,rfl,q (.knot k0.1 ts) ma x' b' H6 (Eb.trans s6) Gj ?_ ?_ Gk ?_⟩
     · rw [At];exact ⟨p8 Bp,zP,Kq,B7⟩
     · rw [Th.FitS];refine ⟨?_,FitSs.of wM⟩
       have:(k0.1,(ts.length:Int))=k0:=by
        rw [xw];exact Prod.ext rfl (by show ((k0.2.toNat:Nat):Int)=k0.2;omega)
       rw [this];exact yl
     · rw [Th.size];have:((k0.2.toNat:Nat):Int)=k0.2:=by omega
       omega
def PlAt (H:Hp) (p:List Int) (b:QD):Prop:=H b=some (.tup (p.map V.int))
theorem PlAt.mono {H H':Hp} (k:KT H H') {p:List Int} {b:QD} (h:PlAt H p b):PlAt H' p b:=k _ _ h
inductive eZ (n:Nat) (vs:List V) (H:Hp) (Q:VK) (_E:XK):Prop
 | mk (a:QD) (t:Th) (wZ:vs=[.ref a]) (w4:At H t a) (w8:t.tall<=n) (xj:t.size<=1000) (xB:∀ (r:QD) (ps:List (List Int)) (bs:List QD) (H':Hp),L2.Same H H'->H r=none->H' r=some (.lst (bs.map V.ref))->Rf (PlAt H') ps bs->1<=ps.length->ps.length<=t.size->(∀ p∈ps,p.length+1<=t.tall/\∃ u,t.sub p=some u)->Q (.ref r) H'):eZ n vs H Q _E
def jn (n:Nat):Sp:=eZ n
set_option maxHeartbeats 1000000 in
theorem fj:∀ n:Nat,bh P w K mg base CX0 n T.g__law_places.f T.g__law_places.d ["thing"] (jn n)
 | 0=>⟨fun _ _ _ _ h=>by obtain ⟨_,t,_,_,h1,_⟩:=h;have:=t.tall_eq;omega,fun _ _ _ _ _ _ _ _ _ _ _ _ _ h=>by obtain ⟨_,t,_,_,h1,_⟩:=h;have:=t.tall_eq;omega⟩
 | n+1=>by
   have ih:=fj n;refine T.g__law_places.F.ok cz (fun vs H Q E h=>?_) (fun wQ A outer s H vs Q E hr h=>?_)
   · obtain ⟨a,t,rfl,_⟩:=h;rfl
   obtain ⟨a,t,rfl,hA,xw,hsz,q⟩:=h
   refine ⟨_,(ae (aw (i:=1) cz.nd rfl (QY rfl) (bv (aa (aH ac) ac)))
    (ae (bS (aS pK (aG aL (pv 0) af (fun _ _=>rfl)) gD (aW _)) (ag (bw Rg rfl (iC rfl T.n_range (aa af (aa (aC au rfl T.n_len Ri (aa (pv 0) ac)) ac))) (am (i:=2) cz.nd rfl (Wb rfl)) (ag (aw (i:=1) cz.nd rfl (QY rfl) (av u6 (pv 1) (cA (N:=[QK "place",QK "k"]) (js:=[none,some 2]) (g:=(aI 0)) (tt:=bZ) (te:=(tOp (lI K) (mm (bn (tOp (rI0 fun i j=>.int (i - j)) (bu 1) (tC (.int 1))) dP)) (bu 0))) rfl (cL rfl (by decide +kernel) (by decide +kernel) rfl rfl rfl) (cy (eR (ih) (hr.mono (QF _)) rfl T.g__law_places.m T.g__law_places.F.kp T.g__law_places.b .nil jW (aa (aG aL (pv 0) (pv 2) (fun _ _=>rfl)) ac))) (fun _ _ _ _ _ _=>(am (i:=0) vW rfl (QY rfl))) (aR rfl) (fun _ _ _ _ _ _=>cg) (fun _ _ _ _ _ _=>(av cS (aH (aa (av j5 (pv 1) af) ac)) (pv 0))))))))) bH)
    (ag (aA (pv 1))))),?_⟩
   try dsimp only [xl,wN]
   refine ⟨ak (by show 0<=1000000;decide),fun ep OY=>?_⟩;have s1:L2.Same H (upd H ep (.tup [])):=ad OY _;have e1:PlAt (upd H ep (.tup [])) [] ep:=ab;generalize (upd H ep (.tup []))=H1 at s1 e1 ⊢;refine ⟨ak (by show 1<=1000000;decide),fun fl CC=>?_⟩;have s2:L2.Same H1 (upd H1 fl (.lst [.ref ep])):=ad CC _;have e2:(upd H1 fl (.lst [.ref ep])) fl=some (.lst ([ep].map V.ref)):=ab;have Gm:H fl=none:=s1.free CC
   try dsimp only [aI]
   generalize (upd H1 fl (.lst [.ref ep]))=H2 at s2 e2 ⊢;have xx:=s1.trans s2;have HF:=hA.mono (Same.kt xx);cases t with
   | call sn kn =>
     rw [At] at HF;refine ⟨_,rfl,a,_,0,.str BB.q,rfl,rfl,SqT.of HF,at0,rfl,_,rfl,?_⟩;refine kS ?_;refine ⟨_,rfl,q fl [[]] [ep] H2 xx Gm e2 (.cons (e1.mono (Same.kt s2)) .nil) (QF _) (by rw [Th.size];exact QF _) (fun p hp=>?_)⟩;rw [Q2.mp hp,Th.tall];exact ⟨QF _,_,gY _⟩
   | knot m ks =>
     rw [At] at HF;refine hid fun ZZ kZ=>?_;obtain ⟨Ks,xi,ea,yL⟩:=HF;refine kZ ?_;rw [Th.tall] at xw;rw [Th.size] at hsz;have xT:=yL.length;have yy:=bL ks;refine ⟨_,rfl,a,_,0,.str m,rfl,rfl,SqT.of ea,at0,rfl,_,rfl,?_⟩
     have xf:(!decide (V.str m=V.str (QK "?")))=true:=by
      have:decide (V.str m=V.str (QK "?"))=false:=decide_eq_false fun z=>Ks (V.str.inj z);rw [this];rfl
     rw [xf];refine rh ?_;refine ⟨_,rfl,a,_,rfl,.inr (SqT.of ea),1,_,rfl,⟨by decide,by decide,by rw [QM,QA];omega,by rw [QM,QA];omega⟩,?_⟩;have Ej:((((V.str m::xi.map V.ref).length:Nat):Int) - 1).toNat=ks.length:=by rw [QM,QA];omega
     rw [Ej]
     refine bU (n:=ks.length) (fun i σ H3=>Ex4 fun (kv:Option V) (fl:QD) (ps:List (List Int)) (bs:List QD)=>An9 (σ=[some (.ref a),some (.ref fl),kv]) (L2.Same H H3) (H fl=none) (H3 fl=some (.lst (bs.map V.ref))) (Rf (PlAt H3) ps bs) (1<=ps.length) (ps.length<=1+ax (ks.take i)) ((∀ p∈ps,p.length+1<=bI ks+1/\∃ u,(Th.knot m ks).sub p=some u)) (L2.Same H2 H3))
      ⟨none,fl,[[]],[ep],rfl,xx,Gm,e2,.cons (e1.mono (Same.kt s2)) .nil,QF _,by rw [UL,ax];exact QF _,(fun p hp=>by rw [Q2.mp hp];exact ⟨by show 0+1<=bI ks+1;omega,_,gY _⟩),.refl _⟩ ?_ ?_
     · rintro i σ H3 hi ⟨kv,fl,ps,bs,rfl,s3,Gm,e3,xP,y9,xW,wM,HG⟩;have xJ:i<ks.length:=hi;have GZ:=HG _ _ ea;have Gn:=yL.mono (Same.kt HG);refine hid fun ZZ kZ=>?_;obtain ⟨ka,xN⟩:∃ ka,xi[i]?=some ka:=⟨_,QC (by omega)⟩;obtain ⟨u,hu,OZ⟩:=Gn.get xN;refine kZ ?_;have Mu:=QH hu;have Jk:=b9 Mu;have Qr:=ke Mu
       have xO:ax (ks.take i)+u.size<=ax ks:=by
        have h1:ax (ks.take (i+1))+ax (ks.drop (i+1))=ax ks:=by rw [<- bD,List.take_append_drop]
        rw [take_snoc hu,bD,ax,ax] at h1;omega
       refine ⟨_,rfl,_,rfl,_,rfl,a,_,_,.ref ka,rfl,rfl,SqT.of GZ,at_nonneg (by omega) (by rw [show (1+(i:Int)).toNat=i+1 by omega,R8,QO,xN];rfl),ka,u,rfl,OZ,by omega,by omega,fun r HH Ay H4 s4 nr er Gp O0 O1 CK=>?_⟩;have Gq:HH.length=Ay.length:=QP Gp;have y4:ps.length=bs.length:=QP xP;refine ⟨r,rfl,⟨_,SqL.of er⟩,mz (F:=PlAt) (xs:=Ay.map V.ref) (HH.map fun p=>(i:Int)::p) (fun H1 H2 z p kt h=>h.mono kt) (by rw [QA,QA];exact Gq) (by rw [QA];omega) (fun j Hx sx hj=>⟨_,_,SqL.of (sx _ _ er),QC hj⟩) (fun Hx sx=>⟨_,SqL.of (sx _ _ er),QF _⟩) (fun j Hx x Hy sx hj hy=>⟨hy.1,hy.2 _ (SqL.of (sx _ _ er))⟩) (fun j x z Hx R W' hx Bd sx hR=>?_) (fun D H5 Kt hD s5 eD BU=>?_)⟩
       · obtain ⟨pb,rfl,Ed⟩:=bc hx;rw [QO] at Bd;obtain ⟨p,hp,rfl⟩:=RJ.mp Bd;have O2:PlAt Hx p pb:=(mv Gp hp Ed).mono (Same.kt sx);have O3:=(CK p (QH hp)).1;have O4:=cV u;refine ⟨_,rfl,_,_,rfl,rfl,ak (by show 1<=1000000;decide),fun k1 Mq=>?_⟩;have t1:L2.Same Hx (upd Hx k1 (.tup [.int (1+(i:Int) - 1)])):=ad Mq _;have f1:(upd Hx k1 (.tup [.int (1+(i:Int) - 1)])) k1=some (.tup [.int (i:Int)]):=by rw [ab,show 1+(i:Int) - 1=(i:Int) by omega]
         try dsimp only
         generalize (upd Hx k1 (.tup [.int (1+(i:Int) - 1)]))=Hy at t1 f1 ⊢;refine ⟨_,rfl,?_⟩;refine lP f1 (t1 _ _ O2) (by rw [QA];show 1+p.length<=1000000;omega) fun p3 H7 s7 e7=>?_;exact hR H7 p3 (t1.trans s7) e7
       have Ku:(HH.map fun p=>(i:Int)::p).length=Kt.length:=QP BU;rw [QA] at Ku;have O5:=(s4.trans s5) _ _ e3;refine ⟨fl,D,_,_,rfl,rfl,O5,eD,ak (by rw [QA,QA];omega),fun nl B2=>?_⟩;have s6:L2.Same H5 (upd H5 nl (.lst (bs.map V.ref++Kt.map V.ref))):=ad B2 _;have CL:=s4.trans (s5.trans s6);refine ⟨_,nl,ps++HH.map (fun p=>(i:Int)::p),bs++Kt,rfl,s3.trans CL,(s3.trans (s4.trans s5)).free B2,by rw [ab,QS],?_,?_,?_,fun p hp=>?_,HG.trans CL⟩
       · exact P2.append (P2.mp (fun _ _ e=>PlAt.mono (Same.kt CL) e) xP) (P2.mp (fun _ _ e=>PlAt.mono (Same.kt s6) e) BU)
       · rw [QX];omega
       · rw [QX,QA,take_snoc hu,bD,ax,ax];omega
       · rcases Rv.mp hp with hp | hp
         · exact wM p hp
         · obtain ⟨p2,yH,rfl⟩:=RN.mp hp;obtain ⟨h1,v,hv⟩:=CK p2 yH;refine ⟨by rw [QM];omega,v,?_⟩;rw [nn (u:=u) (by omega) (by show ks[(i:Int).toNat]?=some u;rw [RH];exact hu)];exact hv
     · rintro σ H3 ⟨kv,fl,ps,bs,rfl,s3,Gm,e3,xP,y9,xW,wM,HG⟩;rw [Sd (QF _)] at xW;exact ⟨_,rfl,q fl ps bs H3 s3 Gm e3 xP y9 (by rw [Th.size];omega) (by rw [Th.tall];exact wM)⟩
inductive g8 (n:Nat) (vs:List V) (H:Hp) (Q:VK) (_E:XK):Prop
 | mk (a pa oa:QD) (t o u:Th) (p:List Int) (wZ:vs=[.ref a,.ref pa,.ref oa]) (w4:At H t a) (w8:H pa=some (.tup (p.map V.int))) (xj:At H o oa) (xB:t.sub p=some u) (yu:p.length<n) (AM:t.size<=1000) (Bt:∀ (r:QD) (H':Hp),L2.Same H H'->At H' (t.put p o) r->Q (.ref r) H'):g8 n vs H Q _E
def om (n:Nat):Sp:=g8 n
set_option maxHeartbeats 1000000 in
theorem iU:∀ n:Nat,bh P w K mg base CX0 n T.g__law_put.f T.g__law_put.d ["thing","place","other"] (om n)
 | 0=>⟨fun _ _ _ _ h=>by obtain ⟨_,_,_,_,_,_,_,_,_,_,_,_,h1,_⟩:=h;omega,fun _ _ _ _ _ _ _ _ _ _ _ _ _ h=>by obtain ⟨_,_,_,_,_,_,_,_,_,_,_,_,h1,_⟩:=h;omega⟩
 | n+1=>by
   have ih:=iU n;refine T.g__law_put.F.ok i9 (fun vs H Q E h=>?_) (fun wQ A outer s H vs Q E hr h=>?_)
   · obtain ⟨a,pa,oa,t,o,u,p,rfl,_⟩:=h;rfl
   obtain ⟨a,pa,oa,t,o,u,p,rfl,hA,zb,hO,xZ,xW,hsz,q⟩:=h
   refine ⟨_,(ae (bS (aS cP (aC au rfl T.n_len Ri (aa (pv 1) ac)) af (aW _)) (ag (aA (pv 2))) bH)
    (ae (aw (i:=3) i9.nd rfl (QY rfl) (av bW (aG aL (pv 1) af (fun _ _=>rfl)) af))
    (ag (aA (av cS (av cS (bj eE (pv 0) bQ (bq (pv 3))) (aH (aa (eR (ih) (hr.mono (QF _)) rfl T.g__law_put.m T.g__law_put.F.kp T.g__law_put.b .nil jW (aa (aG aL (pv 0) (pv 3) (fun _ _=>rfl)) (aa (bj eE (pv 1) (bq af) bQ) (aa (pv 2) ac)))) ac))) (bj eE (pv 0) (bq (av bW (pv 3) af)) bQ)))))),?_⟩
   try dsimp only [xl,wN]
   refine ⟨_,rfl,pa,_,rfl,.inr (SqT.of zb),rfl,_,rfl,?_⟩;cases p with
   | nil =>
     refine rh ?_;exact ⟨_,rfl,q oa H (.refl _) (by rw [l5];exact hO)⟩
   | cons i r =>
     have An:decide (V.int (((((i::r).map V.int).length:Nat)):Int)=V.int 0)=false:=decide_eq_false fun z=>by
      have:=V.int.inj z;rw [QA,QM] at this;omega
     rw [An];refine kS ?_;refine hid fun ZZ kZ=>?_;obtain ⟨h0,v,hv,O6⟩:=lT xZ;refine kZ ?_;cases t with
     | call sn kn=>rw [Th.kids] at hv;simp at hv
     | knot m ks =>
     rw [Th.kids] at hv;have Mv:=hA;rw [At] at Mv;obtain ⟨Ks,xi,ea,yL⟩:=Mv;rw [Th.size] at hsz;have xT:=yL.length;have yy:=bL ks;have yO:=(QL.mp hv).1;obtain ⟨j,rfl⟩:∃ j:Nat,i=(j:Int):=⟨_,(TB h0).symm⟩;rw [RH] at hv yO;refine ⟨_,rfl,pa,_,0,.int (j:Int),rfl,rfl,SqT.of zb,at0,_,_,rfl,rfl,?_⟩
     try dsimp only [aI]
     have ej:(j:Int)+1=((j+1:Nat):Int):=by omega
     rw [ej];refine ⟨_,rfl,_,rfl,_,rfl,a,_,rfl,SqT.of ea,?_,fun p1 y9=>?_⟩
     · rintro ⟨_,z⟩;rw [HT.sIx_nat,QM,QA] at z;omega
     try dsimp only
     have G7:cY (V.str m::xi.map V.ref) none (some ((j+1:Nat):Int))=V.str m::(xi.take j).map V.ref:=by
      rw [tL (by rw [QM,QA];omega),List.take_succ_cons,List.map_take]
     rw [G7];have s1:L2.Same H (upd H p1 (.tup (V.str m::(xi.take j).map V.ref))):=ad y9 _;have e1:(upd H p1 (.tup (V.str m::(xi.take j).map V.ref))) p1=some (.tup (V.str m::(xi.take j).map V.ref)):=ab;generalize (upd H p1 (.tup (V.str m::(xi.take j).map V.ref)))=H1 at s1 e1 ⊢;have Kv:=s1 _ _ ea;refine hid fun ZZ kZ=>?_;obtain ⟨ka,xN⟩:∃ ka,xi[j]?=some ka:=⟨_,QC (by omega)⟩;obtain ⟨v',xG,O7⟩:=(yL.mono (Same.kt s1)).get xN;refine kZ ?_;rw [hv] at xG;cases xG;refine ⟨_,rfl,_,rfl,a,_,_,.ref ka,rfl,rfl,SqT.of Kv,at_nonneg (by omega) (by rw [RH,R8,QO,xN];rfl),?_⟩;refine ⟨_,rfl,1,rfl,pa,_,rfl,SqT.of (s1 _ _ zb),?_,fun p2 yH=>?_⟩
     · rintro ⟨z,_⟩;rw [RD,QM,show (1:Int)=((1:Nat):Int) by rfl,HT.sIx_nat] at z;omega
     try dsimp only
     rw [RD,d4];have s2:L2.Same H1 (upd H1 p2 (.tup (r.map V.int))):=ad yH _;have e2:(upd H1 p2 (.tup (r.map V.int))) p2=some (.tup (r.map V.int)):=ab;generalize (upd H1 p2 (.tup (r.map V.int)))=H2 at s2 e2 ⊢;have xx:=s1.trans s2;have Ar:=ke (QH hv);rw [QM] at xW;refine ⟨_,rfl,ka,p2,oa,v,o,u,r,rfl,O7.mono (Same.kt s2),e2,hO.mono (Same.kt xx),O6,by omega,by omega,fun r3 H3 s3 h3=>?_⟩;refine ⟨ak (by show 1<=1000000;decide),fun p4 O8=>?_⟩;have s4:L2.Same H3 (upd H3 p4 (.tup [.ref r3])):=ad O8 _;have e4:(upd H3 p4 (.tup [.ref r3])) p4=some (.tup [.ref r3]):=ab;generalize (upd H3 p4 (.tup [.ref r3]))=H4 at s4 e4 ⊢;refine lP ((s2.trans (s3.trans s4)) _ _ e1) e4 (by rw [QM,QA,Ro];show min j xi.length+1+1<=1000000;omega) fun p5 H5 s5 e5=>?_;have Eb:=xx.trans (s3.trans (s4.trans s5));refine ⟨_,rfl,_,rfl,_,_,rfl,rfl,_,rfl,a,_,rfl,SqT.of (Eb _ _ ea),?_,fun p6 O9=>?_⟩
     · rintro ⟨z,_⟩;have O':((j+1:Nat):Int)+1=((j+2:Nat):Int):=by omega
       rw [O',HT.sIx_nat,QM,QA] at z;omega
     try dsimp only
     have Ak:cY (V.str m::xi.map V.ref) (some (((j+1:Nat):Int)+1)) none=(xi.drop (j+1)).map V.ref:=by
      rw [show ((j+1:Nat):Int)+1=((j+2:Nat):Int) by omega,iS (by rw [QM,QA];omega),V1,V7]
     rw [Ak];have s6:L2.Same H5 (upd H5 p6 (.tup ((xi.drop (j+1)).map V.ref))):=ad O9 _;have e6:(upd H5 p6 (.tup ((xi.drop (j+1)).map V.ref))) p6=some (.tup ((xi.drop (j+1)).map V.ref)):=ab;generalize (upd H5 p6 (.tup ((xi.drop (j+1)).map V.ref)))=H6 at s6 e6 ⊢;refine lP (s6 _ _ e5) e6 (by rw [QX,QM,QA,Ro,QA,R7];show min j xi.length+1+1+(xi.length - (j+1))<=1000000;omega) fun p7 H7 s7 e7=>?_;have Gr:=s4.trans (s5.trans (s6.trans s7));have Mw:=Eb.trans (s6.trans s7);refine q p7 H7 Mw ?_;have Kw:(Th.knot m ks).kids[(j:Int).toNat]?=some v:=by rw [RH];exact hv
     rw [jz Kw,At];refine ⟨Ks,xi.set j r3,?_,?_⟩
     · rw [e7];have:xi.set j r3=xi.take j++r3::xi.drop (j+1):=List.set_eq_take_append_cons_drop .. |>.trans (if_pos (by omega));rw [this];simp [Th.nm]
     · rw [RH];exact (yL.mono (Same.kt Mw)).set _ (h3.mono (Same.kt Gr))
theorem fP {l:QD} {o:HO} {H H':Hp} (hl:H l=none) (h:SameB l (upd H l o) H'):L2.Same H H':=fun b ob e=>h b ob (aE e hl) (by rw [ai (aE e hl)];exact e)
def um (ins outs:List (Rc×Int)) (S:Int) (m:Nat) (rows:List (List Th)):Prop:=∀ row∈rows,row.length=ins.length/\∀ (j:Nat) (t:Th) (k:Rc×Int),row[j]?=some t->ins[j]?=some k->t.FitS outs S k.2/\t.size<=m
inductive fU (vs:List V) (H:Hp) (Q:VK) (_E:XK):Prop
 | mk (ca ia oa:QD) (cs:List Int) (wU xc:List QD) (ins outs:List (Rc×Int)) (S:Int) (wZ:vs=[.ref ca,.ref ia,.ref oa,.int S]) (w4:H ca=some (.lst (cs.map V.int))) (w8:H ia=some (.tup (wU.map V.ref))) (xj:KsAt H ins wU) (xB:cZ ins) (yu:H oa=some (.tup (xc.map V.ref))) (AM:KsAt H outs xc) (Bt:cZ outs) (Ea:0<=S) (Fu:S<=1000) (FH:S.toNat * (ins.length+1)<=cs.length) (Kx:cs.length<=100000) (Ky:∀ (r:QD) (xv:List QD) (rows:List (List Th)) (H':Hp),L2.Same H H'->H' r=some (.tup (xv.map V.ref))->Rf (RowAt H') rows xv->(rows.length:Int)=S->um ins outs S 9 rows->Q (.ref r) H'):fU  vs H Q _E
def l8:Sp:=fU
set_option maxHeartbeats 4000000 in
theorem ml:bh P w K mg base CX0 10 T.g__law_rows.f T.g__law_rows.d ["cells","ins","outs","states"] l8:=by
 refine T.g__law_rows.F.ok aY (fun vs H Q E h=>?_) (fun wQ A outer s H vs Q E hr h=>?_)
 · obtain ⟨ca,ia,oa,cs,wU,xc,ins,outs,S,rfl,_⟩:=h;rfl
 obtain ⟨ca,ia,oa,cs,wU,xc,ins,outs,S,rfl,HI,DK,zc,gi,yZ,B8,go,S0,S1,zh,FC,q⟩:=h
 refine ⟨_,(ae (aw (i:=4) aY.nd rfl (QY rfl) (bv ac))
  (ae (bw Rg rfl (bx rfl T.n_range (aa (pv 3) ac)) (am (i:=5) aY.nd rfl (QY rfl)) (ae (aw (i:=6) aY.nd rfl (QY rfl) (bj lY (pv 0) (bq (av cI (pv 5) (av bW (aC au rfl T.n_len Ri (aa (pv 1) ac)) af))) bQ))
  (ae (aw (i:=7) aY.nd rfl (QY rfl) (pcF T.g__law_thing (cn T 7) hr (aa (bv (aa (pcF T.g__law_mixed (dF T) hr (aa (aG aP (pv 6) af (fun _ _=>rfl)) (aa (av cI af (pv 5)) ac))) (aa af ac))) (aa (pv 2) (aa af (aa af ac))))))
  (ae (aw (i:=8) aY.nd rfl (QY rfl) (pcF T.g__law_places (fj T 8) hr (aa (pv 7) ac)))
  (ae (aw (i:=9) aY.nd rfl (QY rfl) (bv ac))
  (ae (bw Rg rfl (bx rfl T.n_range (aa (aC au rfl T.n_len Ri (aa (pv 1) ac)) ac)) (am (i:=10) aY.nd rfl (QY rfl)) (ae (aw (i:=11) aY.nd rfl (QY rfl) (pcF T.g__law_mixed (dF T) hr (aa (aG aP (pv 6) (av bW (pv 10) af) (fun _ _=>rfl)) (aa (av bW (av cI af (pv 10)) (pv 5)) ac))))
  (ag (bS (aS cP (av bo (pv 11) af) af (aW _)) (ag (aN (bN QV Q5 Q4 aJ (pv 9) (aa (pcF T.g__law_thing (cn T 7) hr (aa (bv (aa (av bP (pv 11) af) (aa af ac))) (aa (pv 2) (aa (pv 3) (aa (aG aL (aG aL (pv 1) (pv 10) (fun _ _=>rfl)) af (fun _ _=>rfl)) ac))))) ac)))) (ae (aw (i:=12) aY.nd rfl (QY rfl) (aG aP (pv 8) (av bo (av bP (pv 11) af) (aC au rfl T.n_len Ri (aa (pv 8) ac))) (fun _ _=>rfl)))
  (ae (aw (i:=13) aY.nd rfl (QY rfl) (pcF T.g__law_thing (cn T 7) hr (aa (bv (aa (av bP (av bP (pv 11) af) (aC au rfl T.n_len Ri (aa (pv 8) ac))) (aa af ac))) (aa (pv 2) (aa (pv 3) (aa (aG aL (aG aL (pv 1) (pv 10) (fun _ _=>rfl)) af (fun _ _=>rfl)) ac))))))
  (ag (aN (bN QV Q5 Q4 aJ (pv 9) (aa (pcF T.g__law_put (iU T 8) hr (aa (pv 7) (aa (pv 12) (aa (pv 13) ac)))) ac))))))))))
  (ag (aN (bN QV Q5 Q4 aJ (pv 4) (aa (cH cj rfl T.n_tuple SU (aa (pv 9) ac)) ac))))))))))
  (ag (aA (cH cj rfl T.n_tuple SU (aa (pv 4) ac)))))),?_⟩
 try dsimp only [xl,wN]
 have yO:ins.length=wU.length:=QP zc;have Ft:=gi.le;refine ⟨ak (by show 0<=1000000;decide),fun rl Cz=>?_⟩;refine ⟨_,rfl,S,rfl,by omega,by omega,?_⟩
 refine bU (n:=S.toNat) (fun i σ H3=>vU fun (c5 c6 c7 c8 c9 yb B9 Az AA:Option V) (xv:List QD) (rows:List (List Th))=>An6 (σ=[some (.ref ca),some (.ref ia),some (.ref oa),some (.int S),some (.ref rl),c5,c6,c7,c8,c9,yb,B9,Az,AA]) (L2.Same H H3) (H3 rl=some (.lst (xv.map V.ref))) (Rf (RowAt H3) rows xv) (rows.length=i) (um ins outs S 9 rows))
  ⟨none,none,none,none,none,none,none,none,none,[],[],rfl,ad Cz _,ab,.nil,rfl,fun row h=>by cases h⟩ ?_ ?_
 · rintro i σ H3 hi ⟨c5,c6,c7,c8,c9,yb,B9,Az,AA,xv,rows,rfl,s3,e3,Ek,Ej,DL⟩;have Qs:i<S.toNat:=hi
   have hmul:i * (ins.length+1)+(ins.length+1)<=cs.length:=by
    have h1:(i+1) * (ins.length+1)<=S.toNat * (ins.length+1):=VQ _ (by omega);rw [Nat.add_mul,Nat.one_mul] at h1;omega
   have Kz:=s3 _ _ HI;have DN:=s3 _ _ DK;refine ⟨_,rfl,_,rfl,_,rfl,ia,_,rfl,.inr (SqT.of DN),_,_,rfl,rfl,_,_,rfl,rfl,.inl ⟨by omega,by omega⟩,_,rfl,ca,_,rfl,SqL.of Kz,fun ow how=>?_⟩
   have DC:(0+(i:Int)) * ((((wU.map V.ref).length:Nat):Int)+1)=((i * (ins.length+1):Nat):Int):=by
    rw [QA,<- yO,Sw];simp
   try dsimp only [aI]
   rw [DC,iS (by rw [QA];omega),<- V7];have Av:(cs.drop (i * (ins.length+1))).length=cs.length - i * (ins.length+1):=R7;generalize cs.drop (i * (ins.length+1))=ds at Av ⊢;have s4:L2.Same H3 (upd H3 ow (.lst (ds.map V.int))):=ad how _;have e4:(upd H3 ow (.lst (ds.map V.int))) ow=some (.lst (ds.map V.int)):=ab;generalize (upd H3 ow (.lst (ds.map V.int)))=H4 at s4 e4 ⊢;obtain ⟨d0,Au⟩:∃ d0,ds[0]?=some d0:=⟨_,QC (by omega)⟩;refine ⟨_,rfl,ow,_,0,.int d0,rfl,rfl,SqL.of e4,at_nonneg (by decide) (by show (ds.map V.int)[0]?=_;rw [QO,Au];rfl),_,rfl,_,_,rfl,rfl,.inl ⟨by decide,by decide⟩,_,_,rfl,fun z=>?_⟩;refine ⟨ak (by show 2<=1000000;decide),fun l1 xY=>?_⟩;have s5:L2.Same H4 (upd H4 l1 (.lst [.int z,.int 6])):=ad xY _;have e5:(upd H4 l1 (.lst [.int z,.int 6])) l1=some (.lst [.int z,.int 6]):=ab;have BO:=s4.trans s5;refine ⟨_,rfl,l1,oa,z,6,xc,outs,0,0,rfl,e5,(s3.trans BO) _ _ yZ,B8.mono (Same.kt (s3.trans BO)),go,by decide,by decide,by decide,by decide,fun bt ba x' b' H6 s6 Gj Mx Pa Gk Qt=>?_⟩;have CL:L2.Same H4 H6:=fP xY s6;clear s5 e5 BO s6;have xm:bt.size<=7:=by omega
   have Qu:=cV bt;refine ⟨_,rfl,ba,bt,rfl,Mx,by omega,by omega,fun sp ps bs H7 s7 _ Pb xP y9 xW wM=>?_⟩;have y4:ps.length=bs.length:=QP xP;have Eg:=CL.trans s7;have KA:=Mx.mono (Same.kt s7);refine ⟨ak (by show 0<=1000000;decide),fun AB Bh=>?_⟩;have Gr:=s4.trans Eg;refine ⟨_,rfl,ia,_,rfl,.inr (SqT.of (ad Bh _ _ _ (Gr _ _ DN))),_,rfl,by omega,by rw [QA];omega,?_⟩
   refine bU (n:=(((wU.map V.ref).length:Nat):Int).toNat) (fun j σ H8=>Ex6 fun (yb B9 Az AA:Option V) (zS:List QD) (ts:List Th)=>An6 (σ=[some (.ref ca),some (.ref ia),some (.ref oa),some (.int S),some (.ref rl),some (.int (0+(i:Int))),some (.ref ow),some (.ref ba),some (.ref sp),some (.ref AB),yb,B9,Az,AA]) (L2.Same H7 H8) (H8 AB=some (.lst (zS.map V.ref))) (Ats H8 ts zS) (ts.length=j) (∀ (j:Nat) (t:Th) (k:Rc×Int),ts[j]?=some t->ins[j]?=some k->t.FitS outs S k.2/\t.size<=9))
    ⟨_,_,_,_,[],[],rfl,ad Bh _,ab,.nil,rfl,fun j t k h=>by simp at h⟩ ?_ ?_
   · rintro j σ H8 hj ⟨yb,B9,Az,AA,zS,ts,rfl,s8,e8,B7,Ei,KC⟩
     have w6:j<ins.length:=by
      have h1:j<(((wU.map V.ref).length:Nat):Int).toNat:=hj;rw [QA] at h1;omega
     have DO:=Gr.trans s8;have Pc:=(Eg.trans s8) _ _ e4;obtain ⟨d1,Di⟩:∃ d1,ds[j+1]?=some d1:=⟨_,QC (by omega)⟩;refine ⟨_,rfl,_,rfl,_,_,rfl,rfl,ow,_,_,.int d1,rfl,rfl,SqL.of Pc,at_nonneg (by omega) (by rw [show (0+(j:Int)+1).toNat=j+1 by omega,QO,Di];rfl),_,rfl,_,_,rfl,rfl,.inl ⟨by decide,by decide⟩,_,rfl,_,_,rfl,rfl,_,_,rfl,fun nb=>?_⟩;refine hid fun ZZ kZ=>?_;obtain ⟨k0,zk⟩:∃ k0,ins[j]?=some k0:=⟨_,QC w6⟩;obtain ⟨ka,xN,D6⟩:=P2.get zc zk;refine kZ ?_;have BV:=gi.num k0 (QH zk);have Gs:H8 ka=some (.tup [.str k0.1,.int k0.2]):=(s3.trans DO) _ _ D6;have Gu:=DO _ _ DN;have Gq:=B7.length
     have Aq:∀ (t:Th) (ta:QD) (H9:Hp) (Az AA:Option V),L2.Same H8 H9->At H9 t ta->t.FitS outs S k0.2->t.size<=9->∀ wH,wH=[some (.ref ca),some (.ref ia),some (.ref oa),some (.int S),some (.ref rl),some (.int (0+(i:Int))),some (.ref ow),some (.ref ba),some (.ref sp),some (.ref AB),some (.int (0+(j:Int))),some (.int nb),Az,AA]->Ex6 fun (yb B9 Az AA:Option V) (Gv:List QD) (KD:List Th)=>An6 (wH=[some (.ref ca),some (.ref ia),some (.ref oa),some (.int S),some (.ref rl),some (.int (0+(i:Int))),some (.ref ow),some (.ref ba),some (.ref sp),some (.ref AB),yb,B9,Az,AA]) (L2.Same H7 (upd H9 AB (.lst (zS.map V.ref++[.ref ta])))) ((upd H9 AB (.lst (zS.map V.ref++[.ref ta]))) AB=some (.lst (Gv.map V.ref))) (Ats (upd H9 AB (.lst (zS.map V.ref++[.ref ta]))) KD Gv) (KD.length=j+1) (∀ (j:Nat) (t:Th) (k:Rc×Int),KD[j]?=some t->ins[j]?=some k->t.FitS outs S k.2/\t.size<=9):=fun t ta H9 Az AA s9 yA zB hsz wH Kl=>by
      have e9:=s9 _ _ e8;have kt:KT H9 (upd H9 AB (.lst (zS.map V.ref++[.ref ta]))):=aQ e9;refine ⟨_,_,_,_,zS++[ta],ts++[t],Kl,ao (s8.trans s9) Bh,by rw [ab,QS];rfl,(B7.mono ((Same.kt s9).trans kt)).append (.cons (yA.mono kt) .nil),by rw [QX,Ei];rfl,fun m u k hu hk=>?_⟩;by_cases hm:m<ts.length
      · rw [Tp hm] at hu;exact KC m u k hu hk
      · have G5:=(QL.mp hu).1;rw [QX] at G5
        have:m=ts.length:=by
         have:([t]:List Th).length=1:=rfl;omega
        subst this;rw [T9 (QF _),Wn] at hu;have e1:t=u:=by simpa using hu
        rw [Ei,zk] at hk;cases hk;rw [<- e1];exact ⟨zB,hsz⟩
     refine ⟨_,rfl,_,_,rfl,rfl,(by show (0:Int)<4;decide),rfl,_,rfl,?_⟩;refine cr (fun c1=>?_) (fun c1=>?_)
     · refine ⟨_,rfl,.inl ⟨rfl,_,SqL.of e8⟩,_,rfl,_,_,rfl,rfl,⟨by decide,by decide⟩,ak (by show 2<=1000000;decide),fun l2 xD=>?_⟩;have s9:L2.Same H8 (upd H8 l2 (.lst [.int (nb / 4),.int 6])):=ad xD _;have CM:=(s3.trans DO).trans s9;refine ⟨_,rfl,_,rfl,_,rfl,_,rfl,ia,_,_,.ref ka,rfl,rfl,SqT.of (s9 _ _ Gu),at_nonneg (by omega) (by rw [show (0+(j:Int)).toNat=j by omega,QO,xN];rfl),ka,_,1,.int k0.2,rfl,rfl,SqT.of (s9 _ _ Gs),at1,?_⟩;refine ⟨l2,oa,_,6,xc,outs,S,k0.2,rfl,ab,CM _ _ yZ,B8.mono (Same.kt CM),go,by omega,by omega,by decide,by decide,fun pt pa x2 b2 xC xu KG Gw KH BK C'=>?_⟩;have zJ:L2.Same H8 xC:=fP xD xu;refine ⟨AB,_,_,rfl,rfl,zJ _ _ e8,aD (by rw [QA];omega),?_⟩;exact Aq pt pa xC _ _ zJ Gw KH (by omega) _ rfl
     · have DQ:=s8 _ _ Pb;have Bc:0<(((bs.map V.ref).length:Nat):Int):=by rw [QA];omega
       have y0:=RT (nb / 4) (show (((bs.map V.ref).length:Nat):Int)≠0 by omega);have y1:=RP (nb / 4) Bc;refine hid fun ZZ kZ=>?_;obtain ⟨m,hm⟩:∃ m:Nat,nb / 4%(((bs.map V.ref).length:Nat):Int)=(m:Int):=⟨_,(TB y0).symm⟩;have G5:m<bs.length:=by rw [hm,QA] at y1;omega
       obtain ⟨pb,Ed⟩:∃ pb,bs[m]?=some pb:=⟨_,QC G5⟩;obtain ⟨p,hp⟩:∃ p,ps[m]?=some p:=⟨_,QC (by omega)⟩;have Fs:PlAt H8 p pb:=(mv xP hp Ed).mono (Same.kt s8);obtain ⟨My,u,xZ⟩:=wM p (QH hp);refine kZ ?_;refine ⟨_,rfl,_,rfl,_,_,rfl,rfl,⟨by decide,by decide⟩,_,rfl,sp,_,rfl,.inl (SqL.of DQ),_,_,rfl,rfl,Bc,sp,_,_,.ref pb,rfl,rfl,SqL.of DQ,at_nonneg y0 (by rw [hm,RH,QO,Ed];rfl),?_⟩;refine ⟨_,rfl,_,_,rfl,rfl,⟨by decide,by decide⟩,_,rfl,sp,_,rfl,.inl (SqL.of DQ),_,_,rfl,rfl,⟨Bc,by rw [QA];omega⟩,ak (by show 2<=1000000;decide),fun l2 xD=>?_⟩;have s9:L2.Same H8 (upd H8 l2 (.lst [.int (nb / 4 / (((bs.map V.ref).length:Nat):Int)),.int 2])):=ad xD _;have CM:=(s3.trans DO).trans s9;refine ⟨_,rfl,_,rfl,_,rfl,_,rfl,ia,_,_,.ref ka,rfl,rfl,SqT.of (s9 _ _ Gu),at_nonneg (by omega) (by rw [show (0+(j:Int)).toNat=j by omega,QO,xN];rfl),ka,_,1,.int k0.2,rfl,rfl,SqT.of (s9 _ _ Gs),at1,?_⟩;refine ⟨l2,oa,_,2,xc,outs,S,k0.2,rfl,ab,CM _ _ yZ,B8.mono (Same.kt CM),go,by omega,by omega,by decide,by decide,fun pt pa x2 b2 xC xu KG Gw KH BK C'=>?_⟩;have zJ:L2.Same H8 xC:=fP xD xu;refine ⟨_,rfl,.inl ⟨rfl,_,SqL.of (zJ _ _ e8)⟩,_,rfl,_,rfl,_,rfl,?_⟩;refine ⟨ba,pb,pa,bt,pt,u,p,rfl,KA.mono (Same.kt (s8.trans zJ)),Fs.mono (Same.kt zJ),Gw,xZ,by omega,by omega,fun ra xX yd Gx=>?_⟩;have Gy:=zJ.trans yd;have Pd:=n5 p bt u pt xZ;have Pe:=size_pos u;refine ⟨AB,_,_,rfl,rfl,Gy _ _ e8,aD (by rw [QA];omega),?_⟩;exact Aq (bt.put p pt) ra xX _ _ Gy Gx (nQ p bt u pt xZ (FitS.up Pa) KH) (by omega) _ rfl
   · rintro σ H8 ⟨yb,B9,Az,AA,zS,ts,rfl,s8,e8,B7,Ei,KC⟩
     have KI:ts.length=ins.length:=by
      rw [Ei,QA];omega
     have DO:=Gr.trans s8;have Mz:=DO _ _ e3;refine ⟨_,rfl,.inl ⟨rfl,_,SqL.of Mz⟩,_,rfl,AB,_,rfl,.inl ⟨SqL.of e8,fun tp Dj=>?_⟩⟩;have s9:L2.Same H8 (upd H8 tp (.tup (zS.map V.ref))):=ad Dj _;have e9:(upd H8 tp (.tup (zS.map V.ref))) tp=some (.tup (zS.map V.ref)):=ab;generalize (upd H8 tp (.tup (zS.map V.ref)))=H9 at s9 e9 ⊢;have MA:=s9 _ _ Mz;have Pf:rows.length=xv.length:=QP Ek;refine ⟨rl,_,_,rfl,rfl,MA,aD (by rw [QA];omega),?_⟩;have kt:KT H9 (upd H9 rl (.lst (xv.map V.ref++[.ref tp]))):=aQ MA;have CM:=DO.trans s9;refine ⟨_,_,_,_,_,_,_,_,_,xv++[tp],rows++[ts],rfl,ao (s3.trans CM) Cz,by rw [ab,QS];rfl,?_,by rw [QX,Ej];rfl,fun row wK=>?_⟩
     · refine P2.append (P2.mp (fun _ _ e=>RowAt.mono ((Same.kt CM).trans kt) e) Ek) (.cons ⟨zS,kt _ _ e9,B7.mono ((Same.kt s9).trans kt)⟩ .nil)
     · rcases Rv.mp wK with h | h
       · exact DL row h
       · rw [Q2.mp h];exact ⟨KI,KC⟩
 · rintro σ H3 ⟨c5,c6,c7,c8,c9,yb,B9,Az,AA,xv,rows,rfl,s3,e3,Ek,Ej,DL⟩;refine ⟨_,rfl,rl,_,rfl,.inl ⟨SqL.of e3,fun p hp=>?_⟩⟩;have s4:=ad hp (.tup (xv.map V.ref));exact q p xv rows _ (s3.trans s4) ab (P2.mp (fun _ _ e=>RowAt.mono (Same.kt s4) e) Ek) (by omega) DL
inductive f8 (K:QB) (vs:List V) (H:Hp) (Q:VK) (_E:XK):Prop
 | mk (a:QD) (ns:List Int) (k:Int) (wZ:vs=[.ref a,.int k]) (w4:SqL K H a (ns.map V.int)) (w8:0<=k) (xj:∀ c:Int,Q (.int c) H):f8 K vs H Q _E
def l9 (K:QB):Sp:=f8 K
theorem cx:bh P w K mg base CX0 1 T.g__law_cell.f T.g__law_cell.d ["script","k"] (l9 K):=by
 refine T.g__law_cell.F.ok lV (fun vs H Q E h=>?_) (fun wQ A outer s H vs Q E hr h=>?_)
 · obtain ⟨a,ns,k,rfl,_⟩:=h;rfl
 obtain ⟨a,ns,k,rfl,hS,h0,q⟩:=h
 refine ⟨_,(ae (bS (aS pR (pv 1) (aC au rfl T.n_len Ri (aa (pv 0) ac)) (aW _)) (ag (aA (aG aP (pv 0) (pv 1) (fun _ _=>rfl)))) bH)
  (ag (aA af))),?_⟩
 try dsimp only [xl,wN]
 refine ⟨_,rfl,_,rfl,a,_,rfl,.inl hS,_,_,rfl,rfl,_,rfl,?_⟩;refine cr (fun c=>?_) (fun c=>q 0);have c':k<(((ns.map V.int).length:Nat):Int):=of_decide_eq_true c;rw [QA] at c';exact ⟨_,rfl,_,rfl,a,_,k,_,rfl,rfl,hS,int_at h0 c',q _⟩
inductive gq (vs:List V) (H:Hp) (Q:VK) (_E:XK):Prop
 | mk (ca ia oa:QD) (cs:List Int) (wU xc:List QD) (ins outs:List (Rc×Int)) (S:Int) (wZ:vs=[.ref ca,.ref ia,.ref oa,.int S]) (w4:H ca=some (.lst (cs.map V.int))) (w8:H ia=some (.tup (wU.map V.ref))) (xj:KsAt H ins wU) (xB:cZ ins) (yu:H oa=some (.tup (xc.map V.ref))) (AM:KsAt H outs xc) (Bt:cZ outs) (Ea:0<=S) (Fu:S<=1000) (FH:1+S.toNat * (ins.length+1)<=cs.length) (Kx:cs.length<=100000) (Ky:∀ (r:QD) (head:Th) (rows:List (List Th)) (H':Hp),L2.Same H H'->Bk H' ins outs head rows r->ue ins outs S 9 head rows->head.size<=5->Q (.ref r) H'):gq  vs H Q _E
def mF:Sp:=gq
set_option maxHeartbeats 1000000 in
theorem mw:bh P w K mg base CX0 11 T.g__law_book.f T.g__law_book.d ["cells","ins","outs","states"] mF:=by
 refine T.g__law_book.F.ok ig (fun vs H Q E h=>?_) (fun wQ A outer s H vs Q E hr h=>?_)
 · obtain ⟨ca,ia,oa,cs,wU,xc,ins,outs,S,rfl,_⟩:=h;rfl
 obtain ⟨ca,ia,oa,cs,wU,xc,ins,outs,S,rfl,HI,DK,zc,gi,yZ,B8,go,S0,S1,zh,FC,q⟩:=h
 refine ⟨_,(ae (aw (i:=4) ig.nd rfl (QY rfl) (pcF T.g__law_thing (cn T 6) hr (aa (bv (aa (pcF T.g__law_mixed (dF T) hr (aa (aG aP (pv 0) af (fun _ _=>rfl)) (aa af ac))) (aa af ac))) (aa (pv 2) (aa (pv 3) (aa af ac))))))
  (ag (aA (aH (aa (pv 1) (aa (pv 2) (aa (pv 4) (aa (pcF T.g__law_rows (ml T) hr (aa (bj lY (pv 0) (bq af) bQ) (aa (pv 1) (aa (pv 2) (aa (pv 3) ac))))) ac)))))))),?_⟩
 try dsimp only [xl,wN]
 obtain ⟨d0,Au⟩:∃ d0,cs[0]?=some d0:=⟨_,QC (by omega)⟩;refine ⟨_,rfl,ca,_,0,.int d0,rfl,rfl,SqL.of HI,at_nonneg (by decide) (by show (cs.map V.int)[0]?=_;rw [QO,Au];rfl),_,_,rfl,fun z=>?_⟩;refine ⟨ak (by show 2<=1000000;decide),fun l1 xY=>?_⟩;have s5:L2.Same H (upd H l1 (.lst [.int z,.int 4])):=ad xY _;refine ⟨_,rfl,_,rfl,l1,oa,z,4,xc,outs,S,1,rfl,ab,s5 _ _ yZ,B8.mono (Same.kt s5),go,by omega,by decide,by decide,by decide,fun ht ha x' b' H1 Pg Qv hA hF Gk hz=>?_⟩;have s1:L2.Same H H1:=fP xY Pg;refine ⟨_,rfl,_,rfl,_,rfl,_,rfl,1,rfl,ca,_,rfl,SqL.of (s1 _ _ HI),fun cl KJ=>?_⟩
 try dsimp only
 rw [show (some (1:Int))=some ((1:Nat):Int) from rfl,iS (by rw [QA];omega),<- V7];have s2:L2.Same H1 (upd H1 cl (.lst ((cs.drop 1).map V.int))):=ad KJ _;have e2:(upd H1 cl (.lst ((cs.drop 1).map V.int))) cl=some (.lst ((cs.drop 1).map V.int)):=ab;generalize (upd H1 cl (.lst ((cs.drop 1).map V.int)))=H2 at s2 e2 ⊢;have xx:=s1.trans s2;refine ⟨_,rfl,_,rfl,_,rfl,cl,ia,oa,cs.drop 1,wU,xc,ins,outs,S,rfl,e2,xx _ _ DK,zc.mono (Same.kt xx),gi,xx _ _ yZ,B8.mono (Same.kt xx),go,S0,S1,by rw [R7];omega,by rw [R7];omega,fun r xv rows H3 s3 er Ek Ej DL=>?_⟩;refine ⟨ak (by show 4<=1000000;decide),fun p hp=>?_⟩;have s4:=ad hp (.tup [.ref ia,.ref oa,.ref ha,.ref r]);have Gz:=s3.trans s4;have GA:=xx.trans Gz;refine q p ht rows _ GA ⟨ia,oa,ha,r,wU,xc,xv,ab,GA _ _ DK,zc.mono (Same.kt GA),GA _ _ yZ,B8.mono (Same.kt GA),hA.mono (Same.kt (s2.trans Gz)),s4 _ _ er,P2.mp (fun _ _ e=>RowAt.mono (Same.kt s4) e) Ek⟩ ⟨Ej,fun row h=>(DL row h).1,fun row h=>(DL row h).2,hF,by omega⟩ (by omega)
inductive fq (K:QB) (vs:List V) (H:Hp) (Q:VK) (_E:XK):Prop
 | mk (a:QD) (ns:List Int) (most:Int) (wZ:vs=[.ref a,.int most]) (w4:SqL K H a (ns.map V.int)) (w8:ns.length<=63) (xj:1<=most) (xB:most<=16) (yu:∀ (r:QD) (ins outs:List (Rc×Int)) (S:Int) (head:Th) (rows:List (List Th)) (H':Hp),L2.Same H H'->Bk H' ins outs head rows r->cZ ins->cZ outs->S<=16->ue ins outs S 9 head rows->head.size<=5->Q (.ref r) H'):fq K vs H Q _E
def kO (K:QB):Sp:=fq K
set_option maxHeartbeats 1000000 in
theorem kW:bh P w K mg base CX0 12 T.g__law_drawn.f T.g__law_drawn.d ["script","most"] (kO K):=by
 refine T.g__law_drawn.F.ok ck (fun vs H Q E h=>?_) (fun wQ A outer s H vs Q E hr h=>?_)
 · obtain ⟨a,ns,most,rfl,_⟩:=h;rfl
 obtain ⟨a,ns,most,rfl,hS,Ce,m1,m2,q⟩:=h
 refine ⟨_,(ae (aw (i:=2) ck.nd rfl (QY rfl) (pcF T.g__law_kinds (f9 T) hr (aa (pcF T.g__law_cell (cx T) hr (aa (pv 0) (aa af ac))) (aa (pcF T.g__law_names (gg T) hr (aa (pcF T.g__law_cell (cx T) hr (aa (pv 0) (aa af ac))) ac)) ac))))
  (ae (aw (i:=3) ck.nd rfl (QY rfl) (pcF T.g__law_kinds (f9 T) hr (aa (pcF T.g__law_cell (cx T) hr (aa (pv 0) (aa af ac))) (aa (pcF T.g__law_names (gg T) hr (aa (av bW (av bP (pcF T.g__law_cell (cx T) hr (aa (pv 0) (aa af ac))) af) af) ac)) ac))))
  (ae (aw (i:=4) ck.nd rfl (QY rfl) (av bW af (av bo (pcF T.g__law_cell (cx T) hr (aa (pv 0) (aa af ac))) (pv 1))))
  (ae (aw (i:=5) ck.nd rfl (QY rfl) (pcF T.g__law_folded (j7 T) hr (aa (bj lY (pv 0) (bq af) bQ) (aa (av bW af (av cI (pv 4) (av bW (aC au rfl T.n_len Ri (aa (pv 2) ac)) af))) ac))))
  (ag (aA (pcF T.g__law_book (mw T) hr (aa (pv 5) (aa (pv 2) (aa (pv 3) (aa (pv 4) ac))))))))))),?_⟩
 try dsimp only [xl,wN]
 refine ⟨_,rfl,a,ns,1,rfl,hS,by decide,fun c1=>?_⟩;refine ⟨_,rfl,a,ns,0,rfl,hS,by decide,fun c0=>⟨c0,rfl,fun na ws H1 s1 Km xA=>?_⟩⟩;refine ⟨c1,na,ws,rfl,Km,xA,fun ia wU ins H2 s2 DK zc gi Mo=>?_⟩;have xx:=s1.trans s2;refine ⟨_,rfl,a,ns,2,rfl,xx.seq hS,by decide,fun c2=>?_⟩;refine ⟨_,rfl,a,ns,0,rfl,xx.seq hS,by decide,fun Qw=>⟨_,_,rfl,rfl,⟨by decide,by decide⟩,_,_,rfl,rfl,_,rfl,fun nb wo H3 s3 Ph Dn=>?_⟩⟩;refine ⟨c2,nb,wo,rfl,Ph,Dn,fun oa xc outs H4 s4 yZ B8 go Qx=>?_⟩;have Gz:=s3.trans s4;have DJ:=xx.trans Gz;have yO:ins.length=wU.length:=QP zc;refine ⟨_,rfl,a,ns,3,rfl,DJ.seq hS,by decide,fun c3=>?_⟩;have z0:=RT c3 (show most≠0 by omega);have z1:=RP c3 (show 0<most by omega);refine ⟨_,rfl,_,_,rfl,rfl,(by show 0<most;omega),_,_,rfl,rfl,?_⟩
 try dsimp only [aI]
 obtain ⟨S,GQ⟩:∃ S:Int,S=1+c3%most:=⟨_,rfl⟩;have S1:1<=S:=by omega
 have S2:S<=16:=by omega
 rw [<- GQ];refine ⟨_,rfl,4,rfl,a,_,rfl,DJ.seq hS,fun cl zh=>?_⟩;obtain ⟨cs,Am,JJ⟩:=qL ns (some 4) none
 try dsimp only
 rw [Am];have s5:L2.Same H4 (upd H4 cl (.lst (cs.map V.int))):=ad zh _;have e5:(upd H4 cl (.lst (cs.map V.int))) cl=some (.lst (cs.map V.int)):=ab;generalize (upd H4 cl (.lst (cs.map V.int)))=H5 at s5 e5 ⊢;have MB:=Gz.trans s5;have KL:=MB _ _ DK
 have KN:S * ((((wU.map V.ref).length:Nat):Int)+1)=((S.toNat * (ins.length+1):Nat):Int):=by
  rw [QA,<- yO];have:((S.toNat:Nat):Int)=S:=by omega
  simp [this]
 have Qy:S.toNat * (ins.length+1)<=100 * 5:=Nat.mul_le_mul (by omega) (by omega);refine ⟨_,rfl,_,rfl,ia,_,rfl,.inr (SqT.of KL),_,_,rfl,rfl,_,_,rfl,rfl,.inl ⟨by omega,by omega⟩,_,_,rfl,rfl,cl,cs,_,rfl,e5,by omega,by rw [KN];omega,by rw [KN];omega,fun r ds H6 s6 er Av=>?_⟩;rw [KN] at Av;have KO:=MB.trans s6;have CL:=s5.trans s6;refine ⟨_,rfl,_,rfl,_,rfl,_,rfl,r,ia,oa,ds,wU,xc,ins,outs,S,rfl,er,KO _ _ DK,zc.mono (Same.kt KO),gi,CL _ _ yZ,B8.mono (Same.kt CL),go,by omega,by omega,by omega,by omega,fun bk head rows H7 s7 Hr hok MC=>?_⟩;exact q bk ins outs S head rows H7 (xx.trans (KO.trans s7)) Hr gi go (by omega) hok MC
inductive gh (P:QR) (w:Q3) (K:QB) (vs:List V) (H:Hp) (Q:VK) (_E:XK):Prop
 | mk (b:QD) (ins outs:List (Rc×Int)) (head:Th) (rows:List (List Th)) (wZ:vs=[.ref b]) (w4:Bk H ins outs head rows b) (w8:FrB ins outs rows) (xj:∀ (fl:QD) (fs:List QD) (f':List (az×V)) (H':Hp),L2.Same H H'->H' fl=some (.lst (fs.map V.ref))->Rf (fun s a=>AtK K H' ((frS ins rows s).cut (Dk f' (s:Nat)) []) a) (Rl rows.length) fs->FrD ins rows (f'.map (·.1))->Q (.ref fl) H'):gh P w K vs H Q _E
def lO (P:QR) (w:Q3) (K:QB):Sp:=gh P w K
theorem mO:bh P w K mg base CX0 8 T.g_fronts_of.f T.g_fronts_of.d ["book"] (lO P w K):=by
 refine T.g_fronts_of.F.ok eM (fun vs H Q E h=>?_) (fun wQ A outer s0 H vs Q E hr h=>?_)
 · obtain ⟨b,ins,outs,head,rows,rfl,_⟩:=h;rfl
 obtain ⟨b,ins,outs,head,rows,rfl,hB,F,k⟩:=h
 refine ⟨_,(ae (cO (pcF T.g_found_fronts (je T) hr (aa (pv 0) ac)) (bp rfl (aq (am (i:=1) eM.nd rfl (QY rfl)) (aq (am (i:=2) eM.nd rfl (QY rfl)) aX))))
  (ag (aA (pv 1)))),?_⟩
 try dsimp only [xl,wN]
 refine ⟨_,rfl,b,ins,outs,head,rows,rfl,hB,F,fun r fl pt fs f' H1 s1 er yM zo Hw hD=>?_⟩;exact ⟨r,_,rfl,SqT.of er,rfl,_,_,rfl,_,_,rfl,rfl,_,rfl,k fl fs f' H1 s1 yM zo hD⟩
mutual
def Th.CR (N:Nat):Th->Prop
 | .knot _ ks=>CRs N ks
 | .call l _=>0<=l/\l<(N:Int)
def CRs (N:Nat):List Th->Prop
 | []=>True
 | t::ts=>Th.CR N t/\CRs N ts
end
theorem pq {N:Nat}:∀ {ts:List Th} {t:Th},CRs N ts->t∈ts->Th.CR N t
 | [],t,_,h=>(SM h).elim
 | u::ts,t,h,hm=>by
   rw [CRs] at h;rcases QZ.mp hm with rfl | hm
   · exact h.1
   · exact pq h.2 hm
theorem oN {N:Nat}:∀ {ts:List Th},(∀ t∈ts,Th.CR N t)->CRs N ts
 | [],_=>by rw [CRs];trivial
 | t::ts,h=>by rw [CRs];exact ⟨h t (Q6 ..),oN fun u hu=>h u (Q1 _ hu)⟩
theorem lu {N:Nat}:∀ (n:Nat) (t:Th),t.size<=n->t.noCall->Th.CR N t
 | 0,t,h,_=>by have:=t.size_pos;omega
 | n+1,.call a b,_,h=>by rw [Th.noCall] at h;exact h.elim
 | n+1,.knot m ks,hn,h=>by
   rw [Th.noCall] at h;rw [Th.size] at hn;rw [Th.CR];exact oN fun t ht=>lu n t (by have:=aK ht;omega) (bE h ht)
theorem pH {ks:List (Rc×Int)} {N:Nat} {C:Int}:∀ (n:Nat) (t:Th),t.size<=n->t.FitS ks (N:Nat) C->Th.CR N t
 | 0,t,h,_=>by have:=t.size_pos;omega
 | n+1,.call a b,_,h=>by rw [Th.FitS] at h;rw [Th.CR];exact ⟨h.1,h.2.1⟩
 | n+1,.knot m us,hn,h=>by
   rw [Th.FitS] at h;rw [Th.size] at hn;rw [Th.CR];exact oN fun t ht=>pH n t (by have:=aK ht;omega) (dY h.2 t ht)
def sX:Th->Nat
 | .knot _ _=>0
 | .call _ _=>1
theorem sS {t:Th} (h:t.noCall):sX t=0:=by
 cases t with
 | knot n ks=>rfl
 | call a b=>rw [Th.noCall] at h;exact h.elim
theorem pU (t:Th):sX t<=1:=by
 cases t with
 | knot n ks=>exact Q7 _
 | call a b=>exact QF _
theorem pf (F:Int->Int->Th):∀ (n:Nat) (t:Th),t.size<=n->t.noCall->t.fill F=t
 | 0,t,h,_=>by have:=t.size_pos;omega
 | n+1,.call a b,_,h=>by rw [Th.noCall] at h;exact h.elim
 | n+1,.knot m ks,hn,h=>by
   rw [Th.noCall] at h;rw [Th.size] at hn;rw [Th.fill,fK];congr 1;refine (Ul (g:=id) fun t ht=>pf F n t (by have:=aK ht;omega) (bE h ht)).trans (List.map_id _)
def ie (K:QB):Nat->Sp
 | 0=>fun _ _ _ _=>False
 | n+1=>fun vs H Q _=>∃ (x y fl:QD) (f t:Th) (fs:List QD) (N:Nat) (fr:Nat->Th),vs=[.ref x,.ref y,.ref fl]/\AtK K H f x/\AtK K H t y/\H fl=some (.lst (fs.map V.ref))/\Rf (fun s a=>AtK K H (fr s) a) (Rl N) fs/\(∀ s<N,(fr s).noCall)/\f.noCall/\f.size<=1000/\Th.CR N t/\2 * f.tall+sX t<=n+1/\f.lies (t.fill fun l _=>fr l.toNat)=true/\∀ H',L2.Same H H'->Q (.bl true) H'
set_option maxHeartbeats 1000000 in
theorem gN:∀ n:Nat,bh P w K mg base CX0 n T.g__law_lies.f T.g__law_lies.d ["front","thing","fronts"] (ie K n)
 | 0=>⟨fun _ _ _ _ h=>h.elim,fun _ _ _ _ _ _ _ _ _ _ _ _ _ h=>h.elim⟩
 | n+1=>by
   have ih:=gN n;refine T.g__law_lies.F.ok lU (fun vs H Q E h=>?_) (fun wQ A outer s H vs Q E hr h=>?_)
   · obtain ⟨x,y,fl,f,t,fs,N,fr,rfl,_⟩:=h;rfl
   obtain ⟨x,y,fl,f,t,fs,N,fr,rfl,hx,hy,yM,zo,CO,DE,hsz,HJ,hd,hl,k⟩:=h
   refine ⟨_,(ae (bS (aS cP (aG aL (pv 0) af (fun _ _=>rfl)) gD (aW _)) (ag (aA jw)) bH)
    (ae (bS (aS cP (aG aL (pv 1) af (fun _ _=>rfl)) gD (aW _)) (ag (aA (eR (ih) (hr.mono (QF _)) rfl T.g__law_lies.m T.g__law_lies.F.kp T.g__law_lies.b .nil jW (aa (pv 0) (aa (aG aP (pv 2) (aG aL (pv 1) af (fun _ _=>rfl)) (fun _ _=>rfl)) (aa (pv 2) ac)))))) bH)
    (ae (bS (PW.pt (nV (aS pK (aG aL (pv 1) af (fun _ _=>rfl)) (aG aL (pv 0) af (fun _ _=>rfl)) (aW _)) (l6 (aS pK (aC au rfl T.n_len Ri (aa (pv 1) ac)) (aC au rfl T.n_len Ri (aa (pv 0) ac)) (aW _))))) (ag (aA jw)) bH)
    (ag (aA (aC (ki rfl) rfl T.n_all VL (aa (cA (N:=[QK "k",QK "fronts",QK "front",QK "thing"]) (js:=[none,some 2,some 0,some 1]) (g:=(aI 0)) (tt:=bZ) (te:=(fF (ie K _) [] E0 (bn (tOp (se K) (bu 2) (bu 0)) (bn (tOp (se K) (bu 3) (bu 0)) (bn (bu 1) dP))))) rfl (cL rfl (by decide +kernel) (by decide +kernel) rfl rfl rfl) (iC rfl T.n_range (aa af (aa (aC au rfl T.n_len Ri (aa (pv 0) ac)) ac))) (fun _ _ _ _ _ _=>(am (i:=0) vg rfl (QY rfl))) (aR rfl) (fun _ _ _ _ _ _=>cg) (fun _ _ _ _ _ _=>(eR (ih) (hr.mono (QF _)) rfl T.g__law_lies.m T.g__law_lies.F.kp T.g__law_lies.b .nil jW (aa (aG aL (pv 2) (pv 0) (fun _ _=>rfl)) (aa (aG aL (pv 3) (pv 0) (fun _ _=>rfl)) (aa (pv 1) ac)))))) ac))))))),?_⟩
   try dsimp only [xl,wN]
   cases f with
   | call s k=>rw [Th.noCall] at DE;exact DE.elim
   | knot nm ks =>
   have Ap:=hx;rw [AtK] at Ap;obtain ⟨Pj,ka,ea,xN⟩:=Ap;have xT:ka.length=ks.length:=xN.length;have Fd:=bL ks;rw [Th.size] at hsz;rw [Th.tall] at hd;rw [Th.noCall] at DE;obtain ⟨m,rfl⟩:∃ m,n=m+1:=⟨n - 1,by omega⟩;refine ⟨_,rfl,x,_,0,.str nm,rfl,rfl,ea.sq,at0,rfl,_,rfl,?_⟩;refine cr (fun c1=>?_) (fun c1=>?_)
   · exact k H (.refl _)
   have LK:(Th.knot nm ks).isHole=false:=by
    rw [Th.isHole];refine decide_eq_false fun z=>c1 ?_;rw [z.1];exact decide_eq_true rfl
   cases t with
   | call l c =>
     rw [AtK] at hy;rw [Th.CR] at HJ;rw [Th.fill] at hl;refine hid fun ZZ kZ=>?_;obtain ⟨fa,xH⟩:∃ fa,fs[l.toNat]?=some fa:=⟨_,QC (by have:=QP zo;rw [Rm] at this;omega)⟩;have MD:l.toNat<N:=by omega
     obtain ⟨s',yw,yA⟩:=P2.get' zo xH;refine kZ ?_;rw [R6 MD] at yw;cases yw;have DR:=CO _ MD;refine ⟨_,rfl,y,_,0,.str q,rfl,rfl,hy.sq,at0,rfl,_,rfl,?_⟩;refine cr (fun c2=>?_) (fun c2=>absurd (decide_eq_true rfl) c2);refine ⟨_,rfl,_,rfl,_,rfl,y,_,1,.int l,rfl,rfl,hy.sq,at1,fl,_,l,.ref fa,rfl,rfl,SqL.of yM,at_nonneg HJ.1 (by rw [QO,xH];rfl),_,rfl,?_⟩;refine ⟨x,fa,fl,.knot nm ks,fr l.toNat,fs,N,fr,rfl,hx,yA,yM,zo,CO,by rw [Th.noCall];exact DE,by rw [Th.size];exact hsz,lu _ _ (QF _) DR,?_,by rw [pf _ _ _ (QF _) DR];exact hl,fun H' s'=>k H' s'⟩;rw [sS DR,Th.tall];have:sX (.call l c)=1:=rfl;omega
   | knot pm ps =>
     rw [AtK] at hy;refine hid fun ZZ kZ=>?_;obtain ⟨Pk,ua,eu,D'⟩:=hy;have Jn:ua.length=ps.length:=D'.length;rw [Th.CR] at HJ;rw [Th.fill,fK] at hl;obtain ⟨us,e,l1,b1⟩:=lies_of hl LK;refine kZ ?_;injection e with e1 e2;subst e1;subst e2;rw [QA] at l1;refine ⟨_,rfl,y,_,0,.str pm,rfl,rfl,eu.sq,at0,rfl,_,rfl,?_⟩;refine cr (fun c2=>absurd (V.str.inj (of_decide_eq_true c2)) Pk) (fun c2=>?_);refine ⟨_,rfl,y,_,0,.str pm,rfl,rfl,eu.sq,at0,_,rfl,x,_,0,.str pm,rfl,rfl,ea.sq,at0,rfl,_,rfl,?_⟩;refine cr (fun c3=>by rw [decide_eq_true rfl] at c3;cases c3) (fun c3=>?_);refine ⟨_,rfl,y,_,rfl,.inr eu.sq,_,rfl,x,_,rfl,.inr ea.sq,rfl,_,rfl,?_⟩;have hlen:(V.str pm::ua.map V.ref).length=(V.str pm::ka.map V.ref).length:=by rw [QM,QM,QA,QA];omega
     refine cr (fun c4=>by rw [hlen,decide_eq_true rfl] at c4;cases c4) (fun c4=>?_);refine ⟨_,rfl,x,_,rfl,.inr ea.sq,_,_,rfl,⟨by decide,by decide,by omega,by rw [QM,QA];omega⟩,?_⟩;intro D hD;have B2:(((V.str pm::ka.map V.ref).length:Int) - 1).toNat=ks.length:=by rw [QM,QA,xT];omega
     refine ⟨ks.length,fun j H3=>An3 (j<=ks.length) (L2.Same H H3) (H3 D=some (.lst ((SE j true).map V.bl))),⟨Q7 _,ad hD _,ab⟩,?_⟩;rintro j H3 ⟨hj,s3,eD⟩;by_cases zD:j=ks.length
     · left;refine ⟨(by show (((V.str pm::ka.map V.ref).length:Int) - 1).toNat<=j;rw [B2,zD];exact QF _),?_⟩;refine ⟨D,SE j true,rfl,SqL.of eD,?_⟩;rw [show (SE j true).all id=true from Tb.mpr fun b hb=>(Wc.mp hb).2];exact k H3 s3
     · right;have w6:j<ks.length:=by omega
       refine ⟨w6,(by show j<(((V.str pm::ka.map V.ref).length:Int) - 1).toNat;rw [B2];exact w6),?_⟩;rintro x' H4 ⟨e1,e2⟩;have yx:H4=H3:=e1;subst yx;refine hid fun ZZ kZ=>?_;obtain ⟨f,hf⟩:∃ f,ks[j]?=some f:=⟨_,QC w6⟩;obtain ⟨g,hg⟩:∃ g,ps[j]?=some g:=⟨_,QC (by omega)⟩;obtain ⟨fa,xH,KP⟩:=xN.at hf;obtain ⟨ga,Pl,Pm⟩:=D'.at hg;refine kZ ?_;have DS:f∈ks:=QH hf;have h1:=b9 DS;have h2:=aK DS;have h3:=pU g;have yv:x'=V.int (1+(j:Int)):=e2;subst yv;refine ⟨_,rfl,_,rfl,x,_,_,.ref fa,rfl,rfl,(ea.mono (Same.kt s3)).sq,at_nonneg (by omega) (by rw [show (1+(j:Int)).toNat=j+1 by omega,R8,QO,xH];rfl),?_⟩;refine ⟨_,rfl,_,rfl,y,_,_,.ref ga,rfl,rfl,(eu.mono (Same.kt s3)).sq,at_nonneg (by omega) (by rw [show (1+(j:Int)).toNat=j+1 by omega,R8,QO,Pl];rfl),_,rfl,?_⟩;refine ⟨fa,ga,fl,f,g,fs,N,fr,rfl,KP.mono (Same.kt s3),Pm.mono (Same.kt s3),s3 _ _ yM,P2.mp (fun _ _ h=>h.mono (Same.kt s3)) zo,CO,bE DE DS,by omega,pq HJ (QH hg),by omega,dO b1 j f _ hf (by rw [QO,hg];rfl),fun H5 s5=>?_⟩;have GB:=s5 _ _ eD;refine ⟨_,GB,aD (by rw [QA,TZ];omega),w6,ao (s3.trans s5) hD,?_⟩;rw [ab,VR,QS];rfl
mutual
def Th.Fo (outs:List (Rc×Int)):Th->Prop
 | .knot n ks=>(n=star/\ks=[])∨((n,(ks.length:Int))∈outs/\n≠star/\Fos outs ks)
 | .call _ _=>False
def Fos (outs:List (Rc×Int)):List Th->Prop
 | []=>True
 | t::ts=>Th.Fo outs t/\Fos outs ts
end
theorem g9 {outs:List (Rc×Int)}:∀ {ts:List Th} {t:Th},Fos outs ts->t∈ts->Th.Fo outs t
 | [],t,_,h=>(SM h).elim
 | u::ts,t,h,hm=>by
   rw [Fos] at h;rcases QZ.mp hm with rfl | hm
   · exact h.1
   · exact g9 h.2 hm
theorem lR {outs:List (Rc×Int)}:∀ {ts:List Th},(∀ t∈ts,Th.Fo outs t)->Fos outs ts
 | [],_=>by rw [Fos];trivial
 | t::ts,h=>by rw [Fos];exact ⟨h t (Q6 ..),lR fun u hu=>h u (Q1 _ hu)⟩
def cG (K:QB):Nat->Sp
 | 0=>fun _ _ _ _=>False
 | n+1=>fun vs H Q _=>∃ (oa x:QD) (xc:List QD) (outs:List (Rc×Int)) (f:Th),vs=[.ref oa,.ref x]/\H oa=some (.tup (xc.map V.ref))/\KsAt H outs xc/\AtK K H f x/\Th.Fo outs f/\f.size<=1000/\f.tall<=n+1/\∀ H',L2.Same H H'->Q (.bl true) H'
set_option maxHeartbeats 1000000 in
theorem dN:∀ n:Nat,bh P w K mg base CX0 n T.g__law_is_front.f T.g__law_is_front.d ["outs","front"] (cG K n)
 | 0=>⟨fun _ _ _ _ h=>h.elim,fun _ _ _ _ _ _ _ _ _ _ _ _ _ h=>h.elim⟩
 | n+1=>by
   have ih:=dN n;refine T.g__law_is_front.F.ok iP (fun vs H Q E h=>?_) (fun wQ A outer s H vs Q E hr h=>?_)
   · obtain ⟨oa,x,xc,outs,f,rfl,_⟩:=h;rfl
   obtain ⟨oa,x,xc,outs,f,rfl,eo,yS,hx,hF,hsz,xw,k⟩:=h
   refine ⟨_,(ae (bS (PW.pt (nV (mE (bA (aC (qp (T:="tuple")) rfl T.n_isinstance U3 (aa (pv 1) (aa (mC (v:=.ty "tuple") rfl T.n_tuple SU rfl) ac))) (fun _=>rfl))) (nV (aS cP (aC au rfl T.n_len Ri (aa (pv 1) ac)) af (aW _)) (l6 (mE (bA (aC (ip (T:="str")) rfl T.n_isinstance U3 (aa (aG aL (pv 1) af (fun _ _=>rfl)) (aa (mC (v:=.ty "str") rfl T.n_str PyProof.Rows.boot_str rfl) ac))) (fun _=>rfl))))))) (ag (aA jw)) bH)
    (ae (bS (aS cP (aG aL (pv 1) af (fun _ _=>rfl)) gD (aW _)) (ag (aA (g7 cP (aC au rfl T.n_len Ri (aa (pv 1) ac)) af (aW _)))) bH)
    (ae (bS (aS (qD (B:=50) (sP hr)) (aH (aa (aG aL (pv 1) af (fun _ _=>rfl)) (aa (av j5 (aC au rfl T.n_len Ri (aa (pv 1) ac)) af) ac))) (pv 0) (by with_unfolding_all rfl)) (ag (aA jw)) bH)
    (ag (aA (aC (ki rfl) rfl T.n_all VL (aa (cA (N:=[QK "part",QK "outs"]) (js:=[none,some 0]) (g:=(aI 0)) (tt:=bZ) (te:=(fF (cG K _) [] E0 (bn (bu 1) (bn (bu 0) dP)))) rfl (cL rfl (by decide +kernel) (by decide +kernel) rfl rfl rfl) (kB (bj eE (pv 1) (bq af) bQ)) (fun _ _ _ _ _ _=>(am (i:=0) vV rfl (QY rfl))) (aR rfl) (fun _ _ _ _ _ _=>cg) (fun _ _ _ _ _ _=>(eR (ih) (hr.mono (QF _)) rfl T.g__law_is_front.m T.g__law_is_front.F.kp T.g__law_is_front.b .nil jW (aa (pv 1) (aa (pv 0) ac))))) ac))))))),?_⟩
   try dsimp only [xl,wN]
   cases f with
   | call s k=>rw [Th.Fo] at hF;exact hF.elim
   | knot nm ks =>
   rw [AtK] at hx;refine hid fun ZZ kZ=>?_;obtain ⟨Pj,ka,ea,xN⟩:=hx;refine kZ ?_;have xT:ka.length=ks.length:=xN.length;have Fd:=bL ks;rw [Th.size] at hsz;rw [Th.tall] at xw;rw [Th.Fo] at hF;have hle:outs.length=xc.length:=QP yS;have el:(((V.str nm::ka.map V.ref).length:Nat):Int)=(ks.length:Int)+1:=by rw [QM,QA,xT];omega
   refine ⟨_,rfl,.inr ⟨_,_,_,rfl,ea.sq,uT,_,rfl,?_⟩⟩;refine kS ?_;refine ⟨_,rfl,x,_,rfl,.inr ea.sq,rfl,_,rfl,?_⟩;rw [el,decide_eq_false (show V.int ((ks.length:Int)+1)≠V.int 0 from fun z=>by have:=V.int.inj z;omega)];refine kS ?_;refine ⟨_,rfl,x,_,0,.str nm,rfl,rfl,ea.sq,at0,_,_,_,rfl,.str nm,uR,_,rfl,?_⟩;refine kS ?_;refine ⟨_,rfl,x,_,0,.str nm,rfl,rfl,ea.sq,at0,rfl,_,rfl,?_⟩;refine cr (fun c1=>?_) (fun c1=>?_)
   · have xO:nm=star:=V.str.inj (of_decide_eq_true c1);rcases hF with ⟨_,rfl⟩ | ⟨_,h,_⟩
     · refine ⟨_,rfl,x,_,rfl,.inr ea.sq,rfl,?_⟩;rw [el];exact k H (.refl _)
     · exact absurd xO h
   rcases hF with ⟨h,_⟩ | ⟨yl,Ce,yy⟩
   · exact absurd (by rw [h];exact decide_eq_true rfl) c1
   refine ⟨_,rfl,x,_,0,.str nm,rfl,rfl,ea.sq,at0,_,rfl,x,_,rfl,.inr ea.sq,_,_,rfl,rfl,ak (by show 2<=1000000;decide),fun p hp=>?_⟩;rw [el];have Jz:(ks.length:Int)+1 - 1=(ks.length:Int):=by omega
   dsimp only;rw [Jz];have s1:L2.Same H (upd H p (.tup [.str nm,.int (ks.length:Int)])):=ad hp _;have e1:(upd H p (.tup [.str nm,.int (ks.length:Int)])) p=some (.tup [.str nm,.int (ks.length:Int)]):=ab;generalize (upd H p (.tup [.str nm,.int (ks.length:Int)]))=H1 at s1 e1 ⊢;have Dg:=mP outs;refine ⟨_,rfl,oa,_,kDv (nm,(ks.length:Int)),outs.map kDv,rfl,SqT.of (s1 _ _ eo),?_,uh (yS.mono (Same.kt s1)),by omega,fun r Aa=>⟨_,rfl,?_⟩⟩
   · rw [kDv,DAt];exact ⟨_,_,rfl,e1,.cons (by rw [DAt]) (.cons (by rw [DAt]) .nil)⟩
   have Pn:r=false:=by
    cases r with
    | false=>rfl
    | true=>exact absurd (List.mem_map_of_mem yl) (Aa.mp rfl)
   subst Pn;refine kS ?_;have Kv:=ea.mono (Same.kt s1);refine ⟨_,rfl,1,rfl,x,_,rfl,Kv.sq,?_,fun p3 Kb=>?_⟩
   · rintro ⟨z,_⟩;rw [QM,show (1:Int)=((1:Nat):Int) by rfl,HT.sIx_nat] at z;omega
   dsimp only;rw [d4];have s2:L2.Same H1 (upd H1 p3 (.tup (ka.map V.ref))):=ad Kb _;have e2:(upd H1 p3 (.tup (ka.map V.ref))) p3=some (.tup (ka.map V.ref)):=ab;generalize (upd H1 p3 (.tup (ka.map V.ref)))=H2 at s2 e2 ⊢;have zm:=s1.trans s2;refine ⟨p3,rfl,⟨_,SqT.of e2⟩,?_⟩;intro D hD;refine ⟨ks.length,fun j H3=>An3 (j<=ks.length) (L2.Same H2 H3) (H3 D=some (.lst ((SE j true).map V.bl))),⟨Q7 _,ad hD _,ab⟩,?_⟩;rintro j H3 ⟨hj,s3,eD⟩;by_cases zD:j=ks.length
   · left;refine ⟨⟨_,SqT.of (s3 _ _ e2),by rw [QA,xT,zD];exact QF _⟩,?_⟩;refine ⟨D,SE j true,rfl,SqL.of eD,?_⟩;rw [show (SE j true).all id=true from Tb.mpr fun b hb=>(Wc.mp hb).2];exact k H3 (zm.trans s3)
   · right;have w6:j<ks.length:=by omega
     refine hid fun ZZ kZ=>?_;obtain ⟨f,hf⟩:∃ f,ks[j]?=some f:=⟨_,QC w6⟩;obtain ⟨fa,xH,KP⟩:=xN.at hf;refine kZ ?_;have DS:f∈ks:=QH hf;have h1:=b9 DS;have h2:=aK DS;have h3:=f.tall_eq;refine ⟨w6,⟨_,.ref fa,SqT.of (s3 _ _ e2),by rw [QO,xH];rfl⟩,?_⟩;rintro x' H4 ⟨yx,hv⟩;have DT:H4=H3:=yx;subst DT;have xG:=hv _ (SqT.of (s3 _ _ e2));rw [QO,xH] at xG;cases xG;have Dq:=zm.trans s3;obtain ⟨m,rfl⟩:∃ m,n=m+1:=⟨n - 1,by omega⟩;refine ⟨_,rfl,_,rfl,oa,fa,xc,outs,f,rfl,Dq _ _ eo,yS.mono (Same.kt Dq),KP.mono (Same.kt Dq),g9 yy DS,by omega,by omega,fun H5 s5=>?_⟩;have GB:=s5 _ _ eD;refine ⟨_,GB,aD (by rw [QA,TZ];omega),w6,ao (s3.trans s5) hD,?_⟩;rw [ab,VR,QS];rfl
def FrL (K:QB) (H:Hp) (N:Nat) (fr:Nat->Th) (fl:QD) (fs:List QD):Prop:=H fl=some (.lst (fs.map V.ref))/\Rf (fun s a=>AtK K H (fr s) a) (Rl N) fs
inductive cu (K:QB) (vs:List V) (H:Hp) (Q:VK) (_E:XK):Prop
 | mk (b fl:QD) (ins outs:List (Rc×Int)) (head:Th) (rows:List (List Th)) (fs:List QD) (fr:Nat->Th) (wZ:vs=[.ref b,.ref fl]) (w4:Bk H ins outs head rows b) (w8:FrL K H rows.length fr fl fs) (xj:(∀ s<rows.length,Th.Fo outs (fr s)/\(fr s).size<=200/\(fr s).tall<=9)) (xB:rows.length<=20) (yu:∀ H',L2.Same H H'->Q (.bl true) H'):cu K vs H Q _E
def fc (K:QB):Sp:=cu K
inductive eY (K:QB) (vs:List V) (H:Hp) (Q:VK) (_E:XK):Prop
 | mk (b fl:QD) (ins outs:List (Rc×Int)) (head:Th) (rows:List (List Th)) (fs:List QD) (fr:Nat->Th) (wZ:vs=[.ref b,.ref fl]) (w4:Bk H ins outs head rows b) (w8:FrL K H rows.length fr fl fs) (xj:(∀ s<rows.length,(fr s).noCall/\(fr s).size<=200/\(fr s).tall<=9)) (xB:rows.length<=20) (yu:(∀ row∈rows,row.length<=1000)) (AM:(∀ (s:Nat) (row:List Th),rows[s]?=some row->∀ p∈row,Th.CR rows.length p/\(fr s).lies (p.fill fun l _=>fr l.toNat)=true)) (Bt:∀ H',L2.Same H H'->Q (.bl true) H'):eY K vs H Q _E
def kA (K:QB):Sp:=eY K
set_option maxHeartbeats 1000000 in
theorem fb:bh P w K mg base CX0 11 T.g__law_fronts_formed.f T.g__law_fronts_formed.d ["book","fronts"] (fc K):=by
 refine T.g__law_fronts_formed.F.ok fe (fun vs H Q E h=>?_) (fun wQ A outer s H vs Q E hr h=>?_)
 · obtain ⟨b,fl,ins,outs,head,rows,fs,fr,rfl,_⟩:=h;rfl
 obtain ⟨b,fl,ins,outs,head,rows,fs,fr,rfl,hB,⟨yM,zo⟩,DU,hle,k⟩:=h;refine hid fun ZZ kZ=>?_;obtain ⟨ia,oa,ha,ra,wU,xc,xv,hB⟩:=hB;refine kZ ?_
 refine ⟨_,(ae (bS (PW.pt (nV (mE (bA (aC (ip (T:="list")) rfl T.n_isinstance U3 (aa (pv 1) (aa (mC (v:=.ty "list") rfl T.n_list PyProof.Rows.boot_list rfl) ac))) (fun _=>rfl))) (l6 (aS pK (aC au rfl T.n_len Ri (aa (pv 1) ac)) (aC au rfl T.n_len Ri (aa (aG aL (pv 0) af (fun _ _=>rfl)) ac)) (aW _))))) (ag (aA jw)) bH)
  (ag (aA (aC (ki rfl) rfl T.n_all VL (aa (cA (N:=[QK "front",QK "book"]) (js:=[none,some 0]) (g:=(aI 0)) (tt:=bZ) (te:=(fF (cG K _) [] E0 (bn (tOp (se K) (bu 1) (tC (.int 1))) (bn (bu 0) dP)))) rfl (cL rfl (by decide +kernel) (by decide +kernel) rfl rfl rfl) (cy (pv 1)) (fun _ _ _ _ _ _=>(am (i:=0) vh rfl (QY rfl))) (aR rfl) (fun _ _ _ _ _ _=>cg) (fun _ _ _ _ _ _=>(pcF T.g__law_is_front (dN T 10) hr (aa (aG aL (pv 1) af (fun _ _=>rfl)) (aa (pv 0) ac))))) ac))))),?_⟩
 try dsimp only [xl,wN]
 have Be:rows.length=xv.length:=QP hB.rw;have CC:(Rl rows.length).length=fs.length:=QP zo;rw [Rm] at CC;refine ⟨_,rfl,_,_,_,rfl,.lst yM,uQ,_,rfl,?_⟩;refine kS ?_;refine ⟨_,rfl,fl,_,rfl,.inl (SqL.of yM),_,rfl,b,_,3,.ref ra,rfl,rfl,SqT.of hB.bk,at_nonneg (by decide) rfl,ra,_,rfl,.inr (SqT.of hB.rl),rfl,_,rfl,?_⟩;have hlen:(fs.map V.ref).length=(xv.map V.ref).length:=by rw [QA,QA];omega
 refine cr (fun c4=>by rw [hlen,decide_eq_true rfl] at c4;cases c4) (fun c4=>?_);refine ⟨_,rfl,fl,rfl,⟨_,SqL.of yM⟩,fun D hD=>?_⟩;refine ⟨rows.length,fun j H3=>An3 (j<=rows.length) (L2.Same H H3) (H3 D=some (.lst ((SE j true).map V.bl))),⟨Q7 _,ad hD _,ab⟩,?_⟩;rintro j H3 ⟨hj,s3,eD⟩;by_cases zD:j=rows.length
 · left;refine ⟨⟨_,SqL.of (s3 _ _ yM),by rw [QA];omega⟩,?_⟩;refine ⟨D,SE j true,rfl,SqL.of eD,?_⟩;rw [show (SE j true).all id=true from Tb.mpr fun b hb=>(Wc.mp hb).2];exact k H3 s3
 · right;have w6:j<rows.length:=by omega
   refine hid fun ZZ kZ=>?_;obtain ⟨fa,xH⟩:∃ fa,fs[j]?=some fa:=⟨_,QC (by omega)⟩;obtain ⟨s',yw,yA⟩:=P2.get' zo xH;rw [R6 w6] at yw;cases yw;obtain ⟨z1,z2,z3⟩:=DU j w6;refine kZ ?_;refine ⟨w6,⟨_,.ref fa,SqL.of (s3 _ _ yM),by rw [QO,xH];rfl⟩,?_⟩;rintro x' H4 ⟨yx,hv⟩;have DT:H4=H3:=yx;subst DT;have xG:=hv _ (SqL.of (s3 _ _ yM));rw [QO,xH] at xG;cases xG;refine ⟨_,rfl,b,_,1,.ref oa,rfl,rfl,SqT.of (s3 _ _ hB.bk),at1,_,rfl,oa,fa,xc,outs,fr j,rfl,s3 _ _ hB.outE,hB.outK.mono (Same.kt s3),yA.mono (Same.kt s3),z1,by omega,(by show _<=9+1;omega),fun H5 s5=>?_⟩;have GB:=s5 _ _ eD;refine ⟨_,GB,aD (by rw [QA,TZ];omega),w6,ao (s3.trans s5) hD,?_⟩;rw [ab,VR,QS];rfl
set_option maxHeartbeats 1000000 in
theorem kE:bh P w K mg base CX0 21 T.g__law_closed.f T.g__law_closed.d ["book","fronts"] (kA K):=by
 refine T.g__law_closed.F.ok dk (fun vs H Q E h=>?_) (fun wQ A outer s H vs Q E hr h=>?_)
 · obtain ⟨b,fl,ins,outs,head,rows,fs,fr,rfl,_⟩:=h;rfl
 obtain ⟨b,fl,ins,outs,head,rows,fs,fr,rfl,hB,⟨yM,zo⟩,DU,hle,DL,KQ,k⟩:=h;refine hid fun ZZ kZ=>?_;obtain ⟨ia,oa,ha,ra,wU,xc,xv,hB⟩:=hB;refine kZ ?_
 refine ⟨_,(ae (bw Rg rfl (bx rfl T.n_range (aa (aC au rfl T.n_len Ri (aa (pv 1) ac)) ac)) (am (i:=2) dk.nd rfl (QY rfl)) (ag (bw Rg rfl (kB (aG aL (aG aL (pv 0) af (fun _ _=>rfl)) (pv 2) (fun _ _=>rfl))) (am (i:=3) dk.nd rfl (QY rfl)) (ag (bS (mE (bA (pcF T.g__law_lies (gN T 20) hr (aa (aG aP (pv 1) (pv 2) (fun _ _=>rfl)) (aa (pv 3) (aa (pv 1) ac)))) (fun _=>rfl))) (ag (aA jw)) bH)))))
  (ag (aA jw))),?_⟩
 try dsimp only [xl,wN]
 have Be:rows.length=xv.length:=QP hB.rw;have CC:(Rl rows.length).length=fs.length:=QP zo;rw [Rm] at CC;refine ⟨_,rfl,fl,_,rfl,.inl (SqL.of yM),_,rfl,by omega,by rw [QA];omega,?_⟩;refine bU (n:=(((fs.map V.ref).length:Nat):Int).toNat) (fun i σ H3=>Ex2 fun (c2 c3:Option V)=>An2 (σ=[some (.ref b),some (.ref fl),c2,c3]) (L2.Same H H3)) ⟨none,none,rfl,.refl _⟩ ?_ ?_
 · rintro i σ H3 hi ⟨c2,c3,rfl,s3⟩
   have xJ:i<rows.length:=by
    have h1:i<(((fs.map V.ref).length:Nat):Int).toNat:=hi;rw [QA] at h1;omega
   refine hid fun ZZ kZ=>?_;obtain ⟨row,wK⟩:∃ row,rows[i]?=some row:=⟨_,QC xJ⟩;obtain ⟨yh,ze,Dr,Bx,zf⟩:=P2.get hB.rw wK;obtain ⟨fa,xH⟩:∃ fa,fs[i]?=some fa:=⟨_,QC (by omega)⟩;obtain ⟨s',yw,yA⟩:=P2.get' zo xH;rw [R6 xJ] at yw;cases yw;obtain ⟨z1,z2,z3⟩:=DU i xJ;refine kZ ?_;have xW:=zf.length;refine ⟨_,rfl,b,_,3,.ref ra,rfl,rfl,SqT.of (s3 _ _ hB.bk),at_nonneg (by decide) rfl,_,rfl,ra,_,_,.ref yh,rfl,rfl,SqT.of (s3 _ _ hB.rl),at_nonneg (by omega) (by rw [show (0+(i:Int)).toNat=i by omega,QO,ze];rfl),yh,rfl,⟨_,SqT.of (s3 _ _ Bx)⟩,?_⟩;refine tm (K:=K) (a:=yh) (xs:=Dr.map V.ref) (fun j σ H4=>Ex1 fun (c3:Option V)=>An2 (σ=[some (.ref b),some (.ref fl),some (.int (0+(i:Int))),c3]) (L2.Same H H4)) ⟨_,rfl,s3⟩ (fun j σ H4 _ ⟨_,_,s4⟩=>SqT.of (s4 _ _ Bx)) ?_ ?_
   · rintro j y σ H4 hy ⟨c3,rfl,s4⟩;refine hid fun ZZ kZ=>?_;obtain ⟨pa,rfl,Bu⟩:=bc hy;obtain ⟨p,hp,Gw⟩:=zf.get Bu;obtain ⟨y1,y2⟩:=KQ i row wK p (QH hp);refine kZ ?_;have h3:=pU p;refine ⟨_,rfl,_,rfl,fl,_,_,.ref fa,rfl,rfl,SqL.of (s4 _ _ yM),at_nonneg (by omega) (by rw [show (0+(i:Int)).toNat=i by omega,QO,xH];rfl),_,rfl,_,rfl,?_⟩;refine ⟨fa,pa,fl,fr i,p,fs,rows.length,fr,rfl,yA.mono (Same.kt s4),(Gw.mono (Same.kt s4)).k,s4 _ _ yM,P2.mp (fun _ _ h=>h.mono (Same.kt s4)) zo,fun s hs=>(DU s hs).1,z1,by omega,y1,(by show _<=19+1;omega),y2,fun H5 s5=>⟨_,rfl,?_⟩⟩;exact kS ⟨_,rfl,s4.trans s5⟩
   · rintro σ H4 ⟨c3,rfl,s4⟩;exact ⟨_,_,rfl,s4⟩
 · rintro σ H3 ⟨c2,c3,rfl,s3⟩;exact k H3 s3
theorem pM (outs:List (Rc×Int)):Th.Fo outs hole:=by rw [hole,Th.Fo];exact .inl ⟨rfl,rfl⟩
theorem t7 {outs:List (Rc×Int)}:∀ (n:Nat) (t:Th),t.size<=n->Th.Fo outs t->t.noCall
 | 0,t,h,_=>by have:=t.size_pos;omega
 | n+1,.call a b,_,h=>by rw [Th.Fo] at h;exact h.elim
 | n+1,.knot m ks,hn,h=>by
   rw [Th.Fo] at h;rw [Th.size] at hn;rw [Th.noCall];rcases h with ⟨_,rfl⟩ | ⟨_,_,h⟩
   · rw [bK];trivial
   · exact jK fun t ht=>t7 n t (by have:=aK ht;omega) (g9 h ht)
theorem sI {outs:List (Rc×Int)} (g:cZ outs) {S:Int}:∀ (n:Nat) (t:Th),t.size<=n->t.FitS outs S 0->Th.Fo outs t
 | 0,t,h,_=>by have:=t.size_pos;omega
 | n+1,.call a b,_,h=>by rw [Th.FitS] at h;omega
 | n+1,.knot m ks,hn,h=>by
   rw [Th.FitS] at h;rw [Th.size] at hn;rw [Th.Fo];exact .inr ⟨h.1,rH (g.low _ h.1).1,lR fun t ht=>sI g n t (by have:=aK ht;omega) (dY h.2 t ht)⟩
theorem rj {outs:List (Rc×Int)}:∀ (n:Nat) (l r:Th),l.size<=n->Th.Fo outs l->Th.Fo outs (l.com r)
 | 0,l,_,h,_=>by have:=l.size_pos;omega
 | n+1,l,r,hn,h=>by
   rw [iQ];by_cases hs:aF l r=true
   · rw [if_pos hs];obtain ⟨m,ks,us,rfl,rfl,hl,hh⟩:=bG hs;rw [Th.Fo] at h;rw [Th.size] at hn;rcases h with ⟨h1,h2⟩ | ⟨h1,h2,h3⟩
     · rw [Th.isHole,decide_eq_true ⟨h1,h2⟩] at hh;cases hh
     · show Th.Fo outs (.knot m ((ks.zip us).map fun p=>p.1.com p.2));rw [Th.Fo];refine .inr ⟨by rw [QA,UC,<- hl,Wo];exact h1,h2,lR fun t ht=>?_⟩;obtain ⟨p,hp,rfl⟩:=RN.mp ht;have hm:=(TR hp).1;exact rj n p.1 p.2 (by have:=aK hm;omega) (g9 h3 hm)
   · rw [if_neg hs];exact pM _
theorem rX {outs:List (Rc×Int)} (mk:Int->Th):∀ (row:List Th) (m:Th),Th.Fo outs m->Th.Fo outs (frF mk m row)
 | [],m,h=>h
 | p::row,m,h=>rX mk row _ (rj _ m _ (QF _) h)
theorem rG {outs:List (Rc×Int)} (D:List Int->Bool):∀ (n:Nat) (t:Th) (pre:List Int),t.size<=n->Th.Fo outs t->Th.Fo outs (t.cut D pre)
 | 0,t,_,h,_=>by have:=t.size_pos;omega
 | n+1,.call a b,_,_,h=>by rw [Th.Fo] at h;exact h.elim
 | n+1,.knot m ks,pre,hn,h=>by
   rw [Th.cut];by_cases hc:(Th.knot m ks).isHole=true∨D pre=true
   · rw [if_pos hc];exact pM _
   · rw [if_neg hc];rw [Th.Fo] at h;rw [Th.size] at hn;rcases h with ⟨h1,h2⟩ | ⟨h1,h2,h3⟩
     · exact absurd (.inl (by rw [Th.isHole];exact decide_eq_true ⟨h1,h2⟩)) hc
     · rw [Th.Fo];refine .inr ⟨by rw [cK];exact h1,h2,lR fun t ht=>?_⟩;obtain ⟨j,hj⟩:=Rb.mp ht;rw [gP,RJ] at hj;obtain ⟨u,hu,rfl⟩:=hj;have hm:=QH hu;exact rG D n u _ (by have:=aK hm;omega) (g9 h3 hm)
theorem oI {f':List (az×V)} {s:Int} {pl:List Int}:Dk f' s pl=true↔nk s pl∈f'.map (·.1):=by
 unfold Dk;constructor
 · intro h;obtain ⟨v,hv⟩:=Uv.mp h;exact RN.mpr ⟨_,dR hv,rfl⟩
 · intro h;cases e:aT f' (nk s pl) with
   | none=>exact absurd h (eB e)
   | some v=>rfl
theorem my {ins outs:List (Rc×Int)} {rows:List (List Th)} (F:FrB ins outs rows) {f':List (az×V)} (hD:FrD ins rows (f'.map (·.1))) {s:Nat} {row:List Th} (wK:rows[s]?=some row) {p:Th} (hp:p∈row) :
 ((frS ins rows s).cut (Dk f' (s:Nat)) []).lies (p.fill fun l _=>(frS ins rows l.toNat).cut (Dk f' ((l.toNat:Nat):Int)) [])=true:=by
 have hs:=(QL.mp wK).1;obtain ⟨j,hj⟩:=Rb.mp hp;obtain ⟨Cz,zB⟩:=F.fit.row row (QH wK);obtain ⟨k0,zk⟩:∃ k0,ins[j]?=some k0:=⟨_,QC (by have:=(QL.mp hj).1;omega)⟩;have Po:=zB j p k0 hj zk;obtain ⟨z1,z2,z3⟩:=kw F hs;have ME:=iM _ _ (QF _) z3
 have CN:∀ (m:Nat),m<rows.length->(frS ins rows m).lies (mkF ins rows (m:Nat))=true/\∀ zd,rows[m]?=some zd->∀ p'∈zd,(frS ins rows m).lies (p'.fill fun l _=>mkF ins rows l)=true:=fun m hm=>by
  obtain ⟨y1,y2,y3⟩:=kw F hm;have h0:=iM _ _ (QF _) y3;obtain ⟨g1,g2⟩:=nK (frS ins rows m) ((rows[m]?).getD []) (mkF ins rows (m:Nat)) h0;refine ⟨g1,fun zd Aa p' yc=>g2 p' (by rw [Aa];exact yc)⟩
 have:=km (f0:=fun l=>frS ins rows l.toNat) (D:=fun l=>Dk f' ((l.toNat:Nat):Int)) (mk:=mkF ins rows) (s:=(s:Nat)) (pat:=p) (fun c hc=>?_) _ (frS ins rows s) p [] (QF _) (fun x hx=>hx) (fun c hc=>hc) z3 ((CN s hs).2 row wK p hp)
 · exact this
 · obtain ⟨c0,c1,_⟩:=iL p [] Po c hc;have KR:c.2.1.toNat<rows.length:=by omega
   have CP:((c.2.1.toNat:Nat):Int)=c.2.1:=TB c0;have hl:=(CN _ KR).1;rw [CP] at hl;refine ⟨hl,(kw F KR).2.2,fun r u hu hh=>oI.mpr (hD.hol _ KR (r,u) hu hh),fun r u hd hu=>?_⟩;have yo:(c.1++r,u)∈(frS ins rows s).pl []:=hu;obtain ⟨v,Pp,Kw⟩:=mS _ (u:=u) (QF _) yo;have hk:=oI.mp hd;rw [CP] at hk;exact oI.mpr (hD.cl s row wK p hp c hc v Pp (r,u) Kw hk)
inductive qb (K:QB) (vs:List V) (H:Hp) (Q:VK) (_E:XK):Prop
 | mk (a:QD) (ns:List Int) (wZ:vs=[.ref a]) (w4:SqL K H a (ns.map V.int)) (w8:ns.length<=63) (xj:∀ H',Q (.bl true) H'):qb K vs H Q _E
def mG (K:QB):Sp:=qb K
theorem uI:bh P w K mg base CX0 22 T.g_law.f T.g_law.d ["script"] (mG K):=by
 refine T.g_law.F.ok oK (fun vs H Q E h=>?_) (fun wQ A outer s H vs Q E hr h=>?_)
 · obtain ⟨a,ns,rfl,_⟩:=h;rfl
 obtain ⟨a,ns,rfl,hS,Ce,k⟩:=h
 refine ⟨_,(ae (aw (i:=1) oK.nd rfl (QY rfl) (pcF T.g__law_drawn (kW T) hr (aa (pv 0) (aa af ac))))
  (ae (aw (i:=2) oK.nd rfl (QY rfl) (pcF T.g_fronts_of (mO T) hr (aa (pv 1) ac)))
  (ag (aA (mn (pcF T.g__law_fronts_formed (fb T) hr (aa (pv 1) (aa (pv 2) ac))) (oG (pcF T.g__law_closed (kE T) hr (aa (pv 1) (aa (pv 2) ac))))))))),?_⟩
 try dsimp only [xl,wN]
 refine ⟨_,rfl,a,ns,4,rfl,hS,Ce,by decide,by decide,fun b ins outs S head rows H1 s1 hb gi go Pq hok MC=>?_⟩;have hlen:=hok.len
 have DV:∀ row∈rows,∀ p∈row,∃ k:Rc×Int,p.FitS outs S k.2/\p.size<=9:=fun row wK p hp=>by
  obtain ⟨j,hj⟩:=Rb.mp hp;have Cz:=hok.row row wK;obtain ⟨k0,zk⟩:∃ k0,ins[j]?=some k0:=⟨_,QC (by have:=(QL.mp hj).1;omega)⟩;exact ⟨k0,hok.fit row wK j p k0 hj zk⟩
 have F:FrB ins outs rows:=⟨gi,⟨rfl,fun row wK=>⟨hok.row row wK,fun j p k0 hp hk=>by rw [hlen];exact (hok.fit row wK j p k0 hp hk).1⟩⟩,by omega,fun row wK p hp=>by
  obtain ⟨_,_,h⟩:=DV row wK p hp;have:=cV p;exact ⟨by omega,by omega⟩⟩
 refine ⟨_,rfl,b,ins,outs,head,rows,rfl,hb,F,fun fl fs f' H2 s2 yM zo hD=>?_⟩
 have DU:∀ s<rows.length,Th.Fo outs ((frS ins rows s).cut (Dk f' (s:Nat)) [])/\((frS ins rows s).cut (Dk f' (s:Nat)) []).size<=9:=fun s hs=>by
  obtain ⟨row,p,hr,hp,e,z1,z2,hf⟩:=F.mkd (l:=(s:Nat)) (by omega) (by omega);obtain ⟨_,_,h9⟩:=DV row (QH hr) p (QH hp);have hz:=gM (mkF ins rows) (mkF ins rows (s:Nat)) ((rows[s]?).getD []);have hc:=mZ (Dk f' (s:Nat)) _ (frS ins rows s) [] (QF _);have Pr:(frS ins rows s).size<=(mkF ins rows (s:Nat)).size:=hz.1;rw [e] at Pr;refine ⟨rG _ _ _ [] (QF _) (rX _ _ _ ?_),by omega⟩;rw [e];exact sI go _ _ (QF _) hf
 have xb:=hb.mono (Same.kt s2);refine ⟨_,rfl,_,rfl,b,fl,ins,outs,head,rows,fs,fun s=>(frS ins rows s).cut (Dk f' (s:Nat)) [],rfl,xb,⟨yM,zo⟩,fun s hs=>?_,by omega,fun H3 s3=>?_⟩
 · obtain ⟨y1,y2⟩:=DU s hs;have:=cV ((frS ins rows s).cut (Dk f' (s:Nat)) []);exact ⟨y1,by omega,by omega⟩
 refine ⟨_,rfl,?_⟩;rw [if_pos rfl];refine ⟨_,rfl,_,rfl,b,fl,ins,outs,head,rows,fs,fun s=>(frS ins rows s).cut (Dk f' (s:Nat)) [],rfl,xb.mono (Same.kt s3),⟨s3 _ _ yM,P2.mp (fun _ _ h=>h.mono (Same.kt s3)) zo⟩,fun s hs=>?_,by omega,fun row wK=>by rw [hok.row row wK];have:=gi.le;omega,fun s row wK p hp=>⟨?_,my F hD wK hp⟩,fun H4 s4=>k H4⟩
 · obtain ⟨y1,y2⟩:=DU s hs;have:=cV ((frS ins rows s).cut (Dk f' (s:Nat)) []);exact ⟨t7 _ _ (QF _) y1,by omega,by omega⟩
 · obtain ⟨k0,h,_⟩:=DV row (QH wK) p hp;rw [<- hlen] at h;exact pH _ _ (QF _) h
end
set_option maxHeartbeats 8000000 in
theorem all_mk {l:PySem.W.OpenLaw} {w:Q3} {K:QB} {h:RS} {mg:Rc->Option QE} {fa:QD} (X:K.In h) (G:h.Ns Rp mg) (xH:mg "law"=some (.ref fa))
 {GC:QD} {KS GD:Option QD} {KU:Array (Option QE)} {KW GF GG GH DW GI:QE} {MF:Tok} {D7:Tok} {KY:QD} {KZ:Option QD} {Pu:Nat} {K0:Array (Option QE)} {GJ:Tok}
 (g_kids_of:FX K mg "kids_of" iN ["thing"])
 (g_walked:FX K mg "walked" jM ["thing"])
 (g_placed:FX K mg "placed" jo ["thing"])
 (g_built:FX K mg "built" mJ ["tops"])
 (g_places:FX K mg "places" ku ["tree"])
 (g_is_call:FX K mg "is_call" iu ["thing"])
 (g_is_hole:FX K mg "is_hole" iK ["thing"])
 (g_is_knot:FX K mg "is_knot" iH ["thing"])
 (g_called_by:FX K mg "called_by" fA ["call"])
 (g_calls_in:FX K mg "calls_in" gy ["pattern"])
 (g_holes_in:FX K mg "holes_in" gE ["front"])
 (g_top_of:FX K mg "top_of" kc ["part"])
 (g_filled:FX K mg "filled" ju ["pattern","table"])
 (g_same_top:FX K mg "same_top" gw ["one","two"])
 (g_side_by_side:FX K mg "side_by_side" dl ["one","two"])
 (g_common:FX K mg "common" jT ["one","two"])
 (g_ins_of:FX K mg "ins_of" jN ["book"])
 (g_rules_of:FX K mg "rules_of" gG ["book"])
 (g_states_of:FX K mg "states_of" fo ["book"])
 (g_small_tree:FX K mg "small_tree" eF ["ins"])
 (g_knot_above:FX K mg "knot_above" eC ["ins","kind","kids"])
 (g_first_makings:FX K mg "first_makings" cN ["book"])
 (g_first_front:FX K mg "first_front" dL ["book","state","made","partings"])
 (g_put_links:FX K mg "put_links" fD ["book","state","front","links"])
 (g_spread:FX K mg "spread" kg ["ins","links","partings"])
 (g_cut_front:FX K mg "cut_front" fh ["front","state","partings"])
 (g_found_fronts:FX K mg "found_fronts" dh ["book"])
 (g_fronts_of:FX K mg "fronts_of" fE ["book"])
 (g__law_cell:FX K mg "_law_cell" fC ["script","k"])
 (g__law_folded:FX K mg "_law_folded" dM ["cells","many"])
 (g__law_names:FX K mg "_law_names" eI ["cell"])
 (g__law_kinds:FX K mg "_law_kinds" eS ["cell","names"])
 (g__law_thing:FX K mg "_law_thing" eQ ["left","outs","states","kids"])
 (g__law_places:FX K mg "_law_places" dJ ["thing"])
 (g__law_put:FX K mg "_law_put" gB ["thing","place","other"])
 (g__law_mixed:FX K mg "_law_mixed" eL ["cell","k"])
 (g__law_rows:FX K mg "_law_rows" fG ["cells","ins","outs","states"])
 (g__law_book:FX K mg "_law_book" ff ["cells","ins","outs","states"])
 (g__law_drawn:FX K mg "_law_drawn" eK ["script","most"])
 (g__law_is_front:FX K mg "_law_is_front" cM ["outs","front"])
 (g__law_lies:FX K mg "_law_lies" fx ["front","thing","fronts"])
 (g__law_fronts_formed:FX K mg "_law_fronts_formed" b8 ["book","fronts"])
 (g__law_closed:FX K mg "_law_closed" dH ["book","fronts"])
 (a43:Sm K Rp "law"=some (some (.ref GC))) (l43:K.lookup GC=some ⟨KW,KS,.func (Ue "law" "law" (bY gQ) (bR gQ) (aj gQ) .none GF GG GH GD DW GI),KU⟩) (c43:VP K DW "law"=true) (k43:VO K (.ref GC)=true)
 (z0:Sm K Rp "all"=some none)
 (z1:Sm K Rp "dict"=some none)
 (z2:Sm K Rp "enumerate"=some none)
 (z3:Sm K Rp "isinstance"=some none)
 (z4:Sm K Rp "len"=some none)
 (z5:Sm K Rp "list"=some none)
 (z6:Sm K Rp "range"=some none)
 (z7:Sm K Rp "reversed"=some none)
 (z8:Sm K Rp "str"=some none)
 (z9:Sm K Rp "tuple"=some none)
 (z10:Sm K Rp "zip"=some none)
 (y0:Sm K Rp "CALL_SIGN"=some (some (.str (QK "?") MF)))
 (y1:Sm K Rp "MOST_KIDS"=some (some (.int (3) D7)))
 (y2:Sm K Rp "HOLE"=some (some (.ref KY)))
 (w2:K.lookup KY=some ⟨.type "tuple",KZ,.seq #[.str (QK "*") GJ] Pu,K0⟩) :
 ∃ fd:Ua,(∀ (s:QJ) (v:QE),BindsTo s fd ⟨[v],[]⟩ [("script",v)])/\∀ base:RS,K.In base->base.Ns Rp mg->bh l.prog w K mg base CX0 22 fa fd ["script"] (mG K):=by
 have e0:=xH.symm.trans (Vo X G a43);have e:GC=fa:=(Value.ref.inj (Q8 e0)).symm;subst e;have MG:=eG (st:=gQ) l43 c43 k43;have Pw:=MG.binds (ps:=["script"]) fun _ _ _ _ _ _ us hl=>by obtain ⟨y0,rfl⟩:=us1 hl;rfl
 let T:TX K mg:=⟨⟨MF,Vo X G y0⟩,⟨D7,Vo X G y1⟩,KY,Vo X G y2,fun H=>.inr ⟨_,_,_,w2,rfl,rfl,(by show 1<=QW;decide),.cons ⟨_,rfl⟩ (.nil)⟩,g_kids_of,g_walked,g_placed,g_built,g_places,g_is_call,g_is_hole,g_is_knot,g_called_by,g_calls_in,g_holes_in,g_top_of,g_filled,g_same_top,g_side_by_side,g_common,g_ins_of,g_rules_of,g_states_of,g_small_tree,g_knot_above,g_first_makings,g_first_front,g_put_links,g_spread,g_cut_front,g_found_fronts,g_fronts_of,g__law_cell,g__law_folded,g__law_names,g__law_kinds,g__law_thing,g__law_places,g__law_put,g__law_mixed,g__law_rows,g__law_book,g__law_drawn,g__law_is_front,g__law_lies,g__law_fronts_formed,g__law_closed,⟨GC,_,MG,Pw,Vo X G a43⟩,Sb X G z0,Sb X G z1,Sb X G z2,Sb X G z3,Sb X G z4,Sb X G z5,Sb X G z6,Sb X G z7,Sb X G z8,Sb X G z9,Sb X G z10⟩
 refine ⟨Ue "law" "law" (bY gQ) (bR gQ) (aj gQ) .none GF GG GH GD DW GI,fun s v=>.of_eq rfl,fun base _ _=>?_⟩;exact uI T
theorem walk {l:PySem.W.OpenLaw} {q:QR} {loose:List Rc} {XP:(Rc->Option QE)->RS->Prop} {YP:Q3->RS->Prop} {d:DefRec} {K:Params->QB} (hn:l.most=some 63) (hdf:d.params.defaults=[])
 (hY:∀ (w:Q3) (h:RS),YP w h->(K w.params).In h)
 (F:∀ (w:Q3) (mg:Rc->Option QE) (fa:QD) (h:RS),(K w.params).In h->h.Ns Rp mg->mg d.name=some (.ref fa) →
  ∃ fd:Ua,(∀ (s:QJ) (u:QE),BindsTo s fd ⟨[u],[]⟩ [("script",u)])/\∀ base:RS,(K w.params).In base->base.Ns Rp mg->bh l.prog w (K w.params) mg base CX0 22 fa fd ["script"] (mG (K w.params))) :
 PySem.W.WalkO q loose XP YP l.row.toRowW d [] (fun f vs=>PySem.call f vs) :=
 L2.sO (n:=63) (k:=22) (x:="script") (CX:=fun _=>CX0) (sp:=fun w=>mG (K w.params)) hn (by decide) hdf ⟨rfl,by decide,by decide⟩ hY F (fun _ _ a ns hl _ hS=>⟨a,ns,rfl,hS,hl,fun _=>rfl⟩) fun _ _ _ _ _ z=>z
end LAW
open PySem PySem.W PyProof.Rows
def LAW.vw:QR:=PySem.W.view PySem.Challenge.pw_boughbook_k57_fronts_are_closed [1,2,3,4,5,6,7,9,10,11,12,13,14,15,16,17,18,19,20,22,23,24,26,27,28,29,30,31,32,33,34,36,37,38,39,40,41,42,43,44,45,46,47,48,49,50,51,52]
def LAW.xt (s:QJ):Bool:=xlAt LAW.vw [] s && recOk (RowW.records (OpenRow.toRowW (OpenLaw.row PySem.Challenge.rw_boughbook_k57_fronts_are_closed))) s
set_option maxHeartbeats 0 in
theorem LAW.lk0:HD.Tr0 PySem.Challenge.pw_boughbook_k57_fronts_are_closed LAW.vw [] LAW.xt 90000 true:=fun _ _=>by kernel_rfl
set_option maxHeartbeats 0 in
theorem LAW.lk1:HD.Tr1 PySem.Challenge.pw_boughbook_k57_fronts_are_closed LAW.vw 90000:=fun _ _=>by kernel_rfl
set_option maxHeartbeats 0 in
theorem LAW.lk2:HD.Tr2 PySem.Challenge.pw_boughbook_k57_fronts_are_closed LAW.vw [] 90000:=fun _ _=>by kernel_rfl
set_option maxHeartbeats 0 in
theorem LAW.lk3:HD.Tr3 PySem.Challenge.pw_boughbook_k57_fronts_are_closed LAW.vw 90000:=fun _ _=>by kernel_rfl
set_option maxHeartbeats 0 in
theorem LAW.lk4:HD.Tr4 PySem.Challenge.pw_boughbook_k57_fronts_are_closed LAW.vw [] 90000:=fun _ _=>by kernel_rfl
set_option maxHeartbeats 0 in
theorem LAW.lk5:HD.Tr5 PySem.Challenge.pw_boughbook_k57_fronts_are_closed LAW.vw 90000:=fun _ _=>by kernel_rfl
local macro_rules | `(tactic| o_head $H) => `(tactic| (
 refine holds_open (q := LAW.vw) (N := 90000) (loose := []) (XP := XL LAW.vw [])
  (Yf := Hook.obs $H) (Ya := Hook.val $H) (YP := Hook.says $H) (Xt := LAW.xt)
  (HD.qA (by kernel_rfl) (by kernel_rfl) (fun _ => by kernel_rfl) LAW.lk0 LAW.lk1 LAW.lk2 LAW.lk3 LAW.lk4 LAW.lk5 fun _ _ => by kernel_rfl)
  (Hook.of $H) (Hook.keeps $H)
  (fun s e => xl_of s (VX.mp e).1) XL.keeps
  (by rfl) (by rfl) (by rfl)
  (fun s e => recFacts_of (VX.mp e).2)
  (by rfl) (by assumption) (by decide +kernel) ⟨rfl, rfl, rfl, rfl, rfl, by decide +kernel⟩ ?_ ?_))
set_option maxRecDepth 100000 in
set_option maxHeartbeats 0 in
theorem PySem.Challenge.cw_boughbook_k57_fronts_are_closed_holds : PySem.Challenge.rw_boughbook_k57_fronts_are_closed.Holds := by
 w_on;o_law;k_head;w_witness2
 k_fill
 refine LAW.walk (l:=PySem.Challenge.rw_boughbook_k57_fronts_are_closed) rfl rfl (fun w h Y=>PySem.W.kIn_of Y) ?F
 case F =>
  intro w mg fa h KX G EC;refine' LAW.all_mk KX G EC (LAW.fx1 KX G) (LAW.fx1 KX G) (LAW.fx1 KX G) (LAW.fx1 KX G) (LAW.fx1 KX G) (LAW.fx1 KX G) (LAW.fx1 KX G) (LAW.fx1 KX G) (LAW.fx1 KX G) (LAW.fx1 KX G) (LAW.fx1 KX G) (LAW.fx1 KX G) (LAW.fx2 KX G) (LAW.fx2 KX G) (LAW.fx2 KX G) (LAW.fx2 KX G) (LAW.fx1 KX G) (LAW.fx1 KX G) (LAW.fx1 KX G) (LAW.fx1 KX G) (LAW.fx3 KX G) (LAW.fx1 KX G) (LAW.fx4 KX G) (LAW.fx4 KX G) (LAW.fx3 KX G) (LAW.fx3 KX G) (LAW.fx1 KX G) (LAW.fx1 KX G) (LAW.fx2 KX G) (LAW.fx2 KX G) (LAW.fx1 KX G) (LAW.fx2 KX G) (LAW.fx4 KX G) (LAW.fx1 KX G) (LAW.fx3 KX G) (LAW.fx2 KX G) (LAW.fx4 KX G) (LAW.fx4 KX G) (LAW.fx2 KX G) (LAW.fx2 KX G) (LAW.fx3 KX G) (LAW.fx2 KX G) (LAW.fx2 KX G) ?a43 ?l43 ?c43 ?k43 ?z0 ?z1 ?z2 ?z3 ?z4 ?z5 ?z6 ?z7 ?z8 ?z9 ?z10 ?y0 ?y1 ?y2 ?w2
  (case a43=>k_is)
  (case l43=>k_is)
  (case c43=>k_is)
  (case k43=>k_is)
  (case z0=>k_is)
  (case z1=>k_is)
  (case z2=>k_is)
  (case z3=>k_is)
  (case z4=>k_is)
  (case z5=>k_is)
  (case z6=>k_is)
  (case z7=>k_is)
  (case z8=>k_is)
  (case z9=>k_is)
  (case z10=>k_is)
  (case y0=>k_is)
  (case y1=>k_is)
  (case y2=>k_is)
  (case w2=>k_is)
