import PyProof.Rows.All
import Wide.All
import OpenK.AllK
import Wide.FinOn
import Lean
import PyProof.EqAt
import PyProof.EqKinds
import PyProof.TupleCall
import KE.KRevIter
import PyProof.ListNew
import PyProof.Draws
import PyProof.EnumMake
import PyProof.Rows.EnumRows
import PyProof.ZipIter
import PyProof.ConsumeWalk
import KE.LcSums
import PyProof.AttrMissHeap
import KE.KDictOf
import PyProof.DictWalks
import PyProof.ListMulRoad
import PyProof.FactsAll.tuple
import PyProof.NeKinds
import KE.RegKTryMore
import KE.RegKIsAll
import PyProof.StrWalks
import PyProof.Rows.SetFrom
import PyProof.FString5
import Wide.Txt
import PyProof.Rows.SeqMore
import PyProof.StrOps2
import KE.KEqDict
import PyProof.CollectIter
import PyProof.JoinWalk
import PyProof.CallStr
import PyProof.DictRoadsH
import PyProof.MeetsDictList
import PyProof.DictTruth
import PyProof.StrLawsChain
import PyProof.StrCalls6
import PyProof.ToksMono
import PyProof.StrCalls2
import KE.KWords
import PyProof.MeetsStr2
import KE.KUnpack
import KE.KIntText
import PyProof.MeetsStr
import PyProof.Rows.StrLawsPart
import PyProof.Rows.RuleDivmod
import PyProof.ListIndexNeg
import PySem.Challenge.RW_boughbook_k34_brackets_and_figures
set_option Elab.async false
set_option linter.all false
set_option maxRecDepth 100000
set_option genInjectivity false
set_option genSizeOf false
local macro_rules | `(tactic| omega) => `(tactic| lia)
open PySem.Str renaming ofString→MW,cps_append→Qd,join→Rl
open List renaming length_map→MX,length_cons→MZ,getElem?_eq_getElem→M3,size_toArray→M9,length_append→Na,mem_cons→Nb,mem_singleton→Nc,mem_cons_of_mem→Ng,map_cons→Ni,mem_cons_self→Nj,getElem?_eq_some_iff→Nl,replicate→Nn,getElem?_map→Nq,append_assoc→Nr,mem_of_getElem?→Nu,map_append→Nw,append_nil→Nz,mem_append→NF,cons_append→NG,mem_append_right→NJ,nil_append→NK,flatten_cons→NM,length_singleton→NR,replicate_succ→NS,range→NU,take_of_length_le→N1,length_drop→N9,all_eq_true→Oa,length_eq_zero_iff→Oe,length_take→Og,reverse_cons→Oq,map_nil→OC,length_pos_iff→OE,length_range→OH,getElem?_eq_none→OJ,not_mem_nil→OR,mem_append_left→OS,drop_zero→OW,nodup_cons→OX,forIn_cons→OY,drop_eq_getElem_cons→OZ,sum_cons→O2,mem_map→O3,map_map→O4,length→O6,flatMap_cons→O9,dropLast_concat_getLast→Pa,lookup_cons→Ph,mem_range→Pk,length_replicate→Pm,lookup→Pz,length_reverse→PF,filterMap_cons→PH,mem_replicate→PN,length_nil→PQ,mem_iff_getElem?→PV,reverse_reverse→P4,flatMap_append→P9,take_zero→Qo,take_add_one→Qp,take_length→QB,filter_cons→QC,getElem?_set_ne→QI,reverse_append→QK,map_congr_left→QL,flatten_append→QM,nodup_nil→QS,getElem?_append_right→QT,getElem?_append_left→QU,ext_getElem?→QW,all_cons→Q0,getElem?_set_self→Ra,take_append_drop→Rk,dropLast_concat→Rp,getElem?_range→Ry,mem_filterMap→RF,flatMap_assoc→RG,nodup_append→RT
open PySem.W renaming Frag→MY,findIn→ND,nsIn→NN,mg_none_of→Ob,mg_of→Ol,mroIn→OK,exmOne→OL,kia_one→ON,emptyDict→OU,keepIn→O5,instObj→Pq,boot_heap→Pw,fnOf→Px,kitOne→PJ,codeIn→Ql,plainGet→Qx,excIn→QD,hasDictIn→QV,isFn→Q5,lookIn→Rn,plainGet_of→Rv,callWith_K→RD,plainOver→RO,methodObj→RP
open PySem renaming wpAny_bind→M0,Value→M1,strLen_append→M4,Addr→M5,Shared→M7,Str→Nd,wpAny_pure→Nk,wpAny→Nv,sizeLine→Ny,mainGlobals→NA,Program→NC,model→NI,boot_len→NO,World→NP,Around→NT,starEach→NV,Paired→NY,Expr→Od,wpAny_field→Of,Heap→Oo,wpAny_newObj_type→OA,wpAny_passesOwn→OD,wpAny_mono→OM,Stmt→OP,wpAny_truthy_bool→O0,wpAny_Call_Name_kw→O7,Obj→Pb,wpAny_callSpecial?_slot→Pe,compareOp→Pf,NameKind→Pj,FuncData→Pl,eval→Pn,wpAny_holding→Po,sizeLine_eq→Pp,wpAny_setField_rec→Pt,wpAny_seqItems→Pu,IsPair→PR,wpAny_execs_nil→P1,mem_of_lookup→P7,wpAny_loadName_local→Qb,typeIs_str→Qc,wpAny_call_entry→Qh,codeAny_mono→Qi,binaryOp→Qk,Scope→Qq,Pos→Qy,wpAny_Call_method_late→QF,backTo→QG,call_meets→QN,assignEach→QO,sliceBounds→QQ,bootBuiltins→QX,OsState→QZ,wpAny_pyIter_tuple→Q2,wpAny_pyIter_list→Rb,foldedSetIterable→Rc,codeAny→Rf,intText?→Rm,IsZip→Rq,wpAny_Name→Rt,getItem→Ru,letOwnedTupleGo→Rz,importedModules→RA,codeAny_handlers_test→RC,wpAny_updateSeq_pair→RI,slicePicked→RJ,rawInt→RK
open PySem.Heap renaming get?_push_of_some→M6,get?_push_size→Nf,lt_size→Np,size_push→O1,SameBut→PZ
open Nat renaming le_refl→M8,lt_of_lt_of_le→NL,ne_of_lt→NQ,zero_le→N2,lt_irrefl→Ou,le_trans→Ow,lt_succ_of_lt→OV,zero_add→Py,ne_of_gt→PM,add_mul_div_right→PU,div_eq_of_lt→P5,mul_le_mul→Qm,le_of_lt→Qn,lt_succ_self→Qz,le_add_right→QA,succ_mul→Q9,min_eq_left→Rh,mul_le_mul_right→Ro,lt_of_le_of_lt→RE,sub_zero→RQ,sub_self→RR,le_of_eq→RS
open Option.some renaming inj→Nh
open Array renaming length_toList→Nm,toList_append→OG,getElem?_toList→PX,toList→RW
open Bool renaming false_ne_true→Nt,and_eq_true→NX,true_and→N8,eq_false_iff→OI,and_eq_true_iff→QJ,or_eq_true→Ri,eq_iff_iff→Rj,false_and→Rr,not_eq_true'→RV
open Or renaming inl→NB
open PySem.F renaming plainAttrs_list→NH,type_list_append→NZ,slot_list_append→N0,plainAttrs_str→N7,slot_tuple_iterator_next→Qe,called_set→Qj,type_str_join→Qr,type_list_pop→Qs,slot_str_join→Qt,slot_list_pop→Qu,args_tuple_add_2→QY,entry_tuple_add→Q3,type_str_split→Q6,slot_tuple_add→Q7,slot_str_split→Q8,slot_zip_next→RB
open Int renaming toNat_natCast→NW,emod_nonneg→Oh,emod_lt_of_pos→Om,toNat_of_nonneg→Qa,ediv_one→RU
open PySem.Paired renaming length→N3
open List.cons renaming inj→N4
open PySem.Builtin.Str renaming strKind→N5,strSliceIndices→Q1
open PySem.Builtin.SmallTypes renaming nextOf→N6,ownedTupleIsFree→Oc
open PySem.NameKind renaming free→Oi,cell→QP
open Option renaming map_eq_some_iff→Oj,bind_eq_some_iff→Q4
open PySem.Builtin.Slice renaming slicePlaces→Ot,sliceAdjust→PD,sliceApplied→Qg
open PySem.StrLaws renaming occBody→Ov
open PySem.Builtin.Tuple renaming tupleExact→Ox
open PyProof.Rows renaming boot_tuple→Oy,slot_tuple_getitem→Oz,boot_isinstance→OO,callWith_type1→Pd,envOfC→PY,boot_int→Qv,AllBare→RH
open PySem.Value renaming ref→OB,none→PK
open False renaming elim→OF
open PySem.Txt renaming join→OQ,split→OT,replace→Rg
open PySem.Calls renaming spliced_cons→O8,Name_function_global→PB,Constant_str→PC,callWith_builtin→P0,spliced_nil→P6,evalArgs_plain→Qf,loadGlobal_global→Qw
open PySem.PassesOwn renaming never→Pg,leaving→QH
open ForInStep renaming yield→Pr
open PySem.Builtin.List renaming listTooLong→PL
open PyProof.Rows.F renaming plain_set_update_loop→P8,entry_set_update_loop→Rw
open Ne renaming symm→QE
open True renaming intro→QR
open PySem.Obj renaming mapSeq→Rx
open PySem.Value.type renaming inj→RL
open Sum renaming inr→RM,inl→RN
namespace HD
open PySem PySem.W PySem.Calls PyProof.Rows
def jp (tb:String->Option Builtin) (p:NC) (w:NP) (m:Nat) (ann:Option M1):Nat->SharedT->Thread->Option SharedT
 | 0,_,_=>none
 | n+1,s,t=>match through t with
   | true=>some s
   | false=>match stepOk m ann t with
     | false=>none
     | true=>match stepT (denote tb) p w s t with
       | some (s',t')=>jp tb p w m ann n s' t'
       | none=>none
theorem j1 {tb:String->Option Builtin} {p:NC} {w:NP} {m:Nat} {ann:Option M1}:∀ {n:Nat} {s s':SharedT} {t:Thread},jp tb p w m ann n s t=some s'->topRun tb p w m ann n s.abs t=some s'.abs
 | 0,_,_,_,h=>by cases h
 | n+1,s,s',t,h=>by
   unfold jp at h;unfold topRun;cases he:through t with
   | true=>rw [he] at h;cases h;rfl
   | false =>
     rw [he] at h;cases hk:stepOk m ann t with
     | false=>rw [hk] at h;cases h
     | true =>
       rw [hk] at h;cases hs:stepT (denote tb) p w s t with
       | none=>rw [hs] at h;cases h
       | some r =>
         obtain ⟨s2,t2⟩:=r;rw [hs] at h;rw [stepT_spec hs];exact j1 h
def sM:List Pb->Nat->BT->BT
 | [],_,t=>t
 | o::l,n,t=>sM l (n+1) (t.ins n o)
def tK:List Pb->Nat->BT->Bool
 | [],_,_=>true
 | o::l,n,t=>((t.ins n o).get n).isSome && tK l (n+1) (t.ins n o)
theorem lI:∀ (l:List Pb) (n:Nat) (t:BT),tK l n t=true->(sM l n t).list (n+l.length)=t.list n++l
 | [],n,t,_=>by rw [Nz];rfl
 | o::l,n,t,h=>by
   obtain ⟨h1,h2⟩:=QJ.mp h;have e:=absHeap_ins (life:=default) h1
   have e2:(t.ins n o).list (n+1)=t.list n++[o]:=by
    have:=congrArg (fun x:Oo=>x.objs.toList) e;simpa [absHeap,Heap.push] using this
   have ih:=lI l (n+1) (t.ins n o) h2;rw [e2,Nr] at ih;rw [MZ,show n+(l.length+1)=n+1+l.length by omega];exact ih
theorem vh {h:Oo} (ok:tK h.objs.toList 0 .nil=true):absHeap (sM h.objs.toList 0 .nil) h.objs.size h.life=h:=by
 have e:=lI _ _ _ ok;rw [Py] at e;unfold absHeap;rw [<- Nm,e];rfl
noncomputable abbrev mJ (p:NC) (N:Nat) (w:NP) (os:QZ):Option SharedT :=
 jp treeTable p w 11 (some (.ref 6)) N ⟨sM (Pw w.params).objs.toList 0 .nil,11,(Pw w.params).life,Array.mk [],boot_drawn,boot_toks,os⟩ (topStub p)
theorem tM (P:Params):(tK (Pw P).objs.toList 0 .nil,(Pw P).isNs NA,(Pw P).objs.size,(Pw P).nsMap NA "__annotations__")=(true,true,11,some (.ref 6)):=by kernel_rfl
theorem map_some {α β:Type} {o:Option α} {a:α} {f:α->β} {b:β} (h:o=some a) (e:o.map f=some b):f a=b:=by rw [h] at e;exact Nh e
abbrev Tr0 (p q:NC) (loose:List Nd) (Xt:M7->Bool) (N:Nat) (g0:Bool):Prop:=∀ (w:NP) (os:QZ),((mJ p N w os).map fun s=>(staticsOk (RA p.main.body) (Pw w.params) s.abs.heap && namesBound p s.abs.heap && gensDone s.abs && laidKept (Pw w.params) s.abs.heap,s.abs.heap.bltView,pinSeenD q (drecsOf q) s.abs,plainSeenD q loose s.abs,clsSeenW q loose s.abs,(s.abs.heap.accountedOkI (RA p.main.body),s.abs.heap.isNs NA,s.abs.heap.isNs builtinsNs,tablesOk q s.abs.heap,Xt s.abs,(if g0 then s.abs.gens.size == 0 else !leftWithCleanup s.abs.gens))))=some (true,bltViewBooted,pinGoodD (drecsOf q),plainGoodD q loose,clsGoodW q loose,(true,true,true,true,true,true))
abbrev Tr1 (p q:NC) (N:Nat):Prop:=∀ (w:NP) (os:QZ),((mJ p N w os).map fun s=>seen ((recsOf q).map (·.name)) (ownsOf q) [] { s.abs with gens:=#[] })=some (expectedOf q)
abbrev Tr2 (p q:NC) (loose:List Nd) (N:Nat):Prop:=∀ (w:NP) (os:QZ),((mJ p N w os).map fun s=>s.abs.heap.keysOk (looseW q loose) ((recsOf q).map (·.name)) ((litsOf q).map (·.1)) ((clssOf q (looseW q loose)).map (·.name)))=some true
abbrev Tr3 (p q:NC) (N:Nat):Prop:=∀ (w:NP) (os:QZ),((mJ p N w os).map fun s=>tabsOk q s.abs)=some true
abbrev Tr4 (p q:NC) (loose:List Nd) (N:Nat):Prop:=∀ (w:NP) (os:QZ),((mJ p N w os).map fun s=>plainSeenE q (looseW q loose) s.abs)=some (plainGoodE q (looseW q loose))
abbrev Tr5 (p q:NC) (N:Nat):Prop:=∀ (w:NP) (os:QZ),((mJ p N w os).map fun s=>wideSeen q s.abs)=some (wideGood q)
theorem pY {p q:NC} {loose:List Nd} {Xt:M7->Bool} {α:Type} {Yf:M7->α} {Ya:NP->α} {N:Nat} {g0:Bool}
 (e:opening p=plainProg p.main.scope.names) (hN:Nat.ble 600 N=true) (f:∀ s,fenceModules? p s=some s)
 (r0:Tr0 p q loose Xt N g0)
 (r1:Tr1 p q N)
 (r2:Tr2 p q loose N)
 (r3:Tr3 p q N)
 (r4:Tr4 p q loose N)
 (r5:Tr5 p q N)
 (rY:∀ (w:NP) (os:QZ),((mJ p N w os).map fun s=>Yf s.abs)=some (Ya w)) :
 LeftO p q loose Xt Yf Ya N g0:=fun w=>by
 obtain ⟨⟨h,gs,d,k,os⟩,e1,e'⟩:=Oj.mp (boot_open e hN f w);obtain ⟨rfl,rfl,rfl,rfl⟩:h=Pw w.params/\gs=Array.mk []/\d=boot_drawn/\k=boot_toks:=by simpa using e'
 have Ee:=tM w.params;have z0:=congrArg Prod.fst Ee;have z1:=congrArg (fun x=>x.2.1) Ee;have z2:=congrArg (fun x=>x.2.2.1) Ee;have z3:=congrArg (fun x=>x.2.2.2) Ee;dsimp only at z0 z1 z2 z3;obtain ⟨s1,BD,hY⟩:=Oj.mp (rY w os);have q0:=map_some BD (r0 w os);have q1:=map_some BD (r1 w os);have q2:=map_some BD (r2 w os);have q3:=map_some BD (r3 w os);have q4:=map_some BD (r4 w os);have q5:=map_some BD (r5 w os);have rr:=j1 BD
 have E2:SharedT.abs ⟨sM (Pw w.params).objs.toList 0 .nil,11,(Pw w.params).life,Array.mk [],boot_drawn,boot_toks,os⟩=⟨Pw w.params,Array.mk [],boot_drawn,boot_toks,os⟩:=by
  unfold SharedT.abs;dsimp only;rw [<- z2,vh z0]
 rw [E2] at rr;have a0:=congrArg Prod.fst q0;have a1:=congrArg (fun x=>x.2.1) q0;have a2:=congrArg (fun x=>x.2.2.1) q0;have a3:=congrArg (fun x=>x.2.2.2.1) q0;have a4:=congrArg (fun x=>x.2.2.2.2.1) q0;have b0:=congrArg (fun x=>x.2.2.2.2.2.1) q0;have b1:=congrArg (fun x=>x.2.2.2.2.2.2.1) q0;have b2:=congrArg (fun x=>x.2.2.2.2.2.2.2.1) q0;have b3:=congrArg (fun x=>x.2.2.2.2.2.2.2.2.1) q0;have b4:=congrArg (fun x=>x.2.2.2.2.2.2.2.2.2.1) q0;have b5:=congrArg (fun x=>x.2.2.2.2.2.2.2.2.2.2) q0;dsimp only at a0 a1 a2 a3 a4 b0 b1 b2 b3 b4 b5
 have l2:openSeen q loose (RA p.main.body) Xt g0 s1.abs=openGood q loose:=by
  unfold openSeen openGood;rw [q1,a1,q2,b0,b1,b2,b3,b4,b5,q3,a2,q4,a3,q5,a4];rfl
 have t:topFrom treeTable p w N ⟨Pw w.params,Array.mk [],boot_drawn,boot_toks,os⟩=some s1.abs:=by
  unfold topFrom;dsimp only;rw [z1,z2,z3,rr];show (match staticsOk (RA p.main.body) (Pw w.params) s1.abs.heap && namesBound p s1.abs.heap && gensDone s1.abs && laidKept (Pw w.params) s1.abs.heap with | true=>_ | false=>_)=_;rw [a0]
 unfold openEnds;rw [e1];show (topFrom treeTable p w N _).map _=_;rw [t];exact congrArg some (Prod.ext l2 hY)
def p0:Params:={ strHash:=fun _=>0,shareClass:=fun _=>0,mergeTok:=fun t=>t,idOf:=fun _=>0,idOfShared:=fun _ _=>0,followText:=fun _=>false,idOfImm:=fun _=>0 }
structure Pc (p:NC) (N:Nat) (as:List M5) (vs:NP->List (Option Pb)):Prop where
 out:∀ (w:NP) (os:QZ),((mJ p N w os).map fun s=>as.map s.abs.heap.get?)=some (vs w)
theorem Pc.cut {p:NC} {N:Nat} {as:List M5} {vs:NP->List (Option Pb)} (n:Nat) (h1:Pc p N (as.take n) fun w=>(vs w).take n) (h2:Pc p N (as.drop n) fun w=>(vs w).drop n):Pc p N as vs:=⟨fun w os=>by
 obtain ⟨s,e,a1⟩:=Oj.mp (h1.out w os);have a2:=map_some e (h2.out w os);rw [e];refine congrArg some ?_;have:=congr (congrArg HAppend.hAppend a1) a2;rw [<- Nw,Rk,Rk] at this;exact this⟩
theorem Pc.k {p:NC} {N:Nat} {as:List M5} {K:Params->Frag} {e:∀ P,as=(K P).map (·.1)} (h:Pc p N as fun w=>(K w.params).map fun p=>some p.2):∀ (w:NP) (os:QZ),((mJ p N w os).map fun s=>(kHook K as e).obs s.abs)=some ((kHook K as e).val w):=h.out
end HD
section
open PySem PySem.W PyProof.Rows
def LAW.vw:NC:=PySem.W.view PySem.Challenge.pw_boughbook_k34_brackets_and_figures [1,2,3,4,6,7,8,9,10,11,12,13,14,15,16,17,18,19,21,22,24,25,26,27,28,29,30,31,32,34,36,37,38,39,40,41,42,43,44,45,46,47,48,49,50,52,53,54,55,56,57,58,59]
def LAW.xt (s:M7):Bool:=xlAt LAW.vw [] s && recOk (RowW.records (OpenRow.toRowW (OpenLaw.row PySem.Challenge.rw_boughbook_k34_brackets_and_figures))) s
set_option maxHeartbeats 0 in
theorem LAW.lk0:HD.Tr0 PySem.Challenge.pw_boughbook_k34_brackets_and_figures LAW.vw [] LAW.xt 90000 true:=fun _ _=>by kernel_rfl
set_option maxHeartbeats 0 in
theorem LAW.lk1:HD.Tr1 PySem.Challenge.pw_boughbook_k34_brackets_and_figures LAW.vw 90000:=fun _ _=>by kernel_rfl
set_option maxHeartbeats 0 in
theorem LAW.lk2:HD.Tr2 PySem.Challenge.pw_boughbook_k34_brackets_and_figures LAW.vw [] 90000:=fun _ _=>by kernel_rfl
set_option maxHeartbeats 0 in
theorem LAW.lk3:HD.Tr3 PySem.Challenge.pw_boughbook_k34_brackets_and_figures LAW.vw 90000:=fun _ _=>by kernel_rfl
set_option maxHeartbeats 0 in
theorem LAW.lk4:HD.Tr4 PySem.Challenge.pw_boughbook_k34_brackets_and_figures LAW.vw [] 90000:=fun _ _=>by kernel_rfl
set_option maxHeartbeats 0 in
theorem LAW.lk5:HD.Tr5 PySem.Challenge.pw_boughbook_k34_brackets_and_figures LAW.vw 90000:=fun _ _=>by kernel_rfl
section
local macro_rules | `(tactic| o_head $_H) => `(tactic| assumption)
set_option maxHeartbeats 0 in
theorem LAW.d0 (h:OpenRow.Holds (OpenLaw.row PySem.Challenge.rw_boughbook_k34_brackets_and_figures)):OpenRow.Holds (OpenLaw.row PySem.Challenge.rw_boughbook_k34_brackets_and_figures):=by
 k_head
end
noncomputable def LAW.ks:List M5:=(LAW.d0.heap_1 HD.p0).map (·.1)
theorem LAW.ke:∀ P,LAW.ks=(LAW.d0.heap_1 P).map (·.1):=fun _=>by kernel_rfl
set_option maxHeartbeats 0 in
theorem LAW.kp:HD.Pc PySem.Challenge.pw_boughbook_k34_brackets_and_figures 90000 LAW.ks fun w=>(LAW.d0.heap_1 w.params).map fun p=>some p.2:=⟨fun _ _=>by kernel_rfl⟩
end
namespace L2
open PySem PySem.Spec PyProof.Rows
abbrev Key:=Sum Int Nd
def uw:Key->M1->Bool
 | .inl k,v=>Value.isInt k v
 | .inr x,v=>Value.isStrOf x v
def xg (w:NP):Key->Int
 | .inl k=>hashInt k
 | .inr x=>hashStr w x
theorem bu:∀ {k:Key} {v:M1},uw k v=true->(∃ i t,k=RN i/\v=Value.int i t)∨(∃ x t,k=RM x/\v=Value.str x t)
 | .inl i,v,h=>by
   obtain ⟨t,e⟩:=Value.isInt_shape (k:=i) (v:=v) h;exact .inl ⟨i,t,rfl,e⟩
 | .inr x,v,h=>by
   obtain ⟨t,e⟩:=Value.isStrOf_shape (x:=x) (v:=v) h;exact .inr ⟨x,t,rfl,e⟩
theorem ve (a b:Int):decide ((RN a:Key)=RN b)=(a == b):=by
 by_cases e:a=b
 · subst e;simp
 · have h:¬ (RN a:Key)=RN b:=fun q=>e (Sum.inl.inj q);rw [decide_eq_false h];exact (beq_eq_false_iff_ne.mpr e).symm
theorem vi (a b:Nd):decide ((RM a:Key)=RM b)=decide (a=b):=by
 by_cases e:a=b
 · subst e;simp
 · have h:¬ (RM a:Key)=RM b:=fun q=>e (Sum.inr.inj q);rw [decide_eq_false h,decide_eq_false e]
theorem vo (a:Int) (b:Nd):decide ((RN a:Key)=RM b)=false:=decide_eq_false (fun q=>nomatch q)
theorem uM (a:Nd) (b:Int):decide ((RM a:Key)=RN b)=false:=decide_eq_false (fun q=>nomatch q)
def lK (prog:NC) (w:NP):PySem.KeyKind prog w Key where
 is:=uw
 hash:=xg w
 inj:=fun v a b ha hb=>by
  rcases bu ha with ⟨i,t,rfl,rfl⟩ | ⟨x,t,rfl,rfl⟩
  · rcases bu hb with ⟨j,u,rfl,e⟩ | ⟨y,u,rfl,e⟩
    · injection e with e1 _;rw [e1]
    · exact nomatch e
  · rcases bu hb with ⟨j,u,rfl,e⟩ | ⟨y,u,rfl,e⟩
    · exact nomatch e
    · injection e with e1 _;rw [e1]
 byValue:=fun k v h=>by
  rcases bu h with ⟨i,t,rfl,rfl⟩ | ⟨x,t,rfl,rfl⟩ <;> rfl
 pyHash:=fun hv h=>by
  rcases bu hv with ⟨i,t,rfl,rfl⟩ | ⟨x,t,rfl,rfl⟩
  · exact wpAny_pyHash_int h
  · exact wpAny_pyHash_str h
 eqBool:=fun hu hv h=>by
  rcases bu hu with ⟨i,t,rfl,rfl⟩ | ⟨x,t,rfl,rfl⟩
  · rcases bu hv with ⟨j,u,rfl,rfl⟩ | ⟨y,u,rfl,rfl⟩
    · rw [ve] at h;exact wpAny_eqBool_int h
    · rw [vo] at h;exact SeqAt.EqAt.int_str i t y u _ _ _ _ h
  · rcases bu hv with ⟨j,u,rfl,rfl⟩ | ⟨y,u,rfl,rfl⟩
    · rw [uM] at h;exact SeqAt.EqAt.str_int x t j u _ _ _ _ h
    · rw [vi] at h;exact wpAny_eqBool_str h
 «strs»:=fun k x t v h=>by
  rcases bu h with ⟨i,u,rfl,e⟩ | ⟨y,u,rfl,e⟩
  · exact nomatch e
  · injection e with e1 _;subst e1;cases v <;> rfl
end L2
namespace L2
open PySem PySem.Spec PyProof.Rows
set_option genInjectivity true in
inductive V where
 | non | bl (b:Bool) | int (i:Int) | str (x:Nd) | byt (b:Array UInt8) | flt (b:UInt64) | ref (a:M5) | ty (n:String)
 deriving DecidableEq
def RelV:V->M1->Prop
 | .non,u=>u=PK
 | .bl b,u=>u=Value.bool b
 | .int i,u=>∃ t,u=Value.int i t
 | .str x,u=>∃ t,u=Value.str x t
 | .byt b,u=>∃ t,u=Value.bytes b t
 | .flt b,u=>∃ t,u=Value.float b t
 | .ref a,u=>u=OB a
 | .ty n,u=>u=Value.type n
abbrev Vals:List V->List M1->Prop:=NY RelV
theorem Vals.length {xs:List V} {us:List M1} (r:Vals xs us):xs.length=us.length:=N3 r
theorem Vals.get:∀ {xs:List V} {us:List M1} {i:Nat} {x:V},Vals xs us->xs[i]?=some x->∃ u,us[i]?=some u/\RelV x u
 | _,_,_,_,.nil,e=>by simp at e
 | _,_,0,_,.cons r _,e=>by simp at e;subst e;exact ⟨_,rfl,r⟩
 | _,_,i+1,x,.cons _ t,e=>by
   obtain ⟨u,h1,h2⟩:=Vals.get (i:=i) (x:=x) t (by simpa using e);exact ⟨u,by simpa using h1,h2⟩
theorem Vals.set {x:V} {u:M1} (r:RelV x u):∀ {xs:List V} {us:List M1} (i:Nat),Vals xs us->Vals (xs.set i x) (us.set i u)
 | _,_,_,.nil=>.nil
 | _,_,0,.cons _ t=>.cons r t
 | _,_,i+1,.cons q t=>.cons q (Vals.set r i t)
theorem Vals.append:∀ {xs ys:List V} {us ws:List M1},Vals xs us->Vals ys ws->Vals (xs++ys) (us++ws)
 | _,_,_,_,.nil,s=>s
 | _,_,_,_,.cons r t,s=>.cons r (Vals.append t s)
theorem Vals.take:∀ {xs:List V} {us:List M1} (n:Nat),Vals xs us->Vals (xs.take n) (us.take n)
 | _,_,0,_=>.nil
 | _,_,_+1,.nil=>.nil
 | _,_,n+1,.cons r t=>.cons r (Vals.take n t)
theorem Vals.drop:∀ {xs:List V} {us:List M1} (n:Nat),Vals xs us->Vals (xs.drop n) (us.drop n)
 | _,_,0,r=>r
 | _,_,_+1,.nil=>.nil
 | _,_,n+1,.cons _ t=>Vals.drop n t
def RelO:Option V->Option M1->Prop
 | some v,some u=>RelV v u
 | none,none=>True
 | _,_=>False
def KV {κ:Type}:List (κ×V)->List (κ×M1)->Prop:=NY fun (p:κ×V) (q:κ×M1)=>p.1=q.1/\RelV p.2 q.2
def kV:Key->V
 | .inl i=>.int i
 | .inr x=>.str x
inductive HO where
 /-- a list -/
 | lst (xs:List V)
 /-- a tuple (never changes) -/
 | tup (xs:List V)
 /-- a dict CC keys are ints and texts;one CC keys are tuples of ints and texts (zP empty one is both) -/
 | dK (xM:List (Key×V)) | dT (xM:List (List Key×V))
 /-- a set of ints: its members,its size -/
 | set (S:Int->Bool) (n:Nat)
 /-- an instance of zP class at C,its dict at dx,its attributes -/
 | ins (C dx:M5) (fs:List (Nd×V))
 /-- zP dict of zP instance at x -/
 | own (x:M5)
 /-- zP dict of an exception -/
 | xd (fs:List (Nd×V))
 /-- a bound method,f of x -/
 | met (f x:M5)
 /-- a range object lo,lo+1,.. below hi -/
 | rng (lo hi:Int)
 /-- a thing E3 is known to zP object (zP script;a dict while a loop walks it): read,never written while it is so -/
 | frz (o:Pb) (u:HO)
 /-- a code CD table -/
 | tbl (ps:Array M1)
 /-- any other thing,by CF is true of its one object (a def of Hm own: Jv a S n:=HO.ext fun h=>..) -/
 | ext (φ:Oo->Prop)
abbrev Hp:=M5->Option HO
def upd (H:Hp) (a:M5) (o:HO):Hp:=fun b=>if b=a then some o else H b
theorem ac {H:Hp} {a:M5} {o:HO}:upd H a o a=some o:=by unfold upd;rw [if_pos rfl]
theorem aq {H:Hp} {a b:M5} {o:HO} (h:b≠a):upd H a o b=H b:=by unfold upd;rw [if_neg h]
theorem tD {H:Hp} {a:M5} {o u:HO}:upd (upd H a o) a u=upd H a u:=by
 funext b;unfold upd;split <;> rfl
theorem uz {H:Hp} {a b:M5} {o u:HO} (h:H a=some o) (h':H b=some u) (d:o≠u):a≠b:=by
 intro e;subst e;rw [h] at h';exact d (Nh h')
theorem aK {H:Hp} {a b:M5} {o:HO} (h:H a=some o) (h':H b=none):a≠b:=by
 intro e;subst e;rw [h] at h';cases h'
section
variable (P:NC) (w:NP)
def ObjOk (H:Hp) (h:Oo) (a:M5):HO->Prop
 | .lst xs=>xs.length<=Ny/\∃ (its:List M1) (n:Nat),Vals xs its/\h.get? a=some { cls:=.type "list",data:=.seq its.toArray n }
 | .tup xs=>xs.length<=Ny/\∃ (its:List M1) (n:Nat),Vals xs its/\h.get? a=some { cls:=.type "tuple",data:=.seq its.toArray n }
 | .dK xM=>xM.length<=Ny/\(a == sysModules)=false/\∃ vs,KV xM vs/\h.DictOf (lK P w) a vs
 | .dT xM=>xM.length<=Ny/\(a == sysModules)=false/\∃ xs:List (List Key×M5×M1),
  NY (fun (p:List Key×V) (q:List Key×M5×M1)=>p.1=q.1/\H q.2.1=some (.tup (p.1.map kV))/\RelV p.2 q.2.2) xM xs ∧
  ∃ o es ep,h.get? a=some o/\o.ExactDict/\o.data=.dict es ep/\es.toList=xs.map (entryOfKey (tupleKind (lK P w)))/\(xs.map (·.1)).Nodup
 | .set S n=>h.SetOf (intKind P w) a S n
 | .ins C dx fs=>H dx=some (.own a)/\fs.length<=1000/\dx≠a/\h.get? a=some (Pq C dx) ∧
  ∃ mA,h.Ns1 dx mA/\(∀ f,RelO (fs.lookup f) (mA f))/\PySem.Within mA (fs.map (·.1))
 | .own _=>∃ o,h.get? a=some o
 | .xd fs=>∃ mA,h.Ns1 a mA/\∀ f,RelO (fs.lookup f) (mA f)
 | .rng lo hi=>∃ t u v,h.get? a=some { cls:=.type "range",data:=.fields #[.int lo t,.int hi u,.int 1 v] }
 | .frz o u=>h.get? a=some o/\ObjOk H h a u
 | .tbl ps=>h.get? a=some { cls:=.none,data:=.fields ps }
 | .met f x=>h.get? a=some (RP (.ref f) (.ref x))
 | .ext φ=>φ h/\(∃ o,h.get? a=some o)/\∀ h1 h2:Oo,φ h1->(∀ o,h1.get? a=some o->h2.get? a=some o)->φ h2
def HOk (H:Hp) (h:Oo):Prop:=∀ a o,H a=some o->ObjOk P w H h a o
end
section
variable {P:NC} {w:NP} {H H':Hp} {h h':Oo} {a:M5} {o:HO}
theorem ObjOk.lt (x:ObjOk P w H h a o):a<h.objs.size:=by
 cases o with
 | lst xs=>obtain ⟨_,_,_,_,e⟩:=x;exact Np e
 | tup xs=>obtain ⟨_,_,_,_,e⟩:=x;exact Np e
 | dK xM=>obtain ⟨_,_,_,_,o,_,_,e,_⟩:=x;exact Np e
 | dT xM=>obtain ⟨_,_,_,_,o,_,_,e,_⟩:=x;exact Np e
 | set S n=>obtain ⟨o,_,_,_,e,_⟩:=x;exact Np e
 | ins C dx fs=>obtain ⟨_,_,_,e,_⟩:=x;exact Np e
 | own y=>obtain ⟨_,e⟩:=x;exact Np e
 | xd fs=>obtain ⟨_,⟨_,_,_,e,_⟩,_⟩:=x;exact Np e
 | rng lo hi=>obtain ⟨_,_,_,e⟩:=x;exact Np e
 | frz ob u=>obtain ⟨e,_⟩:=x;exact Np e
 | tbl ps=>exact Np (show h.get? a=some _ from x)
 | met f y=>exact Np (show h.get? a=some _ from x)
 | ext φ=>obtain ⟨_,⟨_,e⟩,_⟩:=x;exact Np e
theorem NY.mapP {α β:Type} {F G:α->β->Prop}:∀ {CG:List α} {CH:List β},NY F CG CH->(∀ a b,F a b->G a b)->NY G CG CH
 | _,_,.nil,_=>.nil
 | _,_,.cons r t,f=>.cons (f _ _ r) (NY.mapP t f)
theorem ObjOk.stay (x:ObjOk P w H h a o) (k:∀ b u,(b=a∨H b=some (.own a))->h.get? b=some u->h'.get? b=some u)
 (ho:∀ b,H b=some (.own a)->H' b=some (.own a)) (ht:∀ b xs,H b=some (.tup xs)->H' b=some (.tup xs)):ObjOk P w H' h' a o:=by
 induction o with
 | lst xs=>obtain ⟨z,its,n,r,e⟩:=x;exact ⟨z,its,n,r,k _ _ (.inl rfl) e⟩
 | tup xs=>obtain ⟨z,its,n,r,e⟩:=x;exact ⟨z,its,n,r,k _ _ (.inl rfl) e⟩
 | dK xM=>obtain ⟨z,y,vs,r,ob,es,ep,e,c⟩:=x;exact ⟨z,y,vs,r,ob,es,ep,k _ _ (.inl rfl) e,c⟩
 | dT xM =>
   obtain ⟨z,y,xs,r,ob,es,ep,e,c⟩:=x;exact ⟨z,y,xs,NY.mapP r fun p q z=>⟨z.1,ht _ _ z.2.1,z.2.2⟩,ob,es,ep,k _ _ (.inl rfl) e,c⟩
 | set S n=>obtain ⟨ob,es,ep,t,e,c⟩:=x;exact ⟨ob,es,ep,t,k _ _ (.inl rfl) e,c⟩
 | ins C dx fs =>
   obtain ⟨d,z,ne,e,mA,⟨od,es,ep,e2,c⟩,r⟩:=x;exact ⟨ho _ d,z,ne,k _ _ (.inl rfl) e,mA,⟨od,es,ep,k _ _ (.inr d) e2,c⟩,r⟩
 | own y=>obtain ⟨ob,e⟩:=x;exact ⟨ob,k _ _ (.inl rfl) e⟩
 | xd fs=>obtain ⟨mA,⟨od,es,ep,e,c⟩,r⟩:=x;exact ⟨mA,⟨od,es,ep,k _ _ (.inl rfl) e,c⟩,r⟩
 | rng lo hi=>obtain ⟨t,u,v,e⟩:=x;exact ⟨t,u,v,k _ _ (.inl rfl) e⟩
 | frz ob u ih=>obtain ⟨e,q⟩:=x;exact ⟨k _ _ (.inl rfl) e,ih q⟩
 | tbl ps =>
   have e:h.get? a=some { cls:=.none,data:=.fields ps }:=x;show h'.get? a=some { cls:=.none,data:=.fields ps };exact k a _ (.inl rfl) e
 | met f y =>
   have e:h.get? a=some (RP (.ref f) (.ref y)):=x;show h'.get? a=some (RP (.ref f) (.ref y));exact k a _ (.inl rfl) e
 | ext φ=>obtain ⟨p,⟨o,e⟩,st⟩:=x;exact ⟨st _ _ p fun o q=>k _ _ (.inl rfl) q,⟨o,k _ _ (.inl rfl) e⟩,st⟩
theorem HOk.lt (x:HOk P w H h) (e:H a=some o):a<h.objs.size:=(x a o e).lt
theorem HOk.fresh (x:HOk P w H h) (e:h.objs.size<=a):H a=none:=by
 cases q:H a with
 | none=>rfl
 | some u=>exact absurd (NL (x.lt q) e) (Ou _)
theorem HOk.kept (x:HOk P w H h) (k:∀ b u,h.get? b=some u->h'.get? b=some u):HOk P w H h':=fun a o e =>
 (x a o e).stay (fun b u _ q=>k b u q) (fun _ q=>q) fun _ _ q=>q
theorem HOk.laid (x:HOk P w H h) (k:∀ b u,h.get? b=some u->h'.get? b=some u) (hp:h.objs.size<=a) (new:ObjOk P w (upd H a o) h' a o):HOk P w (upd H a o) h':=fun b u e=>by
 have hn:=x.fresh hp;by_cases hb:b=a
 · subst hb;rw [ac] at e;cases e;exact new
 · rw [aq hb] at e;exact (x b u e).stay (fun c v _ q=>k c v q) (fun c q=>by rw [aq (aK q hn)];exact q) fun c xs q=>by rw [aq (aK q hn)];exact q
end
def Rd (H:Hp) (a:M5) (u:HO):Prop:=H a=some u∨∃ o,H a=some (.frz o u)
theorem Rd.ok {P:NC} {w:NP} {H:Hp} {h:Oo} {a:M5} {u:HO} (r:Rd H a u) (x:HOk P w H h):ObjOk P w H h a u:=by
 rcases r with r | ⟨o,r⟩
 · exact x a u r
 · obtain ⟨_,q⟩:=x a _ r;exact q
def Mut:Option HO->Prop
 | some (.lst _)=>True
 | some (.dK _)=>True
 | some (.dT _)=>True
 | some (.set _ _)=>True
 | some (.ins _ _ _)=>True
 | some (.ext _)=>True
 | _=>False
section
variable {P:NC} {w:NP} {H:Hp} {h h':Oo} {x e:M5} {o':HO}
theorem HOk.write (ok:HOk P w H h) (mu:Mut (H x)) (he:e=x∨H e=some (.own x)) (k:∀ b u,b≠e->h.get? b=some u->h'.get? b=some u) (B':∃ u,h'.get? e=some u)
 (new:ObjOk P w (upd H x o') h' x o'):HOk P w (upd H x o') h':=fun b u q=>by
 have CI:∀ c y,H c=some (.own y)->c≠x:=fun c y r z=>by subst z;rw [r] at mu;exact mu
 have E4:∀ c xs,H c=some (.tup xs)->c≠x:=fun c xs r z=>by subst z;rw [r] at mu;exact mu
 by_cases hb:b=x
 · subst hb;rw [ac] at q;cases q;exact new
 · rw [aq hb] at q;by_cases Ax:b=e
   · have q':H b=some (.own x):=by
      rcases he with z | z
      · exact absurd (Ax.trans z) hb
      · rw [Ax];exact z
     rw [q] at q';cases q';obtain ⟨v,hv⟩:=B';exact ⟨v,by rw [Ax];exact hv⟩
   · refine (ok b u q).stay (fun c v hc r=>k c v ?_ r) (fun c r=>by rw [aq (CI c b r)];exact r) fun c xs r=>by rw [aq (E4 c xs r)];exact r
     rcases hc with rfl | hc
     · exact Ax
     · rintro rfl;rcases he with z | z
       · exact CI c b hc z
       · rw [hc] at z;cases z;exact hb rfl
end
structure Un (fs ex:List M5) (H H':Hp) (h h':Oo):Prop where
 keep:∀ b o,h.get? b=some o->H b=none->b∉fs->b∉ex->h'.get? b=some o
 slot:∀ b o,h.get? b=some o->H b=none->b∈fs->b∉ex->∃ sl,h'.get? b=some { o with slots:=sl }
 free:∀ b o,h.get? b=some o->H b=none->b∉ex->H' b=none
 there:∀ b o,h.get? b=some o->b∉ex->∃ o',h'.get? b=some o'
 tups:∀ b xs,H b=some (.tup xs)->H' b=some (.tup xs)
 frzs:∀ b o u,H b=some (.frz o u)->H' b=some (.frz o u)
 tbls:∀ b ps,H b=some (.tbl ps)->∃ more,H' b=some (.tbl (ps++more))
section
variable {fs Ca ex Ef:List M5} {H H1 H2:Hp} {h h1 h2 h':Oo} {a x e:M5} {o:HO}
theorem Un.any (u:Un fs ex H H1 h h1) {b:M5} {ob:Pb} (q:h.get? b=some ob) (n:H b=none) (hx:b∉ex):∃ sl,h1.get? b=some { ob with slots:=sl }:=by
 by_cases hb:b∈fs
 · exact u.slot b ob q n hb hx
 · exact ⟨ob.slots,u.keep b ob q n hb hx⟩
theorem Un.kept (k:∀ b u,h.get? b=some u->h'.get? b=some u):Un fs ex H H h h' :=
 ⟨fun b ob q _ _ _=>k b ob q,fun b ob q _ _ _=>⟨ob.slots,k b ob q⟩,fun _ _ _ n _=>n,fun b ob q _=>⟨ob,k b ob q⟩,fun _ _ q=>q,fun _ _ _ q=>q,fun _ ps q=>⟨#[],by rw [q];simp⟩⟩
theorem Un.refl:Un fs ex H H h h:=Un.kept fun _ _ q=>q
theorem Un.laid (k:∀ b u,h.get? b=some u->h'.get? b=some u) (hp:h.objs.size<=a) (hn:H a=none):Un fs ex H (upd H a o) h h' where
 keep:=fun b u q _ _ _=>k b u q
 slot:=fun b u q _ _ _=>⟨u.slots,k b u q⟩
 free:=fun b u q n _=>by rw [aq (NQ (NL (Np q) hp))];exact n
 there:=fun b u q _=>⟨u,k b u q⟩
 tups:=fun b xs q=>by rw [aq (aK q hn)];exact q
 frzs:=fun b u xs q=>by rw [aq (aK q hn)];exact q
 tbls:=fun b ps q=>⟨#[],by rw [aq (aK q hn),q];simp⟩
theorem Un.write (mu:Mut (H x)) (he:e=x∨H e=some (.own x)) (k:∀ b u,b≠e->h.get? b=some u->h'.get? b=some u) (B':∃ u,h'.get? e=some u):Un fs ex H (upd H x o) h h':=by
 have hx:∀ b,H b=none->b≠x:=fun b n z=>by subst z;rw [n] at mu;exact mu
 have hb:∀ b,H b=none->b≠e:=fun b n z=>by
  subst z;rcases he with r | r
  · exact hx b n r
  · rw [n] at r;cases r
 have hm:∀ b u,H b=some u->¬ Mut (some u)->b≠x:=fun b u q nm z=>by subst z;rw [q] at mu;exact nm mu
 refine ⟨fun b u q n _ _=>k b u (hb b n) q,fun b u q n _ _=>⟨u.slots,k b u (hb b n) q⟩,fun b u q n _=>by rw [aq (hx b n)];exact n,fun b u q _=>?_,
  fun b xs q=>by rw [aq (hm b _ q fun z=>z)];exact q,fun b u xs q=>by rw [aq (hm b _ q fun z=>z)];exact q,fun b ps q=>⟨#[],by rw [aq (hm b _ q fun z=>z),q];simp⟩⟩
 by_cases Ax:b=e
 · subst Ax;exact B'
 · exact ⟨u,k b u Ax q⟩
end
def trk (h:Oo) (H:Hp):List M5:=(NU h.objs.size).filter fun a=>(H a).isSome
def lO (h:Oo) (H:Hp):Oo:=PySem.W.hideAll h (trk h H)
theorem pW (h:Oo) (H:Hp):(lO h H).objs.size=h.objs.size:=PySem.W.hideAll_size _ _
theorem qQ {h:Oo} {H:Hp} {b:M5} {o:Pb} (e:h.get? b=some o) (n:H b=none):(lO h H).get? b=some o :=
 PySem.W.hideAll_get _ e fun hm=>by
  have q:(H b).isSome=true:=(List.mem_filter.mp hm).2;rw [n] at q;simp at q
theorem tB {h:Oo} {H:Hp} {b:M5} {o:Pb} (e:(lO h H).get? b=some o):h.get? b=some o/\H b=none:=by
 have e':h.get? b=some o:=PySem.W.of_hideAll (trk h H) e;refine ⟨e',?_⟩;cases q:H b with
 | none=>rfl
 | some x =>
   have hm:b∈trk h H:=List.mem_filter.mpr ⟨Pk.mpr (Np e'),by simp [q]⟩;have z:(lO h H).get? b=none:=PySem.W.hideAll_none (trk h H) hm;rw [z] at e;cases e
end L2
namespace L2
open PySem PySem.Spec PyProof.Rows
structure Mod (K:MY) (mg:Nd->Option M1) (base:Oo):Prop where
 kin:K.In base
 glob:base.Ns NA mg
 blt:∃ mb,base.Ns builtinsNs mb/\∀ x:Nd,x≠"__name__"->mb x=QX x
 nolimit:base.NoLimit
set_option genInjectivity true in
structure Cx where
 prog:NC
 w:NP
 K:MY
 mg:Nd->Option M1
 base:Oo
 A:NT
 N:List Nd
 s₀:M7
 H₀:Hp
 env:Env
 outer:List Env
 stack:List Env
 ex:List M5
 fn:Nd->Bool
 calm:Bool
 pn:List (M5×Pb)
 xe:M1->M7->Prop
def frs (l:List Env):List M5:=l.filterMap (·.frame)
abbrev Cx.fs (X:Cx):List M5:=frs X.outer
def Vis (sc:Qq) (x:Nd):Prop:=sc.names.lookup x=some .local∨sc.names.lookup x=some .cell∨sc.names.lookup x=some .free
def Loc (sc:Qq) (x:Nd):Prop:=sc.names.lookup x=some .local∨sc.names.lookup x=some .cell
def Look (env:Env) (h:Oo) (m:Nd->Option M1) (x:Nd) (u:M1):Prop :=
 (env.kindOf x=some .local/\m x=some u)∨((env.kindOf x=some .cell∨env.kindOf x=some .free)/\∃ c,env.cells.lookup x=some c/\h.IsCell c (some u))
structure Cx.Ok (X:Cx):Prop where
 mod:Mod X.K X.mg X.base
 kind:X.env.scope.kind=.function
 glob:X.env.globals=NA
 blt:X.env.builtins=builtinsNs
 above:X.s₀.heap.objs.size<=X.env.locals
 inj:∀ x y c,X.env.cells.lookup x=some c->X.env.cells.lookup y=some c->x=y
 has:∀ x,(X.env.kindOf x=some .cell∨X.env.kindOf x=some .free)->∃ c,X.env.cells.lookup x=some c
 cab:∀ x c,X.fn x=true->X.env.cells.lookup x=some c->X.s₀.heap.objs.size<=c
 hd:X.calm=true->X.A.handled=none
 frames:X.A.frames=some X.stack
 stk:X.stack=X.outer∨(X.stack=X.env::X.outer/\X.env.frame=some X.env.locals)
 exf:∀ b∈X.ex,b≠X.env.locals/\∀ x c,X.env.cells.lookup x=some c->c≠b
 bs:∀ b o,X.base.get? b=some o->X.s₀.heap.get? b=some o/\X.H₀ b=none
 bsz:X.base.objs.size<=X.s₀.heap.objs.size
 noex:∀ b o,X.base.get? b=some o->b∉X.ex
 exfs:∀ b∈X.ex,b∉X.fs
 funs:X.s₀.heap.FunFrames X.base X.outer
 frf:∀ b∈X.fs,X.H₀ b=none
structure Inv (X:Cx) (pins:List (M5×Pb)) (σ:List (Option V)) (H:Hp) (s:M7):Prop where
 ok:X.Ok
 os:s.os=X.s₀.os
 bare:RH s.gens
 base:Un X.fs X.ex X.H₀ H X.s₀.heap s.heap
 loc:∃ m,s.heap.Ns X.env.locals m/\∀ (i:Nat) (x:Nd) (v:V),X.N[i]?=some x->σ[i]?=some (some v)->Vis X.env.scope x->∃ u,RelV v u/\Look X.env s.heap m x u
 cell:∀ x c,X.env.cells.lookup x=some c->∃ v,s.heap.IsCell c v
 free:H X.env.locals=none
 freeC:∀ x c,X.env.cells.lookup x=some c->H c=none
 pin:∀ p∈X.pn++pins,s.heap.get? p.1=some p.2/\H p.1=none/\p.1≠X.env.locals/\p.1∉X.fs/\∀ v,p.2.data≠.cell v
 hok:HOk X.prog X.w H s.heap
 len:σ.length=X.N.length
section
variable {X:Cx} {pins:List (M5×Pb)} {σ:List (Option V)} {H H':Hp} {s:M7} {h':Oo}
theorem Cx.Ok.nofr (ok:X.Ok) {b:M5} {o:Pb} (e:X.base.get? b=some o):b∉X.fs:=fun hb=>by
 have:=(ok.funs.mem hb).1;rw [e] at this;cases this
theorem Inv.bs (I:Inv X pins σ H s):∀ b o,X.base.get? b=some o->s.heap.get? b=some o/\H b=none:=fun b o e =>
 ⟨I.base.keep b o (I.ok.bs b o e).1 (I.ok.bs b o e).2 (I.ok.nofr e) (I.ok.noex b o e),I.base.free b o (I.ok.bs b o e).1 (I.ok.bs b o e).2 (I.ok.noex b o e)⟩
theorem Inv.bk (I:Inv X pins σ H s):∀ b o,X.base.get? b=some o->s.heap.get? b=some o:=fun b o e=>(I.bs b o e).1
theorem Inv.mod (I:Inv X pins σ H s):Mod X.K X.mg X.base:=I.ok.mod
theorem Inv.kIn (I:Inv X pins σ H s):X.K.In s.heap:=I.ok.mod.kin.keeps I.bk
theorem Inv.lt (I:Inv X pins σ H s):X.env.locals<s.heap.objs.size:=let ⟨_,hn,_⟩:=I.loc;hn.lt
theorem Inv.sz (I:Inv X pins σ H s):X.s₀.heap.objs.size<=s.heap.objs.size:=Ow I.ok.above (Qn I.lt)
theorem Inv.nofs (I:Inv X pins σ H s) {a:M5} (h:s.heap.objs.size<=a):a∉X.fs:=fun hb=>by
 obtain ⟨_,o,ho,_⟩:=I.ok.funs.mem hb;exact absurd (NL (Np ho) (Ow I.sz h)) (Ou _)
theorem Inv.cne (I:Inv X pins σ H s):∀ x c,X.env.cells.lookup x=some c->c≠X.env.locals:=fun x c e z=>by
 obtain ⟨v,o,ho,hd⟩:=I.cell x c e;obtain ⟨m,⟨o',es,ep,yJ,E5,_⟩,_⟩:=I.loc;rw [z,yJ] at ho;cases ho;rw [E5] at hd;cases hd
theorem Inv.funs (I:Inv X pins σ H s):s.heap.FunFrames X.base X.outer:=by
 have all:∀ (l:List Env),(∀ b∈frs l,b∈X.fs)->X.s₀.heap.FunFrames X.base l->s.heap.FunFrames X.base l:=by
  intro l;induction l with
  | nil=>intro _ _;trivial
  | cons env r ih =>
    intro hs hl;obtain ⟨hk,⟨L,o,hf,hn,ho,hd⟩,hr⟩:=hl;have hL:L∈X.fs:=hs L (by unfold frs;rw [PH,hf];exact Nj);obtain ⟨sl,e⟩:=I.base.slot L o ho (I.ok.frf L hL) hL fun z=>I.ok.exfs L z hL;exact ⟨hk,⟨L,_,hf,hn,e,hd⟩,ih (fun b hb=>hs b (by unfold frs;rw [PH,hf];exact Ng _ hb)) hr⟩
 exact all X.outer (fun _ hb=>hb) I.ok.funs
theorem Inv.stack (I:Inv X pins σ H s):s.heap.FunFrames X.base X.stack:=by
 rcases I.ok.stk with e | ⟨e,hf⟩
 · rw [e];exact I.funs
 · rw [e];obtain ⟨m,hn,_⟩:=I.loc;refine .cons (by rw [I.ok.kind];decide) hf hn ?_ I.funs;exact Heap.get?_none_of_le (Ow I.ok.bsz I.ok.above)
theorem Inv.stkSub (I:Inv X pins σ H s):∀ b∈frs X.stack,b∈X.env.locals::X.fs:=fun b hb=>by
 rcases I.ok.stk with e | ⟨e,hf⟩
 · rw [e] at hb;exact Ng _ hb
 · rw [e] at hb;unfold frs at hb;rw [PH,hf] at hb;exact hb
theorem Inv.stkFree (I:Inv X pins σ H s):∀ b∈frs X.stack,H b=none:=fun b hb=>by
 rcases Nb.mp (I.stkSub b hb) with e | hb
 · rw [e];exact I.free
 · obtain ⟨_,o,ho,_⟩:=I.ok.funs.mem hb;exact I.base.free b o ho (I.ok.frf b hb) fun z=>I.ok.exfs b z hb
theorem Inv.step {g':Array GenState} {t':Nat} {d':Drawn} {ch:List M5} (I:Inv X pins σ H s)
 (Ay:∀ b∈ch,(b∈X.ex∨X.s₀.heap.objs.size<=b)/\b≠X.env.locals/\(∀ x c,X.env.cells.lookup x=some c->c≠b)/\∀ p∈X.pn++pins,p.1≠b)
 (keep:∀ b o,b≠X.env.locals->b∉X.fs->b∉ch->s.heap.get? b=some o->H b=none->h'.get? b=some o)
 (slot:∀ b o,b≠X.env.locals->b∈X.fs->b∉ch->s.heap.get? b=some o->H b=none->∃ sl,h'.get? b=some { o with slots:=sl }) (free:∀ b o,b∉ch->s.heap.get? b=some o->H b=none->H' b=none)
 (there:∀ b o,b∉ch->s.heap.get? b=some o->∃ o',h'.get? b=some o')
 (tups:∀ b xs,H b=some (.tup xs)->H' b=some (.tup xs)) (frzs:∀ b o u,H b=some (.frz o u)->H' b=some (.frz o u)) (tbls:∀ b ps,H b=some (.tbl ps)->∃ more,H' b=some (.tbl (ps++more)))
 (ns:∀ m,s.heap.Ns X.env.locals m->h'.Ns X.env.locals m) (hok:HOk X.prog X.w H' h') (hg:RH g') :
 Inv X pins σ H' { s with heap:=h',gens:=g',drawn:=d',toks:=t' }:=by
 have Hn:∀ b o,X.s₀.heap.get? b=some o->b≠X.env.locals:=fun b o e=>NQ (NL (Np e) I.ok.above)
 have Eg:∀ b o,X.s₀.heap.get? b=some o->b∉X.ex->b∉ch:=fun b o e hx hb=>by
  rcases (Ay b hb).1 with z | z
  · exact hx z
  · exact absurd (NL (Np e) z) (Ou _)
 have cellK:∀ x c,X.env.cells.lookup x=some c->∀ v,s.heap.IsCell c v->h'.IsCell c v:=fun x c e v ⟨o,ho,hd⟩=>by
  have CJ:c∉ch:=fun z=>(Ay c z).2.2.1 x c e rfl;by_cases hc:c∈X.fs
  · obtain ⟨sl,q⟩:=slot c o (I.cne x c e) hc CJ ho (I.freeC x c e);exact ⟨_,q,hd⟩
  · exact ⟨o,keep c o (I.cne x c e) hc CJ ho (I.freeC x c e),hd⟩
 refine ⟨I.ok,I.os,hg,⟨fun b o e n hb hx=>?_,fun b o e n hb hx=>?_,fun b o e n hx=>?_,fun b o e hx=>?_,fun b xs e=>tups b xs (I.base.tups b xs e),fun b o xs e=>frzs b o xs (I.base.frzs b o xs e),fun b ps e=>?_⟩,?_,fun x c e=>?_,?_,fun x c e=>?_,fun p hp=>?_,hok,I.len⟩
 · exact keep b o (Hn b o e) hb (Eg b o e hx) (I.base.keep b o e n hb hx) (I.base.free b o e n hx)
 · obtain ⟨sl,e1⟩:=I.base.slot b o e n hb hx;obtain ⟨Jw,e2⟩:=slot b _ (Hn b o e) hb (Eg b o e hx) e1 (I.base.free b o e n hx);exact ⟨Jw,e2⟩
 · obtain ⟨o',e1⟩:=I.base.there b o e hx;exact free b o' (Eg b o e hx) e1 (I.base.free b o e n hx)
 · obtain ⟨o',e1⟩:=I.base.there b o e hx;exact there b o' (Eg b o e hx) e1
 · obtain ⟨m1,e1⟩:=I.base.tbls b ps e;obtain ⟨m2,e2⟩:=tbls b _ e1;exact ⟨m1++m2,by rw [e2,Array.append_assoc]⟩
 · obtain ⟨m,hn,hl⟩:=I.loc;refine ⟨m,ns m hn,fun i x v e1 e2 e3=>?_⟩;obtain ⟨u,r,l⟩:=hl i x v e1 e2 e3;refine ⟨u,r,?_⟩;rcases l with l | ⟨k,c,e,z⟩
   · exact .inl l
   · exact .inr ⟨k,c,e,cellK x c e _ z⟩
 · obtain ⟨v,z⟩:=I.cell x c e;exact ⟨v,cellK x c e v z⟩
 · obtain ⟨m,⟨o,_,_,ho,_⟩,_⟩:=I.loc;exact free _ o (fun z=>(Ay _ z).2.1 rfl) ho I.free
 · obtain ⟨v,o,ho,hd⟩:=I.cell x c e;exact free c o (fun z=>(Ay c z).2.2.1 x c e rfl) ho (I.freeC x c e)
 · obtain ⟨e,n,ne,nf,d⟩:=I.pin p hp;have CJ:p.1∉ch:=fun z=>(Ay p.1 z).2.2.2 p hp rfl;exact ⟨keep p.1 p.2 ne nf CJ e n,free p.1 p.2 CJ e n,ne,nf,d⟩
theorem Inv.un {t':Nat} (I:Inv X pins σ H s) (u:Un X.fs [] H H' s.heap h') (hok:HOk X.prog X.w H' h'):Inv X pins σ H' { s with heap:=h',toks:=t' }:=by
 obtain ⟨m,⟨o,es,ep,ho,r⟩,_⟩:=id I.loc;obtain ⟨sl,hL⟩:=u.any ho I.free (by simp)
 exact I.step (g':=s.gens) (d':=s.drawn) (ch:=[]) (fun _ z=>nomatch z) (fun b o _ hb _ e n=>u.keep b o e n hb (by simp)) (fun b o _ hb _ e n=>u.slot b o e n hb (by simp)) (fun b o _ e n=>u.free b o e n (by simp)) (fun b o _ e=>u.there b o e (by simp)) u.tups u.frzs u.tbls (fun m' hm=>by
  obtain ⟨o',E6,E7,yJ,r'⟩:=hm;rw [ho] at yJ;cases yJ;exact ⟨_,E6,E7,hL,r'⟩) hok I.bare
theorem Inv.call {g':Array GenState} {t':Nat} {d':Drawn} {ch:List M5} (I:Inv X pins σ H s) (u:Un (frs X.stack) ch H H' s.heap h') (hok:HOk X.prog X.w H' h') (hg:RH g')
 (Ay:∀ b∈ch,(b∈X.ex∨X.s₀.heap.objs.size<=b)/\b≠X.env.locals/\(∀ x c,X.env.cells.lookup x=some c->c≠b)/\∀ p∈X.pn++pins,p.1≠b) :
 Inv X pins σ H' { s with heap:=h',gens:=g',drawn:=d',toks:=t' }:=by
 obtain ⟨m,⟨o,es,ep,ho,r⟩,_⟩:=id I.loc;obtain ⟨sl,hL⟩:=u.any ho I.free fun z=>(Ay _ z).2.1 rfl
 exact I.step (ch:=ch) Ay (fun b o hL hb hc e n=>u.keep b o e n (fun z=>(Nb.mp (I.stkSub b z)).elim hL hb) hc) (fun b o _ _ hc e n=>u.any e n hc) (fun b o hc e n=>u.free b o e n hc) (fun b o hc e=>u.there b o e hc) u.tups u.frzs u.tbls (fun m' hm=>by
  obtain ⟨o',E6,E7,yJ,r'⟩:=hm;rw [ho] at yJ;cases yJ;exact ⟨_,E6,E7,hL,r'⟩) hok hg
theorem Inv.turned {t':Nat} {it:M5} (I:Inv X pins σ H s) (k:∀ b o,b≠it->s.heap.get? b=some o->h'.get? b=some o) (hn:H it=none) (hL:it≠X.env.locals)
 (h1:it∈X.ex∨X.s₀.heap.objs.size<=it) (h2:∀ x c,X.env.cells.lookup x=some c->c≠it) (h3:∀ p∈X.pn++pins,p.1≠it):Inv X pins σ H { s with heap:=h',toks:=t' }:=by
 have CL:∀ b u,H b=some u->b≠it:=fun b u e z=>by rw [z,hn] at e;cases e
 refine I.step (g':=s.gens) (d':=s.drawn) (ch:=[it]) (fun b hb=>?_) (fun b o _ _ hc e _=>k b o (fun z=>hc (by simp [z])) e) (fun b o _ _ hc e _=>⟨o.slots,k b o (fun z=>hc (by simp [z])) e⟩) (fun _ _ _ _ n=>n)
  (fun b o hc e=>⟨o,k b o (fun z=>hc (by simp [z])) e⟩) (fun _ _ e=>e) (fun _ _ _ e=>e) (fun b ps e=>⟨#[],by rw [e];simp⟩) (fun m hm=>?_) (fun b u e=>?_) I.bare
 · have e:b=it:=by simpa using hb
   subst e;exact ⟨h1,hL,h2,h3⟩
 · obtain ⟨o,es,ep,ho,r⟩:=hm;exact ⟨o,es,ep,k _ o (QE hL) ho,r⟩
 · refine (I.hok b u e).stay (fun c v hc q=>k c v ?_ q) (fun _ q=>q) fun _ _ q=>q;rcases hc with z | z
   · rw [z];exact CL b u e
   · exact CL c _ z
theorem Inv.tok (I:Inv X pins σ H s) (t:Nat):Inv X pins σ H { s with toks:=t }:=I.un (h':=s.heap) (t':=t) Un.refl I.hok
theorem Inv.kept {t':Nat} (I:Inv X pins σ H s) (k:∀ b u,s.heap.get? b=some u->h'.get? b=some u):Inv X pins σ H { s with heap:=h',toks:=t' }:=I.un (Un.kept k) (I.hok.kept k)
theorem Inv.laid {a:M5} {o:HO} {t':Nat} (I:Inv X pins σ H s) (k:∀ b u,s.heap.get? b=some u->h'.get? b=some u) (hp:s.heap.objs.size<=a) (new:ObjOk X.prog X.w (upd H a o) h' a o) :
 Inv X pins σ (upd H a o) { s with heap:=h',toks:=t' }:=I.un (Un.laid k hp (I.hok.fresh hp)) (I.hok.laid k hp new)
theorem Inv.write {x e:M5} {o:HO} {t':Nat} (I:Inv X pins σ H s) (mu:Mut (H x)) (he:e=x∨H e=some (.own x)) (k:∀ b u,b≠e->s.heap.get? b=some u->h'.get? b=some u) (B':∃ u,h'.get? e=some u)
 (new:ObjOk X.prog X.w (upd H x o) h' x o):Inv X pins σ (upd H x o) { s with heap:=h',toks:=t' }:=I.un (Un.write mu he k B') (I.hok.write mu he k B' new)
theorem Inv.weak {f':List (Option V)} (I:Inv X pins σ H s) (hl:f'.length=σ.length) (w:∀ (i:Nat) v,f'[i]?=some (some v)->σ[i]?=some (some v)):Inv X pins f' H s :=
 ⟨I.ok,I.os,I.bare,I.base,let ⟨m,hn,yt⟩:=I.loc;⟨m,hn,fun i x v e1 e2 e3=>yt i x v e1 (w i v e2) e3⟩,I.cell,I.free,I.freeC,I.pin,I.hok,hl.trans I.len⟩
theorem Inv.pins_of {yK:List (M5×Pb)} (I:Inv X pins σ H s) (h:∀ p∈yK,s.heap.get? p.1=some p.2/\H p.1=none/\p.1≠X.env.locals/\p.1∉X.fs/\∀ v,p.2.data≠.cell v):Inv X yK σ H s :=
 ⟨I.ok,I.os,I.bare,I.base,I.loc,I.cell,I.free,I.freeC,fun p hp=>(NF.mp hp).elim (fun z=>I.pin p (OS _ z)) (h p),I.hok,I.len⟩
theorem hG {N:List Nd} (hN:N.Nodup) {i j:Nat} {x:Nd} (a:N[i]?=some x) (b:N[j]?=some x):i=j:=by
 obtain ⟨h1,e1⟩:=Nl.mp a;obtain ⟨h2,e2⟩:=Nl.mp b;exact (List.getElem_inj hN).mp (e1.trans e2.symm)
theorem lm {M:Model} {A:NT} {E:M1->M7->Prop} {i:Nat} {x:Nd} {v:V} {u:M1} {Q:Unit->M7->Prop} (I:Inv X pins σ H s) (hN:X.N.Nodup) (hi:X.N[i]?=some x) (hx:Loc X.env.scope x) (r:RelV v u)
 (h:∀ s',Inv X pins (σ.set i (some v)) H s'->(∃ a,PZ a s.heap s'.heap/\(a=X.env.locals∨X.env.cells.lookup x=some a))->Q () s') (hf:X.fn x=true∨X.env.scope.names.lookup x=some .local:=by first | exact .inl rfl | exact .inr rfl | assumption):Nv M A (storeName X.env x u) Q E s:=by
 obtain ⟨m,hn,hl⟩:=id I.loc;have BE:(X.env.scope.kind == .class || (X.env.scope.kind == .module && X.env.locals != X.env.globals))=false:=by rw [I.ok.kind];rfl
 have AG:i<σ.length:=by rw [I.len];exact (Nl.mp hi).1
 have cne:=I.cne
 have tracked:∀ {a:M5} {h':Oo},(∃ o,s.heap.get? a=some o/\H a=none)->PZ a s.heap h'->HOk X.prog X.w H h':=fun {a h'} ha hs b ob e=>by
  obtain ⟨_,_,yU⟩:=ha;refine (I.hok b ob e).stay (fun c w' hc q=>(hs.2 c ?_).trans q) (fun _ q=>q) fun _ _ q=>q;rintro rfl;rcases hc with rfl | hc
  · rw [yU] at e;cases e
  · rw [yU] at hc;cases hc
 rcases hx with hk | hk
 · refine wpAny_storeName_local hk hn (fun h' Eh hs=>?_) BE;obtain ⟨oL,_,_,E8,_⟩:=id hn;refine h _ ⟨I.ok,I.os,I.bare,⟨fun b o e n hb hx=>?_,fun b o e n hb hx=>?_,I.base.free,fun b o e hx=>?_,I.base.tups,I.base.frzs,I.base.tbls⟩,⟨_,Eh,fun j y v' e1 e2 e3=>?_⟩,fun y c e=>?_,I.free,I.freeC,fun p hp=>?_,tracked ⟨oL,E8,I.free⟩ hs,by simpa using I.len⟩ ⟨_,hs,.inl rfl⟩
   · exact (hs.2 b (NQ (NL (Np e) I.ok.above))).trans (I.base.keep b o e n hb hx)
   · obtain ⟨sl,e1⟩:=I.base.slot b o e n hb hx;exact ⟨sl,(hs.2 b (NQ (NL (Np e) I.ok.above))).trans e1⟩
   · obtain ⟨o',e1⟩:=I.base.there b o e hx;exact ⟨o',(hs.2 b (NQ (NL (Np e) I.ok.above))).trans e1⟩
   · by_cases hj:j=i
     · subst hj;rw [hi] at e1;cases e1;rw [Ra AG] at e2;cases e2;exact ⟨u,r,.inl ⟨hk,by simp⟩⟩
     · rw [QI (QE hj)] at e2;obtain ⟨u',r',q⟩:=hl j y v' e1 e2 e3;refine ⟨u',r',?_⟩;rcases q with ⟨k,e⟩ | ⟨k,c,e,z⟩
       · refine .inl ⟨k,?_⟩;have:y≠x:=fun e=>hj (hG hN e1 (e ▸ hi));simp [this,e]
       · exact .inr ⟨k,c,e,z.sameBut hs (cne y c e)⟩
   · obtain ⟨w',z⟩:=I.cell y c e;exact ⟨w',z.sameBut hs (cne y c e)⟩
   · obtain ⟨e,n,ne,nf,d⟩:=I.pin p hp;exact ⟨(hs.2 p.1 ne).trans e,n,ne,nf,d⟩
 · have E9:X.fn x=true:=by
    rcases hf with z | z
    · exact z
    · rw [z] at hk;cases hk
   obtain ⟨c,hc⟩:=I.ok.has x (.inl hk);obtain ⟨w',z⟩:=I.cell x c hc;refine wpAny_storeName_cell I.ok.kind hk hc z (fun h' yE hs=>?_);obtain ⟨oc,Cb,Fb⟩:=id z;refine h { s with heap:=h' } ⟨I.ok,I.os,I.bare,⟨fun b o e n hb hx=>?_,fun b o e n hb hx=>?_,I.base.free,fun b o e hx=>?_,I.base.tups,I.base.frzs,I.base.tbls⟩,⟨m,hn.sameBut hs (QE (cne x c hc)),fun j y v' e1 e2 e3=>?_⟩,fun y c' e=>?_,I.free,I.freeC,fun p hp=>?_,tracked ⟨oc,Cb,I.freeC x c hc⟩ hs,by simpa using I.len⟩ ⟨c,hs,.inr hc⟩
   · exact (hs.2 b (NQ (NL (Np e) (I.ok.cab x c E9 hc)))).trans (I.base.keep b o e n hb hx)
   · obtain ⟨sl,e1⟩:=I.base.slot b o e n hb hx;exact ⟨sl,(hs.2 b (NQ (NL (Np e) (I.ok.cab x c E9 hc)))).trans e1⟩
   · obtain ⟨o',e1⟩:=I.base.there b o e hx;exact ⟨o',(hs.2 b (NQ (NL (Np e) (I.ok.cab x c E9 hc)))).trans e1⟩
   · by_cases hj:j=i
     · subst hj;rw [hi] at e1;cases e1;rw [Ra AG] at e2;cases e2;exact ⟨u,r,.inr ⟨.inl hk,c,hc,yE⟩⟩
     · rw [QI (QE hj)] at e2;obtain ⟨u',r',q⟩:=hl j y v' e1 e2 e3;refine ⟨u',r',?_⟩;rcases q with q | ⟨k,c',e,z'⟩
       · exact .inl q
       · refine .inr ⟨k,c',e,z'.sameBut hs ?_⟩;rintro rfl;exact hj (hG hN e1 (I.ok.inj _ _ _ e hc ▸ hi))
   · by_cases Ei:c'=c
     · subst Ei;exact ⟨_,yE⟩
     · obtain ⟨w2,z2⟩:=I.cell y c' e;exact ⟨w2,z2.sameBut hs Ei⟩
   · obtain ⟨e,n,ne,nf,d⟩:=I.pin p hp;refine ⟨(hs.2 p.1 ?_).trans e,n,ne,nf,d⟩;intro q;rw [q,Cb] at e;have q':oc=p.2:=Nh e;exact d w' (by rw [<- q'];exact Fb)
theorem im {M:Model} {A:NT} {E:M1->M7->Prop} {i:Nat} {x:Nd} {v:V} {u:M1} {Q:Unit->M7->Prop} (I:Inv X pins σ H s) (hN:X.N.Nodup) (hi:X.N[i]?=some x) (hx:Loc X.env.scope x) (r:RelV v u)
 (h:∀ s',Inv X pins (σ.set i (some v)) H s'->Q () s') (hf:X.fn x=true∨X.env.scope.names.lookup x=some .local:=by first | exact .inl rfl | exact .inr rfl | assumption):Nv M A (storeName X.env x u) Q E s :=
 lm I hN hi hx r (fun s' I' _=>h s' I') hf
theorem Inv.call' {s':M7} {ch:List M5} (I:Inv X pins σ H s) (ho:s'.os=s.os) (u:Un (frs X.stack) ch H H' s.heap s'.heap) (hok:HOk X.prog X.w H' s'.heap) (hg:RH s'.gens)
 (Ay:∀ b∈ch,(b∈X.ex∨X.s₀.heap.objs.size<=b)/\b≠X.env.locals/\(∀ x c,X.env.cells.lookup x=some c->c≠b)/\∀ p∈X.pn++pins,p.1≠b):Inv X pins σ H' s':=by
 obtain ⟨h',g',d',t',o'⟩:=s';have e:o'=s.os:=ho;subst e;exact I.call (g':=g') (t':=t') (d':=d') u hok hg Ay
end
abbrev XK:=M1->Option M5->Hp->Prop
abbrev St:=List (Option V)
abbrev VK:=V->Hp->Prop
abbrev TE:=St->Hp->VK->Prop
abbrev TT:=St->Hp->(Bool->Hp->Prop)->Prop
abbrev TA:=St->Hp->(List V->Hp->Prop)->Prop
structure Ends where
 nx:St->Hp->Prop
 rt:VK
 bk:St->Hp->Prop:=fun _ _=>False
 ct:St->Hp->Prop:=fun _ _=>False
abbrev TS:=Ends->St->Hp->Prop
def EP (X:Cx) (pins:List (M5×Pb)) (σ:St) (Q:VK) (u:M1) (s':M7):Prop:=∃ v H',Inv X pins σ H' s'/\RelV v u/\Q v H'
def TP (X:Cx) (pins:List (M5×Pb)) (σ:St) (Q:Bool->Hp->Prop) (b:Bool) (s':M7):Prop:=∃ H',Inv X pins σ H' s'/\Q b H'
def AP (X:Cx) (pins:List (M5×Pb)) (σ:St) (Q:List V->Hp->Prop) (us:List M1) (s':M7):Prop:=∃ vs H',Inv X pins σ H' s'/\Vals vs us/\Q vs H'
def SP (X:Cx) (pins:List (M5×Pb)) (D:Ends) (f:Flow) (s':M7):Prop :=
 match f with
 | .next=>∃ f' H',Inv X pins f' H' s'/\D.nx f' H'
 | .brk=>∃ f' H',Inv X pins f' H' s'/\D.bk f' H'
 | .cont=>∃ f' H',Inv X pins f' H' s'/\D.ct f' H'
 | .ret u=>∃ v f' H',Inv X pins f' H' s'/\RelV v u/\D.rt v H'
def PE (X:Cx) (e:Od) (t:TE):Prop :=
 ∀ (pins:List (M5×Pb)) (s:M7) (σ:St) (H:Hp) (Q:VK),Inv X pins σ H s->t σ H Q->Nv (NI X.prog X.w) X.A (Pn e X.env) (EP X pins σ Q) X.xe s
def PT (X:Cx) (e:Od) (t:TT):Prop :=
 ∀ (pins:List (M5×Pb)) (s:M7) (σ:St) (H:Hp) (Q:Bool->Hp->Prop),Inv X pins σ H s->t σ H Q->Nv (NI X.prog X.w) X.A (isTrue e X.env (Pn e X.env)) (TP X pins σ Q) X.xe s
def PW (X:Cx) (e:Od) (t:TT):Prop :=
 ∀ (whole:Sem M1) (pins:List (M5×Pb)) (s:M7) (σ:St) (H:Hp) (Q:Bool->Hp->Prop),Inv X pins σ H s->t σ H Q->Nv (NI X.prog X.w) X.A (isTrue e X.env whole) (TP X pins σ Q) X.xe s
theorem PW.pt {X:Cx} {e:Od} {t:TT} (h:PW X e t):PT X e t:=h _
def PA (X:Cx) (es:List Od) (t:TA):Prop :=
 ∀ (pos:Qy) (pins:List (M5×Pb)) (s:M7) (σ:St) (H:Hp) (Q:List V->Hp->Prop),Inv X pins σ H s->t σ H Q->Nv (NI X.prog X.w) X.A (spliced (QG pos (NV es X.env))) (AP X pins σ Q) X.xe s
def PS (X:Cx) (st:OP) (t:TS):Prop :=
 ∀ (pins:List (M5×Pb)) (s:M7) (σ:St) (H:Hp) (D:Ends),Inv X pins σ H s->t D σ H->Nv (NI X.prog X.w) X.A (exec st X.env) (SP X pins D) X.xe s
def PSs (X:Cx) (st:List OP) (t:TS):Prop :=
 ∀ (pins:List (M5×Pb)) (s:M7) (σ:St) (H:Hp) (D:Ends),Inv X pins σ H s->t D σ H->Nv (NI X.prog X.w) X.A (execs st X.env) (SP X pins D) X.xe s
theorem thn {α:Type} {t:Sem α} {Q Q':α->M7->Prop} {M:Model} {A:NT} {E:M1->M7->Prop} {s:M7} (h:Nv M A t Q E s) (hQ:∀ a s,Q a s->Q' a s):Nv M A t Q' E s:=OM h hQ fun _ _ x=>x
end L2
namespace L2
open PySem PySem.Spec PyProof.Rows
section
variable {X:Cx}
inductive uj (i:Nat) (σ:St) (H:Hp) (Q:VK):Prop
 | mk (v:_) (xB:σ[i]?=some (some v)) (xC:Q v H):uj i σ H Q
def cx (i:Nat):TE:=uj i
def tC (v:V):TE:=fun _ H Q=>Q v H
theorem vg {i:Nat} {x:Nd} {pos:Qy} (hN:X.N[i]?=some x) (hv:Vis X.env.scope x) (hd:(x == ("__debug__":Nd))=false:=by decide) (zA:(x == ("__classdict__":Nd))=false:=by decide):PE X (.Name x pos) (cx i):=by
 intro pins s σ H Q I h;obtain ⟨v,e,h⟩:=h;obtain ⟨m,hn,hl⟩:=I.loc;obtain ⟨u,r,l⟩:=hl i x v hN e hv;have fin:EP X pins σ Q u s:=⟨v,H,I,r,h⟩;rcases l with ⟨hk,hm⟩ | ⟨hk,c,hc,zt⟩
 · exact Rt (Qb I.ok.kind hk hn hm fin) hd
 · rcases hk with hk | hk
   · exact Rt (wpAny_loadName_cell I.ok.kind hk hc zt fin) hd
   · exact Rt (wpAny_loadName_free I.ok.kind hk hc zt fin zA) hd
theorem ag {i j pos}:PE X (.Constant (.int i) j pos) (tC (.int i)):=fun _ _ _ H _ I h=>wpAny_Constant_int ⟨.int i,H,I.tok _,⟨_,rfl⟩,h⟩
theorem eA {b j pos}:PE X (.Constant (.bool b) j pos) (tC (.bl b)):=fun _ _ _ H _ I h=>Constant_bool ⟨.bl b,H,I,rfl,h⟩
theorem al {x j pos}:PE X (.Constant (.str x) j pos) (tC (.str x)):=fun _ _ _ H _ I h=>PC ⟨.str x,H,I.tok _,⟨_,rfl⟩,h⟩
def Gl (X:Cx) (x:Nd):Prop:=X.env.kindOf x=some .globalImplicit
theorem gN {E:M1->M7->Prop} {pins:List (M5×Pb)} {s:M7} {σ:St} {H:Hp} {x:Nd} {u:M1} {pos:Qy} {Q:M1->M7->Prop} (I:Inv X pins σ H s) (hg:Gl X x) (hm:X.mg x=some u) (h:Q u s)
 (hd:(x == ("__debug__":Nd))=false:=by decide):Nv (NI X.prog X.w) X.A (Pn (.Name x pos) X.env) Q E s :=
 PB I.ok.kind hg (Qw (by rw [I.ok.glob];exact I.mod.glob.keeps I.bk) hm h) hd
theorem gA {E:M1->M7->Prop} {pins:List (M5×Pb)} {s:M7} {σ:St} {H:Hp} {x:Nd} {u:M1} {pos:Qy} {Q:M1->M7->Prop} (I:Inv X pins σ H s) (hg:Gl X x) (hm:X.mg x=none) (hv:QX x=some u) (h:Q u s)
 (hn:x≠"__name__":=by decide) (hd:(x == ("__debug__":Nd))=false:=by decide):Nv (NI X.prog X.w) X.A (Pn (.Name x pos) X.env) Q E s:=by
 obtain ⟨mb,h1,h2⟩:=I.mod.blt;exact PB I.ok.kind hg (Calls.loadGlobal_builtin (by rw [I.ok.glob];exact I.mod.glob.keeps I.bk) hm (by rw [I.ok.blt];exact h1.keeps I.bk) ((h2 x hn).trans hv) h) hd
theorem bV {x:Nd} {v:V} {u:M1} {pos:Qy} (hg:Gl X x) (hm:X.mg x=some u) (r:RelV v u) (hd:(x == ("__debug__":Nd))=false:=by decide):PE X (.Name x pos) (tC v) :=
 fun _ _ _ H _ I h=>gN I hg hm ⟨v,H,I,r,h⟩ hd
theorem fv {x:Nd} {v:V} {u:M1} {pos:Qy} (hg:Gl X x) (hm:X.mg x=none) (hv:QX x=some u) (r:RelV v u) (hn:x≠"__name__":=by decide) (hd:(x == ("__debug__":Nd))=false:=by decide):PE X (.Name x pos) (tC v) :=
 fun _ _ _ H _ I h=>gA I hg hm hv ⟨v,H,I,r,h⟩ hn hd
variable {a b:Od} {ta tb:TE} {pos:Qy}
variable {tA Ej:TT} {rest:List Od}
def wB (t u:TT):TT:=fun σ H Q=>t σ H fun c H1=>if c=true then u σ H1 Q else Q false H1
def tOr (t u:TT):TT:=fun σ H Q=>t σ H fun c H1=>if c=true then Q true H1 else u σ H1 Q
def xi (t:TT):TT:=fun σ H Q=>t σ H fun c H1=>Q (!c) H1
theorem gO (ha:PT X a tA):PW X (.BoolOp .And [a] pos) tA:=by
 intro wh pins s σ H Q I h;refine isTrue_and (thn (ha pins s σ H Q I h) fun c s1 e=>?_);cases c with
 | true=>exact isTrue_and_nil e
 | false=>exact e
theorem ef (ha:PT X a tA):PW X (.BoolOp .Or [a] pos) tA:=by
 intro wh pins s σ H Q I h;refine isTrue_or (thn (ha pins s σ H Q I h) fun c s1 e=>?_);cases c with
 | false=>exact isTrue_or_nil e
 | true=>exact e
theorem jZ (ha:PT X a tA) (hb:PW X (.BoolOp .And (b::rest) pos) Ej):PW X (.BoolOp .And (a::b::rest) pos) (wB tA Ej):=by
 intro wh pins s σ H Q I h;refine isTrue_and (thn (ha pins s σ H _ I h) fun c s1 ⟨H1,I1,q1⟩=>?_);cases c with
 | true=>exact hb wh pins s1 σ H1 Q I1 q1
 | false=>exact ⟨H1,I1,q1⟩
theorem eX (ha:PT X a tA) (hb:PW X (.BoolOp .Or (b::rest) pos) Ej):PW X (.BoolOp .Or (a::b::rest) pos) (tOr tA Ej):=by
 intro wh pins s σ H Q I h;refine isTrue_or (thn (ha pins s σ H _ I h) fun c s1 ⟨H1,I1,q1⟩=>?_);cases c with
 | true=>exact ⟨H1,I1,q1⟩
 | false=>exact hb wh pins s1 σ H1 Q I1 q1
theorem b8 (ha:PT X a tA):PT X (.UnaryOp .Not a pos) (xi tA):=by
 intro pins s σ H Q I h;exact isTrue_not (ha pins s σ H (fun c H1=>Q (!c) H1) I h)
def vT (ta tb:TE):TE:=fun σ H Q=>ta σ H fun x H1=>∃ c,x=.bl c/\if c=true then tb σ H1 Q else Q (.bl false) H1
def wD (ta tb:TE):TE:=fun σ H Q=>ta σ H fun x H1=>∃ c,x=.bl c/\if c=true then Q (.bl true) H1 else tb σ H1 Q
def vZ (ta:TE):TE:=fun σ H Q=>ta σ H fun x H1=>∃ c,x=.bl c/\Q (.bl (!c)) H1
theorem cn {op} {t:TE} (h:PE X a t):PE X (.BoolOp op [a] pos) t:=fun pins s σ H Q I hw=>BoolOp_one (h pins s σ H Q I hw)
theorem ck (ha:PE X a ta) (hb:PE X (.BoolOp .And (b::rest) pos) tb):PE X (.BoolOp .And (a::b::rest) pos) (vT ta tb):=by
 intro pins s σ H Q I h;refine BoolOp_and (thn (ha pins s σ H _ I h) fun v s1 ⟨x,H1,I1,r1,q1⟩=>?_);obtain ⟨c,rfl,q1⟩:=q1;cases r1;refine O0 ?_;cases c with
 | true=>exact hb pins s1 σ H1 Q I1 q1
 | false=>exact ⟨.bl false,H1,I1,rfl,q1⟩
theorem qP (ha:PE X a ta) (hb:PE X (.BoolOp .Or (b::rest) pos) tb):PE X (.BoolOp .Or (a::b::rest) pos) (wD ta tb):=by
 intro pins s σ H Q I h;refine BoolOp_or (thn (ha pins s σ H _ I h) fun v s1 ⟨x,H1,I1,r1,q1⟩=>?_);obtain ⟨c,rfl,q1⟩:=q1;cases r1;refine O0 ?_;cases c with
 | false=>exact hb pins s1 σ H1 Q I1 q1
 | true=>exact ⟨.bl true,H1,I1,rfl,q1⟩
theorem ou (ha:PE X a ta):PE X (.UnaryOp .Not a pos) (vZ ta):=by
 intro pins s σ H Q I h;refine UnaryOp_ (thn (ha pins s σ H _ I h) fun v s1 ⟨x,H1,I1,r1,q1⟩=>?_);obtain ⟨c,rfl,q1⟩:=q1;cases r1;exact not_of (O0 ⟨.bl (!c),H1,I1,rfl,q1⟩)
end
end L2
namespace L2
open PySem PySem.Spec PyProof.Rows
def SqL (K:MY) (H:Hp) (a:M5) (xs:List V):Prop :=
 Rd H a (.lst xs) ∨
  ∃ (o:Pb) (its:Array M1) (n:Nat),K.lookup a=some o/\o.cls=.type "list"/\o.dict=none/\o.data=.seq its n/\its.size<=Ny/\Vals xs its.toList
def SqT (K:MY) (H:Hp) (a:M5) (xs:List V):Prop :=
 Rd H a (.tup xs) ∨
  ∃ (o:Pb) (its:Array M1) (n:Nat),K.lookup a=some o/\o.cls=.type "tuple"/\o.data=.seq its n/\its.size<=Ny/\Vals xs its.toList
def xh:M1->Option V
 | .none=>some .non
 | .bool b=>some (.bl b)
 | .int i _=>some (.int i)
 | .str x _=>some (.str x)
 | .bytes b _=>some (.byt b)
 | .float b _=>some (.flt b)
 | .ref a=>some (.ref a)
 | .type n=>some (.ty n)
 | _=>none
theorem RelV.abs {x:V} {u:M1} (r:RelV x u):xh u=some x:=by
 cases x with
 | non=>cases r;rfl
 | bl _=>cases r;rfl
 | int _=>obtain ⟨t,rfl⟩:=r;rfl
 | str _=>obtain ⟨t,rfl⟩:=r;rfl
 | byt _=>obtain ⟨t,rfl⟩:=r;rfl
 | flt _=>obtain ⟨t,rfl⟩:=r;rfl
 | ref _=>cases r;rfl
 | ty _=>cases r;rfl
theorem RelV.inj {x y:V} {u:M1} (r:RelV x u) (q:RelV y u):x=y:=Nh (r.abs.symm.trans q.abs)
theorem Vals.inj:∀ {xs ys:List V} {us:List M1},Vals xs us->Vals ys us->xs=ys
 | _,_,_,.nil,.nil=>rfl
 | _,_,_,.cons r t,.cons r' t'=>by rw [r.inj r',Vals.inj t t']
section
variable {X:Cx} {pins:List (M5×Pb)} {σ:St} {H:Hp} {s:M7} {a:M5} {xs ys:List V}
theorem SqL.of {K:MY} (h:H a=some (.lst xs)):SqL K H a xs:=.inl (.inl h)
theorem SqT.of {K:MY} (h:H a=some (.tup xs)):SqT K H a xs:=.inl (.inl h)
theorem Inv.list (I:Inv X pins σ H s) (h:SqL X.K H a xs):∃ its:List M1,Vals xs its/\PlainL s.heap a its.toArray/\xs.length<=Ny:=by
 rcases h with h | ⟨o,its,n,hk,hc,hd,hs,hz,r⟩
 · obtain ⟨z,its,n,r,e⟩:=h.ok I.hok;exact ⟨its,r,⟨_,n,e,rfl,rfl,rfl⟩,z⟩
 · refine ⟨its.toList,r,⟨o,n,I.kIn a o hk,hc,hd,by simpa using hs⟩,?_⟩;have e:=r.length;simp only [Nm] at e;omega
theorem Inv.tuple (I:Inv X pins σ H s) (h:SqT X.K H a xs):∃ its:List M1,Vals xs its/\IsTup s.heap a its.toArray/\xs.length<=Ny:=by
 rcases h with h | ⟨o,its,n,hk,hc,hs,hz,r⟩
 · obtain ⟨z,its,n,r,p⟩:=h.ok I.hok;exact ⟨its,r,⟨_,p,rfl,n,rfl⟩,z⟩
 · refine ⟨its.toList,r,⟨o,I.kIn a o hk,hc,n,by simpa using hs⟩,?_⟩;have e:=r.length;simp only [Nm] at e;omega
theorem Inv.list_inj (I:Inv X pins σ H s) (h:SqL X.K H a xs) (h':SqL X.K H a ys):xs=ys:=by
 obtain ⟨its,r,⟨o,n,e,_,_,d⟩,_⟩:=I.list h;obtain ⟨its',r',⟨o',n',e',_,_,d'⟩,_⟩:=I.list h';rw [e] at e';cases e';rw [d] at d';injection d' with d1 _;have:its=its':=by simpa using congrArg RW d1
 subst this;exact r.inj r'
theorem Inv.tuple_inj (I:Inv X pins σ H s) (h:SqT X.K H a xs) (h':SqT X.K H a ys):xs=ys:=by
 obtain ⟨its,r,⟨o,e,_,n,d⟩,_⟩:=I.tuple h;obtain ⟨its',r',⟨o',e',_,n',d'⟩,_⟩:=I.tuple h';rw [e] at e';cases e';rw [d] at d';injection d' with d1 _;have:its=its':=by simpa using congrArg RW d1
 subst this;exact r.inj r'
end
abbrev Cx.wish (X:Cx) (E:M1->M7->Prop):Cx:={ X with xe:=E }
abbrev Cx.nox (X:Cx):Cx:=X.wish fun _ _=>False
theorem Cx.Ok.wish {X:Cx} (ok:X.Ok) (E:M1->M7->Prop):(X.wish E).Ok :=
 ⟨ok.mod,ok.kind,ok.glob,ok.blt,ok.above,ok.inj,ok.has,ok.cab,ok.hd,ok.frames,ok.stk,ok.exf,ok.bs,ok.bsz,ok.noex,ok.exfs,ok.funs,ok.frf⟩
theorem Cx.Ok.unwish {X:Cx} {E:M1->M7->Prop} (ok:(X.wish E).Ok):X.Ok :=
 ⟨ok.mod,ok.kind,ok.glob,ok.blt,ok.above,ok.inj,ok.has,ok.cab,ok.hd,ok.frames,ok.stk,ok.exf,ok.bs,ok.bsz,ok.noex,ok.exfs,ok.funs,ok.frf⟩
section
variable {X:Cx} {pins:List (M5×Pb)} {σ:St} {H:Hp} {s:M7} {E:M1->M7->Prop}
theorem Inv.wish (I:Inv X pins σ H s) (E:M1->M7->Prop):Inv (X.wish E) pins σ H s:=⟨I.ok.wish E,I.os,I.bare,I.base,I.loc,I.cell,I.free,I.freeC,I.pin,I.hok,I.len⟩
theorem Inv.unwish (I:Inv (X.wish E) pins σ H s):Inv X pins σ H s:=⟨I.ok.unwish,I.os,I.bare,I.base,I.loc,I.cell,I.free,I.freeC,I.pin,I.hok,I.len⟩
theorem SP.unwish {D:Ends} {f:Flow} {s':M7} (h:SP (X.wish E) pins D f s'):SP X pins D f s':=by
 cases f with
 | next=>obtain ⟨f',H',I,q⟩:=h;exact ⟨f',H',I.unwish,q⟩
 | brk=>obtain ⟨f',H',I,q⟩:=h;exact ⟨f',H',I.unwish,q⟩
 | cont=>obtain ⟨f',H',I,q⟩:=h;exact ⟨f',H',I.unwish,q⟩
 | ret u=>obtain ⟨v,f',H',I,r,q⟩:=h;exact ⟨v,f',H',I.unwish,r,q⟩
theorem PSs.nox {st:List OP} {t:TS} (h:PSs X.nox st t):PSs X st t:=fun pins s σ H D I hw =>
 OM (h pins s σ H D (I.wish _) hw) (fun _ _ q=>q.unwish) fun _ _ z=>OF z
end
section
variable {X:Cx} {st:OP} {rest:List OP} {t u:TS} {e:Od} {te:TE} {pos:Qy}
def dP:TS:=fun D σ H=>D.nx σ H
def vp (t u:TS):TS:=fun D σ H=>t { D with nx:=u D } σ H
theorem aC:PSs X [] dP:=fun _ _ σ H _ I h=>P1 ⟨σ,H,I,h⟩
theorem ad (h1:PS X st t) (h2:PSs X rest u):PSs X (st::rest) (vp t u):=by
 intro pins s σ H D I h;refine wpAny_execs_cons (thn (h1 pins s σ H { D with nx:=u D } I h) fun f s1 q=>?_);cases f with
 | next =>
   obtain ⟨f',H',I',q⟩:=q;exact h2 pins s1 f' H' D I' q
 | ret v=>exact q
 | brk=>exact q
 | cont=>exact q
theorem af (h1:PS X st t):PSs X [st] t:=by
 intro pins s σ H D I h;refine wpAny_execs_cons (thn (h1 pins s σ H D I h) fun f s1 q=>?_);cases f with
 | next=>exact P1 q
 | ret v=>exact q
 | brk=>exact q
 | cont=>exact q
theorem Inv.quiet {pins:List (M5×Pb)} {σ:St} {H:Hp} {s:M7} (I:Inv X pins σ H s):interactive X.env=false:=by simp [interactive,I.ok.kind]
def qJ (te:TE):TS:=fun D σ H=>te σ H fun _ H1=>D.nx σ H1
theorem bi (he:PE X e te) (hs:swapsWith e none pos.line X.env=pure false:=by rfl):PS X (.Expr e pos) (qJ te):=by
 intro pins s σ H D I h;exact wpAny_Expr_any (thn (he pins s σ H _ I h) fun v s1 ⟨x,H1,I1,r1,q1⟩=>⟨σ,H1,I1,q1⟩) I.quiet hs
def wY (te:TE):TS:=fun D σ H=>te σ H D.rt
theorem ay (he:PE X e te):PS X (.Return (some e) pos) (wY te):=by
 intro pins s σ H D I h;exact wpAny_Return_some (thn (he pins s σ H _ I h) fun v s1 ⟨x,H1,I1,r1,q1⟩=>⟨x,σ,H1,I1,r1,q1⟩)
def v0 (c:TT) (t u:TS):TS:=fun D σ H=>c σ H fun b H1=>if b=true then t D σ H1 else u D σ H1
theorem aQ {c:Od} {a b:List OP} {tc:TT} (hc:PT X c tc) (ha:PSs X a t) (hb:PSs X b u):PS X (.If c a b pos) (v0 tc t u):=by
 intro pins s σ H D I h;refine wpAny_If (thn (hc pins s σ H _ I h) fun d s1 ⟨H1,I1,q1⟩=>?_);cases d with
 | true=>exact ha pins s1 σ H1 D I1 q1
 | false=>exact hb pins s1 σ H1 D I1 q1
def uT:TS:=fun _ _ _=>False
theorem nG:PS X st uT:=fun _ _ _ _ _ _ h=>h.elim
end
abbrev TG:=V->St->Hp->(St->Hp->Prop)->Prop
abbrev TGs:=List V->St->Hp->(St->Hp->Prop)->Prop
def PG (X:Cx) (target:Od) (t:TG):Prop :=
 ∀ (pins:List (M5×Pb)) (s:M7) (σ:St) (H:Hp) (v:V) (u:M1) (Q:St->Hp->Prop),Inv X pins σ H s->RelV v u->t v σ H Q →
   Nv (NI X.prog X.w) X.A (assign target X.env u) (fun _ s'=>∃ f' H',Inv X pins f' H' s'/\Q f' H') X.xe s
def PGs (X:Cx) (ts:List Od) (t:TGs):Prop :=
 ∀ (pins:List (M5×Pb)) (s:M7) (σ:St) (H:Hp) (vs:List V) (us:List M1) (Q:St->Hp->Prop),Inv X pins σ H s->Vals vs us->t vs σ H Q →
   Nv (NI X.prog X.w) X.A (assignInOrder ((QO ts X.env).map (·.2)) us) (fun _ s'=>∃ f' H',Inv X pins f' H' s'/\Q f' H') X.xe s
abbrev rj:=V->V->V->Hp->(Hp->Prop)->Prop
def uS (X:Cx) (t:rj):Prop :=
 ∀ (pins:List (M5×Pb)) (s:M7) (σ:St) (H:Hp) (o i v:V) (ov iv u:M1) (Q:Hp->Prop),Inv X pins σ H s->RelV o ov->RelV i iv->RelV v u->t o i v H Q →
   Nv (NI X.prog X.w) X.A (setItem ov iv u) (fun _ s'=>∃ H',Inv X pins σ H' s'/\Q H') X.xe s
abbrev TIp:=V->V->Hp->VK->Prop
def PIp (X:Cx) (op:Operator) (t:TIp):Prop :=
 ∀ (pins:List (M5×Pb)) (s:M7) (σ:St) (H:Hp) (x y:V) (v u:M1) (Q:VK),Inv X pins σ H s->RelV x v->RelV y u->t x y H Q →
   Nv (NI X.prog X.w) X.A (inplaceOp op v u) (EP X pins σ Q) X.xe s
section
variable {X:Cx} {pos:Qy}
def aE (i:Nat):TG:=fun v σ H Q=>Q (σ.set i (some v)) H
theorem aD {i:Nat} {x:Nd} (hN:X.N.Nodup) (hi:X.N[i]?=some x) (hx:Loc X.env.scope x) (hf:X.fn x=true∨X.env.scope.names.lookup x=some .local:=by first | exact .inl rfl | exact .inr rfl | assumption):PG X (.Name x pos) (aE i):=by
 intro pins s σ H v u Q I r h;exact wpAny_assign_Name (im I hN hi hx r (fun s' I'=>⟨_,H,I',h⟩) hf)
def wG:TGs:=fun vs σ H Q=>vs=[]/\Q σ H
def vG (t:TG) (u:TGs):TGs:=fun vs σ H Q=>∃ v r,vs=v::r/\t v σ H fun f' H'=>u r f' H' Q
theorem d3:PGs X [] wG:=by
 intro pins s σ H vs us Q I r h;obtain ⟨e,h⟩:=h;subst e;cases r;exact assignInOrder_nil ⟨σ,H,I,h⟩
theorem bg {e:Od} {es:List Od} {t:TG} {u:TGs} (h1:PG X e t) (h2:PGs X es u)
 (hs:(QO (e::es) X.env).map (·.2)=assign e X.env::(QO es X.env).map (·.2):=by rfl):PGs X (e::es) (vG t u):=by
 intro pins s σ H vs us Q I r h;obtain ⟨v,vr,e1,h⟩:=h;subst e1;cases r with
 | cons r rr =>
   rw [hs];refine assignInOrder_cons (thn (h1 pins s σ H _ _ _ I r h) fun _ s1 ⟨xZ,H1,I1,q1⟩=>?_);exact h2 pins s1 xZ H1 _ _ Q I1 rr q1
def xf (K:MY) (n:Nat) (t:TGs):TG:=fun v σ H Q=>∃ a xs,v=.ref a/\SqT K H a xs/\xs.length=n/\t xs σ H Q
theorem iS {es:List Od} {k:Nat} {t:TGs} {n:Nat} (hc:X.calm=true) (h:PGs X es t)
 (hn:(QO es X.env).length=n:=by rfl) (xF:(QO es X.env).findIdx? (·.1)=none:=by rfl):PG X (.Tuple es k pos) (xf X.K n t):=by
 intro pins s σ H v u Q I r hw;obtain ⟨a,xs,e1,hq,hl,hw⟩:=hw;subst e1;cases r;obtain ⟨its,rv,ht,hz⟩:=I.tuple hq;refine assign_Tuple_tuple (I.ok.hd hc) ht (by simp [hn,<- hl,rv.length]) xF fun h' hx=>?_;have I1:Inv X pins σ H { s with heap:=h' }:=I.kept (t':=s.toks) fun b o e=>hx b o (NQ (Np e)) e;exact h pins _ σ H xs _ Q I1 (by simpa using rv) hw
def wR (to ti:TE) (t:rj):TG:=fun v σ H Q=>to σ H fun o H1=>ti σ H1 fun i H2=>t o i v H2 fun H3=>Q σ H3
theorem sJ {o i:Od} {to ti:TE} {t:rj} (ho:PE X o to) (hi:PE X i ti) (hs:uS X t)
 (ha:∀ v,assign (.Subscript o i pos) X.env v=(do
  let ov ← holding [v] (Pn o X.env)
  let iv ← holding [v,ov] (Pn i X.env)
  standAt pos
  holding [v,ov,iv] (setItem ov iv v)
  release [v,ov,iv] []):=by intro _;rfl):PG X (.Subscript o i pos) (wR to ti t):=by
 intro pins s σ H v u Q I r h;rw [ha];refine M0 (Po (thn (ho pins s σ H _ I h) fun ov s1 ⟨x,H1,I1,r1,q1⟩=>?_));refine M0 (Po (thn (hi pins s1 σ H1 _ I1 q1) fun iv s2 ⟨y,H2,I2,r2,q2⟩=>?_));refine M0 (wpAny_standAt (M0 (Po (thn (hs pins s2 σ H2 x y v ov iv u _ I2 r1 r2 r q2) fun _ s3 ⟨H3,I3,q3⟩=>?_))));exact wpAny_release ⟨σ,H3,I3,q3⟩
def nS (te:TE) (g:TG):TS:=fun D σ H=>te σ H fun x H1=>g x σ H1 D.nx
theorem jY {tg e:Od} {te:TE} {g:TG} (he:PE X e te) (hg:PG X tg g) (hs:swapsWithSole [tg] e pos.line X.env=pure false:=by rfl) (hw:swappedStores [tg] e X.env=pure none:=by rfl)
 (h1:(QO [tg] X.env).map (·.2)=[assign tg X.env]:=by rfl):PS X (.Assign [tg] e pos) (nS te g):=by
 intro pins s σ H D I h;refine wpAny_Assign_stores (thn (he pins s σ H _ I h) fun v s1 ⟨x,H1,I1,r1,q1⟩=>?_) hs hw;rw [h1];exact thn (hg pins s1 σ H1 x v _ I1 r1 q1) fun _ s2 q=>q
theorem av {i:Nat} {x:Nd} {e:Od} {te:TE} {pos':Qy} (hN:X.N.Nodup) (hi:X.N[i]?=some x) (hx:Loc X.env.scope x) (he:PE X e te) (hs:swapsWith e (some (.Name x pos')) pos.line X.env=pure false:=by rfl) (hf:X.fn x=true∨X.env.scope.names.lookup x=some .local:=by first | exact .inl rfl | exact .inr rfl | assumption) :
 PS X (.Assign [.Name x pos'] e pos) (nS te (aE i)):=by
 intro pins s σ H D I h;refine wpAny_Assign_Name (thn (he pins s σ H _ I h) fun v s1 ⟨y,H1,I1,r1,q1⟩=>?_) hs;exact im I1 hN hi hx r1 (fun s2 I2=>⟨_,H1,I2,q1⟩) hf
def wE (i:Nat) (te:TE) (ti:TIp):TS:=fun D σ H=>∃ x,σ[i]?=some (some x)/\te σ H fun y H1=>ti x y H1 fun z H2=>D.nx (σ.set i (some z)) H2
theorem oX {i:Nat} {x:Nd} {e:Od} {te:TE} {op:Operator} {ti:TIp} {pos':Qy} (hN:X.N.Nodup) (hi:X.N[i]?=some x) (hx:Loc X.env.scope x) (he:PE X e te) (ho:PIp X op ti) (hf:X.fn x=true∨X.env.scope.names.lookup x=some .local:=by first | exact .inl rfl | exact .inr rfl | assumption) :
 PS X (.AugAssign (.Name x pos') op e pos) (wE i te ti):=by
 intro pins s σ H D I h;obtain ⟨v,e1,h⟩:=h;obtain ⟨m,hn,hl⟩:=I.loc;have Ho:Vis X.env.scope x:=by rcases hx with k | k;exact .inl k;exact .inr (.inl k)
 obtain ⟨u,r,l⟩:=hl i x v hi e1 Ho;refine wpAny_AugAssign_Name ?_
 have go:Nv (NI X.prog X.w) X.A (Pn e X.env) (fun w yv=>Nv (NI X.prog X.w) X.A (inplaceOp op u w) (fun r zB=>Nv (NI X.prog X.w) X.A (storeName X.env x r) (fun _=>SP X pins D .next) X.xe zB) X.xe yv) X.xe s:=by
  refine thn (he pins s σ H _ I h) fun w s1 ⟨y,H1,I1,r1,q1⟩=>?_;refine thn (ho pins s1 σ H1 v y u w _ I1 r r1 q1) fun z s2 ⟨zv,H2,I2,r2,q2⟩=>?_;exact im I2 hN hi hx r2 (fun s3 I3=>⟨_,H2,I3,q2⟩) hf
 rcases l with ⟨hk,hm⟩ | ⟨hk,c,hc,zt⟩
 · exact Qb I.ok.kind hk hn hm go
 · rcases hk with hk | hk
   · exact wpAny_loadName_cell I.ok.kind hk hc zt go
   · rcases hx with k | k
     · have:X.env.scope.names.lookup x=some .free:=hk;rw [k] at this;cases this
     · have:X.env.scope.names.lookup x=some .free:=hk;rw [k] at this;cases this
def vM (to ti te:TE) (AH:V->V->Hp->VK->Prop) (Ek:TIp) (AI:rj):TS:=fun D σ H=>to σ H fun o H1=>ti σ H1 fun i H2=>AH o i H2 fun x H3=>te σ H3 fun y H4=>Ek x y H4 fun z H5=>AI o i z H5 fun H6=>D.nx σ H6
def v6 (X:Cx) (t:V->V->Hp->VK->Prop):Prop :=
 ∀ (pins:List (M5×Pb)) (s:M7) (σ:St) (H:Hp) (o i:V) (ov iv:M1) (Q:VK),Inv X pins σ H s->RelV o ov->RelV i iv->t o i H Q →
   Nv (NI X.prog X.w) X.A (Ru ov iv) (EP X pins σ Q) X.xe s
theorem tS {o i e:Od} {to ti te:TE} {AH:V->V->Hp->VK->Prop} {Ek:TIp} {AI:rj} {op:Operator} {AJ:Qy} (ho:PE X o to) (hi:PE X i ti) (hg:v6 X AH) (he:PE X e te) (hp:PIp X op Ek) (hs:uS X AI)
 (ha:∀ ov iv new,augStore i ov iv new=(do holding [new,ov,iv] (setItem ov iv new);release [new,ov,iv] [];pure .next):=by intros;rfl):PS X (.AugAssign (.Subscript o i AJ) op e pos) (vM to ti te AH Ek AI):=by
 intro pins s σ H D I h;refine wpAny_AugAssign_SubscriptAny (thn (ho pins s σ H _ I h) fun ov s1 ⟨x1,H1,I1,r1,q1⟩=>?_) ha;refine thn (hi pins s1 σ H1 _ I1 q1) fun iv s2 ⟨x2,H2,I2,r2,q2⟩=>?_;refine thn (hg pins s2 σ H2 x1 x2 ov iv _ I2 r1 r2 q2) fun old s3 ⟨x3,H3,I3,r3,q3⟩=>?_;refine thn (he pins s3 σ H3 _ I3 q3) fun v s4 ⟨x4,H4,I4,r4,q4⟩=>?_;refine thn (hp pins s4 σ H4 x3 x4 old v _ I4 r3 r4 q4) fun new s5 ⟨x5,H5,I5,r5,q5⟩=>?_;exact thn (hs pins s5 σ H5 x1 x2 x5 ov iv new _ I5 r1 r2 r5 q5) fun _ s6 ⟨H6,I6,q6⟩=>⟨σ,H6,I6,q6⟩
def ipI (f:Int->Int->Int):TIp:=fun x y H Q=>∃ i j,x=.int i/\y=.int j/\Q (.int (f i j)) H
theorem l7:PIp X .Add (ipI fun i j=>i+j):=by
 intro pins s σ H x y v u Q I r1 r2 h;obtain ⟨i,j,e1,e2,q⟩:=h;subst e1;subst e2;obtain ⟨t,rfl⟩:=r1;obtain ⟨t',rfl⟩:=r2;exact iadd_int ⟨.int _,H,I.tok _,⟨_,rfl⟩,q⟩
end
section
variable {X:Cx} {pos:Qy}
def vn (c:TT) (tb:TS):TS:=fun D σ H=>∃ W:Nat->St->Hp->Prop,(∃ m,W m σ H)/\∀ m σ H,W m σ H →
 c σ H fun b H1=>if b=true then ∃ N:St->Hp->Prop,(∀ f' H',N f' H'->∃ m',m'<m/\W m' f' H')/\tb { D with nx:=N,ct:=N,bk:=D.nx } σ H1 else D.nx σ H1
theorem kG {c:Od} {body:List OP} {tc:TT} {tb:TS} (hp:PassesOwn (NI X.prog X.w) X.A X.env X.xe) (hc:PT X c tc) (hb:PSs X body tb):PS X (.While c body [] pos) (vn tc tb):=by
 intro pins s σ H D I h;obtain ⟨W,⟨m0,w0⟩,turn⟩:=h;refine wpAny_While (codeAny_whileLoop (fun n s'=>∃ f' H',Inv X pins f' H' s'/\W n f' H') ?_ m0 ⟨σ,H,I,w0⟩);rintro n s1 ⟨xZ,H1,I1,w1⟩;refine OD hp (thn (hc pins s1 xZ H1 _ I1 (turn n xZ H1 w1)) fun b s2 ⟨H2,I2,q2⟩=>?_);cases b with
 | true =>
   obtain ⟨N,hN,q2⟩:=q2;rw [if_pos rfl];refine OD hp (thn (hb pins s2 xZ H2 _ I2 q2) fun f s3 q3=>?_);cases f with
   | next =>
     obtain ⟨yV,H3,I3,n3⟩:=q3;obtain ⟨m',hm,w3⟩:=hN yV H3 n3;exact ⟨m',hm,yV,H3,I3,w3⟩
   | cont =>
     obtain ⟨yV,H3,I3,n3⟩:=q3;obtain ⟨m',hm,w3⟩:=hN yV H3 n3;exact ⟨m',hm,yV,H3,I3,w3⟩
   | brk=>exact q3
   | ret v=>exact q3
 | false =>
   rw [if_neg Nt];exact P1 ⟨xZ,H2,I2,q2⟩
end
structure It where
 go:Nat->Hp->Prop
 yld:Nat->Hp->V->Hp->Prop
 stop:Nat->Hp->Prop
def gB (X:Cx) (pins:List (M5×Pb)) (H:Hp) (b:M5):Prop :=
 H b=none/\b≠X.env.locals/\b∉X.fs/\(b∈X.ex∨X.s₀.heap.objs.size<=b)/\(∀ x c,X.env.cells.lookup x=some c->c≠b)/\∀ p∈X.pn++pins,p.1≠b
theorem Inv.fpOk {X:Cx} {pins:List (M5×Pb)} {σ:St} {H H':Hp} {s:M7} {b:M5} (I:Inv X pins σ H s) (hb:s.heap.objs.size<=b) (hn:H' b=none):gB X pins H' b:=by
 refine ⟨hn,PM (NL I.lt hb),I.nofs hb,.inr (Ow I.sz hb),fun x c e z=>?_,fun p hp z=>?_⟩
 · obtain ⟨v,q⟩:=I.cell x c e;exact absurd (NL q.lt (by rw [z];exact hb)) (Ou _)
 · exact absurd (NL (Np (I.pin p hp).1) (by rw [z];exact hb)) (Ou _)
structure Turn (P:NC) (w:NP) (K:MY) (tg:Od) (J:It) (fp:List M5) (it:M5) (tn:Nat->Oo->Prop):Prop where
 mem:it∈fp
 obj:∀ i h,tn i h->∀ b∈fp,∃ o,h.get? b=some o/\∀ v,o.data≠.cell v
 keep:∀ i h h',tn i h->(∀ b∈fp,∀ o,h.get? b=some o->h'.get? b=some o)->tn i h'
 item:∀ (X:Cx),X.prog=P->X.w=w->X.K=K->X.calm=true->∀ (i:Nat) (pins:List (M5×Pb)) (s:M7) (σ:St) (H:Hp) (E:M1->M7->Prop),Inv X pins σ H s->(∀ b∈fp,gB X pins H b)->tn i s.heap->J.go i H →
  Nv (NI P w) X.A (pyNext (.ref it)) (fun r s1=>∃ u,r=some u ∧
   Nv (NI P w) X.A (Rz tg (.ref it) u) (fun _ s2=>∃ x H',Inv X pins σ H' s2/\RelV x u/\J.yld i H x H'/\tn (i+1) s2.heap/\∀ b∈fp,H' b=none) E s1) E s
 done:∀ (X:Cx),X.prog=P->X.w=w->X.K=K->X.calm=true->∀ (i:Nat) (pins:List (M5×Pb)) (s:M7) (σ:St) (H:Hp) (E:M1->M7->Prop),Inv X pins σ H s->(∀ b∈fp,gB X pins H b)->tn i s.heap->J.stop i H →
  Nv (NI P w) X.A (pyNext (.ref it)) (fun r s1=>r=none/\Inv X pins σ H s1) E s
 self:∀ (A:NT) (i:Nat) (s:M7) (Q:M1->M7->Prop) (E:M1->M7->Prop),tn i s.heap->Q (.ref it) s->Nv (NI P w) A (pyIter (.ref it)) Q E s
abbrev TI:=St->Hp->(It->Hp->Prop)->Prop
def PIE (X:Cx) (pins:List (M5×Pb)) (σ:St) (tg:Od) (R:It->Hp->Prop) (El:M1) (s2:M7):Prop :=
 ∃ (it:M5) (fp:List M5) (tn:Nat->Oo->Prop) (J:It) (H':Hp),El=.ref it/\Inv X pins σ H' s2/\Turn X.prog X.w X.K tg J fp it tn/\tn 0 s2.heap/\(∀ b∈fp,gB X pins H' b)/\R J H'
def PI (X:Cx) (tg iter:Od) (wi:TI):Prop :=
 ∀ (pins:List (M5×Pb)) (s:M7) (σ:St) (H:Hp) (R:It->Hp->Prop),Inv X pins σ H s->wi σ H R →
   Nv (NI X.prog X.w) X.A (Pn iter X.env) (fun v s1=>Nv (NI X.prog X.w) X.A (pyIter v) (PIE X pins σ tg R) X.xe s1) X.xe s
theorem jN {M:Model} {A:NT} {E:M1->M7->Prop} {s:M7} {tg:Od} {it:M5} {u:M1} {o:Pb} {n:String} {vs:Array M1} {Q:Unit->M7->Prop} (ho:s.heap.get? it=some o) (hc:o.cls=.type n) (hd:o.data=.fields vs)
 (hn:["enumerate","zip","dict_itemiterator","dict_reverseitemiterator","odict_iterator","itertools.zip_longest","itertools.pairwise"].contains n=false) (hQ:Q () s):Nv M A (Rz tg (.ref it) u) Q E s:=by
 unfold Rz
 cases tg <;> first
  | exact Nk hQ
  | (cases u <;> first
   | exact Nk hQ
   | (refine M0 (wpAny_load ho ?_)
      rw [hc,hd];show Nv M A (if (["enumerate","zip","dict_itemiterator","dict_reverseitemiterator","odict_iterator","itertools.zip_longest","itertools.pairwise"].contains n && vs[0]? == some (RK _))=true then _ else _) Q E s;rw [if_neg (by intro h;rw [hn,Rr] at h;cases h)];exact Nk hQ))
def Itl (K:MY) (a:M5):It :=
 ⟨fun i H=>∃ xs x,SqL K H a xs/\xs[i]?=some x,fun i H x H'=>H'=H/\∀ xs,SqL K H a xs->xs[i]?=some x,fun i H=>∃ xs,SqL K H a xs/\xs.length<=i⟩
def Itt (K:MY) (a:M5):It :=
 ⟨fun i H=>∃ xs x,SqT K H a xs/\xs[i]?=some x,fun i H x H'=>H'=H/\∀ xs,SqT K H a xs->xs[i]?=some x,fun i H=>∃ xs,SqT K H a xs/\xs.length<=i⟩
def Itr (lo:Int) (n:Nat):It:=⟨fun i _=>i<n,fun i H x H'=>H'=H/\x=.int (lo+i),fun i _=>n<=i⟩
theorem lw {P:NC} {w:NP} {K:MY} {tg:Od} (a it:M5):Turn P w K tg (Itl K a) [it] it (fun i h=>h.IsListIter it a i) where
 mem:=by simp
 obj:=fun i h st b hb=>by
  have e:b=it:=by simpa using hb
  subst e;obtain ⟨o,e,c,d⟩:=st;exact ⟨o,e,fun v z=>by rw [d] at z;cases z⟩
 keep:=fun i h h' st k=>st.at fun o e=>k it (by simp) o e
 item:=by
  intro X hP hw hK hc i pins s σ H E I hf st hg;subst hP hw hK;obtain ⟨xs,x,hq,hx⟩:=hg;obtain ⟨its,rv,p,hz⟩:=I.list hq;obtain ⟨u,hu,ru⟩:=rv.get hx;obtain ⟨f0,f1,f2,f3,f4,f5⟩:=hf it (by simp);refine wpAny_pyNext_list_item st p.isList (x:=u) (by simpa using hu) fun h' yp sb=>?_;have I1:Inv X pins σ H { s with heap:=h' }:=I.turned (t':=s.toks) (fun b o hb e=>(sb.2 b hb).trans e) f0 f1 f3 f4 f5;obtain ⟨o,e,c,d⟩:=id yp;exact ⟨u,rfl,jN (s:={ s with heap:=h' }) e c d (by decide) ⟨x,H,I1,ru,⟨rfl,fun ys hy=>by rw [I.list_inj hy hq];exact hx⟩,yp,fun b hb=>(hf b hb).1⟩⟩
 done:=by
  intro X hP hw hK hc i pins s σ H E I hf st hg;subst hP hw hK;obtain ⟨xs,hq,hx⟩:=hg;obtain ⟨its,rv,p,hz⟩:=I.list hq;obtain ⟨f0,f1,f2,f3,f4,f5⟩:=hf it (by simp);have hl:=rv.length;exact wpAny_pyNext_list_end (I.ok.hd hc) st p.isList (by simp;omega) fun h' eb=>⟨rfl,I.turned (t':=s.toks) (fun b o hb e=>eb b o hb e) f0 f1 f3 f4 f5⟩
 self:=fun _ _ _ _ _ st h=>wpAny_pyIter_listiter st h
theorem j0 {P:NC} {w:NP} {K:MY} {tg:Od} (a it:M5):Turn P w K tg (Itt K a) [it] it (fun i h=>h.IsTupleIter it a i) where
 mem:=by simp
 obj:=fun i h st b hb=>by
  have e:b=it:=by simpa using hb
  subst e;obtain ⟨o,e,c,d⟩:=st;exact ⟨o,e,fun v z=>by rw [d] at z;cases z⟩
 keep:=fun i h h' st k=>st.at fun o e=>k it (by simp) o e
 item:=by
  intro X hP hw hK hc i pins s σ H E I hf st hg;subst hP hw hK;obtain ⟨xs,x,hq,hx⟩:=hg;obtain ⟨its,rv,p,hz⟩:=I.tuple hq;obtain ⟨u,hu,ru⟩:=rv.get hx;obtain ⟨f0,f1,f2,f3,f4,f5⟩:=hf it (by simp);refine wpAny_pyNext_tuple_item st (show s.heap.IsTuple a its.toArray from p) (x:=u) (by simpa using hu) fun h' yp sb=>?_;have I1:Inv X pins σ H { s with heap:=h' }:=I.turned (t':=s.toks) (fun b o hb e=>(sb.2 b hb).trans e) f0 f1 f3 f4 f5;obtain ⟨o,e,c,d⟩:=id yp;exact ⟨u,rfl,jN (s:={ s with heap:=h' }) e c d (by decide) ⟨x,H,I1,ru,⟨rfl,fun ys hy=>by rw [I.tuple_inj hy hq];exact hx⟩,yp,fun b hb=>(hf b hb).1⟩⟩
 done:=by
  intro X hP hw hK hc i pins s σ H E I hf st hg;subst hP hw hK;obtain ⟨xs,hq,hx⟩:=hg;obtain ⟨its,rv,p,hz⟩:=I.tuple hq;obtain ⟨f0,f1,f2,f3,f4,f5⟩:=hf it (by simp);have hl:=rv.length;exact wpAny_pyNext_tuple_end (I.ok.hd hc) st (show s.heap.IsTuple a its.toArray from p) (by simp;omega) fun h' eb=>⟨rfl,I.turned (t':=s.toks) (fun b o hb e=>eb b o hb e) f0 f1 f3 f4 f5⟩
 self:=fun _ _ _ _ _ st h=>wpAny_pyIter_tupleiter st h
theorem n8 {P:NC} {w:NP} {K:MY} {tg:Od} (it:M5) (lo:Int) (n:Nat):Turn P w K tg (Itr lo n) [it] it (fun i h=>IsRangeIter h it (lo+(i:Nat) * 1) ((n:Int) - (i:Nat)) 1) where
 mem:=by simp
 obj:=fun i h st b hb=>by
  have e:b=it:=by simpa using hb
  subst e
  exact ⟨_,st,fun v z=>by
   have z':Data.fields _=Data.cell v:=z;cases z'⟩
 keep:=fun i h h' st k=>k it (by simp) _ st
 item:=by
  intro X hP hw hK hc i pins s σ H E I hf st hg;subst hP hw hK;obtain ⟨f0,f1,f2,f3,f4,f5⟩:=hf it (by simp);have W:=Walks.range (prog:=X.prog) (w:=X.w) (I.ok.hd hc) it lo 1 n;refine W.item i s _ _ hg st fun v h' tk hv yp kk=>?_;obtain ⟨t,rfl⟩:=hv;have I1:Inv X pins σ H { s with heap:=h',toks:=tk }:=I.turned (fun b o hb e=>kk b o (by simpa using hb) e) f0 f1 f3 f4 f5;refine ⟨_,rfl,jN (s:={ s with heap:=h',toks:=tk }) (n:="range_iterator") yp rfl rfl (by decide) ⟨.int (lo+i),H,I1,⟨t,?_⟩,⟨rfl,rfl⟩,yp,fun b hb=>(hf b hb).1⟩⟩;rw [Int.mul_one]
 done:=by
  intro X hP hw hK hc i pins s σ H E I hf st hg;subst hP hw hK;obtain ⟨f0,f1,f2,f3,f4,f5⟩:=hf it (by simp);exact wpAny_pyNext_range_end (I.ok.hd hc) st (by have:n<=i:=hg;omega) fun h' eb=>⟨rfl,I.turned (t':=s.toks) (fun b o hb e=>eb b o hb e) f0 f1 f3 f4 f5⟩
 self:=fun _ _ _ _ _ st h=>wpAny_pyIter_rangeiter st h
end L2
namespace L2
open PySem PySem.Spec PyProof.Rows
section
variable {X:Cx} {tg:Od}
def vK (K:MY) (tl:TE):TI:=fun σ H R=>tl σ H fun x H1=>∃ a,x=.ref a/\(∃ xs,SqL K H1 a xs)/\R (Itl K a) H1
def w6 (K:MY) (tl:TE):TI:=fun σ H R=>tl σ H fun x H1=>∃ a,x=.ref a/\(∃ xs,SqT K H1 a xs)/\R (Itt K a) H1
theorem d2 {l:Od} {tl:TE} (hl:PE X l tl):PI X tg l (vK X.K tl):=by
 intro pins s σ H R I h;refine thn (hl pins s σ H _ I h) fun v s1 ⟨x,H1,I1,r1,q1⟩=>?_;obtain ⟨a,e,⟨xs,hq⟩,q⟩:=q1;subst e;cases r1;obtain ⟨its,rv,p,hz⟩:=I1.list hq;refine Rb p.isList ?_;refine ⟨s1.heap.objs.size,[s1.heap.objs.size],_,_,H1,rfl,I1.kept (t':=s1.toks) fun b o e=>M6 _ e,lw a _,⟨_,Nf _ rfl,rfl,rfl⟩,fun b hb=>?_,q⟩;have e:b=s1.heap.objs.size:=by simpa using hb
 subst e;exact I1.fpOk (M8 _) (I1.hok.fresh (M8 _))
theorem io {l:Od} {tl:TE} (hl:PE X l tl):PI X tg l (w6 X.K tl):=by
 intro pins s σ H R I h;refine thn (hl pins s σ H _ I h) fun v s1 ⟨x,H1,I1,r1,q1⟩=>?_;obtain ⟨a,e,⟨xs,hq⟩,q⟩:=q1;subst e;cases r1;obtain ⟨its,rv,p,hz⟩:=I1.tuple hq;refine Q2 (show s1.heap.IsTuple a its.toArray from p) ?_;refine ⟨s1.heap.objs.size,[s1.heap.objs.size],_,_,H1,rfl,I1.kept (t':=s1.toks) fun b o e=>M6 _ e,j0 a _,⟨_,Nf _ rfl,rfl,rfl⟩,fun b hb=>?_,q⟩;have e:b=s1.heap.objs.size:=by simpa using hb
 subst e;exact I1.fpOk (M8 _) (I1.hok.fresh (M8 _))
theorem rA {pins:List (M5×Pb)} {σ:St} {H:Hp} {s:M7} {R:It->Hp->Prop} {E:M1->M7->Prop} {lo hi:Int} {t u v:Tok} {tk:Nat} (I:Inv X pins σ H s) (h1:-(2 ^ 62)<=lo) (h2:lo<2 ^ 62) (h3:-(2 ^ 62)<=hi) (h4:hi<2 ^ 62)
 (q:R (Itr lo (hi - lo).toNat) H):Nv (NI X.prog X.w) X.A (pyIter (.ref s.heap.objs.size)) (PIE X pins σ tg R) E { s with heap:=s.heap.push { cls:=.type "range",data:=.fields #[.int lo t,.int hi u,.int 1 v] },toks:=tk }:=by
 refine wpAny_pyIter_range (IsRange.new ..) (small_one h1 h2 h3 h4) ?_;have I1:Inv X pins σ H { s with heap:=s.heap.push { cls:=.type "range",data:=.fields #[.int lo t,.int hi u,.int 1 v] },toks:=tk }:=I.kept fun b o e=>M6 _ e
 refine ⟨(s.heap.push { cls:=.type "range",data:=.fields #[.int lo t,.int hi u,.int 1 v] }).objs.size,[(s.heap.push { cls:=.type "range",data:=.fields #[.int lo t,.int hi u,.int 1 v] }).objs.size],_,_,H,rfl,
  I1.kept (t':=tk) fun b o e=>M6 _ e,n8 _ lo (hi - lo).toNat,?_,fun b hb=>?_,q⟩
 · have e1:lo+((0:Nat):Int) * 1=lo:=by simp
   have e2:(((hi - lo).toNat:Nat):Int) - ((0:Nat):Int)=Builtin.Range.rangeSize lo hi 1:=by rw [rangeSize_one];split <;> omega
   show IsRangeIter _ _ (lo+((0:Nat):Int) * 1) ((((hi - lo).toNat:Nat):Int) - ((0:Nat):Int)) 1;rw [e1,e2];exact Nf _ rfl
 · have e:b=(s.heap.push { cls:=.type "range",data:=.fields #[.int lo t,.int hi u,.int 1 v] }).objs.size:=by simpa using hb
   subst e;exact I1.fpOk (M8 _) (I1.hok.fresh (M8 _))
def vW (ta:TA):TI:=fun σ H R=>ta σ H fun vs H1=>∃ j:Int,vs=[.int j]/\-(2 ^ 62)<=j/\j<2 ^ 62/\R (Itr 0 j.toNat) H1
theorem ir {a:Od} {ta:TA} {p pos:Qy} (hg:Gl X "range") (hm:X.mg "range"=none) (ha:PA X [a] ta) (hs:NV [a] X.env=[(false,Pn a X.env)]:=by rfl):PI X tg (.Call (.Name "range" p) [a] [] pos) (vW ta):=by
 intro pins s σ H R I h;refine Call_ (gA I hg hm boot_range (Pd (thn (ha pos pins s σ H _ I h) fun us s1 ⟨vs,H1,I1,r1,q1⟩=>?_) hs rfl));obtain ⟨j,e,q1,q2,q⟩:=q1;subst e;cases r1 with
 | cons r rr =>
   cases rr;obtain ⟨t,rfl⟩:=r;exact call_range_1 (rA I1 (by omega) (by omega) q1 q2 (by simpa using q))
def xl (wi:TI) (g:TG) (tb:TS):TS:=fun D σ H=>wi σ H fun J H1=>∃ W:Nat->Nat->St->Hp->Prop,(∃ m,W 0 m σ H1)/\∀ i m σ H,W i m σ H →
 (J.stop i H/\D.nx σ H)∨(J.go i H/\∃ N:St->Hp->Prop,(∀ f' H',N f' H'->∃ m',m'<m/\W (i+1) m' f' H')/\∀ x H',J.yld i H x H'->g x σ H' fun xD H2=>tb { D with nx:=N,ct:=N,bk:=D.nx } xD H2)
def ix (fp:List M5) (h:Oo):List (M5×Pb):=fp.filterMap fun b=>(h.get? b).map fun o=>(b,o)
theorem ci {fp:List M5} {h:Oo} {b:M5} {o:Pb} (hb:b∈fp) (e:h.get? b=some o):(b,o)∈ix fp h:=RF.mpr ⟨b,hb,by rw [e];rfl⟩
theorem qz {fp:List M5} {h:Oo} {p:M5×Pb} (hp:p∈ix fp h):p.1∈fp/\h.get? p.1=some p.2:=by
 obtain ⟨b,hb,e⟩:=RF.mp hp;cases q:h.get? b with
 | none=>rw [q] at e;cases e
 | some o =>
   rw [q] at e;have e':(b,o)=p:=Nh e;subst e';exact ⟨hb,q⟩
theorem Inv.pinned {pins:List (M5×Pb)} {σ:St} {H:Hp} {s:M7} {fp:List M5} (I:Inv X pins σ H s) (hf:∀ b∈fp,gB X pins H b) (ho:∀ b∈fp,∃ o,s.heap.get? b=some o/\∀ v,o.data≠.cell v):Inv X (pins++ix fp s.heap) σ H s :=
 I.pins_of fun p hp=>(NF.mp hp).elim (fun z=>I.pin p (NJ _ z)) fun z=>by
  obtain ⟨hb,e⟩:=qz z;obtain ⟨f0,f1,f2,_⟩:=hf p.1 hb;obtain ⟨o,e',d⟩:=ho p.1 hb;rw [e] at e';cases e';exact ⟨e,f0,f1,f2,d⟩
theorem Inv.unpinned {pins pl:List (M5×Pb)} {σ:St} {H:Hp} {s:M7} (I:Inv X (pins++pl) σ H s):Inv X pins σ H s:=I.pins_of fun p hp=>I.pin p (NJ _ (OS _ hp))
theorem dD {iter:Od} {body:List OP} {wi:TI} {g:TG} {tb:TS} {pos:Qy} (hp:PassesOwn (NI X.prog X.w) X.A X.env X.xe) (hc:X.calm=true) (hi:PI X tg iter wi) (hg:PG X tg g) (hb:PSs X body tb)
 (hs:∀ x,Rc iter X.env x=pure x:=by intro _;rfl):PS X (.For tg iter body [] pos) (xl wi g tb):=by
 intro pins s σ H D I h;refine wpAny_For (thn (hi pins s σ H _ I h) fun v s1 h1=>thn h1 fun El s2 h2=>?_) hs;obtain ⟨it,fp,tn,J,H2,e,I2,T,BF,f2,W,⟨m0,w0⟩,turn⟩:=h2;subst e
 -- CF stays true of zP BG objects through zP loop
 have yw:∀ {H':Hp},(∀ b∈fp,H' b=none)->∀ b∈fp,gB X pins H' b:=fun hn b hb=>⟨hn b hb,(f2 b hb).2⟩;refine codeAny_forLoop_any (fun n s'=>∃ i f' H',Inv X pins f' H' s'/\tn i s'.heap/\(∀ b∈fp,H' b=none)/\W i n f' H') ?_ m0 ⟨0,σ,H2,I2,BF,fun b hb=>(f2 b hb).1,w0⟩;rintro n s3 ⟨i,yV,H3,I3,CM,Cc,w3⟩;rcases turn i n yV H3 w3 with ⟨stop,qn⟩ | ⟨go,N,hN,step⟩
 · refine OD hp (thn (T.done X rfl rfl rfl hc i pins s3 yV H3 X.xe I3 (yw Cc) CM stop) fun r s4 ⟨hr,I4⟩=>?_);subst hr;exact P1 ⟨yV,H3,I4,qn⟩
 · refine OD hp (thn (T.item X rfl rfl rfl hc i pins s3 yV H3 X.xe I3 (yw Cc) CM go) fun r s4 ⟨u,hr,h4⟩=>?_);subst hr;refine OD hp (thn h4 fun _ s5 ⟨x,H5,I5,r5,y5,Cd,Em⟩=>?_);have Fc:=I5.pinned (yw Em) (T.obj _ _ Cd);refine OD hp (thn (hg _ s5 yV H5 x u _ Fc r5 (step x H5 y5)) fun _ s6 ⟨Jx,H6,I6,q6⟩=>?_);refine OD hp (thn (hb _ s6 Jx H6 _ I6 q6) fun f s7 q7=>?_)
   have again:∀ {yF:St} {H7:Hp},Inv X (pins++ix fp s5.heap) yF H7 s7->N yF H7->∃ m,m<n/\∃ i f' H',Inv X pins f' H' s7/\tn i s7.heap/\(∀ b∈fp,H' b=none)/\W i m f' H':=fun {yF H7} I7 n7=>by
    obtain ⟨m',hm,w7⟩:=hN yF H7 n7;refine ⟨m',hm,i+1,yF,H7,I7.unpinned,T.keep _ _ _ Cd fun b hb o e=>(I7.pin (b,o) (NJ _ (NJ _ (ci hb e)))).1,fun b hb=>?_,w7⟩;obtain ⟨o,e,d⟩:=T.obj _ _ Cd b hb;exact (I7.pin (b,o) (NJ _ (NJ _ (ci hb e)))).2.1
   cases f with
   | next=>obtain ⟨yF,H7,I7,n7⟩:=q7;exact again I7 n7
   | cont=>obtain ⟨yF,H7,I7,n7⟩:=q7;exact again I7 n7
   | brk=>obtain ⟨yF,H7,I7,q7⟩:=q7;exact ⟨yF,H7,I7.unpinned,q7⟩
   | ret v=>obtain ⟨x7,yF,H7,I7,r7,q7⟩:=q7;exact ⟨x7,yF,H7,I7.unpinned,r7,q7⟩
end
theorem kl {K:MY} {a:M5} {xs:List V} {g:TG} {tb:TS} {D:Ends} {σ:St} {H:Hp} (Pv:Nat->St->Hp->Prop) (h0:Pv 0 σ H) (hl:∀ i σ H,i<=xs.length->Pv i σ H->SqL K H a xs)
 (hs:∀ i x σ H,xs[i]?=some x->Pv i σ H->g x σ H fun xD H2=>tb { D with nx:=Pv (i+1),ct:=Pv (i+1),bk:=D.nx } xD H2) (hd:∀ σ H,Pv xs.length σ H->D.nx σ H) :
 ∃ W:Nat->Nat->St->Hp->Prop,(∃ m,W 0 m σ H)/\∀ i m σ H,W i m σ H →
   ((Itl K a).stop i H/\D.nx σ H)∨((Itl K a).go i H/\∃ N:St->Hp->Prop,(∀ f' H',N f' H'->∃ m',m'<m/\W (i+1) m' f' H')/\∀ x H',(Itl K a).yld i H x H'->g x σ H' fun xD H2=>tb { D with nx:=N,ct:=N,bk:=D.nx } xD H2):=by
 refine ⟨fun i m σ H=>m=xs.length - i/\i<=xs.length/\Pv i σ H,⟨xs.length,by simp,N2 _,h0⟩,?_⟩;rintro i m σ H ⟨rfl,hi,p⟩;have q:=hl i σ H hi p;by_cases xK:i<xs.length
 · refine .inr ⟨⟨xs,xs[i],q,by simp [xK]⟩,Pv (i+1),fun f' H' p'=>⟨xs.length - (i+1),by omega,rfl,xK,p'⟩,fun x H' y=>?_⟩;obtain ⟨e,y⟩:=y;subst e;exact hs i x σ _ (y xs q) p
 · have e:i=xs.length:=by omega
   subst e;exact .inl ⟨⟨xs,q,M8 _⟩,hd σ H p⟩
theorem pK {K:MY} {a:M5} {xs:List V} {g:TG} {tb:TS} {D:Ends} {σ:St} {H:Hp} (Pv:Nat->St->Hp->Prop) (h0:Pv 0 σ H) (hl:∀ i σ H,i<=xs.length->Pv i σ H->SqT K H a xs)
 (hs:∀ i x σ H,xs[i]?=some x->Pv i σ H->g x σ H fun xD H2=>tb { D with nx:=Pv (i+1),ct:=Pv (i+1),bk:=D.nx } xD H2) (hd:∀ σ H,Pv xs.length σ H->D.nx σ H) :
 ∃ W:Nat->Nat->St->Hp->Prop,(∃ m,W 0 m σ H)/\∀ i m σ H,W i m σ H →
   ((Itt K a).stop i H/\D.nx σ H)∨((Itt K a).go i H/\∃ N:St->Hp->Prop,(∀ f' H',N f' H'->∃ m',m'<m/\W (i+1) m' f' H')/\∀ x H',(Itt K a).yld i H x H'->g x σ H' fun xD H2=>tb { D with nx:=N,ct:=N,bk:=D.nx } xD H2):=by
 refine ⟨fun i m σ H=>m=xs.length - i/\i<=xs.length/\Pv i σ H,⟨xs.length,by simp,N2 _,h0⟩,?_⟩;rintro i m σ H ⟨rfl,hi,p⟩;have q:=hl i σ H hi p;by_cases xK:i<xs.length
 · refine .inr ⟨⟨xs,xs[i],q,by simp [xK]⟩,Pv (i+1),fun f' H' p'=>⟨xs.length - (i+1),by omega,rfl,xK,p'⟩,fun x H' y=>?_⟩;obtain ⟨e,y⟩:=y;subst e;exact hs i x σ _ (y xs q) p
 · have e:i=xs.length:=by omega
   subst e;exact .inl ⟨⟨xs,q,M8 _⟩,hd σ H p⟩
theorem lr {lo:Int} {n:Nat} {g:TG} {tb:TS} {D:Ends} {σ:St} {H:Hp} (Pv:Nat->St->Hp->Prop) (h0:Pv 0 σ H)
 (hs:∀ i σ H,i<n->Pv i σ H->g (.int (lo+i)) σ H fun xD H2=>tb { D with nx:=Pv (i+1),ct:=Pv (i+1),bk:=D.nx } xD H2) (hd:∀ σ H,Pv n σ H->D.nx σ H) :
 ∃ W:Nat->Nat->St->Hp->Prop,(∃ m,W 0 m σ H)/\∀ i m σ H,W i m σ H →
   ((Itr lo n).stop i H/\D.nx σ H)∨((Itr lo n).go i H/\∃ N:St->Hp->Prop,(∀ f' H',N f' H'->∃ m',m'<m/\W (i+1) m' f' H')/\∀ x H',(Itr lo n).yld i H x H'->g x σ H' fun xD H2=>tb { D with nx:=N,ct:=N,bk:=D.nx } xD H2):=by
 refine ⟨fun i m σ H=>m=n - i/\i<=n/\Pv i σ H,⟨n,by simp,N2 _,h0⟩,?_⟩;rintro i m σ H ⟨rfl,hi,p⟩;by_cases xK:i<n
 · refine .inr ⟨xK,Pv (i+1),fun f' H' p'=>⟨n - (i+1),by omega,rfl,xK,p'⟩,fun x H' y=>?_⟩;obtain ⟨e,y⟩:=y;subst e y;exact hs i σ _ xK p
 · have e:i=n:=by omega
   subst e;exact .inl ⟨M8 _,hd σ H p⟩
end L2
namespace L2
open PySem PySem.Spec PyProof.Rows
abbrev R2:=V->V->Hp->VK->Prop
def OpR (X:Cx) (f:M1->M1->Sem M1) (r:R2):Prop :=
 ∀ (pins:List (M5×Pb)) (s:M7) (σ:St) (H:Hp) (x y:V) (v u:M1) (Q:VK),Inv X pins σ H s->RelV x v->RelV y u->r x y H Q →
   Nv (NI X.prog X.w) X.A (f v u) (EP X pins σ Q) X.xe s
def UnR (X:Cx) (f:M1->Sem M1) (r:V->Hp->VK->Prop):Prop :=
 ∀ (pins:List (M5×Pb)) (s:M7) (σ:St) (H:Hp) (x:V) (v:M1) (Q:VK),Inv X pins σ H s->RelV x v->r x H Q →
   Nv (NI X.prog X.w) X.A (f v) (EP X pins σ Q) X.xe s
def dq (X:Cx) (f:M1) (r:List V->Hp->VK->Prop):Prop :=
 ∀ (pins:List (M5×Pb)) (s:M7) (σ:St) (H:Hp) (xs:List V) (us:List M1) (Q:VK),Inv X pins σ H s->Vals xs us->r xs H Q →
   Nv (NI X.prog X.w) X.A (call f us) (EP X pins σ Q) X.xe s
def wM (X:Cx) (r:V->Hp->(Bool->Hp->Prop)->Prop):Prop :=
 ∀ (pins:List (M5×Pb)) (s:M7) (σ:St) (H:Hp) (x:V) (v:M1) (Q:Bool->Hp->Prop),Inv X pins σ H s->RelV x v->r x H Q →
   Nv (NI X.prog X.w) X.A (truthy v) (TP X pins σ Q) X.xe s
def tOp (r:R2) (ta tb:TE):TE:=fun σ H Q=>ta σ H fun x H1=>tb σ H1 fun y H2=>r x y H2 Q
def tUn (r:V->Hp->VK->Prop) (ta:TE):TE:=fun σ H Q=>ta σ H fun x H1=>r x H1 Q
inductive IrI (C:Int->Int->Prop) (g:Int->Int->V) (x:V) (y:V) (H:Hp) (Q:VK):Prop
 | mk (i:_) (j:_) (xB:x=.int i) (xC:y=.int j) (xG:C i j) (xT:Q (g i j) H):IrI C g x y H Q
def rI (C:Int->Int->Prop) (g:Int->Int->V):R2:=IrI C g
inductive vV (g:Int->Int->V) (x:V) (y:V) (H:Hp) (Q:VK):Prop
 | mk (i:_) (j:_) (xB:x=.int i) (xC:y=.int j) (xG:Q (g i j) H):vV g x y H Q
def rI0 (g:Int->Int->V):R2:=vV g
inductive IrU (g:Int->V) (x:V) (H:Hp) (Q:VK):Prop
 | mk (i:_) (xB:x=.int i) (xC:Q (g i) H):IrU g x H Q
def rU (g:Int->V):V->Hp->VK->Prop:=IrU g
section
variable {X:Cx} {a b c:Od} {ta tb tc:TE} {pos:Qy}
theorem va (ha:PE X a ta) (hb:PE X b tb) {pins:List (M5×Pb)} {s:M7} {σ:St} {H:Hp} {R:V->V->Hp->Prop} (I:Inv X pins σ H s)
 (h:ta σ H fun x H1=>tb σ H1 fun y H2=>R x y H2) {Q:M1->M7->Prop} {f:M1->M1->Sem M1}
 (hf:∀ v u s2 x y H2,Inv X pins σ H2 s2->RelV x v->RelV y u->R x y H2->Nv (NI X.prog X.w) X.A (f v u) Q X.xe s2) :
 Nv (NI X.prog X.w) X.A (Pn a X.env) (fun v xm=>Nv (NI X.prog X.w) X.A (Pn b X.env) (fun u yv=>Nv (NI X.prog X.w) X.A (f v u) Q X.xe yv) X.xe xm) X.xe s:=by
 refine thn (ha pins s σ H _ I h) fun v s1 ⟨x,H1,I1,r1,q1⟩=>?_;refine thn (hb pins s1 σ H1 _ I1 q1) fun u s2 ⟨y,H2,I2,r2,q2⟩=>?_;exact hf v u s2 x y H2 I2 r1 r2 q2
theorem ao {op:Operator} {r:R2} (ho:OpR X (Qk op) r) (ha:PE X a ta) (hb:PE X b tb):PE X (.BinOp a op b pos) (tOp r ta tb):=by
 intro pins s σ H Q I h;exact wpAny_BinOp (va ha hb I h fun v u s2 x y H2 I2 rx ry q=>ho pins s2 σ H2 x y v u Q I2 rx ry q)
theorem lC {op:UnaryOp} {r:V->Hp->VK->Prop} (ho:UnR X (unaryOp op) r) (ha:PE X a ta):PE X (.UnaryOp op a pos) (tUn r ta):=by
 intro pins s σ H Q I h;exact UnaryOp_ (thn (ha pins s σ H _ I h) fun v s1 ⟨x,H1,I1,r1,q1⟩=>ho pins s1 σ H1 x v Q I1 r1 q1)
theorem opI {f:M1->M1->Sem M1} {C:Int->Int->Prop} {g:Int->Int->Int}
 (rule:∀ (i j:Int) (t u:Tok) (s:M7) (Q:M1->M7->Prop) (E:M1->M7->Prop),C i j->Q (.int (g i j) s.toks) { s with toks:=s.toks+1 }->Nv (NI X.prog X.w) X.A (f (.int i t) (.int j u)) Q E s) :
 OpR X f (rI C fun i j=>.int (g i j)):=by
 intro pins s σ H x y v u Q I rx ry h;obtain ⟨i,j,rfl,rfl,hc,q⟩:=h;obtain ⟨t,rfl⟩:=rx;obtain ⟨t',rfl⟩:=ry;exact rule i j t t' s _ _ hc ⟨.int (g i j),H,I.tok _,⟨_,rfl⟩,q⟩
theorem v2 {f:M1->M1->Sem M1} {g:Int->Int->Int}
 (rule:∀ (i j:Int) (t u:Tok) (s:M7) (Q:M1->M7->Prop) (E:M1->M7->Prop),Q (.int (g i j) s.toks) { s with toks:=s.toks+1 }->Nv (NI X.prog X.w) X.A (f (.int i t) (.int j u)) Q E s) :
 OpR X f (rI0 fun i j=>.int (g i j)):=by
 intro pins s σ H x y v u Q I rx ry h;obtain ⟨i,j,rfl,rfl,q⟩:=h;obtain ⟨t,rfl⟩:=rx;obtain ⟨t',rfl⟩:=ry;exact rule i j t t' s _ _ ⟨.int (g i j),H,I.tok _,⟨_,rfl⟩,q⟩
theorem uW {f:M1->M1->Sem M1} {g:Int->Int->Bool}
 (rule:∀ (i j:Int) (t u:Tok) (s:M7) (Q:M1->M7->Prop) (E:M1->M7->Prop),Q (.bool (g i j)) s->Nv (NI X.prog X.w) X.A (f (.int i t) (.int j u)) Q E s) :
 OpR X f (rI0 fun i j=>.bl (g i j)):=by
 intro pins s σ H x y v u Q I rx ry h;obtain ⟨i,j,rfl,rfl,q⟩:=h;obtain ⟨t,rfl⟩:=rx;obtain ⟨t',rfl⟩:=ry;exact rule i j t t' s _ _ ⟨.bl (g i j),H,I,rfl,q⟩
def wu (i j:Int):Prop:=0<j/\j<1073741824
def wW (i j:Int):Prop:=0<=j/\j<=1000000/\i.natAbs<2 ^ 64
theorem gj:OpR X (Qk .Add) (rI0 fun i j=>.int (i+j)):=v2 fun _ _ _ _ _ _ _ q=>add_int q
theorem rX:OpR X (Qk .Sub) (rI0 fun i j=>.int (i - j)):=v2 fun _ _ _ _ _ _ _ q=>sub_int q
theorem bd:OpR X (Qk .FloorDiv) (rI wu fun i j=>.int (i / j)):=opI fun i j _ _ _ _ _ hc q=>by
 have h1:(0:Int)<j:=hc.1;have h2:j<1073741824:=hc.2;exact floordiv_int (by omega) (by rw [Int.fdiv_eq_ediv_of_nonneg i (by omega)];exact q) (.inl (PyProof.noPylong_small (by omega)))
theorem bF:OpR X (Qk .Mod) (rI (fun _ j=>0<j) fun i j=>.int (i%j)):=opI fun i j _ _ _ _ _ hc q=>by
 have h1:(0:Int)<j:=hc;exact mod_int' (by omega) (by rw [Int.fmod_eq_emod_of_nonneg i (by omega)];exact q)
theorem vB:OpR X (Qk .Pow) (rI wW fun i j=>.int (i ^ j.toNat)):=opI fun _ _ _ _ _ _ _ hc q=>pow_int_small hc.1 hc.2.1 hc.2.2 q
theorem unI {f:M1->Sem M1} {g:Int->Int}
 (rule:∀ (i:Int) (t:Tok) (s:M7) (Q:M1->M7->Prop) (E:M1->M7->Prop),Q (.int (g i) s.toks) { s with toks:=s.toks+1 }->Nv (NI X.prog X.w) X.A (f (.int i t)) Q E s) :
 UnR X f (rU fun i=>.int (g i)):=by
 intro pins s σ H x v Q I rx h;obtain ⟨i,rfl,q⟩:=h;obtain ⟨t,rfl⟩:=rx;exact rule i t s _ _ ⟨.int (g i),H,I.tok _,⟨_,rfl⟩,q⟩
theorem iA:UnR X (unaryOp .USub) (rU fun i=>.int (-i)):=unI fun _ _ _ _ _ q=>neg_int q
end
def wm:V->V->Bool
 | .non,.non=>true | .non,.int _=>true | .int _,.non=>true | .non,.bl _=>true | .bl _,.non=>true | .non,.str _=>true | .str _,.non=>true
 | .int _,.int _=>true | .bl _,.bl _=>true | .str _,.str _=>true | .byt _,.byt _=>true
 | .int _,.str _=>true | .str _,.int _=>true | .bl _,.str _=>true | .str _,.bl _=>true
 | _,_=>false
inductive vU (x:V) (y:V) (H:Hp) (Q:VK):Prop
 | mk  (xB:wm x y=true) (xC:Q (.bl (decide (x=y))) H):vU  x y H Q
def rEq:R2:=vU
inductive we (x:V) (y:V) (H:Hp) (Q:VK):Prop
 | mk  (xB:wm x y=true) (xC:Q (.bl (!decide (x=y))) H):we  x y H Q
def rNe:R2:=we
theorem pk {i j:Int}:decide (V.int i=V.int j)=(i == j):=by
 rw [Rj];simp
theorem sF {i j:Bool}:decide (V.bl i=V.bl j)=(i == j):=by
 rw [Rj];simp
theorem pI {i j:Nd}:decide (V.str i=V.str j)=(i == j):=by
 rw [Rj];simp
theorem pM {i j:Array UInt8}:decide (V.byt i=V.byt j)=(i.toList == j.toList):=by
 rw [Rj];cases i;cases j;simp
section
variable {X:Cx} {a b c:Od} {ta tb tc:TE} {pos:Qy}
theorem aR {pins:List (M5×Pb)} {σ:St} {H:Hp} {s:M7} {Q:VK} {k k':Bool} (I:Inv X pins σ H s) (q:Q (.bl k) H) (e:k=k'):EP X pins σ Q (.bool k') s:=by
 subst e;exact ⟨.bl k,H,I,rfl,q⟩
theorem di:OpR X (Pf .Eq) rEq:=by
 intro pins s σ H x y v u Q I rx ry h;obtain ⟨hs,q⟩:=h;cases x with
 | non =>
   cases rx;cases y with
   | non=>cases ry;exact PySem.EqNone.eq_none_none (aR I q (by simp))
   | bl j=>cases ry;exact PySem.EqNone.eq_none_bool (aR I q (by simp))
   | int j=>obtain ⟨t',rfl⟩:=ry;exact PySem.EqNone.eq_none_int (aR I q (by simp))
   | str j=>obtain ⟨t',rfl⟩:=ry;exact PySem.EqNone.eq_none_str (aR I q (by simp))
   | _=>exact absurd (show false=true from hs) Nt
 | bl i =>
   cases rx;cases y with
   | non=>cases ry;exact PySem.EqNone.eq_bool_none (aR I q (by simp))
   | bl j=>cases ry;exact eq_bool (aR I q sF)
   | str j=>obtain ⟨t',rfl⟩:=ry;exact PySem.EqMixed.eq_bool_str (aR I q (by simp))
   | _=>exact absurd (show false=true from hs) Nt
 | int i =>
   obtain ⟨t,rfl⟩:=rx;cases y with
   | non=>cases ry;exact PySem.EqNone.eq_int_none (aR I q (by simp))
   | int j=>obtain ⟨t',rfl⟩:=ry;exact eq_int (aR I q pk)
   | str j=>obtain ⟨t',rfl⟩:=ry;exact PySem.EqMixed.eq_int_str (aR I q (by simp))
   | _=>exact absurd (show false=true from hs) Nt
 | str i =>
   obtain ⟨t,rfl⟩:=rx;cases y with
   | non=>cases ry;exact PySem.EqNone.eq_str_none (aR I q (by simp))
   | bl j=>cases ry;exact PySem.EqMixed.eq_str_bool (aR I q (by simp))
   | int j=>obtain ⟨t',rfl⟩:=ry;exact PySem.EqMixed.eq_str_int (aR I q (by simp))
   | str j=>obtain ⟨t',rfl⟩:=ry;exact eq_str (aR I q pI)
   | _=>exact absurd (show false=true from hs) Nt
 | byt i =>
   obtain ⟨t,rfl⟩:=rx;cases y with
   | byt j=>obtain ⟨t',rfl⟩:=ry;exact PySem.W.eq_bytes (aR I q pM)
   | _=>exact absurd (show false=true from hs) Nt
 | _=>cases y <;> exact absurd (show false=true from hs) Nt
theorem cf:OpR X (Pf .NotEq) rNe:=by
 intro pins s σ H x y v u Q I rx ry h;obtain ⟨hs,q⟩:=h;cases x with
 | non =>
   cases rx;cases y with
   | non=>cases ry;exact PySem.EqNone.ne_none_none (aR I q (by simp))
   | bl j=>cases ry;exact PySem.EqNone.ne_none_bool (aR I q (by simp))
   | int j=>obtain ⟨t',rfl⟩:=ry;exact PySem.EqNone.ne_none_int (aR I q (by simp))
   | str j=>obtain ⟨t',rfl⟩:=ry;exact PySem.EqNone.ne_none_str (aR I q (by simp))
   | _=>exact absurd (show false=true from hs) Nt
 | bl i =>
   cases rx;cases y with
   | non=>cases ry;exact PySem.EqNone.ne_bool_none (aR I q (by simp))
   | bl j=>cases ry;exact ne_bool (aR I q (congrArg not sF))
   | str j=>obtain ⟨t',rfl⟩:=ry;exact PySem.EqMixed.ne_bool_str (aR I q (by simp))
   | _=>exact absurd (show false=true from hs) Nt
 | int i =>
   obtain ⟨t,rfl⟩:=rx;cases y with
   | non=>cases ry;exact PySem.EqNone.ne_int_none (aR I q (by simp))
   | int j=>obtain ⟨t',rfl⟩:=ry;exact ne_int (aR I q (congrArg not pk))
   | str j=>obtain ⟨t',rfl⟩:=ry;exact PySem.EqMixed.ne_int_str (aR I q (by simp))
   | _=>exact absurd (show false=true from hs) Nt
 | str i =>
   obtain ⟨t,rfl⟩:=rx;cases y with
   | non=>cases ry;exact PySem.EqNone.ne_str_none (aR I q (by simp))
   | bl j=>cases ry;exact PySem.EqMixed.ne_str_bool (aR I q (by simp))
   | int j=>obtain ⟨t',rfl⟩:=ry;exact PySem.EqMixed.ne_str_int (aR I q (by simp))
   | str j=>obtain ⟨t',rfl⟩:=ry;exact ne_str (aR I q (congrArg not pI))
   | _=>exact absurd (show false=true from hs) Nt
 | byt i =>
   obtain ⟨t,rfl⟩:=rx;cases y with
   | byt j=>obtain ⟨t',rfl⟩:=ry;exact PySem.W.ne_bytes (aR I q (congrArg not pM))
   | _=>exact absurd (show false=true from hs) Nt
 | _=>cases y <;> exact absurd (show false=true from hs) Nt
theorem kh:OpR X (Pf .Lt) (rI0 fun i j=>.bl (decide (i<j))):=uW fun _ _ _ _ _ _ _ q=>lt_int q
theorem eN:OpR X (Pf .LtE) (rI0 fun i j=>.bl (decide (i<=j))):=uW fun _ _ _ _ _ _ _ q=>le_int q
theorem kA:OpR X (Pf .Gt) (rI0 fun i j=>.bl (decide (j<i))):=uW fun _ _ _ _ _ _ _ q=>gt_int q
theorem ar (b:Od) {op:CmpOp} (h:op≠.In:=by decide) (h2:op≠.NotIn:=by decide):behindInMarks op b=false:=by
 have e1:(op == CmpOp.In)=false:=by cases op <;> first | rfl | exact absurd rfl h
 have e2:(op == CmpOp.NotIn)=false:=by cases op <;> first | rfl | exact absurd rfl h2
 cases b <;> simp [behindInMarks,e1,e2]
theorem bw {op:CmpOp} {r:R2} (ho:OpR X (Pf op) r) (ha:PE X a ta) (hb:PE X b tb) (hm:behindInMarks op b=false):PE X (.Compare a [op] [b] pos) (tOp r ta tb):=by
 intro pins s σ H Q I h;exact wpAny_Compare1 (va ha hb I h fun v u s2 x y H2 I2 rx ry q=>ho pins s2 σ H2 x y v u Q I2 rx ry q) hm
inductive ur (x:V) (Q:Bool->Hp->Prop) (H':Hp):Prop
 | mk (k:Bool) (xB:x=.bl k) (xC:Q k H'):ur x Q H'
def m5 (t:TE):TT:=fun σ H Q=>t σ H fun x H'=>ur x Q H'
theorem ax {op:CmpOp} {r:R2} (ho:OpR X (Pf op) r) (ha:PE X a ta) (hb:PE X b tb) (hm:behindInMarks op b=false):PT X (.Compare a [op] [b] pos) (m5 (tOp r ta tb)):=by
 intro pins s σ H Q I h
 refine wpAny_isTrue_Compare1 (thn (ha pins s σ H _ I h) fun v s1 ⟨x,H1,I1,r1,q1⟩=>thn (hb pins s1 σ H1 _ I1 q1) fun u s2 ⟨y,H2,I2,r2,q2⟩ =>
  thn (ho pins s2 σ H2 x y v u _ I2 r1 r2 q2) fun c s3 ⟨z,H3,I3,r3,k,e,q3⟩=>?_) hm
 subst e;cases r3;exact O0 ⟨H3,I3,q3⟩
def lR (r r':R2) (ta tb tc:TE):TE:=fun σ H Q=>ta σ H fun x H1=>tb σ H1 fun y H2=>r x y H2 fun z H3=>∃ k,z=.bl k ∧
 (if k=true then tc σ H3 fun w' H4=>r' y w' H4 Q else Q (.bl false) H3)
theorem nQ {op BH:CmpOp} {r r':R2} (ho:OpR X (Pf op) r) (yJ:OpR X (Pf BH) r') (ha:PE X a ta) (hb:PE X b tb) (hc:PE X c tc)
 (hm:lastMarks [op,BH] [b,c]=false:=by with_unfolding_all rfl):PE X (.Compare a [op,BH] [b,c] pos) (lR r r' ta tb tc):=by
 intro pins s σ H Q I h
 refine Compare_chain (thn (ha pins s σ H _ I h) fun v s1 ⟨x,H1,I1,r1,q1⟩=>chain_link (thn (hb pins s1 σ H1 _ I1 q1) fun u s2 ⟨y,H2,I2,r2,q2⟩ =>
  thn (ho pins s2 σ H2 x y v u _ I2 r1 r2 q2) fun d s3 ⟨z,H3,I3,r3,k,e,q3⟩=>?_)) hm
 subst e;cases r3;refine O0 ?_;cases k with
 | false=>exact ite_ff ⟨.bl false,H3,I3,rfl,q3⟩
 | true=>exact ite_tt (chain_last (thn (hc pins s3 σ H3 _ I3 q3) fun w' s4 ⟨z',H4,I4,r4,q4⟩=>yJ pins s4 σ H4 y z' u w' Q I4 r2 r4 q4))
theorem hZ {op BH:CmpOp} {r r':R2} (ho:OpR X (Pf op) r) (yJ:OpR X (Pf BH) r') (ha:PE X a ta) (hb:PE X b tb) (hc:PE X c tc)
 (hm:lastMarks [op,BH] [b,c]=false:=by with_unfolding_all rfl):PT X (.Compare a [op,BH] [b,c] pos) (m5 (lR r r' ta tb tc)):=by
 intro pins s σ H Q I h
 refine isTrue_chain (thn (ha pins s σ H _ I h) fun v s1 ⟨x,H1,I1,r1,q1⟩=>test_link (thn (hb pins s1 σ H1 _ I1 q1) fun u s2 ⟨y,H2,I2,r2,q2⟩ =>
  thn (ho pins s2 σ H2 x y v u _ I2 r1 r2 q2) fun d s3 ⟨z,H3,I3,r3,k,e,q3⟩=>?_)) hm
 subst e;cases r3;refine O0 ?_;cases k with
 | false =>
   obtain ⟨k',e',q'⟩:=q3;cases e';exact ite_ff ⟨H3,I3,q'⟩
 | true =>
   refine ite_tt (test_last (thn (hc pins s3 σ H3 _ I3 q3) fun w' s4 ⟨z',H4,I4,r4,q4⟩=>thn (yJ pins s4 σ H4 y z' u w' _ I4 r2 r4 q4) fun d' s5 ⟨z2,H5,I5,r5,k2,e2,q5⟩=>?_));subst e2;cases r5;exact O0 ⟨H5,I5,q5⟩
def vH (K:MY) (x:V) (H:Hp) (k:Bool):Prop :=
 match x with
 | .non=>k=false
 | .bl b=>k=b
 | .int i=>k=(i != 0)
 | .str y=>y.length<=Ny/\k=((y.length:Int) != 0)
 | .byt y=>y.size<=Ny/\k=((y.size:Int) != 0)
 | .ref p=>(∃ xs,SqL K H p xs/\k=!xs.isEmpty)∨(∃ xs,SqT K H p xs/\k=!xs.isEmpty)∨∃ xM,H p=some (.dK xM)/\k=!xM.isEmpty
 | _=>False
theorem oK {κ:Type} {xM:List (κ×V)} {vs:List (κ×M1)} (r:KV xM vs):(!vs.isEmpty)=!xM.isEmpty:=by
 cases r <;> rfl
theorem ky {xs:List V} {its:List M1} (r:Vals xs its):(!its.toArray.isEmpty)=!xs.isEmpty:=by
 cases r <;> simp
theorem fc:(Ny:Nat)<2 ^ 63:=by rw [Pp];decide
theorem vm:wM X (fun x H Q=>∃ k,vH X.K x H k/\Q k H):=by
 intro pins s σ H x v Q I rx h;obtain ⟨k,e,q⟩:=h;have hl:=fc;have hs:Ny=16777216:=Pp;cases x with
 | non =>
   cases rx;have e':k=false:=e;subst e';exact truthy_none ⟨H,I,q⟩
 | bl b =>
   cases rx;have e':k=b:=e;subst e';exact O0 ⟨H,I,q⟩
 | int i =>
   obtain ⟨t,rfl⟩:=rx;have e':k=(i != 0):=e;subst e';exact PySem.P.truthy_int ⟨H,I,q⟩
 | str y =>
   obtain ⟨t,rfl⟩:=rx;obtain ⟨hy,e'⟩:y.length<=Ny/\k=((y.length:Int) != 0):=e;subst e';exact PySem.P.truthy_str (by omega) ⟨H,I.tok _,q⟩
 | byt y =>
   obtain ⟨t,rfl⟩:=rx;obtain ⟨hy,e'⟩:y.size<=Ny/\k=((y.size:Int) != 0):=e;subst e';exact PySem.W.truthy_bytes (by omega) ⟨H,I.tok _,q⟩
 | ref p =>
   cases rx;have e':(∃ xs,SqL X.K H p xs/\k=!xs.isEmpty)∨(∃ xs,SqT X.K H p xs/\k=!xs.isEmpty)∨∃ xM,H p=some (.dK xM)/\k=!xM.isEmpty:=e;rcases e' with ⟨xs,hx,e'⟩ | ⟨xs,hx,e'⟩ | ⟨xM,hx,e'⟩
   · subst e';obtain ⟨its,r,pl,hz⟩:=I.list hx;have hlen:=r.length;exact wpAny_truthy_list pl.isList (by simp only [M9];omega) ⟨H,I.tok _,by rw [ky r];exact q⟩
   · subst e';obtain ⟨its,r,pl,hz⟩:=I.tuple hx;have hlen:=r.length;exact truthy_tuple pl (by simp only [M9];omega) ⟨H,I.tok _,by rw [ky r];exact q⟩
   · subst e';obtain ⟨hz,hS,vs,r,m⟩:xM.length<=Ny/\(p == sysModules)=false/\∃ vs,KV xM vs/\s.heap.DictOf (lK X.prog X.w) p vs:=I.hok p _ hx;have hlen:xM.length=vs.length:=N3 r;exact wpAny_truthy_dict hS m (by omega) ⟨H,I.tok _,by rw [oK r];exact q⟩
 | _=>exact (show False from e).elim
theorem aU (ha:PE X a ta) (he:∀ whole,isTrue a X.env whole=(do let v ← whole;standAt a.pos;holding [v] (truthy v))) :
 PT X a (fun σ H Q=>ta σ H fun x H'=>∃ k,vH X.K x H' k/\Q k H'):=by
 intro pins s σ H Q I h;exact isTrue_plain (thn (ha pins s σ H _ I h) fun v s1 ⟨x,H1,I1,r1,q1⟩=>vm pins s1 σ H1 x v Q I1 r1 q1) (he _)
theorem ak:OpR X (Qk .Add) (fun x y H Q=>∃ i j,x=.str i/\y=.str j/\i.length+j.length<=Ny/\Q (.str (i++j)) H):=by
 intro pins s σ H x y v u Q I rx ry h;obtain ⟨i,j,rfl,rfl,hz,q⟩:=h;obtain ⟨t,rfl⟩:=rx;obtain ⟨t',rfl⟩:=ry;exact add_str (fun t' tk=>⟨.str (i++j),H,I.tok _,⟨_,rfl⟩,q⟩) hz
theorem vals1 {x:V} {us:List M1} (r:Vals [x] us):∃ u,us=[u]/\RelV x u:=by
 cases r with
 | cons r1 r2=>cases r2;exact ⟨_,rfl,r1⟩
theorem vals2 {x y:V} {us:List M1} (r:Vals [x,y] us):∃ u w',us=[u,w']/\RelV x u/\RelV y w':=by
 cases r with
 | cons r1 r2 =>
   cases r2 with
   | cons r3 r4=>cases r4;exact ⟨_,_,rfl,r1,r3⟩
theorem lH:dq X (.type "int") (fun xs H Q=>(∃ i,xs=[.int i]/\Q (.int i) H)∨∃ k,xs=[.bl k]/\Q (.int (if k then 1 else 0)) H):=by
 intro pins s σ H xs us Q I r h;rcases h with ⟨i,rfl,q⟩ | ⟨k,rfl,q⟩
 · obtain ⟨u,rfl,t,rfl⟩:=vals1 r;exact call_int_int ⟨.int i,H,I,⟨_,rfl⟩,q⟩
 · obtain ⟨u,rfl,r1⟩:=vals1 r;cases r1;exact call_int_bool ⟨.int (if k then 1 else 0),H,I.tok _,⟨_,rfl⟩,q⟩
theorem nU:dq X (.builtin "divmod") (fun xs H Q=>∃ i j,xs=[.int i,.int j]/\wu i j/\∀ p,H p=none->Q (.ref p) (upd H p (.tup [.int (i / j),.int (i%j)]))):=by
 intro pins s σ H xs us Q I r h;obtain ⟨i,j,rfl,⟨h1,h2⟩,q⟩:=h;obtain ⟨u,w',rfl,⟨t,rfl⟩,⟨t',rfl⟩⟩:=vals2 r;refine divmod_int (by omega) ?_ (.inl (PyProof.noPylong_small (by omega)));rw [Int.fdiv_eq_ediv_of_nonneg i (by omega),Int.fmod_eq_emod_of_nonneg i (by omega)];have hn:H s.heap.objs.size=none:=I.hok.fresh (M8 _);refine ⟨.ref s.heap.objs.size,_,?_,rfl,q _ hn⟩;refine I.laid (fun b o e=>M6 _ e) (M8 _) ⟨by simp only [MZ,PQ];rw [Pp];decide,[.int (i / j) s.toks,.int (i%j) (s.toks+1)],0,.cons ⟨_,rfl⟩ (.cons ⟨_,rfl⟩ .nil),?_⟩;exact Nf s.heap rfl
end
end L2
namespace L2
open PySem PySem.Spec PyProof.Rows
structure ObjM (h:Oo) (x dx C:M5) (mA:Nd->Option M1):Prop where
 obj:h.get? x=some (Pq C dx)
 ns:h.Ns1 dx mA
 ne:dx≠x
theorem pU {h:Oo} {dx:M5} {mA:Nd->Option M1} (n:h.Ns1 dx mA):∃ od,h.get? dx=some od/\∀ name,Rn name od=some (mA name):=by
 obtain ⟨o,es,ep,ho,hd,hk,_,hm⟩:=n;refine ⟨o,ho,fun name=>?_⟩;have e:=hm name;unfold nsFind findBy at e;rw [<- Array.find?_toList] at e;unfold Rn;rw [hd];dsimp only;split
 · rename_i y q
   rw [q] at e;exact congrArg some e
 · rename_i q
   rw [q] at e
   have a:es.toList.any (·.refKey)=false:=by
    rw [List.any_eq_false];intro y hy;obtain ⟨z,t,Fd⟩:=hk y (Array.mem_toList_iff.mp hy);simp [DictEntry.refKey,Fd]
   have a':¬ es.toList.any (·.refKey)=true:=by rw [a];exact Nt
   rw [if_neg a'];exact congrArg some e
theorem ObjM.look {h:Oo} {x dx C:M5} {mA:Nd->Option M1} (I:ObjM h x dx C mA):∃ od,PySem.W.InstAt h x (Pq C dx) C (some od)/\∀ name,Rn name od=some (mA name) :=
 let ⟨od,ho,hl⟩:=pU I.ns
 ⟨od,⟨I.obj,rfl,rfl,ho⟩,hl⟩
section
variable {prog:NC} {w:NP} {A:NT} {E:M1->M7->Prop} {s:M7} {K:MY} {x dx C f:M5} {mA:Nd->Option M1} {name:Nd} {v:M1}
theorem get_map {expr:Bool} {Q:M1->M7->Prop} (X:K.In s.heap) (I:ObjM s.heap x dx C mA) (hg:Qx K C name=true) (hh:QV K C=true)
 (ha:ND K (.ref C) name=some none) (hv:mA name=some v) (zC:PySem.W.handedIn v=true) (h:Q v { s with toks:=s.toks+1 }) :
 Nv (NI prog w) A (getAttr (.ref x) name expr) Q E s:=by
 obtain ⟨od,J,hl⟩:=I.look;exact PySem.W.get_value X J (Rv hg).1 (PySem.W.findObj_own hh ha rfl (by rw [hl,hv])) zC h
theorem qO {pl:Sem Bool} {Q:M1×List M1->M7->Prop} (X:K.In s.heap) (I:ObjM s.heap x dx C mA) (hg:Qx K C name=true)
 (hf:ND K (.ref C) name=some (some (.ref f))) (ht:Q5 K (.ref f)=true) (hv:mA name=none) (h:Q (.ref f,[.ref x]) s) :
 Nv (NI prog w) A (getMethod (.ref x) name pl) Q E s:=by
 obtain ⟨od,J,hl⟩:=I.look;exact PySem.W.method_fn X J (Rv hg).1 (Rv hg).2 hf (beq_iff_eq.mp ht) (by show (Rn name od).map (·.isSome)=some false;rw [hl,hv];rfl) h
theorem sV {ns:List Nd} {Q:Unit->M7->Prop} (X:K.In s.heap) (I:ObjM s.heap x dx C mA)
 (hs:ND K (.ref C) "__setattr__"=some (some (.builtin "object.__setattr__"))) (hp:RO K C=true) (ht:PySem.W.takerIn K C name=some none) (hh:QV K C=true)
 (hw:PySem.Within mA ns) (xQ:ns.length<=Ny)
 (h:∀ h',ObjM h' x dx C (fun y=>if y=name then some v else mA y)->PZ dx s.heap h'->Q () { s with heap:=h',toks:=s.toks+2 }) :
 Nv (NI prog w) A (setAttr (.ref x) name v) Q E s:=by
 obtain ⟨od,J,hl⟩:=I.look;refine PySem.W.set_plain X J hs (PySem.W.osa_open (s:={ s with toks:=s.toks+1 }) (r:=none) X J hp ht fun b=>?_);obtain ⟨cd,hc,E5⟩:=PySem.W.any_some hh;have hx:s.heap.get? x=some ⟨.ref C,some dx,.plain,#[]⟩:=I.obj;refine M0 (Nk (M0 (M0 (wpAny_loadPart hx (M0 (PySem.W.Looks.here (s:={ s with toks:=s.toks+1 }) (PySem.W.looks_clsIn X hc) ?_))))));rw [E5];refine Nk (a:=some dx) (M0 (Nk (M0 ?_)));refine wpAny_nsSet1 (s:={ s with toks:=s.toks+1 }) I.ns fun h' En BI=>?_;obtain ⟨oD,Mn,Mo,Jy,Jz,JA⟩:=En.count (PySem.Within.cons name v hw);refine M0 (wpAny_lookBehind Jy (by rw [Jz];exact pastItsLine_dict (Ow JA (by rw [MZ];omega))) ?_);exact Nk (h _ ⟨(BI.2 _ (QE I.ne)).trans I.obj,En,I.ne⟩ BI)
theorem rV {R:Result->M7->Prop} {vs:List M1} {kw:List (Nd×M1)} (X:K.In s.heap) (hm:PySem.W.makesIn K C=true)
 (hi:ND K (.ref C) "__init__"=some (some (.ref f))) (hf:PySem.W.typeIn K (.ref f)=some (.type "function"))
 (h:Rf (NI prog w) (A.under (.builtin "type.__call__" ⟨.ref C::vs,kw⟩)) (.call (.ref f) ⟨.ref (s.heap.objs.size+1)::vs,kw⟩) (PySem.W.InitBack (s.heap.objs.size+1) R)
  { s with heap:=(s.heap.push OU).push (Pq C s.heap.objs.size) }) :
 Rf (NI prog w) A (.call (.ref C) ⟨vs,kw⟩) R s:=by
 obtain ⟨hh,g,d,t,os⟩:=s;exact PySem.W.make_core (PySem.W.makes_of X hm) (PySem.W.looks_findIn X hi) (fun self=>PySem.W.bind_fn X self hf) (.inl rfl) h
end
def cC (f:Nd) (v:V):List (Nd×V)->List (Nd×V)
 | []=>[(f,v)]
 | (g,x)::r=>if g=f then (g,v)::r else (g,x)::cC f v r
theorem jd (f g:Nd) (v:V):∀ fs:List (Nd×V),(cC f v fs).lookup g=if g=f then some v else fs.lookup g
 | []=>by
   show Pz g [(f,v)]=_;by_cases h:g=f
   · have hb:(g == f)=true:=beq_iff_eq.mpr h;simp only [Pz,hb,if_pos h]
   · have hb:(g == f)=false:=beq_eq_false_iff_ne.mpr h;simp only [Pz,hb,if_neg h]
 | (k,x)::r=>by
   have ih:=jd f g v r;rw [show cC f v ((k,x)::r)=(if k=f then (k,v)::r else (k,x)::cC f v r) from rfl];by_cases hk:k=f
   · rw [if_pos hk];by_cases h:g=k
     · have hb:(g == k)=true:=beq_iff_eq.mpr h;simp only [Pz,hb,if_pos (h.trans hk)]
     · have hb:(g == k)=false:=beq_eq_false_iff_ne.mpr h;simp only [Pz,hb,if_neg (fun e:g=f=>h (e.trans hk.symm))]
   · rw [if_neg hk];by_cases h:g=k
     · have hb:(g == k)=true:=beq_iff_eq.mpr h;simp only [Pz,hb,if_neg (fun e:g=f=>hk (h.symm.trans e))]
     · have hb:(g == k)=false:=beq_eq_false_iff_ne.mpr h;simp only [Pz,hb];exact ih
theorem iL (f:Nd) (v:V):∀ fs:List (Nd×V),f∈(cC f v fs).map (·.1)/\∀ g,g∈fs.map (·.1)->g∈(cC f v fs).map (·.1)
 | []=>⟨by simp [cC],fun g h=>by simp at h⟩
 | (k,x)::r=>by
   obtain ⟨i1,i2⟩:=iL f v r;rw [show cC f v ((k,x)::r)=(if k=f then (k,v)::r else (k,x)::cC f v r) from rfl];by_cases hk:k=f
   · rw [if_pos hk];subst hk;exact ⟨by simp,fun g h=>by simpa using h⟩
   · rw [if_neg hk];refine ⟨?_,fun g h=>?_⟩
     · rw [Ni];exact Ng _ i1
     · rw [Ni] at h ⊢;rcases Nb.mp h with e | e
       · exact Nb.mpr (.inl e)
       · exact Ng _ (i2 g e)
theorem i6 (f:Nd) (v:V):∀ fs:List (Nd×V),(cC f v fs).length<=fs.length+1
 | []=>by simp [cC]
 | (k,x)::r=>by
   have ih:=i6 f v r;rw [show cC f v ((k,x)::r)=(if k=f then (k,v)::r else (k,x)::cC f v r) from rfl];by_cases hk:k=f
   · rw [if_pos hk,MZ,MZ];omega
   · rw [if_neg hk,MZ,MZ];omega
theorem RelO.some_of {v:V} {o:Option M1} (r:RelO (some v) o):∃ u,o=some u/\RelV v u:=by
 cases o with
 | none=>exact (show False from r).elim
 | some u=>exact ⟨u,rfl,r⟩
theorem RelO.none_of {o:Option M1} (r:RelO none o):o=none:=by
 cases o with
 | none=>rfl
 | some u=>exact (show False from r).elim
theorem qr {v:V} {u:M1} (r:RelV v u):PySem.W.handedIn u=true:=by
 cases v with
 | non=>cases (show u=PK from r);rfl
 | bl b=>cases (show u=Value.bool b from r);rfl
 | int i=>obtain ⟨t,e⟩:=(show ∃ t,u=Value.int i t from r);cases e;rfl
 | str x=>obtain ⟨t,e⟩:=(show ∃ t,u=Value.str x t from r);cases e;rfl
 | byt b=>obtain ⟨t,e⟩:=(show ∃ t,u=Value.bytes b t from r);cases e;rfl
 | flt b=>obtain ⟨t,e⟩:=(show ∃ t,u=Value.float b t from r);cases e;rfl
 | ref a=>cases (show u=OB a from r);rfl
 | ty n=>cases (show u=Value.type n from r);rfl
section
variable {P:NC} {w:NP} {H H':Hp} {h h':Oo} {a C dx:M5} {fs Ca:List (Nd×V)}
theorem ju (hok:HOk P w H h) (e:H a=some (.ins C dx fs)):∃ mA,ObjM h a dx C mA/\(∀ f,RelO (fs.lookup f) (mA f))/\PySem.Within mA (fs.map (·.1))/\fs.length<=1000/\H dx=some (.own a):=by
 obtain ⟨d,z,ne,ob,mA,n,r,q⟩:=(show ObjOk P w H h a (.ins C dx fs) from hok a _ e);exact ⟨mA,⟨ob,n,ne⟩,r,q,z,d⟩
end
structure Cls (K:MY) (C:M5):Prop where
 pg:Qx K C Str.empty=true
 hd:QV K C=true
 po:RO K C=true
 sa:ND K (.ref C) "__setattr__"=some (some (.builtin "object.__setattr__"))
theorem Cls.get {K:MY} {C:M5} (c:Cls K C) (f:Nd):Qx K C f=true:=c.pg
def NoAttr (K:MY) (C:M5) (f:Nd):Prop:=ND K (.ref C) f=some none
theorem NoAttr.taker {K:MY} {C:M5} {f:Nd} (n:NoAttr K C f):PySem.W.takerIn K C f=some none:=by
 unfold PySem.W.takerIn;rw [show ND K (.ref C) f=some none from n];rfl
structure Meth (K:MY) (C:M5) (m:Nd) (f:M5):Prop where
 at_:ND K (.ref C) m=some (some (.ref f))
 fn:Q5 K (.ref f)=true
 kp:O5 K (.ref f)=true
section
variable {X:Cx} {pins:List (M5×Pb)} {σ:St} {H:Hp} {s:M7} {a C dx:M5} {fs:List (Nd×V)} {f:Nd} {v:V} {A:NT} {E:M1->M7->Prop}
theorem jP {b:Bool} {Q:M1->M7->Prop} (I:Inv X pins σ H s) (e:H a=some (.ins C dx fs)) (c:Cls X.K C) (n:NoAttr X.K C f) (l:fs.lookup f=some v)
 (h:∀ u s',Inv X pins σ H s'->RelV v u->Q u s'):Nv (NI X.prog X.w) A (getAttr (.ref a) f b) Q E s:=by
 obtain ⟨mA,O,r,_,_,_⟩:=ju I.hok e;obtain ⟨u,hu,ru⟩:=RelO.some_of (v:=v) (o:=mA f) (by rw [<- l];exact r f);exact get_map I.kIn O (c.get f) c.hd n hu (qr ru) (h u _ (I.tok _) ru)
theorem oC {m:Nd} {g:M5} {pl:Sem Bool} {Q:M1×List M1->M7->Prop} (I:Inv X pins σ H s) (e:H a=some (.ins C dx fs)) (c:Cls X.K C) (k:Meth X.K C m g) (l:fs.lookup m=none)
 (h:Q (.ref g,[.ref a]) s):Nv (NI X.prog X.w) A (getMethod (.ref a) m pl) Q E s:=by
 obtain ⟨mA,O,r,_,_,_⟩:=ju I.hok e;have hn:mA m=none:=RelO.none_of (by rw [<- l];exact r m);exact qO I.kIn O (c.get m) k.at_ k.fn hn h
theorem jJ {y:V} {u:M1} {Q:Unit->M7->Prop} (I:Inv X pins σ H s) (e:H a=some (.ins C dx fs)) (c:Cls X.K C) (n:NoAttr X.K C f) (hl:fs.length<1000) (ry:RelV y u)
 (h:∀ s',Inv X pins σ (upd H a (.ins C dx (cC f y fs))) s'->Q () s'):Nv (NI X.prog X.w) A (setAttr (.ref a) f u) Q E s:=by
 obtain ⟨mA,O,r,wi,_,ho⟩:=ju I.hok e;have hz:(fs.map (·.1)).length<=Ny:=by rw [MX,Pp];omega
 refine sV I.kIn O c.sa c.po n.taker c.hd wi hz fun h' O' sb=>h _ ?_;have hd:∃ o,h'.get? dx=some o:=let ⟨o,_,_,e',_⟩:=O'.ns;⟨o,e'⟩
 refine I.write (x:=a) (e:=dx) (by rw [e];exact QR) (.inr ho) (fun b q hb z=>(sb.2 b hb).trans z) hd ?_;refine ⟨by rw [aq O.ne];exact ho,?_,O.ne,O'.obj,_,O'.ns,fun g=>?_,fun g hg=>?_⟩
 · have:=i6 f y fs;omega
 · show RelO ((cC f y fs).lookup g) (if g=f then some u else mA g);rw [jd];by_cases q:g=f
   · rw [if_pos q,if_pos q];exact ry
   · rw [if_neg q,if_neg q];exact r g
 · by_cases q:g=f
   · rw [q];exact (iL f y fs).1
   · refine (iL f y fs).2 g (wi g fun z=>hg ?_);show (if g=f then some u else mA g)=none;rw [if_neg q];exact z
theorem Inv.made (I:Inv X pins σ H s):Inv X pins σ (upd (upd H s.heap.objs.size (.own (s.heap.objs.size+1))) (s.heap.objs.size+1) (.ins C s.heap.objs.size []))
 { s with heap:=(s.heap.push OU).push (Pq C s.heap.objs.size) }:=by
 have e1:(s.heap.push OU).get? s.heap.objs.size=some OU:=Nf s.heap rfl
 have e2:((s.heap.push OU).push (Pq C s.heap.objs.size)).get? (s.heap.objs.size+1)=some (Pq C s.heap.objs.size):=by
  have:=Nf (s.heap.push OU) (o:=Pq C s.heap.objs.size) rfl
  rwa [O1] at this
 have e3:(s.heap.push OU).Ns s.heap.objs.size (fun _=>none):=⟨OU,#[],_,e1,rfl,(fun e he=>absurd he (by simp)),fun _=>rfl⟩;have I1:=I.laid (a:=s.heap.objs.size) (o:=.own (s.heap.objs.size+1)) (h':=s.heap.push OU) (t':=s.toks) (fun b u q=>M6 _ q) (M8 _) ⟨_,e1⟩;refine I1.laid (a:=s.heap.objs.size+1) (o:=.ins C s.heap.objs.size []) (t':=s.toks) (fun b u q=>M6 _ q) (RS (O1 _ _)) ?_;have ne:s.heap.objs.size≠s.heap.objs.size+1:=NQ (Qz _);refine ⟨by rw [aq ne,ac],N2 _,ne,e2,fun _=>none,(Heap.Ns1.of_empty e3).at fun o q=>M6 _ q,fun _=>QR,fun y hy=>absurd rfl hy⟩
theorem tP {prog:NC} {w:NP} {env:Env} {e:Od} {f:Nd} {pos:Qy} {s:M7} {Q:M1->M7->Prop} (hb:attributeBase e f env (Pn e env)=Pn e env)
 (h:Nv (NI prog w) A (Pn e env) (fun o xm=>Nv (NI prog w) A (getAttr o f true) Q E xm) E s):Nv (NI prog w) A (Pn (.Attribute e f pos) env) Q E s :=
 Attribute_any_ h (by rw [arm_eval_Attribute,hb])
end
def wK (K:MY) (ta:TE) (f:Nd):TE:=fun σ H Q=>ta σ H fun x H1=>∃ a C dx fs v,x=.ref a/\H1 a=some (.ins C dx fs)/\Cls K C/\NoAttr K C f/\fs.lookup f=some v/\Q v H1
def wC (K:MY) (ta tv:TE) (f:Nd):TS:=fun D σ H=>tv σ H fun y H1=>ta σ H1 fun x H2=>∃ a C dx fs,x=.ref a/\H2 a=some (.ins C dx fs)/\Cls K C/\NoAttr K C f/\fs.length<1000 ∧
 D.nx σ (upd H2 a (.ins C dx (cC f y fs)))
def vO (X:Cx) (op:Operator) (rd:V->V->Hp->VK->Prop):Prop :=
 ∀ (pins:List (M5×Pb)) (s:M7) (σ:St) (H:Hp) (x y:V) (u v:M1) (Q:VK),Inv X pins σ H s->RelV x u->RelV y v->rd x y H Q->Nv (NI X.prog X.w) X.A (inplaceOp op u v) (EP X pins σ Q) X.xe s
def tj (K:MY) (ta tv:TE) (rd:V->V->Hp->VK->Prop) (f:Nd):TS:=fun D σ H=>ta σ H fun x H1=>∃ a C dx fs v,x=.ref a/\H1 a=some (.ins C dx fs)/\Cls K C/\NoAttr K C f/\fs.lookup f=some v ∧
 tv σ H1 fun y H2=>rd v y H2 fun z H3=>∃ Fe Ca,H3 a=some (.ins C Fe Ca)/\Ca.length<1000/\D.nx σ (upd H3 a (.ins C Fe (cC f z Ca)))
section
variable {X:Cx} {o e value:Od} {f:Nd} {pos pos' AJ:Qy} {ta tv:TE}
theorem se (he:PE X e ta) (hb:attributeBase e f X.env (Pn e X.env)=Pn e X.env):PE X (.Attribute e f pos) (wK X.K ta f):=by
 intro pins s σ H Q I h;refine tP hb (thn (he pins s σ H _ I h) fun u s1 ⟨x,H1,I1,rx,a,C,dx,fs,v,ex,ea,c,n,l,q⟩=>?_);subst ex;obtain rfl:u=OB a:=rx;exact jP I1 ea c n l fun u' s2 I2 ru=>⟨v,H1,I2,ru,q⟩
theorem sq (ha:PE X o ta) (hv:PE X value tv) (hs:swapsWith value (some (.Attribute o f pos')) pos.line X.env=pure false):PS X (.Assign [.Attribute o f pos'] value pos) (wC X.K ta tv f):=by
 intro pins s σ H D I h;refine plainObj_wpAny_Assign_Attribute (thn (hv pins s σ H _ I h) fun u s1 ⟨y,H1,I1,ry,q⟩=>thn (ha pins s1 σ H1 _ I1 q) fun ov s2 ⟨x,H2,I2,rx,a,C,dx,fs,ex,ea,c,n,l,q2⟩=>?_) hs;subst ex;obtain rfl:ov=OB a:=rx;exact jJ I2 ea c n l ry fun s3 I3=>⟨σ,_,I3,q2⟩
theorem lj {op:Operator} {rd:V->V->Hp->VK->Prop} (ha:PE X o ta) (hv:PE X value tv) (JB:vO X op rd):PS X (.AugAssign (.Attribute o f AJ) op value pos) (tj X.K ta tv rd f):=by
 intro pins s σ H D I h;refine wpAny_AugAssign_AttributeAny (thn (ha pins s σ H _ I h) fun ov s1 ⟨x,H1,I1,rx,a,C,dx,fs,v,ex,ea,c,n,l,q⟩=>?_);subst ex;obtain rfl:ov=OB a:=rx;refine jP I1 ea c n l fun u s2 I2 ru=>thn (hv pins s2 σ H1 _ I2 q) fun w3 s3 ⟨y,H2,I3,ry,q3⟩=>thn (JB pins s3 σ H2 v y u w3 _ I3 ru ry q3) fun w4 s4 ⟨z,H3,I4,rz,Fe,Ca,JC,l',q4⟩=>?_;exact jJ I4 JC c n l' rz fun s5 I5=>⟨σ,_,I5,q4⟩
def wA:V->V->Hp->VK->Prop:=fun x y H Q=>∃ i j,x=.int i/\y=.int j/\Q (.int (i+j)) H
theorem r6:vO X .Add wA:=by
 rintro pins s σ H x y u v Q I rx ry ⟨i,j,rfl,rfl,q⟩;obtain ⟨t,rfl⟩:=(show ∃ t,u=Value.int i t from rx);obtain ⟨t',rfl⟩:=(show ∃ t',v=Value.int j t' from ry);exact PyProof.Rows.iadd_int ⟨.int (i+j),H,I.tok _,⟨_,rfl⟩,q⟩
end
section
variable {X:Cx} {pins:List (M5×Pb)} {σ:St} {H:Hp} {s:M7} {A:NT} {E:M1->M7->Prop} {Q:M1->M7->Prop} {c:M1} {b:Bool}
inductive gF (K:MY) (H:Hp):V->M1->Prop where
 | non:gF K H .non (.type "NoneType")
 | bl (x:Bool):gF K H (.bl x) (.type "bool")
 | int (i:Int):gF K H (.int i) (.type "int")
 | str (x:Nd):gF K H (.str x) (.type "str")
 | flt (x:UInt64):gF K H (.flt x) (.type "float")
 | lst {a:M5} {xs:List V} (e:H a=some (.lst xs)):gF K H (.ref a) (.type "list")
 | frz {a:M5} {o:Pb} {xs:List V} (e:H a=some (.frz o (.lst xs))):gF K H (.ref a) (.type "list")
 | tup {a:M5} {xs:List V} (e:H a=some (.tup xs)):gF K H (.ref a) (.type "tuple")
 | dK {a:M5} {xM:List (Key×V)} (e:H a=some (.dK xM)):gF K H (.ref a) (.type "dict")
 | dT {a:M5} {xM:List (List Key×V)} (e:H a=some (.dT xM)):gF K H (.ref a) (.type "dict")
 | ins {a C dx:M5} {fs:List (Nd×V)} (e:H a=some (.ins C dx fs)) (cl:Cls K C) (ha:ND K (.ref C) "__class__"=some (some (.builtin "object.__class__")))
  (hn:PySem.W.specialIn K (.builtin "object.__class__") "__get__"=some (some (.builtin "getset_descriptor.__get__"))) (Eo:PySem.W.takesIn K (.builtin "object.__class__")=some true)
  (hm:OK K C (.type "object")=some true):gF K H (.ref a) (.ref C)
theorem pV {x:V} {u t:M1} (I:Inv X pins σ H s) (rx:RelV x u) (ty:gF X.K H x t) (e:PJ X.K t c=some b) (h:∀ tk,Q (.bool b) { s with toks:=tk }) :
 Nv (NI X.prog X.w) A (call (.builtin "isinstance") [u,c]) Q E s:=by
 cases ty with
 | non=>cases (show u=PK from rx);exact ON PySem.W.kitx_none I.kIn QR e (fun z=>nomatch z) h
 | bl y=>cases (show u=Value.bool y from rx);exact ON PySem.W.kitx_bool I.kIn QR e (fun z=>nomatch z) h
 | int i=>obtain ⟨t,q⟩:=(show ∃ t,u=Value.int i t from rx);cases q;exact ON PySem.W.kitx_int I.kIn QR e (fun z=>nomatch z) h
 | str y=>obtain ⟨t,q⟩:=(show ∃ t,u=Value.str y t from rx);cases q;exact ON PySem.W.kitx_str I.kIn QR e (fun z=>nomatch z) h
 | flt y=>obtain ⟨t,q⟩:=(show ∃ t,u=Value.float y t from rx);cases q;exact ON PySem.W.kitx_float I.kIn QR e (fun z=>nomatch z) h
 | @lst a xs ea =>
   cases (show u=OB a from rx);obtain ⟨_,_,n,_,h1⟩:=(show ObjOk X.prog X.w H s.heap a (.lst xs) from I.hok a _ ea);exact ON PySem.W.kitx_list I.kIn ⟨_,h1,rfl⟩ e (fun z=>nomatch z) h
 | @frz a ob xs ea =>
   cases (show u=OB a from rx);obtain ⟨_,_,_,n,_,h1⟩:=(show ObjOk X.prog X.w H s.heap a (.frz ob (.lst xs)) from I.hok a _ ea);exact ON PySem.W.kitx_list I.kIn ⟨_,h1,rfl⟩ e (fun z=>nomatch z) h
 | @tup a xs ea =>
   cases (show u=OB a from rx);obtain ⟨_,_,_,_,h1⟩:=(show ObjOk X.prog X.w H s.heap a (.tup xs) from I.hok a _ ea);exact ON PySem.W.kitx_tuple I.kIn ⟨_,h1,rfl⟩ e (fun z=>nomatch z) h
 | @dK a xM ea =>
   cases (show u=OB a from rx);obtain ⟨_,_,vs,_,p⟩:=(show ObjOk X.prog X.w H s.heap a (.dK xM) from I.hok a _ ea);obtain ⟨o,es,ep,h1,h2,_⟩:=p;exact ON PySem.W.kitx_dict I.kIn ⟨o,h1,h2.1⟩ e (fun z=>nomatch z) h
 | @dT a xM ea =>
   cases (show u=OB a from rx);obtain ⟨_,_,xs,_,o,es,ep,h1,h2,_⟩:=(show ObjOk X.prog X.w H s.heap a (.dT xM) from I.hok a _ ea);exact ON PySem.W.kitx_dict I.kIn ⟨o,h1,h2.1⟩ e (fun z=>nomatch z) h
 | @ins a C dx fs ea cl ha hn Eo hm =>
   cases (show u=OB a from rx);obtain ⟨mA,O,_⟩:=ju I.hok ea;obtain ⟨od,J,_⟩:=O.look;exact ON (PySem.W.kitx_own (cl.get _) cl.hd ha hn Eo hm) I.kIn J e (fun z=>nomatch z) h
end
end L2
namespace L2
open PySem PySem.Spec PyProof.Rows
structure Room (k:Nat) (A:NT):Prop where
 hd:A.handled=none
 dp:A.depth+3 * k+5<recursionLimit
 un:A.units+16 * k+200<cLine
theorem Room.mono {j k:Nat} {A:NT} (r:Room k A) (h:j<=k):Room j A:=⟨r.hd,by have:=r.dp;omega,by have:=r.un;omega⟩
theorem Room.deeper {k:Nat} {A:NT} (r:Room (k+1) A) (env:Env):Room k (A.deeper env) :=
 ⟨r.hd,by have:=r.dp;show A.depth+1+3 * k+5<_;omega,by have:=r.un;show A.units+3+16 * k+200<_;omega⟩
theorem oI {A:NT} {C:M5} {us:List M1} {kw:List (Nd×M1)}:(A.under (.builtin "type.__call__" ⟨.ref C::us,kw⟩)).depth=A.depth+1:=by
 first | rfl | simp [Around.under,Code.weight,Code.isCreation,Code.isGuard,Code.isCaller,Code.frames,Code.isFrame,guardIds]
theorem oy {A:NT} {C:M5} {us:List M1} {kw:List (Nd×M1)}:(A.under (.builtin "type.__call__" ⟨.ref C::us,kw⟩)).units=A.units+1:=by
 first | rfl | simp [Around.under,Code.cUnits,Code.frames,Code.isFrame]
theorem Room.make {k:Nat} {A:NT} (r:Room (k+1) A) (C:M5) (us:List M1) (kw:List (Nd×M1)):Room k (A.under (.builtin "type.__call__" ⟨.ref C::us,kw⟩)) :=
 ⟨r.hd,by have:=r.dp;rw [oI];omega,by have:=r.un;rw [oy];omega⟩
theorem Room.depth {k:Nat} {A:NT} (r:Room k A):A.depth<recursionLimit:=by have:=r.dp;omega
theorem Room.units {k:Nat} {A:NT} (r:Room k A):A.units+64<cLine:=by have:=r.un;omega
def gm:TA:=fun _ H Q=>Q [] H
def cz (ta:TE) (tr:TA):TA:=fun σ H Q=>ta σ H fun x H1=>tr σ H1 fun xs H2=>Q (x::xs) H2
section
variable {X:Cx} {e:Od} {es:List Od} {te:TE} {t:TA} {pos:Qy}
theorem ae:PA X [] gm:=fun _ _ _ _ H Q I h=>P6 ⟨[],H,I,.nil,h⟩
theorem aa (ha:PE X e te) (hr:PA X es t) (hs:NV (e::es) X.env=(false,Pn e X.env)::NV es X.env:=by rfl):PA X (e::es) (cz te t):=by
 intro pos pins s σ H Q I h;rw [hs];show Nv _ _ (spliced ((false,Pn e X.env)::QG pos (NV es X.env))) _ _ s;refine O8 (thn (ha pins s σ H _ I h) fun u s1 ⟨x,H1,I1,r1,q1⟩=>?_);exact thn (hr pos pins s1 σ H1 _ I1 q1) fun us s2 ⟨xs,H2,I2,r2,q2⟩=>⟨x::xs,H2,I2,.cons r1 r2,q2⟩
def v4 (t:TA):TE:=fun σ H Q=>t σ H fun xs H1=>xs.length<=Ny/\∀ p,H1 p=none->Q (.ref p) (upd H1 p (.tup xs))
def qR (t:TA):TE:=fun σ H Q=>t σ H fun xs H1=>xs.length<=Ny/\∀ p,H1 p=none->Q (.ref p) (upd H1 p (.lst xs))
theorem dB {x1} (h:PA X es t):PE X (.Tuple es x1 pos) (v4 t):=by
 intro pins s σ H Q I hq;refine wpAny_Tuple_spliced (thn (h pos pins s σ H _ I hq) fun us s1 ⟨xs,H1,I1,r,z,q⟩=>⟨by rw [<- r.length];exact z,?_⟩);have hf:H1 s1.heap.objs.size=none:=I1.hok.fresh (M8 _);refine ⟨.ref s1.heap.objs.size,upd H1 s1.heap.objs.size (.tup xs),I1.laid (t':=s1.toks) (fun b u e=>M6 _ e) (M8 _) ?_,rfl,q _ hf⟩;exact ⟨z,us,0,r,Nf _ rfl⟩
theorem bc (h:PA X es t):PE X (.List es pos) (qR t):=by
 intro pins s σ H Q I hq;refine wpAny_List_spliced (thn (h pos pins s σ H _ I hq) fun us s1 ⟨xs,H1,I1,r,z,q⟩=>⟨by rw [<- r.length];exact z,?_⟩);have hf:H1 s1.heap.objs.size=none:=I1.hok.fresh (M8 _);refine ⟨.ref s1.heap.objs.size,upd H1 s1.heap.objs.size (.lst xs),I1.laid (t':=s1.toks) (fun b u e=>M6 _ e) (M8 _) ?_,rfl,q _ hf⟩;exact ⟨z,us,0,r,Nf _ rfl⟩
end
abbrev Sp:=List V->Hp->VK->XK->Prop
abbrev CXT:=List Env->Hp->M7->XK->M1->M7->Prop
structure Env0 (P:NC) (w:NP) (K:MY) (mg:Nd->Option M1) (base:Oo) (A:NT) (outer:List Env) (s:M7) (H:Hp):Prop where
 frames:A.frames=some outer
 mod:Mod K mg base
 bs:∀ b o,base.get? b=some o->s.heap.get? b=some o/\H b=none
 bsz:base.objs.size<=s.heap.objs.size
 funs:s.heap.FunFrames base outer
 frf:∀ b∈frs outer,H b=none
 hok:HOk P w H s.heap
 bare:RH s.gens
def CE (outer:List Env) (P:NC) (w:NP) (H:Hp) (s:M7) (Q:VK) (u:M1) (s':M7):Prop :=
 ∃ v H',s'.os=s.os/\RH s'.gens/\Un (frs outer) [] H H' s.heap s'.heap/\HOk P w H' s'.heap/\RelV v u/\Q v H'
def CR (CX:CXT) (outer:List Env) (P:NC) (w:NP) (H:Hp) (s:M7) (Q:VK) (E:XK) (r:Result) (s':M7):Prop :=
 match r with
 | .ok (.ret u)=>CE outer P w H s Q u s'
 | .ok _=>False
 | .error e=>CX outer H s E e s'
structure FnOk (P:NC) (w:NP) (K:MY) (mg:Nd->Option M1) (base:Oo) (CX:CXT) (k:Nat) (f:M5) (fd:Pl) (ps:List Nd) (sp:Sp):Prop where
 len:∀ vs H Q E,sp vs H Q E->vs.length=ps.length
 run:∀ (A:NT) (outer:List Env) (s:M7) (H:Hp) (args:Args) (us:List M1) (vs:List V) (Q:VK) (E:XK),Room k A->Env0 P w K mg base A outer s H->BindsTo s fd args (ps.zip us)->Vals vs us->sp vs H Q E →
  Rf (NI P w) A (.call (.ref f) args) (CR CX outer P w H s Q E) s
theorem Env0.make {P:NC} {w:NP} {K:MY} {mg:Nd->Option M1} {base:Oo} {A:NT} {outer:List Env} {s:M7} {H:Hp} (e:Env0 P w K mg base A outer s H) (C:M5) (us:List M1) (kw:List (Nd×M1)) :
 Env0 P w K mg base (A.under (.builtin "type.__call__" ⟨.ref C::us,kw⟩)) outer s H:=⟨by first | exact e.frames | (simpa [Around.under,Code.envs,Code.isFrame,pushEnvs] using e.frames),e.mod,e.bs,e.bsz,e.funs,e.frf,e.hok,e.bare⟩
section
variable {X:Cx} {pins:List (M5×Pb)} {σ:St} {H:Hp} {s s':M7}
theorem Inv.env0 (I:Inv X pins σ H s):Env0 X.prog X.w X.K X.mg X.base X.A X.stack s H :=
 ⟨I.ok.frames,I.ok.mod,I.bs,Ow I.ok.bsz I.sz,I.stack,I.stkFree,I.hok,I.bare⟩
theorem Inv.after {Q:VK} {u:M1} (I:Inv X pins σ H s) (h:CE X.stack X.prog X.w H s Q u s'):EP X pins σ Q u s':=by
 obtain ⟨v,H',os,bare,un,hok,r,q⟩:=h;obtain ⟨hh,g,d,t,JD⟩:=s';obtain rfl:JD=s.os:=os;exact ⟨v,H',I.call (h':=hh) (g':=g) (d':=d) (t':=t) (ch:=[]) un hok bare (fun b z=>absurd z (by simp)),r,q⟩
end
def nH (sp:Sp) (yn:List V) (E:XK) (t:TA):TE:=fun σ H Q=>t σ H fun vs H1=>sp (vs++yn) H1 Q E
def wx (C:M5) (m:Nd) (sp:Sp) (yn:List V) (E:XK) (ta:TE) (t:TA):TE:=fun σ H Q=>ta σ H fun x H1=>∃ a dx fs,x=.ref a/\H1 a=some (.ins C dx fs)/\fs.lookup m=none ∧
 t σ H1 fun vs H2=>sp (x::(vs++yn)) H2 Q E
def vL (C:M5) (sp:Sp) (yn:List V) (E:XK) (t:TA):TE:=fun σ H Q=>t σ H fun vs H1=>∀ x dx,H1 x=none->H1 dx=none->dx≠x →
 sp (.ref x::(vs++yn)) (upd (upd H1 dx (.own x)) x (.ins C dx [])) (fun v H2=>v=.non/\Q (.ref x) H2) E
def Binds (K:MY) (fd:Pl) (ps:List Nd) (ds:List M1):Prop :=
 ∀ (s:M7) (us:List M1),K.In s.heap->(us++ds).length=ps.length->BindsTo s fd ⟨us,[]⟩ (ps.zip (us++ds))
theorem Binds.all {K:MY} {fd:Pl} {ps:List Nd} (h:∀ us:List M1,us.length=ps.length->bindArgs fd ⟨us,[]⟩=pure (ps.zip us)):Binds K fd ps []:=fun s us _ hl=>by
 rw [Nz] at hl ⊢;exact .of_eq (h us hl)
def Passes (CX:CXT) (X:Cx) (E:XK):Prop:=∀ (pins:List (M5×Pb)) (σ:St) (H:Hp) (s:M7) (e:M1) (s':M7),Inv X pins σ H s->CX X.stack H s E e s'->X.xe e s'
section
variable {X:Cx} {CX:CXT} {k:Nat} {f C:M5} {fd:Pl} {ps:List Nd} {sp:Sp} {yn:List V} {ds:List M1} {E:XK} {x m:Nd} {p pos apos:Qy} {e o:Od} {es:List Od} {ta:TE} {t:TA}
theorem qS {pins:List (M5×Pb)} {σ:St} {H:Hp} {s:M7} {Q:VK} {us:List M1} {vs:List V} (F:FnOk X.prog X.w X.K X.mg X.base CX k f fd ps sp) (hr:Room k X.A) (hb:Binds X.K fd ps ds) (hd:Vals yn ds) (hx:Passes CX X E)
 (I:Inv X pins σ H s) (r:Vals vs us) (h:sp (vs++yn) H Q E):Nv (NI X.prog X.w) X.A (call (.ref f) us) (EP X pins σ Q) X.xe s:=by
 have r2:Vals (vs++yn) (us++ds):=r.append hd;have hl:(us++ds).length=ps.length:=by rw [<- r2.length];exact F.len _ _ _ _ h
 refine wpAny_call (Qi (F.run X.A X.stack s H ⟨us,[]⟩ (us++ds) (vs++yn) Q E hr I.env0 (hb s us I.kIn hl) r2 h) fun r s' hq=>?_);cases r with
 | error e=>exact hx pins σ H s e s' I hq
 | ok fl =>
   cases fl with
   | ret u=>exact I.after hq
   | next=>exact OF hq
   | brk=>exact OF hq
   | cont=>exact OF hq
theorem aY (F:FnOk X.prog X.w X.K X.mg X.base CX k f fd ps sp) (hr:Room k X.A) (hg:Gl X x) (hm:X.mg x=some (.ref f)) (hk:O5 X.K (.ref f)=true) (hb:Binds X.K fd ps ds) (hd:Vals yn ds) (hx:Passes CX X E)
 (ha:PA X (e::es) t) (zV:(x == ("__debug__":Nd))=false:=by decide) (he:NV (e::es) X.env=(false,Pn e X.env)::NV es X.env:=by rfl) (yk:(QG pos (NV es X.env)).any (·.1)=false:=by rfl) :
 PE X (.Call (.Name x p) (e::es) [] pos) (nH sp yn E t):=by
 intro pins s σ H Q I h;refine O7 (gN I hg hm ?_ zV);refine RD (h₀:=X.base) I.ok.mod.kin hk (thn (ha pos pins s σ H _ I h) fun us s1 ⟨vs,H1,I1,r,q⟩=>⟨I1.kIn,?_⟩) he yk;exact qS F hr hb hd hx I1 r q
theorem sX {pl:Sem Bool} (he:PE X o ta) (c:Cls X.K C) (hm:Meth X.K C m f) (F:FnOk X.prog X.w X.K X.mg X.base CX k f fd ps sp) (hr:Room k X.A) (hb:Binds X.K fd ps ds) (hd:Vals yn ds) (hx:Passes CX X E) (ha:PA X (e::es) t)
 (xF:NV (e::es) X.env=(false,Pn e X.env)::NV es X.env:=by rfl) (yk:(QG pos (NV es X.env)).any (·.1)=false:=by rfl)
 (ht:Pn (.Call (.Attribute o m apos) (e::es) [] pos) X.env=(do
  let ov ← Pn o X.env
  standAt apos.atName
  let (f,first) ← holding [ov] (getMethod ov m pl)
  callWith pos f first (QG pos (NV (e::es) X.env)) (backToKw pos (keywordEach [] X.env))):=by rfl) :
 PE X (.Call (.Attribute o m apos) (e::es) [] pos) (wx C m sp yn E ta t):=by
 intro pins s σ H Q I h;refine PySem.W.methodCall_KW (pl:=pl) (thn (he pins s σ H _ I h) fun u s1 ⟨x,H1,I1,rx,a,dx,fs,ex,ea,l,q⟩=>?_) ht;subst ex;obtain rfl:u=OB a:=rx;refine oC I1 ea c hm l ?_;refine RD (first:=[.ref a]) (h₀:=X.base) I.ok.mod.kin hm.kp (thn (ha pos pins s1 σ H1 _ I1 q) fun us s2 ⟨vs,H2,I2,r,q2⟩=>⟨I2.kIn,?_⟩) xF yk;exact qS (us:=.ref a::us) (vs:=.ref a::vs) F hr hb hd hx I2 (.cons rfl r) q2
structure Mk (K:MY) (C f:M5):Prop where
 makes:PySem.W.makesIn K C=true
 init:ND K (.ref C) "__init__"=some (some (.ref f))
 fn:Q5 K (.ref f)=true
 kp:O5 K (.ref C)=true
theorem sH {pins:List (M5×Pb)} {σ:St} {H:Hp} {s:M7} {Q:VK} {us:List M1} {vs:List V} (M:Mk X.K C f) (F:FnOk X.prog X.w X.K X.mg X.base CX k f fd ps sp) (hr:Room (k+1) X.A) (hb:Binds X.K fd ps ds) (hd:Vals yn ds)
 (hx:Passes CX X E) (I:Inv X pins σ H s) (r:Vals vs us)
 (h:∀ x dx,H x=none->H dx=none->dx≠x->sp (.ref x::(vs++yn)) (upd (upd H dx (.own x)) x (.ins C dx [])) (fun v H2=>v=.non/\Q (.ref x) H2) E) :
 Nv (NI X.prog X.w) X.A (call (.ref C) us) (EP X pins σ Q) X.xe s:=by
 have hq:=h (s.heap.objs.size+1) s.heap.objs.size (I.hok.fresh (Nat.le_succ _)) (I.hok.fresh (M8 _)) (NQ (Qz _));have I2:=Inv.made (C:=C) I;have r2:Vals (V.ref (s.heap.objs.size+1)::(vs++yn)) (OB (s.heap.objs.size+1)::(us++ds)):=.cons rfl (r.append hd)
 have hl:(OB (s.heap.objs.size+1)::us++ds).length=ps.length:=by
  have e:=r2.length;rw [F.len _ _ _ _ hq] at e;exact e.symm
 refine wpAny_call (rV (f:=f) I.kIn M.makes M.init (beq_iff_eq.mp M.fn) (Qi (F.run _ X.stack _ _ ⟨OB (s.heap.objs.size+1)::us,[]⟩ (OB (s.heap.objs.size+1)::(us++ds)) _ _ E (hr.make C us [])
  (I2.env0.make C us []) (hb _ (OB (s.heap.objs.size+1)::us) I2.kIn hl) r2 hq) fun r s' CO=>?_))
 cases r with
 | error e=>exact hx pins σ _ _ e s' I2 CO
 | ok fl =>
   cases fl with
   | ret u =>
     obtain ⟨v,H',I3,rv,ev,q3⟩:=I2.after CO;subst ev;exact ⟨rv,⟨V.ref (s.heap.objs.size+1),H',I3,rfl,q3⟩⟩
   | next=>exact OF CO
   | brk=>exact OF CO
   | cont=>exact OF CO
theorem rH (M:Mk X.K C f) (F:FnOk X.prog X.w X.K X.mg X.base CX k f fd ps sp) (hr:Room (k+1) X.A) (hg:Gl X x) (hm:X.mg x=some (.ref C)) (hb:Binds X.K fd ps ds) (hd:Vals yn ds) (hx:Passes CX X E)
 (zV:(x == ("__debug__":Nd))=false:=by decide):PE X (.Call (.Name x p) [] [] pos) (vL C sp yn E gm):=by
 intro pins s σ H Q I h;refine O7 (gN I hg hm ?_ zV);exact PySem.W.callWith_K0 I.kIn M.kp (sH (us:=[]) M F hr hb hd hx I .nil h)
end
section
variable {X:Cx} {CX:CXT} {k:Nat} {f C:M5} {fd:Pl} {ps ks:List Nd} {sp:Sp} {E:XK} {x m:Nd} {p pos apos JE:Qy} {e o:Od} {es:List Od} {Mp:List Keyword} {te ta:TE} {t tk:TA} {nm:Option Nd}
variable {g:List M1->List M1->List M1} {gV:List V->List V->List V}
end
structure au (N P:List Nd) (sc:Qq):Prop where
 kind:sc.kind=.function
 co:sc.isCoroutine=false
 gen:sc.isGenerator=false
 nd:N.Nodup
 pre:N.take P.length=P
 par:∀ x∈P,sc.names.lookup x=some .local∨sc.names.lookup x=some .cell
 nofree:∀ y∈sc.names,y.2≠.free
theorem lz {kindOf:Nd->Option Pj} {x:Nd}:∀ {binds:List (Nd×M1)} {m:Nd->Option M1},(∀ v,(x,v)∉binds)->bindL kindOf binds m x=m x
 | [],_,_=>rfl
 | (n,v)::r,m,h=>by
   unfold bindL;rw [lz fun w hw=>h w (Ng _ hw)];split
   · have:x≠n:=by rintro rfl;exact h v Nj
     simp [this]
   · rfl
theorem lE {kindOf:Nd->Option Pj} {x:Nd}:∀ {binds:List (Nd×M1)} {m:Nd->Option M1},(∀ v,(x,v)∉binds)->bindC kindOf binds m x=m x
 | [],_,_=>rfl
 | (n,v)::r,m,h=>by
   unfold bindC;rw [lE fun w hw=>h w (Ng _ hw)];split
   · rfl
   · have:x≠n:=by rintro rfl;exact h v Nj
     simp [this]
theorem lh {kindOf:Nd->Option Pj} {x:Nd} {v:M1}:∀ {P:List Nd} {vs:List M1} {i:Nat} {m:Nd->Option M1},P.Nodup->P[i]?=some x->vs[i]?=some v->kindOf x=some .local →
 bindL kindOf (P.zip vs) m x=some v
 | [],_,_,_,_,h,_,_=>by simp at h
 | _::_,[],_,_,_,_,h,_=>by simp at h
 | p::P,w::vs,0,m,nd,h1,h2,hk=>by
   simp at h1 h2;subst h1;subst h2;show bindL kindOf ((p,w)::P.zip vs) m p=_;unfold bindL;rw [lz fun v hv=>(OX.mp nd).1 (List.of_mem_zip hv).1,if_pos hk];simp
 | p::P,w::vs,i+1,m,nd,h1,h2,hk=>by
   show bindL kindOf ((p,w)::P.zip vs) m x=_;unfold bindL;exact lh (i:=i) (OX.mp nd).2 (by simpa using h1) (by simpa using h2) hk
theorem li {kindOf:Nd->Option Pj} {x:Nd} {v:M1}:∀ {P:List Nd} {vs:List M1} {i:Nat} {m:Nd->Option M1},P.Nodup->P[i]?=some x->vs[i]?=some v->kindOf x≠some .local →
 bindC kindOf (P.zip vs) m x=some v
 | [],_,_,_,_,h,_,_=>by simp at h
 | _::_,[],_,_,_,_,h,_=>by simp at h
 | p::P,w::vs,0,m,nd,h1,h2,hk=>by
   simp at h1 h2;subst h1;subst h2;show bindC kindOf ((p,w)::P.zip vs) m p=_;unfold bindC;rw [lE fun v hv=>(OX.mp nd).1 (List.of_mem_zip hv).1,if_neg hk];simp
 | p::P,w::vs,i+1,m,nd,h1,h2,hk=>by
   show bindC kindOf ((p,w)::P.zip vs) m x=_;unfold bindC;exact li (i:=i) (OX.mp nd).2 (by simpa using h1) (by simpa using h2) hk
def start (N:List Nd) (vs:List V):St:=vs.map some++Nn (N.length - vs.length) none
def kI (CX:CXT) (P:NC) (w:NP) (K:MY) (mg:Nd->Option M1) (base:Oo) (N:List Nd) (qual:Nd) (scope:Qq) (f:M5) (cd:M1) (A:NT) (outer:List Env) (s:M7) (H:Hp) (E:XK):Cx where
 prog:=P
 w:=w
 K:=K
 mg:=mg
 base:=base
 A:=A.deeper (PY qual scope s.heap.objs.size f cd)
 N:=N
 s₀:=s
 H₀:=H
 env:=PY qual scope s.heap.objs.size f cd
 outer:=outer
 stack:=PY qual scope s.heap.objs.size f cd::outer
 ex:=[]
 calm:=true
 fn:=fun _=>true
 pn:=[]
 xe:=fun e s'=>Nv (NI P w) (A.deeper (PY qual scope s.heap.objs.size f cd)) (leaving (PY qual scope s.heap.objs.size f cd) e) (fun _ CP=>CX outer H s E e CP) (fun e' CP=>CX outer H s E e' CP) s'
theorem nz {sc:Qq} {n:Nat} {x:Nd} (h:sc.names.lookup x=some .cell):∃ c,(cellsFrom n sc.names []).lookup x=some c:=by
 have q:=PySem.W.cellsFrom_some sc.names n [] (.inl h);exact Option.isSome_iff_exists.mp q
theorem qI {CX:CXT} {P:NC} {w:NP} {K:MY} {mg:Nd->Option M1} {base:Oo} {N ps:List Nd} {qual:Nd} {scope:Qq} {f:M5} {cd:M1} {A:NT} {outer:List Env} {s s1:M7} {H:Hp} {E:XK} {us:List M1} {vs:List V}
 (S:au N ps scope) (hd:A.handled=none) (e0:Env0 P w K mg base A outer s H) (hl:vs.length=ps.length) (r:Vals vs us)
 (x:InCallC s s.heap.objs.size (bindL (PY qual scope s.heap.objs.size f cd).kindOf (ps.zip us) fun _=>none) (cellsFrom (s.heap.objs.size+1) scope.names []) (bindC (PY qual scope s.heap.objs.size f cd).kindOf (ps.zip us) fun _=>none) s1) :
 Inv (kI CX P w K mg base N qual scope f cd A outer s H E) [] (start N vs) H s1:=by
 have yk:ps.length<=N.length:=by have:=congrArg O6 S.pre;rw [Og] at this;omega
 obtain ⟨h1,tk,rfl,hk⟩:=x.done;have CQ:∀ b:M5,b∉(kI CX P w K mg base N qual scope f cd A outer s H E).ex:=fun b z=>absurd (show b∈([]:List M5) from z) (by simp)
 refine ⟨⟨e0.mod,S.kind,rfl,rfl,M8 _,fun y z c h1 h2=>?_,fun y hy=>?_,fun y c _ h=>?_,fun _=>hd,Around.frames_deeper e0.frames,.inr ⟨rfl,rfl⟩,fun b z=>absurd z (CQ b),e0.bs,e0.bsz,fun b _ _=>CQ b,fun b z=>absurd z (CQ b),e0.funs,e0.frf⟩,
  rfl,e0.bare,Un.kept hk,⟨_,x.toInCall.ns,fun i y v h1 h2 h3=>?_⟩,fun y c h=>⟨_,x.cell y c h⟩,e0.hok.fresh (M8 _),fun y c h=>?_,fun p hp=>absurd (show p∈([]:List (M5×Pb)) from hp) (by simp),e0.hok.kept hk,?_⟩
 · exact name_of_addr x.apart (P7 h1) (P7 h2)
 · have hy:scope.names.lookup y=some .cell∨scope.names.lookup y=some .free:=hy;rcases hy with hy | hy
   · exact nz hy
   · exact absurd rfl (S.nofree _ (P7 hy))
 · exact Qn (x.above y c (P7 h))
 · have hi:i<vs.length:=by
    unfold start at h2;by_cases hi:i<vs.length
    · exact hi
    · rw [QT (by simpa using hi)] at h2;rw [List.getElem?_replicate] at h2;split at h2 <;> cases h2
   have ha:vs[i]?=some v:=by
    unfold start at h2;rw [QU (by simpa using hi),Nq] at h2;cases e:vs[i]? with
    | none=>rw [e] at h2;cases h2
    | some a=>rw [e] at h2;cases h2;rfl
   obtain ⟨u,hu,rv⟩:=r.get ha
   have hp:ps[i]?=some y:=by
    rw [<- S.pre,List.getElem?_take_of_lt (by omega)];exact h1
   have Hq:ps.Nodup:=by rw [<- S.pre];exact S.nd.sublist (List.take_sublist _ _)
   refine ⟨u,rv,?_⟩;rcases S.par y (Nu hp) with k | k
   · exact .inl ⟨k,lh Hq hp hu k⟩
   · obtain ⟨c,e⟩:=nz (n:=s.heap.objs.size+1) k;refine .inr ⟨.inl k,c,e,?_⟩;have q:=x.cell y c e;rw [li Hq hp hu (by show scope.names.lookup y≠_;rw [k];decide)] at q;exact q
 · exact e0.hok.fresh (Qn (x.above y c (P7 h)))
 · unfold start;show _=N.length;rw [Na,MX,Pm];omega
theorem uA {CX:CXT} {P:NC} {w:NP} {K:MY} {mg:Nd->Option M1} {base:Oo} {k:Nat} {f:M5} {name qual:Nd} {params:Arguments} {body:List OP} {scope:Qq} {dV kV doc pm xy ct oc:M1} {an od:Option M5}
 {AK:Array (Option M1)} {N ps:List Nd} {sp:Sp} (lk:K.lookup f=some ⟨oc,od,.func (Px name qual params body scope dV kV doc pm an xy ct),AK⟩) (zA:Ql K xy qual=true) (S:au N ps scope)
 (len:∀ vs H Q E,sp vs H Q E->vs.length=ps.length)
 (yx:∀ (A:NT) (outer:List Env) (s:M7) (H:Hp) (vs:List V) (Q:VK) (E:XK),Room k (A.deeper (PY qual scope s.heap.objs.size f xy))->sp vs H Q E →
  ∃ t,PSs (kI CX P w K mg base N qual scope f xy A outer s H E) body t/\t { nx:=fun _ H'=>Q .non H',rt:=Q } (start N vs) H) :
 FnOk P w K mg base CX (k+1) f (Px name qual params body scope dV kV doc pm an xy ct) ps sp:=by
 refine ⟨len,fun A outer s H args us vs Q E hr e0 hb r yS=>?_⟩;have hl:=len _ _ _ _ yS;have KX:K.In s.heap:=e0.mod.kin.keeps fun b o e=>(e0.bs b o e).1;have lim:s.heap.NoLimit:=e0.mod.nolimit.keeps fun b o e=>(e0.bs b o e).1
 have CS:∀ y∈ps.zip us,scope.names.lookup y.1=some .local∨(scope.names.lookup y.1=some .cell/\((cellsFrom (s.heap.objs.size+1) scope.names []).lookup y.1).isSome=true):=fun ⟨n,v⟩ hy=>by
  rcases S.par n (List.of_mem_zip hy).1 with q | q
  · exact .inl q
  · exact .inr ⟨q,PySem.W.cellsFrom_some _ _ _ (.inl q)⟩
 refine codeAny_call_function hr.depth (KX _ _ lk) rfl S.co S.gen rfl (PySem.W.codeRec_of KX zA) (hb _ _ _ _ ?_);refine wpAny_newFunctionEnv_cells S.kind CS fun env he s1 x=>?_;subst he;refine ⟨lim.keeps x.toInCall.keep,codeAny_func ?_⟩;obtain ⟨t,ht,hq⟩:=yx A outer s H vs Q E (hr.deeper _) yS;have I:Inv (kI CX P w K mg base N qual scope f xy A outer s H E) [] (start N vs) H s1:=qI S hr.hd e0 hl r x;refine OM (ht [] s1 (start N vs) H _ I hq) (fun fl s' hs=>?_) fun e s' hs=>hs
 have fin:∀ {f':St} {H':Hp} {v:V} {u:M1},Inv (kI CX P w K mg base N qual scope f xy A outer s H E) [] f' H' s'->RelV v u->Q v H'->CE outer P w H s Q u s' :=
  fun {f' H' v u} J rv q=>⟨v,H',J.os,J.bare,J.base,J.hok,rv,q⟩
 cases fl with
 | ret u =>
   obtain ⟨v,f',H',J,rv,q⟩:=hs;exact fin J rv q
 | next =>
   obtain ⟨f',H',J,q⟩:=hs;exact fin (v:=V.non) (u:=PK) J rfl q
 | brk =>
   obtain ⟨_,_,_,q⟩:=hs;exact OF q
 | cont =>
   obtain ⟨_,_,_,q⟩:=hs;exact OF q
end L2
namespace L2
open PySem PySem.Spec PyProof.Rows
section
variable {X:Cx} {x:Nd} {p pos:Qy} {e:Od} {es:List Od} {t:TA} {id T:String} {r:List V->Hp->VK->Prop}
def tCB (r:List V->Hp->VK->Prop) (t:TA):TE:=fun σ H Q=>t σ H fun vs H1=>r vs H1 Q
theorem az (hc:dq X (.builtin id) r) (hg:Gl X x) (hm:X.mg x=none) (hv:QX x=some (.builtin id)) (ha:PA X (e::es) t) (hn:x≠"__name__":=by decide) (zV:(x == ("__debug__":Nd))=false:=by decide)
 (he:NV (e::es) X.env=(false,Pn e X.env)::NV es X.env:=by rfl) (yk:(QG pos (NV es X.env)).any (·.1)=false:=by rfl):PE X (.Call (.Name x p) (e::es) [] pos) (tCB r t):=by
 intro pins s σ H Q I h;refine O7 (gA I hg hm hv ?_ hn zV);exact PyProof.Rows.callWith_builtin1 (thn (ha pos pins s σ H _ I h) fun us s1 ⟨vs,H1,I1,r1,q1⟩=>hc pins s1 σ H1 vs us Q I1 r1 q1) he yk
theorem bH (hc:dq X (.type T) r) (hg:Gl X x) (hm:X.mg x=none) (hv:QX x=some (.type T)) (ha:PA X (e::es) t) (hn:x≠"__name__":=by decide) (zV:(x == ("__debug__":Nd))=false:=by decide)
 (he:NV (e::es) X.env=(false,Pn e X.env)::NV es X.env:=by rfl) (yk:(QG pos (NV es X.env)).any (·.1)=false:=by rfl):PE X (.Call (.Name x p) (e::es) [] pos) (tCB r t):=by
 intro pins s σ H Q I h;refine O7 (gA I hg hm hv ?_ hn zV);exact Pd (thn (ha pos pins s σ H _ I h) fun us s1 ⟨vs,H1,I1,r1,q1⟩=>hc pins s1 σ H1 vs us Q I1 r1 q1) he yk
end
end L2
namespace HT
open PySem PyProof.Rows
section
open PySem.SeqAt
open PySem.AutoSeq1 (wpAny_loadPart')
open PySem.MeetsSeq PySem.MeetsSeq2 PySem.MeetsSeq3
end
section
variable {prog:NC} {w:NP} {A:NT} {E:M1->M7->Prop} {s:M7}
theorem cat_tup {t b:M5} {vs ws:List M1} {Q:M1->M7->Prop} (ht:IsTup s.heap t vs.toArray) (hb:IsTup s.heap b ws.toArray) (hv:vs≠[])
 (h1:ws=[]->Q (.ref t) s) (h2:ws≠[]->Q (.ref s.heap.objs.size) { s with heap:=s.heap.push { cls:=.type "tuple",data:=.seq (vs++ws).toArray } })
 (xQ:vs.length+ws.length<=Ny):Nv (NI prog w) A (Qk .Add (.ref t) (.ref b)) Q E s:=by
 obtain ⟨⟨cls,dd,data,sl⟩,ho,hc,n,hd⟩:=id ht;obtain ⟨⟨CU,Ce,data2,Cf⟩,BJ,AL,n2,hd2⟩:=id hb;simp only at hc hd AL hd2;subst hc hd AL hd2;have e:vs.toArray++ws.toArray=(vs++ws).toArray:=by simp
 by_cases hw:ws=[]
 · exact concat_meets ⟨_,ho,rfl⟩ ⟨_,BJ,rfl⟩ noFill_tuple_add seq_tuple_add Q7 Q3 (QY _ _)
    (tuple_addW1 t b vs.toArray ws.toArray n n2 dd Ce sl Cf (by simpa using hv) (by simp [hw])) ⟨ho,BJ,h1 hw⟩
 · refine concat_meets ⟨_,ho,rfl⟩ ⟨_,BJ,rfl⟩ noFill_tuple_add seq_tuple_add Q7 Q3 (QY _ _)
    (tuple_addW2 t b vs.toArray ws.toArray n n2 dd Ce sl Cf (by simpa using hv) (by simpa using hw) (by rw [M9,M9];exact xQ)) ⟨ho,BJ,?_⟩
   rw [e];exact h2 hw
def sIx (n d:Nat):Option Int->Nat
 | none=>d
 | some v=>if v<0 then (v+(n:Int)).toNat else min v.toNat n
theorem sIx_none (n d:Nat):sIx n d none=d:=rfl
theorem sIx_nat (n d k:Nat):sIx n d (some (k:Int))=min k n:=by
 show (if (k:Int)<0 then ((k:Int)+(n:Int)).toNat else min (k:Int).toNat n)=min k n;rw [if_neg (by omega),NW]
theorem sIx_le (n d:Nat) (hd:d<=n) (o:Option Int):sIx n d o<=n:=by
 cases o with
 | none=>exact hd
 | some v =>
   show (if v<0 then (v+(n:Int)).toNat else min v.toNat n)<=n;by_cases hv:v<0
   · rw [if_pos hv];omega
   · rw [if_neg hv];exact Nat.min_le_right _ _
theorem clip_eq (v:Int) (n d:Nat):(if v<0 then max (v+(n:Int)) 0 else min v (n:Int))=((sIx n d (some v):Nat):Int):=by
 show (if v<0 then max (v+(n:Int)) 0 else min v (n:Int))=(((if v<0 then (v+(n:Int)).toNat else min v.toNat n):Nat):Int);by_cases hv:v<0
 · simp only [if_pos hv];omega
 · simp only [if_neg hv];omega
theorem adjust_gen (lo hi:Option Int) (n:Nat):PD lo hi 1 (n:Int)=(((sIx n 0 lo:Nat):Int),((sIx n n hi:Nat):Int)):=by
 have h1:¬ ((1:Int)<0):=by omega
 unfold PD;simp only [h1,if_false];refine Prod.ext ?_ ?_
 · cases lo with
   | none=>rfl
   | some v=>exact clip_eq v n 0
 · cases hi with
   | none=>rfl
   | some v=>exact clip_eq v n n
theorem places_gen (i j:Nat):Ot (i:Int) (j:Int) 1=j - i:=by
 unfold Ot;have h1:(1:Int) > 0:=by omega
 simp only [h1,if_true,RU];split <;> omega
theorem slicePart_ {v:M1} {o:Option Int} {Q:Option Int->M7->Prop} (p:IsPart v o) (h:Q o s):Nv (NI prog w) A (Builtin.Slice.slicePartIndex v) Q E s:=by
 cases p with
 | none=>exact slicePart_none h
 | int i t=>exact slicePart_int h
theorem sliceApplied_gen {sl:M5} {vl vu:M1} {lo hi:Option Int} {n:Nat} {Q:Int×Int×Nat->M7->Prop} (hs:s.heap.IsSliceOf sl vl vu .none) (pl:IsPart vl lo) (pu:IsPart vu hi)
 (h:Q (((sIx n 0 lo:Nat):Int),1,sIx n n hi - sIx n 0 lo) s):Nv (NI prog w) A (Qg (.ref sl) (pure (n:Int))) Q E s:=by
 obtain ⟨os,zj,CV,yW⟩:=id hs;unfold Qg Builtin.Slice.sliceFields;refine M0 (M0 (Of zj yW (x:=vl) rfl (M0 (Of zj yW (x:=vu) rfl (M0 (Of zj yW (x:=.none) rfl (Nk ?_)))))));refine M0 (slicePart_none ?_);show Nv _ _ (if ((1:Int) == 0)=true then _ else _) _ _ s;rw [if_neg (by decide)];refine M0 (slicePart_ pl (M0 (slicePart_ pu (M0 (Nk ?_)))));show Nv _ _ (match PD lo hi 1 (n:Int) with | (lo,hi)=>pure (lo,(1:Int),Ot lo hi 1)) _ _ s;rw [adjust_gen lo hi n];show Nv _ _ (pure (((sIx n 0 lo:Nat):Int),(1:Int),Ot ((sIx n 0 lo:Nat):Int) ((sIx n n hi:Nat):Int) 1)) _ _ s;rw [places_gen];exact Nk h
theorem pick_gen (xs:Array M1) (i k:Nat):((NU k).filterMap fun (m:Nat)=>xs[((i:Int)+(m:Int) * 1).toNat]?).toArray=((xs.toList.drop i).take k).toArray:=by
 have e:(fun (m:Nat)=>xs[((i:Int)+(m:Int) * 1).toNat]?)=fun m=>xs[i+m]?:=by
  funext m;have:((i:Int)+(m:Int) * 1).toNat=i+m:=by omega
  rw [this]
 rw [e];have:=pick_run xs i k;rw [List.filterMap_map] at this;have e2:((fun x=>xs[x]?) ∘ fun x=>i+x)=fun m=>xs[i+m]?:=rfl;rw [e2] at this;rw [this]
theorem getItem_tuple_cut {t sl:M5} {items:Array M1} {vl vu:M1} {lo hi:Option Int} {Q:M1->M7->Prop} (ht:IsTup s.heap t items) (hs:s.heap.IsSliceOf sl vl vu .none) (pl:IsPart vl lo) (pu:IsPart vu hi)
 (hw:¬ (sIx items.size 0 lo=0/\sIx items.size items.size hi=items.size))
 (h:Q (.ref s.heap.objs.size) { s with heap:=s.heap.push { cls:=.type "tuple",data:=.seq ((items.toList.drop (sIx items.size 0 lo)).take (sIx items.size items.size hi - sIx items.size 0 lo)).toArray } })
 (xQ:items.size<=Ny):Nv (NI prog w) A (Ru (.ref t) (.ref sl)) Q E s:=by
 have yf:sizeOk (.seq ((items.toList.drop (sIx items.size 0 lo)).take (sIx items.size items.size hi - sIx items.size 0 lo)).toArray):=by
  show ((items.toList.drop (sIx items.size 0 lo)).take (sIx items.size items.size hi - sIx items.size 0 lo)).toArray.size<=Ny;rw [M9,Og,N9,Nm];omega
 have hj:sIx items.size items.size hi<=items.size:=sIx_le _ _ (M8 _) hi;obtain ⟨os,zj,CV,yW⟩:=id hs;have Ff:s.TypeIs (.ref sl) "slice":=⟨os,zj,CV⟩;unfold Ru
 try with_reducible refine Po ?_
 first | refine M0 (Nk ?_) | skip
 refine M0 (wpAny_sequenceKey ht.typeIs (by decide) ?_)
 refine M0 (Pe (name:=MW "__getitem__") ht.typeIs Oz
  (Qh Oz ht.typeIs entry_tuple_getitem ?_ (args_tuple_getitem _ _)))
 show Nv _ _ (Builtin.Tuple.tupleItemsOf (.ref t) >>= _) _ _ s;refine M0 (tupleItemsOf_ ht ?_);refine M0 (wpAny_typeOf Ff ?_);rw [if_pos (by decide)];refine M0 (sliceApplied_gen hs pl pu ?_)
 have xU:¬ ((((sIx items.size 0 lo:Nat):Int) == 0 && (1:Int) == 1 && (sIx items.size items.size hi - sIx items.size 0 lo) == items.size)=true):=by
  intro q;rw [NX,NX] at q;have q1:((sIx items.size 0 lo:Nat):Int)=0:=eq_of_beq q.1.1;have q2:sIx items.size items.size hi - sIx items.size 0 lo=items.size:=eq_of_beq q.2;exact hw ⟨by omega,by omega⟩
 show Nv _ _ (if (((sIx items.size 0 lo:Nat):Int) == 0 && (1:Int) == 1 && (sIx items.size items.size hi - sIx items.size 0 lo) == items.size)=true then _ else _) _ _ s;rw [if_neg xU,pick_gen]
 first
  | exact M0 (m:=Ox _) (OA (Nk ⟨_,rfl,Nk h⟩) yf)
  | exact M0 (m:=Ox _) (OA (M0 (Nk (Nk ⟨_,rfl,Nk h⟩))) yf)
  | exact M0 (M0 (m:=Ox _) (OA (Nk (Nk ⟨_,rfl,Nk h⟩)) yf))
  | exact M0 (M0 (m:=Ox _) (OA (Nk ⟨_,rfl,Nk h⟩) yf))
end
end HT
namespace L2
open PySem PySem.Spec PyProof.Rows
abbrev TO:=St->Hp->(Option Int->Hp->Prop)->Prop
def PO (X:Cx) (e:Option Od) (t:TO):Prop :=
 ∀ (pins:List (M5×Pb)) (s:M7) (σ:St) (H:Hp) (Q:Option Int->Hp->Prop),Inv X pins σ H s->t σ H Q →
   Nv (NI X.prog X.w) X.A (evalPart e X.env) (fun u s'=>∃ o H',Inv X pins σ H' s'/\IsPart u o/\Q o H') X.xe s
def sS:TO:=fun _ H Q=>Q none H
inductive ut (x:V) (Q:Option Int->Hp->Prop) (H1:Hp):Prop
 | mk (i:Int) (xB:x=.int i) (xC:Q (some i) H1):ut x Q H1
def ug (t:TE):TO:=fun σ H Q=>t σ H fun x H1=>ut x Q H1
section
variable {X:Cx} {e:Od} {te:TE} {lo hi:Option Od} {tl th:TO} {pos p2:Qy}
theorem cK:PO X none sS:=by
 intro pins s σ H Q I h;rw [evalPart_none];exact Nk ⟨none,H,I,.none,h⟩
theorem bL (h:PE X e te):PO X (some e) (ug te):=by
 intro pins s σ H Q I hw;rw [evalPart_some];refine thn (h pins s σ H _ I hw) fun u s1 ⟨x,H1,I1,r1,q1⟩=>?_;obtain ⟨i,rfl,q⟩:=q1;obtain ⟨t,rfl⟩:=r1;exact ⟨some i,H1,I1,.int i t,q⟩
def SlR (X:Cx) (r:V->Option Int->Option Int->Hp->VK->Prop):Prop :=
 ∀ (pins:List (M5×Pb)) (s:M7) (σ:St) (H:Hp) (x:V) (v vl vu:M1) (lo hi:Option Int) (sl:M5) (Q:VK),Inv X pins σ H s->RelV x v->s.heap.IsSliceOf sl vl vu .none->IsPart vl lo->IsPart vu hi->r x lo hi H Q →
   ∃ T id,typeLookup (.type T) "__getitem__"=pure (some (.builtin id))/\s.TypeIs v T/\Nv (NI X.prog X.w) X.A (Ru v (.ref sl)) (EP X pins σ Q) X.xe s
def tSl (r:V->Option Int->Option Int->Hp->VK->Prop) (te:TE) (tl th:TO):TE:=fun σ H Q=>te σ H fun x H1=>tl σ H1 fun l H2=>th σ H2 fun u H3=>r x l u H3 Q
theorem bM {r:V->Option Int->Option Int->Hp->VK->Prop} (hr:SlR X r) (he:PE X e te) (hl:PO X lo tl) (hu:PO X hi th):PE X (.Subscript e (.Slice lo hi none p2) pos) (tSl r te tl th):=by
 intro pins s σ H Q I h;refine Subscript_ (thn (he pins s σ H _ I h) fun v s1 ⟨x,H1,I1,r1,q1⟩=>?_);refine wpAny_Slice (thn (hl pins s1 σ H1 _ I1 q1) fun vl s2 ⟨l,H2,I2,pl,q2⟩=>thn (hu pins s2 σ H2 _ I2 q2) fun vu s3 ⟨u,H3,I3,pu,q3⟩=>?_);rw [evalPart_none];refine Nk ?_;have I4:Inv X pins σ H3 { s3 with heap:=s3.heap.push { cls:=.type "slice",data:=.fields #[vl,vu,.none] } }:=I3.kept (t':=s3.toks) fun b ob q=>M6 _ q;obtain ⟨T,id,hT,ht,hg⟩:=hr pins { s3 with heap:=s3.heap.push { cls:=.type "slice",data:=.fields #[vl,vu,.none] } } σ H3 x v vl vu l u s3.heap.objs.size Q I4 r1 (Heap.IsSliceOf.new ..) pl pu q3;show Nv (NI X.prog X.w) X.A (subscriptTail e (.Slice lo hi none p2) v (.ref s3.heap.objs.size)) (EP X pins σ Q) X.xe { s3 with heap:=s3.heap.push { cls:=.type "slice",data:=.fields #[vl,vu,.none] } };exact tail_any (ops:=[.ref s3.heap.objs.size,v]) ht hT hg (by with_unfolding_all rfl)
def eF (xs:List V) (lo hi:Option Int):List V:=(xs.drop (HT.sIx xs.length 0 lo)).take (HT.sIx xs.length xs.length hi - HT.sIx xs.length 0 lo)
theorem je (xs:List V) (lo hi:Option Int):(eF xs lo hi).length<=xs.length:=by
 unfold eF;rw [Og,N9];omega
inductive uv (K:MY) (x:V) (lo:Option Int) (hi:Option Int) (H:Hp) (Q:VK):Prop
 | mk (a:_) (xs:_) (xB:x=.ref a) (xC:SqT K H a xs) (xG:¬ (HT.sIx xs.length 0 lo=0/\HT.sIx xs.length xs.length hi=xs.length)) (xT:∀ p,H p=none->Q (.ref p) (upd H p (.tup (eF xs lo hi)))):uv K x lo hi H Q
def wL (K:MY):V->Option Int->Option Int->Hp->VK->Prop:=uv K
theorem uF:SlR X (wL X.K):=by
 intro pins s σ H x v vl vu lo hi sl Q I rx hs pl pu h;obtain ⟨a,xs,rfl,hx,hw,q⟩:=h;cases rx;obtain ⟨its,r,ht,hz⟩:=I.tuple hx;have hlen:its.toArray.size=xs.length:=by rw [M9];exact r.length.symm
 refine ⟨"tuple",_,Oz.lookup,ht.typeIs,?_⟩;refine HT.getItem_tuple_cut ht hs pl pu (by rw [hlen];exact hw) ?_ (by rw [hlen];exact hz);rw [hlen];refine ⟨.ref s.heap.objs.size,_,I.laid (t':=s.toks) (o:=.tup (eF xs lo hi)) (fun b ob q=>M6 _ q) (M8 _) ?_,rfl,q _ (I.hok.fresh (M8 _))⟩;exact ⟨Ow (je xs lo hi) hz,_,0,(r.drop (HT.sIx xs.length 0 lo)).take (HT.sIx xs.length xs.length hi - HT.sIx xs.length 0 lo),Nf _ rfl⟩
def v5 (K:MY):R2:=fun x y H Q=>∃ a b xs ys,x=.ref a/\y=.ref b/\SqT K H a xs/\SqT K H b ys/\xs≠[]/\xs.length+ys.length<=Ny ∧
 (ys=[]->Q (.ref a) H)/\(ys≠[]->∀ p,H p=none->Q (.ref p) (upd H p (.tup (xs++ys))))
theorem Vals.nil_iff {xs:List V} {us:List M1} (r:Vals xs us):us=[]↔xs=[]:=by
 cases r with
 | nil=>simp
 | cons _ _=>simp
theorem tV:OpR X (Qk .Add) (v5 X.K):=by
 intro pins s σ H x y v u Q I rx ry h;obtain ⟨a,b,xs,ys,rfl,rfl,ha,hb,hx,hz,q1,q2⟩:=h;cases rx;cases ry;obtain ⟨its,r1,p1,_⟩:=I.tuple ha;obtain ⟨xx,r2,p2,_⟩:=I.tuple hb;refine HT.cat_tup p1 p2 (fun z=>hx (r1.nil_iff.mp z)) (fun z=>⟨.ref a,H,I,rfl,q1 (r2.nil_iff.mp z)⟩) (fun z=>?_) (by rw [<- r1.length,<- r2.length];exact hz);refine ⟨.ref s.heap.objs.size,_,I.laid (t':=s.toks) (o:=.tup (xs++ys)) (fun b ob q=>M6 _ q) (M8 _) ?_,rfl,q2 (fun w=>z (r2.nil_iff.mpr w)) _ (I.hok.fresh (M8 _))⟩;exact ⟨by rw [Na];exact hz,_,0,r1.append r2,Nf _ rfl⟩
end
end L2
namespace L2
open PySem PySem.Spec PyProof.Rows
def ixN (n:Nat) (i:Int):Option Nat:=if 0<=i then (if i<n then some i.toNat else none) else if -(n:Int)<=i then some (i+n).toNat else none
def atI {α:Type} (xs:List α) (i:Int):Option α:=(ixN xs.length i).bind fun j=>xs[j]?
theorem pi {n:Nat} {i:Int} {j:Nat} (h:ixN n i=some j):seqIndex? i n=some j/\j<n/\-(n:Int)<=i/\i<n:=by
 unfold ixN at h;by_cases h0:0<=i
 · rw [if_pos h0] at h;by_cases h1:i<n
   · rw [if_pos h1] at h;have e:i.toNat=j:=Nh h;exact ⟨by rw [seqIndex_of h0 h1,e],by omega,by omega,h1⟩
   · rw [if_neg h1] at h;cases h
 · rw [if_neg h0] at h;by_cases h1:-(n:Int)<=i
   · rw [if_pos h1] at h;have e:(i+n).toNat=j:=Nh h;exact ⟨by rw [seqIndex_neg (by omega) h1,e],by omega,h1,by omega⟩
   · rw [if_neg h1] at h;cases h
theorem jq {α:Type} {xs:List α} {i:Int} {v:α} (h:atI xs i=some v):∃ j,seqIndex? i xs.length=some j/\xs[j]?=some v/\j<xs.length/\-(xs.length:Int)<=i/\i<xs.length:=by
 unfold atI at h;cases e:ixN xs.length i with
 | none=>rw [e] at h;cases h
 | some j =>
   rw [e] at h;obtain ⟨h1,h2,h3,h4⟩:=pi e;exact ⟨j,h1,h,h2,h3,h4⟩
theorem gT {α:Type} {xs:List α} {j:Nat} {v:α} (h:xs[j]?=some v):atI xs (j:Int)=some v:=by
 have hj:j<xs.length:=(Nl.mp h).1
 have e:ixN xs.length (j:Int)=some j:=by
  unfold ixN;rw [if_pos (by omega),if_pos (by omega)];simp
 unfold atI;rw [e];exact h
theorem nD {α:Type} (xs:List α) (v:α):atI (xs++[v]) (-1)=some v:=by
 have hl:(xs++[v]).length=xs.length+1:=by simp
 have e:ixN (xs++[v]).length (-1)=some xs.length:=by
  unfold ixN;rw [hl,if_neg (by decide),if_pos (by omega)];congr 1;omega
 unfold atI;rw [e];show (xs++[v])[xs.length]?=some v;simp
def l6 (b:Od):Prop:=∀ o i,subscripted b false o i=operate [o,i] (Ru o i)
def IxR (X:Cx) (r:R2):Prop :=
 ∀ (value slice:Od) (pins:List (M5×Pb)) (s:M7) (σ:St) (H:Hp) (x y:V) (v u:M1) (Q:VK),Inv X pins σ H s->RelV x v->RelV y u->r x y H Q →
   subscripted slice false v u=operate [v,u] (Ru v u)->Nv (NI X.prog X.w) X.A (subscriptTail value slice v u) (EP X pins σ Q) X.xe s
def MtR (X:Cx) (id:String) (r:V->List V->Hp->VK->Prop):Prop :=
 ∀ (pins:List (M5×Pb)) (s:M7) (σ:St) (H:Hp) (x:V) (xs:List V) (v:M1) (us:List M1) (Q:VK),Inv X pins σ H s->RelV x v->Vals xs us->r x xs H Q →
   Nv (NI X.prog X.w) X.A (call (.builtin id) (v::us)) (EP X pins σ Q) X.xe s
section
variable {X:Cx} {a b:Od} {ta tb:TE} {pos:Qy}
theorem aI {r:R2} (hr:IxR X r) (ha:PE X a ta) (hb:PE X b tb) (hs:l6 b):PE X (.Subscript a b pos) (tOp r ta tb):=by
 intro pins s σ H Q I h;exact Subscript_ (va ha hb I h fun v u s2 x y H2 I2 rx ry q=>hr a b pins s2 σ H2 x y v u Q I2 rx ry q (hs _ _))
inductive uu (K:MY) (x:V) (y:V) (H:Hp) (Q:VK):Prop
 | mk (p:_) (xs:_) (i:_) (v:_) (xB:x=.ref p) (xC:y=.int i) (xG:SqL K H p xs) (xT:atI xs i=some v) (yu:Q v H):uu K x y H Q
def nP (K:MY):R2:=uu K
inductive ul (K:MY) (x:V) (y:V) (H:Hp) (Q:VK):Prop
 | mk (p:_) (xs:_) (i:_) (v:_) (xB:x=.ref p) (xC:y=.int i) (xG:SqT K H p xs) (xT:atI xs i=some v) (yu:Q v H):ul K x y H Q
def vd (K:MY):R2:=ul K
inductive t9 (x:V) (y:V) (H:Hp) (Q:VK):Prop
 | mk (z:_) (i:_) (c:_) (xB:x=.str z) (xC:y=.int i) (xG:z.length<=Ny) (xT:atI z.cps.toList i=some c) (yu:Q (.str ⟨#[c]⟩) H):t9  x y H Q
def xk:R2:=t9
theorem aJ:IxR X (nP X.K):=by
 intro value slice pins s σ H x y v u Q I rx ry h hs;obtain ⟨p,xs,i,z,rfl,rfl,hq,he,q⟩:=h;cases rx;obtain ⟨t,rfl⟩:=ry;obtain ⟨its,r,pl,hz⟩:=I.list hq;obtain ⟨j,h1,h2,h3,h4,h5⟩:=jq he;obtain ⟨w,ew,CW⟩:=r.get h2;have hl:=r.length;have hn:=fc;have fin:EP X pins σ Q w s:=⟨z,H,I,CW,q⟩;by_cases h0:0<=i
 · have hj:i.toNat=j:=by
    rw [seqIndex_of h0 h5] at h1;exact Nh h1
   exact item_listR pl.isList h0 (by omega) (by rw [hj];simpa using ew) fin hs
 · have hj:(i+(its.toArray.size:Int)).toNat=j:=by
    rw [seqIndex_neg (by omega) h4] at h1;rw [M9,<- hl];exact Nh h1
   exact subscriptTail_builtinR (x:=w) pl.isList.typeIs slot_list_getitem.lookup
    (wpAny_getItem_list_neg (Q:=fun r s'=>r=w/\EP X pins σ Q r s') pl.isList (by omega) (by rw [M9] <;> omega) (by omega) (by rw [hj];simpa using ew) ⟨rfl,fin⟩) hs
theorem bX:IxR X (vd X.K):=by
 intro value slice pins s σ H x y v u Q I rx ry h hs;obtain ⟨p,xs,i,z,rfl,rfl,hq,he,q⟩:=h;cases rx;obtain ⟨t,rfl⟩:=ry;obtain ⟨its,r,pl,hz⟩:=I.tuple hq;obtain ⟨j,h1,h2,h3,h4,h5⟩:=jq he;obtain ⟨w,ew,CW⟩:=r.get h2;have hl:=r.length;have hn:=fc;have fin:EP X pins σ Q w s:=⟨z,H,I,CW,q⟩
 exact subscriptTail_builtinR (x:=w) pl.typeIs slot_tuple_getitem.lookup
  (getItem_tuple (j:=j) (Q:=fun r s'=>r=w/\EP X pins σ Q r s') pl (by omega) (by omega) (by rw [M9,<- hl];exact h1) (by simpa using ew) ⟨rfl,fin⟩) hs
theorem jR:IxR X xk:=by
 intro value slice pins s σ H x y v u Q I rx ry h hs;obtain ⟨z,i,c,rfl,rfl,hz,he,q⟩:=h;obtain ⟨t,rfl⟩:=rx;obtain ⟨t',rfl⟩:=ry;obtain ⟨j,h1,h2,h3,h4,h5⟩:=jq he;have hl:z.cps.toList.length=z.length:=by simp [Str.length]
 rw [hl] at h1 h4 h5;have hn:=fc
 exact tail_any (Qc s z t) slot_str_getitem.lookup (getItem_str (c:=c) (by
  have e1:decide (i < -(2 ^ 63:Int))=false:=decide_eq_false (by omega);have e2:decide (i ≥ 2 ^ 63)=false:=decide_eq_false (by omega);rw [e1,e2,Bool.or_false]) (by rw [h1];simpa using h2) ⟨.str ⟨#[c]⟩,H,I.tok _,⟨_,rfl⟩,q⟩) hs
theorem oh (its:List M1) (n j:Nat) (u:M1):Rx (·.setIfInBounds j u) { cls:=.type "list",data:=.seq its.toArray n }={ cls:=.type "list",data:=.seq (its.set j u).toArray n }:=by
 simp [Rx]
theorem Inv.lst {pins:List (M5×Pb)} {σ:St} {H:Hp} {s:M7} {p:M5} {xs:List V} (I:Inv X pins σ H s) (h:H p=some (.lst xs)) :
 ∃ (its:List M1) (n:Nat),Vals xs its/\s.heap.get? p=some { cls:=.type "list",data:=.seq its.toArray n }/\xs.length<=Ny:=by
 obtain ⟨z,its,n,r,e⟩:=I.hok p _ h;exact ⟨its,n,r,e,z⟩
theorem Inv.lstUpd {pins:List (M5×Pb)} {σ:St} {H:Hp} {s:M7} {p:M5} {xs ys:List V} {its its':List M1} {n n':Nat} {f:Pb->Pb} (I:Inv X pins σ H s) (h:H p=some (.lst xs))
 (ho:s.heap.get? p=some { cls:=.type "list",data:=.seq its.toArray n }) (hf:f { cls:=.type "list",data:=.seq its.toArray n }={ cls:=.type "list",data:=.seq its'.toArray n' }) (r:Vals ys its') (hz:ys.length<=Ny) (t:Nat) :
 Inv X pins σ (upd H p (.lst ys)) { s with heap:=s.heap.update p f,toks:=t }:=by
 have e:(s.heap.update p f).get? p=some { cls:=.type "list",data:=.seq its'.toArray n' }:=by
  rw [Heap.get?_update_self f ho (by rw [hf] <;> rfl),hf]
 refine I.write (x:=p) (e:=p) (by rw [h];trivial) (.inl rfl) (fun b u hb q=>(Heap.get?_update_other _ _ (QE hb)).trans q) ⟨_,e⟩ ?_;exact ⟨hz,its',n',r,e⟩
def vI:V->V->V->Hp->(Hp->Prop)->Prop:=fun o i v H Q=>∃ p xs k j,o=.ref p/\i=.int k/\H p=some (.lst xs)/\ixN xs.length k=some j/\Q (upd H p (.lst (xs.set j v)))
theorem set_list:uS X vI:=by
 intro pins s σ H o i v ov iv u Q I ro ri rv h;obtain ⟨p,xs,k,j,rfl,rfl,hp,hj,q⟩:=h;cases ro;obtain ⟨t,rfl⟩:=ri;obtain ⟨its,n,r,ho,hz⟩:=I.lst hp;obtain ⟨h1,h2,h3,h4⟩:=pi hj;have hl:=r.length;have hn:=fc
 have I':Inv X pins σ (upd H p (.lst (xs.set j v))) { s with heap:=s.heap.update p (Rx (·.setIfInBounds j u)) } :=
  I.lstUpd hp ho (oh its n j u) (r.set rv j) (by rw [List.length_set];exact hz) s.toks
 by_cases h0:0<=k
 · have hk:k.toNat=j:=by
    rw [seqIndex_of h0 h4] at h1;exact Nh h1
   exact PySem.W.ki_setAt ho h0 (by omega) (by rw [M9,<- hl];exact h4) (by rw [hk];exact ⟨_,I',q⟩)
 · have hk:(k+(its.toArray.size:Int)).toNat=j:=by
    rw [seqIndex_neg (by omega) h3] at h1;rw [M9,<- hl];exact Nh h1
   exact PySem.W.ki_setBack ho (by omega) (by rw [M9,<- hl];exact h3) (by omega) (by rw [hk];exact ⟨_,I',q⟩)
theorem mI (lo hi:Option Int) (n:Nat):(QQ lo hi none n).1=((HT.sIx n 0 lo:Nat):Int)/\(QQ lo hi none n).2.1=((HT.sIx n n hi:Nat):Int)/\(QQ lo hi none n).2.2=1:=by
 refine ⟨?_,?_,rfl⟩
 · cases lo with
   | none=>simp [QQ,HT.sIx]
   | some i =>
     simp only [QQ,HT.sIx,Option.getD_none,show (1:Int) > 0 by decide,if_true];by_cases h:i<0
     · simp only [h,if_true] <;> omega
     · simp only [h,if_false] <;> omega
 · cases hi with
   | none=>simp [QQ,HT.sIx]
   | some i =>
     simp only [QQ,HT.sIx,Option.getD_none,show (1:Int) > 0 by decide,if_true];by_cases h:i<0
     · simp only [h,if_true] <;> omega
     · simp only [h,if_false] <;> omega
theorem kY (its:List M1) (lo hi:Option Int):slicePick its.toArray lo hi none=((its.drop (HT.sIx its.length 0 lo)).take (HT.sIx its.length its.length hi - HT.sIx its.length 0 lo)).toArray:=by
 obtain ⟨h1,h2,h3⟩:=mI lo hi its.toArray.size;unfold slicePick;rw [h1,h2,h3];simp only [sliceRange_one,pick_run,M9] <;> rfl
inductive ui (K:MY) (x:V) (lo:Option Int) (hi:Option Int) (H:Hp) (Q:VK):Prop
 | mk (a:_) (xs:_) (xB:x=.ref a) (xC:SqL K H a xs) (xG:∀ p,H p=none->Q (.ref p) (upd H p (.lst (eF xs lo hi)))):ui K x lo hi H Q
def xc (K:MY):V->Option Int->Option Int->Hp->VK->Prop:=ui K
theorem fA:SlR X (xc X.K):=by
 intro pins s σ H x v vl vu lo hi sl Q I rx hs pl pu h;obtain ⟨a,xs,rfl,hx,q⟩:=h;cases rx;obtain ⟨its,r,ht,hz⟩:=I.list hx;have hlen:=r.length;refine ⟨"list",_,slot_list_getitem.lookup,ht.isList.typeIs,?_⟩;refine wpAny_getItem_list_slice ht.isList hs pl pu .none (by simp) ?_ (by rw [M9] <;> omega);rw [kY,<- hlen];refine ⟨.ref s.heap.objs.size,_,I.laid (t':=s.toks) (o:=.lst (eF xs lo hi)) (fun b ob q=>M6 _ q) (M8 _) ?_,rfl,q _ (I.hok.fresh (M8 _))⟩;exact ⟨Ow (je xs lo hi) hz,_,0,(r.drop (HT.sIx xs.length 0 lo)).take (HT.sIx xs.length xs.length hi - HT.sIx xs.length 0 lo),Nf _ rfl⟩
def iY:V->Bool
 | .non=>true
 | .bl _=>true
 | .int _=>true
 | .str _=>true
 | _=>false
def eqV:V->V->Bool
 | .non,.non=>true
 | .bl a,.bl b=>a == b
 | .bl a,.int b=>(if a then 1 else 0) == b
 | .int a,.bl b=>a == (if b then 1 else 0)
 | .int a,.int b=>a == b
 | .str a,.str b=>a == b
 | _,_=>false
theorem vE {A:NT} {s:M7} {y x:V} {u v:M1} (ry:RelV y u) (rx:RelV x v) (fy:iY y=true) (fx:iY x=true):SeqAt.EqAt A s u v (eqV y x):=by
 cases y with
 | non =>
   cases ry;cases x with
   | non=>cases rx;exact SeqAt.EqAt.same _
   | bl b=>cases rx;exact SeqAt.EqAt.none_bool b
   | int b=>obtain ⟨t,rfl⟩:=rx;exact SeqAt.EqAt.none_int b t
   | str b=>obtain ⟨t,rfl⟩:=rx;exact SeqAt.EqAt.none_str b t
   | _=>exact absurd (show false=true from fx) Nt
 | bl a =>
   cases ry;cases x with
   | non=>cases rx;exact SeqAt.EqAt.bool_none a
   | bl b=>cases rx;exact SeqAt.EqAt.bool_bool a b
   | int b=>obtain ⟨t,rfl⟩:=rx;exact SeqAt.EqAt.bool_int a b t
   | str b=>obtain ⟨t,rfl⟩:=rx;exact SeqAt.EqAt.bool_str a b t
   | _=>exact absurd (show false=true from fx) Nt
 | int a =>
   obtain ⟨t',rfl⟩:=ry;cases x with
   | non=>cases rx;exact SeqAt.EqAt.int_none a t'
   | bl b=>cases rx;exact SeqAt.EqAt.int_bool a t' b
   | int b=>obtain ⟨t,rfl⟩:=rx;exact SeqAt.EqAt.int_int a t' b t
   | str b=>obtain ⟨t,rfl⟩:=rx;exact SeqAt.EqAt.int_str a t' b t
   | _=>exact absurd (show false=true from fx) Nt
 | str a =>
   obtain ⟨t',rfl⟩:=ry;cases x with
   | non=>cases rx;exact SeqAt.EqAt.str_none a t'
   | bl b=>cases rx;exact SeqAt.EqAt.str_bool a t' b
   | int b=>obtain ⟨t,rfl⟩:=rx;exact SeqAt.EqAt.str_int a t' b t
   | str b=>obtain ⟨t,rfl⟩:=rx;exact SeqAt.EqAt.str_str a t' b t
   | _=>exact absurd (show false=true from fx) Nt
 | _=>exact absurd (show false=true from fy) Nt
def eqU (x:V) (u:M1):Bool:=match u with
 | .none=>eqV .non x
 | .bool b=>eqV (.bl b) x
 | .int i _=>eqV (.int i) x
 | .str z _=>eqV (.str z) x
 | _=>false
theorem rK {x y:V} {u:M1} (r:RelV y u) (f:iY y=true):eqU x u=eqV y x:=by
 cases y with
 | non=>cases r;rfl
 | bl b=>cases r;rfl
 | int i=>obtain ⟨t,rfl⟩:=r;rfl
 | str z=>obtain ⟨t,rfl⟩:=r;rfl
 | _=>exact absurd (show false=true from f) Nt
theorem me {x:V}:∀ {xs:List V} {us:List M1},Vals xs us->xs.all iY=true->us.any (eqU x)=xs.any fun y=>eqV y x
 | _,_,.nil,_=>rfl
 | y::xs,u::us,.cons r t,f=>by
   rw [Q0,NX] at f;rw [List.any_cons,List.any_cons,rK r f.1,me t f.2]
theorem kB {A:NT} {s:M7} {x:V} {v:M1} (rx:RelV x v) (fx:iY x=true):∀ {xs:List V} {us:List M1},Vals xs us->xs.all iY=true->∀ u∈us,SeqAt.EqAt A s u v (eqU x u)
 | _,_,.nil,_=>fun u hu=>by cases hu
 | y::xs,u::us,.cons r t,f=>fun u' hu=>by
   rw [Q0,NX] at f;rcases Nb.mp hu with rfl | hu
   · rw [rK r f.1];exact vE r rx f.1 fx
   · exact kB rx fx t f.2 u' hu
def inV (x:V) (xs:List V):Bool:=xs.any fun y=>eqV y x
def rIn (K:MY) (neg:Bool):R2:=fun x y H Q=>∃ p xs,y=.ref p/\(SqL K H p xs∨SqT K H p xs)/\iY x=true/\xs.all iY=true/\Q (.bl (if neg then !inV x xs else inV x xs)) H
theorem lg:OpR X (Pf .In) (rIn X.K false):=by
 intro pins s σ H x y v u Q I rx ry h;obtain ⟨p,xs,rfl,hq,fx,fs,q⟩:=h;cases ry;rcases hq with hq | hq
 · obtain ⟨its,r,pl,hz⟩:=I.list hq;refine SeqAt.in_listAt (eqU x) pl.isList (fun w hw=>kB rx fx r fs w (by simpa using hw)) ⟨.bl _,H,I,rfl,?_⟩;rw [show its.toArray.any (eqU x)=its.any (eqU x) by simp,me r fs];exact q
 · obtain ⟨its,r,pl,hz⟩:=I.tuple hq;refine SeqAt.in_tupleAt (eqU x) pl (fun w hw=>kB rx fx r fs w (by simpa using hw)) ⟨.bl _,H,I,rfl,?_⟩;rw [show its.toArray.any (eqU x)=its.any (eqU x) by simp,me r fs];exact q
inductive uC (K:MY) (xs:List V) (H:Hp) (Q:VK):Prop
 | mk (p:M5) (ys:List V) (xB:xs=[.ref p]) (xC:SqL K H p ys∨SqT K H p ys) (xG:Q (.int ys.length) H):uC K xs H Q
theorem aA:dq X (.builtin "len") (uC X.K):=by
 intro pins s σ H xs us Q I r h;obtain ⟨p,ys,rfl,hq,q⟩:=h;obtain ⟨u,rfl,rx⟩:=vals1 r;cases rx;have hn:=fc;rcases hq with hq | hq
 · obtain ⟨its,r',pl,hz⟩:=I.list hq;have hlen:=r'.length;exact Calls.call_len_list pl.isList (by simp only [M9] <;> omega) ⟨.int ys.length,H,I.tok _,⟨s.toks+1,by rw [M9,hlen]⟩,q⟩
 · obtain ⟨its,r',pl,hz⟩:=I.tuple hq;have hlen:=r'.length;exact len_tuple pl (by simp only [M9] <;> omega) ⟨.int ys.length,H,I.tok _,⟨s.toks+1,by rw [M9,hlen]⟩,q⟩
theorem cQ:dq X (.builtin "len") (fun xs H Q=>∃ z,xs=[.str z]/\z.length<=Ny/\Q (.int z.length) H):=by
 intro pins s σ H xs us Q I r h;obtain ⟨z,rfl,hz,q⟩:=h;obtain ⟨u,rfl,t,rfl⟩:=vals1 r;have hn:=fc;exact len_str (by omega) ⟨.int z.length,H,I.tok _,⟨_,rfl⟩,q⟩
theorem bT:dq X (.type "tuple") (fun xs H Q=>∃ p ys,xs=[.ref p]/\((SqL X.K H p ys/\∀ l,H l=none->Q (.ref l) (upd H l (.tup ys)))∨(SqT X.K H p ys/\Q (.ref p) H))):=by
 intro pins s σ H xs us Q I r h;obtain ⟨p,ys,rfl,h⟩:=h;obtain ⟨u,rfl,rx⟩:=vals1 r;cases rx;rcases h with ⟨hq,q⟩ | ⟨hq,q⟩
 · obtain ⟨its,r',pl,hz⟩:=I.list hq;have hlen:=r'.length;refine call_tuple_list pl.isList (fun h' kp=>?_) (by simp only [M9] <;> omega);have I1:Inv X pins σ H { s with heap:=h' }:=I.kept (t':=s.toks) kp
   have I2:Inv X pins σ (upd H h'.objs.size (.tup ys)) { s with heap:=h'.push { cls:=.type "tuple",data:=.seq its.toArray } } :=
    I1.laid (t':=s.toks) (fun b o e=>M6 _ e) (M8 _) (show ObjOk X.prog X.w _ _ _ (.tup ys) from ⟨hz,its,0,r',Nf _ rfl⟩)
   exact ⟨.ref h'.objs.size,_,I2,rfl,q _ (I1.hok.fresh (M8 _))⟩
 · obtain ⟨its,r',pl,hz⟩:=I.tuple hq;exact call_tuple_same pl ⟨.ref p,H,I,rfl,q⟩
def tyV (K:MY) (T:String) (x:V) (H:Hp):Prop:=match x with
 | .str _=>T="str"
 | .int _=>T="int"
 | .ref p=>(T="list"/\∃ xs,SqL K H p xs)∨(T="tuple"/\∃ o,K.lookup p=some o/\o.cls=.type "tuple"/\o.dict=none) ∨
  (T="dict"/\((∃ xM,H p=some (.dK xM))∨∃ xM,H p=some (.dT xM)))∨(T="set"/\∃ S n,H p=some (.set S n))
 | _=>False
theorem rh {pins:List (M5×Pb)} {σ:St} {H:Hp} {s:M7} {T:String} {x:V} {v:M1} (I:Inv X pins σ H s) (r:RelV x v) (ty:tyV X.K T x H) :
 s.TypeIs v T/\∀ a,v=.ref a->∃ ob,s.heap.get? a=some ob/\ob.dict=none:=by
 cases x with
 | str z =>
   obtain ⟨t,rfl⟩:=r;cases (show T="str" from ty);exact ⟨Qc s z t,fun _ e=>nomatch e⟩
 | int i =>
   obtain ⟨t,rfl⟩:=r;cases (show T="int" from ty);exact ⟨typeIs_int s i t,fun _ e=>nomatch e⟩
 | ref p =>
   cases r;rcases ty with ⟨rfl,xs,hq⟩ | ⟨rfl,o,hk,hc,hd⟩ | ⟨rfl,hk⟩ | ⟨rfl,S,n,hk⟩
   · obtain ⟨its,_,pl,_⟩:=I.list hq;refine ⟨pl.isList.typeIs,fun a e=>?_⟩;cases e;obtain ⟨o,n,e,c,hd,_⟩:=pl;exact ⟨o,e,hd⟩
   · refine ⟨⟨o,I.kIn p o hk,hc⟩,fun a e=>?_⟩;cases e;exact ⟨o,I.kIn _ o hk,hd⟩
   · have z:∃ o,s.heap.get? p=some o/\o.ExactDict:=by
      rcases hk with ⟨xM,hk⟩ | ⟨xM,hk⟩
      · obtain ⟨_,_,_,_,o,_,_,e,ex,_⟩:=I.hok p _ hk;exact ⟨o,e,ex⟩
      · obtain ⟨_,_,_,_,o,_,_,e,ex,_⟩:=I.hok p _ hk;exact ⟨o,e,ex⟩
     obtain ⟨o,e,ex⟩:=z;refine ⟨⟨o,e,ex.1⟩,fun a e2=>?_⟩;cases e2;exact ⟨o,e,ex.2.1⟩
   · obtain ⟨o,_,_,_,e,ex,_⟩:=I.hok p _ hk;refine ⟨⟨o,e,ex.1⟩,fun a e2=>?_⟩;cases e2;exact ⟨o,e,ex.2.1⟩
 | _=>exact OF ty
def v9 (K:MY) (T:String) (r:V->List V->Hp->VK->Prop) (to:TE):TE:=fun σ H Q=>to σ H fun x H1=>tyV K T x H1/\r x [] H1 Q
def tBM (K:MY) (T:String) (r:V->List V->Hp->VK->Prop) (to:TE) (t:TA):TE:=fun σ H Q=>to σ H fun x H1=>tyV K T x H1/\t σ H1 fun xs H2=>r x xs H2 Q
variable {o e:Od} {es:List Od} {to:TE} {t:TA} {name:Nd} {apos xV:Qy} {T id:String} {r:V->List V->Hp->VK->Prop}
theorem mF (pa:PlainAttrs T) (slot:Slot T name id) (Fg:typeOf (.builtin id)=pure (.type "method_descriptor")) (hm:MtR X id r) (ho:PE X o to)
 (zW:attributeBase o name X.env (Pn o X.env)=Pn o X.env:=by rfl) (yL:(apos.endLine == xV.line)=true:=by rfl):PE X (.Call (.Attribute o name apos) [] [] xV) (v9 X.K T r to):=by
 intro pins s σ H Q I h;refine wpAny_Call_method0_late zW yL (thn (ho pins s σ H _ I h) fun v s1 ⟨x,H1,I1,r1,ty,q1⟩=>?_);obtain ⟨h1,h2⟩:=rh I1 r1 ty;exact ⟨T,id,pa,slot,Fg,h1,h2,P0 rfl (PySem.evalArgs_none (hm pins s1 σ H1 x [] v [] Q I1 r1 .nil q1))⟩
theorem bU (pa:PlainAttrs T) (slot:Slot T name id) (Fg:typeOf (.builtin id)=pure (.type "method_descriptor")) (hm:MtR X id r) (ho:PE X o to) (ha:PA X (e::es) t)
 (zW:attributeBase o name X.env (Pn o X.env)=Pn o X.env:=by rfl)
 (Fh:((QG xV (NV (e::es) X.env)).all (fun x=>!x.1) && (backToKw xV (keywordEach [] X.env)).all (fun x=>x.1.isSome)
  && decide ((e::es).length+([]:List Keyword).length+(if ([]:List Keyword).isEmpty then 0 else 1)<30))=true:=by rfl)
 (yL:(apos.endLine == xV.line)=true:=by rfl) (hs:NV (e::es) X.env=(false,Pn e X.env)::NV es X.env:=by rfl) (BK:(QG xV (NV es X.env)).any (·.1)=false:=by rfl) :
 PE X (.Call (.Attribute o name apos) (e::es) [] xV) (tBM X.K T r to t):=by
 intro pins s σ H Q I h;refine QF zW Fh yL rfl (thn (ho pins s σ H _ I h) fun v s1 ⟨x,H1,I1,r1,ty,q1⟩=>?_);obtain ⟨h1,h2⟩:=rh I1 r1 ty;refine ⟨T,id,pa,slot,Fg,h1,h2,?_⟩;have hA:=ha xV pins s1 σ H1 _ I1 q1;rw [hs] at hA ⊢;refine P0 (by show (false || (QG xV (NV es X.env)).any (·.1))=false;rw [BK] <;> rfl) (Qf ?_);exact thn hA fun us s2 ⟨vs,H2,I2,r2,q2⟩=>hm pins s2 σ H2 x vs v us Q I2 r1 r2 q2
end
end L2
namespace L2
open PySem PySem.Spec PyProof.Rows
def MtM (X:Cx) (id:String) (r:V->List V->Hp->VK->Prop):Prop :=
 ∀ (pins:List (M5×Pb)) (s:M7) (σ:St) (H:Hp) (x:V) (xs:List V) (v:M1) (us:List M1) (Q:VK),Inv X pins σ H s->RelV x v->Vals xs us->r x xs H Q →
   Nv (NI X.prog X.w) X.A (call (.builtin id) (v::us)) (EP X pins σ Q) X.xe s
theorem Vals.one:∀ {x:V} {us:List M1},Vals [x] us->∃ u,us=[u]/\RelV x u
 | _,_,.cons r .nil=>⟨_,rfl,r⟩
theorem Vals.zero:∀ {us:List M1},Vals [] us->us=[]
 | _,.nil=>rfl
theorem Vals.dropLast {xs:List V} {us:List M1} (h:Vals xs us):Vals xs.dropLast us.dropLast:=by
 induction h with
 | nil=>exact .nil
 | cons r t ih =>
   cases t with
   | nil=>exact .nil
   | cons q t'=>exact .cons r ih
theorem oG {α:Type} (l:List α):l.eraseIdx (l.length - 1)=l.dropLast:=by
 induction l with
 | nil=>rfl
 | cons a r ih =>
   cases r with
   | nil=>rfl
   | cons b r =>
     have e:(a::b::r).length - 1=((b::r).length - 1)+1:=by
      have h1:(a::b::r).length=r.length+2:=rfl;have h2:(b::r).length=r.length+1:=rfl;omega
     rw [e,List.eraseIdx_cons_succ,ih]
     all_goals rfl
section
variable {X:Cx} {pins:List (M5×Pb)} {σ:St} {H:Hp} {s:M7} {l b:M5} {xs ys zs:List V}
theorem Inv.lset {its its':List M1} {n:Nat} {f:Array M1->Array M1} {t':Nat} (I:Inv X pins σ H s) (hH:H l=some (.lst xs))
 (e:s.heap.get? l=some { cls:=.type "list",data:=.seq its.toArray n }) (hf:f its.toArray=its'.toArray) (hv:Vals ys its') (hz:ys.length<=Ny) :
 Inv X pins σ (upd H l (.lst ys)) { s with heap:=s.heap.update l (Rx f),toks:=t' }:=by
 have q:=PySem.IsL.update e f;rw [hf] at q;refine I.write (x:=l) (e:=l) (by rw [hH];exact trivial) (.inl rfl) (fun b' u hb hu=>(Heap.get?_update_other s.heap (Rx f) (QE hb)).trans hu) ⟨_,q⟩ ?_;exact ⟨hz,its',_,hv,q⟩
theorem Inv.lnew {its:List M1} {t':Nat} (I:Inv X pins σ H s) (hv:Vals ys its) (hz:ys.length<=Ny) :
 Inv X pins σ (upd H s.heap.objs.size (.lst ys)) { s with heap:=s.heap.push { cls:=.type "list",data:=.seq its.toArray },toks:=t' } :=
 I.laid (fun _ _ q=>M6 _ q) (M8 _) ⟨hz,its,0,hv,Nf _ rfl⟩
theorem Inv.fresh (I:Inv X pins σ H s):H s.heap.objs.size=none:=I.hok.fresh (M8 _)
theorem Inv.lstM (I:Inv X pins σ H s) (hH:H l=some (.lst xs)):xs.length<=Ny/\∃ (its:List M1) (n:Nat),Vals xs its/\xs.length=its.length/\s.heap.get? l=some { cls:=.type "list",data:=.seq its.toArray n }:=by
 obtain ⟨z,its,n,r,e⟩:=I.hok l _ hH;exact ⟨z,its,n,r,r.length,e⟩
theorem mM {n:Nat} (h:n<=Ny):PL n=false:=by
 unfold PL;exact decide_eq_false (by omega)
end
section
variable {X:Cx}
inductive nq (x:V) (vs:List V) (H:Hp) (Q:VK):Prop
 | mk (l:_) (xs:_) (y:_) (xB:x=.ref l) (xC:vs=[y]) (xG:H l=some (.lst xs)) (xT:xs.length<Ny) (yu:Q .non (upd H l (.lst (xs++[y])))):nq  x vs H Q
def tX:V->List V->Hp->VK->Prop:=nq
theorem bp:MtM X "list.append" tX:=by
 intro pins s σ H x vs v us Q I rx rv h;obtain ⟨l,xs,y,rfl,rfl,hH,hz,q⟩:=h;cases rx;obtain ⟨u,rfl,ru⟩:=rv.one;obtain ⟨z,its,n,r,hl,e⟩:=I.lstM hH;refine QN F.slot_list_append ⟨_,e,rfl⟩ F.entry_list_append (F.args_list_append_2 _ _) (PySem.list_append l its.toArray n u (by rw [M9];omega)) ⟨e,?_⟩;refine ⟨.non,_,I.lset (its':=its++[u]) hH e (by simp) (r.append (.cons ru .nil)) ?_,rfl,q⟩;rw [Na,NR];omega
inductive nB (x:V) (vs:List V) (H:Hp) (Q:VK):Prop
 | mk (l:_) (b:_) (xs:_) (zs:_) (xB:x=.ref l) (xC:vs=[.ref b]) (xG:H l=some (.lst xs)) (xT:H b=some (.lst zs)) (yu:xs.length+zs.length<=Ny) (zk:Q .non (upd H l (.lst (xs++zs)))):nB  x vs H Q
def tm:V->List V->Hp->VK->Prop:=nB
theorem qH:MtM X "list.extend" tm:=by
 intro pins s σ H x vs v us Q I rx rv h;obtain ⟨l,b,xs,zs,rfl,rfl,hH,hB,hz,q⟩:=h;cases rx;obtain ⟨u,rfl,ru⟩:=rv.one;cases ru;obtain ⟨z,its,n,r,hl,e⟩:=I.lstM hH;obtain ⟨z2,xx,n2,r2,yd,e2⟩:=I.lstM hB;have xQ:its.toArray.size+xx.toArray.size<=Ny:=by rw [M9,M9];omega
 have zX:¬ (!its.toArray.isEmpty && PL (its.toArray.size+xx.toArray.size))=true:=by
  rw [mM xQ,Bool.and_false];exact Nt
 refine QN F.slot_list_extend ⟨_,e,rfl⟩ F.entry_list_extend (F.args_list_extend_2 _ _)
  (AutoSeq1.list_extend_list_list_0 l its.toArray n b xx.toArray n2 zX (by rw [M9];omega) (by omega)) ⟨e,e2,?_⟩
 refine ⟨.non,_,I.lset (its':=its++xx) hH e (by simp) (r.append r2) ?_,rfl,q⟩;rw [Na];omega
inductive uh (x:V) (vs:List V) (H:Hp) (Q:VK):Prop
 | mk (l:_) (xs:_) (y:_) (xB:x=.ref l) (xC:vs=[]) (xG:H l=some (.lst xs)) (xT:xs[xs.length - 1]?=some y) (yu:Q y (upd H l (.lst xs.dropLast))):uh  x vs H Q
def v7:V->List V->Hp->VK->Prop:=uh
theorem mh:MtM X "list.pop" v7:=by
 intro pins s σ H x vs v us Q I rx rv h;obtain ⟨l,xs,y,rfl,rfl,hH,hy,q⟩:=h;cases rx;have JF:=rv.zero;subst JF;obtain ⟨z,its,n,r,hl,e⟩:=I.lstM hH;obtain ⟨u,hu,ru⟩:=r.get hy
 have CY:its.toArray[its.toArray.size - 1]?=some u:=by
  show its.toArray[its.length - 1]?=some u;rw [<- PX,<- hl];exact hu
 refine QN F.slot_list_pop ⟨_,e,rfl⟩ F.entry_list_pop (F.args_list_pop_1 _) (MeetsSeq.list_pop_last l its.toArray n u CY (by rw [M9];omega)) ⟨e,?_⟩;refine ⟨y,_,I.lset (its':=its.dropLast) hH e ?_ r.dropLast ?_,ru,q⟩
 · show its.toArray.eraseIdxIfInBounds (its.toArray.size - 1)=its.dropLast.toArray;rw [M9,List.eraseIdxIfInBounds_toArray,oG]
 · rw [List.length_dropLast];omega
inductive uq (x:V) (y:V) (H:Hp) (Q:VK):Prop
 | mk (l:_) (b:_) (xs:_) (zs:_) (xB:x=.ref l) (xC:y=.ref b) (xG:H l=some (.lst xs)) (xT:H b=some (.lst zs)) (yu:xs.length+zs.length<=Ny) (zk:∀ p,H p=none->Q (.ref p) (upd H p (.lst (xs++zs)))):uq  x y H Q
def w9:R2:=uq
theorem sP:OpR X (Qk .Add) w9:=by
 intro pins s σ H x y v u Q I rx ry h;obtain ⟨l,b,xs,zs,rfl,rfl,hH,hB,hz,q⟩:=h;cases rx;cases ry;obtain ⟨z,its,n,r,hl,e⟩:=I.lstM hH;obtain ⟨z2,xx,n2,r2,yd,e2⟩:=I.lstM hB;refine PySem.P.add_list e e2 ?_ (by rw [M9,M9];omega);have ea:its.toArray++xx.toArray=(its++xx).toArray:=by simp
 rw [ea];exact ⟨.ref _,_,I.lnew (t':=s.toks) (r.append r2) (by rw [Na];omega),rfl,q _ I.fresh⟩
end
section
variable {prog:NC} {w:NP} {A:NT} {E:M1->M7->Prop} {s:M7}
end
section
variable {X:Cx}
end
end L2
namespace Att
open PySem PySem.W PySem.Calls PyProof.Rows
theorem ints_of_wellAll {P:Params} {h:Oo}:∀ (ns:List Int) (vs:List M1),WellAll P h vs (ns.map WData.int)->IntsAre vs ns:=by
 intro ns;induction ns with
 | nil =>
   intro vs w;rw [OC] at w;cases w;exact .nil
 | cons n ns ih =>
   intro vs w;rw [Ni] at w;cases w with
   | cons a b =>
     cases a;exact .cons _ _ (ih _ b)
theorem script_of {l:OpenLaw} {n:Nat} (hn:l.most=some n) {P:Params} {h:Oo} {args:List WData} {vals:List M1}
 (AM:l.row.toRowW.claim.pre args=true) (zD:WellAll P h vals args) :
 ∃ a vs ns,vals=[OB a]/\args=[WData.list (ns.map WData.int)]/\h.get? a=some { cls:=.type "list",data:=.seq vs.toArray }/\IntsAre vs ns/\ns.length<=n:=by
 have BL:WShape.hasAll [] args [.list .int]=true:=(pre_splitW AM).1;have hc:l.pre.holds [] { args:=args }=true:=(pre_splitW AM).2;obtain ⟨d,r,rfl,h1,h2⟩:=hasAllW_cons BL;obtain rfl:=hasAllW_nil h2;obtain ⟨xs,rfl,h3⟩:=hasW_list h1;obtain ⟨ns,rfl⟩:=items_int h3
 have hlen:ns.length<=n:=by
  unfold OpenLaw.pre at hc
  have h4:(WTm.not (.lt (.lit (.int (n:Int))) (.len (.arg 0)))).holds [] { args:=[.list (ns.map .int)] }=true:=by
   have h4:=(holds_andW hc).1;rw [hn] at h4;exact h4
  have h5:=condW_of h4 (w_not (w_lt w_lit (w_len_list (w_arg rfl))));rw [MX] at h5;refine Nat.le_of_not_lt fun q=>?_;have q':(n:Int)<((ns.length:Nat):Int):=by omega
  first
   | (rw [decide_eq_true q'] at h5;exact absurd h5 (by decide))
   | (simp at h5;omega)
 cases zD with
 | cons w1 w2 =>
   cases w2;cases w1 with
   | list ho xH=>exact ⟨_,_,ns,rfl,rfl,ho,ints_of_wellAll ns _ xH,hlen⟩
theorem post_true (l:OpenLaw) (args:List WData):l.row.toRowW.claim.post args (.bool true) args=true :=
 postW_of (r:=l.row.toRowW) (X:=(true == true))
  (show WShape.has [] (.bool true) .bool=true by first | rfl | decide | simp [WShape.has,WShape.arms,WShape.armsAll])
  (show (WTm.eq .res (.lit (.bool true))).value [] { args:=args,res:=some (.bool true),after:=args }=some (.bool (true == true)) from w_eq_bool (w_res rfl) w_lit) rfl
theorem attach_call {l:OpenLaw} {n:Nat} {q:NC} {loose:List Nd} {XP:(Nd->Option M1)->Oo->Prop} {YP:NP->Oo->Prop} {d:DefRec}
 (hn:l.most=some n) (CZ:d.params.defaults=[])
 (call:∀ (w:NP) (s₀ xm:M7) (mg mb:Nd->Option M1) (fa:M5) (o:Pb) (pm cd doc:M1) (a:M5) (vs:List M1) (ns:List Int),
  Ground q loose [] XP w s₀ mg mb xm.heap->YP w xm.heap →
  xm.heap.get? fa=some o->o.data=.func (docDef d.name d.params d.body d.scope pm cd doc)->xm.heap.CodeRec cd d.name->mg d.name=some (.ref fa) →
  xm.heap.get? a=some { cls:=.type "list",data:=.seq vs.toArray }->IntsAre vs ns->ns.length<=n->xm.gens=#[] →
  Rf (NI l.prog w) callerA (.call (.ref fa) ⟨[.ref a],[]⟩) (fun r s'=>r=.ok (.ret (.bool true))/\OldK xm.heap s'.heap/\s'.os=xm.os/\RH s'.gens) xm) :
 WalkO q loose XP YP l.row.toRowW d [] (fun f vs=>PySem.call f vs):=by
 intro w s₀ xm mg mb G Y fa o pm cd doc dV kV ho hd zA hD C0 hg args vals as AM JG Mq zD Mr;obtain rfl:dV=.none:=Dflts.none hD CZ;obtain rfl:kV=.none:=Dflts.noKw hD;obtain ⟨a,vs,ns,rfl,rfl,BM,hints,hlen⟩:=script_of hn AM zD;refine enter_call (Qi (call w s₀ xm mg mb fa o pm cd doc a vs ns G Y ho (fd_plain hd) zA C0 BM hints hlen hg) fun r s' hq=>?_);obtain ⟨rfl,h2,h3,h4⟩:=hq;exact ⟨.inl ⟨.bool true,.bool true,[],rfl,fun _=>rfl,.bool true,post_true l _,fun _=>⟨List.Pairwise.nil,fun _ hm=>(nomatch hm)⟩⟩,h2,h3,h4⟩
section
variable {prog:NC} {w:NP} {A:NT} {E:M1->M7->Prop} {s:M7} {K:Frag}
end
end Att
namespace L2
open PySem PySem.Spec PyProof.Rows
theorem lJ:∀ {vs:List M1} {ns:List Int},IntsAre vs ns->Vals (ns.map V.int) vs
 | _,_,.nil=>.nil
 | _,_,.cons n t h=>.cons ⟨t,rfl⟩ (lJ h)
def vC (H:Hp):Prop:=∀ b,H b=none∨∃ o xs,H b=some (.frz o (.lst xs))
theorem rc {P:NC} {w:NP} {K:MY} {mg mb:Nd->Option M1} {CX:CXT} {k:Nat} {fa a:M5} {fd:Pl} {x:Nd} {sp:Sp} {xm:M7} {vs:List M1} {ns:List Int}
 (KX:K.In xm.heap) (BN:xm.heap.Ns NA mg) (hb:xm.heap.Ns builtinsNs mb) (zd:∀ x:Nd,x≠"__name__"->mb x=QX x) (Fi:xm.heap.NoLimit) (hg:xm.gens=#[])
 (ha:xm.heap.get? a=some { cls:=.type "list",data:=.seq vs.toArray }) (hi:IntsAre vs ns) (hl:ns.length<=Ny) (hr:Room k callerA)
 (F:∀ base:Oo,K.In base->base.Ns NA mg->FnOk P w K mg base CX k fa fd [x] sp) (C3:∀ (s:M7) (u:M1),BindsTo s fd ⟨[u],[]⟩ [(x,u)])
 (yS:∀ H:Hp,vC H->SqL K H a (ns.map V.int)->sp [.ref a] H (fun v _=>v=.bl true) fun _ _ _=>False)
 (Fj:∀ H e s',CX [] H xm (fun _ _ _=>False) e s'->False) :
 Rf (NI P w) callerA (.call (.ref fa) ⟨[.ref a],[]⟩) (fun r s'=>r=.ok (.ret (.bool true))/\OldK xm.heap s'.heap/\s'.os=xm.os/\RH s'.gens) xm:=by
 have rv:=lJ hi;have Fl:=hi.length
 -- from an abstract heap in Hr nothing but zP script may be tracked
 have core:∀ H:Hp,vC H->SqL K H a (ns.map V.int)->HOk P w H xm.heap->(∀ b,H b≠none->b=a)->(H a≠none->K.lookup a=none) →
  Rf (NI P w) callerA (.call (.ref fa) ⟨[.ref a],[]⟩) (fun r s'=>r=.ok (.ret (.bool true))/\OldK xm.heap s'.heap/\s'.os=xm.os/\RH s'.gens) xm:=by
  intro H hO hS hok hA hK;have zu:∀ {b:M5} {o:Pb},xm.heap.get? b=some o->H b=none->(lO xm.heap H).get? b=some o:=fun e n=>qQ e n
  have CQ:∀ {b:M5} {o:Pb} {es:Array DictEntry} {ep:Nat},xm.heap.get? b=some o->o.data=.dict es ep->H b=none:=fun {b o es ep} e d=>by
   cases q:H b with
   | none=>rfl
   | some u =>
     have e':b=a:=hA b (by rw [q];simp);subst e';rw [ha] at e;cases e;have d':Data.seq vs.toArray _=Data.dict es ep:=d;cases d'
  have Ep:∀ {b:M5} {m:Nd->Option M1},xm.heap.Ns b m->(lO xm.heap H).Ns b m:=fun {b m} ⟨o,es,ep,e,d,r⟩=>⟨o,es,ep,zu e (CQ e d),d,r⟩
  have Hs:K.In (lO xm.heap H):=fun b o e=>zu (KX b o e) (by
   cases q:H b with
   | none=>rfl
   | some u =>
     have e':b=a:=hA b (by rw [q];simp);subst e';rw [hK (by rw [q];simp)] at e;cases e)
  have hM:Mod K mg (lO xm.heap H):=⟨Hs,Ep BN,⟨mb,Ep hb,zd⟩,let ⟨mc,h1,h2⟩:=Fi;⟨mc,Ep h1,h2⟩⟩;have e0:Env0 P w K mg (lO xm.heap H) callerA [] xm H:=⟨rfl,hM,fun b o e=>tB e,RS (pW _ _),trivial,fun b hb=>absurd (show b∈([]:List M5) from hb) (by simp),hok,.of_eq hg⟩;refine Qi ((F _ Hs (Ep BN)).run callerA [] xm H ⟨[.ref a],[]⟩ [.ref a] [.ref a] _ _ hr e0 (C3 xm (.ref a)) (.cons rfl .nil) (yS H hO hS)) fun r s' h=>?_;cases r with
  | error e=>exact (Fj H e s' h).elim
  | ok fl =>
    cases fl with
    | next=>exact OF h
    | brk=>exact OF h
    | cont=>exact OF h
    | ret u =>
      obtain ⟨v,H',os,bare,un,Fm,r',q⟩:=h;have q':v=.bl true:=q;subst q';obtain rfl:u=Value.bool true:=r';refine ⟨rfl,OldK.of_keep fun b o e=>?_,os,bare⟩;cases q:H b with
      | none=>exact un.keep b o e q (by intro z;exact absurd (show b∈([]:List M5) from z) (by simp)) (by simp)
      | some u =>
        rcases hO b with z | ⟨ob,xs,z⟩
        · rw [q] at z;cases z
        · have z2:=un.frzs b ob _ z;obtain ⟨e1,_⟩:=hok b _ z;obtain ⟨e2,_⟩:=Fm b _ z2;rw [e] at e1;cases e1;exact e2
 cases hk:K.lookup a with
 | some o =>
   -- zP script is one of zP C4 own objects
   have e:=KX a o hk;rw [ha] at e;cases e;refine core (fun _=>none) (fun _=>.inl rfl) (.inr ⟨_,vs.toArray,_,hk,rfl,rfl,rfl,by rw [M9,Fl];exact hl,by simpa using rv⟩) (fun b u z=>by have z':(none:Option HO)=some u:=z;cases z') (fun b z=>absurd rfl z) fun z=>absurd rfl z
 | none =>
   refine core (fun b=>if b=a then some (.frz { cls:=.type "list",data:=.seq vs.toArray } (.lst (ns.map V.int))) else none) (fun b=>?_) (.inl (.inr ⟨{ cls:=.type "list",data:=.seq vs.toArray },if_pos rfl⟩)) (fun b u z=>?_) (fun b z=>?_) fun _=>hk
   · by_cases hb:b=a
     · exact .inr ⟨_,_,if_pos hb⟩
     · exact .inl (if_neg hb)
   · by_cases hb:b=a
     · have z':=(if_pos hb).symm.trans z;cases z';subst hb;exact ⟨ha,by rw [MX];exact hl,vs,_,rv,ha⟩
     · have z':=(if_neg hb).symm.trans z;cases z'
   · by_cases hb:b=a
     · exact hb
     · exact absurd (if_neg hb) z
end L2
namespace L2
open PySem PySem.Spec PyProof.Rows
theorem sY {l:PySem.W.OpenLaw} {n k:Nat} {q:NC} {loose:List Nd} {XP:(Nd->Option M1)->Oo->Prop} {YP:NP->Oo->Prop} {d:DefRec} {K:Params->MY} {CX:NP->CXT} {sp:NP->Sp} {x:Nd}
 (hn:l.most=some n) (En:n<=Ny) (CZ:d.params.defaults=[]) (hr:Room k callerA)
 (hY:∀ (w:NP) (h:Oo),YP w h->(K w.params).In h)
 (F:∀ (w:NP) (mg:Nd->Option M1) (fa:M5) (h:Oo),(K w.params).In h->h.Ns NA mg->mg d.name=some (.ref fa) →
  ∃ fd:Pl,(∀ (s:M7) (u:M1),BindsTo s fd ⟨[u],[]⟩ [(x,u)]) ∧
    ∀ base:Oo,(K w.params).In base->base.Ns NA mg->FnOk l.prog w (K w.params) mg base (CX w) k fa fd [x] (sp w))
 (yS:∀ (w:NP) (H:Hp) (a:M5) (ns:List Int),ns.length<=n->vC H->SqL (K w.params) H a (ns.map V.int)->sp w [.ref a] H (fun v _=>v=.bl true) fun _ _ _=>False)
 (Fj:∀ (w:NP) (H:Hp) (s:M7) (e:M1) (s':M7),CX w [] H s (fun _ _ _=>False) e s'->False) :
 PySem.W.WalkO q loose XP YP l.row.toRowW d [] (fun f vs=>PySem.call f vs):=by
 refine Att.attach_call hn CZ fun w s₀ xm mg mb fa o pm cd doc a vs ns G Y ho hd zA C0 BM hints hlen hg=>?_;have KX:=hY w _ Y;obtain ⟨fd,hb,hF⟩:=F w mg fa _ KX G.T.g C0;exact rc KX G.T.g G.T.b G.T.builtins G.T.nolimit hg BM hints (Ow hlen En) hr hF hb (fun H hO hS=>yS w H a ns hlen hO hS) fun H e s'=>Fj w H xm e s'
end L2
namespace L2
open PySem PySem.Spec PyProof.Rows
def inClass (s:OP) (j:Nat):OP:=match s with
 | .ClassDef _ _ _ body _ _ _ _ _ _ _=>body.getD j (.Pass ⟨0,0,0,0⟩)
 | _=>.Pass ⟨0,0,0,0⟩
def bA (s:OP):Arguments:=match s with
 | .FunctionDef _ a _ _ _ _ _ _ _ _=>a
 | _=>{ posonlyargs:=[],args:=[],vararg:=none,kwonlyargs:=[],kw_defaults:=[],kwarg:=none,defaults:=[] }
def bj (s:OP):List OP:=match s with
 | .FunctionDef _ _ b _ _ _ _ _ _ _=>b
 | _=>[]
def am (s:OP):Qq:=match s with
 | .FunctionDef _ _ _ _ _ _ sc _ _ _=>sc
 | _=>{ kind:=.function,names:=[],isGenerator:=false,isCoroutine:=false }
abbrev CX0:CXT:=fun _ _ _ _ _ _=>False
abbrev E0:XK:=fun _ _ _=>False
theorem nk {X:Cx}:Passes CX0 X E0:=fun _ _ _ _ _ _ _ h=>h.elim
structure Fun (K:MY) (x qual:Nd) (st:OP) (f:M5) (fd:Pl):Prop where
 ex:∃ (oc:M1) (od:Option M5) (kV doc pm:M1) (an:Option M5) (xy ct:M1) (AK:Array (Option M1)),
  fd=Px x qual (bA st) (bj st) (am st) .none kV doc pm an xy ct/\K.lookup f=some ⟨oc,od,.func fd,AK⟩/\Ql K xy qual=true
 kp:O5 K (.ref f)=true
section
variable {P:NC} {w:NP} {K:MY} {mg:Nd->Option M1} {base:Oo}
theorem Fun.ok {x qual:Nd} {st:OP} {f:M5} {fd:Pl} {N ps:List Nd} {k:Nat} {sp:Sp} (F:Fun K x qual st f fd) (S:au N ps (am st)) (len:∀ vs H Q E,sp vs H Q E->vs.length=ps.length)
 (yx:∀ (xy:M1) (A:NT) (outer:List Env) (s:M7) (H:Hp) (vs:List V) (Q:VK) (E:XK),Room k (A.deeper (PY qual (am st) s.heap.objs.size f xy))->sp vs H Q E →
  ∃ t,PSs (kI CX0 P w K mg base N qual (am st) f xy A outer s H E).nox (bj st) t/\t { nx:=fun _ H'=>Q .non H',rt:=Q } (start N vs) H):FnOk P w K mg base CX0 (k+1) f fd ps sp:=by
 obtain ⟨oc,od,kV,doc,pm,an,xy,ct,AK,rfl,lk,zA⟩:=F.ex;refine uA lk zA S len fun A outer s H vs Q E hr yS=>?_;obtain ⟨t,h,q⟩:=yx xy A outer s H vs Q E hr yS;exact ⟨t,h.nox,q⟩
theorem Fun.binds {x qual:Nd} {st:OP} {f:M5} {fd:Pl} {ps:List Nd} (F:Fun K x qual st f fd)
 (h:∀ (kV doc pm:M1) (an:Option M5) (xy ct:M1) (us:List M1),us.length=ps.length->bindArgs (Px x qual (bA st) (bj st) (am st) .none kV doc pm an xy ct) ⟨us,[]⟩=pure (ps.zip us)):Binds K fd ps []:=by
 obtain ⟨oc,od,kV,doc,pm,an,xy,ct,AK,rfl,lk,zA⟩:=F.ex;exact .all (h kV doc pm an xy ct)
theorem cX {x qual:Nd} {st:OP} {f:M5} {oc:M1} {od an:Option M5} {AK:Array (Option M1)} {kV doc pm xy ct:M1} (l:K.lookup f=some ⟨oc,od,.func (Px x qual (bA st) (bj st) (am st) .none kV doc pm an xy ct),AK⟩)
 (c:Ql K xy qual=true) (k:O5 K (.ref f)=true):Fun K x qual st f (Px x qual (bA st) (bj st) (am st) .none kV doc pm an xy ct):=⟨⟨oc,od,kV,doc,pm,an,xy,ct,AK,rfl,l,c⟩,k⟩
end
section
variable {X:Cx}
theorem pv (i:Nat) {x:Nd} {pos:Qy} (hN:X.N[i]?=some x:=by rfl) (hv:Vis X.env.scope x:=by first | exact NB rfl | exact Or.inr (NB rfl) | exact Or.inr (Or.inr rfl)) (hd:(x == ("__debug__":Nd))=false:=by decide)
 (zA:(x == ("__classdict__":Nd))=false:=by decide):PE X (.Name x pos) (cx i):=vg hN hv hd zA
end
theorem aS {A B:Prop} (h:B):if false=true then A else B:=by
 rw [if_neg Nt];exact h
theorem aZ {A B:Prop} (h:A):if true=true then A else B:=by
 rw [if_pos rfl];exact h
theorem cA {c A B:Prop} [Decidable c] (h1:c->A) (h2:¬ c->B):if c then A else B:=by
 by_cases h:c
 · rw [if_pos h];exact h1 h
 · rw [if_neg h];exact h2 h
def Same (H H':Hp):Prop:=∀ b o,H b=some o->H' b=some o
theorem Same.refl (H:Hp):Same H H:=fun _ _ h=>h
theorem Same.trans {H H1 H2:Hp} (a:Same H H1) (b:Same H1 H2):Same H H2:=fun c o h=>b c o (a c o h)
theorem Same.free {H H':Hp} (e:Same H H') {l:M5} (h:H' l=Option.none):H l=Option.none:=by
 cases q:H l with
 | none=>rfl
 | some o =>
   rw [e l o q] at h;cases h
theorem Same.seq {K:MY} {H H':Hp} {a:M5} {xs:List V} (e:Same H H') (h:SqL K H a xs):SqL K H' a xs:=by
 rcases h with (h | ⟨o,h⟩) | h
 · exact .inl (.inl (e _ _ h))
 · exact .inl (.inr ⟨o,e _ _ h⟩)
 · exact .inr h
end L2
namespace L2
open PySem PySem.Spec PyProof.Rows
theorem gr (env:Env):∀ (ns:List (Nd×Pj)) (acc:List (Nd×M5)),(∀ n,(n,Oi)∈ns->∃ c,env.cells.lookup n=some c) →
 (∀ x c,acc.lookup x=some c->env.cells.lookup x=some c) →
 ∃ cl,(forIn ns acc fun (x:Nd×Pj) (cs:List (Nd×M5))=>(if (x.2 == Oi)=true then (do let a ← cellOf env x.1;pure (Pr ((x.1,a)::cs))) else pure (Pr cs):Sem _))=pure cl ∧
   (∀ x c,cl.lookup x=some c->env.cells.lookup x=some c)/\(∀ n,(n,Oi)∈ns->∃ c,cl.lookup n=some c)/\∀ n c,acc.lookup n=some c->cl.lookup n=some c
 | [],acc,_,ha=>⟨acc,rfl,ha,fun _ h=>by simp at h,fun _ _ h=>h⟩
 | (n,k)::r,acc,hf,ha=>by
   by_cases hk:k=Oi
   · subst hk;obtain ⟨c,hc⟩:=hf n Nj
     have JH:∀ x c',((n,c)::acc).lookup x=some c'->env.cells.lookup x=some c':=fun x c' e=>by
      rw [Ph] at e;cases hx:x == n with
      | true =>
        rw [hx] at e;have e1:x=n:=by simpa using hx
        cases e;rw [e1];exact hc
      | false=>rw [hx] at e;exact ha x c' e
     obtain ⟨cl,h1,h2,h3,h4⟩:=gr env r ((n,c)::acc) (fun m hm=>hf m (Ng _ hm)) JH;have up:∀ m c',((n,c)::acc).lookup m=some c'->cl.lookup m=some c':=h4;refine ⟨cl,?_,h2,?_,?_⟩
     · rw [OY];have e0:cellOf env n=pure c:=by unfold cellOf;rw [hc]
       simp only [beq_self_eq_true,if_true,e0,pure_bind];exact h1
     · intro m hm;rcases Nb.mp hm with e | e
       · have:m=n:=by simpa using (Prod.mk.inj e).1
         subst this;exact ⟨c,up m c (by rw [Ph];simp)⟩
       · exact h3 m e
     · intro m c' e;by_cases hm:m=n
       · subst hm;have:=ha m c' e;rw [hc] at this;cases this;exact up m c (by rw [Ph];simp)
       · have JI:(m == n)=false:=by simpa using hm
         exact up m c' (by rw [Ph,JI];exact e)
   · have hb:(k == Oi)=false:=by simpa using hk
     obtain ⟨cl,h1,h2,h3,h4⟩:=gr env r acc (fun m hm=>hf m (Ng _ hm)) ha;refine ⟨cl,?_,h2,?_,h4⟩
     · rw [OY];simp only [hb,Bool.false_eq_true,if_false,pure_bind];exact h1
     · intro m hm;rcases Nb.mp hm with e | e
       · exact absurd (Prod.mk.inj e).2.symm hk
       · exact h3 m e
theorem jV {env:Env} {sc:Qq} (hf:∀ n,(n,Oi)∈sc.names->∃ c,env.cells.lookup n=some c) :
 ∃ cl,closureFor sc env=pure cl/\(∀ x c,cl.lookup x=some c->env.cells.lookup x=some c)/\∀ n,(n,Oi)∈sc.names->∃ c,cl.lookup n=some c:=by
 obtain ⟨cl,h1,h2,h3,_⟩:=gr env sc.names [] hf (fun x c e=>by simp at e);refine ⟨cl,?_,h2,h3⟩;unfold closureFor;have e:(forIn sc.names ([]:List (Nd×M5)) fun (x:Nd×Pj) (cs:List (Nd×M5))=>(do if (x.2 == Oi)=true then (do let a ← cellOf env x.1;pure (Pr ((x.1,a)::cs))) else pure (Pr cs):Sem _))=pure cl:=h1
 first
  | (rw [show (forIn sc.names ([]:List (Nd×M5)) _:Sem _)=pure cl from h1];rfl)
  | (simp only [h1,pure_bind])
theorem jI {f:Nd×Pj->Nd×Pj} (hf:∀ p,(f p).1=p.1):∀ {l:List (Nd×Pj)} {x:Nd} {k:Pj},l.lookup x=some k->(l.map f).lookup x=some (f (x,k)).2
 | [],_,_,h=>by simp at h
 | (n,k0)::r,x,k,h=>by
   have ih:=@jI f hf r x k;rw [Ni];obtain ⟨a,b,e⟩:∃ a b,f (n,k0)=(a,b):=⟨_,_,rfl⟩;have ea:a=n:=by have:=hf (n,k0);rw [e] at this;exact this
   subst ea;rw [e,Ph];cases hx:x == a with
   | true =>
     rw [Ph,hx] at h;cases h;have:x=a:=by simpa using hx
     subst this;rw [e]
   | false=>rw [Ph,hx] at h;exact ih h
theorem dE {f:Nd×Pj->Nd×Pj} (hf:∀ p,(f p).1=p.1):∀ {l:List (Nd×Pj)} {x:Nd} {k:Pj},(l.map f).lookup x=some k->∃ k0,(x,k0)∈l/\(f (x,k0)).2=k
 | [],_,_,h=>by simp at h
 | (n,k0)::r,x,k,h=>by
   have ih:=@dE f hf r x k;rw [Ni] at h;obtain ⟨a,b,e⟩:∃ a b,f (n,k0)=(a,b):=⟨_,_,rfl⟩;have ea:a=n:=by have:=hf (n,k0);rw [e] at this;exact this
   subst ea;rw [e,Ph] at h;cases hx:x == a with
   | true =>
     rw [hx] at h;cases h;have:x=a:=by simpa using hx
     subst this;exact ⟨k0,Nj,by rw [e]⟩
   | false =>
     rw [hx] at h;obtain ⟨k1,h1,h2⟩:=ih h;exact ⟨k1,Ng _ h1,h2⟩
def rlb (env:Env) (p:Nd×Pj):Nd×Pj:=if (p.2 == Oi && env.scope.kind == .function && env.kindOf p.1 == some .cell) then (p.1,QP) else (p.1,p.2)
theorem l9 (env:Env) (p:Nd×Pj):(rlb env p).1=p.1:=by unfold rlb;split <;> rfl
theorem f6 (sc:Qq) (env:Env):(relabel sc env).names=sc.names.map (rlb env):=rfl
theorem il {sc:Qq} {env:Env} {x:Nd} (h:sc.names.lookup x=some .free):(relabel sc env).names.lookup x=some .cell∨(relabel sc env).names.lookup x=some .free:=by
 rw [f6,jI (l9 env) h];unfold rlb;split
 · exact .inl rfl
 · exact .inr rfl
theorem jH {sc:Qq} {env:Env} {x:Nd} (hn:∀ y∈sc.names,y.2≠QP) (h:(relabel sc env).names.lookup x=some .cell∨(relabel sc env).names.lookup x=some .free):(x,Oi)∈sc.names:=by
 rw [f6] at h
 have:∃ k0,(x,k0)∈sc.names/\((rlb env (x,k0)).2=.cell∨(rlb env (x,k0)).2=.free):=by
  rcases h with h | h
  · obtain ⟨k0,a,b⟩:=dE (l9 env) h;exact ⟨k0,a,.inl b⟩
  · obtain ⟨k0,a,b⟩:=dE (l9 env) h;exact ⟨k0,a,.inr b⟩
 obtain ⟨k0,hm,hk⟩:=this;have nc:=hn _ hm;cases k0 with
 | free=>exact hm
 | cell=>exact absurd rfl nc
 | _=>simp [rlb] at hk
def bD (X:Cx) (N:List Nd) (sc:Qq) (cl:List (Nd×M5)) (C:M5) (s:M7) (H:Hp) (fp:List M5) (pins:List (M5×Pb)):Cx :=
 { X with N:=N,s₀:=s,H₀:=H,env:=compEnvC sc cl C X.env,outer:=X.stack,ex:=fp,fn:=fun _=>false,pn:=X.pn++pins,xe:=fun _ _=>False }
def cσ (js:List (Option Nat)) (σ:St):St:=js.map fun o=>o.bind fun j=>(σ[j]?).join
structure dN (X:Cx) (sc:Qq) (N:List Nd) (js:List (Option Nat)):Prop where
 kind:sc.kind=.function
 nocell:∀ y∈sc.names,y.2≠QP
 names:∀ y∈sc.names,y.2=NameKind.local->sc.names.lookup y.1=some .local
 frees:∀ y∈sc.names,y.2=Oi->X.env.kindOf y.1=some .cell∨X.env.kindOf y.1=some .free
 len:js.length=N.length
 slots:∀ (i j:Nat) (x:Nd),js[i]?=some (some j)->N[i]?=some x->X.N[j]?=some x/\sc.names.lookup x=some .free/\(X.env.kindOf x=some .cell∨X.env.kindOf x=some .free)
theorem dL {X:Cx} {sc:Qq} {N:List Nd} {js:List (Option Nat)} (k:sc.kind=.function) (nc:∀ y∈sc.names,y.2≠QP) (nm:∀ y∈sc.names,y.2=NameKind.local->sc.names.lookup y.1=some .local)
 (fr:(sc.names.all fun y=>y.2 != Oi || X.env.kindOf y.1 == some QP || X.env.kindOf y.1 == some Oi)=true) (ln:js.length=N.length)
 (sl:((js.zip N).all fun p=>match p.1 with | none=>true | some j=>X.N[j]? == some p.2 && sc.names.lookup p.2 == some Oi && (X.env.kindOf p.2 == some QP || X.env.kindOf p.2 == some Oi))=true):dN X sc N js:=by
 refine ⟨k,nc,nm,fun y hy hf=>?_,ln,fun i j x e1 e2=>?_⟩
 · have h:=Oa.mp fr y hy;rw [hf] at h;simpa using h
 · have hm:(some j,x)∈js.zip N:=by
    have:(js.zip N)[i]?=some (some j,x):=by rw [List.getElem?_zip_eq_some];exact ⟨e1,e2⟩
    exact Nu this
   have h:=Oa.mp sl _ hm;simp at h;exact ⟨h.1.1,h.1.2,h.2⟩
def PTs (X:Cx) (ifs:List Od) (t:TT):Prop :=
 ∀ (pins:List (M5×Pb)) (s:M7) (σ:St) (H:Hp) (Q:Bool->Hp->Prop),Inv X pins σ H s->t σ H Q →
   Nv (NI X.prog X.w) X.A (forIn ifs true fun c r=>if r=true then do let ok ← isTrue c X.env (Pn c X.env);pure (Pr ok) else pure (Pr r)) (TP X pins σ Q) X.xe s
def bt:TT:=fun _ H Q=>Q true H
theorem cw {X:Cx}:PTs X [] bt:=fun _ _ _ H _ I h=>wpAny_tests_nil ⟨H,I,h⟩
theorem mH {X:Cx} {c:Od} {t:TT} (h:PT X c t):PTs X [c] t:=fun pins s σ H Q I q=>wpAny_tests_one (h pins s σ H Q I q)
def Keep (σ f':St):Prop:=σ.length=f'.length/\∀ (i:Nat) (v:V),σ[i]?=some (some v)->f'[i]?=some (some v)
def pO (js:List (Option Nat)) (g:TG):Prop:=∀ (σ xZ:St) (x:V) (H:Hp) (Q:St->Hp->Prop),Keep (cσ js σ) xZ->g x xZ H Q->g x xZ H fun xD H2=>Keep (cσ js σ) xD/\Q xD H2
theorem Keep.refl (σ:St):Keep σ σ:=⟨rfl,fun _ _ h=>h⟩
theorem t3 {js:List (Option Nat)} {σ:St} {i:Nat} (h:js[i]?=some none):(cσ js σ)[i]?=some none:=by
 unfold cσ;rw [Nq,h];rfl
theorem bR {js:List (Option Nat)} {i:Nat} (h:js[i]?=some none):pO js (aE i):=fun σ xZ x H Q k q=>by
 refine ⟨⟨by rw [List.length_set];exact k.1,fun j v e=>?_⟩,q⟩;by_cases hj:i=j
 · subst hj;rw [t3 h] at e;cases e
 · rw [QI hj];exact k.2 j v e
def dU (js:List (Option Nat)) (g:TG) (tt:TT) (te:TE) (σ:St) (J:It) (D:M5) (n:Nat) (W:Nat->Hp->Prop) (fin:Hp->Prop):Prop :=
 ∀ i H,W i H->(J.stop i H/\fin H)∨(i<n/\J.go i H/\∀ x H1,J.yld i H x H1->g x (cσ js σ) H1 fun xD H2=>tt xD H2 fun b H3 =>
   if b=true then te xD H3 fun v H4=>∃ ys,H4 D=some (.lst ys)/\ys.length<Ny/\W (i+1) (upd H4 D (.lst (ys++[v]))) else W (i+1) H3)
def ux (js:List (Option Nat)) (wi:TI) (g:TG) (tt:TT) (te:TE):TE:=fun σ H Q=>wi σ H fun J H1=>∀ D,H1 D=none →
 ∃ (n:Nat) (W:Nat->Hp->Prop),W 0 (upd H1 D (.lst []))/\dU js g tt te σ J D n W fun H'=>Q (.ref D) H'
section
variable {X:Cx} {pins:List (M5×Pb)} {σ:St} {s:M7} {H:Hp}
theorem sj {sc:Qq} {N:List Nd} {js:List (Option Nat)} {cl:List (Nd×M5)} {fp:List M5} {h1:Oo} {t':Nat} (S:dN X sc N js) (I:Inv X pins σ H s)
 (yG:∀ x c,cl.lookup x=some c->X.env.cells.lookup x=some c) (AN:∀ n,(n,Oi)∈sc.names->∃ c,cl.lookup n=some c)
 (hf:∀ b∈fp,gB X pins H b) (xK:∀ b∈fp,b<s.heap.objs.size) (BN:h1.Ns s.heap.objs.size fun x=>Pz x ([]:List (Nd×M1)))
 (zQ:∀ b o,s.heap.get? b=some o->h1.get? b=some o) :
 Inv (bD X N sc cl s.heap.objs.size s H fp pins) [] (cσ js σ) H { s with heap:=h1,toks:=t' }:=by
 have hok:(bD X N sc cl s.heap.objs.size s H fp pins).Ok :=
  { mod:=I.ok.mod
    kind:=S.kind
    glob:=I.ok.glob
    blt:=I.ok.blt
    above:=M8 _
    inj:=fun x y c a b=>I.ok.inj x y c (yG x c a) (yG y c b)
    has:=fun x h=>AN x (jH S.nocell h)
    cab:=fun x c h=>by cases h
    hd:=I.ok.hd
    frames:=I.ok.frames
    stk:=.inl rfl
    exf:=fun b hb=>⟨fun e=>absurd (xK b hb) (by rw [e];exact Ou _),fun x c e z=>(hf b hb).2.2.2.2.1 x c (yG x c e) z⟩
    bs:=I.bs
    bsz:=Ow I.ok.bsz I.sz
    noex:=fun b o e hb=>by
     rcases (hf b hb).2.2.2.1 with h | h
     · exact I.ok.noex b o e h
     · exact absurd (NL (NL (Np e) I.ok.bsz) h) (Ou _)
    exfs:=fun b hb hm=>by
     rcases Nb.mp (I.stkSub b hm) with e | e
     · exact (hf b hb).2.1 e
     · exact (hf b hb).2.2.1 e
    funs:=I.stack
    frf:=I.stkFree }
 have hC:H s.heap.objs.size=none:=I.hok.fresh (M8 _);obtain ⟨m0,C5,JJ⟩:=I.loc
 exact
  { ok:=hok
    os:=rfl
    bare:=I.bare
    base:=Un.kept zQ
    loc:=⟨_,BN,fun i x v e1 e2 Ho=>by
     have zY:∃ j,js[i]?=some (some j)/\σ[j]?=some (some v):=by
      unfold cσ at e2;rw [Nq] at e2;cases q:js[i]? with
      | none=>rw [q] at e2;cases e2
      | some o =>
        rw [q] at e2;cases o with
        | none=>cases e2
        | some j =>
          refine ⟨j,rfl,?_⟩;have e3:(σ[j]?).join=some v:=Nh e2;cases r:σ[j]? with
          | none=>rw [r] at e3;cases e3
          | some z=>rw [r] at e3;exact congrArg some e3
     obtain ⟨j,q1,q2⟩:=zY;obtain ⟨n1,n2,n3⟩:=S.slots i j x q1 e1;obtain ⟨u,ru,look⟩:=JJ j x v n1 q2 (by rcases n3 with z | z;exact .inr (.inl z);exact .inr (.inr z));refine ⟨u,ru,.inr ⟨il n2,?_⟩⟩;have hm:(x,Oi)∈sc.names:=jH (env:=X.env) S.nocell (il n2);obtain ⟨c,hc⟩:=AN x hm;refine ⟨c,hc,?_⟩;rcases look with ⟨k1,_⟩ | ⟨_,c',yE,ic⟩
     · rcases n3 with z | z <;> (rw [k1] at z;cases z)
     · have:=yG x c hc;rw [yE] at this;cases this;exact ic.keeps zQ⟩
    cell:=fun x c e=>by
     obtain ⟨v,q⟩:=I.cell x c (yG x c e);exact ⟨v,q.keeps zQ⟩
    free:=hC
    freeC:=fun x c e=>I.freeC x c (yG x c e)
    pin:=fun p hp=>by
     have JK:p∈X.pn++pins:=by simpa [bD] using hp
     obtain ⟨a1,a2,a3,a4,a5⟩:=I.pin p JK;refine ⟨zQ _ _ a1,a2,fun e=>?_,fun hm=>?_,a5⟩
     · have e':p.1=s.heap.objs.size:=e;exact absurd (Np a1) (by rw [e'];exact Ou _)
     · rcases Nb.mp (I.stkSub p.1 hm) with e | e
       · exact a3 e
       · exact a4 e
    hok:=I.hok.kept zQ
    len:=by
     show (cσ js σ).length=N.length;unfold cσ;rw [MX];exact S.len }
theorem qE {prog:NC} {w:NP} {A:NT} {R:Result->M7->Prop} {elt target iter:Od} {ifs:List Od} {scope:Qq} {pos:Qy} {it acc:M1} {env:Env} (J:Nat->M7->Prop)
 (turn:∀ n s,J n s->Nv (NI prog w) A (pyNext it) (fun r xm=>(r=none/\R (.ok .next) xm)∨∃ v,r=some v ∧
  Nv (NI prog w) A (Rz target it v) (fun _ yv=>Nv (NI prog w) A (assign target env v) (fun _ zB =>
   Nv (NI prog w) A (forIn ifs true fun c r=>if r=true then do let ok ← isTrue c env (Pn c env);pure (Pr ok) else pure (Pr r)) (fun ok zZ =>
    (ok=false/\∃ m,m<n/\J m zZ)∨(ok=true/\Nv (NI prog w) A (Pn elt env) (fun x C6=>Nv (NI prog w) A (call (.builtin "list.append") [acc,x]) (fun _ C7=>∃ m,m<n/\J m C7) (fun _ _=>False) C6) (fun _ _=>False) zZ))
    (fun _ _=>False) zB) (fun _ _=>False) yv) (fun _ _=>False) xm) (fun _ _=>False) s)
 {s:M7} (n:Nat) (h:J n s):Rf (NI prog w) A (.compLoop (.ListComp elt [⟨target,iter,ifs,0⟩] scope pos) 0 it acc env) R s:=by
 refine codeAny_loop rfl J (fun n s hJ=>?_) n h;show Nv _ A ((compTurn (.ListComp elt [⟨target,iter,ifs,0⟩] scope pos) 0 it acc env).onRaise _) _ _ s;refine wpAny_noted ?_;rw [compTurn_list];have up:∀ {α:Type} {m:Sem α} {Q:α->M7->Prop} {E:M1->M7->Prop} {s:M7},Nv (NI prog w) A m Q (fun _ _=>False) s->Nv (NI prog w) A m Q E s:=fun q=>OM q (fun _ _ z=>z) fun _ _ z=>z.elim;refine M0 (wpAny_standAt (M0 (OM (up (turn n s hJ)) (fun r xm xI=>?_) fun _ _ z=>z)));rcases xI with ⟨rfl,xI⟩ | ⟨v,rfl,xI⟩
 · exact Nk xI
 · refine M0 (OM (up xI) (fun _ yv yH=>?_) fun _ _ z=>z);refine M0 (OM (up yH) (fun _ zB zE=>?_) fun _ _ z=>z);refine M0 (OM (up zE) (fun ok zZ yy=>?_) fun _ _ z=>z);rcases yy with ⟨rfl,yy⟩ | ⟨rfl,yy⟩
   · exact Nk ⟨rfl,yy⟩
   · exact M0 (M0 (OM (up yy) (fun x C6 xR=>M0 (OM (up xR) (fun _ C7 Fn=>Nk (Nk ⟨rfl,Fn⟩)) fun _ _ z=>z)) fun _ _ z=>z))
theorem j2 {elt tg iter:Od} {ifs:List Od} {sc:Qq} {pos:Qy} {N:List Nd} {js:List (Option Nat)} {g:TG} {tt:TT} {te:TE} {cl:List (Nd×M5)} {fp:List M5} {it:M5} {tn:Nat->Oo->Prop} {J:It} {n:Nat} {W:Nat->Hp->Prop} {fin:Hp->Prop}
 {R:M1->M5->Result->M7->Prop} (hc:X.calm=true) (S:dN X sc N js) (I:Inv X pins σ H s) (T:Turn X.prog X.w X.K tg J fp it tn) (st:tn 0 s.heap) (hf:∀ b∈fp,gB X pins H b)
 (yG:∀ x c,cl.lookup x=some c->X.env.cells.lookup x=some c) (AN:∀ n,(n,Oi)∈sc.names->∃ c,cl.lookup n=some c)
 (hg:∀ cl C s H fp pins,PG (bD X N sc cl C s H fp pins) tg g) (gk:pO js g) (ht:∀ cl C s H fp pins,PTs (bD X N sc cl C s H fp pins) ifs tt) (he:∀ cl C s H fp pins,PE (bD X N sc cl C s H fp pins) elt te)
 (w0:W 0 (upd H s.heap.objs.size (.lst []))) (turn:dU js g tt te σ J s.heap.objs.size n W fin)
 (hR:∀ C H' s',C≠X.env.locals->s.heap.objs.size<C->(∃ m,s'.heap.Ns C m)->H' C=none->(∀ h' t',PZ C s'.heap h'->Inv X pins σ H' { s' with heap:=h',toks:=t' })->fin H'->R (.ref s.heap.objs.size) C (.ok .next) s') {E:M1->M7->Prop} :
 Nv (NI X.prog X.w) X.A (newList []) (fun acc zB=>Nv (NI X.prog X.w) X.A (newFunctionEnv sc X.env.globals cl [] X.env.qual none .none (some X.env)) (fun C8 zZ =>
  Rf (NI X.prog X.w) X.A (.compStart (.ListComp elt [⟨tg,iter,ifs,0⟩] sc pos) 0 (.ref it) acc { C8 with scope:=relabel sc X.env }) (R acc C8.locals) zZ) E zB) E s:=by
 refine OA (wpAny_newFunctionEnv S.nocell (by intro y hy;simp at hy) (fun xI zm zo=>?_) S.kind);dsimp only at zm zo ⊢;have I3:Inv X pins σ (upd H s.heap.objs.size (.lst [])) { s with heap:=s.heap.push { cls:=.type "list",dict:=none,data:=.seq ([]:List M1).toArray } }:=I.lnew (t':=s.toks) (its:=[]) .nil (by decide)
 have xK:∀ b∈fp,b<s.heap.objs.size:=fun b hb=>by
  obtain ⟨o,ho,_⟩:=T.obj _ _ st b hb;exact Np ho
 have Bd:∀ b o,s.heap.get? b=some o->(s.heap.push { cls:=.type "list",dict:=none,data:=.seq ([]:List M1).toArray }).get? b=some o:=fun b o e=>M6 _ e;have xQ:(s.heap.push { cls:=.type "list",dict:=none,data:=.seq ([]:List M1).toArray }).objs.size=s.heap.objs.size+1:=O1 ..;generalize Ht:({ s with heap:=s.heap.push { cls:=.type "list",dict:=none,data:=.seq ([]:List M1).toArray } }:M7)=s3 at I3;have C9:s.heap.push { cls:=.type "list",dict:=none,data:=.seq ([]:List M1).toArray }=s3.heap:=by rw [<- Ht]
 rw [C9] at zm zo Bd xQ;rw [C9];have JL:∀ t',({ s with heap:=xI,toks:=t' }:M7)={ s3 with heap:=xI,toks:=t' }:=fun t'=>by rw [<- Ht]
 rw [JL];have zQ:∀ b o,s3.heap.get? b=some o->xI.get? b=some o:=fun b o e=>zo.extBut b o (NQ (Np e)) (M6 _ e);have Fo:∀ b∈fp,gB X pins (upd H s.heap.objs.size (.lst [])) b:=fun b hb=>⟨by rw [aq (NQ (xK b hb))];exact (hf b hb).1,(hf b hb).2⟩;have I4:=sj (t':=s.toks+([]:List (Nd×M1)).length) S I3 yG AN Fo (fun b hb=>by rw [xQ];exact OV (xK b hb)) zm zQ;generalize Mt:upd H s.heap.objs.size (.lst [])=H3 at I3 I4 Fo w0;have xF:tn 0 xI:=T.keep _ _ _ st fun b hb o e=>zQ _ _ (Bd _ _ e)
 have yw:∀ {H':Hp},(∀ b∈fp,H' b=none)->∀ b∈fp,gB (bD X N sc cl s3.heap.objs.size s3 H3 fp pins) [] H' b:=fun {H'} hn b hb=>by
  obtain ⟨f0,f1,f2,f3,f4,f5⟩:=hf b hb;refine ⟨hn b hb,fun e=>?_,fun hm=>?_,.inl hb,fun x c e=>f4 x c (yG x c e),fun p hp=>f5 p (by simpa [bD] using hp)⟩
  · have e':b=s3.heap.objs.size:=e;have h9:b<s.heap.objs.size:=xK b hb;rw [e',xQ] at h9;exact absurd h9 (Nat.not_lt.mpr (Nat.le_succ _))
  · rcases Nb.mp (I.stkSub b hm) with e | e
    · exact f1 e
    · exact f2 e
 have loop:Rf (NI X.prog X.w) X.A (.compLoop (.ListComp elt [⟨tg,iter,ifs,0⟩] sc pos) 0 (.ref it) (.ref s.heap.objs.size) (compEnvC sc cl s3.heap.objs.size X.env)) (R (.ref s.heap.objs.size) s3.heap.objs.size)
  { s3 with heap:=xI,toks:=s.toks+([]:List (Nd×M1)).length }:=by
  refine qE (fun k s'=>∃ i H',Inv (bD X N sc cl s3.heap.objs.size s3 H3 fp pins) [] (cσ js σ) H' s'/\tn i s'.heap/\(∀ b∈fp,H' b=none)/\W i H'/\k=n - i) ?_ n ⟨0,H3,I4,xF,fun b hb=>(Fo b hb).1,w0,rfl⟩;rintro k s5 ⟨i,H5,I5,Cd,Em,w5,rfl⟩;rcases turn i H5 w5 with ⟨stop,qn⟩ | ⟨Er,go,step⟩
  · refine thn (T.done (bD X N sc cl s3.heap.objs.size s3 H3 fp pins) rfl rfl rfl hc i [] s5 (cσ js σ) H5 _ I5 (yw Em) Cd stop) fun r s6 ⟨hr,I6⟩=>.inl ⟨hr,?_⟩;have I7:Inv X pins σ H5 s6:=I3.call' (ch:=fp) (I6.os.trans rfl) I6.base I6.hok I6.bare fun b hb=>⟨(hf b hb).2.2.2.1,(hf b hb).2.1,(hf b hb).2.2.2.2.1,(hf b hb).2.2.2.2.2⟩;have Hu:H5 s3.heap.objs.size=none:=I6.free;have Hv:s3.heap.objs.size≠X.env.locals:=PM I3.lt;obtain ⟨m6,JM,_⟩:=I6.loc;refine hR s3.heap.objs.size H5 s6 Hv (by omega) ⟨m6,JM⟩ Hu (fun h' t' sb=>?_) qn;refine I7.turned (it:=s3.heap.objs.size) (fun b o hb e=>sb.extBut b o hb e) Hu Hv (.inr I3.sz) (fun x c e z=>?_) fun p hp z=>?_
    · obtain ⟨v,q⟩:=I3.cell x c e;exact absurd q.lt (by rw [z];exact Ou _)
    · exact absurd (Np (I3.pin p hp).1) (by rw [z];exact Ou _)
  · refine thn (T.item (bD X N sc cl s3.heap.objs.size s3 H3 fp pins) rfl rfl rfl hc i [] s5 (cσ js σ) H5 _ I5 (yw Em) Cd go) fun r s6 ⟨u,hr,h6⟩=>.inr ⟨u,hr,?_⟩;refine thn h6 fun _ s7 ⟨x,H7,I7,r7,y7,Fp,JN⟩=>?_;have JO:=I7.pinned (yw JN) (T.obj _ _ Fp);refine thn (hg cl s3.heap.objs.size s3 H3 fp pins _ s7 (cσ js σ) H7 x u _ JO r7 (gk σ (cσ js σ) x H7 _ (.refl _) (step x H7 y7))) fun _ s8 ⟨Aa,H8,I8,k8,q8⟩=>?_;refine thn (ht cl s3.heap.objs.size s3 H3 fp pins _ s8 Aa H8 _ I8 q8) fun ok s9 ⟨H9,I9,q9⟩=>?_
    have again:∀ {s':M7} {f':St} {H':Hp},Keep (cσ js σ) f'->Inv (bD X N sc cl s3.heap.objs.size s3 H3 fp pins) ([]++ix fp s7.heap) f' H' s'->W (i+1) H'->∃ m,m<n - i/\∃ i H',Inv (bD X N sc cl s3.heap.objs.size s3 H3 fp pins) [] (cσ js σ) H' s'/\tn i s'.heap/\(∀ b∈fp,H' b=none)/\W i H'/\m=n - i:=fun {s' f' H'} kp I' w'=>by
     refine ⟨n - (i+1),by omega,i+1,H',(I'.unpinned).weak kp.1 kp.2,T.keep _ _ _ Fp fun b hb o e=>(I'.pin (b,o) (NJ _ (NJ _ (ci hb e)))).1,fun b hb=>?_,w',rfl⟩;obtain ⟨o,e,d⟩:=T.obj _ _ Fp b hb;exact (I'.pin (b,o) (NJ _ (NJ _ (ci hb e)))).2.1
    cases ok with
    | false =>
      refine .inl ⟨rfl,again k8 I9 ?_⟩;have Hw:if false=true then _ else W (i+1) H9:=q9
      rw [if_neg Nt] at Hw;exact Hw
    | true =>
      refine .inr ⟨rfl,?_⟩;rw [if_pos rfl] at q9;refine thn (he cl s3.heap.objs.size s3 H3 fp pins _ s9 Aa H9 _ I9 q9) fun vv Es ⟨v,Fq,JP,rv,ys,hD,Fs,JQ⟩=>?_;refine thn (bp _ Es Aa Fq (.ref s.heap.objs.size) [v] (.ref s.heap.objs.size) [vv] (fun _ H'=>W (i+1) H') JP rfl (.cons rv .nil) ⟨_,ys,v,rfl,rfl,hD,Fs,JQ⟩) fun _ Et ⟨_,Ft,JR,_,JS⟩=>?_;exact again k8 JR JS
 exact codeAny_compStart_list loop (T.self X.A 0 _ _ _ xF loop)
theorem cv {elt tg iter:Od} {ifs:List Od} {sc:Qq} {pos:Qy} {N:List Nd} {js:List (Option Nat)} {wi:TI} {g:TG} {tt:TT} {te:TE} (hc:X.calm=true) (S:dN X sc N js) (hi:PI X tg iter wi)
 (hg:∀ cl C s H fp pins,PG (bD X N sc cl C s H fp pins) tg g) (gk:pO js g) (ht:∀ cl C s H fp pins,PTs (bD X N sc cl C s H fp pins) ifs tt) (he:∀ cl C s H fp pins,PE (bD X N sc cl C s H fp pins) elt te)
 (hs:∀ x,Rc iter X.env x=pure x:=by intro _;rfl):PE X (.ListComp elt [⟨tg,iter,ifs,0⟩] sc pos) (ux js wi g tt te):=by
 intro pins s σ H Q I h;obtain ⟨cl,e1,e2,e3⟩:=jV (env:=X.env) (sc:=sc) fun n hn=>I.ok.has n (S.frees _ hn rfl);rw [eval_ListComp];refine wpAny_comprehension_free (use:=none) rfl hs e1 S.kind S.names (thn (hi pins s σ H _ I h) fun v s1 h1=>thn h1 fun El s2 h2=>?_);obtain ⟨it,fp,tn,J,H2,rfl,I2,T,BF,f2,R2⟩:=h2;obtain ⟨n,W,w0,turn⟩:=R2 s2.heap.objs.size I2.fresh;refine j2 (R:=fun acc C=>compPost (NI X.prog X.w) X.A X.xe none (EP X pins σ Q) acc C) hc S I2 T BF f2 e2 e3 hg gk ht he w0 turn fun C H' s' _ _ hn _ inv fi=>?_;obtain ⟨m,hm⟩:=hn;exact ⟨m,hm,fun h' sb=>⟨.ref s2.heap.objs.size,H',inv h' s'.toks sb,rfl,fi⟩⟩
theorem mK {i:Nat} {y:Nd} {elt tg iter:Od} {ifs:List Od} {sc:Qq} {pos Dc py:Qy} {N:List Nd} {js:List (Option Nat)} {wi:TI} {g:TG} {tt:TT} {te:TE} (hN:X.N.Nodup) (hy:X.N[i]?=some y) (Dd:Loc X.env.scope y) (hc:X.calm=true) (S:dN X sc N js) (hi:PI X tg iter wi)
 (hg:∀ cl C s H fp pins,PG (bD X N sc cl C s H fp pins) tg g) (gk:pO js g) (ht:∀ cl C s H fp pins,PTs (bD X N sc cl C s H fp pins) ifs tt) (he:∀ cl C s H fp pins,PE (bD X N sc cl C s H fp pins) elt te)
 (JT:swapsWith (.ListComp elt [⟨tg,iter,ifs,0⟩] sc pos) (some (.Name y py)) Dc.line X.env=pure true:=by rfl)
 (hs:∀ x,Rc iter X.env x=pure x:=by intro _;rfl) (hf:X.fn y=true∨X.env.scope.names.lookup y=some .local:=by first | exact .inl rfl | exact .inr rfl | assumption) :
 PS X (.Assign [.Name y py] (.ListComp elt [⟨tg,iter,ifs,0⟩] sc pos) Dc) (nS (ux js wi g tt te) (aE i)):=by
 intro pins s σ H D I h;obtain ⟨cl,e1,e2,e3⟩:=jV (env:=X.env) (sc:=sc) fun n hn=>I.ok.has n (S.frees _ hn rfl);rw [exec_Assign_Name_used _ _ _ _ JT];refine M0 (wpAny_standAt (M0 ?_));show Nv _ X.A (do let _ ← comprehension (.ListComp elt [⟨tg,iter,ifs,0⟩] sc pos) sc X.env _ (newList []) false (Pn iter X.env) (some (assign (.Name y py) X.env))) _ _ s;refine M0 (OM (wpAny_comprehension_free (use:=some (assign (.Name y py) X.env)) (Q:=fun _ s'=>SP X pins D .next s') rfl hs e1 S.kind S.names (thn (hi pins s σ H _ I h) fun v s1 h1=>thn h1 fun El s2 h2=>?_)) (fun _ s' hq=>Nk (Nk hq)) fun _ _ z=>z);obtain ⟨it,fp,tn,J,H2,rfl,I2,T,BF,f2,R2⟩:=h2;obtain ⟨n,W,w0,turn⟩:=R2 s2.heap.objs.size I2.fresh;refine j2 (R:=fun acc C=>compPost (NI X.prog X.w) X.A X.xe (some (assign (.Name y py) X.env)) (fun _ s'=>SP X pins D .next s') acc C) hc S I2 T BF f2 e2 e3 hg gk ht he w0 turn fun C H' s' Hz hC hn Fu inv fi=>?_;obtain ⟨m,hm⟩:=hn
 have I5:Inv X pins σ H' s':=by
  have q:=inv s'.heap s'.toks (.refl ..);exact q
 refine wpAny_assign_Name (lm (v:=.ref s2.heap.objs.size) I5 hN hy Dd rfl (fun s6 I6 ⟨a,sb,ha⟩=>?_) hf)
 have JU:C≠a:=by
  rcases ha with ha | ha
  · rw [ha];exact Hz
  · intro z;obtain ⟨v,q⟩:=I2.cell y a ha;exact absurd (Nat.lt_trans q.lt hC) (by rw [z];exact Ou _)
 refine ⟨m,hm.sameBut sb JU,fun h' JV=>⟨_,H',I6.turned (it:=C) (t':=s6.toks) (fun b o hb e=>JV.extBut b o hb e) Fu Hz (.inr (Ow I2.sz (Qn hC))) (fun x c e z=>?_) fun p hp z=>?_,fi⟩⟩
 · obtain ⟨v,q⟩:=I2.cell x c e;exact absurd (Nat.lt_trans q.lt hC) (by rw [z];exact Ou _)
 · exact absurd (Nat.lt_trans (Np (I2.pin p hp).1) hC) (by rw [z];exact Ou _)
end
end L2
namespace L2
open PySem PySem.Spec PyProof.Rows
def jo {α:Type} (xs:List α) (lo hi:Option Int):List α:=(xs.drop (HT.sIx xs.length 0 lo)).take (HT.sIx xs.length xs.length hi - HT.sIx xs.length 0 lo)
def dO (z:Nd) (lo hi:Option Int):Nd:=⟨(jo z.cps.toList lo hi).toArray⟩
theorem rG {α:Type} (xs:List α) (a n:Nat):((NU n).map fun (k:Nat)=>a+k).filterMap (xs[·]?)=(xs.drop a).take n:=by
 induction n with
 | zero=>simp
 | succ n ih =>
   rw [List.range_succ,Nw,List.filterMap_append,ih,Qp];congr 1;rw [List.getElem?_drop];cases h:xs[a+n]? <;> simp [h]
theorem qv (n d:Nat) (i:Int):max 0 (min (if i<0 then i+(n:Int) else i) (n:Int))=((HT.sIx n d (some i):Nat):Int):=by
 show max 0 (min (if i<0 then i+(n:Int) else i) (n:Int))=(((if i<0 then (i+(n:Int)).toNat else min i.toNat n):Nat):Int);by_cases h:i<0
 · rw [if_pos h,if_pos h];omega
 · rw [if_neg h,if_neg h];omega
theorem rL (A B:Int) (a b:Nat) (hA:A=(a:Int)) (hB:B=(b:Int)):sliceRange A B 1=(NU (b - a)).map fun (k:Nat)=>a+k:=by
 subst hA;subst hB;unfold sliceRange;simp only [show (1:Int) > 0 by decide,if_true]
 have c:(if (a:Int)<(b:Int) then ((b:Int) - a+1 - 1) / 1 else 0).toNat=b - a:=by
  split
  · rw [RU];omega
  · omega
 rw [c];refine QL fun k _=>?_;omega
theorem pN (lo hi:Option Int) (n:Nat):Q1 lo hi 1 n=(NU (HT.sIx n n hi - HT.sIx n 0 lo)).map fun (k:Nat)=>HT.sIx n 0 lo+k:=by
 unfold Q1;simp only [show (1:Int) > 0 by decide,if_true];cases lo <;> cases hi <;> refine rL _ _ _ _ ?_ ?_ <;> first | rfl | exact qv _ _ _
theorem dw (z:Nd) (lo hi:Option Int):(dO z lo hi).length<=z.length:=by
 show (jo z.cps.toList lo hi).toArray.size<=z.cps.size;unfold jo;rw [M9,Og,N9,Nm];omega
theorem kN (x:Nd) (t:Tok) (l u:Option (Int×Tok)) {Q:M1->M7->Prop} {s:M7} (hz:x.length<=Ny) (h:∀ t' k,Q (.str (dO x (l.map (·.1)) (u.map (·.1))) t') { s with toks:=k }):(sliceMade x t l u none).post Q s:=by
 have e:(RJ x l u none).filterMap (x.cps[·]?)=jo x.cps.toList (l.map (·.1)) (u.map (·.1)):=by
  unfold RJ jo;show (Q1 (l.map (·.1)) (u.map (·.1)) 1 x.length).filterMap (x.cps[·]?)=_;rw [pN,show (x.cps[·]?)=(x.cps.toList[·]?) from funext fun i=>(PX ..).symm,rG,Nm];rfl
 unfold sliceMade;split
 · rename_i hc
   have hl:(RJ x l u none).length=x.length:=by
    have:=(NX _ _ ▸ hc).2;simpa using this
   have hw:dO x (l.map (·.1)) (u.map (·.1))=x:=by
    have e2:(jo x.cps.toList (l.map (·.1)) (u.map (·.1)))=x.cps.toList:=by
     have hp:RJ x l u none=(NU (HT.sIx x.length x.length (u.map (·.1)) - HT.sIx x.length 0 (l.map (·.1)))).map fun (k:Nat)=>HT.sIx x.length 0 (l.map (·.1))+k:=pN _ _ _;rw [hp,MX,OH] at hl;have b1:=HT.sIx_le x.length x.length (M8 _) (u.map (·.1));have hx:x.cps.toList.length=x.length:=Nm;unfold jo;rw [hx,hl];have JW:HT.sIx x.length 0 (l.map (·.1))=0∨x.length=0:=by omega
     rcases JW with h0 | h0
     · rw [h0,OW,N1 (by rw [hx];exact M8 _)]
     · have:x.cps.toList=[]:=Oe.mp (by rw [hx];exact h0);rw [this];simp
    unfold dO;rw [e2]
   have:=h t s.toks;rw [hw] at this;exact this
 · show (⟨((RJ x l u none).filterMap (x.cps[·]?)).toArray⟩:Nd).length<=Ny/\Q _ _;rw [e];exact ⟨Ow (dw x _ _) hz,h s.toks (s.toks+1)⟩
section
variable {X:Cx}
inductive ue (x:V) (lo:Option Int) (hi:Option Int) (H:Hp) (Q:VK):Prop
 | mk (z:_) (xB:x=.str z) (xC:z.length<=Ny) (xG:Q (.str (dO z lo hi)) H):ue  x lo hi H Q
def wO:V->Option Int->Option Int->Hp->VK->Prop:=ue
theorem part_of {v:M1} {o:Option Int} (h:IsPart v o):∃ l:Option (Int×Tok),v=partValue l/\l.map (·.1)=o:=by
 cases h with
 | none=>exact ⟨none,rfl,rfl⟩
 | int i t=>exact ⟨some (i,t),rfl,rfl⟩
theorem l0:SlR X wO:=by
 intro pins s σ H x v vl vu lo hi sl Q I rx hs pl pu h;obtain ⟨z,rfl,hz,q⟩:=h;obtain ⟨t,rfl⟩:=rx;obtain ⟨l,rfl,rfl⟩:=part_of pl;obtain ⟨u,rfl,rfl⟩:=part_of pu;refine ⟨"str",_,F.slot_str_getitem.lookup,Qc s z t,wpAny_getItem_str_slice (l:=l) (u:=u) (st:=none) ?_ rfl (kN z t l u hz fun t' k=>?_)⟩
 · obtain ⟨o,ho,hc,hd⟩:=hs;exact ⟨o,ho,hc,hd⟩
 · exact ⟨.str (dO z (l.map (·.1)) (u.map (·.1))),H,I.tok k,⟨_,rfl⟩,q⟩
def u5:V->List V->Hp->VK->Prop:=fun x vs H Q=>∃ z y i r,x=.str z/\vs=[.str y]/\Builtin.Str.occurrences z y 0 z.length 1=i::r/\Q (.int (i:Nat)) H
theorem qU:MtR X "str.index" u5:=by
 intro pins s σ H x vs v us Q I rx rv h;obtain ⟨z,y,i,r,rfl,rfl,ho,q⟩:=h;obtain ⟨t,rfl⟩:=rx;obtain ⟨u,rfl,u',rfl⟩:=rv.one;exact SC.index ho ⟨.int (i:Nat),H,I.tok _,⟨_,rfl⟩,q⟩
theorem tf {ys:List Nd}:∀ {us:List M1},Vals (ys.map V.str) us->StrsAre us ys:=by
 induction ys with
 | nil=>intro us r;cases r;exact .nil
 | cons y ys ih =>
   intro us r;cases r with
   | cons a b =>
     obtain ⟨t,rfl⟩:=a;exact .cons y t (ih b)
def rJoin (K:MY):V->List V->Hp->VK->Prop:=fun x vs H Q=>∃ z p ys,x=.str z/\vs=[.ref p]/\SqL K H p (ys.map V.str)/\(ys.map (·.length)).sum+ys.length * z.length<=16777216/\Q (.str (OQ z ys)) H
theorem jv:MtR X "str.join" (rJoin X.K):=by
 intro pins s σ H x vs v us Q I rx rv h;obtain ⟨z,p,ys,rfl,rfl,hl,hz,q⟩:=h;obtain ⟨t,rfl⟩:=rx;obtain ⟨u,rfl,u'⟩:=rv.one;cases u';obtain ⟨its,r,pl,_⟩:=I.list hl;exact join_list pl.isList (tf r) hz fun t' k=>⟨.str (OQ z ys),H,I.tok k,⟨_,rfl⟩,q⟩
theorem rF {T:String} {b:Bool} {t:M1}:dq X (.builtin "isinstance") (fun xs H Q=>∃ x,xs=[x,.ty T]/\gF X.K H x t/\PJ X.K t (.type T)=some b/\Q (.bl b) H):=by
 intro pins s σ H xs us Q I r h;obtain ⟨x,rfl,ty,k,q⟩:=h;obtain ⟨u,w',rfl,r1,r2⟩:=vals2 r;cases r2;exact pV I r1 ty k fun tk=>⟨.bl b,H,I.tok tk,rfl,q⟩
end
end L2
namespace PySem
namespace F
end F
end PySem
namespace PySem
open Sem (wp)
section
variable {prog:NC} {w:NP} {A:NT} {E:M1->M7->Prop} {s:M7}
end
end PySem
namespace L2
open PySem PySem.Spec PyProof.Rows
section
variable {X:Cx} {e:Od} {te:TE} {p p2 pos yz:Qy}
def Itv (K:MY) (a:M5) (n:Nat):It:=⟨fun i H=>i<n/\∃ xs,SqL K H a xs/\xs.length=n,fun i H x H'=>H'=H/\∀ xs,SqL K H a xs->xs[n - 1 - i]?=some x,fun i _=>i=n⟩
theorem su {P:NC} {w:NP} {K:MY} {tg:Od} (a it:M5) (n:Nat):Turn P w K tg (Itv K a n) [it] it (fun i h=>h.IsRevIter it a ((n:Int) - 1 - (i:Nat))) where
 mem:=by simp
 obj:=fun i h st b hb=>by
  have e:b=it:=by simpa using hb
  subst e;obtain ⟨o,e,c,d⟩:=st;exact ⟨o,e,fun v z=>by rw [d] at z;cases z⟩
 keep:=fun i h h' st k=>st.at fun o e=>k it (by simp) o e
 item:=by
  intro X hP hw hK hc i pins s σ H E I hf st hg;subst hP hw hK;obtain ⟨hi,xs,hq,hx⟩:=hg;obtain ⟨its,rv,p,hz⟩:=I.list hq;have hl:=rv.length;obtain ⟨x,ze⟩:∃ x,xs[n - 1 - i]?=some x:=⟨_,M3 (by omega)⟩;obtain ⟨u,hu,ru⟩:=rv.get ze;obtain ⟨f0,f1,f2,f3,f4,f5⟩:=hf it (by simp);have e1:(n:Int) - 1 - (i:Nat)=((n - 1 - i:Nat):Int):=by omega
  rw [e1] at st;refine wpAny_pyNext_rev_item st p.isList (x:=u) (by simpa using hu) fun h' yp sb=>?_;have I1:Inv X pins σ H { s with heap:=h' }:=I.turned (t':=s.toks) (fun b o hb e=>(sb.2 b hb).trans e) f0 f1 f3 f4 f5;have e2:((n - 1 - i:Nat):Int) - 1=(n:Int) - 1 - ((i+1:Nat):Int):=by omega
  rw [e2] at yp;obtain ⟨o,e,c,d⟩:=id yp;exact ⟨u,rfl,jN (s:={ s with heap:=h' }) e c d (by decide) ⟨x,H,I1,ru,⟨rfl,fun ys hy=>by rw [I.list_inj hy hq];exact ze⟩,yp,fun b hb=>(hf b hb).1⟩⟩
 done:=by
  intro X hP hw hK hc i pins s σ H E I hf st hg;subst hP hw hK;have Be:i=n:=hg;subst Be;obtain ⟨f0,f1,f2,f3,f4,f5⟩:=hf it (by simp);rw [show (i:Int) - 1 - (i:Nat)=-1 by omega] at st;exact wpAny_pyNext_rev_end (I.ok.hd hc) st fun h' eb=>⟨rfl,I.turned (t':=s.toks) (fun b o hb e=>eb b o hb e) f0 f1 f3 f4 f5⟩
 self:=fun _ _ _ _ _ st h=>wpAny_pyIter_revIter st h
def wS (K:MY) (tl:TE):TI:=fun σ H R=>tl σ H fun x H1=>∃ a xs,x=.ref a/\SqL K H1 a xs/\R (Itv K a xs.length) H1
theorem uQ {tg:Od} (g2:Gl X "reversed") (m2:X.mg "reversed"=none) (he:PE X e te) (h2:NV [e] X.env=[(false,Pn e X.env)]:=by rfl):PI X tg (.Call (.Name "reversed" p2) [e] [] yz) (wS X.K te):=by
 intro pins s σ H R I h;refine O7 (gA I g2 m2 boot_reversed (Pd ?_ h2 rfl));rw [h2];show Nv _ _ (spliced ((false,Pn e X.env)::[])) _ _ s;refine O8 (thn (he pins s σ H _ I h) fun u s1 ⟨x,H1,I1,r1,a,ys,ex,hq,q⟩=>P6 ?_);subst ex;cases r1;obtain ⟨its,rv,p,hz⟩:=I1.list hq;have hl:=rv.length;refine call_reversed_list p.isList ?_
 have hit:(s1.heap.push (revObj a ((its.toArray.size:Int) - 1))).IsRevIter s1.heap.objs.size a ((ys.length:Int) - 1 - ((0:Nat):Int)):=by
  rw [hl,show (its.length:Int) - 1 - ((0:Nat):Int)=(its.toArray.size:Int) - 1 by rw [M9];omega];exact ⟨_,Nf _ rfl,rfl,rfl⟩
 refine wpAny_pyIter_revIter (s:={ s1 with heap:=s1.heap.push (revObj a ((its.toArray.size:Int) - 1)) }) hit ?_;refine ⟨s1.heap.objs.size,[s1.heap.objs.size],_,_,H1,rfl,I1.kept (t':=s1.toks) fun b o e=>M6 _ e,su a _ ys.length,hit,fun b hb=>?_,q⟩;have e:b=s1.heap.objs.size:=by simpa using hb
 subst e;exact I1.fpOk (M8 _) (I1.hok.fresh (M8 _))
theorem tN {K:MY} {a:M5} {xs:List V} {g:TG} {tb:TS} {D:Ends} {σ:St} {H:Hp} (Pv:Nat->St->Hp->Prop) (h0:Pv 0 σ H) (hl:∀ i σ H,i<=xs.length->Pv i σ H->SqL K H a xs)
 (hs:∀ i x σ H,i<xs.length->xs[xs.length - 1 - i]?=some x->Pv i σ H->g x σ H fun xD H2=>tb { D with nx:=Pv (i+1),ct:=Pv (i+1),bk:=D.nx } xD H2) (hd:∀ σ H,Pv xs.length σ H->D.nx σ H) :
 ∃ W:Nat->Nat->St->Hp->Prop,(∃ m,W 0 m σ H)/\∀ i m σ H,W i m σ H →
   ((Itv K a xs.length).stop i H/\D.nx σ H)∨((Itv K a xs.length).go i H/\∃ N:St->Hp->Prop,(∀ f' H',N f' H'->∃ m',m'<m/\W (i+1) m' f' H')/\∀ x H',(Itv K a xs.length).yld i H x H'->g x σ H' fun xD H2=>tb { D with nx:=N,ct:=N,bk:=D.nx } xD H2):=by
 refine ⟨fun i m σ H=>i<=xs.length/\m=xs.length - i/\Pv i σ H,⟨xs.length,N2 _,rfl,h0⟩,?_⟩;rintro i m σ H ⟨hi,rfl,p⟩;by_cases h:i=xs.length
 · left;exact ⟨h,hd σ H (by rw [<- h];exact p)⟩
 · right;have yT:i<xs.length:=by omega
   refine ⟨⟨yT,xs,hl i σ H hi p,rfl⟩,Pv (i+1),fun f' H' q=>⟨xs.length - (i+1),by omega,by omega,rfl,q⟩,?_⟩;rintro x H' ⟨rfl,hx⟩;exact hs i x σ H' yT (hx xs (hl i σ H' hi p)) p
end
end L2
namespace BB
open PySem L2
inductive Th where
 | knot (n:Nd) (ks:List Th)
 | call (s k:Int)
def q:Nd:=MW "?"
def Th.kids:Th->List Th
 | .knot _ ks=>ks
 | .call _ _=>[]
mutual
def Th.size:Th->Nat
 | .knot _ ks=>aG ks+1
 | .call _ _=>1
def aG:List Th->Nat
 | []=>0
 | t::ts=>t.size+aG ts
end
mutual
def Th.tall:Th->Nat
 | .knot _ ks=>br ks+1
 | .call _ _=>1
def br:List Th->Nat
 | []=>0
 | t::ts=>max t.tall (br ts)
end
mutual
/-- by places Cg -/
def Th.walk:Th->List Th
 | .knot n ks=>.knot n ks::walks ks
 | .call s k=>[.call s k]
def walks:List Th->List Th
 | []=>[]
 | t::ts=>t.walk++walks ts
end
theorem Th.walk_eq (t:Th):t.walk=t::walks t.kids:=by
 cases t with
 | knot n ks=>rw [Th.walk];rfl
 | call s k=>rw [Th.walk];simp [Th.kids,walks]
theorem Th.size_eq (t:Th):t.size=aG t.kids+1:=by
 cases t with
 | knot n ks=>rw [Th.size];rfl
 | call s k=>rw [Th.size];simp [Th.kids,aG]
theorem Th.tall_eq (t:Th):t.tall=br t.kids+1:=by
 cases t with
 | knot n ks=>rw [Th.tall];rfl
 | call s k=>rw [Th.tall];simp [Th.kids,br]
theorem gW:∀ a b:List Th,walks (a++b)=walks a++walks b
 | [],b=>by simp [walks]
 | t::a,b=>by rw [NG,walks,walks,gW a b,Nr]
theorem bq:∀ a b:List Th,aG (a++b)=aG a+aG b
 | [],b=>by simp [aG]
 | t::a,b=>by rw [NG,aG,aG,bq a b,Nat.add_assoc]
mutual
theorem Th.walk_len:∀ t:Th,t.walk.length=t.size
 | .knot n ks=>by rw [Th.walk,Th.size,MZ,iy ks]
 | .call s k=>by rw [Th.walk,Th.size];rfl
theorem iy:∀ ts:List Th,(walks ts).length=aG ts
 | []=>rfl
 | t::ts=>by rw [walks,aG,Na,t.walk_len,iy ts]
end
theorem Th.size_pos (t:Th):1<=t.size:=by rw [t.size_eq];omega
mutual
def At (H:Hp):Th->M5->Prop
 | .knot n ks,a=>n≠q/\∃ as:List M5,H a=some (.tup (.str n::as.map V.ref))/\Ats H ks as
 | .call s k,a=>H a=some (.tup [.str q,.int s,.int k])
def Ats (H:Hp):List Th->List M5->Prop
 | [],as=>as=[]
 | t::ts,as=>∃ a r,as=a::r/\At H t a/\Ats H ts r
end
def KT (H H':Hp):Prop:=∀ b xs,H b=some (.tup xs)->H' b=some (.tup xs)
theorem KT.trans {H H1 H2:Hp} (a:KT H H1) (b:KT H1 H2):KT H H2:=fun c o h=>b c o (a c o h)
theorem Same.kt {H H':Hp} (h:L2.Same H H'):KT H H':=fun b xs e=>h b _ e
theorem mw {H:Hp} {l:M5} {o:HO} (h:H l=none):KT H (upd H l o):=fun b xs e=>by rw [aq (aK e h)];exact e
theorem bB {H:Hp} {l:M5} {o:HO} {xs:List V} (h:H l=some (.lst xs)):KT H (upd H l o):=fun b ys e=>by rw [aq (uz e h (by intro z;cases z))];exact e
mutual
theorem At.mono {H H':Hp} (k:KT H H'):∀ {t:Th} {a:M5},At H t a->At H' t a
 | .knot n ks,a,h=>by
   rw [At] at h ⊢;obtain ⟨h0,as,h1,h2⟩:=h;exact ⟨h0,as,k _ _ h1,Ats.mono k h2⟩
 | .call s c,a,h=>by
   rw [At] at h ⊢;exact k _ _ h
theorem Ats.mono {H H':Hp} (k:KT H H'):∀ {ts:List Th} {as:List M5},Ats H ts as->Ats H' ts as
 | [],as,h=>by rw [Ats] at h ⊢;exact h
 | t::ts,as,h=>by
   rw [Ats] at h ⊢;obtain ⟨a,r,e,h1,h2⟩:=h;exact ⟨a,r,e,At.mono k h1,Ats.mono k h2⟩
end
theorem Ats.nil {H:Hp}:Ats H [] []:=by rw [Ats]
theorem Ats.cons {H:Hp} {t:Th} {ts:List Th} {a:M5} {as:List M5} (h1:At H t a) (h2:Ats H ts as):Ats H (t::ts) (a::as):=by rw [Ats];exact ⟨a,as,rfl,h1,h2⟩
theorem Ats.append {H:Hp}:∀ {ts us:List Th} {as bs:List M5},Ats H ts as->Ats H us bs->Ats H (ts++us) (as++bs)
 | [],us,as,bs,h,g=>by rw [Ats] at h;subst h;exact g
 | t::ts,us,as,bs,h,g=>by
   rw [Ats] at h;obtain ⟨a,r,rfl,h1,h2⟩:=h;exact .cons h1 (h2.append g)
theorem Ats.length {H:Hp}:∀ {ts:List Th} {as:List M5},Ats H ts as->as.length=ts.length
 | [],as,h=>by rw [Ats] at h;subst h;rfl
 | t::ts,as,h=>by
   rw [Ats] at h;obtain ⟨a,r,rfl,h1,h2⟩:=h;rw [MZ,MZ,h2.length]
theorem Ats.reverse {H:Hp}:∀ {ts:List Th} {as:List M5},Ats H ts as->Ats H ts.reverse as.reverse
 | [],as,h=>by rw [Ats] at h;subst h;exact .nil
 | t::ts,as,h=>by
   rw [Ats] at h;obtain ⟨a,r,rfl,h1,h2⟩:=h;rw [Oq,Oq];exact h2.reverse.append (.cons h1 .nil)
theorem Ats.get {H:Hp}:∀ {ts:List Th} {as:List M5} {i:Nat} {a:M5},Ats H ts as->as[i]?=some a->∃ t,ts[i]?=some t/\At H t a
 | [],as,i,a,h,e=>by rw [Ats] at h;subst h;simp at e
 | t::ts,as,i,a,h,e=>by
   rw [Ats] at h;obtain ⟨b,r,rfl,h1,h2⟩:=h;cases i with
   | zero=>simp at e;subst e;exact ⟨t,rfl,h1⟩
   | succ i=>exact h2.get (i:=i) (by simpa using e)
theorem Ats.snoc_inv {H:Hp} {ts:List Th} {as:List M5} {a:M5} (h:Ats H ts (as++[a])):∃ us t,ts=us++[t]/\Ats H us as/\At H t a:=by
 have r:=h.reverse;rw [QK,List.reverse_singleton,List.singleton_append] at r;cases e:ts.reverse with
 | nil=>rw [e,Ats] at r;cases r
 | cons t us =>
   rw [e,Ats] at r;obtain ⟨b,z,e1,h1,h2⟩:=r;cases e1;refine ⟨us.reverse,t,?_,?_,h1⟩
   · rw [<- Oq,<- e,P4]
   · have:=h2.reverse;rw [P4] at this;exact this
theorem At.tup {H:Hp} {t:Th} {a:M5} (h:At H t a):∃ n r,H a=some (.tup (.str n::r)):=by
 cases t with
 | knot n ks=>rw [At] at h;obtain ⟨_,as,h1,_⟩:=h;exact ⟨n,_,h1⟩
 | call s k=>rw [At] at h;exact ⟨q,_,h⟩
end BB
namespace BB
open PySem L2
def comma:Nd:=MW ","
def lpar:Nd:=MW "("
def rpar:Nd:=MW ")"
end BB
namespace BB
open PySem L2
def cO:Nd:=MW "abcdefghijklmnopqrstuvwxyz"
theorem pd:cO.cps.toList=(NU 26).map (97+·):=by decide +kernel
theorem jc:cO.length=26:=by decide +kernel
theorem at_nonneg {α:Type} {xs:List α} {i:Int} {v:α} (h0:0<=i) (h:xs[i.toNat]?=some v):atI xs i=some v:=by
 have e:i=((i.toNat:Nat):Int):=by omega
 rw [e];exact gT h
theorem lf {i:Int} (h0:0<=i) (h1:i<26):atI cO.cps.toList i=some (97+i.toNat):=by
 refine at_nonneg h0 ?_;rw [pd,Nq,Ry (by omega)];rfl
theorem qq:∀ i<26,Builtin.Str.occurrences cO ⟨#[97+i]⟩ 0 cO.length 1=[i]:=by decide +kernel
def ey (r:Int) (k:Nat):List Nat:=(NU k).map fun j=>97+((r / 26 ^ j)%26).toNat
def bZ (r:Int) (k:Nat):Nd:=⟨(ey r k).toArray⟩
theorem qs (r:Int) (k:Nat):(ey r k).length=k:=by unfold ey;rw [MX,OH]
theorem cq (r:Int) (k:Nat):(bZ r k).length=k:=by show (ey r k).toArray.size=k;rw [M9,qs]
theorem o9 (r:Int) (k:Nat):ey r (k+1)=ey r k++[97+((r / 26 ^ k)%26).toNat]:=by unfold ey;rw [List.range_succ,Nw];rfl
theorem oZ (r:Int) (k:Nat):bZ r (k+1)=bZ r k++⟨#[97+((r / 26 ^ k)%26).toNat]⟩:=by
 show (⟨(ey r (k+1)).toArray⟩:Nd)=⟨(ey r k).toArray++#[97+((r / 26 ^ k)%26).toNat]⟩;rw [o9];simp
def Low (x:Nd):Prop:=∀ c∈x.cps.toList,97<=c/\c<=122
theorem qB (r:Int) (k:Nat):∀ c∈ey r k,97<=c/\c<=122:=by
 intro c hc;obtain ⟨j,_,rfl⟩:=O3.mp hc;have:=Oh (r / 26 ^ j) (by decide:(26:Int)≠0);have:=Om (r / 26 ^ j) (by decide:(0:Int)<26);omega
theorem lU {x:Nd} (h:Low x) (lo hi:Option Int):Low (dO x lo hi):=by
 intro c hc;have yE:c∈jo x.cps.toList lo hi:=by simpa [dO] using hc
 exact h c (List.mem_of_mem_drop (List.mem_of_mem_take yE))
theorem pH {x y:Nd} (hx:Low x) (hy:Low y):Low (x++y):=by
 intro c hc;have yE:c∈(x.cps++y.cps).toList:=hc;rw [OG,NF] at yE;rcases yE with h | h
 · exact hx c h
 · exact hy c h
theorem t5 {c:Nat} (h1:97<=c) (h2:c<=122):Low ⟨#[c]⟩:=by
 intro d hd;have:d=c:=by simpa using hd
 omega
def dm (base:Int):Int:=1+base / 2%8
def nAt (base:Int):Int:=base / 16%7%dm base
def jb (base n:Int):Nat:=97+(((((base / 112) / 26 ^ (nAt base).toNat)%26).toNat+n)%26).toNat
def nameOf (base n:Int):Nd :=
 if base%2=1 then dO (bZ (base / 112) 8) none (some (n+1))
 else dO (bZ (base / 112) 8) none (some (nAt base))++⟨#[jb base n]⟩++dO (bZ (base / 112) 8) (some (nAt base+1)) (some (dm base))
theorem iu (base:Int):1<=dm base/\dm base<=8:=by
 have:=Oh (base / 2) (by decide:(8:Int)≠0);have:=Om (base / 2) (by decide:(0:Int)<8);unfold dm;omega
theorem rP (base:Int):0<=nAt base/\nAt base<dm base:=by
 have:=iu base;unfold nAt;exact ⟨Oh _ (by omega),Om _ (by omega)⟩
theorem lv (base n:Int):97<=jb base n/\jb base n<=122:=by
 unfold jb;have h1:=Oh (((((base / 112) / 26 ^ (nAt base).toNat)%26).toNat:Int)+n) (by decide:(26:Int)≠0);have h2:=Om (((((base / 112) / 26 ^ (nAt base).toNat)%26).toNat:Int)+n) (by decide:(0:Int)<26);omega
theorem jO (base:Int):Low (bZ (base / 112) 8):=by
 intro c hc;exact qB _ _ c (by simpa [bZ] using hc)
theorem o7 (base n:Int):Low (nameOf base n):=by
 unfold nameOf;split
 · exact lU (jO base) _ _
 · exact pH (pH (lU (jO base) _ _) (t5 (lv base n).1 (lv base n).2)) (lU (jO base) _ _)
theorem gJ (z:Nd) (lo hi:Option Int):(dO z lo hi).length=min (HT.sIx z.length z.length hi - HT.sIx z.length 0 lo) (z.length - HT.sIx z.length 0 lo):=by
 show (jo z.cps.toList lo hi).toArray.size=_;unfold jo;rw [M9,Og,N9,Nm];rfl
theorem oF (base n:Int):(nameOf base n).length<=8:=by
 unfold nameOf;split
 · have:=dw (bZ (base / 112) 8) none (some (n+1));rw [cq] at this;exact this
 · have h1:=iu base;have h2:=rP base;rw [M4,M4,gJ,gJ,cq]
   have e1:HT.sIx 8 8 (some (nAt base))=(nAt base).toNat:=by
    show (if nAt base<0 then _ else min (nAt base).toNat 8)=_;rw [if_neg (by omega)];omega
   have e2:HT.sIx 8 0 (some (nAt base+1))=(nAt base+1).toNat:=by
    show (if nAt base+1<0 then _ else min (nAt base+1).toNat 8)=_;rw [if_neg (by omega)];omega
   have e3:HT.sIx 8 8 (some (dm base))=(dm base).toNat:=by
    show (if dm base<0 then _ else min (dm base).toNat 8)=_;rw [if_neg (by omega)];omega
   have e4:HT.sIx 8 0 none=0:=rfl;have e5:(⟨#[jb base n]⟩:Nd).length=1:=rfl;rw [e1,e2,e3,e4,e5];omega
end BB
namespace L2
open PySem PySem.Spec PyProof.Rows
theorem Same.seqT {K:MY} {H H':Hp} {a:M5} {xs:List V} (e:Same H H') (h:SqT K H a xs):SqT K H' a xs:=by
 rcases h with (h | ⟨o,h⟩) | h
 · exact .inl (.inl (e _ _ h))
 · exact .inl (.inr ⟨o,e _ _ h⟩)
 · exact .inr h
theorem aj {H:Hp} {p:M5} (h:H p=none) (o:HO):Same H (upd H p o):=fun b u q=>by rw [aq (aK q h)];exact q
theorem aN {H H1:Hp} {l:M5} {o:HO} (h:Same H H1) (n:H l=none):Same H (upd H1 l o):=fun b u e=>by rw [aq (aK e n)];exact h b u e
theorem pC {α:Type} {js:List (Option Nat)} {tt:TT} {te:TE} {σ:St} {J:It} {H:Hp} {xs:List V} {fin:M5->Hp->Prop} (zs:List α) (p:α->Bool) (f:α->V) (hz:zs.length=xs.length) (hn:xs.length<=1000000)
 (BO:∀ i H2,Same H H2->i<xs.length->J.go i H2) (yA:∀ H2,Same H H2->J.stop xs.length H2) (Ab:∀ (i:Nat) H2 x H3,Same H H2->i<xs.length->J.yld i H2 x H3->H3=H2/\xs[i]?=some x)
 (Fv:∀ (i:Nat) x z H2 (R:Bool->Hp->Prop),xs[i]?=some x->zs[i]?=some z->Same H H2->R (p z) H2->tt ((cσ js σ).set 0 (some x)) H2 R)
 (Fw:∀ (i:Nat) x z H2 (R:VK),xs[i]?=some x->zs[i]?=some z->p z=true->Same H H2->R (f z) H2->te ((cσ js σ).set 0 (some x)) H2 R)
 (q:∀ D,H D=none->fin D (upd H D (.lst ((zs.filter p).map f)))) :
 ∀ D,H D=none->∃ (n:Nat) (W:Nat->Hp->Prop),W 0 (upd H D (.lst []))/\dU js (aE 0) tt te σ J D n W fun H'=>fin D H':=by
 intro D hD;refine ⟨xs.length,fun i H2=>i<=xs.length/\H2=upd H D (.lst (((zs.take i).filter p).map f)),⟨N2 _,by simp⟩,?_⟩;rintro i H2 ⟨hi,rfl⟩;have sm:∀ o,Same H (upd H D o):=fun o=>aj hD o;by_cases h:i=xs.length
 · left;subst h;refine ⟨yA _ (sm _),?_⟩;rw [<- hz,QB];exact q D hD
 · right;have yT:i<xs.length:=by omega
   refine ⟨yT,BO i _ (sm _) yT,fun x H1 hy=>?_⟩;obtain ⟨rfl,hx⟩:=Ab i _ x H1 (sm _) yT hy;have JX:i<zs.length:=by omega
   have e1:zs[i]?=some zs[i]:=M3 JX
   have e2:(zs.take (i+1)).filter p=(zs.take i).filter p++(if p zs[i]=true then [zs[i]] else []):=by
    rw [Qp,e1,List.filter_append];show _++List.filter p [zs[i]]=_;rw [QC,List.filter_nil]
   refine Fv i x zs[i] _ _ hx e1 (sm _) ?_
   have hlen:(((zs.take i).filter p).map f).length<=1000000:=by
    rw [MX];have:=List.length_filter_le p (zs.take i);rw [Og] at this;omega
   by_cases hp:p zs[i]=true
   · rw [if_pos hp];refine Fw i x zs[i] _ _ hx e1 hp (sm _) ⟨_,ac,RE hlen (by decide),yT,?_⟩;rw [tD,e2,if_pos hp,Nw];rfl
   · rw [if_neg hp];refine ⟨yT,?_⟩;rw [e2,if_neg hp,Nz]
theorem gR {α:Type} {K:MY} {a:M5} {js:List (Option Nat)} {tt:TT} {te:TE} {σ:St} {H:Hp} {xs:List V} {fin:M5->Hp->Prop} (zs:List α) (p:α->Bool) (f:α->V) (hS:SqL K H a xs) (hz:zs.length=xs.length) (hn:xs.length<=1000000)
 (Fv:∀ (i:Nat) x z H2 (R:Bool->Hp->Prop),xs[i]?=some x->zs[i]?=some z->Same H H2->R (p z) H2->tt ((cσ js σ).set 0 (some x)) H2 R)
 (Fw:∀ (i:Nat) x z H2 (R:VK),xs[i]?=some x->zs[i]?=some z->p z=true->Same H H2->R (f z) H2->te ((cσ js σ).set 0 (some x)) H2 R)
 (q:∀ D,H D=none->fin D (upd H D (.lst ((zs.filter p).map f)))) :
 ∀ D,H D=none->∃ (n:Nat) (W:Nat->Hp->Prop),W 0 (upd H D (.lst []))/\dU js (aE 0) tt te σ (Itl K a) D n W fun H'=>fin D H' :=
 pC zs p f hz hn (fun i H2 s hi=>⟨xs,xs[i],s.seq hS,M3 hi⟩) (fun H2 s=>⟨xs,s.seq hS,M8 _⟩) (fun i H2 x H3 s hi hy=>⟨hy.1,hy.2 xs (s.seq hS)⟩) Fv Fw q
end L2
namespace BB
open PySem L2
theorem at0 {α:Type} {x:α} {xs:List α}:atI (x::xs) 0=some x:=gT (j:=0) rfl
theorem at1 {α:Type} {x y:α} {xs:List α}:atI (x::y::xs) 1=some y:=gT (j:=1) rfl
theorem at2 {α:Type} {x y z:α} {xs:List α}:atI (x::y::z::xs) 2=some z:=gT (j:=2) rfl
theorem jG (x:V) (xs:List V):eF (x::xs) (some 1) none=xs:=by
 unfold eF;simp [HT.sIx]
theorem cU:∀ ts:List Th,ts.length<=aG ts
 | []=>N2 _
 | t::ts=>by
   have:=t.size_pos;have:=cU ts;rw [MZ,aG];omega
theorem lG (ts:List Th):aG ts.reverse=aG ts:=by
 induction ts with
 | nil=>rfl
 | cons x xs ih=>rw [Oq,bq,ih,aG,aG,aG];omega
theorem bh {n:Nat} (h:n<=1000000):n<Ny:=RE h (by decide)
theorem ai {n:Nat} (h:n<=1000000):n<=Ny:=Qn (bh h)
end BB
namespace BB
open PySem L2
section
variable {α β:Type} {F G:α->β->Prop}
theorem P2.append:∀ {a c:List α} {b d:List β},NY F a b->NY F c d->NY F (a++c) (b++d)
 | _,_,_,_,.nil,h=>h
 | _,_,_,_,.cons r t,h=>.cons r (P2.append t h)
theorem P2.get:∀ {a:List α} {b:List β} {i:Nat} {x:α},NY F a b->a[i]?=some x->∃ y,b[i]?=some y/\F x y
 | _,_,_,_,.nil,e=>by simp at e
 | _,_,0,_,.cons r _,e=>by simp at e;subst e;exact ⟨_,rfl,r⟩
 | _,_,i+1,x,.cons _ t,e=>by
   obtain ⟨u,h1,h2⟩:=P2.get (i:=i) (x:=x) t (by simpa using e);exact ⟨u,by simpa using h1,h2⟩
theorem P2.get':∀ {a:List α} {b:List β} {i:Nat} {y:β},NY F a b->b[i]?=some y->∃ x,a[i]?=some x/\F x y
 | _,_,_,_,.nil,e=>by simp at e
 | _,_,0,_,.cons r _,e=>by simp at e;subst e;exact ⟨_,rfl,r⟩
 | _,_,i+1,y,.cons _ t,e=>by
   obtain ⟨u,h1,h2⟩:=P2.get' (i:=i) (y:=y) t (by simpa using e);exact ⟨u,by simpa using h1,h2⟩
theorem P2.drop:∀ {a:List α} {b:List β} (n:Nat),NY F a b->NY F (a.drop n) (b.drop n)
 | _,_,0,r=>r
 | _,_,_+1,.nil=>.nil
 | _,_,n+1,.cons _ t=>P2.drop n t
theorem P2.mp (f:∀ x y,F x y->G x y):∀ {a:List α} {b:List β},NY F a b->NY G a b
 | _,_,.nil=>.nil
 | _,_,.cons r t=>.cons (f _ _ r) (P2.mp f t)
end
def KAt (H:Hp) (k:Nd×Int) (a:M5):Prop:=H a=some (.tup [.str k.1,.int k.2])
def KsAt (H:Hp) (ks:List (Nd×Int)) (as:List M5):Prop:=NY (KAt H) ks as
theorem KsAt.mono {H H':Hp} (k:KT H H') {ks:List (Nd×Int)} {as:List M5} (h:KsAt H ks as):KsAt H' ks as:=P2.mp (fun x y e=>k _ _ e) h
end BB
namespace L2
open PySem
theorem aH {t u:TS} {D:Ends} {σ:St} {H:Hp} (R:St->Hp->Prop) (h1:∀ k:St->Hp->Prop,(∀ f' H',R f' H'->k f' H')->t { D with nx:=k } σ H) (h2:∀ f' H',R f' H'->u D f' H'):vp t u D σ H:=h1 _ h2
theorem jX {c:TT} {t u:TS} {D:Ends} {σ:St} {H:Hp} (R:Bool->Hp->Prop) (h1:∀ k:Bool->Hp->Prop,(∀ b H',R b H'->k b H')->c σ H k) (h2:∀ H',R true H'->t D σ H') (h3:∀ H',R false H'->u D σ H'):v0 c t u D σ H :=
 h1 _ fun b H' r=>by
  cases b with
  | true=>rw [if_pos rfl];exact h2 H' r
  | false=>rw [if_neg Nt];exact h3 H' r
end L2
namespace BB
open PySem L2
section
variable {ext:Th->List V} {H H':Hp} {t:Th} {a:M5} {ts:List Th} {es:List M5}
end
theorem nJ:∀ {ts:List Th} {t:Th},t∈ts->t.tall<=br ts
 | u::ts,t,h=>by
   rw [br];rcases Nb.mp h with rfl | h
   · omega
   · have:=nJ h;omega
theorem lF {xs:List V} {n:Nat} (h:n<=xs.length):eF xs (some (n:Int)) none=xs.drop n:=by
 unfold eF;rw [HT.sIx_nat,HT.sIx_none,Rh h];exact N1 (by rw [N9];exact M8 _)
theorem take_snoc {α:Type} {xs:List α} {n:Nat} {x:α} (h:xs[n]?=some x):xs.take (n+1)=xs.take n++[x]:=by rw [Qp,h];rfl
theorem bP {xs:List M5} {i:Nat} {x:V} (h:(xs.map V.ref)[i]?=some x):∃ a,x=.ref a/\xs[i]?=some a:=by
 rw [Nq] at h;obtain ⟨a,h1,h2⟩:=Oj.mp h;exact ⟨a,h2.symm,h1⟩
end BB
namespace PySem
open Sem (wp)
section
variable {prog:NC} {w:NP} {A:NT} {E:M1->M7->Prop} {s:M7}
theorem bb_tupNext {cur tp:M5} {i:Nat} {items:Array M1} {x:M1} {Q:M1->M7->Prop} (g:s.heap.IsTupleIter cur tp i) (gt:s.heap.IsTuple tp items) (hx:items[i]?=some x)
 (fin:∀ h',h'.IsTupleIter cur tp (i+1)->PZ cur s.heap h'->Q x { s with heap:=h' }):Nv (NI prog w) A (N6 (.ref cur)) Q E s:=by
 obtain ⟨ob,e1,e2,e3⟩:=id g;obtain ⟨ot,e4,_,nt,e5⟩:=gt;unfold N6;refine M0 (Pe (name:=MW "__next__") g.typeIs Qe (Qh Qe g.typeIs F.entry_tuple_iterator_next ?_ (F.args_tuple_iterator_next_1 _)));show Nv _ _ (field (.ref cur) 0 >>= _) _ _ s;refine M0 (Of e1 e3 (x:=.ref tp) rfl ?_);show Nv _ _ (if (OB tp == PK)=true then _ else _) _ _ s;rw [if_neg (show ¬ ((OB tp == PK)=true) from Nt)];show Nv _ _ (field (.ref cur) 1 >>= _) _ _ s;refine M0 (Of e1 e3 (x:=.int i 0) rfl ?_);show Nv _ _ (seqItems? (.ref tp) >>= _) _ _ s;refine M0 (Pu e4 e5 ?_);simp only [NW,hx];refine M0 (wpAny_setField e1 e3 (by simp) (Nk ⟨x,rfl,Nk (fin _ ?_ (Heap.SameBut.update ..))⟩));exact ⟨_,Heap.get?_update_self _ e1 (Obj.isFreed_of_fields (Obj.data_mapFields e3 _)),(Obj.cls_mapFields ..).trans e2,by rw [Obj.data_mapFields e3];simp [RK]⟩
theorem bb_tupEnd {cur tp:M5} {i:Nat} {items:Array M1} {Q:M1->M7->Prop} (calm:A.handled=none) (g:s.heap.IsTupleIter cur tp i) (gt:s.heap.IsTuple tp items) (hx:items[i]?=none)
 (fin:∀ h' e,Heap.ExtBut cur s.heap h'->(∃ o,h'.get? e=some o/\o.cls=.type "StopIteration")->E (.ref e) { s with heap:=h' }):Nv (NI prog w) A (N6 (.ref cur)) Q E s:=by
 obtain ⟨ob,e1,e2,e3⟩:=id g;obtain ⟨ot,e4,_,nt,e5⟩:=gt;unfold N6;refine M0 (Pe (name:=MW "__next__") g.typeIs Qe (Qh Qe g.typeIs F.entry_tuple_iterator_next ?_ (F.args_tuple_iterator_next_1 _)));show Nv _ _ (field (.ref cur) 0 >>= _) _ _ s;refine M0 (Of e1 e3 (x:=.ref tp) rfl ?_);show Nv _ _ (if (OB tp == PK)=true then _ else _) _ _ s;rw [if_neg (show ¬ ((OB tp == PK)=true) from Nt)];show Nv _ _ (field (.ref cur) 1 >>= _) _ _ s;refine M0 (Of e1 e3 (x:=.int i 0) rfl ?_);show Nv _ _ (seqItems? (.ref tp) >>= _) _ _ s;refine M0 (Pu e4 e5 ?_);simp only [NW,hx];refine M0 (wpAny_rule (M0 (wpAny_setField e1 e3 (by simp) ?_)));show Nv _ _ (newExc (.type "StopIteration") [] >>= _) _ _ _;refine M0 ?_;simp only [newExc,newTuple];refine M0 (OA ?_ (by size_fits));refine M0 (m:=firstArgMember _ _) (wpAny_of_eq (a:=PK) (by first | rfl | (simp only [firstArgMember];rfl)) ?_);refine OA ?_ (by size_fits);simp only [raiseNew];refine M0 (wpAny_handled ?_)
 first | rw [show A.in1.handled=none from calm] | rw [calm]
 refine M0 (Nk (wpAny_throw ?_));exact fin _ _ (((Heap.SameBut.update ..).extBut.push _).push _) ⟨_,Nf _ rfl,rfl⟩
end
section
variable {prog:NC} {w:NP} {A:NT} {E:M1->M7->Prop} {s:M7}
end
end PySem
namespace L2
open PySem PySem.Spec PyProof.Rows
theorem Inv.turnedL {X:Cx} {pins:List (M5×Pb)} {σ:St} {H:Hp} {s:M7} {h':Oo} {t':Nat} {fp:List M5} (I:Inv X pins σ H s) (k:∀ b o,b∉fp->s.heap.get? b=some o->h'.get? b=some o) (hf:∀ b∈fp,gB X pins H b) :
 Inv X pins σ H { s with heap:=h',toks:=t' }:=by
 have CL:∀ b u,H b=some u->b∉fp:=fun b u e z=>by rw [(hf b z).1] at e;cases e
 refine I.step (g':=s.gens) (d':=s.drawn) (ch:=fp) (fun b hb=>?_) (fun b o _ _ hc e _=>k b o hc e) (fun b o _ _ hc e _=>⟨o.slots,k b o hc e⟩) (fun _ _ _ _ n=>n)
  (fun b o hc e=>⟨o,k b o hc e⟩) (fun _ _ e=>e) (fun _ _ _ e=>e) (fun b ps e=>⟨#[],by rw [e];simp⟩) (fun m hm=>?_) (fun b u e=>?_) I.bare
 · obtain ⟨f0,f1,f2,f3,f4,f5⟩:=hf b hb;exact ⟨f3,f1,f4,f5⟩
 · obtain ⟨o,es,ep,ho,r⟩:=hm;exact ⟨o,es,ep,k _ o (fun z=>(hf _ z).2.1 rfl) ho,r⟩
 · refine (I.hok b u e).stay (fun c v hc q=>k c v ?_ q) (fun _ q=>q) fun _ _ q=>q;rcases hc with z | z
   · rw [z];exact CL b u e
   · exact CL c _ z
section
variable {X:Cx} {e:Od} {te:TE} {p2 yz:Qy}
inductive rN (K:MY) (x:V) (y:V) (H:Hp) (Q:VK):Prop
 | mk (a:_) (b:_) (xs:_) (ys:_) (xB:x=.ref a) (xC:y=.ref b) (xG:SqT K H a xs) (xT:SqT K H b ys) (yu:xs.length+ys.length<=Ny) (zk:(xs=[]->Q (.ref b) H)) (Bf:(xs≠[]->ys=[]->Q (.ref a) H)) (Eu:(xs≠[]->ys≠[]->∀ p,H p=none->Q (.ref p) (upd H p (.tup (xs++ys))))):rN K x y H Q
def uo (K:MY):R2:=rN K
theorem tz:OpR X (Qk .Add) (uo X.K):=by
 intro pins s σ H x y v u Q I rx ry h;obtain ⟨a,b,xs,ys,e1,e2,ha,hb,hz,q0,q1,q2⟩:=h;by_cases hx:xs=[]
 · subst e1 e2;cases rx;cases ry;obtain ⟨its,r1,p1,_⟩:=I.tuple ha;obtain ⟨xx,r2,p2,_⟩:=I.tuple hb;have hi:its=[]:=r1.nil_iff.mpr hx;obtain ⟨⟨cls,dd,data,sl⟩,ho,hc,n,hd⟩:=p1;obtain ⟨⟨CU,Ce,data2,Cf⟩,BJ,AL,n2,hd2⟩:=p2;simp only at hc hd AL hd2;subst hc hd AL hd2;exact concat_meets ⟨_,ho,rfl⟩ ⟨_,BJ,rfl⟩ noFill_tuple_add seq_tuple_add Q7 Q3 (QY _ _) (tuple_addW0 a b its.toArray xx.toArray n n2 dd Ce sl Cf (by simp [hi])) ⟨ho,BJ,⟨.ref b,H,I,rfl,q0 hx⟩⟩
 · exact tV pins s σ H x y v u Q I rx ry ⟨a,b,xs,ys,e1,e2,ha,hb,hx,hz,q1 hx,q2 hx⟩
end
end L2
namespace PySem
open Sem (wp)
abbrev tzH1 (h:Oo) (l1:M5):Oo:=h.push { cls:=.type "tuple_iterator",data:=.fields #[.ref l1,.int 0 0] }
abbrev tzH2 (h:Oo) (l1 l2:M5):Oo:=(tzH1 h l1).push { cls:=.type "tuple_iterator",data:=.fields #[.ref l2,.int 0 0] }
abbrev tzH3 (h:Oo) (l1 l2:M5):Oo:=(tzH2 h l1 l2).push { cls:=.type "tuple",data:=.seq #[.ref h.objs.size,.ref (tzH1 h l1).objs.size] }
abbrev tzH4 (h:Oo) (l1 l2:M5):Oo:=(tzH3 h l1 l2).push { cls:=.type "tuple",data:=.seq #[.none,.none] }
abbrev tzH5 (h:Oo) (l1 l2:M5):Oo:=(tzH4 h l1 l2).push { cls:=.type "zip",data:=.fields #[.none,.bool false,.bool false,.ref (tzH2 h l1 l2).objs.size,.ref (tzH3 h l1 l2).objs.size] }
theorem IsTuple.push' {h:Oo} {l:M5} {xs:Array M1} (x:h.IsTuple l xs) (o:Pb):(h.push o).IsTuple l xs:=let ⟨ob,e,r⟩:=x;⟨ob,M6 _ e,r⟩
theorem bb_meets_zip (l1 l2:M5) (xs ys:Array M1) :
 Meets (Builtin.«zip.__new__» ⟨[.type "zip",.ref l1,.ref l2],[]⟩) (fun _ R s=>s.heap.IsTuple l1 xs/\s.heap.IsTuple l2 ys ∧
  R (.ok (.ret (.ref (tzH4 s.heap l1 l2).objs.size))) { s with heap:=tzH5 s.heap l1 l2 }) :=
 .of_wp fun prog w A R s h=>by
  obtain ⟨hp,g,d,tk,os⟩:=s;obtain ⟨yq,yd,h⟩:=h;have yM:=sub_zip;have JY:Heap.IsTuple (Shared.heap ⟨hp,g,d,tk,os⟩) l1 xs:=yq;have JZ:Heap.IsTuple (Shared.heap ⟨hp.push { cls:=.type "tuple_iterator",data:=.fields #[.ref l1,.int 0 0] },g,d,tk,os⟩) l2 ys:=IsTuple.push' yd _
  wp_walk using Q2 JY,Q2 JZ
  exact ⟨_,rfl,h⟩
section
variable {prog:NC} {w:NP} {A:NT} {E:M1->M7->Prop} {s:M7}
theorem bb_call_zip {l1 l2:M5} {xs ys:Array M1} {Q:M1->M7->Prop} (yq:s.heap.IsTuple l1 xs) (yd:s.heap.IsTuple l2 ys)
 (h:∀ h',Rq h' (s.heap.objs.size+4) (s.heap.objs.size+2) (s.heap.objs.size+3) .none->PR h' (s.heap.objs.size+2) (.ref s.heap.objs.size) (.ref (s.heap.objs.size+1)) →
  PR h' (s.heap.objs.size+3) .none .none->h'.IsTupleIter s.heap.objs.size l1 0->h'.IsTupleIter (s.heap.objs.size+1) l2 0->h'.objs.size=s.heap.objs.size+5 →
  (∀ c o,s.heap.get? c=some o->h'.get? c=some o)->Q (.ref (s.heap.objs.size+4)) { s with heap:=h' }) :
 Nv (NI prog w) A (call (.type "zip") [.ref l1,.ref l2]) Q E s:=by
 refine callType_new F.called_zip (by decide) (F.typeCall_zip_2 _ _) (F.newCall_zip_2 _ _) (fun obj=>F.args_object_init_3 obj _ _) F.entry_zip_new
  (bb_meets_zip l1 l2 xs ys) ⟨yq,yd,?_⟩
 have z1:(tzH1 s.heap l1).objs.size=s.heap.objs.size+1:=O1 ..;have z2:(tzH2 s.heap l1 l2).objs.size=s.heap.objs.size+2:=by rw [O1,z1]
 have z3:(tzH3 s.heap l1 l2).objs.size=s.heap.objs.size+3:=by rw [O1,z2]
 have z4:(tzH4 s.heap l1 l2).objs.size=s.heap.objs.size+4:=by rw [O1,z3]
 have z5:(tzH5 s.heap l1 l2).objs.size=s.heap.objs.size+5:=by rw [O1,z4]
 have g5:(tzH5 s.heap l1 l2).get? (tzH4 s.heap l1 l2).objs.size=some _:=Nf _ rfl;have g4:(tzH5 s.heap l1 l2).get? (tzH3 s.heap l1 l2).objs.size=some _:=M6 _ (Nf _ rfl);have g3:(tzH5 s.heap l1 l2).get? (tzH2 s.heap l1 l2).objs.size=some _:=M6 _ (M6 _ (Nf _ rfl));have g2:(tzH5 s.heap l1 l2).get? (tzH1 s.heap l1).objs.size=some _:=M6 _ (M6 _ (M6 _ (Nf _ rfl)));have g1:(tzH5 s.heap l1 l2).get? s.heap.objs.size=some _:=M6 _ (M6 _ (M6 _ (M6 _ (Nf _ rfl))));show _/\_;rw [z2,z3,z4] at g5;rw [z1,z2] at g3;rw [z3] at g4;rw [z1] at g2;rw [z4]
 exact ⟨⟨_,g5,rfl⟩,h _ g5 g3 g4 ⟨_,g1,rfl,rfl⟩ ⟨_,g2,rfl,rfl⟩ z5 fun c o x =>
  M6 _ (M6 _ (M6 _ (M6 _ (M6 _ x))))⟩
structure ZSt (xs ys:Array M1) (z TI TO i1 i2 l1 l2:M5) (k:Nat) (h:Oo):Prop where
 ap:ZipApart z TI TO i1 i2 l1 l2
 zip:Rq h z TI TO .none∨∃ (T:M5) (b:Bool) (x y:M1),h.get? z=some { cls:=.type "zip",data:=.fields #[RK T,.bool b,.bool false,.ref TI,.ref TO] }/\PR h T x y/\T≠TO
 hTI:PR h TI (.ref i1) (.ref i2)
 hTO:∃ a b,PR h TO a b
 h1:h.IsTupleIter i1 l1 k
 h2:h.IsTupleIter i2 l2 k
 t1:h.IsTuple l1 xs
 t2:h.IsTuple l2 ys
theorem ZSt.typeIs {xs ys:Array M1} {z TI TO i1 i2 l1 l2:M5} {k:Nat} (x:ZSt xs ys z TI TO i1 i2 l1 l2 k s.heap):s.TypeIs (.ref z) "zip":=by
 rcases x.zip with e | ⟨T,b,u,v,e,_⟩
 · exact ⟨_,e,rfl⟩
 · exact ⟨_,e,rfl⟩
theorem IsTuple.but {h h':Oo} {c l:M5} {xs:Array M1} (x:h.IsTuple l xs) (e:Heap.ExtBut c h h') (n:l≠c):h'.IsTuple l xs:=let ⟨ob,q,r⟩:=x;⟨ob,e _ _ n q,r⟩
theorem IsTupleIter.but {h h':Oo} {c i l:M5} {k:Nat} (x:h.IsTupleIter i l k) (e:Heap.ExtBut c h h') (n:i≠c):h'.IsTupleIter i l k:=let ⟨ob,q,r⟩:=x;⟨ob,e _ _ n q,r⟩
end
end PySem
namespace PySem
open Sem (wp)
section
variable {prog:NC} {w:NP} {A:NT} {E:M1->M7->Prop} {s:M7}
theorem bb_zip_itemA {z TI TO i1 i2 l1 l2:M5} {k:Nat} {xs ys:Array M1} {x y a b:M1} {Q:M1->M7->Prop} (D:ZipApart z TI TO i1 i2 l1 l2)
 (hz:Rq s.heap z TI TO .none) (hTI:PR s.heap TI (.ref i1) (.ref i2)) (hTO:PR s.heap TO a b)
 (h1:s.heap.IsTupleIter i1 l1 k) (h2:s.heap.IsTupleIter i2 l2 k) (yq:s.heap.IsTuple l1 xs) (yd:s.heap.IsTuple l2 ys) (hx:xs[k]?=some x) (hy:ys[k]?=some y)
 (hQ:∀ h',Rq h' z TI TO (RK s.heap.objs.size)->PR h' TO x y->h'.IsTupleIter i1 l1 (k+1)->h'.IsTupleIter i2 l2 (k+1)->PR h' s.heap.objs.size x y->h'.objs.size=s.heap.objs.size+1 →
  (∀ c o,c≠z->c≠TO->c≠i1->c≠i2->s.heap.get? c=some o->h'.get? c=some o)->Q (.ref s.heap.objs.size) { s with heap:=h' }) :
 Nv (NI prog w) A (Builtin.«zip.__next__» ⟨[.ref z],[]⟩) (fun fin s'=>∃ v,fin=.done (.ret v)/\Q v s') E s:=by
 show Nv _ _ (field (.ref z) 2 >>= _) _ _ _;refine M0 (Of hz rfl (x:=.bool false) rfl ?_);show Nv _ _ (field (.ref z) 3 >>= _) _ _ _;refine M0 (Of hz rfl (x:=.ref TI) rfl ?_);refine M0 (Pu hTI rfl ?_);show Nv _ _ (Oc (.ref z) >>= _) _ _ _;refine M0 ?_;unfold Oc;refine M0 (Of hz rfl (x:=.none) rfl (Nk ?_));simp only [if_true];refine M0 (wpAny_rule ?_);refine M0 (Of hz rfl (x:=.ref TO) rfl ?_);refine M0 (Pt hz (by simp) fun xI xX xr=>?_);replace xX:Rq xI z TI TO .ellipsis:=xX;refine M0 ?_;simp only [List.zipIdx_cons,List.zipIdx_nil,OY,List.forIn_nil];refine M0 (M0 (wpAny_onRaise ?_));show Nv _ _ (N6 (.ref i1) >>= _) _ _ _;refine M0 (bb_tupNext (IsTupleIter.but h1 xr.extBut D.i1z) (IsTuple.but yq xr.extBut D.l1z) hx fun yH Ac xA=>Nk ?_);have yB:PR yH TO a b:=xA.extBut _ _ D.TOi1 (xr.extBut _ _ D.TOz hTO);refine M0 (Pu yB rfl ?_);refine M0 (RI yB fun zE yN xJ=>?_);replace yN:PR zE TO x b:=yN;refine M0 (wpAny_letGo (Nk ?_));refine M0 (M0 (wpAny_onRaise ?_));show Nv _ _ (N6 (.ref i2) >>= _) _ _ _
 refine M0 (bb_tupNext (IsTupleIter.but (IsTupleIter.but (IsTupleIter.but h2 xr.extBut D.i2z) xA.extBut D.i12.symm) xJ.extBut D.TOi2.symm)
  (IsTuple.but (IsTuple.but (IsTuple.but yd xr.extBut D.l2z) xA.extBut D.l2i1) xJ.extBut D.l2TO) hy fun yy De yb=>Nk ?_)
 have Ad:PR yy TO x b:=yb.extBut _ _ D.TOi2 yN;refine M0 (Pu Ad rfl ?_);refine M0 (RI Ad fun xR yO yo=>?_);replace yO:PR xR TO x y:=yO;refine M0 (wpAny_letGo (Nk (Nk ?_)));refine M0 (Pu yO rfl ?_);refine M0 (wpAny_newTuple ?_);have xQ:xR.objs.size=s.heap.objs.size:=by rw [yo.1,yb.1,xJ.1,xA.1,xr.1]
 have Bg:Rq xR z TI TO .ellipsis:=yo.extBut _ _ D.TOz.symm (yb.extBut _ _ D.i2z.symm (xJ.extBut _ _ D.TOz.symm (xA.extBut _ _ D.i1z.symm xX)))
 have Df:∀ c o,c≠z->c≠TO->c≠i1->c≠i2->s.heap.get? c=some o->xR.get? c=some o:=fun c o c1 c2 c3 c4 e =>
  yo.extBut _ _ c2 (yb.extBut _ _ c4 (xJ.extBut _ _ c2 (xA.extBut _ _ c3 (xr.extBut _ _ c1 e))))
 have Dg:xR.IsTupleIter i1 l1 (k+1):=IsTupleIter.but (IsTupleIter.but (IsTupleIter.but Ac xJ.extBut D.TOi1.symm) yb.extBut D.i12) yo.extBut D.TOi1.symm;have Dh:xR.IsTupleIter i2 l2 (k+1):=IsTupleIter.but De yo.extBut D.TOi2.symm;have Di:z<xR.objs.size:=Np Bg;show Nv _ _ (Builtin.SmallTypes.ownedTupleHandOut (.ref z) (.ref xR.objs.size) >>= _) _ _ _;refine M0 ?_;unfold Builtin.SmallTypes.ownedTupleHandOut;have Dj:Rq (xR.push { cls:=.type "tuple",data:=.seq #[x,y] }) z TI TO .ellipsis:=M6 _ Bg;refine M0 (Pt Dj (by simp) fun Fx Ae Af=>?_);replace Ae:Rq Fx z TI TO (RK xR.objs.size):=Ae;refine Pt Ae (by simp) fun Ag zw Ah=>?_;replace zw:Rq Ag z TI TO (RK xR.objs.size):=zw;have up:∀ c o,c≠z->xR.get? c=some o->Ag.get? c=some o:=fun c o c1 e=>Ah.extBut _ _ c1 (Af.extBut _ _ c1 (M6 _ e));have Bh:PR Ag xR.objs.size x y:=Ah.extBut _ _ (PM Di) (Af.extBut _ _ (PM Di) (Nf _ rfl));have HA:Ag.objs.size=xR.objs.size+1:=by rw [Ah.1,Af.1,O1]
 rw [xQ] at zw Bh HA;refine Nk ⟨_,rfl,?_⟩;show Q (.ref xR.objs.size) _;rw [xQ];refine hQ Ag zw (up _ _ D.TOz yO) ?_ ?_ Bh HA fun c o c1 c2 c3 c4 e=>up c o c1 (Df c o c1 c2 c3 c4 e)
 · obtain ⟨o,e,r⟩:=Dg;exact ⟨o,up _ o D.i1z e,r⟩
 · obtain ⟨o,e,r⟩:=Dh;exact ⟨o,up _ o D.i2z e,r⟩
theorem bb_loadIfAlive {a:M5} {o:Pb} {Q:Option Pb->M7->Prop} (hQ:∀ u,some o=some u->Q (some u) s) (h:s.heap.get? a=some o):Nv (NI prog w) A (loadIfAlive a) Q E s:=by
 intro Γ p Mu;show Sem.wp _ _ (.loadIfAlive a .pure) _ _ _ _;rw [Sem.wp_loadIfAlive,h];exact hQ o rfl
theorem bb_notfree {z T:M5} {b:Bool} {f2 TI TO u v:M1} (hz:s.heap.get? z=some { cls:=.type "zip",data:=.fields #[RK T,.bool b,f2,TI,TO] }) (hT:PR s.heap T u v) :
 Nv (NI prog w) A (Oc (.ref z)) (fun a s1=>a=false/\∃ xI,s1={ s with heap:=xI }/\xI.get? z=some { cls:=.type "zip",data:=.fields #[RK T,.bool true,f2,TI,TO] }/\PZ z s.heap xI) E s:=by
 unfold Oc;refine M0 (Of hz rfl (x:=RK T) rfl ?_);show Nv _ _ (loadIfAlive (T:Int).toNat >>= _) _ _ _;rw [NW];refine M0 (bb_loadIfAlive (fun o (e:some _=some o)=>?_) hT);cases e;show Nv _ _ (if (some _:Option Pb).isNone=true then _ else _) _ _ _;rw [if_neg (show ¬ ((some _:Option Pb).isNone=true) from Nt)];refine M0 (Of hz rfl (x:=.bool b) rfl ?_);cases b with
 | true=>exact Nk ⟨rfl,s.heap,rfl,hz,rfl,fun _ _=>rfl⟩
 | false=>exact M0 (Pt hz (by simp) fun xI xX xr=>Nk ⟨rfl,xI,rfl,xX,xr⟩)
theorem bb_zip_end {z TI TO i1 i2 l1 l2:M5} {k:Nat} {xs ys:Array M1} {Q:Fin->M7->Prop} (hh:A.handled=none)
 (S:ZSt xs ys z TI TO i1 i2 l1 l2 k s.heap) (zF:xs[k]?=none∨ys[k]?=none)
 (hE:∀ h' e,(∀ c o,c≠z->c≠TO->c≠i1->c≠i2->s.heap.get? c=some o->h'.get? c=some o)->(∃ o,h'.get? e=some o/\o.cls=.type "StopIteration")->E (.ref e) { s with heap:=h' }) :
 Nv (NI prog w) A (Builtin.«zip.__next__» ⟨[.ref z],[]⟩) Q E s:=by
 obtain ⟨D,hz,hTI,⟨a,b,hTO⟩,h1,h2,yq,yd⟩:=S;rcases hz with hz | ⟨T,bb,u,v,hz,hT,Mv⟩
 · show Nv _ _ (field (.ref z) 2 >>= _) _ _ _;refine M0 (Of hz rfl (x:=.bool false) rfl ?_);show Nv _ _ (field (.ref z) 3 >>= _) _ _ _;refine M0 (Of hz rfl (x:=.ref TI) rfl ?_);refine M0 (Pu hTI rfl ?_);show Nv _ _ (Oc (.ref z) >>= _) _ _ _;refine M0 ?_;unfold Oc;refine M0 (Of hz rfl (x:=.none) rfl (Nk ?_));simp only [if_true];refine M0 (wpAny_rule ?_);refine M0 (Of hz rfl (x:=.ref TO) rfl ?_);refine M0 (Pt hz (by simp) fun xI xX xr=>?_);replace xX:Rq xI z TI TO .ellipsis:=xX;refine M0 ?_;simp only [List.zipIdx_cons,List.zipIdx_nil,OY,List.forIn_nil];refine M0 (M0 (wpAny_onRaise ?_));show Nv _ _ (N6 (.ref i1) >>= _) _ _ _;cases hx:xs[k]? with
   | none =>
     refine M0 (bb_tupEnd hh (IsTupleIter.but h1 xr.extBut D.i1z) (IsTuple.but yq xr.extBut D.l1z) hx fun yH e xA he=>?_);obtain ⟨oe,zG,Dk⟩:=he;have Bi:Rq yH z TI TO .ellipsis:=xA _ _ D.i1z.symm xX;have Fy:e≠z:=fun x=>by subst x;rw [Bi] at zG;cases zG;simp at Dk
     refine Pt Bi (by simp) fun zE _ xJ=>hE zE e (fun c o c1 _ c3 _ x=>xJ.extBut _ _ c1 (xA _ _ c3 (xr.extBut _ _ c1 x))) ⟨oe,xJ.extBut _ _ Fy zG,Dk⟩
   | some x =>
     have hy:ys[k]?=none:=by rcases zF with h | h;rw [hx] at h;cases h;exact h
     refine M0 (bb_tupNext (IsTupleIter.but h1 xr.extBut D.i1z) (IsTuple.but yq xr.extBut D.l1z) hx fun yH Ac xA=>Nk ?_);have yB:PR yH TO a b:=xA.extBut _ _ D.TOi1 (xr.extBut _ _ D.TOz hTO);refine M0 (Pu yB rfl ?_);refine M0 (RI yB fun zE yN xJ=>?_);refine M0 (wpAny_letGo (Nk ?_));refine M0 (M0 (wpAny_onRaise ?_));show Nv _ _ (N6 (.ref i2) >>= _) _ _ _
     refine M0 (bb_tupEnd hh (IsTupleIter.but (IsTupleIter.but (IsTupleIter.but h2 xr.extBut D.i2z) xA.extBut D.i12.symm) xJ.extBut D.TOi2.symm)
      (IsTuple.but (IsTuple.but (IsTuple.but yd xr.extBut D.l2z) xA.extBut D.l2i1) xJ.extBut D.l2TO) hy fun yy e yb he=>?_)
     obtain ⟨oe,zG,Dk⟩:=he;have Bj:Rq yy z TI TO .ellipsis:=yb _ _ D.i2z.symm (xJ.extBut _ _ D.TOz.symm (xA.extBut _ _ D.i1z.symm xX));have Fy:e≠z:=fun x=>by subst x;rw [Bj] at zG;cases zG;simp at Dk
     refine Pt Bj (by simp) fun xR _ yo=>hE xR e (fun c o c1 c2 c3 c4 x=>yo.extBut _ _ c1 (yb _ _ c4 (xJ.extBut _ _ c2 (xA.extBut _ _ c3 (xr.extBut _ _ c1 x))))) ⟨oe,yo.extBut _ _ Fy zG,Dk⟩
 · show Nv _ _ (field (.ref z) 2 >>= _) _ _ _;refine M0 (Of hz rfl (x:=.bool false) rfl ?_);show Nv _ _ (field (.ref z) 3 >>= _) _ _ _;refine M0 (Of hz rfl (x:=.ref TI) rfl ?_);refine M0 (Pu hTI rfl ?_);show Nv _ _ (Oc (.ref z) >>= _) _ _ _;refine M0 (OM (bb_notfree hz hT) (fun a s1 ⟨e1,xI,e2,xX,xr⟩=>?_) fun _ _ x=>x);subst e1 e2;simp only [Bool.false_eq_true,if_false];rw [<- Array.forIn_toList];refine M0 ?_;simp only [OY,List.forIn_nil];refine M0 (M0 (Po ?_));show Nv _ _ (N6 (.ref i1) >>= _) _ _ _;cases hx:xs[k]? with
   | none =>
     refine M0 (bb_tupEnd hh (IsTupleIter.but h1 xr.extBut D.i1z) (IsTuple.but yq xr.extBut D.l1z) hx fun yH e xA he=>?_);exact hE yH e (fun c o c1 _ c3 _ x=>xA _ _ c3 (xr.extBut _ _ c1 x)) he
   | some x =>
     have hy:ys[k]?=none:=by rcases zF with h | h;rw [hx] at h;cases h;exact h
     refine M0 (bb_tupNext (IsTupleIter.but h1 xr.extBut D.i1z) (IsTuple.but yq xr.extBut D.l1z) hx fun yH Ac xA=>Nk (Nk ?_));refine M0 (M0 (Po ?_));show Nv _ _ (N6 (.ref i2) >>= _) _ _ _;refine M0 (bb_tupEnd hh (IsTupleIter.but (IsTupleIter.but h2 xr.extBut D.i2z) xA.extBut D.i12.symm) (IsTuple.but (IsTuple.but yd xr.extBut D.l2z) xA.extBut D.l2i1) hy fun yy e yb he=>?_);exact hE yy e (fun c o c1 _ c3 c4 x=>yb _ _ c4 (xA.extBut _ _ c3 (xr.extBut _ _ c1 x))) he
theorem bb_zip_done {z TI TO i1 i2 l1 l2:M5} {k:Nat} {xs ys:Array M1} {Q:Option M1->M7->Prop} (hh:A.handled=none) (S:ZSt xs ys z TI TO i1 i2 l1 l2 k s.heap) (zF:xs[k]?=none∨ys[k]?=none)
 (hQ:∀ h',(∀ c o,c∉[z,TO,i1,i2]->s.heap.get? c=some o->h'.get? c=some o)->Q none { s with heap:=h' }):Nv (NI prog w) A (pyNext (.ref z)) Q E s:=by
 have hT:=S.typeIs;unfold pyNext
 refine M0 (wpAny_attempt (Pe (name:=MW "__next__") hT RB
  (Qh RB hT F.entry_zip_next (bb_zip_end hh S zF fun h' e hk he=>?_) (F.args_zip_next_1 _))))
 obtain ⟨o,ho,hc⟩:=he;refine M0 (wpAny_isInstance (T:="StopIteration") (b:=true) ⟨o,ho,hc⟩ isSubtype_stop ?_);exact Nk (hQ _ fun c o hc=>hk c o (fun q=>hc (by simp [q])) (fun q=>hc (by simp [q])) (fun q=>hc (by simp [q])) (fun q=>hc (by simp [q])))
end
end PySem
namespace PySem
open Sem (wp)
namespace F
end F
section
variable {prog:NC} {w:NP} {A:NT} {R:Result->M7->Prop}
end
section
variable {prog:NC} {w:NP} {A:NT} {E:M1->M7->Prop} {s:M7}
end
end PySem
namespace L2
open PySem PySem.Spec PyProof.Rows
section
variable {X:Cx} {e1 e2:Od} {t:TA} {p p2 pos yz:Qy}
end
end L2
namespace L2
open PySem PySem.Spec PyProof.Rows
section
variable {κ:Type} [DecidableEq κ]
end
section
variable {P:NC} {w:NP} {H:Hp} {h:Oo} {a:M5}
end
section
variable {X:Cx} {pins:List (M5×Pb)} {σ:St} {H:Hp} {s:M7} {a:M5} {y v:V} {u r:M1} {o:Option V} {A:NT} {E:M1->M7->Prop}
end
section
variable {X:Cx} {pins:List (M5×Pb)} {σ:St} {H:Hp} {s:M7} {a:M5} {xM:List (Key×V)} {k:Key} {u:M1} {A:NT} {E:M1->M7->Prop}
end
section
variable {X:Cx} {o i e value:Od} {pos pos' AJ:Qy} {td ty tv:TE}
end
section
variable {X:Cx} {pos:Qy}
end
section
variable {X:Cx} {pins:List (M5×Pb)} {σ:St} {H:Hp} {s:M7} {a:M5} {y d:V} {u r:M1} {o:Option V} {A:NT} {E:M1->M7->Prop}
end
section
variable {X:Cx} {o e f:Od} {apos xV:Qy} {td ty tx:TE}
end
section
variable {X:Cx} {pins:List (M5×Pb)} {σ:St} {H:Hp} {s:M7} {a:M5} {xM:List (Key×V)} {A:NT} {E:M1->M7->Prop}
end
section
variable {X:Cx} {pins:List (M5×Pb)} {σ:St} {H:Hp} {s:M7} {a:M5} {y:V} {u:M1} {A:NT} {E:M1->M7->Prop}
end
end L2
namespace L2
open PySem PySem.Spec PyProof.Rows
inductive uD (K:MY) (T:String) (xs:List V) (H:Hp) (Q:VK):Prop
 | mk (x:_) (b:_) (t:_) (xB:xs=[x,.ty T]) (xC:gF K H x t) (xG:PJ K t (.type T)=some b) (xT:Q (.bl b) H):uD K T xs H Q
def wJ (K:MY) (T:String):List V->Hp->VK->Prop:=uD K T
theorem cT {X:Cx} {T:String}:dq X (.builtin "isinstance") (wJ X.K T):=by
 intro pins s σ H xs us Q I r h;obtain ⟨x,b,t,e,ty,k,q⟩:=h;exact rF (T:=T) (b:=b) (t:=t) pins s σ H xs us Q I r ⟨x,e,ty,k,q⟩
variable {K:MY}
theorem oo:PJ K (.type "tuple") (.type "tuple")=some true:=rfl
theorem uH:PJ K (.type "str") (.type "str")=some true:=rfl
theorem uP:PJ K (.type "int") (.type "int")=some true:=rfl
theorem nY:PJ K (.type "str") (.type "tuple")=some false:=by with_unfolding_all rfl
theorem vD:PJ K (.type "int") (.type "bool")=some false:=by with_unfolding_all rfl
end L2
namespace BB
open PySem L2
set_option genInjectivity true in
inductive Dv where
 | int (i:Int)
 | str (x:Nd)
 | tup (ds:List Dv)
mutual
def Dv.deep:Dv->Nat
 | .int _=>0
 | .str _=>0
 | .tup ds=>dQ ds+1
def dQ:List Dv->Nat
 | []=>0
 | d::ds=>max d.deep (dQ ds)
end
mutual
def Dv.tot:Dv->Nat
 | .int _=>1
 | .str _=>1
 | .tup ds=>sZ ds+1
def sZ:List Dv->Nat
 | []=>0
 | d::ds=>d.tot+sZ ds
end
mutual
def DAt (H:Hp):Dv->V->Prop
 | .int i,v=>v=.int i
 | .str x,v=>v=.str x
 | .tup ds,v=>∃ a vs,v=.ref a/\H a=some (.tup vs)/\DAts H ds vs
def DAts (H:Hp):List Dv->List V->Prop
 | [],vs=>vs=[]
 | d::ds,vs=>∃ v r,vs=v::r/\DAt H d v/\DAts H ds r
end
theorem DAts.nil {H:Hp}:DAts H [] []:=by rw [DAts]
theorem DAts.cons {H:Hp} {d:Dv} {ds:List Dv} {v:V} {vs:List V} (h1:DAt H d v) (h2:DAts H ds vs):DAts H (d::ds) (v::vs):=by rw [DAts];exact ⟨v,vs,rfl,h1,h2⟩
theorem DAts.length {H:Hp}:∀ {ds:List Dv} {vs:List V},DAts H ds vs->vs.length=ds.length
 | [],vs,h=>by rw [DAts] at h;subst h;rfl
 | d::ds,vs,h=>by
   rw [DAts] at h;obtain ⟨v,r,rfl,h1,h2⟩:=h;rw [MZ,MZ,h2.length]
theorem DAts.at {H:Hp}:∀ {ds:List Dv} {vs:List V} {i:Nat} {d:Dv},DAts H ds vs->ds[i]?=some d->∃ v,vs[i]?=some v/\DAt H d v
 | [],vs,i,d,h,e=>by simp at e
 | d0::ds,vs,i,d,h,e=>by
   rw [DAts] at h;obtain ⟨v,r,rfl,h1,h2⟩:=h;cases i with
   | zero=>simp at e;subst e;exact ⟨v,rfl,h1⟩
   | succ i =>
     obtain ⟨u,g1,g2⟩:=h2.at (i:=i) (by simpa using e);exact ⟨u,by simpa using g1,g2⟩
theorem j6:∀ {ds:List Dv} {i:Nat} {d:Dv},ds[i]?=some d->d.deep<=dQ ds
 | [],i,d,e=>by simp at e
 | d0::ds,i,d,e=>by
   rw [dQ];cases i with
   | zero=>simp at e;subst e;omega
   | succ i =>
     have:=j6 (ds:=ds) (i:=i) (by simpa using e);omega
theorem pJ:∀ {ds:List Dv} {i:Nat} {d:Dv},ds[i]?=some d->d.tot<=sZ ds
 | [],i,d,e=>by simp at e
 | d0::ds,i,d,e=>by
   rw [sZ];cases i with
   | zero=>simp at e;subst e;omega
   | succ i =>
     have:=pJ (ds:=ds) (i:=i) (by simpa using e);omega
theorem Dv.tot_pos (d:Dv):1<=d.tot:=by
 cases d with
 | int i=>rw [Dv.tot];omega
 | str x=>rw [Dv.tot];omega
 | tup ds=>rw [Dv.tot];omega
theorem wV {K:MY} {H:Hp} {a b:M5} {xs ys:List V} {Q:VK} (ha:H a=some (.tup xs)) (hb:H b=some (.tup ys)) (hz:xs.length+ys.length<=1000000) (q:∀ p H',L2.Same H H'->H' p=some (.tup (xs++ys))->Q (.ref p) H'):uo K (.ref a) (.ref b) H Q:=by
 refine ⟨a,b,xs,ys,rfl,rfl,SqT.of ha,SqT.of hb,ai hz,fun e=>?_,fun _ e=>?_,fun _ _ p hp=>?_⟩
 · exact q b H (.refl _) (by rw [e];exact hb)
 · exact q a H (.refl _) (by rw [e,Nz];exact ha)
 · exact q p _ (aj hp _) ac
theorem P2.reverse {α β:Type} {F:α->β->Prop}:∀ {a:List α} {b:List β},NY F a b->NY F a.reverse b.reverse
 | _,_,.nil=>.nil
 | _,_,.cons r t=>by
   rw [Oq,Oq];exact P2.append (P2.reverse t) (.cons r .nil)
theorem P2.snoc_inv {α β:Type} {F:α->β->Prop} {a:List α} {b:List β} {y:β} (h:NY F a (b++[y])):∃ us x,a=us++[x]/\NY F us b/\F x y:=by
 have r:=P2.reverse h;rw [QK,List.reverse_singleton,List.singleton_append] at r;cases e:a.reverse with
 | nil=>rw [e] at r;cases r
 | cons x us =>
   rw [e] at r;cases r with
   | cons h1 h2 =>
     refine ⟨us.reverse,x,?_,?_,h1⟩
     · rw [<- Oq,<- e,P4]
     · have:=P2.reverse h2;rw [P4] at this;exact this
end BB
namespace BB
open PySem L2
mutual
def Th.kn:Th->Nat
 | .knot _ ks=>kns ks+1
 | .call _ _=>0
def kns:List Th->Nat
 | []=>0
 | t::ts=>t.kn+kns ts
end
section
variable {ext:Th->List V} {H H':Hp} {t:Th} {a:M5} {ts:List Th} {es:List M5}
end
def Th.isCall:Th->Bool
 | .knot _ _=>false
 | .call _ _=>true
end BB
namespace BB
open PySem PySem.Spec PyProof.Rows L2
mutual
theorem DAt.inj {H:Hp}:∀ {d e:Dv} {v:V},DAt H d v->DAt H e v->d=e
 | .int i,.int j,v,h,g=>by rw [DAt] at h;rw [DAt] at g;rw [h] at g;cases g;rfl
 | .int i,.str y,v,h,g=>by rw [DAt] at h;rw [DAt] at g;rw [h] at g;cases g
 | .int i,.tup es,v,h,g=>by rw [DAt] at h;rw [DAt] at g;obtain ⟨a,vs,e,_⟩:=g;rw [h] at e;cases e
 | .str x,.int j,v,h,g=>by rw [DAt] at h;rw [DAt] at g;rw [h] at g;cases g
 | .str x,.str y,v,h,g=>by rw [DAt] at h;rw [DAt] at g;rw [h] at g;cases g;rfl
 | .str x,.tup es,v,h,g=>by rw [DAt] at h;rw [DAt] at g;obtain ⟨a,vs,e,_⟩:=g;rw [h] at e;cases e
 | .tup ds,.int j,v,h,g=>by rw [DAt] at h;rw [DAt] at g;obtain ⟨a,vs,e,_⟩:=h;rw [e] at g;cases g
 | .tup ds,.str y,v,h,g=>by rw [DAt] at h;rw [DAt] at g;obtain ⟨a,vs,e,_⟩:=h;rw [e] at g;cases g
 | .tup ds,.tup es,v,h,g=>by
   rw [DAt] at h;rw [DAt] at g;obtain ⟨a,vs,e1,h1,h2⟩:=h;obtain ⟨b,ws,e2,g1,g2⟩:=g;rw [e1] at e2;cases e2;rw [h1] at g1;cases g1;rw [DAts.inj h2 g2]
theorem DAts.inj {H:Hp}:∀ {ds es:List Dv} {vs:List V},DAts H ds vs->DAts H es vs->ds=es
 | [],[],vs,h,g=>rfl
 | [],e::es,vs,h,g=>by rw [DAts] at h;rw [DAts] at g;obtain ⟨v,r,z,_⟩:=g;rw [h] at z;cases z
 | d::ds,[],vs,h,g=>by rw [DAts] at h;rw [DAts] at g;obtain ⟨v,r,z,_⟩:=h;rw [g] at z;cases z
 | d::ds,e::es,vs,h,g=>by
   rw [DAts] at h;rw [DAts] at g;obtain ⟨v,r,z,h1,h2⟩:=h;obtain ⟨v',r',z',g1,g2⟩:=g;rw [z] at z';cases z';rw [DAt.inj h1 g1,DAts.inj h2 g2]
end
end BB
namespace L2
open PySem PySem.Spec PySem.SeqAt PyProof.Rows BB
open Classical in
theorem sd {X:Cx} {pins:List (M5×Pb)} {σ:St} {H:Hp} {s:M7} (I:Inv X pins σ H s) {ds es:List Dv} {a b:M5} {vs ws:List V} {A:NT} (ha:SqT X.K H a vs) (hb:SqT X.K H b ws) (zH:DAts H ds vs) (yP:DAts H es ws) (hu:A.units<cLine)
 (ih:∀ (j:Nat) (d e:Dv) (x y:V) (u v:M1),ds[j]?=some d->DAt H d x->DAt H e y->RelV x u->RelV y v->EqAt A.in1 s u v (decide (d=e))):RcAt A s (.ref a) (.ref b) (decide (Dv.tup ds=Dv.tup es)):=by
 obtain ⟨its,r1,p1,_⟩:=I.tuple ha;obtain ⟨xx,r2,p2,_⟩:=I.tuple hb;have l1:its.length=ds.length:=by rw [<- r1.length,zH.length]
 have l2:xx.length=es.length:=by rw [<- r2.length,yP.length]
 have Fz:RcAt A s (.ref a) (.ref b) ((NU (min its.toArray.size xx.toArray.size)).all (fun j=>decide (ds[j]?=es[j]?)) && its.toArray.size == xx.toArray.size):=by
  refine RcAt.tuples (show s.heap.IsTuple a its.toArray from p1) (show s.heap.IsTuple b xx.toArray from p2) hu fun j h1 h2=>?_;have Ai:j<ds.length:=by rw [<- l1];simpa using h1
  have zI:j<es.length:=by rw [<- l2];simpa using h2
  have e1:ds[j]?=some ds[j]:=M3 Ai;have e2:es[j]?=some es[j]:=M3 zI;obtain ⟨x',ze,dx⟩:=zH.at e1;obtain ⟨y',CY,dy⟩:=yP.at e2;obtain ⟨u',AO,Dl⟩:=r1.get ze;obtain ⟨v',zC,Dm⟩:=r2.get CY;have e3:decide (ds[j]?=es[j]?)=decide (ds[j]=es[j]):=by rw [e1,e2];simp
  have e4:its.toArray[j]=u':=by
   rw [M3 (by rw [l1];exact Ai)] at AO;simpa using AO
  have e5:xx.toArray[j]=v':=by
   rw [M3 (by rw [l2];exact zI)] at zC;simpa using zC
  rw [e3,e4,e5];exact ih j ds[j] es[j] x' y' u' v' e1 dx dy Dl Dm
 have e:decide (Dv.tup ds=Dv.tup es)=((NU (min its.toArray.size xx.toArray.size)).all (fun j=>decide (ds[j]?=es[j]?)) && its.toArray.size == xx.toArray.size):=by
  rw [M9,M9,l1,l2];by_cases h:ds=es
  · subst h;rw [decide_eq_true rfl];symm;simp
  · rw [decide_eq_false (fun z=>h (Dv.tup.inj z))];symm;by_cases hl:ds.length=es.length
    · rw [hl,Nat.min_self]
      have:¬ ((NU es.length).all (fun j=>decide (ds[j]?=es[j]?)))=true:=by
       intro z;apply h;apply QW;intro j;by_cases hj:j<es.length
       · have:=Oa.mp z j (Pk.mpr hj);exact of_decide_eq_true this
       · rw [OJ (by omega),OJ (by omega)]
      rw [OI.mpr this];rfl
    · have:(ds.length == es.length)=false:=by simpa using hl
      rw [this,Bool.and_false]
 rw [e];exact Fz
open Classical in
theorem pj {X:Cx} {pins:List (M5×Pb)} {σ:St} {H:Hp} {s:M7} (I:Inv X pins σ H s):∀ (n:Nat) (d e:Dv),d.tot<=n->∀ (x y:V) (u v:M1) (A:NT),DAt H d x->DAt H e y->RelV x u->RelV y v->A.units+d.deep<cLine->EqAt A s u v (decide (d=e))
 | 0,d,e,hn,x,y,u,v,A,hd,he,ru,rv,hu=>by have:=d.tot_pos;omega
 | n+1,.int i,.int j,hn,x,y,u,v,A,hd,he,ru,rv,hu=>by
   rw [DAt] at hd;rw [DAt] at he;subst hd he;obtain ⟨t,rfl⟩:=ru;obtain ⟨t',rfl⟩:=rv
   have e:decide (Dv.int i=Dv.int j)=(i == j):=by
    by_cases h:i=j
    · subst h;simp
    · rw [decide_eq_false (fun z=>h (Dv.int.inj z))];simp [h]
   rw [e];exact EqAt.int_int i t j t'
 | n+1,.int i,.str b,hn,x,y,u,v,A,hd,he,ru,rv,hu=>by
   rw [DAt] at hd;rw [DAt] at he;subst hd he;obtain ⟨t,rfl⟩:=ru;obtain ⟨t',rfl⟩:=rv;rw [decide_eq_false (fun z=>by cases z)];exact EqAt.int_str i t b t'
 | n+1,.int i,.tup es,hn,x,y,u,v,A,hd,he,ru,rv,hu=>by
   rw [DAt] at hd;rw [DAt] at he;obtain ⟨a,vs,rfl,ha,_⟩:=he;subst hd;obtain ⟨t,rfl⟩:=ru;cases rv;obtain ⟨its,_,p,_⟩:=I.tuple (SqT.of (K:=X.K) ha);rw [decide_eq_false (fun z=>by cases z)];exact EqAt.int_tuple i t (show s.heap.IsTuple a its.toArray from p) (by omega)
 | n+1,.str b,.int j,hn,x,y,u,v,A,hd,he,ru,rv,hu=>by
   rw [DAt] at hd;rw [DAt] at he;subst hd he;obtain ⟨t,rfl⟩:=ru;obtain ⟨t',rfl⟩:=rv;rw [decide_eq_false (fun z=>by cases z)];exact EqAt.str_int b t j t'
 | n+1,.str b,.str c,hn,x,y,u,v,A,hd,he,ru,rv,hu=>by
   rw [DAt] at hd;rw [DAt] at he;subst hd he;obtain ⟨t,rfl⟩:=ru;obtain ⟨t',rfl⟩:=rv
   have e:decide (Dv.str b=Dv.str c)=(b == c):=by
    by_cases h:b=c
    · subst h;simp
    · rw [decide_eq_false (fun z=>h (Dv.str.inj z))];simp [h]
   rw [e];exact EqAt.str_str b t c t'
 | n+1,.str b,.tup es,hn,x,y,u,v,A,hd,he,ru,rv,hu=>by
   rw [DAt] at hd;rw [DAt] at he;obtain ⟨a,vs,rfl,ha,_⟩:=he;subst hd;obtain ⟨t,rfl⟩:=ru;cases rv;obtain ⟨its,_,p,_⟩:=I.tuple (SqT.of (K:=X.K) ha);rw [decide_eq_false (fun z=>by cases z)];exact EqAt.str_tuple b t (show s.heap.IsTuple a its.toArray from p) (by omega)
 | n+1,.tup ds,.int j,hn,x,y,u,v,A,hd,he,ru,rv,hu=>by
   rw [DAt] at hd;rw [DAt] at he;obtain ⟨a,vs,rfl,ha,_⟩:=hd;subst he;cases ru;obtain ⟨t,rfl⟩:=rv;obtain ⟨its,_,p,_⟩:=I.tuple (SqT.of (K:=X.K) ha);rw [decide_eq_false (fun z=>by cases z)];exact EqAt.tuple_int j t (show s.heap.IsTuple a its.toArray from p) (by omega)
 | n+1,.tup ds,.str b,hn,x,y,u,v,A,hd,he,ru,rv,hu=>by
   rw [DAt] at hd;rw [DAt] at he;obtain ⟨a,vs,rfl,ha,_⟩:=hd;subst he;cases ru;obtain ⟨t,rfl⟩:=rv;obtain ⟨its,_,p,_⟩:=I.tuple (SqT.of (K:=X.K) ha);rw [decide_eq_false (fun z=>by cases z)];exact EqAt.tuple_str b t (show s.heap.IsTuple a its.toArray from p) (by omega)
 | n+1,.tup ds,.tup es,hn,x,y,u,v,A,hd,he,ru,rv,hu=>by
   have J0:=hd;have J1:=he;rw [DAt] at hd;rw [DAt] at he;obtain ⟨a,vs,rfl,ha,zH⟩:=hd;obtain ⟨b,ws,rfl,hb,yP⟩:=he;cases ru;cases rv;by_cases Az:a=b
   · subst Az;rw [decide_eq_true (DAt.inj J0 J1)];exact EqAt.same _
   rw [Dv.tot] at hn;rw [Dv.deep] at hu;refine EqAt.of_refs Az (sd I (SqT.of ha) (SqT.of hb) zH yP (by omega) fun j d e x' y' u' v' e1 dx dy Dl Dm=>?_);have q1:=pJ e1;have q2:=j6 e1;refine pj I n d e (by omega) x' y' u' v' A.in1 dx dy Dl Dm ?_;show A.units+1+_<cLine;omega
end L2
namespace BB
open PySem L2
end BB
namespace PySem
theorem bb_extendT (l:M5) (items:Array M1) (n:Nat) (b:M5) (yC:Array M1) (n2:Nat) (dd:Option M5) (sl:Array (Option M1)) (g0:¬(!items.isEmpty && PL (items.size+yC.size))=true) (g1:items.size<=Ny) (g2:items.size+yC.size<=Ny+1) :
 Meets (Builtin.«list.extend» ⟨[.ref l,.ref b],[]⟩) (fun _ R s=>s.heap.get? l=some { cls:=.type "list",dict:=none,data:=.seq items n,slots:=#[] }/\s.heap.get? b=some { cls:=.type "tuple",dict:=dd,data:=.seq yC n2,slots:=sl }/\R (.ok (.ret PK)) { s with heap:=s.heap.update l (Rx fun x=>x++yC),toks:=s.toks }) :=
 .of_wp fun prog w A R s h=>by
  obtain ⟨hp,g,d,tk,os⟩:=s;obtain ⟨hl,hb,h⟩:=h;have f1:=AutoSeq1.idx_int;have f2:=AutoSeq1.sub_tuple_tuple;have f3:=AutoSeq1.sub_list_list;have f4:=AutoSeq1.sub_tuple_list;have f5:=AutoSeq1.sub_list_tuple;have z2:(items++yC).size<=Ny+1:=by rw [Array.size_append];exact g2
  wp_walk using (wpAny_updateSeq hl rfl (hz:=g1) (_hz':=z2)),AutoSeq1.wpAny_loadPart' hl,AutoSeq1.wpAny_loadPart' hb
  exact ⟨_,rfl,h⟩
end PySem
namespace L2
open PySem PySem.Spec PyProof.Rows
section
variable {X:Cx}
def sQ (K:MY):V->List V->Hp->VK->Prop:=fun x vs H Q=>∃ l b xs zs,x=.ref l/\vs=[.ref b]/\H l=some (.lst xs)/\SqT K H b zs/\xs.length+zs.length<=Ny/\Q .non (upd H l (.lst (xs++zs)))
theorem o6:MtM X "list.extend" (sQ X.K):=by
 intro pins s σ H x vs v us Q I rx rv h;obtain ⟨l,b,xs,zs,rfl,rfl,hH,hB,hz,q⟩:=h;cases rx;obtain ⟨u,rfl,ru⟩:=rv.one;cases ru;obtain ⟨z,its,n,r,hl,e⟩:=I.lstM hH;obtain ⟨xx,r2,p2,_⟩:=I.tuple hB;have yd:=r2.length;obtain ⟨⟨CU,Ce,data2,Cf⟩,e2,AL,n2,hd2⟩:=p2;simp only at AL hd2;subst AL hd2;have xQ:its.toArray.size+xx.toArray.size<=Ny:=by rw [M9,M9];omega
 have zX:¬ (!its.toArray.isEmpty && PL (its.toArray.size+xx.toArray.size))=true:=by
  rw [mM xQ,Bool.and_false];exact Nt
 refine QN F.slot_list_extend ⟨_,e,rfl⟩ F.entry_list_extend (F.args_list_extend_2 _ _)
  (bb_extendT l its.toArray n b xx.toArray n2 Ce Cf zX (by rw [M9];omega) (by omega)) ⟨e,e2,?_⟩
 refine ⟨.non,_,I.lset (its':=its++xx) hH e (by simp) (r.append r2) ?_,rfl,q⟩;rw [Na];omega
theorem pT {bs:List Bool} {its:List M1} (r:Vals (bs.map V.bl) its) {i:Nat} {v:M1} (h:its[i]?=some v):∃ b,bs[i]?=some b/\v=.bool b:=by
 have hl:=r.length;have hi:i<its.length:=(Nl.mp h).1;rw [MX] at hl;obtain ⟨u,hu,ru⟩:=r.get (i:=i) (x:=.bl bs[i]) (by rw [Nq,M3 (by omega)];rfl);rw [h] at hu;cases hu;cases ru;exact ⟨_,M3 (by omega),rfl⟩
def wQ (K:MY):List V->Hp->VK->Prop:=fun xs H Q=>∃ (p:M5) (bs:List Bool),xs=[.ref p]/\SqL K H p (bs.map V.bl)/\Q (.bl (bs.all id)) H
theorem mY (hc:X.calm=true):dq X (.builtin "all") (wQ X.K):=by
 intro pins s σ H xs us Q I r h;obtain ⟨p,bs,rfl,hl,q⟩:=h;obtain ⟨u,rfl,rx⟩:=vals1 r;cases rx;obtain ⟨its,rv,pl,_⟩:=I.list hl;have hlen:=rv.length;rw [MX] at hlen;have xK:p<s.heap.objs.size:=by obtain ⟨_,_,e,_⟩:=pl;exact Np e
 refine call_all_walk (Rb pl.isList ?_);refine ⟨s.heap.objs.size,[s.heap.objs.size,p],[s.heap.objs.size],its.toArray.size,_,_,fun i=>(bs[i]?).getD true,rfl,Walks.list (A:=X.A.in1) (I.ok.hd hc) _ p (NQ xK) its.toArray,⟨⟨_,Nf _ rfl,rfl,rfl⟩,pl.isList.push _⟩,fun i v s' Q' E' hP hQ=>?_,fun h' tk hk=>?_⟩
 · obtain ⟨b,e,rfl⟩:=pT rv (i:=i) (v:=v) (by simpa using hP);simp only [e,Option.getD_some] at hQ;exact O0 hQ
 · have e:((NU its.toArray.size).all fun i=>(bs[i]?).getD true)=bs.all id:=by
    rw [M9,<- hlen];exact LSm.range_all bs
   rw [e];exact ⟨.bl (bs.all id),H,I.kept (LSm.kept_iter hk),rfl,q⟩
end
end L2
namespace BB
open PySem L2
def bn:List (Nd×Int)->Nd->Int
 | [],_=>-1
 | k::r,n=>if k.1=n then k.2 else bn r n
def okP (ks:List (Nd×Int)) (st kd:Int):Th->Bool
 | .knot n ts=>decide (bn ks n=((ts.length:Nat):Int))
 | .call s k=>decide (0<=s/\s<st) && decide (0<=k/\k<kd)
def fpb (ks:List (Nd×Int)) (st kd:Int) (t:Th):Bool:=t.walk.all (okP ks st kd)
def qu (ks:List (Nd×Int)) (st kd:Int) (ts:List Th):Bool:=(walks ts).all (okP ks st kd)
theorem kx (ks:List (Nd×Int)) (st kd:Int) (t:Th):fpb ks st kd t=(okP ks st kd t && qu ks st kd t.kids):=by
 unfold fpb qu;rw [t.walk_eq,Q0]
theorem jD (ks:List (Nd×Int)) (st kd:Int):∀ ts:List Th,qu ks st kd ts=(ts.map (fpb ks st kd)).all id
 | []=>by rfl
 | t::ts=>by
   rw [Ni,Q0,<- jD ks st kd ts];unfold qu fpb;rw [walks,List.all_append];rfl
theorem ly {w:Nd} {n:Int} (h0:0<=n) (h:n+1<=(w.length:Int)):(dO w none (some (n+1))).length=n.toNat+1:=by
 rw [gJ]
 have e1:HT.sIx w.length w.length (some (n+1))=n.toNat+1:=by
  show (if n+1<0 then _ else min (n+1).toNat w.length)=_;rw [if_neg (by omega)];omega
 have e2:HT.sIx w.length 0 none=0:=rfl;rw [e1,e2];omega
theorem t6 {A B:Nd} {c d:Nat} (h:A++⟨#[c]⟩++B=A++⟨#[d]⟩++B):c=d:=by
 have h1:(A.cps++#[c]++B.cps)=(A.cps++#[d]++B.cps):=congrArg Str.cps h;have h2:=congrArg RW h1;simp at h2;exact h2
theorem oi {base i j:Int} (hi:0<=i) (Mw:i<8) (hj:0<=j) (Mx:j<8) (h:nameOf base i=nameOf base j):i=j:=by
 unfold nameOf at h;split at h
 · have h1:=congrArg Str.length h;rw [ly hi (by rw [cq];omega),ly hj (by rw [cq];omega)] at h1;omega
 · have h1:=t6 h;unfold jb at h1;have a1:=Oh (((((base / 112) / 26 ^ (nAt base).toNat)%26).toNat:Int)+i) (by decide:(26:Int)≠0);have a2:=Oh (((((base / 112) / 26 ^ (nAt base).toNat)%26).toNat:Int)+j) (by decide:(26:Int)≠0);generalize ((((base / 112) / 26 ^ (nAt base).toNat)%26).toNat:Int)=l at h1 a1 a2;omega
theorem wk {p:Prop} [Decidable p] (h:(!decide p)=true):¬ p:=by
 intro z;rw [decide_eq_true z] at h;cases h
theorem vj {p:Prop} [Decidable p] (h:¬ (!decide p)=true):p:=by
 by_cases z:p
 · exact z
 · exfalso;apply h;rw [decide_eq_false z];rfl
end BB
namespace PySem
open Sem (wp)
namespace F
end F
section
variable {prog:NC} {w:NP} {A:NT} {E:M1->M7->Prop} {s:M7} {a:M5} {xs:Array M1} {k:Nat}
end
end PySem
namespace L2
open PySem PySem.Spec PyProof.Rows BB
section
variable {X:Cx}
end
end L2
namespace BB
open PySem L2
end BB
namespace HT
open PySem PySem.Spec PyProof.Rows
section
variable {prog:NC} {w:NP} {A:NT} {E:M1->M7->Prop} {s:M7}
end
end HT
namespace L2
open PySem PySem.Spec PyProof.Rows
end L2
namespace PySem
open Sem (wp)
section
variable {prog:NC} {w:NP} {A:NT} {E:M1->M7->Prop} {s:M7} {it d:M5} {i ep:Nat} {od:Pb} {es:Array DictEntry}
end
end PySem
namespace L2
open PySem PySem.Spec PyProof.Rows
section
variable {X:Cx} {e:Od} {te:TE}
end
end L2
namespace BB
open PySem L2
inductive Top where
 | nm (n:Nd) (m:Nat)
 | th (t:Th)
def bl:List Top->List Th
 | []=>[]
 | .nm n m::S=>.knot n ((bl S).take m)::(bl S).drop m
 | .th t::S=>t::bl S
def TopsOk:List Top->Prop
 | []=>True
 | .nm _ m::S=>m<=(bl S).length/\TopsOk S
 | .th _::S=>TopsOk S
theorem TopsOk.drop:∀ {l:List Top} (i:Nat),TopsOk l->TopsOk (l.drop i)
 | l,0,h=>by rw [OW];exact h
 | [],i+1,h=>by rw [List.drop_nil];exact h
 | .nm n m::S,i+1,h=>by
   rw [TopsOk] at h;rw [List.drop_succ_cons];exact TopsOk.drop i h.2
 | .th t::S,i+1,h=>by
   rw [TopsOk] at h;rw [List.drop_succ_cons];exact TopsOk.drop i h
theorem oj:∀ l:List Top,(bl l).length<=l.length
 | []=>M8 _
 | .nm n m::S=>by
   have:=oj S;rw [bl,MZ,MZ,N9];omega
 | .th t::S=>by
   have:=oj S;rw [bl,MZ,MZ];omega
theorem At.same {H:Hp} {t:Th} {a p:M5} {xs:List V} (h:At H t a) (ha:H a=some (.tup xs)) (hp:H p=some (.tup xs)):At H t p:=by
 cases t with
 | knot n ks =>
   rw [At] at h ⊢;obtain ⟨h0,as,h1,h2⟩:=h;rw [ha] at h1;exact ⟨h0,as,by rw [hp,<- h1],h2⟩
 | call s k =>
   rw [At] at h ⊢;rw [hp,<- ha,h]
mutual
def Th.fill (f:Int->Int->Th):Th->Th
 | .knot n ks=>.knot n (fills f ks)
 | .call s k=>f s k
def fills (f:Int->Int->Th):List Th->List Th
 | []=>[]
 | t::ts=>t.fill f::fills f ts
end
theorem iN (f:Int->Int->Th):∀ ts:List Th,(fills f ts).length=ts.length
 | []=>by rw [fills]
 | t::ts=>by rw [fills,MZ,MZ,iN f ts]
mutual
theorem fH:∀ t:Th,t.fill Th.call=t
 | .knot n ks=>by rw [Th.fill,mS ks]
 | .call s k=>by rw [Th.fill]
theorem mS:∀ ts:List Th,fills Th.call ts=ts
 | []=>by rw [fills]
 | t::ts=>by rw [fills,fH t,mS ts]
end
def cI (f:Int->Int->Th):Th->Top
 | .knot n ks=>.nm n ks.length
 | .call s k=>.th (f s k)
theorem j5 (f:Int->Int->Th):∀ (n:Nat) (ts:List Th),aG ts<=n->∀ S,bl ((walks ts).map (cI f)++S)=fills f ts++bl S/\(TopsOk S->TopsOk ((walks ts).map (cI f)++S))
 | _,[],_,S=>by rw [walks,fills];exact ⟨rfl,fun h=>h⟩
 | 0,t::ts,hn,S=>by
   have:=t.size_pos;rw [aG] at hn;omega
 | n+1,t::ts,hn,S=>by
   have hs:=t.size_eq;rw [aG] at hn;have h2:=j5 f n ts (by omega) S;have e:(walks (t::ts)).map (cI f)++S=cI f t::((walks t.kids).map (cI f)++((walks ts).map (cI f)++S)):=by rw [walks,t.walk_eq];simp
   have h1:=j5 f n t.kids (by omega) ((walks ts).map (cI f)++S);rw [e];cases t with
   | knot nm ks =>
     simp only [Th.kids] at h1 ⊢;refine ⟨?_,fun hS=>?_⟩
     · show bl (.nm nm ks.length::_)=_;rw [bl,h1.1,h2.1,<- iN f ks,List.take_left,List.drop_left,fills,Th.fill];rfl
     · show TopsOk (.nm nm ks.length::_);rw [TopsOk];refine ⟨?_,h1.2 (h2.2 hS)⟩;rw [h1.1,Na,iN];exact QA _ _
   | call s k =>
     simp only [Th.kids,walks,OC,NK] at h1 ⊢;refine ⟨?_,fun hS=>?_⟩
     · show bl (.th (f s k)::_)=_;rw [bl,h2.1,fills,Th.fill];rfl
     · show TopsOk (.th (f s k)::_);rw [TopsOk];exact h2.2 hS
theorem gU (f:Int->Int->Th) (t:Th):bl (t.walk.map (cI f))=[t.fill f]/\TopsOk (t.walk.map (cI f)):=by
 have h:=j5 f _ [t] (M8 _) [];have e:walks [t]=t.walk:=by simp [walks]
 rw [e,Nz] at h;refine ⟨?_,h.2 (by rw [TopsOk];trivial)⟩;rw [h.1,fills,fills,bl];rfl
theorem At.width {H:Hp} {t:Th} {a:M5} {xs:List V} (h:At H t a) (ha:H a=some (.tup xs)):xs.length<=t.size+2:=by
 cases t with
 | knot n ks =>
   rw [At] at h;obtain ⟨_,as,h1,h2⟩:=h;rw [ha] at h1;cases h1;have:=h2.length;have:=cU ks;rw [MZ,MX,Th.size];omega
 | call s k =>
   rw [At] at h;rw [ha] at h;cases h;rw [Th.size];exact M8 _
end BB
namespace PySem
open Sem (wp)
end PySem
namespace L2
open PySem PySem.Spec PyProof.Rows BB
end L2
namespace BB
open PySem L2
theorem ng {k:Nat} {A:NT} (hr:L2.Room k A):A.units+150+2<cLine:=by
 have:=hr.un;omega
end BB
namespace BB
open PySem L2
end BB
namespace BB
open PySem L2
end BB
namespace L2
open PySem PySem.Spec PySem.SeqAt PyProof.Rows BB
open Classical in
theorem nn {X:Cx} {pins:List (M5×Pb)} {σ:St} {H:Hp} {s:M7} (I:Inv X pins σ H s) {ds es:List Dv} {vs ws:List V} {its xx:List M1} {A:NT} (r1:Vals vs its) (r2:Vals ws xx) (zH:DAts H ds vs) (yP:DAts H es ws) (hu:A.units+dQ ds+2<cLine) :
 ∀ j (h1:j<its.toArray.size) (h2:j<xx.toArray.size),EqAt A.in1 s its.toArray[j] xx.toArray[j] (decide (ds[j]?=es[j]?)):=by
 intro j h1 h2;have l1:its.length=ds.length:=by rw [<- r1.length,zH.length]
 have l2:xx.length=es.length:=by rw [<- r2.length,yP.length]
 have Ai:j<ds.length:=by rw [<- l1];simpa using h1
 have zI:j<es.length:=by rw [<- l2];simpa using h2
 have e1:ds[j]?=some ds[j]:=M3 Ai;have e2:es[j]?=some es[j]:=M3 zI;obtain ⟨x',ze,dx⟩:=zH.at e1;obtain ⟨y',CY,dy⟩:=yP.at e2;obtain ⟨u',AO,Dl⟩:=r1.get ze;obtain ⟨v',zC,Dm⟩:=r2.get CY;have e3:decide (ds[j]?=es[j]?)=decide (ds[j]=es[j]):=by rw [e1,e2];simp
 have e4:its.toArray[j]=u':=by
  rw [M3 (by rw [l1];exact Ai)] at AO;simpa using AO
 have e5:xx.toArray[j]=v':=by
  rw [M3 (by rw [l2];exact zI)] at zC;simpa using zC
 rw [e3,e4,e5];have q2:=j6 e1;refine pj I _ ds[j] es[j] (M8 _) x' y' u' v' A.in1 dx dy Dl Dm ?_;show A.units+1+_<cLine;omega
open Classical in
theorem kF {ds es:List Dv} (hl:ds.length=es.length):(NU ds.length).all (fun j=>decide (ds[j]?=es[j]?))=decide (ds=es):=by
 by_cases h:ds=es
 · subst h;rw [decide_eq_true rfl];simp
 · rw [decide_eq_false h];refine OI.mpr fun z=>h (QW fun j=>?_);by_cases hj:j<ds.length
   · exact of_decide_eq_true (Oa.mp z j (Pk.mpr hj))
   · rw [OJ (by omega),OJ (by omega)]
def xj (K:MY) (B:Nat):R2:=fun x y H Q=>∃ a b vs ws ds es,x=.ref a/\y=.ref b/\SqL K H a vs/\SqL K H b ws/\DAts H ds vs/\DAts H es ws/\dQ ds<=B/\∀ b:Bool,(b=true↔ds≠es)->Q (.bl b) H
open Classical in
theorem uO {X:Cx} {B:Nat} (hu:X.A.units+B+2<cLine):OpR X (Pf .NotEq) (xj X.K B):=by
 intro pins s σ H x y v u Q I rx ry h;obtain ⟨a,b,vs,ws,ds,es,rfl,rfl,ha,hb,zH,yP,hB,q⟩:=h;cases rx;cases ry;obtain ⟨its,r1,p1,_⟩:=I.list ha;obtain ⟨xx,r2,p2,_⟩:=I.list hb;have l1:its.length=ds.length:=by rw [<- r1.length,zH.length]
 have l2:xx.length=es.length:=by rw [<- r2.length,yP.length]
 by_cases hl:ds.length=es.length
 · have xQ:its.toArray.size=xx.toArray.size:=by rw [M9,M9];omega
   refine RcNeAt.lists p1.isList p2.isList xQ (by omega) (nn I r1 r2 zH yP (by omega)) X.prog X.w X.xe _ ?_
   have e:(NU its.toArray.size).all (fun j=>decide (ds[j]?=es[j]?))=decide (ds=es):=by
    rw [M9,l1];exact kF hl
   refine ⟨.bl (!decide (ds=es)),H,I,by rw [e];rfl,q _ ?_⟩;simp
 · refine RcNeAt.lists_lengths p1.isList p2.isList (by rw [M9,M9,l1,l2];simpa using hl) (by omega) X.prog X.w X.xe _ ⟨.bl true,H,I,rfl,q _ ?_⟩;exact ⟨fun _ z=>hl (by rw [z]),fun _=>rfl⟩
def xb (K:MY) (B:Nat):R2:=fun x y H Q=>∃ a b vs ws ds es,x=.ref a/\y=.ref b/\SqT K H a vs/\SqT K H b ws/\DAts H ds vs/\DAts H es ws/\dQ ds<=B/\∀ b:Bool,(b=true↔ds≠es)->Q (.bl b) H
open Classical in
theorem u6 {X:Cx} {B:Nat} (hu:X.A.units+B+2<cLine):OpR X (Pf .NotEq) (xb X.K B):=by
 intro pins s σ H x y v u Q I rx ry h;obtain ⟨a,b,vs,ws,ds,es,rfl,rfl,ha,hb,zH,yP,hB,q⟩:=h;cases rx;cases ry;obtain ⟨its,r1,p1,_⟩:=I.tuple ha;obtain ⟨xx,r2,p2,_⟩:=I.tuple hb;have l1:its.length=ds.length:=by rw [<- r1.length,zH.length]
 have l2:xx.length=es.length:=by rw [<- r2.length,yP.length]
 refine RcNeAt.tuples (show s.heap.IsTuple a its.toArray from p1) (show s.heap.IsTuple b xx.toArray from p2) (by omega) (nn I r1 r2 zH yP (by omega)) X.prog X.w X.xe _ ?_
 have e:((NU (min its.toArray.size xx.toArray.size)).all (fun j=>decide (ds[j]?=es[j]?)) && its.toArray.size == xx.toArray.size)=decide (ds=es):=by
  rw [M9,M9,l1,l2];by_cases hl:ds.length=es.length
  · rw [<- hl,Nat.min_self,kF hl];simp
  · rw [decide_eq_false (fun z=>hl (by rw [z]))];simp [hl]
 refine ⟨.bl (!decide (ds=es)),H,I,by rw [e];rfl,q _ ?_⟩;simp
end L2
namespace BB
open PySem L2
end BB
namespace BB
open PySem L2
end BB
namespace L2
open PySem PySem.Spec PySem.SeqAt PyProof.Rows BB
end L2
namespace BB
open PySem L2
end BB
namespace BB
open PySem L2
end BB
namespace L2
open PySem PySem.Spec PyProof.Rows BB
end L2
namespace BB
open PySem L2
end BB
namespace BB
open PySem L2
end BB
namespace L2
open PySem PySem.Spec PySem.Calls PyProof.Rows PySem.W
structure rB (K:Frag) (C:M5):Prop where
 exc:excIn K C [.type "ValueError",.type "Exception",.type "BaseException",.type "object"] "ValueError.__new__"=true
 ga:findIn K (.ref C) "__getattribute__"=some (some (.builtin "BaseException.__getattribute__"))
 gt:findIn K (.ref C) "__getattr__"=some none
 cl:findIn K (.ref C) "__class__"=some (some (.builtin "object.__class__"))
 mo:mroIn K C (.type "object")=some true
 mb:mroIn K C (.type "BaseException")=some true
section
variable {prog:NC} {w:NP} {A:NT} {E:M1->M7->Prop} {h:Oo} {g:Array GenState} {d:Drawn} {t:Nat} {os:QZ} {a C:M5} {o:Pb} {K:Frag}
end
end L2
namespace L2
open PySem PySem.Spec PySem.Calls PyProof.Rows PySem.W
theorem ObjOk.there {P:NC} {w:NP} {H:Hp} {h:Oo} {a:M5} {o:HO} (x:ObjOk P w H h a o):∃ ob,h.get? a=some ob:=by
 cases o with
 | lst xs=>obtain ⟨_,_,_,_,e⟩:=x;exact ⟨_,e⟩
 | tup xs=>obtain ⟨_,_,_,_,e⟩:=x;exact ⟨_,e⟩
 | dK xM=>obtain ⟨_,_,_,_,o,_,_,e,_⟩:=x;exact ⟨_,e⟩
 | dT xM=>obtain ⟨_,_,_,_,o,_,_,e,_⟩:=x;exact ⟨_,e⟩
 | set S n=>obtain ⟨o,_,_,_,e,_⟩:=x;exact ⟨_,e⟩
 | ins C dx fs=>obtain ⟨_,_,_,e,_⟩:=x;exact ⟨_,e⟩
 | own y=>obtain ⟨_,e⟩:=x;exact ⟨_,e⟩
 | xd fs=>obtain ⟨_,⟨_,_,_,e,_⟩,_⟩:=x;exact ⟨_,e⟩
 | rng lo hi=>obtain ⟨_,_,_,e⟩:=x;exact ⟨_,e⟩
 | frz ob u=>obtain ⟨e,_⟩:=x;exact ⟨_,e⟩
 | tbl ps=>exact ⟨_,(show h.get? a=some _ from x)⟩
 | met f y=>exact ⟨_,(show h.get? a=some _ from x)⟩
 | ext φ=>obtain ⟨_,⟨_,e⟩,_⟩:=x;exact ⟨_,e⟩
def CX1 (P:NC) (w:NP):CXT:=fun outer H s E e s'=>∃ (ea C:M5) (a0:M1) (B:Oo) (H':Hp),
 e=.ref ea/\s'.os=s.os/\RH s'.gens/\Un (frs outer) [] H H' s.heap s'.heap/\HOk P w H' s'.heap/\Heap.FlyingW B outer ea (.ref C) a0 s'.heap ∧
 (∀ b o,s.heap.get? b=some o->b∉frs outer->∃ o',B.get? b=some o'/\(H b=none->o'=o))/\(∀ b u,H' b=some u->∃ o',B.get? b=some o')/\E (.ref C) none H'
theorem lX {P:NC} {w:NP} {H':Hp} {B h h':Oo} (hok:HOk P w H' h) (k1:B.StaysIn h) (k2:B.StaysIn h') (b2:∀ b u,H' b=some u->∃ o',B.get? b=some o'):HOk P w H' h':=fun a o e =>
 (hok a o e).stay (fun b u hb q=>by
  have ht:∃ v,H' b=some v:=by
   rcases hb with rfl | hb
   · exact ⟨_,e⟩
   · exact ⟨_,hb⟩
  obtain ⟨v,hv⟩:=ht;obtain ⟨o',yJ⟩:=b2 b v hv;have:=k1 b o' yJ;rw [q] at this;cases this;exact k2 b _ yJ) (fun _ q=>q) fun _ _ q=>q
theorem oA {fs:List M5} {H H1 H':Hp} {h h1 h2 h':Oo} {l:List M5} {B:Oo} (u1:Un fs [] H H1 h h1) (u2:Un l [] H1 H' h1 h2) (hl:∀ b o,h.get? b=some o->b∈l->b∈fs)
 (b1:∀ b o,h1.get? b=some o->b∉l->∃ o',B.get? b=some o'/\(H1 b=none->o'=o)) (st:B.StaysIn h') (up:h2.UpToSlots h')
 (hf:∀ b∈fs,H b=none/\∃ o,h.get? b=some o/\∀ vs,o.data≠.fields vs) :
 Un fs [] H H' h h'/\∀ b o,h.get? b=some o->b∉fs->∃ o',B.get? b=some o'/\(H b=none->o'=o):=by
 have nx:∀ b:M5,b∉([]:List M5):=fun b=>by simp
 have bb:∀ b o,h.get? b=some o->b∉fs->∃ o',B.get? b=some o'/\(H b=none->o'=o):=fun b o q nf=>by
  obtain ⟨o1,e1⟩:=u1.there b o q (nx b);obtain ⟨o',e',g⟩:=b1 b o1 e1 fun z=>nf (hl b o q z);refine ⟨o',e',fun n=>?_⟩;have:=u1.keep b o q n nf (nx b);rw [e1] at this;cases this;exact g (u1.free b _ q n (nx b))
 have sl:∀ b o,h.get? b=some o->H b=none->b∈fs->∃ sl,h'.get? b=some { o with slots:=sl }:=fun b o q n m=>by
  obtain ⟨s1,e1⟩:=u1.slot b o q n m (nx b);obtain ⟨s2,e2⟩:=u2.any e1 (u1.free b o q n (nx b)) (nx b);obtain ⟨_,o0,q0,nf⟩:=hf b m;rw [q] at q0;cases q0;obtain ⟨s3,e3⟩:=up b _ e2 nf;exact ⟨s3,e3⟩
 refine ⟨⟨fun b o q n nf _=>?_,fun b o q n m _=>sl b o q n m,fun b o q n _=>?_,fun b o q _=>?_,fun b xs q=>u2.tups b xs (u1.tups b xs q),fun b o u q=>u2.frzs b o u (u1.frzs b o u q),fun b ps q=>?_⟩,bb⟩
 · obtain ⟨o',e',g⟩:=bb b o q nf;rw [<- g n];exact st b o' e'
 · obtain ⟨o1,e1⟩:=u1.there b o q (nx b);exact u2.free b o1 e1 (u1.free b o q n (nx b)) (nx b)
 · by_cases m:b∈fs
   · obtain ⟨n,_⟩:=hf b m;obtain ⟨s3,e3⟩:=sl b o q n m;exact ⟨_,e3⟩
   · obtain ⟨o',e',_⟩:=bb b o q m;exact ⟨o',st b o' e'⟩
 · obtain ⟨m1,e1⟩:=u1.tbls b ps q;obtain ⟨m2,e2⟩:=u2.tbls b _ e1;exact ⟨m1++m2,by rw [e2,Array.append_assoc]⟩
section
variable {P:NC} {w:NP} {K:MY} {mg:Nd->Option M1} {base:Oo} {N:List Nd} {qual:Nd} {scope:Qq} {f:M5} {cd:M1} {A:NT} {outer:List Env} {s:M7} {H:Hp} {E:XK}
theorem lV {l:List Env} {env:Env} {L:M5} (hf:env.frame=some L):frs (env::l)=L::frs l:=by unfold frs;rw [PH,hf]
theorem cD:Passes (CX1 P w) (kI (CX1 P w) P w K mg base N qual scope f cd A outer s H E) E:=by
 intro pins σ H1 s1 e s2 I h;obtain ⟨ea,C,a0,B,H',rfl,zj,Aj,un,hok,AA,b1,b2,q⟩:=h;show Nv _ _ (leaving _ _) _ _ s2;refine wpAny_leaves_onW (E:=fun e' CP=>CX1 P w outer H s E e' CP) I.ok.frames rfl AA fun h' BP up=>?_
 obtain ⟨U,FA⟩:=oA (fs:=frs outer) (H:=H) (h:=s.heap) (l:=frs (PY qual scope s.heap.objs.size f cd::outer)) (B:=B) (h':=h') I.base un (fun b o hb z=>by
  rw [lV (L:=s.heap.objs.size) rfl] at z;rcases Nb.mp z with rfl | z
  · exact absurd (Np hb) (Ou _)
  · exact z) b1 BP.1 up (fun b hb=>⟨I.ok.frf b hb,(I.ok.funs.mem hb).2⟩)
 exact ⟨ea,C,a0,B,H',rfl,zj.trans I.os,Aj,U,lX hok AA.1 BP.1 b2,BP,FA,b2,q⟩
def uU (te:TE) (C:M5) (E:XK):TS:=fun _ σ H=>te σ H fun _ H1=>E (.ref C) none H1
theorem tQ {h:Oo} {C:M5} {x:Nd} (X:K.In h) (F:rB K C) (hm:mg x=some (.ref C)):OwnCls x C [.type "ValueError",.type "Exception",.type "BaseException",.type "object"] "ValueError.__new__" mg h:=by
 have q:=F.exc;refine ⟨hm,?_⟩;unfold excIn at q;split at q
 · rename_i dd cd sl ho
   split at q
   · rename_i C' bm k0 k1 k2 k3 n k5 hm hs
     simp only [NX,beq_iff_eq,RV] at q;obtain ⟨⟨⟨⟨⟨rfl,rfl⟩,Dn⟩,ht⟩,hok⟩,Dp⟩:=q;obtain ⟨nm,bs,mro,ns,qn,hd,sn,sub,ab,col,del⟩:=cd;dsimp only at hm Dn hok Dp;subst hm Dn
     have BQ:sl=#[k0,k1,k2,k3,some (.builtin "ValueError.__new__"),k5]:=by
      obtain ⟨l⟩:=sl;simp only at hs;rw [hs]
     subst BQ;exact ⟨bm,ns,nm,qn,bs,hd,sn,sub,ab,col,dd,k0,k1,k2,k3,k5,_,X _ _ ho,.of_isNs (isNs_of_in X hok),nsMap_none_of_in X hok Dp,tail_of_in X ht⟩
   · cases q
 · cases q
theorem bx {C:M5} {x:Nd} {e0:Od} {te:TE} {np xV pos:Qy} (F:rB K C) (hm:mg x=some (.ref C)) (he:PE (kI (CX1 P w) P w K mg base N qual scope f cd A outer s H E) e0 te)
 (hx:(PY qual scope s.heap.objs.size f cd).kindOf x=some .globalImplicit:=by rfl)
 (xF:NV [e0] (PY qual scope s.heap.objs.size f cd)=[(false,Pn e0 (PY qual scope s.heap.objs.size f cd))]:=by rfl) (hd:(x == ("__debug__":Nd))=false:=by decide) :
 PS (kI (CX1 P w) P w K mg base N qual scope f cd A outer s H E) (.Raise (some (.Call (.Name x np) [e0] [] xV)) none pos) (uU te C E):=by
 intro pins s1 σ H1 D I h;obtain ⟨tl,N',nm,q,bs,hdct,sn,sub,ab,col,dd,k0,k1,k2,k3,k5,mN,hC,hN,Dp,T⟩:=(tQ I.mod.kin F hm).obj
 refine wpAny_Raise_call_subT (C:=C) (nm:=nm) (q:=q) (N:=N') (bs:=bs) (bm:=tl) (hdct:=hdct) (sn:=sn) (sub:=sub) (ab:=ab) (col:=col) (dd:=dd) (k0:=k0) (k1:=k1) (k2:=k2) (k3:=k3) (k5:=k5)
  PySem.F.excBase_ValueError (mN:=mN) (T.hasType PySem.F.excBase_ValueError.hasBase) (I.ok.hd rfl) (by show (QG xV (NV [e0] (PY qual scope s.heap.objs.size f cd))).any (·.1)=false;rw [xF];rfl) Dp (gN I hx hm ⟨rfl,?_⟩ hd)
 show Nv _ _ (evalArgs _ true (QG xV (NV [e0] (PY qual scope s.heap.objs.size f cd))) []) _ _ _;rw [xF];refine Qf (O8 (thn (he pins s1 σ H1 _ I h) fun v s2 ⟨y,H2,I2,r2,q2⟩=>P6 ⟨rfl,by show 1<=Ny;decide,I2.bk _ _ hC,hN.keeps I2.bk,T.keeps I2.bk,fun h' e hx=>?_⟩));show Nv _ _ (leaving _ _) _ _ _;have FF:=I2.stack;have hl:∀ env∈PY qual scope s.heap.objs.size f cd::outer,∀ a,env.frame=some a->a∈frs (PY qual scope s.heap.objs.size f cd::outer):=fun env he a ha=>RF.mpr ⟨env,he,ha⟩;refine wpAny_leaves_madeW (base:=hideAll s2.heap (frs (PY qual scope s.heap.objs.size f cd::outer))) (h:=s2.heap) I.ok.frames rfl (fun b o z=>of_hideAll _ z) (funFrames_hide FF hl) hx fun h2 t AA tup tn up=>?_;have nf:∀ b u,H2 b=some u->b∉frs (PY qual scope s.heap.objs.size f cd::outer):=fun b u e z=>by rw [I2.stkFree b z] at e;cases e
 obtain ⟨U,FA⟩:=oA (fs:=frs outer) (H:=H) (H1:=H2) (H':=H2) (h:=s.heap) (h1:=s2.heap) (h2:=h') (l:=frs (PY qual scope s.heap.objs.size f cd::outer)) (B:=hideAll s2.heap (frs (PY qual scope s.heap.objs.size f cd::outer))) (h':=h2) I2.base (Un.kept hx.keeps) (fun b o hb z=>by
  rw [lV (L:=s.heap.objs.size) rfl] at z;rcases Nb.mp z with rfl | z
  · exact absurd (Np hb) (Ou _)
  · exact z) (fun b o hb z=>⟨o,hideAll_get _ hb z,fun _=>rfl⟩) AA.1 up (fun b hb=>⟨I.ok.frf b hb,(I.ok.funs.mem hb).2⟩)
 have b2:∀ b u,H2 b=some u->∃ o',(hideAll s2.heap (frs (PY qual scope s.heap.objs.size f cd::outer))).get? b=some o':=fun b u e=>by
  obtain ⟨o,ho⟩:=(I2.hok b u e).there;exact ⟨o,hideAll_get _ ho (nf b u e)⟩
 exact ⟨e,C,.ref t,_,H2,rfl,I2.os,I2.bare,U,lX I2.hok (fun b o z=>of_hideAll _ z) AA.1 b2,AA,FA,b2,q2⟩
end
end L2
namespace L2
open PySem PySem.Spec PySem.Calls PyProof.Rows PySem.W
section
variable {X:Cx} {pins:List (M5×Pb)} {σ:St} {H:Hp} {s:M7}
def Cx.tryB (X:Cx) (pins:List (M5×Pb)) (R:St->M1->Hp->Prop):Cx:={ X with
 pn:=X.pn++pins
 xe:=fun e s'=>∃ xZ H1 s1,Inv X pins xZ H1 s1/\CX1 X.prog X.w X.stack H1 s1 (fun c _ H'=>R xZ c H') e s' }
def Cx.suite (X:Cx) (ea:M5) (oe:Pb):Cx:={ X with
 A:=X.A.mark (some (.ref ea))
 calm:=false
 pn:=X.pn++[(ea,oe)]
 xe:=fun _ _=>False }
theorem Inv.tryB (I:Inv X pins σ H s) (R:St->M1->Hp->Prop):Inv (X.tryB pins R) [] σ H s :=
 ⟨⟨I.ok.mod,I.ok.kind,I.ok.glob,I.ok.blt,I.ok.above,I.ok.inj,I.ok.has,I.ok.cab,I.ok.hd,I.ok.frames,I.ok.stk,I.ok.exf,I.ok.bs,I.ok.bsz,I.ok.noex,I.ok.exfs,I.ok.funs,I.ok.frf⟩,
   I.os,I.bare,I.base,I.loc,I.cell,I.free,I.freeC,fun p hp=>I.pin p (by simpa [Cx.tryB] using hp),I.hok,I.len⟩
theorem Inv.untryB {R:St->M1->Hp->Prop} {yK:List (M5×Pb)} (I:Inv (X.tryB pins R) yK σ H s):Inv X pins σ H s :=
 ⟨⟨I.ok.mod,I.ok.kind,I.ok.glob,I.ok.blt,I.ok.above,I.ok.inj,I.ok.has,I.ok.cab,I.ok.hd,I.ok.frames,I.ok.stk,I.ok.exf,I.ok.bs,I.ok.bsz,I.ok.noex,I.ok.exfs,I.ok.funs,I.ok.frf⟩,
   I.os,I.bare,I.base,I.loc,I.cell,I.free,I.freeC,fun p hp=>I.pin p (OS _ hp),I.hok,I.len⟩
theorem Inv.suite {ea:M5} {oe:Pb} (I:Inv X pins σ H s) (h:s.heap.get? ea=some oe/\H ea=none/\ea≠X.env.locals/\ea∉X.fs/\∀ v,oe.data≠.cell v):Inv (X.suite ea oe) pins σ H s :=
 ⟨⟨I.ok.mod,I.ok.kind,I.ok.glob,I.ok.blt,I.ok.above,I.ok.inj,I.ok.has,I.ok.cab,(fun z=>nomatch z),I.ok.frames,I.ok.stk,I.ok.exf,I.ok.bs,I.ok.bsz,I.ok.noex,I.ok.exfs,I.ok.funs,I.ok.frf⟩,
   I.os,I.bare,I.base,I.loc,I.cell,I.free,I.freeC,fun p hp=>by
    have hp:p∈(X.pn++[(ea,oe)])++pins:=hp;rcases NF.mp hp with hp | hp
    · rcases NF.mp hp with hp | hp
      · exact I.pin p (OS _ hp)
      · obtain rfl:=Nc.mp hp;exact h
    · exact I.pin p (NJ _ hp),I.hok,I.len⟩
theorem Inv.unsuite {ea:M5} {oe:Pb} (I:Inv (X.suite ea oe) pins σ H s) (hd:X.calm=true->X.A.handled=none):Inv X pins σ H s :=
 ⟨⟨I.ok.mod,I.ok.kind,I.ok.glob,I.ok.blt,I.ok.above,I.ok.inj,I.ok.has,I.ok.cab,hd,I.ok.frames,I.ok.stk,I.ok.exf,I.ok.bs,I.ok.bsz,I.ok.noex,I.ok.exfs,I.ok.funs,I.ok.frf⟩,
   I.os,I.bare,I.base,I.loc,I.cell,I.free,I.freeC,fun p hp=>I.pin p (by
    show p∈(X.pn++[(ea,oe)])++pins;rcases NF.mp hp with hp | hp
    · exact OS _ (OS _ hp)
    · exact NJ _ hp),I.hok,I.len⟩
end
theorem SP.untryB {X:Cx} {pins:List (M5×Pb)} {R:St->M1->Hp->Prop} {D:Ends} {f:Flow} {s':M7} (h:SP (X.tryB pins R) [] D f s'):SP X pins D f s':=by
 cases f with
 | next=>obtain ⟨f',H',I,q⟩:=h;exact ⟨f',H',I.untryB,q⟩
 | brk=>obtain ⟨f',H',I,q⟩:=h;exact ⟨f',H',I.untryB,q⟩
 | cont=>obtain ⟨f',H',I,q⟩:=h;exact ⟨f',H',I.untryB,q⟩
 | ret u=>obtain ⟨v,f',H',I,r,q⟩:=h;exact ⟨v,f',H',I.untryB,r,q⟩
end L2
namespace L2
open PySem PySem.Spec PySem.Calls PyProof.Rows PySem.W
section
variable {P:NC} {w:NP} {K:MY} {mg:Nd->Option M1} {base:Oo}
theorem Fun.ok1 {x qual:Nd} {st:OP} {f:M5} {fd:Pl} {N ps:List Nd} {k:Nat} {sp:Sp} (F:Fun K x qual st f fd) (S:au N ps (am st)) (len:∀ vs H Q E,sp vs H Q E->vs.length=ps.length)
 (yx:∀ (xy:M1) (A:NT) (outer:List Env) (s:M7) (H:Hp) (vs:List V) (Q:VK) (E:XK),Room k (A.deeper (PY qual (am st) s.heap.objs.size f xy))->sp vs H Q E →
  ∃ t,PSs (kI (CX1 P w) P w K mg base N qual (am st) f xy A outer s H E) (bj st) t/\t { nx:=fun _ H'=>Q .non H',rt:=Q } (start N vs) H):FnOk P w K mg base (CX1 P w) (k+1) f fd ps sp:=by
 obtain ⟨oc,od,kV,doc,pm,an,xy,ct,AK,rfl,lk,zA⟩:=F.ex;exact uA lk zA S len fun A outer s H vs Q E hr yS=>yx xy A outer s H vs Q E hr yS
end
def qN (sp:Sp) (yn:List V) (R:St->M1->Hp->Prop) (t:TA):TE:=fun σ H Q=>t σ H fun vs H1=>sp (vs++yn) H1 Q fun c _ H'=>R σ c H'
theorem rb {X:Cx} {pins:List (M5×Pb)} {R:St->M1->Hp->Prop} {k:Nat} {f:M5} {fd:Pl} {ps:List Nd} {sp:Sp} {yn:List V} {ds:List M1} {x:Nd} {p pos:Qy} {e:Od} {es:List Od} {t:TA}
 (F:FnOk X.prog X.w X.K X.mg X.base (CX1 X.prog X.w) k f fd ps sp) (hr:Room k X.A) (hg:Gl X x) (hm:X.mg x=some (.ref f)) (hk:O5 X.K (.ref f)=true) (hb:Binds X.K fd ps ds) (hd:Vals yn ds)
 (ha:PA (X.tryB pins R) (e::es) t) (zV:(x == ("__debug__":Nd))=false:=by decide) (he:NV (e::es) X.env=(false,Pn e X.env)::NV es X.env:=by rfl) (yk:(QG pos (NV es X.env)).any (·.1)=false:=by rfl) :
 PE (X.tryB pins R) (.Call (.Name x p) (e::es) [] pos) (qN sp yn R t):=by
 intro yK s σ H Q I h;refine O7 (gN I hg hm ?_ zV);refine RD (h₀:=X.base) I.ok.mod.kin hk (thn (ha pos yK s σ H _ I h) fun us s1 ⟨vs,H1,I1,r,q⟩=>⟨I1.kIn,?_⟩) he yk;have r2:Vals (vs++yn) (us++ds):=r.append hd;have hl:(us++ds).length=ps.length:=by rw [<- r2.length];exact F.len _ _ _ _ q
 refine wpAny_call (Qi (F.run X.A X.stack s1 H1 ⟨us,[]⟩ (us++ds) (vs++yn) Q _ hr I1.env0 (hb s1 us I1.kIn hl) r2 q) fun r s' hq=>?_);cases r with
 | error e=>exact ⟨σ,H1,s1,I1.untryB,hq⟩
 | ok fl =>
   cases fl with
   | ret u=>exact I1.after hq
   | next=>exact OF hq
   | brk=>exact OF hq
   | cont=>exact OF hq
end L2
namespace L2
open PySem PySem.Spec PySem.Calls PyProof.Rows PySem.SeqAt
theorem iR {k:Nat} {A:NT} (hr:Room k A):A.units+2<cLine:=by
 have:=hr.units;omega
end L2
namespace L2
open PySem PySem.Spec PySem.Calls PyProof.Rows
def Its (x:Nd):It:=⟨fun i _=>i<x.cps.size,fun i H v H'=>H'=H/\∃ c,x.cps[i]?=some c/\v=.str ⟨#[c]⟩,fun i _=>x.cps.size=i⟩
theorem jU {P:NC} {w:NP} {K:MY} {tg:Od} (x:Nd) (t:Tok) (it:M5):Turn P w K tg (Its x) [it] it (fun i h=>h.IsStrIter it "str_ascii_iterator" x t i) where
 mem:=by simp
 obj:=fun i h st b hb=>by
  have e:b=it:=by simpa using hb
  subst e;obtain ⟨o,e,c,d⟩:=st;exact ⟨o,e,fun v z=>by rw [d] at z;cases z⟩
 keep:=fun i h h' st k=>let ⟨o,ho,r⟩:=st;⟨o,k it (by simp) o ho,r⟩
 item:=by
  intro X hP hw hK hc i pins s σ H E I hf st hg;subst hP hw hK;obtain ⟨f0,f1,f2,f3,f4,f5⟩:=hf it (by simp);have hg:i<x.cps.size:=hg;refine wpAny_pyNext_ascii_item st (c:=x.cps[i]) (by simp [hg]) fun h' yp sb=>?_;have I1:Inv X pins σ H { s with heap:=h',toks:=s.toks+1 }:=I.turned (fun b o hb e=>(sb.2 b hb).trans e) f0 f1 f3 f4 f5;obtain ⟨o,e,c,d⟩:=id yp;exact ⟨_,rfl,jN (s:={ s with heap:=h',toks:=s.toks+1 }) e c d (by decide) ⟨.str ⟨#[x.cps[i]]⟩,H,I1,⟨_,rfl⟩,⟨rfl,_,by simp [hg],rfl⟩,yp,fun b hb=>(hf b hb).1⟩⟩
 done:=by
  intro X hP hw hK hc i pins s σ H E I hf st hg;subst hP hw hK;obtain ⟨f0,f1,f2,f3,f4,f5⟩:=hf it (by simp);have hg:x.cps.size=i:=hg;exact wpAny_pyNext_ascii_end (I.ok.hd hc) st (by simp [<- hg]) fun h' eb=>⟨rfl,I.turned (t':=s.toks) (fun b o hb e=>eb b o hb e) f0 f1 f3 f4 f5⟩
 self:=fun _ _ _ _ _ st h=>wpAny_pyIter_striter_ascii st h
theorem qj {P:NC} {w:NP} {K:MY} {tg:Od} (x:Nd) (t:Tok) (it:M5):Turn P w K tg (Its x) [it] it (fun i h=>h.IsStrIter it "str_iterator" x t i) where
 mem:=by simp
 obj:=fun i h st b hb=>by
  have e:b=it:=by simpa using hb
  subst e;obtain ⟨o,e,c,d⟩:=st;exact ⟨o,e,fun v z=>by rw [d] at z;cases z⟩
 keep:=fun i h h' st k=>let ⟨o,ho,r⟩:=st;⟨o,k it (by simp) o ho,r⟩
 item:=by
  intro X hP hw hK hc i pins s σ H E I hf st hg;subst hP hw hK;obtain ⟨f0,f1,f2,f3,f4,f5⟩:=hf it (by simp);have hg:i<x.cps.size:=hg;refine wpAny_pyNext_wide_item st (c:=x.cps[i]) (by simp [hg]) fun h' yp sb=>?_;have I1:Inv X pins σ H { s with heap:=h',toks:=s.toks+1 }:=I.turned (fun b o hb e=>(sb.2 b hb).trans e) f0 f1 f3 f4 f5;obtain ⟨o,e,c,d⟩:=id yp;exact ⟨_,rfl,jN (s:={ s with heap:=h',toks:=s.toks+1 }) e c d (by decide) ⟨.str ⟨#[x.cps[i]]⟩,H,I1,⟨_,rfl⟩,⟨rfl,_,by simp [hg],rfl⟩,yp,fun b hb=>(hf b hb).1⟩⟩
 done:=by
  intro X hP hw hK hc i pins s σ H E I hf st hg;subst hP hw hK;obtain ⟨f0,f1,f2,f3,f4,f5⟩:=hf it (by simp);have hg:x.cps.size=i:=hg;exact wpAny_pyNext_wide_end (I.ok.hd hc) st (by simp [<- hg]) fun h' eb=>⟨rfl,I.turned (t':=s.toks) (fun b o hb e=>eb b o hb e) f0 f1 f3 f4 f5⟩
 self:=fun _ _ _ _ _ st h=>wpAny_pyIter_striter_wide st h
def wT (tl:TE):TI:=fun σ H R=>tl σ H fun v H1=>∃ x,v=.str x/\R (Its x) H1
theorem qT {X:Cx} {tg l:Od} {tl:TE} (hl:PE X l tl):PI X tg l (wT tl):=by
 intro pins s σ H R I h;refine thn (hl pins s σ H _ I h) fun v s1 ⟨y,H1,I1,r1,q1⟩=>?_;obtain ⟨x,rfl,q⟩:=q1;obtain ⟨t,rfl⟩:=r1
 have fp:∀ b∈[s1.heap.objs.size],gB X pins H1 b:=fun b hb=>by
  have e:b=s1.heap.objs.size:=by simpa using hb
  subst e;exact I1.fpOk (M8 _) (I1.hok.fresh (M8 _))
 cases ha:x.cps.all (·<128)
 · refine wpAny_pyIter_wide ha ?_;exact ⟨s1.heap.objs.size,[s1.heap.objs.size],_,_,H1,rfl,I1.kept (t':=s1.toks) fun b o e=>M6 _ e,qj x t _,⟨_,Nf _ rfl,rfl,rfl⟩,fp,q⟩
 · refine wpAny_pyIter_ascii ha ?_;exact ⟨s1.heap.objs.size,[s1.heap.objs.size],_,_,H1,rfl,I1.kept (t':=s1.toks) fun b o e=>M6 _ e,jU x t _,⟨_,Nf _ rfl,rfl,rfl⟩,fp,q⟩
end L2
namespace BB
open PySem
def dn (zs:List Nd):Nat->Nat
 | 0=>0
 | i+1=>if zs.getD i default∈zs.take i then dn zs i else dn zs i+1
theorem rC (zs:List Nd):∀ i,dn zs i<=i
 | 0=>M8 _
 | i+1=>by
   have:=rC zs i;rw [dn];split <;> omega
theorem take_succ_get {zs:List Nd} {i:Nat} (h:i<zs.length):zs.take (i+1)=zs.take i++[zs.getD i default]:=by
 rw [List.take_succ_eq_append_getElem h];congr 2;simp [List.getD,h]
theorem ny (zs:List Nd):∀ i,i<=zs.length->(dn zs i=i↔(zs.take i).Nodup)
 | 0,_=>by simp [dn]
 | i+1,h=>by
   have ih:=ny zs i (by omega);have hle:=rC zs i;rw [take_succ_get (by omega),dn,RT];by_cases hm:zs.getD i default∈zs.take i
   · rw [if_pos hm];constructor
     · intro z;omega
     · intro z;exact absurd rfl (z.2.2 _ hm _ (Nc.mpr rfl))
   · rw [if_neg hm];constructor
     · intro z;refine ⟨ih.mp (by omega),OX.mpr ⟨by simp,QS⟩,fun a ha b hb=>?_⟩;rw [Nc.mp hb];rintro rfl;exact hm ha
     · intro z;have:=ih.mpr z.1;omega
end BB
namespace L2
open PySem PySem.Spec PySem.Calls PyProof.Rows BB
section
variable {prog:NC} {w:NP} {A:NT} {R:Result->M7->Prop}
theorem mL {l I S:M5} {items:Array M1} {zs:List Nd} (hh:A.in1.handled=none) (xu:l≠I) (FC:S≠I) (FD:S≠l) (hi:∀ (i:Nat) (v:M1),items[i]?=some v->∃ t,v=.str (zs.getD i default) t) (hlen:zs.length=items.size) (hb:items.size+1<scanBound) :
 ∀ (k i:Nat) (s:M7),items.size - i=k->i<=items.size->s.heap.IsListIter I l i->s.heap.IsList l items->s.heap.SetOf (strKind prog w) S (fun x=>decide (x∈zs.take i)) (dn zs i) →
   (∀ h' tk,(∀ b o,b≠S->b≠I->s.heap.get? b=some o->h'.get? b=some o)->h'.SetOf (strKind prog w) S (fun x=>decide (x∈zs)) (dn zs zs.length)->R (.ok (.ret .none)) { s with heap:=h',toks:=tk }) →
   Rf (NI prog w) A (.builtin "set.update.loop" ⟨[.ref S,.ref I],[]⟩) R s:=by
 intro k;induction k with
 | zero =>
   intro i s hk FE xF hl hS hR;have Er:i=items.size:=by omega
   subst Er;refine codeAny_builtin Rw ?_;rw [Around.under_plainId P8 _];show Nv _ A.in1 (pyNext (.ref I) >>= _) _ _ s;refine M0 (wpAny_pyNext_list_end hh xF hl (by simp) fun h' eb=>?_);show Nv _ A.in1 (ret PK) _ _ _;refine Nk (hR h' s.toks (fun b o _ Ew e=>eb b o Ew e) ?_);obtain ⟨o,es,ep,t,ho,rest⟩:=hS;rw [<- hlen,QB] at rest;exact ⟨o,es,ep,t,eb S o FC ho,rest⟩
 | succ k ih =>
   intro i s hk FE xF hl hS hR;have xK:i<items.size:=by omega
   refine codeAny_builtin Rw ?_;rw [Around.under_plainId P8 _];show Nv _ A.in1 (pyNext (.ref I) >>= _) _ _ s;have AQ:items[i]?=some items[i]:=by simp [xK]
   refine M0 (wpAny_pyNext_list_item xF hl AQ fun h' yp sb=>?_);obtain ⟨t,ht⟩:=hi i _ AQ;rw [ht];have yt:h'.IsList l items:=let ⟨o,e,r⟩:=hl;⟨o,(sb.2 l xu).trans e,r⟩
   have xW:h'.SetOf (strKind prog w) S (fun x=>decide (x∈zs.take i)) (dn zs i):=by
    obtain ⟨o,es,ep,tb,ho,rest⟩:=hS;exact ⟨o,es,ep,tb,(sb.2 S FC).trans ho,rest⟩
   show Nv _ A.in1 (holding [Value.str (zs.getD i default) t] (setAdd S (.str (zs.getD i default) t)) >>= _) _ _ _;refine M0 (Po ?_);unfold setAdd;refine Po ?_;refine M0 ((strKind prog w).pyHash (k:=zs.getD i default) (strKind_is _ _ _ _) ?_);have Dq:dn zs i+1<scanBound:=by have:=rC zs i;omega
   refine wpAny_setAddHashed_of (knd:=strKind prog w) (strKind_is _ _ _ _) rfl xW Dq fun h2 zQ Ci=>?_
   have AB:h2.SetOf (strKind prog w) S (fun x=>decide (x∈zs.take (i+1))) (dn zs (i+1)):=by
    refine PyProof.Rows.SetOf_congr Ci (fun x=>?_) ?_
    · rw [take_succ_get (by omega)];simp
    · rw [dn];by_cases hm:zs.getD i default∈zs.take i
      · rw [if_pos hm,if_pos (by simpa using hm)]
      · rw [if_neg hm,if_neg (by simpa using hm)]
   have BF:h2.IsListIter I l (i+1):=let ⟨o,e,r⟩:=yp;⟨o,(zQ.2 I (QE FC)).trans e,r⟩
   have yd:h2.IsList l items:=let ⟨o,e,r⟩:=yt;⟨o,(zQ.2 l (QE FD)).trans e,r⟩
   refine Nk ⟨plainId_quiet P8 _,ih (i+1) _ (by omega) xK BF yd AB fun h4 tk k4 S4=>?_⟩;exact hR h4 tk (fun b o HB Ew e=>k4 b o HB Ew ((zQ.2 b HB).trans ((sb.2 b Ew).trans e))) S4
end
end L2
namespace PySem
section
variable {prog:NC} {w:NP} {A:NT} {E:M1->M7->Prop} {s:M7}
set_option maxHeartbeats 3200000 in
theorem bb_set_strs {l:M5} {items:Array M1} {zs:List Nd} {Q:M1->M7->Prop} (hh:A.handled=none) (hl:s.heap.IsList l items) (hi:∀ (i:Nat) (v:M1),items[i]?=some v->∃ t,v=.str (zs.getD i default) t) (hlen:zs.length=items.size) (hb:items.size+1<scanBound)
 (h:∀ (h':Oo) (tk:Nat),h'.SetOf (strKind prog w) s.heap.objs.size (fun x=>decide (x∈zs)) (BB.dn zs zs.length)->(∀ b o,b<s.heap.objs.size->s.heap.get? b=some o->h'.get? b=some o)->Q (.ref s.heap.objs.size) { s with heap:=h',toks:=tk }) :
 Nv (NI prog w) A (call (.type "set") [.ref l]) Q E s:=by
 obtain ⟨c,tl,J2⟩:=Qj.mro;have HC:=Qj.made;have yM:=Qj.sub;have h1:=Qj.notType;have h2:=Qj.canCreate;have Cj:=F.typeCall_set_1 (.ref l);refine wpAny_call (codeAny_of_tree ?_);show Nv _ _ (callAny (.type "set") _) _ _ _;refine Nk ⟨Code.quiet_builtin _ (by decide +kernel),codeAny_builtin F.entry_type_call ?_⟩;rw [Around.under_plain (weight_type_call_type "set" [.ref l] []) rfl]
 repeat (any_goals (first | assumption | wp_step))
 refine Qi (code_set_new_1 (.ref l) (E:=E) (Q₁:=fun obj xm=>∃ led:Bool,obj=.ref s.heap.objs.size/\xm={ s with heap:=s.heap.push { cls:=.type "set",dict:=none,data:=.set #[] 0 (.fresh 0 0 led) } }) fun led=>⟨led,rfl,rfl⟩) fun r xm hr=>?_;cases r with
 | error e=>exact hr
 | ok fl =>
   cases fl with
   | next=>exact hr.elim
   | brk=>exact hr.elim
   | cont=>exact hr.elim
   | ret obj =>
     obtain ⟨led,rfl,rfl⟩:=hr;have hS:(s.heap.push { cls:=.type "set",dict:=none,data:=.set #[] 0 (.fresh 0 0 led) }).get? s.heap.objs.size=some { cls:=.type "set",dict:=none,data:=.set #[] 0 (.fresh 0 0 led) }:=Nf _ rfl;have hT:Shared.TypeIs { s with heap:=s.heap.push { cls:=.type "set",dict:=none,data:=.set #[] 0 (.fresh 0 0 led) } } (.ref s.heap.objs.size) "set":=⟨_,hS,rfl⟩;have J3:=Qj.init.lookup;have HE:=Qj.init.bind (.ref s.heap.objs.size)
     repeat (any_goals (first | assumption | wp_step))
     refine Qi (codeAny_call_builtin (R:=wants (fun r yv=>r=.none/\∃ h' tk,yv={ s with heap:=h',toks:=tk }/\h'.SetOf (strKind prog w) s.heap.objs.size (fun x=>decide (x∈zs)) (BB.dn zs zs.length) ∧
      (∀ b o,b<s.heap.objs.size->s.heap.get? b=some o->h'.get? b=some o)) E) Qj.init.plain F.entry_set_init (check_set_init_1 hT ?_)) fun FG yv yX=>?_
     · obtain ⟨ol,Ex,yG,nl,Ck⟩:=hl;obtain ⟨J4,Dr,HF,BR⟩:=ol;simp only at yG Ck;subst yG;subst Ck;have HG:l<s.heap.objs.size:=Np Ex;have FH:(s.heap.push { cls:=.type "set",dict:=none,data:=.set #[] 0 (.fresh 0 0 led) }).get? l=some { cls:=.type "list",dict:=Dr,data:=.seq items nl,slots:=BR }:=M6 _ Ex;have J5:=F.sub_list_set;have J6:=F.sub_list_frozenset;have J7:(Value.type "list" == Value.type "dict")=false:=by decide
       have yq:(s.heap.push { cls:=.type "set",dict:=none,data:=.set #[] 0 (.fresh 0 0 led) }).IsList l items:=⟨_,FH,rfl,nl,rfl⟩;unfold Builtin.«set.__init__» noKeywords Builtin.Frozenset.updateFrom;generalize J8:pyIter=PI
       wp_walk
       subst J8;refine Rb yq ?_;refine M0 (wpAny_runValue ?_);have xQ:(s.heap.push { cls:=.type "set",dict:=none,data:=.set #[] 0 (.fresh 0 0 led) }).objs.size=s.heap.objs.size+1:=O1 ..;refine L2.mL (l:=l) (zs:=zs) (items:=items) (by simp [hh]) (by rw [xQ];exact NQ (OV HG)) (by rw [xQ];exact NQ (Qz _)) (PM HG) hi hlen hb (items.size - 0) 0 _ (by omega) (N2 _) ⟨_,Nf _ rfl,rfl,rfl⟩ (yq.push _) ?_ ?_
       · have AQ:((s.heap.push { cls:=.type "set",dict:=none,data:=.set #[] 0 (.fresh 0 0 led) }).push { cls:=.type "list_iterator",data:=.fields #[.ref l,.int 0 0] }).get? s.heap.objs.size=some { cls:=.type "set",dict:=none,data:=.set #[] 0 (.fresh 0 0 led) }:=M6 _ hS;exact PyProof.Rows.SetOf_congr ((PyProof.Rows.setObjOf_fresh (knd:=strKind prog w) led).setOf AQ (by unfold scanBound;omega)) (fun x=>by simp) rfl
       · intro h' tk kk S';show Nv _ _ _ _ _ _;refine Nk ?_;show Nv _ _ (ret PK) _ _ _;refine Nk ⟨rfl,h',tk,rfl,S',fun b o ya e=>?_⟩;exact kk b o (NQ ya) (by rw [xQ];exact NQ (OV ya)) (M6 _ (M6 _ e))
     · cases FG with
       | error e=>exact yX
       | ok Ds =>
         cases Ds with
         | ret r =>
           obtain ⟨rfl,h',tk,rfl,xW,zf⟩:=yX
           repeat (any_goals (first | assumption | wp_step))
           exact h _ _ xW zf
         | next=>exact yX.elim
         | brk=>exact yX.elim
         | cont=>exact yX.elim
end
end PySem
namespace L2
open PySem PySem.Spec PySem.Calls PyProof.Rows BB
def tJ (P:NC) (w:NP) (a:M5) (zs:List Nd) (h:Oo):Prop:=h.SetOf (strKind P w) a (fun x=>decide (x∈zs)) (dn zs zs.length)
theorem qo {X:Cx} (hc:X.calm=true):dq X (.type "set") (fun xs H Q=>∃ p zs,xs=[.ref p]/\SqL X.K H p (zs.map V.str)/\zs.length<=4000/\∀ a,H a=none->Q (.ref a) (upd H a (.ext (tJ X.prog X.w a zs)))):=by
 intro pins s σ H xs us Q I r h;obtain ⟨p,zs,rfl,hq,hz,q⟩:=h;obtain ⟨u,rfl,rx⟩:=vals1 r;cases rx;obtain ⟨its,r',pl,_⟩:=I.list hq;have hlen:=r'.length;rw [MX] at hlen;refine bb_set_strs (I.ok.hd hc) pl.isList (zs:=zs) (fun i v hv=>?_) (by simpa using hlen) (by rw [M9,<- hlen];show zs.length+1<4096;omega) fun h' tk hS kp=>?_
 · have zC:its[i]?=some v:=by simpa using hv
   have zp:i<its.length:=(Nl.mp zC).1
   have yY:(zs.map V.str)[i]?=some (.str (zs.getD i default)):=by
    rw [Nq,List.getD,M3 (by omega)];rfl
   obtain ⟨u,hu,ru⟩:=r'.get yY;rw [zC] at hu;cases hu;exact ru
 · have hk:∀ b o,s.heap.get? b=some o->h'.get? b=some o:=fun b o e=>kp b o (Np e) e;refine ⟨.ref s.heap.objs.size,_,I.laid (t':=tk) (o:=.ext (tJ X.prog X.w s.heap.objs.size zs)) hk (M8 _) ?_,rfl,q _ (I.hok.fresh (M8 _))⟩;refine ⟨hS,?_,fun g1 g2 gs gk=>?_⟩
   · obtain ⟨o,_,_,_,ho,_⟩:=hS;exact ⟨o,ho⟩
   · obtain ⟨o,es,ep,t,ho,rest⟩:=gs;exact ⟨o,es,ep,t,gk o ho,rest⟩
theorem qG {X:Cx}:dq X (.builtin "len") (fun xs H Q=>∃ a zs,xs=[.ref a]/\H a=some (.ext (tJ X.prog X.w a zs))/\Q (.int (dn zs zs.length)) H):=by
 intro pins s σ H xs us Q I r h;obtain ⟨a,zs,rfl,ha,q⟩:=h;obtain ⟨u,rfl,rx⟩:=vals1 r;cases rx;obtain ⟨⟨o,es,ep,t,ho,hex,hd,_,_,hb,hf,hn⟩,_⟩:=(show ObjOk X.prog X.w H s.heap a (.ext (tJ X.prog X.w a zs)) from I.hok a _ ha);have ya:es.size<4096:=hb;refine call_len_set ho hex hd hf (by omega) ?_;exact ⟨.int es.size,H,I.tok _,⟨_,rfl⟩,by rw [hn];exact q⟩
end L2
namespace L2
open PySem PySem.Spec PySem.Calls PyProof.Rows BB
section
variable {X:Cx}
def re:R2:=fun x y H Q=>∃ i j,x=.str i/\y=.str j/\Q (.bl (!decide (j.cps.toList<i.cps.toList))) H
theorem fC:OpR X (Pf .LtE) re:=by
 intro pins s σ H x y v u Q I rx ry h;obtain ⟨i,j,rfl,rfl,q⟩:=h;obtain ⟨t,rfl⟩:=rx;obtain ⟨t',rfl⟩:=ry;exact PySem.P.le_str ⟨.bl _,H,I,rfl,q⟩
def wX (K:MY) (tl:TE):TI:=fun σ H R=>tl σ H fun x H1=>∃ a,x=.ref a/\(((∃ xs,SqL K H1 a xs)/\R (Itl K a) H1)∨((∃ xs,SqT K H1 a xs)/\R (Itt K a) H1))
theorem sB {tg l:Od} {tl:TE} (hl:PE X l tl):PI X tg l (wX X.K tl):=by
 intro pins s σ H R I h;refine thn (hl pins s σ H _ I h) fun v s1 ⟨x,H1,I1,r1,q1⟩=>?_;obtain ⟨a,e,q⟩:=q1;subst e;cases r1
 have fp:∀ b∈[s1.heap.objs.size],gB X pins H1 b:=fun b hb=>by
  have e:b=s1.heap.objs.size:=by simpa using hb
  subst e;exact I1.fpOk (M8 _) (I1.hok.fresh (M8 _))
 rcases q with ⟨⟨xs,hq⟩,q⟩ | ⟨⟨xs,hq⟩,q⟩
 · obtain ⟨its,rv,p,hz⟩:=I1.list hq;refine Rb p.isList ?_;exact ⟨s1.heap.objs.size,[s1.heap.objs.size],_,_,H1,rfl,I1.kept (t':=s1.toks) fun b o e=>M6 _ e,lw a _,⟨_,Nf _ rfl,rfl,rfl⟩,fp,q⟩
 · obtain ⟨its,rv,p,hz⟩:=I1.tuple hq;refine Q2 (show s1.heap.IsTuple a its.toArray from p) ?_;exact ⟨s1.heap.objs.size,[s1.heap.objs.size],_,_,H1,rfl,I1.kept (t':=s1.toks) fun b o e=>M6 _ e,j0 a _,⟨_,Nf _ rfl,rfl,rfl⟩,fp,q⟩
end
end L2
namespace BB
open PySem L2
theorem pe {js:List (Option Nat)} {g:TG} {tt:TT} {te:TE} {σ:St} {H:Hp} {x:Nd} {fin:M5->Hp->Prop} (f:Nat->Bool) (hz:x.cps.size<=100000)
 (Dt:∀ c H1 (Q:VK) (W':Hp->Prop),c∈x.cps.toList->Q (.bl (f c)) H1->g (.str ⟨#[c]⟩) (cσ js σ) H1 fun xD H2=>tt xD H2 fun b H3=>if b=true then te xD H3 Q else W' H3)
 (xN:∀ D H',H D=none->L2.Same H H'->H' D=some (.lst ((x.cps.toList.map f).map V.bl))->fin D H') :
 ∀ D,H D=none->∃ (n:Nat) (W:Nat->Hp->Prop),W 0 (upd H D (.lst []))/\dU js g tt te σ (Its x) D n W fun H'=>fin D H':=by
 intro D hD;refine ⟨x.cps.size,fun i H'=>i<=x.cps.size/\L2.Same H H'/\H' D=some (.lst (((x.cps.toList.take i).map f).map V.bl)),⟨N2 _,aj hD _,by rw [ac];rfl⟩,?_⟩;rintro i H' ⟨hi,s1,e1⟩;by_cases xK:i<x.cps.size
 · refine .inr ⟨xK,xK,fun v H1 hy=>?_⟩;obtain ⟨rfl,c,hc,rfl⟩:=hy;have yE:x.cps.toList[i]?=some c:=by rw [PX];exact hc
   refine Dt c _ _ _ (Nu yE) ⟨_,e1,?_,xK,?_,?_⟩
   · rw [MX,MX,Og,Nm];have:Ny=16777216:=Pp;omega
   · exact aN s1 hD
   · rw [ac,take_snoc yE];simp
 · have yT:i=x.cps.size:=by omega
   subst yT;refine .inl ⟨rfl,xN D H' hD s1 ?_⟩;rw [e1,N1 (by rw [Nm];exact M8 _)]
theorem pF {α:Type} {js:List (Option Nat)} {g:TG} {tt:TT} {te:TE} {σ:St} {J:It} {H:Hp} {xs:List V} {fin:M5->Hp->Prop} (zs:List α) (f:α->V) (hz:zs.length=xs.length) (hn:xs.length<=1000000)
 (BO:∀ i H2,L2.Same H H2->i<xs.length->J.go i H2) (yA:∀ H2,L2.Same H H2->J.stop xs.length H2) (Ab:∀ (i:Nat) H2 x H3,L2.Same H H2->i<xs.length->J.yld i H2 x H3->H3=H2/\xs[i]?=some x)
 (hb:∀ (i:Nat) x z H2 (R:VK) (W':Hp->Prop),xs[i]?=some x->zs[i]?=some z->L2.Same H H2->(∀ H3,L2.Same H2 H3->R (f z) H3)->g x (cσ js σ) H2 fun xD H3=>tt xD H3 fun b H4=>if b=true then te xD H4 R else W' H4)
 (xN:∀ D H',H D=none->L2.Same H H'->H' D=some (.lst (zs.map f))->fin D H') :
 ∀ D,H D=none->∃ (n:Nat) (W:Nat->Hp->Prop),W 0 (upd H D (.lst []))/\dU js g tt te σ J D n W fun H'=>fin D H':=by
 intro D hD;refine ⟨xs.length,fun i H'=>i<=xs.length/\L2.Same H H'/\H' D=some (.lst ((zs.take i).map f)),⟨N2 _,aj hD _,by rw [ac];rfl⟩,?_⟩;rintro i H' ⟨hi,s1,e1⟩;by_cases xK:i<xs.length
 · refine .inr ⟨xK,BO i H' s1 xK,fun v H1 hy=>?_⟩;obtain ⟨e,hx⟩:=Ab i H' v H1 s1 xK hy;subst e;obtain ⟨z,yY⟩:∃ z,zs[i]?=some z:=⟨_,M3 (by omega)⟩;refine hb i v z _ _ _ hx yY s1 fun H3 s3=>⟨_,s3 _ _ e1,?_,xK,aN (s1.trans s3) hD,?_⟩
   · rw [MX,Og];have:Ny=16777216:=Pp;omega
   · rw [ac,take_snoc yY,Nw];rfl
 · have yT:i=xs.length:=by omega
   subst yT;refine .inl ⟨yA _ s1,xN D H' hD s1 ?_⟩;rw [e1,N1 (by omega)]
theorem dt {α:Type} {K:MY} {a:M5} {js:List (Option Nat)} {g:TG} {tt:TT} {te:TE} {σ:St} {H:Hp} {xs:List V} {fin:M5->Hp->Prop} (zs:List α) (f:α->V) (hS:SqT K H a xs) (hz:zs.length=xs.length) (hn:xs.length<=1000000)
 (hb:∀ (i:Nat) x z H2 (R:VK) (W':Hp->Prop),xs[i]?=some x->zs[i]?=some z->L2.Same H H2->(∀ H3,L2.Same H2 H3->R (f z) H3)->g x (cσ js σ) H2 fun xD H3=>tt xD H3 fun b H4=>if b=true then te xD H4 R else W' H4)
 (xN:∀ D H',H D=none->L2.Same H H'->H' D=some (.lst (zs.map f))->fin D H') :
 ∀ D,H D=none->∃ (n:Nat) (W:Nat->Hp->Prop),W 0 (upd H D (.lst []))/\dU js g tt te σ (Itt K a) D n W fun H'=>fin D H' :=
 pF zs f hz hn (fun i H2 s hi=>⟨xs,xs[i],s.seqT hS,M3 hi⟩) (fun H2 s=>⟨xs,s.seqT hS,M8 _⟩) (fun i H2 x H3 s hi hy=>⟨hy.1,hy.2 xs (s.seqT hS)⟩) hb xN
theorem md {α:Type} {K:MY} {a:M5} {js:List (Option Nat)} {g:TG} {tt:TT} {te:TE} {σ:St} {H:Hp} {xs:List V} {fin:M5->Hp->Prop} (zs:List α) (f:α->V) (hS:SqL K H a xs) (hz:zs.length=xs.length) (hn:xs.length<=1000000)
 (hb:∀ (i:Nat) x z H2 (R:VK) (W':Hp->Prop),xs[i]?=some x->zs[i]?=some z->L2.Same H H2->(∀ H3,L2.Same H2 H3->R (f z) H3)->g x (cσ js σ) H2 fun xD H3=>tt xD H3 fun b H4=>if b=true then te xD H4 R else W' H4)
 (xN:∀ D H',H D=none->L2.Same H H'->H' D=some (.lst (zs.map f))->fin D H') :
 ∀ D,H D=none->∃ (n:Nat) (W:Nat->Hp->Prop),W 0 (upd H D (.lst []))/\dU js g tt te σ (Itl K a) D n W fun H'=>fin D H' :=
 pF zs f hz hn (fun i H2 s hi=>⟨xs,xs[i],s.seq hS,M3 hi⟩) (fun H2 s=>⟨xs,s.seq hS,M8 _⟩) (fun i H2 x H3 s hi hy=>⟨hy.1,hy.2 xs (s.seq hS)⟩) hb xN
def low (z:Nd):Bool:=z.cps.toList.all fun c=>decide (97<=c/\c<=122)
def aw (z:Nd):Bool:=decide (1<=z.length/\z.length<=8) && low z
theorem lW (c d:Nat):(!decide (([d]:List Nat)<[c]))=decide (c<=d):=by
 have h:(([d]:List Nat)<[c])↔d<c:=by
  constructor
  · intro h;cases h with
    | rel h=>exact h
    | cons h=>cases h
  · intro h;exact List.Lex.rel h
 by_cases hc:c<=d
 · rw [decide_eq_true hc,decide_eq_false (fun z=>by have:=h.mp z;omega)];rfl
 · rw [decide_eq_false hc,decide_eq_true (h.mpr (by omega))];rfl
end BB
namespace HT
open PySem PySem.Spec PyProof.Rows
section
variable {prog:NC} {w:NP} {A:NT} {E:M1->M7->Prop} {s:M7}
theorem adjust_back (n:Nat):PD none none (-1) (n:Int)=((n:Int) - 1,-1):=rfl
theorem places_back (n:Nat):Ot ((n:Int) - 1) (-1) (-1)=n:=by
 unfold Ot;have h1:¬ ((-1:Int) > 0):=by omega
 simp only [h1,if_false];by_cases h:n=0
 · subst h;decide
 · have h2:((n:Int) - 1) > -1:=by omega
   simp only [h2,if_true];rw [show (- -1:Int)=1 by decide,RU];omega
theorem pick_back (xs:Array M1):((NU xs.size).filterMap fun (m:Nat)=>xs[(((xs.size:Nat):Int) - 1+(m:Int) * (-1)).toNat]?).toArray=xs.toList.reverse.toArray:=by
 congr 1
 have e:∀ m∈NU xs.size,xs[(((xs.size:Nat):Int) - 1+(m:Int) * (-1)).toNat]?=xs.toList.reverse[m]?:=by
  intro m hm;have J9:=Pk.mp hm;rw [List.getElem?_reverse (by rw [Nm];exact J9),PX,Nm];congr 1;omega
 have f:∀ (l:List Nat) (f g:Nat->Option M1),(∀ m∈l,f m=g m)->l.filterMap f=l.filterMap g:=by
  intro l f g;induction l with
  | nil=>intro _;rfl
  | cons y ys ih =>
    intro h;rw [PH,PH,h y (by simp),ih (fun m hm=>h m (by simp [hm]))]
 rw [f _ _ _ e]
 have gl:∀ (ys:List M1),(NU ys.length).filterMap (fun m=>ys[m]?)=ys:=by
  intro ys;have:=pick_run ys.toArray 0 ys.length;simp only [List.filterMap_map] at this
  have e3:((fun x=>ys.toArray[x]?) ∘ fun x=>0+x)=fun m=>ys[m]?:=by
   funext m;simp
  rw [e3] at this;rw [this];simp
 have:=gl xs.toList.reverse;rw [PF,Nm] at this;exact this
theorem sliceApplied_back {sl:M5} {n:Nat} {t:Tok} {Q:Int×Int×Nat->M7->Prop} (hs:s.heap.IsSliceOf sl .none .none (.int (-1) t))
 (h:Q ((n:Int) - 1,-1,n) s):Nv (NI prog w) A (Qg (.ref sl) (pure (n:Int))) Q E s:=by
 obtain ⟨os,zj,CV,yW⟩:=id hs;unfold Qg Builtin.Slice.sliceFields;refine M0 (M0 (Of zj yW (x:=.none) rfl (M0 (Of zj yW (x:=.none) rfl (M0 (Of zj yW (x:=.int (-1) t) rfl (Nk ?_)))))));refine M0 (slicePart_int ?_);show Nv _ _ (if ((-1:Int) == 0)=true then _ else _) _ _ s;rw [if_neg (by decide)];refine M0 (slicePart_none (M0 (slicePart_none (M0 (Nk ?_)))));show Nv _ _ (match PD none none (-1) (n:Int) with | (lo,hi)=>pure (lo,(-1:Int),Ot lo hi (-1))) _ _ s;rw [adjust_back n];show Nv _ _ (pure ((n:Int) - 1,(-1:Int),Ot ((n:Int) - 1) (-1) (-1))) _ _ s;rw [places_back];exact Nk h
theorem getItem_tuple_back {t sl:M5} {items:Array M1} {tk:Tok} {Q:M1->M7->Prop} (ht:IsTup s.heap t items) (hs:s.heap.IsSliceOf sl .none .none (.int (-1) tk))
 (h:Q (.ref s.heap.objs.size) { s with heap:=s.heap.push { cls:=.type "tuple",data:=.seq items.toList.reverse.toArray } })
 (xQ:items.size<=Ny):Nv (NI prog w) A (Ru (.ref t) (.ref sl)) Q E s:=by
 have yf:sizeOk (.seq items.toList.reverse.toArray):=by
  show items.toList.reverse.toArray.size<=Ny;rw [M9,PF,Nm];exact xQ
 obtain ⟨os,zj,CV,yW⟩:=id hs;have Ff:s.TypeIs (.ref sl) "slice":=⟨os,zj,CV⟩;unfold Ru
 try with_reducible refine Po ?_
 first | refine M0 (Nk ?_) | skip
 refine M0 (wpAny_sequenceKey ht.typeIs (by decide) ?_)
 refine M0 (Pe (name:=MW "__getitem__") ht.typeIs Oz
  (Qh Oz ht.typeIs entry_tuple_getitem ?_ (args_tuple_getitem _ _)))
 show Nv _ _ (Builtin.Tuple.tupleItemsOf (.ref t) >>= _) _ _ s;refine M0 (tupleItemsOf_ ht ?_);refine M0 (wpAny_typeOf Ff ?_);rw [if_pos (by decide)];refine M0 (sliceApplied_back hs ?_)
 have xU:¬ ((((items.size:Nat):Int) - 1 == 0 && (-1:Int) == 1 && items.size == items.size)=true):=by
  simp
 show Nv _ _ (if (((items.size:Nat):Int) - 1 == 0 && (-1:Int) == 1 && items.size == items.size)=true then _ else _) _ _ s;rw [if_neg xU,pick_back]
 first
  | exact M0 (m:=Ox _) (OA (Nk ⟨_,rfl,Nk h⟩) yf)
  | exact M0 (m:=Ox _) (OA (M0 (Nk (Nk ⟨_,rfl,Nk h⟩))) yf)
  | exact M0 (M0 (m:=Ox _) (OA (Nk (Nk ⟨_,rfl,Nk h⟩)) yf))
  | exact M0 (M0 (m:=Ox _) (OA (Nk ⟨_,rfl,Nk h⟩) yf))
end
end HT
namespace L2
open PySem PySem.Spec PyProof.Rows
section
variable {X:Cx} {e:Od} {te:TE} {pos p2 p3 p4:Qy}
def BkR (X:Cx) (r:V->Hp->VK->Prop):Prop :=
 ∀ (pins:List (M5×Pb)) (s:M7) (σ:St) (H:Hp) (x:V) (v:M1) (t:Tok) (sl:M5) (Q:VK),Inv X pins σ H s->RelV x v->s.heap.IsSliceOf sl .none .none (.int (-1) t)->r x H Q →
   ∃ T id,typeLookup (.type T) "__getitem__"=pure (some (.builtin id))/\s.TypeIs v T/\Nv (NI X.prog X.w) X.A (Ru v (.ref sl)) (EP X pins σ Q) X.xe s
def tBk (r:V->Hp->VK->Prop) (te:TE):TE:=fun σ H Q=>te σ H fun x H1=>r x H1 Q
theorem sU {r:V->Hp->VK->Prop} (hr:BkR X r) (he:PE X e te):PE X (.Subscript e (.Slice none none (some (.UnaryOp .USub (.Constant (.int 1) 0 p3) p4)) p2) pos) (tBk r te):=by
 intro pins s σ H Q I h;refine Subscript_ (thn (he pins s σ H _ I h) fun v s1 ⟨x,H1,I1,r1,q1⟩=>?_);refine wpAny_Slice ?_;rw [evalPart_none];refine Nk ?_;refine Nk ?_;have Cm:PO X (some (.UnaryOp .USub (.Constant (.int 1) 0 p3) p4)) (ug (tUn (rU fun i=>.int (-i)) (tC (.int 1)))):=bL (lC iA ag);refine thn (Cm pins s1 σ H1 (fun o H'=>o=some (-1)/\r x H' Q) I1 ⟨1,rfl,_,rfl,rfl,q1⟩) fun vs s2 ⟨o,H2,I2,ps,ho,q2⟩=>?_;subst ho;cases ps with
 | int i t =>
   have I4:Inv X pins σ H2 { s2 with heap:=s2.heap.push { cls:=.type "slice",data:=.fields #[.none,.none,.int (-1) t] } }:=I2.kept (t':=s2.toks) fun b ob q=>M6 _ q;obtain ⟨T,id,hT,ht,hg⟩:=hr pins { s2 with heap:=s2.heap.push { cls:=.type "slice",data:=.fields #[.none,.none,.int (-1) t] } } σ H2 x v t s2.heap.objs.size Q I4 r1 (Heap.IsSliceOf.new ..) q2;show Nv (NI X.prog X.w) X.A (subscriptTail e (.Slice none none (some (.UnaryOp .USub (.Constant (.int 1) 0 p3) p4)) p2) v (.ref s2.heap.objs.size)) (EP X pins σ Q) X.xe { s2 with heap:=s2.heap.push { cls:=.type "slice",data:=.fields #[.none,.none,.int (-1) t] } };exact tail_any (ops:=[v,.ref s2.heap.objs.size]) ht hT hg (by with_unfolding_all rfl)
def wF (K:MY):V->Hp->VK->Prop:=fun x H Q=>∃ a xs,x=.ref a/\SqT K H a xs/\∀ p,H p=none->Q (.ref p) (upd H p (.tup xs.reverse))
theorem Vals.rev {xs:List V} {us:List M1} (r:Vals xs us):Vals xs.reverse us.reverse:=by
 induction r with
 | nil=>exact .nil
 | cons r1 r2 ih=>rw [Oq,Oq];exact ih.append (.cons r1 .nil)
theorem uE:BkR X (wF X.K):=by
 intro pins s σ H x v t sl Q I rx hs h;obtain ⟨a,xs,rfl,hx,q⟩:=h;cases rx;obtain ⟨its,r,ht,hz⟩:=I.tuple hx;have hlen:its.toArray.size=xs.length:=by rw [M9];exact r.length.symm
 refine ⟨"tuple",_,Oz.lookup,ht.typeIs,?_⟩;refine HT.getItem_tuple_back ht hs ?_ (by rw [hlen];exact hz);refine ⟨.ref s.heap.objs.size,_,I.laid (t':=s.toks) (o:=.tup xs.reverse) (fun b ob q=>M6 _ q) (M8 _) ?_,rfl,q _ (I.hok.fresh (M8 _))⟩;exact ⟨by rw [PF];exact hz,_,0,r.rev,Nf _ rfl⟩
end
end L2
namespace L2
open PySem PySem.Spec PySem.Calls PyProof.Rows
section
variable {X:Cx}
end
end L2
namespace L2
open PySem PySem.Spec PySem.Calls PyProof.Rows
section
variable {X:Cx}
end
end L2
namespace BB
open PySem L2
def RowAt (H:Hp) (row:List Th) (a:M5):Prop:=∃ as:List M5,H a=some (.tup (as.map V.ref))/\Ats H row as
theorem RowAt.mono {H H':Hp} (k:KT H H') {row:List Th} {a:M5} (h:RowAt H row a):RowAt H' row a:=by
 obtain ⟨as,h1,h2⟩:=h;exact ⟨as,k _ _ h1,h2.mono k⟩
structure uN (H:Hp) (ins outs:List (Nd×Int)) (head:Th) (rows:List (List Th)) (r ia oa ha ra:M5) (ye yl Ey:List M5):Prop where
 bk:H r=some (.tup [.ref ia,.ref oa,.ref ha,.ref ra])
 inE:H ia=some (.tup (ye.map V.ref))
 inK:KsAt H ins ye
 outE:H oa=some (.tup (yl.map V.ref))
 outK:KsAt H outs yl
 hd:At H head ha
 rl:H ra=some (.tup (Ey.map V.ref))
 rw:NY (RowAt H) rows Ey
end BB
namespace BB
open PySem L2
def Bk (H:Hp) (ins outs:List (Nd×Int)) (head:Th) (rows:List (List Th)) (r:M5):Prop:=∃ ia oa ha ra ye yl Ey,uN H ins outs head rows r ia oa ha ra ye yl Ey
end BB
namespace L2
open PySem PySem.Spec PySem.Calls PyProof.Rows PySem.SeqAt
end L2
namespace BB
open PySem L2
end BB
namespace L2
open PySem PySem.Spec PyProof.Rows
section
variable {X:Cx} {e:Od} {te:TE} {p p2 pos yz:Qy}
end
end L2
namespace BB
open PySem L2
theorem jx {α:Type} {F:Hp->α->M5->Prop} {js:List (Option Nat)} {g:TG} {tt:TT} {te:TE} {σ:St} {J:It} {H:Hp} {xs:List V} {fin:M5->Hp->Prop} (zs:List α) (hF:∀ H1 H2 z p,KT H1 H2->F H1 z p->F H2 z p) (hz:zs.length=xs.length) (hn:xs.length<=1000000)
 (BO:∀ i H2,L2.Same H H2->i<xs.length->J.go i H2) (yA:∀ H2,L2.Same H H2->J.stop xs.length H2) (Ab:∀ (i:Nat) H2 x H3,L2.Same H H2->i<xs.length->J.yld i H2 x H3->H3=H2/\xs[i]?=some x)
 (hb:∀ (i:Nat) x z H2 (R:VK) (W':Hp->Prop),xs[i]?=some x->zs[i]?=some z->L2.Same H H2->(∀ H3 p,L2.Same H2 H3->F H3 z p->R (.ref p) H3)->g x (cσ js σ) H2 fun xD H3=>tt xD H3 fun b H4=>if b=true then te xD H4 R else W' H4)
 (xN:∀ D H' as,H D=none->L2.Same H H'->H' D=some (.lst (as.map V.ref))->NY (F H') zs as->fin D H') :
 ∀ D,H D=none->∃ (n:Nat) (W:Nat->Hp->Prop),W 0 (upd H D (.lst []))/\dU js g tt te σ J D n W fun H'=>fin D H':=by
 intro D hD;refine ⟨xs.length,fun i H'=>i<=xs.length/\L2.Same H H'/\∃ as:List M5,H' D=some (.lst (as.map V.ref))/\NY (F H') (zs.take i) as,⟨N2 _,aj hD _,[],by rw [ac];rfl,.nil⟩,?_⟩;rintro i H' ⟨hi,s1,as,e1,hp⟩;by_cases xK:i<xs.length
 · refine .inr ⟨xK,BO i H' s1 xK,fun v H1 hy=>?_⟩;obtain ⟨e,hx⟩:=Ab i H' v H1 s1 xK hy;subst e;obtain ⟨z,yY⟩:∃ z,zs[i]?=some z:=⟨_,M3 (by omega)⟩;have hl:(zs.take i).length=as.length:=N3 hp;rw [Og] at hl;refine hb i v z _ _ _ hx yY s1 fun H3 p s3 J'=>⟨_,s3 _ _ e1,?_,xK,aN (s1.trans s3) hD,as++[p],?_,?_⟩
   · rw [MX];have:Ny=16777216:=Pp;omega
   · rw [ac,Nw];rfl
   · have kt:KT H3 (upd H3 D (.lst (as.map V.ref++[.ref p]))):=bB (s3 _ _ e1);rw [take_snoc yY];exact P2.append (P2.mp (fun x y e=>hF _ _ _ _ ((Same.kt s3).trans kt) e) hp) (.cons (hF _ _ _ _ kt J') .nil)
 · have yT:i=xs.length:=by omega
   subst yT;refine .inl ⟨yA _ s1,xN D H' as hD s1 e1 ?_⟩;rw [N1 (by omega)] at hp;exact hp
end BB
namespace L2
open PySem PySem.Spec PyProof.Rows
theorem FnOk.x0 {P:NC} {w:NP} {K:MY} {mg:Nd->Option M1} {base:Oo} {k:Nat} {f:M5} {fd:Pl} {ps:List Nd} {sp HH:Sp} (F:FnOk P w K mg base (CX1 P w) k f fd ps HH)
 (h:∀ vs H Q E,sp vs H Q E->HH vs H Q fun _ _ _=>False):FnOk P w K mg base CX0 k f fd ps sp :=
 ⟨fun vs H Q E q=>F.len vs H Q _ (h _ _ _ _ q),fun A outer s H args us vs Q E hr he hb hv hs=>Qi (F.run A outer s H args us vs Q _ hr he hb hv (h _ _ _ _ hs)) fun r s' hc=>by
  cases r with
  | error e =>
    obtain ⟨_,_,_,_,_,_,_,_,_,_,_,_,_,hE⟩:=(show CX1 P w outer H s (fun _ _ _=>False) e s' from hc);exact hE.elim
  | ok v=>cases v <;> exact hc⟩
end L2
namespace L2
open PySem
theorem us1 {α:Type}:∀ {us:List α},us.length=1->∃ a,us=[a]
 | [a],_=>⟨a,rfl⟩
theorem us2 {α:Type}:∀ {us:List α},us.length=2->∃ a b,us=[a,b]
 | [a,b],_=>⟨a,b,rfl⟩
theorem us3 {α:Type}:∀ {us:List α},us.length=3->∃ a b c,us=[a,b,c]
 | [a,b,c],_=>⟨a,b,c,rfl⟩
theorem us4 {α:Type}:∀ {us:List α},us.length=4->∃ a b c d,us=[a,b,c,d]
 | [a,b,c,d],_=>⟨a,b,c,d,rfl⟩
end L2
namespace PySem
open Sem (wp)
section
variable {prog:NC} {w:NP} {K:Type} [DecidableEq K] {knd:HeapKind prog w K} {A:NT} {E:M1->M7->Prop} {s:M7}
end
end PySem
namespace L2
open PySem PySem.Spec PyProof.Rows BB
end L2
namespace BB
open PySem L2
end BB
namespace PySem
open Sem (wp)
section
variable {prog:NC} {w:NP} {A:NT} {E:M1->M7->Prop} {s:M7} {I:M5} {fp wr:List M5} {G:Array GenState->Array GenState->Prop} {n:Nat} {P:Nat->M1->Prop} {St:Nat->M7->Prop}
end
end PySem
namespace L2
open PySem PySem.Spec PyProof.Rows
section
variable {X:Cx} {o e:Od} {to te:TE} {p2 yz apos xV:Qy}
def wt:List V->Hp->VK->Prop:=fun xs H Q=>∃ i:Int,xs=[.int i]/\i.natAbs.log2<1920/\Q (.str (MW (toString i))) H
theorem qi:dq X (.type "str") wt:=by
 intro pins s σ H xs us Q I r h;obtain ⟨i,rfl,hi,q⟩:=h;obtain ⟨u,rfl,rx⟩:=vals1 r;obtain ⟨t,rfl⟩:=rx;exact P.str_of_int hi ⟨.str (MW (toString i)),H,I.tok _,⟨_,rfl⟩,q⟩
end
end L2
namespace PySem
open Sem (wp)
namespace F
end F
section
variable {prog:NC} {w:NP} {A:NT} {E:M1->M7->Prop} {s:M7} {a:M5} {xs:Array M1} {k:Nat}
end
end PySem
namespace L2
open PySem PySem.Spec PyProof.Rows
section
variable {X:Cx} {pins:List (M5×Pb)} {σ:St}
end
end L2
namespace BB
open PySem L2
def aM (i:Int):Nd:=MW (toString i)
def dot:Nd:=MW "."
end BB
namespace PySem
section
variable {prog:NC} {w:NP} {A:NT} {E:M1->M7->Prop} {s:M7}
theorem bb_zip_next0 {z TI TO i1 i2 l1 l2:M5} {k:Nat} {xs ys:Array M1} {x y a b:M1} {Q:Option M1->M7->Prop} (D:ZipApart z TI TO i1 i2 l1 l2)
 (hz:Rq s.heap z TI TO .none) (hTI:PR s.heap TI (.ref i1) (.ref i2)) (hTO:PR s.heap TO a b)
 (h1:s.heap.IsTupleIter i1 l1 k) (h2:s.heap.IsTupleIter i2 l2 k) (yq:s.heap.IsTuple l1 xs) (yd:s.heap.IsTuple l2 ys) (hx:xs[k]?=some x) (hy:ys[k]?=some y)
 (hQ:∀ h',Rq h' z TI TO (RK s.heap.objs.size)->PR h' TO x y->h'.IsTupleIter i1 l1 (k+1)->h'.IsTupleIter i2 l2 (k+1)->PR h' s.heap.objs.size x y->h'.objs.size=s.heap.objs.size+1 →
  (∀ c o,c≠z->c≠TO->c≠i1->c≠i2->s.heap.get? c=some o->h'.get? c=some o)->Q (some (.ref s.heap.objs.size)) { s with heap:=h' }) :
 Nv (NI prog w) A (pyNext (.ref z)) Q E s:=by
 have hT:s.TypeIs (.ref z) "zip":=⟨_,hz,rfl⟩;unfold pyNext;refine M0 (wpAny_attempt (Pe (name:=MW "__next__") hT RB (Qh RB hT F.entry_zip_next ?_ (F.args_zip_next_1 _))));exact bb_zip_itemA D hz hTI hTO h1 h2 yq yd hx hy fun h' a1 a2 a3 a4 a5 a6 a7=>Nk (hQ h' a1 a2 a3 a4 a5 a6 a7)
end
end PySem
namespace L2
open PySem PySem.Spec PyProof.Rows
def Itz (K:MY) (a b:M5):It:=⟨fun i H=>∃ xs ys x y,SqT K H a xs/\SqT K H b ys/\xs[i]?=some x/\ys[i]?=some y,fun i H v H'=>∃ p x y,H p=none/\v=.ref p/\H'=upd H p (.tup [x,y])/\(∀ xs,SqT K H a xs->xs[i]?=some x)/\(∀ ys,SqT K H b ys->ys[i]?=some y),fun i H=>∃ xs ys,SqT K H a xs/\SqT K H b ys/\(xs.length<=i∨ys.length<=i)⟩
structure ZTn (z TI TO i1 i2 a b:M5) (i:Nat) (h:Oo):Prop where
 ap:ZipApart z TI TO i1 i2 a b
 zip:Rq h z TI TO .none
 hTI:PR h TI (.ref i1) (.ref i2)
 hTO:∃ u v,PR h TO u v
 h1:h.IsTupleIter i1 a i
 h2:h.IsTupleIter i2 b i
theorem rT {P:NC} {w:NP} {K:MY} {elts:List Od} {k1} {pos:Qy} (a b z TI TO i1 i2:M5):Turn P w K (.Tuple elts k1 pos) (Itz K a b) [z,TI,TO,i1,i2] z (ZTn z TI TO i1 i2 a b) where
 mem:=by simp
 obj:=fun i h st c hc=>by
  obtain ⟨D,hz,hTI,⟨u,v,hTO⟩,⟨o1,a1,a2,a3⟩,⟨o2,b1,b2,b3⟩⟩:=st;simp only [Nb,OR,or_false] at hc;rcases hc with rfl | rfl | rfl | rfl | rfl
  · exact ⟨_,hz,fun v z=>by cases z⟩
  · exact ⟨_,hTI,fun v z=>by cases z⟩
  · exact ⟨_,hTO,fun v z=>by cases z⟩
  · exact ⟨o1,a1,fun v z=>by rw [a3] at z;cases z⟩
  · exact ⟨o2,b1,fun v z=>by rw [b3] at z;cases z⟩
 keep:=fun i h h' st k=>by
  obtain ⟨D,hz,hTI,⟨u,v,hTO⟩,⟨o1,a1,a2⟩,⟨o2,b1,b2⟩⟩:=st;exact ⟨D,k _ (by simp) _ hz,k _ (by simp) _ hTI,⟨u,v,k _ (by simp) _ hTO⟩,⟨o1,k _ (by simp) _ a1,a2⟩,⟨o2,k _ (by simp) _ b1,b2⟩⟩
 item:=by
  intro X hP hw hK hc i pins s σ H E I hf st hg;subst hP hw hK;obtain ⟨xs,ys,x,y,Cn,Co,hx,hy⟩:=hg;obtain ⟨ia,Ez,pa,Du⟩:=I.tuple Cn;obtain ⟨ib,EA,pb,Dw⟩:=I.tuple Co;obtain ⟨u,hu,ru⟩:=Ez.get hx;obtain ⟨v,hv,rv⟩:=EA.get hy;obtain ⟨D,hz,hTI,⟨ta,tb,hTO⟩,h1,h2⟩:=st
  have lt:∀ c∈[z,TI,TO,i1,i2],c<s.heap.objs.size:=fun c hc=>by
   simp only [Nb,OR,or_false] at hc;rcases hc with rfl | rfl | rfl | rfl | rfl
   · exact Np hz
   · exact Np hTI
   · exact Np hTO
   · obtain ⟨o,e,_⟩:=h1;exact Np e
   · obtain ⟨o,e,_⟩:=h2;exact Np e
  refine bb_zip_next0 D hz hTI hTO h1 h2 (show s.heap.IsTuple a ia.toArray from pa) (show s.heap.IsTuple b ib.toArray from pb) (by simpa using hu) (by simpa using hv) fun Ai a1 a2 a3 a4 a5 a6 a7=>?_;refine ⟨_,rfl,wpAny_letOwnedTupleGo_zip a1 fun zI g1 sb=>?_⟩;replace sb:PZ z Ai zI:=sb;have FI:H s.heap.objs.size=none:=I.hok.fresh (M8 _)
  have IA:Inv X pins σ (upd H s.heap.objs.size (.tup [x,y])) { s with heap:=s.heap.push { cls:=.type "tuple",data:=.seq #[u,v] },toks:=s.toks } :=
   I.laid (o:=.tup [x,y]) (fun b ob q=>M6 _ q) (M8 _) ⟨by show 2<=Ny;decide,[u,v],0,.cons ru (.cons rv .nil),Nf _ rfl⟩
  have My:s.heap.objs.size≠z:=PM (lt z (by simp));refine ⟨.ref s.heap.objs.size,upd H s.heap.objs.size (.tup [x,y]),?_,rfl,⟨_,x,y,FI,rfl,rfl,fun zs FJ=>by rw [I.tuple_inj FJ Cn];exact hx,fun zs FJ=>by rw [I.tuple_inj FJ Co];exact hy⟩,?_,fun c hc=>?_⟩
  · have IB:Inv X pins σ (upd H s.heap.objs.size (.tup [x,y])) { s with heap:=zI,toks:=s.toks }:=by
     refine Inv.turnedL (s:={ s with heap:=s.heap.push { cls:=.type "tuple",data:=.seq #[u,v] },toks:=s.toks }) (h':=zI) (fp:=[z,TI,TO,i1,i2]) (t':=s.toks) IA (fun c o hc q=>?_) fun c hc=>?_
     · have n1:c≠z:=fun e=>hc (by simp [e]);have n2:c≠TO:=fun e=>hc (by simp [e]);have n3:c≠i1:=fun e=>hc (by simp [e]);have n4:c≠i2:=fun e=>hc (by simp [e]);rw [sb.2 c n1];by_cases yZ:c=s.heap.objs.size
       · subst yZ;have q':(s.heap.push { cls:=.type "tuple",data:=.seq #[u,v] }).get? s.heap.objs.size=some o:=q;rw [Nf _ rfl] at q';rw [<- q'];exact a5
       · have q':(s.heap.push { cls:=.type "tuple",data:=.seq #[u,v] }).get? c=some o:=q;rw [Heap.get?_push_ne _ _ _ yZ] at q';exact a7 c o n1 n2 n3 n4 q'
     · obtain ⟨f0,f1⟩:=hf c hc;exact ⟨by rw [aq (NQ (lt c hc))];exact f0,f1⟩
    exact IB
  · have sT:∀ c o,c≠z->Ai.get? c=some o->zI.get? c=some o:=fun c o hc e=>(sb.2 c hc).trans e;refine ⟨D,g1,sT _ _ D.TIz (a7 _ _ D.TIz D.TITO D.TIi1 D.TIi2 hTI),⟨_,_,sT _ _ D.TOz a2⟩,?_,?_⟩
    · obtain ⟨o,e,r⟩:=a3;exact ⟨o,sT _ _ D.i1z e,r⟩
    · obtain ⟨o,e,r⟩:=a4;exact ⟨o,sT _ _ D.i2z e,r⟩
  · rw [aq (NQ (lt c hc))];exact (hf c hc).1
 done:=by
  intro X hP hw hK hc i pins s σ H E I hf st hg;subst hP hw hK;obtain ⟨xs,ys,Cn,Co,zF⟩:=hg;obtain ⟨ia,Ez,pa,Du⟩:=I.tuple Cn;obtain ⟨ib,EA,pb,Dw⟩:=I.tuple Co;have yI:=Ez.length;have Mz:=EA.length;obtain ⟨D,hz,hTI,hTO,h1,h2⟩:=st;refine bb_zip_done (show X.A.handled=none from I.ok.hd hc) ⟨D,.inl hz,hTI,hTO,h1,h2,pa,pb⟩ ?_ fun h' kp=>⟨rfl,?_⟩
  · rcases zF with h | h
    · exact .inl (by simp;omega)
    · exact .inr (by simp;omega)
  exact I.turnedL (fp:=[z,TI,TO,i1,i2]) (t':=s.toks) (fun c o hc q=>kp c o (fun hm=>hc (by simp only [Nb,OR,or_false] at hm ⊢;rcases hm with h | h | h | h <;> simp [h])) q) hf
 self:=fun _ _ _ _ _ st h=>wpAny_pyIter_zip st.zip h
section
variable {X:Cx} {e1 e2:Od} {t:TA} {p2 yz:Qy}
def wy (K:MY) (t:TA):TI:=fun σ H R=>t σ H fun vs H1=>∃ a b,vs=[.ref a,.ref b]/\(∃ xs,SqT K H1 a xs)/\(∃ ys,SqT K H1 b ys)/\R (Itz K a b) H1
theorem vk {elts:List Od} {k1} {pos:Qy} (g2:Gl X "zip") (m2:X.mg "zip"=none) (ha:PA X [e1,e2] t)
 (h2:NV [e1,e2] X.env=(false,Pn e1 X.env)::NV [e2] X.env:=by rfl) (h3:(QG yz (NV [e2] X.env)).any (·.1)=false:=by rfl):PI X (.Tuple elts k1 pos) (.Call (.Name "zip" p2) [e1,e2] [] yz) (wy X.K t):=by
 intro pins s σ H R I h;refine O7 (gA I g2 m2 boot_zip ?_);refine Pd (thn (ha yz pins s σ H _ I h) fun us s2 ⟨vs,H2,I2,r,a,b,ev,⟨xs,Cn⟩,⟨ys,Co⟩,q⟩=>?_) h2 h3;subst ev;obtain ⟨u1,u2,rfl,r1,r2⟩:=vals2 r;cases r1;cases r2;obtain ⟨ia,Ez,pa,Du⟩:=I2.tuple Cn;obtain ⟨ib,EA,pb,Dw⟩:=I2.tuple Co;have Cp:a<s2.heap.objs.size:=by obtain ⟨o,e,_⟩:=pa;exact Np e
 have AR:b<s2.heap.objs.size:=by obtain ⟨o,e,_⟩:=pb;exact Np e
 refine bb_call_zip (show s2.heap.IsTuple a ia.toArray from pa) (show s2.heap.IsTuple b ib.toArray from pb) fun h' z1 z2 z3 z4 z5 z6 z7=>?_;have D:ZipApart (s2.heap.objs.size+4) (s2.heap.objs.size+2) (s2.heap.objs.size+3) s2.heap.objs.size (s2.heap.objs.size+1) a b:=zipApart_new Cp AR;refine wpAny_pyIter_zip (s:={ s2 with heap:=h' }) z1 ?_;refine ⟨s2.heap.objs.size+4,[s2.heap.objs.size+4,s2.heap.objs.size+2,s2.heap.objs.size+3,s2.heap.objs.size,s2.heap.objs.size+1],_,_,H2,rfl,I2.kept (t':=s2.toks) z7,rT a b _ _ _ _ _,⟨D,z1,z2,⟨_,_,z3⟩,z4,z5⟩,fun c hc=>?_,q⟩
 have yE:s2.heap.objs.size<=c:=by
  simp only [Nb,OR,or_false] at hc;rcases hc with h | h | h | h | h <;> rw [h]
  · exact QA _ _
  · exact QA _ _
  · exact QA _ _
  · exact M8 _
  · exact QA _ _
 exact I2.fpOk yE (I2.hok.fresh yE)
end
end L2
namespace BB
open PySem L2
def t8:Nd:=MW "/"
def da:Nd:=MW "\n"
def bO (k:Nd×Int):Nd:=k.1++t8++aM k.2
theorem jy {B:Nat}:∀ {l:List Nd},(∀ x∈l,x.length<=B)->(l.map (·.length)).sum<=B * l.length
 | [],_=>by simp
 | x::l,h=>by
   have h1:=h x (Nj ..);have h2:=jy fun y hy=>h y (Ng _ hy);rw [Ni,O2,MZ,Nat.mul_succ];omega
theorem vF {J:It} {g:TG} {tb:TS} {D:Ends} {σ:St} {H:Hp} (n:Nat) (Pv:Nat->St->Hp->Prop) (h0:Pv 0 σ H) (BO:∀ i σ H,i<n->Pv i σ H->J.go i H) (yA:∀ σ H,Pv n σ H->J.stop n H)
 (hs:∀ i x σ H H',i<n->Pv i σ H->J.yld i H x H'->g x σ H' fun xD H2=>tb { D with nx:=Pv (i+1),ct:=Pv (i+1),bk:=D.nx } xD H2) (hd:∀ σ H,Pv n σ H->D.nx σ H) :
 ∃ W:Nat->Nat->St->Hp->Prop,(∃ m,W 0 m σ H)/\∀ i m σ H,W i m σ H →
   (J.stop i H/\D.nx σ H)∨(J.go i H/\∃ N:St->Hp->Prop,(∀ f' H',N f' H'->∃ m',m'<m/\W (i+1) m' f' H')/\∀ x H',J.yld i H x H'->g x σ H' fun xD H2=>tb { D with nx:=N,ct:=N,bk:=D.nx } xD H2):=by
 refine ⟨fun i m σ H=>i<=n/\m=n - i/\Pv i σ H,⟨n,N2 _,rfl,h0⟩,?_⟩;rintro i m σ H ⟨hi,rfl,p⟩;by_cases h:i=n
 · left;subst h;exact ⟨yA σ H p,hd σ H p⟩
 · right;have yT:i<n:=by omega
   exact ⟨BO i σ H yT p,Pv (i+1),fun f' H' q=>⟨n - (i+1),by omega,by omega,rfl,q⟩,fun x H' y=>hs i x σ H H' yT p y⟩
end BB
namespace BB
open PySem L2
noncomputable section
local instance:DecidableEq Th:=fun _ _=>Classical.propDecidable _
end
end BB
namespace PySem
open Sem (wp)
section
variable {prog:NC} {w:NP} {K:Type} [DecidableEq K] {knd:HeapKind prog w K} {A:NT} {E:M1->M7->Prop} {s:M7}
end
end PySem
namespace L2
open PySem PySem.Spec PyProof.Rows
end L2
namespace PySem
open Sem (wp)
section
variable {prog:NC} {w:NP} {A:NT} {R:Result->M7->Prop}
end
section
variable {prog:NC} {w:NP} {A:NT} {E:M1->M7->Prop} {s:M7}
end
end PySem
namespace L2
open PySem PySem.Spec PyProof.Rows
end L2
namespace L2
open PySem PySem.Spec PyProof.Rows BB
end L2
namespace PySem
open Sem (wp)
section
variable {prog:NC} {w:NP} {K:Type} [DecidableEq K] (knd:HeapKind prog w K) (d:M5)
end
section
variable {prog:NC} {w:NP} {K:Type} [DecidableEq K] {knd:HeapKind prog w K} {A:NT} {E:M1->M7->Prop} {s:M7}
end
end PySem
namespace L2
open PySem PySem.Spec PyProof.Rows
end L2
namespace BB
open PySem L2
end BB
namespace BB
open PySem L2
end BB
namespace BB
open PySem L2
end BB
namespace BB
open PySem L2
end BB
namespace BB
open PySem L2 PySem.Builtin PySem.Builtin.Str
def ofL (l:List Nat):Nd:=⟨l.toArray⟩
theorem aL (l:List Nat):(ofL l).cps.toList=l:=by unfold ofL;simp
theorem dl {x y:Nd} (h:x.cps.toList=y.cps.toList):x=y:=by
 apply Str.ext';exact Array.toList_inj.mp h
theorem iw (x:Nd):ofL x.cps.toList=x:=dl (aL _)
def aB (c:Nat):List Nat->List (List Nat)
 | []=>[[]]
 | d::l=>if d=c then []::aB c l else match aB c l with
   | []=>[[d]]
   | p::r=>(d::p)::r
theorem bI (c:Nat):∀ l,∃ p r,aB c l=p::r
 | []=>⟨[],[],rfl⟩
 | d::l=>by
   obtain ⟨p,r,e⟩:=bI c l;rw [aB,e];split
   · exact ⟨_,_,rfl⟩
   · exact ⟨_,_,rfl⟩
def idxs (c:Nat):Nat->List Nat->List Nat
 | _,[]=>[]
 | off,d::l=>if d=c then off::idxs c (off+1) l else idxs c (off+1) l
theorem cu (c:Nat):(⟨#[c]⟩:Nd).length=1:=rfl
theorem subAt_one (x:Nd) (c i:Nat) (hi:i<x.length):subAt x ⟨#[c]⟩ i=decide (x.cps.toList[i]?=some c):=by
 rw [StrLaws.subAt_eq,cu];have hl:i<x.cps.toList.length:=by rw [Nm];exact hi
 rw [OZ hl,M3 hl];show ([x.cps.toList[i]] == [c])=_;by_cases h:x.cps.toList[i]=c
 · rw [h];simp
 · have:decide (some x.cps.toList[i]=some c)=false:=decide_eq_false fun z=>h (Nh z);rw [this];exact beq_false_of_ne fun z=>h (N4 z).1
theorem rW (x:Nd) (c:Nat) (f:Array Nat) (free:Nat):(forIn [x.length] (f,free) (Ov x ⟨#[c]⟩ x.length (x.length+1))).run.fst=f:=by
 rw [OY];unfold Ov
 have h1:¬ (((f.size<x.length+1/\free<=x.length)/\x.length+(⟨#[c]⟩:Nd).length<=x.length)/\subAt x ⟨#[c]⟩ x.length=true):=fun h=>by
  have:=h.1.2;rw [cu] at this;omega
 rw [if_neg h1];rfl
theorem kH (x:Nd) (c:Nat):∀ (l pre:List Nat) (f:Array Nat) (free:Nat),x.cps.toList=pre++l->free<=pre.length->f.size<=pre.length →
 (forIn (List.range' pre.length (l.length+1)) (f,free) (Ov x ⟨#[c]⟩ x.length (x.length+1))).run.fst.toList=f.toList++idxs c pre.length l
 | [],pre,f,free,hx,_,_=>by
   have hlen:pre.length=x.length:=by
    have:=congrArg O6 hx;rw [Nm,Nz] at this;exact this.symm
   rw [PQ,hlen,idxs,Nz];exact congrArg RW (rW x c f free)
 | d::l,pre,f,free,hx,hf,hs=>by
   have hlen:x.length=pre.length+(l.length+1):=by
    have:=congrArg O6 hx;rw [Nm,Na,MZ] at this;exact this
   rw [List.range'_succ,OY,MZ];have hg:x.cps.toList[pre.length]?=some d:=by rw [hx];simp
   have yM:=subAt_one x c pre.length (by omega);rw [hg] at yM;have ze:x.cps.toList=(pre++[d])++l:=by rw [hx];simp
   have yk:(pre++[d]).length=pre.length+1:=by simp
   unfold Ov;rw [idxs];by_cases yD:d=c
   · have h1:((f.size<x.length+1/\free<=pre.length)/\pre.length+(⟨#[c]⟩:Nd).length<=x.length)/\subAt x ⟨#[c]⟩ pre.length=true:=by
      rw [cu,yM,yD];exact ⟨⟨⟨by omega,hf⟩,by omega⟩,decide_eq_true rfl⟩
     rw [if_pos h1,if_pos yD];have ih:=kH x c l (pre++[d]) (f.push pre.length) (pre.length+1) ze (by omega) (by rw [Array.size_push];omega);rw [yk] at ih;unfold Ov at ih;exact Eq.trans ih (by rw [Array.toList_push,Nr];rfl)
   · have h1:¬ (((f.size<x.length+1/\free<=pre.length)/\pre.length+(⟨#[c]⟩:Nd).length<=x.length)/\subAt x ⟨#[c]⟩ pre.length=true):=fun h=>by
      have h2:=h.2;rw [yM] at h2;exact yD (Nh (of_decide_eq_true h2))
     rw [if_neg h1,if_neg yD];have ih:=kH x c l (pre++[d]) f free ze (by omega) (by omega);rw [yk] at ih;unfold Ov at ih;exact ih
theorem mE (x:Nd) (c:Nat):occurrences x ⟨#[c]⟩ 0 x.length (x.length+1)=idxs c 0 x.cps.toList:=by
 rw [StrLaws.occ_eq,RQ];have h:=kH x c x.cps.toList [] #[] 0 (by simp) (N2 _) (N2 _);rw [Nm] at h;exact h
theorem gp (x:Nd) (c:Nat):∀ (l pre:List Nat) (i:Nat),x.cps.toList=pre++l->i<=pre.length →
 (StrLaws.partsFrom x 1 i (idxs c pre.length l)).map (fun p=>p.cps.toList)=match aB c l with | []=>[] | p::r=>(pre.drop i++p)::r
 | [],pre,i,hx,hi=>by
   have hlen:x.length=pre.length:=by
    have:=congrArg O6 hx;rw [Nm,Nz] at this;exact this
   rw [idxs,aB,StrLaws.partsFrom,Ni,OC,StrLaws.strSub_toList,hx,Nz,hlen,N1 (by rw [N9];omega)];simp
 | d::l,pre,i,hx,hi=>by
   have ze:x.cps.toList=(pre++[d])++l:=by rw [hx];simp
   have yk:(pre++[d]).length=pre.length+1:=by simp
   rw [idxs,aB];obtain ⟨p,r,e⟩:=bI c l;by_cases yD:d=c
   · rw [if_pos yD,if_pos yD,StrLaws.partsFrom,Ni];have ih:=gp x c l (pre++[d]) (pre.length+1) ze (by omega);rw [yk,e] at ih;rw [ih,StrLaws.strSub_toList,hx,e]
     have h1:((pre++d::l).drop i).take (pre.length - i)=pre.drop i:=by
      rw [List.drop_append_of_le_length hi,List.take_left' (by rw [N9])]
     have h2:(pre++[d]).drop (pre.length+1)=[]:=List.drop_eq_nil_of_le (by rw [yk];omega);rw [h1,h2];simp
   · rw [if_neg yD,if_neg yD];have ih:=gp x c l (pre++[d]) i ze (by omega);rw [yk,e] at ih;rw [ih,e,List.drop_append_of_le_length hi];simp
theorem lx (x:Nd) (c:Nat):partsBetween x (occurrences x ⟨#[c]⟩ 0 x.length (x.length+1)) 1=(aB c x.cps.toList).map ofL:=by
 rw [StrLaws.partsBetween_eq,mE];have h:=gp x c x.cps.toList [] 0 (by simp) (M8 _);rw [PQ] at h;obtain ⟨p,r,e⟩:=bI c x.cps.toList;rw [e] at h ⊢;have h2:=congrArg (List.map ofL) h;rw [O4] at h2;have h3:((ofL ∘ fun p:Nd=>p.cps.toList):Nd->Nd)=fun p=>p:=funext fun p=>iw p;rw [h3,List.map_id'] at h2;rw [h2];simp
theorem jB (c:Nat):∀ (l:List Nat) (off:Nat),idxs c off l=[]->aB c l=[l]
 | [],_,_=>rfl
 | d::l,off,h=>by
   rw [idxs] at h;by_cases yD:d=c
   · rw [if_pos yD] at h;cases h
   · rw [if_neg yD] at h;rw [aB,if_neg yD,jB c l _ h]
theorem mT {x:Nd} {c:Nat} (hc:c<256):¬ N5 x<N5 ⟨#[c]⟩:=by
 have h1:N5 ⟨#[c]⟩=1:=by
  unfold N5;have:(#[c]:Array Nat).all (·<256)=true:=by simp [hc]
  rw [if_pos this]
 have h2:1<=N5 x:=by
  unfold N5;split
  · exact M8 _
  · split <;> decide
 omega
theorem iF (x:Nd) {c:Nat} (hc:c<256):OT x ⟨#[c]⟩=(aB c x.cps.toList).map ofL:=by
 unfold OT;by_cases h0:x.length=0
 · have hx:x.cps.toList=[]:=Oe.mp (by rw [Nm];exact h0)
   have h1:(decide (x.length<(⟨#[c]⟩:Nd).length) || decide (N5 x<N5 ⟨#[c]⟩))=true:=by
    rw [cu,h0];rfl
   rw [if_pos h1,hx];show [x]=[ofL []];rw [<- hx,iw]
 · have h1:¬ (decide (x.length<(⟨#[c]⟩:Nd).length) || decide (N5 x<N5 ⟨#[c]⟩))=true:=fun h=>by
    rcases Ri .. |>.mp h with h | h
    · have:=of_decide_eq_true h;rw [cu] at this;omega
    · exact mT hc (of_decide_eq_true h)
   rw [if_neg h1];by_cases h2:(occurrences x ⟨#[c]⟩ 0 x.length (x.length+1)).isEmpty=true
   · rw [if_pos h2];rw [mE] at h2;have h3:=jB c _ 0 (List.isEmpty_iff.mp h2);rw [h3,Ni,OC,iw]
   · rw [if_neg h2,cu];exact lx x c
def dg (c:Nat) (z:List Nat) (l:List Nat):List Nat:=l.flatMap fun d=>if d=c then z else [d]
theorem dY (c:Nat) (z:Nd):∀ l:List Nat,(Rl z ((aB c l).map ofL)).cps.toList=dg c z.cps.toList l
 | []=>by
   show (ofL []).cps.toList=_;rw [aL];rfl
 | d::l=>by
   have ih:=dY c z l;obtain ⟨p,r,e⟩:=bI c l;rw [aB];unfold dg at ih ⊢;rw [O9,<- ih,e];by_cases yD:d=c
   · rw [if_pos yD,if_pos yD];show (ofL []++z++Rl z (ofL p::r.map ofL)).cps.toList=_;rw [Qd,Qd,OG,OG,aL,NK];rfl
   · rw [if_neg yD,if_neg yD];cases r with
     | nil =>
       show (ofL (d::p)).cps.toList=[d]++(ofL p).cps.toList;rw [aL,aL];rfl
     | cons p2 r =>
       show (ofL (d::p)++z++Rl z (ofL p2::r.map ofL)).cps.toList=[d]++(ofL p++z++Rl z (ofL p2::r.map ofL)).cps.toList;rw [Qd,Qd,Qd,Qd,OG,OG,OG,OG,aL,aL];rfl
theorem replace_one (x z:Nd) (c:Nat) (hz:z.length≠0):Rg x ⟨#[c]⟩ z=ofL (dg c z.cps.toList x.cps.toList):=by
 apply dl;rw [aL];unfold Rg;by_cases h2:(occurrences x ⟨#[c]⟩ 0 x.length (x.length+1)).isEmpty=true
 · rw [if_pos (by rw [h2];rfl)];rw [mE] at h2;have h3:=jB c _ 0 (List.isEmpty_iff.mp h2);have h4:=dY c z x.cps.toList;rw [h3] at h4;rw [<- h4];show _=(ofL x.cps.toList).cps.toList;rw [aL]
 · have h3:¬ ((occurrences x ⟨#[c]⟩ 0 x.length (x.length+1)).isEmpty || ((⟨#[c]⟩:Nd).length == 0 && z.length == 0))=true:=fun h=>by
    rcases Ri .. |>.mp h with h | h
    · exact h2 h
    · rw [cu] at h;simp at h
   rw [if_neg h3,cu,lx,StrLaws.glued_eq_join];exact dY c z _
end BB
namespace L2
open PySem PySem.Spec PySem.Calls PyProof.Rows BB
section
variable {X:Cx} {pins:List (M5×Pb)} {σ:List (Option V)} {H:Hp} {s:M7}
theorem pX {M:Model} {A:NT} {E:M1->M7->Prop} {i:Nat} {x:Nd} {v:V} {u:M1} {Q:Unit->M7->Prop} (I:Inv X pins σ H s) (hN:X.N.Nodup) (hi:X.N[i]?=some x) (hk:X.env.scope.names.lookup x=some .local) (r:RelV v u)
 (h:∀ h' m',Inv X pins (σ.set i (some v)) H { s with heap:=h',toks:=s.toks+1 }->h'.Ns X.env.locals m'->m' x=some u->(∀ (j:Nat) (y:Nd) (w:V),j≠i->X.N[j]?=some y->σ[j]?=some (some w)->X.env.scope.names.lookup y=some .local->∃ u',RelV w u'/\m' y=some u')->Q () { s with heap:=h',toks:=s.toks+1 }):Nv M A (storeName X.env x u) Q E s:=by
 obtain ⟨m,hn,hl⟩:=id I.loc;have BE:(X.env.scope.kind == .class || (X.env.scope.kind == .module && X.env.locals != X.env.globals))=false:=by rw [I.ok.kind];rfl
 have AG:i<σ.length:=by rw [I.len];exact (Nl.mp hi).1
 have cne:=I.cne
 have tracked:∀ {a:M5} {h':Oo},(∃ o,s.heap.get? a=some o/\H a=none)->PZ a s.heap h'->HOk X.prog X.w H h':=fun {a h'} ha hs b ob e=>by
  obtain ⟨_,_,yU⟩:=ha;refine (I.hok b ob e).stay (fun c w' hc q=>(hs.2 c ?_).trans q) (fun _ q=>q) fun _ _ q=>q;rintro rfl;rcases hc with rfl | hc
  · rw [yU] at e;cases e
  · rw [yU] at hc;cases hc
 refine wpAny_storeName_local hk hn (fun h' Eh hs=>?_) BE;obtain ⟨oL,_,_,E8,_⟩:=id hn;refine h h' _ ⟨I.ok,I.os,I.bare,⟨fun b o e n hb hx=>?_,fun b o e n hb hx=>?_,I.base.free,fun b o e hx=>?_,I.base.tups,I.base.frzs,I.base.tbls⟩,⟨_,Eh,fun j y v' e1 e2 e3=>?_⟩,fun y c e=>?_,I.free,I.freeC,fun p hp=>?_,tracked ⟨oL,E8,I.free⟩ hs,by simpa using I.len⟩ Eh (by simp) (fun j y w hj h1 h2 h3=>?_)
 · exact (hs.2 b (NQ (NL (Np e) I.ok.above))).trans (I.base.keep b o e n hb hx)
 · obtain ⟨sl,e1⟩:=I.base.slot b o e n hb hx;exact ⟨sl,(hs.2 b (NQ (NL (Np e) I.ok.above))).trans e1⟩
 · obtain ⟨o',e1⟩:=I.base.there b o e hx;exact ⟨o',(hs.2 b (NQ (NL (Np e) I.ok.above))).trans e1⟩
 · by_cases hj:j=i
   · subst hj;rw [hi] at e1;cases e1;rw [Ra AG] at e2;cases e2;exact ⟨u,r,.inl ⟨hk,by simp⟩⟩
   · rw [QI (QE hj)] at e2;obtain ⟨u',r',q⟩:=hl j y v' e1 e2 e3;refine ⟨u',r',?_⟩;rcases q with ⟨k,e⟩ | ⟨k,c,e,z⟩
     · refine .inl ⟨k,?_⟩;have:y≠x:=fun e=>hj (hG hN e1 (e ▸ hi));simp [this,e]
     · exact .inr ⟨k,c,e,z.sameBut hs (cne y c e)⟩
 · obtain ⟨w',z⟩:=I.cell y c e;exact ⟨w',z.sameBut hs (cne y c e)⟩
 · obtain ⟨e,n,ne,nf,d⟩:=I.pin p hp;exact ⟨(hs.2 p.1 ne).trans e,n,ne,nf,d⟩
 · obtain ⟨u',r',q⟩:=hl j y w h1 h2 (.inl h3);refine ⟨u',r',?_⟩;have Ka:y≠x:=fun e=>hj (hG hN h1 (e ▸ hi));rcases q with ⟨k,e⟩ | ⟨k,c,e,z⟩
   · simp [Ka,e]
   · have k':X.env.scope.names.lookup y=some .cell∨X.env.scope.names.lookup y=some .free:=k;rcases k' with k' | k' <;> (rw [h3] at k';cases k')
end
def BT (X:Cx) (tg:Od) (body:List OP) (tb:Ends->V->St->Hp->Prop):Prop :=
 ∀ (pins:List (M5×Pb)) (s:M7) (σ:St) (H:Hp) (c:Nat) (t:Tok) (D:Ends),Inv X pins σ H s->0<t->t<s.toks->tb D (.str ⟨#[c]⟩) σ H →
   Nv (NI X.prog X.w) X.A (assign tg X.env (.str ⟨#[c]⟩ t)) (fun _ s2=>Nv (NI X.prog X.w) X.A (execs body X.env) (SP X pins D) X.xe s2) X.xe s
def vS (x:Nd) (tb:Ends->V->St->Hp->Prop):TS:=fun D σ H=>∃ W:Nat->St->Hp->Prop,W 0 σ H/\∀ i σ H,W i σ H->(x.cps.size=i/\D.nx σ H)∨∃ c,x.cps[i]?=some c/\tb { D with nx:=W (i+1),ct:=W (i+1),bk:=D.nx } (.str ⟨#[c]⟩) σ H
theorem tR {X:Cx} {tg:Od} {body:List OP} {x:Nd} {k:Nat} {xV pos:Qy} {tb:Ends->V->St->Hp->Prop} (hp:PassesOwn (NI X.prog X.w) X.A X.env X.xe) (hc:X.calm=true) (ha:x.cps.all (·<128)=true) (hb:BT X tg body tb)
 (hs:∀ y,Rc (.Constant (.str x) k xV) X.env y=pure y:=by intro _;rfl):PS X (.For tg (.Constant (.str x) k xV) body [] pos) (vS x tb):=by
 intro pins s σ H D I h;obtain ⟨W,w0,turn⟩:=h;refine wpAny_For (PC ?_) hs;have I1:Inv X pins σ H { s with toks:=s.toks+1 }:=I.tok _;refine wpAny_pyIter_ascii ha ?_;have T:=jU (P:=X.prog) (w:=X.w) (K:=X.K) (tg:=tg) x s.toks s.heap.objs.size
 have f2:∀ b∈[s.heap.objs.size],gB X pins H b:=fun b hb=>by
  have e:b=s.heap.objs.size:=by simpa using hb
  subst e;exact I.fpOk (M8 _) (I.hok.fresh (M8 _))
 have yw:∀ {H':Hp},(∀ b∈[s.heap.objs.size],H' b=none)->∀ b∈[s.heap.objs.size],gB X pins H' b:=fun hn b hb=>⟨hn b hb,(f2 b hb).2⟩;refine codeAny_forLoop_any (fun n s'=>∃ i f' H',Inv X pins f' H' s'/\s'.heap.IsStrIter s.heap.objs.size "str_ascii_iterator" x s.toks i/\(∀ b∈[s.heap.objs.size],H' b=none)/\W i f' H'/\n+i=x.cps.size+1/\i<=x.cps.size/\0<s'.toks) ?_ (x.cps.size+1) ⟨0,σ,H,I1.kept (t':=s.toks+1) fun b o e=>M6 _ e,⟨_,Nf _ rfl,rfl,rfl⟩,fun b hb=>(f2 b hb).1,w0,rfl,N2 _,Nat.succ_pos _⟩;rintro n s3 ⟨i,yV,H3,I3,CM,Cc,w3,Dp,MA,EB⟩;rcases turn i yV H3 w3 with ⟨stop,qn⟩ | ⟨c,HI,step⟩
 · refine OD hp (thn (T.done X rfl rfl rfl hc i pins s3 yV H3 X.xe I3 (yw Cc) CM stop) fun r s4 ⟨hr,I4⟩=>?_);subst hr;exact P1 ⟨yV,H3,I4,qn⟩
 · have zp:i<x.cps.size:=(Array.getElem?_eq_some_iff.mp HI).1;obtain ⟨f0,f1,MB,f3,f4,f5⟩:=yw Cc s.heap.objs.size (by simp);refine OD hp (wpAny_pyNext_ascii_item CM (c:=c) HI fun h' yp sb=>?_);have I5:Inv X pins yV H3 { s3 with heap:=h',toks:=s3.toks+1 }:=I3.turned (fun b o hb e=>(sb.2 b hb).trans e) f0 f1 f3 f4 f5;obtain ⟨o5,e5,c5,d5⟩:=id yp;refine OD hp (jN (s:={ s3 with heap:=h',toks:=s3.toks+1 }) e5 c5 d5 (by decide) ?_);have Fc:=I5.pinned (yw Cc) (T.obj (i+1) h' yp);have hB:=hb _ { s3 with heap:=h',toks:=s3.toks+1 } yV H3 c s3.toks { D with nx:=W (i+1),ct:=W (i+1),bk:=D.nx } Fc EB (Qz _) step;have Kb:=wpAny_toks_of (n:=1) (show 1<=s3.toks+1 by omega) hB;refine OD hp (OM Kb (fun _ s6 ⟨Kc,h6⟩=>?_) fun e s' h=>h.2);have Kd:=wpAny_toks_of (n:=1) Kc h6;refine OD hp (OM Kd (fun f s7 ⟨Ke,q7⟩=>?_) fun e s' h=>h.2)
   have again:∀ {yF:St} {H7:Hp},Inv X (pins++ix [s.heap.objs.size] h') yF H7 s7->W (i+1) yF H7->∃ m,m<n/\∃ i f' H',Inv X pins f' H' s7/\s7.heap.IsStrIter s.heap.objs.size "str_ascii_iterator" x s.toks i/\(∀ b∈[s.heap.objs.size],H' b=none)/\W i f' H'/\m+i=x.cps.size+1/\i<=x.cps.size/\0<s7.toks:=fun {yF H7} I7 n7=>by
    refine ⟨n - 1,by omega,i+1,yF,H7,I7.unpinned,T.keep _ _ _ yp fun b hb o e=>(I7.pin (b,o) (NJ _ (NJ _ (ci hb e)))).1,fun b hb=>?_,n7,by omega,by omega,Ke⟩;obtain ⟨o,e,d⟩:=T.obj _ _ yp b hb;exact (I7.pin (b,o) (NJ _ (NJ _ (ci hb e)))).2.1
   cases f with
   | next=>obtain ⟨yF,H7,I7,n7⟩:=q7;exact again I7 n7
   | cont=>obtain ⟨yF,H7,I7,n7⟩:=q7;exact again I7 n7
   | brk=>obtain ⟨yF,H7,I7,q7⟩:=q7;exact ⟨yF,H7,I7.unpinned,q7⟩
   | ret v=>obtain ⟨x7,yF,H7,I7,r7,q7⟩:=q7;exact ⟨x7,yF,H7,I7.unpinned,r7,q7⟩
def vJ (i j:Nat):Ends->V->St->Hp->Prop:=fun D v σ H=>∃ (z:Nd) (c:Nat),v=.str ⟨#[c]⟩/\σ[j]?=some (some (.str z))/\c≠32/\z.length<=1000000/\D.nx ((σ.set i (some v)).set j (some (.str (ofL (dg c [32,c,32] z.cps.toList))))) H
theorem vc {c:Nat}:((⟨#[c]⟩:Nd) == (⟨#[32,c,32]⟩:Nd))=false:=by
 refine beq_false_of_ne fun z=>?_;have:=congrArg (fun w:Nd=>w.cps.size) z;cases this
theorem vz {X:Cx} {i j:Nat} {x y:Nd} {p0 p1 p2 p3 p4 p5 p6 p7 p8 p9 FK FL:Qy} {k1 k2:Nat} (hN:X.N.Nodup) (hi:X.N[i]?=some x) (hj:X.N[j]?=some y) (Bl:i≠j) (hx:X.env.scope.names.lookup x=some .local) (hy:X.env.scope.names.lookup y=some .local)
 (EC:(x == ("__debug__":Nd))=false:=by decide) (Kf:(y == ("__debug__":Nd))=false:=by decide) (yL:(p4.endLine == FK.line)=true:=by rfl)
 (hs:swapsWith (.Call (.Attribute (.Name y p3) "replace" p4) [.Name x p5,.JoinedStr [.Constant (.str (MW " ")) k1 p6,.FormattedValue (.Name x p7) (-1) none p8,.Constant (.str (MW " ")) k2 p9] FL] [] FK) (some (.Name y p2)) p1.line X.env=pure false:=by rfl) :
 BT X (.Name x p0) [.Assign [.Name y p2] (.Call (.Attribute (.Name y p3) "replace" p4) [.Name x p5,.JoinedStr [.Constant (.str (MW " ")) k1 p6,.FormattedValue (.Name x p7) (-1) none p8,.Constant (.str (MW " ")) k2 p9] FL] [] FK) p1] (vJ i j):=by
 intro pins s σ H c t D I Kg ht h;obtain ⟨z,c',hv,Kh,Ki,hz,q⟩:=h
 have Ei:c=c':=by
  have h1:=V.str.inj hv;have h2:=congrArg (fun w:Nd=>w.cps) h1;simpa using h2
 subst Ei;refine wpAny_assign_Name (pX (v:=.str ⟨#[c]⟩) I hN hi hx ⟨t,rfl⟩ fun h' m' I2 hn HJ hm=>?_);obtain ⟨u0,r0,Kj⟩:=hm j y _ (QE Bl) hj Kh hy;obtain ⟨t0,rfl⟩:=r0;refine wpAny_execs_cons ?_;refine wpAny_Assign_Name (QF rfl rfl yL rfl (Rt (Qb I2.ok.kind hy hn Kj ?_) Kf)) hs;refine ⟨"str","str.replace",N7,PySem.F.slot_str_replace,PySem.F.type_str_replace,Qc _ _ _,(fun _ e=>nomatch e),?_⟩;refine P0 rfl (Qf ?_);show Nv _ _ (spliced [(false,Pn (.Name x p5) X.env),(false,Pn (.JoinedStr [.Constant (.str (MW " ")) k1 p6,.FormattedValue (.Name x p7) (-1) none p8,.Constant (.str (MW " ")) k2 p9] FL) X.env)]) _ _ _;refine O8 (Rt (Qb I2.ok.kind hx hn HJ ?_) EC);refine O8 ?_
 have fin:∀ (t2 k:Nat),t<t2->Nv (NI X.prog X.w) X.A (call (.builtin "str.replace") [.str z t0,.str ⟨#[c]⟩ t,.str ⟨#[32,c,32]⟩ t2]) (fun v xm=>Nv (NI X.prog X.w) X.A (storeName X.env y v) (fun _ s'=>Nv (NI X.prog X.w) X.A (execs [] X.env) (SP X pins D) X.xe s') X.xe xm) X.xe { s with heap:=h',toks:=k }:=fun t2 k hk=>by
  refine SC.replaceW (PM Kg) (PM (RE (N2 _) hk)) (NQ hk) vc (by omega) (by show 3<=14;decide) fun t' k'=>?_;rw [replace_one z ⟨#[32,c,32]⟩ c (by show 3≠0;decide)];refine im (v:=.str (ofL (dg c [32,c,32] z.cps.toList))) (I2.tok k') hN hj (.inl hy) ⟨t',rfl⟩ (fun s2 I3=>P1 ⟨_,H,I3,?_⟩) (.inr hy);exact q
 have e3:Str.empty++MW " "++(⟨#[c]⟩:Nd)++MW " "=⟨#[32,c,32]⟩:=rfl;have big:∀ n:Nat,n<=100->n<=Ny:=fun n hn=>by rw [Pp];omega
 refine wpAny_JoinedStr ?_;show Nv _ _ (Pn (.Constant (.str (MW " ")) k1 p6) X.env) _ _ _;refine PC ⟨_,_,rfl,big _ (by decide),?_⟩;show Nv _ _ (Pn (.FormattedValue (.Name x p7) (-1) none p8) X.env) _ _ _;refine wpAny_FormattedValue_plain (Rt (Qb I2.ok.kind hx hn HJ ?_) EC)
 have last:∀ k:Nat,t<k->Nv (NI X.prog X.w) X.A (Pn (.Constant (.str (MW " ")) k2 p9) X.env) (fun v xm=>∃ y' t',v=.str y' t'/\(Str.empty++MW " "++(⟨#[c]⟩:Nd)++y').length<=Ny/\Joins (NI X.prog X.w) X.A X.xe (evalEach [] X.env) (Str.empty++MW " "++(⟨#[c]⟩:Nd)++y') (fun out xm=>out.length<=Ny/\Nv (NI X.prog X.w) X.A (spliced []) (fun vs yv=>Nv (NI X.prog X.w) X.A (call (.builtin "str.replace") ([.str z t0]++(.str ⟨#[c]⟩ t::.str out xm.toks::vs))) (fun v xm=>Nv (NI X.prog X.w) X.A (storeName X.env y v) (fun _ s'=>Nv (NI X.prog X.w) X.A (execs [] X.env) (SP X pins D) X.xe s') X.xe xm) X.xe yv) X.xe { xm with toks:=xm.toks+1 }) xm) X.xe { s with heap:=h',toks:=k }:=fun k hk=>by
  refine PC ⟨_,_,rfl,big _ (by show 3<=100;decide),?_⟩;show _<=Ny/\_;rw [e3];refine ⟨big _ (by show 3<=100;decide),?_⟩;exact P6 (fin _ _ (OV hk))
 refine wpAny_formatField_str ?_ ?_ (big _ (by show 1<=100;decide))
 · exact ⟨_,_,rfl,big _ (by show 2<=100;decide),last _ (OV (OV ht))⟩
 · exact ⟨_,_,rfl,big _ (by show 2<=100;decide),last _ (OV (OV (OV ht)))⟩
end L2
namespace L2
open PySem PySem.Spec PySem.Calls PyProof.Rows PySem.Builtin PySem.Builtin.Str BB
variable {X:Cx}
def vy:V->List V->Hp->VK->Prop:=fun x vs H Q=>∃ z y,x=.str z/\vs=[.str y]/\(y.length == 0)=false/\z.length<=1000000/\∀ p,H p=none->Q (.ref p) (upd H p (.lst ((OT z y).map V.str)))
theorem lp:∀ {l:List (Nd×Tok)} {zs:List Nd},l.map (·.1)=zs->Vals (zs.map V.str) (strValues l)
 | [],_,e=>by subst e;exact .nil
 | (z,t)::l,_,e=>by
   subst e;exact .cons ⟨t,rfl⟩ (lp rfl)
theorem split_len (z y:Nd) (hz:z.length<=1000000):(partsBetween z (occurrences z y 0 z.length (z.length+1)) y.length).length<=Ny/\(OT z y).length<=Ny:=by
 have h1:=StrLaws.occ_length_le z y 0 z.length (z.length+1);have h2:=PySem.length_partsBetween z (occurrences z y 0 z.length (z.length+1)) y.length;have h3:Ny=16777216:=Pp;refine ⟨by omega,?_⟩;unfold OT;split
 · show 1<=Ny;omega
 · split
   · show 1<=Ny;omega
   · omega
theorem kf:MtR X "str.split" vy:=by
 intro pins s σ H x vs v us Q I rx rv h;obtain ⟨z,y,rfl,rfl,hy,hz,q⟩:=h;obtain ⟨t,rfl⟩:=rx;obtain ⟨u,rfl,t',rfl⟩:=rv.one;obtain ⟨yq,yd⟩:=split_len z y hz;have hf:H s.heap.objs.size=none:=I.hok.fresh (M8 _)
 have fin:∀ (l:List (Nd×Tok)) (k:Nat),l.map (·.1)=OT z y->EP X pins σ Q (.ref s.heap.objs.size) { s with toks:=k,heap:=s.heap.push { cls:=.type "list",data:=.seq (strValues l).toArray } }:=fun l k hl=>by
  refine ⟨.ref s.heap.objs.size,upd H s.heap.objs.size (.lst ((OT z y).map V.str)),I.laid (t':=k) (fun b u e=>M6 _ e) (M8 _) ?_,rfl,q _ hf⟩;exact ⟨by rw [MX];exact yd,_,_,lp hl,Nf _ rfl⟩
 cases h1:(decide (z.length<y.length) || decide (strKind z<strKind y))
 · cases hf:(occurrences z y 0 z.length (z.length+1)).isEmpty
   · refine QN F.slot_str_split (Qc _ _ _) F.entry_str_split (F.args_str_split_2 _ _) (meets_str_split_sep z y t t' h1 hy hf (by rw [Pp];omega) yq) ?_;show wants (EP X pins σ Q) X.xe _ { s with toks:=_,heap:=s.heap.push { cls:=.type "list",data:=.seq (strsFrom s.toks (partsBetween z (occurrences z y 0 z.length (z.length+1)) y.length)).toArray } };rw [strsFrom_eq];exact fin (numbered s.toks _) _ ((numbered_texts _ _).trans ((if_neg (ne_true_of_eq_false h1)).trans (if_neg (ne_true_of_eq_false hf))).symm)
   · exact QN F.slot_str_split (Qc _ _ _) F.entry_str_split (F.args_str_split_2 _ _) (meets_str_split_not_found z y t t' h1 hy hf) (fin [(z,t)] s.toks ((if_neg (ne_true_of_eq_false h1)).trans (if_pos hf)).symm)
 · exact QN F.slot_str_split (Qc _ _ _) F.entry_str_split (F.args_str_split_2 _ _) (meets_str_split_cannot_occur z y t t' h1) (fin [(z,t)] s.toks (if_pos h1).symm)
end L2
namespace BB
open PySem L2
def rep3 (l:List Nat):List Nat:=dg 44 [32,44,32] (dg 41 [32,41,32] (dg 40 [32,40,32] l))
def spS (d:Nat):List Nat:=if d=40∨d=41∨d=44 then [32,d,32] else [d]
theorem tH (l:List Nat):rep3 l=l.flatMap spS:=by
 unfold rep3 dg;rw [RG,RG];congr 1;funext d;unfold spS;by_cases h1:d=40
 · subst h1;rfl
 · rw [if_neg h1];by_cases h2:d=41
   · subst h2;rfl
   · by_cases h3:d=44
     · subst h3;rfl
     · rw [if_neg (by omega)];simp [h2,h3]
def wds (l:List Nat):List (List Nat):=(aB 32 l).filter fun p=>!p.isEmpty
theorem f8 (c:Nat) (b:List Nat):∀ a:List Nat,aB c (a++c::b)=aB c a++aB c b
 | []=>by simp [aB]
 | d::a=>by
   rw [NG,aB,f8 c b a,aB];by_cases h:d=c
   · rw [if_pos h,if_pos h];rfl
   · rw [if_neg h,if_neg h];obtain ⟨p,r,e⟩:=bI c a;rw [e];rfl
theorem pQ (a b:List Nat):wds (a++32::b)=wds a++wds b:=by unfold wds;rw [f8,List.filter_append]
theorem dr (c:Nat):∀ w:List Nat,(∀ d∈w,d≠c)->aB c w=[w]
 | [],_=>rfl
 | d::w,h=>by rw [aB,if_neg (h d (Nj ..)),dr c w fun e he=>h e (Ng _ he)]
theorem mV {w:List Nat} (h:∀ d∈w,d≠32) (xu:w≠[]):wds w=[w]:=by
 unfold wds;rw [dr 32 w h,QC,List.filter_nil];cases w with
 | nil=>exact absurd rfl xu
 | cons d w=>rfl
def wordsOf (x:Nd):List Nd:=(wds (rep3 x.cps.toList)).map ofL
def sL (x:Nd):List Nat:=x.cps.toList
theorem no:sL comma=[44]:=by decide +kernel
theorem mC:sL lpar=[40]:=by decide +kernel
theorem l8:sL rpar=[41]:=by decide +kernel
def okW (x:Nd):Prop:=Low x/\x.length≠0
theorem join_cons (sep x:Nd) (xs:List Nd):Rl sep (x::xs)=if xs=[] then x else x++sep++Rl sep xs:=by
 cases xs with
 | nil=>rfl
 | cons y ys=>rfl
end BB
namespace BB
open PySem L2
section
variable {H H':Hp} {t:Th} {a:M5} {ts:List Th} {es:List M5}
end
theorem qg {base n:Int} (hn:0<=n):(nameOf base n).length≠0:=by
 unfold nameOf;split
 · rw [gJ];have h8:=cq (base / 112) 8;rw [h8];have h1:HT.sIx 8 0 none=0:=rfl
   have h2:HT.sIx 8 8 (some (n+1))≠0:=by
    have e:n+1=((n.toNat+1:Nat):Int):=by omega
    rw [e,HT.sIx_nat];omega
   rw [h1];omega
 · rw [M4,M4];have:(⟨#[jb base n]⟩:Nd).length=1:=rfl;omega
end BB
namespace L2
open PySem PySem.Spec PyProof.Rows BB
variable {X:Cx}
end L2
namespace L2
open PySem PySem.Spec PyProof.Rows PySem.W
end L2
namespace L2
open PySem PySem.Spec PyProof.Rows BB
variable {X:Cx}
end L2
namespace L2
open PySem PySem.Spec PySem.Calls PyProof.Rows PySem.W
end L2
namespace BB
open PySem L2 PySem.Builtin PySem.Builtin.Str
theorem bK (x y:Nd):sL (x++y)=sL x++sL y:=by unfold sL;rw [Qd,OG]
theorem aT (x:Nd):(sL x).length=x.length:=Nm
def blk:Nd:=MW " "
theorem uX:sL blk=[32]:=by decide +kernel
def jn:List (List Nat)->List Nat
 | []=>[]
 | [x]=>x
 | x::y::r=>x++32::jn (y::r)
theorem jt:∀ ws:List Nd,sL (OQ blk ws)=jn (ws.map sL):=by
 intro ws;have h1:OQ blk ws=Rl blk ws:=StrLaws.glued_eq_join _ _;rw [h1];clear h1;induction ws with
 | nil=>rfl
 | cons x ws ih =>
   rw [join_cons];cases ws with
   | nil=>rw [if_pos rfl];rfl
   | cons y ws =>
     rw [if_neg (by simp),bK,bK,ih,uX,Nr];rfl
theorem sh:∀ ls:List (List Nat),wds (jn ls)=(ls.map wds).flatten
 | []=>rfl
 | [x]=>by rw [jn,Ni,OC,NM,List.flatten_nil,Nz]
 | x::y::r=>by
   rw [jn,pQ,sh (y::r)];rfl
theorem rD {c:Nat}:∀ {ls:List (List Nat)},c∈jn ls->c=32∨∃ l∈ls,c∈l
 | [],h=>by rw [jn] at h;cases h
 | [x],h=>by rw [jn] at h;exact .inr ⟨x,Nj ..,h⟩
 | x::y::r,h=>by
   rw [jn] at h;rcases NF.mp h with h | h
   · exact .inr ⟨x,Nj ..,h⟩
   · rcases Nb.mp h with h | h
     · exact .inl h
     · rcases rD h with h | ⟨l,hl,hc⟩
       · exact .inl h
       · exact .inr ⟨l,Ng _ hl,hc⟩
theorem sk:∀ ls:List (List Nat),(jn ls).length<=(ls.map (·.length)).sum+ls.length
 | []=>M8 _
 | [x]=>by rw [jn];simp
 | x::y::r=>by
   have:=sk (y::r);rw [jn,Na,MZ,Ni,O2,MZ];omega
end BB
namespace L2
open PySem PySem.Spec PySem.Calls PyProof.Rows PySem.Builtin PySem.Builtin.Str BB
variable {X:Cx}
end L2
namespace L2
open PySem PySem.Spec PyProof.Rows
theorem ph {v:Const} {k:Nat} {p:Qy} {es:List Od} {env:Env}:NV (.Constant v k p::es) env=(false,Pn (.Constant v k p) env)::NV es env:=by
 rw [NV];intro e q z;cases z
def pE (zs:List Nd):TA:=fun _ H Q=>Q (zs.map V.str) H
theorem pq {X:Cx}:∀ (zs:List (Nd×Nat×Qy)),PA X (zs.map fun z=>.Constant (.str z.1) z.2.1 z.2.2) (pE (zs.map fun z=>z.1))
 | []=>ae
 | z::zs=>by
   have h:PA X (.Constant (.str z.1) z.2.1 z.2.2::zs.map fun z=>.Constant (.str z.1) z.2.1 z.2.2) (cz (tC (.str z.1)) (pE (zs.map fun z=>z.1))):=aa al (pq zs) ph;exact h
end L2
namespace BB
open PySem L2
end BB
namespace BB
open PySem L2 PySem.Builtin PySem.Builtin.Str
def oQ (c:Nat):Nat->List Nat->List Nat
 | _,[]=>[]
 | off,d::l=>if d=c then [off] else oQ c (off+1) l
theorem nv (x y:Nd) (n:Nat):∀ (l:List Nat) (st:Array Nat×Nat),st.1.size=1->(forIn l st (Ov x y n 1)).run.fst=st.1
 | [],st,_=>rfl
 | a::l,st,h=>by
   rw [OY];unfold Ov;rw [if_neg (fun z=>by have:=z.1.1.1;omega)];exact nv x y n l st h
theorem ij (x:Nd) (c:Nat):∀ (l pre:List Nat) (free:Nat),x.cps.toList=pre++l->free<=pre.length →
 (forIn (List.range' pre.length (l.length+1)) (#[],free) (Ov x ⟨#[c]⟩ x.length 1)).run.fst.toList=oQ c pre.length l
 | [],pre,free,hx,_=>by
   have hlen:pre.length=x.length:=by
    have:=congrArg O6 hx;rw [Nm,Nz] at this;exact this.symm
   rw [PQ,hlen,oQ];show ((forIn [x.length] (#[],free) (Ov x ⟨#[c]⟩ x.length 1)).run.fst).toList=[];rw [OY];unfold Ov;rw [if_neg (fun z=>by have:=z.1.2;rw [cu] at this;omega)];rfl
 | d::l,pre,free,hx,hf=>by
   have hlen:x.length=pre.length+(l.length+1):=by
    have:=congrArg O6 hx;rw [Nm,Na,MZ] at this;exact this
   rw [List.range'_succ,OY,MZ];have hg:x.cps.toList[pre.length]?=some d:=by rw [hx];simp
   have yM:=subAt_one x c pre.length (by omega);rw [hg] at yM;have ze:x.cps.toList=(pre++[d])++l:=by rw [hx];simp
   have yk:(pre++[d]).length=pre.length+1:=by simp
   unfold Ov;rw [oQ];by_cases yD:d=c
   · have h1:(((#[]:Array Nat).size<1/\free<=pre.length)/\pre.length+(⟨#[c]⟩:Nd).length<=x.length)/\subAt x ⟨#[c]⟩ pre.length=true:=by
      rw [cu,yM,yD];exact ⟨⟨⟨by decide,hf⟩,by omega⟩,decide_eq_true rfl⟩
     rw [if_pos h1,if_pos yD];show ((forIn (List.range' (pre.length+1) (l.length+1)) ((#[]:Array Nat).push pre.length,pre.length+1) (Ov x ⟨#[c]⟩ x.length 1)).run.fst).toList=_;rw [nv _ _ _ _ _ rfl];rfl
   · have h1:¬ ((((#[]:Array Nat).size<1/\free<=pre.length)/\pre.length+(⟨#[c]⟩:Nd).length<=x.length)/\subAt x ⟨#[c]⟩ pre.length=true):=fun z=>by
      have h2:=z.2;rw [yM] at h2;exact yD (Nh (of_decide_eq_true h2))
     rw [if_neg h1,if_neg yD];have ih:=ij x c l (pre++[d]) free ze (by omega);rw [yk] at ih;exact ih
theorem m8 (c:Nat) (post:List Nat):∀ (pre:List Nat) (off:Nat),(∀ d∈pre,d≠c)->oQ c off (pre++c::post)=[off+pre.length]
 | [],off,_=>by rw [NK,oQ,if_pos rfl];rfl
 | d::pre,off,h=>by
   rw [NG,oQ,if_neg (h d (Nj ..)),m8 c post pre (off+1) fun e he=>h e (Ng _ he),MZ];congr 1;omega
theorem occ_first {x:Nd} {c:Nat} {pre post:List Nat} (hx:x.cps.toList=pre++c::post) (hp:∀ d∈pre,d≠c):occurrences x ⟨#[c]⟩ 0 x.length 1=[pre.length]:=by
 rw [StrLaws.occ_eq];have h:=ij x c (pre++c::post) [] 0 hx (M8 _)
 have hlen:x.length=(pre++c::post).length:=by
  rw [<- hx,Nm];rfl
 rw [PQ,<- hlen] at h;rw [show x.length+1 - 0=x.length+1 by omega,h,m8 c post pre 0 hp,Py]
end BB
namespace L2
open PySem PySem.Spec PySem.SeqAt PySem.Calls PyProof.Rows PySem.Builtin PySem.Builtin.Str BB
variable {X:Cx}
def wU (K:MY) (n:Nat) (t:TGs):TG:=fun v σ H Q=>∃ a xs,v=.ref a/\SqL K H a xs/\xs.length=n/\t xs σ H Q
theorem u9 {es:List Od} {k:Nat} {t:TGs} {n:Nat} {pos:Qy} (hc:X.calm=true) (h:PGs X es t)
 (hn:(QO es X.env).length=n:=by rfl) (xF:(QO es X.env).findIdx? (·.1)=none:=by rfl):PG X (.Tuple es k pos) (wU X.K n t):=by
 intro pins s σ H v u Q I r hw;obtain ⟨a,xs,e1,hq,hl,hw⟩:=hw;subst e1;cases r;obtain ⟨its,rv,ht,hz⟩:=I.list hq;rw [assign_Tuple];refine M0 (wpAny_standAt ?_);unfold unpack;have xQ:its.toArray.size=n:=by rw [M9,<- rv.length,hl]
 rw [hn,xF,<- xQ];refine M0 (Po (PySem.W.kun_itemsOf (I.ok.hd hc) ht.isList fun h' hx=>?_));have I1:Inv X pins σ H { s with heap:=h' }:=I.kept (t':=s.toks) fun b o e=>hx b o (NQ (Np e)) e;exact h pins _ σ H xs _ Q I1 (by simpa using rv) hw
def wc:List V->Hp->VK->Prop:=fun xs H Q=>∃ (x:Nd) (n:Int),xs=[.str x]/\Rm x=some n/\x.length<=640/\Q (.int n) H
theorem qA:dq X (.type "int") wc:=by
 intro pins s σ H xs us Q I r h;obtain ⟨x,n,rfl,hn,hl,q⟩:=h;obtain ⟨u,rfl,t,rfl⟩:=r.one;exact PySem.W.KIN.call_text hn hl ⟨.int n,H,I.tok _,⟨_,rfl⟩,q⟩
def wN (K:MY):R2:=fun x y H Q=>∃ z,y=.str z/\((∃ w,x=.str w/\Q (.bl (decide (w=z))) H)∨∃ a vs,x=.ref a/\SqT K H a vs/\Q (.bl false) H)
theorem iD (hu:X.A.units+2<cLine):OpR X (Pf .Eq) (wN X.K):=by
 intro pins s σ H x y v u Q I rx ry h;obtain ⟨z,rfl,h⟩:=h;obtain ⟨t',rfl⟩:=ry;rcases h with ⟨w,rfl,q⟩ | ⟨a,vs,rfl,ha,q⟩
 · obtain ⟨t,rfl⟩:=rx
   have e:decide (w=z)=(w == z):=by
    by_cases h:w=z
    · subst h;simp
    · rw [decide_eq_false h];exact (beq_false_of_ne h).symm
   rw [e] at q;exact RcAt.str_str w t z t' X.prog X.w X.xe _ ⟨.bl (w == z),H,I,rfl,q⟩
 · cases rx;obtain ⟨its,rv,ht,hz⟩:=I.tuple ha;exact RcAt.tuple_str z t' (show s.heap.IsTuple a its.toArray from ht) (by omega) X.prog X.w X.xe _ ⟨.bl false,H,I,rfl,q⟩
def vQ:V->List V->Hp->VK->Prop:=fun x vs H Q=>∃ (z:Nd) (c:Nat) (pre post:List Nat),x=.str z/\vs=[.str ⟨#[c]⟩]/\z.cps.toList=pre++c::post/\(∀ d∈pre,d≠c)/\z.length<=1000000/\∀ p,H p=none->Q (.ref p) (upd H p (.tup [.str (ofL pre),.str ⟨#[c]⟩,.str (ofL post)]))
theorem my:MtR X "str.partition" vQ:=by
 intro pins s σ H x vs v us Q I rx rv h;obtain ⟨z,c,pre,post,rfl,rfl,hx,hp,hz,q⟩:=h;obtain ⟨t,rfl⟩:=rx;obtain ⟨u,rfl,t',rfl⟩:=rv.one;have FN:=occ_first hx hp;have hf:H s.heap.objs.size=none:=I.hok.fresh (M8 _);have hm:=meets_str_partition z ⟨#[c]⟩ t t' rfl (by rw [Pp];omega);rw [FN] at hm;refine QN F.slot_str_partition (Qc _ _ _) F.entry_str_partition (F.args_str_partition_2 _ _) hm ?_
 have e1:strSub z 0 pre.length=ofL pre:=dl (by
  rw [aL];show (z.cps.extract 0 pre.length).toList=pre;rw [Array.toList_extract,hx];simp)
 have e2:strSub z (pre.length+(⟨#[c]⟩:Nd).length) z.length=ofL post:=dl (by
  rw [aL];show (z.cps.extract (pre.length+1) z.cps.size).toList=post
  have xQ:z.cps.size=pre.length+(post.length+1):=by
   rw [<- Nm,hx,Na,MZ]
  rw [Array.toList_extract,hx,xQ];simp;exact N1 (by omega))
 show wants (EP X pins σ Q) X.xe _ { s with toks:=s.toks+1+1,heap:=s.heap.push { cls:=.type "tuple",data:=.seq [.str (strSub z 0 pre.length) s.toks,.str ⟨#[c]⟩ t',.str (strSub z (pre.length+(⟨#[c]⟩:Nd).length) z.length) (s.toks+1)].toArray } };rw [e1,e2];refine ⟨.ref s.heap.objs.size,upd H s.heap.objs.size (.tup [.str (ofL pre),.str ⟨#[c]⟩,.str (ofL post)]),I.laid (t':=s.toks+1+1) (fun b u e=>M6 _ e) (M8 _) ?_,rfl,q _ hf⟩;exact ⟨by show 3<=Ny;decide,_,_,.cons ⟨_,rfl⟩ (.cons ⟨_,rfl⟩ (.cons ⟨_,rfl⟩ .nil)),Nf _ rfl⟩
theorem qM:v6 X (nP X.K):=by
 intro pins s σ H o i ov iv Q I r1 r2 h;obtain ⟨p,xs,k,z,rfl,rfl,hq,he,q⟩:=h;cases r1;obtain ⟨t,rfl⟩:=r2;obtain ⟨its,r,pl,hz⟩:=I.list hq;obtain ⟨j,h1,h2,h3,h4,h5⟩:=jq he;obtain ⟨w,ew,CW⟩:=r.get h2;have hl:=r.length;have hn:=fc;have fin:EP X pins σ Q w s:=⟨z,H,I,CW,q⟩;by_cases h0:0<=k
 · have hj:k.toNat=j:=by
    rw [seqIndex_of h0 h5] at h1;exact Nh h1
   exact wpAny_getItem_list pl.isList h0 (by omega) (by rw [hj];simpa using ew) fin
 · have hj:(k+(its.toArray.size:Int)).toNat=j:=by
    rw [seqIndex_neg (by omega) h4] at h1;rw [M9,<- hl];exact Nh h1
   exact wpAny_getItem_list_neg pl.isList (by omega) (by rw [M9,<- hl];omega) (by omega) (by rw [hj];simpa using ew) fin
def ww (K:MY) (sep y z:Nd) (te:TE):TE:=fun σ H Q=>te σ H fun v H1=>∃ p ys,v=.ref p/\SqL K H1 p (ys.map V.str)/\(ys.map (·.length)).sum+ys.length * sep.length<=1000000/\(OQ sep ys).length<=1000000/\Q (.str (Rg (OQ sep ys) y z)) H1
theorem tU {sep y z:Nd} {e:Od} {te:TE} {k0 k1 k2:Nat} {p0 p1 p2 p3 p4 p5 p6:Qy} (he:PE X e te) (Kk:(y == z)=false) (hz:z.length<=14)
 (hs:NV [e] X.env=[(false,Pn e X.env)]:=by rfl) (yq:(p1.endLine == p2.line)=true:=by rfl) (yd:(p3.endLine == p6.line)=true:=by rfl)
 (Kl:((QG p2 (NV [e] X.env)).all (fun x=>!x.1) && (backToKw p2 (keywordEach [] X.env)).all (fun x=>x.1.isSome) && decide (([e]:List Od).length+([]:List Keyword).length+(if ([]:List Keyword).isEmpty then 0 else 1)<30))=true:=by rfl) :
 PE X (.Call (.Attribute (.Call (.Attribute (.Constant (.str sep) k0 p0) "join" p1) [e] [] p2) "replace" p3) [.Constant (.str y) k1 p4,.Constant (.str z) k2 p5] [] p6) (ww X.K sep y z te):=by
 intro pins s σ H Q I h;refine QF rfl rfl yd rfl ?_;refine QF rfl Kl yq rfl (PC ?_);refine ⟨"str","str.join",N7,Qt,Qr,Qc _ _ _,(fun _ e=>nomatch e),?_⟩;have I1:Inv X pins σ H { s with toks:=s.toks+1 }:=I.tok _;refine wpAny_with_toks (n:=1) (show 1<=s.toks+1 by omega) ?_;refine OM (Q:=EP X pins σ fun x H1=>∃ ys,x=.str (OQ sep ys)/\(OQ sep ys).length<=1000000/\Q (.str (Rg (OQ sep ys) y z)) H1) (E:=X.xe) ?_ (fun v s1 hv hk=>?_) fun e s' h _=>h
 · have hA:=(aa he (@ae X) hs) p2 pins _ σ H (fun vs H1=>match vs with | [v]=>∃ p ys,v=.ref p/\SqL X.K H1 p (ys.map V.str)/\(ys.map (·.length)).sum+ys.length * sep.length<=1000000/\(OQ sep ys).length<=1000000/\Q (.str (Rg (OQ sep ys) y z)) H1 | _=>False) I1 h;rw [hs] at hA ⊢;refine P0 rfl (Qf ?_);refine thn hA fun us s2 ⟨vs,H2,I2,r2,q2⟩=>jv pins s2 σ H2 (.str sep) vs (.str sep s.toks) us _ I2 ⟨_,rfl⟩ r2 ?_
   match vs,q2 with
   | [v],⟨p,ys,e1,hl,FO,FP,q⟩=>exact ⟨sep,p,ys,rfl,by rw [e1],hl,by omega,ys,rfl,FP,q⟩
 · obtain ⟨x,H1,I2,rx,ys,rfl,hlen,q⟩:=hv;obtain ⟨t,rfl⟩:=rx;refine ⟨"str","str.replace",N7,PySem.F.slot_str_replace,PySem.F.type_str_replace,Qc _ _ _,(fun _ e=>nomatch e),?_⟩;refine P0 rfl (Qf ?_);show Nv _ _ (spliced [(false,Pn (.Constant (.str y) k1 p4) X.env),(false,Pn (.Constant (.str z) k2 p5) X.env)]) _ _ _;refine O8 (PC (O8 (PC (P6 ?_))));exact SC.replaceW (PM hk) (Nat.succ_ne_zero _) (NQ (Qz _)) Kk (by omega) hz fun t' k'=>⟨.str _,H1,I2.tok k',⟨_,rfl⟩,q⟩
end L2
namespace BB
open PySem L2
set_option genInjectivity true in
inductive Stp where
 | sg (c:Nd)
 | th (t:Th)
mutual
def Th.stP:Th->List (List Nd×Stp)
 | .knot n ts=>([n],.th (.knot n []))::(if ts=[] then [] else ([lpar],.sg lpar)::(eG ts++[([rpar],.sg rpar)]))
 | .call s k=>[([aM s,dot,aM k],.th (.call s k))]
def eG:List Th->List (List Nd×Stp)
 | []=>[]
 | t::ts=>t.stP++(if ts=[] then [] else ([comma],.sg comma)::eG ts)
end
def Th.wP (t:Th):List Nd:=(t.stP.map (·.1)).flatten
structure PSt where
 tops:List (Th×Int)
 win:List Nat
 bef:Stp
def ended:Stp->Bool
 | .th _=>true
 | .sg c=>decide (c=rpar)
def fJ:Stp->Bool
 | .th (.knot _ _)=>true
 | _=>false
def nI (l:List (Th×Int)) (j:Nat) (f:Int->Int):List (Th×Int):=l.modify j fun p=>(p.1,f p.2)
def aO (S:PSt):Stp->Option PSt
 | .th t=>if ended S.bef=false then some ⟨S.tops++[(t,0)],S.win,.th t⟩ else none
 | .sg c=>if c=lpar then (if fJ S.bef=true/\S.win.length<100/\S.tops≠[] then some ⟨nI S.tops (S.tops.length - 1) (fun _=>1),S.win++[S.tops.length - 1],.sg c⟩ else none)
   else if c=comma then (if ended S.bef=true/\S.win≠[] then some ⟨nI S.tops (S.win.getLastD 0) (·+1),S.win,.sg c⟩ else none)
   else if c=rpar then (if ended S.bef=true/\S.win≠[] then some ⟨S.tops,S.win.dropLast,.sg c⟩ else none)
   else none
def prun (S:PSt):List Stp->Option PSt
 | []=>some S
 | x::l=>(aO S x).bind fun S'=>prun S' l
def fM:Th->Th×Int
 | .knot n ks=>(.knot n [],(ks.length:Nat))
 | .call s k=>(.call s k,0)
theorem mZ (A B:List (Th×Int)) (x:Th×Int) (f:Int->Int):nI (A++x::B) A.length f=A++(x.1,f x.2)::B:=by
 unfold nI;induction A with
 | nil=>rfl
 | cons a A ih=>rw [NG,MZ,List.modify_succ_cons,ih];rfl
theorem fU (l:List Nat) (x d:Nat):(l++[x]).getLastD d=x:=by rw [List.getLastD_eq_getLast?,List.getLast?_concat];rfl
theorem bQ {S S':PSt} {x:Stp} {l:List Stp} (h:aO S x=some S'):prun S (x::l)=prun S' l:=by rw [prun,h];rfl
theorem dR:comma≠lpar/\rpar≠lpar/\rpar≠comma/\comma≠rpar/\lpar≠rpar:=by decide +kernel
theorem gy:ended (.sg lpar)=false:=decide_eq_false dR.2.2.2.2
theorem bN:ended (.sg comma)=false:=decide_eq_false dR.2.2.2.1
theorem dX:ended (.sg rpar)=true:=by
 show decide (rpar=rpar)=true;exact decide_eq_true rfl
theorem qp:∀ {ts:List Th},ts≠[]->1<=br ts
 | [],h=>absurd rfl h
 | t::ts,_=>by
   rw [br];cases t with
   | knot n ks=>rw [Th.tall];omega
   | call s k=>rw [Th.tall];omega
mutual
theorem oB:∀ (t:Th) (S:PSt) (rest:List Stp),ended S.bef=false->t.tall+S.win.length<=101->∃ b,ended b=true/\prun S (t.stP.map (·.2)++rest)=prun ⟨S.tops++t.walk.map fM,S.win,b⟩ rest
 | .call s k,S,rest,hb,_=>by
   refine ⟨.th (.call s k),rfl,?_⟩;rw [Th.stP,Th.walk];exact bQ (by rw [aO,if_pos hb];rfl)
 | .knot n ts,S,rest,hb,ht=>by
   have h1:aO S (.th (.knot n []))=some ⟨S.tops++[(.knot n [],0)],S.win,.th (.knot n [])⟩:=by rw [aO,if_pos hb]
   rw [Th.stP,Th.walk];by_cases hz:ts=[]
   · subst hz;rw [if_pos rfl];refine ⟨.th (.knot n []),rfl,?_⟩;rw [Ni,OC,NG,NK,bQ h1];rfl
   · rw [if_neg hz];rw [Th.tall] at ht;have hl:(S.tops++[((Th.knot n []:Th),(0:Int))]).length - 1=S.tops.length:=by rw [Na];rfl
     have h2:aO ⟨S.tops++[(.knot n [],0)],S.win,.th (.knot n [])⟩ (.sg lpar)=some ⟨S.tops++[(.knot n [],1)],S.win++[S.tops.length],.sg lpar⟩:=by
      rw [aO,if_pos rfl,if_pos ⟨rfl,(by show S.win.length<100;have:=qp hz;omega),(by simp)⟩];dsimp only;rw [hl,mZ]
     obtain ⟨b,yZ,h3⟩:=pL ts hz S.tops n 1 [] S.win (.sg lpar) (.sg rpar::rest) gy (by omega);refine ⟨.sg rpar,dX,?_⟩;rw [Ni,Ni,Nw,Ni,OC,NG,NG,Nr,NG,NK,bQ h1,bQ h2,h3]
     have h4:aO ⟨S.tops++(.knot n [],1+((ts.length:Nat):Int) - 1)::([]++(walks ts).map fM),S.win++[S.tops.length],b⟩ (.sg rpar)=some ⟨S.tops++(.knot n [],1+((ts.length:Nat):Int) - 1)::([]++(walks ts).map fM),S.win,.sg rpar⟩:=by
      rw [aO,if_neg dR.2.1,if_neg dR.2.2.1,if_pos rfl,if_pos ⟨yZ,by simp⟩];dsimp only;rw [Rp]
     rw [bQ h4,NK,Ni,fM,show (1:Int)+((ts.length:Nat):Int) - 1=((ts.length:Nat):Int) by omega]
theorem pL:∀ (ts:List Th),ts≠[]->∀ (A:List (Th×Int)) (n:Nd) (m:Int) (B:List (Th×Int)) (W:List Nat) (bef:Stp) (rest:List Stp),ended bef=false->br ts+(W.length+1)<=101 →
 ∃ b,ended b=true/\prun ⟨A++(.knot n [],m)::B,W++[A.length],bef⟩ ((eG ts).map (·.2)++rest)=prun ⟨A++(.knot n [],m+((ts.length:Nat):Int) - 1)::(B++(walks ts).map fM),W++[A.length],b⟩ rest
 | [],h,_,_,_,_,_,_,_,_,_=>absurd rfl h
 | t::ts,_,A,n,m,B,W,bef,rest,hb,ht=>by
   rw [br] at ht;rw [eG,walks];by_cases hz:ts=[]
   · subst hz;rw [if_pos rfl,Nz];obtain ⟨b,AD,h1⟩:=oB t ⟨A++(.knot n [],m)::B,W++[A.length],bef⟩ rest hb (by show t.tall+(W++[A.length]).length<=101;rw [Na,NR];omega);refine ⟨b,AD,?_⟩;rw [h1,walks,Nz,Nr,NG];have:m+(([t].length:Nat):Int) - 1=m:=by show m+1 - 1=m;omega
     rw [this]
   · rw [if_neg hz];obtain ⟨b,AD,h1⟩:=oB t ⟨A++(.knot n [],m)::B,W++[A.length],bef⟩ (.sg comma::((eG ts).map (·.2)++rest)) hb (by show t.tall+(W++[A.length]).length<=101;rw [Na,NR];omega)
     have h2:aO ⟨(A++(.knot n [],m)::B)++t.walk.map fM,W++[A.length],b⟩ (.sg comma)=some ⟨A++(.knot n [],m+1)::(B++t.walk.map fM),W++[A.length],.sg comma⟩:=by
      rw [aO,if_neg dR.1,if_pos rfl,if_pos ⟨AD,by simp⟩];dsimp only;rw [fU,Nr,NG,mZ]
     obtain ⟨b2,yZ,h3⟩:=pL ts hz A n (m+1) (B++t.walk.map fM) W (.sg comma) rest bN (by omega);refine ⟨b2,yZ,?_⟩;rw [Nw,Ni,Nr,NG,h1,bQ h2,h3];congr 2;rw [Nw,Nr,MZ];congr 3
     push_cast
     omega
end
theorem qc {t:Th} (h:t.tall<=101):∃ b,ended b=true/\prun ⟨[],[],.sg comma⟩ (t.stP.map (·.2))=some ⟨t.walk.map fM,[],b⟩:=by
 obtain ⟨b,hb,e⟩:=oB t ⟨[],[],.sg comma⟩ [] bN (by show t.tall+0<=101;omega);rw [Nz,NK] at e;exact ⟨b,hb,e⟩
def sp4 (d:Nat):List Nat:=if d=46 then [32,46,32] else spS d
theorem tG (l:List Nat):rep3 (dg 46 [32,46,32] l)=l.flatMap sp4:=by
 rw [tH];unfold dg;rw [RG];congr 1;funext d;unfold sp4;split
 · rfl
 · rw [O9,List.flatMap_nil,Nz]
def W4 (l:List Nat):List (List Nat):=wds (l.flatMap sp4)
def em (cur:List Nat):List (List Nat):=if cur=[] then [] else [cur]
def scW:List Nat->List Nat->List (List Nat)
 | cur,[]=>em cur
 | cur,c::l=>if c=32 then em cur++scW [] l else scW (cur++[c]) l
theorem sf {cur:List Nat} (h:∀ c∈cur,c≠32):wds cur=em cur:=by
 unfold em;by_cases hz:cur=[]
 · rw [if_pos hz,hz];rfl
 · rw [if_neg hz];exact mV h hz
theorem oE:∀ (l cur:List Nat),(∀ c∈cur,c≠32)->wds (cur++l)=scW cur l
 | [],cur,h=>by rw [Nz,scW];exact sf h
 | c::l,cur,h=>by
   rw [scW];by_cases hc:c=32
   · rw [if_pos hc,hc,pQ,sf h];have:=oE l [] (fun c h=>by cases h);rw [NK] at this;rw [this]
   · rw [if_neg hc]
     have:=oE l (cur++[c]) fun d hd=>by
      rcases NF.mp hd with hd | hd
      · exact h d hd
      · rw [Nc.mp hd];exact hc
     rw [<- this,Nr];rfl
theorem t7 (l:List Nat):W4 l=scW [] (l.flatMap sp4):=oE _ [] fun c h=>by cases h
theorem fG (l:List Nat):∀ (w cur:List Nat),(∀ c∈w,c≠32)->scW cur (w++l)=scW (cur++w) l
 | [],cur,_=>by rw [NK,Nz]
 | c::w,cur,h=>by
   rw [NG,scW,if_neg (h c (Nj ..)),fG l w _ fun d hd=>h d (Ng _ hd),Nr];rfl
mutual
def Th.cP:Th->List Nat
 | .knot n ts=>sL n++(if ts=[] then [] else 40::(cPs ts++[41]))
 | .call s k=>[48+s.toNat,46,48+k.toNat]
def cPs:List Th->List Nat
 | []=>[]
 | t::ts=>t.cP++(if ts=[] then [] else 44::cPs ts)
end
theorem fo {n:Int} (h0:0<=n) (h1:n<10):sL (aM n)=[48+n.toNat]:=by
 rcases (by omega:n=0∨n=1∨n=2∨n=3∨n=4∨n=5∨n=6∨n=7∨n=8∨n=9) with rfl | rfl | rfl | rfl | rfl | rfl | rfl | rfl | rfl | rfl <;> decide +kernel
theorem rE:sL dot=[46]:=by decide +kernel
mutual
/-- calls of one FQ,names E3 are words -/
def Th.Rd:Th->Prop
 | .knot n ts=>okW n/\n.length<=8/\Rds ts
 | .call s k=>0<=s/\s<10/\0<=k/\k<10
def Rds:List Th->Prop
 | []=>True
 | t::ts=>t.Rd/\Rds ts
end
def Nx (l:List Nat):Prop:=l=[]∨∃ c r,l=c::r/\(c=40∨c=41∨c=44)
theorem nO {c:Nat} (h:c=40∨c=41∨c=44∨c=46):sp4 c=[32,c,32]:=by
 rcases h with rfl | rfl | rfl | rfl <;> rfl
theorem fI {c:Nat} (h:c≠40/\c≠41/\c≠44/\c≠46):sp4 c=[c]:=by
 unfold sp4 spS;rw [if_neg h.2.2.2,if_neg (fun z=>by omega)]
theorem eR {w:List Nat} (h:∀ c∈w,47<=c):w.flatMap sp4=w:=by
 induction w with
 | nil=>rfl
 | cons c w ih =>
   have hc:=h c (Nj ..);rw [O9,fI ⟨by omega,by omega,by omega,by omega⟩,ih fun d hd=>h d (Ng _ hd)];rfl
theorem cR (cur l:List Nat) {c:Nat} (h:c=40∨c=41∨c=44∨c=46):scW cur ((c::l).flatMap sp4)=em cur++[c]::scW [] (l.flatMap sp4):=by
 rw [O9,nO h];show scW cur (32::c::32::l.flatMap sp4)=_;rw [scW,if_pos rfl,scW,if_neg (by omega),scW,if_pos rfl];rfl
theorem oO {w l:List Nat} (hw:w≠[]) (h:Nx l):scW w (l.flatMap sp4)=w::scW [] (l.flatMap sp4):=by
 have he:em w=[w]:=by unfold em;rw [if_neg hw]
 rcases h with rfl | ⟨c,r,rfl,hc⟩
 · show em w=w::em [];rw [he];rfl
 · have yE:c=40∨c=41∨c=44∨c=46:=by omega
   rw [cR w r yE,cR [] r yE,he];rfl
theorem uY {n:Nd} (h:okW n):(∀ c∈sL n,47<=c)/\sL n≠[]:=by
 refine ⟨fun c hc=>by have:=h.1 c hc;omega,fun z=>h.2 ?_⟩;rw [<- aT,z];rfl
mutual
theorem rR:∀ {t:Th},t.Rd->∀ (l:List Nat),Nx l->scW [] ((t.cP++l).flatMap sp4)=t.wP.map sL++scW [] (l.flatMap sp4)
 | .call s k,h,l,hl=>by
   rw [Th.Rd] at h;have e1:=fo h.1 h.2.1;have e2:=fo h.2.2.1 h.2.2.2;rw [Th.cP,Th.wP,Th.stP];show scW [] (((48+s.toNat)::46::(48+k.toNat)::l).flatMap sp4)=[sL (aM s),sL dot,sL (aM k)]++_;rw [O9,fI ⟨by omega,by omega,by omega,by omega⟩,NG,NK,scW,if_neg (by omega),NK,cR _ _ (.inr (.inr (.inr rfl))),O9,fI ⟨by omega,by omega,by omega,by omega⟩,NG,NK,scW,if_neg (by omega),NK,oO (by simp) hl,e1,e2,rE];rfl
 | .knot n ts,h,l,hl=>by
   rw [Th.Rd] at h;obtain ⟨FR,xu⟩:=uY h.1;have Bm:∀ c∈sL n,c≠32:=fun c hc=>by have:=FR c hc;omega
   rw [Th.cP,Th.wP,Th.stP];by_cases hz:ts=[]
   · rw [if_pos hz,if_pos hz,Nz,P9,eR FR,fG _ _ _ Bm,NK,oO xu hl];rfl
   · rw [if_neg hz,if_neg hz,Nr,NG,Nr,P9,eR FR,fG _ _ _ Bm,NK,cR _ _ (.inl rfl),qV h.2.2 hz ([41]++l) (.inr ⟨41,l,rfl,.inr (.inl rfl)⟩)];rw [NG,NK,cR _ _ (.inr (.inl rfl))];have he:em (sL n)=[sL n]:=by unfold em;rw [if_neg xu]
     rw [he];simp only [Ni,NM,Nw,QM,OC,List.flatten_nil,Nz,NG,NK,Nr,mC,l8];rfl
theorem qV:∀ {ts:List Th},Rds ts->ts≠[]->∀ (l:List Nat),Nx l->scW [] ((cPs ts++l).flatMap sp4)=(((eG ts).map (·.1)).flatten).map sL++scW [] (l.flatMap sp4)
 | [],_,hn,_,_=>absurd rfl hn
 | t::ts,h,_,l,hl=>by
   rw [Rds] at h;rw [cPs,eG];by_cases hz:ts=[]
   · rw [if_pos hz,if_pos hz,Nz,Nz,rR h.1 l hl];rfl
   · rw [if_neg hz,if_neg hz,Nr,NG,rR h.1 _ (.inr ⟨44,_,rfl,.inr (.inr rfl)⟩),cR _ _ (.inr (.inr (.inl rfl))),qV h.2 hz l hl];simp only [Ni,NM,Nw,QM,NG,NK,Nr,no];rfl
end
theorem uy {t:Th} (h:t.Rd):W4 t.cP=t.wP.map sL:=by
 have:=rR h [] (.inl rfl);rw [Nz] at this;rw [t7,this];show _++em []=_;exact Nz _
theorem u8 (c:Nat):(c=40∨c=41∨c=44∨c=46)∨(c≠40/\c≠41/\c≠44/\c≠46):=by omega
end BB
namespace L2
open PySem PySem.Spec PyProof.Rows
def qY (K:MY) (a:M5):It:=⟨fun i H=>∃ xs x,SqL K H a xs/\xs[i]?=some x,fun i H x H'=>∃ p y,H p=none/\x=.ref p/\H'=upd H p (.tup [.int (i:Nat),y])/\∀ xs,SqL K H a xs->xs[i]?=some y,fun i H=>∃ xs,SqL K H a xs/\xs.length=i⟩
theorem oT {P:NC} {w:NP} {K:MY} {elts:List Od} {k1} {pos:Qy} (a e it:M5):Turn P w K (.Tuple elts k1 pos) (qY K a) [e,it] e (fun i h=>(∃ old,IsEnum h e it ((i:Nat):Int) old)/\h.IsListIter it a i) where
 mem:=by simp
 obj:=fun i h st b hb=>by
  obtain ⟨⟨old,he⟩,o,e1,e2,e3⟩:=st;rcases Nb.mp hb with rfl | hb
  · exact ⟨_,he,fun v z=>by cases z⟩
  · have:b=it:=by simpa using hb
    subst this;exact ⟨o,e1,fun v z=>by rw [e3] at z;cases z⟩
 keep:=fun i h h' st k=>by
  obtain ⟨⟨old,he⟩,o,e1,e2⟩:=st;exact ⟨⟨old,k e (by simp) _ he⟩,o,k it (by simp) _ e1,e2⟩
 item:=by
  intro X hP hw hK hc i pins s σ H E I hf st hg;subst hP hw hK;obtain ⟨xs,x,hq,hx⟩:=hg;obtain ⟨its,rv,p,hz⟩:=I.list hq;obtain ⟨u,hu,ru⟩:=rv.get hx;obtain ⟨⟨old,he⟩,hi⟩:=st
  have FT:e≠it:=by
   rintro rfl;obtain ⟨o,e1,e2,_⟩:=hi;rw [he] at e1;cases e1;exact absurd (RL e2) (by decide)
  have FU:a≠it:=by
   rintro rfl;obtain ⟨o,e1,e2,_⟩:=hi;obtain ⟨o',Cq,zY,_⟩:=p.isList;rw [Cq] at e1;cases e1;rw [zY] at e2;exact absurd (RL e2) (by decide)
  have Km:a≠e:=by
   rintro rfl;obtain ⟨o',Cq,zY,_⟩:=p.isList;rw [he] at Cq;cases Cq;exact absurd (RL zY) (by decide)
  have xK:i<its.toArray.size:=by
   have:=(Nl.mp hu).1;simpa using this
  have Kn:e<s.heap.objs.size:=Np he;have zp:it<s.heap.objs.size:=by obtain ⟨o,e1,_⟩:=hi;exact Np e1
  refine wpAny_pyNext_enum_itemD (Draws.list (A:=X.A.in1) (show X.A.in1.handled=none from I.ok.hd hc) it a FU its.toArray) he ⟨hi,p.isList⟩ xK FT (by simp [FT,Km.symm]) fun y h1 tk hy ho Ko hT xQ hk=>?_
  have Kp:y=u:=by
   have:its[i]?=some y:=by simpa using hy
   rw [hu] at this;exact (Nh this).symm
  subst Kp;refine ⟨_,rfl,wpAny_letOwnedTupleGo_enum ho fun h2 Kq ED=>?_⟩;replace ED:PZ e h1 h2:=ED
  have xu:∀ b∈[e,it],b<s.heap.objs.size:=fun b hb=>by
   rcases Nb.mp hb with rfl | hb
   · exact Kn
   · have:b=it:=by simpa using hb
     subst this;exact zp
  have FI:H s.heap.objs.size=none:=I.hok.fresh (M8 _)
  have IA:Inv X pins σ (upd H s.heap.objs.size (.tup [.int (i:Nat),x])) { s with heap:=s.heap.push { cls:=.type "tuple",data:=.seq #[.int (i:Nat) tk,y] },toks:=tk } :=
   I.laid (o:=.tup [.int (i:Nat),x]) (fun b ob q=>M6 _ q) (M8 _) ⟨by show 2<=Ny;decide,[.int (i:Nat) tk,y],0,.cons ⟨tk,rfl⟩ (.cons ru .nil),Nf _ rfl⟩
  refine ⟨.ref s.heap.objs.size,upd H s.heap.objs.size (.tup [.int (i:Nat),x]),?_,rfl,⟨_,x,FI,rfl,rfl,fun ys Fs=>by rw [I.list_inj Fs hq];exact hx⟩,⟨⟨y,by simpa using Kq⟩,?_⟩,fun b hb=>?_⟩
  · have IB:Inv X pins σ (upd H s.heap.objs.size (.tup [.int (i:Nat),x])) { s with heap:=h2,toks:=tk+1 }:=by
     refine Inv.turnedL (s:={ s with heap:=s.heap.push { cls:=.type "tuple",data:=.seq #[.int (i:Nat) tk,y] },toks:=tk }) (h':=h2) (fp:=[e,it]) (t':=tk+1) IA (fun b o hb q=>?_) fun b hb=>?_
     · have Ax:b≠e:=fun z=>hb (by simp [z]);have HE:b≠it:=fun z=>hb (by simp [z]);rw [ED.2 b Ax];by_cases yZ:b=s.heap.objs.size
       · subst yZ;rw [hT];have q':(s.heap.push { cls:=.type "tuple",data:=.seq #[.int (i:Nat) tk,y] }).get? s.heap.objs.size=some o:=q;rw [Nf _ rfl] at q';exact q'
       · have AR:b<(s.heap.push { cls:=.type "tuple",data:=.seq #[.int (i:Nat) tk,y] }).objs.size:=Np q;rw [O1] at AR;refine hk b o Ax HE ?_;have q':(s.heap.push { cls:=.type "tuple",data:=.seq #[.int (i:Nat) tk,y] }).get? b=some o:=q;rw [Heap.get?_push_ne _ _ _ yZ] at q';exact q'
     · obtain ⟨f0,f1⟩:=hf b hb;exact ⟨by rw [aq (NQ (xu b hb))];exact f0,f1⟩
    exact IB
  · obtain ⟨o,e1,r⟩:=Ko.1;exact ⟨o,(ED.2 it (QE FT)).trans e1,r⟩
  · rw [aq (NQ (xu b hb))];exact (hf b hb).1
 done:=by
  intro X hP hw hK hc i pins s σ H E I hf st hg;subst hP hw hK;obtain ⟨xs,hq,hx⟩:=hg;obtain ⟨its,rv,p,hz⟩:=I.list hq;obtain ⟨⟨old,he⟩,hi⟩:=st
  have FU:a≠it:=by
   rintro rfl;obtain ⟨o,e1,e2,_⟩:=hi;obtain ⟨o',Cq,zY,_⟩:=p.isList;rw [Cq] at e1;cases e1;rw [zY] at e2;exact absurd (RL e2) (by decide)
  have hn:its.toArray.size=i:=by
   have:=rv.length;rw [M9];omega
  refine wpAny_pyNext_enum_endD (Draws.list (A:=X.A.in1) (show X.A.in1.handled=none from I.ok.hd hc) it a FU its.toArray) he (by rw [hn];exact ⟨hi,p.isList⟩) fun h' eb=>⟨rfl,?_⟩;exact I.turnedL (fp:=[e,it]) (t':=s.toks) (fun b o hb q=>eb b o (fun z=>hb (by simp [z])) q) hf
 self:=fun _ _ _ _ _ st h=>by
  obtain ⟨⟨old,he⟩,_⟩:=st;exact wpAny_pyIter_enum he h
section
variable {X:Cx} {e:Od} {te:TE} {p2 yz:Qy}
def uI (K:MY) (tl:TE):TI:=fun σ H R=>tl σ H fun x H1=>∃ a,x=.ref a/\(∃ xs,SqL K H1 a xs)/\R (qY K a) H1
theorem qW {elts:List Od} {k1} {pos:Qy} (g2:Gl X "enumerate") (m2:X.mg "enumerate"=none) (he:PE X e te) (h2:NV [e] X.env=[(false,Pn e X.env)]:=by rfl):PI X (.Tuple elts k1 pos) (.Call (.Name "enumerate" p2) [e] [] yz) (uI X.K te):=by
 intro pins s σ H R I h;refine O7 (gA I g2 m2 boot_enumerate (Pd ?_ h2 rfl));rw [h2];show Nv _ _ (spliced ((false,Pn e X.env)::[])) _ _ s;refine O8 (thn (he pins s σ H _ I h) fun u s1 ⟨x,H1,I1,r1,a,ex,⟨xs,hq⟩,q⟩=>P6 ?_);subst ex;cases r1;obtain ⟨its,rv,p,hz⟩:=I1.list hq;refine call_enumerate_list (show s1.heap.IsList a its.toArray from p.isList) fun h' g1 g2 g3 g4=>?_;refine wpAny_pyIter_enum (s:={ s1 with heap:=h' }) g1 ?_;refine ⟨s1.heap.objs.size+1,[s1.heap.objs.size+1,s1.heap.objs.size],_,_,H1,rfl,I1.kept (t':=s1.toks) g4,oT a _ _,⟨⟨_,g1⟩,g2⟩,fun b hb=>?_,q⟩
 have ya:s1.heap.objs.size<=b:=by
  rcases Nb.mp hb with rfl | hb
  · omega
  · have:b=s1.heap.objs.size:=by simpa using hb
    exact RS this.symm
 exact I1.fpOk ya (I1.hok.fresh ya)
end
theorem qt {K:MY} {a:M5} {xs:List V} {g:TG} {tb:TS} {D:Ends} {σ:St} {H:Hp} (Pv:Nat->St->Hp->Prop) (h0:Pv 0 σ H) (hl:∀ i σ H,i<=xs.length->Pv i σ H->SqL K H a xs)
 (hs:∀ i x p σ H,xs[i]?=some x->H p=none->Pv i σ H->g (.ref p) σ (upd H p (.tup [.int (i:Nat),x])) fun xD H2=>tb { D with nx:=Pv (i+1),ct:=Pv (i+1),bk:=D.nx } xD H2) (hd:∀ σ H,Pv xs.length σ H->D.nx σ H) :
 ∃ W:Nat->Nat->St->Hp->Prop,(∃ m,W 0 m σ H)/\∀ i m σ H,W i m σ H →
   ((qY K a).stop i H/\D.nx σ H)∨((qY K a).go i H/\∃ N:St->Hp->Prop,(∀ f' H',N f' H'->∃ m',m'<m/\W (i+1) m' f' H')/\∀ x H',(qY K a).yld i H x H'->g x σ H' fun xD H2=>tb { D with nx:=N,ct:=N,bk:=D.nx } xD H2):=by
 refine ⟨fun i m σ H=>m=xs.length - i/\i<=xs.length/\Pv i σ H,⟨xs.length,by simp,N2 _,h0⟩,?_⟩;rintro i m σ H ⟨rfl,hi,p⟩;have q:=hl i σ H hi p;by_cases xK:i<xs.length
 · refine .inr ⟨⟨xs,xs[i],q,by simp [xK]⟩,Pv (i+1),fun f' H' p'=>⟨xs.length - (i+1),by omega,rfl,xK,p'⟩,fun x H' y=>?_⟩;obtain ⟨pa,y,hp,rfl,rfl,hy⟩:=y;exact hs i y pa σ H (hy xs q) hp p
 · have e:i=xs.length:=by omega
   subst e;exact .inl ⟨⟨xs,q,rfl⟩,hd σ H p⟩
end L2
namespace BB
theorem hid {G:Prop} (k:∀ F:Prop,(G->F)->F):G:=k G id
inductive Ex1 {A0:Type} (p:A0->Prop):Prop
 | mk (x0:A0) (h:p x0):Ex1 p
inductive Ex2 {A0 A1:Type} (p:A0->A1->Prop):Prop
 | mk (x0:A0) (x1:A1) (h:p x0 x1):Ex2 p
inductive Ex3 {A0 A1 A2:Type} (p:A0->A1->A2->Prop):Prop
 | mk (x0:A0) (x1:A1) (x2:A2) (h:p x0 x1 x2):Ex3 p
inductive Ex5 {A0 A1 A2 A3 A4:Type} (p:A0->A1->A2->A3->A4->Prop):Prop
 | mk (x0:A0) (x1:A1) (x2:A2) (x3:A3) (x4:A4) (h:p x0 x1 x2 x3 x4):Ex5 p
inductive Ex6 {A0 A1 A2 A3 A4 A5:Type} (p:A0->A1->A2->A3->A4->A5->Prop):Prop
 | mk (x0:A0) (x1:A1) (x2:A2) (x3:A3) (x4:A4) (x5:A5) (h:p x0 x1 x2 x3 x4 x5):Ex6 p
inductive wn {A0 A1 A2 A3 A4 A5 A6 A7 A8 A9 HK HL:Type} (p:A0->A1->A2->A3->A4->A5->A6->A7->A8->A9->HK->HL->Prop):Prop
 | mk (x0:A0) (x1:A1) (x2:A2) (x3:A3) (x4:A4) (x5:A5) (x6:A6) (x7:A7) (x8:A8) (x9:A9) (Kr:HK) (Ks:HL) (h:p x0 x1 x2 x3 x4 x5 x6 x7 x8 x9 Kr Ks):wn p
inductive An2 (a0 a1:Prop):Prop
 | mk (h0:a0) (h1:a1):An2 a0 a1
inductive An3 (a0 a1 a2:Prop):Prop
 | mk (h0:a0) (h1:a1) (h2:a2):An3 a0 a1 a2
inductive An4 (a0 a1 a2 a3:Prop):Prop
 | mk (h0:a0) (h1:a1) (h2:a2) (h3:a3):An4 a0 a1 a2 a3
inductive An5 (a0 a1 a2 a3 a4:Prop):Prop
 | mk (h0:a0) (h1:a1) (h2:a2) (h3:a3) (h4:a4):An5 a0 a1 a2 a3 a4
inductive An6 (a0 a1 a2 a3 a4 a5:Prop):Prop
 | mk (h0:a0) (h1:a1) (h2:a2) (h3:a3) (h4:a4) (h5:a5):An6 a0 a1 a2 a3 a4 a5
inductive An8 (a0 a1 a2 a3 a4 a5 a6 a7:Prop):Prop
 | mk (h0:a0) (h1:a1) (h2:a2) (h3:a3) (h4:a4) (h5:a5) (h6:a6) (h7:a7):An8 a0 a1 a2 a3 a4 a5 a6 a7
inductive vq (a0 a1 a2 a3 a4 a5 a6 a7 a8 a9 EE EF a12:Prop):Prop
 | mk (h0:a0) (h1:a1) (h2:a2) (h3:a3) (h4:a4) (h5:a5) (h6:a6) (h7:a7) (h8:a8) (h9:a9) (MC:EE) (MD:EF) (ME:a12):vq a0 a1 a2 a3 a4 a5 a6 a7 a8 a9 EE EF a12
end BB
namespace L2
open PySem PySem.Spec PyProof.Rows
end L2
namespace BB
open PySem L2
theorem uV:∀ c<10,sL (aM (c:Nat))=[48+c]:=by decide +kernel
theorem vx:∀ b<10,∀ c<10,b≠0->sL (aM (10 * b+c:Nat))=[48+b,48+c]:=by decide +kernel
theorem uR:(NU 10).all (fun a=>(NU 10).all fun b=>(NU 10).all fun c=>decide (a=0) || decide (sL (aM (100 * a+10 * b+c:Nat))=[48+a,48+b,48+c]))=true:=by decide +kernel
theorem tI {a b c:Nat} (ha:a<10) (hb:b<10) (hc:c<10) (h0:a≠0):sL (aM (100 * a+10 * b+c:Nat))=[48+a,48+b,48+c]:=by
 have h:=Oa.mp (Oa.mp (Oa.mp uR a (Pk.mpr ha)) b (Pk.mpr hb)) c (Pk.mpr hc);rw [decide_eq_false h0,Bool.false_or] at h;exact of_decide_eq_true h
theorem j4:∀ n<1000,Rm (aM (n:Nat))=some ((n:Nat):Int):=by decide +kernel
def isNum (z:Nd):Bool:=decide (1<=z.length/\z.length<=3) && (sL z).all (fun c=>decide (48<=c/\c<=57)) && (decide ((sL z).head?≠some 48) || decide (sL z=[48]))
theorem oS {z:Nd} (h:isNum z=true):∃ n:Nat,n<1000/\z=aM (n:Nat):=by
 unfold isNum at h;rw [NX,NX,Oa,Ri] at h;obtain ⟨⟨h1,h2⟩,h3⟩:=h;have h1:=of_decide_eq_true h1;rw [<- aT] at h1;have h2:∀ c∈sL z,48<=c/\c<=57:=fun c hc=>of_decide_eq_true (h2 c hc);have h3:(sL z).head?≠some 48∨sL z=[48]:=h3.imp of_decide_eq_true of_decide_eq_true
 match e:sL z,h1,h2,h3 with
 | [c],_,h2,_ =>
   have c1:=h2 c (by simp);have k:=uV (c - 48) (by omega);rw [show 48+(c - 48)=c by omega] at k;exact ⟨c - 48,by omega,dl (e.trans k.symm)⟩
 | [b,c],_,h2,h3 =>
   have c1:=h2 c (by simp);have b1:=h2 b (by simp);have b0:b≠48:=fun z=>by rcases h3 with h3 | h3 <;> simp_all
   have k:=vx (b - 48) (by omega) (c - 48) (by omega) (by omega);rw [show 48+(c - 48)=c by omega,show 48+(b - 48)=b by omega] at k;exact ⟨_,by omega,dl (e.trans k.symm)⟩
 | [a,b,c],_,h2,h3 =>
   have c1:=h2 c (by simp);have b1:=h2 b (by simp);have a1:=h2 a (by simp);have b0:a≠48:=fun z=>by rcases h3 with h3 | h3 <;> simp_all
   have k:=tI (a:=a - 48) (b:=b - 48) (c:=c - 48) (by omega) (by omega) (by omega) (by omega);rw [show 48+(c - 48)=c by omega,show 48+(b - 48)=b by omega,show 48+(a - 48)=a by omega] at k;exact ⟨_,by omega,dl (e.trans k.symm)⟩
theorem oq:∀ n<1000,isNum (aM (n:Nat))=true:=by decide +kernel
def cL (z:Nd):Option Int:=if isNum z=true then Rm z else none
theorem bf {z:Nd} {n:Int}:cL z=some n↔z=aM n/\0<=n/\n<1000:=by
 unfold cL;constructor
 · intro h;split at h
   · rename_i c
     obtain ⟨m,hm,rfl⟩:=oS c;rw [j4 m hm] at h;cases h;exact ⟨rfl,by omega,by omega⟩
   · cases h
 · rintro ⟨rfl,h0,h1⟩;obtain ⟨m,rfl⟩:=Int.eq_ofNat_of_zero_le h0;rw [if_pos (oq m (by omega)),j4 m (by omega)]
theorem dM {z:Nd}:cL z=none↔isNum z=false:=by
 unfold cL;by_cases c:isNum z=true
 · rw [if_pos c];obtain ⟨m,hm,rfl⟩:=oS c;rw [j4 m hm];exact ⟨(fun h=>by cases h),fun h=>by rw [h] at c;cases c⟩
 · rw [if_neg c];exact ⟨fun _=>OI.mpr c,fun _=>rfl⟩
def SOk:Stp->Prop
 | .sg c=>c=lpar∨c=comma∨c=rpar
 | .th (.knot n ts)=>ts=[]/\aw n=true
 | .th (.call s k)=>(0<=s/\s<1000)/\0<=k/\k<1000
def stW:Stp->List Nd
 | .sg c=>[c]
 | .th (.knot n _)=>[n]
 | .th (.call s k)=>[aM s,dot,aM k]
def eE:List Nd->Option Stp
 | [x,d,y]=>if d=dot then (match cL x,cL y with
   | some a,some b=>some (.th (.call a b))
   | _,_=>none) else none
 | _=>none
theorem ec {ws:List Nd} {x:Stp}:eE ws=some x↔(∃ a b:Int,x=.th (.call a b)/\SOk x/\ws=stW x):=by
 constructor
 · intro h
   match ws,h with
   | [u,d,v],h =>
     rw [eE] at h;by_cases c:d=dot
     · rw [if_pos c] at h;cases e1:cL u with
       | none=>rw [e1] at h;cases h
       | some a =>
         cases e2:cL v with
         | none=>rw [e1,e2] at h;cases h
         | some b =>
           rw [e1,e2] at h;have:=(Nh h).symm;subst this;obtain ⟨rfl,k1⟩:=bf.mp e1;obtain ⟨rfl,k2⟩:=bf.mp e2;exact ⟨a,b,rfl,⟨k1,k2⟩,by rw [c];rfl⟩
     · rw [if_neg c] at h;cases h
   | [],h=>cases h
   | [_],h=>cases h
   | [_,_],h=>cases h
   | _::_::_::_::_,h=>cases h
 · rintro ⟨a,b,rfl,⟨k1,k2⟩,rfl⟩;rw [stW,eE,if_pos rfl,bf.mpr ⟨rfl,k1⟩,bf.mpr ⟨rfl,k2⟩]
def kg (w:Nd):Prop:=w=lpar∨w=comma∨w=rpar
instance (w:Nd):Decidable (kg w):=inferInstanceAs (Decidable (_∨_))
def aX:Nat->List Nd->Option (List Stp)
 | _,[]=>some []
 | 0,_::_=>none
 | n+1,w::ws=>if kg w then (aX n ws).map (.sg w::·)
   else if aw w=true then (aX n ws).map (.th (.knot w [])::·)
   else (eE ((w::ws).take 3)).bind fun x=>(aX n (ws.drop 2)).map (x::·)
theorem dk:∀ {n:Nat} {ws:List Nd} {l:List Stp},aX n ws=some l->(l.map stW).flatten=ws/\∀ x∈l,SOk x
 | n,[],l,h=>by
   have:aX n []=some []:=by cases n <;> rfl
   rw [this] at h;cases h;exact ⟨rfl,fun x hx=>by cases hx⟩
 | 0,w::ws,l,h=>by cases h
 | n+1,w::ws,l,h=>by
   rw [aX] at h;by_cases c:kg w
   · rw [if_pos c] at h;obtain ⟨l',h1,rfl⟩:=Oj.mp h;obtain ⟨e,k⟩:=dk h1;refine ⟨by rw [Ni,NM,e];rfl,fun x hx=>?_⟩;rcases Nb.mp hx with rfl | hx
     · exact c
     · exact k x hx
   · rw [if_neg c] at h;by_cases c2:aw w=true
     · rw [if_pos c2] at h;obtain ⟨l',h1,rfl⟩:=Oj.mp h;obtain ⟨e,k⟩:=dk h1;refine ⟨by rw [Ni,NM,e];rfl,fun x hx=>?_⟩;rcases Nb.mp hx with rfl | hx
       · exact ⟨rfl,c2⟩
       · exact k x hx
     · rw [if_neg c2] at h;obtain ⟨x,h0,h⟩:=Q4.mp h;obtain ⟨l',h1,rfl⟩:=Oj.mp h;obtain ⟨e,k⟩:=dk h1;obtain ⟨a,b,_,hx,hw⟩:=ec.mp h0;refine ⟨?_,fun y hy=>?_⟩
       · rw [Ni,NM,e,<- hw];show (w::ws).take 3++(w::ws).drop 3=_;exact Rk _ _
       · rcases Nb.mp hy with rfl | hy
         · exact hx
         · exact k y hy
theorem qF {w:Nd} (h:aw w=true):¬ kg w:=by
 rintro (rfl | rfl | rfl) <;> revert h <;> decide +kernel
theorem nW:∀ n<1000,aw (aM (n:Nat))=false/\¬ kg (aM (n:Nat)):=by decide +kernel
theorem fE:∀ {n:Nat} {l:List Stp},(∀ x∈l,SOk x)->((l.map stW).flatten).length<=n->aX n (l.map stW).flatten=some l
 | n,[],_,_=>by cases n <;> rfl
 | n,.sg c::l,h,hn=>by
   rw [Ni,NM,stW] at hn ⊢;obtain ⟨n,rfl⟩:∃ m,n=m+1:=⟨n - 1,by rw [Na,NR] at hn;omega⟩;show aX (n+1) (c::(l.map stW).flatten)=_;rw [aX,if_pos (show kg c from h _ (Nj ..)),fE (fun x hx=>h x (Ng _ hx)) (by rw [Na,NR] at hn;omega)];rfl
 | n,.th (.knot m ts)::l,h,hn=>by
   rw [Ni,NM,stW] at hn ⊢;obtain ⟨n,rfl⟩:∃ m,n=m+1:=⟨n - 1,by rw [Na,NR] at hn;omega⟩;obtain ⟨rfl,hm⟩:=h _ (Nj ..);show aX (n+1) (m::(l.map stW).flatten)=_;rw [aX,if_neg (qF hm),if_pos hm,fE (fun x hx=>h x (Ng _ hx)) (by rw [Na,NR] at hn;omega)];rfl
 | n,.th (.call s k)::l,h,hn=>by
   have hx:=h _ (Nj ..);have hc:=ec.mpr ⟨s,k,rfl,hx,rfl⟩;rw [Ni,NM] at hn ⊢;obtain ⟨n,rfl⟩:∃ m,n=m+1:=⟨n - 1,by rw [stW,Na] at hn;simp only [MZ] at hn;omega⟩;obtain ⟨⟨s0,s1⟩,_⟩:=hx;obtain ⟨s',rfl⟩:=Int.eq_ofNat_of_zero_le s0;have hs:=nW s' (by omega);show aX (n+1) (aM s'::([dot,aM k]++(l.map stW).flatten))=_;rw [aX,if_neg hs.2,if_neg (by rw [hs.1];decide)];have e1:(aM s'::([dot,aM k]++(l.map stW).flatten)).take 3=stW (.th (.call s' k)):=rfl;have e2:([dot,aM k]++(l.map stW).flatten).drop 2=(l.map stW).flatten:=rfl;rw [e1,hc,e2,fE (fun x hx=>h x (Ng _ hx)) (by rw [stW,Na] at hn;simp only [MZ] at hn;omega)];rfl
def d7 (ws:List Nd):Option (List Stp):=aX ws.length ws
theorem dj {ws:List Nd} {l:List Stp}:d7 ws=some l↔(l.map stW).flatten=ws/\∀ x∈l,SOk x:=by
 constructor
 · exact dk
 · rintro ⟨rfl,h⟩;exact fE h (M8 _)
end BB
namespace BB
open PySem L2
theorem b6 {S F:PSt} {x:Stp} {l:List Stp} (h:prun S (x::l)=some F):∃ S',aO S x=some S'/\prun S' l=some F:=by
 rw [prun] at h;exact Q4.mp h
theorem eV {S S':PSt} {t:Th} (h:aO S (.th t)=some S'):ended S.bef=false/\S'=⟨S.tops++[(t,0)],S.win,.th t⟩:=by
 rw [aO] at h;by_cases c:ended S.bef=false
 · rw [if_pos c] at h;exact ⟨c,(Nh h).symm⟩
 · rw [if_neg c] at h;cases h
theorem g7 {S S':PSt} (h:aO S (.sg lpar)=some S'):fJ S.bef=true/\S.win.length<100/\∃ j,S'.win=S.win++[j]/\S'.bef=.sg lpar:=by
 rw [aO,if_pos rfl] at h;by_cases c:fJ S.bef=true/\S.win.length<100/\S.tops≠[]
 · rw [if_pos c] at h;have:=(Nh h).symm;subst this;exact ⟨c.1,c.2.1,_,rfl,rfl⟩
 · rw [if_neg c] at h;cases h
theorem jr {S S':PSt} (h:aO S (.sg comma)=some S'):ended S.bef=true/\S.win≠[]/\S'.win=S.win/\S'.bef=.sg comma:=by
 rw [aO,if_neg dR.1,if_pos rfl] at h;by_cases c:ended S.bef=true/\S.win≠[]
 · rw [if_pos c] at h;have:=(Nh h).symm;subst this;exact ⟨c.1,c.2,rfl,rfl⟩
 · rw [if_neg c] at h;cases h
theorem gQ {S S':PSt} (h:aO S (.sg rpar)=some S'):ended S.bef=true/\S.win≠[]/\S'.win=S.win.dropLast/\S'.bef=.sg rpar:=by
 rw [aO,if_neg dR.2.1,if_neg dR.2.2.1,if_pos rfl] at h;by_cases c:ended S.bef=true/\S.win≠[]
 · rw [if_pos c] at h;have:=(Nh h).symm;subst this;exact ⟨c.1,c.2,rfl,rfl⟩
 · rw [if_neg c] at h;cases h
theorem sN {b:Stp} (h:fJ b=true):ended b=true:=by
 cases b with
 | th t=>rfl
 | sg c=>cases h
def vP (l:List Stp) (S F:PSt):Prop:=∃ (t:Th) (rest:List Stp) (S1:PSt),l=t.stP.map (·.2)++rest/\S1.win=S.win/\ended S1.bef=true/\prun S1 rest=some F/\(∀ r,rest≠.sg lpar::r)/\rest.length<l.length/\t.tall+S.win.length<=101
def wq (l:List Stp) (S F:PSt):Prop:=∃ (ts:List Th) (rest:List Stp) (S1:PSt),ts≠[]/\l=(eG ts).map (·.2)++.sg rpar::rest/\S1.win=S.win.dropLast/\S1.bef=.sg rpar/\prun S1 rest=some F/\rest.length<l.length/\br ts+S.win.length<=101
theorem nR:∀ n:Nat,(∀ (l:List Stp) (S F:PSt),l.length<=n->(∀ x∈l,SOk x)->ended S.bef=false->S.win.length<=100->prun S l=some F->F.win=[]->ended F.bef=true->vP l S F) ∧
 (∀ (l:List Stp) (S F:PSt),l.length<=n->(∀ x∈l,SOk x)->ended S.bef=false->S.win≠[]->S.win.length<=100->prun S l=some F->F.win=[]->ended F.bef=true->wq l S F)
 | 0=>by
   constructor
   · intro l S F hn _ hb _ h _ hf;have:l=[]:=Oe.mp (by omega);subst this;cases h;rw [hb] at hf;cases hf
   · intro l S F hn _ hb _ _ h _ hf;have:l=[]:=Oe.mp (by omega);subst this;cases h;rw [hb] at hf;cases hf
 | n+1=>by
   obtain ⟨MF,HM⟩:=nR n
   have hA:∀ (l:List Stp) (S F:PSt),l.length<=n+1->(∀ x∈l,SOk x)->ended S.bef=false->S.win.length<=100->prun S l=some F->F.win=[]->ended F.bef=true->vP l S F:=by
    intro l S F hn hok hb hw h hF hf;cases l with
    | nil=>cases h;rw [hb] at hf;cases hf
    | cons x l =>
      obtain ⟨S',h1,h2⟩:=b6 h;have hx:=hok x (Nj ..);rw [MZ] at hn;cases x with
      | sg c =>
        exfalso;rcases hx with rfl | rfl | rfl
        · have:=sN (g7 h1).1;rw [hb] at this;cases this
        · have:=(jr h1).1;rw [hb] at this;cases this
        · have:=(gQ h1).1;rw [hb] at this;cases this
      | th t =>
        obtain ⟨_,rfl⟩:=eV h1;cases t with
        | call s k =>
          refine ⟨.call s k,l,⟨S.tops++[(.call s k,0)],S.win,.th (.call s k)⟩,rfl,rfl,rfl,h2,fun r e=>?_,by rw [MZ];omega,by rw [Th.tall];omega⟩;subst e;obtain ⟨_,h3,_⟩:=b6 h2;have:=(g7 h3).1;cases this
        | knot m ts =>
          obtain ⟨rfl,hm⟩:=hx;by_cases hl:∃ r,l=.sg lpar::r
          · obtain ⟨r,rfl⟩:=hl;obtain ⟨S2,h3,h4⟩:=b6 h2;obtain ⟨_,Cr,j,hj,yZ⟩:=g7 h3;have Cr:S.win.length<100:=Cr;have hj:S2.win=S.win++[j]:=hj;rw [MZ] at hn;obtain ⟨ts,rest,S1,xu,e,Bn,AD,hr,hlen,Bo⟩:=HM r S2 F (by omega) (fun y hy=>hok y (Ng _ (Ng _ hy))) (by rw [yZ];exact gy) (by rw [hj];simp) (by rw [hj,Na,NR];omega) h4 hF hf;rw [hj,Na,NR] at Bo;refine ⟨.knot m ts,rest,S1,?_,by rw [Bn,hj,Rp],by rw [AD];exact dX,hr,fun q eq=>?_,by rw [MZ,MZ];omega,by rw [Th.tall];omega⟩
            · rw [Th.stP,if_neg xu,e];simp
            · subst eq;obtain ⟨_,h5,_⟩:=b6 hr;have:=(g7 h5).1;rw [AD] at this;cases this
          · exact ⟨.knot m [],l,⟨S.tops++[(.knot m [],0)],S.win,.th (.knot m [])⟩,by rw [Th.stP,if_pos rfl];rfl,rfl,rfl,h2,fun r e=>hl ⟨r,e⟩,by rw [MZ];omega,by rw [Th.tall,br];omega⟩
   refine ⟨hA,?_⟩;intro l S F hn hok hb xu hw h hF hf;obtain ⟨t,rest,S1,e,Bn,AD,hr,hl,hlen,Bo⟩:=hA l S F hn hok hb hw h hF hf;cases rest with
   | nil =>
     exfalso;cases hr;exact xu (by rw [<- Bn,hF])
   | cons x rest =>
     obtain ⟨S2,h3,h4⟩:=b6 hr;have HN:∀ y∈x::rest,SOk y:=fun y hy=>hok y (by rw [e];exact NF.mpr (.inr hy));have hx:=HN x (Nj ..);cases x with
     | th u=>exact absurd (eV h3).1 (by rw [AD];decide)
     | sg c =>
       rcases hx with rfl | rfl | rfl
       · exact absurd rfl (hl rest)
       · obtain ⟨_,_,Cr,yZ⟩:=jr h3;have FV:S2.win=S.win:=Cr.trans Bn;rw [MZ] at hlen;obtain ⟨ts,Dx,S3,Ak,e2,AB,Kt,Bp,HP,BS⟩:=HM rest S2 F (by omega) (fun y hy=>HN y (Ng _ hy)) (by rw [yZ];exact bN) (by rw [FV];exact xu) (by rw [FV];exact hw) h4 hF hf;rw [FV] at BS AB;refine ⟨t::ts,Dx,S3,by simp,?_,AB,Kt,Bp,by omega,by rw [br];omega⟩;rw [e,e2,eG,if_neg Ak];simp
       · obtain ⟨_,_,Cr,yZ⟩:=gQ h3;refine ⟨[t],rest,S2,by simp,?_,by rw [Cr,Bn],yZ,h4,by rw [MZ] at hlen;omega,by rw [br,br];omega⟩;rw [e,eG,if_pos rfl];simp
def eQ (l:List Stp):Option PSt:=(prun ⟨[],[],.sg comma⟩ l).bind fun F=>if F.win=[]/\ended F.bef=true then some F else none
theorem og {l:List Stp} {F:PSt} (hok:∀ x∈l,SOk x) (h:eQ l=some F):∃ t:Th,l=t.stP.map (·.2)/\t.tall<=101:=by
 unfold eQ at h;obtain ⟨F',h1,h2⟩:=Q4.mp h;by_cases c:F'.win=[]/\ended F'.bef=true
 · rw [if_pos c] at h2;have:=Nh h2;subst this;obtain ⟨t,rest,S1,e,Bn,AD,hr,hl,_,ht⟩:=(nR l.length).1 l _ F' (M8 _) hok bN (by show 0<=100;omega) h1 c.1 c.2;have ht:t.tall+0<=101:=ht;refine ⟨t,?_,by omega⟩;cases rest with
   | nil=>rw [e,Nz]
   | cons x rest =>
     exfalso;obtain ⟨S2,h3,h4⟩:=b6 hr;have hx:SOk x:=hok x (by rw [e];simp);cases x with
     | th u=>exact absurd (eV h3).1 (by rw [AD];decide)
     | sg c =>
       rcases hx with rfl | rfl | rfl
       · exact absurd rfl (hl rest)
       · exact (jr h3).2.1 Bn
       · exact (gQ h3).2.1 Bn
 · rw [if_neg c] at h2;cases h2
theorem nZ {S S':PSt} {x:Stp} (hx:SOk x) (h:aO S x=some S') (i:fJ S.bef=true->S.tops≠[]):(fJ S'.bef=true->S'.tops≠[])/\(S'.bef=.sg lpar->S'.win≠[])/\((∃ t,S'.bef=.th t)∨S'.bef=.sg lpar∨S'.bef=.sg comma∨S'.bef=.sg rpar):=by
 cases x with
 | th t =>
   obtain ⟨_,rfl⟩:=eV h;exact ⟨fun _=>(by simp),fun z=>(by cases z),.inl ⟨t,rfl⟩⟩
 | sg c =>
   rcases hx with rfl | rfl | rfl
   · obtain ⟨_,_,j,hj,hb⟩:=g7 h;exact ⟨fun z=>(by rw [hb] at z;cases z),fun _=>(by rw [hj];simp),.inr (.inl hb)⟩
   · obtain ⟨_,_,_,hb⟩:=jr h;exact ⟨fun z=>(by rw [hb] at z;cases z),fun z=>(by rw [hb] at z;exact absurd (Stp.sg.inj z) dR.1),.inr (.inr (.inl hb))⟩
   · obtain ⟨_,_,_,hb⟩:=gQ h;exact ⟨fun z=>(by rw [hb] at z;cases z),fun z=>(by rw [hb] at z;exact absurd (Stp.sg.inj z) dR.2.1),.inr (.inr (.inr hb))⟩
def cB (ws:List Nd) (t:Th):Prop:=d7 ws=some (t.stP.map (·.2))/\t.tall<=101
theorem cj {t:Th} (h:t.tall<=101):∃ F,eQ (t.stP.map (·.2))=some F/\F.tops=t.walk.map fM:=by
 obtain ⟨b,hb,e⟩:=qc h;refine ⟨⟨t.walk.map fM,[],b⟩,?_,rfl⟩;unfold eQ;rw [e];exact if_pos ⟨rfl,hb⟩
mutual
theorem qX:∀ t:Th,t.size<=t.stP.length
 | .call s k=>by rw [Th.stP,Th.size];exact M8 _
 | .knot n ts=>by
   rw [Th.stP,Th.size];by_cases hz:ts=[]
   · subst hz;rw [if_pos rfl,aG];exact M8 _
   · rw [if_neg hz,MZ,MZ,Na];have:=pP ts;omega
theorem pP:∀ ts:List Th,aG ts<=(eG ts).length
 | []=>by rw [aG];exact N2 _
 | t::ts=>by
   rw [eG,aG,Na];have h1:=qX t;have h2:=pP ts;by_cases hz:ts=[]
   · subst hz;rw [if_pos rfl,aG];omega
   · rw [if_neg hz,MZ];omega
end
mutual
theorem iq:∀ t:Th,(t.stP.map (·.2)).map stW=t.stP.map (·.1)
 | .call s k=>rfl
 | .knot n ts=>by
   rw [Th.stP];by_cases hz:ts=[]
   · rw [if_pos hz];rfl
   · rw [if_neg hz];simp only [Ni,Nw,OC,jF ts];rfl
theorem jF:∀ ts:List Th,((eG ts).map (·.2)).map stW=(eG ts).map (·.1)
 | []=>rfl
 | t::ts=>by
   rw [eG];by_cases hz:ts=[]
   · rw [if_pos hz,Nz,iq t]
   · rw [if_neg hz];simp only [Ni,Nw,iq t,jF ts];rfl
end
theorem qC {ws:List Nd} {t:Th}:cB ws t↔ws=t.wP/\(∀ x∈t.stP.map (·.2),SOk x)/\t.tall<=101:=by
 unfold cB;rw [dj,iq,and_assoc];exact and_congr_left fun _=>⟨fun h=>h.symm,fun h=>h.symm⟩
theorem uZ (x:Stp):1<=(stW x).length:=by
 cases x with
 | sg c=>exact M8 _
 | th t=>cases t with
   | knot n ts=>exact M8 _
   | call s k=>exact (by decide:1<=3)
theorem oV {ws:List Nd} {l:List Stp} (h:d7 ws=some l):l.length<=ws.length:=by
 rw [<- (dj.mp h).1];clear h;induction l with
 | nil=>exact M8 _
 | cons x l ih =>
   rw [Ni,NM,Na,MZ];have:=uZ x;omega
theorem j7 (c:Nat):∀ (l:List Nat) (p:List Nat),p∈aB c l->p.length<=l.length
 | [],p,h=>by
   rw [aB] at h;rw [Nc.mp h];exact M8 _
 | d::l,p,h=>by
   rw [aB] at h;obtain ⟨p0,r,e⟩:=bI c l;have ih:=j7 c l;rw [e] at h ih;rw [MZ];split at h
   · rcases Nb.mp h with rfl | h
     · exact N2 _
     · have:=ih p h;omega
   · rcases Nb.mp h with rfl | h
     · have:=ih p0 (Nj ..);rw [MZ];omega
     · have:=ih p (Ng _ h);omega
theorem ku (c:Nat):∀ l:List Nat,(aB c l).length<=l.length+1
 | []=>M8 _
 | d::l=>by
   have ih:=ku c l;rw [aB];obtain ⟨p,r,e⟩:=bI c l;rw [e] at ih ⊢;rw [MZ] at ih;split
   · rw [MZ,MZ,MZ];omega
   · rw [MZ,MZ];omega
theorem tu (l:List Nat):(wds l).length<=l.length+1:=Ow (List.length_filter_le _ _) (ku 32 l)
theorem tO {l p:List Nat} (h:p∈wds l):p.length<=l.length:=j7 32 l p (List.mem_filter.mp h).1
end BB
namespace BB
open PySem L2 PySem.Builtin PySem.Builtin.Str
end BB
namespace L2
open PySem PySem.Spec PySem.SeqAt PySem.Calls PyProof.Rows PySem.Builtin PySem.Builtin.Str BB
variable {X:Cx}
end L2
namespace L2
open PySem PySem.Spec PyProof.Rows PySem.W
def rQ (K:Frag) (C1 C2:M5) (t1 t2:TS) (D:Ends):St->M1->Hp->Prop:=fun xZ c H'=>∃ C,c=.ref C/\((exmOne K (.ref C) (.ref C1)=some true/\t1 D xZ H')∨(exmOne K (.ref C) (.ref C1)=some false/\exmOne K (.ref C) (.ref C2)=some true/\t2 D xZ H'))
def um (K:Frag) (C1 C2:M5) (tb:(St->M1->Hp->Prop)->TS) (t1 t2:TS):TS:=fun D σ H=>tb (rQ K C1 C2 t1 t2 D) D σ H
theorem oW {K:Frag} {C1 C2:M5} {tb:(St->M1->Hp->Prop)->TS} {t1 t2:TS} {D:Ends} {σ:St} {H:Hp} (R:St->M1->Hp->Prop) (h1:∀ R':St->M1->Hp->Prop,(∀ xZ c H',R xZ c H'->R' xZ c H')->tb R' D σ H)
 (h2:∀ xZ c H',R xZ c H'->rQ K C1 C2 t1 t2 D xZ c H'):um K C1 C2 tb t1 t2 D σ H:=h1 _ h2
theorem tZ {X:Cx} {C1 C2:M5} {x1 x2:Nd} {Ku EG Kv FW pos:Qy} {body HQ HR:List OP} {b1 b2:OP} {tb:(St->M1->Hp->Prop)->TS} {t1 t2:TS}
 (hb:∀ pins R,PSs (X.tryB pins R) body (tb R)) (Cm:∀ ea oe,PSs (X.suite ea oe) (b1::HQ) t1) (BI:∀ ea oe,PSs (X.suite ea oe) (b2::HR) t2)
 (xF:X.stack=X.env::X.outer) (FY:X.env.frame=some X.env.locals) (HS:Gl X x1) (EH:X.mg x1=some (.ref C1)) (Kw:Gl X x2) (AS:X.mg x2=some (.ref C2))
 (AE:(x1 == ("__debug__":Nd))=false:=by decide) (hd2:(x2 == ("__debug__":Nd))=false:=by decide) :
 PS X (.Try body [.ExceptHandler (some (.Name x1 Ku)) none (b1::HQ) EG,.ExceptHandler (some (.Name x2 Kv)) none (b2::HR) FW] [] [] pos) (um X.K C1 C2 tb t1 t2):=by
 intro pins s σ H D I h;refine wpAny_Try_except ?_;have yx:=hb pins (rQ X.K C1 C2 t1 t2 D) [] s σ H D (I.tryB _) h;refine OM yx (fun f s1 q=>?_) fun e s1 q=>?_
 · have q':=SP.untryB q;cases f with
   | next=>exact P1 q'
   | brk=>exact q'
   | cont=>exact q'
   | ret u=>exact q'
 · obtain ⟨xZ,H1,s0,I1,ea,C,a0,B,H',rfl,zj,Aj,un,hok,AA,g1,g2,C',Fu,q⟩:=q;cases Fu;rw [xF] at AA;have FZ:X.A.frames=some (X.env::X.outer):=by rw [<- xF];exact I1.ok.frames
   have inv:∀ (h6:Oo) (tk:Nat),Heap.FlyingW B (X.env::X.outer) ea (.ref C) a0 h6->s1.heap.UpToSlots h6->Inv X pins xZ H' { s1 with heap:=h6 }:=fun h6 tk yr up=>by
    obtain ⟨U,_⟩:=oA (fs:=frs X.stack) (H:=H1) (H1:=H1) (h:=s0.heap) (h1:=s0.heap) (h':=h6) (l:=frs X.stack) (B:=B) Un.refl un (fun b o _ z=>z) g1 yr.1 up (fun b hb=>⟨I1.stkFree b hb,(I1.stack.mem hb).2⟩);exact I1.call' (s':={ s1 with heap:=h6 }) (ch:=[]) zj U (lX hok AA.1 yr.1 g2) Aj fun _ z=>nomatch z
   refine wpAny_looks_onW FZ FY AA fun h4 Dy Kx=>?_;refine wpAny_landsW Dy fun h5 AU Ky=>?_;have BU:=Kx.trans Ky;have I5:=inv h5 0 AU BU;obtain ⟨o5,F0,F1⟩:=AU.there;rcases q with ⟨hit,q⟩ | ⟨miss,hit,q⟩
   · refine wpAny_handleBy_cons (RC ?_) (by intro q;cases q);have HU:Inv (X.wish X.xe) pins xZ H' { s1 with heap:=h5 }:=I5;refine PB I5.ok.kind HS (Qw (by rw [I5.ok.glob];exact I5.mod.glob.keeps I5.bk) EH ?_) AE;refine (exm_one (M:=NI X.prog X.w) (h:=h5) I5.kIn (F1 ▸ (Looks.ld F0).andThen .now) hit).here ?_;refine codeAny_handlers_suite ?_;refine lands_againW (s:={ s1 with heap:=h5 }) AU fun h6 yr F2=>?_;have I6:=inv h6 0 yr (BU.trans F2);obtain ⟨oe,vs,zG,Cb,Dz,_⟩:=yr.first
     have Al:H' ea=none:=by
      cases z:H' ea with
      | none=>rfl
      | some u =>
        obtain ⟨o',yJ⟩:=g2 ea u z;rw [yr.2.1] at yJ;cases yJ
     have BV:ea∉frs (X.env::X.outer):=fun z=>by
      obtain ⟨_,o,ho,nf⟩:=yr.2.2.1.mem z;rw [zG] at ho;cases ho;exact nf vs Dz
     rw [lV FY] at BV;have IS:Inv (X.suite ea oe) pins xZ H' { s1 with heap:=h6 }:=I6.suite ⟨zG,Al,fun z=>BV (z ▸ Nj),fun z=>BV (Ng _ z),fun v z=>by rw [Dz] at z;cases z⟩;refine OM (Cm ea oe pins _ _ H' D IS q) (fun f s8 q8=>?_) fun _ _ z=>OF z;cases f with
     | next=>obtain ⟨Aa,H8,J,q⟩:=q8;exact ⟨_,H8,J.unsuite I1.ok.hd,q⟩
     | brk=>obtain ⟨Aa,H8,J,q⟩:=q8;exact ⟨_,H8,J.unsuite I1.ok.hd,q⟩
     | cont=>obtain ⟨Aa,H8,J,q⟩:=q8;exact ⟨_,H8,J.unsuite I1.ok.hd,q⟩
     | ret u=>obtain ⟨v,Aa,H8,J,r,q⟩:=q8;exact ⟨v,_,H8,J.unsuite I1.ok.hd,r,q⟩
   · refine wpAny_handleBy_cons (RC ?_) (by intro q;cases q);have HU:Inv (X.wish X.xe) pins xZ H' { s1 with heap:=h5 }:=I5;refine PB I5.ok.kind HS (Qw (by rw [I5.ok.glob];exact I5.mod.glob.keeps I5.bk) EH ?_) AE;refine (exm_one (M:=NI X.prog X.w) (h:=h5) I5.kIn (F1 ▸ (Looks.ld F0).andThen .now) miss).here ?_;refine wpAny_handleBy_cons (RC ?_) (by intro q;cases q);have HU:Inv (X.wish X.xe) pins xZ H' { s1 with heap:=h5 }:=I5;refine PB I5.ok.kind Kw (Qw (by rw [I5.ok.glob];exact I5.mod.glob.keeps I5.bk) AS ?_) hd2;refine (exm_one (M:=NI X.prog X.w) (h:=h5) I5.kIn (F1 ▸ (Looks.ld F0).andThen .now) hit).here ?_;refine codeAny_handlers_suite ?_;refine lands_againW (s:={ s1 with heap:=h5 }) AU fun h6 yr F2=>?_;have I6:=inv h6 0 yr (BU.trans F2);obtain ⟨oe,vs,zG,Cb,Dz,_⟩:=yr.first
     have Al:H' ea=none:=by
      cases z:H' ea with
      | none=>rfl
      | some u =>
        obtain ⟨o',yJ⟩:=g2 ea u z;rw [yr.2.1] at yJ;cases yJ
     have BV:ea∉frs (X.env::X.outer):=fun z=>by
      obtain ⟨_,o,ho,nf⟩:=yr.2.2.1.mem z;rw [zG] at ho;cases ho;exact nf vs Dz
     rw [lV FY] at BV;have IS:Inv (X.suite ea oe) pins xZ H' { s1 with heap:=h6 }:=I6.suite ⟨zG,Al,fun z=>BV (z ▸ Nj),fun z=>BV (Ng _ z),fun v z=>by rw [Dz] at z;cases z⟩;refine OM (BI ea oe pins _ _ H' D IS q) (fun f s8 q8=>?_) fun _ _ z=>OF z;cases f with
     | next=>obtain ⟨Aa,H8,J,q⟩:=q8;exact ⟨_,H8,J.unsuite I1.ok.hd,q⟩
     | brk=>obtain ⟨Aa,H8,J,q⟩:=q8;exact ⟨_,H8,J.unsuite I1.ok.hd,q⟩
     | cont=>obtain ⟨Aa,H8,J,q⟩:=q8;exact ⟨_,H8,J.unsuite I1.ok.hd,q⟩
     | ret u=>obtain ⟨v,Aa,H8,J,r,q⟩:=q8;exact ⟨v,_,H8,J.unsuite I1.ok.hd,r,q⟩
end L2
namespace L2
open PySem PySem.Spec PySem.Calls PyProof.Rows
theorem fold_any (c:Array Nat):∀ (n:Nat) (a:Array Nat),((Nn n c).foldl (·++·) a).toList=a.toList++(Nn n c.toList).flatten
 | 0,a=>by simp
 | n+1,a=>by
   rw [NS,List.foldl_cons,fold_any c n,NS,NM,OG,Nr]
theorem cb (l:List Nat):∀ n,(Nn n l).flatten.length=l.length * n
 | 0=>by rw [Nat.mul_zero];rfl
 | n+1=>by rw [NS,NM,Na,cb l n,Nat.mul_succ];omega
variable {X:Cx}
def v8:R2:=fun x y H Q=>∃ (z:Nd) (n:Int),x=.str z/\y=.int n/\1<=z.length/\z.length<=1000/\0<=n/\n<=1000/\Q (.str ⟨((Nn n.toNat z.cps.toList).flatten).toArray⟩) H
theorem pB:OpR X (Qk .Mult) v8:=by
 intro pins s σ H x y v u Q I rx ry h;obtain ⟨z,n,rfl,rfl,z1,z2,h1,h2,q⟩:=h;obtain ⟨t,rfl⟩:=rx;obtain ⟨t',rfl⟩:=ry;have yL:Ny=16777216:=Pp;by_cases h0:n<1
 · have hn:n=0:=by omega
   subst hn;exact PySem.P.mul_str_none (by omega) (by omega) ⟨.str Str.empty,H,I.tok _,⟨_,rfl⟩,q⟩
 have hle:z.length * n.toNat<=1000 * 1000:=Qm z2 (by omega)
 have e:(⟨(Nn n.toNat z.cps).foldl (·++·) #[]⟩:Nd)=⟨((Nn n.toNat z.cps.toList).flatten).toArray⟩:=by
  congr 1;apply Array.toList_inj.mp;rw [fold_any];rfl
 refine PySem.P.mul_str ?_ ?_ ?_ ?_
 · rw [decide_eq_false (by omega),decide_eq_false (by omega)];rfl
 · intro _ _
   have:(z.length:Int)<=(2 ^ 63 - 1) / n:=by
    rw [Int.le_ediv_iff_mul_le (by omega)];have:((z.length:Nat):Int) * n=((z.length * n.toNat:Nat):Int):=by push_cast;rw [Qa h1]
    omega
   omega
 · intro _ _;exact decide_eq_false (by omega)
 · rw [if_neg h0];by_cases hn:n=1
   · subst hn;rw [if_pos (by rfl)];refine ⟨.str z,H,I,⟨_,rfl⟩,?_⟩
     have e2:(⟨((Nn (1:Int).toNat z.cps.toList).flatten).toArray⟩:Nd)=z:=by
      show (⟨(z.cps.toList++[]).toArray⟩:Nd)=z;rw [Nz]
     rw [e2] at q;exact q
   · have hz:z.length≠0:=by omega
     rw [if_neg (by simp;omega)];rw [e];refine ⟨?_,⟨.str _,H,I.tok _,⟨_,rfl⟩,q⟩⟩;show ((Nn n.toNat z.cps.toList).flatten).toArray.size<=Ny;rw [M9,cb,Nm];show z.length * n.toNat<=Ny;omega
end L2
namespace BB
open PySem L2
def n9 (x:Th×Int):Top:=match x.1 with
 | .knot n _=>.nm n x.2.toNat
 | .call s k=>.th (.call s k)
theorem mO:∀ (t:Th),n9 (fM t)=cI Th.call t
 | .knot n ks=>by show Top.nm n (((ks.length:Nat):Int)).toNat=_;rw [NW];rfl
 | .call s k=>rfl
theorem sE {t u:Th} (ht:t.tall<=101) (hu:u.tall<=101) (h:t.stP.map (·.2)=u.stP.map (·.2)):t=u:=by
 obtain ⟨F,h1,h2⟩:=cj ht;obtain ⟨G,h3,h4⟩:=cj hu;rw [h,h3] at h1;have:=Nh h1;subst this;rw [h2] at h4;have h5:=congrArg (List.map n9) h4;rw [O4,O4,show (n9 ∘ fM)=cI Th.call from funext mO] at h5;obtain ⟨b1,_⟩:=gU Th.call t;obtain ⟨b2,_⟩:=gU Th.call u;rw [h5,b2,BB.fH,BB.fH] at b1;exact (N4 b1).1.symm
def chP (o:Nd) (m:Nat):List Stp:=(Nn m [Stp.th (.knot o []),.sg lpar]).flatten
def chS (o:Nd) (m:Nat) (x:Stp) (k:Nat):List Stp:=chP o m++x::Nn k (.sg rpar)
def chW (o:Nd) (m:Nat) (ow:List Nd) (k:Nat):List Nd:=(Nn m [o,lpar]).flatten++(ow++Nn k rpar)
def chC (o:List Nat) (m:Nat) (oc:List Nat) (k:Nat):List Nat:=(Nn m (o++[40])).flatten++(oc++Nn k 41)
def chT (o:Nd) (x:Th):Nat->Th
 | 0=>x
 | m+1=>.knot o [chT o x m]
theorem ig (o:Nd) (m:Nat):chP o (m+1)=.th (.knot o [])::.sg lpar::chP o m:=by
 unfold chP;rw [NS,NM];rfl
theorem mG (o:Nd) (x:Th):∀ m,(chT o x m).stP.map (·.2)=chP o m++(x.stP.map (·.2)++Nn m (.sg rpar))
 | 0=>by
   show x.stP.map (·.2)=[]++(x.stP.map (·.2)++[]);rw [NK,Nz]
 | m+1=>by
   rw [chT,Th.stP,if_neg (by simp),eG,if_pos rfl,Nz,ig,List.replicate_succ'];simp only [Ni,Nw,OC,mG o x m,Nr,NG]
theorem gE (o:Nd) (x:Th) (hx:x.tall=1):∀ m,(chT o x m).tall=m+1
 | 0=>hx
 | m+1=>by
   rw [chT,Th.tall,br,br,gE o x hx m];omega
theorem qd (o:Nd) (m:Nat) (x:Stp) (k:Nat):((chS o m x k).map stW).flatten=chW o m (stW x) k:=by
 unfold chS chW;rw [Nw,QM,Ni,NM];congr 1
 · induction m with
   | zero=>rfl
   | succ m ih =>
     rw [ig,NS,NM,<- ih];rfl
 · congr 1;induction k with
   | zero=>rfl
   | succ k ih =>
     rw [NS,Ni,NM,ih,NS];rfl
theorem vb {o:Nd} (ho:aw o=true) (m:Nat) {x:Stp} (hx:SOk x) (k:Nat):∀ y∈chS o m x k,SOk y:=by
 intro y hy;unfold chS at hy;rcases NF.mp hy with hy | hy
 · unfold chP at hy;obtain ⟨l,hl,hy⟩:=List.mem_flatten.mp hy;rw [(PN.mp hl).2] at hy;rcases Nb.mp hy with rfl | hy
   · exact ⟨rfl,ho⟩
   · rw [Nc.mp hy];exact .inl rfl
 · rcases Nb.mp hy with rfl | hy
   · exact hx
   · rw [(PN.mp hy).2];exact .inr (.inr rfl)
theorem rm {o:Nd} (ho:aw o=true) (m:Nat) {x:Stp} (hx:SOk x) (k:Nat):d7 (chW o m (stW x) k)=some (chS o m x k) :=
 dj.mpr ⟨qd o m x k,vb ho m hx k⟩
theorem pS {o a b:Nd} (ha:¬ kg a) (HV:aw a=false) (Az:eE [a,dot,b]=none) (k:Nat):∀ (m n:Nat),aX n (chW o m [a,dot,b] k)=none
 | 0,n=>by
   show aX n (a::([dot,b]++Nn k rpar))=none;cases n with
   | zero=>rfl
   | succ n =>
     rw [aX,if_neg ha,if_neg (by rw [HV];decide)];have:(a::([dot,b]++Nn k rpar)).take 3=[a,dot,b]:=rfl;rw [this,Az];rfl
 | m+1,n=>by
   have e:chW o (m+1) [a,dot,b] k=o::lpar::chW o m [a,dot,b] k:=by
    unfold chW;rw [NS,NM];rfl
   rw [e]
   have h1:∀ n,aX n (lpar::chW o m [a,dot,b] k)=none:=fun n=>by
    cases n with
    | zero=>rfl
    | succ n =>
      rw [aX,if_pos (show kg lpar from .inl rfl),pS ha HV Az k m n];rfl
   cases n with
   | zero=>rfl
   | succ n =>
     rw [aX];split
     · rw [h1];rfl
     · split
       · rw [h1];rfl
       · cases hc:eE ((o::lpar::chW o m [a,dot,b] k).take 3) with
         | none=>rfl
         | some x =>
           exfalso;obtain ⟨s,t,rfl,_,hw⟩:=ec.mp hc;have h2:=congrArg (fun l=>l[1]?) hw
           have h3:some lpar=some dot:=by
            have:((o::lpar::chW o m [a,dot,b] k).take 3)[1]?=some lpar:=rfl;exact this.symm.trans h2
           revert h3;decide +kernel
theorem lP {o:Nd}:∀ (m:Nat) (S:PSt) (rest:List Stp),ended S.bef=false->S.win.length+m<=100->∃ S',S'.win.length=S.win.length+m/\ended S'.bef=false/\prun S (chP o m++rest)=prun S' rest
 | 0,S,rest,hb,_=>⟨S,rfl,hb,rfl⟩
 | m+1,S,rest,hb,h=>by
   have h1:aO S (.th (.knot o []))=some ⟨S.tops++[(.knot o [],0)],S.win,.th (.knot o [])⟩:=by rw [aO,if_pos hb]
   have h2:∃ S2:PSt,aO ⟨S.tops++[(.knot o [],0)],S.win,.th (.knot o [])⟩ (.sg lpar)=some S2/\S2.win.length=S.win.length+1/\S2.bef=.sg lpar:=by
    rw [aO,if_pos rfl,if_pos ⟨rfl,(by show S.win.length<100;omega),by simp⟩];exact ⟨_,rfl,by rw [Na];rfl,rfl⟩
   obtain ⟨S2,h3,h4,h5⟩:=h2;obtain ⟨S',g1,g2,g3⟩:=lP m S2 rest (by rw [h5];exact gy) (by omega);refine ⟨S',by omega,g2,?_⟩;rw [ig,NG,NG,bQ h1,bQ h3,g3]
theorem sW {o:Nd} (m:Nat) (rest:List Stp) (h:100<m):prun ⟨[],[],.sg comma⟩ (chP o m++rest)=none:=by
 have e:chP o m=chP o 100++(.th (.knot o [])::.sg lpar::chP o (m - 101)):=by
  rw [<- ig];unfold chP;rw [<- QM,List.replicate_append_replicate,show 100+(m - 101+1)=m by omega]
 rw [e,Nr];obtain ⟨S',g1,g2,g3⟩:=lP (o:=o) 100 ⟨[],[],.sg comma⟩ (.th (.knot o [])::.sg lpar::(chP o (m - 101)++rest)) bN (M8 _);have g1:S'.win.length=0+100:=g1;show prun _ (chP o 100++(.th (.knot o [])::.sg lpar::(chP o (m - 101)++rest)))=none;rw [g3,prun,aO,if_pos g2];show (prun ⟨S'.tops++[(.knot o [],0)],S'.win,.th (.knot o [])⟩ (.sg lpar::(chP o (m - 101)++rest)))=none;rw [prun,aO,if_pos rfl,if_neg (fun z=>by have h3:S'.win.length<100:=z.2.1;omega)];rfl
theorem nj:∀ (k:Nat) (S F:PSt),ended S.bef=true->prun S (Nn k (.sg rpar))=some F->F.win.length+k=S.win.length
 | 0,S,F,_,h=>by cases h;rfl
 | k+1,S,F,hb,h=>by
   rw [NS] at h;obtain ⟨S',h1,h2⟩:=b6 h;obtain ⟨_,hw,hd,ya⟩:=gQ h1;have:=nj k S' F (by rw [ya];exact dX) h2;have hp:=OE.mpr hw;rw [hd,List.length_dropLast] at this;omega
theorem uK {o:Nd} {m k:Nat} {t:Th} (h:100<m∨k≠m):eQ (chS o m (.th t) k)=none:=by
 unfold eQ chS;by_cases hm:100<m
 · rw [sW m _ hm];rfl
 · obtain ⟨S',g1,g2,g3⟩:=lP (o:=o) m ⟨[],[],.sg comma⟩ (.th t::Nn k (.sg rpar)) bN (by show 0+m<=100;omega);have g1:S'.win.length=0+m:=g1;rw [g3];cases hF:prun S' (.th t::Nn k (.sg rpar)) with
   | none=>rfl
   | some F =>
     obtain ⟨S2,h1,h2⟩:=b6 hF;obtain ⟨_,rfl⟩:=eV h1;have h3:=nj k _ F rfl h2;have h3:F.win.length+k=S'.win.length:=h3;refine if_neg fun z=>?_;rw [z.1] at h3;have h3:0+k=S'.win.length:=h3;omega
theorem o4 {o:Nd} (ho:aw o=true) {m k:Nat} {x:Th} (hx:SOk (.th x)) (Am:x.tall=1) (hs:x.stP.map (·.2)=[.th x]):∀ t,cB (chW o m (stW (.th x)) k) t↔(m<=100/\k=m/\t=chT o x m):=by
 intro t;have xF:=rm ho m hx k;constructor
 · rintro ⟨h1,h2⟩;rw [xF] at h1;have h1:=Nh h1;obtain ⟨F,hF,_⟩:=cj h2;rw [<- h1] at hF
   have F3:m<=100/\k=m:=by
    by_cases hb:100<m∨k≠m
    · rw [uK hb] at hF;cases hF
    · omega
   refine ⟨F3.1,F3.2,?_⟩
   have h3:(chT o x m).stP.map (·.2)=t.stP.map (·.2):=by
    rw [mG,hs,<- h1,F3.2];rfl
   exact (sE (by rw [gE o x Am];omega) h2 h3).symm
 · rintro ⟨h1,rfl,rfl⟩;refine ⟨?_,by rw [gE o x Am];omega⟩;rw [xF,mG,hs];rfl
theorem rJ:∀ k,scW [] ((Nn k 41).flatMap sp4)=(Nn k rpar).map sL
 | 0=>rfl
 | k+1=>by
   rw [NS,cR _ _ (.inr (.inl rfl)),rJ k,NS,Ni,l8];rfl
theorem uG (k:Nat):Nx (Nn k 41):=by
 cases k with
 | zero=>exact .inl rfl
 | succ k=>exact .inr ⟨41,Nn k 41,by rw [NS],.inr (.inl rfl)⟩
def Tells (oc:List Nat) (ow:List Nd):Prop:=∀ l,Nx l->scW [] ((oc++l).flatMap sp4)=ow.map sL++scW [] (l.flatMap sp4)
theorem gx {w:Nd} (h:∀ c∈sL w,47<=c) (xu:sL w≠[]):Tells (sL w) [w]:=fun l hl=>by
 have Bm:∀ c∈sL w,c≠32:=fun c hc=>by have:=h c hc;omega
 rw [P9,eR h,fG _ _ _ Bm,NK,oO xu hl];rfl
theorem j9 {a b:Nd} (ha:∀ c∈sL a,47<=c) (Kz:sL a≠[]) (hb:∀ c∈sL b,47<=c) (KA:sL b≠[]):Tells (sL a++46::sL b) [a,dot,b]:=fun l hl=>by
 have Bm:∀ c∈sL a,c≠32:=fun c hc=>by have:=ha c hc;omega
 have he:em (sL a)=[sL a]:=by unfold em;rw [if_neg Kz]
 rw [Nr,NG,P9,eR ha,fG _ _ _ Bm,NK,cR _ _ (.inr (.inr (.inr rfl))),he,gx hb KA l hl];show _=[sL a,sL dot,sL b]++_;rw [rE];rfl
theorem ub {o:Nd} (ho:∀ c∈sL o,47<=c) (Cs:sL o≠[]) {oc:List Nat} {ow:List Nd} (h:Tells oc ow) (k:Nat):∀ m,scW [] ((chC (sL o) m oc k).flatMap sp4)=(chW o m ow k).map sL
 | 0=>by
   show scW [] ((oc++Nn k 41).flatMap sp4)=(ow++Nn k rpar).map sL;rw [h _ (uG k),rJ,Nw]
 | m+1=>by
   have e:chC (sL o) (m+1) oc k=sL o++40::chC (sL o) m oc k:=by
    unfold chC;rw [NS,NM];simp only [Nr,NG,NK]
   have e2:chW o (m+1) ow k=o::lpar::chW o m ow k:=by
    unfold chW;rw [NS,NM];rfl
   have Bm:∀ c∈sL o,c≠32:=fun c hc=>by have:=ho c hc;omega
   have he:em (sL o)=[sL o]:=by unfold em;rw [if_neg Cs]
   rw [e,e2,P9,eR ho,fG _ _ _ Bm,NK,cR _ _ (.inl rfl),he,ub ho Cs h k m,Ni,Ni,mC];rfl
theorem vY {o:Nd} (ho:∀ c∈sL o,47<=c) (Cs:sL o≠[]) {oc:List Nat} {ow:List Nd} (h:Tells oc ow) (m k:Nat):W4 (chC (sL o) m oc k)=(chW o m ow k).map sL:=by
 rw [t7];exact ub ho Cs h k m
def btT (two:Nd):Nat->Nat->Th
 | 0,_=>.call 0 0
 | f+1,n=>if n<=1 then .call 0 0 else .knot two [btT two f (n / 2),btT two f (n - n / 2)]
end BB
namespace L2
open PySem PySem.Spec PySem.Calls PyProof.Rows BB
abbrev cSt (z:Nd×Nat×Qy):Od:=.Constant (.str z.1) z.2.1 z.2.2
abbrev cIt (z:Int×Nat×Qy):Od:=.Constant (.int z.1) z.2.1 z.2.2
def tE (zs:List Int):TA:=fun _ H Q=>Q (zs.map V.int) H
theorem rp {X:Cx}:∀ (zs:List (Int×Nat×Qy)),PA X (zs.map cIt) (tE (zs.map (·.1)))
 | []=>@ae X
 | z::zs=>by
   have h:PA X (cIt z::zs.map cIt) (cz (tC (.int z.1)) (tE (zs.map (·.1)))):=@aa X _ _ _ _ (@ag X _ _ _) (rp zs) rfl;exact h
theorem jS {X:Cx} {i:Nat} {x:Nd} {p0 p1 p2 p3:Qy} {e:Od} {te:TE} (zs:List (Nd×Nat×Qy)) (hN:X.N.Nodup) (hi:X.N[i]?=some x) (hx:Loc X.env.scope x) (hf:X.fn x=true∨X.env.scope.names.lookup x=some .local) (he:PE X e te) (hs:l6 e) :
 PS X (.Assign [.Name x p0] (.Subscript (.List (zs.map cSt) p1) e p2) p3) (nS (tOp (nP X.K) (qR (pE (zs.map (·.1)))) te) (aE i)):=av hN hi hx (aI aJ (@bc X _ _ _ (pq zs)) he hs) rfl hf
theorem ll {X:Cx} {i:Nat} {x:Nd} {p0 p1 p2 p3:Qy} {e:Od} {te:TE} (zs:List (Int×Nat×Qy)) (hN:X.N.Nodup) (hi:X.N[i]?=some x) (hx:Loc X.env.scope x) (hf:X.fn x=true∨X.env.scope.names.lookup x=some .local) (he:PE X e te) (hs:l6 e) :
 PS X (.Assign [.Name x p0] (.Subscript (.List (zs.map cIt) p1) e p2) p3) (nS (tOp (nP X.K) (qR (tE (zs.map (·.1)))) te) (aE i)):=av hN hi hx (aI aJ (@bc X _ _ _ (rp zs)) he hs) rfl hf
theorem gX {K:MY} {te:TE} {zs:List Nd} {σ:St} {H:Hp} {Q:VK} (hl:zs.length<=1000) (q:∀ (D:M5) (H1:Hp),L2.Same H H1->H1 D=some (.lst (zs.map V.str))->te σ H1 fun y H2=>nP K (.ref D) y H2 Q):tOp (nP K) (qR (pE zs)) te σ H Q :=
 ⟨ai (by rw [MX];omega),fun p hp=>q p _ (aj hp _) ac⟩
theorem ja {K:MY} {te:TE} {zs:List Int} {σ:St} {H:Hp} {Q:VK} (hl:zs.length<=1000) (q:∀ (D:M5) (H1:Hp),L2.Same H H1->H1 D=some (.lst (zs.map V.int))->te σ H1 fun y H2=>nP K (.ref D) y H2 Q):tOp (nP K) (qR (tE zs)) te σ H Q :=
 ⟨ai (by rw [MX];omega),fun p hp=>q p _ (aj hp _) ac⟩
end L2
namespace LAW
open PySem L2 BB
def top (i:Nat):OP:=PySem.Challenge.pw_boughbook_k34_brackets_and_figures.main.body.getD i (.Pass ⟨0,0,0,0⟩)
theorem scm {N P:List Nd} {sc:Qq} (a:sc.kind=.function:=by rfl) (b:sc.isCoroutine=false:=by rfl) (c:sc.isGenerator=false:=by rfl) (d:N.Nodup:=by decide +kernel) (e:N.take P.length=P:=by rfl) (f:∀ x∈P,sc.names.lookup x=some .local∨sc.names.lookup x=some .cell:=by decide +kernel) (g:∀ y∈sc.names,y.2≠.free:=by decide +kernel):au N P sc:=⟨a,b,c,d,e,f,g⟩
abbrev eT:OP:=top 10
theorem mi:au ["thing"] ["thing"] (am eT):=scm
abbrev f7:OP:=top 11
theorem nM:au ["number","bound"] ["number","bound"] (am f7):=scm
abbrev iI:OP:=top 12
theorem nX:au ["thing"] ["thing"] (am iI):=scm
abbrev iK:OP:=top 13
theorem o3:au ["pair"] ["pair"] (am iK):=scm
abbrev e7:OP:=top 14
theorem g9:au ["kinds","names"] ["kinds"] (am e7):=scm
abbrev gf:OP:=top 15
theorem iZ:au ["pairs","kinds"] ["pairs"] (am gf):=scm
abbrev iz:OP:=top 16
theorem gu:au ["kinds","name","kind","many"] ["kinds","name"] (am iz):=scm
abbrev iC:OP:=top 17
theorem pf:au ["thing"] ["thing"] (am iC):=scm
abbrev kz:OP:=top 18
theorem fu:au ["thing","met","ahead","part"] ["thing"] (am kz):=scm
abbrev mn:OP:=top 19
theorem gZ:au ["tops","done","top","many"] ["tops"] (am mn):=scm
abbrev iJ:OP:=top 21
theorem oH:au ["thing"] ["thing"] (am iJ):=scm
abbrev cZ:OP:=top 22
theorem ej:au ["kinds","pattern","states","kids","part"] ["kinds","pattern","states","kids"] (am cZ):=scm
abbrev bC:OP:=inClass (top 28) 0
theorem jg:au ["self"] ["self"] (am bC):=scm
abbrev bo:OP:=inClass (top 28) 1
theorem iO:au ["self","part","row"] ["self","part","row"] (am bo):=scm
abbrev gv:OP:=top 29
theorem cE:au ["pattern","measure","ahead","part","row"] ["pattern"] (am gv):=scm
abbrev cH:OP:=top 30
theorem iH:au ["outs","pattern","states","kids"] ["outs","pattern","states","kids"] (am cH):=scm
abbrev dF:OP:=top 31
theorem cW:au ["ins","outs","patterns","states","kind","pattern"] ["ins","outs","patterns","states"] (am dF):=scm
abbrev eH:OP:=top 32
theorem b9:au ["ins","outs","head","rules","taken","given","rows","patterns"] ["ins","outs","head","rules"] (am eH):=scm
abbrev gh:OP:=top 34
theorem eW:au ["text","spread","sign"] ["text"] (am gh):=scm
abbrev dC:OP:=top 38
theorem eY:au ["word","figures"] ["word"] (am dC):=scm
abbrev eI:OP:=top 39
theorem ma:au ["words"] ["words"] (am eI):=scm
abbrev gn:OP:=top 40
theorem b7:au ["words","steps","at"] ["words"] (am gn):=scm
abbrev iT:OP:=top 41
theorem kE:au ["before","step","depth","ended"] ["before","step","depth"] (am iT):=scm
abbrev iE:OP:=top 42
theorem cm:au ["steps","tops","within","before","step"] ["steps"] (am iE):=scm
abbrev cY:OP:=top 43
theorem eB:au ["words","text"] ["words"] (am cY):=scm
abbrev fm:OP:=top 44
theorem cM:au ["word","name","slash","many"] ["word"] (am fm):=scm
abbrev ee:OP:=top 45
theorem kU:au ["first","words"] ["first","words"] (am ee):=scm
abbrev e9:OP:=top 46
theorem lZ:au ["words"] ["words"] (am e9):=scm
abbrev eM:OP:=top 47
theorem lN:au ["state","name","words"] ["state","name","words"] (am eM):=scm
abbrev d6:OP:=top 48
theorem bJ:au ["ins","rows","rules","number","words","state","at"] ["ins","rows"] (am d6):=scm
abbrev gc:OP:=top 49
theorem na:au ["row"] ["row"] (am gc):=scm
abbrev fe:OP:=top 50
theorem ca:au ["text","rows","ins","outs","head"] ["text"] (am fe):=scm
abbrev fq:OP:=top 52
theorem aV:au ["base","n","letters","word","rest","k","size","at","step"] ["base","n"] (am fq):=scm
abbrev fk:OP:=top 53
theorem cN:au ["text","found"] ["text"] (am fk):=scm
abbrev eJ:OP:=top 54
theorem eg:au ["cell","left","right"] ["cell"] (am eJ):=scm
abbrev bY:OP:=top 55
theorem bS:au ["leaf","many","rows","state"] ["leaf","many"] (am bY):=scm
abbrev dZ:OP:=top 56
theorem kX:au ["two","many"] ["two","many"] (am dZ):=scm
abbrev ce:OP:=top 57
theorem de:au ["leaf","two","many","rows"] ["leaf","two","many"] (am ce):=scm
abbrev cg:OP:=top 58
theorem gY:au ["word"] ["word"] (am cg):=scm
abbrev hX:OP:=top 59
theorem bz:au ["script","cell","leaf","one","many","call","over","pattern","good","rows","at","due","way"] ["script"] (am hX):=scm
structure FX (K:MY) (mg:Nd->Option M1) (n:Nd) (s:OP) (ps:List Nd) where
 f:M5
 d:Pl
 F:Fun K n n s f d
 b:Binds K d ps []
 m:mg n=some (.ref f)
section
open PySem.W
variable {K:Frag} {mg:Nd->Option M1} {h:Oo} {n:Nd} {st:OP} {f:M5} {oc kV dc pm cd ct:M1} {od an:Option M5} {sl:Array (Option M1)} (X:K.In h) (G:h.Ns NA mg)
noncomputable def fx1 {p0:Nd} (a:nsIn K NA n=some (some (.ref f)):=by k_is) (l:K.lookup f=some ⟨oc,od,.func (fnOf n n (bA st) (bj st) (am st) .none kV dc pm an cd ct),sl⟩:=by k_is) (c:codeIn K cd n=true:=by k_is) (k:keepIn K (.ref f)=true:=by k_is) (hb:∀ (kV dc pm:M1) (an:Option M5) (cd ct u0:M1),bindArgs (fnOf n n (bA st) (bj st) (am st) .none kV dc pm an cd ct) ⟨[u0],[]⟩=pure [(p0,u0)]:=by intros;rfl):FX K mg n st [p0] :=
 ⟨f,_,cX l c k,(cX l c k).binds fun a b c d e f us hl=>by obtain ⟨u0,rfl⟩:=us1 hl;exact hb a b c d e f u0,mg_of X G a⟩
noncomputable def fx2 {p0 p1:Nd} (a:nsIn K NA n=some (some (.ref f)):=by k_is) (l:K.lookup f=some ⟨oc,od,.func (fnOf n n (bA st) (bj st) (am st) .none kV dc pm an cd ct),sl⟩:=by k_is) (c:codeIn K cd n=true:=by k_is) (k:keepIn K (.ref f)=true:=by k_is) (hb:∀ (kV dc pm:M1) (an:Option M5) (cd ct u0 u1:M1),bindArgs (fnOf n n (bA st) (bj st) (am st) .none kV dc pm an cd ct) ⟨[u0,u1],[]⟩=pure [(p0,u0),(p1,u1)]:=by intros;rfl):FX K mg n st [p0,p1] :=
 ⟨f,_,cX l c k,(cX l c k).binds fun a b c d e f us hl=>by obtain ⟨u0,u1,rfl⟩:=us2 hl;exact hb a b c d e f u0 u1,mg_of X G a⟩
noncomputable def fx3 {p0 p1 p2:Nd} (a:nsIn K NA n=some (some (.ref f)):=by k_is) (l:K.lookup f=some ⟨oc,od,.func (fnOf n n (bA st) (bj st) (am st) .none kV dc pm an cd ct),sl⟩:=by k_is) (c:codeIn K cd n=true:=by k_is) (k:keepIn K (.ref f)=true:=by k_is) (hb:∀ (kV dc pm:M1) (an:Option M5) (cd ct u0 u1 u2:M1),bindArgs (fnOf n n (bA st) (bj st) (am st) .none kV dc pm an cd ct) ⟨[u0,u1,u2],[]⟩=pure [(p0,u0),(p1,u1),(p2,u2)]:=by intros;rfl):FX K mg n st [p0,p1,p2] :=
 ⟨f,_,cX l c k,(cX l c k).binds fun a b c d e f us hl=>by obtain ⟨u0,u1,u2,rfl⟩:=us3 hl;exact hb a b c d e f u0 u1 u2,mg_of X G a⟩
noncomputable def fx4 {p0 p1 p2 p3:Nd} (a:nsIn K NA n=some (some (.ref f)):=by k_is) (l:K.lookup f=some ⟨oc,od,.func (fnOf n n (bA st) (bj st) (am st) .none kV dc pm an cd ct),sl⟩:=by k_is) (c:codeIn K cd n=true:=by k_is) (k:keepIn K (.ref f)=true:=by k_is) (hb:∀ (kV dc pm:M1) (an:Option M5) (cd ct u0 u1 u2 u3:M1),bindArgs (fnOf n n (bA st) (bj st) (am st) .none kV dc pm an cd ct) ⟨[u0,u1,u2,u3],[]⟩=pure [(p0,u0),(p1,u1),(p2,u2),(p3,u3)]:=by intros;rfl):FX K mg n st [p0,p1,p2,p3] :=
 ⟨f,_,cX l c k,(cX l c k).binds fun a b c d e f us hl=>by obtain ⟨u0,u1,u2,u3,rfl⟩:=us4 hl;exact hb a b c d e f u0 u1 u2 u3,mg_of X G a⟩
end
theorem pcF {X:Cx} {kk k:Nat} {sp:Sp} {n:Nd} {st:OP} {ps:List Nd} {e:Od} {es:List Od} {t:TA} {p pos:Qy} (g:FX X.K X.mg n st ps) (F:FnOk X.prog X.w X.K X.mg X.base CX0 k g.f g.d ps sp) (hr:Room kk X.A) (ha:PA X (e::es) t) (hle:k<=kk:=by first | decide | omega) (hg:Gl X n:=by rfl) (zV:(n == ("__debug__":Nd))=false:=by decide) (he:NV (e::es) X.env=(false,Pn e X.env)::NV es X.env:=by rfl) (yk:(QG pos (NV es X.env)).any (·.1)=false:=by rfl):PE X (.Call (.Name n p) (e::es) [] pos) (nH sp [] E0 t) :=
 aY F (hr.mono hle) hg g.m g.F.kp g.b .nil nk ha zV he yk
structure TX (K:MY) (mg:Nd->Option M1) where
 c_CALL_SIGN:∃ tk,mg "CALL_SIGN"=some (.str (MW "?") tk)
 c_MOST_LETTERS:∃ tk,mg "MOST_LETTERS"=some (.int (8) tk)
 c_MOST_KINDS:∃ tk,mg "MOST_KINDS"=some (.int (8) tk)
 c_MOST_KIDS:∃ tk,mg "MOST_KIDS"=some (.int (3) tk)
 c_MOST_STATES:∃ tk,mg "MOST_STATES"=some (.int (20) tk)
 c_MOST_ROWS:∃ tk,mg "MOST_ROWS"=some (.int (20) tk)
 c_MOST_KNOTS:∃ tk,mg "MOST_KNOTS"=some (.int (400) tk)
 c_MOST_CALLS:∃ tk,mg "MOST_CALLS"=some (.int (200) tk)
 c_MOST_FIGURES:∃ tk,mg "MOST_FIGURES"=some (.int (3) tk)
 c_MOST_BRACKETS:∃ tk,mg "MOST_BRACKETS"=some (.int (100) tk)
 e_BookError:M5
 x_BookError:mg "BookError"=some (.ref e_BookError)
 e_NoKinds:M5
 x_NoKinds:mg "NoKinds"=some (.ref e_NoKinds)
 e_NoBook:M5
 x_NoBook:mg "NoBook"=some (.ref e_NoBook)
 e_NoText:M5
 x_NoText:mg "NoText"=some (.ref e_NoText)
 xe_NoKinds:QD K e_NoKinds [.type "ValueError",.type "Exception",.type "BaseException",.type "object"] "ValueError.__new__"=true
 xg_NoKinds:ND K (.ref e_NoKinds) "__getattribute__"=some (some (.builtin "BaseException.__getattribute__"))
 xh_NoKinds:ND K (.ref e_NoKinds) "__getattr__"=some none
 xc_NoKinds:ND K (.ref e_NoKinds) "__class__"=some (some (.builtin "object.__class__"))
 xo_NoKinds:OK K e_NoKinds (.type "object")=some true
 xb_NoKinds:OK K e_NoKinds (.type "BaseException")=some true
 hit_NoKinds_NoText:OL K (.ref e_NoKinds) (.ref e_NoText)=some false
 hit_NoKinds_NoBook:OL K (.ref e_NoKinds) (.ref e_NoBook)=some false
 xe_NoBook:QD K e_NoBook [.type "ValueError",.type "Exception",.type "BaseException",.type "object"] "ValueError.__new__"=true
 xg_NoBook:ND K (.ref e_NoBook) "__getattribute__"=some (some (.builtin "BaseException.__getattribute__"))
 xh_NoBook:ND K (.ref e_NoBook) "__getattr__"=some none
 xc_NoBook:ND K (.ref e_NoBook) "__class__"=some (some (.builtin "object.__class__"))
 xo_NoBook:OK K e_NoBook (.type "object")=some true
 xb_NoBook:OK K e_NoBook (.type "BaseException")=some true
 hit_NoBook_NoText:OL K (.ref e_NoBook) (.ref e_NoText)=some false
 hit_NoBook_NoBook:OL K (.ref e_NoBook) (.ref e_NoBook)=some true
 xe_NoText:QD K e_NoText [.type "ValueError",.type "Exception",.type "BaseException",.type "object"] "ValueError.__new__"=true
 xg_NoText:ND K (.ref e_NoText) "__getattribute__"=some (some (.builtin "BaseException.__getattribute__"))
 xh_NoText:ND K (.ref e_NoText) "__getattr__"=some none
 xc_NoText:ND K (.ref e_NoText) "__class__"=some (some (.builtin "object.__class__"))
 xo_NoText:OK K e_NoText (.type "object")=some true
 xb_NoText:OK K e_NoText (.type "BaseException")=some true
 hit_NoText_NoText:OL K (.ref e_NoText) (.ref e_NoText)=some true
 hit_NoText_NoBook:OL K (.ref e_NoText) (.ref e_NoBook)=some false
 g_is_number:FX K mg "is_number" eT ["thing"]
 g_is_below:FX K mg "is_below" f7 ["number","bound"]
 g_is_name:FX K mg "is_name" iI ["thing"]
 g_is_kind:FX K mg "is_kind" iK ["pair"]
 g_are_kinds:FX K mg "are_kinds" e7 ["kinds"]
 g_kinds_of:FX K mg "kinds_of" gf ["pairs"]
 g_many_of:FX K mg "many_of" iz ["kinds","name"]
 g_kids_of:FX K mg "kids_of" iC ["thing"]
 g_walked:FX K mg "walked" kz ["thing"]
 g_built:FX K mg "built" mn ["tops"]
 g_is_call:FX K mg "is_call" iJ ["thing"]
 g_fits_pattern:FX K mg "fits_pattern" cZ ["kinds","pattern","states","kids"]
 f_Measure_init:M5
 d_Measure_init:Pl
 F_Measure_init:Fun K "__init__" "Measure.__init__" bC f_Measure_init d_Measure_init
 b_Measure_init:Binds K d_Measure_init ["self"] []
 f_Measure_takes:M5
 d_Measure_takes:Pl
 F_Measure_takes:Fun K "takes" "Measure.takes" bo f_Measure_takes d_Measure_takes
 b_Measure_takes:Binds K d_Measure_takes ["self","part","row"] []
 g_is_small:FX K mg "is_small" gv ["pattern"]
 g_check_pattern:FX K mg "check_pattern" cH ["outs","pattern","states","kids"]
 g_check_state:FX K mg "check_state" dF ["ins","outs","patterns","states"]
 g_made_book:FX K mg "made_book" eH ["ins","outs","head","rules"]
 g_words_of:FX K mg "words_of" gh ["text"]
 g_read_number:FX K mg "read_number" dC ["word"]
 g_read_call:FX K mg "read_call" eI ["words"]
 g_steps_of:FX K mg "steps_of" gn ["words"]
 g_follows:FX K mg "follows" iT ["before","step","depth"]
 g_tops_of:FX K mg "tops_of" iE ["steps"]
 g_read_pattern:FX K mg "read_pattern" cY ["words"]
 g_read_kind:FX K mg "read_kind" fm ["word"]
 g_read_kinds:FX K mg "read_kinds" ee ["first","words"]
 g_read_head:FX K mg "read_head" e9 ["words"]
 g_read_rule:FX K mg "read_rule" eM ["state","name","words"]
 g_read_rules:FX K mg "read_rules" d6 ["ins","rows"]
 g_words_in:FX K mg "words_in" gc ["row"]
 g_read_book:FX K mg "read_book" fe ["text"]
 g__law_name:FX K mg "_law_name" fq ["base","n"]
 g__law_told:FX K mg "_law_told" fk ["text"]
 g__law_call:FX K mg "_law_call" eJ ["cell"]
 g__law_states_told:FX K mg "_law_states_told" bY ["leaf","many"]
 g__law_calls:FX K mg "_law_calls" dZ ["two","many"]
 g__law_calls_told:FX K mg "_law_calls_told" ce ["leaf","two","many"]
 g__law_word_good:FX K mg "_law_word_good" cg ["word"]
 g_law:FX K mg "law" hX ["script"]
 e_Measure:M5
 x_Measure:mg "Measure"=some (.ref e_Measure)
 cl_Measure:Cls K e_Measure
 mk_Measure:Mk K e_Measure f_Measure_init
 na_Measure_met_knots:NoAttr K e_Measure "met_knots"
 na_Measure_met_calls:NoAttr K e_Measure "met_calls"
 me_Measure_takes:Meth K e_Measure "takes" f_Measure_takes
 n_all:mg "all"=none
 n_bool:mg "bool"=none
 n_divmod:mg "divmod"=none
 n_enumerate:mg "enumerate"=none
 n_int:mg "int"=none
 n_isinstance:mg "isinstance"=none
 n_len:mg "len"=none
 n_range:mg "range"=none
 n_reversed:mg "reversed"=none
 n_set:mg "set"=none
 n_str:mg "str"=none
 n_tuple:mg "tuple"=none
 n_zip:mg "zip"=none
theorem TX.X_NoKinds {K:MY} {mg:Nd->Option M1} (T:TX K mg):rB K T.e_NoKinds:=⟨T.xe_NoKinds,T.xg_NoKinds,T.xh_NoKinds,T.xc_NoKinds,T.xo_NoKinds,T.xb_NoKinds⟩
theorem TX.X_NoBook {K:MY} {mg:Nd->Option M1} (T:TX K mg):rB K T.e_NoBook:=⟨T.xe_NoBook,T.xg_NoBook,T.xh_NoBook,T.xc_NoBook,T.xo_NoBook,T.xb_NoBook⟩
theorem TX.X_NoText {K:MY} {mg:Nd->Option M1} (T:TX K mg):rB K T.e_NoText:=⟨T.xe_NoText,T.xg_NoText,T.xh_NoText,T.xc_NoText,T.xo_NoText,T.xb_NoText⟩
theorem wH:([MW "kid",MW "row"]:List Nd).Nodup:=by decide +kernel
theorem vN:([MW "sign"]:List Nd).Nodup:=by decide +kernel
theorem t4:([MW "pair"]:List Nd).Nodup:=by decide +kernel
theorem wz:([MW "patterns"]:List Nd).Nodup:=by decide +kernel
theorem vf:([MW "word"]:List Nd).Nodup:=by decide +kernel
theorem wI:([MW "number",MW "done"]:List Nd).Nodup:=by decide +kernel
theorem w8:([MW "row"]:List Nd).Nodup:=by decide +kernel
section
variable {P:NC} {w:NP} {K:MY} {mg:Nd->Option M1} {base:Oo} (T:TX K mg)
inductive i7 (vs:List V) (H:Hp) (Q:VK) (_E:XK):Prop
 | mk (a:M5) (t:Th) (xB:vs=[.ref a]) (xC:At H t a) (xG:∀ (r:M5) (as:List M5) (H':Hp),L2.Same H H'->H' r=some (.tup (as.map V.ref))->Ats H' t.kids as->Q (.ref r) H'):i7  vs H Q _E
def oU:Sp:=i7
theorem jQ:FnOk P w K mg base CX0 1 T.g_kids_of.f T.g_kids_of.d ["thing"] oU:=by
 refine T.g_kids_of.F.ok pf (fun vs H Q E h=>?_) (fun xy A outer s H vs Q E hr h=>?_)
 · obtain ⟨a,t,rfl,_⟩:=h;rfl
 obtain ⟨a,t,rfl,hA,k⟩:=h
 refine ⟨_,(ad (aQ (ax di (aI bX (pv 0) ag (fun _ _=>rfl)) (bV (v:=.str (MW "?")) rfl T.c_CALL_SIGN.choose_spec ⟨_,rfl⟩) (ar _)) (af (ay (dB ae))) aC)
  (af (ay (bM uF (pv 0) (bL ag) cK)))),?_⟩
 try dsimp only [xS,xw]
 cases t with
 | knot n ks =>
   rw [At] at hA;refine hid fun ZZ kZ=>?_;obtain ⟨hn,as,h1,h2⟩:=hA;refine kZ ?_;refine ⟨_,rfl,a,_,0,.str n,rfl,rfl,SqT.of h1,at0,rfl,_,rfl,?_⟩;refine cA (fun c=>absurd (of_decide_eq_true c) (fun z=>hn (V.str.inj z))) (fun _=>?_);refine ⟨_,rfl,1,rfl,a,_,rfl,SqT.of h1,?_,fun r hr=>?_⟩
   · intro z;have:=z.1;simp [HT.sIx] at this
   · rw [jG];exact k r as _ (aj hr _) ac (h2.mono (mw hr))
 | call sn kn =>
   rw [At] at hA;refine ⟨_,rfl,a,_,0,.str q,rfl,rfl,SqT.of hA,at0,rfl,_,rfl,?_⟩;refine cA (fun _=>?_) (fun c=>absurd (decide_eq_true rfl) c);refine ⟨by show 0<=Ny;decide,fun r hr=>?_⟩;exact k r [] _ (aj hr _) ac .nil
inductive kD (vs:List V) (H:Hp) (Q:VK) (_E:XK):Prop
 | mk (a:M5) (t:Th) (xB:vs=[.ref a]) (xC:At H t a) (xG:t.size<=100000) (xT:∀ (r:M5) (as:List M5) (H':Hp),L2.Same H H'->H r=none->H' r=some (.lst (as.map V.ref))->Ats H' t.walk as->Q (.ref r) H'):kD  vs H Q _E
def qy:Sp:=kD
theorem qf:FnOk P w K mg base CX0 2 T.g_walked.f T.g_walked.d ["thing"] qy:=by
 refine T.g_walked.F.ok fu (fun vs H Q E h=>?_) (fun xy A outer s H vs Q E hr h=>?_)
 · obtain ⟨a,t,rfl,_⟩:=h;rfl
 obtain ⟨a,t,rfl,hA,xQ,k⟩:=h
 refine ⟨_,(ad (av (i:=1) fu.nd rfl (NB rfl) (bc ae))
  (ad (av (i:=2) fu.nd rfl (NB rfl) (bc (aa (pv 0) ae)))
  (ad (kG Pg (aU (pv 2) (fun _=>rfl)) (ad (av (i:=3) fu.nd rfl (NB rfl) (mF NH Qu Qs mh (pv 2)))
  (ad (bi (bU NH N0 NZ bp (pv 1) (aa (pv 3) ae)))
  (af (bi (bU NH PySem.F.slot_list_extend PySem.F.type_list_extend o6 (pv 2) (aa (sU uE (pcF T.g_kids_of (jQ T) hr (aa (pv 3) ae))) ae)))))))
  (af (ay (pv 1)))))),?_⟩
 try dsimp only [xS,xw]
 refine ⟨by show 0<=Ny;decide,fun mt Bq=>?_⟩;refine ⟨_,rfl,by show 1<=Ny;decide,fun ah Br=>?_⟩;have EI:H ah=none:=(aj Bq _).free Br;have xu:ah≠mt:=fun z=>by rw [z,ac] at Br;cases Br
 refine ⟨fun m σ H2=>Ex5 fun (ms as:List M5) (Ms As:List Th) (p:Option V)=>An8 (σ=[some (.ref a),some (.ref mt),some (.ref ah),p]) (L2.Same H H2) (H2 mt=some (.lst (ms.map V.ref))) (H2 ah=some (.lst (as.map V.ref))) (Ats H2 Ms ms) (Ats H2 As as) (Ms++walks As.reverse=t.walk) (m=aG As),⟨_,[],[a],[],[t],none,rfl,?_,?_,?_,.nil,.cons (hA.mono ?_) .nil,?_,rfl⟩,?_⟩
 · exact aN (aj Bq _) EI
 · rw [aq xu.symm,ac];rfl
 · rw [ac];rfl
 · exact Same.kt (aN (aj Bq _) EI)
 · simp [walks]
 rintro m σ H2 ⟨ms,as,Ms,As,p,rfl,sm,e1,e2,a1,a2,hw,rfl⟩
 have hlen:ms.length+aG As<=100000:=by
  have h1:=congrArg O6 hw;rw [Na,iy,Th.walk_len,<- a1.length] at h1;have h2:=lG As;omega
 refine ⟨_,rfl,_,.inl ⟨_,SqL.of e2,rfl⟩,?_⟩;refine cA (fun c=>?_) (fun c=>?_)
 · -- a part is taken off
   refine ⟨fun f' H'=>∃ m',m'<aG As/\Ex5 fun (ms as:List M5) (Ms As:List Th) (p:Option V)=>An8 (f'=[some (.ref a),some (.ref mt),some (.ref ah),p]) (L2.Same H H') (H' mt=some (.lst (ms.map V.ref))) (H' ah=some (.lst (as.map V.ref))) (Ats H' Ms ms) (Ats H' As as) (Ms++walks As.reverse=t.walk) (m'=aG As),fun f' H' h=>h,?_⟩;have yQ:as≠[]:=by intro z;subst z;simp at c
   obtain ⟨An,b,rfl⟩:∃ An b,as=An++[b]:=⟨as.dropLast,as.getLast yQ,(Pa yQ).symm⟩;obtain ⟨Us,x,rfl,a3,a4⟩:=a2.snoc_inv;have hs:aG (Us++[x])=aG Us+x.size:=by rw [bq,aG,aG];omega
   have EJ:=x.size_eq;rw [hs] at hlen;refine ⟨_,rfl,.inl ⟨rfl,_,SqL.of e2⟩,ah,_,.ref b,rfl,rfl,e2,by simp,?_⟩;have d1:((An++[b]).map V.ref).dropLast=An.map V.ref:=by simp
   rw [d1];refine ⟨_,rfl,.inl ⟨rfl,_,SqL.of (by rw [aq xu.symm];exact e1)⟩,_,rfl,mt,_,.ref b,rfl,rfl,by rw [aq xu.symm];exact e1,bh (by rw [MX];omega),?_⟩;have k1:KT H2 (upd (upd H2 ah (.lst (An.map V.ref))) mt (.lst (ms.map V.ref++[.ref b]))):=(bB e2).trans (bB (xs:=ms.map V.ref) (by rw [aq xu.symm];exact e1));refine ⟨_,rfl,.inl ⟨rfl,_,SqL.of (by rw [aq xu,ac])⟩,_,rfl,b,x,rfl,a4.mono k1,fun r ks H3 s3 e3 a5=>?_⟩;refine ⟨r,_,rfl,SqT.of e3,fun l hl=>?_⟩;have l1:l≠ah:=fun z=>by rw [z,s3 ah _ (by rw [aq xu,ac])] at hl;cases hl
   have l2:l≠mt:=fun z=>by rw [z,s3 mt _ ac] at hl;cases hl
   refine ⟨ah,l,_,_,rfl,rfl,by rw [aq l1.symm];exact s3 ah _ (by rw [aq xu,ac]),SqT.of ac,Qn (bh ?_),?_⟩
   · have q1:=a3.length;have q2:=a5.length;have q3:=cU Us;have q4:=cU x.kids;rw [MX,PF,MX];omega
   · have k2:KT H2 (upd (upd H3 l (.tup (ks.map V.ref).reverse)) ah (.lst (An.map V.ref++(ks.map V.ref).reverse))) :=
      k1.trans ((Same.kt s3).trans ((mw hl).trans (bB (xs:=An.map V.ref) (by rw [aq l1.symm];exact s3 ah _ (by rw [aq xu,ac])))))
     have k3:KT H3 (upd (upd H3 l (.tup (ks.map V.ref).reverse)) ah (.lst (An.map V.ref++(ks.map V.ref).reverse))) :=
      (mw hl).trans (bB (xs:=An.map V.ref) (by rw [aq l1.symm];exact s3 ah _ (by rw [aq xu,ac])))
     refine ⟨aG (Us++x.kids.reverse),?_,ms++[b],An++ks.reverse,Ms++[x],Us++x.kids.reverse,some (.ref b),rfl,?_,?_,?_,?_,?_,?_,rfl⟩
     · rw [bq,lG,hs];omega
     · have s4:L2.Same H (upd (upd H2 ah (.lst (An.map V.ref))) mt (.lst (ms.map V.ref++[.ref b]))):=aN (aN sm EI) Bq;have nl:H l=none:=s4.free (s3.free hl);exact aN (aN (s4.trans s3) nl) EI
     · rw [aq xu.symm,aq l2.symm,s3 mt _ ac,Nw];rfl
     · rw [ac,Nw,List.map_reverse]
     · exact (a1.mono k2).append (.cons (a4.mono k2) .nil)
     · exact (a3.mono k2).append (a5.mono k3).reverse
     · rw [<- hw,Nr,QK,QK,P4,gW];show Ms++([x]++(walks x.kids++walks Us.reverse))=Ms++walks (x::Us.reverse);rw [walks,x.walk_eq];rfl
 · have hz:as=[]:=by
    cases as with
    | nil=>rfl
    | cons y ys=>simp at c
   subst hz;have F4:As=[]:=Oe.mp a2.length.symm;subst F4;refine ⟨_,rfl,k mt ms H2 sm Bq e1 ?_⟩;have KC:Ms=t.walk:=by simpa [walks] using hw
   rw [<- KC];exact a1
inductive i0 (vs:List V) (H:Hp) (Q:VK) (_E:XK):Prop
 | mk (a:M5) (t:Th) (xB:vs=[.ref a]) (xC:At H t a) (xG:Q (.bl t.isCall) H):i0  vs H Q _E
def n5:Sp:=i0
theorem gD:FnOk P w K mg base CX0 1 T.g_is_call.f T.g_is_call.d ["thing"] n5:=by
 refine T.g_is_call.F.ok oH (fun vs H Q E h=>?_) (fun xy A outer s H vs Q E hr h=>?_)
 · obtain ⟨a,t,rfl,_⟩:=h;rfl
 obtain ⟨a,t,rfl,hA,k⟩:=h;refine ⟨_,(af (ay (bw di (aI bX (pv 0) ag (fun _ _=>rfl)) (bV (v:=.str (MW "?")) rfl T.c_CALL_SIGN.choose_spec ⟨_,rfl⟩) (ar _)))),?_⟩
 try dsimp only [xS,xw]
 cases t with
 | knot n ks =>
   rw [At] at hA;refine hid fun ZZ kZ=>?_;obtain ⟨hn,as,h1,h2⟩:=hA;refine kZ ?_;refine ⟨_,rfl,a,_,0,.str n,rfl,rfl,SqT.of h1,at0,rfl,?_⟩;have e:decide (V.str n=V.str (MW "?"))=false:=decide_eq_false (fun z=>hn (V.str.inj z));rw [e];exact k
 | call sn kn =>
   rw [At] at hA;refine ⟨_,rfl,a,_,0,.str q,rfl,rfl,SqT.of hA,at0,rfl,?_⟩;have e:decide (V.str q=V.str (MW "?"))=true:=decide_eq_true rfl;rw [e];exact k
def mf (k c:Int):List (Nd×V):=[("met_knots",.int k),("met_calls",.int c)]
theorem mkc:¬ (("met_knots":Nd)="met_calls"):=by decide +kernel
theorem wZ:¬ (("met_calls":Nd)="met_knots"):=by decide +kernel
theorem tL:cC "met_knots" (.int 0) []=[(("met_knots":Nd),V.int 0)]:=rfl
theorem tW:cC "met_calls" (.int 0) [(("met_knots":Nd),V.int 0)]=mf 0 0:=by
 unfold mf;rw [cC,if_neg mkc,cC]
theorem tY (k c z:Int):cC "met_knots" (.int z) (mf k c)=mf z c:=by
 unfold mf;rw [cC,if_pos rfl]
theorem tq (k c z:Int):cC "met_calls" (.int z) (mf k c)=mf k z:=by
 unfold mf;rw [cC,if_neg mkc,cC,if_pos rfl]
theorem wg (k c:Int):(mf k c).lookup ("met_knots":Nd)=some (V.int k):=by
 unfold mf;have hb:(("met_knots":Nd) == "met_knots")=true:=beq_iff_eq.mpr rfl;simp only [Pz,hb]
theorem wj (k c:Int):(mf k c).lookup ("met_calls":Nd)=some (V.int c):=by
 unfold mf;have hb:(("met_calls":Nd) == "met_calls")=true:=beq_iff_eq.mpr rfl;have hc:(("met_calls":Nd) == "met_knots")=false:=beq_eq_false_iff_ne.mpr wZ;simp only [Pz,hb,hc]
theorem v1 {m:Nd} (k c:Int) (h1:(m == ("met_knots":Nd))=false) (h2:(m == ("met_calls":Nd))=false):(mf k c).lookup m=none:=by
 unfold mf;simp only [Pz,h1,h2]
theorem rO (k c:Int):(mf k c).length<1000:=by show 2<1000;decide
inductive dI (C:M5) (vs:List V) (H:Hp) (Q:VK) (_E:XK):Prop
 | mk (x dx:M5) (xB:vs=[.ref x]) (xC:H x=some (.ins C dx [])) (xG:∀ H':Hp,(∀ b o,b≠x->H b=some o->H' b=some o)->H' x=some (.ins C dx (mf 0 0))->Q .non H'):dI C vs H Q _E
def jk (C:M5):Sp:=dI C
theorem jl:FnOk P w K mg base CX0 1 T.f_Measure_init T.d_Measure_init ["self"] (jk T.e_Measure):=by
 refine T.F_Measure_init.ok jg (fun vs H Q E h=>?_) (fun xy A outer s H vs Q E hr h=>?_)
 · obtain ⟨x,dx,rfl,_⟩:=h;rfl
 obtain ⟨x,dx,rfl,ex,q⟩:=h
 refine ⟨_,(ad (sq (pv 0) ag rfl)
  (af (sq (pv 0) ag rfl))),?_⟩
 try dsimp only [xS,xw]
 refine ⟨_,rfl,x,T.e_Measure,dx,_,rfl,ex,T.cl_Measure,T.na_Measure_met_knots,(by show 0<1000;decide),?_⟩;refine ⟨_,rfl,x,T.e_Measure,dx,_,rfl,ac,T.cl_Measure,T.na_Measure_met_calls,(by show 1<1000;decide),?_⟩;refine q _ (fun b o hb e=>?_) ?_
 · rw [aq hb,aq hb];exact e
 · rw [ac,tL,tW]
inductive dA (C:M5) (vs:List V) (H:Hp) (Q:VK) (_E:XK):Prop
 | mk (x dx pa:M5) (k c row:Int) (t:Th) (xB:vs=[.ref x,.ref pa,.int row]) (xC:H x=some (.ins C dx (mf k c))) (xG:At H t pa) (xT:∀ (k' c':Int) (H':Hp),k'=(if t.isCall=true then k else k+1)->c'=(if t.isCall=true then c+1 else c)->(∀ b o,b≠x->H b=some o->H' b=some o)->H' x=some (.ins C dx (mf k' c'))->Q (.bl (decide (row<=20/\k'<=400/\c'<=200))) H'):dA C vs H Q _E
def iB (C:M5):Sp:=dA C
theorem iG:FnOk P w K mg base CX0 2 T.f_Measure_takes T.d_Measure_takes ["self","part","row"] (iB T.e_Measure):=by
 refine T.F_Measure_takes.ok iO (fun vs H Q E h=>?_) (fun xy A outer s H vs Q E hr h=>?_)
 · obtain ⟨x,dx,pa,k,c,row,t,rfl,_⟩:=h;rfl
 obtain ⟨x,dx,pa,k,c,row,t,rfl,ex,hA,q⟩:=h
 refine ⟨_,(ad (aQ (aU (pcF T.g_is_call (gD T) hr (aa (pv 1) ae)) (fun _=>rfl)) (af (lj (pv 0) ag r6)) (af (lj (pv 0) ag r6)))
  (af (ay (ck (bw eN (pv 2) (bV (v:=.int (20)) rfl T.c_MOST_ROWS.choose_spec ⟨_,rfl⟩) (ar _)) (ck (bw eN (se (pv 0) rfl) (bV (v:=.int (400)) rfl T.c_MOST_KNOTS.choose_spec ⟨_,rfl⟩) (ar _)) (cn (bw eN (se (pv 0) rfl) (bV (v:=.int (200)) rfl T.c_MOST_CALLS.choose_spec ⟨_,rfl⟩) (ar _)))))))),?_⟩
 try dsimp only [xS,xw]
 refine aH (fun f' H'=>Ex2 fun (k' c':Int)=>An5 (k'=(if t.isCall=true then k else k+1)) (c'=(if t.isCall=true then c+1 else c)) ((∀ b o,b≠x->H b=some o->H' b=some o)) (H' x=some (.ins T.e_Measure dx (mf k' c'))) (f'=[some (.ref x),some (.ref pa),some (.int row)])) (fun kk hk=>?_) ?_
 · refine jX (fun b H'=>An2 (H=H') (b=t.isCall)) (fun k2 F5=>?_) (fun H' hb=>?_) (fun H' hb=>?_)
   · exact ⟨_,rfl,pa,t,rfl,hA,_,rfl,F5 _ _ ⟨rfl,rfl⟩⟩
   · obtain ⟨rfl,hb⟩:=hb;refine ⟨_,rfl,x,T.e_Measure,dx,_,_,rfl,ex,T.cl_Measure,T.na_Measure_met_calls,wj k c,c,1,rfl,rfl,dx,_,ex,rO k c,?_⟩;exact hk _ _ ⟨k,c+1,by rw [if_pos hb.symm],by rw [if_pos hb.symm],fun b o hb e=>by rw [aq hb];exact e,by rw [ac,tq],rfl⟩
   · obtain ⟨rfl,hb⟩:=hb;have ya:¬ t.isCall=true:=fun z=>by rw [<- hb] at z;cases z
     refine ⟨_,rfl,x,T.e_Measure,dx,_,_,rfl,ex,T.cl_Measure,T.na_Measure_met_knots,wg k c,k,1,rfl,rfl,dx,_,ex,rO k c,?_⟩;exact hk _ _ ⟨k+1,c,by rw [if_neg ya],by rw [if_neg ya],fun b o hb e=>by rw [aq hb];exact e,by rw [ac,tY],rfl⟩
 rintro f' H' ⟨k',c',zf,yE,hs,Ef,rfl⟩;have q':=q k' c' H' zf yE hs Ef;clear q;refine ⟨_,rfl,_,_,rfl,rfl,?_⟩;refine ⟨_,rfl,?_⟩;by_cases c1:row<=20
 · rw [if_pos (decide_eq_true c1)];refine ⟨_,rfl,x,T.e_Measure,dx,_,_,rfl,Ef,T.cl_Measure,T.na_Measure_met_knots,wg k' c',_,_,rfl,rfl,_,rfl,?_⟩;by_cases c2:k'<=400
   · rw [if_pos (decide_eq_true c2)];refine ⟨_,rfl,x,T.e_Measure,dx,_,_,rfl,Ef,T.cl_Measure,T.na_Measure_met_calls,wj k' c',_,_,rfl,rfl,?_⟩;have e:decide (row<=20/\k'<=400/\c'<=200)=decide (c'<=200):=by simp [c1,c2]
     rw [e] at q';exact q'
   · rw [if_neg (fun z=>c2 (of_decide_eq_true z))];rw [decide_eq_false (fun z=>c2 z.2.1)] at q';exact q'
 · rw [if_neg (fun z=>c1 (of_decide_eq_true z))];rw [decide_eq_false (fun z=>c1 z.1)] at q';exact q'
mutual
/-- how many calls -/
def cnT:Th->Nat
 | .knot _ ks=>cy ks
 | .call _ _=>1
def cy:List Th->Nat
 | []=>0
 | t::ts=>cnT t+cy ts
end
def Small (t:Th):Prop:=t.tall<=20/\t.kn<=400/\cnT t<=200
instance (t:Th):Decidable (Small t):=inferInstanceAs (Decidable (_/\_/\_))
theorem wv (t:Th):t.kn=(if t.isCall=true then 0 else 1)+kns t.kids:=by
 cases t with
 | knot n ks=>rw [Th.kn,Th.isCall,Th.kids,if_neg Nt];omega
 | call s k=>rw [Th.kn,Th.isCall,Th.kids,if_pos rfl,kns]
theorem vX (t:Th):cnT t=(if t.isCall=true then 1 else 0)+cy t.kids:=by
 cases t with
 | knot n ks=>rw [cnT,Th.isCall,Th.kids,if_neg Nt];omega
 | call s k=>rw [cnT,Th.isCall,Th.kids,if_pos rfl,cy]
theorem j8 (a b:List Th):kns (a++b)=kns a+kns b:=by
 induction a with
 | nil=>rw [NK,kns];omega
 | cons x a ih=>rw [NG,kns,kns,ih];omega
theorem i3 (a b:List Th):cy (a++b)=cy a+cy b:=by
 induction a with
 | nil=>rw [NK,cy];omega
 | cons x a ih=>rw [NG,cy,cy,ih];omega
theorem rZ {ts:List Th} (h:ts≠[]):∃ t∈ts,br ts=t.tall:=by
 induction ts with
 | nil=>exact absurd rfl h
 | cons x ts ih =>
   rw [br];by_cases hz:ts=[]
   · subst hz;exact ⟨x,Nj ..,by rw [br];omega⟩
   · obtain ⟨t,ht,e⟩:=ih hz;by_cases hc:br ts<=x.tall
     · exact ⟨x,Nj ..,by omega⟩
     · exact ⟨t,Ng _ ht,by omega⟩
def RwAt (H:Hp) (e:Th×Int) (p:M5):Prop:=∃ ta,H p=some (.tup [.ref ta,.int e.2])/\At H e.1 ta
theorem RwAt.mono {H H':Hp} (k:KT H H') {e:Th×Int} {p:M5} (h:RwAt H e p):RwAt H' e p:=by
 obtain ⟨ta,h1,h2⟩:=h;exact ⟨ta,k _ _ h1,h2.mono k⟩
inductive ii (vs:List V) (H:Hp) (Q:VK) (_E:XK):Prop
 | mk (a:M5) (t:Th) (xB:vs=[.ref a]) (xC:At H t a) (xG:t.size<=100000) (xT:∀ H',L2.Same H H'->Q (.bl (decide (Small t))) H'):ii  vs H Q _E
def m9:Sp:=ii
set_option maxHeartbeats 2000000 in
theorem mP:FnOk P w K mg base CX0 4 T.g_is_small.f T.g_is_small.d ["pattern"] m9:=by
 refine T.g_is_small.F.ok cE (fun vs H Q E h=>?_) (fun xy A outer s H vs Q E hr h=>?_)
 · obtain ⟨a,t,rfl,_⟩:=h;rfl
 obtain ⟨a,t,rfl,hA,xQ,q⟩:=h
 refine ⟨_,(ad (av (i:=1) cE.nd rfl (NB rfl) (rH T.mk_Measure (jl T) (hr.mono (by first | decide | omega)) rfl T.x_Measure T.b_Measure_init .nil nk))
  (ad (av (i:=2) cE.nd rfl (NB rfl) (bc (aa (dB (aa (pv 0) (aa ag ae))) ae)))
  (ad (kG Pg (aU (pv 2) (fun _=>rfl)) (ad (jY (mF NH Qu Qs mh (pv 2)) (iS rfl (bg (aD (i:=3) cE.nd rfl (NB rfl)) (bg (aD (i:=4) cE.nd rfl (Or.inr rfl)) d3))))
  (ad (aQ (b8 (aU (sX (pv 1) T.cl_Measure T.me_Measure_takes (iG T) (hr.mono (by first | decide | omega)) T.b_Measure_takes .nil nk (aa (pv 3) (aa (pv 4) ae))) (fun _=>rfl))) (af (ay eA)) aC)
  (af (bi (bU NH PySem.F.slot_list_extend PySem.F.type_list_extend qH (pv 2) (aa (cv (N:=[MW "kid",MW "row"]) (js:=[none,some 4]) (g:=(aE 0)) (tt:=bt) (te:=(v4 (cz (cx 0) (cz (tOp (rI0 fun i j=>.int (i+j)) (cx 1) (tC (.int 1))) gm)))) rfl (dL rfl (by decide +kernel) (by decide +kernel) rfl rfl rfl) (io (pcF T.g_kids_of (jQ T) hr (aa (pv 3) ae))) (fun _ _ _ _ _ _=>(aD (i:=0) wH rfl (NB rfl))) (bR rfl) (fun _ _ _ _ _ _=>cw) (fun _ _ _ _ _ _=>(dB (aa (pv 0) (aa (ao gj (pv 1) ag) ae))))) ae)))))))
  (af (ay eA))))),?_⟩
 try dsimp only [xS,xw]
 intro mo dx EK EC xu;refine ⟨mo,dx,rfl,ac,fun H1 k1 HW=>⟨rfl,?_⟩⟩
 have s0:L2.Same H (upd (upd H dx (.own mo)) mo (.ins T.e_Measure dx [])):=fun b o e=>by
  rw [aq (aK e EK),aq (aK e EC)];exact e
 have s1:L2.Same H H1:=fun b o e=>k1 b o (aK e EK) (s0 b o e);refine ⟨_,rfl,ai (by show 2<=1000000;decide),fun p0 KD=>?_⟩;dsimp only [aE];have s2:L2.Same H1 (upd H1 p0 (.tup [.ref a,.int 1])):=aj KD _;have e2:(upd H1 p0 (.tup [.ref a,.int 1])) p0=some (.tup [.ref a,.int 1]):=ac;generalize (upd H1 p0 (.tup [.ref a,.int 1]))=H2 at s2 e2 ⊢;refine ⟨ai (by show 1<=1000000;decide),fun ah Br=>?_⟩;have s3:L2.Same H2 (upd H2 ah (.lst [.ref p0])):=aj Br _;have e3:(upd H2 ah (.lst [.ref p0])) ah=some (.lst (([p0]:List M5).map V.ref)):=ac;have DA:H ah=none:=(s1.trans s2).free Br;have F6:mo≠ah:=fun z=>by rw [<- z,s2 _ _ HW] at Br;cases Br
 generalize (upd H2 ah (.lst [.ref p0]))=H3 at s3 e3 ⊢;have yR:=s2.trans s3;refine ⟨fun m σ H4=>Ex6 fun (ps:List M5) (As:List (Th×Int)) (k c:Int) (pv rv:Option V)=>vq (σ=[some (.ref a),some (.ref mo),some (.ref ah),pv,rv]) (L2.Same H H4) (H4 ah=some (.lst (ps.map V.ref))) (NY (RwAt H4) As ps) (H4 mo=some (.ins T.e_Measure dx (mf k c))) (k+(kns (As.map (·.1)):Int)=(t.kn:Int)) (c+(cy (As.map (·.1)):Int)=(cnT t:Int)) (k<=400) (c<=200) ((∀ e∈As,e.2+(e.1.tall:Int)<=(t.tall:Int)+1)) (((t.tall:Int)<=20∨∃ e∈As,(t.tall:Int)+1<=e.2+(e.1.tall:Int))) (aG (As.map (·.1))<=100000) (m=aG (As.map (·.1))),⟨_,[p0],[(t,1)],0,0,none,none,rfl,s1.trans yR,e3,.cons ⟨a,s3 _ _ e2,hA.mono (Same.kt (s1.trans yR))⟩ .nil,yR _ _ HW,?_,?_,by decide,by decide,?_,?_,?_,rfl⟩,?_⟩
 · show (0:Int)+((kns [t]:Nat):Int)=_;rw [kns,kns];omega
 · show (0:Int)+((cy [t]:Nat):Int)=_;rw [cy,cy];omega
 · intro e he;rw [Nc.mp he];show (1:Int)+(t.tall:Int)<=_;omega
 · exact .inr ⟨(t,1),Nj ..,by show _<=(1:Int)+(t.tall:Int);omega⟩
 · show aG [t]<=100000;rw [aG,aG];omega
 rintro m σ H4 ⟨ps,As,k,c,pv,rv,rfl,s4,e4,HX,em,hk,hc,MG,AL,hle,HY,HZ,rfl⟩;refine ⟨_,rfl,_,.inl ⟨_,SqL.of e4,rfl⟩,?_⟩;refine cA (fun cc=>?_) (fun cc=>?_)
 · refine ⟨fun f' H'=>∃ m',m'<aG (As.map (·.1))/\Ex6 fun (ps:List M5) (As:List (Th×Int)) (k c:Int) (pv rv:Option V)=>vq (f'=[some (.ref a),some (.ref mo),some (.ref ah),pv,rv]) (L2.Same H H') (H' ah=some (.lst (ps.map V.ref))) (NY (RwAt H') As ps) (H' mo=some (.ins T.e_Measure dx (mf k c))) (k+(kns (As.map (·.1)):Int)=(t.kn:Int)) (c+(cy (As.map (·.1)):Int)=(cnT t:Int)) (k<=400) (c<=200) ((∀ e∈As,e.2+(e.1.tall:Int)<=(t.tall:Int)+1)) (((t.tall:Int)<=20∨∃ e∈As,(t.tall:Int)+1<=e.2+(e.1.tall:Int))) (aG (As.map (·.1))<=100000) (m'=aG (As.map (·.1))),fun f' H' h=>h,?_⟩;have yQ:ps≠[]:=by intro z;subst z;simp at cc
   refine hid fun ZZ kZ=>?_;obtain ⟨zq,b,rfl⟩:∃ zq b,ps=zq++[b]:=⟨ps.dropLast,ps.getLast yQ,(Pa yQ).symm⟩;obtain ⟨Us,⟨x,r⟩,rfl,Ia,ta,eb,hx⟩:=P2.snoc_inv HX;refine kZ ?_;have DB:(Us++[(x,r)]).map (·.1)=Us.map (·.1)++[x]:=by rw [Nw];rfl
   rw [DB] at hk hc HZ;rw [j8,kns,kns,wv] at hk;rw [i3,cy,cy,vX] at hc;rw [bq,aG,aG,x.size_eq] at HZ;have KG:=hle (x,r) (NJ _ (Nj ..));dsimp only at KG;have EL:=x.tall_eq;refine ⟨_,rfl,.inl ⟨rfl,_,SqL.of e4⟩,ah,_,.ref b,rfl,rfl,e4,by simp,?_⟩;have d1:((zq++[b]).map V.ref).dropLast=zq.map V.ref:=by simp
   rw [d1];have k5:KT H4 (upd H4 ah (.lst (zq.map V.ref))):=bB e4;have s5:L2.Same H (upd H4 ah (.lst (zq.map V.ref))):=aN s4 DA;have e5:(upd H4 ah (.lst (zq.map V.ref))) ah=some (.lst (zq.map V.ref)):=ac;have EM:(upd H4 ah (.lst (zq.map V.ref))) mo=some (.ins T.e_Measure dx (mf k c)):=by rw [aq F6];exact em
   generalize (upd H4 ah (.lst (zq.map V.ref)))=H5 at k5 s5 e5 EM ⊢;refine ⟨b,_,rfl,SqT.of (k5 _ _ eb),rfl,_,_,rfl,_,_,rfl,rfl,?_⟩;dsimp only [aE];refine aH (fun f' H6=>Ex2 fun (k' c':Int)=>An6 (k'=(if x.isCall=true then k else k+1)) (c'=(if x.isCall=true then c+1 else c)) ((∀ b o,b≠mo->H5 b=some o->H6 b=some o)) (H6 mo=some (.ins T.e_Measure dx (mf k' c'))) ((r<=20/\k'<=400/\c'<=200)) (f'=[some (.ref a),some (.ref mo),some (.ref ah),some (.ref ta),some (.int r)])) (fun kk F7=>?_) ?_
   · refine jX (fun bb H6=>Ex2 fun (k' c':Int)=>An5 (k'=(if x.isCall=true then k else k+1)) (c'=(if x.isCall=true then c+1 else c)) ((∀ b o,b≠mo->H5 b=some o->H6 b=some o)) (H6 mo=some (.ins T.e_Measure dx (mf k' c'))) (bb=!decide (r<=20/\k'<=400/\c'<=200))) (fun k2 F5=>?_) (fun H6 hb=>?_) (fun H6 hb=>?_)
     · refine ⟨_,rfl,mo,dx,_,rfl,EM,v1 k c (by decide +kernel) (by decide +kernel),_,rfl,_,rfl,mo,dx,ta,k,c,r,x,rfl,EM,hx.mono k5,fun k' c' H6 h1 h2 h3 h4=>?_⟩;exact ⟨_,rfl,F5 _ _ ⟨k',c',h1,h2,h3,h4,rfl⟩⟩
     · refine hid fun ZZ kZ=>?_;obtain ⟨k',c',h1,h2,h3,h4,h5⟩:=hb;refine kZ ?_;have xU:¬ (r<=20/\k'<=400/\c'<=200):=fun z=>by rw [decide_eq_true z] at h5;cases h5
       have BN:decide (Small t)=false:=decide_eq_false fun z=>xU (by
        obtain ⟨z1,z2,z3⟩:=z;refine ⟨by omega,?_,?_⟩
        · rw [h1];split at hk <;> split <;> first | omega | contradiction
        · rw [h2];split at hc <;> split <;> first | omega | contradiction)
       have s6:L2.Same H H6:=fun b o e=>h3 b o (aK e EK) (s5 b o e);rw [BN] at q;exact q H6 s6
     · refine hid fun ZZ kZ=>?_;obtain ⟨k',c',h1,h2,h3,h4,h5⟩:=hb;refine kZ ?_
       have AV:r<=20/\k'<=400/\c'<=200:=of_decide_eq_true (by
        cases hd:decide (r<=20/\k'<=400/\c'<=200) with
        | true=>rfl
        | false=>rw [hd] at h5;cases h5)
       exact F7 _ _ ⟨k',c',h1,h2,h3,h4,AV,rfl⟩
   rintro f' H6 ⟨k',c',h1,h2,h3,h4,⟨KH,F8,F9⟩,rfl⟩;have k6:KT H5 H6:=fun b xs e=>h3 b _ (fun z=>by rw [z,EM] at e;cases e) e;have s6:L2.Same H H6:=fun b o e=>h3 b o (aK e EK) (s5 b o e);have e6:H6 ah=some (.lst (zq.map V.ref)):=h3 _ _ F6.symm e5;have Ib:=k5.trans k6;refine ⟨_,rfl,.inl ⟨rfl,_,SqL.of e6⟩,_,rfl,ta,x,rfl,hx.mono Ib,fun ka xP H7 s7 ek yc=>?_⟩;have zR:xP.length=x.kids.length:=yc.length;have MH:=cU x.kids;refine ⟨ka,rfl,⟨_,SqT.of ek⟩,jx (F:=RwAt) (xs:=xP.map V.ref) (x.kids.map fun u=>(u,r+1)) (fun H1 H2 z p kt h=>h.mono kt) (by rw [MX,MX];omega) (by rw [MX];omega) (fun i Hx sx hi=>⟨_,_,SqT.of (sx _ _ ek),M3 hi⟩) (fun Hx sx=>⟨_,SqT.of (sx _ _ ek),M8 _⟩) (fun i Hx x Hy sx hi hy=>⟨hy.1,hy.2 _ (SqT.of (sx _ _ ek))⟩) (fun i y z Hx R W' hy Ic sx hR=>?_) (fun D H8 bs hD s8 eD AW=>?_)⟩
   · obtain ⟨ua,rfl,KI⟩:=bP hy;obtain ⟨u,hu,KJ⟩:=yc.get KI;rw [Nq,hu] at Ic;cases Ic;refine ⟨_,rfl,_,rfl,_,_,rfl,rfl,ai (by show 2<=1000000;decide),fun p1 EG=>?_⟩;exact hR _ p1 (aj EG _) ⟨ua,ac,KJ.mono (Same.kt (sx.trans (aj EG _)))⟩
   have MI:Us.length=zq.length:=N3 Ia;have AR:(x.kids.map fun u=>(u,r+1)).length=bs.length:=N3 AW;rw [MX] at AR;have KL:=cU (Us.map (·.1));rw [MX] at KL;have Bs:=s7.trans s8;have e8:=Bs _ _ e6;refine ⟨ah,D,_,_,rfl,rfl,e8,eD,Qn (bh (by rw [MX,MX];omega)),?_⟩;have k9:KT H8 (upd H8 ah (.lst (zq.map V.ref++bs.map V.ref))):=bB e8;have s9:L2.Same H (upd H8 ah (.lst (zq.map V.ref++bs.map V.ref))):=aN (s6.trans Bs) DA
   have AS:(Us++x.kids.map fun u=>(u,r+1)).map (·.1)=Us.map (·.1)++x.kids:=by
    rw [Nw,O4];congr 1;exact List.map_id' _
   refine ⟨aG ((Us++x.kids.map fun u=>(u,r+1)).map (·.1)),?_,zq++bs,Us++(x.kids.map fun u=>(u,r+1)),k',c',_,_,rfl,s9,?_,?_,?_,?_,?_,F8,F9,?_,?_,?_,rfl⟩
   · rw [AS,DB,bq,bq,aG,aG,x.size_eq];omega
   · rw [ac,Nw]
   · exact P2.append (P2.mp (fun _ _ e=>e.mono ((Ib.trans (Same.kt Bs)).trans k9)) Ia) (P2.mp (fun _ _ e=>e.mono k9) AW)
   · rw [aq F6];exact Bs _ _ h4
   · rw [AS,j8,h1];split at hk <;> split <;> first | omega | contradiction
   · rw [AS,i3,h2];split at hc <;> split <;> first | omega | contradiction
   · intro e he;rcases NF.mp he with he | he
     · exact hle e (OS _ he)
     · obtain ⟨u,hu,rfl⟩:=O3.mp he;have:=nJ hu;dsimp only;omega
   · rcases HY with h | ⟨e,he,Ga⟩
     · exact .inl h
     · rcases NF.mp he with he | he
       · exact .inr ⟨e,OS _ he,Ga⟩
       · rw [Nc.mp he] at Ga;dsimp only at Ga;by_cases hz:x.kids=[]
         · rw [hz,br] at EL;exact .inl (by omega)
         · obtain ⟨u,hu,eu⟩:=rZ hz;exact .inr ⟨(u,r+1),NJ _ (O3.mpr ⟨u,hu,rfl⟩),by dsimp only;omega⟩
   · rw [AS,bq];omega
 · have hz:ps=[]:=by
    cases ps with
    | nil=>rfl
    | cons y ys=>simp at cc
   subst hz;have F4:As=[]:=Oe.mp (N3 HX);subst F4;have zf:k+((kns []:Nat):Int)=(t.kn:Int):=hk;have yE:c+((cy []:Nat):Int)=(cnT t:Int):=hc;rw [kns] at zf;rw [cy] at yE
   have KN:(t.tall:Int)<=20:=by
    rcases HY with h | ⟨e,he,_⟩
    · exact h
    · cases he
   have KO:decide (Small t)=true:=decide_eq_true ⟨by omega,by omega,by omega⟩;rw [KO] at q;exact q H4 s4
inductive fT (vs:List V) (H:Hp) (Q:VK) (_E:XK):Prop
 | mk (i:Int) (xB:vs=[.int i]) (xC:Q (.bl true) H):fT  vs H Q _E
def ml:Sp:=fT
theorem mz:FnOk P w K mg base CX0 1 T.g_is_number.f T.g_is_number.d ["thing"] ml:=by
 refine T.g_is_number.F.ok mi (fun vs H Q E h=>?_) (fun xy A outer s H vs Q E hr h=>?_)
 · obtain ⟨i,rfl,_⟩:=h;rfl
 obtain ⟨i,rfl,k⟩:=h;refine ⟨_,(af (ay (ck (az (cT (T:="int")) rfl T.n_isinstance OO (aa (pv 0) (aa (fv (v:=.ty "int") rfl T.n_int Qv rfl) ae))) (cn (ou (az (cT (T:="bool")) rfl T.n_isinstance OO (aa (pv 0) (aa (fv (v:=.ty "bool") rfl T.n_bool PyProof.Rows.boot_bool rfl) ae)))))))),?_⟩
 try dsimp only [xS,xw]
 refine ⟨_,rfl,_,_,_,rfl,.int i,uP,_,rfl,?_⟩;refine aZ ?_;exact ⟨_,rfl,_,_,_,rfl,.int i,vD,_,rfl,k⟩
inductive gK (vs:List V) (H:Hp) (Q:VK) (_E:XK):Prop
 | mk (i b:Int) (xB:vs=[.int i,.int b]) (xC:Q (.bl (decide (0<=i/\i<b))) H):gK  vs H Q _E
def nh:Sp:=gK
theorem fg:FnOk P w K mg base CX0 2 T.g_is_below.f T.g_is_below.d ["number","bound"] nh:=by
 refine T.g_is_below.F.ok nM (fun vs H Q E h=>?_) (fun xy A outer s H vs Q E hr h=>?_)
 · obtain ⟨i,b,rfl,_⟩:=h;rfl
 obtain ⟨i,b,rfl,k⟩:=h;refine ⟨_,(af (ay (ck (pcF T.g_is_number (mz T) hr (aa (pv 0) ae)) (cn (nQ eN kh ag (pv 0) (pv 1)))))),?_⟩
 try dsimp only [xS,xw]
 refine ⟨_,rfl,i,rfl,_,rfl,?_⟩;refine aZ ?_;refine ⟨_,rfl,_,_,rfl,rfl,_,rfl,?_⟩;refine cA (fun c=>?_) (fun c=>?_)
 · have c':0<=i:=of_decide_eq_true c;refine ⟨_,rfl,_,_,rfl,rfl,?_⟩;have e:decide (0<=i/\i<b)=decide (i<b):=by simp [c']
   rw [e] at k;exact k
 · have c':¬ 0<=i:=fun z=>c (decide_eq_true z);have e:decide (0<=i/\i<b)=false:=by simp [c']
   rw [e] at k;exact k
inductive iU (vs:List V) (H:Hp) (Q:VK) (_E:XK):Prop
 | mk (z:Nd) (xB:vs=[.str z]) (xC:z.length<=100000) (xG:∀ H',L2.Same H H'->Q (.bl (aw z)) H'):iU  vs H Q _E
def oM:Sp:=iU
theorem f9:FnOk P w K mg base CX0 1 T.g_is_name.f T.g_is_name.d ["thing"] oM:=by
 refine T.g_is_name.F.ok nX (fun vs H Q E h=>?_) (fun xy A outer s H vs Q E hr h=>?_)
 · obtain ⟨z,rfl,_⟩:=h;rfl
 obtain ⟨z,rfl,hz,k⟩:=h
 refine ⟨_,(ad (aQ (PW.pt (eX (b8 (aU (az (cT (T:="str")) rfl T.n_isinstance OO (aa (pv 0) (aa (fv (v:=.ty "str") rfl T.n_str PyProof.Rows.boot_str rfl) ae))) (fun _=>rfl))) (ef (b8 (hZ eN eN ag (az cQ rfl T.n_len NO (aa (pv 0) ae)) (bV (v:=.int (8)) rfl T.c_MOST_LETTERS.choose_spec ⟨_,rfl⟩)))))) (af (ay eA)) aC)
  (af (ay (az (mY rfl) rfl T.n_all PyProof.Rows.boot_all (aa (cv (N:=[MW "sign"]) (js:=[none]) (g:=(aE 0)) (tt:=bt) (te:=(lR (re) (re) (tC (.str (MW "a"))) (cx 0) (tC (.str (MW "z"))))) rfl (dL rfl (by decide +kernel) (by decide +kernel) rfl rfl rfl) (qT (pv 0)) (fun _ _ _ _ _ _=>(aD (i:=0) vN rfl (NB rfl))) (bR rfl) (fun _ _ _ _ _ _=>cw) (fun _ _ _ _ _ _=>(nQ fC fC al (pv 0) al))) ae))))),?_⟩
 try dsimp only [xS,xw]
 refine ⟨_,rfl,_,_,_,rfl,.str z,uH,_,rfl,?_⟩;refine aS ?_;refine ⟨_,rfl,_,rfl,ai (by omega),_,_,rfl,rfl,_,rfl,?_⟩;refine cA (fun c1=>?_) (fun c1=>?_)
 · have EN:1<=(z.length:Int):=of_decide_eq_true c1;refine ⟨_,_,rfl,rfl,_,rfl,?_⟩;refine cA (fun c2=>?_) (fun c2=>?_)
   · have kk:=k H (.refl _)
     have e:aw z=false:=by
      unfold aw;rw [decide_eq_false (fun h=>?_)]
      · rfl
      · rw [decide_eq_true (show (z.length:Int)<=8 by omega)] at c2;cases c2
     rw [e] at kk;exact kk
   · have DC:z.length<=8:=by
      by_cases h:z.length<=8
      · exact h
      · rw [decide_eq_false (show ¬ (z.length:Int)<=8 by omega)] at c2;exact absurd rfl c2
     have e:aw z=low z:=by
      unfold aw;rw [decide_eq_true (show 1<=z.length/\z.length<=8 from ⟨by omega,DC⟩)];rfl
     rw [e] at k;refine ⟨_,rfl,z,rfl,pe (fun c=>decide (97<=c/\c<=122)) (by show z.length<=100000;exact hz) (fun c H1 Q' W' _ hQ=>?_) (fun D H' hD s1 e1=>?_)⟩
     · refine ⟨_,rfl,_,_,rfl,rfl,_,rfl,?_⟩;rw [show (MW "a").cps.toList=[97] by decide +kernel];rw [lW 97 c];refine cA (fun d1=>?_) (fun d1=>?_)
       · have Gb:97<=c:=of_decide_eq_true d1;refine ⟨_,_,rfl,rfl,?_⟩;rw [show (MW "z").cps.toList=[122] by decide +kernel,lW c 122];have e2:decide (97<=c/\c<=122)=decide (c<=122):=by simp [Gb]
         rw [e2] at hQ;exact hQ
       · have Gb:¬ 97<=c:=fun z=>d1 (decide_eq_true z);have e2:decide (97<=c/\c<=122)=false:=decide_eq_false fun z=>Gb z.1;rw [e2] at hQ;exact hQ
     · refine ⟨D,_,rfl,SqL.of e1,?_⟩;rw [show ((z.cps.toList.map fun c=>decide (97<=c/\c<=122)).all id)=low z by unfold low;rw [List.all_map];rfl];exact k H' s1
 · have kk:=k H (.refl _)
   have e:aw z=false:=by
    unfold aw;rw [decide_eq_false (fun h=>c1 (decide_eq_true (by omega)))];rfl
   rw [e] at kk;refine ⟨_,rfl,aZ ?_⟩;exact kk
def ba (k:Nd×Int):Bool:=aw k.1 && decide (0<=k.2/\k.2<4)
inductive i9 (vs:List V) (H:Hp) (Q:VK) (_E:XK):Prop
 | mk (a:M5) (k:Nd×Int) (xB:vs=[.ref a]) (xC:H a=some (.tup [.str k.1,.int k.2])) (xG:k.1.length<=100000) (xT:∀ H',L2.Same H H'->Q (.bl (ba k)) H'):i9  vs H Q _E
def jK:Sp:=i9
theorem pc:FnOk P w K mg base CX0 3 T.g_is_kind.f T.g_is_kind.d ["pair"] jK:=by
 refine T.g_is_kind.F.ok o3 (fun vs H Q E h=>?_) (fun xy A outer s H vs Q E hr h=>?_)
 · obtain ⟨a,z,rfl,_⟩:=h;rfl
 obtain ⟨a,⟨z,n⟩,rfl,ha,hz,k⟩:=h;refine ⟨_,(af (ay (ck (bw di (az aA rfl T.n_len NO (aa (pv 0) ae)) ag (ar _)) (ck (pcF T.g_is_name (f9 T) hr (aa (aI bX (pv 0) ag (fun _ _=>rfl)) ae)) (cn (pcF T.g_is_below (fg T) hr (aa (aI bX (pv 0) ag (fun _ _=>rfl)) (aa (ao gj (bV (v:=.int (3)) rfl T.c_MOST_KIDS.choose_spec ⟨_,rfl⟩) ag) ae)))))))),?_⟩
 try dsimp only [xS,xw]
 refine ⟨_,rfl,a,_,rfl,.inr (SqT.of ha),rfl,_,rfl,?_⟩;refine aZ ?_;refine ⟨_,rfl,a,_,0,.str z,rfl,rfl,SqT.of ha,at0,z,rfl,hz,fun H1 s1=>?_⟩;refine ⟨_,rfl,?_⟩;refine cA (fun c=>?_) (fun c=>?_)
 · refine ⟨_,rfl,a,_,1,.int n,rfl,rfl,SqT.of (s1 _ _ ha),at1,_,_,rfl,rfl,n,_,rfl,?_⟩;have kk:=k H1 s1;unfold ba at kk;rw [show aw z=true from c,N8] at kk;exact kk
 · have kk:=k H1 s1;unfold ba at kk;have c':aw z=false:=OI.mpr c;rw [c',Rr] at kk;exact kk
def aP (ks:List (Nd×Int)):Bool:=decide (1<=ks.length/\ks.length<=8) && (ks.all ba && (decide ((ks.map (·.1)).Nodup) && decide ((0:Int)∈ks.map (·.2))))
inductive fP (K:MY) (vs:List V) (H:Hp) (Q:VK) (_E:XK):Prop
 | mk (kr:M5) (xP:List M5) (ks:List (Nd×Int)) (xB:vs=[.ref kr]) (xC:SqT K H kr (xP.map V.ref)) (xG:KsAt H ks xP) (xT:ks.length<=1000) (yu:(∀ k∈ks,k.1.length<=100000)) (zk:∀ H',L2.Same H H'->Q (.bl (aP ks)) H'):fP K vs H Q _E
def l4 (K:MY):Sp:=fP K
theorem lY:FnOk P w K mg base CX0 4 T.g_are_kinds.f T.g_are_kinds.d ["kinds"] (l4 K):=by
 refine T.g_are_kinds.F.ok g9 (fun vs H Q E h=>?_) (fun xy A outer s H vs Q E hr h=>?_)
 · obtain ⟨kr,xP,ks,rfl,_⟩:=h;rfl
 obtain ⟨kr,xP,ks,rfl,hK,yc,hlen,Gd,k⟩:=h
 refine ⟨_,(ad (aQ (PW.pt (eX (b8 (hZ eN eN ag (az aA rfl T.n_len NO (aa (pv 0) ae)) (bV (v:=.int (8)) rfl T.c_MOST_KINDS.choose_spec ⟨_,rfl⟩))) (ef (b8 (aU (az (mY rfl) rfl T.n_all PyProof.Rows.boot_all (aa (cv (N:=[MW "pair"]) (js:=[none]) (g:=(aE 0)) (tt:=bt) (te:=(nH jK [] E0 (cz (cx 0) gm))) rfl (dL rfl (by decide +kernel) (by decide +kernel) rfl rfl rfl) (io (pv 0)) (fun _ _ _ _ _ _=>(aD (i:=0) t4 rfl (NB rfl))) (bR rfl) (fun _ _ _ _ _ _=>cw) (fun _ _ _ _ _ _=>(pcF T.g_is_kind (pc T) hr (aa (pv 0) ae)))) ae)) (fun _=>rfl)))))) (af (ay eA)) aC)
  (ad (mK (i:=1) (N:=[MW "pair"]) (js:=[none]) (g:=(aE 0)) (tt:=bt) (te:=(tOp (vd K) (cx 0) (tC (.int 0)))) g9.nd rfl (NB rfl) rfl (dL rfl (by decide +kernel) (by decide +kernel) rfl rfl rfl) (io (pv 0)) (fun _ _ _ _ _ _=>(aD (i:=0) t4 rfl (NB rfl))) (bR rfl) (fun _ _ _ _ _ _=>cw) (fun _ _ _ _ _ _=>(aI bX (pv 0) ag (fun _ _=>rfl))))
  (af (ay (ck (bw di (az qG rfl T.n_len NO (aa (bH (qo rfl) rfl T.n_set PyProof.Rows.boot_set (aa (pv 1) ae)) ae)) (az aA rfl T.n_len NO (aa (pv 1) ae)) (ar _)) (cn (bw lg ag (cv (N:=[MW "pair"]) (js:=[none]) (g:=(aE 0)) (tt:=bt) (te:=(tOp (vd K) (cx 0) (tC (.int 1)))) rfl (dL rfl (by decide +kernel) (by decide +kernel) rfl rfl rfl) (io (pv 0)) (fun _ _ _ _ _ _=>(aD (i:=0) t4 rfl (NB rfl))) (bR rfl) (fun _ _ _ _ _ _=>cw) (fun _ _ _ _ _ _=>(aI bX (pv 0) ag (fun _ _=>rfl)))) (by with_unfolding_all rfl)))))))),?_⟩
 try dsimp only [xS,xw]
 have zR:ks.length=xP.length:=N3 yc;refine ⟨_,rfl,kr,_,rfl,.inr hK,_,_,rfl,rfl,_,rfl,?_⟩;rw [MX,<- zR]
 have xU:∀ Hx,L2.Same H Hx->aP ks=false->Q (.bl false) Hx:=fun Hx sx e=>by
  have kk:=k Hx sx;rw [e] at kk;exact kk
 have bad:¬ (1<=ks.length/\ks.length<=8)->aP ks=false:=fun z=>by
  unfold aP;rw [decide_eq_false z];rfl
 refine cA (fun c1=>?_) (fun c1=>?_)
 · have EN:(1:Int)<=(ks.length:Int):=of_decide_eq_true c1;refine ⟨_,_,rfl,rfl,_,rfl,?_⟩;refine cA (fun c2=>?_) (fun c2=>?_)
   · refine aZ (xU H (.refl _) (bad fun z=>?_));rw [decide_eq_true (show (ks.length:Int)<=8 by omega)] at c2;cases c2
   · have DC:ks.length<=8:=by
      by_cases h:ks.length<=8
      · exact h
      · rw [decide_eq_false (show ¬ (ks.length:Int)<=8 by omega)] at c2;exact absurd rfl c2
     have Ao:aP ks=(ks.all ba && (decide ((ks.map (·.1)).Nodup) && decide ((0:Int)∈ks.map (·.2)))):=by
      unfold aP;rw [decide_eq_true (show 1<=ks.length/\ks.length<=8 from ⟨by omega,DC⟩)];rfl
     refine ⟨_,rfl,kr,rfl,⟨_,hK⟩,dt ks (fun k=>V.bl (ba k)) hK (by rw [MX];exact zR) (by rw [MX];omega) (fun i x z H2 R W' hx hz s2 hR=>?_) (fun D H1 hD s1 e1=>?_)⟩
     · obtain ⟨ka,rfl,zg⟩:=bP hx;obtain ⟨z',yY,ez⟩:=P2.get' yc zg;rw [hz] at yY;cases yY;exact ⟨_,rfl,ka,z,rfl,s2 _ _ ez,Gd z (Nu hz),fun H3 s3=>hR H3 s3⟩
     · have Ge:ks.map (fun k=>V.bl (ba k))=(ks.map ba).map V.bl:=by rw [O4];rfl
       rw [Ge] at e1;refine ⟨D,_,rfl,SqL.of e1,_,rfl,?_⟩;rw [show (ks.map ba).all id=ks.all ba by rw [List.all_map];rfl];refine cA (fun c3=>?_) (fun c3=>?_)
       · refine xU H1 s1 ?_;rw [Ao]
         have:ks.all ba=false:=by
          cases h:ks.all ba with
          | false=>rfl
          | true=>rw [h] at c3;cases c3
         rw [this];rfl
       · have xH:ks.all ba=true:=by
          cases h:ks.all ba with
          | true=>rfl
          | false=>rw [h] at c3;exact absurd rfl c3
         rw [xH,N8] at Ao;have Gf:=yc.mono (Same.kt s1);refine ⟨_,rfl,kr,rfl,⟨_,s1.seqT hK⟩,dt ks (fun k=>V.str k.1) (s1.seqT hK) (by rw [MX];exact zR) (by rw [MX];omega) (fun i x z H2 R W' hx hz s2 hR=>?_) (fun D1 H2 MJ s2 e2=>?_)⟩
         · obtain ⟨ka,rfl,zg⟩:=bP hx;obtain ⟨z',yY,ez⟩:=P2.get' Gf zg;rw [hz] at yY;cases yY;exact ⟨_,rfl,ka,_,0,.str z.1,rfl,rfl,SqT.of (s2 _ _ ez),at0,hR H2 (.refl _)⟩
         · have en:ks.map (fun k=>V.str k.1)=(ks.map (·.1)).map V.str:=by rw [O4];rfl
           rw [en] at e2;have zr:=s1.trans s2;refine ⟨_,rfl,D1,ks.map (·.1),rfl,SqL.of e2,by rw [MX];omega,fun sa KP=>?_⟩;have s3:=fun o:HO=>aj KP o;have yR:=fun o:HO=>zr.trans (s3 o);refine ⟨sa,ks.map (·.1),rfl,ac,_,rfl,D1,_,rfl,.inl (SqL.of (s3 _ _ _ e2)),rfl,_,rfl,?_⟩;have Bt:=ny (ks.map (·.1)) (ks.map (·.1)).length (M8 _);rw [QB] at Bt;refine cA (fun c4=>?_) (fun c4=>?_)
           · have KQ:((dn (ks.map (·.1)) (ks.map (·.1)).length:Nat):Int)=(((ks.map (·.1)).map V.str).length:Int):=V.int.inj (of_decide_eq_true c4);rw [MX (f:=V.str)] at KQ;have KR:=Bt.mp (by omega);rw [decide_eq_true KR,N8] at Ao;refine ⟨_,rfl,kr,rfl,⟨_,(yR _).seqT hK⟩,dt ks (fun k=>V.int k.2) ((yR _).seqT hK) (by rw [MX];exact zR) (by rw [MX];omega) (fun i x z H4 R W' hx hz s4 hR=>?_) (fun D3 H4 MK s4 e4=>?_)⟩
             · obtain ⟨ka,rfl,zg⟩:=bP hx;obtain ⟨z',yY,ez⟩:=P2.get' (yc.mono (Same.kt ((yR _).trans s4))) zg;rw [hz] at yY;cases yY;exact ⟨_,rfl,ka,_,1,.int z.2,rfl,rfl,SqT.of ez,at1,hR H4 (.refl _)⟩
             · have Er:inV (.int 0) (ks.map fun k=>V.int k.2)=decide ((0:Int)∈ks.map (·.2)):=by
                unfold inV;rw [List.any_map];by_cases h:(0:Int)∈ks.map (·.2)
                · rw [decide_eq_true h];obtain ⟨k',zf,e'⟩:=O3.mp h;exact List.any_eq_true.mpr ⟨k',zf,by show eqV (.int k'.2) (.int 0)=true;rw [e'];rfl⟩
                · rw [decide_eq_false h];refine OI.mpr fun z=>h ?_;obtain ⟨k',zf,e'⟩:=List.any_eq_true.mp z;have zY:eqV (.int k'.2) (.int 0)=true:=e';exact O3.mpr ⟨k',zf,by simpa [eqV] using zY⟩
               refine ⟨D3,_,rfl,.inl (SqL.of e4),rfl,?_,?_⟩
               · rw [List.all_map];exact Oa.mpr fun _ _=>rfl
               · have kk:=k H4 ((yR _).trans s4);rw [Ao,<- Er] at kk;exact kk
           · refine xU _ (yR _) ?_;rw [Ao,decide_eq_false (fun z=>c4 (decide_eq_true ?_))]
             · rfl
             · show V.int ((dn (ks.map (·.1)) (ks.map (·.1)).length:Nat):Int)=V.int (((ks.map (·.1)).map V.str).length:Int);rw [Bt.mpr z,MX (f:=V.str)]
 · refine ⟨_,rfl,aZ (xU H (.refl _) (bad fun z=>c1 (decide_eq_true (by omega))))⟩
def iP (K:MY) (H:Hp) (ks:List (Nd×Int)) (a:M5) (xP:List M5):Prop:=(SqL K H a (xP.map V.ref)∨SqT K H a (xP.map V.ref))/\KsAt H ks xP/\ks.length<=1000/\∀ k∈ks,k.1.length<=100000
inductive fR (K:MY) (C:M5) (vs:List V) (H:Hp) (Q:VK) (E:XK):Prop
 | mk (pr:M5) (xP:List M5) (ks:List (Nd×Int)) (xB:vs=[.ref pr]) (xC:iP K H ks pr xP) (xG:(aP ks=true->∀ (r:M5) (H':Hp),L2.Same H H'->H' r=some (.tup (xP.map V.ref))->Q (.ref r) H')) (xT:(aP ks=false->∀ H',L2.Same H H'->E (.ref C) none H')):fR K C vs H Q E
def mD (K:MY) (C:M5):Sp:=fR K C
theorem l5 {σ:St} {H:Hp} {ks:List (Nd×Int)} {pr:M5} {xP:List M5} {fin:M5->Hp->Prop} (h:iP K H ks pr xP) (hq:∀ D H',L2.Same H H'->H' D=some (.lst (xP.map V.ref))->fin D H') :
 ((∃ xs,SqL K H pr xs)/\∀ D,H D=none->∃ (n:Nat) (W:Nat->Hp->Prop),W 0 (upd H D (.lst []))/\dU [none] (aE 0) bt (tCB (fun xs H Q=>∃ p ys,xs=[.ref p]/\((SqL K H p ys/\∀ l,H l=none->Q (.ref l) (upd H l (.tup ys)))∨(SqT K H p ys/\Q (.ref p) H))) (cz (cx 0) gm)) σ (Itl K pr) D n W fun H'=>fin D H') ∨
 ((∃ xs,SqT K H pr xs)/\∀ D,H D=none->∃ (n:Nat) (W:Nat->Hp->Prop),W 0 (upd H D (.lst []))/\dU [none] (aE 0) bt (tCB (fun xs H Q=>∃ p ys,xs=[.ref p]/\((SqL K H p ys/\∀ l,H l=none->Q (.ref l) (upd H l (.tup ys)))∨(SqT K H p ys/\Q (.ref p) H))) (cz (cx 0) gm)) σ (Itt K pr) D n W fun H'=>fin D H'):=by
 obtain ⟨hS,yc,hlen,_⟩:=h;have zR:ks.length=xP.length:=N3 yc
 have step:∀ (i:Nat) (x:V) (z:M5) (H2:Hp) (R:VK) (W':Hp->Prop),(xP.map V.ref)[i]?=some x->xP[i]?=some z->L2.Same H H2->(∀ H3,L2.Same H2 H3->R (.ref z) H3) →
  aE 0 x (cσ [none] σ) H2 fun xD H3=>bt xD H3 fun b H4=>if b=true then (tCB (fun xs H Q=>∃ p ys,xs=[.ref p]/\((SqL K H p ys/\∀ l,H l=none->Q (.ref l) (upd H l (.tup ys)))∨(SqT K H p ys/\Q (.ref p) H))) (cz (cx 0) gm)) xD H4 R else W' H4:=by
  intro i x z H2 R W' hx hz s2 hR;obtain ⟨ka,rfl,zg⟩:=bP hx;rw [hz] at zg;cases zg;obtain ⟨z',yY,ez⟩:=P2.get' yc hz;exact ⟨_,rfl,z,_,rfl,.inr ⟨SqT.of (s2 _ _ ez),hR H2 (.refl _)⟩⟩
 rcases hS with hS | hS
 · exact .inl ⟨⟨_,hS⟩,md xP V.ref hS (by rw [MX]) (by rw [MX];omega) step fun D H' hD s1 e1=>hq D H' s1 e1⟩
 · exact .inr ⟨⟨_,hS⟩,dt xP V.ref hS (by rw [MX]) (by rw [MX];omega) step fun D H' hD s1 e1=>hq D H' s1 e1⟩
theorem gI:FnOk P w K mg base (CX1 P w) 5 T.g_kinds_of.f T.g_kinds_of.d ["pairs"] (mD K T.e_NoKinds):=by
 refine T.g_kinds_of.F.ok1 iZ (fun vs H Q E h=>?_) (fun xy A outer s H vs Q E hr h=>?_)
 · obtain ⟨pr,xP,ks,rfl,_⟩:=h;rfl
 obtain ⟨pr,xP,ks,rfl,hp,k1,k2⟩:=h
 refine ⟨_,(ad (av (i:=1) iZ.nd rfl (NB rfl) (bH bT rfl T.n_tuple Oy (aa (cv (N:=[MW "pair"]) (js:=[none]) (g:=(aE 0)) (tt:=bt) (te:=(tCB (fun xs H Q=>∃ p ys,xs=[.ref p]/\((SqL K H p ys/\∀ l,H l=none->Q (.ref l) (upd H l (.tup ys)))∨(SqT K H p ys/\Q (.ref p) H))) (cz (cx 0) gm))) rfl (dL rfl (by decide +kernel) (by decide +kernel) rfl rfl rfl) (sB (pv 0)) (fun _ _ _ _ _ _=>(aD (i:=0) t4 rfl (NB rfl))) (bR rfl) (fun _ _ _ _ _ _=>cw) (fun _ _ _ _ _ _=>(bH bT rfl T.n_tuple Oy (aa (pv 0) ae)))) ae)))
  (ad (aQ (b8 (aU (pcF T.g_are_kinds (lY T) hr (aa (pv 1) ae)) (fun _=>rfl))) (af (bx T.X_NoKinds T.x_NoKinds al)) aC)
  (af (ay (pv 1))))),?_⟩
 try dsimp only [xS,xw]
 refine ⟨_,rfl,pr,rfl,l5 hp fun D H1 s1 e1=>?_⟩;refine ⟨D,_,rfl,.inl ⟨SqL.of e1,fun r xY=>?_⟩⟩;have s2:=s1.trans (aj xY (.tup (xP.map V.ref)));refine hid fun ZZ kZ=>?_;obtain ⟨hS,yc,hlen,Gd⟩:=hp;refine kZ ?_;refine ⟨_,rfl,r,xP,ks,rfl,SqT.of ac,yc.mono (Same.kt s2),hlen,Gd,fun H3 s3=>?_⟩;refine ⟨_,rfl,?_⟩;cases hok:aP ks with
 | false=>exact aZ (k2 hok H3 (s2.trans s3))
 | true=>exact aS ⟨_,rfl,k1 hok r H3 (s2.trans s3) (s3 _ _ ac)⟩
inductive i5 (K:MY) (vs:List V) (H:Hp) (Q:VK) (_E:XK):Prop
 | mk (kr:M5) (xP:List M5) (ks:List (Nd×Int)) (n:Nd) (xB:vs=[.ref kr,.str n]) (xC:SqT K H kr (xP.map V.ref)) (xG:KsAt H ks xP) (xT:Q (.int (bn ks n)) H):i5 K vs H Q _E
def om (K:MY):Sp:=i5 K
theorem oz:FnOk P w K mg base CX0 1 T.g_many_of.f T.g_many_of.d ["kinds","name"] (om K):=by
 refine T.g_many_of.F.ok gu (fun vs H Q E h=>?_) (fun xy A outer s H vs Q E hr h=>?_)
 · obtain ⟨kr,xP,ks,n,rfl,_⟩:=h;rfl
 obtain ⟨kr,xP,ks,n,rfl,hK,yc,k⟩:=h
 refine ⟨_,(ad (dD Pg rfl (io (pv 0)) (iS rfl (bg (aD (i:=2) gu.nd rfl (NB rfl)) (bg (aD (i:=3) gu.nd rfl (NB rfl)) d3))) (af (aQ (ax di (pv 2) (pv 1) (ar _)) (af (ay (pv 3))) aC)))
  (af (ay (lC iA ag)))),?_⟩
 try dsimp only [xS,xw]
 refine ⟨_,rfl,kr,rfl,⟨_,hK⟩,?_⟩;have zR:ks.length=xP.length:=N3 yc;refine pK (K:=K) (a:=kr) (xs:=xP.map V.ref) (fun i σ H2=>Ex2 fun c1 c2=>An3 (σ=[some (.ref kr),some (.str n),c1,c2]) (H2=H) (bn ks n=bn (ks.drop i) n)) ⟨none,none,rfl,rfl,by rw [OW]⟩ (fun i σ H2 _ ⟨_,_,_,e,_⟩=>by rw [e];exact hK) ?_ ?_
 · rintro i x σ H2 hx ⟨c1,c2,rfl,rfl,hm⟩;obtain ⟨ka,rfl,zg⟩:=bP hx;obtain ⟨kd,Gg,KS⟩:=P2.get' yc zg;have hi:i<ks.length:=(Nl.mp Gg).1
   have hd:ks.drop i=kd::ks.drop (i+1):=by
    rw [OZ hi];congr 1;rw [M3 hi] at Gg;exact Nh Gg
   rw [hd,bn] at hm;refine ⟨ka,_,rfl,SqT.of KS,rfl,_,_,rfl,_,_,rfl,rfl,?_⟩;refine ⟨_,rfl,_,rfl,rfl,_,rfl,?_⟩;refine cA (fun c=>?_) (fun c=>?_)
   · have c':kd.1=n:=V.str.inj (of_decide_eq_true c);rw [if_pos c'] at hm;rw [hm] at k;exact ⟨_,rfl,k⟩
   · have c':¬ kd.1=n:=fun z=>c (decide_eq_true (congrArg V.str z));rw [if_neg c'] at hm;exact ⟨_,_,rfl,rfl,hm⟩
 · rintro σ H2 ⟨c1,c2,rfl,rfl,hm⟩;rw [MX,<- zR,List.drop_length,bn] at hm;rw [hm] at k;exact ⟨_,rfl,k⟩
inductive dS (K:MY) (vs:List V) (H:Hp) (Q:VK) (_E:XK):Prop
 | mk (kr a:M5) (xP:List M5) (ks:List (Nd×Int)) (t:Th) (st kd:Int) (xB:vs=[.ref kr,.ref a,.int st,.int kd]) (xC:SqT K H kr (xP.map V.ref)) (xG:KsAt H ks xP) (xT:At H t a) (yu:t.size<=100000) (zk:∀ H',L2.Same H H'->Q (.bl (fpb ks st kd t)) H'):dS K vs H Q _E
def jf (K:MY):Sp:=dS K
theorem jj:FnOk P w K mg base CX0 3 T.g_fits_pattern.f T.g_fits_pattern.d ["kinds","pattern","states","kids"] (jf K):=by
 refine T.g_fits_pattern.F.ok ej (fun vs H Q E h=>?_) (fun xy A outer s H vs Q E hr h=>?_)
 · obtain ⟨kr,a,xP,ks,t,st,kd,rfl,_⟩:=h;rfl
 obtain ⟨kr,a,xP,ks,t,st,kd,rfl,hK,yc,hA,xQ,k⟩:=h
 refine ⟨_,(ad (dD Pg rfl (d2 (pcF T.g_walked (qf T) hr (aa (pv 1) ae))) (aD (i:=4) ej.nd rfl (NB rfl)) (af (aQ (aU (pcF T.g_is_call (gD T) hr (aa (pv 4) ae)) (fun _=>rfl)) (af (aQ (PW.pt (eX (b8 (aU (pcF T.g_is_below (fg T) hr (aa (aI bX (pv 4) ag (fun _ _=>rfl)) (aa (pv 2) ae))) (fun _=>rfl))) (ef (b8 (aU (pcF T.g_is_below (fg T) hr (aa (aI bX (pv 4) ag (fun _ _=>rfl)) (aa (pv 3) ae))) (fun _=>rfl)))))) (af (ay eA)) aC)) (af (aQ (ax cf (pcF T.g_many_of (oz T) hr (aa (pv 0) (aa (aI bX (pv 4) ag (fun _ _=>rfl)) ae))) (ao rX (az aA rfl T.n_len NO (aa (pv 4) ae)) ag) (ar _)) (af (ay eA)) aC)))))
  (af (ay eA))),?_⟩
 try dsimp only [xS,xw]
 refine ⟨_,rfl,a,t,rfl,hA,xQ,fun r as H1 s1 nr er hw=>⟨r,rfl,⟨_,SqL.of er⟩,?_⟩⟩;have zD:as.length=t.walk.length:=hw.length
 refine kl (K:=K) (a:=r) (xs:=as.map V.ref) (fun i σ H2=>Ex1 fun c=>An3 (σ=[some (.ref kr),some (.ref a),some (.int st),some (.int kd),c]) (L2.Same H1 H2) ((t.walk.take i).all (okP ks st kd)=true))
  ⟨none,rfl,.refl _,by rw [Qo];rfl⟩ (fun i σ H2 _ ⟨_,_,s2,_⟩=>SqL.of (s2 _ _ er)) ?_ ?_
 · rintro i x σ H2 hx ⟨c,rfl,s2,xH⟩;obtain ⟨xa,rfl,KU⟩:=bP hx;obtain ⟨tx,Ie,Gh⟩:=hw.get KU;have Gi:=Gh.mono (Same.kt s2);have zr:=s1.trans s2;have Eo:t.walk.take (i+1)=t.walk.take i++[tx]:=by rw [Qp,Ie];rfl
   have xU:okP ks st kd tx=false->fpb ks st kd t=false:=by
    intro z;unfold fpb;rw [OI];intro y;rw [Oa] at y;rw [y tx (Nu Ie)] at z;cases z
   have AV:okP ks st kd tx=true->(t.walk.take (i+1)).all (okP ks st kd)=true:=by
    intro z;rw [Eo,List.all_append,xH];simp [z]
   refine ⟨_,rfl,xa,tx,rfl,Gi,_,rfl,?_⟩;cases tx with
   | call sn kn =>
     refine aZ ?_;have zJ:=Gi;rw [At] at zJ;refine ⟨_,rfl,xa,_,1,_,rfl,rfl,SqT.of zJ,at1,_,rfl,sn,st,rfl,_,rfl,?_⟩;refine cA (fun c1=>?_) (fun c1=>?_)
     · have e:fpb ks st kd t=false:=xU (by rw [okP];rw [RV] at c1;rw [c1];rfl);have:=k H2 zr;rw [e] at this;exact aZ this
     · refine ⟨_,rfl,xa,_,2,_,rfl,rfl,SqT.of zJ,at2,_,rfl,kn,kd,rfl,_,rfl,?_⟩
       have EN:decide (0<=sn/\sn<st)=true:=by
        cases h:decide (0<=sn/\sn<st) with
        | true=>rfl
        | false=>rw [h] at c1;exact absurd rfl c1
       refine cA (fun c2=>?_) (fun c2=>?_)
       · have e:fpb ks st kd t=false:=xU (by rw [okP];rw [RV] at c2;rw [EN,c2];rfl);have:=k H2 zr;rw [e] at this;exact this
       · have DC:decide (0<=kn/\kn<kd)=true:=by
          cases h:decide (0<=kn/\kn<kd) with
          | true=>rfl
          | false=>rw [h] at c2;exact absurd rfl c2
         exact ⟨_,rfl,s2,AV (by rw [okP,EN,DC];rfl)⟩
   | knot nm us =>
     refine aS ?_;have zJ:=Gi;rw [At] at zJ;refine hid fun ZZ kZ=>?_;obtain ⟨Ig,ka,ek,zg⟩:=zJ;refine kZ ?_;have zR:ka.length=us.length:=zg.length;refine ⟨_,rfl,_,rfl,xa,_,0,.str nm,rfl,rfl,SqT.of ek,at0,kr,xP,ks,nm,rfl,zr.seqT hK,yc.mono (Same.kt zr),_,rfl,xa,_,rfl,.inr (SqT.of ek),_,_,rfl,rfl,rfl,_,rfl,?_⟩;have hlen:((V.str nm::ka.map V.ref).length:Int) - 1=(us.length:Int):=by rw [MZ,MX,zR];omega
     refine cA (fun c=>?_) (fun c=>?_)
     · have hm:¬ bn ks nm=((us.length:Nat):Int):=fun z=>wk c (by rw [z,<- hlen]);have e:fpb ks st kd t=false:=xU (by rw [okP];exact decide_eq_false hm);have:=k H2 zr;rw [e] at this;exact this
     · have hm:bn ks nm=((us.length:Nat):Int):=by
        have:=V.int.inj (vj c);rw [this];exact hlen
       exact ⟨_,rfl,s2,AV (by rw [okP];exact decide_eq_true hm)⟩
 · rintro σ H2 ⟨c,rfl,s2,xH⟩;rw [MX,zD,QB] at xH;have e:fpb ks st kd t=true:=xH;have:=k H2 (s1.trans s2);rw [e] at this;exact this
def dH (outs:List (Nd×Int)) (st kd:Int) (t:Th):Prop:=Small t/\fpb outs st kd t=true
instance (outs:List (Nd×Int)) (st kd:Int) (t:Th):Decidable (dH outs st kd t):=inferInstanceAs (Decidable (_/\_))
inductive cV (K:MY) (C:M5) (vs:List V) (H:Hp) (Q:VK) (E:XK):Prop
 | mk (oa pa:M5) (yl:List M5) (outs:List (Nd×Int)) (t:Th) (st kd:Int) (xB:vs=[.ref oa,.ref pa,.int st,.int kd]) (xC:SqT K H oa (yl.map V.ref)) (xG:KsAt H outs yl) (xT:At H t pa) (yu:t.size<=100000) (zk:(dH outs st kd t->∀ H',L2.Same H H'->Q .non H')) (Bf:(¬ dH outs st kd t->∀ H',L2.Same H H'->E (.ref C) none H')):cV K C vs H Q E
def hV (K:MY) (C:M5):Sp:=cV K C
theorem du:FnOk P w K mg base (CX1 P w) 5 T.g_check_pattern.f T.g_check_pattern.d ["outs","pattern","states","kids"] (hV K T.e_NoBook):=by
 refine T.g_check_pattern.F.ok1 iH (fun vs H Q E h=>?_) (fun xy A outer s H vs Q E hr h=>?_)
 · obtain ⟨oa,pa,yl,outs,t,st,kd,rfl,_⟩:=h;rfl
 obtain ⟨oa,pa,yl,outs,t,st,kd,rfl,hS,yc,hA,xQ,q1,q2⟩:=h
 refine ⟨_,(ad (aQ (b8 (aU (pcF T.g_is_small (mP T) hr (aa (pv 1) ae)) (fun _=>rfl))) (af (bx T.X_NoBook T.x_NoBook al)) aC)
  (af (aQ (b8 (aU (pcF T.g_fits_pattern (jj T) hr (aa (pv 0) (aa (pv 1) (aa (pv 2) (aa (pv 3) ae))))) (fun _=>rfl))) (af (bx T.X_NoBook T.x_NoBook al)) aC))),?_⟩
 try dsimp only [xS,xw]
 refine ⟨_,rfl,pa,t,rfl,hA,xQ,fun H1 s1=>⟨_,rfl,?_⟩⟩;by_cases c1:Small t
 · rw [decide_eq_true c1];refine aS ?_;refine ⟨_,rfl,_,rfl,_,rfl,_,rfl,oa,pa,yl,outs,t,st,kd,rfl,s1.seqT hS,yc.mono (Same.kt s1),hA.mono (Same.kt s1),xQ,fun H2 s2=>⟨_,rfl,?_⟩⟩;cases c2:fpb outs st kd t with
   | true=>exact aS (q1 ⟨c1,c2⟩ H2 (s1.trans s2))
   | false=>exact aZ (q2 (fun z=>by rw [z.2] at c2;cases c2) H2 (s1.trans s2))
 · rw [decide_eq_false c1];exact aZ (q2 (fun z=>c1 z.1) H1 s1)
def gP (ins outs:List (Nd×Int)) (st:Int) (row:List Th):Prop:=row.length=ins.length/\∀ (j:Nat) (t:Th) (k:Nd×Int),row[j]?=some t->ins[j]?=some k->dH outs st k.2 t
inductive dW (K:MY) (C:M5) (vs:List V) (H:Hp) (Q:VK) (E:XK):Prop
 | mk (ia oa ra:M5) (ye yl xv:List M5) (ins outs:List (Nd×Int)) (row:List Th) (st:Int) (xB:vs=[.ref ia,.ref oa,.ref ra,.int st]) (xC:SqT K H ia (ye.map V.ref)) (xG:KsAt H ins ye) (xT:SqT K H oa (yl.map V.ref)) (yu:KsAt H outs yl) (zk:H ra=some (.tup (xv.map V.ref))) (Bf:Ats H row xv) (Eu:(∀ t∈row,t.size<=100000)) (Ih:(gP ins outs st row->∀ H',L2.Same H H'->Q .non H')) (Ii:(¬ gP ins outs st row->∀ H',L2.Same H H'->E (.ref C) none H')):dW K C vs H Q E
def jm (K:MY) (C:M5):Sp:=dW K C
theorem ji:FnOk P w K mg base (CX1 P w) 6 T.g_check_state.f T.g_check_state.d ["ins","outs","patterns","states"] (jm K T.e_NoBook):=by
 refine T.g_check_state.F.ok1 cW (fun vs H Q E h=>?_) (fun xy A outer s H vs Q E hr h=>?_)
 · obtain ⟨ia,oa,ra,ye,yl,xv,ins,outs,row,st,rfl,_⟩:=h;rfl
 obtain ⟨ia,oa,ra,ye,yl,xv,ins,outs,row,st,rfl,hI,AX,hO,Ct,er,xE,xQ,q1,q2⟩:=h
 refine ⟨_,(ad (aQ (ax cf (az aA rfl T.n_len NO (aa (pv 2) ae)) (az aA rfl T.n_len NO (aa (pv 0) ae)) (ar _)) (af (bx T.X_NoBook T.x_NoBook al)) aC)
  (af (dD QH rfl (vk rfl T.n_zip (aa (pv 0) (aa (pv 2) ae))) (iS rfl (bg (aD (i:=4) cW.nd rfl (NB rfl)) (bg (aD (i:=5) cW.nd rfl (NB rfl)) d3))) (af (bi (aY (du T) (hr.mono (by first | decide | omega)) rfl T.g_check_pattern.m T.g_check_pattern.F.kp T.g_check_pattern.b .nil cD (aa (pv 1) (aa (pv 5) (aa (pv 3) (aa (aI bX (pv 4) ag (fun _ _=>rfl)) ae)))))))))),?_⟩
 try dsimp only [xS,xw]
 have zp:ins.length=ye.length:=N3 AX;have DD:xv.length=row.length:=xE.length;refine ⟨_,rfl,ra,_,rfl,.inr (SqT.of er),_,rfl,ia,_,rfl,.inr hI,rfl,_,rfl,?_⟩;refine cA (fun c=>?_) (fun c=>?_)
 · refine q2 (fun z=>?_) H (.refl _)
   have hz:((xv.map V.ref).length:Int)=((ye.map V.ref).length:Int):=by
    rw [MX,MX];have:=z.1;omega
   rw [hz] at c;simp at c
 · have hlen:row.length=ins.length:=by
    by_cases z:V.int ((xv.map V.ref).length:Int)=V.int ((ye.map V.ref).length:Int)
    · have z':=V.int.inj z;rw [MX,MX] at z';omega
    · exact absurd (by simpa using z) c
   refine ⟨_,rfl,_,rfl,ia,ra,rfl,⟨_,hI⟩,⟨_,SqT.of er⟩,?_⟩
   refine vF ins.length (fun j σ H7=>Ex2 fun c4 c5=>An3 (σ=[some (.ref ia),some (.ref oa),some (.ref ra),some (.int st),c4,c5]) (L2.Same H H7) (∀ (j':Nat) (t:Th) (k:Nd×Int),j'<j->row[j']?=some t->ins[j']?=some k->dH outs st k.2 t))
    ⟨none,none,rfl,.refl _,fun j' t k h=>absurd h (Nat.not_lt_zero _)⟩ (fun j σ H7 hj ⟨_,_,_,s7,_⟩=>⟨_,_,_,_,s7.seqT hI,SqT.of (s7 _ _ er),M3 (by rw [MX];omega),M3 (by rw [MX];omega)⟩) (fun σ H7 ⟨_,_,_,s7,_⟩=>⟨_,_,s7.seqT hI,SqT.of (s7 _ _ er),.inl (by rw [MX];omega)⟩) ?_ ?_
   · rintro j x σ H7 H8 hj ⟨c4,c5,rfl,s7,xH⟩ ⟨p2,x1,y1,FW,rfl,rfl,Am,EO⟩;refine hid fun ZZ kZ=>?_;obtain ⟨ka,rfl,zg⟩:=bP (Am _ (s7.seqT hI));obtain ⟨ta,rfl,KW⟩:=bP (EO _ (SqT.of (s7 _ _ er)));obtain ⟨k,hk,ek⟩:=P2.get' AX zg;obtain ⟨t,ht,zh⟩:=xE.get KW;refine kZ ?_;have s8:L2.Same H7 (upd H7 p2 (.tup [.ref ka,.ref ta])):=aj FW _;have e8:(upd H7 p2 (.tup [.ref ka,.ref ta])) p2=some (.tup [.ref ka,.ref ta]):=ac;generalize (upd H7 p2 (.tup [.ref ka,.ref ta]))=H8 at s8 e8 ⊢;have Cu:=s7.trans s8;refine ⟨p2,_,rfl,SqT.of e8,rfl,_,_,rfl,_,_,rfl,rfl,?_⟩;refine ⟨_,rfl,_,rfl,_,rfl,_,rfl,ka,_,1,_,rfl,rfl,SqT.of (Cu _ _ ek),at1,oa,ta,yl,outs,t,st,k.2,rfl,Cu.seqT hO,Ct.mono (Same.kt Cu),zh.mono (Same.kt Cu),xQ t (Nu ht),fun hok H9 s9=>?_,fun xU H9 s9=>?_⟩
     · refine ⟨_,_,rfl,Cu.trans s9,fun j' t' k' Bu Ap zf=>?_⟩;by_cases hz:j'<j
       · exact xH j' t' k' hz Ap zf
       · have:j'=j:=by omega
         subst this;rw [ht] at Ap;cases Ap;rw [hk] at zf;cases zf;exact hok
     · exact q2 (fun z=>xU (z.2 j t k ht hk)) H9 (Cu.trans s9)
   · rintro σ H7 ⟨c4,c5,rfl,s7,xH⟩;exact q1 ⟨hlen,fun j t k ht hk=>xH j t k (Nl.mp hk).1 ht hk⟩ H7 s7
def SRow (H:Hp) (row:List Th) (a:M5):Prop:=∃ xv:List M5,(H a=some (.lst (xv.map V.ref))∨H a=some (.tup (xv.map V.ref)))/\Ats H row xv
theorem SRow.mono {H H':Hp} (s:L2.Same H H') {row:List Th} {a:M5} (h:SRow H row a):SRow H' row a:=by
 obtain ⟨xv,h1,h2⟩:=h;exact ⟨xv,h1.imp (s _ _) (s _ _),h2.mono (Same.kt s)⟩
def SRows (H:Hp) (rows:List (List Th)) (a:M5) (xO:List M5):Prop:=(H a=some (.lst (xO.map V.ref))∨H a=some (.tup (xO.map V.ref)))/\NY (SRow H) rows xO
theorem SRows.mono {H H':Hp} (s:L2.Same H H') {rows:List (List Th)} {a:M5} {xO:List M5} (h:SRows H rows a xO):SRows H' rows a xO:=⟨h.1.imp (s _ _) (s _ _),P2.mp (fun _ _ e=>e.mono s) h.2⟩
def dG (ins outs:List (Nd×Int)) (head:Th) (rows:List (List Th)):Prop:=rows.length<=20/\dH outs (rows.length:Nat) 1 head/\∀ row∈rows,gP ins outs (rows.length:Nat) row
inductive eL (K:MY) (CN CB:M5) (vs:List V) (H:Hp) (Q:VK) (E:XK):Prop
 | mk (ia oa ha ru:M5) (ye yl xO:List M5) (ins outs:List (Nd×Int)) (head:Th) (rows:List (List Th)) (xB:vs=[.ref ia,.ref oa,.ref ha,.ref ru]) (xC:iP K H ins ia ye) (xG:iP K H outs oa yl) (xT:At H head ha) (yu:head.size<=100000) (zk:SRows H rows ru xO) (Bf:rows.length<=1000) (Eu:(∀ row∈rows,∀ t∈row,t.size<=100000)) (Ih:(aP ins=true->aP outs=true->dG ins outs head rows->∀ (r:M5) (H':Hp),L2.Same H H'->Bk H' ins outs head rows r->Q (.ref r) H')) (Ii:(¬ (aP ins=true/\aP outs=true)->∀ H',L2.Same H H'->E (.ref CN) none H')) (Gj:(aP ins=true->aP outs=true->¬ dG ins outs head rows->∀ H',L2.Same H H'->E (.ref CB) none H')):eL K CN CB vs H Q E
def kT (K:MY) (CN CB:M5):Sp:=eL K CN CB
theorem mU {σ:St} {H:Hp} {rows:List (List Th)} {ru:M5} {xO:List M5} {fin:M5->Hp->Prop} (h:SRows H rows ru xO) (hn:rows.length<=1000) (hq:∀ D H' bs,L2.Same H H'->H' D=some (.lst (bs.map V.ref))->NY (RowAt H') rows bs->fin D H') :
 ((∃ xs,SqL K H ru xs)/\∀ D,H D=none->∃ (n:Nat) (W:Nat->Hp->Prop),W 0 (upd H D (.lst []))/\dU [none] (aE 0) bt (tCB (fun xs H Q=>∃ p ys,xs=[.ref p]/\((SqL K H p ys/\∀ l,H l=none->Q (.ref l) (upd H l (.tup ys)))∨(SqT K H p ys/\Q (.ref p) H))) (cz (cx 0) gm)) σ (Itl K ru) D n W fun H'=>fin D H') ∨
 ((∃ xs,SqT K H ru xs)/\∀ D,H D=none->∃ (n:Nat) (W:Nat->Hp->Prop),W 0 (upd H D (.lst []))/\dU [none] (aE 0) bt (tCB (fun xs H Q=>∃ p ys,xs=[.ref p]/\((SqL K H p ys/\∀ l,H l=none->Q (.ref l) (upd H l (.tup ys)))∨(SqT K H p ys/\Q (.ref p) H))) (cz (cx 0) gm)) σ (Itt K ru) D n W fun H'=>fin D H'):=by
 obtain ⟨hS,yg⟩:=h;have zi:rows.length=xO.length:=N3 yg
 have step:∀ (i:Nat) (x:V) (z:List Th) (H2:Hp) (R:VK) (W':Hp->Prop),(xO.map V.ref)[i]?=some x->rows[i]?=some z->L2.Same H H2->(∀ H3 p,L2.Same H2 H3->RowAt H3 z p->R (.ref p) H3) →
  aE 0 x (cσ [none] σ) H2 fun xD H3=>bt xD H3 fun b H4=>if b=true then (tCB (fun xs H Q=>∃ p ys,xs=[.ref p]/\((SqL K H p ys/\∀ l,H l=none->Q (.ref l) (upd H l (.tup ys)))∨(SqT K H p ys/\Q (.ref p) H))) (cz (cx 0) gm)) xD H4 R else W' H4:=by
  intro i x z H2 R W' hx hz s2 hR;obtain ⟨la,rfl,yI⟩:=bP hx;obtain ⟨ym,yh,hl⟩:=P2.get' yg yI;rw [hz] at yh;cases yh;obtain ⟨xv,e1,h1⟩:=hl.mono s2;rcases e1 with e1 | e1
  · exact ⟨_,rfl,la,_,rfl,.inl ⟨SqL.of e1,fun l yt=>hR _ l (aj yt _) ⟨xv,ac,h1.mono (Same.kt (aj yt _))⟩⟩⟩
  · exact ⟨_,rfl,la,_,rfl,.inr ⟨SqT.of e1,hR _ la (.refl _) ⟨xv,e1,h1⟩⟩⟩
 rcases hS with hS | hS
 · exact .inl ⟨⟨_,SqL.of hS⟩,jx (F:=RowAt) (xs:=xO.map V.ref) rows (fun H1 H2 z p kt h=>h.mono kt) (by rw [MX];omega) (by rw [MX];omega) (fun i Hx sx hi=>⟨_,_,SqL.of (sx _ _ hS),M3 hi⟩) (fun Hx sx=>⟨_,SqL.of (sx _ _ hS),M8 _⟩) (fun i Hx x Hy sx hi hy=>⟨hy.1,hy.2 _ (SqL.of (sx _ _ hS))⟩) step fun D H3 bs hD s3 eD AW=>hq D H3 bs s3 eD AW⟩
 · exact .inr ⟨⟨_,SqT.of hS⟩,jx (F:=RowAt) (xs:=xO.map V.ref) rows (fun H1 H2 z p kt h=>h.mono kt) (by rw [MX];omega) (by rw [MX];omega) (fun i Hx sx hi=>⟨_,_,SqT.of (sx _ _ hS),M3 hi⟩) (fun Hx sx=>⟨_,SqT.of (sx _ _ hS),M8 _⟩) (fun i Hx x Hy sx hi hy=>⟨hy.1,hy.2 _ (SqT.of (sx _ _ hS))⟩) step fun D H3 bs hD s3 eD AW=>hq D H3 bs s3 eD AW⟩
set_option maxHeartbeats 2000000 in
theorem kR:FnOk P w K mg base (CX1 P w) 7 T.g_made_book.f T.g_made_book.d ["ins","outs","head","rules"] (kT K T.e_NoKinds T.e_NoBook):=by
 refine T.g_made_book.F.ok1 b9 (fun vs H Q E h=>?_) (fun xy A outer s H vs Q E hr h=>?_)
 · obtain ⟨ia,oa,ha,ru,ye,yl,xO,ins,outs,head,rows,rfl,_⟩:=h;rfl
 obtain ⟨ia,oa,ha,ru,ye,yl,xO,ins,outs,head,rows,rfl,hI,hO,hd,KY,yg,Gk,Gm,q1,qk,q2⟩:=h
 refine ⟨_,(ad (av (i:=4) b9.nd rfl (NB rfl) (aY (gI T) (hr.mono (by first | decide | omega)) rfl T.g_kinds_of.m T.g_kinds_of.F.kp T.g_kinds_of.b .nil cD (aa (pv 0) ae)))
  (ad (av (i:=5) b9.nd rfl (NB rfl) (aY (gI T) (hr.mono (by first | decide | omega)) rfl T.g_kinds_of.m T.g_kinds_of.F.kp T.g_kinds_of.b .nil cD (aa (pv 1) ae)))
  (ad (av (i:=6) b9.nd rfl (NB rfl) (bH bT rfl T.n_tuple Oy (aa (cv (N:=[MW "patterns"]) (js:=[none]) (g:=(aE 0)) (tt:=bt) (te:=(tCB (fun xs H Q=>∃ p ys,xs=[.ref p]/\((SqL K H p ys/\∀ l,H l=none->Q (.ref l) (upd H l (.tup ys)))∨(SqT K H p ys/\Q (.ref p) H))) (cz (cx 0) gm))) rfl (dL rfl (by decide +kernel) (by decide +kernel) rfl rfl rfl) (sB (pv 3)) (fun _ _ _ _ _ _=>(aD (i:=0) wz rfl (NB rfl))) (bR rfl) (fun _ _ _ _ _ _=>cw) (fun _ _ _ _ _ _=>(bH bT rfl T.n_tuple Oy (aa (pv 0) ae)))) ae)))
  (ad (aQ (ax kA (az aA rfl T.n_len NO (aa (pv 6) ae)) (bV (v:=.int (20)) rfl T.c_MOST_STATES.choose_spec ⟨_,rfl⟩) (ar _)) (af (bx T.X_NoBook T.x_NoBook al)) aC)
  (ad (bi (aY (du T) (hr.mono (by first | decide | omega)) rfl T.g_check_pattern.m T.g_check_pattern.F.kp T.g_check_pattern.b .nil cD (aa (pv 5) (aa (pv 2) (aa (az aA rfl T.n_len NO (aa (pv 6) ae)) (aa ag ae))))))
  (ad (dD QH rfl (io (pv 6)) (aD (i:=7) b9.nd rfl (NB rfl)) (af (bi (aY (ji T) (hr.mono (by first | decide | omega)) rfl T.g_check_state.m T.g_check_state.F.kp T.g_check_state.b .nil cD (aa (pv 4) (aa (pv 5) (aa (pv 7) (aa (az aA rfl T.n_len NO (aa (pv 6) ae)) ae))))))))
  (af (ay (dB (aa (pv 4) (aa (pv 5) (aa (pv 2) (aa (pv 6) ae))))))))))))),?_⟩
 try dsimp only [xS,xw]
 refine hid fun ZZ kZ=>?_;obtain ⟨KZ,AX,K0,K1⟩:=hI;obtain ⟨K2,Ct,K3,K4⟩:=hO;refine kZ ?_;refine ⟨_,rfl,ia,ye,ins,rfl,⟨KZ,AX,K0,K1⟩,fun gi ti H1 s1 ei=>?_,fun gi H1 s1=>qk (fun z=>by rw [z.1] at gi;cases gi) H1 s1⟩;refine ⟨_,rfl,oa,yl,outs,rfl,⟨?_,Ct.mono (Same.kt s1),K3,K4⟩,fun go to H2 s2 eo=>?_,fun go H2 s2=>qk (fun z=>by rw [z.2] at go;cases go) H2 (s1.trans s2)⟩
 · rcases K2 with h | h
   · exact .inl (s1.seq h)
   · exact .inr (s1.seqT h)
 have BW:=s1.trans s2;replace q1:=q1 gi go;replace q2:=q2 gi go;refine ⟨_,rfl,ru,rfl,mU (yg.mono BW) Gk fun D H3 bs s3 eD AW=>?_⟩;have AR:rows.length=bs.length:=N3 AW;refine ⟨D,_,rfl,.inl ⟨SqL.of eD,fun rt K5=>?_⟩⟩;have s4:L2.Same H3 (upd H3 rt (.tup (bs.map V.ref))):=aj K5 _;have e4:(upd H3 rt (.tup (bs.map V.ref))) rt=some (.tup (bs.map V.ref)):=ac;generalize (upd H3 rt (.tup (bs.map V.ref)))=H4 at s4 e4 ⊢;have DE:=s3.trans s4;have BX:=BW.trans DE;have Ij:NY (RowAt H4) rows bs:=P2.mp (fun _ _ e=>e.mono (Same.kt s4)) AW;have DF:((bs.map V.ref).length:Int)=(rows.length:Nat):=by rw [MX,AR]
 refine ⟨_,rfl,rt,_,rfl,.inr (SqT.of e4),_,_,rfl,rfl,_,rfl,?_⟩;rw [DF];refine cA (fun c=>?_) (fun c=>?_)
 · refine q2 (fun z=>?_) H4 BX;have:=of_decide_eq_true c;have:=z.1;omega
 have K6:rows.length<=20:=by
  by_cases z:((rows.length:Nat):Int) > 20
  · exact absurd (decide_eq_true z) c
  · omega
 have Gn:=DE _ _ eo;have Ik:=(s2.trans DE) _ _ ei;refine ⟨_,rfl,_,rfl,_,rfl,rt,_,rfl,.inr (SqT.of e4),to,ha,yl,outs,head,_,1,rfl,SqT.of Gn,Ct.mono (Same.kt BX),hd.mono (Same.kt BX),KY,?_,?_⟩
 · rw [DF];intro hok H5 s5;dsimp only [qJ];have ML:=BX.trans s5;refine ⟨_,rfl,rt,rfl,⟨_,SqT.of (s5 _ _ e4)⟩,?_⟩
   refine pK (K:=K) (a:=rt) (xs:=bs.map V.ref) (fun i σ H6=>Ex1 fun c7=>An3 (σ=[some (.ref ia),some (.ref oa),some (.ref ha),some (.ref ru),some (.ref ti),some (.ref to),some (.ref rt),c7]) (L2.Same H4 H6) (∀ row∈rows.take i,gP ins outs (rows.length:Nat) row))
    ⟨none,rfl,s5,fun row h=>by rw [Qo] at h;cases h⟩ (fun i σ H6 _ ⟨_,_,s6,_⟩=>SqT.of (s6 _ _ e4)) ?_ ?_
   · rintro i x σ H6 hx ⟨c7,rfl,s6,xH⟩;refine hid fun ZZ kZ=>?_;obtain ⟨ra,rfl,ER⟩:=bP hx;obtain ⟨row,xE,xv,er,zh⟩:=P2.get' Ij ER;refine kZ ?_;have Il:=Nu xE;have Gp:=BX.trans s6;refine ⟨_,rfl,_,rfl,_,rfl,_,rfl,rt,_,rfl,.inr (SqT.of (s6 _ _ e4)),ti,to,ra,ye,yl,xv,ins,outs,row,_,rfl,SqT.of (s6 _ _ Ik),AX.mono (Same.kt Gp),SqT.of (s6 _ _ Gn),Ct.mono (Same.kt Gp),s6 _ _ er,zh.mono (Same.kt s6),Gm row Il,?_,?_⟩
     · rw [DF];intro xF H7 s7;refine ⟨_,rfl,s6.trans s7,fun r' xY=>?_⟩;rw [take_snoc xE] at xY;rcases NF.mp xY with xY | xY
       · exact xH r' xY
       · rw [Nc.mp xY];exact xF
     · rw [DF];intro xF H7 s7;exact q2 (fun z=>xF (z.2.2 row Il)) H7 (Gp.trans s7)
   · rintro σ H6 ⟨c7,rfl,s6,xH⟩;rw [N1 (by rw [MX];omega)] at xH;refine ⟨_,rfl,_,rfl,_,rfl,_,rfl,ai (by show 4<=1000000;decide),fun r xY=>?_⟩;have s7:=s6.trans (aj xY (.tup [.ref ti,.ref to,.ref ha,.ref rt]));have ES:=BX.trans s7;exact q1 ⟨K6,hok,xH⟩ r _ ES ⟨ti,to,ha,rt,ye,yl,bs,ac,s7 _ _ Ik,AX.mono (Same.kt ES),s7 _ _ Gn,Ct.mono (Same.kt ES),hd.mono (Same.kt ES),s7 _ _ e4,P2.mp (fun _ _ e=>e.mono (Same.kt s7)) Ij⟩
 · rw [DF];intro hok H5 s5;exact q2 (fun z=>hok z.2.1) H5 (BX.trans s5)
def nK:Sp:=fun vs H Q _=>∃ z:Nd,vs=[.str z]/\z.length<=20000/\∀ (r:M5) (H':Hp),L2.Same H H'->H r=none->H' r=some (.lst ((BB.wordsOf z).map V.str))->Q (.ref r) H'
theorem gG (c:Nat) (z:List Nat) (hz:z.length=3) (l:List Nat):(dg c z l).length<=3 * l.length:=by
 unfold dg;induction l with
 | nil=>simp
 | cons d l ih =>
   rw [O9,Na,MZ];split
   · omega
   · show 1+_<=_;omega
theorem d8 (l:List Nat):(ofL l).length=l.length:=by unfold ofL;show l.toArray.size=l.length;simp
theorem nC (l:List (List Nat)):(l.map ofL).filter (fun x=>!decide (V.str x=V.str (MW "")))=(l.filter fun p=>!p.isEmpty).map ofL:=by
 induction l with
 | nil=>rfl
 | cons p l ih =>
   rw [Ni,QC,QC,ih];cases p with
   | nil=>rfl
   | cons d p =>
     have:decide (V.str (ofL (d::p))=V.str (MW ""))=false:=decide_eq_false fun z=>by
      have h1:=congrArg (fun w:Nd=>w.cps.toList) (V.str.inj z);rw [show (ofL (d::p)).cps.toList=d::p from aL _] at h1;cases h1
     rw [this];rfl
set_option maxHeartbeats 1000000 in
theorem nT:FnOk P w K mg base CX0 1 T.g_words_of.f T.g_words_of.d ["text"] nK:=by
 refine T.g_words_of.F.ok eW (fun vs H Q E h=>?_) (fun xy A outer s H vs Q E hr h=>?_)
 · obtain ⟨z,rfl,_⟩:=h;rfl
 obtain ⟨z,rfl,hz,q⟩:=h
 refine ⟨_,(ad (av (i:=1) eW.nd rfl (NB rfl) (pv 0))
  (ad (tR Pg rfl (by decide +kernel) (vz (i:=2) (j:=1) eW.nd rfl rfl (by decide) rfl rfl))
  (af (ay (cv (N:=[MW "word"]) (js:=[none]) (g:=(aE 0)) (tt:=(m5 (tOp (rNe) (cx 0) (tC (.str (MW "")))))) (te:=(cx 0)) rfl (dL rfl (by decide +kernel) (by decide +kernel) rfl rfl rfl) (d2 (bU N7 Q8 Q6 kf (pv 1) (aa al ae))) (fun _ _ _ _ _ _=>(aD (i:=0) vf rfl (NB rfl))) (bR rfl) (fun _ _ _ _ _ _=>mH (ax cf (pv 0) al (ar _))) (fun _ _ _ _ _ _=>(pv 0))))))),?_⟩
 try dsimp only [xS,xw]
 refine ⟨_,rfl,?_⟩;dsimp only [aE];have DG:z.cps.toList.length=z.length:=Nm;have l1:=gG 40 [32,40,32] rfl z.cps.toList;have l2:=gG 41 [32,41,32] rfl (dg 40 [32,40,32] z.cps.toList);have l3:=gG 44 [32,44,32] rfl (dg 41 [32,41,32] (dg 40 [32,40,32] z.cps.toList));refine ⟨fun i σ H'=>An2 (H'=H) (((i=0/\σ=[some (.str z),some (.str z),none])∨(∃ c,i=1/\σ=[some (.str z),some (.str (ofL (dg 40 [32,40,32] z.cps.toList))),c])∨(∃ c,i=2/\σ=[some (.str z),some (.str (ofL (dg 41 [32,41,32] (dg 40 [32,40,32] z.cps.toList)))),c])∨(∃ c,i=3/\σ=[some (.str z),some (.str (ofL (rep3 z.cps.toList))),c]))),⟨rfl,.inl ⟨rfl,rfl⟩⟩,?_⟩;rintro i σ H' ⟨rfl,⟨rfl,rfl⟩ | ⟨c,rfl,rfl⟩ | ⟨c,rfl,rfl⟩ | ⟨c,rfl,rfl⟩⟩
 · refine .inr ⟨40,rfl,z,40,rfl,rfl,by decide,by omega,rfl,.inr (.inl ⟨_,rfl,rfl⟩)⟩
 · refine .inr ⟨41,rfl,_,41,rfl,rfl,by decide,by rw [d8];omega,rfl,.inr (.inr (.inl ⟨_,rfl,by rw [aL];rfl⟩))⟩
 · refine .inr ⟨44,rfl,_,44,rfl,rfl,by decide,by rw [d8];omega,rfl,.inr (.inr (.inr ⟨_,rfl,by rw [aL];rfl⟩))⟩
 · refine .inl ⟨rfl,?_⟩;refine ⟨_,rfl,rfl,ofL (rep3 z.cps.toList),MW " ",rfl,rfl,rfl,by rw [d8];unfold rep3;omega,fun p hp=>?_⟩
   have yS:OT (ofL (rep3 z.cps.toList)) (MW " ")=(aB 32 (rep3 z.cps.toList)).map ofL:=by
    have h1:MW " "=⟨#[32]⟩:=rfl;rw [h1,iF _ (by decide),aL]
   have BY:(aB 32 (rep3 z.cps.toList)).length<=1000000:=by
    have hle:∀ l:List Nat,(aB 32 l).length<=l.length+1:=by
     intro l;induction l with
     | nil=>exact M8 _
     | cons d l ih =>
       rw [aB];obtain ⟨p,r,e⟩:=bI 32 l;rw [e] at ih ⊢;rw [MZ] at ih;split
       · rw [MZ,MZ,MZ];omega
       · rw [MZ,MZ];omega
    have:=hle (rep3 z.cps.toList);unfold rep3 at this ⊢;omega
   have s1:L2.Same H' (upd H' p (.lst ((OT (ofL (rep3 z.cps.toList)) (MW " ")).map V.str))):=aj hp _;have e1:(upd H' p (.lst ((OT (ofL (rep3 z.cps.toList)) (MW " ")).map V.str))) p=some (.lst (((aB 32 (rep3 z.cps.toList)).map ofL).map V.str)):=by rw [ac,yS]
   generalize (upd H' p (.lst ((OT (ofL (rep3 z.cps.toList)) (MW " ")).map V.str)))=H1 at s1 e1 ⊢;refine ⟨p,rfl,⟨_,SqL.of e1⟩,gR ((aB 32 (rep3 z.cps.toList)).map ofL) (fun x=>!decide (V.str x=V.str (MW ""))) V.str (SqL.of e1) (by rw [MX,MX,MX]) (by rw [MX,MX];exact BY) (fun i x y H2 R hx hy sm r=>?_) (fun i x y H2 R hx hy _ sm r=>?_) (fun D hD=>?_)⟩
   · rw [Nq,hy] at hx;cases hx;exact ⟨_,rfl,rfl,_,rfl,r⟩
   · rw [Nq,hy] at hx;cases hx;exact ⟨_,rfl,r⟩
   · rw [nC];exact q D _ (s1.trans (aj hD _)) (s1.free hD) ac
def jh (C:M5):Sp:=fun vs H Q E=>∃ z:Nd,vs=[.str z]/\z.length<=100000/\(∀ n:Int,cL z=some n->∀ H',L2.Same H H'->Q (.int n) H')/\(cL z=none->∀ H',L2.Same H H'->E (.ref C) none H')
def jT:Sp:=fun vs H Q _=>∃ n:Int,vs=[.str (aM n)]/\0<=n/\n<10/\∀ H',L2.Same H H'->Q (.int n) H'
def iQ (c:Nat):Bool:=decide (48<=c) && decide (c<=57)
theorem cS {z:Nd}:isNum z=true↔(1<=z.length/\z.length<=3)/\((sL z).filter iQ).length=z.length/\((sL z).head?=some 48->z=MW "0"):=by
 unfold isNum;rw [NX,NX,Ri,decide_eq_true_iff,decide_eq_true_iff,decide_eq_true_iff,<- aT z,List.length_filter_eq_length_iff,Oa];have h0:z=MW "0"↔sL z=[48]:=⟨fun e=>by rw [e];decide +kernel,fun e=>dl (by show sL z=_;rw [e];decide +kernel)⟩;rw [h0]
 have h1:(∀ x∈sL z,decide (48<=x/\x<=57)=true)↔∀ x∈sL z,iQ x=true:=by
  refine forall_congr' fun x=>forall_congr' fun _=>?_;unfold iQ;rw [NX,decide_eq_true_iff,decide_eq_true_iff,decide_eq_true_iff]
 rw [h1,and_assoc];refine and_congr_right fun _=>and_congr_right fun _=>⟨fun h e=>h.elim (fun k=>absurd e k) id,fun h=>?_⟩;by_cases e:(sL z).head?=some 48
 · exact .inr (h e)
 · exact .inl e
set_option maxHeartbeats 1000000 in
theorem bW:FnOk P w K mg base (CX1 P w) 1 T.g_read_number.f T.g_read_number.d ["word"] (jh T.e_NoText):=by
 refine T.g_read_number.F.ok1 eY (fun vs H Q E h=>?_) (fun xy A outer s H vs Q E hr h=>?_)
 · obtain ⟨z,rfl,_⟩:=h;rfl
 obtain ⟨z,rfl,DG,q,qe⟩:=h
 refine ⟨_,(ad (mK (i:=1) (N:=[MW "sign"]) (js:=[none]) (g:=(aE 0)) (tt:=(m5 (lR (re) (re) (tC (.str (MW "0"))) (cx 0) (tC (.str (MW "9")))))) (te:=(cx 0)) eY.nd rfl (NB rfl) rfl (dL rfl (by decide +kernel) (by decide +kernel) rfl rfl rfl) (qT (pv 0)) (fun _ _ _ _ _ _=>(aD (i:=0) vN rfl (NB rfl))) (bR rfl) (fun _ _ _ _ _ _=>mH (hZ fC fC al (pv 0) al)) (fun _ _ _ _ _ _=>(pv 0)))
  (ad (aQ (PW.pt (eX (b8 (hZ eN eN ag (az cQ rfl T.n_len NO (aa (pv 0) ae)) (bV (v:=.int (3)) rfl T.c_MOST_FIGURES.choose_spec ⟨_,rfl⟩))) (ef (ax cf (az aA rfl T.n_len NO (aa (pv 1) ae)) (az cQ rfl T.n_len NO (aa (pv 0) ae)) (ar _))))) (af (bx T.X_NoText T.x_NoText al)) aC)
  (ad (aQ (PW.pt (jZ (ax di (aI jR (pv 0) ag (fun _ _=>rfl)) al (ar _)) (gO (ax cf (pv 0) al (ar _))))) (af (bx T.X_NoText T.x_NoText al)) aC)
  (af (ay (bH qA rfl T.n_int Qv (aa (pv 0) ae))))))),?_⟩
 try dsimp only [xS,xw]
 have xQ:z.cps.size=z.length:=rfl;have hb:¬ isNum z=true->∀ H',L2.Same H H'->E (.ref T.e_NoText) none H':=fun h=>qe (dM.mpr (OI.mpr h));refine ⟨_,rfl,z,rfl,pC (xs:=z.cps.toList.map fun c=>V.str ⟨#[c]⟩) z.cps.toList iQ (fun c=>V.str ⟨#[c]⟩) (by rw [MX]) (by rw [MX,Nm];omega) (fun i Hx sx hi=>by rw [MX,Nm] at hi;exact hi) (fun Hx sx=>by rw [MX,Nm];exact rfl) (fun i Hx x Hy sx hi hy=>?_) (fun i x c Hx R hx hc sx hR=>?_) (fun i x c Hx R hx hc _ sx hR=>?_) (fun D hD=>?_)⟩
 · obtain ⟨e,c,hc,rfl⟩:=hy;exact ⟨e,by rw [Nq,PX,hc];rfl⟩
 · rw [Nq,hc] at hx;cases hx;refine ⟨_,rfl,_,_,rfl,rfl,_,rfl,?_⟩;rw [show (MW "0").cps.toList=[48] by decide +kernel,lW 48 c];unfold iQ at hR;cases c1:decide (48<=c) with
   | false=>rw [c1] at hR;exact aS ⟨_,rfl,hR⟩
   | true =>
     rw [c1] at hR;refine aZ ⟨_,_,rfl,rfl,?_⟩;rw [show (MW "9").cps.toList=[57] by decide +kernel,lW c 57];exact ⟨_,rfl,hR⟩
 · rw [Nq,hc] at hx;cases hx;exact ⟨_,rfl,hR⟩
 have s1:L2.Same H (upd H D (.lst ((z.cps.toList.filter iQ).map fun c=>V.str ⟨#[c]⟩))):=aj hD _;have e1:(upd H D (.lst ((z.cps.toList.filter iQ).map fun c=>V.str ⟨#[c]⟩))) D=some (.lst ((z.cps.toList.filter iQ).map fun c=>V.str ⟨#[c]⟩)):=ac;generalize (upd H D (.lst ((z.cps.toList.filter iQ).map fun c=>V.str ⟨#[c]⟩)))=H1 at s1 e1 ⊢;dsimp only [aE];have K7:(((z.cps.toList.filter iQ).map fun c=>V.str ⟨#[c]⟩).length:Int)=(((sL z).filter iQ).length:Nat):=by rw [MX];rfl
 refine ⟨_,rfl,z,rfl,ai (by omega),_,_,rfl,rfl,_,rfl,?_⟩;by_cases c1:1<=z.length
 case neg =>
  rw [decide_eq_false (show ¬ (1:Int)<=((z.length:Nat):Int) by omega)];exact aS ⟨_,rfl,aZ (hb (fun h=>c1 (cS.mp h).1.1) H1 s1)⟩
 rw [decide_eq_true (show (1:Int)<=((z.length:Nat):Int) by omega)];refine aZ ⟨_,_,rfl,rfl,_,rfl,?_⟩;by_cases c2:z.length<=3
 case neg =>
  rw [decide_eq_false (show ¬ ((z.length:Nat):Int)<=3 by omega)];exact aZ (hb (fun h=>c2 (cS.mp h).1.2) H1 s1)
 rw [decide_eq_true (show ((z.length:Nat):Int)<=3 by omega)];refine aS ?_;refine ⟨_,rfl,D,_,rfl,.inl (SqL.of e1),_,rfl,z,rfl,ai (by omega),rfl,_,rfl,?_⟩;rw [K7];by_cases c3:((sL z).filter iQ).length=z.length
 case neg =>
  rw [decide_eq_false (show ¬ V.int (((sL z).filter iQ).length:Nat)=V.int (z.length:Nat) from fun e=>c3 (by have:=V.int.inj e;omega))];exact aZ (hb (fun h=>c3 (cS.mp h).2.1) H1 s1)
 rw [c3,decide_eq_true rfl];refine aS ?_;dsimp only [dP]
 obtain ⟨c,l,yG⟩:∃ c l,sL z=c::l:=by
  cases e:sL z with
  | nil=>rw [<- aT,e] at c1;exact absurd c1 (by decide)
  | cons c l=>exact ⟨c,l,rfl⟩
 refine ⟨_,rfl,z,0,c,rfl,rfl,ai (by omega),by rw [show z.cps.toList=c::l from yG];exact at_nonneg (by decide) rfl,rfl,_,rfl,?_⟩
 have xN:isNum z=true->∃ n,Rm z=some n/\Q (.int n) H1:=fun h=>by
  obtain ⟨m,hm,e⟩:=oS h;have k:cL z=some ((m:Nat):Int):=bf.mpr ⟨e,by omega,by omega⟩;refine ⟨_,?_,q _ k H1 s1⟩;unfold cL at k;rw [if_pos h] at k;exact k
 have Im:(sL z).head?=some c:=by rw [yG];rfl
 refine cA (fun c4=>?_) (fun c4=>?_)
 · have c':(⟨#[c]⟩:Nd)=MW "0":=V.str.inj (of_decide_eq_true c4)
   have Gq:c=48:=by
    have:=congrArg (fun x:Nd=>x.cps.toList) c';rw [show (MW "0").cps.toList=[48] by decide +kernel] at this;exact List.head_eq_of_cons_eq this
   refine ⟨_,rfl,rfl,_,rfl,?_⟩;by_cases c5:z=MW "0"
   · rw [decide_eq_true (show V.str z=V.str (MW "0") by rw [c5])];refine aS ?_;obtain ⟨n,hi,hq⟩:=xN (cS.mpr ⟨⟨c1,c2⟩,c3,fun _=>c5⟩);exact ⟨_,rfl,z,n,rfl,hi,by omega,hq⟩
   · rw [decide_eq_false (show ¬ V.str z=V.str (MW "0") from fun e=>c5 (V.str.inj e))];exact aZ (hb (fun h=>c5 ((cS.mp h).2.2 (by rw [Im,Gq]))) H1 s1)
 · have Gq:c≠48:=fun z=>c4 (decide_eq_true (by rw [z];exact congrArg V.str (by decide +kernel)));obtain ⟨n,hi,hq⟩:=xN (cS.mpr ⟨⟨c1,c2⟩,c3,fun e=>by rw [Im] at e;exact absurd (Nh e) Gq⟩);exact ⟨_,rfl,z,n,rfl,hi,by omega,hq⟩
theorem jM:FnOk P w K mg base CX0 1 T.g_read_number.f T.g_read_number.d ["word"] jT :=
 (bW T).x0 fun vs H Q E h=>by
  obtain ⟨n,rfl,h0,h1,q⟩:=h;have k:cL (aM n)=some n:=bf.mpr ⟨rfl,h0,by omega⟩;refine ⟨_,rfl,by rw [<- aT,fo h0 h1];exact (by decide:1<=100000),fun m hm=>?_,fun hm=>by rw [k] at hm;cases hm⟩;rw [k] at hm;cases hm;exact q
def StV (H:Hp):Stp->V->Prop
 | .sg c,v=>v=.str c
 | .th t,v=>∃ a,v=.ref a/\At H t a
theorem StV.mono {H H':Hp} (k:KT H H'):∀ {x:Stp} {v:V},StV H x v->StV H' x v
 | .sg c,v,h=>h
 | .th t,v,⟨a,e,h⟩=>⟨a,e,h.mono k⟩
inductive eU (C:M5) (vs:List V) (H:Hp) (Q:VK) (E:XK):Prop
 | mk (wl:M5) (ws:List Nd) (xB:vs=[.ref wl]) (xC:H wl=some (.lst (ws.map V.str))) (xG:(∀ x∈ws,x.length<=100000)) (xT:(∀ a b:Int,eE ws=some (.th (.call a b))->∀ (r:M5) (H':Hp),L2.Same H H'->At H' (.call a b) r->Q (.ref r) H')) (yu:(eE ws=none->∀ H',L2.Same H H'->E (.ref C) none H')):eU C vs H Q E
def kL (C:M5):Sp:=eU C
inductive fS (C:M5) (vs:List V) (H:Hp) (Q:VK) (E:XK):Prop
 | mk (wl:M5) (ws:List Nd) (xB:vs=[.ref wl]) (xC:H wl=some (.lst (ws.map V.str))) (xG:ws.length<=100000) (xT:(∀ x∈ws,x.length<=100000)) (yu:(∀ l:List Stp,d7 ws=some l->∀ (r:M5) (xs:List V) (H':Hp),L2.Same H H'->H' r=some (.lst xs)->NY (StV H') l xs->Q (.ref r) H')) (zk:(d7 ws=none->∀ H',L2.Same H H'->E (.ref C) none H')):fS C vs H Q E
def mv (C:M5):Sp:=fS C
theorem in3 (c:Nd):inV (.str c) [.str (MW "("),.str (MW ","),.str (MW ")")]=decide (kg c):=by
 have e:∀ d:Nd,eqV (.str d) (.str c)=decide (c=d):=fun d=>by
  show (d == c)=_;by_cases h:c=d
  · subst h;simp
  · rw [decide_eq_false h];exact beq_false_of_ne fun z=>h z.symm
 unfold inV;simp only [List.any_cons,List.any_nil,Bool.or_false,e];rw [<- Bool.decide_or,<- Bool.decide_or];rfl
def StX (H:Hp) (ws:List Nd) (wl sl:M5) (m:Nat) (σ:St) (H2:Hp):Prop:=∃ (i n:Nat) (l:List Stp) (xs:List V),σ=[some (.ref wl),some (.ref sl),some (.int (i:Nat))]/\L2.Same H H2/\H2 sl=some (.lst xs)/\NY (StV H2) l xs/\i<=ws.length/\l.length<=i/\m=ws.length - i/\(ws.drop i).length<=n/\d7 ws=(aX n (ws.drop i)).map (l++·)
def StY (H:Hp) (ws:List Nd) (wl sl:M5) (i:Nat) (σ:St) (H2:Hp):Prop:=∃ m',m'<ws.length - i/\StX H ws wl sl m' σ H2
set_option maxHeartbeats 1000000 in
theorem kO:FnOk P w K mg base (CX1 P w) 2 T.g_read_call.f T.g_read_call.d ["words"] (kL T.e_NoText):=by
 refine T.g_read_call.F.ok1 ma (fun vs H Q E h=>?_) (fun xy A outer s H vs Q E hr h=>?_)
 · obtain ⟨wl,ws,rfl,_⟩:=h;rfl
 obtain ⟨wl,ws,rfl,e,hle,q,qe⟩:=h
 refine ⟨_,(ad (aQ (PW.pt (eX (ax cf (az aA rfl T.n_len NO (aa (pv 0) ae)) ag (ar _)) (ef (ax cf (aI aJ (pv 0) ag (fun _ _=>rfl)) al (ar _))))) (af (bx T.X_NoText T.x_NoText al)) aC)
  (af (ay (dB (aa (bV (v:=.str (MW "?")) rfl T.c_CALL_SIGN.choose_spec ⟨_,rfl⟩) (aa (aY (bW T) (hr.mono (by first | decide | omega)) rfl T.g_read_number.m T.g_read_number.F.kp T.g_read_number.b .nil cD (aa (aI aJ (pv 0) ag (fun _ _=>rfl)) ae)) (aa (aY (bW T) (hr.mono (by first | decide | omega)) rfl T.g_read_number.m T.g_read_number.F.kp T.g_read_number.b .nil cD (aa (aI aJ (pv 0) ag (fun _ _=>rfl)) ae)) ae))))))),?_⟩
 try dsimp only [xS,xw]
 refine ⟨_,rfl,wl,_,rfl,.inl (SqL.of e),rfl,_,rfl,?_⟩;by_cases c1:∃ x d y,ws=[x,d,y]
 case neg =>
  have zK:ws.length≠3:=fun z=>c1 (by
   match ws,z with
   | [x,d,y],_=>exact ⟨x,d,y,rfl⟩)
  rw [MX,decide_eq_false (show ¬ V.int ((ws.length:Nat):Int)=V.int 3 from fun z=>zK (by have:=V.int.inj z;omega))];refine aZ (qe ?_ H (.refl _))
  match ws,zK with
  | [],_=>rfl
  | [_],_=>rfl
  | [_,_],_=>rfl
  | [_,_,_],z=>exact absurd rfl z
  | _::_::_::_::_,_=>rfl
 obtain ⟨x,d,y,rfl⟩:=c1;refine aS ?_;refine ⟨_,rfl,wl,_,1,.str d,rfl,rfl,SqL.of e,at1,rfl,_,rfl,?_⟩;by_cases c2:d=dot
 case neg =>
  rw [decide_eq_false (show ¬ V.str d=V.str (MW ".") from fun z=>c2 (V.str.inj z))];exact aZ (qe (by rw [eE,if_neg c2]) H (.refl _))
 subst c2;rw [decide_eq_true (show V.str dot=V.str (MW ".") from rfl)];refine aS ?_;dsimp only [dP];rw [eE,if_pos rfl] at q qe;refine ⟨_,rfl,wl,_,0,.str x,rfl,rfl,SqL.of e,at0,x,rfl,hle x (by simp),fun a ha H1 s1=>?_,fun ha H1 s1=>qe (by rw [ha]) H1 s1⟩;rw [ha] at q qe;refine ⟨_,rfl,wl,_,2,.str y,rfl,rfl,SqL.of (s1 _ _ e),at2,y,rfl,hle y (by simp),fun b hb H2 s2=>?_,fun hb H2 s2=>qe (by rw [hb]) H2 (s1.trans s2)⟩;rw [hb] at q;refine ⟨ai (by show 3<=1000000;decide),fun r xY=>q a b rfl r _ (s1.trans (s2.trans (aj xY _))) ?_⟩;rw [At];exact ac
set_option maxHeartbeats 2000000 in
theorem lQ:FnOk P w K mg base (CX1 P w) 3 T.g_steps_of.f T.g_steps_of.d ["words"] (mv T.e_NoText):=by
 refine T.g_steps_of.F.ok1 b7 (fun vs H Q E h=>?_) (fun xy A outer s H vs Q E hr h=>?_)
 · obtain ⟨wl,ws,rfl,_⟩:=h;rfl
 obtain ⟨wl,ws,rfl,ew,hlen,hle,kq,ke⟩:=h
 refine ⟨_,(ad (av (i:=1) b7.nd rfl (NB rfl) (bc ae))
  (ad (av (i:=2) b7.nd rfl (NB rfl) ag)
  (ad (kG QH (ax kh (pv 2) (az aA rfl T.n_len NO (aa (pv 0) ae)) (ar _)) (af (aQ (ax lg (aI aJ (pv 0) (pv 2) (fun _ _=>rfl)) (dB (aa al (aa al (aa al ae)))) (by with_unfolding_all rfl)) (ad (bi (bU NH N0 NZ bp (pv 1) (aa (aI aJ (pv 0) (pv 2) (fun _ _=>rfl)) ae)))
  (af (oX (i:=2) b7.nd rfl (NB rfl) ag l7))) (af (aQ (aU (pcF T.g_is_name (f9 T) hr (aa (aI aJ (pv 0) (pv 2) (fun _ _=>rfl)) ae)) (fun _=>rfl)) (ad (bi (bU NH N0 NZ bp (pv 1) (aa (dB (aa (aI aJ (pv 0) (pv 2) (fun _ _=>rfl)) ae)) ae)))
  (af (oX (i:=2) b7.nd rfl (NB rfl) ag l7))) (ad (bi (bU NH N0 NZ bp (pv 1) (aa (aY (kO T) (hr.mono (by first | decide | omega)) rfl T.g_read_call.m T.g_read_call.F.kp T.g_read_call.b .nil cD (aa (bM fA (pv 0) (bL (pv 2)) (bL (ao gj (pv 2) ag))) ae)) ae)))
  (af (oX (i:=2) b7.nd rfl (NB rfl) ag l7))))))))
  (af (ay (pv 1)))))),?_⟩
 try dsimp only [xS,xw]
 refine ⟨ai (by show 0<=1000000;decide),fun sl BQ=>?_⟩;have s1:L2.Same H (upd H sl (.lst [])):=aj BQ _;have e1:(upd H sl (.lst [])) sl=some (.lst []):=ac;generalize (upd H sl (.lst []))=H1 at s1 e1 ⊢;dsimp only [aE];refine ⟨StX H ws wl sl,⟨_,0,ws.length,[],[],rfl,s1,e1,.nil,N2 _,M8 _,rfl,by rw [OW];exact M8 _,by rw [OW];show aX _ _=_;cases aX ws.length ws <;> rfl⟩,?_⟩;rintro m σ H2 ⟨i,n,l,xs,rfl,s2,e2,EJ,hi,J3,rfl,hn,xF⟩;have Cv:=s2 _ _ ew;have K8:l.length=xs.length:=N3 EJ;refine ⟨_,rfl,_,rfl,wl,_,rfl,.inl (SqL.of Cv),_,_,rfl,rfl,_,rfl,?_⟩;by_cases zp:i<ws.length
 case neg =>
  have K9:i=ws.length:=by omega
  subst K9;rw [List.drop_length] at xF;have h0:aX n []=some []:=by cases n <;> rfl
  rw [h0] at xF;rw [MX,decide_eq_false (fun z=>by omega)];exact aS ⟨_,rfl,kq l (xF.trans (by rw [Option.map_some,Nz])) sl xs H2 s2 e2 EJ⟩
 rw [MX,decide_eq_true (show ((i:Nat):Int)<((ws.length:Nat):Int) by omega)];refine aZ ⟨StY H ws wl sl i,fun f' H' h=>h,?_⟩;obtain ⟨w0,Bv⟩:∃ w0,ws[i]?=some w0:=⟨_,M3 zp⟩
 have Aq:ws.drop i=w0::ws.drop (i+1):=by
  rw [OZ zp];rw [M3 zp] at Bv;rw [Nh Bv]
 have zD:=hle w0 (Nu Bv);rw [Aq] at hn xF;rw [MZ,N9] at hn;obtain ⟨n,rfl⟩:∃ n',n=n'+1:=⟨n - 1,by omega⟩;rw [aX] at xF;have zh:atI (ws.map V.str) ((i:Nat):Int)=some (.str w0):=at_nonneg (by omega) (by rw [NW,Nq,Bv];rfl);have Io:xs.length<=200000:=by omega
 have fin:∀ (x:Stp) (k:Nat) (v:V) (H3:Hp),0<k->i+k<=ws.length->d7 ws=((aX n (ws.drop (i+k))).map (x::·)).map (l++·)->L2.Same H2 H3->StV H3 x v->StY H ws wl sl i [some (.ref wl),some (.ref sl),some (.int (((i:Nat):Int)+((k:Nat):Int)))] (upd H3 sl (.lst (xs++[v]))):=fun x k v H3 MM hk hs s3 hv=>by
  have e3:=s3 _ _ e2;have k4:KT H3 (upd H3 sl (.lst (xs++[v]))):=bB e3;refine ⟨_,by omega,i+k,n,l++[x],xs++[v],by push_cast;rfl,aN (s2.trans s3) BQ,ac,?_,hk,by rw [Na,NR];omega,rfl,by rw [N9];omega,?_⟩
  · exact P2.append (P2.mp (fun _ _ e=>StV.mono ((Same.kt s3).trans k4) e) EJ) (.cons (StV.mono k4 hv) .nil)
  · rw [hs,Option.map_map];congr 1;funext r;show l++(x::r)=(l++[x])++r;rw [Nr];rfl
 refine ⟨_,rfl,_,rfl,wl,_,_,.str w0,rfl,rfl,SqL.of Cv,zh,ai (by show 3<=1000000;decide),fun tp ET=>?_⟩;have s3:L2.Same H2 (upd H2 tp (.tup [.str (MW "("),.str (MW ","),.str (MW ")")])):=aj ET _;have e3:(upd H2 tp (.tup [.str (MW "("),.str (MW ","),.str (MW ")")])) tp=some (.tup [.str (MW "("),.str (MW ","),.str (MW ")")]):=ac;generalize (upd H2 tp (.tup [.str (MW "("),.str (MW ","),.str (MW ")")]))=H3 at s3 e3 ⊢;refine ⟨tp,_,rfl,.inr (SqT.of e3),rfl,rfl,_,rfl,?_⟩;rw [if_neg Nt,in3];by_cases c1:kg w0
 · rw [decide_eq_true c1];rw [if_pos c1] at xF;refine aZ ?_;have Ip:=s3 _ _ e2;refine ⟨_,rfl,.inl ⟨rfl,_,SqL.of Ip⟩,_,rfl,_,rfl,wl,_,_,.str w0,rfl,rfl,SqL.of (s3 _ _ Cv),zh,sl,_,_,rfl,rfl,Ip,bh (by omega),?_⟩;exact ⟨_,rfl,_,_,rfl,rfl,fin (.sg w0) 1 _ H3 (by decide) zp xF s3 rfl⟩
 rw [decide_eq_false c1];rw [if_neg c1] at xF;refine aS ?_;refine ⟨_,rfl,_,rfl,wl,_,_,.str w0,rfl,rfl,SqL.of (s3 _ _ Cv),zh,w0,rfl,by omega,fun H4 s4=>?_⟩;have Ar:=s3.trans s4;have EU:=Ar _ _ e2;by_cases c2:aw w0=true
 · rw [c2];rw [if_pos c2] at xF;refine ⟨_,rfl,aZ ?_⟩;have K':w0≠q:=by rintro rfl;exact absurd c2 (by decide +kernel)
   refine ⟨_,rfl,.inl ⟨rfl,_,SqL.of EU⟩,_,rfl,_,rfl,wl,_,_,.str w0,rfl,rfl,SqL.of (Ar _ _ Cv),zh,ai (by show 1<=1000000;decide),fun np zc=>?_⟩;have s5:L2.Same H4 (upd H4 np (.tup [.str w0])):=aj zc _;have e5:(upd H4 np (.tup [.str w0])) np=some (.tup [.str w0]):=ac;generalize (upd H4 np (.tup [.str w0]))=H5 at s5 e5 ⊢;have La:=s5 _ _ EU;refine ⟨sl,_,_,rfl,rfl,La,bh (by omega),?_⟩;refine ⟨_,rfl,_,_,rfl,rfl,fin (.th (.knot w0 [])) 1 _ H5 (by decide) zp xF (Ar.trans s5) ⟨np,rfl,?_⟩⟩;rw [At];exact ⟨K',[],e5,.nil⟩
 · rw [OI.mpr c2];rw [if_neg c2] at xF;refine ⟨_,rfl,aS ?_⟩;refine ⟨_,rfl,.inl ⟨rfl,_,SqL.of EU⟩,_,rfl,_,rfl,_,rfl,_,rfl,_,_,rfl,rfl,_,rfl,wl,_,rfl,SqL.of (Ar _ _ Cv),fun cp Lb=>?_⟩
   have Gr:eF (ws.map V.str) (some ((i:Nat):Int)) (some (((i:Nat):Int)+3))=((w0::ws.drop (i+1)).take 3).map V.str:=by
    rw [<- Aq];unfold eF;rw [show ((i:Nat):Int)+3=(((i+3:Nat)):Int) by push_cast;rfl,HT.sIx_nat,HT.sIx_nat,MX,Rh (show i<=ws.length by omega),<- List.map_drop,<- List.map_take];congr 1;by_cases hm:i+3<=ws.length
    · rw [Rh hm,show i+3 - i=3 by omega]
    · rw [Nat.min_eq_right (by omega),N1 (by rw [N9];exact M8 _),N1 (by rw [N9];omega)]
   rw [Gr];have s5:L2.Same H4 (upd H4 cp (.lst (((w0::ws.drop (i+1)).take 3).map V.str))):=aj Lb _;have e5:(upd H4 cp (.lst (((w0::ws.drop (i+1)).take 3).map V.str))) cp=some (.lst (((w0::ws.drop (i+1)).take 3).map V.str)):=ac;generalize (upd H4 cp (.lst (((w0::ws.drop (i+1)).take 3).map V.str)))=H5 at s5 e5 ⊢;refine ⟨cp,_,rfl,e5,fun x hx=>hle x (by have:=List.mem_of_mem_take hx;rw [<- Aq] at this;exact List.mem_of_mem_drop this),fun a b Az r H6 s6 Lc=>?_,fun Az H6 s6=>?_⟩
   · have h3:i+3<=ws.length:=by
      obtain ⟨_,_,_,_,hw⟩:=ec.mp Az;have:=congrArg O6 hw;rw [Og,MZ,N9] at this;have h3:min 3 (ws.length - (i+1)+1)=3:=this;omega
     rw [Az] at xF;have Ld:=(s5.trans s6) _ _ EU;refine ⟨sl,_,_,rfl,rfl,Ld,bh (by omega),?_⟩;refine ⟨_,rfl,_,_,rfl,rfl,fin (.th (.call a b)) 3 _ H6 (by decide) h3 ?_ (Ar.trans (s5.trans s6)) ⟨r,rfl,Lc⟩⟩;rw [xF,List.drop_drop];rfl
   · rw [Az] at xF;exact ke xF H6 (s2.trans (Ar.trans (s5.trans s6)))
def fol (b s:Stp) (d:Int):Bool:=match s with
 | .th _=>!ended b
 | .sg c=>if c=lpar then fJ b && decide (d<100) else ended b && decide (0<d)
inductive iV (vs:List V) (H:Hp) (Q:VK) (_E:XK):Prop
 | mk (bv sv:V) (b s:Stp) (d:Int) (xB:vs=[bv,sv,.int d]) (xC:StV H b bv) (xG:StV H s sv) (xT:Q (.bl (fol b s d)) H):iV  vs H Q _E
def n6:Sp:=iV
set_option maxHeartbeats 1000000 in
theorem oY:FnOk P w K mg base CX0 2 T.g_follows.f T.g_follows.d ["before","step","depth"] n6:=by
 refine T.g_follows.F.ok kE (fun vs H Q E h=>?_) (fun xy A outer s H vs Q E hr h=>?_)
 · obtain ⟨bv,sv,b,s,d,rfl,_⟩:=h;rfl
 obtain ⟨bv,sv,b,st,d,rfl,hb,hs,kq⟩:=h
 refine ⟨_,(ad (av (i:=3) kE.nd rfl (NB rfl) (qP (az (cT (T:="tuple")) rfl T.n_isinstance OO (aa (pv 0) (aa (fv (v:=.ty "tuple") rfl T.n_tuple Oy rfl) ae))) (cn (bw (iD (iR hr)) (pv 0) al (ar _)))))
  (ad (aQ (aU (az (cT (T:="tuple")) rfl T.n_isinstance OO (aa (pv 1) (aa (fv (v:=.ty "tuple") rfl T.n_tuple Oy rfl) ae))) (fun _=>rfl)) (af (ay (ou (pv 3)))) aC)
  (ad (aQ (ax (iD (iR hr)) (pv 1) al (ar _)) (af (ay (ck (az (cT (T:="tuple")) rfl T.n_isinstance OO (aa (pv 0) (aa (fv (v:=.ty "tuple") rfl T.n_tuple Oy rfl) ae))) (ck (ou (pcF T.g_is_call (gD T) hr (aa (pv 0) ae))) (cn (bw kh (pv 2) (bV (v:=.int (100)) rfl T.c_MOST_BRACKETS.choose_spec ⟨_,rfl⟩) (ar _))))))) aC)
  (af (ay (ck (pv 3) (cn (bw kA (pv 2) ag (ar _))))))))),?_⟩
 try dsimp only [xS,xw]
 refine aH (fun f' H'=>An2 (H=H') (f'=[some bv,some sv,some (.int d),some (.bl (ended b))])) (fun kk hk=>?_) ?_
 · cases b with
   | sg c =>
     have ya:bv=.str c:=hb;subst ya;refine ⟨_,rfl,_,_,_,rfl,.str c,nY,?_⟩;refine ⟨_,rfl,aS ?_⟩;refine ⟨_,rfl,_,rfl,.inl ⟨c,rfl,?_⟩⟩;exact hk _ _ ⟨rfl,rfl⟩
   | th t =>
     obtain ⟨a,rfl,hA⟩:=hb;obtain ⟨n',r',h3⟩:=hA.tup;refine ⟨_,rfl,_,_,_,rfl,.tup h3,oo,?_⟩;exact ⟨_,rfl,aZ (hk _ _ ⟨rfl,rfl⟩)⟩
 rintro f' H' ⟨rfl,rfl⟩;cases st with
 | th t =>
   obtain ⟨a,rfl,hA⟩:=hs;obtain ⟨n',r',h3⟩:=hA.tup;refine ⟨_,rfl,_,_,_,rfl,.tup h3,oo,_,rfl,aZ ?_⟩;exact ⟨_,rfl,_,rfl,kq⟩
 | sg c =>
   have Le:sv=.str c:=hs;subst Le;refine ⟨_,rfl,_,_,_,rfl,.str c,nY,_,rfl,aS ?_⟩;dsimp only [dP];refine ⟨_,rfl,_,rfl,.inl ⟨c,rfl,_,rfl,?_⟩⟩;refine cA (fun c1=>?_) (fun c1=>?_)
   · have hc:c=lpar:=of_decide_eq_true c1
     have Bw:Q (.bl (fJ b && decide (d<100))) H:=by
      have:fol b (.sg c) d=(fJ b && decide (d<100)):=if_pos hc;rw [this] at kq;exact kq
     cases b with
     | sg c2 =>
       have ya:bv=.str c2:=hb;subst ya;refine ⟨_,rfl,_,_,_,rfl,.str c2,nY,_,rfl,aS Bw⟩
     | th t =>
       obtain ⟨a,rfl,hA⟩:=hb;obtain ⟨n',r',h3⟩:=hA.tup;refine ⟨_,rfl,_,_,_,rfl,.tup h3,oo,_,rfl,aZ ?_⟩;refine ⟨_,rfl,a,t,rfl,hA,_,rfl,?_⟩;cases t with
       | call x y=>exact ⟨_,rfl,aS Bw⟩
       | knot n ks=>exact ⟨_,rfl,aZ ⟨_,rfl,_,_,rfl,rfl,Bw⟩⟩
   · have hc:¬ c=lpar:=fun z=>c1 (decide_eq_true z)
     have Bw:Q (.bl (ended b && decide (0<d))) H:=by
      have:fol b (.sg c) d=(ended b && decide (0<d)):=if_neg hc;rw [this] at kq;exact kq
     dsimp only [dP];refine ⟨_,rfl,_,rfl,?_⟩;refine cA (fun c2=>?_) (fun c2=>?_)
     · rw [c2,N8] at Bw;exact ⟨_,rfl,_,_,rfl,rfl,Bw⟩
     · rw [OI.mpr c2,Rr] at Bw;exact Bw
def TpL (H:Hp) (x:Th×Int) (a:M5):Prop:=∃ ta,H a=some (.lst [.ref ta,.int x.2])/\At H x.1 ta
theorem TpL.keep {H:Hp} {x:Th×Int} {b a:M5} {o:HO} {xs:List V} (h:TpL H x b) (xu:b≠a) (ea:H a=some (.lst xs)):TpL (upd H a o) x b:=by
 obtain ⟨ta,h1,h2⟩:=h;exact ⟨ta,by rw [aq xu];exact h1,h2.mono (bB ea)⟩
theorem TpL.same {H H':Hp} (s:L2.Same H H') {x:Th×Int} {b:M5} (h:TpL H x b):TpL H' x b:=by
 obtain ⟨ta,h1,h2⟩:=h;exact ⟨ta,s _ _ h1,h2.mono (Same.kt s)⟩
theorem eS {H:Hp} {a:M5} {o:HO} {xs:List V} (ea:H a=some (.lst xs)):∀ {tops:List (Th×Int)} {xv:List M5},NY (TpL H) tops xv->a∉xv->NY (TpL (upd H a o)) tops xv
 | _,_,.nil,_=>.nil
 | _,_,.cons h t,hn=>.cons (h.keep (fun z=>hn (by rw [z];exact Nj ..)) ea) (eS ea t fun z=>hn (Ng _ z))
theorem pG {H:Hp} {f:Int->Int} {a ta:M5} {m:Int} (ea:H a=some (.lst [.ref ta,.int m])):∀ {tops:List (Th×Int)} {xv:List M5} {j:Nat},NY (TpL H) tops xv->xv.Nodup->xv[j]?=some a->NY (TpL (upd H a (.lst [.ref ta,.int (f m)]))) (nI tops j f) xv
 | _,_,j,.nil,_,h=>by cases h
 | x::tops,b::xv,0,.cons h t,nd,e=>by
   have hb:b=a:=Nh e;subst hb;obtain ⟨Iq,h1,h2⟩:=h;rw [ea] at h1;have h3:[V.ref ta,V.int m]=[V.ref Iq,V.int x.2]:=by cases h1;rfl
   have h4:ta=Iq:=by injection h3 with z _;exact V.ref.inj z
   have h5:m=x.2:=by injection h3 with _ z;injection z with z _;exact V.int.inj z
   subst h4;rw [h5] at ea ⊢;exact .cons ⟨ta,ac,h2.mono (bB ea)⟩ (eS ea t (OX.mp nd).1)
 | x::tops,b::xv,j+1,.cons h t,nd,e=>by
   have hm:a∈xv:=Nu (by simpa using e);have xu:b≠a:=fun z=>(OX.mp nd).1 (by rw [z];exact hm);have ih:=pG (f:=f) ea t (OX.mp nd).2 (j:=j) (by simpa using e);exact .cons (h.keep xu ea) ih
structure TpI (H0:Hp) (sl tl wl:M5) (S:PSt) (bv:V) (ws xv:List M5) (H:Hp):Prop where
 sm:L2.Same H0 H
 tl0:H0 tl=none
 wl0:H0 wl=none
 tw:tl≠wl
 et:H tl=some (.lst (xv.map V.ref))
 ew:H wl=some (.lst (ws.map V.ref))
 win:NY (fun j a=>xv[j]?=some a) S.win ws
 tops:NY (TpL H) S.tops xv
 nd:xv.Nodup
 tas0:∀ a∈xv,H0 a=none
 tln:tl∉xv
 wln:wl∉xv
 bef:StV H S.bef bv
inductive gS (K:MY) (C:M5) (vs:List V) (H:Hp) (Q:VK) (E:XK):Prop
 | mk (sl:M5) (xs:List V) (steps:List Stp) (xB:vs=[.ref sl]) (xC:H sl=some (.lst xs)) (xG:NY (StV H) steps xs) (xT:steps.length<=100000) (yu:(∀ x∈steps,SOk x)) (zk:(∀ F,eQ steps=some F->∀ (r:M5) (xv:List M5) (H':Hp),L2.Same H H'->H' r=some (.lst (xv.map V.ref))->NY (TpL H') F.tops xv->Q (.ref r) H')) (Bf:(eQ steps=none->∀ H',L2.Same H H'->E (.ref C) none H')):gS K C vs H Q E
def mQ (K:MY) (C:M5):Sp:=gS K C
def Sh (S:PSt):Prop:=(fJ S.bef=true->S.tops≠[])/\(S.bef=.sg lpar->S.win≠[])/\((∃ t,S.bef=.th t)∨S.bef=.sg lpar∨S.bef=.sg comma∨S.bef=.sg rpar)
theorem oJ {S:PSt} {x:Stp} (hx:SOk x) (i:fJ S.bef=true->S.tops≠[]) (h:aO S x=none):fol S.bef x (S.win.length:Nat)=false:=by
 cases x with
 | th t =>
   rw [aO] at h;by_cases c:ended S.bef=false
   · rw [if_pos c] at h;cases h
   · show (!ended S.bef)=false;cases k:ended S.bef with
     | false=>exact absurd k c
     | true=>rfl
 | sg c =>
   rw [aO] at h;unfold fol;dsimp only;by_cases c1:c=lpar
   · rw [if_pos c1] at h ⊢;by_cases c2:fJ S.bef=true/\S.win.length<100/\S.tops≠[]
     · rw [if_pos c2] at h;cases h
     · cases k:fJ S.bef with
       | false=>rfl
       | true=>rw [decide_eq_false (show ¬ ((S.win.length:Nat):Int)<100 from fun z=>c2 ⟨k,by omega,i k⟩)];rfl
   · rw [if_neg c1] at h ⊢
     have key:¬ (ended S.bef=true/\S.win≠[]):=fun z=>by
      rcases hx with e | e | e
      · exact c1 e
      · rw [if_pos e,if_pos z] at h;cases h
      · rw [if_neg (fun k=>dR.2.2.1 (e.symm.trans k)),if_pos e,if_pos z] at h;cases h
     cases k:ended S.bef with
     | false=>rfl
     | true =>
       rw [decide_eq_false (show ¬ (0:Int)<((S.win.length:Nat):Int) from fun z=>key ⟨k,fun e=>by rw [e] at z;exact absurd z (by decide)⟩)];rfl
theorem pZ {S S':PSt} {x:Stp} (h:aO S x=some S'):fol S.bef x (S.win.length:Nat)=true:=by
 cases x with
 | th t =>
   rw [aO] at h;by_cases c:ended S.bef=false
   · show (!ended S.bef)=true;rw [c];rfl
   · rw [if_neg c] at h;cases h
 | sg c =>
   rw [aO] at h;unfold fol;dsimp only;by_cases c1:c=lpar
   · rw [if_pos c1] at h ⊢;by_cases c2:fJ S.bef=true/\S.win.length<100/\S.tops≠[]
     · rw [c2.1,decide_eq_true (show ((S.win.length:Nat):Int)<100 by omega)];rfl
     · rw [if_neg c2] at h;cases h
   · rw [if_neg c1] at h ⊢
     have key:ended S.bef=true/\S.win≠[]:=by
      by_cases c2:c=comma
      · rw [if_pos c2] at h;by_cases c3:ended S.bef=true/\S.win≠[]
        · exact c3
        · rw [if_neg c3] at h;cases h
      · rw [if_neg c2] at h;by_cases c3:c=rpar
        · rw [if_pos c3] at h;by_cases c4:ended S.bef=true/\S.win≠[]
          · exact c4
          · rw [if_neg c4] at h;cases h
        · rw [if_neg c3] at h;cases h
     have:=OE.mpr key.2;rw [key.1,decide_eq_true (show (0:Int)<((S.win.length:Nat):Int) by omega)];rfl
theorem qw {S S':PSt} {x:Stp} (h:aO S x=some S'):S'.bef=x:=by
 cases x with
 | th t=>rw [aO] at h;split at h <;> cases h;rfl
 | sg c =>
   rw [aO] at h;split at h
   · split at h <;> cases h;rfl
   · split at h
     · split at h <;> cases h;rfl
     · split at h
       · split at h <;> cases h;rfl
       · cases h
def TpR (H:Hp) (sl tl wl:M5) (S S':PSt) (st:Stp) (bv x:V) (i:Nat) (σ:St) (H':Hp):Prop:=∃ (ws xv:List M5),σ=[some (.ref sl),some (.ref tl),some (.ref wl),some bv,some x]/\TpI H sl tl wl ⟨S'.tops,S'.win,S.bef⟩ bv ws xv H'/\xv.length<=i+1/\ws.length<=i+1/\StV H' st x
set_option maxHeartbeats 2000000 in
theorem nu:FnOk P w K mg base (CX1 P w) 3 T.g_tops_of.f T.g_tops_of.d ["steps"] (mQ K T.e_NoText):=by
 refine T.g_tops_of.F.ok1 cm (fun vs H Q E h=>?_) (fun xy A outer s H vs Q E hr h=>?_)
 · obtain ⟨sl,xs,steps,rfl,_⟩:=h;rfl
 obtain ⟨sl,xs,steps,rfl,es,xF,hlen,hok,kq,ke⟩:=h
 refine ⟨_,(ad (av (i:=1) cm.nd rfl (NB rfl) (bc ae))
  (ad (av (i:=2) cm.nd rfl (NB rfl) (bc ae))
  (ad (av (i:=3) cm.nd rfl (NB rfl) al)
  (ad (dD QH rfl (d2 (pv 0)) (aD (i:=4) cm.nd rfl (NB rfl)) (ad (aQ (b8 (aU (pcF T.g_follows (oY T) hr (aa (pv 3) (aa (pv 4) (aa (az aA rfl T.n_len NO (aa (pv 2) ae)) ae)))) (fun _=>rfl))) (af (bx T.X_NoText T.x_NoText al)) aC)
  (ad (aQ (ax (iD (iR hr)) (pv 4) al (ar _)) (ad (jY ag (sJ (aI aJ (pv 1) (lC iA ag) (fun _ _=>rfl)) ag set_list))
  (af (bi (bU NH N0 NZ bp (pv 2) (aa (aI aJ (pv 1) (lC iA ag) (fun _ _=>rfl)) ae))))) (af (aQ (ax (iD (iR hr)) (pv 4) al (ar _)) (af (tS (aI aJ (pv 2) (lC iA ag) (fun _ _=>rfl)) ag qM ag l7 set_list)) (af (aQ (ax (iD (iR hr)) (pv 4) al (ar _)) (af (bi (mF NH Qu Qs mh (pv 2)))) (af (bi (bU NH N0 NZ bp (pv 1) (aa (bc (aa (pv 4) (aa ag ae))) ae)))))))))
  (af (av (i:=3) cm.nd rfl (NB rfl) (pv 4))))))
  (ad (aQ (PW.pt (eX (aU (pv 2) (fun _=>rfl)) (ef (ax (iD (iR hr)) (pv 3) al (ar _))))) (af (bx T.X_NoText T.x_NoText al)) aC)
  (af (ay (pv 1)))))))),?_⟩
 try dsimp only [xS,xw]
 have BQ:steps.length=xs.length:=N3 xF;refine ⟨ai (by show 0<=1000000;decide),fun tl DD=>?_⟩;have s1:L2.Same H (upd H tl (.lst [])):=aj DD _;have e1:(upd H tl (.lst [])) tl=some (.lst (([]:List M5).map V.ref)):=ac;generalize (upd H tl (.lst []))=H1 at s1 e1 ⊢;refine ⟨ai (by show 0<=1000000;decide),fun wl zD=>?_⟩;have s2:L2.Same H1 (upd H1 wl (.lst [])):=aj zD _;have e2:(upd H1 wl (.lst [])) wl=some (.lst (([]:List M5).map V.ref)):=ac;generalize (upd H1 wl (.lst []))=H2 at s2 e2 ⊢;have Lf:tl≠wl:=fun z=>by rw [z,zD] at e1;cases e1
 dsimp only [aE];refine ⟨_,rfl,sl,rfl,⟨_,SqL.of ((s1.trans s2) _ _ es)⟩,?_⟩
 refine kl (K:=K) (a:=sl) (xs:=xs) (fun i σ H3=>Ex5 fun (sv:Option V) (S:PSt) (bv:V) (ws xv:List M5)=>An6 (σ=[some (.ref sl),some (.ref tl),some (.ref wl),some bv,sv]) (TpI H sl tl wl S bv ws xv H3) (prun ⟨[],[],.sg comma⟩ steps=prun S (steps.drop i)) (Sh S) (xv.length<=i) (ws.length<=i))
  ⟨none,⟨[],[],.sg comma⟩,.str comma,[],[],rfl,⟨s1.trans s2,DD,s1.free zD,Lf,s2 _ _ e1,e2,.nil,.nil,QS,(fun a h=>by cases h),OR,OR,rfl⟩,rfl,⟨fun z=>(by cases z),fun z=>absurd (Stp.sg.inj z) dR.1,.inr (.inr (.inl rfl))⟩,M8 _,M8 _⟩ (fun i σ H3 _ ⟨_,_,_,_,_,_,I,_,_,_,_⟩=>SqL.of (I.sm _ _ es)) ?_ ?_
 · rintro i x σ H3 hx ⟨sv,S,bv,ws,xv,rfl,I,Bp,BL,yq,yd⟩;obtain ⟨st,AY,Gs⟩:=P2.get' xF hx;have zp:=(Nl.mp AY).1
   have Bx:steps.drop i=st::steps.drop (i+1):=by
    rw [OZ zp];rw [M3 zp] at AY;rw [Nh AY]
   rw [Bx] at Bp;have DH:=hok st (Nu AY);have BZ:S.win.length=ws.length:=N3 I.win;have EV:S.tops.length=xv.length:=N3 I.tops;have Au:=Gs.mono (Same.kt I.sm);dsimp only [aE];refine ⟨_,rfl,_,rfl,_,rfl,wl,_,rfl,.inl (SqL.of I.ew),bv,x,S.bef,st,_,rfl,I.bef,Au,?_⟩;rw [MX,<- BZ];cases xW:aO S st with
   | none =>
     rw [oJ DH BL.1 xW];refine ⟨_,rfl,aZ (ke ?_ H3 I.sm)⟩;unfold eQ;rw [Bp,prun,xW];rfl
   | some S' =>
   rw [pZ xW];have Gu:prun ⟨[],[],.sg comma⟩ steps=prun S' (steps.drop (i+1)):=Bp.trans (bQ xW);have Gv:=nZ DH xW BL.1;refine ⟨_,rfl,aS ?_⟩;dsimp only [dP];refine aH (TpR H sl tl wl S S' st bv x i) (fun kk hk=>?_) ?_
   rotate_left
   · rintro f' H4 ⟨zL,B0,rfl,I4,Lg,Lh,Li⟩;refine ⟨_,rfl,_,S',x,zL,B0,rfl,⟨I4.sm,I4.tl0,I4.wl0,I4.tw,I4.et,I4.ew,I4.win,I4.tops,I4.nd,I4.tas0,I4.tln,I4.wln,by rw [qw xW];exact Li⟩,Gu,Gv,Lg,Lh⟩
   cases st with
   | th t =>
     obtain ⟨a,rfl,hA⟩:=Au;obtain ⟨n',r',h3⟩:=hA.tup
     have Ci:S'=⟨S.tops++[(t,0)],S.win,.th t⟩:=by
      rw [aO] at xW;split at xW
      · exact (Nh xW).symm
      · cases xW
     refine ⟨_,rfl,_,rfl,.inr ⟨a,_,rfl,SqT.of h3,_,rfl,aS ?_⟩⟩;refine ⟨_,rfl,_,rfl,.inr ⟨a,_,rfl,SqT.of h3,_,rfl,aS ?_⟩⟩;refine ⟨_,rfl,_,rfl,.inr ⟨a,_,rfl,SqT.of h3,_,rfl,aS ?_⟩⟩;refine ⟨_,rfl,.inl ⟨rfl,_,SqL.of I.et⟩,_,rfl,ai (by show 2<=1000000;decide),fun np zc=>?_⟩;have s4:L2.Same H3 (upd H3 np (.lst [.ref a,.int 0])):=aj zc _;have e4:(upd H3 np (.lst [.ref a,.int 0])) np=some (.lst [.ref a,.int 0]):=ac;generalize (upd H3 np (.lst [.ref a,.int 0]))=H4 at s4 e4 ⊢;have Gw:=s4 _ _ I.et;have Gx:H np=none:=I.sm.free zc;have Ir:np≠tl:=fun z=>by rw [z,I.et] at zc;cases zc
     have Lj:np≠wl:=fun z=>by rw [z,I.ew] at zc;cases zc
     have Ig:np∉xv:=fun z=>by
      obtain ⟨j,hj⟩:=PV.mp z;obtain ⟨y,_,ta,e,_⟩:=P2.get' I.tops hj;rw [zc] at e;cases e
     refine ⟨tl,_,_,rfl,rfl,Gw,bh (by rw [MX];omega),?_⟩;have k5:KT H4 (upd H4 tl (.lst (xv.map V.ref++[.ref np]))):=bB Gw;refine hk _ _ ⟨ws,xv++[np],rfl,?_,by rw [Na,NR];omega,by omega,⟨a,rfl,(hA.mono (Same.kt s4)).mono k5⟩⟩;subst Ci;refine ⟨aN (I.sm.trans s4) I.tl0,I.tl0,I.wl0,I.tw,by rw [ac,Nw];rfl,by rw [aq I.tw.symm];exact s4 _ _ I.ew,P2.mp (fun j b e=>?_) I.win,?_,?_,fun b hb=>?_,fun z=>?_,fun z=>?_,(I.bef.mono (Same.kt s4)).mono k5⟩
     · rw [QU (Nl.mp e).1];exact e
     · exact P2.append (eS Gw (P2.mp (fun _ _ e=>TpL.same s4 e) I.tops) I.tln) (.cons ⟨a,by rw [aq Ir];exact e4,(hA.mono (Same.kt s4)).mono k5⟩ .nil)
     · exact RT.mpr ⟨I.nd,OX.mpr ⟨OR,QS⟩,fun b hb c hc e=>Ig (by rw [<- Nc.mp hc,<- e];exact hb)⟩
     · rcases NF.mp hb with hb | hb
       · exact I.tas0 b hb
       · rw [Nc.mp hb];exact Gx
     · rcases NF.mp z with z | z
       · exact I.tln z
       · exact Ir (Nc.mp z).symm
     · rcases NF.mp z with z | z
       · exact I.wln z
       · exact Lj (Nc.mp z).symm
   | sg c =>
     have ze:x=.str c:=Au;subst ze
     have DI:∀ (la ta:M5) (m m':Int) (zL:List M5) (W':List Nat) (j:Nat) (f:Int->Int),xv[j]?=some la->H3 la=some (.lst [.ref ta,.int m])->m'=f m->TpI H sl tl wl ⟨nI S.tops j f,S.win,S.bef⟩ bv ws xv (upd H3 la (.lst [.ref ta,.int m'])):=fun la ta m m' zL W' j f hj zS em=>by
      have zM:=Nu hj;have xK:la≠tl:=fun z=>I.tln (by rw [<- z];exact zM);have Lk:la≠wl:=fun z=>I.wln (by rw [<- z];exact zM);subst em;exact ⟨aN I.sm (I.tas0 la zM),I.tl0,I.wl0,I.tw,by rw [aq xK.symm];exact I.et,by rw [aq Lk.symm];exact I.ew,I.win,pG zS I.tops I.nd hj,I.nd,I.tas0,I.tln,I.wln,I.bef.mono (bB zS)⟩
     by_cases c1:c=lpar
     · have Ci:fJ S.bef=true/\S.win.length<100/\S.tops≠[]:=by
        rw [aO,if_pos c1] at xW;by_cases z:fJ S.bef=true/\S.win.length<100/\S.tops≠[]
        · exact z
        · rw [if_neg z] at xW;cases xW
       have AB:S'=⟨nI S.tops (S.tops.length - 1) (fun _=>1),S.win++[S.tops.length - 1],.sg c⟩:=by
        rw [aO,if_pos c1,if_pos Ci] at xW;exact (Nh xW).symm
       refine ⟨_,rfl,_,rfl,.inl ⟨c,rfl,_,rfl,?_⟩⟩;rw [decide_eq_true (show c=MW "(" from c1)];refine aZ ?_;have yQ:xv≠[]:=fun z=>Ci.2.2 (by rw [z] at EV;exact Oe.mp EV);have ET:=OE.mpr yQ;refine hid fun ZZ kZ=>?_;obtain ⟨la,yI⟩:∃ la,xv[xv.length - 1]?=some la:=⟨_,M3 (by omega)⟩
       have zx:∀ ys:List M5,ys=xv->atI (ys.map V.ref) (-1)=some (.ref la):=fun ys e=>by
        subst e;obtain ⟨Iu,b,rfl⟩:∃ Iu b,ys=Iu++[b]:=⟨ys.dropLast,ys.getLast yQ,(Pa yQ).symm⟩;rw [Na,NR,Nat.add_sub_cancel,QT (M8 _),RR] at yI;rw [Nw,<- Nh yI];exact nD _ _
       obtain ⟨y,hy,ta,zS,_⟩:=P2.get' I.tops yI;refine kZ ?_;refine ⟨_,rfl,_,rfl,tl,_,_,.ref la,rfl,rfl,SqL.of I.et,zx _ rfl,la,_,1,1,rfl,rfl,zS,rfl,?_⟩;have I4:=DI la ta y.2 1 ws S.win (xv.length - 1) (fun _=>1) yI zS rfl;dsimp only [List.set];generalize (upd H3 la (.lst [.ref ta,.int 1]))=H4 at I4 ⊢;refine ⟨_,rfl,.inl ⟨rfl,_,SqL.of I4.ew⟩,_,rfl,_,rfl,tl,_,_,.ref la,rfl,rfl,SqL.of I4.et,zx _ rfl,wl,_,_,rfl,rfl,I4.ew,bh (by rw [MX];omega),?_⟩;have k5:KT H4 (upd H4 wl (.lst (ws.map V.ref++[.ref la]))):=bB I4.ew;refine hk _ _ ⟨ws++[la],xv,rfl,?_,by omega,by rw [Na,NR];omega,rfl⟩;subst AB;exact ⟨aN I4.sm I4.wl0,I4.tl0,I4.wl0,I4.tw,by rw [aq I4.tw];exact I4.et,by rw [ac,Nw];rfl,P2.append I4.win (.cons (by (try dsimp only);rw [EV];exact yI) .nil),by (try dsimp only);rw [EV];exact eS I4.ew I4.tops I4.wln,I4.nd,I4.tas0,I4.tln,I4.wln,I4.bef.mono k5⟩
     · refine ⟨_,rfl,_,rfl,.inl ⟨c,rfl,_,rfl,?_⟩⟩;rw [decide_eq_false (show ¬ c=MW "(" from c1)];refine aS ?_
       have key:ended S.bef=true/\S.win≠[]:=by
        rw [aO,if_neg c1] at xW;by_cases c2:c=comma
        · rw [if_pos c2] at xW;by_cases c3:ended S.bef=true/\S.win≠[]
          · exact c3
          · rw [if_neg c3] at xW;cases xW
        · rw [if_neg c2] at xW;by_cases c3:c=rpar
          · rw [if_pos c3] at xW;by_cases c4:ended S.bef=true/\S.win≠[]
            · exact c4
            · rw [if_neg c4] at xW;cases xW
          · rw [if_neg c3] at xW;cases xW
       have DJ:ws≠[]:=fun z=>key.2 (by rw [z] at BZ;exact Oe.mp BZ);refine hid fun ZZ kZ=>?_;obtain ⟨zL,la,DK⟩:∃ zL b,ws=zL++[b]:=⟨ws.dropLast,ws.getLast DJ,(Pa DJ).symm⟩;have DL:=I.win;rw [DK] at DL;obtain ⟨W',j,Iv,Ll,hj⟩:=P2.snoc_inv DL;refine kZ ?_;by_cases c2:c=comma
       · have AB:S'=⟨nI S.tops (S.win.getLastD 0) (·+1),S.win,.sg c⟩:=by
          rw [aO,if_neg c1,if_pos c2,if_pos key] at xW;exact (Nh xW).symm
         refine ⟨_,rfl,_,rfl,.inl ⟨c,rfl,_,rfl,?_⟩⟩;rw [decide_eq_true (show c=MW "," from c2)];refine aZ ?_;refine hid fun ZZ kZ=>?_;obtain ⟨y,hy,ta,zS,_⟩:=P2.get' I.tops hj;refine kZ ?_;have zx:atI (ws.map V.ref) (-1)=some (.ref la):=by rw [DK,Nw];exact nD _ _
         refine ⟨_,rfl,_,rfl,wl,_,_,.ref la,rfl,rfl,SqL.of I.ew,zx,la,_,1,.int y.2,rfl,rfl,SqL.of zS,at1,_,_,rfl,rfl,la,_,1,1,rfl,rfl,zS,rfl,?_⟩;have I4:=DI la ta y.2 (y.2+1) ws S.win j (·+1) hj zS rfl;refine hk _ _ ⟨ws,xv,rfl,?_,by omega,by omega,rfl⟩;subst AB;dsimp only;rw [show S.win.getLastD 0=j by rw [Iv,fU]];exact I4
       · have c3:c=rpar:=by
          rw [aO,if_neg c1,if_neg c2] at xW;by_cases c3:c=rpar
          · exact c3
          · rw [if_neg c3] at xW;cases xW
         have AB:S'=⟨S.tops,S.win.dropLast,.sg c⟩:=by
          rw [aO,if_neg c1,if_neg c2,if_pos c3,if_pos key] at xW;exact (Nh xW).symm
         refine ⟨_,rfl,_,rfl,.inl ⟨c,rfl,_,rfl,?_⟩⟩;rw [decide_eq_false (show ¬ c=MW "," from c2)];refine aS ?_;refine ⟨_,rfl,_,rfl,.inl ⟨c,rfl,_,rfl,?_⟩⟩;rw [decide_eq_true (show c=MW ")" from c3)];refine aZ ?_;refine ⟨_,rfl,.inl ⟨rfl,_,SqL.of I.ew⟩,wl,_,.ref la,rfl,rfl,I.ew,by rw [DK];simp,?_⟩;have d1:(ws.map V.ref).dropLast=zL.map V.ref:=by rw [DK];simp
         rw [d1];have k5:KT H3 (upd H3 wl (.lst (zL.map V.ref))):=bB I.ew;refine hk _ _ ⟨zL,xv,rfl,?_,by omega,by rw [DK,Na,NR] at yd;omega,rfl⟩;subst AB;exact ⟨aN I.sm I.wl0,I.tl0,I.wl0,I.tw,by rw [aq I.tw];exact I.et,ac,by (try dsimp only);rw [Iv,Rp];exact Ll,eS I.ew I.tops I.wln,I.nd,I.tas0,I.tln,I.wln,I.bef.mono k5⟩
 · rintro σ H3 ⟨sv,S,bv,ws,xv,rfl,I,Bp,BL,yq,yd⟩;rw [List.drop_of_length_le (by omega)] at Bp;have Iw:prun ⟨[],[],.sg comma⟩ steps=some S:=Bp;have BZ:S.win.length=ws.length:=N3 I.win;have xU:¬ (S.win=[]/\ended S.bef=true)->E (.ref T.e_NoText) none H3:=fun h=>ke (by unfold eQ;rw [Iw];exact if_neg h) H3 I.sm;cases B1:ws with
   | cons a zL =>
     refine ⟨_,rfl,_,.inl ⟨_,SqL.of I.ew,rfl⟩,?_⟩;rw [B1];exact aZ (xU fun z=>by rw [z.1,B1] at BZ;cases BZ)
   | nil =>
   subst B1;have Iy:S.win=[]:=Oe.mp BZ;refine ⟨_,rfl,_,.inl ⟨_,SqL.of I.ew,rfl⟩,aS ?_⟩;have xN:ended S.bef=true->Q (.ref tl) H3:=fun h=>kq S (by unfold eQ;rw [Iw];exact if_pos ⟨Iy,h⟩) tl xv H3 I.sm I.et I.tops;have zN:=I.bef;rcases BL.2.2 with ⟨t,zd⟩ | zd | zd | zd
   · rw [zd] at zN xN;obtain ⟨a,rfl,hA⟩:=zN;obtain ⟨n',r',h3⟩:=hA.tup;exact ⟨_,rfl,_,rfl,.inr ⟨a,_,rfl,SqT.of h3,_,rfl,aS ⟨_,rfl,xN rfl⟩⟩⟩
   · exact absurd Iy (BL.2.1 zd)
   · rw [zd] at zN;have ya:bv=.str comma:=zN;subst ya;refine ⟨_,rfl,_,rfl,.inl ⟨comma,rfl,_,rfl,?_⟩⟩;rw [decide_eq_true (show comma=MW "," from rfl)];exact aZ (xU fun z=>by have:=z.2;rw [zd,bN] at this;cases this)
   · rw [zd] at zN xN;have ya:bv=.str rpar:=zN;subst ya;refine ⟨_,rfl,_,rfl,.inl ⟨rpar,rfl,_,rfl,?_⟩⟩;rw [decide_eq_false (show ¬ rpar=MW "," from dR.2.2.1)];exact aS ⟨_,rfl,xN dX⟩
namespace LB
def TopAtL (H:Hp):Top->M5->Prop
 | .nm n m,a=>∃ ta,H a=some (.lst [.ref ta,.int (m:Nat)])/\n≠q/\H ta=some (.tup [.str n])
 | .th t,a=>∃ ta,H a=some (.lst [.ref ta,.int 0])/\At H t ta
theorem TopAtL.same {H H':Hp} (s:L2.Same H H'):∀ {x:Top} {a:M5},TopAtL H x a->TopAtL H' x a
 | .nm n m,a,h=>by
   obtain ⟨ta,h1,h2,h3⟩:=h;exact ⟨ta,s _ _ h1,h2,s _ _ h3⟩
 | .th t,a,h=>by
   obtain ⟨ta,h1,h2⟩:=h;exact ⟨ta,s _ _ h1,h2.mono (Same.kt s)⟩
inductive lq (vs:List V) (H:Hp) (Q:VK) (_E:XK):Prop
 | mk (l:M5) (as:List M5) (tops:List Top) (u:Th) (xB:vs=[.ref l]) (xC:H l=some (.lst (as.map V.ref))) (xG:NY (TopAtL H) tops as) (xT:tops.length<=100000) (yu:TopsOk tops) (zk:(∀ t,Top.th t∈tops->t.size<=100000)) (Bf:bl tops=[u]) (Eu:∀ (r:M5) (H':Hp),L2.Same H H'->At H' u r->Q (.ref r) H'):lq  vs H Q _E
def qZ:Sp:=lq
theorem ok_built:FnOk P w K mg base CX0 1 T.g_built.f T.g_built.d ["tops"] qZ:=by
 refine T.g_built.F.ok gZ (fun vs H Q E h=>?_) (fun xy A outer s H vs Q E hr h=>?_)
 · obtain ⟨l,as,tops,u,rfl,_⟩:=h;rfl
 obtain ⟨l,as,tops,u,rfl,el,hT,hlen,hok,Gy,hu,k⟩:=h
 refine ⟨_,(ad (av (i:=1) gZ.nd rfl (Or.inr rfl) (bc ae))
  (ad (dD Pg rfl (uQ rfl T.n_reversed (pv 0)) (u9 rfl (bg (aD (i:=2) gZ.nd rfl (NB rfl)) (bg (aD (i:=3) gZ.nd rfl (NB rfl)) d3))) (af (aQ (ax kA (pv 3) ag (ar _)) (af (bi (bU NH N0 NZ bp (pv 1) (aa (ao tz (pv 2) (bH bT rfl T.n_tuple Oy (aa (cv (N:=[MW "number",MW "done"]) (js:=[none,some 1]) (g:=(aE 0)) (tt:=bt) (te:=(v9 K "list" (v7) (cx 1))) rfl (dL rfl (by decide +kernel) (by decide +kernel) rfl rfl rfl) (ir rfl T.n_range (aa (pv 3) ae)) (fun _ _ _ _ _ _=>(aD (i:=0) wI rfl (NB rfl))) (bR rfl) (fun _ _ _ _ _ _=>cw) (fun _ _ _ _ _ _=>(mF NH Qu Qs mh (pv 1)))) ae))) ae)))) (af (bi (bU NH N0 NZ bp (pv 1) (aa (pv 2) ae)))))))
  (af (ay (aI aJ (pv 1) ag (fun _ _=>rfl)))))),?_⟩
 have Cp:tops.length=as.length:=N3 hT;refine ⟨ai (by show 0<=1000000;decide),fun dn Bt=>?_⟩;refine ⟨_,rfl,l,_,rfl,SqL.of (aj Bt _ _ _ el),?_⟩
 refine tN (K:=K) (a:=l) (xs:=as.map V.ref) (fun i σ H2=>Ex3 fun c2 c3 ds=>An4 (σ=[some (.ref l),some (.ref dn),c2,c3]) (L2.Same H H2) (H2 dn=some (.lst (ds.map V.ref))) (Ats H2 (bl (tops.drop (tops.length - i))).reverse ds))
  ⟨none,none,[],rfl,aj Bt _,ac,by rw [RQ,List.drop_length];exact .nil⟩ (fun i σ H2 _ ⟨_,_,_,_,s2,_,_⟩=>SqL.of (s2 _ _ el)) ?_ ?_
 · rintro i y σ H2 hi hy ⟨c2,c3,ds,rfl,s2,AZ,yW⟩;rw [MX,<- Cp] at hi hy;obtain ⟨pr,rfl,Gz⟩:=bP hy;obtain ⟨x,hx,GA⟩:=P2.get' hT Gz;have EL:=GA.same s2;have hn:tops.length - 1 - i<tops.length:=by omega
   have Bx:tops.drop (tops.length - 1 - i)=x::tops.drop (tops.length - i):=by
    rw [OZ hn,show tops.length - 1 - i+1=tops.length - i by omega];congr 1;rw [M3 hn] at hx;exact Nh hx
   have A':=hok.drop (tops.length - 1 - i);rw [Bx] at A';have By:tops.length - (i+1)=tops.length - 1 - i:=by omega
   have FD:(bl (tops.drop (tops.length - i))).length<=100000:=by
    have:=oj (tops.drop (tops.length - i));rw [N9] at this;omega
   generalize tops.drop (tops.length - i)=S at Bx yW A' FD;refine hid fun ZZ kZ=>?_
   obtain ⟨ta,m,xs,Lm,eta,hm,K8,xN⟩:∃ (ta:M5) (m:Nat) (xs:List V),H2 pr=some (.lst [.ref ta,.int (m:Nat)])/\H2 ta=some (.tup xs)/\m<=(bl S).length/\xs.length<=200000/\∀ (H':Hp) (p:M5) (ks:List M5),KT H2 H'->Ats H' ((bl S).take m) ks->H' p=some (.tup (xs++ks.map V.ref))->∃ u',bl (x::S)=u'::(bl S).drop m/\At H' u' p:=by
    cases x with
    | nm n m =>
      rw [TopsOk] at A';obtain ⟨ta,h1,h2,h3⟩:=EL;refine ⟨ta,m,_,h1,h3,A'.1,(by show 1<=200000;decide),fun H' p ks kt hk hp=>⟨_,by rw [bl],?_⟩⟩;rw [At];exact ⟨h2,ks,hp,hk⟩
    | th t =>
      obtain ⟨ta,h1,h2⟩:=EL;obtain ⟨n',r',h3⟩:=h2.tup;have hw:=h2.width h3;have ya:=Gy t (Nu hx);refine ⟨ta,0,_,h1,h3,N2 _,by omega,fun H' p ks kt hk hp=>⟨t,by rw [bl,OW],?_⟩⟩;rw [Qo,Ats] at hk;subst hk;rw [OC,Nz] at hp;exact (h2.mono kt).same (kt _ _ h3) hp
   refine kZ ?_;refine ⟨pr,_,rfl,SqL.of Lm,rfl,_,_,rfl,_,_,rfl,rfl,?_⟩;have GB:=yW.length;rw [PF] at GB;refine jX (fun b H'=>An2 (H'=H2) (b=decide ((0:Int)<(m:Int)))) (fun kk F7=>?_) (fun H' hb=>?_) (fun H' hb=>?_)
   · exact ⟨_,rfl,_,_,rfl,rfl,_,rfl,F7 _ _ ⟨rfl,rfl⟩⟩
   rotate_left
   · obtain ⟨rfl,hb⟩:=hb
     have Ln:m=0:=by
      have:=of_decide_eq_false hb.symm;omega
     subst Ln;obtain ⟨u',AO,zh⟩:=xN H' ta [] (Same.kt (.refl _)) (by rw [Qo];exact .nil) (by rw [OC,Nz];exact eta);refine ⟨_,rfl,.inl ⟨rfl,_,SqL.of AZ⟩,_,rfl,dn,_,_,rfl,rfl,AZ,bh (by rw [MX];omega),?_⟩;have k6:KT H' (upd H' dn (.lst (ds.map V.ref++[.ref ta]))):=bB AZ;refine ⟨_,_,ds++[ta],rfl,?_,by rw [ac,Nw];rfl,?_⟩
     · intro b o e;rw [aq (aK e Bt)];exact s2 b o e
     · rw [By,Bx,AO,Oq];rw [OW];exact (yW.mono k6).append (.cons (zh.mono k6) .nil)
   obtain ⟨rfl,hb⟩:=hb;refine ⟨_,rfl,.inl ⟨rfl,_,SqL.of AZ⟩,_,rfl,?_⟩;refine ⟨_,rfl,(m:Int),rfl,by omega,by omega,fun D hD=>?_⟩;have GC:D≠dn:=fun z=>by rw [z,AZ] at hD;cases hD
   have Bq:((m:Nat):Int).toNat=m:=NW m
   refine ⟨m,fun j H3=>An3 (j<=m) ((∀ b o,H' b=some o->b≠dn->H3 b=some o)) (Ex2 fun (Ba ks:List M5)=>An4 (H3 dn=some (.lst (Ba.map V.ref))) (H3 D=some (.lst (ks.map V.ref))) (Ats H3 ((bl S).drop j).reverse Ba) (Ats H3 ((bl S).take j) ks)),
    ⟨N2 _,fun b o e hb=>?_,ds,[],?_,?_,?_,?_⟩,?_⟩
   · rw [aq (aK e hD)];exact e
   · rw [aq GC.symm];exact AZ
   · rw [ac];rfl
   · rw [OW];exact yW.mono (mw hD)
   · rw [Qo];exact .nil
   rintro j H3 ⟨hj,kp,Ba,ks,ed,eD,AE,hd2⟩;by_cases Iz:j=m
   · left;refine ⟨(by show ((m:Nat):Int).toNat<=j;rw [Bq,Iz];exact M8 _),?_⟩;subst Iz;have DM:KT H' H3:=fun b MN e=>kp b _ e (uz e AZ (by intro z;cases z));refine ⟨D,_,rfl,.inl ⟨SqL.of eD,fun tp ET=>?_⟩⟩;have s4:L2.Same H3 (upd H3 tp (.tup (ks.map V.ref))):=aj ET _;have e4:(upd H3 tp (.tup (ks.map V.ref))) tp=some (.tup (ks.map V.ref)):=ac;generalize (upd H3 tp (.tup (ks.map V.ref)))=H4 at s4 e4 ⊢;have zR:=hd2.length;refine wV (s4 _ _ (DM _ _ eta)) e4 (by rw [MX,zR,Og];omega) fun p H5 s5 e5=>?_;have Bz:=s4.trans s5;have IC:=Bz _ _ ed;have GD:=DM.trans (Same.kt Bz);obtain ⟨u',AO,zh⟩:=xN H5 p ks GD (hd2.mono (Same.kt Bz)) e5;have Ck:=AE.length;rw [PF,N9] at Ck;refine ⟨dn,_,_,rfl,rfl,IC,bh (by rw [MX];omega),?_⟩;have k6:KT H5 (upd H5 dn (.lst (Ba.map V.ref++[.ref p]))):=bB IC;refine ⟨_,_,Ba++[p],rfl,?_,by rw [ac,Nw];rfl,?_⟩
     · intro b o e;have hb:b≠dn:=aK e Bt;rw [aq hb];exact Bz _ _ (kp b o (s2 b o e) hb)
     · rw [By,Bx,AO,Oq];exact (AE.mono ((Same.kt Bz).trans k6)).append (.cons (zh.mono k6) .nil)
   · right;have Bu:j<m:=by omega
     refine ⟨Bu,(by show j<((m:Nat):Int).toNat;rw [Bq];exact Bu),?_⟩;rintro x' H4 ⟨e1,e2⟩;have zY:H4=H3:=e1;subst zY;have ID:j<(bl S).length:=by omega
     have Lo:(bl S).drop j=(bl S)[j]::(bl S).drop (j+1):=OZ ID;rw [Lo,Oq] at AE
     have xu:Ba≠[]:=by
      intro z;subst z;have:=AE.length;rw [Na] at this;simp at this
     refine hid fun ZZ kZ=>?_;obtain ⟨B2,b,rfl⟩:∃ B2 b,Ba=B2++[b]:=⟨Ba.dropLast,Ba.getLast xu,(Pa xu).symm⟩;obtain ⟨Us,x2,e3,hU,yZ⟩:=AE.snoc_inv;have e4:=List.append_inj' e3 rfl;obtain ⟨e5,e6⟩:=e4;refine kZ ?_;cases e6;subst e5;refine ⟨_,rfl,.inl ⟨rfl,_,SqL.of ed⟩,dn,_,.ref b,rfl,rfl,ed,by simp,?_⟩;have d1:((B2++[b]).map V.ref).dropLast=B2.map V.ref:=by simp
     rw [d1];have IE:(upd H4 dn (.lst (B2.map V.ref))) D=some (.lst (ks.map V.ref)):=by rw [aq GC];exact eD
     have k5:KT H4 (upd (upd H4 dn (.lst (B2.map V.ref))) D (.lst (ks.map V.ref++[.ref b]))):=(bB ed).trans (bB IE);refine ⟨_,IE,bh (by rw [MX,hd2.length,Og];omega),Bu,fun b' o e ya=>?_,B2,ks++[b],?_,?_,hU.mono k5,?_⟩
     · rw [aq (aK e hD),aq ya];exact kp b' o e ya
     · rw [aq GC.symm,ac]
     · rw [ac,Nw];rfl
     · rw [Qp,M3 ID];exact (hd2.mono k5).append (.cons (yZ.mono k5) .nil)
 · rintro σ H2 ⟨c2,c3,ds,rfl,s2,AZ,yW⟩;rw [MX,<- Cp,RR,OW,hu] at yW;have DN:Ats H2 [u] ds:=yW;rw [Ats] at DN;obtain ⟨b,r,rfl,hb,MO⟩:=DN;exact ⟨_,rfl,dn,_,0,.ref b,rfl,rfl,SqL.of AZ,at0,k b H2 s2 hb⟩
end LB
def sr (x:Th×Int):Top:=match x.1 with
 | .knot n _=>.nm n x.2.toNat
 | .call s k=>.th (.call s k)
theorem oP:∀ (t:Th),sr (fM t)=cI Th.call t
 | .knot n ks=>by show Top.nm n (((ks.length:Nat):Int)).toNat=_;rw [NW];rfl
 | .call s k=>rfl
theorem r9 {H:Hp}:∀ {l:List Th} {xv:List M5},NY (TpL H) (l.map fM) xv->NY (LB.TopAtL H) (l.map (cI Th.call)) xv
 | [],_,h=>by cases h;exact .nil
 | t::l,xv,h=>by
   cases h with
   | cons h1 h2 =>
     refine .cons ?_ (r9 h2);obtain ⟨ta,e,hA⟩:=h1;cases t with
     | knot n ks =>
       have IF:At H (.knot n []) ta:=hA;rw [At] at IF;refine hid fun ZZ kZ=>?_;obtain ⟨hq,as,e2,h3⟩:=IF;refine kZ ?_;have:as=[]:=Oe.mp (by have:=h3.length;exact this);subst this;exact ⟨ta,e,hq,e2⟩
     | call s k=>exact ⟨ta,e,hA⟩
theorem mB:∀ (t u:Th),Top.th u∈t.walk.map (cI Th.call)->u.size<=1:=fun t u h=>by
 obtain ⟨v,_,e⟩:=O3.mp h;cases v with
 | knot n ks=>cases e
 | call s k=>cases e;rw [Th.size];exact M8 _
def pw (ws:List Nd):List Nd:=(W4 (jn (ws.map sL))).map ofL
inductive dv (K:MY) (C:M5) (vs:List V) (H:Hp) (Q:VK) (E:XK):Prop
 | mk (wl:M5) (ws:List Nd) (xB:vs=[.ref wl]) (xC:H wl=some (.lst (ws.map V.str))) (xG:(ws.map (·.length)).sum+ws.length<=6000) (xT:(∀ t:Th,cB (pw ws) t->t.size<=60000->∀ (r:M5) (H':Hp),L2.Same H H'->At H' t r->Q (.ref r) H')) (yu:((∀ t:Th,¬ cB (pw ws) t)->∀ H',L2.Same H H'->E (.ref C) none H')):dv K C vs H Q E
def ip (K:MY) (C:M5):Sp:=dv K C
set_option maxHeartbeats 1000000 in
theorem dJ:FnOk P w K mg base (CX1 P w) 4 T.g_read_pattern.f T.g_read_pattern.d ["words"] (ip K T.e_NoText):=by
 refine T.g_read_pattern.F.ok1 eB (fun vs H Q E h=>?_) (fun xy A outer s H vs Q E hr h=>?_)
 · obtain ⟨wl,ws,rfl,_⟩:=h;rfl
 obtain ⟨wl,ws,rfl,ew,hlen,kq,ke⟩:=h
 refine ⟨_,(ad (av (i:=1) eB.nd rfl (NB rfl) (tU (sep:=MW " ") (y:=MW ".") (z:=MW " . ") (pv 0) (by decide +kernel) (by decide +kernel)))
  (af (ay (pcF T.g_built (LB.ok_built T) hr (aa (aY (nu T) (hr.mono (by first | decide | omega)) rfl T.g_tops_of.m T.g_tops_of.F.kp T.g_tops_of.b .nil cD (aa (aY (lQ T) (hr.mono (by first | decide | omega)) rfl T.g_steps_of.m T.g_steps_of.F.kp T.g_steps_of.b .nil cD (aa (pcF T.g_words_of (nT T) hr (aa (pv 1) ae)) ae)) ae)) ae))))),?_⟩
 try dsimp only [xS,xw]
 have GF:(OQ (MW " ") ws).length<=6000:=by
  have h1:(OQ (MW " ") ws).length=(jn (ws.map sL)).length:=by rw [<- aT];exact congrArg O6 (jt ws)
  rw [h1];have h2:=sk (ws.map sL);rw [O4,MX] at h2;have h3:(ws.map (O6 ∘ sL))=ws.map (·.length):=QL fun x _=>aT x;rw [h3] at h2;omega
 refine ⟨_,rfl,wl,ws,rfl,SqL.of ew,?_,by omega,?_⟩
 · show _+ws.length * 1<=1000000;omega
 dsimp only [aE]
 have GG:Rg (OQ (MW " ") ws) (MW ".") (MW " . ")=ofL (dg 46 [32,46,32] (jn (ws.map sL))):=by
  have h1:MW "."=⟨#[46]⟩:=by decide +kernel
  have h2:(MW " . ").cps.toList=[32,46,32]:=by decide +kernel
  rw [h1,replace_one _ _ _ (by decide +kernel),h2];exact congrArg (fun l=>ofL (dg 46 [32,46,32] l)) (jt ws)
 rw [GG]
 have zi:(dg 46 [32,46,32] (jn (ws.map sL))).length<=18000:=by
  have h1:=gG 46 [32,46,32] rfl (jn (ws.map sL))
  have h2:(jn (ws.map sL)).length<=6000:=by
   have h1:(OQ (MW " ") ws).length=(jn (ws.map sL)).length:=by rw [<- aT];exact congrArg O6 (jt ws)
   omega
  omega
 have Lp:BB.wordsOf (ofL (dg 46 [32,46,32] (jn (ws.map sL))))=pw ws:=by
  unfold BB.wordsOf;rw [aL,tG];rfl
 have yS:∀ l:List Nat,(l.flatMap sp4).length<=3 * l.length:=fun l=>by
  induction l with
  | nil=>exact M8 _
  | cons d l ih =>
    rw [O9,Na,MZ]
    have:(sp4 d).length<=3:=by
     rcases u8 d with h | h
     · rw [nO (by omega)];exact M8 _
     · rw [fI h];exact (by decide:1<=3)
    omega
 have Lq:(jn (ws.map sL)).length<=6000:=by
  have h1:(OQ (MW " ") ws).length=(jn (ws.map sL)).length:=by rw [<- aT];exact congrArg O6 (jt ws)
  omega
 have MP:=yS (jn (ws.map sL))
 have yk:(pw ws).length<=18001:=by
  unfold pw W4;rw [MX];have:=tu ((jn (ws.map sL)).flatMap sp4);omega
 have Lr:∀ x∈pw ws,x.length<=100000:=fun x hx=>by
  unfold pw W4 at hx;obtain ⟨y,hy,rfl⟩:=O3.mp hx;have:=tO hy;rw [d8];omega
 refine ⟨_,rfl,_,rfl,by rw [d8];omega,fun r1 H1 s1 _ e1=>?_⟩;rw [Lp] at e1;refine ⟨r1,pw ws,rfl,e1,by omega,Lr,fun l hl r2 xs H2 s2 e2 Ls=>?_,fun hl H2 s2=>ke (fun t ht=>by rw [ht.1] at hl;cases hl) H2 (s1.trans s2)⟩;have Lu:=oV hl;have hok:=(dj.mp hl).2;refine ⟨r2,xs,l,rfl,e2,Ls,by omega,hok,fun F hF r3 xv H3 s3 e3 EB=>?_,fun hF H3 s3=>ke (fun t ht=>?_) H3 (s1.trans (s2.trans s3))⟩
 · obtain ⟨t,rfl,ht⟩:=og hok hF;obtain ⟨F',DO,Lv⟩:=cj ht;rw [hF] at DO;have:=Nh DO;subst this;rw [Lv] at EB;have xQ:=qX t;rw [MX] at Lu;obtain ⟨AR,GH⟩:=gU Th.call t;refine ⟨r3,xv,t.walk.map (cI Th.call),t,rfl,e3,r9 EB,by rw [MX,Th.walk_len];omega,GH,fun u hu=>Ow (mB t u hu) (by decide),by rw [AR,BB.fH],fun r4 H4 s4 Gu=>?_⟩;exact kq t ⟨hl,ht⟩ (by omega) r4 H4 (s1.trans (s2.trans (s3.trans s4))) Gu
 · rw [ht.1] at hl;have:=Nh hl;subst this;obtain ⟨F',DO,_⟩:=cj ht.2;rw [hF] at DO;cases DO
def iX:Sp:=fun vs H Q _=>∃ z:Nd,vs=[.str z]/\z.length<=30000/\∀ (r:M5) (H':Hp),L2.Same H H'->H r=none->H' r=some (.lst (((wds (sL z)).map ofL).map V.str))->Q (.ref r) H'
def fK (k:Nd×Int):Prop:=aw k.1=true/\0<=k.2/\k.2<10
def g6:Sp:=fun vs H Q _=>∃ k:Nd×Int,vs=[.str (bO k)]/\fK k/\∀ (r:M5) (H':Hp),L2.Same H H'->KAt H' k r->Q (.ref r) H'
inductive eP (vs:List V) (H:Hp) (Q:VK) (_E:XK):Prop
 | mk (f:Nd) (wl:M5) (ks:List (Nd×Int)) (xB:vs=[.str f,.ref wl]) (xC:H wl=some (.lst ((f::ks.map bO).map V.str))) (xG:ks≠[]) (xT:ks.length<=1000) (yu:(∀ k∈ks,fK k)) (zk:∀ (r:M5) (as:List M5) (H':Hp),L2.Same H H'->H' r=some (.lst (as.map V.ref))->KsAt H' ks as->Q (.ref r) H'):eP  vs H Q _E
def kK:Sp:=eP
theorem split_le (c:Nat):∀ l:List Nat,(aB c l).length<=l.length+1
 | []=>M8 _
 | d::l=>by
   have ih:=split_le c l;rw [aB];obtain ⟨p,r,e⟩:=bI c l;rw [e] at ih ⊢;rw [MZ] at ih;split
   · rw [MZ,MZ,MZ];omega
   · rw [MZ,MZ];omega
theorem aF {n:Nd} (h:aw n=true):(∀ c∈sL n,97<=c/\c<=122)/\n.length<=8/\n.length≠0:=by
 unfold aw low at h;obtain ⟨h1,h2⟩:=NX _ _ |>.mp h;have h3:=of_decide_eq_true h1;exact ⟨fun c hc=>of_decide_eq_true (Oa.mp h2 c hc),h3.2,by omega⟩
theorem rq:sL t8=[47]:=by decide +kernel
theorem eK {k:Nd×Int} (h:fK k):sL (bO k)=sL k.1++47::sL (aM k.2):=by
 unfold bO;rw [bK,bK,rq,Nr];rfl
set_option maxHeartbeats 1000000 in
theorem nb:FnOk P w K mg base CX0 1 T.g_words_in.f T.g_words_in.d ["row"] iX:=by
 refine T.g_words_in.F.ok na (fun vs H Q E h=>?_) (fun xy A outer s H vs Q E hr h=>?_)
 · obtain ⟨z,rfl,_⟩:=h;rfl
 obtain ⟨z,rfl,hz,q⟩:=h;refine ⟨_,(af (ay (cv (N:=[MW "word"]) (js:=[none]) (g:=(aE 0)) (tt:=(m5 (tOp (rNe) (cx 0) (tC (.str (MW "")))))) (te:=(cx 0)) rfl (dL rfl (by decide +kernel) (by decide +kernel) rfl rfl rfl) (d2 (bU N7 Q8 Q6 kf (pv 0) (aa al ae))) (fun _ _ _ _ _ _=>(aD (i:=0) vf rfl (NB rfl))) (bR rfl) (fun _ _ _ _ _ _=>mH (ax cf (pv 0) al (ar _))) (fun _ _ _ _ _ _=>(pv 0))))),?_⟩
 try dsimp only [xS,xw]
 refine ⟨_,rfl,rfl,z,MW " ",rfl,rfl,rfl,by omega,fun p hp=>?_⟩
 have yS:OT z (MW " ")=(aB 32 (sL z)).map ofL:=by
  have h1:MW " "=⟨#[32]⟩:=rfl;rw [h1,iF _ (by decide)];rfl
 have BY:=split_le 32 (sL z);rw [aT] at BY;have s1:L2.Same H (upd H p (.lst ((OT z (MW " ")).map V.str))):=aj hp _;have e1:(upd H p (.lst ((OT z (MW " ")).map V.str))) p=some (.lst (((aB 32 (sL z)).map ofL).map V.str)):=by rw [ac,yS]
 generalize (upd H p (.lst ((OT z (MW " ")).map V.str)))=H1 at s1 e1 ⊢;refine ⟨p,rfl,⟨_,SqL.of e1⟩,gR ((aB 32 (sL z)).map ofL) (fun x=>!decide (V.str x=V.str (MW ""))) V.str (SqL.of e1) (by rw [MX,MX,MX]) (by rw [MX,MX];omega) (fun i x y H2 R hx hy sm r=>?_) (fun i x y H2 R hx hy _ sm r=>?_) (fun D hD=>?_)⟩
 · rw [Nq,hy] at hx;cases hx;exact ⟨_,rfl,rfl,_,rfl,r⟩
 · rw [Nq,hy] at hx;cases hx;exact ⟨_,rfl,r⟩
 · rw [nC];exact q D _ (s1.trans (aj hD _)) (s1.free hD) ac
theorem lS:FnOk P w K mg base CX0 2 T.g_read_kind.f T.g_read_kind.d ["word"] g6:=by
 refine T.g_read_kind.F.ok cM (fun vs H Q E h=>?_) (fun xy A outer s H vs Q E hr h=>?_)
 · obtain ⟨k,rfl,_⟩:=h;rfl
 obtain ⟨k,rfl,hk,kq⟩:=h
 refine ⟨_,(ad (jY (bU N7 PySem.F.slot_str_partition PySem.F.type_str_partition my (pv 0) (aa al ae)) (iS rfl (bg (aD (i:=1) cM.nd rfl (NB rfl)) (bg (aD (i:=2) cM.nd rfl (NB rfl)) (bg (aD (i:=3) cM.nd rfl (NB rfl)) d3)))))
  (ad (aQ (b8 (aU (pcF T.g_is_name (f9 T) hr (aa (pv 1) ae)) (fun _=>rfl))) (af nG) aC)
  (af (ay (dB (aa (pv 1) (aa (pcF T.g_read_number (jM T) hr (aa (pv 3) ae)) ae))))))),?_⟩
 try dsimp only [xS,xw]
 obtain ⟨l1,l2,l3⟩:=aF hk.1;have hs:=eK hk
 have hl:(bO k).length<=20:=by
  rw [<- aT,hs,Na,MZ,aT,fo hk.2.1 hk.2.2];show k.1.length+2<=20;omega
 refine ⟨_,rfl,rfl,_,47,sL k.1,sL (aM k.2),rfl,by rw [show MW "/"=(⟨#[47]⟩:Nd) by decide +kernel],hs,fun d hd=>by have:=l1 d hd;omega,by omega,fun p hp=>?_⟩;rw [show ofL (sL k.1)=k.1 from iw _,show ofL (sL (aM k.2))=aM k.2 from iw _];have s1:L2.Same H (upd H p (.tup [.str k.1,.str ⟨#[47]⟩,.str (aM k.2)])):=aj hp _;have e1:(upd H p (.tup [.str k.1,.str ⟨#[47]⟩,.str (aM k.2)])) p=some (.tup [.str k.1,.str ⟨#[47]⟩,.str (aM k.2)]):=ac;generalize (upd H p (.tup [.str k.1,.str ⟨#[47]⟩,.str (aM k.2)]))=H1 at s1 e1 ⊢;refine ⟨p,_,rfl,SqT.of e1,rfl,_,_,rfl,_,_,rfl,_,_,rfl,rfl,?_⟩;dsimp only [aE];refine ⟨_,rfl,k.1,rfl,by omega,fun H2 s2=>?_⟩;rw [hk.1];refine ⟨_,rfl,aS ?_⟩;dsimp only [dP];refine ⟨_,rfl,_,rfl,k.2,rfl,hk.2.1,hk.2.2,fun H3 s3=>⟨ai (by show 2<=1000000;decide),fun r xY=>?_⟩⟩;exact kq r _ (s1.trans (s2.trans (s3.trans (aj xY _)))) ac
set_option maxHeartbeats 1000000 in
theorem fW:FnOk P w K mg base CX0 3 T.g_read_kinds.f T.g_read_kinds.d ["first","words"] kK:=by
 refine T.g_read_kinds.F.ok kU (fun vs H Q E h=>?_) (fun xy A outer s H vs Q E hr h=>?_)
 · obtain ⟨f,wl,ks,rfl,_⟩:=h;rfl
 obtain ⟨f,wl,ks,rfl,ew,xu,hlen,hok,kq⟩:=h
 refine ⟨_,(ad (aQ (PW.pt (eX (ax kh (az aA rfl T.n_len NO (aa (pv 1) ae)) ag (ar _)) (ef (ax cf (aI aJ (pv 1) ag (fun _ _=>rfl)) (pv 0) (ar _))))) (af nG) aC)
  (af (ay (cv (N:=[MW "word"]) (js:=[none]) (g:=(aE 0)) (tt:=bt) (te:=(nH g6 [] E0 (cz (cx 0) gm))) rfl (dL rfl (by decide +kernel) (by decide +kernel) rfl rfl rfl) (d2 (bM fA (pv 1) (bL ag) cK)) (fun _ _ _ _ _ _=>(aD (i:=0) vf rfl (NB rfl))) (bR rfl) (fun _ _ _ _ _ _=>cw) (fun _ _ _ _ _ _=>(pcF T.g_read_kind (lS T) hr (aa (pv 0) ae))))))),?_⟩
 try dsimp only [xS,xw]
 have MQ:=OE.mpr xu;refine ⟨_,rfl,wl,_,rfl,.inl (SqL.of ew),_,_,rfl,rfl,_,rfl,?_⟩;rw [decide_eq_false (by rw [MX,MZ,MX];omega)];refine aS ?_;refine ⟨_,rfl,wl,_,0,.str f,rfl,rfl,SqL.of ew,at0,_,rfl,rfl,_,rfl,?_⟩;rw [decide_eq_true rfl];refine aS ?_;dsimp only [dP];refine ⟨_,rfl,1,rfl,wl,_,rfl,SqL.of ew,fun l1 yq=>?_⟩;have Cj:eF ((f::ks.map bO).map V.str) (some 1) none=(ks.map bO).map V.str:=jG _ _;rw [Cj];have s1:L2.Same H (upd H l1 (.lst ((ks.map bO).map V.str))):=aj yq _;have e1:(upd H l1 (.lst ((ks.map bO).map V.str))) l1=some (.lst ((ks.map bO).map V.str)):=ac;generalize (upd H l1 (.lst ((ks.map bO).map V.str)))=H1 at s1 e1 ⊢;refine ⟨l1,rfl,⟨_,SqL.of e1⟩,jx (F:=KAt) (xs:=(ks.map bO).map V.str) ks (fun H1 H2 z p kt h=>kt _ _ h) (by rw [MX,MX]) (by rw [MX,MX];omega) (fun i Hx sx hi=>⟨_,_,SqL.of (sx _ _ e1),M3 hi⟩) (fun Hx sx=>⟨_,SqL.of (sx _ _ e1),M8 _⟩) (fun i Hx x Hy sx hi hy=>⟨hy.1,hy.2 _ (SqL.of (sx _ _ e1))⟩) (fun i x k Hx R W' hx hk sx hR=>?_) (fun D H2 as hD s2 eD yc=>?_)⟩
 · rw [Nq,Nq,hk] at hx;cases hx;exact ⟨_,rfl,k,rfl,hok k (Nu hk),fun r H3 s3 h3=>hR H3 r s3 h3⟩
 · exact kq D as H2 (s1.trans s2) eD yc
def HeadOf (ws:List Nd) (t:Th):Prop:=∃ rest,ws=MW "head"::rest/\cB (pw rest) t
def RuleOf (st:Int) (nm:Nd) (ws:List Nd) (t:Th):Prop:=∃ rest,ws=MW "rule"::aM st::nm::rest/\rest≠[]/\(0<=st/\st<1000)/\cB (pw rest) t
def WsOk (ws:List Nd):Prop:=(ws.map (·.length)).sum+ws.length<=6000
theorem WsOk.tail {x:Nd} {ws:List Nd} (h:WsOk (x::ws)):WsOk ws:=by
 unfold WsOk at h ⊢;rw [Ni,O2,MZ] at h;omega
theorem WsOk.mem:∀ {ws:List Nd},WsOk ws->∀ x∈ws,x.length<=6000
 | [],_,x,hx=>by cases hx
 | y::ws,h,x,hx=>by
   rcases Nb.mp hx with rfl | hx
   · unfold WsOk at h;rw [Ni,O2] at h;omega
   · exact WsOk.mem h.tail x hx
inductive eO (K:MY) (C:M5) (vs:List V) (H:Hp) (Q:VK) (E:XK):Prop
 | mk (wl:M5) (ws:List Nd) (xB:vs=[.ref wl]) (xC:H wl=some (.lst (ws.map V.str))) (xG:WsOk ws) (xT:(∀ t:Th,HeadOf ws t->t.size<=60000->∀ (r:M5) (H':Hp),L2.Same H H'->At H' t r->Q (.ref r) H')) (yu:((∀ t,¬ HeadOf ws t)->∀ H',L2.Same H H'->E (.ref C) none H')):eO K C vs H Q E
def kM (K:MY) (C:M5):Sp:=eO K C
inductive eZ (K:MY) (C:M5) (vs:List V) (H:Hp) (Q:VK) (E:XK):Prop
 | mk (st:Int) (nm:Nd) (wl:M5) (ws:List Nd) (xB:vs=[.int st,.str nm,.ref wl]) (xC:H wl=some (.lst (ws.map V.str))) (xG:WsOk ws) (xT:(∀ t:Th,RuleOf st nm ws t->t.size<=60000->∀ (r:M5) (H':Hp),L2.Same H H'->At H' t r->Q (.ref r) H')) (yu:((∀ t,¬ RuleOf st nm ws t)->∀ H',L2.Same H H'->E (.ref C) none H')):eZ K C vs H Q E
def kQ (K:MY) (C:M5):Sp:=eZ K C
set_option maxHeartbeats 1000000 in
theorem lc:FnOk P w K mg base (CX1 P w) 5 T.g_read_head.f T.g_read_head.d ["words"] (kM K T.e_NoText):=by
 refine T.g_read_head.F.ok1 lZ (fun vs H Q E h=>?_) (fun xy A outer s H vs Q E hr h=>?_)
 · obtain ⟨wl,ws,rfl,_⟩:=h;rfl
 obtain ⟨wl,ws,rfl,ew,hok,kq,ke⟩:=h
 refine ⟨_,(ad (aQ (ax (uO (B:=150) (ng hr)) (bM fA (pv 0) cK (bL ag)) (bc (aa al ae)) (ar _)) (af (bx T.X_NoText T.x_NoText al)) aC)
  (af (ay (aY (dJ T) (hr.mono (by first | decide | omega)) rfl T.g_read_pattern.m T.g_read_pattern.F.kp T.g_read_pattern.b .nil cD (aa (bM fA (pv 0) (bL ag) cK) ae))))),?_⟩
 try dsimp only [xS,xw]
 refine ⟨_,rfl,1,rfl,wl,_,rfl,SqL.of ew,fun l1 yq=>?_⟩
 have Cj:eF (ws.map V.str) none (some 1)=(ws.take 1).map V.str:=by
  unfold eF;rw [show (1:Int)=((1:Nat):Int) by rfl,HT.sIx_none,HT.sIx_nat,MX,OW,RQ,<- List.map_take];congr 1;cases ws with
  | nil=>rfl
  | cons x ws=>rw [MZ,Rh (by omega)]
 rw [Cj];have s1:L2.Same H (upd H l1 (.lst ((ws.take 1).map V.str))):=aj yq _;have e1:(upd H l1 (.lst ((ws.take 1).map V.str))) l1=some (.lst ((ws.take 1).map V.str)):=ac;generalize (upd H l1 (.lst ((ws.take 1).map V.str)))=H1 at s1 e1 ⊢;refine ⟨ai (by show 1<=1000000;decide),fun l2 yd=>?_⟩;have s2:L2.Same H1 (upd H1 l2 (.lst [.str (MW "head")])):=aj yd _;have e2:(upd H1 l2 (.lst [.str (MW "head")])) l2=some (.lst [.str (MW "head")]):=ac;generalize (upd H1 l2 (.lst [.str (MW "head")]))=H2 at s2 e2 ⊢;have zr:=s1.trans s2;refine ⟨l1,l2,_,_,(ws.take 1).map Dv.str,[.str (MW "head")],rfl,rfl,SqL.of (s2 _ _ e1),SqL.of e2,?_,.cons (by rw [DAt]) .nil,?_,fun bb zd=>⟨_,rfl,?_⟩⟩
 · cases ws with
   | nil=>exact .nil
   | cons x ws=>exact .cons (by rw [DAt]) .nil
 · cases ws with
   | nil=>decide +kernel
   | cons x ws=>show dQ [Dv.str x]<=150;rw [dQ,dQ,Dv.deep];decide
 by_cases c:ws.take 1=[MW "head"]
 case neg =>
  have hb:bb=true:=zd.mpr fun z=>c (by
   cases ws with
   | nil=>cases z
   | cons x ws =>
     have:=(N4 z).1;cases this;rfl)
  subst hb;refine aZ (ke (fun t ht=>?_) H2 zr);obtain ⟨rest,e,_⟩:=ht;rw [e] at c;exact c rfl
 obtain ⟨rest,rfl⟩:∃ rest,ws=MW "head"::rest:=by
  cases ws with
  | nil=>cases c
  | cons x ws=>exact ⟨ws,by have:=(N4 c).1;rw [this]⟩
 have hb:bb=false:=by
  cases bb with
  | false=>rfl
  | true=>exact absurd rfl (zd.mp rfl)
 subst hb;refine aS ?_;dsimp only [dP];refine ⟨_,rfl,1,rfl,wl,_,rfl,SqL.of (zr _ _ ew),fun l3 zK=>?_⟩;have B3:eF ((MW "head"::rest).map V.str) (some 1) none=rest.map V.str:=jG _ _;rw [B3];have s3:L2.Same H2 (upd H2 l3 (.lst (rest.map V.str))):=aj zK _;have e3:(upd H2 l3 (.lst (rest.map V.str))) l3=some (.lst (rest.map V.str)):=ac;generalize (upd H2 l3 (.lst (rest.map V.str)))=H3 at s3 e3 ⊢;have yR:=zr.trans s3
 exact ⟨l3,rest,rfl,e3,hok.tail,fun t ht hz r H4 s4 h4=>kq t ⟨rest,rfl,ht⟩ hz r H4 (yR.trans s4) h4,fun xU H4 s4=>ke (fun t ht=>by
  obtain ⟨r',e,h'⟩:=ht;rw [<- (N4 e).2] at h';exact xU t h') H4 (yR.trans s4)⟩
set_option maxHeartbeats 1000000 in
theorem kJ:FnOk P w K mg base (CX1 P w) 5 T.g_read_rule.f T.g_read_rule.d ["state","name","words"] (kQ K T.e_NoText):=by
 refine T.g_read_rule.F.ok1 lN (fun vs H Q E h=>?_) (fun xy A outer s H vs Q E hr h=>?_)
 · obtain ⟨st,nm,wl,ws,rfl,_⟩:=h;rfl
 obtain ⟨st,nm,wl,ws,rfl,ew,hok,kq,ke⟩:=h
 refine ⟨_,(ad (aQ (PW.pt (eX (ax kh (az aA rfl T.n_len NO (aa (pv 2) ae)) ag (ar _)) (eX (ax cf (aI aJ (pv 2) ag (fun _ _=>rfl)) al (ar _)) (eX (ax cf (aY (bW T) (hr.mono (by first | decide | omega)) rfl T.g_read_number.m T.g_read_number.F.kp T.g_read_number.b .nil cD (aa (aI aJ (pv 2) ag (fun _ _=>rfl)) ae)) (pv 0) (ar _)) (ef (ax cf (aI aJ (pv 2) ag (fun _ _=>rfl)) (pv 1) (ar _))))))) (af (bx T.X_NoText T.x_NoText al)) aC)
  (af (ay (aY (dJ T) (hr.mono (by first | decide | omega)) rfl T.g_read_pattern.m T.g_read_pattern.F.kp T.g_read_pattern.b .nil cD (aa (bM fA (pv 2) (bL ag) cK) ae))))),?_⟩
 try dsimp only [xS,xw]
 refine ⟨_,rfl,wl,_,rfl,.inl (SqL.of ew),_,_,rfl,rfl,_,rfl,?_⟩;rw [MX];by_cases c0:ws.length<4
 · rw [decide_eq_true (show ((ws.length:Nat):Int)<4 by omega)];refine aZ (ke (fun t ht=>?_) H (.refl _));obtain ⟨rest,rfl,xu,_⟩:=ht;have:=OE.mpr xu;simp only [MZ] at c0;omega
 rw [decide_eq_false (show ¬ ((ws.length:Nat):Int)<4 by omega)];refine aS ?_;refine hid fun ZZ kZ=>?_
 obtain ⟨x,y,n,rest,rfl,xu⟩:∃ x y n rest,ws=x::y::n::rest/\rest≠[]:=by
  match ws,c0 with
  | [],h=>exact absurd (by decide) h
  | [_],h=>exact absurd (show 1<4 by decide) h
  | [_,_],h=>exact absurd (show 2<4 by decide) h
  | [_,_,_],h=>exact absurd (show 3<4 by decide) h
  | x::y::n::u::v,_=>exact ⟨x,y,n,u::v,rfl,by simp⟩
 refine kZ ?_
 have hinv:∀ t,RuleOf st nm (x::y::n::rest) t->x=MW "rule"/\y=aM st/\n=nm/\(0<=st/\st<1000)/\cB (pw rest) t:=fun t ht=>by
  obtain ⟨r',e,_,h1,h2⟩:=ht;obtain ⟨e1,e⟩:=N4 e;obtain ⟨e2,e⟩:=N4 e;obtain ⟨e3,e⟩:=N4 e;rw [<- e] at h2;exact ⟨e1,e2,e3,h1,h2⟩
 refine ⟨_,rfl,wl,_,0,.str x,rfl,rfl,SqL.of ew,at0,rfl,_,rfl,?_⟩;by_cases c1:x=MW "rule"
 case neg =>
  rw [decide_eq_false (show ¬ V.str x=V.str (MW "rule") from fun z=>c1 (V.str.inj z))];exact aZ (ke (fun t ht=>c1 (hinv t ht).1) H (.refl _))
 subst c1;rw [decide_eq_true rfl];refine aS ?_;refine ⟨_,rfl,wl,_,1,.str y,rfl,rfl,SqL.of ew,at1,y,rfl,by have:=hok.mem y (by simp);omega,fun m hm H1 s1=>?_,fun hm H1 s1=>ke (fun t ht=>by rw [bf.mpr ⟨(hinv t ht).2.1,(hinv t ht).2.2.2.1⟩] at hm;cases hm) H1 s1⟩;refine ⟨_,rfl,rfl,_,rfl,?_⟩;by_cases c2:m=st
 case neg =>
  rw [decide_eq_false (show ¬ V.int m=V.int st from fun z=>c2 (V.int.inj z))];refine aZ (ke (fun t ht=>c2 ?_) H1 s1);rw [bf.mpr ⟨(hinv t ht).2.1,(hinv t ht).2.2.2.1⟩] at hm;exact (Nh hm).symm
 subst c2;rw [decide_eq_true rfl];refine aS ?_;have IG:=s1 _ _ ew;refine ⟨_,rfl,wl,_,2,.str n,rfl,rfl,SqL.of IG,at2,_,rfl,rfl,_,rfl,?_⟩;by_cases c3:n=nm
 case neg =>
  rw [decide_eq_false (show ¬ V.str n=V.str nm from fun z=>c3 (V.str.inj z))];exact aZ (ke (fun t ht=>c3 (hinv t ht).2.2.1) H1 s1)
 subst c3;rw [decide_eq_true rfl];refine aS ?_;dsimp only [dP];refine ⟨_,rfl,3,rfl,wl,_,rfl,SqL.of IG,fun l3 zK=>?_⟩
 have B3:eF ((MW "rule"::y::n::rest).map V.str) (some 3) none=rest.map V.str:=by
  rw [show (3:Int)=((3:Nat):Int) by rfl,lF (by rw [MX,MZ,MZ,MZ];omega)];rfl
 rw [B3];have s3:L2.Same H1 (upd H1 l3 (.lst (rest.map V.str))):=aj zK _;have e3:(upd H1 l3 (.lst (rest.map V.str))) l3=some (.lst (rest.map V.str)):=ac;generalize (upd H1 l3 (.lst (rest.map V.str)))=H3 at s3 e3 ⊢;have yR:=s1.trans s3;obtain ⟨hy,EH⟩:=bf.mp hm;exact ⟨l3,rest,rfl,e3,hok.tail.tail.tail,fun t ht hz r H4 s4 h4=>kq t ⟨rest,by rw [hy],xu,EH,ht⟩ hz r H4 (yR.trans s4) h4,fun xU H4 s4=>ke (fun t ht=>xU t (hinv t ht).2.2.2.2) H4 (yR.trans s4)⟩
theorem pR {t u:Th} (ht:t.tall<=101) (hu:u.tall<=101) (h:t.stP.map (·.2)=u.stP.map (·.2)):t=u:=by
 refine hid fun ZZ kZ=>?_;obtain ⟨F,h1,h2⟩:=cj ht;obtain ⟨G,h3,h4⟩:=cj hu;refine kZ ?_;rw [h,h3] at h1;have:=Nh h1;subst this;rw [h2] at h4;have h5:=congrArg (List.map sr) h4;rw [O4,O4,show (sr ∘ fM)=cI Th.call from funext oP] at h5;obtain ⟨b1,_⟩:=gU Th.call t;obtain ⟨b2,_⟩:=gU Th.call u;rw [h5,b2,BB.fH,BB.fH] at b1;exact (N4 b1).1.symm
theorem RuleOf.uniq {st:Int} {nm:Nd} {ws:List Nd} {t u:Th} (h:RuleOf st nm ws t) (h':RuleOf st nm ws u):t=u:=by
 obtain ⟨r,e,_,_,h1,h2⟩:=h;refine hid fun ZZ kZ=>?_;obtain ⟨r',e',_,_,h3,h4⟩:=h';refine kZ ?_;rw [e] at e';have:r=r':=(N4 (N4 (N4 e').2).2).2;subst this;exact pR h2 h4 (Nh (h1.symm.trans h3))
structure aW (ins:List (Nd×Int)) (rows:List (List Th)) (WR:List (List Nd)):Prop where
 len:WR.length=rows.length * ins.length
 row:∀ row∈rows,row.length=ins.length
 w:∀ (s j:Nat) (row:List Th) (t:Th) (k:Nd×Int),rows[s]?=some row->row[j]?=some t->ins[j]?=some k->∃ ws,WR[s * ins.length+j]?=some ws/\RuleOf (s:Nat) k.1 ws t/\t.size<=60000
structure RlI (H0:Hp) (rl:M5) (rows:List (List Th)) (n i L:Nat) (xO:List M5) (H:Hp):Prop where
 sm:L2.Same H0 H
 rl0:H0 rl=none
 er:H rl=some (.lst (xO.map V.ref))
 len:xO.length=L
 nd:xO.Nodup
 fr:∀ a∈xO,H0 a=none
 rln:rl∉xO
 ent:∀ (s:Nat) (a:M5) (row:List Th),xO[s]?=some a->rows[s]?=some row->∃ xv:List M5,H a=some (.lst (xv.map V.ref))/\Ats H (row.take (i - s * n)) xv
theorem RlI.same {H0 H H':Hp} {rl:M5} {rows:List (List Th)} {n i L:Nat} {xO:List M5} (h:RlI H0 rl rows n i L xO H) (s:L2.Same H H'):RlI H0 rl rows n i L xO H' :=
 ⟨h.sm.trans s,h.rl0,s _ _ h.er,h.len,h.nd,h.fr,h.rln,fun x a row h1 h2=>by
  obtain ⟨xv,e,ht⟩:=h.ent x a row h1 h2;exact ⟨xv,s _ _ e,ht.mono (Same.kt s)⟩⟩
def rS (ins:List (Nd×Int)) (WR:List (List Nd)) (i:Nat) (t:Th):Prop:=∃ (ws:List Nd) (k:Nd×Int),WR[i]?=some ws/\ins[i%ins.length]?=some k/\RuleOf ((i / ins.length:Nat):Int) k.1 ws t/\t.size<=60000
open Classical in
noncomputable def qx (ins:List (Nd×Int)) (WR:List (List Nd)) (i:Nat):Th:=if h:∃ t,rS ins WR i t then h.choose else .call 0 0
theorem tF {ins:List (Nd×Int)} {WR:List (List Nd)} {i:Nat} {t:Th} (h:rS ins WR i t):qx ins WR i=t:=by
 unfold qx;have hx:∃ t,rS ins WR i t:=⟨t,h⟩;rw [dif_pos hx];refine hid fun ZZ kZ=>?_;obtain ⟨ws,k,h1,h2,h3,_⟩:=hx.choose_spec;refine kZ ?_;obtain ⟨zL,k',Ai,zI,Lw,_⟩:=h;rw [h1] at Ai;rw [h2] at zI;cases Ai;cases zI;exact h3.uniq Lw
noncomputable def rowsOf (ins:List (Nd×Int)) (WR:List (List Nd)):List (List Th):=(NU (WR.length / ins.length)).map fun s=>(NU ins.length).map fun j=>qx ins WR (s * ins.length+j)
theorem gg {ins:List (Nd×Int)} {WR:List (List Nd)} {s:Nat} {row:List Th} (h:(rowsOf ins WR)[s]?=some row):s<WR.length / ins.length/\row=(NU ins.length).map fun j=>qx ins WR (s * ins.length+j):=by
 unfold rowsOf at h;rw [Nq] at h;obtain ⟨y,hy,rfl⟩:=Oj.mp h;obtain ⟨hl,e⟩:=Nl.mp hy;rw [OH] at hl;rw [List.getElem_range] at e;subst e;exact ⟨hl,rfl⟩
theorem fX {α:Type} {f:Nat->α} {n j:Nat} {x:α} (h:((NU n).map f)[j]?=some x):j<n/\x=f j:=by
 rw [Nq] at h;obtain ⟨y,hy,rfl⟩:=Oj.mp h;obtain ⟨hl,e⟩:=Nl.mp hy;rw [OH] at hl;rw [List.getElem_range] at e;subst e;exact ⟨hl,rfl⟩
inductive eC (K:MY) (C:M5) (vs:List V) (H:Hp) (Q:VK) (E:XK):Prop
 | mk (ia wr:M5) (ye B4:List M5) (ins:List (Nd×Int)) (WR:List (List Nd)) (xB:vs=[.ref ia,.ref wr]) (xC:H ia=some (.lst (ye.map V.ref))) (xG:KsAt H ins ye) (xT:ins≠[]) (yu:ins.length<=1000) (zk:H wr=some (.lst (B4.map V.ref))) (Bf:NY (fun ws a=>H a=some (.lst ((ws:List Nd).map V.str))) WR B4) (Eu:WR.length<=1000) (Ih:(∀ ws∈WR,WsOk ws)) (Ii:(∀ rows,aW ins rows WR->∀ (r:M5) (xO:List M5) (H':Hp),L2.Same H H'->H' r=some (.lst (xO.map V.ref))->NY (SRow H') rows xO->Q (.ref r) H')) (Gj:((∀ rows,¬ aW ins rows WR)->∀ H',L2.Same H H'->E (.ref C) none H')):eC K C vs H Q E
def jz (K:MY) (C:M5):Sp:=eC K C
theorem nE {α β:Type} {F:α->β->Prop}:∀ {a:List α} {b:List β},a.length=b.length->(∀ (i:Nat) (x:α) (y:β),a[i]?=some x->b[i]?=some y->F x y)->NY F a b
 | [],[],_,_=>.nil
 | x::a,y::b,hl,h=>.cons (h 0 x y rfl rfl) (nE (by simpa using hl) fun i u v hu hv=>h (i+1) u v (by simpa using hu) (by simpa using hv))
 | [],y::b,hl,_=>by cases hl
 | x::a,[],hl,_=>by cases hl
set_option maxHeartbeats 2000000 in
theorem jE:FnOk P w K mg base (CX1 P w) 6 T.g_read_rules.f T.g_read_rules.d ["ins","rows"] (jz K T.e_NoText):=by
 refine T.g_read_rules.F.ok1 bJ (fun vs H Q E h=>?_) (fun xy A outer s H vs Q E hr h=>?_)
 · obtain ⟨ia,wr,ye,B4,ins,WR,rfl,_⟩:=h;rfl
 obtain ⟨ia,wr,ye,B4,ins,WR,rfl,ei,AX,xu,h8,GI,IH,Lx,Ly,kq,ke⟩:=h
 refine ⟨_,(ad (aQ (ax cf (ao bF (az aA rfl T.n_len NO (aa (pv 1) ae)) (az aA rfl T.n_len NO (aa (pv 0) ae))) ag (ar _)) (af (bx T.X_NoText T.x_NoText al)) aC)
  (ad (av (i:=2) bJ.nd rfl (NB rfl) (bc ae))
  (ad (dD QH rfl (qW rfl T.n_enumerate (pv 1)) (iS rfl (bg (aD (i:=3) bJ.nd rfl (NB rfl)) (bg (aD (i:=4) bJ.nd rfl (NB rfl)) d3))) (ad (jY (az nU rfl T.n_divmod PyProof.Rows.boot_divmod (aa (pv 3) (aa (az aA rfl T.n_len NO (aa (pv 0) ae)) ae))) (iS rfl (bg (aD (i:=5) bJ.nd rfl (NB rfl)) (bg (aD (i:=6) bJ.nd rfl (NB rfl)) d3))))
  (ad (aQ (ax di (pv 6) ag (ar _)) (af (bi (bU NH N0 NZ bp (pv 2) (aa (bc ae) ae)))) aC)
  (af (bi (bU NH N0 NZ bp (aI aJ (pv 2) (pv 5) (fun _ _=>rfl)) (aa (aY (kJ T) (hr.mono (by first | decide | omega)) rfl T.g_read_rule.m T.g_read_rule.F.kp T.g_read_rule.b .nil cD (aa (pv 5) (aa (aI bX (aI aJ (pv 0) (pv 6) (fun _ _=>rfl)) ag (fun _ _=>rfl)) (aa (pv 4) ae)))) ae)))))))
  (af (ay (pv 2)))))),?_⟩
 try dsimp only [xS,xw]
 have C5:=OE.mpr xu;have zp:ins.length=ye.length:=N3 AX;have zD:WR.length=B4.length:=N3 IH;obtain ⟨n,hn⟩:∃ n,n=ins.length:=⟨_,rfl⟩;have hN:((ye.map V.ref).length:Int)=((n:Nat):Int):=by rw [MX,hn,zp]
 have hW:((B4.map V.ref).length:Int)=((WR.length:Nat):Int):=by rw [MX,<- zD]
 refine ⟨_,rfl,wr,_,rfl,.inl (SqL.of GI),_,rfl,ia,_,rfl,.inl (SqL.of ei),_,_,rfl,rfl,(by rw [hN];omega),rfl,_,rfl,?_⟩;rw [hN,hW];have hm:((WR.length:Nat):Int)%((n:Nat):Int)=((WR.length%n:Nat):Int):=rfl;rw [hm];by_cases Bb:WR.length%n=0
 case neg =>
  rw [decide_eq_false (show ¬ V.int ((WR.length%n:Nat):Int)=V.int 0 from fun z=>Bb (by have:=V.int.inj z;omega))];refine aZ (ke (fun rows hR=>Bb ?_) H (.refl _));rw [hR.len,hn];exact Nat.mul_mod_left _ _
 rw [Bb,decide_eq_true (show V.int ((0:Nat):Int)=V.int 0 from rfl)];refine aS ?_;dsimp only [dP];obtain ⟨rows,yg⟩:∃ rows,rows=rowsOf ins WR:=⟨_,rfl⟩;have DP:rows.length=WR.length / n:=by rw [yg,hn];unfold rowsOf;rw [MX,OH]
 have Lz:rows.length<=1000:=by rw [DP];exact Ow (Nat.div_le_self _ _) Lx
 have DQ:WR.length=rows.length * n:=by rw [DP,Nat.div_mul_cancel (Nat.dvd_of_mod_eq_zero Bb)]
 have zy:∀ row∈rows,row.length=n:=fun row xE=>by
  obtain ⟨s,hs⟩:=PV.mp xE;rw [yg] at hs;rw [(gg hs).2,MX,OH,hn]
 refine ⟨ai (by show 0<=1000000;decide),fun rl zi=>?_⟩;have s1:L2.Same H (upd H rl (.lst [])):=aj zi _;have e1:(upd H rl (.lst [])) rl=some (.lst (([]:List M5).map V.ref)):=ac;generalize (upd H rl (.lst []))=H1 at s1 e1 ⊢;dsimp only [aE];have zc:0<n:=by omega
 refine ⟨_,rfl,wr,rfl,⟨_,SqL.of (s1 _ _ GI)⟩,?_⟩
 refine qt (K:=K) (a:=wr) (xs:=B4.map V.ref) (fun i σ H3=>Ex5 fun (c3 c4 c5 c6:Option V) (xO:List M5)=>An3 (σ=[some (.ref ia),some (.ref wr),some (.ref rl),c3,c4,c5,c6]) (RlI H rl rows n i ((i+n - 1) / n) xO H3) (∀ i',i'<i->rS ins WR i' (qx ins WR i')))
  ⟨none,none,none,none,[],rfl,⟨s1,zi,e1,by rw [Py,P5 (by omega)];rfl,QS,(fun a h=>by cases h),OR,fun s a row h=>by simp at h⟩,fun i' h=>absurd h (Nat.not_lt_zero _)⟩ (fun i σ H3 _ ⟨_,_,_,_,_,_,I,_⟩=>SqL.of (I.sm _ _ GI)) ?_ ?_
 · rintro i x pr σ H3 hx Gz ⟨c3,c4,c5,c6,xO,rfl,I0,xH⟩;obtain ⟨wa,rfl,BA⟩:=bP hx;have LA:=(Nl.mp BA).1;have DR:i<rows.length * n:=by rw [<- DQ];omega
   obtain ⟨s,hs⟩:∃ s,s=i / n:=⟨_,rfl⟩;obtain ⟨j,hj⟩:∃ j,j=i%n:=⟨_,rfl⟩;have Bl:i=s * n+j:=by rw [hs,hj,Nat.mul_comm];exact (Nat.div_add_mod i n).symm
   have EW:j<n:=by rw [hj];exact Nat.mod_lt _ zc
   have LC:s<rows.length:=by rw [hs];exact Nat.div_lt_of_lt_mul (by rw [Nat.mul_comm];exact DR)
   have s4:L2.Same H3 (upd H3 pr (.tup [.int ((i:Nat):Int),.ref wa])):=aj Gz _;have e4:(upd H3 pr (.tup [.int ((i:Nat):Int),.ref wa])) pr=some (.tup [.int ((i:Nat):Int),.ref wa]):=ac;generalize (upd H3 pr (.tup [.int ((i:Nat):Int),.ref wa]))=H4 at s4 e4 ⊢;have I4:=I0.same s4;refine ⟨pr,_,rfl,SqT.of e4,rfl,_,_,rfl,_,_,rfl,rfl,?_⟩;dsimp only [aE];refine ⟨_,rfl,_,rfl,ia,_,rfl,.inl (SqL.of (I4.sm _ _ ei)),_,_,rfl,⟨by rw [hN];omega,by rw [hN];omega⟩,fun dp LD=>?_⟩;rw [hN];have AE:((i:Nat):Int) / ((n:Nat):Int)=((s:Nat):Int):=by rw [hs];rfl
   have hd2:((i:Nat):Int)%((n:Nat):Int)=((j:Nat):Int):=by rw [hj];rfl
   rw [AE,hd2];have s5:L2.Same H4 (upd H4 dp (.tup [.int ((s:Nat):Int),.int ((j:Nat):Int)])):=aj LD _;have e5:(upd H4 dp (.tup [.int ((s:Nat):Int),.int ((j:Nat):Int)])) dp=some (.tup [.int ((s:Nat):Int),.int ((j:Nat):Int)]):=ac;generalize (upd H4 dp (.tup [.int ((s:Nat):Int),.int ((j:Nat):Int)]))=H5 at s5 e5 ⊢;have I5:=I4.same s5;refine ⟨dp,_,rfl,SqT.of e5,rfl,_,_,rfl,_,_,rfl,rfl,?_⟩;dsimp only [aE]
   have Av:(i+n - 1) / n=if j=0 then s else s+1:=by
    split
    · rename_i h
      rw [Bl,h,Nat.add_zero,show s * n+n - 1=(n - 1)+s * n by omega,PU _ _ zc,P5 (by omega),Py]
    · rw [Bl,show s * n+j+n - 1=(j - 1)+(s+1) * n by rw [Q9];omega,PU _ _ zc,P5 (by omega),Py]
   have DS:(i+1+n - 1) / n=s+1:=by
    rw [Bl,show s * n+j+1+n - 1=j+(s+1) * n by rw [Q9];omega,PU _ _ zc,P5 EW,Py]
   refine aH (fun f' H'=>Ex1 fun (Bc:List M5)=>An2 (f'=[some (.ref ia),some (.ref wr),some (.ref rl),some (.int ((i:Nat):Int)),some (.ref wa),some (.int ((s:Nat):Int)),some (.int ((j:Nat):Int))]) (RlI H rl rows n i (s+1) Bc H')) (fun kk hk=>?_) ?_
   · refine ⟨_,rfl,rfl,_,rfl,?_⟩;by_cases Cw:j=0
     · rw [decide_eq_true (show V.int ((j:Nat):Int)=V.int 0 by rw [Cw];rfl)];refine aZ ?_;refine ⟨_,rfl,.inl ⟨rfl,_,SqL.of I5.er⟩,ai (by show 0<=1000000;decide),fun la yI=>?_⟩;have s6:L2.Same H5 (upd H5 la (.lst [])):=aj yI _;have e6:(upd H5 la (.lst [])) la=some (.lst (([]:List M5).map V.ref)):=ac;generalize (upd H5 la (.lst []))=H6 at s6 e6 ⊢;have I6:=I5.same s6;have EX:la≠rl:=fun z=>by rw [z,I5.er] at yI;cases yI
       have LF:la∉xO:=fun z=>by
        obtain ⟨y,hy⟩:=PV.mp z;have Dd:=(Nl.mp hy).1;have hL:=I5.len;rw [Av,if_pos Cw] at hL;obtain ⟨row,xE⟩:∃ row,rows[y]?=some row:=⟨_,M3 (by omega)⟩;obtain ⟨xv,e,_⟩:=I5.ent y la row hy xE;rw [yI] at e;cases e
       have hL:=I6.len;rw [Av,if_pos Cw] at hL;refine ⟨rl,_,_,rfl,rfl,I6.er,bh (by rw [MX];omega),?_⟩;have k7:KT H6 (upd H6 rl (.lst (xO.map V.ref++[.ref la]))):=bB I6.er;refine hk _ _ ⟨xO++[la],rfl,aN I6.sm I6.rl0,I6.rl0,by rw [ac,Nw];rfl,by rw [Na,hL];rfl,RT.mpr ⟨I6.nd,OX.mpr ⟨OR,QS⟩,fun b hb c hc e=>LF (by rw [<- Nc.mp hc,<- e];exact hb)⟩,fun b hb=>?_,fun z=>?_,fun y a row h1 h2=>?_⟩
       · rcases NF.mp hb with hb | hb
         · exact I6.fr b hb
         · rw [Nc.mp hb];exact I5.sm.free yI
       · rcases NF.mp z with z | z
         · exact I6.rln z
         · exact EX (Nc.mp z).symm
       · by_cases hy:y<xO.length
         · rw [QU hy] at h1;obtain ⟨xv,e,ht⟩:=I6.ent y a row h1 h2;have Ak:a≠rl:=fun z=>I6.rln (by rw [<- z];exact Nu h1);exact ⟨xv,by rw [aq Ak];exact e,ht.mono k7⟩
         · have LG:=(Nl.mp h1).1;rw [Na,NR] at LG;obtain rfl:y=s:=by omega
           rw [QT (by omega),hL,RR] at h1;cases h1;refine ⟨[],by rw [aq EX];exact e6,?_⟩;rw [Bl,Cw,Nat.add_zero,RR,Qo];exact .nil
     · rw [decide_eq_false (show ¬ V.int ((j:Nat):Int)=V.int 0 from fun z=>Cw (by have:=V.int.inj z;omega))];refine aS ?_;dsimp only [dP];refine hk _ _ ⟨xO,rfl,?_⟩;rw [Av,if_neg Cw] at I5;exact I5
   · rintro f' H6 ⟨Bc,rfl,I6⟩;refine hid fun ZZ kZ=>?_;obtain ⟨la,yI⟩:∃ la,Bc[s]?=some la:=⟨_,M3 (by rw [I6.len];omega)⟩;obtain ⟨row,xE⟩:∃ row,rows[s]?=some row:=⟨_,M3 LC⟩;have LH:=zy row (Nu xE);obtain ⟨t,ht⟩:∃ t,row[j]?=some t:=⟨_,M3 (by omega)⟩;obtain ⟨k,hk⟩:∃ k,ins[j]?=some k:=⟨_,M3 (by omega)⟩;obtain ⟨ka,zg,LI⟩:=P2.get AX hk;obtain ⟨ws,yP,LJ⟩:=P2.get' IH BA
     have II:t=qx ins WR i:=by
      rw [yg] at xE;have e:=(gg xE).2;rw [e] at ht;rw [(fX ht).2,<- hn,<- Bl]
     have LK:ins[i%ins.length]?=some k:=by rw [<- hn,<- hj];exact hk
     obtain ⟨xv,zS,B5⟩:=I6.ent s la row yI xE;refine kZ ?_;have DD:=B5.length;rw [Og] at DD;refine ⟨_,rfl,_,rfl,rl,_,_,.ref la,rfl,rfl,SqL.of I6.er,at_nonneg (by omega) (by rw [NW,Nq,yI];rfl),.inl ⟨rfl,_,SqL.of zS⟩,?_⟩;refine ⟨_,rfl,_,rfl,_,rfl,ia,_,_,.ref ka,rfl,rfl,SqL.of (I6.sm _ _ ei),at_nonneg (by omega) (by rw [NW,Nq,zg];rfl),ka,_,0,.str k.1,rfl,rfl,SqT.of (I6.sm _ _ LI),at0,_,rfl,?_⟩;refine ⟨((s:Nat):Int),k.1,wa,ws,rfl,I6.sm _ _ LJ,Ly ws (Nu yP),fun u DT LL r H7 s7 LM=>?_,fun xU H7 s7=>ke (fun yi GJ=>?_) H7 (I6.sm.trans s7)⟩
     rotate_left
     · have yt:=GJ.len;rw [<- hn] at yt;have LN:yi.length=rows.length:=Nat.eq_of_mul_eq_mul_right zc (by rw [<- yt,<- DQ]);refine hid fun ZZ kZ=>?_;obtain ⟨ym,yh⟩:∃ ym,yi[s]?=some ym:=⟨_,M3 (by omega)⟩;obtain ⟨t',Ap⟩:∃ t',ym[j]?=some t':=⟨_,M3 (by rw [GJ.row ym (Nu yh)];omega)⟩;obtain ⟨zL,DU,LO,_⟩:=GJ.w s j ym t' k yh Ap hk;refine kZ ?_;rw [<- hn,<- Bl,yP] at DU;cases DU;exact xU t' LO
     have IJ:rS ins WR i u:=⟨ws,k,yP,LK,by rw [<- hn,<- hs];exact DT,LL⟩;have LP:u=t:=by rw [II];exact (tF IJ).symm
     subst LP;have I7:=I6.same s7;have DV:=s7 _ _ zS;refine ⟨la,_,_,rfl,rfl,DV,bh (by rw [MX];omega),?_⟩;have zM:=Nu yI;have EX:la≠rl:=fun z=>I6.rln (by rw [<- z];exact zM);have k8:KT H7 (upd H7 la (.lst (xv.map V.ref++[.ref r]))):=bB DV;refine ⟨_,_,_,_,Bc,rfl,⟨aN I7.sm (I7.fr la zM),I7.rl0,by rw [aq EX.symm];exact I7.er,by rw [DS];exact I7.len,I7.nd,I7.fr,I7.rln,fun y a ym h1 h2=>?_⟩,fun i' yT=>?_⟩;by_cases IK:y=s
     · subst IK;rw [yI] at h1;cases h1;rw [xE] at h2;cases h2;refine ⟨xv++[r],by rw [ac,Nw];rfl,?_⟩;have e1:i - y * n=j:=by omega
       have e2:i+1 - y * n=j+1:=by omega
       rw [e1] at B5;rw [e2,take_snoc ht];exact Ats.append (B5.mono ((Same.kt s7).trans k8)) (.cons (LM.mono k8) .nil)
     · obtain ⟨B0,e,Ap⟩:=I7.ent y a ym h1 h2
       have Ak:a≠la:=fun z=>by
        rw [z] at h1;exact IK ((List.getElem?_inj (Nl.mp h1).1 I7.nd).mp (h1.trans yI.symm))
       refine ⟨B0,by rw [aq Ak];exact e,?_⟩;have Dd:=(Nl.mp h1).1;rw [I7.len] at Dd;have LQ:=zy ym (Nu h2);have hmul:(y+1) * n<=s * n:=Ro _ (by omega);rw [Q9] at hmul;rw [N1 (by omega)] at Ap ⊢;exact Ap.mono k8
     · by_cases LR:i'=i
       · rw [LR,<- II];exact IJ
       · exact xH i' (by omega)
 · rintro σ H3 ⟨c3,c4,c5,c6,xO,rfl,I,xH⟩;rw [MX,<- zD] at I xH;rw [DQ] at I
   have LS:aW ins rows WR:=⟨by rw [<- hn];exact DQ,fun row xE=>by rw [<- hn];exact zy row xE,fun s j row t k h1 h2 h3=>by
    have BQ:=(Nl.mp h1).1;have EW:j<n:=by rw [hn];exact (Nl.mp h3).1
    have xK:s * n+j<WR.length:=by
     rw [DQ];have:(s+1) * n<=rows.length * n:=Ro _ BQ;rw [Q9] at this;omega
    rw [yg] at h1;rw [(gg h1).2] at h2;have e2:=(fX h2).2;rw [<- hn] at e2 ⊢;obtain ⟨ws,k',hw,zf,DT,hz⟩:=xH (s * n+j) xK;rw [<- hn,show (s * n+j)%n=j by rw [Nat.add_comm,Nat.add_mul_mod_self_right,Nat.mod_eq_of_lt EW],h3] at zf;rw [<- hn,show (s * n+j) / n=s by rw [Nat.add_comm,PU _ _ zc,P5 EW,Py]] at DT;cases zf;rw [<- e2] at DT hz;exact ⟨ws,hw,DT,hz⟩⟩
   refine ⟨_,rfl,kq rows LS rl xO H3 I.sm I.er (nE ?_ fun y row a h1 h2=>?_)⟩
   · rw [I.len,show rows.length * n+n - 1=(n - 1)+rows.length * n by omega,PU _ _ zc,P5 (by omega),Py]
   · obtain ⟨xv,e,ht⟩:=I.ent y a row h2 h1;have Dd:=(Nl.mp h1).1;have hmul:(y+1) * n<=rows.length * n:=Ro _ (by omega);rw [Q9] at hmul;rw [N1 (by rw [zy row (Nu h1)];omega)] at ht;exact ⟨xv,.inl e,ht⟩
def bE (r:List Nat):List Nd:=(wds r).map ofL
theorem lD (c:Nat):∀ l:List Nat,((aB c l).map fun p=>p.length+1).sum=l.length+1
 | []=>rfl
 | d::l=>by
   have ih:=lD c l;rw [aB];obtain ⟨p,r,e⟩:=bI c l;rw [e] at ih ⊢;rw [Ni,O2] at ih;split
   · simp only [Ni,O2,MZ,PQ];omega
   · simp only [Ni,O2,MZ];omega
theorem ox (p:List Nat->Bool) (l:List (List Nat)):((l.filter p).map fun x=>x.length+1).sum<=(l.map fun x=>x.length+1).sum:=by
 induction l with
 | nil=>exact M8 _
 | cons x l ih =>
   rw [QC,Ni,O2];split
   · rw [Ni,O2];omega
   · omega
theorem ud {r:List Nat} (h:r.length<=5000):WsOk (bE r):=by
 have h1:=Ow (ox (fun p=>!p.isEmpty) (aB 32 r)) (RS (lD 32 r))
 have h2:∀ l:List (List Nat),((l.map ofL).map (·.length)).sum+(l.map ofL).length=(l.map fun x=>x.length+1).sum:=fun l=>by
  induction l with
  | nil=>rfl
  | cons x l ih =>
    simp only [Ni,O2,MZ] at ih ⊢;rw [d8];omega
 show ((((aB 32 r).filter fun p=>!p.isEmpty).map ofL).map (·.length)).sum+(((aB 32 r).filter fun p=>!p.isEmpty).map ofL).length<=6000;rw [h2];omega
structure lA (z:Nd) (ins outs:List (Nd×Int)) (r0 r1 r2:List Nat) (rest:List (List Nat)):Prop where
 sp:aB 10 (sL z)=r0::r1::r2::rest
 zl:z.length<=1000000
 rl:∀ r∈r0::r1::r2::rest,r.length<=5000
 n:rest.length<=1000
 w0:bE r0=MW "in"::ins.map bO
 w1:bE r1=MW "out"::outs.map bO
 ki:∀ k∈ins,fK k
 ko:∀ k∈outs,fK k
 i8:ins.length<=8
 o8:outs.length<=8
 ine:ins≠[]
 one:outs≠[]
inductive fh (K:MY) (CT CK CB:M5) (vs:List V) (H:Hp) (Q:VK) (E:XK):Prop
 | mk (z:Nd) (ins outs:List (Nd×Int)) (r0 r1 r2:List Nat) (rest:List (List Nat)) (xB:vs=[.str z]) (xC:lA z ins outs r0 r1 r2 rest) (xG:aP ins=true) (xT:aP outs=true) (yu:(∀ head rows,HeadOf (bE r2) head->aW ins rows (rest.map bE)->dG ins outs head rows->∀ (r:M5) (H':Hp),L2.Same H H'->Bk H' ins outs head rows r->Q (.ref r) H')) (zk:(∀ head rows,HeadOf (bE r2) head->aW ins rows (rest.map bE)->¬ dG ins outs head rows->∀ H',L2.Same H H'->E (.ref CB) none H')) (Bf:((∀ head,¬ HeadOf (bE r2) head)∨(∀ rows,¬ aW ins rows (rest.map bE))->∀ H',L2.Same H H'->E (.ref CT) none H')):fh K CT CK CB vs H Q E
def fY (K:MY) (CT CK CB:M5):Sp:=fh K CT CK CB
def qm (H:Hp) (ws:List Nd) (a:M5):Prop:=H a=some (.lst (ws.map V.str))
theorem nF {α β:Type} {F G:α->β->Prop}:∀ {a:List α} {b:List β},(∀ x y,y∈b->F x y->G x y)->NY F a b->NY G a b
 | _,_,_,.nil=>.nil
 | _,_,f,.cons h t=>.cons (f _ _ (Nj ..) h) (nF (fun x y hy=>f x y (Ng _ hy)) t)
set_option maxHeartbeats 2000000 in
theorem kS:FnOk P w K mg base (CX1 P w) 8 T.g_read_book.f T.g_read_book.d ["text"] (fY K T.e_NoText T.e_NoKinds T.e_NoBook):=by
 refine T.g_read_book.F.ok1 ca (fun vs H Q E h=>?_) (fun xy A outer s H vs Q E hr h=>?_)
 · obtain ⟨z,ins,outs,r0,r1,r2,rest,rfl,_⟩:=h;rfl
 obtain ⟨z,ins,outs,r0,r1,r2,rest,rfl,B,gi,go,kq,kb,kt⟩:=h
 refine ⟨_,(ad (mK (i:=1) (N:=[MW "row"]) (js:=[none]) (g:=(aE 0)) (tt:=bt) (te:=(nH iX [] E0 (cz (cx 0) gm))) ca.nd rfl (NB rfl) rfl (dL rfl (by decide +kernel) (by decide +kernel) rfl rfl rfl) (d2 (bU N7 Q8 Q6 kf (pv 0) (aa al ae))) (fun _ _ _ _ _ _=>(aD (i:=0) w8 rfl (NB rfl))) (bR rfl) (fun _ _ _ _ _ _=>cw) (fun _ _ _ _ _ _=>(pcF T.g_words_in (nb T) hr (aa (pv 0) ae))))
  (ad (aQ (ax kh (az aA rfl T.n_len NO (aa (pv 1) ae)) ag (ar _)) (af (bx T.X_NoText T.x_NoText al)) aC)
  (ad (av (i:=2) ca.nd rfl (NB rfl) (pcF T.g_read_kinds (fW T) hr (aa al (aa (aI aJ (pv 1) ag (fun _ _=>rfl)) ae))))
  (ad (av (i:=3) ca.nd rfl (NB rfl) (pcF T.g_read_kinds (fW T) hr (aa al (aa (aI aJ (pv 1) ag (fun _ _=>rfl)) ae))))
  (ad (av (i:=4) ca.nd rfl (NB rfl) (aY (lc T) (hr.mono (by first | decide | omega)) rfl T.g_read_head.m T.g_read_head.F.kp T.g_read_head.b .nil cD (aa (aI aJ (pv 1) ag (fun _ _=>rfl)) ae)))
  (af (ay (aY (kR T) (hr.mono (by first | decide | omega)) rfl T.g_made_book.m T.g_made_book.F.kp T.g_made_book.b .nil cD (aa (pv 2) (aa (pv 3) (aa (pv 4) (aa (aY (jE T) (hr.mono (by first | decide | omega)) rfl T.g_read_rules.m T.g_read_rules.F.kp T.g_read_rules.b .nil cD (aa (pv 2) (aa (bM fA (pv 1) (bL ag) cK) ae))) ae)))))))))))),?_⟩
 try dsimp only [xS,xw]
 have MR:=B.zl;have LU:=B.n;refine ⟨_,rfl,rfl,z,MW "\n",rfl,rfl,rfl,by omega,fun p hp=>?_⟩;obtain ⟨R,hR⟩:∃ R,R=r0::r1::r2::rest:=⟨_,rfl⟩
 have yS:OT z (MW "\n")=R.map ofL:=by
  have h1:MW "\n"=⟨#[10]⟩:=rfl;rw [h1,iF _ (by decide),hR,<- B.sp];rfl
 have Cy:R.length=rest.length+3:=by rw [hR];rfl
 have s1:L2.Same H (upd H p (.lst ((OT z (MW "\n")).map V.str))):=aj hp _;have e1:(upd H p (.lst ((OT z (MW "\n")).map V.str))) p=some (.lst ((R.map ofL).map V.str)):=by rw [ac,yS]
 generalize (upd H p (.lst ((OT z (MW "\n")).map V.str)))=H1 at s1 e1 ⊢;refine ⟨p,rfl,⟨_,SqL.of e1⟩,fun D hD=>?_⟩;refine ⟨R.length,fun j H2=>Ex1 fun (as:List M5)=>An5 (j<=R.length) (L2.Same H1 H2) (H2 D=some (.lst (as.map V.ref))) (D∉as) (NY (qm H2) ((R.take j).map bE) as),⟨[],N2 _,aj hD _,ac,OR,.nil⟩,?_⟩;rintro j H2 ⟨as,hj,s2,eD,IL,has⟩;have GK:=s2 _ _ e1;have Cp:((R.take j).map bE).length=as.length:=N3 has;rw [MX,Og] at Cp;by_cases IM:j=R.length
 · left;refine ⟨⟨_,SqL.of GK,by rw [MX,MX,IM];exact M8 _⟩,?_⟩;rw [IM,QB,hR] at has;dsimp only [aE];have yI:as.length=rest.length+3:=by omega
   refine ⟨_,rfl,D,_,rfl,.inl (SqL.of eD),_,_,rfl,rfl,_,rfl,?_⟩;rw [decide_eq_false (by rw [MX];omega)];refine aS ?_;dsimp only [dP];refine hid fun ZZ kZ=>?_;obtain ⟨a0,h0,w0⟩:=P2.get has (i:=0) rfl;obtain ⟨a1,h1,w1⟩:=P2.get has (i:=1) rfl;obtain ⟨a2,h2,w2⟩:=P2.get has (i:=2) rfl;refine kZ ?_;have zh:∀ (i:Nat) (a:M5),as[i]?=some a->atI (as.map V.ref) ((i:Nat):Int)=some (.ref a):=fun i a h=>gT (by rw [Nq,h];rfl);unfold qm at w0 w1 w2;rw [B.w0] at w0;rw [B.w1] at w1;have BW:=s1.trans s2;refine ⟨_,rfl,D,_,0,.ref a0,rfl,rfl,SqL.of eD,zh 0 a0 h0,_,a0,ins,rfl,w0,B.ine,by have:=B.i8;omega,B.ki,fun ia ye H3 s3 IP IQ=>?_⟩;dsimp only [aE];refine ⟨_,rfl,D,_,1,.ref a1,rfl,rfl,SqL.of (s3 _ _ eD),zh 1 a1 h1,_,a1,outs,rfl,s3 _ _ w1,B.one,by have:=B.o8;omega,B.ko,fun oa yl H4 s4 LV LW=>?_⟩;dsimp only [aE];have Ar:=s3.trans s4;refine ⟨_,rfl,D,_,2,.ref a2,rfl,rfl,SqL.of (Ar _ _ eD),zh 2 a2 h2,a2,_,rfl,Ar _ _ w2,ud (B.rl r2 (by simp)),fun head IT xQ ha H5 s5 LX=>?_,fun xU H5 s5=>kt (.inl xU) H5 (BW.trans (Ar.trans s5))⟩;dsimp only [aE];have Bz:=Ar.trans s5;refine ⟨_,rfl,_,rfl,_,rfl,_,rfl,_,rfl,3,rfl,D,_,rfl,SqL.of (Bz _ _ eD),fun l3 zK=>?_⟩
   have Cj:eF (as.map V.ref) (some 3) none=(as.drop 3).map V.ref:=by
    rw [show (3:Int)=((3:Nat):Int) by rfl,lF (by rw [MX];omega),List.map_drop]
   rw [Cj];have s6:L2.Same H5 (upd H5 l3 (.lst ((as.drop 3).map V.ref))):=aj zK _;have e6:(upd H5 l3 (.lst ((as.drop 3).map V.ref))) l3=some (.lst ((as.drop 3).map V.ref)):=ac;generalize (upd H5 l3 (.lst ((as.drop 3).map V.ref)))=H6 at s6 e6 ⊢;have GL:=Bz.trans s6;have IU:=s5.trans s6;have GN:=s4.trans IU
   have Bx:NY (fun ws a=>H6 a=some (.lst ((ws:List Nd).map V.str))) (rest.map bE) (as.drop 3):=by
    have:=P2.drop 3 has;exact P2.mp (fun _ _ e=>GL _ _ e) this
   refine ⟨ia,l3,ye,as.drop 3,ins,rest.map bE,rfl,GN _ _ IP,IQ.mono (Same.kt GN),B.ine,by have:=B.i8;omega,e6,Bx,by rw [MX];exact LU,fun ws yP=>?_,fun rows Cy ru xO H7 s7 LY GO=>?_,fun xU H7 s7=>kt (.inr xU) H7 (BW.trans (GL.trans s7))⟩
   · obtain ⟨r,xY,rfl⟩:=O3.mp yP;exact ud (B.rl r (Ng _ (Ng _ (Ng _ xY))))
   have IV:=GN.trans s7;have IW:=IU.trans s7;have IX:=GL.trans s7;have hI:iP K H7 ins ia ye:=⟨.inl (SqL.of (IV _ _ IP)),IQ.mono (Same.kt IV),by have:=B.i8;omega,fun k hk=>by have:=(aF (B.ki k hk).1).2.1;omega⟩;have hO:iP K H7 outs oa yl:=⟨.inl (SqL.of (IW _ _ LV)),LW.mono (Same.kt IW),by have:=B.o8;omega,fun k hk=>by have:=(aF (B.ko k hk).1).2.1;omega⟩
   have Gk:rows.length<=1000:=by
    have h1:=Cy.len;rw [MX] at h1;have h2:rows.length * 1<=rows.length * ins.length:=Nat.mul_le_mul_left _ (OE.mpr B.ine);omega
   have Gm:∀ row∈rows,∀ t∈row,t.size<=100000:=fun row xE t ht=>by
    obtain ⟨s,hs⟩:=PV.mp xE;obtain ⟨j,hj⟩:=PV.mp ht;have GF:=(Nl.mp hj).1;rw [Cy.row row xE] at GF;obtain ⟨_,_,_,hz⟩:=Cy.w s j row t _ hs hj (M3 GF);omega
   exact ⟨ia,oa,ha,ru,ye,yl,xO,ins,outs,head,rows,rfl,hI,hO,LX.mono (Same.kt (s6.trans s7)),by omega,⟨.inl LY,GO⟩,Gk,Gm,fun _ _ hok r H8 s8 hB=>kq head rows IT Cy hok r H8 (BW.trans (IX.trans s8)) hB,fun hn=>absurd ⟨gi,go⟩ hn,fun _ _ LZ H8 s8=>kb head rows IT Cy LZ H8 (BW.trans (IX.trans s8))⟩
 · right;have Bu:j<R.length:=by omega
   obtain ⟨r,xY⟩:∃ r,R[j]?=some r:=⟨_,M3 Bu⟩;refine ⟨Bu,⟨_,.str (ofL r),SqL.of GK,by rw [Nq,Nq,xY];rfl⟩,?_⟩;rintro y H3 ⟨q1,hv⟩;have L0:H3=H2:=q1;subst L0;have zC:=hv _ (SqL.of GK);rw [Nq,Nq,xY] at zC;cases zC;have zi:=B.rl r (by rw [<- hR];exact Nu xY);refine ⟨_,rfl,ofL r,rfl,by rw [d8];omega,fun ra H4 s4 ER era=>?_⟩;have L1:=s4 _ _ eD;have DW:ra≠D:=fun z=>by rw [z,eD] at ER;cases ER
   have L3:qm H4 (bE r) ra:=by
    unfold qm bE;rw [show sL (ofL r)=r from aL r] at era;exact era
   refine ⟨_,L1,bh (by rw [MX];omega),as++[ra],Bu,aN (s2.trans s4) hD,by rw [ac,Nw];rfl,fun zz=>?_,?_⟩
   · rcases NF.mp zz with zz | zz
     · exact IL zz
     · exact DW (Nc.mp zz).symm
   · rw [take_snoc xY,Nw];refine P2.append (nF (fun ws a hm e=>?_) has) (.cons ?_ .nil)
     · unfold qm;rw [aq (fun z=>IL (by rw [<- z];exact hm))];exact s4 _ _ e
     · unfold qm;rw [aq DW];exact L3
inductive fQ (vs:List V) (H:Hp) (Q:VK) (_E:XK):Prop
 | mk (base n:Int) (xB:vs=[.int base,.int n]) (xC:0<=base) (xG:0<=n) (xT:Q (.str (nameOf base n)) H):fQ  vs H Q _E
def mj:Sp:=fQ
theorem gM:FnOk P w K mg base CX0 1 T.g__law_name.f T.g__law_name.d ["base","n"] mj:=by
 refine T.g__law_name.F.ok aV (fun vs H Q E h=>?_) (fun xy A outer s H vs Q E hr h=>?_)
 · obtain ⟨b,n,rfl,_⟩:=h;rfl
 obtain ⟨b,n,rfl,h0,hn,q⟩:=h
 refine ⟨_,(ad (av (i:=2) aV.nd rfl (NB rfl) al)
  (ad (av (i:=3) aV.nd rfl (NB rfl) al)
  (ad (av (i:=4) aV.nd rfl (NB rfl) (ao bd (pv 0) ag))
  (ad (dD Pg rfl (ir rfl T.n_range (aa ag ae)) (aD (i:=5) aV.nd rfl (NB rfl)) (ad (av (i:=3) aV.nd rfl (NB rfl) (ao ak (pv 3) (aI jR (pv 2) (ao bF (pv 4) ag) (fun _ _=>rfl))))
  (af (av (i:=4) aV.nd rfl (NB rfl) (ao bd (pv 4) ag)))))
  (ad (aQ (ax di (ao bF (pv 0) ag) ag (ar _)) (af (ay (bM l0 (pv 3) cK (bL (ao gj (pv 1) ag))))) aC)
  (ad (av (i:=6) aV.nd rfl (NB rfl) (ao gj ag (ao bF (ao bd (pv 0) ag) ag)))
  (ad (av (i:=7) aV.nd rfl (NB rfl) (ao bF (ao bF (ao bd (pv 0) ag) ag) (pv 6)))
  (ad (av (i:=8) aV.nd rfl (NB rfl) (aI jR (pv 2) (ao bF (ao gj (bU N7 PySem.F.slot_str_index PySem.F.type_str_index qU (pv 2) (aa (aI jR (pv 3) (pv 7) (fun _ _=>rfl)) ae)) (pv 1)) ag) (fun _ _=>rfl)))
  (af (ay (ao ak (ao ak (bM l0 (pv 3) cK (bL (pv 7))) (pv 8)) (bM l0 (pv 3) (bL (ao gj (pv 7) ag)) (bL (pv 6)))))))))))))),?_⟩
 try dsimp only [xS,xw]
 refine ⟨_,rfl,_,_,rfl,rfl,⟨by decide,by decide⟩,?_⟩;refine ⟨8,rfl,by decide,by decide,?_⟩;refine lr (n:=8) (fun i σ H2=>Ex1 fun kv=>An2 (H2=H) (σ=[some (.int b),some (.int n),some (.str cO),some (.str (bZ (b / 112) i)),some (.int (b / 112 / 26 ^ i)),kv,none,none,none])) ⟨none,rfl,?_⟩ ?_ ?_
 · have e1:bZ (b / 112) 0=MW "":=by
    show (⟨([]:List Nat).toArray⟩:Nd)=MW "";decide +kernel
   have e2:b / 112 / 26 ^ 0=b / 112:=by rw [Int.pow_zero,RU]
   rw [e1,e2];rfl
 · rintro i σ H2 hi ⟨kv,rfl,rfl⟩;have h1:=Oh (b / 112 / 26 ^ i) (by decide:(26:Int)≠0);have h2:=Om (b / 112 / 26 ^ i) (by decide:(0:Int)<26);refine ⟨_,rfl,_,rfl,_,rfl,_,_,rfl,rfl,(by show (0:Int)<26;decide),cO,_,_,rfl,rfl,ai (by rw [jc];decide),lf h1 h2,_,_,rfl,rfl,ai ?_,?_⟩
   · rw [cq];show i+1<=1000000;omega
   · refine ⟨_,rfl,_,_,rfl,rfl,⟨by decide,by decide⟩,some (.int (0+i)),rfl,?_⟩
     have e1:b / 112 / 26 ^ (i+1)=b / 112 / 26 ^ i / 26:=by
      rw [Int.pow_succ,Int.ediv_ediv_of_nonneg (Int.le_of_lt (Int.pow_pos (by decide)))]
     rw [oZ,e1];rfl
 · rintro σ H2 ⟨kv,rfl,rfl⟩;have hw:=cq (b / 112) 8;refine ⟨_,rfl,_,_,rfl,rfl,(by show (0:Int)<2;decide),rfl,_,rfl,?_⟩;refine cA (fun c=>?_) (fun c=>?_)
   · have c':b%2=1:=V.int.inj (of_decide_eq_true c);refine ⟨_,rfl,_,rfl,_,_,rfl,rfl,_,rfl,_,rfl,ai (by rw [hw];decide),?_⟩;have e:nameOf b n=dO (bZ (b / 112) 8) none (some (n+1)):=by unfold nameOf;rw [if_pos c']
     rw [e] at q;exact q
   · have c':¬ b%2=1:=fun z=>c (decide_eq_true (congrArg V.int z));have hs:=iu b;have ha:=rP b;refine ⟨_,rfl,_,_,rfl,rfl,⟨by decide,by decide⟩,_,_,rfl,rfl,(by show (0:Int)<8;decide),_,_,rfl,rfl,?_⟩;refine ⟨_,rfl,_,_,rfl,rfl,⟨by decide,by decide⟩,_,_,rfl,rfl,(by show (0:Int)<7;decide),_,rfl,_,_,rfl,rfl,(by show (0:Int)<dm b;omega),?_⟩;have hk:(nAt b).toNat<8:=by omega
     have BA:atI (bZ (b / 112) 8).cps.toList (nAt b)=some (97+((b / 112 / 26 ^ (nAt b).toNat)%26).toNat):=by
      refine at_nonneg ha.1 ?_;show (ey (b / 112) 8)[(nAt b).toNat]?=_;unfold ey;rw [Nq,Ry hk];rfl
     have h1:=Oh (b / 112 / 26 ^ (nAt b).toNat) (by decide:(26:Int)≠0);have h2:=Om (b / 112 / 26 ^ (nAt b).toNat) (by decide:(0:Int)<26);have h3:=Oh ((((b / 112 / 26 ^ (nAt b).toNat)%26).toNat:Int)+n) (by decide:(26:Int)≠0);have h4:=Om ((((b / 112 / 26 ^ (nAt b).toNat)%26).toNat:Int)+n) (by decide:(0:Int)<26);refine ⟨_,rfl,_,rfl,rfl,_,rfl,_,rfl,_,nAt b,_,rfl,rfl,ai (by rw [hw];decide),BA,cO,_,_,[],rfl,rfl,qq _ (by omega),_,rfl,_,_,rfl,rfl,_,_,rfl,rfl,(by show (0:Int)<26;decide),cO,_,_,rfl,rfl,ai (by rw [jc];decide),lf h3 h4,?_⟩;have l1:=dw (bZ (b / 112) 8) none (some (nAt b));have l2:=dw (bZ (b / 112) 8) (some (nAt b+1)) (some (dm b));rw [hw] at l1 l2;refine ⟨_,rfl,_,rfl,_,rfl,_,rfl,ai (by rw [hw];decide),_,rfl,_,_,rfl,rfl,ai ?_,_,rfl,_,rfl,_,_,rfl,rfl,_,rfl,_,rfl,_,rfl,_,rfl,ai (by rw [hw];decide),_,_,rfl,rfl,ai ?_,?_⟩
     · show (dO (bZ (b / 112) 8) none (some (nAt b))).length+1<=1000000;omega
     · rw [M4];show (dO (bZ (b / 112) 8) none (some (nAt b))).length+1+(dO (bZ (b / 112) 8) (some (nAt b+1)) (some (dm b))).length<=1000000;omega
     · have e:nameOf b n=dO (bZ (b / 112) 8) none (some (nAt b))++⟨#[jb b n]⟩++dO (bZ (b / 112) 8) (some (nAt b+1)) (some (dm b)):=by unfold nameOf;rw [if_neg c']
       rw [e] at q;exact q
def Told (ins outs:List (Nd×Int)) (r2:List Nat) (rest:List (List Nat)) (a:Nd):Prop:=(a=MW "no text"/\((∀ h,¬ HeadOf (bE r2) h)∨∀ rows,¬ aW ins rows (rest.map bE)))∨((∃ h,HeadOf (bE r2) h)/\(∃ rows,aW ins rows (rest.map bE))/\((a=MW "no book"/\∀ h rows,HeadOf (bE r2) h->aW ins rows (rest.map bE)->¬ dG ins outs h rows)∨(a=MW "read"/\∀ h rows,HeadOf (bE r2) h->aW ins rows (rest.map bE)->dG ins outs h rows)))
inductive fZ (K:MY) (vs:List V) (H:Hp) (Q:VK) (_E:XK):Prop
 | mk (z a:Nd) (ins outs:List (Nd×Int)) (r0 r1 r2:List Nat) (rest:List (List Nat)) (xB:vs=[.str z]) (xC:lA z ins outs r0 r1 r2 rest) (xG:aP ins=true) (xT:aP outs=true) (yu:Told ins outs r2 rest a) (zk:∀ H',L2.Same H H'->Q (.str a) H'):fZ K vs H Q _E
def mx (K:MY):Sp:=fZ K
theorem d9:FnOk P w K mg base CX0 9 T.g__law_told.f T.g__law_told.d ["text"] (mx K):=by
 refine T.g__law_told.F.ok cN (fun vs H Q E h=>?_) (fun xy A outer s H vs Q E hr h=>?_)
 · obtain ⟨z,a,ins,outs,r0,r1,r2,rest,rfl,_⟩:=h;rfl
 obtain ⟨z,a,ins,outs,r0,r1,r2,rest,rfl,B,gi,go,hT,q⟩:=h
 refine ⟨_,(ad (av (i:=1) cN.nd rfl (NB rfl) al)
  (ad (tZ (C1:=T.e_NoText) (C2:=T.e_NoBook) (tb:=fun R=>(qJ (qN (fY K T.e_NoText T.e_NoKinds T.e_NoBook) [] R (cz (cx 0) gm)))) (t1:=(nS (tC (.str (MW "no text"))) (aE 1))) (t2:=(nS (tC (.str (MW "no book"))) (aE 1))) (fun pins R=>(af (bi (rb (kS T) (hr.mono (by first | decide | omega)) rfl T.g_read_book.m T.g_read_book.F.kp T.g_read_book.b .nil (aa (pv 0) ae))))) (fun ea oe=>(af (av (i:=1) cN.nd rfl (NB rfl) al))) (fun ea oe=>(af (av (i:=1) cN.nd rfl (NB rfl) al))) rfl rfl rfl T.x_NoText rfl T.x_NoBook)
  (af (ay (pv 1))))),?_⟩
 try dsimp only [xS,xw]
 dsimp only [aE,vp,nS,tC,List.set];refine oW (fun xZ c H2=>An3 (xZ=[some (.str z),some (.str (MW "read"))]) (L2.Same H H2) (((c=.ref T.e_NoText/\a=MW "no text")∨(c=.ref T.e_NoBook/\a=MW "no book")))) (fun R' hR=>?_) ?_
 · refine ⟨_,rfl,z,ins,outs,r0,r1,r2,rest,rfl,B,gi,go,fun h rows hh xY hok r H1 s1 hB=>?_,fun h rows hh xY xU H1 s1=>?_,fun xU H1 s1=>?_⟩
   · rcases hT with ⟨_,hx | hx⟩ | ⟨_,_,⟨_,hx⟩ | ⟨rfl,_⟩⟩
     · exact absurd hh (hx h)
     · exact absurd xY (hx rows)
     · exact absurd hok (hx h rows hh xY)
     · exact ⟨_,rfl,q H1 s1⟩
   · rcases hT with ⟨_,hx | hx⟩ | ⟨_,_,⟨e,_⟩ | ⟨_,hx⟩⟩
     · exact absurd hh (hx h)
     · exact absurd xY (hx rows)
     · exact hR _ _ _ ⟨rfl,s1,.inr ⟨rfl,e⟩⟩
     · exact absurd (hx h rows hh xY) xU
   · rcases hT with ⟨e,_⟩ | ⟨⟨h,hh⟩,⟨rows,xY⟩,_⟩
     · exact hR _ _ _ ⟨rfl,s1,.inl ⟨rfl,e⟩⟩
     · rcases xU with xU | xU
       · exact absurd hh (xU h)
       · exact absurd xY (xU rows)
 · rintro xZ c H2 ⟨rfl,s2,⟨rfl,rfl⟩ | ⟨rfl,rfl⟩⟩
   · exact ⟨_,rfl,.inl ⟨T.hit_NoText_NoText,⟨_,rfl,q H2 s2⟩⟩⟩
   · exact ⟨_,rfl,.inr ⟨T.hit_NoBook_NoText,T.hit_NoBook_NoBook,⟨_,rfl,q H2 s2⟩⟩⟩
theorem iM (two:Nd):∀ (f n:Nat),1<=n->n<=2 ^ f->cnT (btT two f n)=n/\(btT two f n).kn+1=n/\(btT two f n).tall<=f+1
 | 0,n,h1,h2=>by
   have:n=1:=by rw [Nat.pow_zero] at h2;omega
   subst this;exact ⟨by rw [btT,cnT],by rw [btT,Th.kn],by rw [btT,Th.tall];omega⟩
 | f+1,n,h1,h2=>by
   rw [btT];by_cases hn:n<=1
   · rw [if_pos hn,cnT,Th.kn,Th.tall];omega
   · rw [if_neg hn];rw [Nat.pow_succ] at h2;refine hid fun ZZ kZ=>?_;obtain ⟨a1,a2,a3⟩:=iM two f (n / 2) (by omega) (by omega);obtain ⟨b1,b2,b3⟩:=iM two f (n - n / 2) (by omega) (by omega);refine kZ ?_;rw [cnT,cy,cy,cy,Th.kn,kns,kns,kns,Th.tall,br,br,br];omega
def gw (z:Nd):Bool:=decide (z.length<4) && (decide (z=MW "0") || decide ((sL z).head?≠some 48))
def ie:Sp:=fun vs H Q _=>∃ z:Nd,vs=[.str z]/\1<=z.length/\z.length<=1000/\Q (.bl (gw z)) H
theorem dz:FnOk P w K mg base CX0 1 T.g__law_word_good.f T.g__law_word_good.d ["word"] ie:=by
 refine T.g__law_word_good.F.ok gY (fun vs H Q E h=>?_) (fun xy A outer s H vs Q E hr h=>?_)
 · obtain ⟨z,rfl,_⟩:=h;rfl
 obtain ⟨z,rfl,h1,h2,q⟩:=h;refine ⟨_,(af (ay (ck (bw kh (az cQ rfl T.n_len NO (aa (pv 0) ae)) ag (ar _)) (cn (qP (bw di (pv 0) al (ar _)) (cn (bw cf (aI jR (pv 0) ag (fun _ _=>rfl)) al (ar _)))))))),?_⟩
 try dsimp only [xS,xw]
 unfold gw at q;refine ⟨_,rfl,z,rfl,ai (by omega),_,_,rfl,rfl,?_⟩;by_cases c1:z.length<4
 case neg =>
  rw [decide_eq_false c1,Rr] at q;rw [decide_eq_false (show ¬ ((z.length:Nat):Int)<4 by omega)];exact ⟨_,rfl,aS q⟩
 rw [decide_eq_true c1,N8] at q;rw [decide_eq_true (show ((z.length:Nat):Int)<4 by omega)];refine ⟨_,rfl,aZ ?_⟩;refine ⟨_,rfl,rfl,?_⟩;refine ⟨_,rfl,?_⟩;by_cases c2:z=MW "0"
 · rw [decide_eq_true c2,Bool.true_or] at q;rw [decide_eq_true (show V.str z=V.str (MW "0") by rw [c2])];exact aZ q
 rw [decide_eq_false c2,Bool.false_or] at q;rw [decide_eq_false (show ¬ V.str z=V.str (MW "0") from fun e=>c2 (V.str.inj e))];refine aS ?_
 obtain ⟨c,l,yG⟩:∃ c l,sL z=c::l:=by
  cases e:sL z with
  | nil=>rw [<- aT,e] at h1;exact absurd h1 (by decide)
  | cons c l=>exact ⟨c,l,rfl⟩
 refine ⟨_,rfl,z,0,c,rfl,rfl,ai (by omega),by rw [show z.cps.toList=c::l from yG];exact at_nonneg (by decide) rfl,rfl,?_⟩
 have hq:decide ((sL z).head?≠some 48)=!decide (V.str ⟨#[c]⟩=V.str (MW "0")):=by
  rw [yG];by_cases GP:c=48
  · subst GP;rw [decide_eq_false (show ¬ (48::l).head?≠some 48 from fun z=>z rfl),decide_eq_true (congrArg V.str (show (⟨#[48]⟩:Nd)=MW "0" by decide +kernel))];rfl
  · rw [decide_eq_true (show (c::l).head?≠some 48 from fun e=>GP (Nh e)),decide_eq_false (fun e=>GP ?_)]
    · rfl
    · have:=congrArg (fun x:Nd=>x.cps.toList) (V.str.inj e);rw [show (MW "0").cps.toList=[48] by decide +kernel] at this;exact List.head_eq_of_cons_eq this
 rw [hq] at q;exact q
def jL:List (List Nat)->List Nat
 | []=>[]
 | [x]=>x
 | x::y::r=>x++10::jL (y::r)
theorem sA:sL da=[10]:=by decide +kernel
theorem px:∀ ws:List Nd,sL (OQ da ws)=jL (ws.map sL):=by
 intro ws;have h1:OQ da ws=Rl da ws:=PySem.StrLaws.glued_eq_join _ _;rw [h1];clear h1;induction ws with
 | nil=>rfl
 | cons x ws ih =>
   rw [join_cons];cases ws with
   | nil=>rw [if_pos rfl];rfl
   | cons y ws =>
     rw [if_neg (by simp),bK,bK,ih,sA,Nr];rfl
theorem nA:∀ {ls:List (List Nat)},ls≠[]->(∀ l∈ls,∀ c∈l,c≠10)->aB 10 (jL ls)=ls
 | [],h,_=>absurd rfl h
 | [x],_,h=>by rw [jL,dr 10 x (h x (Nj ..))]
 | x::y::r,_,h=>by
   rw [jL,f8,dr 10 x (h x (Nj ..)),nA (by simp) fun l hl=>h l (Ng _ hl)];rfl
theorem sI:∀ ls:List (List Nat),(jL ls).length<=(ls.map (·.length)).sum+ls.length
 | []=>N2 _
 | [x]=>by rw [jL];show x.length<=x.length+0+1;omega
 | x::y::r=>by
   have ih:=sI (y::r);rw [jL,Na,MZ,Ni,O2,MZ];omega
theorem tT {ws:List Nd} (h:∀ w∈ws,(∀ c∈sL w,c≠32)/\sL w≠[]):wds (jn (ws.map sL))=ws.map sL:=by
 rw [sh,O4];induction ws with
 | nil=>rfl
 | cons w ws ih =>
   obtain ⟨h1,h2⟩:=h w (Nj ..);rw [Ni,NM,ih fun v hv=>h v (Ng _ hv),Ni];show wds (sL w)++_=_;rw [mV h1 h2];rfl
theorem lT {ws:List Nd}:(ws.map sL).map ofL=ws:=by
 rw [O4]
 conv=>rhs;rw [<- List.map_id ws]
 exact QL fun x _=>iw x
theorem rf {ws:List Nd} (h:∀ w∈ws,(∀ c∈sL w,40<=c)/\sL w≠[]):bE (jn (ws.map sL))=ws:=by
 unfold bE;rw [tT (fun w hw=>⟨fun c hc=>by have:=(h w hw).1 c hc;omega,(h w hw).2⟩),lT]
theorem vR {ws:List Nd} (h:∀ w∈ws,∀ c∈sL w,40<=c):∀ c∈jn (ws.map sL),c≠10:=fun c hc=>by
 rcases rD hc with rfl | ⟨l,hl,yG⟩
 · decide
 · obtain ⟨w,hw,rfl⟩:=O3.mp hl;have:=h w hw c yG;omega
theorem nV (o:Nd) (x:Th):∀ m,cnT (chT o x m)=cnT x/\(chT o x m).kn=m+x.kn
 | 0=>⟨rfl,by rw [chT,Py]⟩
 | m+1=>by
   obtain ⟨a,b⟩:=nV o x m;rw [chT,cnT,cy,cy,Th.kn,kns,kns];omega
theorem qh {o:Nd} {x:Th} (Am:x.tall=1) (hc:cnT x<=1) (hk:x.kn<=1) (m:Nat):Small (chT o x m)↔m<=19:=by
 obtain ⟨a,b⟩:=nV o x m;have t:=gE o x Am m;unfold Small;omega
theorem pp {ks:List (Nd×Int)} {st kd:Int} {o:Nd} (ho:okP ks st kd (.knot o [.call 0 0])=true) {x:Th}:∀ m,fpb ks st kd (chT o x m)=fpb ks st kd x
 | 0=>rfl
 | m+1=>by
   rw [chT,kx];have h1:okP ks st kd (.knot o [chT o x m])=true:=ho;rw [h1,N8];show qu ks st kd [chT o x m]=_;rw [jD,Ni,OC,Q0,List.all_nil,Bool.and_true,pp ho m];rfl
theorem pD {z o:Nd} {oc:List Nat} {ow:List Nd} {m k:Nat} (hz:sL z=chC (sL o) m oc k) (ho:aw o=true) (h:Tells oc ow):pw [z]=chW o m ow k:=by
 obtain ⟨h1,_,h3⟩:=aF ho;have Cs:sL o≠[]:=fun e=>h3 (by rw [<- aT,e];rfl);unfold pw;show (W4 (sL z)).map ofL=_;rw [hz,vY (fun c hc=>by have:=h1 c hc;omega) Cs h,lT]
theorem dh {z:Nd} (t:Th):HeadOf [MW "head",z] t↔cB (pw [z]) t :=
 ⟨fun ⟨r,e,h⟩=>by rw [(N4 e).2];exact h,fun h=>⟨[z],rfl,h⟩⟩
theorem df {st:Int} (h0:0<=st/\st<1000) {nm z:Nd} (t:Th):RuleOf st nm [MW "rule",aM st,nm,z] t↔cB (pw [z]) t :=
 ⟨fun ⟨r,e,_,_,h⟩=>by rw [(N4 (N4 (N4 e).2).2).2];exact h,fun h=>⟨[z],rfl,by simp,h0,h⟩⟩
theorem kj {n:Nd} (hn:aw n=true) (t:Th):cB (pw [n]) t↔t=.knot n []:=by
 obtain ⟨h1,_,h3⟩:=aF hn;have C5:sL n≠[]:=fun e=>h3 (by rw [<- aT,e];rfl);have e:pw [n]=chW n 0 (stW (.th (.knot n []))) 0:=pD (o:=n) (m:=0) (k:=0) (oc:=sL n) (by show sL n=[]++(sL n++[]);simp) hn (gx (fun c hc=>by have:=h1 c hc;omega) C5);rw [e,o4 hn (x:=.knot n []) ⟨rfl,hn⟩ (by rw [Th.tall,br]) (by rw [Th.stP,if_pos rfl];rfl)];exact ⟨fun h=>h.2.2,fun h=>⟨N2 _,rfl,h⟩⟩
theorem sC {z o n:Nd} (ho:aw o=true) (hn:aw n=true) {m k:Nat} (hz:sL z=chC (sL o) m (sL n) k) (t:Th):cB (pw [z]) t↔(m<=100/\k=m/\t=chT o (.knot n []) m):=by
 obtain ⟨h1,_,h3⟩:=aF hn;have C5:sL n≠[]:=fun e=>h3 (by rw [<- aT,e];rfl);rw [pD hz ho (gx (fun c hc=>by have:=h1 c hc;omega) C5)];exact o4 ho (x:=.knot n []) ⟨rfl,hn⟩ (by rw [Th.tall,br]) (by rw [Th.stP,if_pos rfl];rfl) t
def Figs (a:Nd):Prop:=(∀ c∈sL a,48<=c/\c<=57)/\sL a≠[]
theorem Figs.word {a:Nd} (h:Figs a):aw a=false/\¬ kg a:=by
 obtain ⟨h1,h2⟩:=h
 obtain ⟨c,l,e⟩:∃ c l,sL a=c::l:=by
  cases e:sL a with
  | nil=>exact absurd e h2
  | cons c l=>exact ⟨c,l,rfl⟩
 have hc:=h1 c (by rw [e];exact Nj ..);refine ⟨OI.mpr fun z=>?_,fun z=>?_⟩
 · have:=(aF z).1 c (by rw [e];exact Nj ..);omega
 · rcases z with rfl | rfl | rfl
   · rw [mC] at e;have:=(N4 e).1;omega
   · rw [no] at e;have:=(N4 e).1;omega
   · rw [l8] at e;have:=(N4 e).1;omega
theorem m7 {z o a b:Nd} (ho:aw o=true) (ha:Figs a) (hb:Figs b) {m k:Nat} (hz:sL z=chC (sL o) m (sL a++46::sL b) k) {x y:Int} (hx:cL a=some x) (hy:cL b=some y) (t:Th):cB (pw [z]) t↔(m<=100/\k=m/\t=chT o (.call x y) m):=by
 obtain ⟨ea,Am⟩:=bf.mp hx;obtain ⟨eb,EO⟩:=bf.mp hy;rw [pD hz ho (j9 (fun c hc=>by have:=ha.1 c hc;omega) ha.2 (fun c hc=>by have:=hb.1 c hc;omega) hb.2),ea,eb];exact o4 ho (x:=.call x y) ⟨Am,EO⟩ (by rw [Th.tall]) (by rw [Th.stP];rfl) t
theorem sO {z o a b:Nd} (ho:aw o=true) (ha:Figs a) (hb:Figs b) {m k:Nat} (hz:sL z=chC (sL o) m (sL a++46::sL b) k) (hx:cL a=none∨cL b=none) (t:Th):¬ cB (pw [z]) t:=by
 rw [pD hz ho (j9 (fun c hc=>by have:=ha.1 c hc;omega) ha.2 (fun c hc=>by have:=hb.1 c hc;omega) hb.2)];rintro ⟨h,_⟩
 have hc:eE [a,dot,b]=none:=by
  rw [eE,if_pos rfl];rcases hx with hx | hx
  · rw [hx]
  · rw [hx];cases cL a <;> rfl
 have:=pS (o:=o) ha.word.2 ha.word.1 hc k m (chW o m [a,dot,b] k).length;unfold d7 at h;rw [this] at h;cases h
def rk:List Nd:=[MW "0",MW "0",MW "1",MW "20",MW "999",MW "1000",MW "00",MW "01",MW "12345"]
def oR:List Nd:=[MW "0",MW "0",MW "0",MW "1",MW "12",MW "999",MW "0000",MW "1000"]
def WdOk (a:Nd):Prop:=((sL a).all (fun c=>decide (48<=c/\c<=57))=true/\1<=a.length/\a.length<=5)/\gw a=isNum a/\(cL a=some 0↔a=MW "0")
theorem si:∀ a∈rk,WdOk a:=by unfold WdOk;decide +kernel
theorem ql:∀ a∈oR,WdOk a:=by unfold WdOk;decide +kernel
inductive fO (vs:List V) (H:Hp) (Q:VK) (_E:XK):Prop
 | mk (cell:Int) (xB:vs=[.int cell]) (xC:∀ (a b:Nd) (r:M5) (H':Hp),L2.Same H H'->WdOk a->WdOk b->H' r=some (.tup [.str a,.str b])->Q (.ref r) H'):fO  vs H Q _E
def lM:Sp:=fO
set_option maxHeartbeats 1000000 in
theorem lL:FnOk P w K mg base CX0 1 T.g__law_call.f T.g__law_call.d ["cell"] lM:=by
 refine T.g__law_call.F.ok eg (fun vs H Q E h=>?_) (fun xy A outer s H vs Q E hr h=>?_)
 · obtain ⟨cell,rfl,_⟩:=h;rfl
 obtain ⟨cell,rfl,q⟩:=h
 refine ⟨_,(@ad _ _ _ _ _ (@jS _ 1 _ _ _ _ _ _ _ [(MW "0",_,_),(MW "0",_,_),(MW "1",_,_),(MW "20",_,_),(MW "999",_,_),(MW "1000",_,_),(MW "00",_,_),(MW "01",_,_),(MW "12345",_,_)] eg.nd rfl (NB rfl) (NB rfl) (ao bF (pv 0) ag) (fun _ _=>rfl))
  (@ad _ _ _ _ _ (@jS _ 2 _ _ _ _ _ _ _ [(MW "0",_,_),(MW "0",_,_),(MW "0",_,_),(MW "1",_,_),(MW "12",_,_),(MW "999",_,_),(MW "0000",_,_),(MW "1000",_,_)] eg.nd rfl (NB rfl) (NB rfl) (ao bF (ao bd (pv 0) ag) ag) (fun _ _=>rfl))
  (af (ay (dB (aa (pv 1) (aa (pv 2) ae))))))),?_⟩
 try dsimp only [xS,xw]
 refine gX (zs:=rk) (by decide) fun D H1 s1 e1=>?_;have y0:=Oh cell (show (9:Int)≠0 by decide);have y1:=Om cell (show (0:Int)<9 by decide);obtain ⟨a,ha⟩:∃ z,rk[(cell%9).toNat]?=some z:=⟨_,M3 (by show (cell%9).toNat<9;omega)⟩;refine ⟨_,rfl,_,_,rfl,rfl,(by show (0:Int)<9;decide),D,_,_,.str a,rfl,rfl,SqL.of e1,at_nonneg y0 (by rw [Nq,ha];rfl),?_⟩;dsimp only [aE];refine gX (zs:=oR) (by decide) fun D2 H2 s2 e2=>?_;have x0:=Oh (cell / 9) (show (8:Int)≠0 by decide);have x1:=Om (cell / 9) (show (0:Int)<8 by decide);obtain ⟨b,hb⟩:∃ z,oR[(cell / 9%8).toNat]?=some z:=⟨_,M3 (by show (cell / 9%8).toNat<8;omega)⟩;refine ⟨_,rfl,_,_,rfl,rfl,⟨by decide,by decide⟩,_,_,rfl,rfl,(by show (0:Int)<8;decide),D2,_,_,.str b,rfl,rfl,SqL.of e2,at_nonneg x0 (by rw [Nq,hb];rfl),?_⟩;dsimp only [aE];refine ⟨_,rfl,_,rfl,ai (by show 2<=1000000;decide),fun r xY=>?_⟩;exact q a b r _ (s1.trans (s2.trans (aj xY _))) (si a (Nu ha)) (ql b (Nu hb)) ac
theorem fz (two:Nd) (h8:two.length<=8):∀ (f n:Nat),1<=n->((btT two f n).cP).length+11<=14 * n
 | 0,n,h=>by rw [btT,Th.cP];show 3+11<=_;omega
 | f+1,n,h=>by
   rw [btT];by_cases c:n<=1
   · rw [if_pos c,Th.cP];show 3+11<=_;omega
   · rw [if_neg c,Th.cP,if_neg (by simp),cPs,if_neg (by simp),cPs,if_pos rfl];have h1:=fz two h8 f (n / 2) (by omega);have h2:=fz two h8 f (n - n / 2) (by omega);have h3:=aT two;simp only [Na,MZ,PQ];omega
def kW:Nat->Sp
 | 0=>fun _ _ _ _=>False
 | f+1=>fun vs H Q _=>∃ (two:Nd) (n:Nat),vs=[.str two,.int (n:Nat)]/\two.length<=8/\1<=n/\n<=2 ^ f/\n<=1000/\∀ z:Nd,sL z=(btT two f n).cP->Q (.str z) H
set_option maxHeartbeats 1000000 in
theorem fV:∀ n:Nat,FnOk P w K mg base CX0 n T.g__law_calls.f T.g__law_calls.d ["two","many"] (kW n)
 | 0=>⟨fun _ _ _ _ h=>h.elim,fun _ _ _ _ _ _ _ _ _ _ _ _ _ h=>h.elim⟩
 | f+1=>by
   have ih:=fV f;refine T.g__law_calls.F.ok kX (fun vs H Q E h=>?_) (fun xy A outer s H vs Q E hr h=>?_)
   · obtain ⟨two,n,rfl,_⟩:=h;rfl
   obtain ⟨two,n,rfl,h8,h1,h2,h3,q⟩:=h
   refine ⟨_,(ad (aQ (ax di (pv 1) ag (ar _)) (af (ay al)) aC)
    (af (ay (ao ak (ao ak (ao ak (ao ak (ao ak (pv 0) al) (aY (ih) (hr.mono (M8 _)) rfl T.g__law_calls.m T.g__law_calls.F.kp T.g__law_calls.b .nil nk (aa (pv 0) (aa (ao bd (pv 1) ag) ae)))) al) (aY (ih) (hr.mono (M8 _)) rfl T.g__law_calls.m T.g__law_calls.F.kp T.g__law_calls.b .nil nk (aa (pv 0) (aa (ao rX (pv 1) (ao bd (pv 1) ag)) ae)))) al)))),?_⟩
   try dsimp only [xS,xw]
   refine ⟨_,rfl,rfl,_,rfl,?_⟩;by_cases c:n=1
   · subst c;rw [decide_eq_true (show V.int ((1:Nat):Int)=V.int 1 from rfl)];refine aZ (q _ ?_)
     have e:btT two f 1=.call 0 0:=by cases f with
      | zero=>rfl
      | succ f=>rw [btT,if_pos (M8 _)]
     rw [e];decide +kernel
   rw [decide_eq_false (show ¬ V.int ((n:Nat):Int)=V.int 1 from fun z=>c (by have:=V.int.inj z;omega))];refine aS ?_;cases f with
   | zero=>rw [Nat.pow_zero] at h2;omega
   | succ f =>
   rw [Nat.pow_succ] at h2;have hd:((n:Nat):Int) / 2=((n / 2:Nat):Int):=by omega
   have hd2:((n:Nat):Int) - ((n:Nat):Int) / 2=((n - n / 2:Nat):Int):=by omega
   have b1:=fz two h8 f (n / 2) (by omega);have b2:=fz two h8 f (n - n / 2) (by omega);have L4:(MW "(").length=1:=by decide +kernel
   have MS:(MW ",").length=1:=by decide +kernel
   have L5:(MW ")").length=1:=by decide +kernel
   refine ⟨_,rfl,_,_,rfl,rfl,ai (by omega),?_⟩;refine ⟨_,rfl,_,rfl,_,_,rfl,rfl,⟨by decide,by decide⟩,?_⟩;rw [hd];refine ⟨two,n / 2,rfl,h8,by omega,by omega,by omega,fun za Du=>?_⟩;have la:=aT za;rw [Du] at la;refine ⟨_,_,rfl,rfl,ai (by rw [M4];omega),_,_,rfl,rfl,ai (by rw [M4,M4];omega),?_⟩;refine ⟨_,rfl,_,rfl,_,rfl,_,_,rfl,rfl,⟨by decide,by decide⟩,_,_,rfl,rfl,?_⟩;rw [hd2];refine ⟨two,n - n / 2,rfl,h8,by omega,by omega,by omega,fun zb Dw=>?_⟩;have lb:=aT zb;rw [Dw] at lb;refine ⟨_,_,rfl,rfl,ai (by rw [M4,M4,M4];omega),_,_,rfl,rfl,ai (by rw [M4,M4,M4,M4];omega),q _ ?_⟩;rw [btT,if_neg (by omega),Th.cP,if_neg (by simp),cPs,if_neg (by simp),cPs,if_pos rfl];simp only [bK,Du,Dw,Nr,Nz];rw [show sL (MW "(")=[40] by decide +kernel,show sL (MW ",")=[44] by decide +kernel,show sL (MW ")")=[41] by decide +kernel];simp
structure RowW (R:Nd) (ws:List Nd):Prop where
 e:sL R=jn (ws.map sL)
 w:∀ w∈ws,(∀ c∈sL w,40<=c)/\sL w≠[]
theorem RowW.wl {R:Nd} {ws:List Nd} (h:RowW R ws):bE (sL R)=ws:=by rw [h.e];exact rf h.w
theorem RowW.n10 {R:Nd} {ws:List Nd} (h:RowW R ws):∀ c∈sL R,c≠10:=by rw [h.e];exact vR fun w hw=>(h.w w hw).1
theorem fw:∀ {rest:List Nd} {WR:List (List Nd)},NY RowW rest WR->(rest.map sL).map bE=WR
 | _,_,.nil=>rfl
 | _,_,.cons h t=>by rw [Ni,Ni,h.wl,fw t]
theorem nN:∀ {rest:List Nd} {WR:List (List Nd)},NY RowW rest WR->∀ R∈rest,∀ c∈sL R,c≠10
 | _,_,.nil,R,hR=>by cases hR
 | _,_,.cons h t,R,hR=>by
   rcases Nb.mp hR with rfl | hR
   · exact h.n10
   · exact nN t R hR
theorem gH {R0 R1 R2:Nd} {rest:List Nd} {ins outs:List (Nd×Int)} {w2:List Nd} {WR:List (List Nd)} (h0:RowW R0 (MW "in"::ins.map bO)) (h1:RowW R1 (MW "out"::outs.map bO)) (h2:RowW R2 w2) (hr:NY RowW rest WR) (hl:∀ R∈R0::R1::R2::rest,R.length<=5000) (n:rest.length<=100) (ki:∀ k∈ins,fK k) (ko:∀ k∈outs,fK k) (i8:ins.length<=8) (o8:outs.length<=8) (ine:ins≠[]) (one:outs≠[]):lA (OQ da (R0::R1::R2::rest)) ins outs (sL R0) (sL R1) (sL R2) (rest.map sL):=by
 have hn:∀ l∈(R0::R1::R2::rest).map sL,∀ c∈l,c≠10:=fun l hl=>by
  obtain ⟨R,hR,rfl⟩:=O3.mp hl;rcases Nb.mp hR with rfl | hR
  · exact h0.n10
  rcases Nb.mp hR with rfl | hR
  · exact h1.n10
  rcases Nb.mp hR with rfl | hR
  · exact h2.n10
  · exact nN hr R hR
 have hs:=jy hl
 have hz:(OQ da (R0::R1::R2::rest)).length<=1000000:=by
  have h3:=sI ((R0::R1::R2::rest).map sL)
  have h4:((R0::R1::R2::rest).map sL).map (·.length)=(R0::R1::R2::rest).map (·.length):=by
   rw [O4];exact QL fun x _=>aT x
  rw [h4,MX,<- px] at h3;rw [<- aT];have h5:(R0::R1::R2::rest).length=rest.length+3:=rfl;rw [h5] at h3 hs;omega
 refine ⟨?_,hz,fun r hr=>?_,by rw [MX];omega,h0.wl,h1.wl,ki,ko,i8,o8,ine,one⟩
 · rw [px,nA (by simp) hn];rfl
 · obtain ⟨R,hR,rfl⟩:=O3.mp (show r∈(R0::R1::R2::rest).map sL from hr);rw [aT];exact hl R hR
theorem HeadOf.uniq {ws:List Nd} {t u:Th} (h:HeadOf ws t) (h':HeadOf ws u):t=u:=by
 obtain ⟨r,e,h1,h2⟩:=h;refine hid fun ZZ kZ=>?_;obtain ⟨r',e',h3,h4⟩:=h';refine kZ ?_;rw [e] at e';have:r=r':=(N4 e').2;subst this;exact pR h2 h4 (Nh (h1.symm.trans h3))
theorem jW {ins:List (Nd×Int)} {WR:List (List Nd)} (xu:ins≠[]) {rows yi:List (List Th)} (h:aW ins rows WR) (h':aW ins yi WR):rows=yi:=by
 have hn:0<ins.length:=OE.mpr xu;have hl:rows.length=yi.length:=Nat.eq_of_mul_eq_mul_right hn (h.len.symm.trans h'.len);refine QW fun s=>?_;by_cases hs:s<rows.length
 · obtain ⟨row,xE⟩:∃ row,rows[s]?=some row:=⟨_,M3 hs⟩;obtain ⟨ym,yh⟩:∃ row,yi[s]?=some row:=⟨_,M3 (by omega)⟩;rw [xE,yh];have l1:=h.row row (Nu xE);have l2:=h'.row ym (Nu yh);congr 1;refine QW fun j=>?_;by_cases hj:j<ins.length
   · refine hid fun ZZ kZ=>?_;obtain ⟨t,ht⟩:∃ t,row[j]?=some t:=⟨_,M3 (by omega)⟩;obtain ⟨t',Ap⟩:∃ t,ym[j]?=some t:=⟨_,M3 (by omega)⟩;obtain ⟨k,hk⟩:∃ k,ins[j]?=some k:=⟨_,M3 hj⟩;obtain ⟨ws,e1,r1,_⟩:=h.w s j row t k xE ht hk;obtain ⟨zL,e2,r2,_⟩:=h'.w s j ym t' k yh Ap hk;refine kZ ?_;rw [e1] at e2;cases e2;rw [ht,Ap,r1.uniq r2]
   · rw [OJ (by omega),OJ (by omega)]
 · rw [OJ (by omega),OJ (by omega)]
section
variable {ins outs:List (Nd×Int)} {r2:List Nat} {rest:List (List Nat)} {h:Th} {rows:List (List Th)}
theorem ft (ine:ins≠[]) (hh:HeadOf (bE r2) h) (hr:aW ins rows (rest.map bE)) (ok:dG ins outs h rows):Told ins outs r2 rest (MW "read") :=
 .inr ⟨⟨h,hh⟩,⟨rows,hr⟩,.inr ⟨rfl,fun h' yi GQ xY=>by rw [<- hh.uniq GQ,<- jW ine hr xY];exact ok⟩⟩
theorem fF (ine:ins≠[]) (hh:HeadOf (bE r2) h) (hr:aW ins rows (rest.map bE)) (ok:¬ dG ins outs h rows):Told ins outs r2 rest (MW "no book") :=
 .inr ⟨⟨h,hh⟩,⟨rows,hr⟩,.inl ⟨rfl,fun h' yi GQ xY=>by rw [<- hh.uniq GQ,<- jW ine hr xY];exact ok⟩⟩
end
theorem lu {leaf one:Nd} {DX Cz:List Nd} {ta tb:Th} (ha:RuleOf 0 leaf DX ta) (hb:RuleOf 0 one Cz tb) (za:ta.size<=60000) (zb:tb.size<=60000):aW [(leaf,0),(one,1)] [[ta,tb]] [DX,Cz]:=by
 refine ⟨rfl,fun row hr=>by rw [Nc.mp hr];rfl,fun s j row t k hs hj hk=>?_⟩;cases s with
 | succ s=>cases hs
 | zero =>
   cases hs
   match j,hj,hk with
   | 0,hj,hk=>cases hj;cases hk;exact ⟨DX,rfl,ha,za⟩
   | 1,hj,hk=>cases hj;cases hk;exact ⟨Cz,rfl,hb,zb⟩
theorem kP {leaf one:Nd} {DX Cz:List Nd} {rows:List (List Th)} (h:aW [(leaf,0),(one,1)] rows [DX,Cz]):∃ tb,RuleOf 0 one Cz tb:=by
 have h1:=h.len
 have h2:rows.length=1:=by
  have:2=rows.length * 2:=h1;omega
 refine hid fun ZZ kZ=>?_;obtain ⟨row,rfl⟩:=List.length_eq_one_iff.mp h2;have h3:=h.row row (Nc.mpr rfl);obtain ⟨t,ht⟩:∃ t,row[1]?=some t:=⟨_,M3 (show 1<row.length by rw [h3];exact (by decide:1<2))⟩;obtain ⟨ws,e,r,_⟩:=h.w 0 1 row t (one,1) rfl ht rfl;refine kZ ?_;cases e;exact ⟨t,r⟩
def stR (leaf:Nd) (s:Nat):List Nd:=[MW "rule",aM (s:Nat),leaf,leaf]
theorem j3 {leaf:Nd} (hl:aw leaf=true) {m:Nat} (hm:m<=1000):aW [(leaf,0)] (Nn m [.knot leaf []]) ((NU m).map (stR leaf)):=by
 refine ⟨by rw [MX,OH,Pm];exact (Nat.mul_one m).symm,fun row hr=>by rw [(PN.mp hr).2];rfl,fun s j row t k hs hj hk=>?_⟩;obtain ⟨Cm,BI⟩:=Nl.mp hs;rw [Pm] at Cm;rw [List.getElem_replicate] at BI;subst BI
 match j,hj,hk with
 | 0,hj,hk =>
   cases hj;cases hk;refine ⟨stR leaf s,?_,(df ⟨Int.natCast_nonneg _,by omega⟩ _).mpr ((kj hl _).mpr rfl),by rw [Th.size,aG];decide⟩;show ((NU m).map (stR leaf))[s * 1+0]?=_;rw [Nat.mul_one,Nat.add_zero,Nq,Ry Cm];rfl
theorem db {outs:List (Nd×Int)} {leaf:Nd} (h:bn outs leaf=0) (st kd:Int):dH outs st kd (.knot leaf []):=by
 refine ⟨⟨by rw [Th.tall,br];decide,by rw [Th.kn,kns];decide,by rw [cnT,cy];decide⟩,?_⟩;rw [kx,okP,h];rfl
theorem iW {leaf:Nd} {m:Nat}:dG [(leaf,0)] [(leaf,0)] (.knot leaf []) (Nn m [.knot leaf []])↔m<=20:=by
 have h0:bn [(leaf,(0:Int))] leaf=0:=by unfold bn;simp
 constructor
 · intro h;have:=h.1;rw [Pm] at this;exact this
 · intro h;refine ⟨by rw [Pm];exact h,db h0 _ _,fun row hr=>?_⟩;rw [(PN.mp hr).2];refine ⟨rfl,fun j t k hj hk=>?_⟩
   match j,hj,hk with
   | 0,hj,hk=>cases hj;exact db h0 _ _
theorem jC (o:Nd) (x:Th):∀ m,(chT o x m).size=m+x.size
 | 0=>by rw [chT,Py]
 | m+1=>by rw [chT,Th.size,aG,aG,jC o x m];omega
theorem WdOk.figs {a:Nd} (h:WdOk a):Figs a:=by
 obtain ⟨⟨h1,h2,_⟩,_⟩:=h;refine ⟨fun c hc=>of_decide_eq_true (Oa.mp h1 c hc),fun z=>?_⟩;rw [<- aT,z] at h2;exact absurd h2 (by decide)
section
variable {leaf one:Nd} (hl:aw leaf=true) (ho:aw one=true) (xu:leaf≠one)
abbrev lo2 (leaf one:Nd):List (Nd×Int):=[(leaf,0),(one,1)]
include hl ho xu
theorem mq:bn (lo2 leaf one) leaf=0/\bn (lo2 leaf one) one=1:=by
 unfold lo2;refine ⟨by rw [bn,if_pos rfl],by rw [bn,if_neg xu,bn,if_pos rfl]⟩
theorem uf:aP (lo2 leaf one)=true:=by
 unfold aP;rw [decide_eq_true (show 1<=(lo2 leaf one).length/\(lo2 leaf one).length<=8 from ⟨(by decide:1<=2),(by decide:2<=8)⟩),N8]
 have h1:(lo2 leaf one).all ba=true:=by
  show (ba (leaf,0) && (ba (one,1) && true))=true;unfold ba;rw [hl,ho];rfl
 rw [h1,N8,decide_eq_true (show ((lo2 leaf one).map (·.1)).Nodup from by show [leaf,one].Nodup;simp [xu]),N8];exact decide_eq_true (Nj ..)
theorem wd:∀ k∈lo2 leaf one,fK k:=fun k hk=>by
 rcases Nb.mp hk with rfl | hk
 · exact ⟨hl,(by decide:(0:Int)<=0),(by decide:(0:Int)<10)⟩
 · rw [Nc.mp hk];exact ⟨ho,(by decide:(0:Int)<=1),(by decide:(1:Int)<10)⟩
theorem mR {x:Th} (Am:x.tall=1) (hc:cnT x<=1) (hk:x.kn<=1) (m:Nat):dH (lo2 leaf one) 1 1 (chT one x m)↔(m<=19/\fpb (lo2 leaf one) 1 1 x=true):=by
 unfold dH;rw [qh Am hc hk m,pp (by rw [okP,(mq hl ho xu).2];rfl) m]
theorem qK {pz over a b:Nd} {m k:Nat} (ha:WdOk a) (hb:WdOk b) (hz:sL pz=chC (sL one) m (sL over) k) (zT:over=leaf∨(sL over=sL a++46::sL b/\over≠leaf)) (hm:m<=200) :
 ((m<=100/\k=m/\(over=leaf∨(gw a && gw b)=true))->∃ t,(∀ t',cB (pw [pz]) t'↔t'=t)/\t.size<=60000/\(dH (lo2 leaf one) 1 1 t↔¬ (19<m∨(over≠leaf/\¬ (a=MW "0"/\b=MW "0")))))/\(¬ (m<=100/\k=m/\(over=leaf∨(gw a && gw b)=true))->∀ t,¬ cB (pw [pz]) t):=by
 rcases zT with rfl | ⟨zT,hn⟩
 · have hp:=sC ho hl hz;constructor
   · rintro ⟨h1,h2,_⟩;refine ⟨chT one (.knot over []) m,fun t'=>⟨fun h=>((hp t').mp h).2.2,fun h=>(hp t').mpr ⟨h1,h2,h⟩⟩,?_,?_⟩
     · rw [jC,Th.size,aG];omega
     · rw [mR hl ho xu (by rw [Th.tall,br]) (by rw [cnT,cy];decide) (by rw [Th.kn,kns];decide)];have hf:fpb (lo2 over one) 1 1 (.knot over [])=true:=(db (mq hl ho xu).1 1 1).2;constructor
       · rintro h (z | z)
         · omega
         · exact z.1 rfl
       · intro h;exact ⟨by omega,hf⟩
   · intro h t ht;obtain ⟨h1,h2,_⟩:=(hp t).mp ht;exact h ⟨h1,h2,.inl rfl⟩
 · rw [zT] at hz;by_cases hg:(gw a && gw b)=true
   · have Be:=QJ.mp hg;rw [ha.2.1,hb.2.1] at Be;refine hid fun ZZ kZ=>?_
     obtain ⟨x,hx⟩:∃ x,cL a=some x:=by
      cases e:cL a with
      | none=>rw [dM,Be.1] at e;cases e
      | some x=>exact ⟨x,rfl⟩
     obtain ⟨y,hy⟩:∃ x,cL b=some x:=by
      cases e:cL b with
      | none=>rw [dM,Be.2] at e;cases e
      | some x=>exact ⟨x,rfl⟩
     have hp:=m7 ho ha.figs hb.figs hz hx hy;obtain ⟨_,Am⟩:=bf.mp hx;obtain ⟨_,EO⟩:=bf.mp hy;refine kZ ?_;constructor
     · rintro ⟨h1,h2,_⟩;refine ⟨chT one (.call x y) m,fun t'=>⟨fun h=>((hp t').mp h).2.2,fun h=>(hp t').mpr ⟨h1,h2,h⟩⟩,?_,?_⟩
       · rw [jC,Th.size];omega
       · rw [mR hl ho xu (by rw [Th.tall]) (by rw [cnT];decide) (by rw [Th.kn];decide)]
         have hf:fpb (lo2 leaf one) 1 1 (.call x y)=true↔(a=MW "0"/\b=MW "0"):=by
          rw [<- ha.2.2,<- hb.2.2,hx,hy,kx,okP];show ((decide (0<=x/\x<1) && decide (0<=y/\y<1)) && true)=true↔_;rw [Bool.and_true,NX,decide_eq_true_iff,decide_eq_true_iff,Option.some.injEq,Option.some.injEq];omega
         rw [hf];constructor
         · rintro ⟨g1,g2⟩ (z | z)
           · omega
           · exact z.2 g2
         · intro z;refine ⟨by omega,?_⟩;by_cases hd:a=MW "0"/\b=MW "0"
           · exact hd
           · exact absurd (.inr ⟨hn,hd⟩) z
     · intro h t ht;obtain ⟨h1,h2,_⟩:=(hp t).mp ht;exact h ⟨h1,h2,.inr hg⟩
   · refine ⟨fun h=>?_,fun _=>sO ho ha.figs hb.figs hz ?_⟩
     · rcases h.2.2 with h | h
       · exact absurd h hn
       · exact absurd h hg
     · have Be:gw a=false∨gw b=false:=by
        cases h1:gw a
        · exact .inl rfl
        · cases h2:gw b
          · exact .inr rfl
          · rw [h1,h2] at hg;exact absurd rfl hg
       rw [ha.2.1,hb.2.1] at Be;exact Be.imp dM.mpr dM.mpr
end
theorem qL:aM 0=MW "0"/\aM 1=MW "1"/\aM 2=MW "2":=by decide +kernel
theorem rs:sL (MW "0")=[48]/\sL (MW "1")=[49]/\sL (MW "2")=[50]:=by decide +kernel
theorem bG {n:Nd} (h:aw n=true):(∀ c∈sL n,40<=c)/\sL n≠[]:=by
 obtain ⟨h1,_,h3⟩:=aF h;exact ⟨fun c hc=>by have:=h1 c hc;omega,fun e=>h3 (by rw [<- aT,e];rfl)⟩
theorem uL {k:Nd×Int} (h:fK k):(∀ c∈sL (bO k),40<=c)/\sL (bO k)≠[]:=by
 rw [eK h];obtain ⟨h1,_⟩:=bG h.1;refine ⟨fun c hc=>?_,by simp⟩;rcases NF.mp hc with hc | hc
 · exact h1 c hc
 · rcases Nb.mp hc with rfl | hc
   · decide
   · rw [fo h.2.1 h.2.2] at hc;rw [Nc.mp hc];omega
theorem u7:(∀ c∈sL (MW "in"),40<=c)/\sL (MW "in")≠[]:=by decide +kernel
theorem rg:(∀ c∈sL (MW "out"),40<=c)/\sL (MW "out")≠[]:=by decide +kernel
theorem vA:(∀ c∈sL (MW "head"),40<=c)/\sL (MW "head")≠[]:=by decide +kernel
theorem rn:(∀ c∈sL (MW "rule"),40<=c)/\sL (MW "rule")≠[]:=by decide +kernel
theorem wf:(∀ c∈sL (MW "0.0"),40<=c)/\sL (MW "0.0")≠[]:=by decide +kernel
theorem uk {n:Nat} (h:n<1000):(∀ c∈sL (aM (n:Nat)),40<=c)/\sL (aM (n:Nat))≠[]:=by
 have:=oq n h;unfold isNum at this;rw [NX,NX,Oa] at this;obtain ⟨⟨h1,h2⟩,_⟩:=this;refine ⟨fun c hc=>by have:=of_decide_eq_true (h2 c hc);omega,fun z=>?_⟩;have h1:=(of_decide_eq_true h1).1;rw [<- aT,z] at h1;exact absurd h1 (by decide)
theorem gb {w0 w:Nd} (Bv:sL w0=sL w++[32]) (hw:(∀ c∈sL w,40<=c)/\sL w≠[]) {leaf:Nd} (hl:aw leaf=true):RowW (w0++leaf++MW "/0") (w::[(leaf,(0:Int))].map bO):=by
 have hk:fK (leaf,(0:Int)):=⟨hl,(by decide:(0:Int)<=0),(by decide:(0:Int)<10)⟩;refine ⟨?_,fun x hx=>?_⟩
 · show _=jn [sL w,sL (bO (leaf,0))];rw [eK hk,bK,bK,Bv,qL.1,rs.1,show sL (MW "/0")=[47,48] by decide +kernel];show _=sL w++32::(sL leaf++47::[48]);simp
 · rcases Nb.mp hx with rfl | hx
   · exact hw
   · rw [Nc.mp hx];exact uL hk
theorem gq {w0 w:Nd} (Bv:sL w0=sL w++[32]) (hw:(∀ c∈sL w,40<=c)/\sL w≠[]) {leaf one n t:Nd} {i:Int} (hi:0<=i/\i<10) (hn:sL n=[47,48,32]) (ht:sL t=47::sL (aM i)) (hl:aw leaf=true) (ho:aw one=true):RowW (w0++leaf++n++one++t) (w::[(leaf,(0:Int)),(one,i)].map bO):=by
 have hk:fK (leaf,(0:Int)):=⟨hl,(by decide:(0:Int)<=0),(by decide:(0:Int)<10)⟩;have IY:fK (one,i):=⟨ho,hi.1,hi.2⟩;refine ⟨?_,fun x hx=>?_⟩
 · show _=jn [sL w,sL (bO (leaf,0)),sL (bO (one,i))];rw [eK hk,eK IY,bK,bK,bK,bK,Bv,hn,ht,qL.1,rs.1];show _=sL w++32::((sL leaf++47::[48])++32::(sL one++47::sL (aM i)));simp
 · rcases Nb.mp hx with rfl | hx
   · exact hw
   · rcases Nb.mp hx with rfl | hx
     · exact uL hk
     · rw [Nc.mp hx];exact uL IY
theorem ik {z:Nd} (hz:(∀ c∈sL z,40<=c)/\sL z≠[]):RowW (MW "head "++z) [MW "head",z]:=by
 refine ⟨?_,fun x hx=>?_⟩
 · rw [bK];show _=jn [sL (MW "head"),sL z];rw [show sL (MW "head ")=sL (MW "head")++[32] by decide +kernel];show _=sL (MW "head")++32::sL z;simp
 · rcases Nb.mp hx with rfl | hx
   · exact vA
   · rw [Nc.mp hx];exact hz
theorem fB {R n z:Nd} (hR:sL R=sL (MW "rule 0 ")++(sL n++32::sL z)) (hn:(∀ c∈sL n,40<=c)/\sL n≠[]) (hz:(∀ c∈sL z,40<=c)/\sL z≠[]):RowW R [MW "rule",aM 0,n,z]:=by
 refine ⟨?_,fun x hx=>?_⟩
 · rw [hR];show _=jn [sL (MW "rule"),sL (aM 0),sL n,sL z];rw [show sL (MW "rule 0 ")=sL (MW "rule")++32::(sL (aM 0)++[32]) by decide +kernel];show _=sL (MW "rule")++32::(sL (aM 0)++32::(sL n++32::sL z));simp
 · rcases Nb.mp hx with rfl | hx
   · exact rn
   rcases Nb.mp hx with rfl | hx
   · exact uk (n:=0) (by decide)
   rcases Nb.mp hx with rfl | hx
   · exact hn
   · rw [Nc.mp hx];exact hz
theorem qD {R n z:Nd} {s:Nat} (hs:s<1000) (hR:sL R=sL (MW "rule ")++(sL (aM (s:Nat))++32::(sL n++32::sL z))) (hn:(∀ c∈sL n,40<=c)/\sL n≠[]) (hz:(∀ c∈sL z,40<=c)/\sL z≠[]):RowW R [MW "rule",aM (s:Nat),n,z]:=by
 refine ⟨?_,fun x hx=>?_⟩
 · rw [hR];show _=jn [sL (MW "rule"),sL (aM (s:Nat)),sL n,sL z];rw [show sL (MW "rule ")=sL (MW "rule")++[32] by decide +kernel];show _=sL (MW "rule")++32::(sL (aM (s:Nat))++32::(sL n++32::sL z));simp
 · rcases Nb.mp hx with rfl | hx
   · exact rn
   rcases Nb.mp hx with rfl | hx
   · exact uk hs
   rcases Nb.mp hx with rfl | hx
   · exact hn
   · rw [Nc.mp hx];exact hz
theorem gd:(MW "in ").length=3/\(MW "out ").length=4/\(MW "head ").length=5/\(MW "/0").length=2/\(MW "rule ").length=5/\(MW " ").length=1/\(MW "/0 ").length=3/\(MW "/2").length=2/\(MW "rule 0 ").length=7/\(MW "/1").length=2/\(MW " 0.0").length=4/\(MW "head 0.0").length=8:=by decide +kernel
theorem lB {n:Nat} (h:n<1000):(aM (n:Nat)).length<=3:=by
 have:=oq n h;unfold isNum at this;rw [NX,NX] at this;exact (of_decide_eq_true this.1.1).2
def kC (leaf:Nd) (s:Nat):Nd:=MW "rule "++aM (s:Nat)++MW " "++leaf++MW " "++leaf
def cG (leaf:Nd) (m:Nat):List Nd:=(MW "in "++leaf++MW "/0")::(MW "out "++leaf++MW "/0")::(MW "head "++leaf)::(NU m).map (kC leaf)
theorem ni (leaf:Nd) (m:Nat):cG leaf (m+1)=cG leaf m++[kC leaf m]:=by
 unfold cG;rw [List.range_succ,Nw];rfl
theorem qb {leaf:Nd} (h8:leaf.length<=8) {s:Nat} (h:s<1000):(kC leaf s).length<=30:=by
 refine hid fun ZZ kZ=>?_;obtain ⟨a1,a2,a3,a4,a5,a6,_⟩:=gd;refine kZ ?_;have:=lB h;unfold kC;rw [M4,M4,M4,M4,M4];omega
theorem km {leaf:Nd} (h8:leaf.length<=8) {m:Nat} (h:m<=1000):∀ R∈cG leaf m,R.length<=30:=fun R hR=>by
 refine hid fun ZZ kZ=>?_;obtain ⟨a1,a2,a3,a4,a5,a6,_⟩:=gd;refine kZ ?_;unfold cG at hR;rcases Nb.mp hR with rfl | hR
 · rw [M4,M4];omega
 rcases Nb.mp hR with rfl | hR
 · rw [M4,M4];omega
 rcases Nb.mp hR with rfl | hR
 · rw [M4];omega
 · obtain ⟨s,hs,rfl⟩:=O3.mp hR;exact qb h8 (by have:=Pk.mp hs;omega)
theorem jA {α β γ:Type} {F:β->γ->Prop} {f:α->β} {g:α->γ}:∀ {l:List α},(∀ x∈l,F (f x) (g x))->NY F (l.map f) (l.map g)
 | [],_=>.nil
 | x::l,h=>.cons (h x (Nj ..)) (jA fun y hy=>h y (Ng _ hy))
theorem nw {leaf:Nd} (hl:aw leaf=true) {m:Nat} (hm:m<=100):∃ r0 r1 r2 rest,lA (OQ da (cG leaf m)) [(leaf,0)] [(leaf,0)] r0 r1 r2 rest/\Told [(leaf,0)] [(leaf,0)] r2 rest (if m<=20 then MW "read" else MW "no book"):=by
 have h8:=(aF hl).2.1;have hk:fK (leaf,(0:Int)):=⟨hl,(by decide:(0:Int)<=0),(by decide:(0:Int)<10)⟩;have yc:∀ k∈[(leaf,(0:Int))],fK k:=fun k h=>by rw [Nc.mp h];exact hk
 have hr:NY RowW ((NU m).map (kC leaf)) ((NU m).map (stR leaf)):=jA fun s hs=>by
  refine qD (by have:=Pk.mp hs;omega) ?_ (bG hl) (bG hl);unfold kC;simp only [bK,Nr];rw [show sL (MW " ")=[32] by decide +kernel];rfl
 have h2:=ik (bG hl);refine ⟨_,_,_,_,gH (gb (by decide +kernel) u7 hl) (gb (by decide +kernel) rg hl) h2 hr (fun R hR=>by have:=km h8 (show m<=1000 by omega) R hR;omega) (by rw [MX,OH];omega) yc yc (by show 1<=8;decide) (by show 1<=8;decide) (by simp) (by simp),?_⟩;have hh:HeadOf (bE (sL (MW "head "++leaf))) (.knot leaf []):=by rw [h2.wl];exact (dh _).mpr ((kj hl _).mpr rfl)
 have hR:aW [(leaf,0)] (Nn m [.knot leaf []]) ((((NU m).map (kC leaf)).map sL).map bE):=by rw [fw hr];exact j3 hl (by omega)
 by_cases c:m<=20
 · rw [if_pos c];exact ft (by simp) hh hR (iW.mpr c)
 · rw [if_neg c];exact fF (by simp) hh hR fun h=>c (iW.mp h)
theorem fj {leaf:Nd} (hl:aw leaf=true):aP [(leaf,0)]=true:=by
 unfold aP;rw [decide_eq_true (show 1<=[(leaf,(0:Int))].length/\[(leaf,(0:Int))].length<=8 from ⟨(by decide:1<=1),(by decide:1<=8)⟩),N8]
 have h1:[(leaf,(0:Int))].all ba=true:=by
  show (ba (leaf,0) && true)=true;unfold ba;rw [hl];rfl
 rw [h1,N8,decide_eq_true (show ([(leaf,(0:Int))].map (·.1)).Nodup from by show [leaf].Nodup;simp),N8];exact decide_eq_true (Nj ..)
inductive cF (K:MY) (vs:List V) (H:Hp) (Q:VK) (_E:XK):Prop
 | mk (leaf:Nd) (m:Nat) (xB:vs=[.str leaf,.int (m:Nat)]) (xC:aw leaf=true) (xG:m<=100) (xT:∀ H',L2.Same H H'->Q (.str (if m<=20 then MW "read" else MW "no book")) H'):cF K vs H Q _E
def fN (K:MY):Sp:=cF K
set_option maxHeartbeats 2000000 in
theorem fL:FnOk P w K mg base CX0 10 T.g__law_states_told.f T.g__law_states_told.d ["leaf","many"] (fN K):=by
 refine T.g__law_states_told.F.ok bS (fun vs H Q E h=>?_) (fun xy A outer s H vs Q E hr h=>?_)
 · obtain ⟨leaf,m,rfl,_⟩:=h;rfl
 obtain ⟨leaf,m,rfl,hl,hm,q⟩:=h
 refine ⟨_,(ad (av (i:=2) bS.nd rfl (NB rfl) (bc (aa (ao ak (ao ak al (pv 0)) al) (aa (ao ak (ao ak al (pv 0)) al) (aa (ao ak al (pv 0)) ae)))))
  (ad (dD Pg rfl (ir rfl T.n_range (aa (pv 1) ae)) (aD (i:=3) bS.nd rfl (NB rfl)) (af (bi (bU NH N0 NZ bp (pv 2) (aa (ao ak (ao ak (ao ak (ao ak (ao ak al (bH qi rfl T.n_str PyProof.Rows.boot_str (aa (pv 3) ae))) al) (pv 0)) al) (pv 0)) ae)))))
  (af (ay (pcF T.g__law_told (d9 T) hr (aa (bU N7 Qt Qr jv al (aa (pv 2) ae)) ae)))))),?_⟩
 try dsimp only [xS,xw]
 have h8:=(aF hl).2.1;refine hid fun ZZ kZ=>?_;obtain ⟨a1,a2,a3,a4,a5,a6,_⟩:=gd;refine kZ ?_;refine ⟨_,rfl,_,_,rfl,rfl,ai (by omega),_,_,rfl,rfl,ai (by rw [M4];omega),?_⟩;refine ⟨_,rfl,_,_,rfl,rfl,ai (by omega),_,_,rfl,rfl,ai (by rw [M4];omega),?_⟩;refine ⟨_,rfl,_,_,rfl,rfl,ai (by omega),ai (by show 3<=1000000;decide),fun rl zi=>?_⟩;dsimp only [aE];refine ⟨_,rfl,_,rfl,by omega,by omega,?_⟩;refine lr (n:=((m:Nat):Int).toNat) (fun i σ H2=>Ex1 fun c3=>An3 (σ=[some (.str leaf),some (.int (m:Nat)),some (.ref rl),c3]) (L2.Same H H2) (H2 rl=some (.lst ((cG leaf i).map V.str)))) ⟨none,rfl,aj zi _,ac⟩ ?_ ?_
 · rintro i σ H2 hi ⟨c3,rfl,s2,e2⟩;rw [NW] at hi;dsimp only [aE];have MT:=lB (show i<1000 by omega);refine ⟨_,rfl,.inl ⟨rfl,_,SqL.of e2⟩,_,rfl,_,rfl,?_,?_⟩
   · have:(0+(i:Int)).natAbs.log2<=(0+(i:Int)).natAbs:=Nat.log2_le_self _;omega
   rw [Int.zero_add];refine ⟨_,_,rfl,rfl,ai (by show (MW "rule ").length+(aM (i:Nat)).length<=1000000;omega),_,_,rfl,rfl,ai ?_,_,rfl,_,_,rfl,rfl,ai ?_,_,_,rfl,rfl,ai ?_,_,rfl,_,_,rfl,rfl,ai ?_,?_⟩
   · show (MW "rule "++aM (i:Nat)).length+_<=1000000;rw [M4];omega
   · show (MW "rule "++aM (i:Nat)++_).length+_<=1000000;rw [M4,M4];omega
   · show (MW "rule "++aM (i:Nat)++_++_).length+_<=1000000;rw [M4,M4,M4];omega
   · show (MW "rule "++aM (i:Nat)++_++_++_).length+_<=1000000;rw [M4,M4,M4,M4];omega
   have hlen:(cG leaf i).length=i+3:=by unfold cG;rw [MZ,MZ,MZ,MX,OH]
   refine ⟨rl,_,_,rfl,rfl,e2,NL (show _<1000000 by rw [MX,hlen];omega) (ai (M8 _)),⟨_,rfl,aN s2 zi,?_⟩⟩;rw [ac,ni,Nw];rfl
 · rintro σ H2 ⟨c3,rfl,s2,e2⟩;rw [NW] at e2;refine hid fun ZZ kZ=>?_;obtain ⟨r0,r1,r2,rest,hB,hT⟩:=nw hl hm;refine kZ ?_;have hlen:(cG leaf m).length=m+3:=by unfold cG;rw [MZ,MZ,MZ,MX,OH]
   have Aw:=jy (km h8 (show m<=1000 by omega));rw [hlen] at Aw;refine ⟨rfl,_,rfl,da,rl,cG leaf m,rfl,rfl,SqL.of e2,?_,?_⟩
   · rw [hlen,show da.length=1 by decide +kernel];omega
   exact ⟨_,_,_,_,r0,r1,r2,rest,rfl,hB,fj hl,fj hl,hT,fun H' s'=>q H' (s2.trans s')⟩
mutual
theorem v3:∀ {t:Th},t.Rd->∀ c∈t.cP,40<=c
 | .call s k,h,c,hc=>by
   rw [Th.Rd] at h;rw [Th.cP] at hc;rcases Nb.mp hc with rfl | hc
   · omega
   · rcases Nb.mp hc with rfl | hc
     · omega
     · rw [Nc.mp hc];omega
 | .knot n ts,h,c,hc=>by
   rw [Th.Rd] at h;rw [Th.cP] at hc;rcases NF.mp hc with hc | hc
   · have:=h.1.1 c hc;omega
   · by_cases hz:ts=[]
     · rw [if_pos hz] at hc;cases hc
     · rw [if_neg hz] at hc;rcases Nb.mp hc with rfl | hc
       · omega
       · rcases NF.mp hc with hc | hc
         · exact uc h.2.2 c hc
         · rw [Nc.mp hc];omega
theorem uc:∀ {ts:List Th},Rds ts->∀ c∈cPs ts,40<=c
 | [],_,c,hc=>by rw [cPs] at hc;cases hc
 | t::ts,h,c,hc=>by
   rw [Rds] at h;rw [cPs] at hc;rcases NF.mp hc with hc | hc
   · exact v3 h.1 c hc
   · by_cases hz:ts=[]
     · rw [if_pos hz] at hc;cases hc
     · rw [if_neg hz] at hc;rcases Nb.mp hc with rfl | hc
       · omega
       · exact uc h.2 c hc
end
theorem sK {two:Nd} (h:aw two=true):∀ (f n:Nat),(btT two f n).Rd
 | 0,n=>by rw [btT,Th.Rd];decide
 | f+1,n=>by
   rw [btT];by_cases c:n<=1
   · rw [if_pos c,Th.Rd];decide
   · rw [if_neg c,Th.Rd,Rds,Rds,Rds];obtain ⟨h1,h2,h3⟩:=aF h;exact ⟨⟨h1,h3⟩,h2,sK h f _,sK h f _,trivial⟩
theorem sR {two:Nd} (h:aw two=true):∀ (f n:Nat),∀ x∈(btT two f n).stP.map (·.2),SOk x
 | 0,n=>fun x hx=>by rw [btT,Th.stP] at hx;rw [Nc.mp hx];exact ⟨⟨by decide,by decide⟩,by decide,by decide⟩
 | f+1,n=>fun x hx=>by
   rw [btT] at hx;by_cases c:n<=1
   · rw [if_pos c,Th.stP] at hx;rw [Nc.mp hx];exact ⟨⟨by decide,by decide⟩,by decide,by decide⟩
   · rw [if_neg c,Th.stP,if_neg (by simp),eG,if_neg (by simp),eG,if_pos rfl] at hx;simp only [Ni,Nw,OC,Nz] at hx;rcases Nb.mp hx with rfl | hx
     · exact ⟨rfl,h⟩
     rcases Nb.mp hx with rfl | hx
     · exact .inl rfl
     rcases NF.mp hx with hx | hx
     · rcases NF.mp hx with hx | hx
       · exact sR h f _ x hx
       · rcases Nb.mp hx with rfl | hx
         · exact .inr (.inl rfl)
         · exact sR h f _ x hx
     · rw [Nc.mp hx];exact .inr (.inr rfl)
theorem n0 {leaf two:Nd} (xu:leaf≠two):∀ (f n:Nat),fpb [(leaf,0),(two,2)] 1 1 (btT two f n)=true
 | 0,n=>rfl
 | f+1,n=>by
   rw [btT];by_cases c:n<=1
   · rw [if_pos c];rfl
   · rw [if_neg c,kx,okP];have h2:bn [(leaf,(0:Int)),(two,2)] two=2:=by rw [bn,if_neg xu,bn,if_pos rfl]
     rw [h2];show (true && qu _ 1 1 [btT two f (n / 2),btT two f (n - n / 2)])=true;rw [N8,jD,Ni,Ni,OC,n0 xu f,n0 xu f];rfl
def d4 (leaf two z:Nd):List Nd:=[MW "in "++leaf++MW "/0",MW "out "++leaf++MW "/0 "++two++MW "/2",MW "head "++z,MW "rule 0 "++leaf++MW " "++leaf]
theorem mX {leaf two:Nd} {i:Int} (hi:0<=i/\i<=3) (hl:aw leaf=true) (ho:aw two=true) (xu:leaf≠two):aP [(leaf,0),(two,i)]=true:=by
 unfold aP;rw [decide_eq_true (show 1<=[(leaf,(0:Int)),(two,i)].length/\[(leaf,(0:Int)),(two,i)].length<=8 from ⟨(by decide:1<=2),(by decide:2<=8)⟩),N8]
 have h1:[(leaf,(0:Int)),(two,i)].all ba=true:=by
  show (ba (leaf,0) && (ba (two,i) && true))=true;unfold ba;rw [hl,ho];simp only [N8,Bool.and_true];simp;omega
 rw [h1,N8,decide_eq_true (show ([(leaf,(0:Int)),(two,i)].map (·.1)).Nodup from by show [leaf,two].Nodup;simp [xu]),N8];exact decide_eq_true (Nj ..)
theorem ss {leaf two z:Nd} (h8:leaf.length<=8) (zO:two.length<=8) (hz:z.length<=4000):∀ R∈d4 leaf two z,R.length<=5000:=fun R hR=>by
 refine hid fun ZZ kZ=>?_;obtain ⟨a1,a2,a3,a4,a5,a6,a7,a8,a9,_⟩:=gd;refine kZ ?_;unfold d4 at hR;rcases Nb.mp hR with rfl | hR
 · rw [M4,M4];omega
 rcases Nb.mp hR with rfl | hR
 · rw [M4,M4,M4,M4];omega
 rcases Nb.mp hR with rfl | hR
 · rw [M4];omega
 · rw [Nc.mp hR,M4,M4,M4];omega
theorem oN {leaf two z:Nd} (hl:aw leaf=true) (ho:aw two=true) (xu:leaf≠two) {n:Nat} (h1:1<=n) (h2:n<=250) (hz:sL z=(btT two 8 n).cP):∃ r0 r1 r2 rest,lA (OQ da (d4 leaf two z)) [(leaf,0)] [(leaf,0),(two,2)] r0 r1 r2 rest/\Told [(leaf,0)] [(leaf,0),(two,2)] r2 rest (if n<=200 then MW "read" else MW "no book"):=by
 have h8:=(aF hl).2.1;have zO:=(aF ho).2.1;have GR:=sK ho 8 n;have yG:=fz two zO 8 n h1;obtain ⟨b1,b2,b3⟩:=iM two 8 n h1 (by omega);have DG:z.length<=4000:=by rw [<- aT,hz];omega
 have L6:(∀ c∈sL z,40<=c)/\sL z≠[]:=by
  rw [hz];refine ⟨fun c hc=>(v3 GR c hc),fun e=>?_⟩;have:=uy GR;rw [e] at this
  have h3:(btT two 8 n).wP≠[]:=by
   rw [Th.wP];cases hb:btT two 8 n with
   | knot m ts=>rw [Th.stP];simp
   | call s k=>rw [Th.stP];simp
  exact h3 (List.map_eq_nil_iff.mp this.symm)
 have yc:∀ k∈[(leaf,(0:Int))],fK k:=fun k h=>by rw [Nc.mp h];exact ⟨hl,(by decide:(0:Int)<=0),(by decide:(0:Int)<10)⟩
 have GS:∀ k∈[(leaf,(0:Int)),(two,2)],fK k:=fun k h=>by
  rcases Nb.mp h with rfl | h
  · exact ⟨hl,(by decide:(0:Int)<=0),(by decide:(0:Int)<10)⟩
  · rw [Nc.mp h];exact ⟨ho,(by decide:(0:Int)<=2),(by decide:(2:Int)<10)⟩
 have hr:NY RowW [MW "rule 0 "++leaf++MW " "++leaf] ((NU 1).map (stR leaf)):=by
  refine .cons (fB ?_ (bG hl) (bG hl)) .nil;simp only [bK,Nr];rw [show sL (MW " ")=[32] by decide +kernel];rfl
 have IZ:=ik L6;refine ⟨_,_,_,_,gH (gb (by decide +kernel) u7 hl) (gq (by decide +kernel) rg (i:=2) ⟨by decide,by decide⟩ (by decide +kernel) (by decide +kernel) hl ho) IZ hr (ss h8 zO DG) (by show 1<=100;decide) yc GS (by show 1<=8;decide) (by show 2<=8;decide) (by simp) (by simp),?_⟩
 have EY:pw [z]=(btT two 8 n).wP:=by
  unfold pw;show (W4 (sL z)).map ofL=_;rw [hz,uy GR,lT]
 have hh:HeadOf (bE (sL (MW "head "++z))) (btT two 8 n):=by rw [IZ.wl];exact (dh _).mpr (qC.mpr ⟨EY,sR ho 8 n,by omega⟩)
 have hR:aW [(leaf,0)] (Nn 1 [.knot leaf []]) (([MW "rule 0 "++leaf++MW " "++leaf].map sL).map bE):=by rw [fw hr];exact j3 hl (by decide)
 have DY:bn [(leaf,(0:Int)),(two,2)] leaf=0:=by rw [bn,if_pos rfl]
 have xF:gP [(leaf,0)] [(leaf,0),(two,2)] 1 [.knot leaf []]:=⟨rfl,fun j t k hj hk=>by
  match j,hj,hk with
  | 0,hj,hk=>cases hj;exact db DY _ _⟩
 by_cases c:n<=200
 · rw [if_pos c];exact ft (by simp) hh hR ⟨(by show 1<=20;decide),⟨⟨by omega,by omega,by omega⟩,n0 xu 8 n⟩,fun row h=>by rw [Nc.mp h];exact xF⟩
 · rw [if_neg c];refine fF (by simp) hh hR fun h=>c ?_;have:=h.2.1.1.2.2;omega
inductive cJ (K:MY) (vs:List V) (H:Hp) (Q:VK) (_E:XK):Prop
 | mk (leaf two:Nd) (n:Nat) (xB:vs=[.str leaf,.str two,.int (n:Nat)]) (xC:aw leaf=true) (xG:aw two=true) (xT:leaf≠two) (yu:1<=n) (zk:n<=250) (Bf:∀ H',L2.Same H H'->Q (.str (if n<=200 then MW "read" else MW "no book")) H'):cJ K vs H Q _E
def gz (K:MY):Sp:=cJ K
set_option maxHeartbeats 2000000 in
theorem gC:FnOk P w K mg base CX0 10 T.g__law_calls_told.f T.g__law_calls_told.d ["leaf","two","many"] (gz K):=by
 refine T.g__law_calls_told.F.ok de (fun vs H Q E h=>?_) (fun xy A outer s H vs Q E hr h=>?_)
 · obtain ⟨leaf,two,n,rfl,_⟩:=h;rfl
 obtain ⟨leaf,two,n,rfl,hl,ho,xu,h1,h2,q⟩:=h
 refine ⟨_,(ad (av (i:=3) de.nd rfl (NB rfl) (bc (aa (ao ak (ao ak al (pv 0)) al) (aa (ao ak (ao ak (ao ak (ao ak al (pv 0)) al) (pv 1)) al) (aa (ao ak al (pcF T.g__law_calls (fV T 9) hr (aa (pv 1) (aa (pv 2) ae)))) ae)))))
  (af (ay (pcF T.g__law_told (d9 T) hr (aa (bU N7 Qt Qr jv al (aa (ao sP (pv 3) (bc (aa (ao ak (ao ak (ao ak al (pv 0)) al) (pv 0)) ae))) ae)) ae))))),?_⟩
 try dsimp only [xS,xw]
 have h8:=(aF hl).2.1;have zO:=(aF ho).2.1;refine hid fun ZZ kZ=>?_;obtain ⟨a1,a2,a3,a4,a5,a6,a7,a8,a9,_⟩:=gd;refine kZ ?_;have yG:=fz two zO 8 n h1;refine ⟨_,rfl,_,_,rfl,rfl,ai (by omega),_,_,rfl,rfl,ai (by rw [M4];omega),?_⟩;refine ⟨_,rfl,_,_,rfl,rfl,ai (by omega),_,_,rfl,rfl,ai (by rw [M4];omega),_,rfl,_,_,rfl,rfl,ai (by rw [M4,M4];omega),_,_,rfl,rfl,ai (by rw [M4,M4,M4];omega),?_⟩;refine ⟨_,rfl,_,rfl,two,n,rfl,zO,h1,(show n<=256 by omega),by omega,fun z hz=>?_⟩;have hz:sL z=(btT two 8 n).cP:=hz;have DG:z.length<=4000:=by rw [<- aT,hz];omega
 refine ⟨_,_,rfl,rfl,ai (by omega),ai (by show 3<=1000000;decide),fun rl zi=>?_⟩;have s1:L2.Same H (upd H rl (.lst (((d4 leaf two z).take 3).map V.str))):=aj zi _;have e1:(upd H rl (.lst (((d4 leaf two z).take 3).map V.str))) rl=some (.lst (((d4 leaf two z).take 3).map V.str)):=ac;dsimp only [aE];show _;refine ⟨rfl,_,rfl,_,rfl,_,_,rfl,rfl,ai (by omega),_,_,rfl,rfl,ai (by rw [M4];omega),_,rfl,_,_,rfl,rfl,ai (by rw [M4,M4];omega),ai (by show 1<=1000000;decide),fun l2 yd=>?_⟩;have s2:=aj yd (.lst [.str (MW "rule 0 "++leaf++MW " "++leaf)]);refine ⟨rl,l2,_,_,rfl,rfl,s2 _ _ e1,ac,ai (by show 3+1<=1000000;decide),fun l3 zK=>?_⟩;have s3:=aj zK (.lst ((((d4 leaf two z).take 3).map V.str)++[.str (MW "rule 0 "++leaf++MW " "++leaf)]));refine hid fun ZZ kZ=>?_;obtain ⟨r0,r1,r2,rest,hB,hT⟩:=oN hl ho xu h1 h2 hz;refine kZ ?_;have Aw:=jy (ss h8 zO DG);have hlen:(d4 leaf two z).length=4:=rfl;rw [hlen] at Aw;refine ⟨da,l3,d4 leaf two z,rfl,rfl,SqL.of ac,?_,?_⟩
 · rw [hlen,show da.length=1 by decide +kernel];omega
 exact ⟨_,_,_,_,r0,r1,r2,rest,rfl,hB,fj hl,mX ⟨by decide,by decide⟩ hl ho xu,hT,fun H' s'=>q H' ((s1.trans (s2.trans s3)).trans s')⟩
def fD (leaf one pz:Nd) (q:Bool):List Nd:=[MW "in "++leaf++MW "/0 "++one++MW "/1",MW "out "++leaf++MW "/0 "++one++MW "/1",(if q=true then MW "head 0.0" else MW "head "++pz),MW "rule 0 "++leaf++MW " "++leaf,(if q=true then MW "rule 0 "++one++MW " "++pz else MW "rule 0 "++one++MW " 0.0")]
def ff (leaf over a b:Nd) (m k:Nat):Prop:=m<=100/\k=m/\(over=leaf∨(gw a && gw b)=true)
instance (leaf over a b:Nd) (m k:Nat):Decidable (ff leaf over a b m k):=inferInstanceAs (Decidable (_/\_))
def gL (leaf over a b:Nd) (m:Nat):Prop:=19<m∨(over≠leaf/\¬ (a=MW "0"/\b=MW "0"))
instance (leaf over a b:Nd) (m:Nat):Decidable (gL leaf over a b m):=inferInstanceAs (Decidable (_∨_))
def g8 (leaf over a b:Nd) (m k:Nat):Nd:=if ¬ ff leaf over a b m k then MW "no text" else if gL leaf over a b m then MW "no book" else MW "read"
theorem fb {leaf one pz:Nd} (h8:leaf.length<=8) (zO:one.length<=8) (hz:pz.length<=4000) (q:Bool):∀ R∈fD leaf one pz q,R.length<=5000:=fun R hR=>by
 refine hid fun ZZ kZ=>?_;obtain ⟨a1,a2,a3,a4,a5,a6,a7,a8,a9,EE,EF,a12⟩:=gd;refine kZ ?_;unfold fD at hR;rcases Nb.mp hR with rfl | hR
 · rw [M4,M4,M4,M4];omega
 rcases Nb.mp hR with rfl | hR
 · rw [M4,M4,M4,M4];omega
 rcases Nb.mp hR with rfl | hR
 · split
   · omega
   · rw [M4];omega
 rcases Nb.mp hR with rfl | hR
 · rw [M4,M4,M4];omega
 · rw [Nc.mp hR];split
   · rw [M4,M4,M4];omega
   · rw [M4,M4];omega
theorem uB:Figs (MW "0"):=by unfold Figs;decide +kernel
theorem wo:cL (MW "0")=some 0:=by decide +kernel
theorem jw (o oc:List Nat) (m k:Nat):(chC o m oc k).length=(o.length+1) * m+(oc.length+k):=by
 unfold chC;rw [Na,cb,Na,Na,Pm];rfl
theorem uJ {o oc:List Nat} (ho:∀ c∈o,40<=c) (Cb:∀ c∈oc,40<=c) (m k:Nat):∀ c∈chC o m oc k,40<=c:=fun c hc=>by
 unfold chC at hc;rcases NF.mp hc with hc | hc
 · obtain ⟨l,hl,hc⟩:=List.mem_flatten.mp hc;rw [(PN.mp hl).2] at hc;rcases NF.mp hc with hc | hc
   · exact ho c hc
   · rw [Nc.mp hc];decide
 · rcases NF.mp hc with hc | hc
   · exact Cb c hc
   · rw [(PN.mp hc).2];decide
section
variable {leaf one:Nd} (hl:aw leaf=true) (ho:aw one=true) (xu:leaf≠one)
include hl ho xu
theorem eh {h tb:Th}:dG (lo2 leaf one) (lo2 leaf one) h [[.knot leaf [],tb]]↔(dH (lo2 leaf one) 1 1 h/\dH (lo2 leaf one) 1 1 tb):=by
 constructor
 · intro z;exact ⟨z.2.1,(z.2.2 _ (Nc.mpr rfl)).2 1 tb (one,1) rfl rfl⟩
 · rintro ⟨h1,h2⟩;refine ⟨by show 1<=20;decide,h1,fun row hr=>?_⟩;rw [Nc.mp hr];refine ⟨rfl,fun j t k hj hk=>?_⟩
   match j,hj,hk with
   | 0,hj,hk=>cases hj;exact db (mq hl ho xu).1 _ _
   | 1,hj,hk=>cases hj;cases hk;exact h2
theorem sy (t:Th):cB (pw [MW "0.0"]) t↔t=.call 0 0:=by
 have:=m7 (z:=MW "0.0") (m:=0) (k:=0) ho uB uB (by show _=[]++((sL (MW "0")++46::sL (MW "0"))++[]);decide +kernel) wo wo t;rw [this];exact ⟨fun h=>h.2.2,fun h=>⟨by decide,rfl,h⟩⟩
theorem nL:dH (lo2 leaf one) 1 1 (.call 0 0):=by
 refine ⟨⟨by rw [Th.tall];decide,by rw [Th.kn];decide,by rw [cnT];decide⟩,?_⟩;rw [kx,okP];rfl
theorem qa {pz over a b:Nd} {m k:Nat} (ha:WdOk a) (hb:WdOk b) (hz:sL pz=chC (sL one) m (sL over) k) (zT:over=leaf∨(sL over=sL a++46::sL b/\over≠leaf)) (hm:m<=200) (hk:k<=m) (q:Bool):∃ r0 r1 r2 rest,lA (OQ da (fD leaf one pz q)) (lo2 leaf one) (lo2 leaf one) r0 r1 r2 rest/\Told (lo2 leaf one) (lo2 leaf one) r2 rest (g8 leaf over a b m k):=by
 have h8:=(aF hl).2.1;have zO:=(aF ho).2.1
 have Ex:(sL over).length<=20:=by
  rcases zT with rfl | ⟨h,_⟩
  · rw [aT];omega
  · rw [h,Na,MZ,aT,aT];have h1:=ha.1.2.2;have h2:=hb.1.2.2;omega
 have how:(∀ c∈sL over,40<=c)/\sL over≠[]:=by
  rcases zT with rfl | ⟨h,_⟩
  · exact bG hl
  · rw [h];refine ⟨fun c hc=>?_,by simp⟩;rcases NF.mp hc with hc | hc
    · have:=ha.figs.1 c hc;omega
    · rcases Nb.mp hc with rfl | hc
      · decide
      · have:=hb.figs.1 c hc;omega
 have yk:pz.length<=4000:=by
  rw [<- aT,hz,jw,aT];have:=Qm (show one.length+1<=9 by omega) hm;omega
 have EY:(∀ c∈sL pz,40<=c)/\sL pz≠[]:=by
  rw [hz];refine ⟨uJ (bG ho).1 how.1 m k,fun e=>?_⟩;have:=congrArg O6 e;rw [jw] at this;have h3:=OE.mpr how.2;have h4:(0:Nat)=([]:List Nat).length:=rfl;omega
 obtain ⟨p1,p2⟩:=qK hl ho xu ha hb hz zT hm
 have zi:RowW (MW "rule 0 "++leaf++MW " "++leaf) [MW "rule",aM 0,leaf,leaf]:=by
  refine fB ?_ (bG hl) (bG hl);simp only [bK,Nr];rw [show sL (MW " ")=[32] by decide +kernel];rfl
 have h0:=gq (w0:=MW "in ") (n:=MW "/0 ") (t:=MW "/1") (by decide +kernel) u7 (i:=1) ⟨by decide,by decide⟩ (by decide +kernel) (by decide +kernel) hl ho;have h1:=gq (w0:=MW "out ") (n:=MW "/0 ") (t:=MW "/1") (by decide +kernel) rg (i:=1) ⟨by decide,by decide⟩ (by decide +kernel) (by decide +kernel) hl ho;have yc:=wd hl ho xu;have Ja:RuleOf 0 leaf [MW "rule",aM 0,leaf,leaf] (.knot leaf []):=(df ⟨by decide,by decide⟩ _).mpr ((kj hl _).mpr rfl);have FO:(Th.knot leaf []).size<=60000:=by rw [Th.size,aG];decide
 have FP:(Th.call 0 0).size<=60000:=by rw [Th.size];decide
 cases q with
 | false =>
   have GU:RowW (MW "rule 0 "++one++MW " 0.0") [MW "rule",aM 0,one,MW "0.0"]:=by
    refine fB ?_ (bG ho) wf;simp only [bK,Nr];rw [show sL (MW " 0.0")=32::sL (MW "0.0") by decide +kernel]
   have h2:=ik EY;have hr:NY RowW [MW "rule 0 "++leaf++MW " "++leaf,MW "rule 0 "++one++MW " 0.0"] [[MW "rule",aM 0,leaf,leaf],[MW "rule",aM 0,one,MW "0.0"]]:=.cons zi (.cons GU .nil);have B6:RuleOf 0 one [MW "rule",aM 0,one,MW "0.0"] (.call 0 0):=(df ⟨by decide,by decide⟩ _).mpr ((sy hl ho xu _).mpr rfl);have GV:=gH h0 h1 h2 hr (fb h8 zO yk false) (by show 2<=100;decide) yc yc (by show 2<=8;decide) (by show 2<=8;decide) (by simp) (by simp);refine ⟨_,_,_,_,GV,?_⟩;unfold g8;by_cases g:ff leaf over a b m k
   · rw [if_neg (fun z=>z g)];refine hid fun ZZ kZ=>?_;obtain ⟨t,ht,Jb,hok⟩:=p1 g;refine kZ ?_;have hh:HeadOf (bE (sL (MW "head "++pz))) t:=by rw [h2.wl];exact (dh _).mpr ((ht _).mpr rfl)
     have hR:aW (lo2 leaf one) [[.knot leaf [],.call 0 0]] (([MW "rule 0 "++leaf++MW " "++leaf,MW "rule 0 "++one++MW " 0.0"].map sL).map bE):=by rw [fw hr];exact lu Ja B6 FO FP
     by_cases ya:gL leaf over a b m
     · rw [if_pos ya];exact fF (by simp) hh hR fun z=>hok.mp ((eh hl ho xu).mp z).1 ya
     · rw [if_neg ya];exact ft (by simp) hh hR ((eh hl ho xu).mpr ⟨hok.mpr ya,nL hl ho xu⟩)
   · rw [if_pos g];refine .inl ⟨rfl,.inl fun h hh=>p2 g h ?_⟩;rw [h2.wl] at hh;exact (dh _).mp hh
 | true =>
   have GU:RowW (MW "rule 0 "++one++MW " "++pz) [MW "rule",aM 0,one,pz]:=by
    refine fB ?_ (bG ho) EY;simp only [bK,Nr];rw [show sL (MW " ")=[32] by decide +kernel];rfl
   have h2:RowW (MW "head 0.0") [MW "head",MW "0.0"]:=by
    have:=ik wf;rw [show MW "head "++MW "0.0"=MW "head 0.0" by decide +kernel] at this;exact this
   have hr:NY RowW [MW "rule 0 "++leaf++MW " "++leaf,MW "rule 0 "++one++MW " "++pz] [[MW "rule",aM 0,leaf,leaf],[MW "rule",aM 0,one,pz]]:=.cons zi (.cons GU .nil);have hh:HeadOf (bE (sL (MW "head 0.0"))) (.call 0 0):=by rw [h2.wl];exact (dh _).mpr ((sy hl ho xu _).mpr rfl)
   have GV:=gH h0 h1 h2 hr (fb h8 zO yk true) (by show 2<=100;decide) yc yc (by show 2<=8;decide) (by show 2<=8;decide) (by simp) (by simp);refine ⟨_,_,_,_,GV,?_⟩;unfold g8;by_cases g:ff leaf over a b m k
   · rw [if_neg (fun z=>z g)];refine hid fun ZZ kZ=>?_;obtain ⟨t,ht,Jb,hok⟩:=p1 g;refine kZ ?_;have B6:RuleOf 0 one [MW "rule",aM 0,one,pz] t:=(df ⟨by decide,by decide⟩ _).mpr ((ht _).mpr rfl);have hR:aW (lo2 leaf one) [[.knot leaf [],t]] (([MW "rule 0 "++leaf++MW " "++leaf,MW "rule 0 "++one++MW " "++pz].map sL).map bE):=by rw [fw hr];exact lu Ja B6 FO Jb
     by_cases ya:gL leaf over a b m
     · rw [if_pos ya];exact fF (by simp) hh hR fun z=>hok.mp ((eh hl ho xu).mp z).2 ya
     · rw [if_neg ya];exact ft (by simp) hh hR ((eh hl ho xu).mpr ⟨nL hl ho xu,hok.mpr ya⟩)
   · rw [if_pos g];refine .inl ⟨rfl,.inr fun rows hh=>?_⟩;rw [fw hr] at hh;obtain ⟨tb,L7⟩:=kP hh;exact p2 g tb ((df ⟨by decide,by decide⟩ _).mp L7)
end
theorem i4 {b n:Int} (hn:0<=n):aw (nameOf b n)=true:=by
 unfold aw low;have h1:=qg (base:=b) hn;have h2:=oF b n;rw [decide_eq_true (show 1<=(nameOf b n).length/\(nameOf b n).length<=8 by omega),N8,Oa];exact fun c hc=>decide_eq_true (o7 b n c hc)
theorem u4 {z:Nd} {l:List Nat} {c:Nat} (h:sL z=l++[c]):sL (dO z none (some (-1)))=l:=by
 show (jo (sL z) none (some (-1)))=l;have hl:(sL z).length=l.length+1:=by rw [h,Na];rfl
 unfold jo;rw [HT.sIx_none]
 have:HT.sIx (sL z).length (sL z).length (some (-1))=l.length:=by
  unfold HT.sIx;rw [hl];simp
  try omega
 rw [this,OW,h,RQ];simp
theorem sD (o oc:List Nat) (m k:Nat):chC o m oc (k+1)=chC o m oc k++[41]:=by
 unfold chC;rw [List.replicate_succ'];simp only [Nr]
theorem mW:∀ m:Nat,(Nn m [41]).flatten=Nn m 41
 | 0=>rfl
 | m+1=>by rw [NS,NM,mW m,NS];rfl
def r8:List Int:=[18,19,20,21,22,40]
def rM:List Int:=[199,200,201,202,3,1]
theorem sw:∀ z∈r8,0<=z/\z<=100:=by decide
theorem sG:∀ z∈rM,1<=z/\z<=250:=by decide
inductive pA (K:MY) (vs:List V) (H:Hp) (Q:VK) (_E:XK):Prop
 | mk (a:M5) (ns:List Int) (xB:vs=[.ref a]) (xC:SqL K H a (ns.map V.int)) (xG:ns.length<=63) (xT:∀ H',Q (.bl true) H'):pA K vs H Q _E
def mr (K:MY):Sp:=pA K
set_option maxHeartbeats 4000000 in
theorem vt:FnOk P w K mg base CX0 60 T.g_law.f T.g_law.d ["script"] (mr K):=by
 refine T.g_law.F.ok bz (fun vs H Q E h=>?_) (fun xy A outer s H vs Q E hr h=>?_)
 · obtain ⟨a,ns,rfl,_⟩:=h;rfl
 obtain ⟨a,ns,rfl,hS,BN,k⟩:=h
 refine ⟨_,(ad (dD Pg rfl (d2 (pv 0)) (aD (i:=1) bz.nd rfl (NB rfl)) (ad (av (i:=1) bz.nd rfl (NB rfl) (ao bF (pv 1) (ao vB ag ag)))
  (ad (av (i:=2) bz.nd rfl (NB rfl) (pcF T.g__law_name (gM T) hr (aa (ao bd (pv 1) ag) (aa ag ae))))
  (ad (av (i:=3) bz.nd rfl (NB rfl) (pcF T.g__law_name (gM T) hr (aa (ao bd (pv 1) ag) (aa ag ae))))
  (ad (av (i:=4) bz.nd rfl (NB rfl) (aI aJ (bc (aa (ao bF (ao bd (pv 1) ag) ag) (aa (ao bF (ao bd (pv 1) ag) ag) ae))) (ao bF (pv 1) ag) (fun _ _=>rfl)))
  (ad (av (i:=5) bz.nd rfl (NB rfl) (pcF T.g__law_call (lL T) hr (aa (ao bd (pv 1) ag) ae)))
  (ad (av (i:=6) bz.nd rfl (NB rfl) (aI aJ (bc (aa (pv 2) (aa (ao ak (ao ak (aI bX (pv 5) ag (fun _ _=>rfl)) al) (aI bX (pv 5) ag (fun _ _=>rfl))) ae))) (ao bF (ao bd (pv 1) ag) ag) (fun _ _=>rfl)))
  (ad (av (i:=7) bz.nd rfl (NB rfl) (ao ak (ao ak (ao pB (ao ak (pv 3) al) (pv 4)) (pv 6)) (ao pB al (pv 4))))
  (ad (av (i:=8) bz.nd rfl (NB rfl) (ck (bw eN (pv 4) ag (ar _)) (cn (qP (bw di (pv 6) (pv 2) (ar _)) (cn (ck (pcF T.g__law_word_good (dz T) hr (aa (aI bX (pv 5) ag (fun _ _=>rfl)) ae)) (cn (pcF T.g__law_word_good (dz T) hr (aa (aI bX (pv 5) ag (fun _ _=>rfl)) ae)))))))))
  (ad (aQ (PW.pt (jZ (ax di (ao bF (ao bd (pv 1) ag) ag) ag (ar _)) (gO (ax kA (pv 4) ag (ar _))))) (ad (av (i:=7) bz.nd rfl (NB rfl) (bM l0 (pv 7) cK (bL (lC iA ag))))
  (af (av (i:=8) bz.nd rfl (NB rfl) eA))) aC)
  (ad (av (i:=9) bz.nd rfl (NB rfl) (bc (aa (ao ak (ao ak (ao ak (ao ak al (pv 2)) al) (pv 3)) al) (aa (ao ak (ao ak (ao ak (ao ak al (pv 2)) al) (pv 3)) al) (aa al ae)))))
  (ad (av (i:=9) bz.nd rfl (NB rfl) (ao sP (pv 9) (bc (aa (ao ak (ao ak (ao ak al (pv 2)) al) (pv 2)) (aa (ao ak (ao ak al (pv 3)) al) ae)))))
  (ad (av (i:=10) bz.nd rfl (NB rfl) (aI aJ (bc (aa ag (aa ag ae))) (ao bF (ao bd (pv 1) ag) ag) (fun _ _=>rfl)))
  (ad (jY (ao ak (aI aJ (bc (aa al (aa (ao ak (ao ak al (pv 3)) al) ae))) (ao bd (pv 10) ag) (fun _ _=>rfl)) (pv 7)) (sJ (pv 9) (pv 10) set_list))
  (ad (av (i:=11) bz.nd rfl (NB rfl) al)
  (ad (aQ (PW.pt (eX (ax kA (pv 4) ag (ar _)) (ef (PW.pt (jZ (ax cf (pv 6) (pv 2) (ar _)) (gO (ax (u6 (B:=150) (ng hr)) (pv 5) (dB (aa al (aa al ae))) (ar _)))))))) (af (av (i:=11) bz.nd rfl (NB rfl) al)) aC)
  (ad (aQ (b8 (aU (pv 8) (fun _=>rfl))) (af (av (i:=11) bz.nd rfl (NB rfl) al)) aC)
  (ad (aQ (ax cf (pcF T.g__law_told (d9 T) hr (aa (bU N7 Qt Qr jv al (aa (pv 9) ae)) ae)) (pv 11) (ar _)) (af (ay eA)) aC)
  (ad (av (i:=12) bz.nd rfl (NB rfl) (ao bF (ao bd (pv 1) ag) ag))
  (@ad _ _ _ _ _ (@ll _ 4 _ _ _ _ _ _ _ [(18,_,_),(19,_,_),(20,_,_),(21,_,_),(22,_,_),(40,_,_)] bz.nd rfl (NB rfl) (NB rfl) (pv 12) (fun _ _=>rfl))
  (ad (aQ (PW.pt (jZ (ax di (ao bF (ao bd (pv 1) ag) ag) ag (ar _)) (gO (ax cf (pcF T.g__law_states_told (fL T) hr (aa (pv 2) (aa (pv 4) ae))) (aI aJ (bc (aa al (aa al ae))) (bH lH rfl T.n_int Qv (aa (bw kA (pv 4) ag (ar _)) ae)) (fun _ _=>rfl)) (ar _))))) (af (ay eA)) aC)
  (@ad _ _ _ _ _ (@ll _ 4 _ _ _ _ _ _ _ [(199,_,_),(200,_,_),(201,_,_),(202,_,_),(3,_,_),(1,_,_)] bz.nd rfl (NB rfl) (NB rfl) (pv 12) (fun _ _=>rfl))
  (af (aQ (PW.pt (jZ (ax di (ao bF (ao bd (pv 1) ag) ag) ag (ar _)) (gO (ax cf (pcF T.g__law_calls_told (gC T) hr (aa (pv 2) (aa (pv 3) (aa (pv 4) ae)))) (aI aJ (bc (aa al (aa al ae))) (bH lH rfl T.n_int Qv (aa (bw kA (pv 4) ag (ar _)) ae)) (fun _ _=>rfl)) (ar _))))) (af (ay eA)) aC))))))))))))))))))))))))
  (af (ay eA))),?_⟩
 try dsimp only [xS,xw]
 refine ⟨_,rfl,a,rfl,⟨_,hS⟩,?_⟩;refine kl (K:=K) (a:=a) (xs:=ns.map V.int) (fun i σ H2=>wn fun c1 c2 c3 c4 c5 c6 c7 c8 c9 AF zU c12=>An2 (σ=[some (.ref a),c1,c2,c3,c4,c5,c6,c7,c8,c9,AF,zU,c12]) (L2.Same H H2)) ⟨none,none,none,none,none,none,none,none,none,none,none,none,rfl,.refl _⟩ (fun i σ H2 _ ⟨_,_,_,_,_,_,_,_,_,_,_,_,_,s2⟩=>s2.seq hS) ?_ (fun σ H2 _=>k H2);rintro i x σ H2 hx ⟨c1,c2,c3,c4,c5,c6,c7,c8,c9,AF,zU,c12,rfl,s2⟩;rw [Nq] at hx;obtain ⟨n,hn,rfl⟩:=Oj.mp hx;dsimp only [aE];refine aH (fun f' H'=>Ex1 fun (cell:Int)=>An3 (0<=cell) (H2=H') (f'=[some (.ref a),some (.int cell),c2,c3,c4,c5,c6,c7,c8,c9,AF,zU,c12])) (fun kk hk=>?_) ?_
 · exact ⟨_,rfl,_,_,rfl,rfl,⟨by decide,by decide,by decide⟩,_,_,rfl,rfl,(by show (0:Int)<10 ^ 60;decide),hk _ _ ⟨_,Oh _ (by decide),rfl,rfl⟩⟩
 rintro σ MU ⟨cell,Jc,rfl,rfl⟩;clear hx hn;refine ⟨_,rfl,_,_,rfl,rfl,⟨by decide,by decide⟩,_,_,rfl,Int.ediv_nonneg Jc (by decide),by decide,?_⟩;dsimp only [aE];refine ⟨_,rfl,_,_,rfl,rfl,⟨by decide,by decide⟩,_,_,rfl,Int.ediv_nonneg Jc (by decide),by decide,?_⟩;dsimp only [aE];obtain ⟨hl,ho,xu⟩:aw (nameOf (cell / 1000) 0)=true/\aw (nameOf (cell / 1000) 1)=true/\nameOf (cell / 1000) 0≠nameOf (cell / 1000) 1:=⟨i4 (by decide),i4 (by decide),fun e=>absurd (oi (by decide) (by decide) (by decide) (by decide) e) (by decide)⟩;generalize nameOf (cell / 1000) 0=leaf at hl xu ⊢;generalize nameOf (cell / 1000) 1=one at ho xu ⊢;have h8:=(aF hl).2.1;have zO:=(aF ho).2.1;refine hid fun ZZ kZ=>?_;obtain ⟨a1,a2,a3,a4,a5,a6,a7,a8,a9,EE,EF,a12⟩:=gd;refine kZ ?_
 -- many
 refine aH (fun f' H'=>Ex1 fun (m:Nat)=>An3 (m<=130) (L2.Same H2 H') (f'=[some (.ref a),some (.int cell),some (.str leaf),some (.str one),some (.int (m:Nat)),c5,c6,c7,c8,c9,AF,zU,c12])) (fun kk hk=>?_) ?_
 · have m1:=Oh (cell / 72) (show (24:Int)≠0 by decide);have m2:=Om (cell / 72) (show (0:Int)<24 by decide);have m3:=Oh (cell / 72) (show (131:Int)≠0 by decide);have m4:=Om (cell / 72) (show (0:Int)<131 by decide);refine ⟨_,rfl,_,_,rfl,rfl,⟨by decide,by decide⟩,_,_,rfl,rfl,(by show (0:Int)<24;decide),?_⟩;refine ⟨_,rfl,_,_,rfl,rfl,⟨by decide,by decide⟩,_,_,rfl,rfl,(by show (0:Int)<131;decide),ai (by show 2<=1000000;decide),fun l yt=>?_⟩;refine ⟨_,rfl,_,_,rfl,rfl,(by show (0:Int)<2;decide),?_⟩;rcases (by omega:cell%2=0∨cell%2=1) with e | e
   · rw [e];refine ⟨l,_,0,_,rfl,rfl,SqL.of ac,at0,hk _ _ ⟨(cell / 72%24).toNat,by omega,aj yt _,?_⟩⟩;rw [Qa m1];rfl
   · rw [e];refine ⟨l,_,1,_,rfl,rfl,SqL.of ac,at1,hk _ _ ⟨(cell / 72%131).toNat,by omega,aj yt _,?_⟩⟩;rw [Qa m3];rfl
 rintro σ H3 ⟨m,hm,s3,rfl⟩
 -- call
 refine ⟨_,rfl,_,_,rfl,rfl,⟨by decide,by decide⟩,_,rfl,fun wa wb cr H4 s4 BA B1 GW=>?_⟩;dsimp only [aE];have DE:=s3.trans s4;have la:=BA.1.2.2;have lb:=B1.1.2.2;have Ck:(MW ".").length=1:=by decide +kernel
 -- over
 refine aH (fun f' H'=>Ex1 fun (over:Nd)=>An4 ((over=leaf∨(sL over=sL wa++46::sL wb/\over≠leaf))) (over.length<=20) (L2.Same H4 H') (f'=[some (.ref a),some (.int cell),some (.str leaf),some (.str one),some (.int (m:Nat)),some (.ref cr),some (.str over),c7,c8,c9,AF,zU,c12])) (fun kk hk=>?_) ?_
 · refine ⟨_,rfl,_,rfl,cr,_,0,_,rfl,rfl,SqT.of GW,at0,_,_,rfl,rfl,ai (by omega),?_⟩;refine ⟨_,rfl,cr,_,1,_,rfl,rfl,SqT.of GW,at1,_,_,rfl,rfl,ai (by rw [M4];omega),ai (by show 2<=1000000;decide),fun l yt=>?_⟩;refine ⟨_,rfl,_,_,rfl,rfl,⟨by decide,by decide⟩,_,_,rfl,rfl,(by show (0:Int)<2;decide),?_⟩;rcases (by omega:cell / 150%2=0∨cell / 150%2=1) with e | e
   · rw [e];exact ⟨l,_,0,_,rfl,rfl,SqL.of ac,at0,hk _ _ ⟨leaf,.inl rfl,by omega,aj yt _,rfl⟩⟩
   · rw [e]
     have zT:sL (wa++MW "."++wb)=sL wa++46::sL wb:=by
      rw [bK,bK,show sL (MW ".")=[46] by decide +kernel,Nr];rfl
     refine ⟨l,_,1,_,rfl,rfl,SqL.of ac,at1,hk _ _ ⟨wa++MW "."++wb,.inr ⟨zT,fun z=>?_⟩,by rw [M4,M4];omega,aj yt _,rfl⟩⟩;have L8:46∈sL leaf:=by rw [<- z,zT];simp
     have:=(aF hl).1 46 L8;omega
 rintro σ H5 ⟨over,zT,Ex,s5,rfl⟩;have B7:=s5 _ _ GW;have L9:=DE.trans s5;clear Ck;have L4:(MW "(").length=1:=by decide +kernel
 have L5:(MW ")").length=1:=by decide +kernel
 -- pattern
 refine aH (fun f' H'=>Ex1 fun (pz:Nd)=>An3 (sL pz=chC (sL one) m (sL over) m) (H'=H5) (f'=[some (.ref a),some (.int cell),some (.str leaf),some (.str one),some (.int (m:Nat)),some (.ref cr),some (.str over),some (.str pz),c8,c9,AF,zU,c12])) (fun kk hk=>?_) ?_
 · have f1:(⟨(Nn (((m:Nat):Int)).toNat (one++MW "(").cps.toList).flatten.toArray⟩:Nd).length<=2000:=by
    show (Nn (((m:Nat):Int)).toNat (one++MW "(").cps.toList).flatten.toArray.size<=_;rw [M9,cb,NW]
    have hh:(one++MW "(").cps.toList.length<=9:=by
     rw [Nm];show (one++MW "(").length<=9;rw [M4];omega
    have:=Qm hh hm;omega
   have f2:(⟨(Nn (((m:Nat):Int)).toNat (MW ")").cps.toList).flatten.toArray⟩:Nd).length<=2000:=by
    show (Nn (((m:Nat):Int)).toNat (MW ")").cps.toList).flatten.toArray.size<=_;rw [M9,cb,NW];have hh:(MW ")").cps.toList.length<=9:=by decide +kernel
    have:=Qm hh hm;omega
   refine ⟨_,rfl,_,_,rfl,rfl,ai (by omega),_,rfl,_,_,rfl,rfl,by rw [M4];omega,by rw [M4];omega,by omega,by omega,?_⟩;refine ⟨_,rfl,_,_,rfl,rfl,ai (by omega),_,rfl,_,_,rfl,rfl,by omega,by omega,by omega,by omega,?_⟩;refine ⟨_,_,rfl,rfl,ai (by rw [M4];omega),hk _ _ ⟨_,?_,rfl,rfl⟩⟩;rw [bK,bK];unfold chC;rw [Nr]
   have g1:sL (⟨(Nn (((m:Nat):Int)).toNat (one++MW "(").cps.toList).flatten.toArray⟩:Nd)=(Nn m (sL one++[40])).flatten:=by
    show (Nn (((m:Nat):Int)).toNat (sL (one++MW "("))).flatten=_;rw [NW,bK,show sL (MW "(")=[40] by decide +kernel]
   have g2:sL (⟨(Nn (((m:Nat):Int)).toNat (MW ")").cps.toList).flatten.toArray⟩:Nd)=Nn m 41:=by
    show (Nn (((m:Nat):Int)).toNat (sL (MW ")"))).flatten=_;rw [NW,show sL (MW ")")=[41] by decide +kernel,mW]
   rw [g1,g2]
 rintro σ EZ ⟨pz,BC,rfl,rfl⟩
 -- good
 refine aH (fun f' H'=>Ex1 fun (g:Bool)=>An3 ((g=true↔ff leaf over wa wb m m)) (H'=EZ) (f'=[some (.ref a),some (.int cell),some (.str leaf),some (.str one),some (.int (m:Nat)),some (.ref cr),some (.str over),some (.str pz),some (.bl g),c9,AF,zU,c12])) (fun kk hk=>?_) ?_
 · refine ⟨_,rfl,_,_,rfl,rfl,_,rfl,?_⟩;by_cases c:m<=100
   case neg =>
    rw [decide_eq_false (show ¬ ((m:Nat):Int)<=100 by omega)];exact aS (hk _ _ ⟨false,⟨fun z=>(by cases z),fun z=>absurd z.1 c⟩,rfl,rfl⟩)
   rw [decide_eq_true (show ((m:Nat):Int)<=100 by omega)];refine aZ ⟨_,rfl,_,rfl,rfl,_,rfl,?_⟩;by_cases c2:over=leaf
   · rw [decide_eq_true (show V.str over=V.str leaf by rw [c2])];exact aZ (hk _ _ ⟨true,⟨fun _=>⟨c,rfl,.inl c2⟩,fun _=>rfl⟩,rfl,rfl⟩)
   rw [decide_eq_false (show ¬ V.str over=V.str leaf from fun z=>c2 (V.str.inj z))];refine aS ⟨_,rfl,cr,_,0,_,rfl,rfl,SqT.of B7,at0,wa,rfl,BA.1.2.1,by omega,_,rfl,?_⟩;cases GX:gw wa with
   | false=>exact aS (hk _ _ ⟨false,⟨fun z=>(by cases z),fun z=>(by rcases z.2.2 with z | z;exact absurd z c2;rw [GX] at z;cases z)⟩,rfl,rfl⟩)
   | true =>
     refine aZ ⟨_,rfl,cr,_,1,_,rfl,rfl,SqT.of B7,at1,wb,rfl,B1.1.2.1,by omega,hk _ _ ⟨gw wb,⟨fun z=>⟨c,rfl,.inr (by rw [GX,z];rfl)⟩,fun z=>?_⟩,rfl,rfl⟩⟩;rcases z.2.2 with z | z
     · exact absurd z c2
     · rw [GX,N8] at z;exact z
 rintro σ H5 ⟨g,hg,rfl,rfl⟩
 -- zP cut
 refine aH (fun f' H'=>Ex3 fun (pz:Nd) (kc:Nat) (g:Bool)=>An5 (kc<=m) (sL pz=chC (sL one) m (sL over) kc) ((g=true↔ff leaf over wa wb m kc)) (H'=H5) (f'=[some (.ref a),some (.int cell),some (.str leaf),some (.str one),some (.int (m:Nat)),some (.ref cr),some (.str over),some (.str pz),some (.bl g),c9,AF,zU,c12])) (fun kk hk=>?_) ?_
 · have keep:=hk _ _ ⟨pz,m,g,M8 _,BC,hg,rfl,rfl⟩;refine ⟨_,rfl,_,_,rfl,rfl,⟨by decide,by decide⟩,_,_,rfl,rfl,(by show (0:Int)<5;decide),rfl,_,rfl,?_⟩;refine cA (fun _=>?_) (fun _=>aS keep);refine ⟨_,rfl,_,_,rfl,rfl,_,rfl,?_⟩;by_cases c:0<m
   case neg =>
    rw [decide_eq_false (show ¬ (0:Int)<((m:Nat):Int) by omega)];exact aS keep
   rw [decide_eq_true (show (0:Int)<((m:Nat):Int) by omega)];refine aZ ?_;obtain ⟨m',rfl⟩:∃ m',m=m'+1:=⟨m - 1,by omega⟩
   have yk:pz.length<=4000:=by
    rw [<- aT,BC,jw,aT,aT];have:=Qm (show one.length+1<=9 by omega) hm;omega
   rw [sD] at BC;refine ⟨_,rfl,_,rfl,_,rfl,_,rfl,ai (by omega),?_⟩;dsimp only [aE];exact hk _ _ ⟨_,m',false,by omega,u4 BC,⟨fun z=>(by cases z),fun z=>(by have:=z.2.1;omega)⟩,rfl,rfl⟩
 clear BC hg;rintro σ EZ ⟨pz,kc,g,L',BC,hg,rfl,rfl⟩
 have yk:pz.length<=4000:=by
  rw [<- aT,BC,jw,aT,aT];have:=Qm (show one.length+1<=9 by omega) hm;omega
 -- rows
 refine aH (fun f' H'=>Ex1 fun (rl:M5)=>An4 (L2.Same EZ H') (EZ rl=none) (H' rl=some (.lst [.str (MW "in "++leaf++MW "/0 "++one++MW "/1"),.str (MW "out "++leaf++MW "/0 "++one++MW "/1"),.str (MW "head 0.0")])) (f'=[some (.ref a),some (.int cell),some (.str leaf),some (.str one),some (.int (m:Nat)),some (.ref cr),some (.str over),some (.str pz),some (.bl g),some (.ref rl),AF,zU,c12])) (fun kk hk=>?_) ?_
 · refine ⟨_,rfl,_,_,rfl,rfl,ai (by omega),_,_,rfl,rfl,ai (by rw [M4];omega),_,rfl,_,_,rfl,rfl,ai (by rw [M4,M4];omega),_,_,rfl,rfl,ai (by rw [M4,M4,M4];omega),?_⟩;refine ⟨_,rfl,_,_,rfl,rfl,ai (by omega),_,_,rfl,rfl,ai (by rw [M4];omega),_,rfl,_,_,rfl,rfl,ai (by rw [M4,M4];omega),_,_,rfl,rfl,ai (by rw [M4,M4,M4];omega),?_⟩;exact ⟨ai (by show 3<=1000000;decide),fun rl zi=>hk _ _ ⟨rl,aj zi _,zi,ac,rfl⟩⟩
 rintro σ H6 ⟨rl,s6,_,B8,rfl⟩;refine aH (fun f' H'=>Ex1 fun (rl:M5)=>An4 (L2.Same H6 H') (H6 rl=none) (H' rl=some (.lst [.str (MW "in "++leaf++MW "/0 "++one++MW "/1"),.str (MW "out "++leaf++MW "/0 "++one++MW "/1"),.str (MW "head 0.0"),.str (MW "rule 0 "++leaf++MW " "++leaf),.str (MW "rule 0 "++one++MW " 0.0")])) (f'=[some (.ref a),some (.int cell),some (.str leaf),some (.str one),some (.int (m:Nat)),some (.ref cr),some (.str over),some (.str pz),some (.bl g),some (.ref rl),AF,zU,c12])) (fun kk hk=>?_) ?_
 · refine ⟨_,rfl,_,rfl,_,_,rfl,rfl,ai (by omega),_,_,rfl,rfl,ai (by rw [M4];omega),_,rfl,_,_,rfl,rfl,ai (by rw [M4,M4];omega),?_⟩;refine ⟨_,rfl,_,_,rfl,rfl,ai (by omega),_,_,rfl,rfl,ai (by rw [M4];omega),?_⟩;refine ⟨ai (by show 2<=1000000;decide),fun l2 yd=>?_⟩;refine ⟨rl,l2,_,_,rfl,rfl,(aj yd _) _ _ B8,ac,ai (by show 5<=1000000;decide),fun l3 zK=>?_⟩;exact hk _ _ ⟨l3,(aj yd _).trans (aj zK _),(aj yd _).free zK,ac,rfl⟩
 clear B8;rintro σ H7 ⟨rl,s7,GY,B8,rfl⟩;have Ma:=s6.trans s7
 -- at,rows[at]
 refine aH (fun f' H'=>Ex1 fun (q:Bool)=>An2 (L2.Same H7 H') (f'=[some (.ref a),some (.int cell),some (.str leaf),some (.str one),some (.int (m:Nat)),some (.ref cr),some (.str over),some (.str pz),some (.bl g),some (.ref rl),some (.int (if q=true then 4 else 2)),zU,c12])) (fun kk hk=>?_) ?_
 · refine ⟨ai (by show 2<=1000000;decide),fun l yt=>?_⟩;refine ⟨_,rfl,_,_,rfl,rfl,⟨by decide,by decide⟩,_,_,rfl,rfl,(by show (0:Int)<2;decide),?_⟩;rcases (by omega:cell / 1500%2=0∨cell / 1500%2=1) with e | e
   · rw [e];exact ⟨l,_,0,_,rfl,rfl,SqL.of ac,at0,hk _ _ ⟨false,aj yt _,rfl⟩⟩
   · rw [e];exact ⟨l,_,1,_,rfl,rfl,SqL.of ac,at1,hk _ _ ⟨true,aj yt _,rfl⟩⟩
 rintro σ H8 ⟨q,s8,rfl⟩;have Bs:=s7.trans s8;have DZ:H6 rl=none:=GY;refine aH (fun f' H'=>An3 (L2.Same H6 H') (H' rl=some (.lst ((fD leaf one pz q).map V.str))) (f'=[some (.ref a),some (.int cell),some (.str leaf),some (.str one),some (.int (m:Nat)),some (.ref cr),some (.str over),some (.str pz),some (.bl g),some (.ref rl),some (.int (if q=true then 4 else 2)),zU,c12])) (fun kk hk=>?_) ?_
 · refine ⟨_,rfl,_,_,rfl,rfl,ai (by omega),_,_,rfl,rfl,ai (by rw [M4];omega),ai (by show 2<=1000000;decide),fun l yt=>?_⟩;have sl:=aj yt (.lst [.str (MW "head "),.str (MW "rule 0 "++one++MW " ")]);have D0:=sl _ _ (s8 _ _ B8);refine ⟨_,rfl,_,_,rfl,rfl,⟨by decide,by decide⟩,?_⟩;cases q with
   | false =>
     refine ⟨l,_,0,_,rfl,rfl,SqL.of ac,at0,_,rfl,_,_,rfl,rfl,ai (by omega),?_⟩;refine ⟨_,rfl,_,rfl,rl,_,2,2,rfl,rfl,D0,rfl,hk _ _ ⟨aN (Bs.trans sl) DZ,ac,rfl⟩⟩
   | true =>
     refine ⟨l,_,1,_,rfl,rfl,SqL.of ac,at1,_,rfl,_,_,rfl,rfl,ai (by rw [M4,M4];omega),?_⟩;refine ⟨_,rfl,_,rfl,rl,_,4,4,rfl,rfl,D0,rfl,hk _ _ ⟨aN (Bs.trans sl) DZ,ac,rfl⟩⟩
 clear B8 s8 Bs Ma s7;rintro σ H9 ⟨Mb,B8,rfl⟩;have Jd:=s6.trans Mb;have GZ:=Jd _ _ B7;have Mc:=L9.trans Jd
 -- due
 refine aH (fun f' H'=>An2 (H'=H9) (f'=[some (.ref a),some (.int cell),some (.str leaf),some (.str one),some (.int (m:Nat)),some (.ref cr),some (.str over),some (.str pz),some (.bl g),some (.ref rl),some (.int (if q=true then 4 else 2)),some (.str (MW "read")),c12])) (fun kk hk=>hk _ _ ⟨rfl,rfl⟩) ?_;rintro σ Md ⟨rfl,rfl⟩;refine aH (fun f' H'=>An2 (L2.Same Md H') (f'=[some (.ref a),some (.int cell),some (.str leaf),some (.str one),some (.int (m:Nat)),some (.ref cr),some (.str over),some (.str pz),some (.bl g),some (.ref rl),some (.int (if q=true then 4 else 2)),some (.str (if gL leaf over wa wb m then MW "no book" else MW "read")),c12])) (fun kk hk=>?_) ?_
 · refine ⟨_,rfl,_,_,rfl,rfl,_,rfl,?_⟩;by_cases c:19<m
   · rw [decide_eq_true (show (19:Int)<((m:Nat):Int) by omega)];refine aZ (aZ (hk _ _ ⟨.refl _,?_⟩));rw [if_pos (show gL leaf over wa wb m from .inl c)];rfl
   rw [decide_eq_false (show ¬ (19:Int)<((m:Nat):Int) by omega)];refine aS ⟨_,rfl,_,rfl,rfl,_,rfl,?_⟩;by_cases c2:over=leaf
   · rw [decide_eq_true (show V.str over=V.str leaf by rw [c2])];refine aS (aS (hk _ _ ⟨.refl _,?_⟩));rw [if_neg (show ¬ gL leaf over wa wb m from fun z=>by rcases z with z | z;exact c z;exact z.1 c2)]
   rw [decide_eq_false (show ¬ V.str over=V.str leaf from fun z=>c2 (V.str.inj z))];refine aZ ⟨_,rfl,ai (by show 2<=1000000;decide),fun p hp=>?_⟩;refine ⟨cr,p,_,_,[.str wa,.str wb],[.str (MW "0"),.str (MW "0")],rfl,rfl,SqT.of ((aj hp _) _ _ GZ),SqT.of ac,.cons (by rw [DAt]) (.cons (by rw [DAt]) .nil),.cons (by rw [DAt]) (.cons (by rw [DAt]) .nil),by rw [dQ,dQ,dQ,Dv.deep,Dv.deep];decide,fun bb zd=>⟨_,rfl,?_⟩⟩;cases bb with
   | true =>
     refine aZ (hk _ _ ⟨aj hp _,?_⟩);have hz:=zd.mp rfl;rw [if_pos (show gL leaf over wa wb m from .inr ⟨c2,fun z=>hz (by rw [z.1,z.2])⟩)];rfl
   | false =>
     refine aS (hk _ _ ⟨aj hp _,?_⟩)
     have hz:wa=MW "0"/\wb=MW "0":=by
      by_cases hd:([.str wa,.str wb]:List Dv)=[.str (MW "0"),.str (MW "0")]
      · simp only [List.cons.injEq,Dv.str.injEq,and_true] at hd;exact hd
      · exact absurd (zd.mpr hd) (by decide)
     rw [if_neg (show ¬ gL leaf over wa wb m from fun z=>by rcases z with z | z;exact c z;exact z.2 hz)]
 rintro σ Fq ⟨Es,rfl⟩;refine aH (fun f' H'=>An2 (H'=Fq) (f'=[some (.ref a),some (.int cell),some (.str leaf),some (.str one),some (.int (m:Nat)),some (.ref cr),some (.str over),some (.str pz),some (.bl g),some (.ref rl),some (.int (if q=true then 4 else 2)),some (.str (g8 leaf over wa wb m kc)),c12])) (fun kk hk=>?_) ?_
 · refine ⟨_,rfl,g,rfl,?_⟩;unfold g8 at hk;cases g with
   | false =>
     have Me:¬ ff leaf over wa wb m kc:=fun z=>by have:=hg.mpr z;cases this
     refine aZ (hk _ _ ⟨rfl,?_⟩);rw [if_pos Me];rfl
   | true =>
     refine aS (hk _ _ ⟨rfl,?_⟩);rw [if_neg (show ¬ ¬ ff leaf over wa wb m kc from fun z=>z (hg.mp rfl))]
 rintro σ G0 ⟨rfl,rfl⟩;have D4:=Es _ _ B8
 -- CF is told
 refine aH (fun f' H'=>An2 (L2.Same G0 H') (f'=[some (.ref a),some (.int cell),some (.str leaf),some (.str one),some (.int (m:Nat)),some (.ref cr),some (.str over),some (.str pz),some (.bl g),some (.ref rl),some (.int (if q=true then 4 else 2)),some (.str (g8 leaf over wa wb m kc)),c12])) (fun kk hk=>?_) ?_
 · refine hid fun ZZ kZ=>?_;obtain ⟨r0,r1,r2,rest,hB,hT⟩:=qa hl ho xu BA B1 BC zT (by omega) L' q;refine kZ ?_;have Aw:=jy (fb h8 zO yk q);have hlen:(fD leaf one pz q).length=5:=rfl;rw [hlen] at Aw;refine ⟨rfl,_,rfl,da,rl,fD leaf one pz q,rfl,rfl,SqL.of D4,?_,?_⟩
   · rw [hlen,show da.length=1 by decide +kernel];omega
   refine ⟨_,_,_,_,r0,r1,r2,rest,rfl,hB,uf hl ho xu,uf hl ho xu,hT,fun Ft Et=>⟨_,rfl,rfl,_,rfl,?_⟩⟩;rw [decide_eq_true rfl];exact aS (hk _ _ ⟨Et,rfl⟩)
 rintro σ Ft ⟨Et,rfl⟩;have Mf:=Mc.trans (Es.trans Et);refine ⟨_,rfl,_,_,rfl,rfl,⟨by decide,by decide⟩,_,_,rfl,rfl,(by show (0:Int)<6;decide),?_⟩;dsimp only [aE];have w0:=Oh (cell / 3000) (show (6:Int)≠0 by decide);have w1:=Om (cell / 3000) (show (0:Int)<6 by decide)
 -- many states
 refine aH (fun f' H'=>Ex1 fun (mm:Nat)=>An3 (mm<=100) (L2.Same Ft H') (f'=[some (.ref a),some (.int cell),some (.str leaf),some (.str one),some (.int (mm:Nat)),some (.ref cr),some (.str over),some (.str pz),some (.bl g),some (.ref rl),some (.int (if q=true then 4 else 2)),some (.str (g8 leaf over wa wb m kc)),some (.int (cell / 3000%6))])) (fun kk hk=>?_) ?_
 · refine ja (zs:=r8) (by decide) fun D Je zr eD=>?_;obtain ⟨mm,E1⟩:∃ z,r8[(cell / 3000%6).toNat]?=some z:=⟨_,M3 (by show (cell / 3000%6).toNat<6;omega)⟩;have Jf:=sw mm (Nu E1);refine ⟨_,rfl,D,_,_,.int mm,rfl,rfl,SqL.of eD,at_nonneg w0 (by rw [Nq,E1];rfl),hk _ _ ⟨mm.toNat,by omega,zr,?_⟩⟩;rw [Qa Jf.1];rfl
 rintro σ Je ⟨mm,E1,zr,rfl⟩;refine aH (fun f' H'=>An2 (L2.Same Je H') (f'=[some (.ref a),some (.int cell),some (.str leaf),some (.str one),some (.int (mm:Nat)),some (.ref cr),some (.str over),some (.str pz),some (.bl g),some (.ref rl),some (.int (if q=true then 4 else 2)),some (.str (g8 leaf over wa wb m kc)),some (.int (cell / 3000%6))])) (fun kk hk=>?_) ?_
 · refine ⟨_,rfl,_,_,rfl,rfl,⟨by decide,by decide⟩,_,_,rfl,rfl,(by show (0:Int)<5;decide),rfl,_,rfl,?_⟩;refine cA (fun _=>?_) (fun _=>aS (hk _ _ ⟨.refl _,rfl⟩));refine ⟨_,rfl,_,rfl,leaf,mm,rfl,hl,E1,fun Jg yR=>⟨ai (by show 2<=1000000;decide),fun l yt=>⟨_,rfl,_,_,rfl,rfl,.inr ⟨_,rfl,?_⟩⟩⟩⟩;have CA:=yR.trans (aj yt (.lst [.str (MW "read"),.str (MW "no book")]));by_cases c:mm<=20
   · rw [if_pos c,decide_eq_false (show ¬ (20:Int)<((mm:Nat):Int) by omega)];refine ⟨l,_,0,_,rfl,rfl,SqL.of ac,at0,rfl,_,rfl,?_⟩;rw [decide_eq_true rfl];exact aS (hk _ _ ⟨CA,rfl⟩)
   · rw [if_neg c,decide_eq_true (show (20:Int)<((mm:Nat):Int) by omega)];refine ⟨l,_,1,_,rfl,rfl,SqL.of ac,at1,rfl,_,rfl,?_⟩;rw [decide_eq_true rfl];exact aS (hk _ _ ⟨CA,rfl⟩)
 rintro σ Jg ⟨yR,rfl⟩
 -- many calls
 refine aH (fun f' H'=>Ex1 fun (mm:Nat)=>An4 (1<=mm) (mm<=250) (L2.Same Jg H') (f'=[some (.ref a),some (.int cell),some (.str leaf),some (.str one),some (.int (mm:Nat)),some (.ref cr),some (.str over),some (.str pz),some (.bl g),some (.ref rl),some (.int (if q=true then 4 else 2)),some (.str (g8 leaf over wa wb m kc)),some (.int (cell / 3000%6))])) (fun kk hk=>?_) ?_
 · refine ja (zs:=rM) (by decide) fun D Mg CA eD=>?_;obtain ⟨m2,AS⟩:∃ z,rM[(cell / 3000%6).toNat]?=some z:=⟨_,M3 (by show (cell / 3000%6).toNat<6;omega)⟩;have Jf:=sG m2 (Nu AS);refine ⟨_,rfl,D,_,_,.int m2,rfl,rfl,SqL.of eD,at_nonneg w0 (by rw [Nq,AS];rfl),hk _ _ ⟨m2.toNat,by omega,by omega,CA,?_⟩⟩;rw [Qa (by omega)];rfl
 rintro σ Mg ⟨m2,G1,G2,CA,rfl⟩;have G3:=Mf.trans (zr.trans (yR.trans CA));refine ⟨_,rfl,_,_,rfl,rfl,⟨by decide,by decide⟩,_,_,rfl,rfl,(by show (0:Int)<5;decide),rfl,_,rfl,?_⟩;refine cA (fun _=>?_) (fun _=>aS ⟨_,_,_,_,_,_,_,_,_,_,_,_,rfl,s2.trans G3⟩);refine ⟨_,rfl,_,rfl,_,rfl,leaf,one,m2,rfl,hl,ho,xu,G1,G2,fun MV Mh=>⟨ai (by show 2<=1000000;decide),fun l yt=>⟨_,rfl,_,_,rfl,rfl,.inr ⟨_,rfl,?_⟩⟩⟩⟩;have Jh:=Mh.trans (aj yt (.lst [.str (MW "read"),.str (MW "no book")]));by_cases c:m2<=200
 · rw [if_pos c,decide_eq_false (show ¬ (200:Int)<((m2:Nat):Int) by omega)];refine ⟨l,_,0,_,rfl,rfl,SqL.of ac,at0,rfl,_,rfl,?_⟩;rw [decide_eq_true rfl];exact aS ⟨_,_,_,_,_,_,_,_,_,_,_,_,rfl,s2.trans (G3.trans Jh)⟩
 · rw [if_neg c,decide_eq_true (show (200:Int)<((m2:Nat):Int) by omega)];refine ⟨l,_,1,_,rfl,rfl,SqL.of ac,at1,rfl,_,rfl,?_⟩;rw [decide_eq_true rfl];exact aS ⟨_,_,_,_,_,_,_,_,_,_,_,_,rfl,s2.trans (G3.trans Jh)⟩
end
set_option maxHeartbeats 8000000 in
theorem all_mk {l:PySem.W.OpenLaw} {w:NP} {K:MY} {h:Oo} {mg:Nd->Option M1} {fa:M5} (X:K.In h) (G:h.Ns NA mg) (Mi:mg "law"=some (.ref fa))
 {xn:M5} {D5:M5} {G4 G5:Option M5} {G6:Array (Option M1)} {G7 G8 G9 G' D6 Ha:M1} {D7:M5} {Hb Hc:Option M5} {Hd:Array (Option M1)} {He Hf Hg Hh D8 Hi:M1} {D9:M5} {Hj D':Option M5} {Hk:Array (Option M1)} {Hl Ea Eb Ec B9 Ed:M1} {Ji:Tok} {Jj:Tok} {Jk:Tok} {Jl:Tok} {Jm:Tok} {Jn:Tok} {Jo:Tok} {Jp:Tok} {Jq:Tok} {Jr:Tok} {yj:M5} {xq:M5} {xo:M5} {xp:M5}
 (g_is_number:FX K mg "is_number" eT ["thing"])
 (g_is_below:FX K mg "is_below" f7 ["number","bound"])
 (g_is_name:FX K mg "is_name" iI ["thing"])
 (g_is_kind:FX K mg "is_kind" iK ["pair"])
 (g_are_kinds:FX K mg "are_kinds" e7 ["kinds"])
 (g_kinds_of:FX K mg "kinds_of" gf ["pairs"])
 (g_many_of:FX K mg "many_of" iz ["kinds","name"])
 (g_kids_of:FX K mg "kids_of" iC ["thing"])
 (g_walked:FX K mg "walked" kz ["thing"])
 (g_built:FX K mg "built" mn ["tops"])
 (g_is_call:FX K mg "is_call" iJ ["thing"])
 (g_fits_pattern:FX K mg "fits_pattern" cZ ["kinds","pattern","states","kids"])
 (g_is_small:FX K mg "is_small" gv ["pattern"])
 (g_check_pattern:FX K mg "check_pattern" cH ["outs","pattern","states","kids"])
 (g_check_state:FX K mg "check_state" dF ["ins","outs","patterns","states"])
 (g_made_book:FX K mg "made_book" eH ["ins","outs","head","rules"])
 (g_words_of:FX K mg "words_of" gh ["text"])
 (g_read_number:FX K mg "read_number" dC ["word"])
 (g_read_call:FX K mg "read_call" eI ["words"])
 (g_steps_of:FX K mg "steps_of" gn ["words"])
 (g_follows:FX K mg "follows" iT ["before","step","depth"])
 (g_tops_of:FX K mg "tops_of" iE ["steps"])
 (g_read_pattern:FX K mg "read_pattern" cY ["words"])
 (g_read_kind:FX K mg "read_kind" fm ["word"])
 (g_read_kinds:FX K mg "read_kinds" ee ["first","words"])
 (g_read_head:FX K mg "read_head" e9 ["words"])
 (g_read_rule:FX K mg "read_rule" eM ["state","name","words"])
 (g_read_rules:FX K mg "read_rules" d6 ["ins","rows"])
 (g_words_in:FX K mg "words_in" gc ["row"])
 (g_read_book:FX K mg "read_book" fe ["text"])
 (g__law_name:FX K mg "_law_name" fq ["base","n"])
 (g__law_told:FX K mg "_law_told" fk ["text"])
 (g__law_call:FX K mg "_law_call" eJ ["cell"])
 (g__law_states_told:FX K mg "_law_states_told" bY ["leaf","many"])
 (g__law_calls:FX K mg "_law_calls" dZ ["two","many"])
 (g__law_calls_told:FX K mg "_law_calls_told" ce ["leaf","two","many"])
 (g__law_word_good:FX K mg "_law_word_good" cg ["word"])
 (on_Measure:NN K NA "Measure"=some (some (.ref xn)))
 (pg_Measure:Qx K xn Str.empty=true)
 (hd_Measure:QV K xn=true)
 (po_Measure:RO K xn=true)
 (sa_Measure:ND K (.ref xn) "__setattr__"=some (some (.builtin "object.__setattr__")))
 (mk_Measure:PySem.W.makesIn K xn=true)
 (kc_Measure:O5 K (.ref xn)=true)
 (na_Measure_met_knots:ND K (.ref xn) "met_knots"=some none)
 (na_Measure_met_calls:ND K (.ref xn) "met_calls"=some none)
 (a12:ND K (.ref xn) "__init__"=some (some (.ref D5))) (i12:Q5 K (.ref D5)=true) (l12:K.lookup D5=some ⟨G7,G4,.func (Px "__init__" "Measure.__init__" (bA bC) (bj bC) (am bC) .none G8 G9 G' G5 D6 Ha),G6⟩) (c12:Ql K D6 "Measure.__init__"=true) (k12:O5 K (.ref D5)=true)
 (a13:ND K (.ref xn) "takes"=some (some (.ref D7))) (i13:Q5 K (.ref D7)=true) (l13:K.lookup D7=some ⟨He,Hb,.func (Px "takes" "Measure.takes" (bA bo) (bj bo) (am bo) .none Hf Hg Hh Hc D8 Hi),Hd⟩) (c13:Ql K D8 "Measure.takes"=true) (k13:O5 K (.ref D7)=true)
 (a39:NN K NA "law"=some (some (.ref D9))) (l39:K.lookup D9=some ⟨Hl,Hj,.func (Px "law" "law" (bA hX) (bj hX) (am hX) .none Ea Eb Ec D' B9 Ed),Hk⟩) (c39:Ql K B9 "law"=true) (k39:O5 K (.ref D9)=true)
 (z0:NN K NA "all"=some none)
 (z1:NN K NA "bool"=some none)
 (z2:NN K NA "divmod"=some none)
 (z3:NN K NA "enumerate"=some none)
 (z4:NN K NA "int"=some none)
 (z5:NN K NA "isinstance"=some none)
 (z6:NN K NA "len"=some none)
 (z7:NN K NA "range"=some none)
 (z8:NN K NA "reversed"=some none)
 (z9:NN K NA "set"=some none)
 (z10:NN K NA "str"=some none)
 (z11:NN K NA "tuple"=some none)
 (z12:NN K NA "zip"=some none)
 (y0:NN K NA "CALL_SIGN"=some (some (.str (MW "?") Ji)))
 (y1:NN K NA "MOST_LETTERS"=some (some (.int (8) Jj)))
 (y2:NN K NA "MOST_KINDS"=some (some (.int (8) Jk)))
 (y3:NN K NA "MOST_KIDS"=some (some (.int (3) Jl)))
 (y4:NN K NA "MOST_STATES"=some (some (.int (20) Jm)))
 (y5:NN K NA "MOST_ROWS"=some (some (.int (20) Jn)))
 (y6:NN K NA "MOST_KNOTS"=some (some (.int (400) Jo)))
 (y7:NN K NA "MOST_CALLS"=some (some (.int (200) Jp)))
 (y8:NN K NA "MOST_FIGURES"=some (some (.int (3) Jq)))
 (y9:NN K NA "MOST_BRACKETS"=some (some (.int (100) Jr)))
 (xn_BookError:NN K NA "BookError"=some (some (.ref yj)))
 (xn_NoKinds:NN K NA "NoKinds"=some (some (.ref xq)))
 (xn_NoBook:NN K NA "NoBook"=some (some (.ref xo)))
 (xn_NoText:NN K NA "NoText"=some (some (.ref xp)))
 (xe_NoKinds:QD K xq [.type "ValueError",.type "Exception",.type "BaseException",.type "object"] "ValueError.__new__"=true)
 (xg_NoKinds:ND K (.ref xq) "__getattribute__"=some (some (.builtin "BaseException.__getattribute__")))
 (xh_NoKinds:ND K (.ref xq) "__getattr__"=some none)
 (xc_NoKinds:ND K (.ref xq) "__class__"=some (some (.builtin "object.__class__")))
 (xo_NoKinds:OK K xq (.type "object")=some true)
 (xb_NoKinds:OK K xq (.type "BaseException")=some true)
 (hit_NoKinds_NoText:OL K (.ref xq) (.ref xp)=some false)
 (hit_NoKinds_NoBook:OL K (.ref xq) (.ref xo)=some false)
 (xe_NoBook:QD K xo [.type "ValueError",.type "Exception",.type "BaseException",.type "object"] "ValueError.__new__"=true)
 (xg_NoBook:ND K (.ref xo) "__getattribute__"=some (some (.builtin "BaseException.__getattribute__")))
 (xh_NoBook:ND K (.ref xo) "__getattr__"=some none)
 (xc_NoBook:ND K (.ref xo) "__class__"=some (some (.builtin "object.__class__")))
 (xo_NoBook:OK K xo (.type "object")=some true)
 (xb_NoBook:OK K xo (.type "BaseException")=some true)
 (hit_NoBook_NoText:OL K (.ref xo) (.ref xp)=some false)
 (hit_NoBook_NoBook:OL K (.ref xo) (.ref xo)=some true)
 (xe_NoText:QD K xp [.type "ValueError",.type "Exception",.type "BaseException",.type "object"] "ValueError.__new__"=true)
 (xg_NoText:ND K (.ref xp) "__getattribute__"=some (some (.builtin "BaseException.__getattribute__")))
 (xh_NoText:ND K (.ref xp) "__getattr__"=some none)
 (xc_NoText:ND K (.ref xp) "__class__"=some (some (.builtin "object.__class__")))
 (xo_NoText:OK K xp (.type "object")=some true)
 (xb_NoText:OK K xp (.type "BaseException")=some true)
 (hit_NoText_NoText:OL K (.ref xp) (.ref xp)=some true)
 (hit_NoText_NoBook:OL K (.ref xp) (.ref xo)=some false) :
 ∃ fd:Pl,(∀ (s:M7) (v:M1),BindsTo s fd ⟨[v],[]⟩ [("script",v)])/\∀ base:Oo,K.In base->base.Ns NA mg->FnOk l.prog w K mg base CX0 60 fa fd ["script"] (mr K):=by
 have e0:=Mi.symm.trans (Ol X G a39);have e:D9=fa:=(Value.ref.inj (Nh e0)).symm;subst e;have Js:=cX (st:=bC) l12 c12 k12;have Mj:=Js.binds (ps:=["self"]) fun _ _ _ _ _ _ us hl=>by obtain ⟨y0,rfl⟩:=us1 hl;rfl
 have Jt:=cX (st:=bo) l13 c13 k13;have Ml:=Jt.binds (ps:=["self","part","row"]) fun _ _ _ _ _ _ us hl=>by obtain ⟨y0,y1,y2,rfl⟩:=us3 hl;rfl
 have Ju:=cX (st:=hX) l39 c39 k39;have Mm:=Ju.binds (ps:=["script"]) fun _ _ _ _ _ _ us hl=>by obtain ⟨y0,rfl⟩:=us1 hl;rfl
 let T:TX K mg:=⟨⟨Ji,Ol X G y0⟩,⟨Jj,Ol X G y1⟩,⟨Jk,Ol X G y2⟩,⟨Jl,Ol X G y3⟩,⟨Jm,Ol X G y4⟩,⟨Jn,Ol X G y5⟩,⟨Jo,Ol X G y6⟩,⟨Jp,Ol X G y7⟩,⟨Jq,Ol X G y8⟩,⟨Jr,Ol X G y9⟩,yj,Ol X G xn_BookError,xq,Ol X G xn_NoKinds,xo,Ol X G xn_NoBook,xp,Ol X G xn_NoText,xe_NoKinds,xg_NoKinds,xh_NoKinds,xc_NoKinds,xo_NoKinds,xb_NoKinds,hit_NoKinds_NoText,hit_NoKinds_NoBook,xe_NoBook,xg_NoBook,xh_NoBook,xc_NoBook,xo_NoBook,xb_NoBook,hit_NoBook_NoText,hit_NoBook_NoBook,xe_NoText,xg_NoText,xh_NoText,xc_NoText,xo_NoText,xb_NoText,hit_NoText_NoText,hit_NoText_NoBook,g_is_number,g_is_below,g_is_name,g_is_kind,g_are_kinds,g_kinds_of,g_many_of,g_kids_of,g_walked,g_built,g_is_call,g_fits_pattern,D5,_,Js,Mj,D7,_,Jt,Ml,g_is_small,g_check_pattern,g_check_state,g_made_book,g_words_of,g_read_number,g_read_call,g_steps_of,g_follows,g_tops_of,g_read_pattern,g_read_kind,g_read_kinds,g_read_head,g_read_rule,g_read_rules,g_words_in,g_read_book,g__law_name,g__law_told,g__law_call,g__law_states_told,g__law_calls,g__law_calls_told,g__law_word_good,⟨D9,_,Ju,Mm,Ol X G a39⟩,xn,Ol X G on_Measure,⟨pg_Measure,hd_Measure,po_Measure,sa_Measure⟩,⟨mk_Measure,a12,i12,kc_Measure⟩,na_Measure_met_knots,na_Measure_met_calls,⟨a13,i13,k13⟩,Ob X G z0,Ob X G z1,Ob X G z2,Ob X G z3,Ob X G z4,Ob X G z5,Ob X G z6,Ob X G z7,Ob X G z8,Ob X G z9,Ob X G z10,Ob X G z11,Ob X G z12⟩
 refine ⟨Px "law" "law" (bA hX) (bj hX) (am hX) .none Ea Eb Ec D' B9 Ed,fun s v=>.of_eq rfl,fun base _ _=>?_⟩;exact vt T
theorem walk {l:PySem.W.OpenLaw} {q:NC} {loose:List Nd} {XP:(Nd->Option M1)->Oo->Prop} {YP:NP->Oo->Prop} {d:DefRec} {K:Params->MY} (hn:l.most=some 63) (CZ:d.params.defaults=[])
 (hY:∀ (w:NP) (h:Oo),YP w h->(K w.params).In h)
 (F:∀ (w:NP) (mg:Nd->Option M1) (fa:M5) (h:Oo),(K w.params).In h->h.Ns NA mg->mg d.name=some (.ref fa) →
  ∃ fd:Pl,(∀ (s:M7) (u:M1),BindsTo s fd ⟨[u],[]⟩ [("script",u)])/\∀ base:Oo,(K w.params).In base->base.Ns NA mg->FnOk l.prog w (K w.params) mg base CX0 60 fa fd ["script"] (mr (K w.params))) :
 PySem.W.WalkO q loose XP YP l.row.toRowW d [] (fun f vs=>PySem.call f vs) :=
 L2.sY (n:=63) (k:=60) (x:="script") (CX:=fun _=>CX0) (sp:=fun w=>mr (K w.params)) hn (by decide) CZ ⟨rfl,by decide,by decide⟩ hY F (fun _ _ a ns hl _ hS=>⟨a,ns,rfl,hS,hl,fun _=>rfl⟩) fun _ _ _ _ _ z=>z
end LAW
open PySem PySem.W PyProof.Rows
set_option maxRecDepth 100000 in
set_option maxHeartbeats 0 in
theorem PySem.Challenge.cw_boughbook_k34_brackets_and_figures_holds : PySem.Challenge.rw_boughbook_k34_brackets_and_figures.Holds := by
 w_on;o_law;(refine holds_open (q:=LAW.vw) (N:=90000) (loose:=[]) (XP:=XL LAW.vw []) (Yf:=Hook.obs (kHook LAW.d0.heap_1 LAW.ks LAW.ke)) (Ya:=Hook.val (kHook LAW.d0.heap_1 LAW.ks LAW.ke)) (YP:=Hook.says (kHook LAW.d0.heap_1 LAW.ks LAW.ke)) (Xt:=LAW.xt) (HD.pY (by kernel_rfl) (by kernel_rfl) (fun _=>by kernel_rfl) LAW.lk0 LAW.lk1 LAW.lk2 LAW.lk3 LAW.lk4 LAW.lk5 (HD.Pc.k LAW.kp)) (Hook.of (kHook LAW.d0.heap_1 LAW.ks LAW.ke)) (Hook.keeps (kHook LAW.d0.heap_1 LAW.ks LAW.ke)) (fun s e=>xl_of s (QJ.mp e).1) XL.keeps (by rfl) (by rfl) (by rfl) (fun s e=>recFacts_of (QJ.mp e).2) (by rfl) (by assumption) (by decide +kernel) ⟨rfl,rfl,rfl,rfl,rfl,by decide +kernel⟩ ?_ ?_);w_witness2
 k_fill
 refine LAW.walk (l:=PySem.Challenge.rw_boughbook_k34_brackets_and_figures) rfl rfl (fun w h Y=>PySem.W.kIn_of Y) ?F
 case F =>
  intro w mg fa h KX G C0;refine' LAW.all_mk KX G C0 (LAW.fx1 KX G) (LAW.fx2 KX G) (LAW.fx1 KX G) (LAW.fx1 KX G) (LAW.fx1 KX G) (LAW.fx1 KX G) (LAW.fx2 KX G) (LAW.fx1 KX G) (LAW.fx1 KX G) (LAW.fx1 KX G) (LAW.fx1 KX G) (LAW.fx4 KX G) (LAW.fx1 KX G) (LAW.fx4 KX G) (LAW.fx4 KX G) (LAW.fx4 KX G) (LAW.fx1 KX G) (LAW.fx1 KX G) (LAW.fx1 KX G) (LAW.fx1 KX G) (LAW.fx3 KX G) (LAW.fx1 KX G) (LAW.fx1 KX G) (LAW.fx1 KX G) (LAW.fx2 KX G) (LAW.fx1 KX G) (LAW.fx3 KX G) (LAW.fx2 KX G) (LAW.fx1 KX G) (LAW.fx1 KX G) (LAW.fx2 KX G) (LAW.fx1 KX G) (LAW.fx1 KX G) (LAW.fx2 KX G) (LAW.fx2 KX G) (LAW.fx3 KX G) (LAW.fx1 KX G) ?on_Measure ?pg_Measure ?hd_Measure ?po_Measure ?sa_Measure ?mk_Measure ?kc_Measure ?na_Measure_met_knots ?na_Measure_met_calls ?a12 ?i12 ?l12 ?c12 ?k12 ?a13 ?i13 ?l13 ?c13 ?k13 ?a39 ?l39 ?c39 ?k39 ?z0 ?z1 ?z2 ?z3 ?z4 ?z5 ?z6 ?z7 ?z8 ?z9 ?z10 ?z11 ?z12 ?y0 ?y1 ?y2 ?y3 ?y4 ?y5 ?y6 ?y7 ?y8 ?y9 ?xn_BookError ?xn_NoKinds ?xn_NoBook ?xn_NoText ?xe_NoKinds ?xg_NoKinds ?xh_NoKinds ?xc_NoKinds ?xo_NoKinds ?xb_NoKinds ?hit_NoKinds_NoText ?hit_NoKinds_NoBook ?xe_NoBook ?xg_NoBook ?xh_NoBook ?xc_NoBook ?xo_NoBook ?xb_NoBook ?hit_NoBook_NoText ?hit_NoBook_NoBook ?xe_NoText ?xg_NoText ?xh_NoText ?xc_NoText ?xo_NoText ?xb_NoText ?hit_NoText_NoText ?hit_NoText_NoBook
  (case on_Measure=>k_is)
  (case pg_Measure=>k_is)
  (case hd_Measure=>k_is)
  (case po_Measure=>k_is)
  (case sa_Measure=>k_is)
  (case mk_Measure=>k_is)
  (case kc_Measure=>k_is)
  (case na_Measure_met_knots=>k_is)
  (case na_Measure_met_calls=>k_is)
  (case a12=>k_is)
  (case i12=>k_is)
  (case l12=>k_is)
  (case c12=>k_is)
  (case k12=>k_is)
  (case a13=>k_is)
  (case i13=>k_is)
  (case l13=>k_is)
  (case c13=>k_is)
  (case k13=>k_is)
  (case a39=>k_is)
  (case l39=>k_is)
  (case c39=>k_is)
  (case k39=>k_is)
  (case z0=>k_is)
  (case z1=>k_is)
  (case z2=>k_is)
  (case z3=>k_is)
  (case z4=>k_is)
  (case z5=>k_is)
  (case z6=>k_is)
  (case z7=>k_is)
  (case z8=>k_is)
  (case z9=>k_is)
  (case z10=>k_is)
  (case z11=>k_is)
  (case z12=>k_is)
  (case y0=>k_is)
  (case y1=>k_is)
  (case y2=>k_is)
  (case y3=>k_is)
  (case y4=>k_is)
  (case y5=>k_is)
  (case y6=>k_is)
  (case y7=>k_is)
  (case y8=>k_is)
  (case y9=>k_is)
  (case xn_BookError=>k_is)
  (case xn_NoKinds=>k_is)
  (case xn_NoBook=>k_is)
  (case xn_NoText=>k_is)
  (case xe_NoKinds=>k_exc)
  (case xg_NoKinds=>k_is)
  (case xh_NoKinds=>k_is)
  (case xc_NoKinds=>k_is)
  (case xo_NoKinds=>k_is)
  (case xb_NoKinds=>k_is)
  (case hit_NoKinds_NoText=>kts_exm)
  (case hit_NoKinds_NoBook=>kts_exm)
  (case xe_NoBook=>k_exc)
  (case xg_NoBook=>k_is)
  (case xh_NoBook=>k_is)
  (case xc_NoBook=>k_is)
  (case xo_NoBook=>k_is)
  (case xb_NoBook=>k_is)
  (case hit_NoBook_NoText=>kts_exm)
  (case hit_NoBook_NoBook=>kts_exm)
  (case xe_NoText=>k_exc)
  (case xg_NoText=>k_is)
  (case xh_NoText=>k_is)
  (case xc_NoText=>k_is)
  (case xo_NoText=>k_is)
  (case xb_NoText=>k_is)
  (case hit_NoText_NoText=>kts_exm)
  (case hit_NoText_NoBook=>kts_exm)
