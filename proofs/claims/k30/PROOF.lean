import PyProof.Rows.All
import Wide.All
import OpenK.AllK
import Wide.FinOn
import Lean
import PyProof.EqAt
import PyProof.EqKinds
import PyProof.TupleCall
import KE.KRevIter
import PyProof.ListNew
import PyProof.Draws
import PyProof.EnumMake
import PyProof.Rows.EnumRows
import PyProof.ZipIter
import PyProof.ConsumeWalk
import KE.LcSums
import PyProof.AttrMissHeap
import KE.KDictOf
import PyProof.DictWalks
import PyProof.ListMulRoad
import PyProof.FactsAll.tuple
import PyProof.NeKinds
import KE.RegKTryMore
import KE.RegKIsAll
import PyProof.StrWalks
import PyProof.Rows.SetFrom
import PyProof.FString5
import Wide.Txt
import PyProof.Rows.SeqMore
import PyProof.StrOps2
import KE.KEqDict
import PyProof.CollectIter
import PyProof.JoinWalk
import PyProof.CallStr
import PyProof.DictRoadsH
import PyProof.MeetsDictList
import PyProof.DictTruth
import PyProof.StrLawsChain
import PyProof.StrCalls6
import PyProof.ToksMono
import PyProof.StrCalls2
import KE.KWords
import PyProof.MeetsStr2
import KE.KUnpack
import KE.KIntText
import PyProof.MeetsStr
import PyProof.Rows.StrLawsPart
import PyProof.Rows.RuleDivmod
import PyProof.ListIndexNeg
import PySem.Challenge.RW_boughbook_k30_whole_books_read_back
set_option Elab.async false
set_option linter.all false
set_option maxRecDepth 100000
set_option genInjectivity false
set_option genSizeOf false
local macro_rules | `(tactic| omega) => `(tactic| lia)
open PySem.Str renaming ofString→QZ,cps_append→Tf,join→UH,empty→U1
open List renaming length_map→Q0,getElem?_eq_getElem→Q1,length_cons→Q3,length_append→Ra,mem_of_getElem?→Rb,size_toArray→Rc,getElem?_map→Rg,mem_cons_of_mem→Ri,map_append→Rj,getElem?_eq_some_iff→Rm,mem_cons_self→Rn,replicate→Ro,mem_cons→Rq,map_cons→Rr,cons_append→Rz,append_nil→RC,mem_append→RE,append_assoc→RF,mem_singleton→RH,nil_append→RN,length_take→RP,flatten_cons→RR,mem_append_right→RV,reverse_cons→RY,mem_iff_getElem?→RZ,take_of_length_le→R0,length_eq_zero_iff→R7,drop_eq_getElem_cons→Sa,length_replicate→Sb,replicate_succ→Sd,length_drop→Sf,length_reverse→Si,mem_map→Sl,range→Sn,length_singleton→Sq,drop_zero→Su,flatMap_cons→SA,take_zero→SG,dropLast_concat_getLast→SH,take_length→SM,take_add_one→SS,not_mem_nil→SX,map_nil→SY,filter_cons→S2,nodup_cons→Td,length_nil→Te,map_map→Tr,getElem?_append_right→Ts,length→Tt,forIn_cons→Tu,all_eq_true→TB,length_range→TJ,map_congr_left→TQ,flatten_append→TR,lookup_cons→TV,getElem?_zip_eq_some→T5,getElem?_append_left→T6,reverse_reverse→Ue,mem_append_left→Ug,lookup→Uh,eq_of_mem_replicate→Ul,reverse_append→Uo,length_pos_iff→Up,getElem?_set_self→Uu,getElem?_eq_none→UA,getElem?_set_ne→UI,getElem?_range→UO,flatMap_append→UP,filterMap_cons→UQ,length_zip→UY,find?_cons→UZ,nodup_nil→U4,drop_length→Vd,sum_cons→Ve,all_cons→Vf,mem_filter→Vj,length_set→Vk,mem_filterMap→Vt,filter_append→Vu,map_reverse→VM,head_eq_of_cons_eq→VN,flatten_nil→VO,of_mem_zip→V0,mem_range→V9,mem_of_mem_take→Wa,getElem?_zipIdx→Wb,dropLast_concat→Wc,any_cons→Wu,length_zipIdx→Wy,flatMap_assoc→Wz,filterMap_map→WA,nodup_append→WM,ext_getElem?→WN
open PySem renaming wpAny_bind→Q2,Value→Q6,Addr→Q7,Shared→Q9,strLen_append→Rh,wpAny_pure→Rl,Str→Ru,wpAny→Rw,sizeLine→Ry,boot_len→RG,mainGlobals→RK,Program→RL,model→RO,World→R1,Paired→R3,Around→R6,starEach→Se,Expr→Sm,wpAny_field→Sr,Stmt→Sz,Heap→SE,wpAny_newObj_type→SF,wpAny_passesOwn→S5,wpAny_holding→S6,wpAny_mono→Ta,wpAny_Call_Name_kw→Ti,wpAny_callSpecial?_slot→Tj,wpAny_truthy_bool→Tv,eval→Tz,sizeLine_eq→TC,compareOp→TH,wpAny_seqItems→TN,Obj→T1,NameKind→T2,wpAny_setField_rec→T9,wpAny_pyIter_tuple→Ua,wpAny_call_entry→Uv,binaryOp→Uw,IsPair→Uy,FuncData→Uz,wpAny_Call_method_late→UB,typeIs_str→UC,call_meets→UD,codeAny_builtin→UE,mem_of_lookup→UM,wpAny_loadName_local→UR,wpAny_typeOf→U0,wpAny_execs_nil→U5,getItem→U6,sliceBounds→U7,Scope→U8,wpAny_pyIter_list→Vg,sysModules→Vm,assignEach→Vn,Pos→Vo,rawInt→Vv,backTo→Vw,cLine→Vx,codeAny_mono→Vz,codeAny→VA,bootBuiltins→VB,OsState→VF,wpAny_FormattedValue_plain→VJ,wpAny_pyIter_enum→VW,spliced→VX,foldedSetIterable→VY,Builtin→V1,plainId_quiet→V3,attributeBase→V4,strValues→V7,IsZip→We,wpAny_pyNext_list_item→Wi,wpAny_Name→Wj,typeLookup→Wk,pyNext→Wl,IsPart→Wr,letOwnedTupleGo→Ws,importedModules→Wt,wpAny_pyNext_list_end→Ww,builtinLookup_eq_fast→Wx,wpAny_updateSeq_pair→WD,slicePicked→WE,bindArgs→WG
open PySem.W renaming Frag→Q4,nsIn→R5,mg_none_of→Sg,findIn→Sy,mg_of→SJ,kia_one→Tb,emptyDict→Tp,kitOne→TF,keepIn→TZ,instObj→T7,boot_heap→Ub,fnOf→Uc,codeIn→U3,plainGet→Va,hasDictIn→Vy,isFn→VQ,lookIn→V8,plainGet_of→Wn,plainOver→WI,methodObj→WJ
open PySem.Heap renaming get?_push_of_some→Q5,get?_push_size→Rf,lt_size→Rv,size_push→SD,SameBut→TK
open Nat renaming le_refl→Q8,zero_le→RJ,ne_of_lt→RT,lt_of_lt_of_le→RU,mul_le_mul_left→Sv,le_trans→Sw,lt_irrefl→SK,mul_le_mul_right→SW,lt_succ_of_lt→S7,le_of_lt→Tc,pow_le_pow_right→Tg,succ_mul→Ud,ne_of_gt→Ut,zero_add→UJ,sub_self→UK,lt_succ_self→UL,add_mul_div_right→U9,le_add_right→Vb,div_eq_of_lt→Vc,min_eq_left→Vi,sub_zero→Vp,mul_comm→Vq,lt_of_le_of_lt→Vs,mul_succ→VU,lt_trans→WK,le_of_eq→WL
open PySem.F renaming plainAttrs_list→Rk,type_list_append→RA,slot_list_append→RB,plainAttrs_str→RW,type_str_join→SN,slot_str_join→SO,type_list_pop→Tw,slot_list_pop→Tx,slot_tuple_iterator_next→US,called_set→U2,type_list_extend→VC,slot_list_extend→VD,args_tuple_add_2→VE,entry_tuple_add→VL,type_str_split→VR,slot_tuple_add→VS,slot_str_split→VT,slot_list_getattribute→V6,slot_zip_next→Wv
open Or renaming inl→Rp
open Bool renaming false_ne_true→Rt,and_eq_true→TY,eq_false_iff→Uj,true_and→UW,eq_iff_iff→V2,and_false→Wg,and_eq_true_iff→Wh,not_eq_true'→WO
open PySem.Paired renaming length→Rx
open Array renaming length_toList→RD,toList_append→Sj,getElem?_toList→S9,append_assoc→WC,toList→WQ
open Option.some renaming inj→RI
open PySem.PassesOwn renaming never→RM
open Int renaming emod_lt_of_pos→RQ,emod_nonneg→RS,toNat_natCast→SU,toNat_of_nonneg→Vl,ediv_one→VV,lt_or_eq_of_le→WB
open PyProof.Rows renaming boot_isinstance→RX,boot_tuple→R4,slot_tuple_getitem→R9,callWith_type1→SR,boot_str→S8,boot_int→V5
open PySem.Txt renaming join→R8,split→Tn,replace→VZ
open PySem.Builtin.Str renaming strKind→Sh,strSliceIndices→VG,occurrences→Wf
open PySem.Builtin.SmallTypes renaming nextOf→Sk,ownedTupleIsFree→So
open PySem.NameKind renaming free→Ss,cell→Vr
open PySem.Value renaming ref→Sx,none→Ur,str→VH,int→VI
open PySem.Builtin.Slice renaming slicePlaces→SI,sliceAdjust→Um,sliceApplied→UU
open PySem.StrLaws renaming occBody→SQ,glued_eq_join→Uk,join_length_le→Wm
open PySem.Builtin.Tuple renaming tupleExact→SV,tupleItemsOf→VP
open PySem.Calls renaming spliced_cons→S3,spliced_nil→TU,callWith_builtin→T4,Constant_str→Ui,evalArgs_plain→UT
open Sum renaming inl→To,inr→WH
open Option renaming map_eq_some_iff→Tq,map_some→Vh
open PySem.Builtin.List renaming listTooLong→TL
open PySem.AutoSeq1 renaming wpAny_loadPart'→TM
open False renaming elim→T3
open ForInStep renaming yield→T8
open PySem.Around renaming under_plainId→Uq
open PySem.Value.type renaming inj→Ux
open True renaming intro→UG
open PyProof.Rows.F renaming plain_set_update_loop→UN,entry_set_update_loop→Wo
open Ne renaming symm→UX
open PySem.Obj renaming mapSeq→Wq
namespace HD
open PySem PySem.W PySem.Calls PyProof.Rows
def lu (tb:String->Option V1) (p:RL) (w:R1) (m:Nat) (ann:Option Q6):Nat->SharedT->Thread->Option SharedT
 | 0,_,_=>none
 | n+1,s,t=>match through t with
   | true=>some s
   | false=>match stepOk m ann t with
     | false=>none
     | true=>match stepT (denote tb) p w s t with
       | some (s',t')=>lu tb p w m ann n s' t'
       | none=>none
theorem lO {tb:String->Option V1} {p:RL} {w:R1} {m:Nat} {ann:Option Q6}:∀ {n:Nat} {s s':SharedT} {t:Thread},lu tb p w m ann n s t=some s'->topRun tb p w m ann n s.abs t=some s'.abs
 | 0,_,_,_,h=>by cases h
 | n+1,s,s',t,h=>by
   unfold lu at h;unfold topRun;cases he:through t with
   | true=>rw [he] at h;cases h;rfl
   | false =>
     rw [he] at h;cases hk:stepOk m ann t with
     | false=>rw [hk] at h;cases h
     | true =>
       rw [hk] at h;cases hs:stepT (denote tb) p w s t with
       | none=>rw [hs] at h;cases h
       | some r =>
         obtain ⟨s2,t2⟩:=r;rw [hs] at h;rw [stepT_spec hs];exact lO h
def xf:List T1->Nat->BT->BT
 | [],_,t=>t
 | o::l,n,t=>xf l (n+1) (t.ins n o)
def xn:List T1->Nat->BT->Bool
 | [],_,_=>true
 | o::l,n,t=>((t.ins n o).get n).isSome && xn l (n+1) (t.ins n o)
theorem oo:∀ (l:List T1) (n:Nat) (t:BT),xn l n t=true->(xf l n t).list (n+l.length)=t.list n++l
 | [],n,t,_=>by rw [RC];rfl
 | o::l,n,t,h=>by
   obtain ⟨h1,h2⟩:=Wh.mp h;have e:=absHeap_ins (life:=default) h1
   have e2:(t.ins n o).list (n+1)=t.list n++[o]:=by
    have:=congrArg (fun x:SE=>x.objs.toList) e;simpa [absHeap,Heap.push] using this
   have ih:=oo l (n+1) (t.ins n o) h2;rw [e2,RF] at ih;rw [Q3,show n+(l.length+1)=n+1+l.length by omega];exact ih
theorem yK {h:SE} (ok:xn h.objs.toList 0 .nil=true):absHeap (xf h.objs.toList 0 .nil) h.objs.size h.life=h:=by
 have e:=oo _ _ _ ok;rw [UJ] at e;unfold absHeap;rw [<- RD,e];rfl
noncomputable abbrev qh (p:RL) (N:Nat) (w:R1) (os:VF):Option SharedT :=
 lu treeTable p w 11 (some (.ref 6)) N ⟨xf (Ub w.params).objs.toList 0 .nil,11,(Ub w.params).life,Array.mk [],boot_drawn,boot_toks,os⟩ (topStub p)
theorem xF (P:Params):(xn (Ub P).objs.toList 0 .nil,(Ub P).isNs RK,(Ub P).objs.size,(Ub P).nsMap RK "__annotations__")=(true,true,11,some (.ref 6)):=by kernel_rfl
theorem map_some {α β:Type} {o:Option α} {a:α} {f:α->β} {b:β} (h:o=some a) (e:o.map f=some b):f a=b:=by rw [h] at e;exact RI e
abbrev Tr0 (p q:RL) (loose:List Ru) (Xt:Q9->Bool) (N:Nat) (g0:Bool):Prop:=∀ (w:R1) (os:VF),((qh p N w os).map fun s=>(staticsOk (Wt p.main.body) (Ub w.params) s.abs.heap && namesBound p s.abs.heap && gensDone s.abs && laidKept (Ub w.params) s.abs.heap,s.abs.heap.bltView,pinSeenD q (drecsOf q) s.abs,plainSeenD q loose s.abs,clsSeenW q loose s.abs,(s.abs.heap.accountedOkI (Wt p.main.body),s.abs.heap.isNs RK,s.abs.heap.isNs builtinsNs,tablesOk q s.abs.heap,Xt s.abs,(if g0 then s.abs.gens.size == 0 else !leftWithCleanup s.abs.gens))))=some (true,bltViewBooted,pinGoodD (drecsOf q),plainGoodD q loose,clsGoodW q loose,(true,true,true,true,true,true))
abbrev Tr1 (p q:RL) (N:Nat):Prop:=∀ (w:R1) (os:VF),((qh p N w os).map fun s=>seen ((recsOf q).map (·.name)) (ownsOf q) [] { s.abs with gens:=#[] })=some (expectedOf q)
abbrev Tr2 (p q:RL) (loose:List Ru) (N:Nat):Prop:=∀ (w:R1) (os:VF),((qh p N w os).map fun s=>s.abs.heap.keysOk (looseW q loose) ((recsOf q).map (·.name)) ((litsOf q).map (·.1)) ((clssOf q (looseW q loose)).map (·.name)))=some true
abbrev Tr3 (p q:RL) (N:Nat):Prop:=∀ (w:R1) (os:VF),((qh p N w os).map fun s=>tabsOk q s.abs)=some true
abbrev Tr4 (p q:RL) (loose:List Ru) (N:Nat):Prop:=∀ (w:R1) (os:VF),((qh p N w os).map fun s=>plainSeenE q (looseW q loose) s.abs)=some (plainGoodE q (looseW q loose))
abbrev Tr5 (p q:RL) (N:Nat):Prop:=∀ (w:R1) (os:VF),((qh p N w os).map fun s=>wideSeen q s.abs)=some (wideGood q)
theorem uC {p q:RL} {loose:List Ru} {Xt:Q9->Bool} {α:Type} {Yf:Q9->α} {Ya:R1->α} {N:Nat} {g0:Bool}
 (e:opening p=plainProg p.main.scope.names) (hN:Nat.ble 600 N=true) (f:∀ s,fenceModules? p s=some s)
 (r0:Tr0 p q loose Xt N g0)
 (r1:Tr1 p q N)
 (r2:Tr2 p q loose N)
 (r3:Tr3 p q N)
 (r4:Tr4 p q loose N)
 (r5:Tr5 p q N)
 (rY:∀ (w:R1) (os:VF),((qh p N w os).map fun s=>Yf s.abs)=some (Ya w)) :
 LeftO p q loose Xt Yf Ya N g0:=fun w=>by
 obtain ⟨⟨h,gs,d,k,os⟩,e1,e'⟩:=Tq.mp (boot_open e hN f w);obtain ⟨rfl,rfl,rfl,rfl⟩:h=Ub w.params/\gs=Array.mk []/\d=boot_drawn/\k=boot_toks:=by simpa using e'
 have HS:=xF w.params;have z0:=congrArg Prod.fst HS;have z1:=congrArg (fun x=>x.2.1) HS;have z2:=congrArg (fun x=>x.2.2.1) HS;have z3:=congrArg (fun x=>x.2.2.2) HS;dsimp only at z0 z1 z2 z3;obtain ⟨s1,Ey,hY⟩:=Tq.mp (rY w os);have q0:=map_some Ey (r0 w os);have q1:=map_some Ey (r1 w os);have q2:=map_some Ey (r2 w os);have q3:=map_some Ey (r3 w os);have q4:=map_some Ey (r4 w os);have q5:=map_some Ey (r5 w os);have rr:=lO Ey
 have Ja:SharedT.abs ⟨xf (Ub w.params).objs.toList 0 .nil,11,(Ub w.params).life,Array.mk [],boot_drawn,boot_toks,os⟩=⟨Ub w.params,Array.mk [],boot_drawn,boot_toks,os⟩:=by
  unfold SharedT.abs;dsimp only;rw [<- z2,yK z0]
 rw [Ja] at rr;have a0:=congrArg Prod.fst q0;have a1:=congrArg (fun x=>x.2.1) q0;have a2:=congrArg (fun x=>x.2.2.1) q0;have a3:=congrArg (fun x=>x.2.2.2.1) q0;have a4:=congrArg (fun x=>x.2.2.2.2.1) q0;have b0:=congrArg (fun x=>x.2.2.2.2.2.1) q0;have b1:=congrArg (fun x=>x.2.2.2.2.2.2.1) q0;have b2:=congrArg (fun x=>x.2.2.2.2.2.2.2.1) q0;have b3:=congrArg (fun x=>x.2.2.2.2.2.2.2.2.1) q0;have b4:=congrArg (fun x=>x.2.2.2.2.2.2.2.2.2.1) q0;have b5:=congrArg (fun x=>x.2.2.2.2.2.2.2.2.2.2) q0;dsimp only at a0 a1 a2 a3 a4 b0 b1 b2 b3 b4 b5
 have l2:openSeen q loose (Wt p.main.body) Xt g0 s1.abs=openGood q loose:=by
  unfold openSeen openGood;rw [q1,a1,q2,b0,b1,b2,b3,b4,b5,q3,a2,q4,a3,q5,a4];rfl
 have t:topFrom treeTable p w N ⟨Ub w.params,Array.mk [],boot_drawn,boot_toks,os⟩=some s1.abs:=by
  unfold topFrom;dsimp only;rw [z1,z2,z3,rr];show (match staticsOk (Wt p.main.body) (Ub w.params) s1.abs.heap && namesBound p s1.abs.heap && gensDone s1.abs && laidKept (Ub w.params) s1.abs.heap with | true=>_ | false=>_)=_;rw [a0]
 unfold openEnds;rw [e1];show (topFrom treeTable p w N _).map _=_;rw [t];exact congrArg some (Prod.ext l2 hY)
def p0:Params:={ strHash:=fun _=>0,shareClass:=fun _=>0,mergeTok:=fun t=>t,idOf:=fun _=>0,idOfShared:=fun _ _=>0,followText:=fun _=>false,idOfImm:=fun _=>0 }
structure Pc (p:RL) (N:Nat) (as:List Q7) (vs:R1->List (Option T1)):Prop where
 out:∀ (w:R1) (os:VF),((qh p N w os).map fun s=>as.map s.abs.heap.get?)=some (vs w)
theorem Pc.k {p:RL} {N:Nat} {as:List Q7} {K:Params->Frag} {e:∀ P,as=(K P).map (·.1)} (h:Pc p N as fun w=>(K w.params).map fun p=>some p.2):∀ (w:R1) (os:VF),((qh p N w os).map fun s=>(kHook K as e).obs s.abs)=some ((kHook K as e).val w):=h.out
end HD
section
open PySem PySem.W PyProof.Rows
def LAW.vw:RL:=PySem.W.view PySem.Challenge.pw_boughbook_k30_whole_books_read_back [1,2,3,4,6,7,8,9,10,11,12,13,14,15,16,17,18,19,20,22,23,24,25,26,27,29,30,31,32,33,34,35,36,37,38,39,40,41,43,44,45,47,48,49,50,51,52,53,54,55,56,57,58,59,60,61,62,63,64,65,66,67,68,69,71,72,73,74,75,76,77,78,79,80,81,82]
def LAW.xt (s:Q9):Bool:=xlAt LAW.vw [] s && recOk (RowW.records (OpenRow.toRowW (OpenLaw.row PySem.Challenge.rw_boughbook_k30_whole_books_read_back))) s
set_option maxHeartbeats 0 in
theorem LAW.lk0:HD.Tr0 PySem.Challenge.pw_boughbook_k30_whole_books_read_back LAW.vw [] LAW.xt 90000 true:=fun _ _=>by kernel_rfl
set_option maxHeartbeats 0 in
theorem LAW.lk1:HD.Tr1 PySem.Challenge.pw_boughbook_k30_whole_books_read_back LAW.vw 90000:=fun _ _=>by kernel_rfl
set_option maxHeartbeats 0 in
theorem LAW.lk2:HD.Tr2 PySem.Challenge.pw_boughbook_k30_whole_books_read_back LAW.vw [] 90000:=fun _ _=>by kernel_rfl
set_option maxHeartbeats 0 in
theorem LAW.lk3:HD.Tr3 PySem.Challenge.pw_boughbook_k30_whole_books_read_back LAW.vw 90000:=fun _ _=>by kernel_rfl
set_option maxHeartbeats 0 in
theorem LAW.lk4:HD.Tr4 PySem.Challenge.pw_boughbook_k30_whole_books_read_back LAW.vw [] 90000:=fun _ _=>by kernel_rfl
set_option maxHeartbeats 0 in
theorem LAW.lk5:HD.Tr5 PySem.Challenge.pw_boughbook_k30_whole_books_read_back LAW.vw 90000:=fun _ _=>by kernel_rfl
section
local macro_rules | `(tactic| o_head $_H) => `(tactic| assumption)
set_option maxHeartbeats 0 in
theorem LAW.d0 (h:OpenRow.Holds (OpenLaw.row PySem.Challenge.rw_boughbook_k30_whole_books_read_back)):OpenRow.Holds (OpenLaw.row PySem.Challenge.rw_boughbook_k30_whole_books_read_back):=by
 k_head
end
noncomputable def LAW.ks:List Q7:=(LAW.d0.heap_1 HD.p0).map (·.1)
theorem LAW.ke:∀ P,LAW.ks=(LAW.d0.heap_1 P).map (·.1):=fun _=>by kernel_rfl
set_option maxHeartbeats 0 in
theorem LAW.kp:HD.Pc PySem.Challenge.pw_boughbook_k30_whole_books_read_back 90000 LAW.ks fun w=>(LAW.d0.heap_1 w.params).map fun p=>some p.2:=⟨fun _ _=>by kernel_rfl⟩
end
namespace L2
open PySem PySem.Spec PyProof.Rows
abbrev Key:=Sum Int Ru
def oi:Key->Q6->Bool
 | .inl k,v=>Value.isInt k v
 | .inr x,v=>Value.isStrOf x v
def aaR (w:R1):Key->Int
 | .inl k=>hashInt k
 | .inr x=>hashStr w x
theorem bM:∀ {k:Key} {v:Q6},oi k v=true->(∃ i t,k=To i/\v=VI i t)∨(∃ x t,k=WH x/\v=VH x t)
 | .inl i,v,h=>by
   obtain ⟨t,e⟩:=Value.isInt_shape (k:=i) (v:=v) h;exact .inl ⟨i,t,rfl,e⟩
 | .inr x,v,h=>by
   obtain ⟨t,e⟩:=Value.isStrOf_shape (x:=x) (v:=v) h;exact .inr ⟨x,t,rfl,e⟩
theorem vp (i:Int) (t:Tok):oi (.inl i) (.int i t)=true:=by simp [oi,Value.isInt]
theorem u5 (x:Ru) (t:Tok):oi (.inr x) (.str x t)=true:=by simp [oi,Value.isStrOf]
theorem yX (a b:Int):decide ((To a:Key)=To b)=(a == b):=by
 by_cases e:a=b
 · subst e;simp
 · have h:¬ (To a:Key)=To b:=fun q=>e (Sum.inl.inj q);rw [decide_eq_false h];exact (beq_eq_false_iff_ne.mpr e).symm
theorem yU (a b:Ru):decide ((WH a:Key)=WH b)=decide (a=b):=by
 by_cases e:a=b
 · subst e;simp
 · have h:¬ (WH a:Key)=WH b:=fun q=>e (Sum.inr.inj q);rw [decide_eq_false h,decide_eq_false e]
theorem zj (a:Int) (b:Ru):decide ((To a:Key)=WH b)=false:=decide_eq_false (fun q=>nomatch q)
theorem yM (a:Ru) (b:Int):decide ((WH a:Key)=To b)=false:=decide_eq_false (fun q=>nomatch q)
def b9 (prog:RL) (w:R1):PySem.KeyKind prog w Key where
 is:=oi
 hash:=aaR w
 inj:=fun v a b ha hb=>by
  rcases bM ha with ⟨i,t,rfl,rfl⟩ | ⟨x,t,rfl,rfl⟩
  · rcases bM hb with ⟨j,u,rfl,e⟩ | ⟨y,u,rfl,e⟩
    · injection e with e1 _;rw [e1]
    · exact nomatch e
  · rcases bM hb with ⟨j,u,rfl,e⟩ | ⟨y,u,rfl,e⟩
    · exact nomatch e
    · injection e with e1 _;rw [e1]
 byValue:=fun k v h=>by
  rcases bM h with ⟨i,t,rfl,rfl⟩ | ⟨x,t,rfl,rfl⟩ <;> rfl
 pyHash:=fun hv h=>by
  rcases bM hv with ⟨i,t,rfl,rfl⟩ | ⟨x,t,rfl,rfl⟩
  · exact wpAny_pyHash_int h
  · exact wpAny_pyHash_str h
 eqBool:=fun hu hv h=>by
  rcases bM hu with ⟨i,t,rfl,rfl⟩ | ⟨x,t,rfl,rfl⟩
  · rcases bM hv with ⟨j,u,rfl,rfl⟩ | ⟨y,u,rfl,rfl⟩
    · rw [yX] at h;exact wpAny_eqBool_int h
    · rw [zj] at h;exact SeqAt.EqAt.int_str i t y u _ _ _ _ h
  · rcases bM hv with ⟨j,u,rfl,rfl⟩ | ⟨y,u,rfl,rfl⟩
    · rw [yM] at h;exact SeqAt.EqAt.str_int x t j u _ _ _ _ h
    · rw [yU] at h;exact wpAny_eqBool_str h
 «strs»:=fun k x t v h=>by
  rcases bM h with ⟨i,u,rfl,e⟩ | ⟨y,u,rfl,e⟩
  · exact nomatch e
  · injection e with e1 _;subst e1;cases v <;> rfl
theorem qt (prog:RL) (w:R1) (i:Int) (t:Tok):(b9 prog w).is (.inl i) (.int i t)=true:=vp i t
theorem qS (prog:RL) (w:R1) (x:Ru) (t:Tok):(b9 prog w).is (.inr x) (.str x t)=true:=u5 x t
end L2
namespace L2
open PySem PySem.Spec PyProof.Rows
set_option genInjectivity true in
inductive V where
 | non | bl (b:Bool) | int (i:Int) | str (x:Ru) | byt (b:Array UInt8) | flt (b:UInt64) | ref (a:Q7) | ty (n:String)
 deriving DecidableEq
def RelV:V->Q6->Prop
 | .non,u=>u=Ur
 | .bl b,u=>u=Value.bool b
 | .int i,u=>∃ t,u=VI i t
 | .str x,u=>∃ t,u=VH x t
 | .byt b,u=>∃ t,u=Value.bytes b t
 | .flt b,u=>∃ t,u=Value.float b t
 | .ref a,u=>u=Sx a
 | .ty n,u=>u=Value.type n
abbrev Vals:List V->List Q6->Prop:=R3 RelV
theorem Vals.length {xs:List V} {us:List Q6} (r:Vals xs us):xs.length=us.length:=Rx r
theorem Vals.get:∀ {xs:List V} {us:List Q6} {i:Nat} {x:V},Vals xs us->xs[i]?=some x->∃ u,us[i]?=some u/\RelV x u
 | _,_,_,_,.nil,e=>by simp at e
 | _,_,0,_,.cons r _,e=>by simp at e;subst e;exact ⟨_,rfl,r⟩
 | _,_,i+1,x,.cons _ t,e=>by
   obtain ⟨u,h1,h2⟩:=Vals.get (i:=i) (x:=x) t (by simpa using e);exact ⟨u,by simpa using h1,h2⟩
theorem Vals.set {x:V} {u:Q6} (r:RelV x u):∀ {xs:List V} {us:List Q6} (i:Nat),Vals xs us->Vals (xs.set i x) (us.set i u)
 | _,_,_,.nil=>.nil
 | _,_,0,.cons _ t=>.cons r t
 | _,_,i+1,.cons q t=>.cons q (Vals.set r i t)
theorem Vals.append:∀ {xs ys:List V} {us ws:List Q6},Vals xs us->Vals ys ws->Vals (xs++ys) (us++ws)
 | _,_,_,_,.nil,s=>s
 | _,_,_,_,.cons r t,s=>.cons r (Vals.append t s)
theorem Vals.take:∀ {xs:List V} {us:List Q6} (n:Nat),Vals xs us->Vals (xs.take n) (us.take n)
 | _,_,0,_=>.nil
 | _,_,_+1,.nil=>.nil
 | _,_,n+1,.cons r t=>.cons r (Vals.take n t)
theorem Vals.drop:∀ {xs:List V} {us:List Q6} (n:Nat),Vals xs us->Vals (xs.drop n) (us.drop n)
 | _,_,0,r=>r
 | _,_,_+1,.nil=>.nil
 | _,_,n+1,.cons _ t=>Vals.drop n t
def RelO:Option V->Option Q6->Prop
 | some v,some u=>RelV v u
 | none,none=>True
 | _,_=>False
def KV {κ:Type}:List (κ×V)->List (κ×Q6)->Prop:=R3 fun (p:κ×V) (q:κ×Q6)=>p.1=q.1/\RelV p.2 q.2
def kV:Key->V
 | .inl i=>.int i
 | .inr x=>.str x
inductive HO where
 /-- a list -/
 | lst (xs:List V)
 /-- a tuple (never changes) -/
 | tup (xs:List V)
 /-- a dict FP keys are ints and texts;one FP keys are tuples of ints and texts (C7 empty one is both) -/
 | dK (Aa:List (Key×V)) | dT (Aa:List (List Key×V))
 /-- a set of ints: its members,its size -/
 | set (S:Int->Bool) (n:Nat)
 /-- an instance of C7 class at C,its dict at dx,its attributes -/
 | ins (C dx:Q7) (fs:List (Ru×V))
 /-- C7 dict of C7 instance at x -/
 | own (x:Q7)
 /-- C7 dict of an exception -/
 | xd (fs:List (Ru×V))
 /-- a bound method,f of x -/
 | met (f x:Q7)
 /-- a range object lo,lo+1,.. below hi -/
 | rng (lo hi:Int)
 /-- a thing Jb is known to C7 object (C7 script;a dict while a loop walks it): read,never written while it is so -/
 | frz (o:T1) (u:HO)
 /-- a code FQ table -/
 | tbl (ps:Array Q6)
 /-- any other thing,by Jc is true of its one object (a def of LC own: Nk a S n:=HO.ext fun h=>..) -/
 | ext (φ:SE->Prop)
abbrev Hp:=Q7->Option HO
def upd (H:Hp) (a:Q7) (o:HO):Hp:=fun b=>if b=a then some o else H b
theorem ac {H:Hp} {a:Q7} {o:HO}:upd H a o a=some o:=by unfold upd;rw [if_pos rfl]
theorem al {H:Hp} {a b:Q7} {o:HO} (h:b≠a):upd H a o b=H b:=by unfold upd;rw [if_neg h]
theorem pj {H:Hp} {a:Q7} {o u:HO}:upd (upd H a o) a u=upd H a u:=by
 funext b;unfold upd;split <;> rfl
theorem f8 {H:Hp} {a b:Q7} {o u:HO} (h:H a=some o) (h':H b=some u) (d:o≠u):a≠b:=by
 intro e;subst e;rw [h] at h';exact d (RI h')
theorem aB {H:Hp} {a b:Q7} {o:HO} (h:H a=some o) (h':H b=none):a≠b:=by
 intro e;subst e;rw [h] at h';cases h'
section
variable (P:RL) (w:R1)
def ObjOk (H:Hp) (h:SE) (a:Q7):HO->Prop
 | .lst xs=>xs.length<=Ry/\∃ (its:List Q6) (n:Nat),Vals xs its/\h.get? a=some { cls:=.type "list",data:=.seq its.toArray n }
 | .tup xs=>xs.length<=Ry/\∃ (its:List Q6) (n:Nat),Vals xs its/\h.get? a=some { cls:=.type "tuple",data:=.seq its.toArray n }
 | .dK Aa=>Aa.length<=Ry/\(a == Vm)=false/\∃ vs,KV Aa vs/\h.DictOf (b9 P w) a vs
 | .dT Aa=>Aa.length<=Ry/\(a == Vm)=false/\∃ xs:List (List Key×Q7×Q6),
  R3 (fun (p:List Key×V) (q:List Key×Q7×Q6)=>p.1=q.1/\H q.2.1=some (.tup (p.1.map kV))/\RelV p.2 q.2.2) Aa xs ∧
  ∃ o es ep,h.get? a=some o/\o.ExactDict/\o.data=.dict es ep/\es.toList=xs.map (entryOfKey (tupleKind (b9 P w)))/\(xs.map (·.1)).Nodup
 | .set S n=>h.SetOf (intKind P w) a S n
 | .ins C dx fs=>H dx=some (.own a)/\fs.length<=1000/\dx≠a/\h.get? a=some (T7 C dx) ∧
  ∃ mA,h.Ns1 dx mA/\(∀ f,RelO (fs.lookup f) (mA f))/\PySem.Within mA (fs.map (·.1))
 | .own _=>∃ o,h.get? a=some o
 | .xd fs=>∃ mA,h.Ns1 a mA/\∀ f,RelO (fs.lookup f) (mA f)
 | .rng lo hi=>∃ t u v,h.get? a=some { cls:=.type "range",data:=.fields #[.int lo t,.int hi u,.int 1 v] }
 | .frz o u=>h.get? a=some o/\ObjOk H h a u
 | .tbl ps=>h.get? a=some { cls:=.none,data:=.fields ps }
 | .met f x=>h.get? a=some (WJ (.ref f) (.ref x))
 | .ext φ=>φ h/\(∃ o,h.get? a=some o)/\∀ h1 h2:SE,φ h1->(∀ o,h1.get? a=some o->h2.get? a=some o)->φ h2
def HOk (H:Hp) (h:SE):Prop:=∀ a o,H a=some o->ObjOk P w H h a o
end
section
variable {P:RL} {w:R1} {H H':Hp} {h h':SE} {a:Q7} {o:HO}
theorem ObjOk.lt (x:ObjOk P w H h a o):a<h.objs.size:=by
 cases o with
 | lst xs=>obtain ⟨_,_,_,_,e⟩:=x;exact Rv e
 | tup xs=>obtain ⟨_,_,_,_,e⟩:=x;exact Rv e
 | dK Aa=>obtain ⟨_,_,_,_,o,_,_,e,_⟩:=x;exact Rv e
 | dT Aa=>obtain ⟨_,_,_,_,o,_,_,e,_⟩:=x;exact Rv e
 | set S n=>obtain ⟨o,_,_,_,e,_⟩:=x;exact Rv e
 | ins C dx fs=>obtain ⟨_,_,_,e,_⟩:=x;exact Rv e
 | own y=>obtain ⟨_,e⟩:=x;exact Rv e
 | xd fs=>obtain ⟨_,⟨_,_,_,e,_⟩,_⟩:=x;exact Rv e
 | rng lo hi=>obtain ⟨_,_,_,e⟩:=x;exact Rv e
 | frz ob u=>obtain ⟨e,_⟩:=x;exact Rv e
 | tbl ps=>exact Rv (show h.get? a=some _ from x)
 | met f y=>exact Rv (show h.get? a=some _ from x)
 | ext φ=>obtain ⟨_,⟨_,e⟩,_⟩:=x;exact Rv e
theorem R3.mapP {α β:Type} {F G:α->β->Prop}:∀ {FR:List α} {l₂:List β},R3 F FR l₂->(∀ a b,F a b->G a b)->R3 G FR l₂
 | _,_,.nil,_=>.nil
 | _,_,.cons r t,f=>.cons (f _ _ r) (R3.mapP t f)
theorem ObjOk.stay (x:ObjOk P w H h a o) (k:∀ b u,(b=a∨H b=some (.own a))->h.get? b=some u->h'.get? b=some u)
 (ho:∀ b,H b=some (.own a)->H' b=some (.own a)) (ht:∀ b xs,H b=some (.tup xs)->H' b=some (.tup xs)):ObjOk P w H' h' a o:=by
 induction o with
 | lst xs=>obtain ⟨z,its,n,r,e⟩:=x;exact ⟨z,its,n,r,k _ _ (.inl rfl) e⟩
 | tup xs=>obtain ⟨z,its,n,r,e⟩:=x;exact ⟨z,its,n,r,k _ _ (.inl rfl) e⟩
 | dK Aa=>obtain ⟨z,y,vs,r,ob,es,ep,e,c⟩:=x;exact ⟨z,y,vs,r,ob,es,ep,k _ _ (.inl rfl) e,c⟩
 | dT Aa =>
   obtain ⟨z,y,xs,r,ob,es,ep,e,c⟩:=x;exact ⟨z,y,xs,R3.mapP r fun p q z=>⟨z.1,ht _ _ z.2.1,z.2.2⟩,ob,es,ep,k _ _ (.inl rfl) e,c⟩
 | set S n=>obtain ⟨ob,es,ep,t,e,c⟩:=x;exact ⟨ob,es,ep,t,k _ _ (.inl rfl) e,c⟩
 | ins C dx fs =>
   obtain ⟨d,z,ne,e,mA,⟨od,es,ep,e2,c⟩,r⟩:=x;exact ⟨ho _ d,z,ne,k _ _ (.inl rfl) e,mA,⟨od,es,ep,k _ _ (.inr d) e2,c⟩,r⟩
 | own y=>obtain ⟨ob,e⟩:=x;exact ⟨ob,k _ _ (.inl rfl) e⟩
 | xd fs=>obtain ⟨mA,⟨od,es,ep,e,c⟩,r⟩:=x;exact ⟨mA,⟨od,es,ep,k _ _ (.inl rfl) e,c⟩,r⟩
 | rng lo hi=>obtain ⟨t,u,v,e⟩:=x;exact ⟨t,u,v,k _ _ (.inl rfl) e⟩
 | frz ob u ih=>obtain ⟨e,q⟩:=x;exact ⟨k _ _ (.inl rfl) e,ih q⟩
 | tbl ps =>
   have e:h.get? a=some { cls:=.none,data:=.fields ps }:=x;show h'.get? a=some { cls:=.none,data:=.fields ps };exact k a _ (.inl rfl) e
 | met f y =>
   have e:h.get? a=some (WJ (.ref f) (.ref y)):=x;show h'.get? a=some (WJ (.ref f) (.ref y));exact k a _ (.inl rfl) e
 | ext φ=>obtain ⟨p,⟨o,e⟩,st⟩:=x;exact ⟨st _ _ p fun o q=>k _ _ (.inl rfl) q,⟨o,k _ _ (.inl rfl) e⟩,st⟩
theorem HOk.lt (x:HOk P w H h) (e:H a=some o):a<h.objs.size:=(x a o e).lt
theorem HOk.fresh (x:HOk P w H h) (e:h.objs.size<=a):H a=none:=by
 cases q:H a with
 | none=>rfl
 | some u=>exact absurd (RU (x.lt q) e) (SK _)
theorem HOk.kept (x:HOk P w H h) (k:∀ b u,h.get? b=some u->h'.get? b=some u):HOk P w H h':=fun a o e =>
 (x a o e).stay (fun b u _ q=>k b u q) (fun _ q=>q) fun _ _ q=>q
theorem HOk.laid (x:HOk P w H h) (k:∀ b u,h.get? b=some u->h'.get? b=some u) (hp:h.objs.size<=a) (new:ObjOk P w (upd H a o) h' a o):HOk P w (upd H a o) h':=fun b u e=>by
 have hn:=x.fresh hp;by_cases hb:b=a
 · subst hb;rw [ac] at e;cases e;exact new
 · rw [al hb] at e;exact (x b u e).stay (fun c v _ q=>k c v q) (fun c q=>by rw [al (aB q hn)];exact q) fun c xs q=>by rw [al (aB q hn)];exact q
end
def Rd (H:Hp) (a:Q7) (u:HO):Prop:=H a=some u∨∃ o,H a=some (.frz o u)
theorem Rd.ok {P:RL} {w:R1} {H:Hp} {h:SE} {a:Q7} {u:HO} (r:Rd H a u) (x:HOk P w H h):ObjOk P w H h a u:=by
 rcases r with r | ⟨o,r⟩
 · exact x a u r
 · obtain ⟨_,q⟩:=x a _ r;exact q
def Mut:Option HO->Prop
 | some (.lst _)=>True
 | some (.dK _)=>True
 | some (.dT _)=>True
 | some (.set _ _)=>True
 | some (.ins _ _ _)=>True
 | some (.ext _)=>True
 | _=>False
section
variable {P:RL} {w:R1} {H:Hp} {h h':SE} {x e:Q7} {o':HO}
theorem HOk.write (ok:HOk P w H h) (mu:Mut (H x)) (he:e=x∨H e=some (.own x)) (k:∀ b u,b≠e->h.get? b=some u->h'.get? b=some u) (Fo:∃ u,h'.get? e=some u)
 (new:ObjOk P w (upd H x o') h' x o'):HOk P w (upd H x o') h':=fun b u q=>by
 have FT:∀ c y,H c=some (.own y)->c≠x:=fun c y r z=>by subst z;rw [r] at mu;exact mu
 have Jd:∀ c xs,H c=some (.tup xs)->c≠x:=fun c xs r z=>by subst z;rw [r] at mu;exact mu
 by_cases hb:b=x
 · subst hb;rw [ac] at q;cases q;exact new
 · rw [al hb] at q;by_cases CI:b=e
   · have q':H b=some (.own x):=by
      rcases he with z | z
      · exact absurd (CI.trans z) hb
      · rw [CI];exact z
     rw [q] at q';cases q';obtain ⟨v,hv⟩:=Fo;exact ⟨v,by rw [CI];exact hv⟩
   · refine (ok b u q).stay (fun c v hc r=>k c v ?_ r) (fun c r=>by rw [al (FT c b r)];exact r) fun c xs r=>by rw [al (Jd c xs r)];exact r
     rcases hc with rfl | hc
     · exact CI
     · rintro rfl;rcases he with z | z
       · exact FT c b hc z
       · rw [hc] at z;cases z;exact hb rfl
end
structure Un (fs ex:List Q7) (H H':Hp) (h h':SE):Prop where
 keep:∀ b o,h.get? b=some o->H b=none->b∉fs->b∉ex->h'.get? b=some o
 slot:∀ b o,h.get? b=some o->H b=none->b∈fs->b∉ex->∃ sl,h'.get? b=some { o with slots:=sl }
 free:∀ b o,h.get? b=some o->H b=none->b∉ex->H' b=none
 there:∀ b o,h.get? b=some o->b∉ex->∃ o',h'.get? b=some o'
 tups:∀ b xs,H b=some (.tup xs)->H' b=some (.tup xs)
 frzs:∀ b o u,H b=some (.frz o u)->H' b=some (.frz o u)
 tbls:∀ b ps,H b=some (.tbl ps)->∃ more,H' b=some (.tbl (ps++more))
section
variable {fs Fp ex HU:List Q7} {H H1 H2:Hp} {h h1 h2 h':SE} {a x e:Q7} {o:HO}
theorem Un.any (u:Un fs ex H H1 h h1) {b:Q7} {ob:T1} (q:h.get? b=some ob) (n:H b=none) (hx:b∉ex):∃ sl,h1.get? b=some { ob with slots:=sl }:=by
 by_cases hb:b∈fs
 · exact u.slot b ob q n hb hx
 · exact ⟨ob.slots,u.keep b ob q n hb hx⟩
theorem Un.kept (k:∀ b u,h.get? b=some u->h'.get? b=some u):Un fs ex H H h h' :=
 ⟨fun b ob q _ _ _=>k b ob q,fun b ob q _ _ _=>⟨ob.slots,k b ob q⟩,fun _ _ _ n _=>n,fun b ob q _=>⟨ob,k b ob q⟩,fun _ _ q=>q,fun _ _ _ q=>q,fun _ ps q=>⟨#[],by rw [q];simp⟩⟩
theorem Un.refl:Un fs ex H H h h:=Un.kept fun _ _ q=>q
theorem Un.laid (k:∀ b u,h.get? b=some u->h'.get? b=some u) (hp:h.objs.size<=a) (hn:H a=none):Un fs ex H (upd H a o) h h' where
 keep:=fun b u q _ _ _=>k b u q
 slot:=fun b u q _ _ _=>⟨u.slots,k b u q⟩
 free:=fun b u q n _=>by rw [al (RT (RU (Rv q) hp))];exact n
 there:=fun b u q _=>⟨u,k b u q⟩
 tups:=fun b xs q=>by rw [al (aB q hn)];exact q
 frzs:=fun b u xs q=>by rw [al (aB q hn)];exact q
 tbls:=fun b ps q=>⟨#[],by rw [al (aB q hn),q];simp⟩
theorem Un.write (mu:Mut (H x)) (he:e=x∨H e=some (.own x)) (k:∀ b u,b≠e->h.get? b=some u->h'.get? b=some u) (Fo:∃ u,h'.get? e=some u):Un fs ex H (upd H x o) h h':=by
 have hx:∀ b,H b=none->b≠x:=fun b n z=>by subst z;rw [n] at mu;exact mu
 have hb:∀ b,H b=none->b≠e:=fun b n z=>by
  subst z;rcases he with r | r
  · exact hx b n r
  · rw [n] at r;cases r
 have hm:∀ b u,H b=some u->¬ Mut (some u)->b≠x:=fun b u q nm z=>by subst z;rw [q] at mu;exact nm mu
 refine ⟨fun b u q n _ _=>k b u (hb b n) q,fun b u q n _ _=>⟨u.slots,k b u (hb b n) q⟩,fun b u q n _=>by rw [al (hx b n)];exact n,fun b u q _=>?_,
  fun b xs q=>by rw [al (hm b _ q fun z=>z)];exact q,fun b u xs q=>by rw [al (hm b _ q fun z=>z)];exact q,fun b ps q=>⟨#[],by rw [al (hm b _ q fun z=>z),q];simp⟩⟩
 by_cases CI:b=e
 · subst CI;exact Fo
 · exact ⟨u,k b u CI q⟩
end
def trk (h:SE) (H:Hp):List Q7:=(Sn h.objs.size).filter fun a=>(H a).isSome
def qc (h:SE) (H:Hp):SE:=PySem.W.hideAll h (trk h H)
theorem uK (h:SE) (H:Hp):(qc h H).objs.size=h.objs.size:=PySem.W.hideAll_size _ _
theorem vS {h:SE} {H:Hp} {b:Q7} {o:T1} (e:h.get? b=some o) (n:H b=none):(qc h H).get? b=some o :=
 PySem.W.hideAll_get _ e fun hm=>by
  have q:(H b).isSome=true:=(Vj.mp hm).2;rw [n] at q;simp at q
theorem xP {h:SE} {H:Hp} {b:Q7} {o:T1} (e:(qc h H).get? b=some o):h.get? b=some o/\H b=none:=by
 have e':h.get? b=some o:=PySem.W.of_hideAll (trk h H) e;refine ⟨e',?_⟩;cases q:H b with
 | none=>rfl
 | some x =>
   have hm:b∈trk h H:=Vj.mpr ⟨V9.mpr (Rv e'),by simp [q]⟩;have z:(qc h H).get? b=none:=PySem.W.hideAll_none (trk h H) hm;rw [z] at e;cases e
end L2
namespace L2
open PySem PySem.Spec PyProof.Rows
structure Mod (K:Q4) (mg:Ru->Option Q6) (base:SE):Prop where
 kin:K.In base
 glob:base.Ns RK mg
 blt:∃ mb,base.Ns builtinsNs mb/\∀ x:Ru,x≠"__name__"->mb x=VB x
 nolimit:base.NoLimit
set_option genInjectivity true in
structure Cx where
 prog:RL
 w:R1
 K:Q4
 mg:Ru->Option Q6
 base:SE
 A:R6
 N:List Ru
 s₀:Q9
 H₀:Hp
 env:Env
 outer:List Env
 stack:List Env
 ex:List Q7
 fn:Ru->Bool
 calm:Bool
 pn:List (Q7×T1)
 xe:Q6->Q9->Prop
def frs (l:List Env):List Q7:=l.filterMap (·.frame)
abbrev Cx.fs (X:Cx):List Q7:=frs X.outer
def Vis (sc:U8) (x:Ru):Prop:=sc.names.lookup x=some .local∨sc.names.lookup x=some .cell∨sc.names.lookup x=some .free
def Loc (sc:U8) (x:Ru):Prop:=sc.names.lookup x=some .local∨sc.names.lookup x=some .cell
def Look (env:Env) (h:SE) (m:Ru->Option Q6) (x:Ru) (u:Q6):Prop :=
 (env.kindOf x=some .local/\m x=some u)∨((env.kindOf x=some .cell∨env.kindOf x=some .free)/\∃ c,env.cells.lookup x=some c/\h.IsCell c (some u))
structure Cx.Ok (X:Cx):Prop where
 mod:Mod X.K X.mg X.base
 kind:X.env.scope.kind=.function
 glob:X.env.globals=RK
 blt:X.env.builtins=builtinsNs
 above:X.s₀.heap.objs.size<=X.env.locals
 inj:∀ x y c,X.env.cells.lookup x=some c->X.env.cells.lookup y=some c->x=y
 has:∀ x,(X.env.kindOf x=some .cell∨X.env.kindOf x=some .free)->∃ c,X.env.cells.lookup x=some c
 cab:∀ x c,X.fn x=true->X.env.cells.lookup x=some c->X.s₀.heap.objs.size<=c
 hd:X.calm=true->X.A.handled=none
 frames:X.A.frames=some X.stack
 stk:X.stack=X.outer∨(X.stack=X.env::X.outer/\X.env.frame=some X.env.locals)
 exf:∀ b∈X.ex,b≠X.env.locals/\∀ x c,X.env.cells.lookup x=some c->c≠b
 bs:∀ b o,X.base.get? b=some o->X.s₀.heap.get? b=some o/\X.H₀ b=none
 bsz:X.base.objs.size<=X.s₀.heap.objs.size
 noex:∀ b o,X.base.get? b=some o->b∉X.ex
 exfs:∀ b∈X.ex,b∉X.fs
 funs:X.s₀.heap.FunFrames X.base X.outer
 frf:∀ b∈X.fs,X.H₀ b=none
structure Inv (X:Cx) (pins:List (Q7×T1)) (σ:List (Option V)) (H:Hp) (s:Q9):Prop where
 ok:X.Ok
 os:s.os=X.s₀.os
 bare:AllBare s.gens
 base:Un X.fs X.ex X.H₀ H X.s₀.heap s.heap
 loc:∃ m,s.heap.Ns X.env.locals m/\∀ (i:Nat) (x:Ru) (v:V),X.N[i]?=some x->σ[i]?=some (some v)->Vis X.env.scope x->∃ u,RelV v u/\Look X.env s.heap m x u
 cell:∀ x c,X.env.cells.lookup x=some c->∃ v,s.heap.IsCell c v
 free:H X.env.locals=none
 freeC:∀ x c,X.env.cells.lookup x=some c->H c=none
 pin:∀ p∈X.pn++pins,s.heap.get? p.1=some p.2/\H p.1=none/\p.1≠X.env.locals/\p.1∉X.fs/\∀ v,p.2.data≠.cell v
 hok:HOk X.prog X.w H s.heap
 len:σ.length=X.N.length
section
variable {X:Cx} {pins:List (Q7×T1)} {σ:List (Option V)} {H H':Hp} {s:Q9} {h':SE}
theorem Cx.Ok.nofr (ok:X.Ok) {b:Q7} {o:T1} (e:X.base.get? b=some o):b∉X.fs:=fun hb=>by
 have:=(ok.funs.mem hb).1;rw [e] at this;cases this
theorem Inv.bs (I:Inv X pins σ H s):∀ b o,X.base.get? b=some o->s.heap.get? b=some o/\H b=none:=fun b o e =>
 ⟨I.base.keep b o (I.ok.bs b o e).1 (I.ok.bs b o e).2 (I.ok.nofr e) (I.ok.noex b o e),I.base.free b o (I.ok.bs b o e).1 (I.ok.bs b o e).2 (I.ok.noex b o e)⟩
theorem Inv.bk (I:Inv X pins σ H s):∀ b o,X.base.get? b=some o->s.heap.get? b=some o:=fun b o e=>(I.bs b o e).1
theorem Inv.mod (I:Inv X pins σ H s):Mod X.K X.mg X.base:=I.ok.mod
theorem Inv.kIn (I:Inv X pins σ H s):X.K.In s.heap:=I.ok.mod.kin.keeps I.bk
theorem Inv.lt (I:Inv X pins σ H s):X.env.locals<s.heap.objs.size:=let ⟨_,hn,_⟩:=I.loc;hn.lt
theorem Inv.sz (I:Inv X pins σ H s):X.s₀.heap.objs.size<=s.heap.objs.size:=Sw I.ok.above (Tc I.lt)
theorem Inv.nofs (I:Inv X pins σ H s) {a:Q7} (h:s.heap.objs.size<=a):a∉X.fs:=fun hb=>by
 obtain ⟨_,o,ho,_⟩:=I.ok.funs.mem hb;exact absurd (RU (Rv ho) (Sw I.sz h)) (SK _)
theorem Inv.cne (I:Inv X pins σ H s):∀ x c,X.env.cells.lookup x=some c->c≠X.env.locals:=fun x c e z=>by
 obtain ⟨v,o,ho,hd⟩:=I.cell x c e;obtain ⟨m,⟨o',es,ep,C8,Je,_⟩,_⟩:=I.loc;rw [z,C8] at ho;cases ho;rw [Je] at hd;cases hd
theorem Inv.funs (I:Inv X pins σ H s):s.heap.FunFrames X.base X.outer:=by
 have all:∀ (l:List Env),(∀ b∈frs l,b∈X.fs)->X.s₀.heap.FunFrames X.base l->s.heap.FunFrames X.base l:=by
  intro l;induction l with
  | nil=>intro _ _;trivial
  | cons env r ih =>
    intro hs hl;obtain ⟨hk,⟨L,o,hf,hn,ho,hd⟩,hr⟩:=hl;have hL:L∈X.fs:=hs L (by unfold frs;rw [UQ,hf];exact Rn);obtain ⟨sl,e⟩:=I.base.slot L o ho (I.ok.frf L hL) hL fun z=>I.ok.exfs L z hL;exact ⟨hk,⟨L,_,hf,hn,e,hd⟩,ih (fun b hb=>hs b (by unfold frs;rw [UQ,hf];exact Ri _ hb)) hr⟩
 exact all X.outer (fun _ hb=>hb) I.ok.funs
theorem Inv.stack (I:Inv X pins σ H s):s.heap.FunFrames X.base X.stack:=by
 rcases I.ok.stk with e | ⟨e,hf⟩
 · rw [e];exact I.funs
 · rw [e];obtain ⟨m,hn,_⟩:=I.loc;refine .cons (by rw [I.ok.kind];decide) hf hn ?_ I.funs;exact Heap.get?_none_of_le (Sw I.ok.bsz I.ok.above)
theorem Inv.stkSub (I:Inv X pins σ H s):∀ b∈frs X.stack,b∈X.env.locals::X.fs:=fun b hb=>by
 rcases I.ok.stk with e | ⟨e,hf⟩
 · rw [e] at hb;exact Ri _ hb
 · rw [e] at hb;unfold frs at hb;rw [UQ,hf] at hb;exact hb
theorem Inv.stkFree (I:Inv X pins σ H s):∀ b∈frs X.stack,H b=none:=fun b hb=>by
 rcases Rq.mp (I.stkSub b hb) with e | hb
 · rw [e];exact I.free
 · obtain ⟨_,o,ho,_⟩:=I.ok.funs.mem hb;exact I.base.free b o ho (I.ok.frf b hb) fun z=>I.ok.exfs b z hb
theorem Inv.step {g':Array GenState} {t':Nat} {d':Drawn} {ch:List Q7} (I:Inv X pins σ H s)
 (DE:∀ b∈ch,(b∈X.ex∨X.s₀.heap.objs.size<=b)/\b≠X.env.locals/\(∀ x c,X.env.cells.lookup x=some c->c≠b)/\∀ p∈X.pn++pins,p.1≠b)
 (keep:∀ b o,b≠X.env.locals->b∉X.fs->b∉ch->s.heap.get? b=some o->H b=none->h'.get? b=some o)
 (slot:∀ b o,b≠X.env.locals->b∈X.fs->b∉ch->s.heap.get? b=some o->H b=none->∃ sl,h'.get? b=some { o with slots:=sl }) (free:∀ b o,b∉ch->s.heap.get? b=some o->H b=none->H' b=none)
 (there:∀ b o,b∉ch->s.heap.get? b=some o->∃ o',h'.get? b=some o')
 (tups:∀ b xs,H b=some (.tup xs)->H' b=some (.tup xs)) (frzs:∀ b o u,H b=some (.frz o u)->H' b=some (.frz o u)) (tbls:∀ b ps,H b=some (.tbl ps)->∃ more,H' b=some (.tbl (ps++more)))
 (ns:∀ m,s.heap.Ns X.env.locals m->h'.Ns X.env.locals m) (hok:HOk X.prog X.w H' h') (hg:AllBare g') :
 Inv X pins σ H' { s with heap:=h',gens:=g',drawn:=d',toks:=t' }:=by
 have LD:∀ b o,X.s₀.heap.get? b=some o->b≠X.env.locals:=fun b o e=>RT (RU (Rv e) I.ok.above)
 have HV:∀ b o,X.s₀.heap.get? b=some o->b∉X.ex->b∉ch:=fun b o e hx hb=>by
  rcases (DE b hb).1 with z | z
  · exact hx z
  · exact absurd (RU (Rv e) z) (SK _)
 have cellK:∀ x c,X.env.cells.lookup x=some c->∀ v,s.heap.IsCell c v->h'.IsCell c v:=fun x c e v ⟨o,ho,hd⟩=>by
  have FU:c∉ch:=fun z=>(DE c z).2.2.1 x c e rfl;by_cases hc:c∈X.fs
  · obtain ⟨sl,q⟩:=slot c o (I.cne x c e) hc FU ho (I.freeC x c e);exact ⟨_,q,hd⟩
  · exact ⟨o,keep c o (I.cne x c e) hc FU ho (I.freeC x c e),hd⟩
 refine ⟨I.ok,I.os,hg,⟨fun b o e n hb hx=>?_,fun b o e n hb hx=>?_,fun b o e n hx=>?_,fun b o e hx=>?_,fun b xs e=>tups b xs (I.base.tups b xs e),fun b o xs e=>frzs b o xs (I.base.frzs b o xs e),fun b ps e=>?_⟩,?_,fun x c e=>?_,?_,fun x c e=>?_,fun p hp=>?_,hok,I.len⟩
 · exact keep b o (LD b o e) hb (HV b o e hx) (I.base.keep b o e n hb hx) (I.base.free b o e n hx)
 · obtain ⟨sl,e1⟩:=I.base.slot b o e n hb hx;obtain ⟨Nl,e2⟩:=slot b _ (LD b o e) hb (HV b o e hx) e1 (I.base.free b o e n hx);exact ⟨Nl,e2⟩
 · obtain ⟨o',e1⟩:=I.base.there b o e hx;exact free b o' (HV b o e hx) e1 (I.base.free b o e n hx)
 · obtain ⟨o',e1⟩:=I.base.there b o e hx;exact there b o' (HV b o e hx) e1
 · obtain ⟨m1,e1⟩:=I.base.tbls b ps e;obtain ⟨m2,e2⟩:=tbls b _ e1;exact ⟨m1++m2,by rw [e2,WC]⟩
 · obtain ⟨m,hn,hl⟩:=I.loc;refine ⟨m,ns m hn,fun i x v e1 e2 e3=>?_⟩;obtain ⟨u,r,l⟩:=hl i x v e1 e2 e3;refine ⟨u,r,?_⟩;rcases l with l | ⟨k,c,e,z⟩
   · exact .inl l
   · exact .inr ⟨k,c,e,cellK x c e _ z⟩
 · obtain ⟨v,z⟩:=I.cell x c e;exact ⟨v,cellK x c e v z⟩
 · obtain ⟨m,⟨o,_,_,ho,_⟩,_⟩:=I.loc;exact free _ o (fun z=>(DE _ z).2.1 rfl) ho I.free
 · obtain ⟨v,o,ho,hd⟩:=I.cell x c e;exact free c o (fun z=>(DE c z).2.2.1 x c e rfl) ho (I.freeC x c e)
 · obtain ⟨e,n,ne,nf,d⟩:=I.pin p hp;have FU:p.1∉ch:=fun z=>(DE p.1 z).2.2.2 p hp rfl;exact ⟨keep p.1 p.2 ne nf FU e n,free p.1 p.2 FU e n,ne,nf,d⟩
theorem Inv.un {t':Nat} (I:Inv X pins σ H s) (u:Un X.fs [] H H' s.heap h') (hok:HOk X.prog X.w H' h'):Inv X pins σ H' { s with heap:=h',toks:=t' }:=by
 obtain ⟨m,⟨o,es,ep,ho,r⟩,_⟩:=id I.loc;obtain ⟨sl,hL⟩:=u.any ho I.free (by simp)
 exact I.step (g':=s.gens) (d':=s.drawn) (ch:=[]) (fun _ z=>nomatch z) (fun b o _ hb _ e n=>u.keep b o e n hb (by simp)) (fun b o _ hb _ e n=>u.slot b o e n hb (by simp)) (fun b o _ e n=>u.free b o e n (by simp)) (fun b o _ e=>u.there b o e (by simp)) u.tups u.frzs u.tbls (fun m' hm=>by
  obtain ⟨o',Jf,Jg,C8,r'⟩:=hm;rw [ho] at C8;cases C8;exact ⟨_,Jf,Jg,hL,r'⟩) hok I.bare
theorem Inv.call {g':Array GenState} {t':Nat} {d':Drawn} {ch:List Q7} (I:Inv X pins σ H s) (u:Un (frs X.stack) ch H H' s.heap h') (hok:HOk X.prog X.w H' h') (hg:AllBare g')
 (DE:∀ b∈ch,(b∈X.ex∨X.s₀.heap.objs.size<=b)/\b≠X.env.locals/\(∀ x c,X.env.cells.lookup x=some c->c≠b)/\∀ p∈X.pn++pins,p.1≠b) :
 Inv X pins σ H' { s with heap:=h',gens:=g',drawn:=d',toks:=t' }:=by
 obtain ⟨m,⟨o,es,ep,ho,r⟩,_⟩:=id I.loc;obtain ⟨sl,hL⟩:=u.any ho I.free fun z=>(DE _ z).2.1 rfl
 exact I.step (ch:=ch) DE (fun b o hL hb hc e n=>u.keep b o e n (fun z=>(Rq.mp (I.stkSub b z)).elim hL hb) hc) (fun b o _ _ hc e n=>u.any e n hc) (fun b o hc e n=>u.free b o e n hc) (fun b o hc e=>u.there b o e hc) u.tups u.frzs u.tbls (fun m' hm=>by
  obtain ⟨o',Jf,Jg,C8,r'⟩:=hm;rw [ho] at C8;cases C8;exact ⟨_,Jf,Jg,hL,r'⟩) hok hg
theorem Inv.turned {t':Nat} {it:Q7} (I:Inv X pins σ H s) (k:∀ b o,b≠it->s.heap.get? b=some o->h'.get? b=some o) (hn:H it=none) (hL:it≠X.env.locals)
 (h1:it∈X.ex∨X.s₀.heap.objs.size<=it) (h2:∀ x c,X.env.cells.lookup x=some c->c≠it) (h3:∀ p∈X.pn++pins,p.1≠it):Inv X pins σ H { s with heap:=h',toks:=t' }:=by
 have FV:∀ b u,H b=some u->b≠it:=fun b u e z=>by rw [z,hn] at e;cases e
 refine I.step (g':=s.gens) (d':=s.drawn) (ch:=[it]) (fun b hb=>?_) (fun b o _ _ hc e _=>k b o (fun z=>hc (by simp [z])) e) (fun b o _ _ hc e _=>⟨o.slots,k b o (fun z=>hc (by simp [z])) e⟩) (fun _ _ _ _ n=>n)
  (fun b o hc e=>⟨o,k b o (fun z=>hc (by simp [z])) e⟩) (fun _ _ e=>e) (fun _ _ _ e=>e) (fun b ps e=>⟨#[],by rw [e];simp⟩) (fun m hm=>?_) (fun b u e=>?_) I.bare
 · have e:b=it:=by simpa using hb
   subst e;exact ⟨h1,hL,h2,h3⟩
 · obtain ⟨o,es,ep,ho,r⟩:=hm;exact ⟨o,es,ep,k _ o (UX hL) ho,r⟩
 · refine (I.hok b u e).stay (fun c v hc q=>k c v ?_ q) (fun _ q=>q) fun _ _ q=>q;rcases hc with z | z
   · rw [z];exact FV b u e
   · exact FV c _ z
theorem Inv.tok (I:Inv X pins σ H s) (t:Nat):Inv X pins σ H { s with toks:=t }:=I.un (h':=s.heap) (t':=t) Un.refl I.hok
theorem Inv.kept {t':Nat} (I:Inv X pins σ H s) (k:∀ b u,s.heap.get? b=some u->h'.get? b=some u):Inv X pins σ H { s with heap:=h',toks:=t' }:=I.un (Un.kept k) (I.hok.kept k)
theorem Inv.laid {a:Q7} {o:HO} {t':Nat} (I:Inv X pins σ H s) (k:∀ b u,s.heap.get? b=some u->h'.get? b=some u) (hp:s.heap.objs.size<=a) (new:ObjOk X.prog X.w (upd H a o) h' a o) :
 Inv X pins σ (upd H a o) { s with heap:=h',toks:=t' }:=I.un (Un.laid k hp (I.hok.fresh hp)) (I.hok.laid k hp new)
theorem Inv.write {x e:Q7} {o:HO} {t':Nat} (I:Inv X pins σ H s) (mu:Mut (H x)) (he:e=x∨H e=some (.own x)) (k:∀ b u,b≠e->s.heap.get? b=some u->h'.get? b=some u) (Fo:∃ u,h'.get? e=some u)
 (new:ObjOk X.prog X.w (upd H x o) h' x o):Inv X pins σ (upd H x o) { s with heap:=h',toks:=t' }:=I.un (Un.write mu he k Fo) (I.hok.write mu he k Fo new)
theorem Inv.weak {Ab:List (Option V)} (I:Inv X pins σ H s) (hl:Ab.length=σ.length) (w:∀ (i:Nat) v,Ab[i]?=some (some v)->σ[i]?=some (some v)):Inv X pins Ab H s :=
 ⟨I.ok,I.os,I.bare,I.base,let ⟨m,hn,C9⟩:=I.loc;⟨m,hn,fun i x v e1 e2 e3=>C9 i x v e1 (w i v e2) e3⟩,I.cell,I.free,I.freeC,I.pin,I.hok,hl.trans I.len⟩
theorem Inv.pins_of {D':List (Q7×T1)} (I:Inv X pins σ H s) (h:∀ p∈D',s.heap.get? p.1=some p.2/\H p.1=none/\p.1≠X.env.locals/\p.1∉X.fs/\∀ v,p.2.data≠.cell v):Inv X D' σ H s :=
 ⟨I.ok,I.os,I.bare,I.base,I.loc,I.cell,I.free,I.freeC,fun p hp=>(RE.mp hp).elim (fun z=>I.pin p (Ug _ z)) (h p),I.hok,I.len⟩
theorem ji {N:List Ru} (hN:N.Nodup) {i j:Nat} {x:Ru} (a:N[i]?=some x) (b:N[j]?=some x):i=j:=by
 obtain ⟨h1,e1⟩:=Rm.mp a;obtain ⟨h2,e2⟩:=Rm.mp b;exact (List.getElem_inj hN).mp (e1.trans e2.symm)
theorem oA {M:Model} {A:R6} {E:Q6->Q9->Prop} {i:Nat} {x:Ru} {v:V} {u:Q6} {Q:Unit->Q9->Prop} (I:Inv X pins σ H s) (hN:X.N.Nodup) (hi:X.N[i]?=some x) (hx:Loc X.env.scope x) (r:RelV v u)
 (h:∀ s',Inv X pins (σ.set i (some v)) H s'->(∃ a,TK a s.heap s'.heap/\(a=X.env.locals∨X.env.cells.lookup x=some a))->Q () s') (hf:X.fn x=true∨X.env.scope.names.lookup x=some .local:=by first | exact .inl rfl | exact .inr rfl | assumption):Rw M A (storeName X.env x u) Q E s:=by
 obtain ⟨m,hn,hl⟩:=id I.loc;have Ez:(X.env.scope.kind == .class || (X.env.scope.kind == .module && X.env.locals != X.env.globals))=false:=by rw [I.ok.kind];rfl
 have DO:i<σ.length:=by rw [I.len];exact (Rm.mp hi).1
 have cne:=I.cne
 have tracked:∀ {a:Q7} {h':SE},(∃ o,s.heap.get? a=some o/\H a=none)->TK a s.heap h'->HOk X.prog X.w H h':=fun {a h'} ha hs b ob e=>by
  obtain ⟨_,_,BY⟩:=ha;refine (I.hok b ob e).stay (fun c w' hc q=>(hs.2 c ?_).trans q) (fun _ q=>q) fun _ _ q=>q;rintro rfl;rcases hc with rfl | hc
  · rw [BY] at e;cases e
  · rw [BY] at hc;cases hc
 rcases hx with hk | hk
 · refine wpAny_storeName_local hk hn (fun h' HW hs=>?_) Ez;obtain ⟨oL,_,_,Jh,_⟩:=id hn;refine h _ ⟨I.ok,I.os,I.bare,⟨fun b o e n hb hx=>?_,fun b o e n hb hx=>?_,I.base.free,fun b o e hx=>?_,I.base.tups,I.base.frzs,I.base.tbls⟩,⟨_,HW,fun j y v' e1 e2 e3=>?_⟩,fun y c e=>?_,I.free,I.freeC,fun p hp=>?_,tracked ⟨oL,Jh,I.free⟩ hs,by simpa using I.len⟩ ⟨_,hs,.inl rfl⟩
   · exact (hs.2 b (RT (RU (Rv e) I.ok.above))).trans (I.base.keep b o e n hb hx)
   · obtain ⟨sl,e1⟩:=I.base.slot b o e n hb hx;exact ⟨sl,(hs.2 b (RT (RU (Rv e) I.ok.above))).trans e1⟩
   · obtain ⟨o',e1⟩:=I.base.there b o e hx;exact ⟨o',(hs.2 b (RT (RU (Rv e) I.ok.above))).trans e1⟩
   · by_cases hj:j=i
     · subst hj;rw [hi] at e1;cases e1;rw [Uu DO] at e2;cases e2;exact ⟨u,r,.inl ⟨hk,by simp⟩⟩
     · rw [UI (UX hj)] at e2;obtain ⟨u',r',q⟩:=hl j y v' e1 e2 e3;refine ⟨u',r',?_⟩;rcases q with ⟨k,e⟩ | ⟨k,c,e,z⟩
       · refine .inl ⟨k,?_⟩;have:y≠x:=fun e=>hj (ji hN e1 (e ▸ hi));simp [this,e]
       · exact .inr ⟨k,c,e,z.sameBut hs (cne y c e)⟩
   · obtain ⟨w',z⟩:=I.cell y c e;exact ⟨w',z.sameBut hs (cne y c e)⟩
   · obtain ⟨e,n,ne,nf,d⟩:=I.pin p hp;exact ⟨(hs.2 p.1 ne).trans e,n,ne,nf,d⟩
 · have Ji:X.fn x=true:=by
    rcases hf with z | z
    · exact z
    · rw [z] at hk;cases hk
   obtain ⟨c,hc⟩:=I.ok.has x (.inl hk);obtain ⟨w',z⟩:=I.cell x c hc;refine wpAny_storeName_cell I.ok.kind hk hc z (fun h' Bm hs=>?_);obtain ⟨oc,LF,Jj⟩:=id z;refine h { s with heap:=h' } ⟨I.ok,I.os,I.bare,⟨fun b o e n hb hx=>?_,fun b o e n hb hx=>?_,I.base.free,fun b o e hx=>?_,I.base.tups,I.base.frzs,I.base.tbls⟩,⟨m,hn.sameBut hs (UX (cne x c hc)),fun j y v' e1 e2 e3=>?_⟩,fun y c' e=>?_,I.free,I.freeC,fun p hp=>?_,tracked ⟨oc,LF,I.freeC x c hc⟩ hs,by simpa using I.len⟩ ⟨c,hs,.inr hc⟩
   · exact (hs.2 b (RT (RU (Rv e) (I.ok.cab x c Ji hc)))).trans (I.base.keep b o e n hb hx)
   · obtain ⟨sl,e1⟩:=I.base.slot b o e n hb hx;exact ⟨sl,(hs.2 b (RT (RU (Rv e) (I.ok.cab x c Ji hc)))).trans e1⟩
   · obtain ⟨o',e1⟩:=I.base.there b o e hx;exact ⟨o',(hs.2 b (RT (RU (Rv e) (I.ok.cab x c Ji hc)))).trans e1⟩
   · by_cases hj:j=i
     · subst hj;rw [hi] at e1;cases e1;rw [Uu DO] at e2;cases e2;exact ⟨u,r,.inr ⟨.inl hk,c,hc,Bm⟩⟩
     · rw [UI (UX hj)] at e2;obtain ⟨u',r',q⟩:=hl j y v' e1 e2 e3;refine ⟨u',r',?_⟩;rcases q with q | ⟨k,c',e,z'⟩
       · exact .inl q
       · refine .inr ⟨k,c',e,z'.sameBut hs ?_⟩;rintro rfl;exact hj (ji hN e1 (I.ok.inj _ _ _ e hc ▸ hi))
   · by_cases Ea:c'=c
     · subst Ea;exact ⟨_,Bm⟩
     · obtain ⟨w2,z2⟩:=I.cell y c' e;exact ⟨w2,z2.sameBut hs Ea⟩
   · obtain ⟨e,n,ne,nf,d⟩:=I.pin p hp;refine ⟨(hs.2 p.1 ?_).trans e,n,ne,nf,d⟩;intro q;rw [q,LF] at e;have q':oc=p.2:=RI e;exact d w' (by rw [<- q'];exact Jj)
theorem jF {M:Model} {A:R6} {E:Q6->Q9->Prop} {i:Nat} {x:Ru} {v:V} {u:Q6} {Q:Unit->Q9->Prop} (I:Inv X pins σ H s) (hN:X.N.Nodup) (hi:X.N[i]?=some x) (hx:Loc X.env.scope x) (r:RelV v u)
 (h:∀ s',Inv X pins (σ.set i (some v)) H s'->Q () s') (hf:X.fn x=true∨X.env.scope.names.lookup x=some .local:=by first | exact .inl rfl | exact .inr rfl | assumption):Rw M A (storeName X.env x u) Q E s :=
 oA I hN hi hx r (fun s' I' _=>h s' I') hf
theorem Inv.call' {s':Q9} {ch:List Q7} (I:Inv X pins σ H s) (ho:s'.os=s.os) (u:Un (frs X.stack) ch H H' s.heap s'.heap) (hok:HOk X.prog X.w H' s'.heap) (hg:AllBare s'.gens)
 (DE:∀ b∈ch,(b∈X.ex∨X.s₀.heap.objs.size<=b)/\b≠X.env.locals/\(∀ x c,X.env.cells.lookup x=some c->c≠b)/\∀ p∈X.pn++pins,p.1≠b):Inv X pins σ H' s':=by
 obtain ⟨h',g',d',t',o'⟩:=s';have e:o'=s.os:=ho;subst e;exact I.call (g':=g') (t':=t') (d':=d') u hok hg DE
end
abbrev XK:=Q6->Option Q7->Hp->Prop
abbrev St:=List (Option V)
abbrev VK:=V->Hp->Prop
abbrev TE:=St->Hp->VK->Prop
abbrev TT:=St->Hp->(Bool->Hp->Prop)->Prop
abbrev TA:=St->Hp->(List V->Hp->Prop)->Prop
structure Ends where
 nx:St->Hp->Prop
 rt:VK
 bk:St->Hp->Prop:=fun _ _=>False
 ct:St->Hp->Prop:=fun _ _=>False
abbrev TS:=Ends->St->Hp->Prop
def EP (X:Cx) (pins:List (Q7×T1)) (σ:St) (Q:VK) (u:Q6) (s':Q9):Prop:=∃ v H',Inv X pins σ H' s'/\RelV v u/\Q v H'
def TP (X:Cx) (pins:List (Q7×T1)) (σ:St) (Q:Bool->Hp->Prop) (b:Bool) (s':Q9):Prop:=∃ H',Inv X pins σ H' s'/\Q b H'
def AP (X:Cx) (pins:List (Q7×T1)) (σ:St) (Q:List V->Hp->Prop) (us:List Q6) (s':Q9):Prop:=∃ vs H',Inv X pins σ H' s'/\Vals vs us/\Q vs H'
def SP (X:Cx) (pins:List (Q7×T1)) (D:Ends) (f:Flow) (s':Q9):Prop :=
 match f with
 | .next=>∃ Ab H',Inv X pins Ab H' s'/\D.nx Ab H'
 | .brk=>∃ Ab H',Inv X pins Ab H' s'/\D.bk Ab H'
 | .cont=>∃ Ab H',Inv X pins Ab H' s'/\D.ct Ab H'
 | .ret u=>∃ v Ab H',Inv X pins Ab H' s'/\RelV v u/\D.rt v H'
def PE (X:Cx) (e:Sm) (t:TE):Prop :=
 ∀ (pins:List (Q7×T1)) (s:Q9) (σ:St) (H:Hp) (Q:VK),Inv X pins σ H s->t σ H Q->Rw (RO X.prog X.w) X.A (Tz e X.env) (EP X pins σ Q) X.xe s
def PT (X:Cx) (e:Sm) (t:TT):Prop :=
 ∀ (pins:List (Q7×T1)) (s:Q9) (σ:St) (H:Hp) (Q:Bool->Hp->Prop),Inv X pins σ H s->t σ H Q->Rw (RO X.prog X.w) X.A (isTrue e X.env (Tz e X.env)) (TP X pins σ Q) X.xe s
def PW (X:Cx) (e:Sm) (t:TT):Prop :=
 ∀ (whole:Sem Q6) (pins:List (Q7×T1)) (s:Q9) (σ:St) (H:Hp) (Q:Bool->Hp->Prop),Inv X pins σ H s->t σ H Q->Rw (RO X.prog X.w) X.A (isTrue e X.env whole) (TP X pins σ Q) X.xe s
theorem PW.pt {X:Cx} {e:Sm} {t:TT} (h:PW X e t):PT X e t:=h _
def PA (X:Cx) (es:List Sm) (t:TA):Prop :=
 ∀ (pos:Vo) (pins:List (Q7×T1)) (s:Q9) (σ:St) (H:Hp) (Q:List V->Hp->Prop),Inv X pins σ H s->t σ H Q->Rw (RO X.prog X.w) X.A (VX (Vw pos (Se es X.env))) (AP X pins σ Q) X.xe s
def PS (X:Cx) (st:Sz) (t:TS):Prop :=
 ∀ (pins:List (Q7×T1)) (s:Q9) (σ:St) (H:Hp) (D:Ends),Inv X pins σ H s->t D σ H->Rw (RO X.prog X.w) X.A (exec st X.env) (SP X pins D) X.xe s
def PSs (X:Cx) (st:List Sz) (t:TS):Prop :=
 ∀ (pins:List (Q7×T1)) (s:Q9) (σ:St) (H:Hp) (D:Ends),Inv X pins σ H s->t D σ H->Rw (RO X.prog X.w) X.A (execs st X.env) (SP X pins D) X.xe s
theorem thn {α:Type} {t:Sem α} {Q Q':α->Q9->Prop} {M:Model} {A:R6} {E:Q6->Q9->Prop} {s:Q9} (h:Rw M A t Q E s) (hQ:∀ a s,Q a s->Q' a s):Rw M A t Q' E s:=Ta h hQ fun _ _ x=>x
end L2
namespace L2
open PySem PySem.Spec PyProof.Rows
section
variable {X:Cx}
inductive yp (i:Nat) (σ:St) (H:Hp) (Q:VK):Prop
 | mk (v:_) (Aj:σ[i]?=some (some v)) (Ak:Q v H):yp i σ H Q
def bV (i:Nat):TE:=yp i
def tC (v:V):TE:=fun _ H Q=>Q v H
theorem zt {i:Nat} {x:Ru} {pos:Vo} (hN:X.N[i]?=some x) (hv:Vis X.env.scope x) (hd:(x == ("__debug__":Ru))=false:=by decide) (C':(x == ("__classdict__":Ru))=false:=by decide):PE X (.Name x pos) (bV i):=by
 intro pins s σ H Q I h;obtain ⟨v,e,h⟩:=h;obtain ⟨m,hn,hl⟩:=I.loc;obtain ⟨u,r,l⟩:=hl i x v hN e hv;have fin:EP X pins σ Q u s:=⟨v,H,I,r,h⟩;rcases l with ⟨hk,hm⟩ | ⟨hk,c,hc,Cs⟩
 · exact Wj (UR I.ok.kind hk hn hm fin) hd
 · rcases hk with hk | hk
   · exact Wj (wpAny_loadName_cell I.ok.kind hk hc Cs fin) hd
   · exact Wj (wpAny_loadName_free I.ok.kind hk hc Cs fin C') hd
theorem ag {i j pos}:PE X (.Constant (.int i) j pos) (tC (.int i)):=fun _ _ _ H _ I h=>wpAny_Constant_int ⟨.int i,H,I.tok _,⟨_,rfl⟩,h⟩
theorem gx {b j pos}:PE X (.Constant (.bool b) j pos) (tC (.bl b)):=fun _ _ _ H _ I h=>Constant_bool ⟨.bl b,H,I,rfl,h⟩
theorem aA {x j pos}:PE X (.Constant (.str x) j pos) (tC (.str x)):=fun _ _ _ H _ I h=>Ui ⟨.str x,H,I.tok _,⟨_,rfl⟩,h⟩
def Gl (X:Cx) (x:Ru):Prop:=X.env.kindOf x=some .globalImplicit
theorem pw {E:Q6->Q9->Prop} {pins:List (Q7×T1)} {s:Q9} {σ:St} {H:Hp} {x:Ru} {u:Q6} {pos:Vo} {Q:Q6->Q9->Prop} (I:Inv X pins σ H s) (hg:Gl X x) (hm:X.mg x=some u) (h:Q u s)
 (hd:(x == ("__debug__":Ru))=false:=by decide):Rw (RO X.prog X.w) X.A (Tz (.Name x pos) X.env) Q E s :=
 Calls.Name_function_global I.ok.kind hg (Calls.loadGlobal_global (by rw [I.ok.glob];exact I.mod.glob.keeps I.bk) hm h) hd
theorem fT {E:Q6->Q9->Prop} {pins:List (Q7×T1)} {s:Q9} {σ:St} {H:Hp} {x:Ru} {u:Q6} {pos:Vo} {Q:Q6->Q9->Prop} (I:Inv X pins σ H s) (hg:Gl X x) (hm:X.mg x=none) (hv:VB x=some u) (h:Q u s)
 (hn:x≠"__name__":=by decide) (hd:(x == ("__debug__":Ru))=false:=by decide):Rw (RO X.prog X.w) X.A (Tz (.Name x pos) X.env) Q E s:=by
 obtain ⟨mb,h1,h2⟩:=I.mod.blt;exact Calls.Name_function_global I.ok.kind hg (Calls.loadGlobal_builtin (by rw [I.ok.glob];exact I.mod.glob.keeps I.bk) hm (by rw [I.ok.blt];exact h1.keeps I.bk) ((h2 x hn).trans hv) h) hd
theorem cw {x:Ru} {v:V} {u:Q6} {pos:Vo} (hg:Gl X x) (hm:X.mg x=some u) (r:RelV v u) (hd:(x == ("__debug__":Ru))=false:=by decide):PE X (.Name x pos) (tC v) :=
 fun _ _ _ H _ I h=>pw I hg hm ⟨v,H,I,r,h⟩ hd
theorem cC {x:Ru} {v:V} {u:Q6} {pos:Vo} (hg:Gl X x) (hm:X.mg x=none) (hv:VB x=some u) (r:RelV v u) (hn:x≠"__name__":=by decide) (hd:(x == ("__debug__":Ru))=false:=by decide):PE X (.Name x pos) (tC v) :=
 fun _ _ _ H _ I h=>fT I hg hm hv ⟨v,H,I,r,h⟩ hn hd
variable {a b:Sm} {ta tb:TE} {pos:Vo}
variable {tA HX:TT} {rest:List Sm}
def aa8 (t u:TT):TT:=fun σ H Q=>t σ H fun c H1=>if c=true then u σ H1 Q else Q false H1
def tOr (t u:TT):TT:=fun σ H Q=>t σ H fun c H1=>if c=true then Q true H1 else u σ H1 Q
def aaH (t:TT):TT:=fun σ H Q=>t σ H fun c H1=>Q (!c) H1
theorem ly (ha:PT X a tA):PW X (.BoolOp .And [a] pos) tA:=by
 intro wh pins s σ H Q I h;refine isTrue_and (thn (ha pins s σ H Q I h) fun c s1 e=>?_);cases c with
 | true=>exact isTrue_and_nil e
 | false=>exact e
theorem dz (ha:PT X a tA):PW X (.BoolOp .Or [a] pos) tA:=by
 intro wh pins s σ H Q I h;refine isTrue_or (thn (ha pins s σ H Q I h) fun c s1 e=>?_);cases c with
 | false=>exact isTrue_or_nil e
 | true=>exact e
theorem pV (ha:PT X a tA) (hb:PW X (.BoolOp .And (b::rest) pos) HX):PW X (.BoolOp .And (a::b::rest) pos) (aa8 tA HX):=by
 intro wh pins s σ H Q I h;refine isTrue_and (thn (ha pins s σ H _ I h) fun c s1 ⟨H1,I1,q1⟩=>?_);cases c with
 | true=>exact hb wh pins s1 σ H1 Q I1 q1
 | false=>exact ⟨H1,I1,q1⟩
theorem eF (ha:PT X a tA) (hb:PW X (.BoolOp .Or (b::rest) pos) HX):PW X (.BoolOp .Or (a::b::rest) pos) (tOr tA HX):=by
 intro wh pins s σ H Q I h;refine isTrue_or (thn (ha pins s σ H _ I h) fun c s1 ⟨H1,I1,q1⟩=>?_);cases c with
 | true=>exact ⟨H1,I1,q1⟩
 | false=>exact hb wh pins s1 σ H1 Q I1 q1
theorem ci (ha:PT X a tA):PT X (.UnaryOp .Not a pos) (aaH tA):=by
 intro pins s σ H Q I h;exact isTrue_not (ha pins s σ H (fun c H1=>Q (!c) H1) I h)
def aax (ta tb:TE):TE:=fun σ H Q=>ta σ H fun x H1=>∃ c,x=.bl c/\if c=true then tb σ H1 Q else Q (.bl false) H1
def aa6 (ta tb:TE):TE:=fun σ H Q=>ta σ H fun x H1=>∃ c,x=.bl c/\if c=true then Q (.bl true) H1 else tb σ H1 Q
def zQ (ta:TE):TE:=fun σ H Q=>ta σ H fun x H1=>∃ c,x=.bl c/\Q (.bl (!c)) H1
theorem eK {op} {t:TE} (h:PE X a t):PE X (.BoolOp op [a] pos) t:=fun pins s σ H Q I hw=>BoolOp_one (h pins s σ H Q I hw)
theorem cV (ha:PE X a ta) (hb:PE X (.BoolOp .And (b::rest) pos) tb):PE X (.BoolOp .And (a::b::rest) pos) (aax ta tb):=by
 intro pins s σ H Q I h;refine BoolOp_and (thn (ha pins s σ H _ I h) fun v s1 ⟨x,H1,I1,r1,q1⟩=>?_);obtain ⟨c,rfl,q1⟩:=q1;cases r1;refine Tv ?_;cases c with
 | true=>exact hb pins s1 σ H1 Q I1 q1
 | false=>exact ⟨.bl false,H1,I1,rfl,q1⟩
theorem aao (ha:PE X a ta) (hb:PE X (.BoolOp .Or (b::rest) pos) tb):PE X (.BoolOp .Or (a::b::rest) pos) (aa6 ta tb):=by
 intro pins s σ H Q I h;refine BoolOp_or (thn (ha pins s σ H _ I h) fun v s1 ⟨x,H1,I1,r1,q1⟩=>?_);obtain ⟨c,rfl,q1⟩:=q1;cases r1;refine Tv ?_;cases c with
 | false=>exact hb pins s1 σ H1 Q I1 q1
 | true=>exact ⟨.bl true,H1,I1,rfl,q1⟩
theorem px (ha:PE X a ta):PE X (.UnaryOp .Not a pos) (zQ ta):=by
 intro pins s σ H Q I h;refine UnaryOp_ (thn (ha pins s σ H _ I h) fun v s1 ⟨x,H1,I1,r1,q1⟩=>?_);obtain ⟨c,rfl,q1⟩:=q1;cases r1;exact not_of (Tv ⟨.bl (!c),H1,I1,rfl,q1⟩)
end
end L2
namespace L2
open PySem PySem.Spec PyProof.Rows
def SqL (K:Q4) (H:Hp) (a:Q7) (xs:List V):Prop :=
 Rd H a (.lst xs) ∨
  ∃ (o:T1) (its:Array Q6) (n:Nat),K.lookup a=some o/\o.cls=.type "list"/\o.dict=none/\o.data=.seq its n/\its.size<=Ry/\Vals xs its.toList
def SqT (K:Q4) (H:Hp) (a:Q7) (xs:List V):Prop :=
 Rd H a (.tup xs) ∨
  ∃ (o:T1) (its:Array Q6) (n:Nat),K.lookup a=some o/\o.cls=.type "tuple"/\o.data=.seq its n/\its.size<=Ry/\Vals xs its.toList
def aaT:Q6->Option V
 | .none=>some .non
 | .bool b=>some (.bl b)
 | .int i _=>some (.int i)
 | .str x _=>some (.str x)
 | .bytes b _=>some (.byt b)
 | .float b _=>some (.flt b)
 | .ref a=>some (.ref a)
 | .type n=>some (.ty n)
 | _=>none
theorem RelV.abs {x:V} {u:Q6} (r:RelV x u):aaT u=some x:=by
 cases x with
 | non=>cases r;rfl
 | bl _=>cases r;rfl
 | int _=>obtain ⟨t,rfl⟩:=r;rfl
 | str _=>obtain ⟨t,rfl⟩:=r;rfl
 | byt _=>obtain ⟨t,rfl⟩:=r;rfl
 | flt _=>obtain ⟨t,rfl⟩:=r;rfl
 | ref _=>cases r;rfl
 | ty _=>cases r;rfl
theorem RelV.inj {x y:V} {u:Q6} (r:RelV x u) (q:RelV y u):x=y:=RI (r.abs.symm.trans q.abs)
theorem Vals.inj:∀ {xs ys:List V} {us:List Q6},Vals xs us->Vals ys us->xs=ys
 | _,_,_,.nil,.nil=>rfl
 | _,_,_,.cons r t,.cons r' t'=>by rw [r.inj r',Vals.inj t t']
section
variable {X:Cx} {pins:List (Q7×T1)} {σ:St} {H:Hp} {s:Q9} {a:Q7} {xs ys:List V}
theorem SqL.of {K:Q4} (h:H a=some (.lst xs)):SqL K H a xs:=.inl (.inl h)
theorem SqT.of {K:Q4} (h:H a=some (.tup xs)):SqT K H a xs:=.inl (.inl h)
theorem Inv.list (I:Inv X pins σ H s) (h:SqL X.K H a xs):∃ its:List Q6,Vals xs its/\PlainL s.heap a its.toArray/\xs.length<=Ry:=by
 rcases h with h | ⟨o,its,n,hk,hc,hd,hs,hz,r⟩
 · obtain ⟨z,its,n,r,e⟩:=h.ok I.hok;exact ⟨its,r,⟨_,n,e,rfl,rfl,rfl⟩,z⟩
 · refine ⟨its.toList,r,⟨o,n,I.kIn a o hk,hc,hd,by simpa using hs⟩,?_⟩;have e:=r.length;simp only [RD] at e;omega
theorem Inv.tuple (I:Inv X pins σ H s) (h:SqT X.K H a xs):∃ its:List Q6,Vals xs its/\IsTup s.heap a its.toArray/\xs.length<=Ry:=by
 rcases h with h | ⟨o,its,n,hk,hc,hs,hz,r⟩
 · obtain ⟨z,its,n,r,p⟩:=h.ok I.hok;exact ⟨its,r,⟨_,p,rfl,n,rfl⟩,z⟩
 · refine ⟨its.toList,r,⟨o,I.kIn a o hk,hc,n,by simpa using hs⟩,?_⟩;have e:=r.length;simp only [RD] at e;omega
theorem Inv.list_inj (I:Inv X pins σ H s) (h:SqL X.K H a xs) (h':SqL X.K H a ys):xs=ys:=by
 obtain ⟨its,r,⟨o,n,e,_,_,d⟩,_⟩:=I.list h;obtain ⟨its',r',⟨o',n',e',_,_,d'⟩,_⟩:=I.list h';rw [e] at e';cases e';rw [d] at d';injection d' with d1 _;have:its=its':=by simpa using congrArg WQ d1
 subst this;exact r.inj r'
theorem Inv.tuple_inj (I:Inv X pins σ H s) (h:SqT X.K H a xs) (h':SqT X.K H a ys):xs=ys:=by
 obtain ⟨its,r,⟨o,e,_,n,d⟩,_⟩:=I.tuple h;obtain ⟨its',r',⟨o',e',_,n',d'⟩,_⟩:=I.tuple h';rw [e] at e';cases e';rw [d] at d';injection d' with d1 _;have:its=its':=by simpa using congrArg WQ d1
 subst this;exact r.inj r'
end
abbrev Cx.wish (X:Cx) (E:Q6->Q9->Prop):Cx:={ X with xe:=E }
abbrev Cx.nox (X:Cx):Cx:=X.wish fun _ _=>False
theorem Cx.Ok.wish {X:Cx} (ok:X.Ok) (E:Q6->Q9->Prop):(X.wish E).Ok :=
 ⟨ok.mod,ok.kind,ok.glob,ok.blt,ok.above,ok.inj,ok.has,ok.cab,ok.hd,ok.frames,ok.stk,ok.exf,ok.bs,ok.bsz,ok.noex,ok.exfs,ok.funs,ok.frf⟩
theorem Cx.Ok.unwish {X:Cx} {E:Q6->Q9->Prop} (ok:(X.wish E).Ok):X.Ok :=
 ⟨ok.mod,ok.kind,ok.glob,ok.blt,ok.above,ok.inj,ok.has,ok.cab,ok.hd,ok.frames,ok.stk,ok.exf,ok.bs,ok.bsz,ok.noex,ok.exfs,ok.funs,ok.frf⟩
section
variable {X:Cx} {pins:List (Q7×T1)} {σ:St} {H:Hp} {s:Q9} {E:Q6->Q9->Prop}
theorem Inv.wish (I:Inv X pins σ H s) (E:Q6->Q9->Prop):Inv (X.wish E) pins σ H s:=⟨I.ok.wish E,I.os,I.bare,I.base,I.loc,I.cell,I.free,I.freeC,I.pin,I.hok,I.len⟩
theorem Inv.unwish (I:Inv (X.wish E) pins σ H s):Inv X pins σ H s:=⟨I.ok.unwish,I.os,I.bare,I.base,I.loc,I.cell,I.free,I.freeC,I.pin,I.hok,I.len⟩
theorem SP.unwish {D:Ends} {f:Flow} {s':Q9} (h:SP (X.wish E) pins D f s'):SP X pins D f s':=by
 cases f with
 | next=>obtain ⟨Ab,H',I,q⟩:=h;exact ⟨Ab,H',I.unwish,q⟩
 | brk=>obtain ⟨Ab,H',I,q⟩:=h;exact ⟨Ab,H',I.unwish,q⟩
 | cont=>obtain ⟨Ab,H',I,q⟩:=h;exact ⟨Ab,H',I.unwish,q⟩
 | ret u=>obtain ⟨v,Ab,H',I,r,q⟩:=h;exact ⟨v,Ab,H',I.unwish,r,q⟩
theorem PSs.nox {st:List Sz} {t:TS} (h:PSs X.nox st t):PSs X st t:=fun pins s σ H D I hw =>
 Ta (h pins s σ H D (I.wish _) hw) (fun _ _ q=>q.unwish) fun _ _ z=>T3 z
end
section
variable {X:Cx} {st:Sz} {rest:List Sz} {t u:TS} {e:Sm} {te:TE} {pos:Vo}
def eg:TS:=fun D σ H=>D.nx σ H
def zU (t u:TS):TS:=fun D σ H=>t { D with nx:=u D } σ H
theorem aH:PSs X [] eg:=fun _ _ σ H _ I h=>U5 ⟨σ,H,I,h⟩
theorem ad (h1:PS X st t) (h2:PSs X rest u):PSs X (st::rest) (zU t u):=by
 intro pins s σ H D I h;refine wpAny_execs_cons (thn (h1 pins s σ H { D with nx:=u D } I h) fun f s1 q=>?_);cases f with
 | next =>
   obtain ⟨Ab,H',I',q⟩:=q;exact h2 pins s1 Ab H' D I' q
 | ret v=>exact q
 | brk=>exact q
 | cont=>exact q
theorem ae (h1:PS X st t):PSs X [st] t:=by
 intro pins s σ H D I h;refine wpAny_execs_cons (thn (h1 pins s σ H D I h) fun f s1 q=>?_);cases f with
 | next=>exact U5 q
 | ret v=>exact q
 | brk=>exact q
 | cont=>exact q
theorem Inv.quiet {pins:List (Q7×T1)} {σ:St} {H:Hp} {s:Q9} (I:Inv X pins σ H s):interactive X.env=false:=by simp [interactive,I.ok.kind]
def yn (te:TE):TS:=fun D σ H=>te σ H fun _ H1=>D.nx σ H1
theorem aT (he:PE X e te) (hs:swapsWith e none pos.line X.env=pure false:=by rfl):PS X (.Expr e pos) (yn te):=by
 intro pins s σ H D I h;exact wpAny_Expr_any (thn (he pins s σ H _ I h) fun v s1 ⟨x,H1,I1,r1,q1⟩=>⟨σ,H1,I1,q1⟩) I.quiet hs
def aaC (te:TE):TS:=fun D σ H=>te σ H D.rt
theorem ax (he:PE X e te):PS X (.Return (some e) pos) (aaC te):=by
 intro pins s σ H D I h;exact wpAny_Return_some (thn (he pins s σ H _ I h) fun v s1 ⟨x,H1,I1,r1,q1⟩=>⟨x,σ,H1,I1,r1,q1⟩)
def zH (c:TT) (t u:TS):TS:=fun D σ H=>c σ H fun b H1=>if b=true then t D σ H1 else u D σ H1
theorem aS {c:Sm} {a b:List Sz} {tc:TT} (hc:PT X c tc) (ha:PSs X a t) (hb:PSs X b u):PS X (.If c a b pos) (zH tc t u):=by
 intro pins s σ H D I h;refine wpAny_If (thn (hc pins s σ H _ I h) fun d s1 ⟨H1,I1,q1⟩=>?_);cases d with
 | true=>exact ha pins s1 σ H1 D I1 q1
 | false=>exact hb pins s1 σ H1 D I1 q1
def vt:TS:=fun _ _ _=>False
theorem bz:PS X st vt:=fun _ _ _ _ _ _ h=>h.elim
theorem uH {Nn:List Sz}:PSs X Nn vt:=fun _ _ _ _ _ _ h=>h.elim
end
abbrev TG:=V->St->Hp->(St->Hp->Prop)->Prop
abbrev TGs:=List V->St->Hp->(St->Hp->Prop)->Prop
def PG (X:Cx) (target:Sm) (t:TG):Prop :=
 ∀ (pins:List (Q7×T1)) (s:Q9) (σ:St) (H:Hp) (v:V) (u:Q6) (Q:St->Hp->Prop),Inv X pins σ H s->RelV v u->t v σ H Q →
   Rw (RO X.prog X.w) X.A (assign target X.env u) (fun _ s'=>∃ Ab H',Inv X pins Ab H' s'/\Q Ab H') X.xe s
def PGs (X:Cx) (ts:List Sm) (t:TGs):Prop :=
 ∀ (pins:List (Q7×T1)) (s:Q9) (σ:St) (H:Hp) (vs:List V) (us:List Q6) (Q:St->Hp->Prop),Inv X pins σ H s->Vals vs us->t vs σ H Q →
   Rw (RO X.prog X.w) X.A (assignInOrder ((Vn ts X.env).map (·.2)) us) (fun _ s'=>∃ Ab H',Inv X pins Ab H' s'/\Q Ab H') X.xe s
abbrev wy:=V->V->V->Hp->(Hp->Prop)->Prop
def zx (X:Cx) (t:wy):Prop :=
 ∀ (pins:List (Q7×T1)) (s:Q9) (σ:St) (H:Hp) (o i v:V) (ov iv u:Q6) (Q:Hp->Prop),Inv X pins σ H s->RelV o ov->RelV i iv->RelV v u->t o i v H Q →
   Rw (RO X.prog X.w) X.A (setItem ov iv u) (fun _ s'=>∃ H',Inv X pins σ H' s'/\Q H') X.xe s
abbrev TIp:=V->V->Hp->VK->Prop
def PIp (X:Cx) (op:Operator) (t:TIp):Prop :=
 ∀ (pins:List (Q7×T1)) (s:Q9) (σ:St) (H:Hp) (x y:V) (v u:Q6) (Q:VK),Inv X pins σ H s->RelV x v->RelV y u->t x y H Q →
   Rw (RO X.prog X.w) X.A (inplaceOp op v u) (EP X pins σ Q) X.xe s
section
variable {X:Cx} {pos:Vo}
def aG (i:Nat):TG:=fun v σ H Q=>Q (σ.set i (some v)) H
theorem aq {i:Nat} {x:Ru} (hN:X.N.Nodup) (hi:X.N[i]?=some x) (hx:Loc X.env.scope x) (hf:X.fn x=true∨X.env.scope.names.lookup x=some .local:=by first | exact .inl rfl | exact .inr rfl | assumption):PG X (.Name x pos) (aG i):=by
 intro pins s σ H v u Q I r h;exact wpAny_assign_Name (jF I hN hi hx r (fun s' I'=>⟨_,H,I',h⟩) hf)
def vq:TGs:=fun vs σ H Q=>vs=[]/\Q σ H
def iK (t:TG) (u:TGs):TGs:=fun vs σ H Q=>∃ v r,vs=v::r/\t v σ H fun Ab H'=>u r Ab H' Q
theorem bX:PGs X [] vq:=by
 intro pins s σ H vs us Q I r h;obtain ⟨e,h⟩:=h;subst e;cases r;exact assignInOrder_nil ⟨σ,H,I,h⟩
theorem aL {e:Sm} {es:List Sm} {t:TG} {u:TGs} (h1:PG X e t) (h2:PGs X es u)
 (hs:(Vn (e::es) X.env).map (·.2)=assign e X.env::(Vn es X.env).map (·.2):=by rfl):PGs X (e::es) (iK t u):=by
 intro pins s σ H vs us Q I r h;obtain ⟨v,vr,e1,h⟩:=h;subst e1;cases r with
 | cons r rr =>
   rw [hs];refine assignInOrder_cons (thn (h1 pins s σ H _ _ _ I r h) fun _ s1 ⟨BC,H1,I1,q1⟩=>?_);exact h2 pins s1 BC H1 _ _ Q I1 rr q1
def uT (K:Q4) (n:Nat) (t:TGs):TG:=fun v σ H Q=>∃ a xs,v=.ref a/\SqT K H a xs/\xs.length=n/\t xs σ H Q
theorem cQ {es:List Sm} {k:Nat} {t:TGs} {n:Nat} (hc:X.calm=true) (h:PGs X es t)
 (hn:(Vn es X.env).length=n:=by rfl) (By:(Vn es X.env).findIdx? (·.1)=none:=by rfl):PG X (.Tuple es k pos) (uT X.K n t):=by
 intro pins s σ H v u Q I r hw;obtain ⟨a,xs,e1,hq,hl,hw⟩:=hw;subst e1;cases r;obtain ⟨its,rv,ht,hz⟩:=I.tuple hq;refine assign_Tuple_tuple (I.ok.hd hc) ht (by simp [hn,<- hl,rv.length]) By fun h' hx=>?_;have I1:Inv X pins σ H { s with heap:=h' }:=I.kept (t':=s.toks) fun b o e=>hx b o (RT (Rv e)) e;exact h pins _ σ H xs _ Q I1 (by simpa using rv) hw
def aaS (to ti:TE) (t:wy):TG:=fun v σ H Q=>to σ H fun o H1=>ti σ H1 fun i H2=>t o i v H2 fun H3=>Q σ H3
theorem lE {o i:Sm} {to ti:TE} {t:wy} (ho:PE X o to) (hi:PE X i ti) (hs:zx X t)
 (ha:∀ v,assign (.Subscript o i pos) X.env v=(do
  let ov ← holding [v] (Tz o X.env)
  let iv ← holding [v,ov] (Tz i X.env)
  standAt pos
  holding [v,ov,iv] (setItem ov iv v)
  release [v,ov,iv] []):=by intro _;rfl):PG X (.Subscript o i pos) (aaS to ti t):=by
 intro pins s σ H v u Q I r h;rw [ha];refine Q2 (S6 (thn (ho pins s σ H _ I h) fun ov s1 ⟨x,H1,I1,r1,q1⟩=>?_));refine Q2 (S6 (thn (hi pins s1 σ H1 _ I1 q1) fun iv s2 ⟨y,H2,I2,r2,q2⟩=>?_));refine Q2 (wpAny_standAt (Q2 (S6 (thn (hs pins s2 σ H2 x y v ov iv u _ I2 r1 r2 r q2) fun _ s3 ⟨H3,I3,q3⟩=>?_))));exact wpAny_release ⟨σ,H3,I3,q3⟩
def yT (te:TE) (g:TG):TS:=fun D σ H=>te σ H fun x H1=>g x σ H1 D.nx
theorem fH {tg e:Sm} {te:TE} {g:TG} (he:PE X e te) (hg:PG X tg g) (hs:swapsWithSole [tg] e pos.line X.env=pure false:=by rfl) (hw:swappedStores [tg] e X.env=pure none:=by rfl)
 (h1:(Vn [tg] X.env).map (·.2)=[assign tg X.env]:=by rfl):PS X (.Assign [tg] e pos) (yT te g):=by
 intro pins s σ H D I h;refine wpAny_Assign_stores (thn (he pins s σ H _ I h) fun v s1 ⟨x,H1,I1,r1,q1⟩=>?_) hs hw;rw [h1];exact thn (hg pins s1 σ H1 x v _ I1 r1 q1) fun _ s2 q=>q
theorem ar {i:Nat} {x:Ru} {e:Sm} {te:TE} {pos':Vo} (hN:X.N.Nodup) (hi:X.N[i]?=some x) (hx:Loc X.env.scope x) (he:PE X e te) (hs:swapsWith e (some (.Name x pos')) pos.line X.env=pure false:=by rfl) (hf:X.fn x=true∨X.env.scope.names.lookup x=some .local:=by first | exact .inl rfl | exact .inr rfl | assumption) :
 PS X (.Assign [.Name x pos'] e pos) (yT te (aG i)):=by
 intro pins s σ H D I h;refine wpAny_Assign_Name (thn (he pins s σ H _ I h) fun v s1 ⟨y,H1,I1,r1,q1⟩=>?_) hs;exact jF I1 hN hi hx r1 (fun s2 I2=>⟨_,H1,I2,q1⟩) hf
def aa7 (i:Nat) (te:TE) (ti:TIp):TS:=fun D σ H=>∃ x,σ[i]?=some (some x)/\te σ H fun y H1=>ti x y H1 fun z H2=>D.nx (σ.set i (some z)) H2
theorem sw {i:Nat} {x:Ru} {e:Sm} {te:TE} {op:Operator} {ti:TIp} {pos':Vo} (hN:X.N.Nodup) (hi:X.N[i]?=some x) (hx:Loc X.env.scope x) (he:PE X e te) (ho:PIp X op ti) (hf:X.fn x=true∨X.env.scope.names.lookup x=some .local:=by first | exact .inl rfl | exact .inr rfl | assumption) :
 PS X (.AugAssign (.Name x pos') op e pos) (aa7 i te ti):=by
 intro pins s σ H D I h;obtain ⟨v,e1,h⟩:=h;obtain ⟨m,hn,hl⟩:=I.loc;have LG:Vis X.env.scope x:=by rcases hx with k | k;exact .inl k;exact .inr (.inl k)
 obtain ⟨u,r,l⟩:=hl i x v hi e1 LG;refine wpAny_AugAssign_Name ?_
 have go:Rw (RO X.prog X.w) X.A (Tz e X.env) (fun w AS=>Rw (RO X.prog X.w) X.A (inplaceOp op u w) (fun r BF=>Rw (RO X.prog X.w) X.A (storeName X.env x r) (fun _=>SP X pins D .next) X.xe BF) X.xe AS) X.xe s:=by
  refine thn (he pins s σ H _ I h) fun w s1 ⟨y,H1,I1,r1,q1⟩=>?_;refine thn (ho pins s1 σ H1 v y u w _ I1 r r1 q1) fun z s2 ⟨zv,H2,I2,r2,q2⟩=>?_;exact jF I2 hN hi hx r2 (fun s3 I3=>⟨_,H2,I3,q2⟩) hf
 rcases l with ⟨hk,hm⟩ | ⟨hk,c,hc,Cs⟩
 · exact UR I.ok.kind hk hn hm go
 · rcases hk with hk | hk
   · exact wpAny_loadName_cell I.ok.kind hk hc Cs go
   · rcases hx with k | k
     · have:X.env.scope.names.lookup x=some .free:=hk;rw [k] at this;cases this
     · have:X.env.scope.names.lookup x=some .free:=hk;rw [k] at this;cases this
def zR (to ti te:TE) (DP:V->V->Hp->VK->Prop) (HY:TIp) (DQ:wy):TS:=fun D σ H=>to σ H fun o H1=>ti σ H1 fun i H2=>DP o i H2 fun x H3=>te σ H3 fun y H4=>HY x y H4 fun z H5=>DQ o i z H5 fun H6=>D.nx σ H6
def aal (X:Cx) (t:V->V->Hp->VK->Prop):Prop :=
 ∀ (pins:List (Q7×T1)) (s:Q9) (σ:St) (H:Hp) (o i:V) (ov iv:Q6) (Q:VK),Inv X pins σ H s->RelV o ov->RelV i iv->t o i H Q →
   Rw (RO X.prog X.w) X.A (U6 ov iv) (EP X pins σ Q) X.xe s
theorem xX {o i e:Sm} {to ti te:TE} {DP:V->V->Hp->VK->Prop} {HY:TIp} {DQ:wy} {op:Operator} {DR:Vo} (ho:PE X o to) (hi:PE X i ti) (hg:aal X DP) (he:PE X e te) (hp:PIp X op HY) (hs:zx X DQ)
 (ha:∀ ov iv new,augStore i ov iv new=(do holding [new,ov,iv] (setItem ov iv new);release [new,ov,iv] [];pure .next):=by intros;rfl):PS X (.AugAssign (.Subscript o i DR) op e pos) (zR to ti te DP HY DQ):=by
 intro pins s σ H D I h;refine wpAny_AugAssign_SubscriptAny (thn (ho pins s σ H _ I h) fun ov s1 ⟨x1,H1,I1,r1,q1⟩=>?_) ha;refine thn (hi pins s1 σ H1 _ I1 q1) fun iv s2 ⟨x2,H2,I2,r2,q2⟩=>?_;refine thn (hg pins s2 σ H2 x1 x2 ov iv _ I2 r1 r2 q2) fun old s3 ⟨x3,H3,I3,r3,q3⟩=>?_;refine thn (he pins s3 σ H3 _ I3 q3) fun v s4 ⟨x4,H4,I4,r4,q4⟩=>?_;refine thn (hp pins s4 σ H4 x3 x4 old v _ I4 r3 r4 q4) fun new s5 ⟨x5,H5,I5,r5,q5⟩=>?_;exact thn (hs pins s5 σ H5 x1 x2 x5 ov iv new _ I5 r1 r2 r5 q5) fun _ s6 ⟨H6,I6,q6⟩=>⟨σ,H6,I6,q6⟩
def ipI (f:Int->Int->Int):TIp:=fun x y H Q=>∃ i j,x=.int i/\y=.int j/\Q (.int (f i j)) H
theorem pW:PIp X .Add (ipI fun i j=>i+j):=by
 intro pins s σ H x y v u Q I r1 r2 h;obtain ⟨i,j,e1,e2,q⟩:=h;subst e1;subst e2;obtain ⟨t,rfl⟩:=r1;obtain ⟨t',rfl⟩:=r2;exact iadd_int ⟨.int _,H,I.tok _,⟨_,rfl⟩,q⟩
end
section
variable {X:Cx} {pos:Vo}
def yR (c:TT) (tb:TS):TS:=fun D σ H=>∃ W:Nat->St->Hp->Prop,(∃ m,W m σ H)/\∀ m σ H,W m σ H →
 c σ H fun b H1=>if b=true then ∃ N:St->Hp->Prop,(∀ Ab H',N Ab H'->∃ m',m'<m/\W m' Ab H')/\tb { D with nx:=N,ct:=N,bk:=D.nx } σ H1 else D.nx σ H1
theorem gv {c:Sm} {body:List Sz} {tc:TT} {tb:TS} (hp:PassesOwn (RO X.prog X.w) X.A X.env X.xe) (hc:PT X c tc) (hb:PSs X body tb):PS X (.While c body [] pos) (yR tc tb):=by
 intro pins s σ H D I h;obtain ⟨W,⟨m0,w0⟩,turn⟩:=h;refine wpAny_While (codeAny_whileLoop (fun n s'=>∃ Ab H',Inv X pins Ab H' s'/\W n Ab H') ?_ m0 ⟨σ,H,I,w0⟩);rintro n s1 ⟨BC,H1,I1,w1⟩;refine S5 hp (thn (hc pins s1 BC H1 _ I1 (turn n BC H1 w1)) fun b s2 ⟨H2,I2,q2⟩=>?_);cases b with
 | true =>
   obtain ⟨N,hN,q2⟩:=q2;rw [if_pos rfl];refine S5 hp (thn (hb pins s2 BC H2 _ I2 q2) fun f s3 q3=>?_);cases f with
   | next =>
     obtain ⟨BZ,H3,I3,n3⟩:=q3;obtain ⟨m',hm,w3⟩:=hN BZ H3 n3;exact ⟨m',hm,BZ,H3,I3,w3⟩
   | cont =>
     obtain ⟨BZ,H3,I3,n3⟩:=q3;obtain ⟨m',hm,w3⟩:=hN BZ H3 n3;exact ⟨m',hm,BZ,H3,I3,w3⟩
   | brk=>exact q3
   | ret v=>exact q3
 | false =>
   rw [if_neg Rt];exact U5 ⟨BC,H2,I2,q2⟩
end
structure It where
 go:Nat->Hp->Prop
 yld:Nat->Hp->V->Hp->Prop
 stop:Nat->Hp->Prop
def ig (X:Cx) (pins:List (Q7×T1)) (H:Hp) (b:Q7):Prop :=
 H b=none/\b≠X.env.locals/\b∉X.fs/\(b∈X.ex∨X.s₀.heap.objs.size<=b)/\(∀ x c,X.env.cells.lookup x=some c->c≠b)/\∀ p∈X.pn++pins,p.1≠b
theorem Inv.fpOk {X:Cx} {pins:List (Q7×T1)} {σ:St} {H H':Hp} {s:Q9} {b:Q7} (I:Inv X pins σ H s) (hb:s.heap.objs.size<=b) (hn:H' b=none):ig X pins H' b:=by
 refine ⟨hn,Ut (RU I.lt hb),I.nofs hb,.inr (Sw I.sz hb),fun x c e z=>?_,fun p hp z=>?_⟩
 · obtain ⟨v,q⟩:=I.cell x c e;exact absurd (RU q.lt (by rw [z];exact hb)) (SK _)
 · exact absurd (RU (Rv (I.pin p hp).1) (by rw [z];exact hb)) (SK _)
structure Turn (P:RL) (w:R1) (K:Q4) (tg:Sm) (J:It) (fp:List Q7) (it:Q7) (tn:Nat->SE->Prop):Prop where
 mem:it∈fp
 obj:∀ i h,tn i h->∀ b∈fp,∃ o,h.get? b=some o/\∀ v,o.data≠.cell v
 keep:∀ i h h',tn i h->(∀ b∈fp,∀ o,h.get? b=some o->h'.get? b=some o)->tn i h'
 item:∀ (X:Cx),X.prog=P->X.w=w->X.K=K->X.calm=true->∀ (i:Nat) (pins:List (Q7×T1)) (s:Q9) (σ:St) (H:Hp) (E:Q6->Q9->Prop),Inv X pins σ H s->(∀ b∈fp,ig X pins H b)->tn i s.heap->J.go i H →
  Rw (RO P w) X.A (Wl (.ref it)) (fun r s1=>∃ u,r=some u ∧
   Rw (RO P w) X.A (Ws tg (.ref it) u) (fun _ s2=>∃ x H',Inv X pins σ H' s2/\RelV x u/\J.yld i H x H'/\tn (i+1) s2.heap/\∀ b∈fp,H' b=none) E s1) E s
 done:∀ (X:Cx),X.prog=P->X.w=w->X.K=K->X.calm=true->∀ (i:Nat) (pins:List (Q7×T1)) (s:Q9) (σ:St) (H:Hp) (E:Q6->Q9->Prop),Inv X pins σ H s->(∀ b∈fp,ig X pins H b)->tn i s.heap->J.stop i H →
  Rw (RO P w) X.A (Wl (.ref it)) (fun r s1=>r=none/\Inv X pins σ H s1) E s
 self:∀ (A:R6) (i:Nat) (s:Q9) (Q:Q6->Q9->Prop) (E:Q6->Q9->Prop),tn i s.heap->Q (.ref it) s->Rw (RO P w) A (pyIter (.ref it)) Q E s
abbrev TI:=St->Hp->(It->Hp->Prop)->Prop
def PIE (X:Cx) (pins:List (Q7×T1)) (σ:St) (tg:Sm) (R:It->Hp->Prop) (HZ:Q6) (s2:Q9):Prop :=
 ∃ (it:Q7) (fp:List Q7) (tn:Nat->SE->Prop) (J:It) (H':Hp),HZ=.ref it/\Inv X pins σ H' s2/\Turn X.prog X.w X.K tg J fp it tn/\tn 0 s2.heap/\(∀ b∈fp,ig X pins H' b)/\R J H'
def PI (X:Cx) (tg iter:Sm) (wi:TI):Prop :=
 ∀ (pins:List (Q7×T1)) (s:Q9) (σ:St) (H:Hp) (R:It->Hp->Prop),Inv X pins σ H s->wi σ H R →
   Rw (RO X.prog X.w) X.A (Tz iter X.env) (fun v s1=>Rw (RO X.prog X.w) X.A (pyIter v) (PIE X pins σ tg R) X.xe s1) X.xe s
theorem lS {M:Model} {A:R6} {E:Q6->Q9->Prop} {s:Q9} {tg:Sm} {it:Q7} {u:Q6} {o:T1} {n:String} {vs:Array Q6} {Q:Unit->Q9->Prop} (ho:s.heap.get? it=some o) (hc:o.cls=.type n) (hd:o.data=.fields vs)
 (hn:["enumerate","zip","dict_itemiterator","dict_reverseitemiterator","odict_iterator","itertools.zip_longest","itertools.pairwise"].contains n=false) (hQ:Q () s):Rw M A (Ws tg (.ref it) u) Q E s:=by
 unfold Ws
 cases tg <;> first
  | exact Rl hQ
  | (cases u <;> first
   | exact Rl hQ
   | (refine Q2 (wpAny_load ho ?_)
      rw [hc,hd];show Rw M A (if (["enumerate","zip","dict_itemiterator","dict_reverseitemiterator","odict_iterator","itertools.zip_longest","itertools.pairwise"].contains n && vs[0]? == some (Vv _))=true then _ else _) Q E s;rw [if_neg (by intro h;rw [hn,Bool.false_and] at h;cases h)];exact Rl hQ))
def Itl (K:Q4) (a:Q7):It :=
 ⟨fun i H=>∃ xs x,SqL K H a xs/\xs[i]?=some x,fun i H x H'=>H'=H/\∀ xs,SqL K H a xs->xs[i]?=some x,fun i H=>∃ xs,SqL K H a xs/\xs.length<=i⟩
def Itt (K:Q4) (a:Q7):It :=
 ⟨fun i H=>∃ xs x,SqT K H a xs/\xs[i]?=some x,fun i H x H'=>H'=H/\∀ xs,SqT K H a xs->xs[i]?=some x,fun i H=>∃ xs,SqT K H a xs/\xs.length<=i⟩
def Itr (lo:Int) (n:Nat):It:=⟨fun i _=>i<n,fun i H x H'=>H'=H/\x=.int (lo+i),fun i _=>n<=i⟩
theorem nM {P:RL} {w:R1} {K:Q4} {tg:Sm} (a it:Q7):Turn P w K tg (Itl K a) [it] it (fun i h=>h.IsListIter it a i) where
 mem:=by simp
 obj:=fun i h st b hb=>by
  have e:b=it:=by simpa using hb
  subst e;obtain ⟨o,e,c,d⟩:=st;exact ⟨o,e,fun v z=>by rw [d] at z;cases z⟩
 keep:=fun i h h' st k=>st.at fun o e=>k it (by simp) o e
 item:=by
  intro X hP hw hK hc i pins s σ H E I hf st hg;subst hP hw hK;obtain ⟨xs,x,hq,hx⟩:=hg;obtain ⟨its,rv,p,hz⟩:=I.list hq;obtain ⟨u,hu,ru⟩:=rv.get hx;obtain ⟨f0,f1,f2,f3,f4,f5⟩:=hf it (by simp);refine Wi st p.isList (x:=u) (by simpa using hu) fun h' Bg sb=>?_;have I1:Inv X pins σ H { s with heap:=h' }:=I.turned (t':=s.toks) (fun b o hb e=>(sb.2 b hb).trans e) f0 f1 f3 f4 f5;obtain ⟨o,e,c,d⟩:=id Bg;exact ⟨u,rfl,lS (s:={ s with heap:=h' }) e c d (by decide) ⟨x,H,I1,ru,⟨rfl,fun ys hy=>by rw [I.list_inj hy hq];exact hx⟩,Bg,fun b hb=>(hf b hb).1⟩⟩
 done:=by
  intro X hP hw hK hc i pins s σ H E I hf st hg;subst hP hw hK;obtain ⟨xs,hq,hx⟩:=hg;obtain ⟨its,rv,p,hz⟩:=I.list hq;obtain ⟨f0,f1,f2,f3,f4,f5⟩:=hf it (by simp);have hl:=rv.length;exact Ww (I.ok.hd hc) st p.isList (by simp;omega) fun h' eb=>⟨rfl,I.turned (t':=s.toks) (fun b o hb e=>eb b o hb e) f0 f1 f3 f4 f5⟩
 self:=fun _ _ _ _ _ st h=>wpAny_pyIter_listiter st h
theorem mB {P:RL} {w:R1} {K:Q4} {tg:Sm} (a it:Q7):Turn P w K tg (Itt K a) [it] it (fun i h=>h.IsTupleIter it a i) where
 mem:=by simp
 obj:=fun i h st b hb=>by
  have e:b=it:=by simpa using hb
  subst e;obtain ⟨o,e,c,d⟩:=st;exact ⟨o,e,fun v z=>by rw [d] at z;cases z⟩
 keep:=fun i h h' st k=>st.at fun o e=>k it (by simp) o e
 item:=by
  intro X hP hw hK hc i pins s σ H E I hf st hg;subst hP hw hK;obtain ⟨xs,x,hq,hx⟩:=hg;obtain ⟨its,rv,p,hz⟩:=I.tuple hq;obtain ⟨u,hu,ru⟩:=rv.get hx;obtain ⟨f0,f1,f2,f3,f4,f5⟩:=hf it (by simp);refine wpAny_pyNext_tuple_item st (show s.heap.IsTuple a its.toArray from p) (x:=u) (by simpa using hu) fun h' Bg sb=>?_;have I1:Inv X pins σ H { s with heap:=h' }:=I.turned (t':=s.toks) (fun b o hb e=>(sb.2 b hb).trans e) f0 f1 f3 f4 f5;obtain ⟨o,e,c,d⟩:=id Bg;exact ⟨u,rfl,lS (s:={ s with heap:=h' }) e c d (by decide) ⟨x,H,I1,ru,⟨rfl,fun ys hy=>by rw [I.tuple_inj hy hq];exact hx⟩,Bg,fun b hb=>(hf b hb).1⟩⟩
 done:=by
  intro X hP hw hK hc i pins s σ H E I hf st hg;subst hP hw hK;obtain ⟨xs,hq,hx⟩:=hg;obtain ⟨its,rv,p,hz⟩:=I.tuple hq;obtain ⟨f0,f1,f2,f3,f4,f5⟩:=hf it (by simp);have hl:=rv.length;exact wpAny_pyNext_tuple_end (I.ok.hd hc) st (show s.heap.IsTuple a its.toArray from p) (by simp;omega) fun h' eb=>⟨rfl,I.turned (t':=s.toks) (fun b o hb e=>eb b o hb e) f0 f1 f3 f4 f5⟩
 self:=fun _ _ _ _ _ st h=>wpAny_pyIter_tupleiter st h
theorem tS {P:RL} {w:R1} {K:Q4} {tg:Sm} (it:Q7) (lo:Int) (n:Nat):Turn P w K tg (Itr lo n) [it] it (fun i h=>IsRangeIter h it (lo+(i:Nat) * 1) ((n:Int) - (i:Nat)) 1) where
 mem:=by simp
 obj:=fun i h st b hb=>by
  have e:b=it:=by simpa using hb
  subst e
  exact ⟨_,st,fun v z=>by
   have z':Data.fields _=Data.cell v:=z;cases z'⟩
 keep:=fun i h h' st k=>k it (by simp) _ st
 item:=by
  intro X hP hw hK hc i pins s σ H E I hf st hg;subst hP hw hK;obtain ⟨f0,f1,f2,f3,f4,f5⟩:=hf it (by simp);have W:=Walks.range (prog:=X.prog) (w:=X.w) (I.ok.hd hc) it lo 1 n;refine W.item i s _ _ hg st fun v h' tk hv Bg kk=>?_;obtain ⟨t,rfl⟩:=hv;have I1:Inv X pins σ H { s with heap:=h',toks:=tk }:=I.turned (fun b o hb e=>kk b o (by simpa using hb) e) f0 f1 f3 f4 f5;refine ⟨_,rfl,lS (s:={ s with heap:=h',toks:=tk }) (n:="range_iterator") Bg rfl rfl (by decide) ⟨.int (lo+i),H,I1,⟨t,?_⟩,⟨rfl,rfl⟩,Bg,fun b hb=>(hf b hb).1⟩⟩;rw [Int.mul_one]
 done:=by
  intro X hP hw hK hc i pins s σ H E I hf st hg;subst hP hw hK;obtain ⟨f0,f1,f2,f3,f4,f5⟩:=hf it (by simp);exact wpAny_pyNext_range_end (I.ok.hd hc) st (by have:n<=i:=hg;omega) fun h' eb=>⟨rfl,I.turned (t':=s.toks) (fun b o hb e=>eb b o hb e) f0 f1 f3 f4 f5⟩
 self:=fun _ _ _ _ _ st h=>wpAny_pyIter_rangeiter st h
end L2
namespace L2
open PySem PySem.Spec PyProof.Rows
section
variable {X:Cx} {tg:Sm}
def zB (K:Q4) (tl:TE):TI:=fun σ H R=>tl σ H fun x H1=>∃ a,x=.ref a/\(∃ xs,SqL K H1 a xs)/\R (Itl K a) H1
def aa4 (K:Q4) (tl:TE):TI:=fun σ H R=>tl σ H fun x H1=>∃ a,x=.ref a/\(∃ xs,SqT K H1 a xs)/\R (Itt K a) H1
theorem df {l:Sm} {tl:TE} (hl:PE X l tl):PI X tg l (zB X.K tl):=by
 intro pins s σ H R I h;refine thn (hl pins s σ H _ I h) fun v s1 ⟨x,H1,I1,r1,q1⟩=>?_;obtain ⟨a,e,⟨xs,hq⟩,q⟩:=q1;subst e;cases r1;obtain ⟨its,rv,p,hz⟩:=I1.list hq;refine Vg p.isList ?_;refine ⟨s1.heap.objs.size,[s1.heap.objs.size],_,_,H1,rfl,I1.kept (t':=s1.toks) fun b o e=>Q5 _ e,nM a _,⟨_,Rf _ rfl,rfl,rfl⟩,fun b hb=>?_,q⟩;have e:b=s1.heap.objs.size:=by simpa using hb
 subst e;exact I1.fpOk (Q8 _) (I1.hok.fresh (Q8 _))
theorem db {l:Sm} {tl:TE} (hl:PE X l tl):PI X tg l (aa4 X.K tl):=by
 intro pins s σ H R I h;refine thn (hl pins s σ H _ I h) fun v s1 ⟨x,H1,I1,r1,q1⟩=>?_;obtain ⟨a,e,⟨xs,hq⟩,q⟩:=q1;subst e;cases r1;obtain ⟨its,rv,p,hz⟩:=I1.tuple hq;refine Ua (show s1.heap.IsTuple a its.toArray from p) ?_;refine ⟨s1.heap.objs.size,[s1.heap.objs.size],_,_,H1,rfl,I1.kept (t':=s1.toks) fun b o e=>Q5 _ e,mB a _,⟨_,Rf _ rfl,rfl,rfl⟩,fun b hb=>?_,q⟩;have e:b=s1.heap.objs.size:=by simpa using hb
 subst e;exact I1.fpOk (Q8 _) (I1.hok.fresh (Q8 _))
theorem wL {pins:List (Q7×T1)} {σ:St} {H:Hp} {s:Q9} {R:It->Hp->Prop} {E:Q6->Q9->Prop} {lo hi:Int} {t u v:Tok} {tk:Nat} (I:Inv X pins σ H s) (h1:-(2 ^ 62)<=lo) (h2:lo<2 ^ 62) (h3:-(2 ^ 62)<=hi) (h4:hi<2 ^ 62)
 (q:R (Itr lo (hi - lo).toNat) H):Rw (RO X.prog X.w) X.A (pyIter (.ref s.heap.objs.size)) (PIE X pins σ tg R) E { s with heap:=s.heap.push { cls:=.type "range",data:=.fields #[.int lo t,.int hi u,.int 1 v] },toks:=tk }:=by
 refine wpAny_pyIter_range (IsRange.new ..) (small_one h1 h2 h3 h4) ?_;have I1:Inv X pins σ H { s with heap:=s.heap.push { cls:=.type "range",data:=.fields #[.int lo t,.int hi u,.int 1 v] },toks:=tk }:=I.kept fun b o e=>Q5 _ e
 refine ⟨(s.heap.push { cls:=.type "range",data:=.fields #[.int lo t,.int hi u,.int 1 v] }).objs.size,[(s.heap.push { cls:=.type "range",data:=.fields #[.int lo t,.int hi u,.int 1 v] }).objs.size],_,_,H,rfl,
  I1.kept (t':=tk) fun b o e=>Q5 _ e,tS _ lo (hi - lo).toNat,?_,fun b hb=>?_,q⟩
 · have e1:lo+((0:Nat):Int) * 1=lo:=by simp
   have e2:(((hi - lo).toNat:Nat):Int) - ((0:Nat):Int)=Builtin.Range.rangeSize lo hi 1:=by rw [rangeSize_one];split <;> omega
   show IsRangeIter _ _ (lo+((0:Nat):Int) * 1) ((((hi - lo).toNat:Nat):Int) - ((0:Nat):Int)) 1;rw [e1,e2];exact Rf _ rfl
 · have e:b=(s.heap.push { cls:=.type "range",data:=.fields #[.int lo t,.int hi u,.int 1 v] }).objs.size:=by simpa using hb
   subst e;exact I1.fpOk (Q8 _) (I1.hok.fresh (Q8 _))
def aaj (ta:TA):TI:=fun σ H R=>ta σ H fun vs H1=>∃ j:Int,vs=[.int j]/\-(2 ^ 62)<=j/\j<2 ^ 62/\R (Itr 0 j.toNat) H1
theorem bw {a:Sm} {ta:TA} {p pos:Vo} (hg:Gl X "range") (hm:X.mg "range"=none) (ha:PA X [a] ta) (hs:Se [a] X.env=[(false,Tz a X.env)]:=by rfl):PI X tg (.Call (.Name "range" p) [a] [] pos) (aaj ta):=by
 intro pins s σ H R I h;refine Call_ (fT I hg hm boot_range (SR (thn (ha pos pins s σ H _ I h) fun us s1 ⟨vs,H1,I1,r1,q1⟩=>?_) hs rfl));obtain ⟨j,e,q1,q2,q⟩:=q1;subst e;cases r1 with
 | cons r rr =>
   cases rr;obtain ⟨t,rfl⟩:=r;exact call_range_1 (wL I1 (by omega) (by omega) q1 q2 (by simpa using q))
def aa0 (wi:TI) (g:TG) (tb:TS):TS:=fun D σ H=>wi σ H fun J H1=>∃ W:Nat->Nat->St->Hp->Prop,(∃ m,W 0 m σ H1)/\∀ i m σ H,W i m σ H →
 (J.stop i H/\D.nx σ H)∨(J.go i H/\∃ N:St->Hp->Prop,(∀ Ab H',N Ab H'->∃ m',m'<m/\W (i+1) m' Ab H')/\∀ x H',J.yld i H x H'->g x σ H' fun Ay H2=>tb { D with nx:=N,ct:=N,bk:=D.nx } Ay H2)
def j8 (fp:List Q7) (h:SE):List (Q7×T1):=fp.filterMap fun b=>(h.get? b).map fun o=>(b,o)
theorem cU {fp:List Q7} {h:SE} {b:Q7} {o:T1} (hb:b∈fp) (e:h.get? b=some o):(b,o)∈j8 fp h:=Vt.mpr ⟨b,hb,by rw [e];rfl⟩
theorem vj {fp:List Q7} {h:SE} {p:Q7×T1} (hp:p∈j8 fp h):p.1∈fp/\h.get? p.1=some p.2:=by
 obtain ⟨b,hb,e⟩:=Vt.mp hp;cases q:h.get? b with
 | none=>rw [q] at e;cases e
 | some o =>
   rw [q] at e;have e':(b,o)=p:=RI e;subst e';exact ⟨hb,q⟩
theorem Inv.pinned {pins:List (Q7×T1)} {σ:St} {H:Hp} {s:Q9} {fp:List Q7} (I:Inv X pins σ H s) (hf:∀ b∈fp,ig X pins H b) (ho:∀ b∈fp,∃ o,s.heap.get? b=some o/\∀ v,o.data≠.cell v):Inv X (pins++j8 fp s.heap) σ H s :=
 I.pins_of fun p hp=>(RE.mp hp).elim (fun z=>I.pin p (RV _ z)) fun z=>by
  obtain ⟨hb,e⟩:=vj z;obtain ⟨f0,f1,f2,_⟩:=hf p.1 hb;obtain ⟨o,e',d⟩:=ho p.1 hb;rw [e] at e';cases e';exact ⟨e,f0,f1,f2,d⟩
theorem Inv.unpinned {pins pl:List (Q7×T1)} {σ:St} {H:Hp} {s:Q9} (I:Inv X (pins++pl) σ H s):Inv X pins σ H s:=I.pins_of fun p hp=>I.pin p (RV _ (Ug _ hp))
theorem br {iter:Sm} {body:List Sz} {wi:TI} {g:TG} {tb:TS} {pos:Vo} (hp:PassesOwn (RO X.prog X.w) X.A X.env X.xe) (hc:X.calm=true) (hi:PI X tg iter wi) (hg:PG X tg g) (hb:PSs X body tb)
 (hs:∀ x,VY iter X.env x=pure x:=by intro _;rfl):PS X (.For tg iter body [] pos) (aa0 wi g tb):=by
 intro pins s σ H D I h;refine wpAny_For (thn (hi pins s σ H _ I h) fun v s1 h1=>thn h1 fun HZ s2 h2=>?_) hs;obtain ⟨it,fp,tn,J,H2,e,I2,T,EA,f2,W,⟨m0,w0⟩,turn⟩:=h2;subst e
 -- Jc stays true of C7 EB objects through C7 loop
 have Bo:∀ {H':Hp},(∀ b∈fp,H' b=none)->∀ b∈fp,ig X pins H' b:=fun hn b hb=>⟨hn b hb,(f2 b hb).2⟩;refine codeAny_forLoop_any (fun n s'=>∃ i Ab H',Inv X pins Ab H' s'/\tn i s'.heap/\(∀ b∈fp,H' b=none)/\W i n Ab H') ?_ m0 ⟨0,σ,H2,I2,EA,fun b hb=>(f2 b hb).1,w0⟩;rintro n s3 ⟨i,BZ,H3,I3,FW,Fq,w3⟩;rcases turn i n BZ H3 w3 with ⟨stop,qn⟩ | ⟨go,N,hN,step⟩
 · refine S5 hp (thn (T.done X rfl rfl rfl hc i pins s3 BZ H3 X.xe I3 (Bo Fq) FW stop) fun r s4 ⟨hr,I4⟩=>?_);subst hr;exact U5 ⟨BZ,H3,I4,qn⟩
 · refine S5 hp (thn (T.item X rfl rfl rfl hc i pins s3 BZ H3 X.xe I3 (Bo Fq) FW go) fun r s4 ⟨u,hr,h4⟩=>?_);subst hr;refine S5 hp (thn h4 fun _ s5 ⟨x,H5,I5,r5,y5,Fs,Ia⟩=>?_);have Jk:=I5.pinned (Bo Ia) (T.obj _ _ Fs);refine S5 hp (thn (hg _ s5 BZ H5 x u _ Jk r5 (step x H5 y5)) fun _ s6 ⟨Np,H6,I6,q6⟩=>?_);refine S5 hp (thn (hb _ s6 Np H6 _ I6 q6) fun f s7 q7=>?_)
   have again:∀ {Bx:St} {H7:Hp},Inv X (pins++j8 fp s5.heap) Bx H7 s7->N Bx H7->∃ m,m<n/\∃ i Ab H',Inv X pins Ab H' s7/\tn i s7.heap/\(∀ b∈fp,H' b=none)/\W i m Ab H':=fun {Bx H7} I7 n7=>by
    obtain ⟨m',hm,w7⟩:=hN Bx H7 n7;refine ⟨m',hm,i+1,Bx,H7,I7.unpinned,T.keep _ _ _ Fs fun b hb o e=>(I7.pin (b,o) (RV _ (RV _ (cU hb e)))).1,fun b hb=>?_,w7⟩;obtain ⟨o,e,d⟩:=T.obj _ _ Fs b hb;exact (I7.pin (b,o) (RV _ (RV _ (cU hb e)))).2.1
   cases f with
   | next=>obtain ⟨Bx,H7,I7,n7⟩:=q7;exact again I7 n7
   | cont=>obtain ⟨Bx,H7,I7,n7⟩:=q7;exact again I7 n7
   | brk=>obtain ⟨Bx,H7,I7,q7⟩:=q7;exact ⟨Bx,H7,I7.unpinned,q7⟩
   | ret v=>obtain ⟨x7,Bx,H7,I7,r7,q7⟩:=q7;exact ⟨x7,Bx,H7,I7.unpinned,r7,q7⟩
end
theorem mM {K:Q4} {a:Q7} {xs:List V} {g:TG} {tb:TS} {D:Ends} {σ:St} {H:Hp} (Pv:Nat->St->Hp->Prop) (h0:Pv 0 σ H) (hl:∀ i σ H,i<=xs.length->Pv i σ H->SqL K H a xs)
 (hs:∀ i x σ H,xs[i]?=some x->Pv i σ H->g x σ H fun Ay H2=>tb { D with nx:=Pv (i+1),ct:=Pv (i+1),bk:=D.nx } Ay H2) (hd:∀ σ H,Pv xs.length σ H->D.nx σ H) :
 ∃ W:Nat->Nat->St->Hp->Prop,(∃ m,W 0 m σ H)/\∀ i m σ H,W i m σ H →
   ((Itl K a).stop i H/\D.nx σ H)∨((Itl K a).go i H/\∃ N:St->Hp->Prop,(∀ Ab H',N Ab H'->∃ m',m'<m/\W (i+1) m' Ab H')/\∀ x H',(Itl K a).yld i H x H'->g x σ H' fun Ay H2=>tb { D with nx:=N,ct:=N,bk:=D.nx } Ay H2):=by
 refine ⟨fun i m σ H=>m=xs.length - i/\i<=xs.length/\Pv i σ H,⟨xs.length,by simp,RJ _,h0⟩,?_⟩;rintro i m σ H ⟨rfl,hi,p⟩;have q:=hl i σ H hi p;by_cases Ax:i<xs.length
 · refine .inr ⟨⟨xs,xs[i],q,by simp [Ax]⟩,Pv (i+1),fun Ab H' p'=>⟨xs.length - (i+1),by omega,rfl,Ax,p'⟩,fun x H' y=>?_⟩;obtain ⟨e,y⟩:=y;subst e;exact hs i x σ _ (y xs q) p
 · have e:i=xs.length:=by omega
   subst e;exact .inl ⟨⟨xs,q,Q8 _⟩,hd σ H p⟩
theorem pH {K:Q4} {a:Q7} {xs:List V} {g:TG} {tb:TS} {D:Ends} {σ:St} {H:Hp} (Pv:Nat->St->Hp->Prop) (h0:Pv 0 σ H) (hl:∀ i σ H,i<=xs.length->Pv i σ H->SqT K H a xs)
 (hs:∀ i x σ H,xs[i]?=some x->Pv i σ H->g x σ H fun Ay H2=>tb { D with nx:=Pv (i+1),ct:=Pv (i+1),bk:=D.nx } Ay H2) (hd:∀ σ H,Pv xs.length σ H->D.nx σ H) :
 ∃ W:Nat->Nat->St->Hp->Prop,(∃ m,W 0 m σ H)/\∀ i m σ H,W i m σ H →
   ((Itt K a).stop i H/\D.nx σ H)∨((Itt K a).go i H/\∃ N:St->Hp->Prop,(∀ Ab H',N Ab H'->∃ m',m'<m/\W (i+1) m' Ab H')/\∀ x H',(Itt K a).yld i H x H'->g x σ H' fun Ay H2=>tb { D with nx:=N,ct:=N,bk:=D.nx } Ay H2):=by
 refine ⟨fun i m σ H=>m=xs.length - i/\i<=xs.length/\Pv i σ H,⟨xs.length,by simp,RJ _,h0⟩,?_⟩;rintro i m σ H ⟨rfl,hi,p⟩;have q:=hl i σ H hi p;by_cases Ax:i<xs.length
 · refine .inr ⟨⟨xs,xs[i],q,by simp [Ax]⟩,Pv (i+1),fun Ab H' p'=>⟨xs.length - (i+1),by omega,rfl,Ax,p'⟩,fun x H' y=>?_⟩;obtain ⟨e,y⟩:=y;subst e;exact hs i x σ _ (y xs q) p
 · have e:i=xs.length:=by omega
   subst e;exact .inl ⟨⟨xs,q,Q8 _⟩,hd σ H p⟩
theorem bK {lo:Int} {n:Nat} {g:TG} {tb:TS} {D:Ends} {σ:St} {H:Hp} (Pv:Nat->St->Hp->Prop) (h0:Pv 0 σ H)
 (hs:∀ i σ H,i<n->Pv i σ H->g (.int (lo+i)) σ H fun Ay H2=>tb { D with nx:=Pv (i+1),ct:=Pv (i+1),bk:=D.nx } Ay H2) (hd:∀ σ H,Pv n σ H->D.nx σ H) :
 ∃ W:Nat->Nat->St->Hp->Prop,(∃ m,W 0 m σ H)/\∀ i m σ H,W i m σ H →
   ((Itr lo n).stop i H/\D.nx σ H)∨((Itr lo n).go i H/\∃ N:St->Hp->Prop,(∀ Ab H',N Ab H'->∃ m',m'<m/\W (i+1) m' Ab H')/\∀ x H',(Itr lo n).yld i H x H'->g x σ H' fun Ay H2=>tb { D with nx:=N,ct:=N,bk:=D.nx } Ay H2):=by
 refine ⟨fun i m σ H=>m=n - i/\i<=n/\Pv i σ H,⟨n,by simp,RJ _,h0⟩,?_⟩;rintro i m σ H ⟨rfl,hi,p⟩;by_cases Ax:i<n
 · refine .inr ⟨Ax,Pv (i+1),fun Ab H' p'=>⟨n - (i+1),by omega,rfl,Ax,p'⟩,fun x H' y=>?_⟩;obtain ⟨e,y⟩:=y;subst e y;exact hs i σ _ Ax p
 · have e:i=n:=by omega
   subst e;exact .inl ⟨Q8 _,hd σ H p⟩
end L2
namespace L2
open PySem PySem.Spec PyProof.Rows
abbrev R2:=V->V->Hp->VK->Prop
def OpR (X:Cx) (f:Q6->Q6->Sem Q6) (r:R2):Prop :=
 ∀ (pins:List (Q7×T1)) (s:Q9) (σ:St) (H:Hp) (x y:V) (v u:Q6) (Q:VK),Inv X pins σ H s->RelV x v->RelV y u->r x y H Q →
   Rw (RO X.prog X.w) X.A (f v u) (EP X pins σ Q) X.xe s
def UnR (X:Cx) (f:Q6->Sem Q6) (r:V->Hp->VK->Prop):Prop :=
 ∀ (pins:List (Q7×T1)) (s:Q9) (σ:St) (H:Hp) (x:V) (v:Q6) (Q:VK),Inv X pins σ H s->RelV x v->r x H Q →
   Rw (RO X.prog X.w) X.A (f v) (EP X pins σ Q) X.xe s
def eH (X:Cx) (f:Q6) (r:List V->Hp->VK->Prop):Prop :=
 ∀ (pins:List (Q7×T1)) (s:Q9) (σ:St) (H:Hp) (xs:List V) (us:List Q6) (Q:VK),Inv X pins σ H s->Vals xs us->r xs H Q →
   Rw (RO X.prog X.w) X.A (call f us) (EP X pins σ Q) X.xe s
def aaD (X:Cx) (r:V->Hp->(Bool->Hp->Prop)->Prop):Prop :=
 ∀ (pins:List (Q7×T1)) (s:Q9) (σ:St) (H:Hp) (x:V) (v:Q6) (Q:Bool->Hp->Prop),Inv X pins σ H s->RelV x v->r x H Q →
   Rw (RO X.prog X.w) X.A (truthy v) (TP X pins σ Q) X.xe s
def tOp (r:R2) (ta tb:TE):TE:=fun σ H Q=>ta σ H fun x H1=>tb σ H1 fun y H2=>r x y H2 Q
def tUn (r:V->Hp->VK->Prop) (ta:TE):TE:=fun σ H Q=>ta σ H fun x H1=>r x H1 Q
inductive IrI (C:Int->Int->Prop) (g:Int->Int->V) (x:V) (y:V) (H:Hp) (Q:VK):Prop
 | mk (i:_) (j:_) (Aj:x=.int i) (Ak:y=.int j) (An:C i j) (Az:Q (g i j) H):IrI C g x y H Q
def rI (C:Int->Int->Prop) (g:Int->Int->V):R2:=IrI C g
inductive aai (g:Int->Int->V) (x:V) (y:V) (H:Hp) (Q:VK):Prop
 | mk (i:_) (j:_) (Aj:x=.int i) (Ak:y=.int j) (An:Q (g i j) H):aai g x y H Q
def rI0 (g:Int->Int->V):R2:=aai g
inductive IrU (g:Int->V) (x:V) (H:Hp) (Q:VK):Prop
 | mk (i:_) (Aj:x=.int i) (Ak:Q (g i) H):IrU g x H Q
def rU (g:Int->V):V->Hp->VK->Prop:=IrU g
section
variable {X:Cx} {a b c:Sm} {ta tb tc:TE} {pos:Vo}
theorem zp (ha:PE X a ta) (hb:PE X b tb) {pins:List (Q7×T1)} {s:Q9} {σ:St} {H:Hp} {R:V->V->Hp->Prop} (I:Inv X pins σ H s)
 (h:ta σ H fun x H1=>tb σ H1 fun y H2=>R x y H2) {Q:Q6->Q9->Prop} {f:Q6->Q6->Sem Q6}
 (hf:∀ v u s2 x y H2,Inv X pins σ H2 s2->RelV x v->RelV y u->R x y H2->Rw (RO X.prog X.w) X.A (f v u) Q X.xe s2) :
 Rw (RO X.prog X.w) X.A (Tz a X.env) (fun v f'=>Rw (RO X.prog X.w) X.A (Tz b X.env) (fun u AS=>Rw (RO X.prog X.w) X.A (f v u) Q X.xe AS) X.xe f') X.xe s:=by
 refine thn (ha pins s σ H _ I h) fun v s1 ⟨x,H1,I1,r1,q1⟩=>?_;refine thn (hb pins s1 σ H1 _ I1 q1) fun u s2 ⟨y,H2,I2,r2,q2⟩=>?_;exact hf v u s2 x y H2 I2 r1 r2 q2
theorem am {op:Operator} {r:R2} (ho:OpR X (Uw op) r) (ha:PE X a ta) (hb:PE X b tb):PE X (.BinOp a op b pos) (tOp r ta tb):=by
 intro pins s σ H Q I h;exact wpAny_BinOp (zp ha hb I h fun v u s2 x y H2 I2 rx ry q=>ho pins s2 σ H2 x y v u Q I2 rx ry q)
theorem qN {op:UnaryOp} {r:V->Hp->VK->Prop} (ho:UnR X (unaryOp op) r) (ha:PE X a ta):PE X (.UnaryOp op a pos) (tUn r ta):=by
 intro pins s σ H Q I h;exact UnaryOp_ (thn (ha pins s σ H _ I h) fun v s1 ⟨x,H1,I1,r1,q1⟩=>ho pins s1 σ H1 x v Q I1 r1 q1)
theorem opI {f:Q6->Q6->Sem Q6} {C:Int->Int->Prop} {g:Int->Int->Int}
 (rule:∀ (i j:Int) (t u:Tok) (s:Q9) (Q:Q6->Q9->Prop) (E:Q6->Q9->Prop),C i j->Q (.int (g i j) s.toks) { s with toks:=s.toks+1 }->Rw (RO X.prog X.w) X.A (f (.int i t) (.int j u)) Q E s) :
 OpR X f (rI C fun i j=>.int (g i j)):=by
 intro pins s σ H x y v u Q I rx ry h;obtain ⟨i,j,rfl,rfl,hc,q⟩:=h;obtain ⟨t,rfl⟩:=rx;obtain ⟨t',rfl⟩:=ry;exact rule i j t t' s _ _ hc ⟨.int (g i j),H,I.tok _,⟨_,rfl⟩,q⟩
theorem zW {f:Q6->Q6->Sem Q6} {g:Int->Int->Int}
 (rule:∀ (i j:Int) (t u:Tok) (s:Q9) (Q:Q6->Q9->Prop) (E:Q6->Q9->Prop),Q (.int (g i j) s.toks) { s with toks:=s.toks+1 }->Rw (RO X.prog X.w) X.A (f (.int i t) (.int j u)) Q E s) :
 OpR X f (rI0 fun i j=>.int (g i j)):=by
 intro pins s σ H x y v u Q I rx ry h;obtain ⟨i,j,rfl,rfl,q⟩:=h;obtain ⟨t,rfl⟩:=rx;obtain ⟨t',rfl⟩:=ry;exact rule i j t t' s _ _ ⟨.int (g i j),H,I.tok _,⟨_,rfl⟩,q⟩
theorem xL {f:Q6->Q6->Sem Q6} {g:Int->Int->Bool}
 (rule:∀ (i j:Int) (t u:Tok) (s:Q9) (Q:Q6->Q9->Prop) (E:Q6->Q9->Prop),Q (.bool (g i j)) s->Rw (RO X.prog X.w) X.A (f (.int i t) (.int j u)) Q E s) :
 OpR X f (rI0 fun i j=>.bl (g i j)):=by
 intro pins s σ H x y v u Q I rx ry h;obtain ⟨i,j,rfl,rfl,q⟩:=h;obtain ⟨t,rfl⟩:=rx;obtain ⟨t',rfl⟩:=ry;exact rule i j t t' s _ _ ⟨.bl (g i j),H,I,rfl,q⟩
def zI (i j:Int):Prop:=0<j/\j<1073741824
def aa5 (i j:Int):Prop:=0<=j/\j<=1000000/\i.natAbs<2 ^ 64
def CMul (i j:Int):Prop:=(-(2 ^ 64)<i/\i<2 ^ 64)∨(-(2 ^ 64)<j/\j<2 ^ 64)
theorem CMul.ok {i j:Int} (h:CMul i j):IntMulOk i j:=by
 rcases h with ⟨h1,h2⟩ | ⟨h1,h2⟩
 · exact .of_left (intBits_le_64 h1 h2)
 · exact .of_right (intBits_le_64 h1 h2)
theorem bE:OpR X (Uw .Add) (rI0 fun i j=>.int (i+j)):=zW fun _ _ _ _ _ _ _ q=>add_int q
theorem mh:OpR X (Uw .Sub) (rI0 fun i j=>.int (i - j)):=zW fun _ _ _ _ _ _ _ q=>sub_int q
theorem fS:OpR X (Uw .Mult) (rI CMul fun i j=>.int (i * j)):=opI fun _ _ _ _ _ _ _ hc q=>mul_int q hc.ok
theorem bj:OpR X (Uw .FloorDiv) (rI zI fun i j=>.int (i / j)):=opI fun i j _ _ _ _ _ hc q=>by
 have h1:(0:Int)<j:=hc.1;have h2:j<1073741824:=hc.2;exact floordiv_int (by omega) (by rw [Int.fdiv_eq_ediv_of_nonneg i (by omega)];exact q) (.inl (PyProof.noPylong_small (by omega)))
theorem aZ:OpR X (Uw .Mod) (rI (fun _ j=>0<j) fun i j=>.int (i%j)):=opI fun i j _ _ _ _ _ hc q=>by
 have h1:(0:Int)<j:=hc;exact mod_int' (by omega) (by rw [Int.fmod_eq_emod_of_nonneg i (by omega)];exact q)
theorem vH:OpR X (Uw .Pow) (rI aa5 fun i j=>.int (i ^ j.toNat)):=opI fun _ _ _ _ _ _ _ hc q=>pow_int_small hc.1 hc.2.1 hc.2.2 q
theorem unI {f:Q6->Sem Q6} {g:Int->Int}
 (rule:∀ (i:Int) (t:Tok) (s:Q9) (Q:Q6->Q9->Prop) (E:Q6->Q9->Prop),Q (.int (g i) s.toks) { s with toks:=s.toks+1 }->Rw (RO X.prog X.w) X.A (f (.int i t)) Q E s) :
 UnR X f (rU fun i=>.int (g i)):=by
 intro pins s σ H x v Q I rx h;obtain ⟨i,rfl,q⟩:=h;obtain ⟨t,rfl⟩:=rx;exact rule i t s _ _ ⟨.int (g i),H,I.tok _,⟨_,rfl⟩,q⟩
theorem lP:UnR X (unaryOp .USub) (rU fun i=>.int (-i)):=unI fun _ _ _ _ _ q=>neg_int q
end
def aan:V->V->Bool
 | .non,.non=>true | .non,.int _=>true | .int _,.non=>true | .non,.bl _=>true | .bl _,.non=>true | .non,.str _=>true | .str _,.non=>true
 | .int _,.int _=>true | .bl _,.bl _=>true | .str _,.str _=>true | .byt _,.byt _=>true
 | .int _,.str _=>true | .str _,.int _=>true | .bl _,.str _=>true | .str _,.bl _=>true
 | _,_=>false
inductive aau (x:V) (y:V) (H:Hp) (Q:VK):Prop
 | mk  (Aj:aan x y=true) (Ak:Q (.bl (decide (x=y))) H):aau  x y H Q
def rEq:R2:=aau
inductive zF (x:V) (y:V) (H:Hp) (Q:VK):Prop
 | mk  (Aj:aan x y=true) (Ak:Q (.bl (!decide (x=y))) H):zF  x y H Q
def rNe:R2:=zF
theorem uk {i j:Int}:decide (V.int i=V.int j)=(i == j):=by
 rw [V2];simp
theorem vA {i j:Bool}:decide (V.bl i=V.bl j)=(i == j):=by
 rw [V2];simp
theorem uu {i j:Ru}:decide (V.str i=V.str j)=(i == j):=by
 rw [V2];simp
theorem uo {i j:Array UInt8}:decide (V.byt i=V.byt j)=(i.toList == j.toList):=by
 rw [V2];cases i;cases j;simp
section
variable {X:Cx} {a b c:Sm} {ta tb tc:TE} {pos:Vo}
theorem bc {pins:List (Q7×T1)} {σ:St} {H:Hp} {s:Q9} {Q:VK} {k k':Bool} (I:Inv X pins σ H s) (q:Q (.bl k) H) (e:k=k'):EP X pins σ Q (.bool k') s:=by
 subst e;exact ⟨.bl k,H,I,rfl,q⟩
theorem cI:OpR X (TH .Eq) rEq:=by
 intro pins s σ H x y v u Q I rx ry h;obtain ⟨hs,q⟩:=h;cases x with
 | non =>
   cases rx;cases y with
   | non=>cases ry;exact PySem.EqNone.eq_none_none (bc I q (by simp))
   | bl j=>cases ry;exact PySem.EqNone.eq_none_bool (bc I q (by simp))
   | int j=>obtain ⟨t',rfl⟩:=ry;exact PySem.EqNone.eq_none_int (bc I q (by simp))
   | str j=>obtain ⟨t',rfl⟩:=ry;exact PySem.EqNone.eq_none_str (bc I q (by simp))
   | _=>exact absurd (show false=true from hs) Rt
 | bl i =>
   cases rx;cases y with
   | non=>cases ry;exact PySem.EqNone.eq_bool_none (bc I q (by simp))
   | bl j=>cases ry;exact eq_bool (bc I q vA)
   | str j=>obtain ⟨t',rfl⟩:=ry;exact PySem.EqMixed.eq_bool_str (bc I q (by simp))
   | _=>exact absurd (show false=true from hs) Rt
 | int i =>
   obtain ⟨t,rfl⟩:=rx;cases y with
   | non=>cases ry;exact PySem.EqNone.eq_int_none (bc I q (by simp))
   | int j=>obtain ⟨t',rfl⟩:=ry;exact eq_int (bc I q uk)
   | str j=>obtain ⟨t',rfl⟩:=ry;exact PySem.EqMixed.eq_int_str (bc I q (by simp))
   | _=>exact absurd (show false=true from hs) Rt
 | str i =>
   obtain ⟨t,rfl⟩:=rx;cases y with
   | non=>cases ry;exact PySem.EqNone.eq_str_none (bc I q (by simp))
   | bl j=>cases ry;exact PySem.EqMixed.eq_str_bool (bc I q (by simp))
   | int j=>obtain ⟨t',rfl⟩:=ry;exact PySem.EqMixed.eq_str_int (bc I q (by simp))
   | str j=>obtain ⟨t',rfl⟩:=ry;exact eq_str (bc I q uu)
   | _=>exact absurd (show false=true from hs) Rt
 | byt i =>
   obtain ⟨t,rfl⟩:=rx;cases y with
   | byt j=>obtain ⟨t',rfl⟩:=ry;exact PySem.W.eq_bytes (bc I q uo)
   | _=>exact absurd (show false=true from hs) Rt
 | _=>cases y <;> exact absurd (show false=true from hs) Rt
theorem dO:OpR X (TH .NotEq) rNe:=by
 intro pins s σ H x y v u Q I rx ry h;obtain ⟨hs,q⟩:=h;cases x with
 | non =>
   cases rx;cases y with
   | non=>cases ry;exact PySem.EqNone.ne_none_none (bc I q (by simp))
   | bl j=>cases ry;exact PySem.EqNone.ne_none_bool (bc I q (by simp))
   | int j=>obtain ⟨t',rfl⟩:=ry;exact PySem.EqNone.ne_none_int (bc I q (by simp))
   | str j=>obtain ⟨t',rfl⟩:=ry;exact PySem.EqNone.ne_none_str (bc I q (by simp))
   | _=>exact absurd (show false=true from hs) Rt
 | bl i =>
   cases rx;cases y with
   | non=>cases ry;exact PySem.EqNone.ne_bool_none (bc I q (by simp))
   | bl j=>cases ry;exact ne_bool (bc I q (congrArg not vA))
   | str j=>obtain ⟨t',rfl⟩:=ry;exact PySem.EqMixed.ne_bool_str (bc I q (by simp))
   | _=>exact absurd (show false=true from hs) Rt
 | int i =>
   obtain ⟨t,rfl⟩:=rx;cases y with
   | non=>cases ry;exact PySem.EqNone.ne_int_none (bc I q (by simp))
   | int j=>obtain ⟨t',rfl⟩:=ry;exact ne_int (bc I q (congrArg not uk))
   | str j=>obtain ⟨t',rfl⟩:=ry;exact PySem.EqMixed.ne_int_str (bc I q (by simp))
   | _=>exact absurd (show false=true from hs) Rt
 | str i =>
   obtain ⟨t,rfl⟩:=rx;cases y with
   | non=>cases ry;exact PySem.EqNone.ne_str_none (bc I q (by simp))
   | bl j=>cases ry;exact PySem.EqMixed.ne_str_bool (bc I q (by simp))
   | int j=>obtain ⟨t',rfl⟩:=ry;exact PySem.EqMixed.ne_str_int (bc I q (by simp))
   | str j=>obtain ⟨t',rfl⟩:=ry;exact ne_str (bc I q (congrArg not uu))
   | _=>exact absurd (show false=true from hs) Rt
 | byt i =>
   obtain ⟨t,rfl⟩:=rx;cases y with
   | byt j=>obtain ⟨t',rfl⟩:=ry;exact PySem.W.ne_bytes (bc I q (congrArg not uo))
   | _=>exact absurd (show false=true from hs) Rt
 | _=>cases y <;> exact absurd (show false=true from hs) Rt
theorem im:OpR X (TH .Lt) (rI0 fun i j=>.bl (decide (i<j))):=xL fun _ _ _ _ _ _ _ q=>lt_int q
theorem iq:OpR X (TH .LtE) (rI0 fun i j=>.bl (decide (i<=j))):=xL fun _ _ _ _ _ _ _ q=>le_int q
theorem nH:OpR X (TH .Gt) (rI0 fun i j=>.bl (decide (j<i))):=xL fun _ _ _ _ _ _ _ q=>gt_int q
theorem zJ:OpR X (TH .GtE) (rI0 fun i j=>.bl (decide (j<=i))):=xL fun _ _ _ _ _ _ _ q=>ge_int q
theorem u7:OpR X (TH .In) (fun x y H Q=>∃ i j,x=.str i/\y=.str j/\Q (.bl (!(Wf j i 0 j.length 1).isEmpty)) H):=by
 intro pins s σ H x y v u Q I rx ry h;obtain ⟨i,j,rfl,rfl,q⟩:=h;obtain ⟨t,rfl⟩:=rx;obtain ⟨t',rfl⟩:=ry;exact in_str (bc I q rfl)
theorem aE (b:Sm) {op:CmpOp} (h:op≠.In:=by decide) (h2:op≠.NotIn:=by decide):behindInMarks op b=false:=by
 have e1:(op == CmpOp.In)=false:=by cases op <;> first | rfl | exact absurd rfl h
 have e2:(op == CmpOp.NotIn)=false:=by cases op <;> first | rfl | exact absurd rfl h2
 cases b <;> simp [behindInMarks,e1,e2]
theorem cz {op:CmpOp} {r:R2} (ho:OpR X (TH op) r) (ha:PE X a ta) (hb:PE X b tb) (hm:behindInMarks op b=false):PE X (.Compare a [op] [b] pos) (tOp r ta tb):=by
 intro pins s σ H Q I h;exact wpAny_Compare1 (zp ha hb I h fun v u s2 x y H2 I2 rx ry q=>ho pins s2 σ H2 x y v u Q I2 rx ry q) hm
inductive yt (x:V) (Q:Bool->Hp->Prop) (H':Hp):Prop
 | mk (k:Bool) (Aj:x=.bl k) (Ak:Q k H'):yt x Q H'
def l4 (t:TE):TT:=fun σ H Q=>t σ H fun x H'=>yt x Q H'
theorem aD {op:CmpOp} {r:R2} (ho:OpR X (TH op) r) (ha:PE X a ta) (hb:PE X b tb) (hm:behindInMarks op b=false):PT X (.Compare a [op] [b] pos) (l4 (tOp r ta tb)):=by
 intro pins s σ H Q I h
 refine wpAny_isTrue_Compare1 (thn (ha pins s σ H _ I h) fun v s1 ⟨x,H1,I1,r1,q1⟩=>thn (hb pins s1 σ H1 _ I1 q1) fun u s2 ⟨y,H2,I2,r2,q2⟩ =>
  thn (ho pins s2 σ H2 x y v u _ I2 r1 r2 q2) fun c s3 ⟨z,H3,I3,r3,k,e,q3⟩=>?_) hm
 subst e;cases r3;exact Tv ⟨H3,I3,q3⟩
def pX (r r':R2) (ta tb tc:TE):TE:=fun σ H Q=>ta σ H fun x H1=>tb σ H1 fun y H2=>r x y H2 fun z H3=>∃ k,z=.bl k ∧
 (if k=true then tc σ H3 fun w' H4=>r' y w' H4 Q else Q (.bl false) H3)
theorem rg {op EC:CmpOp} {r r':R2} (ho:OpR X (TH op) r) (C8:OpR X (TH EC) r') (ha:PE X a ta) (hb:PE X b tb) (hc:PE X c tc)
 (hm:lastMarks [op,EC] [b,c]=false:=by with_unfolding_all rfl):PE X (.Compare a [op,EC] [b,c] pos) (pX r r' ta tb tc):=by
 intro pins s σ H Q I h
 refine Compare_chain (thn (ha pins s σ H _ I h) fun v s1 ⟨x,H1,I1,r1,q1⟩=>chain_link (thn (hb pins s1 σ H1 _ I1 q1) fun u s2 ⟨y,H2,I2,r2,q2⟩ =>
  thn (ho pins s2 σ H2 x y v u _ I2 r1 r2 q2) fun d s3 ⟨z,H3,I3,r3,k,e,q3⟩=>?_)) hm
 subst e;cases r3;refine Tv ?_;cases k with
 | false=>exact ite_ff ⟨.bl false,H3,I3,rfl,q3⟩
 | true=>exact ite_tt (chain_last (thn (hc pins s3 σ H3 _ I3 q3) fun w' s4 ⟨z',H4,I4,r4,q4⟩=>C8 pins s4 σ H4 y z' u w' Q I4 r2 r4 q4))
theorem jh {op EC:CmpOp} {r r':R2} (ho:OpR X (TH op) r) (C8:OpR X (TH EC) r') (ha:PE X a ta) (hb:PE X b tb) (hc:PE X c tc)
 (hm:lastMarks [op,EC] [b,c]=false:=by with_unfolding_all rfl):PT X (.Compare a [op,EC] [b,c] pos) (l4 (pX r r' ta tb tc)):=by
 intro pins s σ H Q I h
 refine isTrue_chain (thn (ha pins s σ H _ I h) fun v s1 ⟨x,H1,I1,r1,q1⟩=>test_link (thn (hb pins s1 σ H1 _ I1 q1) fun u s2 ⟨y,H2,I2,r2,q2⟩ =>
  thn (ho pins s2 σ H2 x y v u _ I2 r1 r2 q2) fun d s3 ⟨z,H3,I3,r3,k,e,q3⟩=>?_)) hm
 subst e;cases r3;refine Tv ?_;cases k with
 | false =>
   obtain ⟨k',e',q'⟩:=q3;cases e';exact ite_ff ⟨H3,I3,q'⟩
 | true =>
   refine ite_tt (test_last (thn (hc pins s3 σ H3 _ I3 q3) fun w' s4 ⟨z',H4,I4,r4,q4⟩=>thn (C8 pins s4 σ H4 y z' u w' _ I4 r2 r4 q4) fun d' s5 ⟨z2,H5,I5,r5,k2,e2,q5⟩=>?_));subst e2;cases r5;exact Tv ⟨H5,I5,q5⟩
def zw (K:Q4) (x:V) (H:Hp) (k:Bool):Prop :=
 match x with
 | .non=>k=false
 | .bl b=>k=b
 | .int i=>k=(i != 0)
 | .str y=>y.length<=Ry/\k=((y.length:Int) != 0)
 | .byt y=>y.size<=Ry/\k=((y.size:Int) != 0)
 | .ref p=>(∃ xs,SqL K H p xs/\k=!xs.isEmpty)∨(∃ xs,SqT K H p xs/\k=!xs.isEmpty)∨∃ Aa,H p=some (.dK Aa)/\k=!Aa.isEmpty
 | _=>False
theorem tz {κ:Type} {Aa:List (κ×V)} {vs:List (κ×Q6)} (r:KV Aa vs):(!vs.isEmpty)=!Aa.isEmpty:=by
 cases r <;> rfl
theorem mw {xs:List V} {its:List Q6} (r:Vals xs its):(!its.toArray.isEmpty)=!xs.isEmpty:=by
 cases r <;> simp
theorem fD:(Ry:Nat)<2 ^ 63:=by rw [TC];decide
theorem za:aaD X (fun x H Q=>∃ k,zw X.K x H k/\Q k H):=by
 intro pins s σ H x v Q I rx h;obtain ⟨k,e,q⟩:=h;have hl:=fD;have hs:Ry=16777216:=TC;cases x with
 | non =>
   cases rx;have e':k=false:=e;subst e';exact truthy_none ⟨H,I,q⟩
 | bl b =>
   cases rx;have e':k=b:=e;subst e';exact Tv ⟨H,I,q⟩
 | int i =>
   obtain ⟨t,rfl⟩:=rx;have e':k=(i != 0):=e;subst e';exact PySem.P.truthy_int ⟨H,I,q⟩
 | str y =>
   obtain ⟨t,rfl⟩:=rx;obtain ⟨hy,e'⟩:y.length<=Ry/\k=((y.length:Int) != 0):=e;subst e';exact PySem.P.truthy_str (by omega) ⟨H,I.tok _,q⟩
 | byt y =>
   obtain ⟨t,rfl⟩:=rx;obtain ⟨hy,e'⟩:y.size<=Ry/\k=((y.size:Int) != 0):=e;subst e';exact PySem.W.truthy_bytes (by omega) ⟨H,I.tok _,q⟩
 | ref p =>
   cases rx;have e':(∃ xs,SqL X.K H p xs/\k=!xs.isEmpty)∨(∃ xs,SqT X.K H p xs/\k=!xs.isEmpty)∨∃ Aa,H p=some (.dK Aa)/\k=!Aa.isEmpty:=e;rcases e' with ⟨xs,hx,e'⟩ | ⟨xs,hx,e'⟩ | ⟨Aa,hx,e'⟩
   · subst e';obtain ⟨its,r,pl,hz⟩:=I.list hx;have hlen:=r.length;exact wpAny_truthy_list pl.isList (by simp only [Rc];omega) ⟨H,I.tok _,by rw [mw r];exact q⟩
   · subst e';obtain ⟨its,r,pl,hz⟩:=I.tuple hx;have hlen:=r.length;exact truthy_tuple pl (by simp only [Rc];omega) ⟨H,I.tok _,by rw [mw r];exact q⟩
   · subst e';obtain ⟨hz,hS,vs,r,m⟩:Aa.length<=Ry/\(p == Vm)=false/\∃ vs,KV Aa vs/\s.heap.DictOf (b9 X.prog X.w) p vs:=I.hok p _ hx;have hlen:Aa.length=vs.length:=Rx r;exact wpAny_truthy_dict hS m (by omega) ⟨H,I.tok _,by rw [tz r];exact q⟩
 | _=>exact (show False from e).elim
theorem aQ (ha:PE X a ta) (he:∀ whole,isTrue a X.env whole=(do let v ← whole;standAt a.pos;holding [v] (truthy v))) :
 PT X a (fun σ H Q=>ta σ H fun x H'=>∃ k,zw X.K x H' k/\Q k H'):=by
 intro pins s σ H Q I h;exact isTrue_plain (thn (ha pins s σ H _ I h) fun v s1 ⟨x,H1,I1,r1,q1⟩=>za pins s1 σ H1 x v Q I1 r1 q1) (he _)
theorem aK:OpR X (Uw .Add) (fun x y H Q=>∃ i j,x=.str i/\y=.str j/\i.length+j.length<=Ry/\Q (.str (i++j)) H):=by
 intro pins s σ H x y v u Q I rx ry h;obtain ⟨i,j,rfl,rfl,hz,q⟩:=h;obtain ⟨t,rfl⟩:=rx;obtain ⟨t',rfl⟩:=ry;exact add_str (fun t' tk=>⟨.str (i++j),H,I.tok _,⟨_,rfl⟩,q⟩) hz
theorem vals1 {x:V} {us:List Q6} (r:Vals [x] us):∃ u,us=[u]/\RelV x u:=by
 cases r with
 | cons r1 r2=>cases r2;exact ⟨_,rfl,r1⟩
theorem vals2 {x y:V} {us:List Q6} (r:Vals [x,y] us):∃ u w',us=[u,w']/\RelV x u/\RelV y w':=by
 cases r with
 | cons r1 r2 =>
   cases r2 with
   | cons r3 r4=>cases r4;exact ⟨_,_,rfl,r1,r3⟩
theorem qR:eH X (.builtin "divmod") (fun xs H Q=>∃ i j,xs=[.int i,.int j]/\zI i j/\∀ p,H p=none->Q (.ref p) (upd H p (.tup [.int (i / j),.int (i%j)]))):=by
 intro pins s σ H xs us Q I r h;obtain ⟨i,j,rfl,⟨h1,h2⟩,q⟩:=h;obtain ⟨u,w',rfl,⟨t,rfl⟩,⟨t',rfl⟩⟩:=vals2 r;refine divmod_int (by omega) ?_ (.inl (PyProof.noPylong_small (by omega)));rw [Int.fdiv_eq_ediv_of_nonneg i (by omega),Int.fmod_eq_emod_of_nonneg i (by omega)];have hn:H s.heap.objs.size=none:=I.hok.fresh (Q8 _);refine ⟨.ref s.heap.objs.size,_,?_,rfl,q _ hn⟩;refine I.laid (fun b o e=>Q5 _ e) (Q8 _) ⟨by simp only [Q3,Te];rw [TC];decide,[.int (i / j) s.toks,.int (i%j) (s.toks+1)],0,.cons ⟨_,rfl⟩ (.cons ⟨_,rfl⟩ .nil),?_⟩;exact Rf s.heap rfl
end
end L2
namespace L2
open PySem PySem.Spec PyProof.Rows
structure ObjM (h:SE) (x dx C:Q7) (mA:Ru->Option Q6):Prop where
 obj:h.get? x=some (T7 C dx)
 ns:h.Ns1 dx mA
 ne:dx≠x
theorem vm {h:SE} {dx:Q7} {mA:Ru->Option Q6} (n:h.Ns1 dx mA):∃ od,h.get? dx=some od/\∀ name,V8 name od=some (mA name):=by
 obtain ⟨o,es,ep,ho,hd,hk,_,hm⟩:=n;refine ⟨o,ho,fun name=>?_⟩;have e:=hm name;unfold nsFind findBy at e;rw [<- Array.find?_toList] at e;unfold V8;rw [hd];dsimp only;split
 · rename_i y q
   rw [q] at e;exact congrArg some e
 · rename_i q
   rw [q] at e
   have a:es.toList.any (·.refKey)=false:=by
    rw [List.any_eq_false];intro y hy;obtain ⟨z,t,Jl⟩:=hk y (Array.mem_toList_iff.mp hy);simp [DictEntry.refKey,Jl]
   have a':¬ es.toList.any (·.refKey)=true:=by rw [a];exact Rt
   rw [if_neg a'];exact congrArg some e
theorem ObjM.look {h:SE} {x dx C:Q7} {mA:Ru->Option Q6} (I:ObjM h x dx C mA):∃ od,PySem.W.InstAt h x (T7 C dx) C (some od)/\∀ name,V8 name od=some (mA name) :=
 let ⟨od,ho,hl⟩:=vm I.ns
 ⟨od,⟨I.obj,rfl,rfl,ho⟩,hl⟩
section
variable {prog:RL} {w:R1} {A:R6} {E:Q6->Q9->Prop} {s:Q9} {K:Q4} {x dx C f:Q7} {mA:Ru->Option Q6} {name:Ru} {v:Q6}
theorem get_map {expr:Bool} {Q:Q6->Q9->Prop} (X:K.In s.heap) (I:ObjM s.heap x dx C mA) (hg:Va K C name=true) (hh:Vy K C=true)
 (ha:Sy K (.ref C) name=some none) (hv:mA name=some v) (B0:PySem.W.handedIn v=true) (h:Q v { s with toks:=s.toks+1 }) :
 Rw (RO prog w) A (getAttr (.ref x) name expr) Q E s:=by
 obtain ⟨od,J,hl⟩:=I.look;exact PySem.W.get_value X J (Wn hg).1 (PySem.W.findObj_own hh ha rfl (by rw [hl,hv])) B0 h
theorem xb {pl:Sem Bool} {Q:Q6×List Q6->Q9->Prop} (X:K.In s.heap) (I:ObjM s.heap x dx C mA) (hg:Va K C name=true)
 (hf:Sy K (.ref C) name=some (some (.ref f))) (ht:VQ K (.ref f)=true) (hv:mA name=none) (h:Q (.ref f,[.ref x]) s) :
 Rw (RO prog w) A (getMethod (.ref x) name pl) Q E s:=by
 obtain ⟨od,J,hl⟩:=I.look;exact PySem.W.method_fn X J (Wn hg).1 (Wn hg).2 hf (beq_iff_eq.mp ht) (by show (V8 name od).map (·.isSome)=some false;rw [hl,hv];rfl) h
theorem xE {ns:List Ru} {Q:Unit->Q9->Prop} (X:K.In s.heap) (I:ObjM s.heap x dx C mA)
 (hs:Sy K (.ref C) "__setattr__"=some (some (.builtin "object.__setattr__"))) (hp:WI K C=true) (ht:PySem.W.takerIn K C name=some none) (hh:Vy K C=true)
 (hw:PySem.Within mA ns) (hsz:ns.length<=Ry)
 (h:∀ h',ObjM h' x dx C (fun y=>if y=name then some v else mA y)->TK dx s.heap h'->Q () { s with heap:=h',toks:=s.toks+2 }) :
 Rw (RO prog w) A (setAttr (.ref x) name v) Q E s:=by
 obtain ⟨od,J,hl⟩:=I.look;refine PySem.W.set_plain X J hs (PySem.W.osa_open (s:={ s with toks:=s.toks+1 }) (r:=none) X J hp ht fun b=>?_);obtain ⟨cd,hc,Je⟩:=PySem.W.any_some hh;have hx:s.heap.get? x=some ⟨.ref C,some dx,.plain,#[]⟩:=I.obj;refine Q2 (Rl (Q2 (Q2 (wpAny_loadPart hx (Q2 (PySem.W.Looks.here (s:={ s with toks:=s.toks+1 }) (PySem.W.looks_clsIn X hc) ?_))))));rw [Je];refine Rl (a:=some dx) (Q2 (Rl (Q2 ?_)));refine wpAny_nsSet1 (s:={ s with toks:=s.toks+1 }) I.ns fun h' Ib LH=>?_;obtain ⟨oD,Qn,Qo,Nq,Nr,Nt⟩:=Ib.count (PySem.Within.cons name v hw);refine Q2 (wpAny_lookBehind Nq (by rw [Nr];exact pastItsLine_dict (Sw Nt (by rw [Q3];omega))) ?_);exact Rl (h _ ⟨(LH.2 _ (UX I.ne)).trans I.obj,Ib,I.ne⟩ LH)
theorem v9 {R:Result->Q9->Prop} {vs:List Q6} {kw:List (Ru×Q6)} (X:K.In s.heap) (hm:PySem.W.makesIn K C=true)
 (hi:Sy K (.ref C) "__init__"=some (some (.ref f))) (hf:PySem.W.typeIn K (.ref f)=some (.type "function"))
 (h:VA (RO prog w) (A.under (.builtin "type.__call__" ⟨.ref C::vs,kw⟩)) (.call (.ref f) ⟨.ref (s.heap.objs.size+1)::vs,kw⟩) (PySem.W.InitBack (s.heap.objs.size+1) R)
  { s with heap:=(s.heap.push Tp).push (T7 C s.heap.objs.size) }) :
 VA (RO prog w) A (.call (.ref C) ⟨vs,kw⟩) R s:=by
 obtain ⟨hh,g,d,t,os⟩:=s;exact PySem.W.make_core (PySem.W.makes_of X hm) (PySem.W.looks_findIn X hi) (fun self=>PySem.W.bind_fn X self hf) (.inl rfl) h
end
def dk (f:Ru) (v:V):List (Ru×V)->List (Ru×V)
 | []=>[(f,v)]
 | (g,x)::r=>if g=f then (g,v)::r else (g,x)::dk f v r
theorem kC (f g:Ru) (v:V):∀ fs:List (Ru×V),(dk f v fs).lookup g=if g=f then some v else fs.lookup g
 | []=>by
   show Uh g [(f,v)]=_;by_cases h:g=f
   · have hb:(g == f)=true:=beq_iff_eq.mpr h;simp only [Uh,hb,if_pos h]
   · have hb:(g == f)=false:=beq_eq_false_iff_ne.mpr h;simp only [Uh,hb,if_neg h]
 | (k,x)::r=>by
   have ih:=kC f g v r;rw [show dk f v ((k,x)::r)=(if k=f then (k,v)::r else (k,x)::dk f v r) from rfl];by_cases hk:k=f
   · rw [if_pos hk];by_cases h:g=k
     · have hb:(g == k)=true:=beq_iff_eq.mpr h;simp only [Uh,hb,if_pos (h.trans hk)]
     · have hb:(g == k)=false:=beq_eq_false_iff_ne.mpr h;simp only [Uh,hb,if_neg (fun e:g=f=>h (e.trans hk.symm))]
   · rw [if_neg hk];by_cases h:g=k
     · have hb:(g == k)=true:=beq_iff_eq.mpr h;simp only [Uh,hb,if_neg (fun e:g=f=>hk (h.symm.trans e))]
     · have hb:(g == k)=false:=beq_eq_false_iff_ne.mpr h;simp only [Uh,hb];exact ih
theorem kc (f:Ru) (v:V):∀ fs:List (Ru×V),f∈(dk f v fs).map (·.1)/\∀ g,g∈fs.map (·.1)->g∈(dk f v fs).map (·.1)
 | []=>⟨by simp [dk],fun g h=>by simp at h⟩
 | (k,x)::r=>by
   obtain ⟨i1,i2⟩:=kc f v r;rw [show dk f v ((k,x)::r)=(if k=f then (k,v)::r else (k,x)::dk f v r) from rfl];by_cases hk:k=f
   · rw [if_pos hk];subst hk;exact ⟨by simp,fun g h=>by simpa using h⟩
   · rw [if_neg hk];refine ⟨?_,fun g h=>?_⟩
     · rw [Rr];exact Ri _ i1
     · rw [Rr] at h ⊢;rcases Rq.mp h with e | e
       · exact Rq.mpr (.inl e)
       · exact Ri _ (i2 g e)
theorem kS (f:Ru) (v:V):∀ fs:List (Ru×V),(dk f v fs).length<=fs.length+1
 | []=>by simp [dk]
 | (k,x)::r=>by
   have ih:=kS f v r;rw [show dk f v ((k,x)::r)=(if k=f then (k,v)::r else (k,x)::dk f v r) from rfl];by_cases hk:k=f
   · rw [if_pos hk,Q3,Q3];omega
   · rw [if_neg hk,Q3,Q3];omega
theorem RelO.some_of {v:V} {o:Option Q6} (r:RelO (some v) o):∃ u,o=some u/\RelV v u:=by
 cases o with
 | none=>exact (show False from r).elim
 | some u=>exact ⟨u,rfl,r⟩
theorem RelO.none_of {o:Option Q6} (r:RelO none o):o=none:=by
 cases o with
 | none=>rfl
 | some u=>exact (show False from r).elim
theorem uX {v:V} {u:Q6} (r:RelV v u):PySem.W.handedIn u=true:=by
 cases v with
 | non=>cases (show u=Ur from r);rfl
 | bl b=>cases (show u=Value.bool b from r);rfl
 | int i=>obtain ⟨t,e⟩:=(show ∃ t,u=VI i t from r);cases e;rfl
 | str x=>obtain ⟨t,e⟩:=(show ∃ t,u=VH x t from r);cases e;rfl
 | byt b=>obtain ⟨t,e⟩:=(show ∃ t,u=Value.bytes b t from r);cases e;rfl
 | flt b=>obtain ⟨t,e⟩:=(show ∃ t,u=Value.float b t from r);cases e;rfl
 | ref a=>cases (show u=Sx a from r);rfl
 | ty n=>cases (show u=Value.type n from r);rfl
section
variable {P:RL} {w:R1} {H H':Hp} {h h':SE} {a C dx:Q7} {fs Fp:List (Ru×V)}
theorem lv (hok:HOk P w H h) (e:H a=some (.ins C dx fs)):∃ mA,ObjM h a dx C mA/\(∀ f,RelO (fs.lookup f) (mA f))/\PySem.Within mA (fs.map (·.1))/\fs.length<=1000/\H dx=some (.own a):=by
 obtain ⟨d,z,ne,ob,mA,n,r,q⟩:=(show ObjOk P w H h a (.ins C dx fs) from hok a _ e);exact ⟨mA,⟨ob,n,ne⟩,r,q,z,d⟩
end
structure Cls (K:Q4) (C:Q7):Prop where
 pg:Va K C U1=true
 hd:Vy K C=true
 po:WI K C=true
 sa:Sy K (.ref C) "__setattr__"=some (some (.builtin "object.__setattr__"))
theorem Cls.get {K:Q4} {C:Q7} (c:Cls K C) (f:Ru):Va K C f=true:=c.pg
def NoAttr (K:Q4) (C:Q7) (f:Ru):Prop:=Sy K (.ref C) f=some none
theorem NoAttr.taker {K:Q4} {C:Q7} {f:Ru} (n:NoAttr K C f):PySem.W.takerIn K C f=some none:=by
 unfold PySem.W.takerIn;rw [show Sy K (.ref C) f=some none from n];rfl
structure Meth (K:Q4) (C:Q7) (m:Ru) (f:Q7):Prop where
 at_:Sy K (.ref C) m=some (some (.ref f))
 fn:VQ K (.ref f)=true
 kp:TZ K (.ref f)=true
section
variable {X:Cx} {pins:List (Q7×T1)} {σ:St} {H:Hp} {s:Q9} {a C dx:Q7} {fs:List (Ru×V)} {f:Ru} {v:V} {A:R6} {E:Q6->Q9->Prop}
theorem mm {b:Bool} {Q:Q6->Q9->Prop} (I:Inv X pins σ H s) (e:H a=some (.ins C dx fs)) (c:Cls X.K C) (n:NoAttr X.K C f) (l:fs.lookup f=some v)
 (h:∀ u s',Inv X pins σ H s'->RelV v u->Q u s'):Rw (RO X.prog X.w) A (getAttr (.ref a) f b) Q E s:=by
 obtain ⟨mA,O,r,_,_,_⟩:=lv I.hok e;obtain ⟨u,hu,ru⟩:=RelO.some_of (v:=v) (o:=mA f) (by rw [<- l];exact r f);exact get_map I.kIn O (c.get f) c.hd n hu (uX ru) (h u _ (I.tok _) ru)
theorem tu {m:Ru} {g:Q7} {pl:Sem Bool} {Q:Q6×List Q6->Q9->Prop} (I:Inv X pins σ H s) (e:H a=some (.ins C dx fs)) (c:Cls X.K C) (k:Meth X.K C m g) (l:fs.lookup m=none)
 (h:Q (.ref g,[.ref a]) s):Rw (RO X.prog X.w) A (getMethod (.ref a) m pl) Q E s:=by
 obtain ⟨mA,O,r,_,_,_⟩:=lv I.hok e;have hn:mA m=none:=RelO.none_of (by rw [<- l];exact r m);exact xb I.kIn O (c.get m) k.at_ k.fn hn h
theorem lM {y:V} {u:Q6} {Q:Unit->Q9->Prop} (I:Inv X pins σ H s) (e:H a=some (.ins C dx fs)) (c:Cls X.K C) (n:NoAttr X.K C f) (hl:fs.length<1000) (ry:RelV y u)
 (h:∀ s',Inv X pins σ (upd H a (.ins C dx (dk f y fs))) s'->Q () s'):Rw (RO X.prog X.w) A (setAttr (.ref a) f u) Q E s:=by
 obtain ⟨mA,O,r,wi,_,ho⟩:=lv I.hok e;have hz:(fs.map (·.1)).length<=Ry:=by rw [Q0,TC];omega
 refine xE I.kIn O c.sa c.po n.taker c.hd wi hz fun h' O' sb=>h _ ?_;have hd:∃ o,h'.get? dx=some o:=let ⟨o,_,_,e',_⟩:=O'.ns;⟨o,e'⟩
 refine I.write (x:=a) (e:=dx) (by rw [e];exact UG) (.inr ho) (fun b q hb z=>(sb.2 b hb).trans z) hd ?_;refine ⟨by rw [al O.ne];exact ho,?_,O.ne,O'.obj,_,O'.ns,fun g=>?_,fun g hg=>?_⟩
 · have:=kS f y fs;omega
 · show RelO ((dk f y fs).lookup g) (if g=f then some u else mA g);rw [kC];by_cases q:g=f
   · rw [if_pos q,if_pos q];exact ry
   · rw [if_neg q,if_neg q];exact r g
 · by_cases q:g=f
   · rw [q];exact (kc f y fs).1
   · refine (kc f y fs).2 g (wi g fun z=>hg ?_);show (if g=f then some u else mA g)=none;rw [if_neg q];exact z
theorem Inv.made (I:Inv X pins σ H s):Inv X pins σ (upd (upd H s.heap.objs.size (.own (s.heap.objs.size+1))) (s.heap.objs.size+1) (.ins C s.heap.objs.size []))
 { s with heap:=(s.heap.push Tp).push (T7 C s.heap.objs.size) }:=by
 have e1:(s.heap.push Tp).get? s.heap.objs.size=some Tp:=Rf s.heap rfl
 have e2:((s.heap.push Tp).push (T7 C s.heap.objs.size)).get? (s.heap.objs.size+1)=some (T7 C s.heap.objs.size):=by
  have:=Rf (s.heap.push Tp) (o:=T7 C s.heap.objs.size) rfl
  rwa [SD] at this
 have e3:(s.heap.push Tp).Ns s.heap.objs.size (fun _=>none):=⟨Tp,#[],_,e1,rfl,(fun e he=>absurd he (by simp)),fun _=>rfl⟩;have I1:=I.laid (a:=s.heap.objs.size) (o:=.own (s.heap.objs.size+1)) (h':=s.heap.push Tp) (t':=s.toks) (fun b u q=>Q5 _ q) (Q8 _) ⟨_,e1⟩;refine I1.laid (a:=s.heap.objs.size+1) (o:=.ins C s.heap.objs.size []) (t':=s.toks) (fun b u q=>Q5 _ q) (WL (SD _ _)) ?_;have ne:s.heap.objs.size≠s.heap.objs.size+1:=RT (UL _);refine ⟨by rw [al ne,ac],RJ _,ne,e2,fun _=>none,(Heap.Ns1.of_empty e3).at fun o q=>Q5 _ q,fun _=>UG,fun y hy=>absurd rfl hy⟩
theorem xo {prog:RL} {w:R1} {env:Env} {e:Sm} {f:Ru} {pos:Vo} {s:Q9} {Q:Q6->Q9->Prop} (hb:V4 e f env (Tz e env)=Tz e env)
 (h:Rw (RO prog w) A (Tz e env) (fun o f'=>Rw (RO prog w) A (getAttr o f true) Q E f') E s):Rw (RO prog w) A (Tz (.Attribute e f pos) env) Q E s :=
 Attribute_any_ h (by rw [arm_eval_Attribute,hb])
end
def aaL (K:Q4) (ta:TE) (f:Ru):TE:=fun σ H Q=>ta σ H fun x H1=>∃ a C dx fs v,x=.ref a/\H1 a=some (.ins C dx fs)/\Cls K C/\NoAttr K C f/\fs.lookup f=some v/\Q v H1
def aaZ (K:Q4) (ta tv:TE) (f:Ru):TS:=fun D σ H=>tv σ H fun y H1=>ta σ H1 fun x H2=>∃ a C dx fs,x=.ref a/\H2 a=some (.ins C dx fs)/\Cls K C/\NoAttr K C f/\fs.length<1000 ∧
 D.nx σ (upd H2 a (.ins C dx (dk f y fs)))
def aam (X:Cx) (op:Operator) (rd:V->V->Hp->VK->Prop):Prop :=
 ∀ (pins:List (Q7×T1)) (s:Q9) (σ:St) (H:Hp) (x y:V) (u v:Q6) (Q:VK),Inv X pins σ H s->RelV x u->RelV y v->rd x y H Q->Rw (RO X.prog X.w) X.A (inplaceOp op u v) (EP X pins σ Q) X.xe s
def xh (K:Q4) (ta tv:TE) (rd:V->V->Hp->VK->Prop) (f:Ru):TS:=fun D σ H=>ta σ H fun x H1=>∃ a C dx fs v,x=.ref a/\H1 a=some (.ins C dx fs)/\Cls K C/\NoAttr K C f/\fs.lookup f=some v ∧
 tv σ H1 fun y H2=>rd v y H2 fun z H3=>∃ Jm Fp,H3 a=some (.ins C Jm Fp)/\Fp.length<1000/\D.nx σ (upd H3 a (.ins C Jm (dk f z Fp)))
section
variable {X:Cx} {o e value:Sm} {f:Ru} {pos pos' DR:Vo} {ta tv:TE}
theorem wC (he:PE X e ta) (hb:V4 e f X.env (Tz e X.env)=Tz e X.env):PE X (.Attribute e f pos) (aaL X.K ta f):=by
 intro pins s σ H Q I h;refine xo hb (thn (he pins s σ H _ I h) fun u s1 ⟨x,H1,I1,rx,a,C,dx,fs,v,ex,ea,c,n,l,q⟩=>?_);subst ex;obtain rfl:u=Sx a:=rx;exact mm I1 ea c n l fun u' s2 I2 ru=>⟨v,H1,I2,ru,q⟩
theorem wG (ha:PE X o ta) (hv:PE X value tv) (hs:swapsWith value (some (.Attribute o f pos')) pos.line X.env=pure false):PS X (.Assign [.Attribute o f pos'] value pos) (aaZ X.K ta tv f):=by
 intro pins s σ H D I h;refine plainObj_wpAny_Assign_Attribute (thn (hv pins s σ H _ I h) fun u s1 ⟨y,H1,I1,ry,q⟩=>thn (ha pins s1 σ H1 _ I1 q) fun ov s2 ⟨x,H2,I2,rx,a,C,dx,fs,ex,ea,c,n,l,q2⟩=>?_) hs;subst ex;obtain rfl:ov=Sx a:=rx;exact lM I2 ea c n l ry fun s3 I3=>⟨σ,_,I3,q2⟩
theorem n6 {op:Operator} {rd:V->V->Hp->VK->Prop} (ha:PE X o ta) (hv:PE X value tv) (Nu:aam X op rd):PS X (.AugAssign (.Attribute o f DR) op value pos) (xh X.K ta tv rd f):=by
 intro pins s σ H D I h;refine wpAny_AugAssign_AttributeAny (thn (ha pins s σ H _ I h) fun ov s1 ⟨x,H1,I1,rx,a,C,dx,fs,v,ex,ea,c,n,l,q⟩=>?_);subst ex;obtain rfl:ov=Sx a:=rx;refine mm I1 ea c n l fun u s2 I2 ru=>thn (hv pins s2 σ H1 _ I2 q) fun w3 s3 ⟨y,H2,I3,ry,q3⟩=>thn (Nu pins s3 σ H2 v y u w3 _ I3 ru ry q3) fun w4 s4 ⟨z,H3,I4,rz,Jm,Fp,Nv,l',q4⟩=>?_;exact lM I4 Nv c n l' rz fun s5 I5=>⟨σ,_,I5,q4⟩
def aaU:V->V->Hp->VK->Prop:=fun x y H Q=>∃ i j,x=.int i/\y=.int j/\Q (.int (i+j)) H
theorem vJ:aam X .Add aaU:=by
 rintro pins s σ H x y u v Q I rx ry ⟨i,j,rfl,rfl,q⟩;obtain ⟨t,rfl⟩:=(show ∃ t,u=VI i t from rx);obtain ⟨t',rfl⟩:=(show ∃ t',v=VI j t' from ry);exact PyProof.Rows.iadd_int ⟨.int (i+j),H,I.tok _,⟨_,rfl⟩,q⟩
end
section
variable {X:Cx} {pins:List (Q7×T1)} {σ:St} {H:Hp} {s:Q9} {A:R6} {E:Q6->Q9->Prop} {Q:Q6->Q9->Prop} {c:Q6} {b:Bool}
inductive jx (K:Q4) (H:Hp):V->Q6->Prop where
 | non:jx K H .non (.type "NoneType")
 | bl (x:Bool):jx K H (.bl x) (.type "bool")
 | int (i:Int):jx K H (.int i) (.type "int")
 | str (x:Ru):jx K H (.str x) (.type "str")
 | flt (x:UInt64):jx K H (.flt x) (.type "float")
 | lst {a:Q7} {xs:List V} (e:H a=some (.lst xs)):jx K H (.ref a) (.type "list")
 | frz {a:Q7} {o:T1} {xs:List V} (e:H a=some (.frz o (.lst xs))):jx K H (.ref a) (.type "list")
 | tup {a:Q7} {xs:List V} (e:H a=some (.tup xs)):jx K H (.ref a) (.type "tuple")
 | dK {a:Q7} {Aa:List (Key×V)} (e:H a=some (.dK Aa)):jx K H (.ref a) (.type "dict")
 | dT {a:Q7} {Aa:List (List Key×V)} (e:H a=some (.dT Aa)):jx K H (.ref a) (.type "dict")
 | ins {a C dx:Q7} {fs:List (Ru×V)} (e:H a=some (.ins C dx fs)) (cl:Cls K C) (ha:Sy K (.ref C) "__class__"=some (some (.builtin "object.__class__")))
  (hn:PySem.W.specialIn K (.builtin "object.__class__") "__get__"=some (some (.builtin "getset_descriptor.__get__"))) (Dc:PySem.W.takesIn K (.builtin "object.__class__")=some true)
  (hm:PySem.W.mroIn K C (.type "object")=some true):jx K H (.ref a) (.ref C)
theorem ve {x:V} {u t:Q6} (I:Inv X pins σ H s) (rx:RelV x u) (ty:jx X.K H x t) (e:TF X.K t c=some b) (h:∀ tk,Q (.bool b) { s with toks:=tk }) :
 Rw (RO X.prog X.w) A (call (.builtin "isinstance") [u,c]) Q E s:=by
 cases ty with
 | non=>cases (show u=Ur from rx);exact Tb PySem.W.kitx_none I.kIn UG e (fun z=>nomatch z) h
 | bl y=>cases (show u=Value.bool y from rx);exact Tb PySem.W.kitx_bool I.kIn UG e (fun z=>nomatch z) h
 | int i=>obtain ⟨t,q⟩:=(show ∃ t,u=VI i t from rx);cases q;exact Tb PySem.W.kitx_int I.kIn UG e (fun z=>nomatch z) h
 | str y=>obtain ⟨t,q⟩:=(show ∃ t,u=VH y t from rx);cases q;exact Tb PySem.W.kitx_str I.kIn UG e (fun z=>nomatch z) h
 | flt y=>obtain ⟨t,q⟩:=(show ∃ t,u=Value.float y t from rx);cases q;exact Tb PySem.W.kitx_float I.kIn UG e (fun z=>nomatch z) h
 | @lst a xs ea =>
   cases (show u=Sx a from rx);obtain ⟨_,_,n,_,h1⟩:=(show ObjOk X.prog X.w H s.heap a (.lst xs) from I.hok a _ ea);exact Tb PySem.W.kitx_list I.kIn ⟨_,h1,rfl⟩ e (fun z=>nomatch z) h
 | @frz a ob xs ea =>
   cases (show u=Sx a from rx);obtain ⟨_,_,_,n,_,h1⟩:=(show ObjOk X.prog X.w H s.heap a (.frz ob (.lst xs)) from I.hok a _ ea);exact Tb PySem.W.kitx_list I.kIn ⟨_,h1,rfl⟩ e (fun z=>nomatch z) h
 | @tup a xs ea =>
   cases (show u=Sx a from rx);obtain ⟨_,_,_,_,h1⟩:=(show ObjOk X.prog X.w H s.heap a (.tup xs) from I.hok a _ ea);exact Tb PySem.W.kitx_tuple I.kIn ⟨_,h1,rfl⟩ e (fun z=>nomatch z) h
 | @dK a Aa ea =>
   cases (show u=Sx a from rx);obtain ⟨_,_,vs,_,p⟩:=(show ObjOk X.prog X.w H s.heap a (.dK Aa) from I.hok a _ ea);obtain ⟨o,es,ep,h1,h2,_⟩:=p;exact Tb PySem.W.kitx_dict I.kIn ⟨o,h1,h2.1⟩ e (fun z=>nomatch z) h
 | @dT a Aa ea =>
   cases (show u=Sx a from rx);obtain ⟨_,_,xs,_,o,es,ep,h1,h2,_⟩:=(show ObjOk X.prog X.w H s.heap a (.dT Aa) from I.hok a _ ea);exact Tb PySem.W.kitx_dict I.kIn ⟨o,h1,h2.1⟩ e (fun z=>nomatch z) h
 | @ins a C dx fs ea cl ha hn Dc hm =>
   cases (show u=Sx a from rx);obtain ⟨mA,O,_⟩:=lv I.hok ea;obtain ⟨od,J,_⟩:=O.look;exact Tb (PySem.W.kitx_own (cl.get _) cl.hd ha hn Dc hm) I.kIn J e (fun z=>nomatch z) h
end
end L2
namespace L2
open PySem PySem.Spec PyProof.Rows
structure Room (k:Nat) (A:R6):Prop where
 hd:A.handled=none
 dp:A.depth+3 * k+5<recursionLimit
 un:A.units+16 * k+200<Vx
theorem Room.mono {j k:Nat} {A:R6} (r:Room k A) (h:j<=k):Room j A:=⟨r.hd,by have:=r.dp;omega,by have:=r.un;omega⟩
theorem Room.deeper {k:Nat} {A:R6} (r:Room (k+1) A) (env:Env):Room k (A.deeper env) :=
 ⟨r.hd,by have:=r.dp;show A.depth+1+3 * k+5<_;omega,by have:=r.un;show A.units+3+16 * k+200<_;omega⟩
theorem tN {A:R6} {C:Q7} {us:List Q6} {kw:List (Ru×Q6)}:(A.under (.builtin "type.__call__" ⟨.ref C::us,kw⟩)).depth=A.depth+1:=by
 first | rfl | simp [Around.under,Code.weight,Code.isCreation,Code.isGuard,Code.isCaller,Code.frames,Code.isFrame,guardIds]
theorem si {A:R6} {C:Q7} {us:List Q6} {kw:List (Ru×Q6)}:(A.under (.builtin "type.__call__" ⟨.ref C::us,kw⟩)).units=A.units+1:=by
 first | rfl | simp [Around.under,Code.cUnits,Code.frames,Code.isFrame]
theorem Room.make {k:Nat} {A:R6} (r:Room (k+1) A) (C:Q7) (us:List Q6) (kw:List (Ru×Q6)):Room k (A.under (.builtin "type.__call__" ⟨.ref C::us,kw⟩)) :=
 ⟨r.hd,by have:=r.dp;rw [tN];omega,by have:=r.un;rw [si];omega⟩
theorem Room.depth {k:Nat} {A:R6} (r:Room k A):A.depth<recursionLimit:=by have:=r.dp;omega
theorem Room.units {k:Nat} {A:R6} (r:Room k A):A.units+64<Vx:=by have:=r.un;omega
def eR:TA:=fun _ H Q=>Q [] H
def b8 (ta:TE) (tr:TA):TA:=fun σ H Q=>ta σ H fun x H1=>tr σ H1 fun xs H2=>Q (x::xs) H2
section
variable {X:Cx} {e:Sm} {es:List Sm} {te:TE} {t:TA} {pos:Vo}
theorem ab:PA X [] eR:=fun _ _ _ _ H Q I h=>TU ⟨[],H,I,.nil,h⟩
theorem aa (ha:PE X e te) (hr:PA X es t) (hs:Se (e::es) X.env=(false,Tz e X.env)::Se es X.env:=by rfl):PA X (e::es) (b8 te t):=by
 intro pos pins s σ H Q I h;rw [hs];show Rw _ _ (VX ((false,Tz e X.env)::Vw pos (Se es X.env))) _ _ s;refine S3 (thn (ha pins s σ H _ I h) fun u s1 ⟨x,H1,I1,r1,q1⟩=>?_);exact thn (hr pos pins s1 σ H1 _ I1 q1) fun us s2 ⟨xs,H2,I2,r2,q2⟩=>⟨x::xs,H2,I2,.cons r1 r2,q2⟩
def tT (t:TA):TE:=fun σ H Q=>t σ H fun xs H1=>xs.length<=Ry/\∀ p,H1 p=none->Q (.ref p) (upd H1 p (.tup xs))
def aa3 (t:TA):TE:=fun σ H Q=>t σ H fun xs H1=>xs.length<=Ry/\∀ p,H1 p=none->Q (.ref p) (upd H1 p (.lst xs))
theorem bg {x1} (h:PA X es t):PE X (.Tuple es x1 pos) (tT t):=by
 intro pins s σ H Q I hq;refine wpAny_Tuple_spliced (thn (h pos pins s σ H _ I hq) fun us s1 ⟨xs,H1,I1,r,z,q⟩=>⟨by rw [<- r.length];exact z,?_⟩);have hf:H1 s1.heap.objs.size=none:=I1.hok.fresh (Q8 _);refine ⟨.ref s1.heap.objs.size,upd H1 s1.heap.objs.size (.tup xs),I1.laid (t':=s1.toks) (fun b u e=>Q5 _ e) (Q8 _) ?_,rfl,q _ hf⟩;exact ⟨z,us,0,r,Rf _ rfl⟩
theorem bm (h:PA X es t):PE X (.List es pos) (aa3 t):=by
 intro pins s σ H Q I hq;refine wpAny_List_spliced (thn (h pos pins s σ H _ I hq) fun us s1 ⟨xs,H1,I1,r,z,q⟩=>⟨by rw [<- r.length];exact z,?_⟩);have hf:H1 s1.heap.objs.size=none:=I1.hok.fresh (Q8 _);refine ⟨.ref s1.heap.objs.size,upd H1 s1.heap.objs.size (.lst xs),I1.laid (t':=s1.toks) (fun b u e=>Q5 _ e) (Q8 _) ?_,rfl,q _ hf⟩;exact ⟨z,us,0,r,Rf _ rfl⟩
end
abbrev Sp:=List V->Hp->VK->XK->Prop
abbrev CXT:=List Env->Hp->Q9->XK->Q6->Q9->Prop
structure Env0 (P:RL) (w:R1) (K:Q4) (mg:Ru->Option Q6) (base:SE) (A:R6) (outer:List Env) (s:Q9) (H:Hp):Prop where
 frames:A.frames=some outer
 mod:Mod K mg base
 bs:∀ b o,base.get? b=some o->s.heap.get? b=some o/\H b=none
 bsz:base.objs.size<=s.heap.objs.size
 funs:s.heap.FunFrames base outer
 frf:∀ b∈frs outer,H b=none
 hok:HOk P w H s.heap
 bare:AllBare s.gens
def CE (outer:List Env) (P:RL) (w:R1) (H:Hp) (s:Q9) (Q:VK) (u:Q6) (s':Q9):Prop :=
 ∃ v H',s'.os=s.os/\AllBare s'.gens/\Un (frs outer) [] H H' s.heap s'.heap/\HOk P w H' s'.heap/\RelV v u/\Q v H'
def CR (CX:CXT) (outer:List Env) (P:RL) (w:R1) (H:Hp) (s:Q9) (Q:VK) (E:XK) (r:Result) (s':Q9):Prop :=
 match r with
 | .ok (.ret u)=>CE outer P w H s Q u s'
 | .ok _=>False
 | .error e=>CX outer H s E e s'
structure aV (P:RL) (w:R1) (K:Q4) (mg:Ru->Option Q6) (base:SE) (CX:CXT) (k:Nat) (f:Q7) (fd:Uz) (ps:List Ru) (sp:Sp):Prop where
 len:∀ vs H Q E,sp vs H Q E->vs.length=ps.length
 run:∀ (A:R6) (outer:List Env) (s:Q9) (H:Hp) (args:Args) (us:List Q6) (vs:List V) (Q:VK) (E:XK),Room k A->Env0 P w K mg base A outer s H->BindsTo s fd args (ps.zip us)->Vals vs us->sp vs H Q E →
  VA (RO P w) A (.call (.ref f) args) (CR CX outer P w H s Q E) s
theorem Env0.make {P:RL} {w:R1} {K:Q4} {mg:Ru->Option Q6} {base:SE} {A:R6} {outer:List Env} {s:Q9} {H:Hp} (e:Env0 P w K mg base A outer s H) (C:Q7) (us:List Q6) (kw:List (Ru×Q6)) :
 Env0 P w K mg base (A.under (.builtin "type.__call__" ⟨.ref C::us,kw⟩)) outer s H:=⟨by first | exact e.frames | (simpa [Around.under,Code.envs,Code.isFrame,pushEnvs] using e.frames),e.mod,e.bs,e.bsz,e.funs,e.frf,e.hok,e.bare⟩
section
variable {X:Cx} {pins:List (Q7×T1)} {σ:St} {H:Hp} {s s':Q9}
theorem Inv.env0 (I:Inv X pins σ H s):Env0 X.prog X.w X.K X.mg X.base X.A X.stack s H :=
 ⟨I.ok.frames,I.ok.mod,I.bs,Sw I.ok.bsz I.sz,I.stack,I.stkFree,I.hok,I.bare⟩
theorem Inv.after {Q:VK} {u:Q6} (I:Inv X pins σ H s) (h:CE X.stack X.prog X.w H s Q u s'):EP X pins σ Q u s':=by
 obtain ⟨v,H',os,bare,un,hok,r,q⟩:=h;obtain ⟨hh,g,d,t,Nw⟩:=s';obtain rfl:Nw=s.os:=os;exact ⟨v,H',I.call (h':=hh) (g':=g) (d':=d) (t':=t) (ch:=[]) un hok bare (fun b z=>absurd z (by simp)),r,q⟩
end
def ip (sp:Sp) (dvs:List V) (E:XK) (t:TA):TE:=fun σ H Q=>t σ H fun vs H1=>sp (vs++dvs) H1 Q E
def aaq (C:Q7) (m:Ru) (sp:Sp) (dvs:List V) (E:XK) (ta:TE) (t:TA):TE:=fun σ H Q=>ta σ H fun x H1=>∃ a dx fs,x=.ref a/\H1 a=some (.ins C dx fs)/\fs.lookup m=none ∧
 t σ H1 fun vs H2=>sp (x::(vs++dvs)) H2 Q E
def zT (C:Q7) (sp:Sp) (dvs:List V) (E:XK) (t:TA):TE:=fun σ H Q=>t σ H fun vs H1=>∀ x dx,H1 x=none->H1 dx=none->dx≠x →
 sp (.ref x::(vs++dvs)) (upd (upd H1 dx (.own x)) x (.ins C dx [])) (fun v H2=>v=.non/\Q (.ref x) H2) E
def Binds (K:Q4) (fd:Uz) (ps:List Ru) (ds:List Q6):Prop :=
 ∀ (s:Q9) (us:List Q6),K.In s.heap->(us++ds).length=ps.length->BindsTo s fd ⟨us,[]⟩ (ps.zip (us++ds))
theorem Binds.all {K:Q4} {fd:Uz} {ps:List Ru} (h:∀ us:List Q6,us.length=ps.length->WG fd ⟨us,[]⟩=pure (ps.zip us)):Binds K fd ps []:=fun s us _ hl=>by
 rw [RC] at hl ⊢;exact .of_eq (h us hl)
def Passes (CX:CXT) (X:Cx) (E:XK):Prop:=∀ (pins:List (Q7×T1)) (σ:St) (H:Hp) (s:Q9) (e:Q6) (s':Q9),Inv X pins σ H s->CX X.stack H s E e s'->X.xe e s'
section
variable {X:Cx} {CX:CXT} {k:Nat} {f C:Q7} {fd:Uz} {ps:List Ru} {sp:Sp} {dvs:List V} {ds:List Q6} {E:XK} {x m:Ru} {p pos apos:Vo} {e o:Sm} {es:List Sm} {ta:TE} {t:TA}
theorem wR {pins:List (Q7×T1)} {σ:St} {H:Hp} {s:Q9} {Q:VK} {us:List Q6} {vs:List V} (F:aV X.prog X.w X.K X.mg X.base CX k f fd ps sp) (hr:Room k X.A) (hb:Binds X.K fd ps ds) (hd:Vals dvs ds) (hx:Passes CX X E)
 (I:Inv X pins σ H s) (r:Vals vs us) (h:sp (vs++dvs) H Q E):Rw (RO X.prog X.w) X.A (call (.ref f) us) (EP X pins σ Q) X.xe s:=by
 have r2:Vals (vs++dvs) (us++ds):=r.append hd;have hl:(us++ds).length=ps.length:=by rw [<- r2.length];exact F.len _ _ _ _ h
 refine wpAny_call (Vz (F.run X.A X.stack s H ⟨us,[]⟩ (us++ds) (vs++dvs) Q E hr I.env0 (hb s us I.kIn hl) r2 h) fun r s' hq=>?_);cases r with
 | error e=>exact hx pins σ H s e s' I hq
 | ok fl =>
   cases fl with
   | ret u=>exact I.after hq
   | next=>exact T3 hq
   | brk=>exact T3 hq
   | cont=>exact T3 hq
theorem jr (F:aV X.prog X.w X.K X.mg X.base CX k f fd ps sp) (hr:Room k X.A) (hg:Gl X x) (hm:X.mg x=some (.ref f)) (hk:TZ X.K (.ref f)=true) (hb:Binds X.K fd ps ds) (hd:Vals dvs ds) (hx:Passes CX X E)
 (ha:PA X (e::es) t) (DS:(x == ("__debug__":Ru))=false:=by decide) (he:Se (e::es) X.env=(false,Tz e X.env)::Se es X.env:=by rfl) (AX:(Vw pos (Se es X.env)).any (·.1)=false:=by rfl) :
 PE X (.Call (.Name x p) (e::es) [] pos) (ip sp dvs E t):=by
 intro pins s σ H Q I h;refine Ti (pw I hg hm ?_ DS);refine PySem.W.callWith_K (h₀:=X.base) I.ok.mod.kin hk (thn (ha pos pins s σ H _ I h) fun us s1 ⟨vs,H1,I1,r,q⟩=>⟨I1.kIn,?_⟩) he AX;exact wR F hr hb hd hx I1 r q
theorem xW {pl:Sem Bool} (he:PE X o ta) (c:Cls X.K C) (hm:Meth X.K C m f) (F:aV X.prog X.w X.K X.mg X.base CX k f fd ps sp) (hr:Room k X.A) (hb:Binds X.K fd ps ds) (hd:Vals dvs ds) (hx:Passes CX X E) (ha:PA X (e::es) t)
 (By:Se (e::es) X.env=(false,Tz e X.env)::Se es X.env:=by rfl) (AX:(Vw pos (Se es X.env)).any (·.1)=false:=by rfl)
 (ht:Tz (.Call (.Attribute o m apos) (e::es) [] pos) X.env=(do
  let ov ← Tz o X.env
  standAt apos.atName
  let (f,first) ← holding [ov] (getMethod ov m pl)
  callWith pos f first (Vw pos (Se (e::es) X.env)) (backToKw pos (keywordEach [] X.env))):=by rfl) :
 PE X (.Call (.Attribute o m apos) (e::es) [] pos) (aaq C m sp dvs E ta t):=by
 intro pins s σ H Q I h;refine PySem.W.methodCall_KW (pl:=pl) (thn (he pins s σ H _ I h) fun u s1 ⟨x,H1,I1,rx,a,dx,fs,ex,ea,l,q⟩=>?_) ht;subst ex;obtain rfl:u=Sx a:=rx;refine tu I1 ea c hm l ?_;refine PySem.W.callWith_K (first:=[.ref a]) (h₀:=X.base) I.ok.mod.kin hm.kp (thn (ha pos pins s1 σ H1 _ I1 q) fun us s2 ⟨vs,H2,I2,r,q2⟩=>⟨I2.kIn,?_⟩) By AX;exact wR (us:=.ref a::us) (vs:=.ref a::vs) F hr hb hd hx I2 (.cons rfl r) q2
structure Mk (K:Q4) (C f:Q7):Prop where
 makes:PySem.W.makesIn K C=true
 init:Sy K (.ref C) "__init__"=some (some (.ref f))
 fn:VQ K (.ref f)=true
 kp:TZ K (.ref C)=true
theorem wj {pins:List (Q7×T1)} {σ:St} {H:Hp} {s:Q9} {Q:VK} {us:List Q6} {vs:List V} (M:Mk X.K C f) (F:aV X.prog X.w X.K X.mg X.base CX k f fd ps sp) (hr:Room (k+1) X.A) (hb:Binds X.K fd ps ds) (hd:Vals dvs ds)
 (hx:Passes CX X E) (I:Inv X pins σ H s) (r:Vals vs us)
 (h:∀ x dx,H x=none->H dx=none->dx≠x->sp (.ref x::(vs++dvs)) (upd (upd H dx (.own x)) x (.ins C dx [])) (fun v H2=>v=.non/\Q (.ref x) H2) E) :
 Rw (RO X.prog X.w) X.A (call (.ref C) us) (EP X pins σ Q) X.xe s:=by
 have hq:=h (s.heap.objs.size+1) s.heap.objs.size (I.hok.fresh (Nat.le_succ _)) (I.hok.fresh (Q8 _)) (RT (UL _));have I2:=Inv.made (C:=C) I;have r2:Vals (V.ref (s.heap.objs.size+1)::(vs++dvs)) (Sx (s.heap.objs.size+1)::(us++ds)):=.cons rfl (r.append hd)
 have hl:(Sx (s.heap.objs.size+1)::us++ds).length=ps.length:=by
  have e:=r2.length;rw [F.len _ _ _ _ hq] at e;exact e.symm
 refine wpAny_call (v9 (f:=f) I.kIn M.makes M.init (beq_iff_eq.mp M.fn) (Vz (F.run _ X.stack _ _ ⟨Sx (s.heap.objs.size+1)::us,[]⟩ (Sx (s.heap.objs.size+1)::(us++ds)) _ _ E (hr.make C us [])
  (I2.env0.make C us []) (hb _ (Sx (s.heap.objs.size+1)::us) I2.kIn hl) r2 hq) fun r s' FY=>?_))
 cases r with
 | error e=>exact hx pins σ _ _ e s' I2 FY
 | ok fl =>
   cases fl with
   | ret u =>
     obtain ⟨v,H',I3,rv,ev,q3⟩:=I2.after FY;subst ev;exact ⟨rv,⟨V.ref (s.heap.objs.size+1),H',I3,rfl,q3⟩⟩
   | next=>exact T3 FY
   | brk=>exact T3 FY
   | cont=>exact T3 FY
theorem vF (M:Mk X.K C f) (F:aV X.prog X.w X.K X.mg X.base CX k f fd ps sp) (hr:Room (k+1) X.A) (hg:Gl X x) (hm:X.mg x=some (.ref C)) (hb:Binds X.K fd ps ds) (hd:Vals dvs ds) (hx:Passes CX X E)
 (DS:(x == ("__debug__":Ru))=false:=by decide):PE X (.Call (.Name x p) [] [] pos) (zT C sp dvs E eR):=by
 intro pins s σ H Q I h;refine Ti (pw I hg hm ?_ DS);exact PySem.W.callWith_K0 I.kIn M.kp (wj (us:=[]) M F hr hb hd hx I .nil h)
end
section
variable {X:Cx} {CX:CXT} {k:Nat} {f C:Q7} {fd:Uz} {ps ks:List Ru} {sp:Sp} {E:XK} {x m:Ru} {p pos apos Ny:Vo} {e o:Sm} {es:List Sm} {Qp:List Keyword} {te ta:TE} {t tk:TA} {nm:Option Ru}
variable {g:List Q6->List Q6->List Q6} {gV:List V->List V->List V}
end
structure aw (N P:List Ru) (sc:U8):Prop where
 kind:sc.kind=.function
 co:sc.isCoroutine=false
 gen:sc.isGenerator=false
 nd:N.Nodup
 pre:N.take P.length=P
 par:∀ x∈P,sc.names.lookup x=some .local∨sc.names.lookup x=some .cell
 nofree:∀ y∈sc.names,y.2≠.free
theorem n8 {kindOf:Ru->Option T2} {x:Ru}:∀ {binds:List (Ru×Q6)} {m:Ru->Option Q6},(∀ v,(x,v)∉binds)->bindL kindOf binds m x=m x
 | [],_,_=>rfl
 | (n,v)::r,m,h=>by
   unfold bindL;rw [n8 fun w hw=>h w (Ri _ hw)];split
   · have:x≠n:=by rintro rfl;exact h v Rn
     simp [this]
   · rfl
theorem nJ {kindOf:Ru->Option T2} {x:Ru}:∀ {binds:List (Ru×Q6)} {m:Ru->Option Q6},(∀ v,(x,v)∉binds)->bindC kindOf binds m x=m x
 | [],_,_=>rfl
 | (n,v)::r,m,h=>by
   unfold bindC;rw [nJ fun w hw=>h w (Ri _ hw)];split
   · rfl
   · have:x≠n:=by rintro rfl;exact h v Rn
     simp [this]
theorem oq {kindOf:Ru->Option T2} {x:Ru} {v:Q6}:∀ {P:List Ru} {vs:List Q6} {i:Nat} {m:Ru->Option Q6},P.Nodup->P[i]?=some x->vs[i]?=some v->kindOf x=some .local →
 bindL kindOf (P.zip vs) m x=some v
 | [],_,_,_,_,h,_,_=>by simp at h
 | _::_,[],_,_,_,_,h,_=>by simp at h
 | p::P,w::vs,0,m,nd,h1,h2,hk=>by
   simp at h1 h2;subst h1;subst h2;show bindL kindOf ((p,w)::P.zip vs) m p=_;unfold bindL;rw [n8 fun v hv=>(Td.mp nd).1 (V0 hv).1,if_pos hk];simp
 | p::P,w::vs,i+1,m,nd,h1,h2,hk=>by
   show bindL kindOf ((p,w)::P.zip vs) m x=_;unfold bindL;exact oq (i:=i) (Td.mp nd).2 (by simpa using h1) (by simpa using h2) hk
theorem n9 {kindOf:Ru->Option T2} {x:Ru} {v:Q6}:∀ {P:List Ru} {vs:List Q6} {i:Nat} {m:Ru->Option Q6},P.Nodup->P[i]?=some x->vs[i]?=some v->kindOf x≠some .local →
 bindC kindOf (P.zip vs) m x=some v
 | [],_,_,_,_,h,_,_=>by simp at h
 | _::_,[],_,_,_,_,h,_=>by simp at h
 | p::P,w::vs,0,m,nd,h1,h2,hk=>by
   simp at h1 h2;subst h1;subst h2;show bindC kindOf ((p,w)::P.zip vs) m p=_;unfold bindC;rw [nJ fun v hv=>(Td.mp nd).1 (V0 hv).1,if_neg hk];simp
 | p::P,w::vs,i+1,m,nd,h1,h2,hk=>by
   show bindC kindOf ((p,w)::P.zip vs) m x=_;unfold bindC;exact n9 (i:=i) (Td.mp nd).2 (by simpa using h1) (by simpa using h2) hk
def start (N:List Ru) (vs:List V):St:=vs.map some++Ro (N.length - vs.length) none
def u8 (CX:CXT) (P:RL) (w:R1) (K:Q4) (mg:Ru->Option Q6) (base:SE) (N:List Ru) (qual:Ru) (scope:U8) (f:Q7) (cd:Q6) (A:R6) (outer:List Env) (s:Q9) (H:Hp) (E:XK):Cx where
 prog:=P
 w:=w
 K:=K
 mg:=mg
 base:=base
 A:=A.deeper (envOfC qual scope s.heap.objs.size f cd)
 N:=N
 s₀:=s
 H₀:=H
 env:=envOfC qual scope s.heap.objs.size f cd
 outer:=outer
 stack:=envOfC qual scope s.heap.objs.size f cd::outer
 ex:=[]
 calm:=true
 fn:=fun _=>true
 pn:=[]
 xe:=fun e s'=>Rw (RO P w) (A.deeper (envOfC qual scope s.heap.objs.size f cd)) (leaving (envOfC qual scope s.heap.objs.size f cd) e) (fun _ Jn=>CX outer H s E e Jn) (fun e' Jn=>CX outer H s E e' Jn) s'
theorem qx {sc:U8} {n:Nat} {x:Ru} (h:sc.names.lookup x=some .cell):∃ c,(cellsFrom n sc.names []).lookup x=some c:=by
 have q:=PySem.W.cellsFrom_some sc.names n [] (.inl h);exact Option.isSome_iff_exists.mp q
theorem uV {CX:CXT} {P:RL} {w:R1} {K:Q4} {mg:Ru->Option Q6} {base:SE} {N ps:List Ru} {qual:Ru} {scope:U8} {f:Q7} {cd:Q6} {A:R6} {outer:List Env} {s s1:Q9} {H:Hp} {E:XK} {us:List Q6} {vs:List V}
 (S:aw N ps scope) (hd:A.handled=none) (e0:Env0 P w K mg base A outer s H) (hl:vs.length=ps.length) (r:Vals vs us)
 (x:InCallC s s.heap.objs.size (bindL (envOfC qual scope s.heap.objs.size f cd).kindOf (ps.zip us) fun _=>none) (cellsFrom (s.heap.objs.size+1) scope.names []) (bindC (envOfC qual scope s.heap.objs.size f cd).kindOf (ps.zip us) fun _=>none) s1) :
 Inv (u8 CX P w K mg base N qual scope f cd A outer s H E) [] (start N vs) H s1:=by
 have AX:ps.length<=N.length:=by have:=congrArg Tt S.pre;rw [RP] at this;omega
 obtain ⟨h1,tk,rfl,hk⟩:=x.done;have FZ:∀ b:Q7,b∉(u8 CX P w K mg base N qual scope f cd A outer s H E).ex:=fun b z=>absurd (show b∈([]:List Q7) from z) (by simp)
 refine ⟨⟨e0.mod,S.kind,rfl,rfl,Q8 _,fun y z c h1 h2=>?_,fun y hy=>?_,fun y c _ h=>?_,fun _=>hd,Around.frames_deeper e0.frames,.inr ⟨rfl,rfl⟩,fun b z=>absurd z (FZ b),e0.bs,e0.bsz,fun b _ _=>FZ b,fun b z=>absurd z (FZ b),e0.funs,e0.frf⟩,
  rfl,e0.bare,Un.kept hk,⟨_,x.toInCall.ns,fun i y v h1 h2 h3=>?_⟩,fun y c h=>⟨_,x.cell y c h⟩,e0.hok.fresh (Q8 _),fun y c h=>?_,fun p hp=>absurd (show p∈([]:List (Q7×T1)) from hp) (by simp),e0.hok.kept hk,?_⟩
 · exact name_of_addr x.apart (UM h1) (UM h2)
 · have hy:scope.names.lookup y=some .cell∨scope.names.lookup y=some .free:=hy;rcases hy with hy | hy
   · exact qx hy
   · exact absurd rfl (S.nofree _ (UM hy))
 · exact Tc (x.above y c (UM h))
 · have hi:i<vs.length:=by
    unfold start at h2;by_cases hi:i<vs.length
    · exact hi
    · rw [Ts (by simpa using hi)] at h2;rw [List.getElem?_replicate] at h2;split at h2 <;> cases h2
   have ha:vs[i]?=some v:=by
    unfold start at h2;rw [T6 (by simpa using hi),Rg] at h2;cases e:vs[i]? with
    | none=>rw [e] at h2;cases h2
    | some a=>rw [e] at h2;cases h2;rfl
   obtain ⟨u,hu,rv⟩:=r.get ha
   have hp:ps[i]?=some y:=by
    rw [<- S.pre,List.getElem?_take_of_lt (by omega)];exact h1
   have LI:ps.Nodup:=by rw [<- S.pre];exact S.nd.sublist (List.take_sublist _ _)
   refine ⟨u,rv,?_⟩;rcases S.par y (Rb hp) with k | k
   · exact .inl ⟨k,oq LI hp hu k⟩
   · obtain ⟨c,e⟩:=qx (n:=s.heap.objs.size+1) k;refine .inr ⟨.inl k,c,e,?_⟩;have q:=x.cell y c e;rw [n9 LI hp hu (by show scope.names.lookup y≠_;rw [k];decide)] at q;exact q
 · exact e0.hok.fresh (Tc (x.above y c (UM h)))
 · unfold start;show _=N.length;rw [Ra,Q0,Sb];omega
theorem zZ {CX:CXT} {P:RL} {w:R1} {K:Q4} {mg:Ru->Option Q6} {base:SE} {k:Nat} {f:Q7} {name qual:Ru} {params:Arguments} {body:List Sz} {scope:U8} {dV kV doc pm Ag ct oc:Q6} {an od:Option Q7}
 {Eb:Array (Option Q6)} {N ps:List Ru} {sp:Sp} (lk:K.lookup f=some ⟨oc,od,.func (Uc name qual params body scope dV kV doc pm an Ag ct),Eb⟩) (C':U3 K Ag qual=true) (S:aw N ps scope)
 (len:∀ vs H Q E,sp vs H Q E->vs.length=ps.length)
 (Dd:∀ (A:R6) (outer:List Env) (s:Q9) (H:Hp) (vs:List V) (Q:VK) (E:XK),Room k (A.deeper (envOfC qual scope s.heap.objs.size f Ag))->sp vs H Q E →
  ∃ t,PSs (u8 CX P w K mg base N qual scope f Ag A outer s H E) body t/\t { nx:=fun _ H'=>Q .non H',rt:=Q } (start N vs) H) :
 aV P w K mg base CX (k+1) f (Uc name qual params body scope dV kV doc pm an Ag ct) ps sp:=by
 refine ⟨len,fun A outer s H args us vs Q E hr e0 hb r Ct=>?_⟩;have hl:=len _ _ _ _ Ct;have KX:K.In s.heap:=e0.mod.kin.keeps fun b o e=>(e0.bs b o e).1;have lim:s.heap.NoLimit:=e0.mod.nolimit.keeps fun b o e=>(e0.bs b o e).1
 have F0:∀ y∈ps.zip us,scope.names.lookup y.1=some .local∨(scope.names.lookup y.1=some .cell/\((cellsFrom (s.heap.objs.size+1) scope.names []).lookup y.1).isSome=true):=fun ⟨n,v⟩ hy=>by
  rcases S.par n (V0 hy).1 with q | q
  · exact .inl q
  · exact .inr ⟨q,PySem.W.cellsFrom_some _ _ _ (.inl q)⟩
 refine codeAny_call_function hr.depth (KX _ _ lk) rfl S.co S.gen rfl (PySem.W.codeRec_of KX C') (hb _ _ _ _ ?_);refine wpAny_newFunctionEnv_cells S.kind F0 fun env he s1 x=>?_;subst he;refine ⟨lim.keeps x.toInCall.keep,codeAny_func ?_⟩;obtain ⟨t,ht,hq⟩:=Dd A outer s H vs Q E (hr.deeper _) Ct;have I:Inv (u8 CX P w K mg base N qual scope f Ag A outer s H E) [] (start N vs) H s1:=uV S hr.hd e0 hl r x;refine Ta (ht [] s1 (start N vs) H _ I hq) (fun fl s' hs=>?_) fun e s' hs=>hs
 have fin:∀ {Ab:St} {H':Hp} {v:V} {u:Q6},Inv (u8 CX P w K mg base N qual scope f Ag A outer s H E) [] Ab H' s'->RelV v u->Q v H'->CE outer P w H s Q u s' :=
  fun {Ab H' v u} J rv q=>⟨v,H',J.os,J.bare,J.base,J.hok,rv,q⟩
 cases fl with
 | ret u =>
   obtain ⟨v,Ab,H',J,rv,q⟩:=hs;exact fin J rv q
 | next =>
   obtain ⟨Ab,H',J,q⟩:=hs;exact fin (v:=V.non) (u:=Ur) J rfl q
 | brk =>
   obtain ⟨_,_,_,q⟩:=hs;exact T3 q
 | cont =>
   obtain ⟨_,_,_,q⟩:=hs;exact T3 q
end L2
namespace L2
open PySem PySem.Spec PyProof.Rows
section
variable {X:Cx} {x:Ru} {p pos:Vo} {e:Sm} {es:List Sm} {t:TA} {id T:String} {r:List V->Hp->VK->Prop}
def tCB (r:List V->Hp->VK->Prop) (t:TA):TE:=fun σ H Q=>t σ H fun vs H1=>r vs H1 Q
theorem av (hc:eH X (.builtin id) r) (hg:Gl X x) (hm:X.mg x=none) (hv:VB x=some (.builtin id)) (ha:PA X (e::es) t) (hn:x≠"__name__":=by decide) (DS:(x == ("__debug__":Ru))=false:=by decide)
 (he:Se (e::es) X.env=(false,Tz e X.env)::Se es X.env:=by rfl) (AX:(Vw pos (Se es X.env)).any (·.1)=false:=by rfl):PE X (.Call (.Name x p) (e::es) [] pos) (tCB r t):=by
 intro pins s σ H Q I h;refine Ti (fT I hg hm hv ?_ hn DS);exact PyProof.Rows.callWith_builtin1 (thn (ha pos pins s σ H _ I h) fun us s1 ⟨vs,H1,I1,r1,q1⟩=>hc pins s1 σ H1 vs us Q I1 r1 q1) he AX
theorem bf (hc:eH X (.type T) r) (hg:Gl X x) (hm:X.mg x=none) (hv:VB x=some (.type T)) (ha:PA X (e::es) t) (hn:x≠"__name__":=by decide) (DS:(x == ("__debug__":Ru))=false:=by decide)
 (he:Se (e::es) X.env=(false,Tz e X.env)::Se es X.env:=by rfl) (AX:(Vw pos (Se es X.env)).any (·.1)=false:=by rfl):PE X (.Call (.Name x p) (e::es) [] pos) (tCB r t):=by
 intro pins s σ H Q I h;refine Ti (fT I hg hm hv ?_ hn DS);exact SR (thn (ha pos pins s σ H _ I h) fun us s1 ⟨vs,H1,I1,r1,q1⟩=>hc pins s1 σ H1 vs us Q I1 r1 q1) he AX
end
end L2
namespace HT
open PySem PyProof.Rows
section
open PySem.SeqAt
open PySem.AutoSeq1 (wpAny_loadPart')
open PySem.MeetsSeq PySem.MeetsSeq2 PySem.MeetsSeq3
end
section
variable {prog:RL} {w:R1} {A:R6} {E:Q6->Q9->Prop} {s:Q9}
theorem cat_tup {t b:Q7} {vs ws:List Q6} {Q:Q6->Q9->Prop} (ht:IsTup s.heap t vs.toArray) (hb:IsTup s.heap b ws.toArray) (hv:vs≠[])
 (h1:ws=[]->Q (.ref t) s) (h2:ws≠[]->Q (.ref s.heap.objs.size) { s with heap:=s.heap.push { cls:=.type "tuple",data:=.seq (vs++ws).toArray } })
 (hsz:vs.length+ws.length<=Ry):Rw (RO prog w) A (Uw .Add (.ref t) (.ref b)) Q E s:=by
 obtain ⟨⟨cls,dd,data,sl⟩,ho,hc,n,hd⟩:=id ht;obtain ⟨⟨F1,Ft,data2,Fu⟩,ED,CW,n2,hd2⟩:=id hb;simp only at hc hd CW hd2;subst hc hd CW hd2;have e:vs.toArray++ws.toArray=(vs++ws).toArray:=by simp
 by_cases hw:ws=[]
 · exact concat_meets ⟨_,ho,rfl⟩ ⟨_,ED,rfl⟩ noFill_tuple_add seq_tuple_add VS VL (VE _ _)
    (tuple_addW1 t b vs.toArray ws.toArray n n2 dd Ft sl Fu (by simpa using hv) (by simp [hw])) ⟨ho,ED,h1 hw⟩
 · refine concat_meets ⟨_,ho,rfl⟩ ⟨_,ED,rfl⟩ noFill_tuple_add seq_tuple_add VS VL (VE _ _)
    (tuple_addW2 t b vs.toArray ws.toArray n n2 dd Ft sl Fu (by simpa using hv) (by simpa using hw) (by rw [Rc,Rc];exact hsz)) ⟨ho,ED,?_⟩
   rw [e];exact h2 hw
def sIx (n d:Nat):Option Int->Nat
 | none=>d
 | some v=>if v<0 then (v+(n:Int)).toNat else min v.toNat n
theorem sIx_none (n d:Nat):sIx n d none=d:=rfl
theorem sIx_nat (n d k:Nat):sIx n d (some (k:Int))=min k n:=by
 show (if (k:Int)<0 then ((k:Int)+(n:Int)).toNat else min (k:Int).toNat n)=min k n;rw [if_neg (by omega),SU]
theorem sIx_le (n d:Nat) (hd:d<=n) (o:Option Int):sIx n d o<=n:=by
 cases o with
 | none=>exact hd
 | some v =>
   show (if v<0 then (v+(n:Int)).toNat else min v.toNat n)<=n;by_cases hv:v<0
   · rw [if_pos hv];omega
   · rw [if_neg hv];exact Nat.min_le_right _ _
theorem clip_eq (v:Int) (n d:Nat):(if v<0 then max (v+(n:Int)) 0 else min v (n:Int))=((sIx n d (some v):Nat):Int):=by
 show (if v<0 then max (v+(n:Int)) 0 else min v (n:Int))=(((if v<0 then (v+(n:Int)).toNat else min v.toNat n):Nat):Int);by_cases hv:v<0
 · simp only [if_pos hv];omega
 · simp only [if_neg hv];omega
theorem adjust_gen (lo hi:Option Int) (n:Nat):Um lo hi 1 (n:Int)=(((sIx n 0 lo:Nat):Int),((sIx n n hi:Nat):Int)):=by
 have h1:¬ ((1:Int)<0):=by omega
 unfold Um;simp only [h1,if_false];refine Prod.ext ?_ ?_
 · cases lo with
   | none=>rfl
   | some v=>exact clip_eq v n 0
 · cases hi with
   | none=>rfl
   | some v=>exact clip_eq v n n
theorem places_gen (i j:Nat):SI (i:Int) (j:Int) 1=j - i:=by
 unfold SI;have h1:(1:Int) > 0:=by omega
 simp only [h1,if_true,VV];split <;> omega
theorem slicePart_ {v:Q6} {o:Option Int} {Q:Option Int->Q9->Prop} (p:Wr v o) (h:Q o s):Rw (RO prog w) A (Builtin.Slice.slicePartIndex v) Q E s:=by
 cases p with
 | none=>exact slicePart_none h
 | int i t=>exact slicePart_int h
theorem sliceApplied_gen {sl:Q7} {vl vu:Q6} {lo hi:Option Int} {n:Nat} {Q:Int×Int×Nat->Q9->Prop} (hs:s.heap.IsSliceOf sl vl vu .none) (pl:Wr vl lo) (pu:Wr vu hi)
 (h:Q (((sIx n 0 lo:Nat):Int),1,sIx n n hi - sIx n 0 lo) s):Rw (RO prog w) A (UU (.ref sl) (pure (n:Int))) Q E s:=by
 obtain ⟨os,CJ,CY,A7⟩:=id hs;unfold UU Builtin.Slice.sliceFields;refine Q2 (Q2 (Sr CJ A7 (x:=vl) rfl (Q2 (Sr CJ A7 (x:=vu) rfl (Q2 (Sr CJ A7 (x:=.none) rfl (Rl ?_)))))));refine Q2 (slicePart_none ?_);show Rw _ _ (if ((1:Int) == 0)=true then _ else _) _ _ s;rw [if_neg (by decide)];refine Q2 (slicePart_ pl (Q2 (slicePart_ pu (Q2 (Rl ?_)))));show Rw _ _ (match Um lo hi 1 (n:Int) with | (lo,hi)=>pure (lo,(1:Int),SI lo hi 1)) _ _ s;rw [adjust_gen lo hi n];show Rw _ _ (pure (((sIx n 0 lo:Nat):Int),(1:Int),SI ((sIx n 0 lo:Nat):Int) ((sIx n n hi:Nat):Int) 1)) _ _ s;rw [places_gen];exact Rl h
theorem pick_gen (xs:Array Q6) (i k:Nat):((Sn k).filterMap fun (m:Nat)=>xs[((i:Int)+(m:Int) * 1).toNat]?).toArray=((xs.toList.drop i).take k).toArray:=by
 have e:(fun (m:Nat)=>xs[((i:Int)+(m:Int) * 1).toNat]?)=fun m=>xs[i+m]?:=by
  funext m;have:((i:Int)+(m:Int) * 1).toNat=i+m:=by omega
  rw [this]
 rw [e];have:=pick_run xs i k;rw [WA] at this;have e2:((fun x=>xs[x]?) ∘ fun x=>i+x)=fun m=>xs[i+m]?:=rfl;rw [e2] at this;rw [this]
theorem getItem_tuple_cut {t sl:Q7} {items:Array Q6} {vl vu:Q6} {lo hi:Option Int} {Q:Q6->Q9->Prop} (ht:IsTup s.heap t items) (hs:s.heap.IsSliceOf sl vl vu .none) (pl:Wr vl lo) (pu:Wr vu hi)
 (hw:¬ (sIx items.size 0 lo=0/\sIx items.size items.size hi=items.size))
 (h:Q (.ref s.heap.objs.size) { s with heap:=s.heap.push { cls:=.type "tuple",data:=.seq ((items.toList.drop (sIx items.size 0 lo)).take (sIx items.size items.size hi - sIx items.size 0 lo)).toArray } })
 (hsz:items.size<=Ry):Rw (RO prog w) A (U6 (.ref t) (.ref sl)) Q E s:=by
 have AF:sizeOk (.seq ((items.toList.drop (sIx items.size 0 lo)).take (sIx items.size items.size hi - sIx items.size 0 lo)).toArray):=by
  show ((items.toList.drop (sIx items.size 0 lo)).take (sIx items.size items.size hi - sIx items.size 0 lo)).toArray.size<=Ry;rw [Rc,RP,Sf,RD];omega
 have hj:sIx items.size items.size hi<=items.size:=sIx_le _ _ (Q8 _) hi;obtain ⟨os,CJ,CY,A7⟩:=id hs;have F2:s.TypeIs (.ref sl) "slice":=⟨os,CJ,CY⟩;unfold U6
 try with_reducible refine S6 ?_
 first | refine Q2 (Rl ?_) | skip
 refine Q2 (wpAny_sequenceKey ht.typeIs (by decide) ?_)
 refine Q2 (Tj (name:=QZ "__getitem__") ht.typeIs R9
  (Uv R9 ht.typeIs entry_tuple_getitem ?_ (args_tuple_getitem _ _)))
 show Rw _ _ (VP (.ref t) >>= _) _ _ s;refine Q2 (tupleItemsOf_ ht ?_);refine Q2 (U0 F2 ?_);rw [if_pos (by decide)];refine Q2 (sliceApplied_gen hs pl pu ?_)
 have Cu:¬ ((((sIx items.size 0 lo:Nat):Int) == 0 && (1:Int) == 1 && (sIx items.size items.size hi - sIx items.size 0 lo) == items.size)=true):=by
  intro q;rw [TY,TY] at q;have q1:((sIx items.size 0 lo:Nat):Int)=0:=eq_of_beq q.1.1;have q2:sIx items.size items.size hi - sIx items.size 0 lo=items.size:=eq_of_beq q.2;exact hw ⟨by omega,by omega⟩
 show Rw _ _ (if (((sIx items.size 0 lo:Nat):Int) == 0 && (1:Int) == 1 && (sIx items.size items.size hi - sIx items.size 0 lo) == items.size)=true then _ else _) _ _ s;rw [if_neg Cu,pick_gen]
 first
  | exact Q2 (m:=SV _) (SF (Rl ⟨_,rfl,Rl h⟩) AF)
  | exact Q2 (m:=SV _) (SF (Q2 (Rl (Rl ⟨_,rfl,Rl h⟩))) AF)
  | exact Q2 (Q2 (m:=SV _) (SF (Rl (Rl ⟨_,rfl,Rl h⟩)) AF))
  | exact Q2 (Q2 (m:=SV _) (SF (Rl ⟨_,rfl,Rl h⟩) AF))
end
end HT
namespace L2
open PySem PySem.Spec PyProof.Rows
abbrev TO:=St->Hp->(Option Int->Hp->Prop)->Prop
def PO (X:Cx) (e:Option Sm) (t:TO):Prop :=
 ∀ (pins:List (Q7×T1)) (s:Q9) (σ:St) (H:Hp) (Q:Option Int->Hp->Prop),Inv X pins σ H s->t σ H Q →
   Rw (RO X.prog X.w) X.A (evalPart e X.env) (fun u s'=>∃ o H',Inv X pins σ H' s'/\Wr u o/\Q o H') X.xe s
def xM:TO:=fun _ H Q=>Q none H
inductive yh (x:V) (Q:Option Int->Hp->Prop) (H1:Hp):Prop
 | mk (i:Int) (Aj:x=.int i) (Ak:Q (some i) H1):yh x Q H1
def yA (t:TE):TO:=fun σ H Q=>t σ H fun x H1=>yh x Q H1
section
variable {X:Cx} {e:Sm} {te:TE} {lo hi:Option Sm} {tl th:TO} {pos p2:Vo}
theorem cL:PO X none xM:=by
 intro pins s σ H Q I h;rw [evalPart_none];exact Rl ⟨none,H,I,.none,h⟩
theorem bR (h:PE X e te):PO X (some e) (yA te):=by
 intro pins s σ H Q I hw;rw [evalPart_some];refine thn (h pins s σ H _ I hw) fun u s1 ⟨x,H1,I1,r1,q1⟩=>?_;obtain ⟨i,rfl,q⟩:=q1;obtain ⟨t,rfl⟩:=r1;exact ⟨some i,H1,I1,.int i t,q⟩
def SlR (X:Cx) (r:V->Option Int->Option Int->Hp->VK->Prop):Prop :=
 ∀ (pins:List (Q7×T1)) (s:Q9) (σ:St) (H:Hp) (x:V) (v vl vu:Q6) (lo hi:Option Int) (sl:Q7) (Q:VK),Inv X pins σ H s->RelV x v->s.heap.IsSliceOf sl vl vu .none->Wr vl lo->Wr vu hi->r x lo hi H Q →
   ∃ T id,Wk (.type T) "__getitem__"=pure (some (.builtin id))/\s.TypeIs v T/\Rw (RO X.prog X.w) X.A (U6 v (.ref sl)) (EP X pins σ Q) X.xe s
def tSl (r:V->Option Int->Option Int->Hp->VK->Prop) (te:TE) (tl th:TO):TE:=fun σ H Q=>te σ H fun x H1=>tl σ H1 fun l H2=>th σ H2 fun u H3=>r x l u H3 Q
theorem bT {r:V->Option Int->Option Int->Hp->VK->Prop} (hr:SlR X r) (he:PE X e te) (hl:PO X lo tl) (hu:PO X hi th):PE X (.Subscript e (.Slice lo hi none p2) pos) (tSl r te tl th):=by
 intro pins s σ H Q I h;refine Subscript_ (thn (he pins s σ H _ I h) fun v s1 ⟨x,H1,I1,r1,q1⟩=>?_);refine wpAny_Slice (thn (hl pins s1 σ H1 _ I1 q1) fun vl s2 ⟨l,H2,I2,pl,q2⟩=>thn (hu pins s2 σ H2 _ I2 q2) fun vu s3 ⟨u,H3,I3,pu,q3⟩=>?_);rw [evalPart_none];refine Rl ?_;have I4:Inv X pins σ H3 { s3 with heap:=s3.heap.push { cls:=.type "slice",data:=.fields #[vl,vu,.none] } }:=I3.kept (t':=s3.toks) fun b ob q=>Q5 _ q;obtain ⟨T,id,hT,ht,hg⟩:=hr pins { s3 with heap:=s3.heap.push { cls:=.type "slice",data:=.fields #[vl,vu,.none] } } σ H3 x v vl vu l u s3.heap.objs.size Q I4 r1 (Heap.IsSliceOf.new ..) pl pu q3;show Rw (RO X.prog X.w) X.A (subscriptTail e (.Slice lo hi none p2) v (.ref s3.heap.objs.size)) (EP X pins σ Q) X.xe { s3 with heap:=s3.heap.push { cls:=.type "slice",data:=.fields #[vl,vu,.none] } };exact tail_any (ops:=[.ref s3.heap.objs.size,v]) ht hT hg (by with_unfolding_all rfl)
def cB (xs:List V) (lo hi:Option Int):List V:=(xs.drop (HT.sIx xs.length 0 lo)).take (HT.sIx xs.length xs.length hi - HT.sIx xs.length 0 lo)
theorem kO (xs:List V) (lo hi:Option Int):(cB xs lo hi).length<=xs.length:=by
 unfold cB;rw [RP,Sf];omega
inductive yr (K:Q4) (x:V) (lo:Option Int) (hi:Option Int) (H:Hp) (Q:VK):Prop
 | mk (a:_) (xs:_) (Aj:x=.ref a) (Ak:SqT K H a xs) (An:¬ (HT.sIx xs.length 0 lo=0/\HT.sIx xs.length xs.length hi=xs.length)) (Az:∀ p,H p=none->Q (.ref p) (upd H p (.tup (cB xs lo hi)))):yr K x lo hi H Q
def aba (K:Q4):V->Option Int->Option Int->Hp->VK->Prop:=yr K
theorem sQ:SlR X (aba X.K):=by
 intro pins s σ H x v vl vu lo hi sl Q I rx hs pl pu h;obtain ⟨a,xs,rfl,hx,hw,q⟩:=h;cases rx;obtain ⟨its,r,ht,hz⟩:=I.tuple hx;have hlen:its.toArray.size=xs.length:=by rw [Rc];exact r.length.symm
 refine ⟨"tuple",_,R9.lookup,ht.typeIs,?_⟩;refine HT.getItem_tuple_cut ht hs pl pu (by rw [hlen];exact hw) ?_ (by rw [hlen];exact hz);rw [hlen];refine ⟨.ref s.heap.objs.size,_,I.laid (t':=s.toks) (o:=.tup (cB xs lo hi)) (fun b ob q=>Q5 _ q) (Q8 _) ?_,rfl,q _ (I.hok.fresh (Q8 _))⟩;exact ⟨Sw (kO xs lo hi) hz,_,0,(r.drop (HT.sIx xs.length 0 lo)).take (HT.sIx xs.length xs.length hi - HT.sIx xs.length 0 lo),Rf _ rfl⟩
def aag (K:Q4):R2:=fun x y H Q=>∃ a b xs ys,x=.ref a/\y=.ref b/\SqT K H a xs/\SqT K H b ys/\xs≠[]/\xs.length+ys.length<=Ry ∧
 (ys=[]->Q (.ref a) H)/\(ys≠[]->∀ p,H p=none->Q (.ref p) (upd H p (.tup (xs++ys))))
theorem Vals.nil_iff {xs:List V} {us:List Q6} (r:Vals xs us):us=[]↔xs=[]:=by
 cases r with
 | nil=>simp
 | cons _ _=>simp
theorem xA:OpR X (Uw .Add) (aag X.K):=by
 intro pins s σ H x y v u Q I rx ry h;obtain ⟨a,b,xs,ys,rfl,rfl,ha,hb,hx,hz,q1,q2⟩:=h;cases rx;cases ry;obtain ⟨its,r1,p1,_⟩:=I.tuple ha;obtain ⟨Am,r2,p2,_⟩:=I.tuple hb;refine HT.cat_tup p1 p2 (fun z=>hx (r1.nil_iff.mp z)) (fun z=>⟨.ref a,H,I,rfl,q1 (r2.nil_iff.mp z)⟩) (fun z=>?_) (by rw [<- r1.length,<- r2.length];exact hz);refine ⟨.ref s.heap.objs.size,_,I.laid (t':=s.toks) (o:=.tup (xs++ys)) (fun b ob q=>Q5 _ q) (Q8 _) ?_,rfl,q2 (fun w=>z (r2.nil_iff.mpr w)) _ (I.hok.fresh (Q8 _))⟩;exact ⟨by rw [Ra];exact hz,_,0,r1.append r2,Rf _ rfl⟩
end
end L2
namespace L2
open PySem PySem.Spec PyProof.Rows
def ixN (n:Nat) (i:Int):Option Nat:=if 0<=i then (if i<n then some i.toNat else none) else if -(n:Int)<=i then some (i+n).toNat else none
def atI {α:Type} (xs:List α) (i:Int):Option α:=(ixN xs.length i).bind fun j=>xs[j]?
theorem ug {n:Nat} {i:Int} {j:Nat} (h:ixN n i=some j):seqIndex? i n=some j/\j<n/\-(n:Int)<=i/\i<n:=by
 unfold ixN at h;by_cases h0:0<=i
 · rw [if_pos h0] at h;by_cases h1:i<n
   · rw [if_pos h1] at h;have e:i.toNat=j:=RI h;exact ⟨by rw [seqIndex_of h0 h1,e],by omega,by omega,h1⟩
   · rw [if_neg h1] at h;cases h
 · rw [if_neg h0] at h;by_cases h1:-(n:Int)<=i
   · rw [if_pos h1] at h;have e:(i+n).toNat=j:=RI h;exact ⟨by rw [seqIndex_neg (by omega) h1,e],by omega,h1,by omega⟩
   · rw [if_neg h1] at h;cases h
theorem lw {α:Type} {xs:List α} {i:Int} {v:α} (h:atI xs i=some v):∃ j,seqIndex? i xs.length=some j/\xs[j]?=some v/\j<xs.length/\-(xs.length:Int)<=i/\i<xs.length:=by
 unfold atI at h;cases e:ixN xs.length i with
 | none=>rw [e] at h;cases h
 | some j =>
   rw [e] at h;obtain ⟨h1,h2,h3,h4⟩:=ug e;exact ⟨j,h1,h,h2,h3,h4⟩
theorem fC {α:Type} {xs:List α} {j:Nat} {v:α} (h:xs[j]?=some v):atI xs (j:Int)=some v:=by
 have hj:j<xs.length:=(Rm.mp h).1
 have e:ixN xs.length (j:Int)=some j:=by
  unfold ixN;rw [if_pos (by omega),if_pos (by omega)];simp
 unfold atI;rw [e];exact h
theorem qD {α:Type} (xs:List α) (v:α):atI (xs++[v]) (-1)=some v:=by
 have hl:(xs++[v]).length=xs.length+1:=by simp
 have e:ixN (xs++[v]).length (-1)=some xs.length:=by
  unfold ixN;rw [hl,if_neg (by decide),if_pos (by omega)];congr 1;omega
 unfold atI;rw [e];show (xs++[v])[xs.length]?=some v;simp
def xw (b:Sm):Prop:=∀ o i,subscripted b false o i=operate [o,i] (U6 o i)
def IxR (X:Cx) (r:R2):Prop :=
 ∀ (value slice:Sm) (pins:List (Q7×T1)) (s:Q9) (σ:St) (H:Hp) (x y:V) (v u:Q6) (Q:VK),Inv X pins σ H s->RelV x v->RelV y u->r x y H Q →
   subscripted slice false v u=operate [v,u] (U6 v u)->Rw (RO X.prog X.w) X.A (subscriptTail value slice v u) (EP X pins σ Q) X.xe s
def MtR (X:Cx) (id:String) (r:V->List V->Hp->VK->Prop):Prop :=
 ∀ (pins:List (Q7×T1)) (s:Q9) (σ:St) (H:Hp) (x:V) (xs:List V) (v:Q6) (us:List Q6) (Q:VK),Inv X pins σ H s->RelV x v->Vals xs us->r x xs H Q →
   Rw (RO X.prog X.w) X.A (call (.builtin id) (v::us)) (EP X pins σ Q) X.xe s
section
variable {X:Cx} {a b:Sm} {ta tb:TE} {pos:Vo}
theorem az {r:R2} (hr:IxR X r) (ha:PE X a ta) (hb:PE X b tb) (hs:xw b):PE X (.Subscript a b pos) (tOp r ta tb):=by
 intro pins s σ H Q I h;exact Subscript_ (zp ha hb I h fun v u s2 x y H2 I2 rx ry q=>hr a b pins s2 σ H2 x y v u Q I2 rx ry q (hs _ _))
inductive ym (K:Q4) (x:V) (y:V) (H:Hp) (Q:VK):Prop
 | mk (p:_) (xs:_) (i:_) (v:_) (Aj:x=.ref p) (Ak:y=.int i) (An:SqL K H p xs) (Az:atI xs i=some v) (AR:Q v H):ym K x y H Q
def aak (K:Q4):R2:=ym K
inductive yw (K:Q4) (x:V) (y:V) (H:Hp) (Q:VK):Prop
 | mk (p:_) (xs:_) (i:_) (v:_) (Aj:x=.ref p) (Ak:y=.int i) (An:SqT K H p xs) (Az:atI xs i=some v) (AR:Q v H):yw K x y H Q
def wn (K:Q4):R2:=yw K
inductive yy (x:V) (y:V) (H:Hp) (Q:VK):Prop
 | mk (z:_) (i:_) (c:_) (Aj:x=.str z) (Ak:y=.int i) (An:z.length<=Ry) (Az:atI z.cps.toList i=some c) (AR:Q (.str ⟨#[c]⟩) H):yy  x y H Q
def aaY:R2:=yy
theorem aO:IxR X (aak X.K):=by
 intro value slice pins s σ H x y v u Q I rx ry h hs;obtain ⟨p,xs,i,z,rfl,rfl,hq,he,q⟩:=h;cases rx;obtain ⟨t,rfl⟩:=ry;obtain ⟨its,r,pl,hz⟩:=I.list hq;obtain ⟨j,h1,h2,h3,h4,h5⟩:=lw he;obtain ⟨w,ew,De⟩:=r.get h2;have hl:=r.length;have hn:=fD;have fin:EP X pins σ Q w s:=⟨z,H,I,De,q⟩;by_cases h0:0<=i
 · have hj:i.toNat=j:=by
    rw [seqIndex_of h0 h5] at h1;exact RI h1
   exact item_listR pl.isList h0 (by omega) (by rw [hj];simpa using ew) fin hs
 · have hj:(i+(its.toArray.size:Int)).toNat=j:=by
    rw [seqIndex_neg (by omega) h4] at h1;rw [Rc,<- hl];exact RI h1
   exact subscriptTail_builtinR (x:=w) pl.isList.typeIs slot_list_getitem.lookup
    (wpAny_getItem_list_neg (Q:=fun r s'=>r=w/\EP X pins σ Q r s') pl.isList (by omega) (by rw [Rc] <;> omega) (by omega) (by rw [hj];simpa using ew) ⟨rfl,fin⟩) hs
theorem aI:IxR X (wn X.K):=by
 intro value slice pins s σ H x y v u Q I rx ry h hs;obtain ⟨p,xs,i,z,rfl,rfl,hq,he,q⟩:=h;cases rx;obtain ⟨t,rfl⟩:=ry;obtain ⟨its,r,pl,hz⟩:=I.tuple hq;obtain ⟨j,h1,h2,h3,h4,h5⟩:=lw he;obtain ⟨w,ew,De⟩:=r.get h2;have hl:=r.length;have hn:=fD;have fin:EP X pins σ Q w s:=⟨z,H,I,De,q⟩
 exact subscriptTail_builtinR (x:=w) pl.typeIs slot_tuple_getitem.lookup
  (getItem_tuple (j:=j) (Q:=fun r s'=>r=w/\EP X pins σ Q r s') pl (by omega) (by omega) (by rw [Rc,<- hl];exact h1) (by simpa using ew) ⟨rfl,fin⟩) hs
theorem pT:IxR X aaY:=by
 intro value slice pins s σ H x y v u Q I rx ry h hs;obtain ⟨z,i,c,rfl,rfl,hz,he,q⟩:=h;obtain ⟨t,rfl⟩:=rx;obtain ⟨t',rfl⟩:=ry;obtain ⟨j,h1,h2,h3,h4,h5⟩:=lw he;have hl:z.cps.toList.length=z.length:=by simp [Str.length]
 rw [hl] at h1 h4 h5;have hn:=fD
 exact tail_any (UC s z t) slot_str_getitem.lookup (getItem_str (c:=c) (by
  have e1:decide (i < -(2 ^ 63:Int))=false:=decide_eq_false (by omega);have e2:decide (i ≥ 2 ^ 63)=false:=decide_eq_false (by omega);rw [e1,e2,Bool.or_false]) (by rw [h1];simpa using h2) ⟨.str ⟨#[c]⟩,H,I.tok _,⟨_,rfl⟩,q⟩) hs
theorem sf (its:List Q6) (n j:Nat) (u:Q6):Wq (·.setIfInBounds j u) { cls:=.type "list",data:=.seq its.toArray n }={ cls:=.type "list",data:=.seq (its.set j u).toArray n }:=by
 simp [Wq]
theorem Inv.lst {pins:List (Q7×T1)} {σ:St} {H:Hp} {s:Q9} {p:Q7} {xs:List V} (I:Inv X pins σ H s) (h:H p=some (.lst xs)) :
 ∃ (its:List Q6) (n:Nat),Vals xs its/\s.heap.get? p=some { cls:=.type "list",data:=.seq its.toArray n }/\xs.length<=Ry:=by
 obtain ⟨z,its,n,r,e⟩:=I.hok p _ h;exact ⟨its,n,r,e,z⟩
theorem Inv.lstUpd {pins:List (Q7×T1)} {σ:St} {H:Hp} {s:Q9} {p:Q7} {xs ys:List V} {its its':List Q6} {n n':Nat} {f:T1->T1} (I:Inv X pins σ H s) (h:H p=some (.lst xs))
 (ho:s.heap.get? p=some { cls:=.type "list",data:=.seq its.toArray n }) (hf:f { cls:=.type "list",data:=.seq its.toArray n }={ cls:=.type "list",data:=.seq its'.toArray n' }) (r:Vals ys its') (hz:ys.length<=Ry) (t:Nat) :
 Inv X pins σ (upd H p (.lst ys)) { s with heap:=s.heap.update p f,toks:=t }:=by
 have e:(s.heap.update p f).get? p=some { cls:=.type "list",data:=.seq its'.toArray n' }:=by
  rw [Heap.get?_update_self f ho (by rw [hf] <;> rfl),hf]
 refine I.write (x:=p) (e:=p) (by rw [h];trivial) (.inl rfl) (fun b u hb q=>(Heap.get?_update_other _ _ (UX hb)).trans q) ⟨_,e⟩ ?_;exact ⟨hz,its',n',r,e⟩
def aaf:V->V->V->Hp->(Hp->Prop)->Prop:=fun o i v H Q=>∃ p xs k j,o=.ref p/\i=.int k/\H p=some (.lst xs)/\ixN xs.length k=some j/\Q (upd H p (.lst (xs.set j v)))
theorem set_list:zx X aaf:=by
 intro pins s σ H o i v ov iv u Q I ro ri rv h;obtain ⟨p,xs,k,j,rfl,rfl,hp,hj,q⟩:=h;cases ro;obtain ⟨t,rfl⟩:=ri;obtain ⟨its,n,r,ho,hz⟩:=I.lst hp;obtain ⟨h1,h2,h3,h4⟩:=ug hj;have hl:=r.length;have hn:=fD
 have I':Inv X pins σ (upd H p (.lst (xs.set j v))) { s with heap:=s.heap.update p (Wq (·.setIfInBounds j u)) } :=
  I.lstUpd hp ho (sf its n j u) (r.set rv j) (by rw [Vk];exact hz) s.toks
 by_cases h0:0<=k
 · have hk:k.toNat=j:=by
    rw [seqIndex_of h0 h4] at h1;exact RI h1
   exact PySem.W.ki_setAt ho h0 (by omega) (by rw [Rc,<- hl];exact h4) (by rw [hk];exact ⟨_,I',q⟩)
 · have hk:(k+(its.toArray.size:Int)).toNat=j:=by
    rw [seqIndex_neg (by omega) h3] at h1;rw [Rc,<- hl];exact RI h1
   exact PySem.W.ki_setBack ho (by omega) (by rw [Rc,<- hl];exact h3) (by omega) (by rw [hk];exact ⟨_,I',q⟩)
theorem oR (lo hi:Option Int) (n:Nat):(U7 lo hi none n).1=((HT.sIx n 0 lo:Nat):Int)/\(U7 lo hi none n).2.1=((HT.sIx n n hi:Nat):Int)/\(U7 lo hi none n).2.2=1:=by
 refine ⟨?_,?_,rfl⟩
 · cases lo with
   | none=>simp [U7,HT.sIx]
   | some i =>
     simp only [U7,HT.sIx,Option.getD_none,show (1:Int) > 0 by decide,if_true];by_cases h:i<0
     · simp only [h,if_true] <;> omega
     · simp only [h,if_false] <;> omega
 · cases hi with
   | none=>simp [U7,HT.sIx]
   | some i =>
     simp only [U7,HT.sIx,Option.getD_none,show (1:Int) > 0 by decide,if_true];by_cases h:i<0
     · simp only [h,if_true] <;> omega
     · simp only [h,if_false] <;> omega
theorem m3 (its:List Q6) (lo hi:Option Int):slicePick its.toArray lo hi none=((its.drop (HT.sIx its.length 0 lo)).take (HT.sIx its.length its.length hi - HT.sIx its.length 0 lo)).toArray:=by
 obtain ⟨h1,h2,h3⟩:=oR lo hi its.toArray.size;unfold slicePick;rw [h1,h2,h3];simp only [sliceRange_one,pick_run,Rc] <;> rfl
inductive yz (K:Q4) (x:V) (lo:Option Int) (hi:Option Int) (H:Hp) (Q:VK):Prop
 | mk (a:_) (xs:_) (Aj:x=.ref a) (Ak:SqL K H a xs) (An:∀ p,H p=none->Q (.ref p) (upd H p (.lst (cB xs lo hi)))):yz K x lo hi H Q
def aaM (K:Q4):V->Option Int->Option Int->Hp->VK->Prop:=yz K
theorem fP:SlR X (aaM X.K):=by
 intro pins s σ H x v vl vu lo hi sl Q I rx hs pl pu h;obtain ⟨a,xs,rfl,hx,q⟩:=h;cases rx;obtain ⟨its,r,ht,hz⟩:=I.list hx;have hlen:=r.length;refine ⟨"list",_,slot_list_getitem.lookup,ht.isList.typeIs,?_⟩;refine wpAny_getItem_list_slice ht.isList hs pl pu .none (by simp) ?_ (by rw [Rc] <;> omega);rw [m3,<- hlen];refine ⟨.ref s.heap.objs.size,_,I.laid (t':=s.toks) (o:=.lst (cB xs lo hi)) (fun b ob q=>Q5 _ q) (Q8 _) ?_,rfl,q _ (I.hok.fresh (Q8 _))⟩;exact ⟨Sw (kO xs lo hi) hz,_,0,(r.drop (HT.sIx xs.length 0 lo)).take (HT.sIx xs.length xs.length hi - HT.sIx xs.length 0 lo),Rf _ rfl⟩
def kP:V->Bool
 | .non=>true
 | .bl _=>true
 | .int _=>true
 | .str _=>true
 | _=>false
def eqV:V->V->Bool
 | .non,.non=>true
 | .bl a,.bl b=>a == b
 | .bl a,.int b=>(if a then 1 else 0) == b
 | .int a,.bl b=>a == (if b then 1 else 0)
 | .int a,.int b=>a == b
 | .str a,.str b=>a == b
 | _,_=>false
theorem zc {A:R6} {s:Q9} {y x:V} {u v:Q6} (ry:RelV y u) (rx:RelV x v) (fy:kP y=true) (fx:kP x=true):SeqAt.EqAt A s u v (eqV y x):=by
 cases y with
 | non =>
   cases ry;cases x with
   | non=>cases rx;exact SeqAt.EqAt.same _
   | bl b=>cases rx;exact SeqAt.EqAt.none_bool b
   | int b=>obtain ⟨t,rfl⟩:=rx;exact SeqAt.EqAt.none_int b t
   | str b=>obtain ⟨t,rfl⟩:=rx;exact SeqAt.EqAt.none_str b t
   | _=>exact absurd (show false=true from fx) Rt
 | bl a =>
   cases ry;cases x with
   | non=>cases rx;exact SeqAt.EqAt.bool_none a
   | bl b=>cases rx;exact SeqAt.EqAt.bool_bool a b
   | int b=>obtain ⟨t,rfl⟩:=rx;exact SeqAt.EqAt.bool_int a b t
   | str b=>obtain ⟨t,rfl⟩:=rx;exact SeqAt.EqAt.bool_str a b t
   | _=>exact absurd (show false=true from fx) Rt
 | int a =>
   obtain ⟨t',rfl⟩:=ry;cases x with
   | non=>cases rx;exact SeqAt.EqAt.int_none a t'
   | bl b=>cases rx;exact SeqAt.EqAt.int_bool a t' b
   | int b=>obtain ⟨t,rfl⟩:=rx;exact SeqAt.EqAt.int_int a t' b t
   | str b=>obtain ⟨t,rfl⟩:=rx;exact SeqAt.EqAt.int_str a t' b t
   | _=>exact absurd (show false=true from fx) Rt
 | str a =>
   obtain ⟨t',rfl⟩:=ry;cases x with
   | non=>cases rx;exact SeqAt.EqAt.str_none a t'
   | bl b=>cases rx;exact SeqAt.EqAt.str_bool a t' b
   | int b=>obtain ⟨t,rfl⟩:=rx;exact SeqAt.EqAt.str_int a t' b t
   | str b=>obtain ⟨t,rfl⟩:=rx;exact SeqAt.EqAt.str_str a t' b t
   | _=>exact absurd (show false=true from fx) Rt
 | _=>exact absurd (show false=true from fy) Rt
def eqU (x:V) (u:Q6):Bool:=match u with
 | .none=>eqV .non x
 | .bool b=>eqV (.bl b) x
 | .int i _=>eqV (.int i) x
 | .str z _=>eqV (.str z) x
 | _=>false
theorem vM {x y:V} {u:Q6} (r:RelV y u) (f:kP y=true):eqU x u=eqV y x:=by
 cases y with
 | non=>cases r;rfl
 | bl b=>cases r;rfl
 | int i=>obtain ⟨t,rfl⟩:=r;rfl
 | str z=>obtain ⟨t,rfl⟩:=r;rfl
 | _=>exact absurd (show false=true from f) Rt
theorem qe {x:V}:∀ {xs:List V} {us:List Q6},Vals xs us->xs.all kP=true->us.any (eqU x)=xs.any fun y=>eqV y x
 | _,_,.nil,_=>rfl
 | y::xs,u::us,.cons r t,f=>by
   rw [Vf,TY] at f;rw [Wu,Wu,vM r f.1,qe t f.2]
theorem lH {A:R6} {s:Q9} {x:V} {v:Q6} (rx:RelV x v) (fx:kP x=true):∀ {xs:List V} {us:List Q6},Vals xs us->xs.all kP=true->∀ u∈us,SeqAt.EqAt A s u v (eqU x u)
 | _,_,.nil,_=>fun u hu=>by cases hu
 | y::xs,u::us,.cons r t,f=>fun u' hu=>by
   rw [Vf,TY] at f;rcases Rq.mp hu with rfl | hu
   · rw [vM r f.1];exact zc r rx f.1 fx
   · exact lH rx fx t f.2 u' hu
def inV (x:V) (xs:List V):Bool:=xs.any fun y=>eqV y x
def rIn (K:Q4) (neg:Bool):R2:=fun x y H Q=>∃ p xs,y=.ref p/\(SqL K H p xs∨SqT K H p xs)/\kP x=true/\xs.all kP=true/\Q (.bl (if neg then !inV x xs else inV x xs)) H
theorem nX:OpR X (TH .In) (rIn X.K false):=by
 intro pins s σ H x y v u Q I rx ry h;obtain ⟨p,xs,rfl,hq,fx,fs,q⟩:=h;cases ry;rcases hq with hq | hq
 · obtain ⟨its,r,pl,hz⟩:=I.list hq;refine SeqAt.in_listAt (eqU x) pl.isList (fun w hw=>lH rx fx r fs w (by simpa using hw)) ⟨.bl _,H,I,rfl,?_⟩;rw [show its.toArray.any (eqU x)=its.any (eqU x) by simp,qe r fs];exact q
 · obtain ⟨its,r,pl,hz⟩:=I.tuple hq;refine SeqAt.in_tupleAt (eqU x) pl (fun w hw=>lH rx fx r fs w (by simpa using hw)) ⟨.bl _,H,I,rfl,?_⟩;rw [show its.toArray.any (eqU x)=its.any (eqU x) by simp,qe r fs];exact q
inductive yF (K:Q4) (xs:List V) (H:Hp) (Q:VK):Prop
 | mk (p:Q7) (ys:List V) (Aj:xs=[.ref p]) (Ak:SqL K H p ys∨SqT K H p ys) (An:Q (.int ys.length) H):yF K xs H Q
theorem ao:eH X (.builtin "len") (yF X.K):=by
 intro pins s σ H xs us Q I r h;obtain ⟨p,ys,rfl,hq,q⟩:=h;obtain ⟨u,rfl,rx⟩:=vals1 r;cases rx;have hn:=fD;rcases hq with hq | hq
 · obtain ⟨its,r',pl,hz⟩:=I.list hq;have hlen:=r'.length;exact Calls.call_len_list pl.isList (by simp only [Rc] <;> omega) ⟨.int ys.length,H,I.tok _,⟨s.toks+1,by rw [Rc,hlen]⟩,q⟩
 · obtain ⟨its,r',pl,hz⟩:=I.tuple hq;have hlen:=r'.length;exact len_tuple pl (by simp only [Rc] <;> omega) ⟨.int ys.length,H,I.tok _,⟨s.toks+1,by rw [Rc,hlen]⟩,q⟩
theorem fK:eH X (.builtin "len") (fun xs H Q=>∃ z,xs=[.str z]/\z.length<=Ry/\Q (.int z.length) H):=by
 intro pins s σ H xs us Q I r h;obtain ⟨z,rfl,hz,q⟩:=h;obtain ⟨u,rfl,t,rfl⟩:=vals1 r;have hn:=fD;exact len_str (by omega) ⟨.int z.length,H,I.tok _,⟨_,rfl⟩,q⟩
theorem bp:eH X (.type "tuple") (fun xs H Q=>∃ p ys,xs=[.ref p]/\((SqL X.K H p ys/\∀ l,H l=none->Q (.ref l) (upd H l (.tup ys)))∨(SqT X.K H p ys/\Q (.ref p) H))):=by
 intro pins s σ H xs us Q I r h;obtain ⟨p,ys,rfl,h⟩:=h;obtain ⟨u,rfl,rx⟩:=vals1 r;cases rx;rcases h with ⟨hq,q⟩ | ⟨hq,q⟩
 · obtain ⟨its,r',pl,hz⟩:=I.list hq;have hlen:=r'.length;refine call_tuple_list pl.isList (fun h' kp=>?_) (by simp only [Rc] <;> omega);have I1:Inv X pins σ H { s with heap:=h' }:=I.kept (t':=s.toks) kp
   have I2:Inv X pins σ (upd H h'.objs.size (.tup ys)) { s with heap:=h'.push { cls:=.type "tuple",data:=.seq its.toArray } } :=
    I1.laid (t':=s.toks) (fun b o e=>Q5 _ e) (Q8 _) (show ObjOk X.prog X.w _ _ _ (.tup ys) from ⟨hz,its,0,r',Rf _ rfl⟩)
   exact ⟨.ref h'.objs.size,_,I2,rfl,q _ (I1.hok.fresh (Q8 _))⟩
 · obtain ⟨its,r',pl,hz⟩:=I.tuple hq;exact call_tuple_same pl ⟨.ref p,H,I,rfl,q⟩
def tyV (K:Q4) (T:String) (x:V) (H:Hp):Prop:=match x with
 | .str _=>T="str"
 | .int _=>T="int"
 | .ref p=>(T="list"/\∃ xs,SqL K H p xs)∨(T="tuple"/\∃ o,K.lookup p=some o/\o.cls=.type "tuple"/\o.dict=none) ∨
  (T="dict"/\((∃ Aa,H p=some (.dK Aa))∨∃ Aa,H p=some (.dT Aa)))∨(T="set"/\∃ S n,H p=some (.set S n))
 | _=>False
theorem tJ {pins:List (Q7×T1)} {σ:St} {H:Hp} {s:Q9} {T:String} {x:V} {v:Q6} (I:Inv X pins σ H s) (r:RelV x v) (ty:tyV X.K T x H) :
 s.TypeIs v T/\∀ a,v=.ref a->∃ ob,s.heap.get? a=some ob/\ob.dict=none:=by
 cases x with
 | str z =>
   obtain ⟨t,rfl⟩:=r;cases (show T="str" from ty);exact ⟨UC s z t,fun _ e=>nomatch e⟩
 | int i =>
   obtain ⟨t,rfl⟩:=r;cases (show T="int" from ty);exact ⟨typeIs_int s i t,fun _ e=>nomatch e⟩
 | ref p =>
   cases r;rcases ty with ⟨rfl,xs,hq⟩ | ⟨rfl,o,hk,hc,hd⟩ | ⟨rfl,hk⟩ | ⟨rfl,S,n,hk⟩
   · obtain ⟨its,_,pl,_⟩:=I.list hq;refine ⟨pl.isList.typeIs,fun a e=>?_⟩;cases e;obtain ⟨o,n,e,c,hd,_⟩:=pl;exact ⟨o,e,hd⟩
   · refine ⟨⟨o,I.kIn p o hk,hc⟩,fun a e=>?_⟩;cases e;exact ⟨o,I.kIn _ o hk,hd⟩
   · have z:∃ o,s.heap.get? p=some o/\o.ExactDict:=by
      rcases hk with ⟨Aa,hk⟩ | ⟨Aa,hk⟩
      · obtain ⟨_,_,_,_,o,_,_,e,ex,_⟩:=I.hok p _ hk;exact ⟨o,e,ex⟩
      · obtain ⟨_,_,_,_,o,_,_,e,ex,_⟩:=I.hok p _ hk;exact ⟨o,e,ex⟩
     obtain ⟨o,e,ex⟩:=z;refine ⟨⟨o,e,ex.1⟩,fun a e2=>?_⟩;cases e2;exact ⟨o,e,ex.2.1⟩
   · obtain ⟨o,_,_,_,e,ex,_⟩:=I.hok p _ hk;refine ⟨⟨o,e,ex.1⟩,fun a e2=>?_⟩;cases e2;exact ⟨o,e,ex.2.1⟩
 | _=>exact T3 ty
def xC (K:Q4) (T:String) (r:V->List V->Hp->VK->Prop) (to:TE):TE:=fun σ H Q=>to σ H fun x H1=>tyV K T x H1/\r x [] H1 Q
def tBM (K:Q4) (T:String) (r:V->List V->Hp->VK->Prop) (to:TE) (t:TA):TE:=fun σ H Q=>to σ H fun x H1=>tyV K T x H1/\t σ H1 fun xs H2=>r x xs H2 Q
variable {o e:Sm} {es:List Sm} {to:TE} {t:TA} {name:Ru} {apos AJ:Vo} {T id:String} {r:V->List V->Hp->VK->Prop}
theorem iO (pa:PlainAttrs T) (slot:Slot T name id) (Jo:typeOf (.builtin id)=pure (.type "method_descriptor")) (hm:MtR X id r) (ho:PE X o to)
 (B1:V4 o name X.env (Tz o X.env)=Tz o X.env:=by rfl) (Bp:(apos.endLine == AJ.line)=true:=by rfl):PE X (.Call (.Attribute o name apos) [] [] AJ) (xC X.K T r to):=by
 intro pins s σ H Q I h;refine wpAny_Call_method0_late B1 Bp (thn (ho pins s σ H _ I h) fun v s1 ⟨x,H1,I1,r1,ty,q1⟩=>?_);obtain ⟨h1,h2⟩:=tJ I1 r1 ty;exact ⟨T,id,pa,slot,Jo,h1,h2,T4 rfl (PySem.evalArgs_none (hm pins s1 σ H1 x [] v [] Q I1 r1 .nil q1))⟩
theorem bi (pa:PlainAttrs T) (slot:Slot T name id) (Jo:typeOf (.builtin id)=pure (.type "method_descriptor")) (hm:MtR X id r) (ho:PE X o to) (ha:PA X (e::es) t)
 (B1:V4 o name X.env (Tz o X.env)=Tz o X.env:=by rfl)
 (EE:((Vw AJ (Se (e::es) X.env)).all (fun x=>!x.1) && (backToKw AJ (keywordEach [] X.env)).all (fun x=>x.1.isSome)
  && decide ((e::es).length+([]:List Keyword).length+(if ([]:List Keyword).isEmpty then 0 else 1)<30))=true:=by rfl)
 (Bp:(apos.endLine == AJ.line)=true:=by rfl) (hs:Se (e::es) X.env=(false,Tz e X.env)::Se es X.env:=by rfl) (EF:(Vw AJ (Se es X.env)).any (·.1)=false:=by rfl) :
 PE X (.Call (.Attribute o name apos) (e::es) [] AJ) (tBM X.K T r to t):=by
 intro pins s σ H Q I h;refine UB B1 EE Bp rfl (thn (ho pins s σ H _ I h) fun v s1 ⟨x,H1,I1,r1,ty,q1⟩=>?_);obtain ⟨h1,h2⟩:=tJ I1 r1 ty;refine ⟨T,id,pa,slot,Jo,h1,h2,?_⟩;have hA:=ha AJ pins s1 σ H1 _ I1 q1;rw [hs] at hA ⊢;refine T4 (by show (false || (Vw AJ (Se es X.env)).any (·.1))=false;rw [EF] <;> rfl) (UT ?_);exact thn hA fun us s2 ⟨vs,H2,I2,r2,q2⟩=>hm pins s2 σ H2 x vs v us Q I2 r1 r2 q2
end
end L2
namespace L2
open PySem PySem.Spec PyProof.Rows
def MtM (X:Cx) (id:String) (r:V->List V->Hp->VK->Prop):Prop :=
 ∀ (pins:List (Q7×T1)) (s:Q9) (σ:St) (H:Hp) (x:V) (xs:List V) (v:Q6) (us:List Q6) (Q:VK),Inv X pins σ H s->RelV x v->Vals xs us->r x xs H Q →
   Rw (RO X.prog X.w) X.A (call (.builtin id) (v::us)) (EP X pins σ Q) X.xe s
theorem Vals.one:∀ {x:V} {us:List Q6},Vals [x] us->∃ u,us=[u]/\RelV x u
 | _,_,.cons r .nil=>⟨_,rfl,r⟩
theorem Vals.zero:∀ {us:List Q6},Vals [] us->us=[]
 | _,.nil=>rfl
theorem Vals.dropLast {xs:List V} {us:List Q6} (h:Vals xs us):Vals xs.dropLast us.dropLast:=by
 induction h with
 | nil=>exact .nil
 | cons r t ih =>
   cases t with
   | nil=>exact .nil
   | cons q t'=>exact .cons r ih
theorem Vals.reverse {xs:List V} {us:List Q6} (h:Vals xs us):Vals xs.reverse us.reverse:=by
 induction h with
 | nil=>exact .nil
 | cons r t ih=>rw [RY,RY];exact Vals.append ih (.cons r .nil)
theorem Vals.rep {xs:List V} {us:List Q6} (h:Vals xs us):∀ k:Nat,Vals (Ro k xs).flatten (Ro k us).flatten
 | 0=>.nil
 | k+1=>by
   rw [Sd,Sd,RR,RR];exact Vals.append h (Vals.rep h k)
theorem tG {α:Type} (l:List α):l.eraseIdx (l.length - 1)=l.dropLast:=by
 induction l with
 | nil=>rfl
 | cons a r ih =>
   cases r with
   | nil=>rfl
   | cons b r =>
     have e:(a::b::r).length - 1=((b::r).length - 1)+1:=by
      have h1:(a::b::r).length=r.length+2:=rfl;have h2:(b::r).length=r.length+1:=rfl;omega
     rw [e,List.eraseIdx_cons_succ,ih]
     all_goals rfl
theorem foldl_rep (its:List Q6):∀ (k:Nat) (acc:List Q6),
 List.foldl (fun x1 x2=>x1++x2) acc.toArray (Ro k its.toArray)=(acc++(Ro k its).flatten).toArray
 | 0,acc=>by simp
 | k+1,acc=>by
   have e:acc.toArray++its.toArray=(acc++its).toArray:=by simp
   have e2:(acc++its)++(Ro k its).flatten=acc++(Ro (k+1) its).flatten:=by
    rw [Sd,RR,RF]
   rw [<- e2,<- foldl_rep its k (acc++its),<- e,Sd,List.foldl_cons]
section
variable {X:Cx} {pins:List (Q7×T1)} {σ:St} {H:Hp} {s:Q9} {l b:Q7} {xs ys zs:List V}
theorem Inv.lset {its its':List Q6} {n:Nat} {f:Array Q6->Array Q6} {t':Nat} (I:Inv X pins σ H s) (hH:H l=some (.lst xs))
 (e:s.heap.get? l=some { cls:=.type "list",data:=.seq its.toArray n }) (hf:f its.toArray=its'.toArray) (hv:Vals ys its') (hz:ys.length<=Ry) :
 Inv X pins σ (upd H l (.lst ys)) { s with heap:=s.heap.update l (Wq f),toks:=t' }:=by
 have q:=PySem.IsL.update e f;rw [hf] at q;refine I.write (x:=l) (e:=l) (by rw [hH];exact trivial) (.inl rfl) (fun b' u hb hu=>(Heap.get?_update_other s.heap (Wq f) (UX hb)).trans hu) ⟨_,q⟩ ?_;exact ⟨hz,its',_,hv,q⟩
theorem Inv.lnew {its:List Q6} {t':Nat} (I:Inv X pins σ H s) (hv:Vals ys its) (hz:ys.length<=Ry) :
 Inv X pins σ (upd H s.heap.objs.size (.lst ys)) { s with heap:=s.heap.push { cls:=.type "list",data:=.seq its.toArray },toks:=t' } :=
 I.laid (fun _ _ q=>Q5 _ q) (Q8 _) ⟨hz,its,0,hv,Rf _ rfl⟩
theorem Inv.fresh (I:Inv X pins σ H s):H s.heap.objs.size=none:=I.hok.fresh (Q8 _)
theorem Inv.lstM (I:Inv X pins σ H s) (hH:H l=some (.lst xs)):xs.length<=Ry/\∃ (its:List Q6) (n:Nat),Vals xs its/\xs.length=its.length/\s.heap.get? l=some { cls:=.type "list",data:=.seq its.toArray n }:=by
 obtain ⟨z,its,n,r,e⟩:=I.hok l _ hH;exact ⟨z,its,n,r,r.length,e⟩
theorem lT {n:Nat} (h:n<=Ry):TL n=false:=by
 unfold TL;exact decide_eq_false (by omega)
end
section
variable {X:Cx}
inductive rj (x:V) (vs:List V) (H:Hp) (Q:VK):Prop
 | mk (l:_) (xs:_) (y:_) (Aj:x=.ref l) (Ak:vs=[y]) (An:H l=some (.lst xs)) (Az:xs.length<Ry) (AR:Q .non (upd H l (.lst (xs++[y])))):rj  x vs H Q
def uq:V->List V->Hp->VK->Prop:=rj
theorem aN:MtM X "list.append" uq:=by
 intro pins s σ H x vs v us Q I rx rv h;obtain ⟨l,xs,y,rfl,rfl,hH,hz,q⟩:=h;cases rx;obtain ⟨u,rfl,ru⟩:=rv.one;obtain ⟨z,its,n,r,hl,e⟩:=I.lstM hH;refine UD F.slot_list_append ⟨_,e,rfl⟩ F.entry_list_append (F.args_list_append_2 _ _) (PySem.list_append l its.toArray n u (by rw [Rc];omega)) ⟨e,?_⟩;refine ⟨.non,_,I.lset (its':=its++[u]) hH e (by simp) (r.append (.cons ru .nil)) ?_,rfl,q⟩;rw [Ra,Sq];omega
inductive rB (x:V) (vs:List V) (H:Hp) (Q:VK):Prop
 | mk (l:_) (b:_) (xs:_) (zs:_) (Aj:x=.ref l) (Ak:vs=[.ref b]) (An:H l=some (.lst xs)) (Az:H b=some (.lst zs)) (AR:xs.length+zs.length<=Ry) (Bh:Q .non (upd H l (.lst (xs++zs)))):rB  x vs H Q
def xR:V->List V->Hp->VK->Prop:=rB
theorem nB:MtM X "list.extend" xR:=by
 intro pins s σ H x vs v us Q I rx rv h;obtain ⟨l,b,xs,zs,rfl,rfl,hH,hB,hz,q⟩:=h;cases rx;obtain ⟨u,rfl,ru⟩:=rv.one;cases ru;obtain ⟨z,its,n,r,hl,e⟩:=I.lstM hH;obtain ⟨z2,Am,n2,r2,Bn,e2⟩:=I.lstM hB;have hsz:its.toArray.size+Am.toArray.size<=Ry:=by rw [Rc,Rc];omega
 have B2:¬ (!its.toArray.isEmpty && TL (its.toArray.size+Am.toArray.size))=true:=by
  rw [lT hsz,Wg];exact Rt
 refine UD F.slot_list_extend ⟨_,e,rfl⟩ F.entry_list_extend (F.args_list_extend_2 _ _)
  (AutoSeq1.list_extend_list_list_0 l its.toArray n b Am.toArray n2 B2 (by rw [Rc];omega) (by omega)) ⟨e,e2,?_⟩
 refine ⟨.non,_,I.lset (its':=its++Am) hH e (by simp) (r.append r2) ?_,rfl,q⟩;rw [Ra];omega
inductive yl (x:V) (vs:List V) (H:Hp) (Q:VK):Prop
 | mk (l:_) (xs:_) (y:_) (Aj:x=.ref l) (Ak:vs=[]) (An:H l=some (.lst xs)) (Az:xs[xs.length - 1]?=some y) (AR:Q y (upd H l (.lst xs.dropLast))):yl  x vs H Q
def xp:V->List V->Hp->VK->Prop:=yl
theorem iT:MtM X "list.pop" xp:=by
 intro pins s σ H x vs v us Q I rx rv h;obtain ⟨l,xs,y,rfl,rfl,hH,hy,q⟩:=h;cases rx;have Ic:=rv.zero;subst Ic;obtain ⟨z,its,n,r,hl,e⟩:=I.lstM hH;obtain ⟨u,hu,ru⟩:=r.get hy
 have EG:its.toArray[its.toArray.size - 1]?=some u:=by
  show its.toArray[its.length - 1]?=some u;rw [<- S9,<- hl];exact hu
 refine UD F.slot_list_pop ⟨_,e,rfl⟩ F.entry_list_pop (F.args_list_pop_1 _) (MeetsSeq.list_pop_last l its.toArray n u EG (by rw [Rc];omega)) ⟨e,?_⟩;refine ⟨y,_,I.lset (its':=its.dropLast) hH e ?_ r.dropLast ?_,ru,q⟩
 · show its.toArray.eraseIdxIfInBounds (its.toArray.size - 1)=its.dropLast.toArray;rw [Rc,List.eraseIdxIfInBounds_toArray,tG]
 · rw [List.length_dropLast];omega
inductive yC (x:V) (y:V) (H:Hp) (Q:VK):Prop
 | mk (l:_) (b:_) (xs:_) (zs:_) (Aj:x=.ref l) (Ak:y=.ref b) (An:H l=some (.lst xs)) (Az:H b=some (.lst zs)) (AR:xs.length+zs.length<=Ry) (Bh:∀ p,H p=none->Q (.ref p) (upd H p (.lst (xs++zs)))):yC  x y H Q
def aaI:R2:=yC
theorem zm:OpR X (Uw .Add) aaI:=by
 intro pins s σ H x y v u Q I rx ry h;obtain ⟨l,b,xs,zs,rfl,rfl,hH,hB,hz,q⟩:=h;cases rx;cases ry;obtain ⟨z,its,n,r,hl,e⟩:=I.lstM hH;obtain ⟨z2,Am,n2,r2,Bn,e2⟩:=I.lstM hB;refine PySem.P.add_list e e2 ?_ (by rw [Rc,Rc];omega);have ea:its.toArray++Am.toArray=(its++Am).toArray:=by simp
 rw [ea];exact ⟨.ref _,_,I.lnew (t':=s.toks) (r.append r2) (by rw [Ra];omega),rfl,q _ I.fresh⟩
def aa2:R2:=fun x y H Q=>∃ l k xs,x=.ref l/\y=.int k/\H l=some (.lst xs)/\-(2 ^ 63)<=k/\k<2 ^ 63/\xs.length * k.toNat<=Ry ∧
 ∀ p,H p=none->Q (.ref p) (upd H p (.lst (Ro k.toNat xs).flatten))
theorem len_rep {α:Type} (xs:List α) (k:Nat):(Ro k xs).flatten.length=k * xs.length:=by
 induction k with
 | zero=>simp
 | succ k ih=>rw [Sd,RR,Ra,ih,Ud,Nat.add_comm]
theorem zg:OpR X (Uw .Mult) aa2:=by
 intro pins s σ H x y v u Q I rx ry h;obtain ⟨l,k,xs,rfl,rfl,hH,h1,h2,hz,q⟩:=h;cases rx;obtain ⟨t,rfl⟩:=ry;obtain ⟨z,its,n,r,hl,e⟩:=I.lstM hH;have hlen:its.toArray.size * k.toNat<=Ry:=by rw [Rc,<- hl];exact hz
 have Jp:¬ its.toArray.size * k.toNat > (2 ^ 63 - 1) / 8:=by
  have:(Ry:Nat)<=(2 ^ 63 - 1) / 8:=by decide
  omega
 have Aw:¬ (!Builtin.List.listFitsIndex k)=true:=by
  rw [fitsIndex_both h1 h2];exact Rt
 have B2:¬ TL (its.toArray.size * k.toNat)=true:=by
  rw [lT hlen];exact Rt
 have Jq:List.foldl (fun x1 x2=>x1++x2) #[] (Ro (if its.toArray.isEmpty=true then 0 else k.toNat) its.toArray)=(Ro k.toNat its).flatten.toArray:=by
  have f0:∀ m:Nat,List.foldl (fun x1 x2=>x1++x2) #[] (Ro m its.toArray)=(Ro m its).flatten.toArray:=fun m=>by
   have:=foldl_rep its m [];rw [RN] at this;exact this
  rw [f0];cases its with
  | nil=>simp
  | cons a r'=>rw [if_neg (by simp)]
 refine wpAny_binaryOp_repeat_ref (T:="list") (U:="int") (by decide) ⟨_,e,rfl⟩ (fun s'=>typeIs_int s' k t) noFill_list_mul F.fills_int_mul F.slot_int_rmul repeat_list F.slot_int_index.lookup
  (UD F.slot_int_rmul (typeIs_int s k t) F.entry_int_rmul (F.args_int_rmul_2 _ _) (int___rmul___int_list k t l its.toArray n)
   ⟨e,rfl,⟨_,e,rfl⟩,UD F.slot_list_mul ⟨_,e,rfl⟩ F.entry_list_mul (F.args_list_mul_2 _ _) (AutoListH.list___mul___list_int_3 l its.toArray n k t Aw Jp B2) ⟨e,?_⟩⟩)
 rw [Jq];exact ⟨.ref _,_,I.lnew (t':=s.toks) (r.rep k.toNat) (by rw [len_rep,Vq];exact hz),rfl,q _ I.fresh⟩
end
section
variable {prog:RL} {w:R1} {A:R6} {E:Q6->Q9->Prop} {s:Q9}
end
section
variable {X:Cx}
end
end L2
namespace Att
open PySem PySem.W PySem.Calls PyProof.Rows
theorem ints_of_wellAll {P:Params} {h:SE}:∀ (ns:List Int) (vs:List Q6),WellAll P h vs (ns.map WData.int)->IntsAre vs ns:=by
 intro ns;induction ns with
 | nil =>
   intro vs w;rw [SY] at w;cases w;exact .nil
 | cons n ns ih =>
   intro vs w;rw [Rr] at w;cases w with
   | cons a b =>
     cases a;exact .cons _ _ (ih _ b)
theorem script_of {l:OpenLaw} {n:Nat} (hn:l.most=some n) {P:Params} {h:SE} {args:List WData} {vals:List Q6}
 (Cc:l.row.toRowW.claim.pre args=true) (B':WellAll P h vals args) :
 ∃ a vs ns,vals=[Sx a]/\args=[WData.list (ns.map WData.int)]/\h.get? a=some { cls:=.type "list",data:=.seq vs.toArray }/\IntsAre vs ns/\ns.length<=n:=by
 have Ec:WShape.hasAll [] args [.list .int]=true:=(pre_splitW Cc).1;have hc:l.pre.holds [] { args:=args }=true:=(pre_splitW Cc).2;obtain ⟨d,r,rfl,h1,h2⟩:=hasAllW_cons Ec;obtain rfl:=hasAllW_nil h2;obtain ⟨xs,rfl,h3⟩:=hasW_list h1;obtain ⟨ns,rfl⟩:=items_int h3
 have hlen:ns.length<=n:=by
  unfold OpenLaw.pre at hc
  have h4:(WTm.not (.lt (.lit (.int (n:Int))) (.len (.arg 0)))).holds [] { args:=[.list (ns.map .int)] }=true:=by
   have h4:=(holds_andW hc).1;rw [hn] at h4;exact h4
  have h5:=condW_of h4 (w_not (w_lt w_lit (w_len_list (w_arg rfl))));rw [Q0] at h5;refine Nat.le_of_not_lt fun q=>?_;have q':(n:Int)<((ns.length:Nat):Int):=by omega
  first
   | (rw [decide_eq_true q'] at h5;exact absurd h5 (by decide))
   | (simp at h5;omega)
 cases B' with
 | cons w1 w2 =>
   cases w2;cases w1 with
   | list ho Ai=>exact ⟨_,_,ns,rfl,rfl,ho,ints_of_wellAll ns _ Ai,hlen⟩
theorem post_true (l:OpenLaw) (args:List WData):l.row.toRowW.claim.post args (.bool true) args=true :=
 postW_of (r:=l.row.toRowW) (X:=(true == true))
  (show WShape.has [] (.bool true) .bool=true by first | rfl | decide | simp [WShape.has,WShape.arms,WShape.armsAll])
  (show (WTm.eq .res (.lit (.bool true))).value [] { args:=args,res:=some (.bool true),after:=args }=some (.bool (true == true)) from w_eq_bool (w_res rfl) w_lit) rfl
theorem attach_call {l:OpenLaw} {n:Nat} {q:RL} {loose:List Ru} {XP:(Ru->Option Q6)->SE->Prop} {YP:R1->SE->Prop} {d:DefRec}
 (hn:l.most=some n) (F3:d.params.defaults=[])
 (call:∀ (w:R1) (s₀ f':Q9) (mg mb:Ru->Option Q6) (fa:Q7) (o:T1) (pm cd doc:Q6) (a:Q7) (vs:List Q6) (ns:List Int),
  Ground q loose [] XP w s₀ mg mb f'.heap->YP w f'.heap →
  f'.heap.get? fa=some o->o.data=.func (docDef d.name d.params d.body d.scope pm cd doc)->f'.heap.CodeRec cd d.name->mg d.name=some (.ref fa) →
  f'.heap.get? a=some { cls:=.type "list",data:=.seq vs.toArray }->IntsAre vs ns->ns.length<=n->f'.gens=#[] →
  VA (RO l.prog w) callerA (.call (.ref fa) ⟨[.ref a],[]⟩) (fun r s'=>r=.ok (.ret (.bool true))/\OldK f'.heap s'.heap/\s'.os=f'.os/\AllBare s'.gens) f') :
 WalkO q loose XP YP l.row.toRowW d [] (fun f vs=>PySem.call f vs):=by
 intro w s₀ f' mg mb G Y fa o pm cd doc dV kV ho hd C' hD F4 hg args vals as Cc Nz LJ B' Qq;obtain rfl:dV=.none:=Dflts.none hD F3;obtain rfl:kV=.none:=Dflts.noKw hD;obtain ⟨a,vs,ns,rfl,rfl,EH,hints,hlen⟩:=script_of hn Cc B';refine enter_call (Vz (call w s₀ f' mg mb fa o pm cd doc a vs ns G Y ho (fd_plain hd) C' F4 EH hints hlen hg) fun r s' hq=>?_);obtain ⟨rfl,h2,h3,h4⟩:=hq;exact ⟨.inl ⟨.bool true,.bool true,[],rfl,fun _=>rfl,.bool true,post_true l _,fun _=>⟨List.Pairwise.nil,fun _ hm=>(nomatch hm)⟩⟩,h2,h3,h4⟩
section
variable {prog:RL} {w:R1} {A:R6} {E:Q6->Q9->Prop} {s:Q9} {K:Frag}
end
end Att
namespace L2
open PySem PySem.Spec PyProof.Rows
theorem nC:∀ {vs:List Q6} {ns:List Int},IntsAre vs ns->Vals (ns.map V.int) vs
 | _,_,.nil=>.nil
 | _,_,.cons n t h=>.cons ⟨t,rfl⟩ (nC h)
def zu (H:Hp):Prop:=∀ b,H b=none∨∃ o xs,H b=some (.frz o (.lst xs))
theorem vD {P:RL} {w:R1} {K:Q4} {mg mb:Ru->Option Q6} {CX:CXT} {k:Nat} {fa a:Q7} {fd:Uz} {x:Ru} {sp:Sp} {f':Q9} {vs:List Q6} {ns:List Int}
 (KX:K.In f'.heap) (DT:f'.heap.Ns RK mg) (hb:f'.heap.Ns builtinsNs mb) (Fv:∀ x:Ru,x≠"__name__"->mb x=VB x) (Jr:f'.heap.NoLimit) (hg:f'.gens=#[])
 (ha:f'.heap.get? a=some { cls:=.type "list",data:=.seq vs.toArray }) (hi:IntsAre vs ns) (hl:ns.length<=Ry) (hr:Room k callerA)
 (F:∀ base:SE,K.In base->base.Ns RK mg->aV P w K mg base CX k fa fd [x] sp) (F5:∀ (s:Q9) (u:Q6),BindsTo s fd ⟨[u],[]⟩ [(x,u)])
 (Ct:∀ H:Hp,zu H->SqL K H a (ns.map V.int)->sp [.ref a] H (fun v _=>v=.bl true) fun _ _ _=>False)
 (Js:∀ H e s',CX [] H f' (fun _ _ _=>False) e s'->False) :
 VA (RO P w) callerA (.call (.ref fa) ⟨[.ref a],[]⟩) (fun r s'=>r=.ok (.ret (.bool true))/\OldK f'.heap s'.heap/\s'.os=f'.os/\AllBare s'.gens) f':=by
 have rv:=nC hi;have Jt:=hi.length
 -- from an abstract heap in LK nothing but C7 script may be tracked
 have core:∀ H:Hp,zu H->SqL K H a (ns.map V.int)->HOk P w H f'.heap->(∀ b,H b≠none->b=a)->(H a≠none->K.lookup a=none) →
  VA (RO P w) callerA (.call (.ref fa) ⟨[.ref a],[]⟩) (fun r s'=>r=.ok (.ret (.bool true))/\OldK f'.heap s'.heap/\s'.os=f'.os/\AllBare s'.gens) f':=by
  intro H hO hS hok hA hK;have Cv:∀ {b:Q7} {o:T1},f'.heap.get? b=some o->H b=none->(qc f'.heap H).get? b=some o:=fun e n=>vS e n
  have FZ:∀ {b:Q7} {o:T1} {es:Array DictEntry} {ep:Nat},f'.heap.get? b=some o->o.data=.dict es ep->H b=none:=fun {b o es ep} e d=>by
   cases q:H b with
   | none=>rfl
   | some u =>
     have e':b=a:=hA b (by rw [q];simp);subst e';rw [ha] at e;cases e;have d':Data.seq vs.toArray _=Data.dict es ep:=d;cases d'
  have Ie:∀ {b:Q7} {m:Ru->Option Q6},f'.heap.Ns b m->(qc f'.heap H).Ns b m:=fun {b m} ⟨o,es,ep,e,d,r⟩=>⟨o,es,ep,Cv e (FZ e d),d,r⟩
  have LL:K.In (qc f'.heap H):=fun b o e=>Cv (KX b o e) (by
   cases q:H b with
   | none=>rfl
   | some u =>
     have e':b=a:=hA b (by rw [q];simp);subst e';rw [hK (by rw [q];simp)] at e;cases e)
  have hM:Mod K mg (qc f'.heap H):=⟨LL,Ie DT,⟨mb,Ie hb,Fv⟩,let ⟨mc,h1,h2⟩:=Jr;⟨mc,Ie h1,h2⟩⟩;have e0:Env0 P w K mg (qc f'.heap H) callerA [] f' H:=⟨rfl,hM,fun b o e=>xP e,WL (uK _ _),trivial,fun b hb=>absurd (show b∈([]:List Q7) from hb) (by simp),hok,.of_eq hg⟩;refine Vz ((F _ LL (Ie DT)).run callerA [] f' H ⟨[.ref a],[]⟩ [.ref a] [.ref a] _ _ hr e0 (F5 f' (.ref a)) (.cons rfl .nil) (Ct H hO hS)) fun r s' h=>?_;cases r with
  | error e=>exact (Js H e s' h).elim
  | ok fl =>
    cases fl with
    | next=>exact T3 h
    | brk=>exact T3 h
    | cont=>exact T3 h
    | ret u =>
      obtain ⟨v,H',os,bare,un,Ju,r',q⟩:=h;have q':v=.bl true:=q;subst q';obtain rfl:u=Value.bool true:=r';refine ⟨rfl,OldK.of_keep fun b o e=>?_,os,bare⟩;cases q:H b with
      | none=>exact un.keep b o e q (by intro z;exact absurd (show b∈([]:List Q7) from z) (by simp)) (by simp)
      | some u =>
        rcases hO b with z | ⟨ob,xs,z⟩
        · rw [q] at z;cases z
        · have z2:=un.frzs b ob _ z;obtain ⟨e1,_⟩:=hok b _ z;obtain ⟨e2,_⟩:=Ju b _ z2;rw [e] at e1;cases e1;exact e2
 cases hk:K.lookup a with
 | some o =>
   -- C7 script is one of C7 F6 own objects
   have e:=KX a o hk;rw [ha] at e;cases e;refine core (fun _=>none) (fun _=>.inl rfl) (.inr ⟨_,vs.toArray,_,hk,rfl,rfl,rfl,by rw [Rc,Jt];exact hl,by simpa using rv⟩) (fun b u z=>by have z':(none:Option HO)=some u:=z;cases z') (fun b z=>absurd rfl z) fun z=>absurd rfl z
 | none =>
   refine core (fun b=>if b=a then some (.frz { cls:=.type "list",data:=.seq vs.toArray } (.lst (ns.map V.int))) else none) (fun b=>?_) (.inl (.inr ⟨{ cls:=.type "list",data:=.seq vs.toArray },if_pos rfl⟩)) (fun b u z=>?_) (fun b z=>?_) fun _=>hk
   · by_cases hb:b=a
     · exact .inr ⟨_,_,if_pos hb⟩
     · exact .inl (if_neg hb)
   · by_cases hb:b=a
     · have z':=(if_pos hb).symm.trans z;cases z';subst hb;exact ⟨ha,by rw [Q0];exact hl,vs,_,rv,ha⟩
     · have z':=(if_neg hb).symm.trans z;cases z'
   · by_cases hb:b=a
     · exact hb
     · exact absurd (if_neg hb) z
end L2
namespace L2
open PySem PySem.Spec PyProof.Rows
theorem xl {l:PySem.W.OpenLaw} {n k:Nat} {q:RL} {loose:List Ru} {XP:(Ru->Option Q6)->SE->Prop} {YP:R1->SE->Prop} {d:DefRec} {K:Params->Q4} {CX:R1->CXT} {sp:R1->Sp} {x:Ru}
 (hn:l.most=some n) (Ib:n<=Ry) (F3:d.params.defaults=[]) (hr:Room k callerA)
 (hY:∀ (w:R1) (h:SE),YP w h->(K w.params).In h)
 (F:∀ (w:R1) (mg:Ru->Option Q6) (fa:Q7) (h:SE),(K w.params).In h->h.Ns RK mg->mg d.name=some (.ref fa) →
  ∃ fd:Uz,(∀ (s:Q9) (u:Q6),BindsTo s fd ⟨[u],[]⟩ [(x,u)]) ∧
    ∀ base:SE,(K w.params).In base->base.Ns RK mg->aV l.prog w (K w.params) mg base (CX w) k fa fd [x] (sp w))
 (Ct:∀ (w:R1) (H:Hp) (a:Q7) (ns:List Int),ns.length<=n->zu H->SqL (K w.params) H a (ns.map V.int)->sp w [.ref a] H (fun v _=>v=.bl true) fun _ _ _=>False)
 (Js:∀ (w:R1) (H:Hp) (s:Q9) (e:Q6) (s':Q9),CX w [] H s (fun _ _ _=>False) e s'->False) :
 PySem.W.WalkO q loose XP YP l.row.toRowW d [] (fun f vs=>PySem.call f vs):=by
 refine Att.attach_call hn F3 fun w s₀ f' mg mb fa o pm cd doc a vs ns G Y ho hd C' F4 EH hints hlen hg=>?_;have KX:=hY w _ Y;obtain ⟨fd,hb,hF⟩:=F w mg fa _ KX G.T.g F4;exact vD KX G.T.g G.T.b G.T.builtins G.T.nolimit hg EH hints (Sw hlen Ib) hr hF hb (fun H hO hS=>Ct w H a ns hlen hO hS) fun H e s'=>Js w H f' e s'
end L2
namespace L2
open PySem PySem.Spec PyProof.Rows
def inClass (s:Sz) (j:Nat):Sz:=match s with
 | .ClassDef _ _ _ body _ _ _ _ _ _ _=>body.getD j (.Pass ⟨0,0,0,0⟩)
 | _=>.Pass ⟨0,0,0,0⟩
def bF (s:Sz):Arguments:=match s with
 | .FunctionDef _ a _ _ _ _ _ _ _ _=>a
 | _=>{ posonlyargs:=[],args:=[],vararg:=none,kwonlyargs:=[],kw_defaults:=[],kwarg:=none,defaults:=[] }
def bB (s:Sz):List Sz:=match s with
 | .FunctionDef _ _ b _ _ _ _ _ _ _=>b
 | _=>[]
def ak (s:Sz):U8:=match s with
 | .FunctionDef _ _ _ _ _ _ sc _ _ _=>sc
 | _=>{ kind:=.function,names:=[],isGenerator:=false,isCoroutine:=false }
abbrev CX0:CXT:=fun _ _ _ _ _ _=>False
abbrev E0:XK:=fun _ _ _=>False
theorem mj {X:Cx}:Passes CX0 X E0:=fun _ _ _ _ _ _ _ h=>h.elim
structure Fun (K:Q4) (x qual:Ru) (st:Sz) (f:Q7) (fd:Uz):Prop where
 ex:∃ (oc:Q6) (od:Option Q7) (kV doc pm:Q6) (an:Option Q7) (Ag ct:Q6) (Eb:Array (Option Q6)),
  fd=Uc x qual (bF st) (bB st) (ak st) .none kV doc pm an Ag ct/\K.lookup f=some ⟨oc,od,.func fd,Eb⟩/\U3 K Ag qual=true
 kp:TZ K (.ref f)=true
section
variable {P:RL} {w:R1} {K:Q4} {mg:Ru->Option Q6} {base:SE}
theorem Fun.ok {x qual:Ru} {st:Sz} {f:Q7} {fd:Uz} {N ps:List Ru} {k:Nat} {sp:Sp} (F:Fun K x qual st f fd) (S:aw N ps (ak st)) (len:∀ vs H Q E,sp vs H Q E->vs.length=ps.length)
 (Dd:∀ (Ag:Q6) (A:R6) (outer:List Env) (s:Q9) (H:Hp) (vs:List V) (Q:VK) (E:XK),Room k (A.deeper (envOfC qual (ak st) s.heap.objs.size f Ag))->sp vs H Q E →
  ∃ t,PSs (u8 CX0 P w K mg base N qual (ak st) f Ag A outer s H E).nox (bB st) t/\t { nx:=fun _ H'=>Q .non H',rt:=Q } (start N vs) H):aV P w K mg base CX0 (k+1) f fd ps sp:=by
 obtain ⟨oc,od,kV,doc,pm,an,Ag,ct,Eb,rfl,lk,C'⟩:=F.ex;refine zZ lk C' S len fun A outer s H vs Q E hr Ct=>?_;obtain ⟨t,h,q⟩:=Dd Ag A outer s H vs Q E hr Ct;exact ⟨t,h.nox,q⟩
theorem Fun.binds {x qual:Ru} {st:Sz} {f:Q7} {fd:Uz} {ps:List Ru} (F:Fun K x qual st f fd)
 (h:∀ (kV doc pm:Q6) (an:Option Q7) (Ag ct:Q6) (us:List Q6),us.length=ps.length->WG (Uc x qual (bF st) (bB st) (ak st) .none kV doc pm an Ag ct) ⟨us,[]⟩=pure (ps.zip us)):Binds K fd ps []:=by
 obtain ⟨oc,od,kV,doc,pm,an,Ag,ct,Eb,rfl,lk,C'⟩:=F.ex;exact .all (h kV doc pm an Ag ct)
theorem cT {x qual:Ru} {st:Sz} {f:Q7} {oc:Q6} {od an:Option Q7} {Eb:Array (Option Q6)} {kV doc pm Ag ct:Q6} (l:K.lookup f=some ⟨oc,od,.func (Uc x qual (bF st) (bB st) (ak st) .none kV doc pm an Ag ct),Eb⟩)
 (c:U3 K Ag qual=true) (k:TZ K (.ref f)=true):Fun K x qual st f (Uc x qual (bF st) (bB st) (ak st) .none kV doc pm an Ag ct):=⟨⟨oc,od,kV,doc,pm,an,Ag,ct,Eb,rfl,l,c⟩,k⟩
end
theorem aay {A:R6} {k:Nat} (hr:Room k A):A.units+1<Vx:=Vs (Nat.add_le_add_left (by decide:1<=64) _) hr.units
section
variable {X:Cx}
theorem pv (i:Nat) {x:Ru} {pos:Vo} (hN:X.N[i]?=some x:=by rfl) (hv:Vis X.env.scope x:=by first | exact Rp rfl | exact Or.inr (Rp rfl) | exact Or.inr (Or.inr rfl)) (hd:(x == ("__debug__":Ru))=false:=by decide)
 (C':(x == ("__classdict__":Ru))=false:=by decide):PE X (.Name x pos) (bV i):=zt hN hv hd C'
end
theorem bA {A B:Prop} (h:B):if false=true then A else B:=by
 rw [if_neg Rt];exact h
theorem cE {A B:Prop} (h:A):if true=true then A else B:=by
 rw [if_pos rfl];exact h
theorem cA {c A B:Prop} [Decidable c] (h1:c->A) (h2:¬ c->B):if c then A else B:=by
 by_cases h:c
 · rw [if_pos h];exact h1 h
 · rw [if_neg h];exact h2 h
theorem aah {c A B:Prop} [Decidable c] (hc:c) (h:B):if (!decide c)=true then A else B:=by
 rw [decide_eq_true hc];exact bA h
def Same (H H':Hp):Prop:=∀ b o,H b=some o->H' b=some o
theorem Same.refl (H:Hp):Same H H:=fun _ _ h=>h
theorem Same.trans {H H1 H2:Hp} (a:Same H H1) (b:Same H1 H2):Same H H2:=fun c o h=>b c o (a c o h)
theorem Same.free {H H':Hp} (e:Same H H') {l:Q7} (h:H' l=Option.none):H l=Option.none:=by
 cases q:H l with
 | none=>rfl
 | some o =>
   rw [e l o q] at h;cases h
theorem Same.seq {K:Q4} {H H':Hp} {a:Q7} {xs:List V} (e:Same H H') (h:SqL K H a xs):SqL K H' a xs:=by
 rcases h with (h | ⟨o,h⟩) | h
 · exact .inl (.inl (e _ _ h))
 · exact .inl (.inr ⟨o,e _ _ h⟩)
 · exact .inr h
end L2
namespace L2
open PySem PySem.Spec PyProof.Rows
theorem iQ (env:Env):∀ (ns:List (Ru×T2)) (acc:List (Ru×Q7)),(∀ n,(n,Ss)∈ns->∃ c,env.cells.lookup n=some c) →
 (∀ x c,acc.lookup x=some c->env.cells.lookup x=some c) →
 ∃ cl,(forIn ns acc fun (x:Ru×T2) (cs:List (Ru×Q7))=>(if (x.2 == Ss)=true then (do let a ← cellOf env x.1;pure (T8 ((x.1,a)::cs))) else pure (T8 cs):Sem _))=pure cl ∧
   (∀ x c,cl.lookup x=some c->env.cells.lookup x=some c)/\(∀ n,(n,Ss)∈ns->∃ c,cl.lookup n=some c)/\∀ n c,acc.lookup n=some c->cl.lookup n=some c
 | [],acc,_,ha=>⟨acc,rfl,ha,fun _ h=>by simp at h,fun _ _ h=>h⟩
 | (n,k)::r,acc,hf,ha=>by
   by_cases hk:k=Ss
   · subst hk;obtain ⟨c,hc⟩:=hf n Rn
     have NA:∀ x c',((n,c)::acc).lookup x=some c'->env.cells.lookup x=some c':=fun x c' e=>by
      rw [TV] at e;cases hx:x == n with
      | true =>
        rw [hx] at e;have e1:x=n:=by simpa using hx
        cases e;rw [e1];exact hc
      | false=>rw [hx] at e;exact ha x c' e
     obtain ⟨cl,h1,h2,h3,h4⟩:=iQ env r ((n,c)::acc) (fun m hm=>hf m (Ri _ hm)) NA;have up:∀ m c',((n,c)::acc).lookup m=some c'->cl.lookup m=some c':=h4;refine ⟨cl,?_,h2,?_,?_⟩
     · rw [Tu];have e0:cellOf env n=pure c:=by unfold cellOf;rw [hc]
       simp only [beq_self_eq_true,if_true,e0,pure_bind];exact h1
     · intro m hm;rcases Rq.mp hm with e | e
       · have:m=n:=by simpa using (Prod.mk.inj e).1
         subst this;exact ⟨c,up m c (by rw [TV];simp)⟩
       · exact h3 m e
     · intro m c' e;by_cases hm:m=n
       · subst hm;have:=ha m c' e;rw [hc] at this;cases this;exact up m c (by rw [TV];simp)
       · have NB:(m == n)=false:=by simpa using hm
         exact up m c' (by rw [TV,NB];exact e)
   · have hb:(k == Ss)=false:=by simpa using hk
     obtain ⟨cl,h1,h2,h3,h4⟩:=iQ env r acc (fun m hm=>hf m (Ri _ hm)) ha;refine ⟨cl,?_,h2,?_,h4⟩
     · rw [Tu];simp only [hb,Bool.false_eq_true,if_false,pure_bind];exact h1
     · intro m hm;rcases Rq.mp hm with e | e
       · exact absurd (Prod.mk.inj e).2.symm hk
       · exact h3 m e
theorem lG {env:Env} {sc:U8} (hf:∀ n,(n,Ss)∈sc.names->∃ c,env.cells.lookup n=some c) :
 ∃ cl,closureFor sc env=pure cl/\(∀ x c,cl.lookup x=some c->env.cells.lookup x=some c)/\∀ n,(n,Ss)∈sc.names->∃ c,cl.lookup n=some c:=by
 obtain ⟨cl,h1,h2,h3,_⟩:=iQ env sc.names [] hf (fun x c e=>by simp at e);refine ⟨cl,?_,h2,h3⟩;unfold closureFor;have e:(forIn sc.names ([]:List (Ru×Q7)) fun (x:Ru×T2) (cs:List (Ru×Q7))=>(do if (x.2 == Ss)=true then (do let a ← cellOf env x.1;pure (T8 ((x.1,a)::cs))) else pure (T8 cs):Sem _))=pure cl:=h1
 first
  | (rw [show (forIn sc.names ([]:List (Ru×Q7)) _:Sem _)=pure cl from h1];rfl)
  | (simp only [h1,pure_bind])
theorem lD {f:Ru×T2->Ru×T2} (hf:∀ p,(f p).1=p.1):∀ {l:List (Ru×T2)} {x:Ru} {k:T2},l.lookup x=some k->(l.map f).lookup x=some (f (x,k)).2
 | [],_,_,h=>by simp at h
 | (n,k0)::r,x,k,h=>by
   have ih:=@lD f hf r x k;rw [Rr];obtain ⟨a,b,e⟩:∃ a b,f (n,k0)=(a,b):=⟨_,_,rfl⟩;have ea:a=n:=by have:=hf (n,k0);rw [e] at this;exact this
   subst ea;rw [e,TV];cases hx:x == a with
   | true =>
     rw [TV,hx] at h;cases h;have:x=a:=by simpa using hx
     subst this;rw [e]
   | false=>rw [TV,hx] at h;exact ih h
theorem eM {f:Ru×T2->Ru×T2} (hf:∀ p,(f p).1=p.1):∀ {l:List (Ru×T2)} {x:Ru} {k:T2},(l.map f).lookup x=some k->∃ k0,(x,k0)∈l/\(f (x,k0)).2=k
 | [],_,_,h=>by simp at h
 | (n,k0)::r,x,k,h=>by
   have ih:=@eM f hf r x k;rw [Rr] at h;obtain ⟨a,b,e⟩:∃ a b,f (n,k0)=(a,b):=⟨_,_,rfl⟩;have ea:a=n:=by have:=hf (n,k0);rw [e] at this;exact this
   subst ea;rw [e,TV] at h;cases hx:x == a with
   | true =>
     rw [hx] at h;cases h;have:x=a:=by simpa using hx
     subst this;exact ⟨k0,Rn,by rw [e]⟩
   | false =>
     rw [hx] at h;obtain ⟨k1,h1,h2⟩:=ih h;exact ⟨k1,Ri _ h1,h2⟩
def rlb (env:Env) (p:Ru×T2):Ru×T2:=if (p.2 == Ss && env.scope.kind == .function && env.kindOf p.1 == some .cell) then (p.1,Vr) else (p.1,p.2)
theorem oI (env:Env) (p:Ru×T2):(rlb env p).1=p.1:=by unfold rlb;split <;> rfl
theorem iu (sc:U8) (env:Env):(relabel sc env).names=sc.names.map (rlb env):=rfl
theorem jc {sc:U8} {env:Env} {x:Ru} (h:sc.names.lookup x=some .free):(relabel sc env).names.lookup x=some .cell∨(relabel sc env).names.lookup x=some .free:=by
 rw [iu,lD (oI env) h];unfold rlb;split
 · exact .inl rfl
 · exact .inr rfl
theorem mx {sc:U8} {env:Env} {x:Ru} (hn:∀ y∈sc.names,y.2≠Vr) (h:(relabel sc env).names.lookup x=some .cell∨(relabel sc env).names.lookup x=some .free):(x,Ss)∈sc.names:=by
 rw [iu] at h
 have:∃ k0,(x,k0)∈sc.names/\((rlb env (x,k0)).2=.cell∨(rlb env (x,k0)).2=.free):=by
  rcases h with h | h
  · obtain ⟨k0,a,b⟩:=eM (oI env) h;exact ⟨k0,a,.inl b⟩
  · obtain ⟨k0,a,b⟩:=eM (oI env) h;exact ⟨k0,a,.inr b⟩
 obtain ⟨k0,hm,hk⟩:=this;have nc:=hn _ hm;cases k0 with
 | free=>exact hm
 | cell=>exact absurd rfl nc
 | _=>simp [rlb] at hk
def bY (X:Cx) (N:List Ru) (sc:U8) (cl:List (Ru×Q7)) (C:Q7) (s:Q9) (H:Hp) (fp:List Q7) (pins:List (Q7×T1)):Cx :=
 { X with N:=N,s₀:=s,H₀:=H,env:=compEnvC sc cl C X.env,outer:=X.stack,ex:=fp,fn:=fun _=>false,pn:=X.pn++pins,xe:=fun _ _=>False }
def cσ (js:List (Option Nat)) (σ:St):St:=js.map fun o=>o.bind fun j=>(σ[j]?).join
structure fg (X:Cx) (sc:U8) (N:List Ru) (js:List (Option Nat)):Prop where
 kind:sc.kind=.function
 nocell:∀ y∈sc.names,y.2≠Vr
 names:∀ y∈sc.names,y.2=NameKind.local->sc.names.lookup y.1=some .local
 frees:∀ y∈sc.names,y.2=Ss->X.env.kindOf y.1=some .cell∨X.env.kindOf y.1=some .free
 len:js.length=N.length
 slots:∀ (i j:Nat) (x:Ru),js[i]?=some (some j)->N[i]?=some x->X.N[j]?=some x/\sc.names.lookup x=some .free/\(X.env.kindOf x=some .cell∨X.env.kindOf x=some .free)
theorem cg {X:Cx} {sc:U8} {N:List Ru} {js:List (Option Nat)} (k:sc.kind=.function) (nc:∀ y∈sc.names,y.2≠Vr) (nm:∀ y∈sc.names,y.2=NameKind.local->sc.names.lookup y.1=some .local)
 (fr:(sc.names.all fun y=>y.2 != Ss || X.env.kindOf y.1 == some Vr || X.env.kindOf y.1 == some Ss)=true) (ln:js.length=N.length)
 (sl:((js.zip N).all fun p=>match p.1 with | none=>true | some j=>X.N[j]? == some p.2 && sc.names.lookup p.2 == some Ss && (X.env.kindOf p.2 == some Vr || X.env.kindOf p.2 == some Ss))=true):fg X sc N js:=by
 refine ⟨k,nc,nm,fun y hy hf=>?_,ln,fun i j x e1 e2=>?_⟩
 · have h:=TB.mp fr y hy;rw [hf] at h;simpa using h
 · have hm:(some j,x)∈js.zip N:=by
    have:(js.zip N)[i]?=some (some j,x):=by rw [T5];exact ⟨e1,e2⟩
    exact Rb this
   have h:=TB.mp sl _ hm;simp at h;exact ⟨h.1.1,h.1.2,h.2⟩
def PTs (X:Cx) (ifs:List Sm) (t:TT):Prop :=
 ∀ (pins:List (Q7×T1)) (s:Q9) (σ:St) (H:Hp) (Q:Bool->Hp->Prop),Inv X pins σ H s->t σ H Q →
   Rw (RO X.prog X.w) X.A (forIn ifs true fun c r=>if r=true then do let ok ← isTrue c X.env (Tz c X.env);pure (T8 ok) else pure (T8 r)) (TP X pins σ Q) X.xe s
def bn:TT:=fun _ H Q=>Q true H
theorem bN {X:Cx}:PTs X [] bn:=fun _ _ _ H _ I h=>wpAny_tests_nil ⟨H,I,h⟩
theorem g8 {X:Cx} {c:Sm} {t:TT} (h:PT X c t):PTs X [c] t:=fun pins s σ H Q I q=>wpAny_tests_one (h pins s σ H Q I q)
def Keep (σ Ab:St):Prop:=σ.length=Ab.length/\∀ (i:Nat) (v:V),σ[i]?=some (some v)->Ab[i]?=some (some v)
def nO (js:List (Option Nat)) (g:TG):Prop:=∀ (σ BC:St) (x:V) (H:Hp) (Q:St->Hp->Prop),Keep (cσ js σ) BC->g x BC H Q->g x BC H fun Ay H2=>Keep (cσ js σ) Ay/\Q Ay H2
def oE (js:List (Option Nat)) (g:TGs):Prop:=∀ (σ BC:St) (x:List V) (H:Hp) (Q:St->Hp->Prop),Keep (cσ js σ) BC->g x BC H Q->g x BC H fun Ay H2=>Keep (cσ js σ) Ay/\Q Ay H2
theorem Keep.refl (σ:St):Keep σ σ:=⟨rfl,fun _ _ h=>h⟩
theorem xD {js:List (Option Nat)} {σ:St} {i:Nat} (h:js[i]?=some none):(cσ js σ)[i]?=some none:=by
 unfold cσ;rw [Rg,h];rfl
theorem aX {js:List (Option Nat)} {i:Nat} (h:js[i]?=some none):nO js (aG i):=fun σ BC x H Q k q=>by
 refine ⟨⟨by rw [Vk];exact k.1,fun j v e=>?_⟩,q⟩;by_cases hj:i=j
 · subst hj;rw [xD h] at e;cases e
 · rw [UI hj];exact k.2 j v e
theorem pB {js:List (Option Nat)}:oE js vq:=fun σ BC x H Q k ⟨e,q⟩=>⟨e,k,q⟩
theorem ej {js:List (Option Nat)} {t:TG} {u:TGs} (mono:∀ x σ H (Q Q':St->Hp->Prop),(∀ a b,Q a b->Q' a b)->t x σ H Q->t x σ H Q') (h1:nO js t) (h2:oE js u):oE js (iK t u):=fun σ BC x H Q k ⟨v,r,e,q⟩ =>
 ⟨v,r,e,mono _ _ _ _ _ (fun a b ⟨k',q'⟩=>h2 σ a r b Q k' q') (h1 σ BC v H _ k q)⟩
theorem cq {i:Nat}:∀ x σ H (Q Q':St->Hp->Prop),(∀ a b,Q a b->Q' a b)->aG i x σ H Q->aG i x σ H Q':=fun _ _ _ _ _ h q=>h _ _ q
theorem oM {js:List (Option Nat)} {K:Q4} {n:Nat} {t:TGs} (h:oE js t):nO js (uT K n t):=fun σ BC x H Q k ⟨a,xs,e,hs,hl,q⟩=>⟨a,xs,e,hs,hl,h σ BC xs H Q k q⟩
def eY (js:List (Option Nat)) (g:TG) (tt:TT) (te:TE) (σ:St) (J:It) (D:Q7) (n:Nat) (W:Nat->Hp->Prop) (fin:Hp->Prop):Prop :=
 ∀ i H,W i H->(J.stop i H/\fin H)∨(i<n/\J.go i H/\∀ x H1,J.yld i H x H1->g x (cσ js σ) H1 fun Ay H2=>tt Ay H2 fun b H3 =>
   if b=true then te Ay H3 fun v H4=>∃ ys,H4 D=some (.lst ys)/\ys.length<Ry/\W (i+1) (upd H4 D (.lst (ys++[v]))) else W (i+1) H3)
def yf (js:List (Option Nat)) (wi:TI) (g:TG) (tt:TT) (te:TE):TE:=fun σ H Q=>wi σ H fun J H1=>∀ D,H1 D=none →
 ∃ (n:Nat) (W:Nat->Hp->Prop),W 0 (upd H1 D (.lst []))/\eY js g tt te σ J D n W fun H'=>Q (.ref D) H'
section
variable {X:Cx} {pins:List (Q7×T1)} {σ:St} {s:Q9} {H:Hp}
theorem w6 {sc:U8} {N:List Ru} {js:List (Option Nat)} {cl:List (Ru×Q7)} {fp:List Q7} {h1:SE} {t':Nat} (S:fg X sc N js) (I:Inv X pins σ H s)
 (Bi:∀ x c,cl.lookup x=some c->X.env.cells.lookup x=some c) (DU:∀ n,(n,Ss)∈sc.names->∃ c,cl.lookup n=some c)
 (hf:∀ b∈fp,ig X pins H b) (Ax:∀ b∈fp,b<s.heap.objs.size) (DT:h1.Ns s.heap.objs.size fun x=>Uh x ([]:List (Ru×Q6)))
 (CZ:∀ b o,s.heap.get? b=some o->h1.get? b=some o) :
 Inv (bY X N sc cl s.heap.objs.size s H fp pins) [] (cσ js σ) H { s with heap:=h1,toks:=t' }:=by
 have hok:(bY X N sc cl s.heap.objs.size s H fp pins).Ok :=
  { mod:=I.ok.mod
    kind:=S.kind
    glob:=I.ok.glob
    blt:=I.ok.blt
    above:=Q8 _
    inj:=fun x y c a b=>I.ok.inj x y c (Bi x c a) (Bi y c b)
    has:=fun x h=>DU x (mx S.nocell h)
    cab:=fun x c h=>by cases h
    hd:=I.ok.hd
    frames:=I.ok.frames
    stk:=.inl rfl
    exf:=fun b hb=>⟨fun e=>absurd (Ax b hb) (by rw [e];exact SK _),fun x c e z=>(hf b hb).2.2.2.2.1 x c (Bi x c e) z⟩
    bs:=I.bs
    bsz:=Sw I.ok.bsz I.sz
    noex:=fun b o e hb=>by
     rcases (hf b hb).2.2.2.1 with h | h
     · exact I.ok.noex b o e h
     · exact absurd (RU (RU (Rv e) I.ok.bsz) h) (SK _)
    exfs:=fun b hb hm=>by
     rcases Rq.mp (I.stkSub b hm) with e | e
     · exact (hf b hb).2.1 e
     · exact (hf b hb).2.2.1 e
    funs:=I.stack
    frf:=I.stkFree }
 have hC:H s.heap.objs.size=none:=I.hok.fresh (Q8 _);obtain ⟨m0,Jv,NC⟩:=I.loc
 exact
  { ok:=hok
    os:=rfl
    bare:=I.bare
    base:=Un.kept CZ
    loc:=⟨_,DT,fun i x v e1 e2 LG=>by
     have Bz:∃ j,js[i]?=some (some j)/\σ[j]?=some (some v):=by
      unfold cσ at e2;rw [Rg] at e2;cases q:js[i]? with
      | none=>rw [q] at e2;cases e2
      | some o =>
        rw [q] at e2;cases o with
        | none=>cases e2
        | some j =>
          refine ⟨j,rfl,?_⟩;have e3:(σ[j]?).join=some v:=RI e2;cases r:σ[j]? with
          | none=>rw [r] at e3;cases e3
          | some z=>rw [r] at e3;exact congrArg some e3
     obtain ⟨j,q1,q2⟩:=Bz;obtain ⟨n1,n2,n3⟩:=S.slots i j x q1 e1;obtain ⟨u,ru,look⟩:=NC j x v n1 q2 (by rcases n3 with z | z;exact .inr (.inl z);exact .inr (.inr z));refine ⟨u,ru,.inr ⟨jc n2,?_⟩⟩;have hm:(x,Ss)∈sc.names:=mx (env:=X.env) S.nocell (jc n2);obtain ⟨c,hc⟩:=DU x hm;refine ⟨c,hc,?_⟩;rcases look with ⟨k1,_⟩ | ⟨_,c',Bm,ic⟩
     · rcases n3 with z | z <;> (rw [k1] at z;cases z)
     · have:=Bi x c hc;rw [Bm] at this;cases this;exact ic.keeps CZ⟩
    cell:=fun x c e=>by
     obtain ⟨v,q⟩:=I.cell x c (Bi x c e);exact ⟨v,q.keeps CZ⟩
    free:=hC
    freeC:=fun x c e=>I.freeC x c (Bi x c e)
    pin:=fun p hp=>by
     have DF:p∈X.pn++pins:=by simpa [bY] using hp
     obtain ⟨a1,a2,a3,a4,a5⟩:=I.pin p DF;refine ⟨CZ _ _ a1,a2,fun e=>?_,fun hm=>?_,a5⟩
     · have e':p.1=s.heap.objs.size:=e;exact absurd (Rv a1) (by rw [e'];exact SK _)
     · rcases Rq.mp (I.stkSub p.1 hm) with e | e
       · exact a3 e
       · exact a4 e
    hok:=I.hok.kept CZ
    len:=by
     show (cσ js σ).length=N.length;unfold cσ;rw [Q0];exact S.len }
theorem uB {prog:RL} {w:R1} {A:R6} {R:Result->Q9->Prop} {elt target iter:Sm} {ifs:List Sm} {scope:U8} {pos:Vo} {it acc:Q6} {env:Env} (J:Nat->Q9->Prop)
 (turn:∀ n s,J n s->Rw (RO prog w) A (Wl it) (fun r f'=>(r=none/\R (.ok .next) f')∨∃ v,r=some v ∧
  Rw (RO prog w) A (Ws target it v) (fun _ AS=>Rw (RO prog w) A (assign target env v) (fun _ BF =>
   Rw (RO prog w) A (forIn ifs true fun c r=>if r=true then do let ok ← isTrue c env (Tz c env);pure (T8 ok) else pure (T8 r)) (fun ok Df =>
    (ok=false/\∃ m,m<n/\J m Df)∨(ok=true/\Rw (RO prog w) A (Tz elt env) (fun x F7=>Rw (RO prog w) A (call (.builtin "list.append") [acc,x]) (fun _ F8=>∃ m,m<n/\J m F8) (fun _ _=>False) F7) (fun _ _=>False) Df))
    (fun _ _=>False) BF) (fun _ _=>False) AS) (fun _ _=>False) f') (fun _ _=>False) s)
 {s:Q9} (n:Nat) (h:J n s):VA (RO prog w) A (.compLoop (.ListComp elt [⟨target,iter,ifs,0⟩] scope pos) 0 it acc env) R s:=by
 refine codeAny_loop rfl J (fun n s hJ=>?_) n h;show Rw _ A ((compTurn (.ListComp elt [⟨target,iter,ifs,0⟩] scope pos) 0 it acc env).onRaise _) _ _ s;refine wpAny_noted ?_;rw [compTurn_list];have up:∀ {α:Type} {m:Sem α} {Q:α->Q9->Prop} {E:Q6->Q9->Prop} {s:Q9},Rw (RO prog w) A m Q (fun _ _=>False) s->Rw (RO prog w) A m Q E s:=fun q=>Ta q (fun _ _ z=>z) fun _ _ z=>z.elim;refine Q2 (wpAny_standAt (Q2 (Ta (up (turn n s hJ)) (fun r f' AA=>?_) fun _ _ z=>z)));rcases AA with ⟨rfl,AA⟩ | ⟨v,rfl,AA⟩
 · exact Rl AA
 · refine Q2 (Ta (up AA) (fun _ AS AY=>?_) fun _ _ z=>z);refine Q2 (Ta (up AY) (fun _ BF B3=>?_) fun _ _ z=>z);refine Q2 (Ta (up B3) (fun ok Df Bq=>?_) fun _ _ z=>z);rcases Bq with ⟨rfl,Bq⟩ | ⟨rfl,Bq⟩
   · exact Rl ⟨rfl,Bq⟩
   · exact Q2 (Q2 (Ta (up Bq) (fun x F7 AH=>Q2 (Ta (up AH) (fun _ F8 Jw=>Rl (Rl ⟨rfl,Jw⟩)) fun _ _ z=>z)) fun _ _ z=>z))
theorem lZ {elt tg iter:Sm} {ifs:List Sm} {sc:U8} {pos:Vo} {N:List Ru} {js:List (Option Nat)} {g:TG} {tt:TT} {te:TE} {cl:List (Ru×Q7)} {fp:List Q7} {it:Q7} {tn:Nat->SE->Prop} {J:It} {n:Nat} {W:Nat->Hp->Prop} {fin:Hp->Prop}
 {R:Q6->Q7->Result->Q9->Prop} (hc:X.calm=true) (S:fg X sc N js) (I:Inv X pins σ H s) (T:Turn X.prog X.w X.K tg J fp it tn) (st:tn 0 s.heap) (hf:∀ b∈fp,ig X pins H b)
 (Bi:∀ x c,cl.lookup x=some c->X.env.cells.lookup x=some c) (DU:∀ n,(n,Ss)∈sc.names->∃ c,cl.lookup n=some c)
 (hg:∀ cl C s H fp pins,PG (bY X N sc cl C s H fp pins) tg g) (gk:nO js g) (ht:∀ cl C s H fp pins,PTs (bY X N sc cl C s H fp pins) ifs tt) (he:∀ cl C s H fp pins,PE (bY X N sc cl C s H fp pins) elt te)
 (w0:W 0 (upd H s.heap.objs.size (.lst []))) (turn:eY js g tt te σ J s.heap.objs.size n W fin)
 (hR:∀ C H' s',C≠X.env.locals->s.heap.objs.size<C->(∃ m,s'.heap.Ns C m)->H' C=none->(∀ h' t',TK C s'.heap h'->Inv X pins σ H' { s' with heap:=h',toks:=t' })->fin H'->R (.ref s.heap.objs.size) C (.ok .next) s') {E:Q6->Q9->Prop} :
 Rw (RO X.prog X.w) X.A (newList []) (fun acc BF=>Rw (RO X.prog X.w) X.A (newFunctionEnv sc X.env.globals cl [] X.env.qual none .none (some X.env)) (fun F9 Df =>
  VA (RO X.prog X.w) X.A (.compStart (.ListComp elt [⟨tg,iter,ifs,0⟩] sc pos) 0 (.ref it) acc { F9 with scope:=relabel sc X.env }) (R acc F9.locals) Df) E BF) E s:=by
 refine SF (wpAny_newFunctionEnv S.nocell (by intro y hy;simp at hy) (fun AA Cd Ce=>?_) S.kind);dsimp only at Cd Ce ⊢;have I3:Inv X pins σ (upd H s.heap.objs.size (.lst [])) { s with heap:=s.heap.push { cls:=.type "list",dict:=none,data:=.seq ([]:List Q6).toArray } }:=I.lnew (t':=s.toks) (its:=[]) .nil (by decide)
 have Ax:∀ b∈fp,b<s.heap.objs.size:=fun b hb=>by
  obtain ⟨o,ho,_⟩:=T.obj _ _ st b hb;exact Rv ho
 have Ed:∀ b o,s.heap.get? b=some o->(s.heap.push { cls:=.type "list",dict:=none,data:=.seq ([]:List Q6).toArray }).get? b=some o:=fun b o e=>Q5 _ e;have hsz:(s.heap.push { cls:=.type "list",dict:=none,data:=.seq ([]:List Q6).toArray }).objs.size=s.heap.objs.size+1:=SD ..;generalize LM:({ s with heap:=s.heap.push { cls:=.type "list",dict:=none,data:=.seq ([]:List Q6).toArray } }:Q9)=s3 at I3;have F':s.heap.push { cls:=.type "list",dict:=none,data:=.seq ([]:List Q6).toArray }=s3.heap:=by rw [<- LM]
 rw [F'] at Cd Ce Ed hsz;rw [F'];have ND:∀ t',({ s with heap:=AA,toks:=t' }:Q9)={ s3 with heap:=AA,toks:=t' }:=fun t'=>by rw [<- LM]
 rw [ND];have CZ:∀ b o,s3.heap.get? b=some o->AA.get? b=some o:=fun b o e=>Ce.extBut b o (RT (Rv e)) (Q5 _ e);have Jx:∀ b∈fp,ig X pins (upd H s.heap.objs.size (.lst [])) b:=fun b hb=>⟨by rw [al (RT (Ax b hb))];exact (hf b hb).1,(hf b hb).2⟩;have I4:=w6 (t':=s.toks+([]:List (Ru×Q6)).length) S I3 Bi DU Jx (fun b hb=>by rw [hsz];exact S7 (Ax b hb)) Cd CZ;generalize Ga:upd H s.heap.objs.size (.lst [])=H3 at I3 I4 Jx w0;have By:tn 0 AA:=T.keep _ _ _ st fun b hb o e=>CZ _ _ (Ed _ _ e)
 have Bo:∀ {H':Hp},(∀ b∈fp,H' b=none)->∀ b∈fp,ig (bY X N sc cl s3.heap.objs.size s3 H3 fp pins) [] H' b:=fun {H'} hn b hb=>by
  obtain ⟨f0,f1,f2,f3,f4,f5⟩:=hf b hb;refine ⟨hn b hb,fun e=>?_,fun hm=>?_,.inl hb,fun x c e=>f4 x c (Bi x c e),fun p hp=>f5 p (by simpa [bY] using hp)⟩
  · have e':b=s3.heap.objs.size:=e;have h9:b<s.heap.objs.size:=Ax b hb;rw [e',hsz] at h9;exact absurd h9 (Nat.not_lt.mpr (Nat.le_succ _))
  · rcases Rq.mp (I.stkSub b hm) with e | e
    · exact f1 e
    · exact f2 e
 have loop:VA (RO X.prog X.w) X.A (.compLoop (.ListComp elt [⟨tg,iter,ifs,0⟩] sc pos) 0 (.ref it) (.ref s.heap.objs.size) (compEnvC sc cl s3.heap.objs.size X.env)) (R (.ref s.heap.objs.size) s3.heap.objs.size)
  { s3 with heap:=AA,toks:=s.toks+([]:List (Ru×Q6)).length }:=by
  refine uB (fun k s'=>∃ i H',Inv (bY X N sc cl s3.heap.objs.size s3 H3 fp pins) [] (cσ js σ) H' s'/\tn i s'.heap/\(∀ b∈fp,H' b=none)/\W i H'/\k=n - i) ?_ n ⟨0,H3,I4,By,fun b hb=>(Jx b hb).1,w0,rfl⟩;rintro k s5 ⟨i,H5,I5,Fs,Ia,w5,rfl⟩;rcases turn i H5 w5 with ⟨stop,qn⟩ | ⟨BD,go,step⟩
  · refine thn (T.done (bY X N sc cl s3.heap.objs.size s3 H3 fp pins) rfl rfl rfl hc i [] s5 (cσ js σ) H5 _ I5 (Bo Ia) Fs stop) fun r s6 ⟨hr,I6⟩=>.inl ⟨hr,?_⟩;have I7:Inv X pins σ H5 s6:=I3.call' (ch:=fp) (I6.os.trans rfl) I6.base I6.hok I6.bare fun b hb=>⟨(hf b hb).2.2.2.1,(hf b hb).2.1,(hf b hb).2.2.2.2.1,(hf b hb).2.2.2.2.2⟩;have LN:H5 s3.heap.objs.size=none:=I6.free;have LO:s3.heap.objs.size≠X.env.locals:=Ut I3.lt;obtain ⟨m6,NF,_⟩:=I6.loc;refine hR s3.heap.objs.size H5 s6 LO (by omega) ⟨m6,NF⟩ LN (fun h' t' sb=>?_) qn;refine I7.turned (it:=s3.heap.objs.size) (fun b o hb e=>sb.extBut b o hb e) LN LO (.inr I3.sz) (fun x c e z=>?_) fun p hp z=>?_
    · obtain ⟨v,q⟩:=I3.cell x c e;exact absurd q.lt (by rw [z];exact SK _)
    · exact absurd (Rv (I3.pin p hp).1) (by rw [z];exact SK _)
  · refine thn (T.item (bY X N sc cl s3.heap.objs.size s3 H3 fp pins) rfl rfl rfl hc i [] s5 (cσ js σ) H5 _ I5 (Bo Ia) Fs go) fun r s6 ⟨u,hr,h6⟩=>.inr ⟨u,hr,?_⟩;refine thn h6 fun _ s7 ⟨x,H7,I7,r7,y7,Jy,NG⟩=>?_;have NH:=I7.pinned (Bo NG) (T.obj _ _ Jy);refine thn (hg cl s3.heap.objs.size s3 H3 fp pins _ s7 (cσ js σ) H7 x u _ NH r7 (gk σ (cσ js σ) x H7 _ (.refl _) (step x H7 y7))) fun _ s8 ⟨Jz,H8,I8,k8,q8⟩=>?_;refine thn (ht cl s3.heap.objs.size s3 H3 fp pins _ s8 Jz H8 _ I8 q8) fun ok s9 ⟨H9,I9,q9⟩=>?_
    have again:∀ {s':Q9} {Ab:St} {H':Hp},Keep (cσ js σ) Ab->Inv (bY X N sc cl s3.heap.objs.size s3 H3 fp pins) ([]++j8 fp s7.heap) Ab H' s'->W (i+1) H'->∃ m,m<n - i/\∃ i H',Inv (bY X N sc cl s3.heap.objs.size s3 H3 fp pins) [] (cσ js σ) H' s'/\tn i s'.heap/\(∀ b∈fp,H' b=none)/\W i H'/\m=n - i:=fun {s' Ab H'} kp I' w'=>by
     refine ⟨n - (i+1),by omega,i+1,H',(I'.unpinned).weak kp.1 kp.2,T.keep _ _ _ Jy fun b hb o e=>(I'.pin (b,o) (RV _ (RV _ (cU hb e)))).1,fun b hb=>?_,w',rfl⟩;obtain ⟨o,e,d⟩:=T.obj _ _ Jy b hb;exact (I'.pin (b,o) (RV _ (RV _ (cU hb e)))).2.1
    cases ok with
    | false =>
      refine .inl ⟨rfl,again k8 I9 ?_⟩;have LP:if false=true then _ else W (i+1) H9:=q9
      rw [if_neg Rt] at LP;exact LP
    | true =>
      refine .inr ⟨rfl,?_⟩;rw [if_pos rfl] at q9;refine thn (he cl s3.heap.objs.size s3 H3 fp pins _ s9 Jz H9 _ I9 q9) fun vv Gb ⟨v,Gd,NI,rv,ys,hD,Ge,NJ⟩=>?_;refine thn (aN _ Gb Jz Gd (.ref s.heap.objs.size) [v] (.ref s.heap.objs.size) [vv] (fun _ H'=>W (i+1) H') NI rfl (.cons rv .nil) ⟨_,ys,v,rfl,rfl,hD,Ge,NJ⟩) fun _ Gf ⟨_,Qr,NK,_,NL⟩=>?_;exact again k8 NK NL
 exact codeAny_compStart_list loop (T.self X.A 0 _ _ _ By loop)
theorem bG {elt tg iter:Sm} {ifs:List Sm} {sc:U8} {pos:Vo} {N:List Ru} {js:List (Option Nat)} {wi:TI} {g:TG} {tt:TT} {te:TE} (hc:X.calm=true) (S:fg X sc N js) (hi:PI X tg iter wi)
 (hg:∀ cl C s H fp pins,PG (bY X N sc cl C s H fp pins) tg g) (gk:nO js g) (ht:∀ cl C s H fp pins,PTs (bY X N sc cl C s H fp pins) ifs tt) (he:∀ cl C s H fp pins,PE (bY X N sc cl C s H fp pins) elt te)
 (hs:∀ x,VY iter X.env x=pure x:=by intro _;rfl):PE X (.ListComp elt [⟨tg,iter,ifs,0⟩] sc pos) (yf js wi g tt te):=by
 intro pins s σ H Q I h;obtain ⟨cl,e1,e2,e3⟩:=lG (env:=X.env) (sc:=sc) fun n hn=>I.ok.has n (S.frees _ hn rfl);rw [eval_ListComp];refine wpAny_comprehension_free (use:=none) rfl hs e1 S.kind S.names (thn (hi pins s σ H _ I h) fun v s1 h1=>thn h1 fun HZ s2 h2=>?_);obtain ⟨it,fp,tn,J,H2,rfl,I2,T,EA,f2,R2⟩:=h2;obtain ⟨n,W,w0,turn⟩:=R2 s2.heap.objs.size I2.fresh;refine lZ (R:=fun acc C=>compPost (RO X.prog X.w) X.A X.xe none (EP X pins σ Q) acc C) hc S I2 T EA f2 e2 e3 hg gk ht he w0 turn fun C H' s' _ _ hn _ inv fi=>?_;obtain ⟨m,hm⟩:=hn;exact ⟨m,hm,fun h' sb=>⟨.ref s2.heap.objs.size,H',inv h' s'.toks sb,rfl,fi⟩⟩
theorem jy {i:Nat} {y:Ru} {elt tg iter:Sm} {ifs:List Sm} {sc:U8} {pos Gg py:Vo} {N:List Ru} {js:List (Option Nat)} {wi:TI} {g:TG} {tt:TT} {te:TE} (hN:X.N.Nodup) (hy:X.N[i]?=some y) (Gh:Loc X.env.scope y) (hc:X.calm=true) (S:fg X sc N js) (hi:PI X tg iter wi)
 (hg:∀ cl C s H fp pins,PG (bY X N sc cl C s H fp pins) tg g) (gk:nO js g) (ht:∀ cl C s H fp pins,PTs (bY X N sc cl C s H fp pins) ifs tt) (he:∀ cl C s H fp pins,PE (bY X N sc cl C s H fp pins) elt te)
 (NM:swapsWith (.ListComp elt [⟨tg,iter,ifs,0⟩] sc pos) (some (.Name y py)) Gg.line X.env=pure true:=by rfl)
 (hs:∀ x,VY iter X.env x=pure x:=by intro _;rfl) (hf:X.fn y=true∨X.env.scope.names.lookup y=some .local:=by first | exact .inl rfl | exact .inr rfl | assumption) :
 PS X (.Assign [.Name y py] (.ListComp elt [⟨tg,iter,ifs,0⟩] sc pos) Gg) (yT (yf js wi g tt te) (aG i)):=by
 intro pins s σ H D I h;obtain ⟨cl,e1,e2,e3⟩:=lG (env:=X.env) (sc:=sc) fun n hn=>I.ok.has n (S.frees _ hn rfl);rw [exec_Assign_Name_used _ _ _ _ NM];refine Q2 (wpAny_standAt (Q2 ?_));show Rw _ X.A (do let _ ← comprehension (.ListComp elt [⟨tg,iter,ifs,0⟩] sc pos) sc X.env _ (newList []) false (Tz iter X.env) (some (assign (.Name y py) X.env))) _ _ s;refine Q2 (Ta (wpAny_comprehension_free (use:=some (assign (.Name y py) X.env)) (Q:=fun _ s'=>SP X pins D .next s') rfl hs e1 S.kind S.names (thn (hi pins s σ H _ I h) fun v s1 h1=>thn h1 fun HZ s2 h2=>?_)) (fun _ s' hq=>Rl (Rl hq)) fun _ _ z=>z);obtain ⟨it,fp,tn,J,H2,rfl,I2,T,EA,f2,R2⟩:=h2;obtain ⟨n,W,w0,turn⟩:=R2 s2.heap.objs.size I2.fresh;refine lZ (R:=fun acc C=>compPost (RO X.prog X.w) X.A X.xe (some (assign (.Name y py) X.env)) (fun _ s'=>SP X pins D .next s') acc C) hc S I2 T EA f2 e2 e3 hg gk ht he w0 turn fun C H' s' LQ hC hn NN inv fi=>?_;obtain ⟨m,hm⟩:=hn
 have I5:Inv X pins σ H' s':=by
  have q:=inv s'.heap s'.toks (.refl ..);exact q
 refine wpAny_assign_Name (oA (v:=.ref s2.heap.objs.size) I5 hN hy Gh rfl (fun s6 I6 ⟨a,sb,ha⟩=>?_) hf)
 have NO:C≠a:=by
  rcases ha with ha | ha
  · rw [ha];exact LQ
  · intro z;obtain ⟨v,q⟩:=I2.cell y a ha;exact absurd (WK q.lt hC) (by rw [z];exact SK _)
 refine ⟨m,hm.sameBut sb NO,fun h' NP=>⟨_,H',I6.turned (it:=C) (t':=s6.toks) (fun b o hb e=>NP.extBut b o hb e) NN LQ (.inr (Sw I2.sz (Tc hC))) (fun x c e z=>?_) fun p hp z=>?_,fi⟩⟩
 · obtain ⟨v,q⟩:=I2.cell x c e;exact absurd (WK q.lt hC) (by rw [z];exact SK _)
 · exact absurd (WK (Rv (I2.pin p hp).1) hC) (by rw [z];exact SK _)
end
end L2
namespace L2
open PySem PySem.Spec PyProof.Rows
def nj {α:Type} (xs:List α) (lo hi:Option Int):List α:=(xs.drop (HT.sIx xs.length 0 lo)).take (HT.sIx xs.length xs.length hi - HT.sIx xs.length 0 lo)
def fN (z:Ru) (lo hi:Option Int):Ru:=⟨(nj z.cps.toList lo hi).toArray⟩
theorem vY {α:Type} (xs:List α) (a n:Nat):((Sn n).map fun (k:Nat)=>a+k).filterMap (xs[·]?)=(xs.drop a).take n:=by
 induction n with
 | zero=>simp
 | succ n ih =>
   rw [List.range_succ,Rj,List.filterMap_append,ih,SS];congr 1;rw [List.getElem?_drop];cases h:xs[a+n]? <;> simp [h]
theorem vc (n d:Nat) (i:Int):max 0 (min (if i<0 then i+(n:Int) else i) (n:Int))=((HT.sIx n d (some i):Nat):Int):=by
 show max 0 (min (if i<0 then i+(n:Int) else i) (n:Int))=(((if i<0 then (i+(n:Int)).toNat else min i.toNat n):Nat):Int);by_cases h:i<0
 · rw [if_pos h,if_pos h];omega
 · rw [if_neg h,if_neg h];omega
theorem vI (A B:Int) (a b:Nat) (hA:A=(a:Int)) (hB:B=(b:Int)):sliceRange A B 1=(Sn (b - a)).map fun (k:Nat)=>a+k:=by
 subst hA;subst hB;unfold sliceRange;simp only [show (1:Int) > 0 by decide,if_true]
 have c:(if (a:Int)<(b:Int) then ((b:Int) - a+1 - 1) / 1 else 0).toNat=b - a:=by
  split
  · rw [VV];omega
  · omega
 rw [c];refine TQ fun k _=>?_;omega
theorem um (lo hi:Option Int) (n:Nat):VG lo hi 1 n=(Sn (HT.sIx n n hi - HT.sIx n 0 lo)).map fun (k:Nat)=>HT.sIx n 0 lo+k:=by
 unfold VG;simp only [show (1:Int) > 0 by decide,if_true];cases lo <;> cases hi <;> refine vI _ _ _ _ ?_ ?_ <;> first | rfl | exact vc _ _ _
theorem eB (z:Ru) (lo hi:Option Int):(fN z lo hi).length<=z.length:=by
 show (nj z.cps.toList lo hi).toArray.size<=z.cps.size;unfold nj;rw [Rc,RP,Sf,RD];omega
theorem nA (x:Ru) (t:Tok) (l u:Option (Int×Tok)) {Q:Q6->Q9->Prop} {s:Q9} (hz:x.length<=Ry) (h:∀ t' k,Q (.str (fN x (l.map (·.1)) (u.map (·.1))) t') { s with toks:=k }):(sliceMade x t l u none).post Q s:=by
 have e:(WE x l u none).filterMap (x.cps[·]?)=nj x.cps.toList (l.map (·.1)) (u.map (·.1)):=by
  unfold WE nj;show (VG (l.map (·.1)) (u.map (·.1)) 1 x.length).filterMap (x.cps[·]?)=_;rw [um,show (x.cps[·]?)=(x.cps.toList[·]?) from funext fun i=>(S9 ..).symm,vY,RD];rfl
 unfold sliceMade;split
 · rename_i hc
   have hl:(WE x l u none).length=x.length:=by
    have:=(TY _ _ ▸ hc).2;simpa using this
   have hw:fN x (l.map (·.1)) (u.map (·.1))=x:=by
    have e2:(nj x.cps.toList (l.map (·.1)) (u.map (·.1)))=x.cps.toList:=by
     have hp:WE x l u none=(Sn (HT.sIx x.length x.length (u.map (·.1)) - HT.sIx x.length 0 (l.map (·.1)))).map fun (k:Nat)=>HT.sIx x.length 0 (l.map (·.1))+k:=um _ _ _;rw [hp,Q0,TJ] at hl;have b1:=HT.sIx_le x.length x.length (Q8 _) (u.map (·.1));have hx:x.cps.toList.length=x.length:=RD;unfold nj;rw [hx,hl];have NQ:HT.sIx x.length 0 (l.map (·.1))=0∨x.length=0:=by omega
     rcases NQ with h0 | h0
     · rw [h0,Su,R0 (by rw [hx];exact Q8 _)]
     · have:x.cps.toList=[]:=R7.mp (by rw [hx];exact h0);rw [this];simp
    unfold fN;rw [e2]
   have:=h t s.toks;rw [hw] at this;exact this
 · show (⟨((WE x l u none).filterMap (x.cps[·]?)).toArray⟩:Ru).length<=Ry/\Q _ _;rw [e];exact ⟨Sw (eB x _ _) hz,h s.toks (s.toks+1)⟩
section
variable {X:Cx}
inductive yB (x:V) (lo:Option Int) (hi:Option Int) (H:Hp) (Q:VK):Prop
 | mk (z:_) (Aj:x=.str z) (Ak:z.length<=Ry) (An:Q (.str (fN z lo hi)) H):yB  x lo hi H Q
def aaJ:V->Option Int->Option Int->Hp->VK->Prop:=yB
theorem part_of {v:Q6} {o:Option Int} (h:Wr v o):∃ l:Option (Int×Tok),v=partValue l/\l.map (·.1)=o:=by
 cases h with
 | none=>exact ⟨none,rfl,rfl⟩
 | int i t=>exact ⟨some (i,t),rfl,rfl⟩
theorem sX:SlR X aaJ:=by
 intro pins s σ H x v vl vu lo hi sl Q I rx hs pl pu h;obtain ⟨z,rfl,hz,q⟩:=h;obtain ⟨t,rfl⟩:=rx;obtain ⟨l,rfl,rfl⟩:=part_of pl;obtain ⟨u,rfl,rfl⟩:=part_of pu;refine ⟨"str",_,F.slot_str_getitem.lookup,UC s z t,wpAny_getItem_str_slice (l:=l) (u:=u) (st:=none) ?_ rfl (nA z t l u hz fun t' k=>?_)⟩
 · obtain ⟨o,ho,hc,hd⟩:=hs;exact ⟨o,ho,hc,hd⟩
 · exact ⟨.str (fN z (l.map (·.1)) (u.map (·.1))),H,I.tok k,⟨_,rfl⟩,q⟩
def yH:V->List V->Hp->VK->Prop:=fun x vs H Q=>∃ z y i r,x=.str z/\vs=[.str y]/\Wf z y 0 z.length 1=i::r/\Q (.int (i:Nat)) H
theorem wU:MtR X "str.index" yH:=by
 intro pins s σ H x vs v us Q I rx rv h;obtain ⟨z,y,i,r,rfl,rfl,ho,q⟩:=h;obtain ⟨t,rfl⟩:=rx;obtain ⟨u,rfl,u',rfl⟩:=rv.one;exact SC.index ho ⟨.int (i:Nat),H,I.tok _,⟨_,rfl⟩,q⟩
theorem t6 {ys:List Ru}:∀ {us:List Q6},Vals (ys.map V.str) us->StrsAre us ys:=by
 induction ys with
 | nil=>intro us r;cases r;exact .nil
 | cons y ys ih =>
   intro us r;cases r with
   | cons a b =>
     obtain ⟨t,rfl⟩:=a;exact .cons y t (ih b)
def rJoin (K:Q4):V->List V->Hp->VK->Prop:=fun x vs H Q=>∃ z p ys,x=.str z/\vs=[.ref p]/\SqL K H p (ys.map V.str)/\(ys.map (·.length)).sum+ys.length * z.length<=16777216/\Q (.str (R8 z ys)) H
theorem eC:MtR X "str.join" (rJoin X.K):=by
 intro pins s σ H x vs v us Q I rx rv h;obtain ⟨z,p,ys,rfl,rfl,hl,hz,q⟩:=h;obtain ⟨t,rfl⟩:=rx;obtain ⟨u,rfl,u'⟩:=rv.one;cases u';obtain ⟨its,r,pl,_⟩:=I.list hl;exact join_list pl.isList (t6 r) hz fun t' k=>⟨.str (R8 z ys),H,I.tok k,⟨_,rfl⟩,q⟩
def tF (acc:Ru):List TE->TE
 | []=>fun _ H Q=>acc.length<=Ry/\Q (.str acc) H
 | t::r=>fun σ H Q=>t σ H fun x H1=>∃ y,x=.str y/\(acc++y).length<=Ry/\tF (acc++y) r σ H1 Q
def zX (t:TE):TE:=fun σ H Q=>t σ H fun x H1=>∃ y,x=.str y/\y.length<=Ry/\Q (.str y) H1
theorem jQ {e:Sm} {te:TE} {pos:Vo} (he:PE X e te):PE X (.FormattedValue e (-1) none pos) (zX te):=by
 intro pins s σ H Q I h;refine VJ (thn (he pins s σ H _ I h) fun v s1 ⟨x,H1,I1,rx,y,e,hz,q⟩=>?_);subst e;obtain ⟨t,rfl⟩:=rx;exact wpAny_formatField_str ⟨.str y,H1,I1,⟨_,rfl⟩,q⟩ ⟨.str y,H1,I1.tok _,⟨_,rfl⟩,q⟩ hz
inductive PFs (X:Cx):List Sm->List TE->Prop
 | nil:PFs X [] []
 | cons {e es t ts}:PE X e t->PFs X es ts->PFs X (e::es) (t::ts)
theorem qW {pins:List (Q7×T1)} {σ:St} {Q:VK}:∀ {es:List Sm} {ts:List TE},PFs X es ts->∀ (acc:Ru) (s:Q9) (H:Hp),Inv X pins σ H s->tF acc ts σ H Q →
 Joins (RO X.prog X.w) X.A X.xe (evalEach es X.env) acc (fun out f'=>out.length<=Ry/\EP X pins σ Q (.str out f'.toks) { f' with toks:=f'.toks+1 }) s
 | _,_,.nil,acc,s,H,I,h=>⟨h.1,⟨.str acc,H,I.tok _,⟨_,rfl⟩,h.2⟩⟩
 | _,_,.cons he hr,acc,s,H,I,h=>by
   show Rw _ _ (Tz _ _) _ _ _;refine thn (he pins s σ H _ I h) fun v s1 ⟨x,H1,I1,rx,y,e,hz,q⟩=>?_;subst e;obtain ⟨t,rfl⟩:=rx;exact ⟨y,t,rfl,hz,qW hr _ s1 H1 I1 q⟩
theorem lr {e1 e2:Sm} {es:List Sm} {ts:List TE} {pos:Vo} (h:PFs X (e1::e2::es) ts):PE X (.JoinedStr (e1::e2::es) pos) (tF U1 ts):=by
 intro pins s σ H Q I q;exact wpAny_JoinedStr (qW h _ s H I q)
theorem wM {T:String} {b:Bool} {t:Q6}:eH X (.builtin "isinstance") (fun xs H Q=>∃ x,xs=[x,.ty T]/\jx X.K H x t/\TF X.K t (.type T)=some b/\Q (.bl b) H):=by
 intro pins s σ H xs us Q I r h;obtain ⟨x,rfl,ty,k,q⟩:=h;obtain ⟨u,w',rfl,r1,r2⟩:=vals2 r;cases r2;exact ve I r1 ty k fun tk=>⟨.bl b,H,I.tok tk,rfl,q⟩
end
end L2
namespace PySem
namespace F
theorem bb_nolen_lri:Wk (.type "list_reverseiterator") "__len__"=pure none:=by rw [typeLookup_type,Wx];kernel_rfl
theorem bb_hint_lri:Wk (.type "list_reverseiterator") "__length_hint__"=pure (some (.builtin "list_reverseiterator.__length_hint__")):=by rw [typeLookup_type,Wx];kernel_rfl
end F
end PySem
namespace PySem
open Sem (wp)
section
variable {prog:RL} {w:R1} {A:R6} {E:Q6->Q9->Prop} {s:Q9}
end
end PySem
namespace L2
open PySem PySem.Spec PyProof.Rows
theorem wb {ys:List V} {its:List Q6} {acc:Array Q6} (rv:Vals ys its) (Cf:ItemsOf (fun i v=>its.toArray[its.toArray.size - 1 - i]?=some v) acc its.toArray.size):Vals ys.reverse acc.toList:=by
 have e:acc.toList=its.reverse:=by
  apply WN;intro i;have hs:acc.size=its.length:=by rw [Cf.1,Rc]
  by_cases hi:i<acc.size
  · have h1:acc[i]?=some acc[i]:=Array.getElem?_eq_getElem hi;have h2:=Cf.2 i _ h1;rw [Rc] at h2;rw [S9,h1,List.getElem?_reverse (by omega),<- h2];simp
  · rw [S9,Array.getElem?_eq_none (by omega),UA (by rw [Si];omega)]
 rw [e];exact rv.reverse
section
variable {X:Cx} {e:Sm} {te:TE} {p p2 pos AK:Vo}
def Itv (K:Q4) (a:Q7) (n:Nat):It:=⟨fun i H=>i<n/\∃ xs,SqL K H a xs/\xs.length=n,fun i H x H'=>H'=H/\∀ xs,SqL K H a xs->xs[n - 1 - i]?=some x,fun i _=>i=n⟩
theorem vW {P:RL} {w:R1} {K:Q4} {tg:Sm} (a it:Q7) (n:Nat):Turn P w K tg (Itv K a n) [it] it (fun i h=>h.IsRevIter it a ((n:Int) - 1 - (i:Nat))) where
 mem:=by simp
 obj:=fun i h st b hb=>by
  have e:b=it:=by simpa using hb
  subst e;obtain ⟨o,e,c,d⟩:=st;exact ⟨o,e,fun v z=>by rw [d] at z;cases z⟩
 keep:=fun i h h' st k=>st.at fun o e=>k it (by simp) o e
 item:=by
  intro X hP hw hK hc i pins s σ H E I hf st hg;subst hP hw hK;obtain ⟨hi,xs,hq,hx⟩:=hg;obtain ⟨its,rv,p,hz⟩:=I.list hq;have hl:=rv.length;obtain ⟨x,BG⟩:∃ x,xs[n - 1 - i]?=some x:=⟨_,Q1 (by omega)⟩;obtain ⟨u,hu,ru⟩:=rv.get BG;obtain ⟨f0,f1,f2,f3,f4,f5⟩:=hf it (by simp);have e1:(n:Int) - 1 - (i:Nat)=((n - 1 - i:Nat):Int):=by omega
  rw [e1] at st;refine wpAny_pyNext_rev_item st p.isList (x:=u) (by simpa using hu) fun h' Bg sb=>?_;have I1:Inv X pins σ H { s with heap:=h' }:=I.turned (t':=s.toks) (fun b o hb e=>(sb.2 b hb).trans e) f0 f1 f3 f4 f5;have e2:((n - 1 - i:Nat):Int) - 1=(n:Int) - 1 - ((i+1:Nat):Int):=by omega
  rw [e2] at Bg;obtain ⟨o,e,c,d⟩:=id Bg;exact ⟨u,rfl,lS (s:={ s with heap:=h' }) e c d (by decide) ⟨x,H,I1,ru,⟨rfl,fun ys hy=>by rw [I.list_inj hy hq];exact BG⟩,Bg,fun b hb=>(hf b hb).1⟩⟩
 done:=by
  intro X hP hw hK hc i pins s σ H E I hf st hg;subst hP hw hK;have NR:i=n:=hg;subst NR;obtain ⟨f0,f1,f2,f3,f4,f5⟩:=hf it (by simp);rw [show (i:Int) - 1 - (i:Nat)=-1 by omega] at st;exact wpAny_pyNext_rev_end (I.ok.hd hc) st fun h' eb=>⟨rfl,I.turned (t':=s.toks) (fun b o hb e=>eb b o hb e) f0 f1 f3 f4 f5⟩
 self:=fun _ _ _ _ _ st h=>wpAny_pyIter_revIter st h
def aaK (K:Q4) (tl:TE):TI:=fun σ H R=>tl σ H fun x H1=>∃ a xs,x=.ref a/\SqL K H1 a xs/\R (Itv K a xs.length) H1
theorem sI {tg:Sm} (g2:Gl X "reversed") (m2:X.mg "reversed"=none) (he:PE X e te) (h2:Se [e] X.env=[(false,Tz e X.env)]:=by rfl):PI X tg (.Call (.Name "reversed" p2) [e] [] AK) (aaK X.K te):=by
 intro pins s σ H R I h;refine Ti (fT I g2 m2 boot_reversed (SR ?_ h2 rfl));rw [h2];show Rw _ _ (VX ((false,Tz e X.env)::[])) _ _ s;refine S3 (thn (he pins s σ H _ I h) fun u s1 ⟨x,H1,I1,r1,a,ys,ex,hq,q⟩=>TU ?_);subst ex;cases r1;obtain ⟨its,rv,p,hz⟩:=I1.list hq;have hl:=rv.length;refine call_reversed_list p.isList ?_
 have hit:(s1.heap.push (revObj a ((its.toArray.size:Int) - 1))).IsRevIter s1.heap.objs.size a ((ys.length:Int) - 1 - ((0:Nat):Int)):=by
  rw [hl,show (its.length:Int) - 1 - ((0:Nat):Int)=(its.toArray.size:Int) - 1 by rw [Rc];omega];exact ⟨_,Rf _ rfl,rfl,rfl⟩
 refine wpAny_pyIter_revIter (s:={ s1 with heap:=s1.heap.push (revObj a ((its.toArray.size:Int) - 1)) }) hit ?_;refine ⟨s1.heap.objs.size,[s1.heap.objs.size],_,_,H1,rfl,I1.kept (t':=s1.toks) fun b o e=>Q5 _ e,vW a _ ys.length,hit,fun b hb=>?_,q⟩;have e:b=s1.heap.objs.size:=by simpa using hb
 subst e;exact I1.fpOk (Q8 _) (I1.hok.fresh (Q8 _))
theorem qf {K:Q4} {a:Q7} {xs:List V} {g:TG} {tb:TS} {D:Ends} {σ:St} {H:Hp} (Pv:Nat->St->Hp->Prop) (h0:Pv 0 σ H) (hl:∀ i σ H,i<=xs.length->Pv i σ H->SqL K H a xs)
 (hs:∀ i x σ H,i<xs.length->xs[xs.length - 1 - i]?=some x->Pv i σ H->g x σ H fun Ay H2=>tb { D with nx:=Pv (i+1),ct:=Pv (i+1),bk:=D.nx } Ay H2) (hd:∀ σ H,Pv xs.length σ H->D.nx σ H) :
 ∃ W:Nat->Nat->St->Hp->Prop,(∃ m,W 0 m σ H)/\∀ i m σ H,W i m σ H →
   ((Itv K a xs.length).stop i H/\D.nx σ H)∨((Itv K a xs.length).go i H/\∃ N:St->Hp->Prop,(∀ Ab H',N Ab H'->∃ m',m'<m/\W (i+1) m' Ab H')/\∀ x H',(Itv K a xs.length).yld i H x H'->g x σ H' fun Ay H2=>tb { D with nx:=N,ct:=N,bk:=D.nx } Ay H2):=by
 refine ⟨fun i m σ H=>i<=xs.length/\m=xs.length - i/\Pv i σ H,⟨xs.length,RJ _,rfl,h0⟩,?_⟩;rintro i m σ H ⟨hi,rfl,p⟩;by_cases h:i=xs.length
 · left;exact ⟨h,hd σ H (by rw [<- h];exact p)⟩
 · right;have Bb:i<xs.length:=by omega
   refine ⟨⟨Bb,xs,hl i σ H hi p,rfl⟩,Pv (i+1),fun Ab H' q=>⟨xs.length - (i+1),by omega,by omega,rfl,q⟩,?_⟩;rintro x H' ⟨rfl,hx⟩;exact hs i x σ H' Bb (hx xs (hl i σ H' hi p)) p
end
end L2
namespace BB
open PySem L2
inductive Th where
 | knot (n:Ru) (ks:List Th)
 | call (s k:Int)
def q:Ru:=QZ "?"
def Th.kids:Th->List Th
 | .knot _ ks=>ks
 | .call _ _=>[]
mutual
def Th.size:Th->Nat
 | .knot _ ks=>ay ks+1
 | .call _ _=>1
def ay:List Th->Nat
 | []=>0
 | t::ts=>t.size+ay ts
end
mutual
def Th.tall:Th->Nat
 | .knot _ ks=>bd ks+1
 | .call _ _=>1
def bd:List Th->Nat
 | []=>0
 | t::ts=>max t.tall (bd ts)
end
mutual
/-- by places Fw -/
def Th.walk:Th->List Th
 | .knot n ks=>.knot n ks::walks ks
 | .call s k=>[.call s k]
def walks:List Th->List Th
 | []=>[]
 | t::ts=>t.walk++walks ts
end
theorem Th.walk_eq (t:Th):t.walk=t::walks t.kids:=by
 cases t with
 | knot n ks=>rw [Th.walk];rfl
 | call s k=>rw [Th.walk];simp [Th.kids,walks]
theorem Th.size_eq (t:Th):t.size=ay t.kids+1:=by
 cases t with
 | knot n ks=>rw [Th.size];rfl
 | call s k=>rw [Th.size];simp [Th.kids,ay]
theorem Th.tall_eq (t:Th):t.tall=bd t.kids+1:=by
 cases t with
 | knot n ks=>rw [Th.tall];rfl
 | call s k=>rw [Th.tall];simp [Th.kids,bd]
theorem dI:∀ a b:List Th,walks (a++b)=walks a++walks b
 | [],b=>by simp [walks]
 | t::a,b=>by rw [Rz,walks,walks,dI a b,RF]
theorem bC:∀ a b:List Th,ay (a++b)=ay a+ay b
 | [],b=>by simp [ay]
 | t::a,b=>by rw [Rz,ay,ay,bC a b,Nat.add_assoc]
mutual
theorem Th.walk_len:∀ t:Th,t.walk.length=t.size
 | .knot n ks=>by rw [Th.walk,Th.size,Q3,jM ks]
 | .call s k=>by rw [Th.walk,Th.size];rfl
theorem jM:∀ ts:List Th,(walks ts).length=ay ts
 | []=>rfl
 | t::ts=>by rw [walks,ay,Ra,t.walk_len,jM ts]
end
theorem Th.size_pos (t:Th):1<=t.size:=by rw [t.size_eq];omega
theorem kK:∀ (n:Nat) (ts:List Th),ay ts<=n->∀ (P:List Th) (x:Th) (S:List Th),walks ts=P++x::S->∃ S',S=walks x.kids++S'
 | 0,[],_,P,x,S,h=>by simp [walks] at h
 | 0,t::ts,hn,P,x,S,h=>by
   have:=t.size_pos;rw [ay] at hn;omega
 | n+1,[],_,P,x,S,h=>by simp [walks] at h
 | n+1,t::ts,hn,P,x,S,h=>by
   have hs:=t.size_eq;rw [ay] at hn;have e:walks (t::ts)=t::walks (t.kids++ts):=by rw [walks,t.walk_eq,dI];rfl
   rw [e] at h;cases P with
   | nil =>
     rw [RN] at h;injection h with h1 h2;subst h1;exact ⟨walks ts,by rw [<- h2,dI]⟩
   | cons p P =>
     rw [Rz] at h;injection h with h1 h2;exact kK n (t.kids++ts) (by rw [bC];omega) P x S h2
mutual
def At (H:Hp):Th->Q7->Prop
 | .knot n ks,a=>n≠q/\∃ as:List Q7,H a=some (.tup (.str n::as.map V.ref))/\Ats H ks as
 | .call s k,a=>H a=some (.tup [.str q,.int s,.int k])
def Ats (H:Hp):List Th->List Q7->Prop
 | [],as=>as=[]
 | t::ts,as=>∃ a r,as=a::r/\At H t a/\Ats H ts r
end
def KT (H H':Hp):Prop:=∀ b xs,H b=some (.tup xs)->H' b=some (.tup xs)
theorem KT.trans {H H1 H2:Hp} (a:KT H H1) (b:KT H1 H2):KT H H2:=fun c o h=>b c o (a c o h)
theorem Same.kt {H H':Hp} (h:L2.Same H H'):KT H H':=fun b xs e=>h b _ e
theorem dE {H:Hp} {l:Q7} {o:HO} (h:H l=none):KT H (upd H l o):=fun b xs e=>by rw [al (aB e h)];exact e
theorem aW {H:Hp} {l:Q7} {o:HO} {xs:List V} (h:H l=some (.lst xs)):KT H (upd H l o):=fun b ys e=>by rw [al (f8 e h (by intro z;cases z))];exact e
mutual
theorem At.mono {H H':Hp} (k:KT H H'):∀ {t:Th} {a:Q7},At H t a->At H' t a
 | .knot n ks,a,h=>by
   rw [At] at h ⊢;obtain ⟨h0,as,h1,h2⟩:=h;exact ⟨h0,as,k _ _ h1,Ats.mono k h2⟩
 | .call s c,a,h=>by
   rw [At] at h ⊢;exact k _ _ h
theorem Ats.mono {H H':Hp} (k:KT H H'):∀ {ts:List Th} {as:List Q7},Ats H ts as->Ats H' ts as
 | [],as,h=>by rw [Ats] at h ⊢;exact h
 | t::ts,as,h=>by
   rw [Ats] at h ⊢;obtain ⟨a,r,e,h1,h2⟩:=h;exact ⟨a,r,e,At.mono k h1,Ats.mono k h2⟩
end
theorem Ats.nil {H:Hp}:Ats H [] []:=by rw [Ats]
theorem Ats.cons {H:Hp} {t:Th} {ts:List Th} {a:Q7} {as:List Q7} (h1:At H t a) (h2:Ats H ts as):Ats H (t::ts) (a::as):=by rw [Ats];exact ⟨a,as,rfl,h1,h2⟩
theorem Ats.append {H:Hp}:∀ {ts us:List Th} {as bs:List Q7},Ats H ts as->Ats H us bs->Ats H (ts++us) (as++bs)
 | [],us,as,bs,h,g=>by rw [Ats] at h;subst h;exact g
 | t::ts,us,as,bs,h,g=>by
   rw [Ats] at h;obtain ⟨a,r,rfl,h1,h2⟩:=h;exact .cons h1 (h2.append g)
theorem Ats.length {H:Hp}:∀ {ts:List Th} {as:List Q7},Ats H ts as->as.length=ts.length
 | [],as,h=>by rw [Ats] at h;subst h;rfl
 | t::ts,as,h=>by
   rw [Ats] at h;obtain ⟨a,r,rfl,h1,h2⟩:=h;rw [Q3,Q3,h2.length]
theorem Ats.reverse {H:Hp}:∀ {ts:List Th} {as:List Q7},Ats H ts as->Ats H ts.reverse as.reverse
 | [],as,h=>by rw [Ats] at h;subst h;exact .nil
 | t::ts,as,h=>by
   rw [Ats] at h;obtain ⟨a,r,rfl,h1,h2⟩:=h;rw [RY,RY];exact h2.reverse.append (.cons h1 .nil)
theorem Ats.get {H:Hp}:∀ {ts:List Th} {as:List Q7} {i:Nat} {a:Q7},Ats H ts as->as[i]?=some a->∃ t,ts[i]?=some t/\At H t a
 | [],as,i,a,h,e=>by rw [Ats] at h;subst h;simp at e
 | t::ts,as,i,a,h,e=>by
   rw [Ats] at h;obtain ⟨b,r,rfl,h1,h2⟩:=h;cases i with
   | zero=>simp at e;subst e;exact ⟨t,rfl,h1⟩
   | succ i=>exact h2.get (i:=i) (by simpa using e)
theorem Ats.snoc_inv {H:Hp} {ts:List Th} {as:List Q7} {a:Q7} (h:Ats H ts (as++[a])):∃ us t,ts=us++[t]/\Ats H us as/\At H t a:=by
 have r:=h.reverse;rw [Uo,List.reverse_singleton,List.singleton_append] at r;cases e:ts.reverse with
 | nil=>rw [e,Ats] at r;cases r
 | cons t us =>
   rw [e,Ats] at r;obtain ⟨b,z,e1,h1,h2⟩:=r;cases e1;refine ⟨us.reverse,t,?_,?_,h1⟩
   · rw [<- RY,<- e,Ue]
   · have:=h2.reverse;rw [Ue] at this;exact this
theorem At.tup {H:Hp} {t:Th} {a:Q7} (h:At H t a):∃ n r,H a=some (.tup (.str n::r)):=by
 cases t with
 | knot n ks=>rw [At] at h;obtain ⟨_,as,h1,_⟩:=h;exact ⟨n,_,h1⟩
 | call s k=>rw [At] at h;exact ⟨q,_,h⟩
end BB
namespace BB
open PySem L2
def comma:Ru:=QZ ","
def lpar:Ru:=QZ "("
def rpar:Ru:=QZ ")"
def fY (n:Ru) (ts:List Ru):Ru:=if ts.isEmpty=true then n else n++lpar++R8 comma ts++rpar
mutual
def Th.show:Th->Ru
 | .knot n ks=>fY n (bh ks)
 | .call _ _=>q
def bh:List Th->List Ru
 | []=>[]
 | t::ts=>t.show::bh ts
end
def Th.nm:Th->Ru
 | .knot n _=>n
 | .call _ _=>q
theorem Th.show_eq (t:Th):t.show=fY t.nm (bh t.kids):=by
 cases t with
 | knot n ks=>rw [Th.show];rfl
 | call s k=>rw [Th.show];simp [Th.kids,Th.nm,bh,fY]
theorem gX:∀ ts:List Th,(bh ts).length=ts.length
 | []=>rfl
 | t::ts=>by rw [bh,Q3,Q3,gX ts]
theorem At.tupn {H:Hp} {t:Th} {a:Q7} (h:At H t a):∃ r,H a=some (.tup (.str t.nm::r)):=by
 cases t with
 | knot n ks=>rw [At] at h;obtain ⟨_,as,h1,_⟩:=h;exact ⟨_,h1⟩
 | call s k=>rw [At] at h;exact ⟨_,h⟩
def cS:List Th->List Ru
 | []=>[]
 | x::S=>fY x.nm ((cS S).take x.kids.length)::(cS S).drop x.kids.length
theorem fO:∀ (n:Nat) (ts:List Th),ay ts<=n->∀ S,cS (walks ts++S)=bh ts++cS S
 | _,[],_,S=>by simp [walks,bh]
 | 0,t::ts,hn,S=>by
   have:=t.size_pos;rw [ay] at hn;omega
 | n+1,t::ts,hn,S=>by
   have hs:=t.size_eq;rw [ay] at hn;have e:walks (t::ts)++S=t::(walks t.kids++(walks ts++S)):=by rw [walks,t.walk_eq];simp
   have h1:=fO n t.kids (by omega) (walks ts++S);have h2:=fO n ts (by omega) S;rw [e,cS,h1,h2,<- gX t.kids,List.take_left,List.drop_left,<- t.show_eq,bh];rfl
theorem tE {ts P S:List Th} {x:Th} (h:walks ts=P++x::S):∃ S',cS S=bh x.kids++cS S':=by
 obtain ⟨S',e⟩:=kK _ ts (Q8 _) P x S h;exact ⟨S',by rw [e];exact fO _ _ (Q8 _) _⟩
theorem uy (t:Th):cS t.walk=[t.show]:=by
 have:=fO _ [t] (Q8 _) [];simpa [walks,bh,cS] using this
mutual
def Th.Nm (L:Nat):Th->Prop
 | .knot n ks=>n.length<=L/\Nms L ks
 | .call _ _=>True
def Nms (L:Nat):List Th->Prop
 | []=>True
 | t::ts=>t.Nm L/\Nms L ts
end
theorem yv:q.length=1:=by decide +kernel
theorem pP:comma.length=1/\lpar.length=1/\rpar.length=1:=by decide +kernel
theorem join_le (ts:List Ru):(R8 comma ts).length<=(ts.map (·.length)).sum+ts.length:=by
 have e:R8 comma ts=UH comma ts:=by simpa using PyProof.Rows.join_plain_closes comma ts
 have:=Wm comma ts;rw [pP.1] at this;rw [e];omega
mutual
theorem Th.show_le {L:Nat}:∀ t:Th,t.Nm L->t.show.length+1<=(L+3) * t.size
 | .knot n ks,h=>by
   rw [Th.Nm] at h;have hk:=jw ks h.2;have hn:=h.1;rw [Th.show,Th.size,fY];have e1:(L+3) * (ay ks+1)=(L+3) * ay ks+(L+3):=VU _ _;rw [e1];split
   · omega
   · have hj:=join_le (bh ks);have a1:=pP.2.1;have a2:=pP.2.2;rw [Rh,Rh,Rh];omega
 | .call s k,h=>by
   rw [Th.show,Th.size,yv];omega
theorem jw {L:Nat}:∀ ts:List Th,Nms L ts->((bh ts).map (·.length)).sum+(bh ts).length<=(L+3) * ay ts
 | [],_=>by simp [bh]
 | t::ts,h=>by
   rw [Nms] at h;have h1:=Th.show_le t h.1;have h2:=jw ts h.2;rw [bh,ay,Rr,Ve,Q3,Nat.mul_add];omega
end
theorem Th.Nm.kids {L:Nat} {t:Th} (h:t.Nm L):Nms L t.kids:=by
 cases t with
 | knot n ks=>rw [Th.Nm] at h;exact h.2
 | call s k=>rw [Th.kids,Nms];trivial
theorem Th.Nm.nm {L:Nat} {t:Th} (h:t.Nm L) (hL:1<=L):t.nm.length<=L:=by
 cases t with
 | knot n ks=>rw [Th.Nm] at h;exact h.1
 | call s k=>rw [Th.nm,yv];exact hL
theorem Nms.append {L:Nat}:∀ {a b:List Th},Nms L a->Nms L b->Nms L (a++b)
 | [],b,_,h=>h
 | t::a,b,h,g=>by
   rw [Nms] at h;rw [Rz,Nms];exact ⟨h.1,Nms.append h.2 g⟩
theorem mZ {L:Nat}:∀ (n:Nat) (ts:List Th),ay ts<=n->Nms L ts->Nms L (walks ts)
 | _,[],_,h=>by rw [walks];exact h
 | 0,t::ts,hn,h=>by
   have:=t.size_pos;rw [ay] at hn;omega
 | n+1,t::ts,hn,h=>by
   have hs:=t.size_eq;rw [ay] at hn;rw [Nms] at h;rw [walks,t.walk_eq,Rz,Nms];exact ⟨h.1,(mZ n t.kids (by omega) h.1.kids).append (mZ n ts (by omega) h.2)⟩
theorem Nms.get {L:Nat}:∀ {ts:List Th} {i:Nat} {t:Th},Nms L ts->ts[i]?=some t->t.Nm L
 | [],i,t,_,e=>by simp at e
 | x::ts,0,t,h,e=>by simp at e;subst e;rw [Nms] at h;exact h.1
 | x::ts,i+1,t,h,e=>by rw [Nms] at h;exact h.2.get (i:=i) (by simpa using e)
theorem iU:∀ (n:Nat) (ts:List Th),ay ts<=n->∀ x∈walks ts,x.size<=ay ts
 | _,[],_,x,h=>by simp [walks] at h
 | 0,t::ts,hn,x,h=>by
   have:=t.size_pos;rw [ay] at hn;omega
 | n+1,t::ts,hn,x,h=>by
   have hs:=t.size_eq;rw [ay] at hn;rw [ay];rw [walks,t.walk_eq,Rz,Rq,RE] at h;rcases h with rfl | h | h
   · omega
   · have:=iU n t.kids (by omega) x h;omega
   · have:=iU n ts (by omega) x h;omega
theorem empty_app (x:Ru):U1++x=x:=by
 show Str.append U1 x=x;unfold Str.append U1;simp
end BB
namespace BB
open PySem L2
def dH:Ru:=QZ "abcdefghijklmnopqrstuvwxyz"
theorem sY:dH.cps.toList=(Sn 26).map (97+·):=by decide +kernel
theorem kN:dH.length=26:=by decide +kernel
theorem at_nonneg {α:Type} {xs:List α} {i:Int} {v:α} (h0:0<=i) (h:xs[i.toNat]?=some v):atI xs i=some v:=by
 have e:i=((i.toNat:Nat):Int):=by omega
 rw [e];exact fC h
theorem nP {i:Int} (h0:0<=i) (h1:i<26):atI dH.cps.toList i=some (97+i.toNat):=by
 refine at_nonneg h0 ?_;rw [sY,Rg,UO (by omega)];rfl
theorem vd:∀ i<26,Wf dH ⟨#[97+i]⟩ 0 dH.length 1=[i]:=by decide +kernel
def f9 (r:Int) (k:Nat):List Nat:=(Sn k).map fun j=>97+((r / 26 ^ j)%26).toNat
def cG (r:Int) (k:Nat):Ru:=⟨(f9 r k).toArray⟩
theorem vg (r:Int) (k:Nat):(f9 r k).length=k:=by unfold f9;rw [Q0,TJ]
theorem cX (r:Int) (k:Nat):(cG r k).length=k:=by show (f9 r k).toArray.size=k;rw [Rc,vg]
theorem sR (r:Int) (k:Nat):f9 r (k+1)=f9 r k++[97+((r / 26 ^ k)%26).toNat]:=by unfold f9;rw [List.range_succ,Rj];rfl
theorem sS (r:Int) (k:Nat):cG r (k+1)=cG r k++⟨#[97+((r / 26 ^ k)%26).toNat]⟩:=by
 show (⟨(f9 r (k+1)).toArray⟩:Ru)=⟨(f9 r k).toArray++#[97+((r / 26 ^ k)%26).toNat]⟩;rw [sR];simp
def Low (x:Ru):Prop:=∀ c∈x.cps.toList,97<=c/\c<=122
theorem uZ (r:Int) (k:Nat):∀ c∈f9 r k,97<=c/\c<=122:=by
 intro c hc;obtain ⟨j,_,rfl⟩:=Sl.mp hc;have:=RS (r / 26 ^ j) (by decide:(26:Int)≠0);have:=RQ (r / 26 ^ j) (by decide:(0:Int)<26);omega
theorem pi {x:Ru} (h:Low x) (lo hi:Option Int):Low (fN x lo hi):=by
 intro c hc;have Bm:c∈nj x.cps.toList lo hi:=by simpa [fN] using hc
 exact h c (List.mem_of_mem_drop (Wa Bm))
theorem t3 {x y:Ru} (hx:Low x) (hy:Low y):Low (x++y):=by
 intro c hc;have Bm:c∈(x.cps++y.cps).toList:=hc;rw [Sj,RE] at Bm;rcases Bm with h | h
 · exact hx c h
 · exact hy c h
theorem xj {c:Nat} (h1:97<=c) (h2:c<=122):Low ⟨#[c]⟩:=by
 intro d hd;have:d=c:=by simpa using hd
 omega
theorem yu {x:Ru} (h:Low x):x≠q:=by
 intro e;subst e;have:=h 63 (by decide +kernel);omega
def eh (base:Int):Int:=1+base / 2%8
def nAt (base:Int):Int:=base / 16%7%eh base
def kW (base n:Int):Nat:=97+(((((base / 112) / 26 ^ (nAt base).toNat)%26).toNat+n)%26).toNat
def nameOf (base n:Int):Ru :=
 if base%2=1 then fN (cG (base / 112) 8) none (some (n+1))
 else fN (cG (base / 112) 8) none (some (nAt base))++⟨#[kW base n]⟩++fN (cG (base / 112) 8) (some (nAt base+1)) (some (eh base))
theorem jZ (base:Int):1<=eh base/\eh base<=8:=by
 have:=RS (base / 2) (by decide:(8:Int)≠0);have:=RQ (base / 2) (by decide:(0:Int)<8);unfold eh;omega
theorem wu (base:Int):0<=nAt base/\nAt base<eh base:=by
 have:=jZ base;unfold nAt;exact ⟨RS _ (by omega),RQ _ (by omega)⟩
theorem oB (base n:Int):97<=kW base n/\kW base n<=122:=by
 unfold kW;have h1:=RS (((((base / 112) / 26 ^ (nAt base).toNat)%26).toNat:Int)+n) (by decide:(26:Int)≠0);have h2:=RQ (((((base / 112) / 26 ^ (nAt base).toNat)%26).toNat:Int)+n) (by decide:(0:Int)<26);omega
theorem l9 (base:Int):Low (cG (base / 112) 8):=by
 intro c hc;exact uZ _ _ c (by simpa [cG] using hc)
theorem sj (base n:Int):Low (nameOf base n):=by
 unfold nameOf;split
 · exact pi (l9 base) _ _
 · exact t3 (t3 (pi (l9 base) _ _) (xj (oB base n).1 (oB base n).2)) (pi (l9 base) _ _)
theorem jG (z:Ru) (lo hi:Option Int):(fN z lo hi).length=min (HT.sIx z.length z.length hi - HT.sIx z.length 0 lo) (z.length - HT.sIx z.length 0 lo):=by
 show (nj z.cps.toList lo hi).toArray.size=_;unfold nj;rw [Rc,RP,Sf,RD];rfl
theorem tL (base n:Int):(nameOf base n).length<=8:=by
 unfold nameOf;split
 · have:=eB (cG (base / 112) 8) none (some (n+1));rw [cX] at this;exact this
 · have h1:=jZ base;have h2:=wu base;rw [Rh,Rh,jG,jG,cX]
   have e1:HT.sIx 8 8 (some (nAt base))=(nAt base).toNat:=by
    show (if nAt base<0 then _ else min (nAt base).toNat 8)=_;rw [if_neg (by omega)];omega
   have e2:HT.sIx 8 0 (some (nAt base+1))=(nAt base+1).toNat:=by
    show (if nAt base+1<0 then _ else min (nAt base+1).toNat 8)=_;rw [if_neg (by omega)];omega
   have e3:HT.sIx 8 8 (some (eh base))=(eh base).toNat:=by
    show (if eh base<0 then _ else min (eh base).toNat 8)=_;rw [if_neg (by omega)];omega
   have e4:HT.sIx 8 0 none=0:=rfl;have e5:(⟨#[kW base n]⟩:Ru).length=1:=rfl;rw [e1,e2,e3,e4,e5];omega
end BB
namespace L2
open PySem PySem.Spec PyProof.Rows
theorem Same.seqT {K:Q4} {H H':Hp} {a:Q7} {xs:List V} (e:Same H H') (h:SqT K H a xs):SqT K H' a xs:=by
 rcases h with (h | ⟨o,h⟩) | h
 · exact .inl (.inl (e _ _ h))
 · exact .inl (.inr ⟨o,e _ _ h⟩)
 · exact .inr h
theorem ai {H:Hp} {p:Q7} (h:H p=none) (o:HO):Same H (upd H p o):=fun b u q=>by rw [al (aB q h)];exact q
theorem aC {H H1:Hp} {l:Q7} {o:HO} (h:Same H H1) (n:H l=none):Same H (upd H1 l o):=fun b u e=>by rw [al (aB e n)];exact h b u e
theorem uc {α:Type} {js:List (Option Nat)} {tt:TT} {te:TE} {σ:St} {J:It} {H:Hp} {xs:List V} {fin:Q7->Hp->Prop} (zs:List α) (p:α->Bool) (f:α->V) (hz:zs.length=xs.length) (hn:xs.length<=1000000)
 (EI:∀ i H2,Same H H2->i<xs.length->J.go i H2) (Br:∀ H2,Same H H2->J.stop xs.length H2) (Dg:∀ (i:Nat) H2 x H3,Same H H2->i<xs.length->J.yld i H2 x H3->H3=H2/\xs[i]?=some x)
 (EJ:∀ (i:Nat) x z H2 (R:Bool->Hp->Prop),xs[i]?=some x->zs[i]?=some z->Same H H2->R (p z) H2->tt ((cσ js σ).set 0 (some x)) H2 R)
 (EK:∀ (i:Nat) x z H2 (R:VK),xs[i]?=some x->zs[i]?=some z->p z=true->Same H H2->R (f z) H2->te ((cσ js σ).set 0 (some x)) H2 R)
 (q:∀ D,H D=none->fin D (upd H D (.lst ((zs.filter p).map f)))) :
 ∀ D,H D=none->∃ (n:Nat) (W:Nat->Hp->Prop),W 0 (upd H D (.lst []))/\eY js (aG 0) tt te σ J D n W fun H'=>fin D H':=by
 intro D hD;refine ⟨xs.length,fun i H2=>i<=xs.length/\H2=upd H D (.lst (((zs.take i).filter p).map f)),⟨RJ _,by simp⟩,?_⟩;rintro i H2 ⟨hi,rfl⟩;have sm:∀ o,Same H (upd H D o):=fun o=>ai hD o;by_cases h:i=xs.length
 · left;subst h;refine ⟨Br _ (sm _),?_⟩;rw [<- hz,SM];exact q D hD
 · right;have Bb:i<xs.length:=by omega
   refine ⟨Bb,EI i _ (sm _) Bb,fun x H1 hy=>?_⟩;obtain ⟨rfl,hx⟩:=Dg i _ x H1 (sm _) Bb hy;have NS:i<zs.length:=by omega
   have e1:zs[i]?=some zs[i]:=Q1 NS
   have e2:(zs.take (i+1)).filter p=(zs.take i).filter p++(if p zs[i]=true then [zs[i]] else []):=by
    rw [SS,e1,Vu];show _++List.filter p [zs[i]]=_;rw [S2,List.filter_nil]
   refine EJ i x zs[i] _ _ hx e1 (sm _) ?_
   have hlen:(((zs.take i).filter p).map f).length<=1000000:=by
    rw [Q0];have:=List.length_filter_le p (zs.take i);rw [RP] at this;omega
   by_cases hp:p zs[i]=true
   · rw [if_pos hp];refine EK i x zs[i] _ _ hx e1 hp (sm _) ⟨_,ac,Vs hlen (by decide),Bb,?_⟩;rw [pj,e2,if_pos hp,Rj];rfl
   · rw [if_neg hp];refine ⟨Bb,?_⟩;rw [e2,if_neg hp,RC]
theorem jd {α:Type} {K:Q4} {a:Q7} {js:List (Option Nat)} {tt:TT} {te:TE} {σ:St} {H:Hp} {xs:List V} {fin:Q7->Hp->Prop} (zs:List α) (p:α->Bool) (f:α->V) (hS:SqL K H a xs) (hz:zs.length=xs.length) (hn:xs.length<=1000000)
 (EJ:∀ (i:Nat) x z H2 (R:Bool->Hp->Prop),xs[i]?=some x->zs[i]?=some z->Same H H2->R (p z) H2->tt ((cσ js σ).set 0 (some x)) H2 R)
 (EK:∀ (i:Nat) x z H2 (R:VK),xs[i]?=some x->zs[i]?=some z->p z=true->Same H H2->R (f z) H2->te ((cσ js σ).set 0 (some x)) H2 R)
 (q:∀ D,H D=none->fin D (upd H D (.lst ((zs.filter p).map f)))) :
 ∀ D,H D=none->∃ (n:Nat) (W:Nat->Hp->Prop),W 0 (upd H D (.lst []))/\eY js (aG 0) tt te σ (Itl K a) D n W fun H'=>fin D H' :=
 uc zs p f hz hn (fun i H2 s hi=>⟨xs,xs[i],s.seq hS,Q1 hi⟩) (fun H2 s=>⟨xs,s.seq hS,Q8 _⟩) (fun i H2 x H3 s hi hy=>⟨hy.1,hy.2 xs (s.seq hS)⟩) EJ EK q
theorem rC {α:Type} {K:Q4} {a:Q7} {js:List (Option Nat)} {tt:TT} {te:TE} {σ:St} {H:Hp} {xs:List V} {fin:Q7->Hp->Prop} (zs:List α) (p:α->Bool) (f:α->V) (hS:SqT K H a xs) (hz:zs.length=xs.length) (hn:xs.length<=1000000)
 (EJ:∀ (i:Nat) x z H2 (R:Bool->Hp->Prop),xs[i]?=some x->zs[i]?=some z->Same H H2->R (p z) H2->tt ((cσ js σ).set 0 (some x)) H2 R)
 (EK:∀ (i:Nat) x z H2 (R:VK),xs[i]?=some x->zs[i]?=some z->p z=true->Same H H2->R (f z) H2->te ((cσ js σ).set 0 (some x)) H2 R)
 (q:∀ D,H D=none->fin D (upd H D (.lst ((zs.filter p).map f)))) :
 ∀ D,H D=none->∃ (n:Nat) (W:Nat->Hp->Prop),W 0 (upd H D (.lst []))/\eY js (aG 0) tt te σ (Itt K a) D n W fun H'=>fin D H' :=
 uc zs p f hz hn (fun i H2 s hi=>⟨xs,xs[i],s.seqT hS,Q1 hi⟩) (fun H2 s=>⟨xs,s.seqT hS,Q8 _⟩) (fun i H2 x H3 s hi hy=>⟨hy.1,hy.2 xs (s.seqT hS)⟩) EJ EK q
end L2
namespace BB
open PySem L2
theorem at0 {α:Type} {x:α} {xs:List α}:atI (x::xs) 0=some x:=fC (j:=0) rfl
theorem at1 {α:Type} {x y:α} {xs:List α}:atI (x::y::xs) 1=some y:=fC (j:=1) rfl
theorem at2 {α:Type} {x y z:α} {xs:List α}:atI (x::y::z::xs) 2=some z:=fC (j:=2) rfl
theorem at3 {α:Type} {x y z u:α} {xs:List α}:atI (x::y::z::u::xs) 3=some u:=fC (j:=3) rfl
theorem jf (x:V) (xs:List V):cB (x::xs) (some 1) none=xs:=by
 unfold cB;simp [HT.sIx]
theorem cJ:∀ ts:List Th,ts.length<=ay ts
 | []=>RJ _
 | t::ts=>by
   have:=t.size_pos;have:=cJ ts;rw [Q3,ay];omega
theorem oC (ts:List Th):ay ts.reverse=ay ts:=by
 induction ts with
 | nil=>rfl
 | cons x xs ih=>rw [RY,bC,ih,ay,ay,ay];omega
theorem aF {n:Nat} (h:n<=1000000):n<Ry:=Vs h (by decide)
theorem aj {n:Nat} (h:n<=1000000):n<=Ry:=Tc (aF h)
theorem int_at {ns:List Int} {k:Int} (h0:0<=k) (h:k<(ns.length:Int)):atI (ns.map V.int) k=some (.int (ns.getD k.toNat 0)):=by
 refine at_nonneg h0 ?_;have hk:k.toNat<ns.length:=by omega
 rw [Rg,Q1 hk,List.getD_eq_getElem?_getD,Q1 hk];rfl
def cellAt (ns:List Int) (k:Int):Int:=if k<(ns.length:Int) then ns.getD k.toNat 0%10 ^ 60 else 0
theorem jW (ns:List Int) (k:Int):0<=cellAt ns k:=by
 unfold cellAt;split
 · exact RS _ (by decide)
 · exact Int.le_refl _
end BB
namespace BB
open PySem L2
section
variable {α β:Type} {F G:α->β->Prop}
theorem P2.append:∀ {a c:List α} {b d:List β},R3 F a b->R3 F c d->R3 F (a++c) (b++d)
 | _,_,_,_,.nil,h=>h
 | _,_,_,_,.cons r t,h=>.cons r (P2.append t h)
theorem P2.get:∀ {a:List α} {b:List β} {i:Nat} {x:α},R3 F a b->a[i]?=some x->∃ y,b[i]?=some y/\F x y
 | _,_,_,_,.nil,e=>by simp at e
 | _,_,0,_,.cons r _,e=>by simp at e;subst e;exact ⟨_,rfl,r⟩
 | _,_,i+1,x,.cons _ t,e=>by
   obtain ⟨u,h1,h2⟩:=P2.get (i:=i) (x:=x) t (by simpa using e);exact ⟨u,by simpa using h1,h2⟩
theorem P2.get':∀ {a:List α} {b:List β} {i:Nat} {y:β},R3 F a b->b[i]?=some y->∃ x,a[i]?=some x/\F x y
 | _,_,_,_,.nil,e=>by simp at e
 | _,_,0,_,.cons r _,e=>by simp at e;subst e;exact ⟨_,rfl,r⟩
 | _,_,i+1,y,.cons _ t,e=>by
   obtain ⟨u,h1,h2⟩:=P2.get' (i:=i) (y:=y) t (by simpa using e);exact ⟨u,by simpa using h1,h2⟩
theorem P2.set {x:α} {y:β} (r:F x y):∀ {a:List α} {b:List β} (i:Nat),R3 F a b->R3 F (a.set i x) (b.set i y)
 | _,_,_,.nil=>.nil
 | _,_,0,.cons _ t=>.cons r t
 | _,_,i+1,.cons h t=>.cons h (P2.set r i t)
theorem P2.drop:∀ {a:List α} {b:List β} (n:Nat),R3 F a b->R3 F (a.drop n) (b.drop n)
 | _,_,0,r=>r
 | _,_,_+1,.nil=>.nil
 | _,_,n+1,.cons _ t=>P2.drop n t
theorem P2.mp (f:∀ x y,F x y->G x y):∀ {a:List α} {b:List β},R3 F a b->R3 G a b
 | _,_,.nil=>.nil
 | _,_,.cons r t=>.cons (f _ _ r) (P2.mp f t)
end
def KAt (H:Hp) (k:Ru×Int) (a:Q7):Prop:=H a=some (.tup [.str k.1,.int k.2])
def KsAt (H:Hp) (ks:List (Ru×Int)) (as:List Q7):Prop:=R3 (KAt H) ks as
theorem KsAt.mono {H H':Hp} (k:KT H H') {ks:List (Ru×Int)} {as:List Q7} (h:KsAt H ks as):KsAt H' ks as:=P2.mp (fun x y e=>k _ _ e) h
def rests (r:Int):Nat->Int
 | 0=>r
 | k+1=>rests r k / 4+(k:Int)
def dF (cell:Int):Int:=cell * 1000003+4421
def dq (cell:Int):Int:=1+dF cell%6
def rp (cell:Int):List (Ru×Int):=(Sn (dq cell).toNat).map fun (k:Nat)=>(nameOf (dF cell / 36) (k:Int),rests (dF cell / 7) k%4)
def kAt (cell:Int):Int:=dF cell / 6%dq cell
def cf (cell:Int):List (Ru×Int):=(rp cell).set (kAt cell).toNat (nameOf (dF cell / 36) (kAt cell),0)
theorem jj (cell:Int):1<=dq cell/\dq cell<=6:=by
 have:=RS (dF cell) (by decide:(6:Int)≠0);have:=RQ (dF cell) (by decide:(0:Int)<6);unfold dq;omega
theorem tO (cell:Int):0<=kAt cell/\kAt cell<dq cell:=by
 have:=jj cell;unfold kAt;exact ⟨RS _ (by omega),RQ _ (by omega)⟩
theorem gy (cell:Int):(rp cell).length=(dq cell).toNat:=by unfold rp;rw [Q0,TJ]
theorem dl (cell:Int):(cf cell).length=(dq cell).toNat:=by unfold cf;rw [Vk,gy]
theorem ma {cell:Int} {i:Nat} (h:i<(dq cell).toNat):(rp cell)[i]?=some (nameOf (dF cell / 36) (i:Int),rests (dF cell / 7) i%4):=by
 unfold rp;rw [Rg,UO h];rfl
theorem cF {cell:Int} {i:Nat} {k:Ru×Int} (h:(cf cell)[i]?=some k):k.1=nameOf (dF cell / 36) (i:Int)/\0<=k.2/\k.2<=3/\(i=(kAt cell).toNat->k.2=0):=by
 have hi:i<(dq cell).toNat:=by
  have:=(Rm.mp h).1;rw [dl] at this;exact this
 have ha:=tO cell;unfold cf at h;by_cases e:(kAt cell).toNat=i
 · rw [e,Uu (by rw [gy];exact hi)] at h;cases h;have:(i:Int)=kAt cell:=by omega
   exact ⟨by rw [this],by simp,by simp,fun _=>rfl⟩
 · rw [UI e,ma hi] at h;cases h;have h1:=RS (rests (dF cell / 7) i) (by decide:(4:Int)≠0);have h2:=RQ (rests (dF cell / 7) i) (by decide:(0:Int)<4);exact ⟨rfl,h1,by show rests (dF cell / 7) i%4<=3;omega,fun z=>absurd z.symm e⟩
structure ce (ks:List (Ru×Int)):Prop where
 ne:1<=ks.length
 le:ks.length<=6
 low:∀ k∈ks,Low k.1/\k.1.length<=8
 num:∀ k∈ks,0<=k.2/\k.2<=3
 zero:∃ k∈ks,k.2=0
theorem fw (cell:Int):ce (cf cell):=by
 have hm:=jj cell;have ha:=tO cell;refine ⟨by rw [dl];omega,by rw [dl];omega,fun k hk=>?_,fun k hk=>?_,?_⟩
 · obtain ⟨i,hi⟩:=RZ.mp hk;obtain ⟨e,_⟩:=cF hi;rw [e];exact ⟨sj _ _,tL _ _⟩
 · obtain ⟨i,hi⟩:=RZ.mp hk;obtain ⟨_,e1,e2,_⟩:=cF hi;exact ⟨e1,e2⟩
 · have hl:(kAt cell).toNat<(cf cell).length:=by rw [dl];omega
   exact ⟨(cf cell)[(kAt cell).toNat],List.getElem_mem hl,(cF (Q1 hl)).2.2.2 rfl⟩
theorem xZ {cell:Int} (h:0<=cell):0<=dF cell:=by unfold dF;omega
end BB
namespace L2
open PySem
theorem bS {t u:TS} {D:Ends} {σ:St} {H:Hp} (R:St->Hp->Prop) (h1:∀ k:St->Hp->Prop,(∀ Ab H',R Ab H'->k Ab H')->t { D with nx:=k } σ H) (h2:∀ Ab H',R Ab H'->u D Ab H'):zU t u D σ H:=h1 _ h2
theorem bZ {c:TT} {t u:TS} {D:Ends} {σ:St} {H:Hp} (R:Bool->Hp->Prop) (h1:∀ k:Bool->Hp->Prop,(∀ b H',R b H'->k b H')->c σ H k) (h2:∀ H',R true H'->t D σ H') (h3:∀ H',R false H'->u D σ H'):zH c t u D σ H :=
 h1 _ fun b H' r=>by
  cases b with
  | true=>rw [if_pos rfl];exact h2 H' r
  | false=>rw [if_neg Rt];exact h3 H' r
end L2
namespace BB
open PySem L2
section
variable {ext:Th->List V} {H H':Hp} {t:Th} {a:Q7} {ts:List Th} {es:List Q7}
end
theorem jv:∀ {ts:List Th} {t:Th},t∈ts->t.tall<=bd ts
 | u::ts,t,h=>by
   rw [bd];rcases Rq.mp h with rfl | h
   · omega
   · have:=jv h;omega
theorem nN {xs:List V} {n:Nat} (h:n<=xs.length):cB xs (some (n:Int)) none=xs.drop n:=by
 unfold cB;rw [HT.sIx_nat,HT.sIx_none,Vi h];exact R0 (by rw [Sf];exact Q8 _)
theorem take_snoc {α:Type} {xs:List α} {n:Nat} {x:α} (h:xs[n]?=some x):xs.take (n+1)=xs.take n++[x]:=by rw [SS,h];rfl
theorem ba {xs:List Q7} {i:Nat} {x:V} (h:(xs.map V.ref)[i]?=some x):∃ a,x=.ref a/\xs[i]?=some a:=by
 rw [Rg] at h;obtain ⟨a,h1,h2⟩:=Tq.mp h;exact ⟨a,h2.symm,h1⟩
end BB
namespace PySem
open Sem (wp)
section
variable {prog:RL} {w:R1} {A:R6} {E:Q6->Q9->Prop} {s:Q9}
theorem bb_tupNext {cur tp:Q7} {i:Nat} {items:Array Q6} {x:Q6} {Q:Q6->Q9->Prop} (g:s.heap.IsTupleIter cur tp i) (gt:s.heap.IsTuple tp items) (hx:items[i]?=some x)
 (fin:∀ h',h'.IsTupleIter cur tp (i+1)->TK cur s.heap h'->Q x { s with heap:=h' }):Rw (RO prog w) A (Sk (.ref cur)) Q E s:=by
 obtain ⟨ob,e1,e2,e3⟩:=id g;obtain ⟨ot,e4,_,nt,e5⟩:=gt;unfold Sk;refine Q2 (Tj (name:=QZ "__next__") g.typeIs US (Uv US g.typeIs F.entry_tuple_iterator_next ?_ (F.args_tuple_iterator_next_1 _)));show Rw _ _ (field (.ref cur) 0 >>= _) _ _ s;refine Q2 (Sr e1 e3 (x:=.ref tp) rfl ?_);show Rw _ _ (if (Sx tp == Ur)=true then _ else _) _ _ s;rw [if_neg (show ¬ ((Sx tp == Ur)=true) from Rt)];show Rw _ _ (field (.ref cur) 1 >>= _) _ _ s;refine Q2 (Sr e1 e3 (x:=.int i 0) rfl ?_);show Rw _ _ (seqItems? (.ref tp) >>= _) _ _ s;refine Q2 (TN e4 e5 ?_);simp only [SU,hx];refine Q2 (wpAny_setField e1 e3 (by simp) (Rl ⟨x,rfl,Rl (fin _ ?_ (Heap.SameBut.update ..))⟩));exact ⟨_,Heap.get?_update_self _ e1 (Obj.isFreed_of_fields (Obj.data_mapFields e3 _)),(Obj.cls_mapFields ..).trans e2,by rw [Obj.data_mapFields e3];simp [Vv]⟩
theorem bb_tupEnd {cur tp:Q7} {i:Nat} {items:Array Q6} {Q:Q6->Q9->Prop} (calm:A.handled=none) (g:s.heap.IsTupleIter cur tp i) (gt:s.heap.IsTuple tp items) (hx:items[i]?=none)
 (fin:∀ h' e,Heap.ExtBut cur s.heap h'->(∃ o,h'.get? e=some o/\o.cls=.type "StopIteration")->E (.ref e) { s with heap:=h' }):Rw (RO prog w) A (Sk (.ref cur)) Q E s:=by
 obtain ⟨ob,e1,e2,e3⟩:=id g;obtain ⟨ot,e4,_,nt,e5⟩:=gt;unfold Sk;refine Q2 (Tj (name:=QZ "__next__") g.typeIs US (Uv US g.typeIs F.entry_tuple_iterator_next ?_ (F.args_tuple_iterator_next_1 _)));show Rw _ _ (field (.ref cur) 0 >>= _) _ _ s;refine Q2 (Sr e1 e3 (x:=.ref tp) rfl ?_);show Rw _ _ (if (Sx tp == Ur)=true then _ else _) _ _ s;rw [if_neg (show ¬ ((Sx tp == Ur)=true) from Rt)];show Rw _ _ (field (.ref cur) 1 >>= _) _ _ s;refine Q2 (Sr e1 e3 (x:=.int i 0) rfl ?_);show Rw _ _ (seqItems? (.ref tp) >>= _) _ _ s;refine Q2 (TN e4 e5 ?_);simp only [SU,hx];refine Q2 (wpAny_rule (Q2 (wpAny_setField e1 e3 (by simp) ?_)));show Rw _ _ (newExc (.type "StopIteration") [] >>= _) _ _ _;refine Q2 ?_;simp only [newExc,newTuple];refine Q2 (SF ?_ (by size_fits));refine Q2 (m:=firstArgMember _ _) (wpAny_of_eq (a:=Ur) (by first | rfl | (simp only [firstArgMember];rfl)) ?_);refine SF ?_ (by size_fits);simp only [raiseNew];refine Q2 (wpAny_handled ?_)
 first | rw [show A.in1.handled=none from calm] | rw [calm]
 refine Q2 (Rl (wpAny_throw ?_));exact fin _ _ (((Heap.SameBut.update ..).extBut.push _).push _) ⟨_,Rf _ rfl,rfl⟩
end
theorem bb_drawsT {prog:RL} {w:R1} {A:R6} (calm:A.handled=none) (cur tp:Q7) (ne:tp≠cur) (items:Array Q6) :
 Draws prog w A cur [cur,tp] items.size (fun i v=>items[i]?=some v) (fun i h=>h.IsTupleIter cur tp i/\h.IsTuple tp items) where
 live:=fun _ _ st=>let ⟨o,e,_⟩:=st.1;⟨o,e⟩
 frame:=fun _ _ _ st k=>⟨let ⟨o,e,r⟩:=st.1;⟨o,k cur (by simp) o e,r⟩,let ⟨o,e,r⟩:=st.2;⟨o,k tp (by simp) o e,r⟩⟩
 item:=fun i s Q E hi st q=>by
  refine bb_tupNext st.1 st.2 (x:=items[i]) (by simp [hi]) fun h' g' sb=>?_;exact q _ h' s.toks (by simp [hi]) ⟨g',st.2.extBut sb.extBut ne⟩ sb
 done:=fun s Q E st e=>bb_tupEnd calm st.1 st.2 (by simp) e
theorem bb_meetsEnumT (tp:Q7) (items:Array Q6) (n:Nat) (JA:Option Q7) (sl:Array (Option Q6)) :
 Meets (V1.«enumerate.__new__» ⟨[.type "enumerate",.ref tp],[]⟩) (fun _ R s=>s.heap.get? tp=some { cls:=.type "tuple",dict:=JA,data:=.seq items n,slots:=sl } ∧
  R (.ok (.ret (.ref (s.heap.push { cls:=.type "tuple_iterator",data:=.fields #[.ref tp,.int 0 0] }).objs.size)))
    { s with heap:=(s.heap.push { cls:=.type "tuple_iterator",data:=.fields #[.ref tp,.int 0 0] }).push { cls:=.type "enumerate",data:=.fields #[.none,.bool false,.ref s.heap.objs.size,Vv 0,.none,.none] } }) :=
 .of_wp fun prog w A R s h=>by
  obtain ⟨hp,g,d,tk,os⟩:=s;obtain ⟨gt,fin⟩:=h;have su:=sub_enumerate;have gT:Heap.IsTuple (Shared.heap ⟨hp,g,d,tk,os⟩) tp items:=⟨_,gt,rfl,n,rfl⟩
  wp_walk using TM gt
  refine wpAny_stack_any fun st=>Rl ?_;split
  · rename_i c _ _ _ _ _
    cases (c == Value.type "enumerate")
    · wp_walk using TM gt,Ua gT
      exact ⟨_,rfl,fin⟩
    · wp_walk using TM gt,Ua gT
      exact ⟨_,rfl,fin⟩
  · wp_walk using TM gt,Ua gT
    exact ⟨_,rfl,fin⟩
section
variable {prog:RL} {w:R1} {A:R6} {E:Q6->Q9->Prop} {s:Q9}
theorem bb_callEnumT {tp:Q7} {items:Array Q6} {Q:Q6->Q9->Prop} (gT:s.heap.IsTuple tp items)
 (fin:∀ h',IsEnum h' (s.heap.objs.size+1) s.heap.objs.size 0 .none->h'.IsTupleIter s.heap.objs.size tp 0->h'.objs.size=s.heap.objs.size+2 →
  (∀ b o,s.heap.get? b=some o->h'.get? b=some o)->Q (.ref (s.heap.objs.size+1)) { s with heap:=h' }):Rw (RO prog w) A (call (.type "enumerate") [.ref tp]) Q E s:=by
 obtain ⟨⟨c,JA,dt,sl⟩,e1,e2,n,e3⟩:=gT;replace e2:c=.type "tuple":=e2;replace e3:dt=.seq items n:=e3;subst e2 e3;refine callType_new F.called_enumerate (by decide) (F.typeCall_enumerate_1 _) (F.newCall_enumerate_1 _) (fun obj=>F.args_object_init_2 obj _) F.entry_enumerate_new (bb_meetsEnumT tp items n JA sl) ⟨e1,?_⟩;have z:(s.heap.push { cls:=.type "tuple_iterator",data:=.fields #[.ref tp,.int 0 0] }).objs.size=s.heap.objs.size+1:=SD ..;show _/\_;rw [z]
 have ge:IsEnum ((s.heap.push { cls:=.type "tuple_iterator",data:=.fields #[.ref tp,.int 0 0] }).push { cls:=.type "enumerate",data:=.fields #[.none,.bool false,.ref s.heap.objs.size,Vv 0,.none,.none] }) (s.heap.objs.size+1) s.heap.objs.size 0 .none:=by
  have t:=Rf (s.heap.push { cls:=.type "tuple_iterator",data:=.fields #[.ref tp,.int 0 0] }) (o:={ cls:=.type "enumerate",data:=.fields #[.none,.bool false,.ref s.heap.objs.size,Vv 0,.none,.none] }) rfl;rw [z] at t;exact t
 exact ⟨⟨_,ge,rfl⟩,fin _ ge ⟨_,Q5 _ (Rf _ rfl),rfl,rfl⟩ (by rw [SD,z]) fun b o x=>Q5 _ (Q5 _ x)⟩
end
end PySem
namespace L2
open PySem PySem.Spec PyProof.Rows
theorem Inv.turnedL {X:Cx} {pins:List (Q7×T1)} {σ:St} {H:Hp} {s:Q9} {h':SE} {t':Nat} {fp:List Q7} (I:Inv X pins σ H s) (k:∀ b o,b∉fp->s.heap.get? b=some o->h'.get? b=some o) (hf:∀ b∈fp,ig X pins H b) :
 Inv X pins σ H { s with heap:=h',toks:=t' }:=by
 have FV:∀ b u,H b=some u->b∉fp:=fun b u e z=>by rw [(hf b z).1] at e;cases e
 refine I.step (g':=s.gens) (d':=s.drawn) (ch:=fp) (fun b hb=>?_) (fun b o _ _ hc e _=>k b o hc e) (fun b o _ _ hc e _=>⟨o.slots,k b o hc e⟩) (fun _ _ _ _ n=>n)
  (fun b o hc e=>⟨o,k b o hc e⟩) (fun _ _ e=>e) (fun _ _ _ e=>e) (fun b ps e=>⟨#[],by rw [e];simp⟩) (fun m hm=>?_) (fun b u e=>?_) I.bare
 · obtain ⟨f0,f1,f2,f3,f4,f5⟩:=hf b hb;exact ⟨f3,f1,f4,f5⟩
 · obtain ⟨o,es,ep,ho,r⟩:=hm;exact ⟨o,es,ep,k _ o (fun z=>(hf _ z).2.1 rfl) ho,r⟩
 · refine (I.hok b u e).stay (fun c v hc q=>k c v ?_ q) (fun _ q=>q) fun _ _ q=>q;rcases hc with z | z
   · rw [z];exact FV b u e
   · exact FV c _ z
def Ite (K:Q4) (a:Q7):It:=⟨fun i H=>∃ xs x,SqT K H a xs/\xs[i]?=some x,fun i H x H'=>∃ p y,H p=none/\x=.ref p/\H'=upd H p (.tup [.int (i:Nat),y])/\∀ xs,SqT K H a xs->xs[i]?=some y,fun i H=>∃ xs,SqT K H a xs/\xs.length=i⟩
theorem uI {P:RL} {w:R1} {K:Q4} {elts:List Sm} {k1} {pos:Vo} (a e it:Q7):Turn P w K (.Tuple elts k1 pos) (Ite K a) [e,it] e (fun i h=>(∃ old,IsEnum h e it ((i:Nat):Int) old)/\h.IsTupleIter it a i) where
 mem:=by simp
 obj:=fun i h st b hb=>by
  obtain ⟨⟨old,he⟩,o,e1,e2,e3⟩:=st;rcases Rq.mp hb with rfl | hb
  · exact ⟨_,he,fun v z=>by cases z⟩
  · have:b=it:=by simpa using hb
    subst this;exact ⟨o,e1,fun v z=>by rw [e3] at z;cases z⟩
 keep:=fun i h h' st k=>by
  obtain ⟨⟨old,he⟩,o,e1,e2⟩:=st;exact ⟨⟨old,k e (by simp) _ he⟩,o,k it (by simp) _ e1,e2⟩
 item:=by
  intro X hP hw hK hc i pins s σ H E I hf st hg;subst hP hw hK;obtain ⟨xs,x,hq,hx⟩:=hg;obtain ⟨its,rv,p,hz⟩:=I.tuple hq;obtain ⟨u,hu,ru⟩:=rv.get hx;obtain ⟨⟨old,he⟩,hi⟩:=st
  have EL:e≠it:=by
   rintro rfl;obtain ⟨o,e1,e2,_⟩:=hi;rw [he] at e1;cases e1;exact absurd (Ux e2) (by decide)
  have EM:a≠it:=by
   rintro rfl;obtain ⟨o,e1,e2,_⟩:=hi;obtain ⟨o',CK,Bz,_⟩:=p;rw [CK] at e1;cases e1;rw [Bz] at e2;exact absurd (Ux e2) (by decide)
  have JB:a≠e:=by
   rintro rfl;obtain ⟨o',CK,Bz,_⟩:=p;rw [he] at CK;cases CK;exact absurd (Ux Bz) (by decide)
  have Ax:i<its.toArray.size:=by
   have:=(Rm.mp hu).1;simpa using this
  have JC:e<s.heap.objs.size:=Rv he;have A':it<s.heap.objs.size:=by obtain ⟨o,e1,_⟩:=hi;exact Rv e1
  refine wpAny_pyNext_enum_itemD (bb_drawsT (A:=X.A.in1) (show X.A.in1.handled=none from I.ok.hd hc) it a EM its.toArray) he ⟨hi,p⟩ Ax EL (by simp [EL,JB.symm]) fun y h1 tk hy ho JD hT hsz hk=>?_
  have JE:y=u:=by
   have:its[i]?=some y:=by simpa using hy
   rw [hu] at this;exact (RI this).symm
  subst JE;refine ⟨_,rfl,wpAny_letOwnedTupleGo_enum ho fun h2 JF Dh=>?_⟩;replace Dh:TK e h1 h2:=Dh
  have Av:∀ b∈[e,it],b<s.heap.objs.size:=fun b hb=>by
   rcases Rq.mp hb with rfl | hb
   · exact JC
   · have:b=it:=by simpa using hb
     subst this;exact A'
  have Gi:H s.heap.objs.size=none:=I.hok.fresh (Q8 _)
  have IA:Inv X pins σ (upd H s.heap.objs.size (.tup [.int (i:Nat),x])) { s with heap:=s.heap.push { cls:=.type "tuple",data:=.seq #[.int (i:Nat) tk,y] },toks:=tk } :=
   I.laid (o:=.tup [.int (i:Nat),x]) (fun b ob q=>Q5 _ q) (Q8 _) ⟨by show 2<=Ry;decide,[.int (i:Nat) tk,y],0,.cons ⟨tk,rfl⟩ (.cons ru .nil),Rf _ rfl⟩
  refine ⟨.ref s.heap.objs.size,upd H s.heap.objs.size (.tup [.int (i:Nat),x]),?_,rfl,⟨_,x,Gi,rfl,rfl,fun ys Ge=>by rw [I.tuple_inj Ge hq];exact hx⟩,⟨⟨y,by simpa using JF⟩,?_⟩,fun b hb=>?_⟩
  · have IB:Inv X pins σ (upd H s.heap.objs.size (.tup [.int (i:Nat),x])) { s with heap:=h2,toks:=tk+1 }:=by
     refine Inv.turnedL (s:={ s with heap:=s.heap.push { cls:=.type "tuple",data:=.seq #[.int (i:Nat) tk,y] },toks:=tk }) (h':=h2) (fp:=[e,it]) (t':=tk+1) IA (fun b o hb q=>?_) fun b hb=>?_
     · have CI:b≠e:=fun z=>hb (by simp [z]);have Fx:b≠it:=fun z=>hb (by simp [z]);rw [Dh.2 b CI];by_cases Ca:b=s.heap.objs.size
       · subst Ca;rw [hT];have q':(s.heap.push { cls:=.type "tuple",data:=.seq #[.int (i:Nat) tk,y] }).get? s.heap.objs.size=some o:=q;rw [Rf _ rfl] at q';exact q'
       · have BH:b<(s.heap.push { cls:=.type "tuple",data:=.seq #[.int (i:Nat) tk,y] }).objs.size:=Rv q;rw [SD] at BH;refine hk b o CI Fx ?_;have q':(s.heap.push { cls:=.type "tuple",data:=.seq #[.int (i:Nat) tk,y] }).get? b=some o:=q;rw [Heap.get?_push_ne _ _ _ Ca] at q';exact q'
     · obtain ⟨f0,f1⟩:=hf b hb;exact ⟨by rw [al (RT (Av b hb))];exact f0,f1⟩
    exact IB
  · obtain ⟨o,e1,r⟩:=JD.1;exact ⟨o,(Dh.2 it (UX EL)).trans e1,r⟩
  · rw [al (RT (Av b hb))];exact (hf b hb).1
 done:=by
  intro X hP hw hK hc i pins s σ H E I hf st hg;subst hP hw hK;obtain ⟨xs,hq,hx⟩:=hg;obtain ⟨its,rv,p,hz⟩:=I.tuple hq;obtain ⟨⟨old,he⟩,hi⟩:=st
  have EM:a≠it:=by
   rintro rfl;obtain ⟨o,e1,e2,_⟩:=hi;obtain ⟨o',CK,Bz,_⟩:=p;rw [CK] at e1;cases e1;rw [Bz] at e2;exact absurd (Ux e2) (by decide)
  have hn:its.toArray.size=i:=by
   have:=rv.length;rw [Rc];omega
  refine wpAny_pyNext_enum_endD (bb_drawsT (A:=X.A.in1) (show X.A.in1.handled=none from I.ok.hd hc) it a EM its.toArray) he (by rw [hn];exact ⟨hi,p⟩) fun h' eb=>⟨rfl,?_⟩;exact I.turnedL (fp:=[e,it]) (t':=s.toks) (fun b o hb q=>eb b o (fun z=>hb (by simp [z])) q) hf
 self:=fun _ _ _ _ _ st h=>by
  obtain ⟨⟨old,he⟩,_⟩:=st;exact VW he h
section
variable {X:Cx} {e:Sm} {te:TE} {p2 AK:Vo}
def zV (K:Q4) (tl:TE):TI:=fun σ H R=>tl σ H fun x H1=>∃ a,x=.ref a/\(∃ xs,SqT K H1 a xs)/\R (Ite K a) H1
theorem ur {elts:List Sm} {k1} {pos:Vo} (g2:Gl X "enumerate") (m2:X.mg "enumerate"=none) (he:PE X e te) (h2:Se [e] X.env=[(false,Tz e X.env)]:=by rfl):PI X (.Tuple elts k1 pos) (.Call (.Name "enumerate" p2) [e] [] AK) (zV X.K te):=by
 intro pins s σ H R I h;refine Ti (fT I g2 m2 boot_enumerate (SR ?_ h2 rfl));rw [h2];show Rw _ _ (VX ((false,Tz e X.env)::[])) _ _ s;refine S3 (thn (he pins s σ H _ I h) fun u s1 ⟨x,H1,I1,r1,a,ex,⟨xs,hq⟩,q⟩=>TU ?_);subst ex;cases r1;obtain ⟨its,rv,p,hz⟩:=I1.tuple hq;refine bb_callEnumT (show s1.heap.IsTuple a its.toArray from p) fun h' g1 g2 g3 g4=>?_;refine VW (s:={ s1 with heap:=h' }) g1 ?_;refine ⟨s1.heap.objs.size+1,[s1.heap.objs.size+1,s1.heap.objs.size],_,_,H1,rfl,I1.kept (t':=s1.toks) g4,uI a _ _,⟨⟨_,g1⟩,g2⟩,fun b hb=>?_,q⟩
 have Bc:s1.heap.objs.size<=b:=by
  rcases Rq.mp hb with rfl | hb
  · omega
  · have:b=s1.heap.objs.size:=by simpa using hb
    exact WL this.symm
 exact I1.fpOk Bc (I1.hok.fresh Bc)
inductive wK (K:Q4) (x:V) (y:V) (H:Hp) (Q:VK):Prop
 | mk (a:_) (b:_) (xs:_) (ys:_) (Aj:x=.ref a) (Ak:y=.ref b) (An:SqT K H a xs) (Az:SqT K H b ys) (AR:xs.length+ys.length<=Ry) (Bh:(xs=[]->Q (.ref b) H)) (Cg:(xs≠[]->ys=[]->Q (.ref a) H)) (DG:(xs≠[]->ys≠[]->∀ p,H p=none->Q (.ref p) (upd H p (.tup (xs++ys))))):wK K x y H Q
def vy (K:Q4):R2:=wK K
theorem fo:OpR X (Uw .Add) (vy X.K):=by
 intro pins s σ H x y v u Q I rx ry h;obtain ⟨a,b,xs,ys,e1,e2,ha,hb,hz,q0,q1,q2⟩:=h;by_cases hx:xs=[]
 · subst e1 e2;cases rx;cases ry;obtain ⟨its,r1,p1,_⟩:=I.tuple ha;obtain ⟨Am,r2,p2,_⟩:=I.tuple hb;have hi:its=[]:=r1.nil_iff.mpr hx;obtain ⟨⟨cls,dd,data,sl⟩,ho,hc,n,hd⟩:=p1;obtain ⟨⟨F1,Ft,data2,Fu⟩,ED,CW,n2,hd2⟩:=p2;simp only at hc hd CW hd2;subst hc hd CW hd2;exact concat_meets ⟨_,ho,rfl⟩ ⟨_,ED,rfl⟩ noFill_tuple_add seq_tuple_add VS VL (VE _ _) (tuple_addW0 a b its.toArray Am.toArray n n2 dd Ft sl Fu (by simp [hi])) ⟨ho,ED,⟨.ref b,H,I,rfl,q0 hx⟩⟩
 · exact xA pins s σ H x y v u Q I rx ry ⟨a,b,xs,ys,e1,e2,ha,hb,hx,hz,q1 hx,q2 hx⟩
end
end L2
namespace PySem
open Sem (wp)
abbrev tzH1 (h:SE) (l1:Q7):SE:=h.push { cls:=.type "tuple_iterator",data:=.fields #[.ref l1,.int 0 0] }
abbrev tzH2 (h:SE) (l1 l2:Q7):SE:=(tzH1 h l1).push { cls:=.type "tuple_iterator",data:=.fields #[.ref l2,.int 0 0] }
abbrev tzH3 (h:SE) (l1 l2:Q7):SE:=(tzH2 h l1 l2).push { cls:=.type "tuple",data:=.seq #[.ref h.objs.size,.ref (tzH1 h l1).objs.size] }
abbrev tzH4 (h:SE) (l1 l2:Q7):SE:=(tzH3 h l1 l2).push { cls:=.type "tuple",data:=.seq #[.none,.none] }
abbrev tzH5 (h:SE) (l1 l2:Q7):SE:=(tzH4 h l1 l2).push { cls:=.type "zip",data:=.fields #[.none,.bool false,.bool false,.ref (tzH2 h l1 l2).objs.size,.ref (tzH3 h l1 l2).objs.size] }
theorem IsTuple.push' {h:SE} {l:Q7} {xs:Array Q6} (x:h.IsTuple l xs) (o:T1):(h.push o).IsTuple l xs:=let ⟨ob,e,r⟩:=x;⟨ob,Q5 _ e,r⟩
theorem bb_meets_zip (l1 l2:Q7) (xs ys:Array Q6) :
 Meets (V1.«zip.__new__» ⟨[.type "zip",.ref l1,.ref l2],[]⟩) (fun _ R s=>s.heap.IsTuple l1 xs/\s.heap.IsTuple l2 ys ∧
  R (.ok (.ret (.ref (tzH4 s.heap l1 l2).objs.size))) { s with heap:=tzH5 s.heap l1 l2 }) :=
 .of_wp fun prog w A R s h=>by
  obtain ⟨hp,g,d,tk,os⟩:=s;obtain ⟨AZ,Bn,h⟩:=h;have BI:=sub_zip;have NT:Heap.IsTuple (Shared.heap ⟨hp,g,d,tk,os⟩) l1 xs:=AZ;have NU:Heap.IsTuple (Shared.heap ⟨hp.push { cls:=.type "tuple_iterator",data:=.fields #[.ref l1,.int 0 0] },g,d,tk,os⟩) l2 ys:=IsTuple.push' Bn _
  wp_walk using Ua NT,Ua NU
  exact ⟨_,rfl,h⟩
section
variable {prog:RL} {w:R1} {A:R6} {E:Q6->Q9->Prop} {s:Q9}
theorem bb_call_zip {l1 l2:Q7} {xs ys:Array Q6} {Q:Q6->Q9->Prop} (AZ:s.heap.IsTuple l1 xs) (Bn:s.heap.IsTuple l2 ys)
 (h:∀ h',We h' (s.heap.objs.size+4) (s.heap.objs.size+2) (s.heap.objs.size+3) .none->Uy h' (s.heap.objs.size+2) (.ref s.heap.objs.size) (.ref (s.heap.objs.size+1)) →
  Uy h' (s.heap.objs.size+3) .none .none->h'.IsTupleIter s.heap.objs.size l1 0->h'.IsTupleIter (s.heap.objs.size+1) l2 0->h'.objs.size=s.heap.objs.size+5 →
  (∀ c o,s.heap.get? c=some o->h'.get? c=some o)->Q (.ref (s.heap.objs.size+4)) { s with heap:=h' }) :
 Rw (RO prog w) A (call (.type "zip") [.ref l1,.ref l2]) Q E s:=by
 refine callType_new F.called_zip (by decide) (F.typeCall_zip_2 _ _) (F.newCall_zip_2 _ _) (fun obj=>F.args_object_init_3 obj _ _) F.entry_zip_new
  (bb_meets_zip l1 l2 xs ys) ⟨AZ,Bn,?_⟩
 have z1:(tzH1 s.heap l1).objs.size=s.heap.objs.size+1:=SD ..;have z2:(tzH2 s.heap l1 l2).objs.size=s.heap.objs.size+2:=by rw [SD,z1]
 have z3:(tzH3 s.heap l1 l2).objs.size=s.heap.objs.size+3:=by rw [SD,z2]
 have z4:(tzH4 s.heap l1 l2).objs.size=s.heap.objs.size+4:=by rw [SD,z3]
 have z5:(tzH5 s.heap l1 l2).objs.size=s.heap.objs.size+5:=by rw [SD,z4]
 have g5:(tzH5 s.heap l1 l2).get? (tzH4 s.heap l1 l2).objs.size=some _:=Rf _ rfl;have g4:(tzH5 s.heap l1 l2).get? (tzH3 s.heap l1 l2).objs.size=some _:=Q5 _ (Rf _ rfl);have g3:(tzH5 s.heap l1 l2).get? (tzH2 s.heap l1 l2).objs.size=some _:=Q5 _ (Q5 _ (Rf _ rfl));have g2:(tzH5 s.heap l1 l2).get? (tzH1 s.heap l1).objs.size=some _:=Q5 _ (Q5 _ (Q5 _ (Rf _ rfl)));have g1:(tzH5 s.heap l1 l2).get? s.heap.objs.size=some _:=Q5 _ (Q5 _ (Q5 _ (Q5 _ (Rf _ rfl))));show _/\_;rw [z2,z3,z4] at g5;rw [z1,z2] at g3;rw [z3] at g4;rw [z1] at g2;rw [z4]
 exact ⟨⟨_,g5,rfl⟩,h _ g5 g3 g4 ⟨_,g1,rfl,rfl⟩ ⟨_,g2,rfl,rfl⟩ z5 fun c o x =>
  Q5 _ (Q5 _ (Q5 _ (Q5 _ (Q5 _ x))))⟩
structure ZSt (xs ys:Array Q6) (z TI TO i1 i2 l1 l2:Q7) (k:Nat) (h:SE):Prop where
 ap:ZipApart z TI TO i1 i2 l1 l2
 zip:We h z TI TO .none∨∃ (T:Q7) (b:Bool) (x y:Q6),h.get? z=some { cls:=.type "zip",data:=.fields #[Vv T,.bool b,.bool false,.ref TI,.ref TO] }/\Uy h T x y/\T≠TO
 hTI:Uy h TI (.ref i1) (.ref i2)
 hTO:∃ a b,Uy h TO a b
 h1:h.IsTupleIter i1 l1 k
 h2:h.IsTupleIter i2 l2 k
 t1:h.IsTuple l1 xs
 t2:h.IsTuple l2 ys
theorem ZSt.typeIs {xs ys:Array Q6} {z TI TO i1 i2 l1 l2:Q7} {k:Nat} (x:ZSt xs ys z TI TO i1 i2 l1 l2 k s.heap):s.TypeIs (.ref z) "zip":=by
 rcases x.zip with e | ⟨T,b,u,v,e,_⟩
 · exact ⟨_,e,rfl⟩
 · exact ⟨_,e,rfl⟩
theorem IsTuple.but {h h':SE} {c l:Q7} {xs:Array Q6} (x:h.IsTuple l xs) (e:Heap.ExtBut c h h') (n:l≠c):h'.IsTuple l xs:=let ⟨ob,q,r⟩:=x;⟨ob,e _ _ n q,r⟩
theorem IsTupleIter.but {h h':SE} {c i l:Q7} {k:Nat} (x:h.IsTupleIter i l k) (e:Heap.ExtBut c h h') (n:i≠c):h'.IsTupleIter i l k:=let ⟨ob,q,r⟩:=x;⟨ob,e _ _ n q,r⟩
end
end PySem
namespace PySem
open Sem (wp)
section
variable {prog:RL} {w:R1} {A:R6} {E:Q6->Q9->Prop} {s:Q9}
theorem bb_zip_itemA {z TI TO i1 i2 l1 l2:Q7} {k:Nat} {xs ys:Array Q6} {x y a b:Q6} {Q:Q6->Q9->Prop} (D:ZipApart z TI TO i1 i2 l1 l2)
 (hz:We s.heap z TI TO .none) (hTI:Uy s.heap TI (.ref i1) (.ref i2)) (hTO:Uy s.heap TO a b)
 (h1:s.heap.IsTupleIter i1 l1 k) (h2:s.heap.IsTupleIter i2 l2 k) (AZ:s.heap.IsTuple l1 xs) (Bn:s.heap.IsTuple l2 ys) (hx:xs[k]?=some x) (hy:ys[k]?=some y)
 (hQ:∀ h',We h' z TI TO (Vv s.heap.objs.size)->Uy h' TO x y->h'.IsTupleIter i1 l1 (k+1)->h'.IsTupleIter i2 l2 (k+1)->Uy h' s.heap.objs.size x y->h'.objs.size=s.heap.objs.size+1 →
  (∀ c o,c≠z->c≠TO->c≠i1->c≠i2->s.heap.get? c=some o->h'.get? c=some o)->Q (.ref s.heap.objs.size) { s with heap:=h' }) :
 Rw (RO prog w) A (V1.«zip.__next__» ⟨[.ref z],[]⟩) (fun fin s'=>∃ v,fin=.done (.ret v)/\Q v s') E s:=by
 show Rw _ _ (field (.ref z) 2 >>= _) _ _ _;refine Q2 (Sr hz rfl (x:=.bool false) rfl ?_);show Rw _ _ (field (.ref z) 3 >>= _) _ _ _;refine Q2 (Sr hz rfl (x:=.ref TI) rfl ?_);refine Q2 (TN hTI rfl ?_);show Rw _ _ (So (.ref z) >>= _) _ _ _;refine Q2 ?_;unfold So;refine Q2 (Sr hz rfl (x:=.none) rfl (Rl ?_));simp only [if_true];refine Q2 (wpAny_rule ?_);refine Q2 (Sr hz rfl (x:=.ref TO) rfl ?_);refine Q2 (T9 hz (by simp) fun AA AO Ah=>?_);replace AO:We AA z TI TO .ellipsis:=AO;refine Q2 ?_;simp only [List.zipIdx_cons,List.zipIdx_nil,Tu,List.forIn_nil];refine Q2 (Q2 (wpAny_onRaise ?_));show Rw _ _ (Sk (.ref i1) >>= _) _ _ _;refine Q2 (bb_tupNext (IsTupleIter.but h1 Ah.extBut D.i1z) (IsTuple.but AZ Ah.extBut D.l1z) hx fun AY Di Ao=>Rl ?_);have Bs:Uy AY TO a b:=Ao.extBut _ _ D.TOi1 (Ah.extBut _ _ D.TOz hTO);refine Q2 (TN Bs rfl ?_);refine Q2 (WD Bs fun B3 BJ AD=>?_);replace BJ:Uy B3 TO x b:=BJ;refine Q2 (wpAny_letGo (Rl ?_));refine Q2 (Q2 (wpAny_onRaise ?_));show Rw _ _ (Sk (.ref i2) >>= _) _ _ _
 refine Q2 (bb_tupNext (IsTupleIter.but (IsTupleIter.but (IsTupleIter.but h2 Ah.extBut D.i2z) Ao.extBut D.i12.symm) AD.extBut D.TOi2.symm)
  (IsTuple.but (IsTuple.but (IsTuple.but Bn Ah.extBut D.l2z) Ao.extBut D.l2i1) AD.extBut D.l2TO) hy fun Bq Gj AU=>Rl ?_)
 have Dj:Uy Bq TO x b:=AU.extBut _ _ D.TOi2 BJ;refine Q2 (TN Dj rfl ?_);refine Q2 (WD Dj fun AH BK Bd=>?_);replace BK:Uy AH TO x y:=BK;refine Q2 (wpAny_letGo (Rl (Rl ?_)));refine Q2 (TN BK rfl ?_);refine Q2 (wpAny_newTuple ?_);have hsz:AH.objs.size=s.heap.objs.size:=by rw [Bd.1,AU.1,AD.1,Ao.1,Ah.1]
 have Ee:We AH z TI TO .ellipsis:=Bd.extBut _ _ D.TOz.symm (AU.extBut _ _ D.i2z.symm (AD.extBut _ _ D.TOz.symm (Ao.extBut _ _ D.i1z.symm AO)))
 have Gk:∀ c o,c≠z->c≠TO->c≠i1->c≠i2->s.heap.get? c=some o->AH.get? c=some o:=fun c o c1 c2 c3 c4 e =>
  Bd.extBut _ _ c2 (AU.extBut _ _ c4 (AD.extBut _ _ c2 (Ao.extBut _ _ c3 (Ah.extBut _ _ c1 e))))
 have Gm:AH.IsTupleIter i1 l1 (k+1):=IsTupleIter.but (IsTupleIter.but (IsTupleIter.but Di AD.extBut D.TOi1.symm) AU.extBut D.i12) Bd.extBut D.TOi1.symm;have Gn:AH.IsTupleIter i2 l2 (k+1):=IsTupleIter.but Gj Bd.extBut D.TOi2.symm;have Gp:z<AH.objs.size:=Rv Ee;show Rw _ _ (Builtin.SmallTypes.ownedTupleHandOut (.ref z) (.ref AH.objs.size) >>= _) _ _ _;refine Q2 ?_;unfold Builtin.SmallTypes.ownedTupleHandOut;have Gq:We (AH.push { cls:=.type "tuple",data:=.seq #[x,y] }) z TI TO .ellipsis:=Q5 _ Ee;refine Q2 (T9 Gq (by simp) fun JG Dk Dl=>?_);replace Dk:We JG z TI TO (Vv AH.objs.size):=Dk;refine T9 Dk (by simp) fun Dm Cw Dn=>?_;replace Cw:We Dm z TI TO (Vv AH.objs.size):=Cw;have up:∀ c o,c≠z->AH.get? c=some o->Dm.get? c=some o:=fun c o c1 e=>Dn.extBut _ _ c1 (Dl.extBut _ _ c1 (Q5 _ e));have Ef:Uy Dm AH.objs.size x y:=Dn.extBut _ _ (Ut Gp) (Dl.extBut _ _ (Ut Gp) (Rf _ rfl));have LR:Dm.objs.size=AH.objs.size+1:=by rw [Dn.1,Dl.1,SD]
 rw [hsz] at Cw Ef LR;refine Rl ⟨_,rfl,?_⟩;show Q (.ref AH.objs.size) _;rw [hsz];refine hQ Dm Cw (up _ _ D.TOz BK) ?_ ?_ Ef LR fun c o c1 c2 c3 c4 e=>up c o c1 (Gk c o c1 c2 c3 c4 e)
 · obtain ⟨o,e,r⟩:=Gm;exact ⟨o,up _ o D.i1z e,r⟩
 · obtain ⟨o,e,r⟩:=Gn;exact ⟨o,up _ o D.i2z e,r⟩
theorem bb_loadIfAlive {a:Q7} {o:T1} {Q:Option T1->Q9->Prop} (hQ:∀ u,some o=some u->Q (some u) s) (h:s.heap.get? a=some o):Rw (RO prog w) A (loadIfAlive a) Q E s:=by
 intro Γ p Qs;show Sem.wp _ _ (.loadIfAlive a .pure) _ _ _ _;rw [Sem.wp_loadIfAlive,h];exact hQ o rfl
theorem bb_notfree {z T:Q7} {b:Bool} {f2 TI TO u v:Q6} (hz:s.heap.get? z=some { cls:=.type "zip",data:=.fields #[Vv T,.bool b,f2,TI,TO] }) (hT:Uy s.heap T u v) :
 Rw (RO prog w) A (So (.ref z)) (fun a s1=>a=false/\∃ AA,s1={ s with heap:=AA }/\AA.get? z=some { cls:=.type "zip",data:=.fields #[Vv T,.bool true,f2,TI,TO] }/\TK z s.heap AA) E s:=by
 unfold So;refine Q2 (Sr hz rfl (x:=Vv T) rfl ?_);show Rw _ _ (loadIfAlive (T:Int).toNat >>= _) _ _ _;rw [SU];refine Q2 (bb_loadIfAlive (fun o (e:some _=some o)=>?_) hT);cases e;show Rw _ _ (if (some _:Option T1).isNone=true then _ else _) _ _ _;rw [if_neg (show ¬ ((some _:Option T1).isNone=true) from Rt)];refine Q2 (Sr hz rfl (x:=.bool b) rfl ?_);cases b with
 | true=>exact Rl ⟨rfl,s.heap,rfl,hz,rfl,fun _ _=>rfl⟩
 | false=>exact Q2 (T9 hz (by simp) fun AA AO Ah=>Rl ⟨rfl,AA,rfl,AO,Ah⟩)
theorem bb_zip_end {z TI TO i1 i2 l1 l2:Q7} {k:Nat} {xs ys:Array Q6} {Q:Fin->Q9->Prop} (hh:A.handled=none)
 (S:ZSt xs ys z TI TO i1 i2 l1 l2 k s.heap) (CL:xs[k]?=none∨ys[k]?=none)
 (hE:∀ h' e,(∀ c o,c≠z->c≠TO->c≠i1->c≠i2->s.heap.get? c=some o->h'.get? c=some o)->(∃ o,h'.get? e=some o/\o.cls=.type "StopIteration")->E (.ref e) { s with heap:=h' }) :
 Rw (RO prog w) A (V1.«zip.__next__» ⟨[.ref z],[]⟩) Q E s:=by
 obtain ⟨D,hz,hTI,⟨a,b,hTO⟩,h1,h2,AZ,Bn⟩:=S;rcases hz with hz | ⟨T,bb,u,v,hz,hT,Qt⟩
 · show Rw _ _ (field (.ref z) 2 >>= _) _ _ _;refine Q2 (Sr hz rfl (x:=.bool false) rfl ?_);show Rw _ _ (field (.ref z) 3 >>= _) _ _ _;refine Q2 (Sr hz rfl (x:=.ref TI) rfl ?_);refine Q2 (TN hTI rfl ?_);show Rw _ _ (So (.ref z) >>= _) _ _ _;refine Q2 ?_;unfold So;refine Q2 (Sr hz rfl (x:=.none) rfl (Rl ?_));simp only [if_true];refine Q2 (wpAny_rule ?_);refine Q2 (Sr hz rfl (x:=.ref TO) rfl ?_);refine Q2 (T9 hz (by simp) fun AA AO Ah=>?_);replace AO:We AA z TI TO .ellipsis:=AO;refine Q2 ?_;simp only [List.zipIdx_cons,List.zipIdx_nil,Tu,List.forIn_nil];refine Q2 (Q2 (wpAny_onRaise ?_));show Rw _ _ (Sk (.ref i1) >>= _) _ _ _;cases hx:xs[k]? with
   | none =>
     refine Q2 (bb_tupEnd hh (IsTupleIter.but h1 Ah.extBut D.i1z) (IsTuple.but AZ Ah.extBut D.l1z) hx fun AY e Ao he=>?_);obtain ⟨oe,EN,EO⟩:=he;have Eg:We AY z TI TO .ellipsis:=Ao _ _ D.i1z.symm AO;have JH:e≠z:=fun x=>by subst x;rw [Eg] at EN;cases EN;simp at EO
     refine T9 Eg (by simp) fun B3 _ AD=>hE B3 e (fun c o c1 _ c3 _ x=>AD.extBut _ _ c1 (Ao _ _ c3 (Ah.extBut _ _ c1 x))) ⟨oe,AD.extBut _ _ JH EN,EO⟩
   | some x =>
     have hy:ys[k]?=none:=by rcases CL with h | h;rw [hx] at h;cases h;exact h
     refine Q2 (bb_tupNext (IsTupleIter.but h1 Ah.extBut D.i1z) (IsTuple.but AZ Ah.extBut D.l1z) hx fun AY Di Ao=>Rl ?_);have Bs:Uy AY TO a b:=Ao.extBut _ _ D.TOi1 (Ah.extBut _ _ D.TOz hTO);refine Q2 (TN Bs rfl ?_);refine Q2 (WD Bs fun B3 BJ AD=>?_);refine Q2 (wpAny_letGo (Rl ?_));refine Q2 (Q2 (wpAny_onRaise ?_));show Rw _ _ (Sk (.ref i2) >>= _) _ _ _
     refine Q2 (bb_tupEnd hh (IsTupleIter.but (IsTupleIter.but (IsTupleIter.but h2 Ah.extBut D.i2z) Ao.extBut D.i12.symm) AD.extBut D.TOi2.symm)
      (IsTuple.but (IsTuple.but (IsTuple.but Bn Ah.extBut D.l2z) Ao.extBut D.l2i1) AD.extBut D.l2TO) hy fun Bq e AU he=>?_)
     obtain ⟨oe,EN,EO⟩:=he;have Eh:We Bq z TI TO .ellipsis:=AU _ _ D.i2z.symm (AD.extBut _ _ D.TOz.symm (Ao.extBut _ _ D.i1z.symm AO));have JH:e≠z:=fun x=>by subst x;rw [Eh] at EN;cases EN;simp at EO
     refine T9 Eh (by simp) fun AH _ Bd=>hE AH e (fun c o c1 c2 c3 c4 x=>Bd.extBut _ _ c1 (AU _ _ c4 (AD.extBut _ _ c2 (Ao.extBut _ _ c3 (Ah.extBut _ _ c1 x))))) ⟨oe,Bd.extBut _ _ JH EN,EO⟩
 · show Rw _ _ (field (.ref z) 2 >>= _) _ _ _;refine Q2 (Sr hz rfl (x:=.bool false) rfl ?_);show Rw _ _ (field (.ref z) 3 >>= _) _ _ _;refine Q2 (Sr hz rfl (x:=.ref TI) rfl ?_);refine Q2 (TN hTI rfl ?_);show Rw _ _ (So (.ref z) >>= _) _ _ _;refine Q2 (Ta (bb_notfree hz hT) (fun a s1 ⟨e1,AA,e2,AO,Ah⟩=>?_) fun _ _ x=>x);subst e1 e2;simp only [Bool.false_eq_true,if_false];rw [<- Array.forIn_toList];refine Q2 ?_;simp only [Tu,List.forIn_nil];refine Q2 (Q2 (S6 ?_));show Rw _ _ (Sk (.ref i1) >>= _) _ _ _;cases hx:xs[k]? with
   | none =>
     refine Q2 (bb_tupEnd hh (IsTupleIter.but h1 Ah.extBut D.i1z) (IsTuple.but AZ Ah.extBut D.l1z) hx fun AY e Ao he=>?_);exact hE AY e (fun c o c1 _ c3 _ x=>Ao _ _ c3 (Ah.extBut _ _ c1 x)) he
   | some x =>
     have hy:ys[k]?=none:=by rcases CL with h | h;rw [hx] at h;cases h;exact h
     refine Q2 (bb_tupNext (IsTupleIter.but h1 Ah.extBut D.i1z) (IsTuple.but AZ Ah.extBut D.l1z) hx fun AY Di Ao=>Rl (Rl ?_));refine Q2 (Q2 (S6 ?_));show Rw _ _ (Sk (.ref i2) >>= _) _ _ _;refine Q2 (bb_tupEnd hh (IsTupleIter.but (IsTupleIter.but h2 Ah.extBut D.i2z) Ao.extBut D.i12.symm) (IsTuple.but (IsTuple.but Bn Ah.extBut D.l2z) Ao.extBut D.l2i1) hy fun Bq e AU he=>?_);exact hE Bq e (fun c o c1 _ c3 c4 x=>AU _ _ c4 (Ao.extBut _ _ c3 (Ah.extBut _ _ c1 x))) he
theorem bb_zip_done {z TI TO i1 i2 l1 l2:Q7} {k:Nat} {xs ys:Array Q6} {Q:Option Q6->Q9->Prop} (hh:A.handled=none) (S:ZSt xs ys z TI TO i1 i2 l1 l2 k s.heap) (CL:xs[k]?=none∨ys[k]?=none)
 (hQ:∀ h',(∀ c o,c∉[z,TO,i1,i2]->s.heap.get? c=some o->h'.get? c=some o)->Q none { s with heap:=h' }):Rw (RO prog w) A (Wl (.ref z)) Q E s:=by
 have hT:=S.typeIs;unfold Wl
 refine Q2 (wpAny_attempt (Tj (name:=QZ "__next__") hT Wv
  (Uv Wv hT F.entry_zip_next (bb_zip_end hh S CL fun h' e hk he=>?_) (F.args_zip_next_1 _))))
 obtain ⟨o,ho,hc⟩:=he;refine Q2 (wpAny_isInstance (T:="StopIteration") (b:=true) ⟨o,ho,hc⟩ isSubtype_stop ?_);exact Rl (hQ _ fun c o hc=>hk c o (fun q=>hc (by simp [q])) (fun q=>hc (by simp [q])) (fun q=>hc (by simp [q])) (fun q=>hc (by simp [q])))
end
end PySem
namespace PySem
open Sem (wp)
namespace F
end F
section
variable {prog:RL} {w:R1} {A:R6} {R:Result->Q9->Prop}
end
section
variable {prog:RL} {w:R1} {A:R6} {E:Q6->Q9->Prop} {s:Q9}
end
end PySem
namespace L2
open PySem PySem.Spec PyProof.Rows
section
variable {X:Cx} {e1 e2:Sm} {t:TA} {p p2 pos AK:Vo}
end
end L2
namespace L2
open PySem PySem.Spec PyProof.Rows
section
variable {κ:Type} [DecidableEq κ]
def dB (Aa:List (κ×V)) (k:κ):Option V:=(Aa.find? fun kv=>decide (kv.1=k)).map (·.2)
def putK (Aa:List (κ×V)) (k:κ) (v:V):List (κ×V) :=
 if (Aa.any fun kv=>decide (kv.1=k))=true then Aa.map (fun kv=>if kv.1=k then (kv.1,v) else kv) else Aa++[(k,v)]
theorem vz {k:κ}:dB ([]:List (κ×V)) k=none:=rfl
theorem cj {p:κ×V} {r:List (κ×V)} {k:κ} (e:p.1=k):dB (p::r) k=some p.2:=by simp [dB,UZ,e]
theorem cu {p:κ×V} {r:List (κ×V)} {k:κ} (e:¬ p.1=k):dB (p::r) k=dB r k:=by simp [dB,UZ,e]
theorem jz (k:κ):∀ Aa:List (κ×V),(Aa.any fun kv=>decide (kv.1=k))=(dB Aa k).isSome
 | []=>rfl
 | p::r=>by
   rw [Wu];by_cases e:p.1=k
   · simp only [cj e,decide_eq_true e,Bool.true_or,Option.isSome_some]
   · rw [cu e,decide_eq_false e,Bool.false_or];exact jz k r
theorem rf (k j:κ) (y:V):∀ Aa:List (κ×V),dB (Aa.map fun kv=>if kv.1=k then (kv.1,y) else kv) j=(dB Aa j).map fun x=>if j=k then y else x
 | []=>rfl
 | p::r=>by
   have ih:=rf k j y r;rw [Rr];by_cases h:p.1=k
   · rw [if_pos h];by_cases e:p.1=j
     · rw [cj (p:=(p.1,y)) e,cj e,Vh,if_pos (e.symm.trans h)]
     · rw [cu (p:=(p.1,y)) e,cu e,ih]
   · rw [if_neg h];by_cases e:p.1=j
     · rw [cj (p:=p) e,cj e,Vh,if_neg (fun z=>h (e.trans z))]
     · rw [cu (p:=p) e,cu e,ih]
theorem nI (k j:κ) (y:V):∀ Aa:List (κ×V),dB Aa k=none->dB (Aa++[(k,y)]) j=if j=k then some y else dB Aa j
 | [],_=>by
   by_cases e:k=j
   · rw [if_pos e.symm];exact cj (p:=(k,y)) e
   · rw [if_neg (fun z=>e z.symm)];exact cu (p:=(k,y)) e
 | p::r,hn=>by
   rw [Rz];have hk:¬ p.1=k:=fun z=>by rw [cj z] at hn;cases hn
   rw [cu hk] at hn;have ih:=nI k j y r hn;by_cases e:p.1=j
   · rw [cj e,cj e,if_neg (fun z=>hk (e.trans z))]
   · rw [cu e,cu e,ih]
theorem mI (Aa:List (κ×V)) (k j:κ) (y:V):dB (putK Aa k y) j=if j=k then some y else dB Aa j:=by
 unfold putK;by_cases a:(Aa.any fun kv=>decide (kv.1=k))=true
 · rw [if_pos a,rf];rw [jz] at a;by_cases e:j=k
   · obtain ⟨x,hx⟩:=Option.isSome_iff_exists.mp a;rw [if_pos e,e,hx,Vh,if_pos rfl]
   · rw [if_neg e];cases dB Aa j with
     | none=>rfl
     | some x=>rw [Vh,if_neg e]
 · rw [if_neg a];refine nI k j y Aa ?_;rw [jz] at a;cases q:dB Aa k with
   | none=>rfl
   | some x=>rw [q] at a;exact (a rfl).elim
theorem kE (Aa:List (κ×V)) (k:κ) (v:V):(putK Aa k v).length<=Aa.length+1:=by
 unfold putK;split
 · rw [Q0];omega
 · rw [Ra,Q3,Te];omega
theorem RelO.isSome_eq {o:Option V} {u:Option Q6} (r:RelO o u):o.isSome=u.isSome:=by
 cases o with
 | none=>cases u with
   | none=>rfl
   | some _=>exact (show False from r).elim
 | some _=>cases u with
   | none=>exact (show False from r).elim
   | some _=>rfl
theorem KV.val {Aa:List (κ×V)} {vs:List (κ×Q6)} (r:KV Aa vs) (k:κ):RelO (dB Aa k) (valueAt vs k):=by
 unfold KV at r;induction r with
 | nil=>exact UG
 | @cons p q ps qs h t ih =>
   obtain ⟨h1,h2⟩:=h;by_cases e:p.1=k
   · have e':q.1=k:=h1.symm.trans e;have b:valueAt (q::qs) k=some q.2:=by simp [valueAt,UZ,e']
     rw [cj e,b];exact h2
   · have e':¬ q.1=k:=fun z=>e (h1.trans z);have b:valueAt (q::qs) k=valueAt qs k:=by simp [valueAt,UZ,e']
     rw [cu e,b];exact ih
end
theorem yg {P:RL} {w:R1} {k:Key} {u:Q6} (r:RelV (kV k) u):(b9 P w).is k u=true:=by
 cases k with
 | inl i=>obtain ⟨t,e⟩:=(show ∃ t,u=VI i t from r);subst e;exact qt P w i t
 | inr x=>obtain ⟨t,e⟩:=(show ∃ t,u=VH x t from r);subst e;exact qS P w x t
theorem oh {P:RL} {w:R1}:∀ {ks:List Key} {us:List Q6},Vals (ks.map kV) us->ItemsAre (b9 P w) ks us
 | [],_,r=>by rw [SY] at r;cases r;exact .nil
 | k::ks,_,r=>by
   rw [Rr] at r;cases r with
   | cons h t=>exact .cons (yg h) (oh t)
abbrev KTd (H:Hp):List (List Key×V)->List (List Key×Q7×Q6)->Prop:=R3 fun p q=>p.1=q.1/\H q.2.1=some (.tup (p.1.map kV))/\RelV p.2 q.2.2
theorem KTd.val {H:Hp} {Aa:List (List Key×V)} {xs:List (List Key×Q7×Q6)} (r:KTd H Aa xs) (k:List Key):RelO (dB Aa k) ((atKey xs k).map (·.2)):=by
 induction r with
 | nil=>exact UG
 | @cons p q ps qs h t ih =>
   obtain ⟨h1,_,h2⟩:=h;by_cases e:p.1=k
   · have e':q.1=k:=h1.symm.trans e;have b:atKey (q::qs) k=some q.2:=by simp [atKey,UZ,e']
     rw [cj e,b];exact h2
   · have e':¬ q.1=k:=fun z=>e (h1.trans z);have b:atKey (q::qs) k=atKey qs k:=by simp [atKey,UZ,e']
     rw [cu e,b];exact ih
theorem KTd.repl {H:Hp} {Aa:List (List Key×V)} {xs:List (List Key×Q7×Q6)} (r:KTd H Aa xs) (k:List Key) {y:V} {u:Q6} (ry:RelV y u) :
 KTd H (Aa.map fun kv=>if kv.1=k then (kv.1,y) else kv) (xs.map (putAt k u)):=by
 induction r with
 | nil=>exact .nil
 | @cons p q ps qs h t ih =>
   rw [Rr,Rr];refine .cons ?_ ih;obtain ⟨h1,h2,h3⟩:=h;unfold putAt;by_cases e:p.1=k
   · rw [if_pos e,if_pos (h1.symm.trans e)];exact ⟨h1,h2,ry⟩
   · rw [if_neg e,if_neg (fun z=>e (h1.trans z))];exact ⟨h1,h2,h3⟩
theorem KTd.put {H:Hp} {Aa:List (List Key×V)} {xs:List (List Key×Q7×Q6)} (r:KTd H Aa xs) (k:List Key) {b:Q7} {y:V} {u:Q6} (hb:H b=some (.tup (k.map kV))) (ry:RelV y u) :
 KTd H (putK Aa k y) (storedH xs k b u):=by
 have e:(Aa.any fun kv=>decide (kv.1=k))=(atKey xs k).isSome:=by
  rw [jz,(r.val k).isSome_eq,Option.isSome_map]
 unfold putK storedH;rw [e];by_cases q:(atKey xs k).isSome=true
 · rw [if_pos q,if_pos q];exact r.repl k ry
 · rw [if_neg q,if_neg q];exact Paired.snoc r ⟨rfl,hb,ry⟩
theorem KTd.keeps {H H':Hp} {Aa:List (List Key×V)} {xs:List (List Key×Q7×Q6)} (r:KTd H Aa xs) (ht:∀ b ys,H b=some (.tup ys)->H' b=some (.tup ys)):KTd H' Aa xs :=
 R3.mapP r fun _ _ z=>⟨z.1,ht _ _ z.2.1,z.2.2⟩
section
variable {P:RL} {w:R1} {H:Hp} {h:SE} {a:Q7}
theorem nU {u:HO} (ok:HOk P w H h) (e:Rd H a u):ObjOk P w H h a u:=e.ok ok
theorem yo {Aa:List (Key×V)} (ok:HOk P w H h) (e:Rd H a (.dK Aa)):Aa.length<=Ry/\(a == Vm)=false/\∃ vs,KV Aa vs/\h.DictOf (b9 P w) a vs :=
 show ObjOk P w H h a (.dK Aa) from nU ok e
theorem tU {ks:List Key} (ok:HOk P w H h) (e:H a=some (.tup (ks.map kV))):(tupleKind (b9 P w)).is h ks a:=by
 obtain ⟨_,its,n,r,h1⟩:=(show ObjOk P w H h a (.tup (ks.map kV)) from ok a _ e);exact ⟨_,its.toArray,n,h1,rfl,rfl,by simpa using oh r⟩
theorem wO {Aa:List (List Key×V)} (ok:HOk P w H h) (e:Rd H a (.dT Aa)):Aa.length<=Ry/\(a == Vm)=false ∧
 ∃ xs,KTd H Aa xs/\h.DictOfH (tupleKind (b9 P w)) a xs:=by
 obtain ⟨z,y,xs,r,o,es,ep,h1,h2,h3,h4,h5⟩:=(show ObjOk P w H h a (.dT Aa) from nU ok e);refine ⟨z,y,xs,r,o,es,ep,h1,h2,h3,h4,fun x hx=>?_,h5⟩
 have all:∀ {l:List (List Key×V)} {m:List (List Key×Q7×Q6)},KTd H l m->∀ x∈m,(tupleKind (b9 P w)).is h x.1 x.2.1:=by
  intro l m q;induction q with
  | nil=>intro x hx;exact nomatch hx
  | @cons p q ps qs hq t ih =>
    intro x hx;rcases Rq.mp hx with e | hx
    · subst e;exact tU ok (by rw [<- hq.1];exact hq.2.1)
    · exact ih x hx
 exact all r x hx
theorem zY {Aa:List (List Key×V)} (ok:HOk P w H h) (e:H a=some (.dT Aa)):Aa.length<=Ry/\(a == Vm)=false ∧
 ∃ xs,KTd H Aa xs/\h.DictOfH (tupleKind (b9 P w)) a xs:=wO ok (.inl e)
end
def yN (H:Hp) (a:Q7) (y:V) (r:Option V):Prop :=
 (∃ Aa k,Rd H a (.dK Aa)/\y=kV k/\r=dB Aa k)∨∃ Aa k b,Rd H a (.dT Aa)/\y=.ref b/\H b=some (.tup (k.map kV))/\r=dB Aa k
section
variable {X:Cx} {pins:List (Q7×T1)} {σ:St} {H:Hp} {s:Q9} {a:Q7} {y v:V} {u r:Q6} {o:Option V} {A:R6} {E:Q6->Q9->Prop}
theorem Inv.big (I:Inv X pins σ H s):Vm<s.heap.objs.size:=by
 have h:RK<s.heap.objs.size:=(I.mod.glob.keeps I.bk).lt;exact WK (by decide) h
theorem vo {Q:Q6->Q9->Prop} (hu:A.units+1<Vx) (I:Inv X pins σ H s) (g:yN H a y (some v)) (ry:RelV y u) (h:∀ w' s',Inv X pins σ H s'->RelV v w'->Q w' s') :
 Rw (RO X.prog X.w) A (U6 (.ref a) u) Q E s:=by
 rcases g with ⟨Aa,k,e,ey,l⟩ | ⟨Aa,k,b,e,ey,eb,l⟩
 · subst ey;obtain ⟨z,hd,vs,rel,dd⟩:=yo I.hok e;obtain ⟨w',hw,De⟩:=RelO.some_of (v:=v) (o:=valueAt vs k) (by rw [l];exact rel.val k);exact wpAny_getItem_of (yg ry) dd.mapOf hw (h w' _ (I.tok _) De)
 · subst ey;cases (show u=Sx b from ry);obtain ⟨z,hd,xs,rel,dd⟩:=wO I.hok e;obtain ⟨w',hw,De⟩:=RelO.some_of (v:=v) (o:=(atKey xs k).map (·.2)) (by rw [l];exact rel.val k);obtain ⟨p,hp,DV⟩:=Tq.mp hw;refine wpAny_getItem_heap (tupleKind_room_in1 hu) (tU I.hok eb) dd hp ?_;rw [DV];exact h w' _ (I.tok _) De
theorem xU {h':SE} {t':Nat} {ob:HO} (I:Inv X pins σ H s) (mu:Mut (H a)) (hs:TK a s.heap h') (he:∃ q,h'.get? a=some q) (new:ObjOk X.prog X.w (upd H a ob) h' a ob) :
 Inv X pins σ (upd H a ob) { s with heap:=h',toks:=t' } :=
 I.write (x:=a) (e:=a) mu (.inl rfl) (fun b q hb z=>(hs.2 b hb).trans z) he new
end
section
variable {X:Cx} {pins:List (Q7×T1)} {σ:St} {H:Hp} {s:Q9} {a:Q7} {Aa:List (Key×V)} {k:Key} {u:Q6} {A:R6} {E:Q6->Q9->Prop}
end
def zP (i:Sm):Prop:=∀ ov iv,subscripted i false ov iv=operate [ov,iv] (U6 ov iv)
theorem xG {prog:RL} {w:R1} {A:R6} {E:Q6->Q9->Prop} {s:Q9} {env:Env} {value slice:Sm} {pos:Vo} {T id:String} {Q:Q6->Q9->Prop}
 (hl:Wk (.type T) "__getitem__"=pure (some (.builtin id))) (hs:zP slice)
 (h:Rw (RO prog w) A (Tz value env) (fun o f'=>Rw (RO prog w) A (Tz slice env) (fun i AS=>AS.TypeIs o T/\Rw (RO prog w) A (U6 o i) Q E AS) E f') E s) :
 Rw (RO prog w) A (Tz (.Subscript value slice pos) env) Q E s:=by
 refine Subscript_ (Ta h (fun o f' AA=>Ta AA (fun i AS AY=>?_) fun _ _ x=>x) fun _ _ x=>x);obtain ⟨hT,AY⟩:=AY;unfold subscriptTail;refine Q2 ?_;rw [getitemInPython_of_ne hT.not_modules];refine Q2 (wpAny_specialOf hT hl ?_)
 have fin:Rw (RO prog w) A (subscripted slice false o i) (fun r BF=>Rw (RO prog w) A (letTemporaryGo value o r >>= fun _=>pure r) Q E BF) E AS:=by
  rw [hs o i];exact wpAny_operating (Ta AY (fun r BF B3=>Q2 (wpAny_letTemporaryGo (Rl B3))) fun _ _ x=>x)
 first
  | exact Rl (Q2 fin)
  | exact Q2 (Rl (Q2 fin))
  | exact Q2 fin
theorem rP {X:Cx} {pins:List (Q7×T1)} {σ:St} {H:Hp} {s:Q9} {a:Q7} {y:V} {o:Option V} (I:Inv X pins σ H s) (g:yN H a y o):s.TypeIs (.ref a) "dict":=by
 rcases g with ⟨Aa,k,e,_,_⟩ | ⟨Aa,k,b,e,_,_,_⟩
 · obtain ⟨_,_,vs,_,dd⟩:=yo I.hok e;exact dd.typeIs
 · obtain ⟨_,_,xs,_,dd⟩:=wO I.hok e;exact dd.typeIs
def zA (td ty:TE):TE:=fun σ H Q=>td σ H fun x H1=>ty σ H1 fun y H2=>∃ a v,x=.ref a/\yN H2 a y (some v)/\Q v H2
section
variable {X:Cx} {o i e value:Sm} {pos pos' DR:Vo} {td ty tv:TE}
theorem xS (hu:X.A.units+1<Vx) (ho:PE X o td) (hi:PE X i ty) (hs:zP i):PE X (.Subscript o i pos) (zA td ty):=by
 intro pins s σ H Q I h;refine xG PySem.F.slot_dict_getitem.lookup hs (thn (ho pins s σ H _ I h) fun u s1 ⟨x,H1,I1,rx,q1⟩=>thn (hi pins s1 σ H1 _ I1 q1) fun iv s2 ⟨y,H2,I2,ry,a,v,ex,g,q2⟩=>?_);subst ex;obtain rfl:u=Sx a:=rx;exact ⟨rP I2 g,vo hu I2 g ry fun w' s3 I3 De=>⟨v,H2,I3,De,q2⟩⟩
end
theorem wZ {P:RL} {w:R1} {H:Hp} (h:SE) (hb:Vm<h.objs.size):ObjOk P w H (h.push { cls:=.type "dict",data:=.dict #[] }) h.objs.size (.dT []) :=
 ⟨RJ _,beq_eq_false_iff_ne.mpr (UX (RT hb)),[],.nil,_,#[],0,Rf _ rfl,⟨rfl,rfl,rfl⟩,rfl,rfl,U4⟩
section
variable {X:Cx} {pos:Vo}
end
section
variable {X:Cx} {pins:List (Q7×T1)} {σ:St} {H:Hp} {s:Q9} {a:Q7} {y d:V} {u r:Q6} {o:Option V} {A:R6} {E:Q6->Q9->Prop}
end
section
variable {X:Cx} {o e f:Sm} {apos AJ:Vo} {td ty tx:TE}
end
section
variable {X:Cx} {pins:List (Q7×T1)} {σ:St} {H:Hp} {s:Q9} {a:Q7} {Aa:List (Key×V)} {A:R6} {E:Q6->Q9->Prop}
end
section
variable {X:Cx} {pins:List (Q7×T1)} {σ:St} {H:Hp} {s:Q9} {a:Q7} {y:V} {u:Q6} {A:R6} {E:Q6->Q9->Prop}
end
end L2
namespace L2
open PySem PySem.Spec PyProof.Rows
inductive yD (K:Q4) (T:String) (xs:List V) (H:Hp) (Q:VK):Prop
 | mk (x:_) (b:_) (t:_) (Aj:xs=[x,.ty T]) (Ak:jx K H x t) (An:TF K t (.type T)=some b) (Az:Q (.bl b) H):yD K T xs H Q
def aaF (K:Q4) (T:String):List V->Hp->VK->Prop:=yD K T
theorem bI {X:Cx} {T:String}:eH X (.builtin "isinstance") (aaF X.K T):=by
 intro pins s σ H xs us Q I r h;obtain ⟨x,b,t,e,ty,k,q⟩:=h;exact wM (T:=T) (b:=b) (t:=t) pins s σ H xs us Q I r ⟨x,e,ty,k,q⟩
variable {K:Q4}
theorem mV:TF K (.type "tuple") (.type "tuple")=some true:=rfl
theorem tD:TF K (.type "str") (.type "str")=some true:=rfl
theorem vT:TF K (.type "int") (.type "int")=some true:=rfl
theorem pU:TF K (.type "str") (.type "tuple")=some false:=by with_unfolding_all rfl
theorem zy:TF K (.type "int") (.type "tuple")=some false:=by with_unfolding_all rfl
theorem zr:TF K (.type "int") (.type "str")=some false:=by with_unfolding_all rfl
theorem wB:TF K (.type "int") (.type "bool")=some false:=by with_unfolding_all rfl
end L2
namespace BB
open PySem L2
set_option genInjectivity true in
inductive Dv where
 | int (i:Int)
 | str (x:Ru)
 | tup (ds:List Dv)
mutual
def Dv.deep:Dv->Nat
 | .int _=>0
 | .str _=>0
 | .tup ds=>cn ds+1
def cn:List Dv->Nat
 | []=>0
 | d::ds=>max d.deep (cn ds)
end
mutual
def Dv.tot:Dv->Nat
 | .int _=>1
 | .str _=>1
 | .tup ds=>du ds+1
def du:List Dv->Nat
 | []=>0
 | d::ds=>d.tot+du ds
end
mutual
def DAt (H:Hp):Dv->V->Prop
 | .int i,v=>v=.int i
 | .str x,v=>v=.str x
 | .tup ds,v=>∃ a vs,v=.ref a/\H a=some (.tup vs)/\DAts H ds vs
def DAts (H:Hp):List Dv->List V->Prop
 | [],vs=>vs=[]
 | d::ds,vs=>∃ v r,vs=v::r/\DAt H d v/\DAts H ds r
end
theorem DAts.nil {H:Hp}:DAts H [] []:=by rw [DAts]
theorem DAts.cons {H:Hp} {d:Dv} {ds:List Dv} {v:V} {vs:List V} (h1:DAt H d v) (h2:DAts H ds vs):DAts H (d::ds) (v::vs):=by rw [DAts];exact ⟨v,vs,rfl,h1,h2⟩
theorem DAts.length {H:Hp}:∀ {ds:List Dv} {vs:List V},DAts H ds vs->vs.length=ds.length
 | [],vs,h=>by rw [DAts] at h;subst h;rfl
 | d::ds,vs,h=>by
   rw [DAts] at h;obtain ⟨v,r,rfl,h1,h2⟩:=h;rw [Q3,Q3,h2.length]
theorem DAts.at {H:Hp}:∀ {ds:List Dv} {vs:List V} {i:Nat} {d:Dv},DAts H ds vs->ds[i]?=some d->∃ v,vs[i]?=some v/\DAt H d v
 | [],vs,i,d,h,e=>by simp at e
 | d0::ds,vs,i,d,h,e=>by
   rw [DAts] at h;obtain ⟨v,r,rfl,h1,h2⟩:=h;cases i with
   | zero=>simp at e;subst e;exact ⟨v,rfl,h1⟩
   | succ i =>
     obtain ⟨u,g1,g2⟩:=h2.at (i:=i) (by simpa using e);exact ⟨u,by simpa using g1,g2⟩
theorem jC:∀ {ds:List Dv} {i:Nat} {d:Dv},ds[i]?=some d->d.deep<=cn ds
 | [],i,d,e=>by simp at e
 | d0::ds,i,d,e=>by
   rw [cn];cases i with
   | zero=>simp at e;subst e;omega
   | succ i =>
     have:=jC (ds:=ds) (i:=i) (by simpa using e);omega
theorem pI:∀ {ds:List Dv} {i:Nat} {d:Dv},ds[i]?=some d->d.tot<=du ds
 | [],i,d,e=>by simp at e
 | d0::ds,i,d,e=>by
   rw [du];cases i with
   | zero=>simp at e;subst e;omega
   | succ i =>
     have:=pI (ds:=ds) (i:=i) (by simpa using e);omega
theorem Dv.tot_pos (d:Dv):1<=d.tot:=by
 cases d with
 | int i=>rw [Dv.tot];omega
 | str x=>rw [Dv.tot];omega
 | tup ds=>rw [Dv.tot];omega
theorem rn:∀ ds:List Dv,ds.length<=du ds
 | []=>RJ _
 | d::ds=>by
   have:=d.tot_pos;have:=rn ds;rw [Q3,du];omega
mutual
def Th.dv:Th->Dv
 | .knot n ks=>.tup (.str n::dvs ks)
 | .call s k=>.tup [.str q,.int s,.int k]
def dvs:List Th->List Dv
 | []=>[]
 | t::ts=>t.dv::dvs ts
end
mutual
theorem At.dv {H:Hp}:∀ {t:Th} {a:Q7},At H t a->DAt H t.dv (.ref a)
 | .knot n ks,a,h=>by
   rw [At] at h;obtain ⟨_,as,h1,h2⟩:=h;rw [Th.dv,DAt];exact ⟨a,_,rfl,h1,.cons (by rw [DAt]) (Ats.dvs h2)⟩
 | .call s k,a,h=>by
   rw [At] at h;rw [Th.dv,DAt];exact ⟨a,_,rfl,h,.cons (by rw [DAt]) (.cons (by rw [DAt]) (.cons (by rw [DAt]) .nil))⟩
theorem Ats.dvs {H:Hp}:∀ {ts:List Th} {as:List Q7},Ats H ts as->DAts H (dvs ts) (as.map V.ref)
 | [],as,h=>by rw [Ats] at h;subst h;rw [BB.dvs];exact .nil
 | t::ts,as,h=>by
   rw [Ats] at h;obtain ⟨a,r,rfl,h1,h2⟩:=h;rw [BB.dvs,Rr];exact .cons (At.dv h1) (Ats.dvs h2)
end
mutual
theorem Th.dv_deep:∀ t:Th,t.dv.deep<=t.tall
 | .knot n ks=>by
   have:=me ks;rw [Th.dv,Dv.deep,cn,Dv.deep,Th.tall];omega
 | .call s k=>by rw [Th.dv,Th.tall];simp [Dv.deep,cn]
theorem me:∀ ts:List Th,cn (dvs ts)<=bd ts
 | []=>by rw [dvs,cn];exact RJ _
 | t::ts=>by
   have:=t.dv_deep;have:=me ts;rw [dvs,cn,bd];omega
end
mutual
theorem Th.dv_tot:∀ t:Th,t.dv.tot<=4 * t.size
 | .knot n ks=>by
   have:=pS ks;rw [Th.dv,Dv.tot,du,Dv.tot,Th.size];omega
 | .call s k=>by rw [Th.dv,Th.size];simp [Dv.tot,du]
theorem pS:∀ ts:List Th,du (dvs ts)<=4 * ay ts
 | []=>by rw [dvs,du];exact RJ _
 | t::ts=>by
   have:=t.dv_tot;have:=pS ts;rw [dvs,du,ay];omega
end
theorem sh {K:Q4} {H:Hp} {a b:Q7} {xs ys:List V} {Q:VK} (ha:H a=some (.tup xs)) (hb:H b=some (.tup ys)) (hz:xs.length+ys.length<=1000000) (q:∀ p H',L2.Same H H'->H' p=some (.tup (xs++ys))->Q (.ref p) H'):vy K (.ref a) (.ref b) H Q:=by
 refine ⟨a,b,xs,ys,rfl,rfl,SqT.of ha,SqT.of hb,aj hz,fun e=>?_,fun _ e=>?_,fun _ _ p hp=>?_⟩
 · exact q b H (.refl _) (by rw [e];exact hb)
 · exact q a H (.refl _) (by rw [e,RC];exact ha)
 · exact q p _ (ai hp _) ac
mutual
/-- all LS with LU places,a knot ahead of its kids -/
def Th.pl (pre:List Int):Th->List (List Int×Th)
 | .knot n ks=>(pre,.knot n ks)::pls pre 0 ks
 | .call s k=>[(pre,.call s k)]
def pls (pre:List Int) (i:Int):List Th->List (List Int×Th)
 | []=>[]
 | t::ts=>t.pl (pre++[i])++pls pre (i+1) ts
end
theorem Th.pl_eq (pre:List Int) (t:Th):t.pl pre=(pre,t)::pls pre 0 t.kids:=by
 cases t with
 | knot n ks=>rw [Th.pl];rfl
 | call s k=>rw [Th.pl];simp [Th.kids,pls]
mutual
theorem Th.pl_len (pre:List Int):∀ t:Th,(t.pl pre).length=t.size
 | .knot n ks=>by rw [Th.pl,Th.size,Q3,uh pre 0 ks]
 | .call s k=>by rw [Th.pl,Th.size];rfl
theorem uh (pre:List Int) (i:Int):∀ ts:List Th,(pls pre i ts).length=ay ts
 | []=>by rw [pls,ay];rfl
 | t::ts=>by rw [pls,ay,Ra,Th.pl_len _ t,uh pre (i+1) ts]
end
def szP:List (List Int×Th)->Nat
 | []=>0
 | p::ps=>p.2.size+szP ps
def plP:List (List Int×Th)->List (List Int×Th)
 | []=>[]
 | p::ps=>p.2.pl p.1++plP ps
theorem fm:∀ a b,szP (a++b)=szP a+szP b
 | [],b=>by simp [szP]
 | p::a,b=>by rw [Rz,szP,szP,fm a b,Nat.add_assoc]
theorem ue (a:List (List Int×Th)):szP a.reverse=szP a:=by
 induction a with
 | nil=>rfl
 | cons x xs ih=>rw [RY,fm,ih,szP,szP,szP];omega
theorem mO:∀ a b,plP (a++b)=plP a++plP b
 | [],b=>by simp [plP]
 | p::a,b=>by rw [Rz,plP,plP,mO a b,RF]
theorem ut:∀ a,(plP a).length=szP a
 | []=>rfl
 | p::a=>by rw [plP,szP,Ra,Th.pl_len,ut a]
theorem tY:∀ a,a.length<=szP a
 | []=>RJ _
 | p::a=>by
   have:=p.2.size_pos;have:=tY a;rw [Q3,szP];omega
def fe (pre:List Int) (i:Int):List Th->List (List Int×Th)
 | []=>[]
 | t::ts=>(pre++[i],t)::fe pre (i+1) ts
theorem mT (pre:List Int) (i:Int):∀ ts,(fe pre i ts).length=ts.length
 | []=>rfl
 | t::ts=>by rw [fe,Q3,Q3,mT pre (i+1) ts]
theorem rM (pre:List Int) (i:Int):∀ ts,plP (fe pre i ts)=pls pre i ts
 | []=>by rw [fe,plP,pls]
 | t::ts=>by rw [fe,plP,pls,rM pre (i+1) ts]
theorem qY (pre:List Int) (i:Int):∀ ts,szP (fe pre i ts)=ay ts
 | []=>by rw [fe,szP,ay]
 | t::ts=>by rw [fe,szP,ay,qY pre (i+1) ts]
theorem rR (pre:List Int):∀ (i:Int) (ts:List Th) (j:Nat) (t:Th),ts[j]?=some t->(fe pre i ts)[j]?=some (pre++[i+j],t)
 | i,[],j,t,e=>by simp at e
 | i,u::ts,0,t,e=>by simp at e;subst e;rw [fe];simp
 | i,u::ts,j+1,t,e=>by
   rw [fe,List.getElem?_cons_succ,rR pre (i+1) ts j t (by simpa using e)];have:i+1+(j:Int)=i+((j+1:Nat):Int):=by omega
   rw [this]
theorem qL (pre:List Int):∀ (i:Int) (ts:List Th) (p:List Int×Th),p∈fe pre i ts->p.1.length=pre.length+1/\p.2∈ts
 | i,[],p,h=>by rw [fe] at h;cases h
 | i,u::ts,p,h=>by
   rw [fe] at h;rcases Rq.mp h with rfl | h
   · exact ⟨by simp,Rn ..⟩
   · have:=qL pre (i+1) ts p h;exact ⟨this.1,Ri _ this.2⟩
def PAt (H:Hp) (p:List Int×Th) (a:Q7):Prop:=∃ pa ta,H a=some (.tup [.ref pa,.ref ta])/\H pa=some (.tup (p.1.map V.int))/\At H p.2 ta
def PsAt (H:Hp) (ps:List (List Int×Th)) (as:List Q7):Prop:=R3 (PAt H) ps as
theorem PAt.mono {H H':Hp} (k:KT H H') {p:List Int×Th} {a:Q7} (h:PAt H p a):PAt H' p a:=by
 obtain ⟨pa,ta,h1,h2,h3⟩:=h;exact ⟨pa,ta,k _ _ h1,k _ _ h2,h3.mono k⟩
theorem PsAt.mono {H H':Hp} (k:KT H H') {ps:List (List Int×Th)} {as:List Q7} (h:PsAt H ps as):PsAt H' ps as:=P2.mp (fun _ _ e=>PAt.mono k e) h
theorem P2.reverse {α β:Type} {F:α->β->Prop}:∀ {a:List α} {b:List β},R3 F a b->R3 F a.reverse b.reverse
 | _,_,.nil=>.nil
 | _,_,.cons r t=>by
   rw [RY,RY];exact P2.append (P2.reverse t) (.cons r .nil)
theorem P2.snoc_inv {α β:Type} {F:α->β->Prop} {a:List α} {b:List β} {y:β} (h:R3 F a (b++[y])):∃ us x,a=us++[x]/\R3 F us b/\F x y:=by
 have r:=P2.reverse h;rw [Uo,List.reverse_singleton,List.singleton_append] at r;cases e:a.reverse with
 | nil=>rw [e] at r;cases r
 | cons x us =>
   rw [e] at r;cases r with
   | cons h1 h2 =>
     refine ⟨us.reverse,x,?_,?_,h1⟩
     · rw [<- RY,<- e,Ue]
     · have:=P2.reverse h2;rw [Ue] at this;exact this
theorem o9 {t u:Th} (h:u∈t.kids):u.tall+1<=t.tall:=by
 have:=jv h;rw [t.tall_eq];omega
end BB
namespace BB
open PySem L2
mutual
def Th.kn:Th->Nat
 | .knot _ ks=>kns ks+1
 | .call _ _=>0
def kns:List Th->Nat
 | []=>0
 | t::ts=>t.kn+kns ts
end
mutual
def Th.FitP (ks:List (Ru×Int)):Th->Prop
 | .knot n ts=>(n,(ts.length:Int))∈ks/\FitPs ks ts
 | .call s k=>0<=s/\s<20/\0<=k/\k<3
def FitPs (ks:List (Ru×Int)):List Th->Prop
 | []=>True
 | t::ts=>t.FitP ks/\FitPs ks ts
end
section
variable {ext:Th->List V} {H H':Hp} {t:Th} {a:Q7} {ts:List Th} {es:List Q7}
end
def Th.isCall:Th->Bool
 | .knot _ _=>false
 | .call _ _=>true
def zb:List Int×Th->Option (List Int×Int×Int)
 | (_,.knot _ _)=>none
 | (p,.call s k)=>some (p,s,k)
def callsOf (ps:List (List Int×Th)):List (List Int×Int×Int):=ps.filterMap zb
theorem gS (a b:List (List Int×Th)):callsOf (a++b)=callsOf a++callsOf b:=List.filterMap_append
theorem kR (a:List (List Int×Th)):(callsOf a).length<=a.length:=List.length_filterMap_le _ _
def CAt (H:Hp) (c:List Int×Int×Int) (a:Q7):Prop:=∃ pa ca,H a=some (.tup [.ref pa,.ref ca])/\H pa=some (.tup (c.1.map V.int))/\H ca=some (.tup [.int c.2.1,.int c.2.2])
def CsAt (H:Hp) (cs:List (List Int×Int×Int)) (as:List Q7):Prop:=R3 (CAt H) cs as
theorem CAt.mono {H H':Hp} (k:KT H H') {c:List Int×Int×Int} {a:Q7} (h:CAt H c a):CAt H' c a:=by
 obtain ⟨pa,ca,h1,h2,h3⟩:=h;exact ⟨pa,ca,k _ _ h1,k _ _ h2,k _ _ h3⟩
theorem CsAt.mono {H H':Hp} (k:KT H H') {cs:List (List Int×Int×Int)} {as:List Q7} (h:CsAt H cs as):CsAt H' cs as:=P2.mp (fun _ _ e=>CAt.mono k e) h
theorem rF {ps:List (List Int×Th)} {c:List Int×Int×Int} (h:c∈callsOf ps):(c.1,Th.call c.2.1 c.2.2)∈ps:=by
 obtain ⟨⟨p,t⟩,h1,h2⟩:=Vt.mp h;cases t with
 | knot n ks=>cases h2
 | call s k =>
   cases h2;exact h1
end BB
namespace BB
open PySem PySem.Spec PyProof.Rows L2
mutual
theorem DAt.inj {H:Hp}:∀ {d e:Dv} {v:V},DAt H d v->DAt H e v->d=e
 | .int i,.int j,v,h,g=>by rw [DAt] at h;rw [DAt] at g;rw [h] at g;cases g;rfl
 | .int i,.str y,v,h,g=>by rw [DAt] at h;rw [DAt] at g;rw [h] at g;cases g
 | .int i,.tup es,v,h,g=>by rw [DAt] at h;rw [DAt] at g;obtain ⟨a,vs,e,_⟩:=g;rw [h] at e;cases e
 | .str x,.int j,v,h,g=>by rw [DAt] at h;rw [DAt] at g;rw [h] at g;cases g
 | .str x,.str y,v,h,g=>by rw [DAt] at h;rw [DAt] at g;rw [h] at g;cases g;rfl
 | .str x,.tup es,v,h,g=>by rw [DAt] at h;rw [DAt] at g;obtain ⟨a,vs,e,_⟩:=g;rw [h] at e;cases e
 | .tup ds,.int j,v,h,g=>by rw [DAt] at h;rw [DAt] at g;obtain ⟨a,vs,e,_⟩:=h;rw [e] at g;cases g
 | .tup ds,.str y,v,h,g=>by rw [DAt] at h;rw [DAt] at g;obtain ⟨a,vs,e,_⟩:=h;rw [e] at g;cases g
 | .tup ds,.tup es,v,h,g=>by
   rw [DAt] at h;rw [DAt] at g;obtain ⟨a,vs,e1,h1,h2⟩:=h;obtain ⟨b,ws,e2,g1,g2⟩:=g;rw [e1] at e2;cases e2;rw [h1] at g1;cases g1;rw [DAts.inj h2 g2]
theorem DAts.inj {H:Hp}:∀ {ds es:List Dv} {vs:List V},DAts H ds vs->DAts H es vs->ds=es
 | [],[],vs,h,g=>rfl
 | [],e::es,vs,h,g=>by rw [DAts] at h;rw [DAts] at g;obtain ⟨v,r,z,_⟩:=g;rw [h] at z;cases z
 | d::ds,[],vs,h,g=>by rw [DAts] at h;rw [DAts] at g;obtain ⟨v,r,z,_⟩:=h;rw [g] at z;cases z
 | d::ds,e::es,vs,h,g=>by
   rw [DAts] at h;rw [DAts] at g;obtain ⟨v,r,z,h1,h2⟩:=h;obtain ⟨v',r',z',g1,g2⟩:=g;rw [z] at z';cases z';rw [DAt.inj h1 g1,DAts.inj h2 g2]
end
end BB
namespace L2
open PySem PySem.Spec PySem.SeqAt PyProof.Rows BB
open Classical in
theorem v5 {X:Cx} {pins:List (Q7×T1)} {σ:St} {H:Hp} {s:Q9} (I:Inv X pins σ H s) {ds es:List Dv} {a b:Q7} {vs ws:List V} {A:R6} (ha:SqT X.K H a vs) (hb:SqT X.K H b ws) (DH:DAts H ds vs) (Ci:DAts H es ws) (hu:A.units<Vx)
 (ih:∀ (j:Nat) (d e:Dv) (x y:V) (u v:Q6),ds[j]?=some d->DAt H d x->DAt H e y->RelV x u->RelV y v->EqAt A.in1 s u v (decide (d=e))):RcAt A s (.ref a) (.ref b) (decide (Dv.tup ds=Dv.tup es)):=by
 obtain ⟨its,r1,p1,_⟩:=I.tuple ha;obtain ⟨Am,r2,p2,_⟩:=I.tuple hb;have l1:its.length=ds.length:=by rw [<- r1.length,DH.length]
 have l2:Am.length=es.length:=by rw [<- r2.length,Ci.length]
 have JI:RcAt A s (.ref a) (.ref b) ((Sn (min its.toArray.size Am.toArray.size)).all (fun j=>decide (ds[j]?=es[j]?)) && its.toArray.size == Am.toArray.size):=by
  refine RcAt.tuples (show s.heap.IsTuple a its.toArray from p1) (show s.heap.IsTuple b Am.toArray from p2) hu fun j h1 h2=>?_;have Ei:j<ds.length:=by rw [<- l1];simpa using h1
  have DI:j<es.length:=by rw [<- l2];simpa using h2
  have e1:ds[j]?=some ds[j]:=Q1 Ei;have e2:es[j]?=some es[j]:=Q1 DI;obtain ⟨x',BG,dx⟩:=DH.at e1;obtain ⟨y',EG,dy⟩:=Ci.at e2;obtain ⟨u',CM,Gr⟩:=r1.get BG;obtain ⟨v',B0,Gs⟩:=r2.get EG;have e3:decide (ds[j]?=es[j]?)=decide (ds[j]=es[j]):=by rw [e1,e2];simp
  have e4:its.toArray[j]=u':=by
   rw [Q1 (by rw [l1];exact Ei)] at CM;simpa using CM
  have e5:Am.toArray[j]=v':=by
   rw [Q1 (by rw [l2];exact DI)] at B0;simpa using B0
  rw [e3,e4,e5];exact ih j ds[j] es[j] x' y' u' v' e1 dx dy Gr Gs
 have e:decide (Dv.tup ds=Dv.tup es)=((Sn (min its.toArray.size Am.toArray.size)).all (fun j=>decide (ds[j]?=es[j]?)) && its.toArray.size == Am.toArray.size):=by
  rw [Rc,Rc,l1,l2];by_cases h:ds=es
  · subst h;rw [decide_eq_true rfl];symm;simp
  · rw [decide_eq_false (fun z=>h (Dv.tup.inj z))];symm;by_cases hl:ds.length=es.length
    · rw [hl,Nat.min_self]
      have:¬ ((Sn es.length).all (fun j=>decide (ds[j]?=es[j]?)))=true:=by
       intro z;apply h;apply WN;intro j;by_cases hj:j<es.length
       · have:=TB.mp z j (V9.mpr hj);exact of_decide_eq_true this
       · rw [UA (by omega),UA (by omega)]
      rw [Uj.mpr this];rfl
    · have:(ds.length == es.length)=false:=by simpa using hl
      rw [this,Wg]
 rw [e];exact JI
open Classical in
theorem t5 {X:Cx} {pins:List (Q7×T1)} {σ:St} {H:Hp} {s:Q9} (I:Inv X pins σ H s):∀ (n:Nat) (d e:Dv),d.tot<=n->∀ (x y:V) (u v:Q6) (A:R6),DAt H d x->DAt H e y->RelV x u->RelV y v->A.units+d.deep<Vx->EqAt A s u v (decide (d=e))
 | 0,d,e,hn,x,y,u,v,A,hd,he,ru,rv,hu=>by have:=d.tot_pos;omega
 | n+1,.int i,.int j,hn,x,y,u,v,A,hd,he,ru,rv,hu=>by
   rw [DAt] at hd;rw [DAt] at he;subst hd he;obtain ⟨t,rfl⟩:=ru;obtain ⟨t',rfl⟩:=rv
   have e:decide (Dv.int i=Dv.int j)=(i == j):=by
    by_cases h:i=j
    · subst h;simp
    · rw [decide_eq_false (fun z=>h (Dv.int.inj z))];simp [h]
   rw [e];exact EqAt.int_int i t j t'
 | n+1,.int i,.str b,hn,x,y,u,v,A,hd,he,ru,rv,hu=>by
   rw [DAt] at hd;rw [DAt] at he;subst hd he;obtain ⟨t,rfl⟩:=ru;obtain ⟨t',rfl⟩:=rv;rw [decide_eq_false (fun z=>by cases z)];exact EqAt.int_str i t b t'
 | n+1,.int i,.tup es,hn,x,y,u,v,A,hd,he,ru,rv,hu=>by
   rw [DAt] at hd;rw [DAt] at he;obtain ⟨a,vs,rfl,ha,_⟩:=he;subst hd;obtain ⟨t,rfl⟩:=ru;cases rv;obtain ⟨its,_,p,_⟩:=I.tuple (SqT.of (K:=X.K) ha);rw [decide_eq_false (fun z=>by cases z)];exact EqAt.int_tuple i t (show s.heap.IsTuple a its.toArray from p) (by omega)
 | n+1,.str b,.int j,hn,x,y,u,v,A,hd,he,ru,rv,hu=>by
   rw [DAt] at hd;rw [DAt] at he;subst hd he;obtain ⟨t,rfl⟩:=ru;obtain ⟨t',rfl⟩:=rv;rw [decide_eq_false (fun z=>by cases z)];exact EqAt.str_int b t j t'
 | n+1,.str b,.str c,hn,x,y,u,v,A,hd,he,ru,rv,hu=>by
   rw [DAt] at hd;rw [DAt] at he;subst hd he;obtain ⟨t,rfl⟩:=ru;obtain ⟨t',rfl⟩:=rv
   have e:decide (Dv.str b=Dv.str c)=(b == c):=by
    by_cases h:b=c
    · subst h;simp
    · rw [decide_eq_false (fun z=>h (Dv.str.inj z))];simp [h]
   rw [e];exact EqAt.str_str b t c t'
 | n+1,.str b,.tup es,hn,x,y,u,v,A,hd,he,ru,rv,hu=>by
   rw [DAt] at hd;rw [DAt] at he;obtain ⟨a,vs,rfl,ha,_⟩:=he;subst hd;obtain ⟨t,rfl⟩:=ru;cases rv;obtain ⟨its,_,p,_⟩:=I.tuple (SqT.of (K:=X.K) ha);rw [decide_eq_false (fun z=>by cases z)];exact EqAt.str_tuple b t (show s.heap.IsTuple a its.toArray from p) (by omega)
 | n+1,.tup ds,.int j,hn,x,y,u,v,A,hd,he,ru,rv,hu=>by
   rw [DAt] at hd;rw [DAt] at he;obtain ⟨a,vs,rfl,ha,_⟩:=hd;subst he;cases ru;obtain ⟨t,rfl⟩:=rv;obtain ⟨its,_,p,_⟩:=I.tuple (SqT.of (K:=X.K) ha);rw [decide_eq_false (fun z=>by cases z)];exact EqAt.tuple_int j t (show s.heap.IsTuple a its.toArray from p) (by omega)
 | n+1,.tup ds,.str b,hn,x,y,u,v,A,hd,he,ru,rv,hu=>by
   rw [DAt] at hd;rw [DAt] at he;obtain ⟨a,vs,rfl,ha,_⟩:=hd;subst he;cases ru;obtain ⟨t,rfl⟩:=rv;obtain ⟨its,_,p,_⟩:=I.tuple (SqT.of (K:=X.K) ha);rw [decide_eq_false (fun z=>by cases z)];exact EqAt.tuple_str b t (show s.heap.IsTuple a its.toArray from p) (by omega)
 | n+1,.tup ds,.tup es,hn,x,y,u,v,A,hd,he,ru,rv,hu=>by
   have Fy:=hd;have NV:=he;rw [DAt] at hd;rw [DAt] at he;obtain ⟨a,vs,rfl,ha,DH⟩:=hd;obtain ⟨b,ws,rfl,hb,Ci⟩:=he;cases ru;cases rv;by_cases LV:a=b
   · subst LV;rw [decide_eq_true (DAt.inj Fy NV)];exact EqAt.same _
   rw [Dv.tot] at hn;rw [Dv.deep] at hu;refine EqAt.of_refs LV (v5 I (SqT.of ha) (SqT.of hb) DH Ci (by omega) fun j d e x' y' u' v' e1 dx dy Gr Gs=>?_);have q1:=pI e1;have q2:=jC e1;refine t5 I n d e (by omega) x' y' u' v' A.in1 dx dy Gr Gs ?_;show A.units+1+_<Vx;omega
end L2
namespace BB
open PySem L2
end BB
namespace PySem
theorem bb_extendT (l:Q7) (items:Array Q6) (n:Nat) (b:Q7) (Bt:Array Q6) (n2:Nat) (dd:Option Q7) (sl:Array (Option Q6)) (g0:¬(!items.isEmpty && TL (items.size+Bt.size))=true) (g1:items.size<=Ry) (g2:items.size+Bt.size<=Ry+1) :
 Meets (V1.«list.extend» ⟨[.ref l,.ref b],[]⟩) (fun _ R s=>s.heap.get? l=some { cls:=.type "list",dict:=none,data:=.seq items n,slots:=#[] }/\s.heap.get? b=some { cls:=.type "tuple",dict:=dd,data:=.seq Bt n2,slots:=sl }/\R (.ok (.ret Ur)) { s with heap:=s.heap.update l (Wq fun x=>x++Bt),toks:=s.toks }) :=
 .of_wp fun prog w A R s h=>by
  obtain ⟨hp,g,d,tk,os⟩:=s;obtain ⟨hl,hb,h⟩:=h;have f1:=AutoSeq1.idx_int;have f2:=AutoSeq1.sub_tuple_tuple;have f3:=AutoSeq1.sub_list_list;have f4:=AutoSeq1.sub_tuple_list;have f5:=AutoSeq1.sub_list_tuple;have z2:(items++Bt).size<=Ry+1:=by rw [Array.size_append];exact g2
  wp_walk using (wpAny_updateSeq hl rfl (hz:=g1) (_hz':=z2)),TM hl,TM hb
  exact ⟨_,rfl,h⟩
end PySem
namespace L2
open PySem PySem.Spec PyProof.Rows
section
variable {X:Cx}
def vU (K:Q4):V->List V->Hp->VK->Prop:=fun x vs H Q=>∃ l b xs zs,x=.ref l/\vs=[.ref b]/\H l=some (.lst xs)/\SqT K H b zs/\xs.length+zs.length<=Ry/\Q .non (upd H l (.lst (xs++zs)))
theorem sZ:MtM X "list.extend" (vU X.K):=by
 intro pins s σ H x vs v us Q I rx rv h;obtain ⟨l,b,xs,zs,rfl,rfl,hH,hB,hz,q⟩:=h;cases rx;obtain ⟨u,rfl,ru⟩:=rv.one;cases ru;obtain ⟨z,its,n,r,hl,e⟩:=I.lstM hH;obtain ⟨Am,r2,p2,_⟩:=I.tuple hB;have Bn:=r2.length;obtain ⟨⟨F1,Ft,data2,Fu⟩,e2,CW,n2,hd2⟩:=p2;simp only at CW hd2;subst CW hd2;have hsz:its.toArray.size+Am.toArray.size<=Ry:=by rw [Rc,Rc];omega
 have B2:¬ (!its.toArray.isEmpty && TL (its.toArray.size+Am.toArray.size))=true:=by
  rw [lT hsz,Wg];exact Rt
 refine UD F.slot_list_extend ⟨_,e,rfl⟩ F.entry_list_extend (F.args_list_extend_2 _ _)
  (bb_extendT l its.toArray n b Am.toArray n2 Ft Fu B2 (by rw [Rc];omega) (by omega)) ⟨e,e2,?_⟩
 refine ⟨.non,_,I.lset (its':=its++Am) hH e (by simp) (r.append r2) ?_,rfl,q⟩;rw [Ra];omega
theorem uM {bs:List Bool} {its:List Q6} (r:Vals (bs.map V.bl) its) {i:Nat} {v:Q6} (h:its[i]?=some v):∃ b,bs[i]?=some b/\v=.bool b:=by
 have hl:=r.length;have hi:i<its.length:=(Rm.mp h).1;rw [Q0] at hl;obtain ⟨u,hu,ru⟩:=r.get (i:=i) (x:=.bl bs[i]) (by rw [Rg,Q1 (by omega)];rfl);rw [h] at hu;cases hu;cases ru;exact ⟨_,Q1 (by omega),rfl⟩
def abc (K:Q4):List V->Hp->VK->Prop:=fun xs H Q=>∃ (p:Q7) (bs:List Bool),xs=[.ref p]/\SqL K H p (bs.map V.bl)/\Q (.bl (bs.all id)) H
theorem rT (hc:X.calm=true):eH X (.builtin "all") (abc X.K):=by
 intro pins s σ H xs us Q I r h;obtain ⟨p,bs,rfl,hl,q⟩:=h;obtain ⟨u,rfl,rx⟩:=vals1 r;cases rx;obtain ⟨its,rv,pl,_⟩:=I.list hl;have hlen:=rv.length;rw [Q0] at hlen;have Ax:p<s.heap.objs.size:=by obtain ⟨_,_,e,_⟩:=pl;exact Rv e
 refine call_all_walk (Vg pl.isList ?_);refine ⟨s.heap.objs.size,[s.heap.objs.size,p],[s.heap.objs.size],its.toArray.size,_,_,fun i=>(bs[i]?).getD true,rfl,Walks.list (A:=X.A.in1) (I.ok.hd hc) _ p (RT Ax) its.toArray,⟨⟨_,Rf _ rfl,rfl,rfl⟩,pl.isList.push _⟩,fun i v s' Q' E' hP hQ=>?_,fun h' tk hk=>?_⟩
 · obtain ⟨b,e,rfl⟩:=uM rv (i:=i) (v:=v) (by simpa using hP);simp only [e,Option.getD_some] at hQ;exact Tv hQ
 · have e:((Sn its.toArray.size).all fun i=>(bs[i]?).getD true)=bs.all id:=by
    rw [Rc,<- hlen];exact LSm.range_all bs
   rw [e];exact ⟨.bl (bs.all id),H,I.kept (LSm.kept_iter hk),rfl,q⟩
end
end L2
namespace BB
open PySem L2
def dD:List (Ru×Int)->Ru->Int
 | [],_=>-1
 | k::r,n=>if k.1=n then k.2 else dD r n
theorem mi {n:Ru} {m:Nat}:∀ {ks:List (Ru×Int)},(ks.map (·.1)).Nodup->(dD ks n=(m:Int)↔(n,(m:Int))∈ks)
 | [],_=>by
   rw [dD];constructor
   · intro h;omega
   · intro h;cases h
 | (a,b)::r,nd=>by
   rw [Rr,Td] at nd;rw [dD];by_cases h:a=n
   · rw [if_pos h];subst h;constructor
     · intro e;have e':b=(m:Int):=e;rw [e'];exact Rn ..
     · intro e;rcases Rq.mp e with e | e
       · exact (Prod.mk.inj e).2.symm
       · exact absurd (Sl.mpr ⟨_,e,rfl⟩) nd.1
   · rw [if_neg h,mi nd.2];constructor
     · exact Ri _
     · intro e;rcases Rq.mp e with e | e
       · exact absurd (Prod.mk.inj e).1.symm h
       · exact e
def okP (ks:List (Ru×Int)) (st kd:Int):Th->Bool
 | .knot n ts=>decide (dD ks n=((ts.length:Nat):Int))
 | .call s k=>decide (0<=s/\s<st) && decide (0<=k/\k<kd)
def fpb (ks:List (Ru×Int)) (st kd:Int) (t:Th):Bool:=t.walk.all (okP ks st kd)
def v7 (ks:List (Ru×Int)) (st kd:Int) (ts:List Th):Bool:=(walks ts).all (okP ks st kd)
theorem wJ (ks:List (Ru×Int)) (st kd:Int) (t:Th):fpb ks st kd t=(okP ks st kd t && v7 ks st kd t.kids):=by
 unfold fpb v7;rw [t.walk_eq,Vf]
theorem mD (ks:List (Ru×Int)) (st kd:Int):∀ ts:List Th,v7 ks st kd ts=(ts.map (fpb ks st kd)).all id
 | []=>by rfl
 | t::ts=>by
   rw [Rr,Vf,<- mD ks st kd ts];unfold v7 fpb;rw [walks,List.all_append];rfl
theorem nF {w:Ru} {n:Int} (h0:0<=n) (h:n+1<=(w.length:Int)):(fN w none (some (n+1))).length=n.toNat+1:=by
 rw [jG]
 have e1:HT.sIx w.length w.length (some (n+1))=n.toNat+1:=by
  show (if n+1<0 then _ else min (n+1).toNat w.length)=_;rw [if_neg (by omega)];omega
 have e2:HT.sIx w.length 0 none=0:=rfl;rw [e1,e2];omega
theorem xH {A B:Ru} {c d:Nat} (h:A++⟨#[c]⟩++B=A++⟨#[d]⟩++B):c=d:=by
 have h1:(A.cps++#[c]++B.cps)=(A.cps++#[d]++B.cps):=congrArg Str.cps h;have h2:=congrArg WQ h1;simp at h2;exact h2
theorem tM {base i j:Int} (hi:0<=i) (JJ:i<8) (hj:0<=j) (Qu:j<8) (h:nameOf base i=nameOf base j):i=j:=by
 unfold nameOf at h;split at h
 · have h1:=congrArg Str.length h;rw [nF hi (by rw [cX];omega),nF hj (by rw [cX];omega)] at h1;omega
 · have h1:=xH h;unfold kW at h1;have a1:=RS (((((base / 112) / 26 ^ (nAt base).toNat)%26).toNat:Int)+i) (by decide:(26:Int)≠0);have a2:=RS (((((base / 112) / 26 ^ (nAt base).toNat)%26).toNat:Int)+j) (by decide:(26:Int)≠0);generalize ((((base / 112) / 26 ^ (nAt base).toNat)%26).toNat:Int)=l at h1 a1 a2;omega
theorem iH (cell:Int):((cf cell).map (·.1)).Nodup:=by
 have hm:=jj cell;refine List.pairwise_iff_getElem.mpr fun i j hi hj Ej e=>?_;rw [Q0] at hi hj;rw [List.getElem_map,List.getElem_map] at e;have e1:=(cF (Q1 hi)).1;have e2:=(cF (Q1 hj)).1;rw [e1,e2] at e;rw [dl] at hi hj;have:=tM (by omega) (by omega) (by omega) (by omega) e;omega
def kDv (k:Ru×Int):Dv:=.tup [.str k.1,.int k.2]
theorem wD {H:Hp}:∀ {ks:List (Ru×Int)} {as:List Q7},R3 (KAt H) ks as->DAts H (ks.map kDv) (as.map V.ref)
 | _,_,.nil=>.nil
 | _,_,.cons r h=>by
   rw [Rr,Rr];refine .cons ?_ (wD h);rw [kDv,DAt];exact ⟨_,_,rfl,r,.cons (by rw [DAt]) (.cons (by rw [DAt]) .nil)⟩
theorem mS:∀ ks:List (Ru×Int),cn (ks.map kDv)<=1
 | []=>by rw [SY,cn];exact RJ _
 | k::ks=>by
   have:=mS ks;rw [Rr,cn,kDv];simp only [Dv.deep,cn];omega
theorem zG {p:Prop} [Decidable p] (h:(!decide p)=true):¬ p:=by
 intro z;rw [decide_eq_true z] at h;cases h
theorem yZ {p:Prop} [Decidable p] (h:¬ (!decide p)=true):p:=by
 by_cases z:p
 · exact z
 · exfalso;apply h;rw [decide_eq_false z];rfl
end BB
namespace PySem
open Sem (wp)
namespace F
theorem bb_entry_upd:entryFor table "dict.update.loop"=some V1.«dict.update.loop»:=entryFor_of_tree (by kernel_rfl)
theorem bb_plain_upd:plainId "dict.update.loop"=true:=by decide +kernel
end F
section
variable {prog:RL} {w:R1} {A:R6} {E:Q6->Q9->Prop} {s:Q9} {a:Q7} {xs:Array Q6} {k:Nat}
end
end PySem
namespace L2
open PySem PySem.Spec PyProof.Rows BB
section
variable {X:Cx}
end
end L2
namespace BB
open PySem L2
end BB
namespace HT
open PySem PySem.Spec PyProof.Rows
section
variable {prog:RL} {w:R1} {A:R6} {E:Q6->Q9->Prop} {s:Q9}
theorem getItem_tuple_whole {t sl:Q7} {items:Array Q6} {vl vu:Q6} {lo hi:Option Int} {Q:Q6->Q9->Prop} (ht:IsTup s.heap t items) (hs:s.heap.IsSliceOf sl vl vu .none) (pl:Wr vl lo) (pu:Wr vu hi)
 (hw:sIx items.size 0 lo=0/\sIx items.size items.size hi=items.size) (h:Q (.ref t) s):Rw (RO prog w) A (U6 (.ref t) (.ref sl)) Q E s:=by
 obtain ⟨os,CJ,CY,A7⟩:=id hs;have F2:s.TypeIs (.ref sl) "slice":=⟨os,CJ,CY⟩;have hT:s.TypeIs (.ref t) "tuple":=ht.typeIs;unfold U6
 try with_reducible refine S6 ?_
 first | refine Q2 (Rl ?_) | skip
 refine Q2 (wpAny_sequenceKey ht.typeIs (by decide) ?_)
 refine Q2 (Tj (name:=QZ "__getitem__") ht.typeIs R9
  (Uv R9 ht.typeIs entry_tuple_getitem ?_ (args_tuple_getitem _ _)))
 show Rw _ _ (VP (.ref t) >>= _) _ _ s;refine Q2 (tupleItemsOf_ ht ?_);refine Q2 (U0 F2 ?_);rw [if_pos (by decide)];refine Q2 (sliceApplied_gen hs pl pu ?_)
 have CN:(((sIx items.size 0 lo:Nat):Int) == 0 && (1:Int) == 1 && (sIx items.size items.size hi - sIx items.size 0 lo) == items.size)=true:=by
  rw [hw.1,hw.2];simp
 show Rw _ _ (if (((sIx items.size 0 lo:Nat):Int) == 0 && (1:Int) == 1 && (sIx items.size items.size hi - sIx items.size 0 lo) == items.size)=true then _ else _) _ _ s;rw [if_pos CN];refine Q2 (m:=Builtin.Tuple.tupleIsExact _) ?_;unfold Builtin.Tuple.tupleIsExact;refine Q2 (U0 hT (Rl ?_));rw [if_pos (by decide)];exact Q2 (wpAny_rule (Rl ⟨_,rfl,Rl h⟩))
end
end HT
namespace L2
open PySem PySem.Spec PyProof.Rows
inductive yx (x:V) (lo:Option Int) (hi:Option Int) (H:Hp) (Q:VK):Prop
 | mk (a:_) (xs:_) (Aj:x=.ref a) (Ak:H a=some (.tup xs)) (An:∀ p H',Same H H'->H' p=some (.tup (cB xs lo hi))->Q (.ref p) H'):yx  x lo hi H Q
def aaQ:V->Option Int->Option Int->Hp->VK->Prop:=yx
theorem ye {X:Cx}:SlR X aaQ:=by
 intro pins s σ H x v vl vu lo hi sl Q I rx hs pl pu h;obtain ⟨a,xs,rfl,ha,q⟩:=h;by_cases hw:HT.sIx xs.length 0 lo=0/\HT.sIx xs.length xs.length hi=xs.length
 · obtain ⟨its,r,p1,hz⟩:=I.tuple (SqT.of (K:=X.K) ha);have hl:=r.length;cases rx
   have e:cB xs lo hi=xs:=by
    unfold cB;rw [hw.1,hw.2,Su,Vp,SM]
   refine ⟨"tuple",_,R9.lookup,p1.typeIs,HT.getItem_tuple_whole p1 hs pl pu (by rw [Rc,<- hl];exact hw) ⟨.ref a,H,I,rfl,q a H (.refl _) (by rw [e];exact ha)⟩⟩
 · exact sQ pins s σ H _ v vl vu lo hi sl Q I rx hs pl pu ⟨a,xs,rfl,SqT.of ha,hw,fun p hp=>q p _ (ai hp _) ac⟩
end L2
namespace PySem
open Sem (wp)
section
variable {prog:RL} {w:R1} {A:R6} {E:Q6->Q9->Prop} {s:Q9} {it d:Q7} {i ep:Nat} {od:T1} {es:Array DictEntry}
end
end PySem
namespace L2
open PySem PySem.Spec PyProof.Rows
section
variable {X:Cx} {e:Sm} {te:TE}
end
end L2
namespace BB
open PySem L2
inductive Top where
 | nm (n:Ru) (m:Nat)
 | th (t:Th)
def bl:List Top->List Th
 | []=>[]
 | .nm n m::S=>.knot n ((bl S).take m)::(bl S).drop m
 | .th t::S=>t::bl S
def TopsOk:List Top->Prop
 | []=>True
 | .nm _ m::S=>m<=(bl S).length/\TopsOk S
 | .th _::S=>TopsOk S
theorem TopsOk.drop:∀ {l:List Top} (i:Nat),TopsOk l->TopsOk (l.drop i)
 | l,0,h=>by rw [Su];exact h
 | [],i+1,h=>by rw [List.drop_nil];exact h
 | .nm n m::S,i+1,h=>by
   rw [TopsOk] at h;rw [List.drop_succ_cons];exact TopsOk.drop i h.2
 | .th t::S,i+1,h=>by
   rw [TopsOk] at h;rw [List.drop_succ_cons];exact TopsOk.drop i h
theorem pO:∀ l:List Top,(bl l).length<=l.length
 | []=>Q8 _
 | .nm n m::S=>by
   have:=pO S;rw [bl,Q3,Q3,Sf];omega
 | .th t::S=>by
   have:=pO S;rw [bl,Q3,Q3];omega
def TopAt (H:Hp):Top->Q7->Prop
 | .nm n m,a=>∃ ta,H a=some (.tup [.ref ta,.int (m:Nat)])/\n≠q/\H ta=some (.tup [.str n])
 | .th t,a=>∃ ta,H a=some (.tup [.ref ta,.int 0])/\At H t ta
theorem TopAt.mono {H H':Hp} (k:KT H H'):∀ {x:Top} {a:Q7},TopAt H x a->TopAt H' x a
 | .nm n m,a,h=>by
   obtain ⟨ta,h1,h2,h3⟩:=h;exact ⟨ta,k _ _ h1,h2,k _ _ h3⟩
 | .th t,a,h=>by
   obtain ⟨ta,h1,h2⟩:=h;exact ⟨ta,k _ _ h1,h2.mono k⟩
theorem uN {H H':Hp} (k:KT H H') {l:List Top} {as:List Q7} (h:R3 (TopAt H) l as):R3 (TopAt H') l as:=P2.mp (fun _ _ e=>TopAt.mono k e) h
theorem At.same {H:Hp} {t:Th} {a p:Q7} {xs:List V} (h:At H t a) (ha:H a=some (.tup xs)) (hp:H p=some (.tup xs)):At H t p:=by
 cases t with
 | knot n ks =>
   rw [At] at h ⊢;obtain ⟨h0,as,h1,h2⟩:=h;rw [ha] at h1;exact ⟨h0,as,by rw [hp,<- h1],h2⟩
 | call s k =>
   rw [At] at h ⊢;rw [hp,<- ha,h]
mutual
def Th.fill (f:Int->Int->Th):Th->Th
 | .knot n ks=>.knot n (fills f ks)
 | .call s k=>f s k
def fills (f:Int->Int->Th):List Th->List Th
 | []=>[]
 | t::ts=>t.fill f::fills f ts
end
mutual
def Th.InR:Th->Prop
 | .knot _ ks=>ju ks
 | .call s k=>0<=s/\s<20/\0<=k/\k<3
def ju:List Th->Prop
 | []=>True
 | t::ts=>t.InR/\ju ts
end
mutual
theorem Th.FitP.inR {ks:List (Ru×Int)}:∀ {t:Th},t.FitP ks->t.InR
 | .knot n ts,h=>by
   rw [Th.FitP] at h;rw [Th.InR];exact FitPs.inRs h.2
 | .call s k,h=>by
   rw [Th.FitP] at h;rw [Th.InR];exact h
theorem FitPs.inRs {ks:List (Ru×Int)}:∀ {ts:List Th},FitPs ks ts->ju ts
 | [],_=>by rw [ju];trivial
 | t::ts,h=>by
   rw [FitPs] at h;rw [ju];exact ⟨Th.FitP.inR h.1,FitPs.inRs h.2⟩
end
theorem jR (f:Int->Int->Th):∀ ts:List Th,(fills f ts).length=ts.length
 | []=>by rw [fills]
 | t::ts=>by rw [fills,Q3,Q3,jR f ts]
mutual
theorem ub:∀ t:Th,t.fill Th.call=t
 | .knot n ks=>by rw [Th.fill,qV ks]
 | .call s k=>by rw [Th.fill]
theorem qV:∀ ts:List Th,fills Th.call ts=ts
 | []=>by rw [fills]
 | t::ts=>by rw [fills,ub t,qV ts]
end
mutual
theorem nV {f:Int->Int->Th} {B:Nat} (hB:1<=B) (h:∀ s k,0<=s->s<20->0<=k->k<3->(f s k).size<=B):∀ t:Th,t.InR->(t.fill f).size<=B * t.size
 | .knot n ks,ht=>by
   rw [Th.InR] at ht;have:=i5 hB h ks ht;rw [Th.fill,Th.size,Th.size,Nat.mul_add];omega
 | .call s k,ht=>by
   rw [Th.InR] at ht;have:=h s k ht.1 ht.2.1 ht.2.2.1 ht.2.2.2;rw [Th.fill,Th.size];omega
theorem i5 {f:Int->Int->Th} {B:Nat} (hB:1<=B) (h:∀ s k,0<=s->s<20->0<=k->k<3->(f s k).size<=B):∀ ts:List Th,ju ts->ay (fills f ts)<=B * ay ts
 | [],_=>by rw [fills,ay];exact RJ _
 | t::ts,ht=>by
   rw [ju] at ht;have h1:=nV hB h t ht.1;have h2:=i5 hB h ts ht.2;rw [fills,ay,ay,Nat.mul_add];omega
end
def dW (f:Int->Int->Th):Th->Top
 | .knot n ks=>.nm n ks.length
 | .call s k=>.th (f s k)
theorem lY (f:Int->Int->Th):∀ (n:Nat) (ts:List Th),ay ts<=n->∀ S,bl ((walks ts).map (dW f)++S)=fills f ts++bl S/\(TopsOk S->TopsOk ((walks ts).map (dW f)++S))
 | _,[],_,S=>by rw [walks,fills];exact ⟨rfl,fun h=>h⟩
 | 0,t::ts,hn,S=>by
   have:=t.size_pos;rw [ay] at hn;omega
 | n+1,t::ts,hn,S=>by
   have hs:=t.size_eq;rw [ay] at hn;have h2:=lY f n ts (by omega) S;have e:(walks (t::ts)).map (dW f)++S=dW f t::((walks t.kids).map (dW f)++((walks ts).map (dW f)++S)):=by rw [walks,t.walk_eq];simp
   have h1:=lY f n t.kids (by omega) ((walks ts).map (dW f)++S);rw [e];cases t with
   | knot nm ks =>
     simp only [Th.kids] at h1 ⊢;refine ⟨?_,fun hS=>?_⟩
     · show bl (.nm nm ks.length::_)=_;rw [bl,h1.1,h2.1,<- jR f ks,List.take_left,List.drop_left,fills,Th.fill];rfl
     · show TopsOk (.nm nm ks.length::_);rw [TopsOk];refine ⟨?_,h1.2 (h2.2 hS)⟩;rw [h1.1,Ra,jR];exact Vb _ _
   | call s k =>
     simp only [Th.kids,walks,SY,RN] at h1 ⊢;refine ⟨?_,fun hS=>?_⟩
     · show bl (.th (f s k)::_)=_;rw [bl,h2.1,fills,Th.fill];rfl
     · show TopsOk (.th (f s k)::_);rw [TopsOk];exact h2.2 hS
theorem ud (f:Int->Int->Th) (t:Th):bl (t.walk.map (dW f))=[t.fill f]/\TopsOk (t.walk.map (dW f)):=by
 have h:=lY f _ [t] (Q8 _) [];have e:walks [t]=t.walk:=by simp [walks]
 rw [e,RC] at h;refine ⟨?_,h.2 (by rw [TopsOk];trivial)⟩;rw [h.1,fills,fills,bl];rfl
theorem xQ (x:V) (xs:List V):cB (x::xs) none (some 1)=[x]:=by
 unfold cB;rw [show (some (1:Int))=some ((1:Nat):Int) from rfl,HT.sIx_nat,HT.sIx_none,Q3,Vi (by omega)];rfl
theorem jN:∀ (n:Nat) (ts:List Th),ay ts<=n->ju ts->∀ x∈walks ts,x.InR
 | _,[],_,_,x,h=>by simp [walks] at h
 | 0,t::ts,hn,_,x,h=>by
   have:=t.size_pos;rw [ay] at hn;omega
 | n+1,t::ts,hn,hr,x,h=>by
   have hs:=t.size_eq;rw [ay] at hn;rw [ju] at hr
   have hk:ju t.kids:=by
    cases t with
    | knot nm ks=>have:=hr.1;rw [Th.InR] at this;exact this
    | call s k=>rw [Th.kids,ju];trivial
   rw [walks,t.walk_eq,Rz,Rq,RE] at h;rcases h with rfl | h | h
   · exact hr.1
   · exact jN n t.kids (by omega) hk x h
   · exact jN n ts (by omega) hr.2 x h
theorem qw (t:Th) (hr:t.InR) (x:Th) (h:x∈t.walk):x.InR :=
 jN _ [t] (Q8 _) (by rw [ju,ju];exact ⟨hr,trivial⟩) x (by simpa [walks] using h)
theorem At.width {H:Hp} {t:Th} {a:Q7} {xs:List V} (h:At H t a) (ha:H a=some (.tup xs)):xs.length<=t.size+2:=by
 cases t with
 | knot n ks =>
   rw [At] at h;obtain ⟨_,as,h1,h2⟩:=h;rw [ha] at h1;cases h1;have:=h2.length;have:=cJ ks;rw [Q3,Q0,Th.size];omega
 | call s k =>
   rw [At] at h;rw [ha] at h;cases h;rw [Th.size];exact Q8 _
theorem xk {s k s' k':Int} (h:([To s,To k]:List Key)=[To s',To k']):s=s'/\k=k':=by
 simp at h;exact h
end BB
namespace PySem
open Sem (wp)
end PySem
namespace L2
open PySem PySem.Spec PyProof.Rows BB
end L2
namespace BB
open PySem L2
theorem xc {k:Nat} {A:R6} (hr:L2.Room k A):A.units+150+2<Vx:=by
 have:=hr.un;omega
end BB
namespace BB
open PySem L2
end BB
namespace BB
open PySem L2
end BB
namespace L2
open PySem PySem.Spec PySem.SeqAt PyProof.Rows BB
open Classical in
theorem vQ {X:Cx} {pins:List (Q7×T1)} {σ:St} {H:Hp} {s:Q9} (I:Inv X pins σ H s) {ds es:List Dv} {vs ws:List V} {its Am:List Q6} {A:R6} (r1:Vals vs its) (r2:Vals ws Am) (DH:DAts H ds vs) (Ci:DAts H es ws) (hu:A.units+cn ds+2<Vx) :
 ∀ j (h1:j<its.toArray.size) (h2:j<Am.toArray.size),EqAt A.in1 s its.toArray[j] Am.toArray[j] (decide (ds[j]?=es[j]?)):=by
 intro j h1 h2;have l1:its.length=ds.length:=by rw [<- r1.length,DH.length]
 have l2:Am.length=es.length:=by rw [<- r2.length,Ci.length]
 have Ei:j<ds.length:=by rw [<- l1];simpa using h1
 have DI:j<es.length:=by rw [<- l2];simpa using h2
 have e1:ds[j]?=some ds[j]:=Q1 Ei;have e2:es[j]?=some es[j]:=Q1 DI;obtain ⟨x',BG,dx⟩:=DH.at e1;obtain ⟨y',EG,dy⟩:=Ci.at e2;obtain ⟨u',CM,Gr⟩:=r1.get BG;obtain ⟨v',B0,Gs⟩:=r2.get EG;have e3:decide (ds[j]?=es[j]?)=decide (ds[j]=es[j]):=by rw [e1,e2];simp
 have e4:its.toArray[j]=u':=by
  rw [Q1 (by rw [l1];exact Ei)] at CM;simpa using CM
 have e5:Am.toArray[j]=v':=by
  rw [Q1 (by rw [l2];exact DI)] at B0;simpa using B0
 rw [e3,e4,e5];have q2:=jC e1;refine t5 I _ ds[j] es[j] (Q8 _) x' y' u' v' A.in1 dx dy Gr Gs ?_;show A.units+1+_<Vx;omega
open Classical in
theorem tI {ds es:List Dv} (hl:ds.length=es.length):(Sn ds.length).all (fun j=>decide (ds[j]?=es[j]?))=decide (ds=es):=by
 by_cases h:ds=es
 · subst h;rw [decide_eq_true rfl];simp
 · rw [decide_eq_false h];refine Uj.mpr fun z=>h (WN fun j=>?_);by_cases hj:j<ds.length
   · exact of_decide_eq_true (TB.mp z j (V9.mpr hj))
   · rw [UA (by omega),UA (by omega)]
def aa9 (K:Q4) (B:Nat):R2:=fun x y H Q=>∃ a b vs ws ds es,x=.ref a/\y=.ref b/\SqL K H a vs/\SqL K H b ws/\DAts H ds vs/\DAts H es ws/\cn ds<=B/\∀ b:Bool,(b=true↔ds≠es)->Q (.bl b) H
open Classical in
theorem yW {X:Cx} {B:Nat} (hu:X.A.units+B+2<Vx):OpR X (TH .NotEq) (aa9 X.K B):=by
 intro pins s σ H x y v u Q I rx ry h;obtain ⟨a,b,vs,ws,ds,es,rfl,rfl,ha,hb,DH,Ci,hB,q⟩:=h;cases rx;cases ry;obtain ⟨its,r1,p1,_⟩:=I.list ha;obtain ⟨Am,r2,p2,_⟩:=I.list hb;have l1:its.length=ds.length:=by rw [<- r1.length,DH.length]
 have l2:Am.length=es.length:=by rw [<- r2.length,Ci.length]
 by_cases hl:ds.length=es.length
 · have hsz:its.toArray.size=Am.toArray.size:=by rw [Rc,Rc];omega
   refine RcNeAt.lists p1.isList p2.isList hsz (by omega) (vQ I r1 r2 DH Ci (by omega)) X.prog X.w X.xe _ ?_
   have e:(Sn its.toArray.size).all (fun j=>decide (ds[j]?=es[j]?))=decide (ds=es):=by
    rw [Rc,l1];exact tI hl
   refine ⟨.bl (!decide (ds=es)),H,I,by rw [e];rfl,q _ ?_⟩;simp
 · refine RcNeAt.lists_lengths p1.isList p2.isList (by rw [Rc,Rc,l1,l2];simpa using hl) (by omega) X.prog X.w X.xe _ ⟨.bl true,H,I,rfl,q _ ?_⟩;exact ⟨fun _ z=>hl (by rw [z]),fun _=>rfl⟩
end L2
namespace BB
open PySem L2
end BB
namespace BB
open PySem L2
end BB
namespace L2
open PySem PySem.Spec PySem.SeqAt PyProof.Rows BB
end L2
namespace BB
open PySem L2
end BB
namespace BB
open PySem L2
end BB
namespace L2
open PySem PySem.Spec PyProof.Rows BB
end L2
namespace BB
open PySem L2
end BB
namespace BB
open PySem L2
end BB
namespace L2
open PySem PySem.Spec PySem.Calls PyProof.Rows PySem.W
section
variable {prog:RL} {w:R1} {A:R6} {E:Q6->Q9->Prop} {h:SE} {g:Array GenState} {d:Drawn} {t:Nat} {os:VF} {a C:Q7} {o:T1} {K:Frag}
end
end L2
namespace L2
open PySem PySem.Spec PySem.Calls PyProof.Rows PySem.W
section
variable {P:RL} {w:R1} {K:Q4} {mg:Ru->Option Q6} {base:SE} {N:List Ru} {qual:Ru} {scope:U8} {f:Q7} {cd:Q6} {A:R6} {outer:List Env} {s:Q9} {H:Hp} {E:XK}
end
end L2
namespace L2
open PySem PySem.Spec PySem.Calls PyProof.Rows PySem.W
section
variable {X:Cx} {pins:List (Q7×T1)} {σ:St} {H:Hp} {s:Q9}
end
end L2
namespace L2
open PySem PySem.Spec PySem.Calls PyProof.Rows PySem.W
section
variable {P:RL} {w:R1} {K:Q4} {mg:Ru->Option Q6} {base:SE}
end
end L2
namespace L2
open PySem PySem.Spec PySem.Calls PyProof.Rows PySem.SeqAt
theorem j5 {k:Nat} {A:R6} (hr:Room k A):A.units+2<Vx:=by
 have:=hr.units;omega
end L2
namespace L2
open PySem PySem.Spec PySem.Calls PyProof.Rows
def Its (x:Ru):It:=⟨fun i _=>i<x.cps.size,fun i H v H'=>H'=H/\∃ c,x.cps[i]?=some c/\v=.str ⟨#[c]⟩,fun i _=>x.cps.size=i⟩
theorem mr {P:RL} {w:R1} {K:Q4} {tg:Sm} (x:Ru) (t:Tok) (it:Q7):Turn P w K tg (Its x) [it] it (fun i h=>h.IsStrIter it "str_ascii_iterator" x t i) where
 mem:=by simp
 obj:=fun i h st b hb=>by
  have e:b=it:=by simpa using hb
  subst e;obtain ⟨o,e,c,d⟩:=st;exact ⟨o,e,fun v z=>by rw [d] at z;cases z⟩
 keep:=fun i h h' st k=>let ⟨o,ho,r⟩:=st;⟨o,k it (by simp) o ho,r⟩
 item:=by
  intro X hP hw hK hc i pins s σ H E I hf st hg;subst hP hw hK;obtain ⟨f0,f1,f2,f3,f4,f5⟩:=hf it (by simp);have hg:i<x.cps.size:=hg;refine wpAny_pyNext_ascii_item st (c:=x.cps[i]) (by simp [hg]) fun h' Bg sb=>?_;have I1:Inv X pins σ H { s with heap:=h',toks:=s.toks+1 }:=I.turned (fun b o hb e=>(sb.2 b hb).trans e) f0 f1 f3 f4 f5;obtain ⟨o,e,c,d⟩:=id Bg;exact ⟨_,rfl,lS (s:={ s with heap:=h',toks:=s.toks+1 }) e c d (by decide) ⟨.str ⟨#[x.cps[i]]⟩,H,I1,⟨_,rfl⟩,⟨rfl,_,by simp [hg],rfl⟩,Bg,fun b hb=>(hf b hb).1⟩⟩
 done:=by
  intro X hP hw hK hc i pins s σ H E I hf st hg;subst hP hw hK;obtain ⟨f0,f1,f2,f3,f4,f5⟩:=hf it (by simp);have hg:x.cps.size=i:=hg;exact wpAny_pyNext_ascii_end (I.ok.hd hc) st (by simp [<- hg]) fun h' eb=>⟨rfl,I.turned (t':=s.toks) (fun b o hb e=>eb b o hb e) f0 f1 f3 f4 f5⟩
 self:=fun _ _ _ _ _ st h=>wpAny_pyIter_striter_ascii st h
theorem uL {P:RL} {w:R1} {K:Q4} {tg:Sm} (x:Ru) (t:Tok) (it:Q7):Turn P w K tg (Its x) [it] it (fun i h=>h.IsStrIter it "str_iterator" x t i) where
 mem:=by simp
 obj:=fun i h st b hb=>by
  have e:b=it:=by simpa using hb
  subst e;obtain ⟨o,e,c,d⟩:=st;exact ⟨o,e,fun v z=>by rw [d] at z;cases z⟩
 keep:=fun i h h' st k=>let ⟨o,ho,r⟩:=st;⟨o,k it (by simp) o ho,r⟩
 item:=by
  intro X hP hw hK hc i pins s σ H E I hf st hg;subst hP hw hK;obtain ⟨f0,f1,f2,f3,f4,f5⟩:=hf it (by simp);have hg:i<x.cps.size:=hg;refine wpAny_pyNext_wide_item st (c:=x.cps[i]) (by simp [hg]) fun h' Bg sb=>?_;have I1:Inv X pins σ H { s with heap:=h',toks:=s.toks+1 }:=I.turned (fun b o hb e=>(sb.2 b hb).trans e) f0 f1 f3 f4 f5;obtain ⟨o,e,c,d⟩:=id Bg;exact ⟨_,rfl,lS (s:={ s with heap:=h',toks:=s.toks+1 }) e c d (by decide) ⟨.str ⟨#[x.cps[i]]⟩,H,I1,⟨_,rfl⟩,⟨rfl,_,by simp [hg],rfl⟩,Bg,fun b hb=>(hf b hb).1⟩⟩
 done:=by
  intro X hP hw hK hc i pins s σ H E I hf st hg;subst hP hw hK;obtain ⟨f0,f1,f2,f3,f4,f5⟩:=hf it (by simp);have hg:x.cps.size=i:=hg;exact wpAny_pyNext_wide_end (I.ok.hd hc) st (by simp [<- hg]) fun h' eb=>⟨rfl,I.turned (t':=s.toks) (fun b o hb e=>eb b o hb e) f0 f1 f3 f4 f5⟩
 self:=fun _ _ _ _ _ st h=>wpAny_pyIter_striter_wide st h
def aaW (tl:TE):TI:=fun σ H R=>tl σ H fun v H1=>∃ x,v=.str x/\R (Its x) H1
theorem tB {X:Cx} {tg l:Sm} {tl:TE} (hl:PE X l tl):PI X tg l (aaW tl):=by
 intro pins s σ H R I h;refine thn (hl pins s σ H _ I h) fun v s1 ⟨y,H1,I1,r1,q1⟩=>?_;obtain ⟨x,rfl,q⟩:=q1;obtain ⟨t,rfl⟩:=r1
 have fp:∀ b∈[s1.heap.objs.size],ig X pins H1 b:=fun b hb=>by
  have e:b=s1.heap.objs.size:=by simpa using hb
  subst e;exact I1.fpOk (Q8 _) (I1.hok.fresh (Q8 _))
 cases ha:x.cps.all (·<128)
 · refine wpAny_pyIter_wide ha ?_;exact ⟨s1.heap.objs.size,[s1.heap.objs.size],_,_,H1,rfl,I1.kept (t':=s1.toks) fun b o e=>Q5 _ e,uL x t _,⟨_,Rf _ rfl,rfl,rfl⟩,fp,q⟩
 · refine wpAny_pyIter_ascii ha ?_;exact ⟨s1.heap.objs.size,[s1.heap.objs.size],_,_,H1,rfl,I1.kept (t':=s1.toks) fun b o e=>Q5 _ e,mr x t _,⟨_,Rf _ rfl,rfl,rfl⟩,fp,q⟩
end L2
namespace BB
open PySem
def dn (zs:List Ru):Nat->Nat
 | 0=>0
 | i+1=>if zs.getD i default∈zs.take i then dn zs i else dn zs i+1
theorem wI (zs:List Ru):∀ i,dn zs i<=i
 | 0=>Q8 _
 | i+1=>by
   have:=wI zs i;rw [dn];split <;> omega
theorem take_succ_get {zs:List Ru} {i:Nat} (h:i<zs.length):zs.take (i+1)=zs.take i++[zs.getD i default]:=by
 rw [List.take_succ_eq_append_getElem h];congr 2;simp [List.getD,h]
theorem rJ (zs:List Ru):∀ i,i<=zs.length->(dn zs i=i↔(zs.take i).Nodup)
 | 0,_=>by simp [dn]
 | i+1,h=>by
   have ih:=rJ zs i (by omega);have hle:=wI zs i;rw [take_succ_get (by omega),dn,WM];by_cases hm:zs.getD i default∈zs.take i
   · rw [if_pos hm];constructor
     · intro z;omega
     · intro z;exact absurd rfl (z.2.2 _ hm _ (RH.mpr rfl))
   · rw [if_neg hm];constructor
     · intro z;refine ⟨ih.mp (by omega),Td.mpr ⟨by simp,U4⟩,fun a ha b hb=>?_⟩;rw [RH.mp hb];rintro rfl;exact hm ha
     · intro z;have:=ih.mpr z.1;omega
end BB
namespace L2
open PySem PySem.Spec PySem.Calls PyProof.Rows BB
section
variable {prog:RL} {w:R1} {A:R6} {R:Result->Q9->Prop}
theorem qk {l I S:Q7} {items:Array Q6} {zs:List Ru} (hh:A.in1.handled=none) (Av:l≠I) (Gu:S≠I) (Gv:S≠l) (hi:∀ (i:Nat) (v:Q6),items[i]?=some v->∃ t,v=.str (zs.getD i default) t) (hlen:zs.length=items.size) (hb:items.size+1<scanBound) :
 ∀ (k i:Nat) (s:Q9),items.size - i=k->i<=items.size->s.heap.IsListIter I l i->s.heap.IsList l items->s.heap.SetOf (strKind prog w) S (fun x=>decide (x∈zs.take i)) (dn zs i) →
   (∀ h' tk,(∀ b o,b≠S->b≠I->s.heap.get? b=some o->h'.get? b=some o)->h'.SetOf (strKind prog w) S (fun x=>decide (x∈zs)) (dn zs zs.length)->R (.ok (.ret .none)) { s with heap:=h',toks:=tk }) →
   VA (RO prog w) A (.builtin "set.update.loop" ⟨[.ref S,.ref I],[]⟩) R s:=by
 intro k;induction k with
 | zero =>
   intro i s hk JK By hl hS hR;have BD:i=items.size:=by omega
   subst BD;refine UE Wo ?_;rw [Uq UN _];show Rw _ A.in1 (Wl (.ref I) >>= _) _ _ s;refine Q2 (Ww hh By hl (by simp) fun h' eb=>?_);show Rw _ A.in1 (ret Ur) _ _ _;refine Rl (hR h' s.toks (fun b o _ Ig e=>eb b o Ig e) ?_);obtain ⟨o,es,ep,t,ho,rest⟩:=hS;rw [<- hlen,SM] at rest;exact ⟨o,es,ep,t,eb S o Gu ho,rest⟩
 | succ k ih =>
   intro i s hk JK By hl hS hR;have Ax:i<items.size:=by omega
   refine UE Wo ?_;rw [Uq UN _];show Rw _ A.in1 (Wl (.ref I) >>= _) _ _ s;have CO:items[i]?=some items[i]:=by simp [Ax]
   refine Q2 (Wi By hl CO fun h' Bg sb=>?_);obtain ⟨t,ht⟩:=hi i _ CO;rw [ht];have C9:h'.IsList l items:=let ⟨o,e,r⟩:=hl;⟨o,(sb.2 l Av).trans e,r⟩
   have AL:h'.SetOf (strKind prog w) S (fun x=>decide (x∈zs.take i)) (dn zs i):=by
    obtain ⟨o,es,ep,tb,ho,rest⟩:=hS;exact ⟨o,es,ep,tb,(sb.2 S Gu).trans ho,rest⟩
   show Rw _ A.in1 (holding [VH (zs.getD i default) t] (setAdd S (.str (zs.getD i default) t)) >>= _) _ _ _;refine Q2 (S6 ?_);unfold setAdd;refine S6 ?_;refine Q2 ((strKind prog w).pyHash (k:=zs.getD i default) (strKind_is _ _ _ _) ?_);have Gw:dn zs i+1<scanBound:=by have:=wI zs i;omega
   refine wpAny_setAddHashed_of (knd:=strKind prog w) (strKind_is _ _ _ _) rfl AL Gw fun h2 CZ Fz=>?_
   have ER:h2.SetOf (strKind prog w) S (fun x=>decide (x∈zs.take (i+1))) (dn zs (i+1)):=by
    refine PyProof.Rows.SetOf_congr Fz (fun x=>?_) ?_
    · rw [take_succ_get (by omega)];simp
    · rw [dn];by_cases hm:zs.getD i default∈zs.take i
      · rw [if_pos hm,if_pos (by simpa using hm)]
      · rw [if_neg hm,if_neg (by simpa using hm)]
   have EA:h2.IsListIter I l (i+1):=let ⟨o,e,r⟩:=Bg;⟨o,(CZ.2 I (UX Gu)).trans e,r⟩
   have Bn:h2.IsList l items:=let ⟨o,e,r⟩:=C9;⟨o,(CZ.2 l (UX Gv)).trans e,r⟩
   refine Rl ⟨V3 UN _,ih (i+1) _ (by omega) Ax EA Bn ER fun h4 tk k4 S4=>?_⟩;exact hR h4 tk (fun b o LW Ig e=>k4 b o LW Ig ((CZ.2 b LW).trans ((sb.2 b Ig).trans e))) S4
end
end L2
namespace PySem
section
variable {prog:RL} {w:R1} {A:R6} {E:Q6->Q9->Prop} {s:Q9}
set_option maxHeartbeats 3200000 in
theorem bb_set_strs {l:Q7} {items:Array Q6} {zs:List Ru} {Q:Q6->Q9->Prop} (hh:A.handled=none) (hl:s.heap.IsList l items) (hi:∀ (i:Nat) (v:Q6),items[i]?=some v->∃ t,v=.str (zs.getD i default) t) (hlen:zs.length=items.size) (hb:items.size+1<scanBound)
 (h:∀ (h':SE) (tk:Nat),h'.SetOf (strKind prog w) s.heap.objs.size (fun x=>decide (x∈zs)) (BB.dn zs zs.length)->(∀ b o,b<s.heap.objs.size->s.heap.get? b=some o->h'.get? b=some o)->Q (.ref s.heap.objs.size) { s with heap:=h',toks:=tk }) :
 Rw (RO prog w) A (call (.type "set") [.ref l]) Q E s:=by
 obtain ⟨c,tl,NW⟩:=U2.mro;have LX:=U2.made;have BI:=U2.sub;have h1:=U2.notType;have h2:=U2.canCreate;have FA:=F.typeCall_set_1 (.ref l);refine wpAny_call (codeAny_of_tree ?_);show Rw _ _ (callAny (.type "set") _) _ _ _;refine Rl ⟨Code.quiet_builtin _ (by decide +kernel),UE F.entry_type_call ?_⟩;rw [Around.under_plain (weight_type_call_type "set" [.ref l] []) rfl]
 repeat (any_goals (first | assumption | wp_step))
 refine Vz (code_set_new_1 (.ref l) (E:=E) (Q₁:=fun obj f'=>∃ led:Bool,obj=.ref s.heap.objs.size/\f'={ s with heap:=s.heap.push { cls:=.type "set",dict:=none,data:=.set #[] 0 (.fresh 0 0 led) } }) fun led=>⟨led,rfl,rfl⟩) fun r f' hr=>?_;cases r with
 | error e=>exact hr
 | ok fl =>
   cases fl with
   | next=>exact hr.elim
   | brk=>exact hr.elim
   | cont=>exact hr.elim
   | ret obj =>
     obtain ⟨led,rfl,rfl⟩:=hr;have hS:(s.heap.push { cls:=.type "set",dict:=none,data:=.set #[] 0 (.fresh 0 0 led) }).get? s.heap.objs.size=some { cls:=.type "set",dict:=none,data:=.set #[] 0 (.fresh 0 0 led) }:=Rf _ rfl;have hT:Shared.TypeIs { s with heap:=s.heap.push { cls:=.type "set",dict:=none,data:=.set #[] 0 (.fresh 0 0 led) } } (.ref s.heap.objs.size) "set":=⟨_,hS,rfl⟩;have Qv:=U2.init.lookup;have Fx:=U2.init.bind (.ref s.heap.objs.size)
     repeat (any_goals (first | assumption | wp_step))
     refine Vz (codeAny_call_builtin (R:=wants (fun r AS=>r=.none/\∃ h' tk,AS={ s with heap:=h',toks:=tk }/\h'.SetOf (strKind prog w) s.heap.objs.size (fun x=>decide (x∈zs)) (BB.dn zs zs.length) ∧
      (∀ b o,b<s.heap.objs.size->s.heap.get? b=some o->h'.get? b=some o)) E) U2.init.plain F.entry_set_init (check_set_init_1 hT ?_)) fun JL AS B4=>?_
     · obtain ⟨ol,Ek,Bi,nl,El⟩:=hl;obtain ⟨NX,Gx,LY,ES⟩:=ol;simp only at Bi El;subst Bi;subst El;have LZ:l<s.heap.objs.size:=Rv Ek;have JM:(s.heap.push { cls:=.type "set",dict:=none,data:=.set #[] 0 (.fresh 0 0 led) }).get? l=some { cls:=.type "list",dict:=Gx,data:=.seq items nl,slots:=ES }:=Q5 _ Ek;have NY:=F.sub_list_set;have NZ:=F.sub_list_frozenset;have N0:(Value.type "list" == Value.type "dict")=false:=by decide
       have AZ:(s.heap.push { cls:=.type "set",dict:=none,data:=.set #[] 0 (.fresh 0 0 led) }).IsList l items:=⟨_,JM,rfl,nl,rfl⟩;unfold V1.«set.__init__» noKeywords Builtin.Frozenset.updateFrom;generalize N1:pyIter=PI
       wp_walk
       subst N1;refine Vg AZ ?_;refine Q2 (wpAny_runValue ?_);have hsz:(s.heap.push { cls:=.type "set",dict:=none,data:=.set #[] 0 (.fresh 0 0 led) }).objs.size=s.heap.objs.size+1:=SD ..;refine L2.qk (l:=l) (zs:=zs) (items:=items) (by simp [hh]) (by rw [hsz];exact RT (S7 LZ)) (by rw [hsz];exact RT (UL _)) (Ut LZ) hi hlen hb (items.size - 0) 0 _ (by omega) (RJ _) ⟨_,Rf _ rfl,rfl,rfl⟩ (AZ.push _) ?_ ?_
       · have CO:((s.heap.push { cls:=.type "set",dict:=none,data:=.set #[] 0 (.fresh 0 0 led) }).push { cls:=.type "list_iterator",data:=.fields #[.ref l,.int 0 0] }).get? s.heap.objs.size=some { cls:=.type "set",dict:=none,data:=.set #[] 0 (.fresh 0 0 led) }:=Q5 _ hS;exact PyProof.Rows.SetOf_congr ((PyProof.Rows.setObjOf_fresh (knd:=strKind prog w) led).setOf CO (by unfold scanBound;omega)) (fun x=>by simp) rfl
       · intro h' tk kk S';show Rw _ _ _ _ _ _;refine Rl ?_;show Rw _ _ (ret Ur) _ _ _;refine Rl ⟨rfl,h',tk,rfl,S',fun b o Bc e=>?_⟩;exact kk b o (RT Bc) (by rw [hsz];exact RT (S7 Bc)) (Q5 _ (Q5 _ e))
     · cases JL with
       | error e=>exact B4
       | ok Gy =>
         cases Gy with
         | ret r =>
           obtain ⟨rfl,h',tk,rfl,AL,B5⟩:=B4
           repeat (any_goals (first | assumption | wp_step))
           exact h _ _ AL B5
         | next=>exact B4.elim
         | brk=>exact B4.elim
         | cont=>exact B4.elim
end
end PySem
namespace L2
open PySem PySem.Spec PySem.Calls PyProof.Rows BB
def xK (P:RL) (w:R1) (a:Q7) (zs:List Ru) (h:SE):Prop:=h.SetOf (strKind P w) a (fun x=>decide (x∈zs)) (dn zs zs.length)
theorem vb {X:Cx} (hc:X.calm=true):eH X (.type "set") (fun xs H Q=>∃ p zs,xs=[.ref p]/\SqL X.K H p (zs.map V.str)/\zs.length<=4000/\∀ a,H a=none->Q (.ref a) (upd H a (.ext (xK X.prog X.w a zs)))):=by
 intro pins s σ H xs us Q I r h;obtain ⟨p,zs,rfl,hq,hz,q⟩:=h;obtain ⟨u,rfl,rx⟩:=vals1 r;cases rx;obtain ⟨its,r',pl,_⟩:=I.list hq;have hlen:=r'.length;rw [Q0] at hlen;refine bb_set_strs (I.ok.hd hc) pl.isList (zs:=zs) (fun i v hv=>?_) (by simpa using hlen) (by rw [Rc,<- hlen];show zs.length+1<4096;omega) fun h' tk hS kp=>?_
 · have B0:its[i]?=some v:=by simpa using hv
   have A':i<its.length:=(Rm.mp B0).1
   have BE:(zs.map V.str)[i]?=some (.str (zs.getD i default)):=by
    rw [Rg,List.getD,Q1 (by omega)];rfl
   obtain ⟨u,hu,ru⟩:=r'.get BE;rw [B0] at hu;cases hu;exact ru
 · have hk:∀ b o,s.heap.get? b=some o->h'.get? b=some o:=fun b o e=>kp b o (Rv e) e;refine ⟨.ref s.heap.objs.size,_,I.laid (t':=tk) (o:=.ext (xK X.prog X.w s.heap.objs.size zs)) hk (Q8 _) ?_,rfl,q _ (I.hok.fresh (Q8 _))⟩;refine ⟨hS,?_,fun g1 g2 gs gk=>?_⟩
   · obtain ⟨o,_,_,_,ho,_⟩:=hS;exact ⟨o,ho⟩
   · obtain ⟨o,es,ep,t,ho,rest⟩:=gs;exact ⟨o,es,ep,t,gk o ho,rest⟩
theorem uJ {X:Cx}:eH X (.builtin "len") (fun xs H Q=>∃ a zs,xs=[.ref a]/\H a=some (.ext (xK X.prog X.w a zs))/\Q (.int (dn zs zs.length)) H):=by
 intro pins s σ H xs us Q I r h;obtain ⟨a,zs,rfl,ha,q⟩:=h;obtain ⟨u,rfl,rx⟩:=vals1 r;cases rx;obtain ⟨⟨o,es,ep,t,ho,hex,hd,_,_,hb,hf,hn⟩,_⟩:=(show ObjOk X.prog X.w H s.heap a (.ext (xK X.prog X.w a zs)) from I.hok a _ ha);have Bc:es.size<4096:=hb;refine call_len_set ho hex hd hf (by omega) ?_;exact ⟨.int es.size,H,I.tok _,⟨_,rfl⟩,by rw [hn];exact q⟩
end L2
namespace L2
open PySem PySem.Spec PySem.Calls PyProof.Rows BB
section
variable {X:Cx}
def wg:R2:=fun x y H Q=>∃ i j,x=.str i/\y=.str j/\Q (.bl (!decide (j.cps.toList<i.cps.toList))) H
theorem hZ:OpR X (TH .LtE) wg:=by
 intro pins s σ H x y v u Q I rx ry h;obtain ⟨i,j,rfl,rfl,q⟩:=h;obtain ⟨t,rfl⟩:=rx;obtain ⟨t',rfl⟩:=ry;exact PySem.P.le_str ⟨.bl _,H,I,rfl,q⟩
def aaE (K:Q4) (tl:TE):TI:=fun σ H R=>tl σ H fun x H1=>∃ a,x=.ref a/\(((∃ xs,SqL K H1 a xs)/\R (Itl K a) H1)∨((∃ xs,SqT K H1 a xs)/\R (Itt K a) H1))
theorem yJ {tg l:Sm} {tl:TE} (hl:PE X l tl):PI X tg l (aaE X.K tl):=by
 intro pins s σ H R I h;refine thn (hl pins s σ H _ I h) fun v s1 ⟨x,H1,I1,r1,q1⟩=>?_;obtain ⟨a,e,q⟩:=q1;subst e;cases r1
 have fp:∀ b∈[s1.heap.objs.size],ig X pins H1 b:=fun b hb=>by
  have e:b=s1.heap.objs.size:=by simpa using hb
  subst e;exact I1.fpOk (Q8 _) (I1.hok.fresh (Q8 _))
 rcases q with ⟨⟨xs,hq⟩,q⟩ | ⟨⟨xs,hq⟩,q⟩
 · obtain ⟨its,rv,p,hz⟩:=I1.list hq;refine Vg p.isList ?_;exact ⟨s1.heap.objs.size,[s1.heap.objs.size],_,_,H1,rfl,I1.kept (t':=s1.toks) fun b o e=>Q5 _ e,nM a _,⟨_,Rf _ rfl,rfl,rfl⟩,fp,q⟩
 · obtain ⟨its,rv,p,hz⟩:=I1.tuple hq;refine Ua (show s1.heap.IsTuple a its.toArray from p) ?_;exact ⟨s1.heap.objs.size,[s1.heap.objs.size],_,_,H1,rfl,I1.kept (t':=s1.toks) fun b o e=>Q5 _ e,mB a _,⟨_,Rf _ rfl,rfl,rfl⟩,fp,q⟩
end
end L2
namespace BB
open PySem L2
theorem rV {js:List (Option Nat)} {g:TG} {tt:TT} {te:TE} {σ:St} {H:Hp} {x:Ru} {fin:Q7->Hp->Prop} (f:Nat->Bool) (hz:x.cps.size<=100000)
 (Gz:∀ c H1 (Q:VK) (W':Hp->Prop),c∈x.cps.toList->Q (.bl (f c)) H1->g (.str ⟨#[c]⟩) (cσ js σ) H1 fun Ay H2=>tt Ay H2 fun b H3=>if b=true then te Ay H3 Q else W' H3)
 (AM:∀ D H',H D=none->L2.Same H H'->H' D=some (.lst ((x.cps.toList.map f).map V.bl))->fin D H') :
 ∀ D,H D=none->∃ (n:Nat) (W:Nat->Hp->Prop),W 0 (upd H D (.lst []))/\eY js g tt te σ (Its x) D n W fun H'=>fin D H':=by
 intro D hD;refine ⟨x.cps.size,fun i H'=>i<=x.cps.size/\L2.Same H H'/\H' D=some (.lst (((x.cps.toList.take i).map f).map V.bl)),⟨RJ _,ai hD _,by rw [ac];rfl⟩,?_⟩;rintro i H' ⟨hi,s1,e1⟩;by_cases Ax:i<x.cps.size
 · refine .inr ⟨Ax,Ax,fun v H1 hy=>?_⟩;obtain ⟨rfl,c,hc,rfl⟩:=hy;have Bm:x.cps.toList[i]?=some c:=by rw [S9];exact hc
   refine Gz c _ _ _ (Rb Bm) ⟨_,e1,?_,Ax,?_,?_⟩
   · rw [Q0,Q0,RP,RD];have:Ry=16777216:=TC;omega
   · exact aC s1 hD
   · rw [ac,take_snoc Bm];simp
 · have Bb:i=x.cps.size:=by omega
   subst Bb;refine .inl ⟨rfl,AM D H' hD s1 ?_⟩;rw [e1,R0 (by rw [RD];exact Q8 _)]
theorem oY {α:Type} {js:List (Option Nat)} {g:TG} {tt:TT} {te:TE} {σ:St} {J:It} {H:Hp} {xs:List V} {fin:Q7->Hp->Prop} (zs:List α) (f:α->V) (hz:zs.length=xs.length) (hn:xs.length<=1000000)
 (EI:∀ i H2,L2.Same H H2->i<xs.length->J.go i H2) (Br:∀ H2,L2.Same H H2->J.stop xs.length H2) (Dg:∀ (i:Nat) H2 x H3,L2.Same H H2->i<xs.length->J.yld i H2 x H3->H3=H2/\xs[i]?=some x)
 (hb:∀ (i:Nat) x z H2 (R:VK) (W':Hp->Prop),xs[i]?=some x->zs[i]?=some z->L2.Same H H2->(∀ H3,L2.Same H2 H3->R (f z) H3)->g x (cσ js σ) H2 fun Ay H3=>tt Ay H3 fun b H4=>if b=true then te Ay H4 R else W' H4)
 (AM:∀ D H',H D=none->L2.Same H H'->H' D=some (.lst (zs.map f))->fin D H') :
 ∀ D,H D=none->∃ (n:Nat) (W:Nat->Hp->Prop),W 0 (upd H D (.lst []))/\eY js g tt te σ J D n W fun H'=>fin D H':=by
 intro D hD;refine ⟨xs.length,fun i H'=>i<=xs.length/\L2.Same H H'/\H' D=some (.lst ((zs.take i).map f)),⟨RJ _,ai hD _,by rw [ac];rfl⟩,?_⟩;rintro i H' ⟨hi,s1,e1⟩;by_cases Ax:i<xs.length
 · refine .inr ⟨Ax,EI i H' s1 Ax,fun v H1 hy=>?_⟩;obtain ⟨e,hx⟩:=Dg i H' v H1 s1 Ax hy;subst e;obtain ⟨z,BE⟩:∃ z,zs[i]?=some z:=⟨_,Q1 (by omega)⟩;refine hb i v z _ _ _ hx BE s1 fun H3 s3=>⟨_,s3 _ _ e1,?_,Ax,aC (s1.trans s3) hD,?_⟩
   · rw [Q0,RP];have:Ry=16777216:=TC;omega
   · rw [ac,take_snoc BE,Rj];rfl
 · have Bb:i=xs.length:=by omega
   subst Bb;refine .inl ⟨Br _ s1,AM D H' hD s1 ?_⟩;rw [e1,R0 (by omega)]
theorem cm {α:Type} {K:Q4} {a:Q7} {js:List (Option Nat)} {g:TG} {tt:TT} {te:TE} {σ:St} {H:Hp} {xs:List V} {fin:Q7->Hp->Prop} (zs:List α) (f:α->V) (hS:SqT K H a xs) (hz:zs.length=xs.length) (hn:xs.length<=1000000)
 (hb:∀ (i:Nat) x z H2 (R:VK) (W':Hp->Prop),xs[i]?=some x->zs[i]?=some z->L2.Same H H2->(∀ H3,L2.Same H2 H3->R (f z) H3)->g x (cσ js σ) H2 fun Ay H3=>tt Ay H3 fun b H4=>if b=true then te Ay H4 R else W' H4)
 (AM:∀ D H',H D=none->L2.Same H H'->H' D=some (.lst (zs.map f))->fin D H') :
 ∀ D,H D=none->∃ (n:Nat) (W:Nat->Hp->Prop),W 0 (upd H D (.lst []))/\eY js g tt te σ (Itt K a) D n W fun H'=>fin D H' :=
 oY zs f hz hn (fun i H2 s hi=>⟨xs,xs[i],s.seqT hS,Q1 hi⟩) (fun H2 s=>⟨xs,s.seqT hS,Q8 _⟩) (fun i H2 x H3 s hi hy=>⟨hy.1,hy.2 xs (s.seqT hS)⟩) hb AM
theorem pE {α:Type} {K:Q4} {a:Q7} {js:List (Option Nat)} {g:TG} {tt:TT} {te:TE} {σ:St} {H:Hp} {xs:List V} {fin:Q7->Hp->Prop} (zs:List α) (f:α->V) (hS:SqL K H a xs) (hz:zs.length=xs.length) (hn:xs.length<=1000000)
 (hb:∀ (i:Nat) x z H2 (R:VK) (W':Hp->Prop),xs[i]?=some x->zs[i]?=some z->L2.Same H H2->(∀ H3,L2.Same H2 H3->R (f z) H3)->g x (cσ js σ) H2 fun Ay H3=>tt Ay H3 fun b H4=>if b=true then te Ay H4 R else W' H4)
 (AM:∀ D H',H D=none->L2.Same H H'->H' D=some (.lst (zs.map f))->fin D H') :
 ∀ D,H D=none->∃ (n:Nat) (W:Nat->Hp->Prop),W 0 (upd H D (.lst []))/\eY js g tt te σ (Itl K a) D n W fun H'=>fin D H' :=
 oY zs f hz hn (fun i H2 s hi=>⟨xs,xs[i],s.seq hS,Q1 hi⟩) (fun H2 s=>⟨xs,s.seq hS,Q8 _⟩) (fun i H2 x H3 s hi hy=>⟨hy.1,hy.2 xs (s.seq hS)⟩) hb AM
def low (z:Ru):Bool:=z.cps.toList.all fun c=>decide (97<=c/\c<=122)
def bP (z:Ru):Bool:=decide (1<=z.length/\z.length<=8) && low z
theorem oJ (c d:Nat):(!decide (([d]:List Nat)<[c]))=decide (c<=d):=by
 have h:(([d]:List Nat)<[c])↔d<c:=by
  constructor
  · intro h;cases h with
    | rel h=>exact h
    | cons h=>cases h
  · intro h;exact List.Lex.rel h
 by_cases hc:c<=d
 · rw [decide_eq_true hc,decide_eq_false (fun z=>by have:=h.mp z;omega)];rfl
 · rw [decide_eq_false hc,decide_eq_true (h.mpr (by omega))];rfl
end BB
namespace HT
open PySem PySem.Spec PyProof.Rows
section
variable {prog:RL} {w:R1} {A:R6} {E:Q6->Q9->Prop} {s:Q9}
theorem adjust_back (n:Nat):Um none none (-1) (n:Int)=((n:Int) - 1,-1):=rfl
theorem places_back (n:Nat):SI ((n:Int) - 1) (-1) (-1)=n:=by
 unfold SI;have h1:¬ ((-1:Int) > 0):=by omega
 simp only [h1,if_false];by_cases h:n=0
 · subst h;decide
 · have h2:((n:Int) - 1) > -1:=by omega
   simp only [h2,if_true];rw [show (- -1:Int)=1 by decide,VV];omega
theorem pick_back (xs:Array Q6):((Sn xs.size).filterMap fun (m:Nat)=>xs[(((xs.size:Nat):Int) - 1+(m:Int) * (-1)).toNat]?).toArray=xs.toList.reverse.toArray:=by
 congr 1
 have e:∀ m∈Sn xs.size,xs[(((xs.size:Nat):Int) - 1+(m:Int) * (-1)).toNat]?=xs.toList.reverse[m]?:=by
  intro m hm;have N2:=V9.mp hm;rw [List.getElem?_reverse (by rw [RD];exact N2),S9,RD];congr 1;omega
 have f:∀ (l:List Nat) (f g:Nat->Option Q6),(∀ m∈l,f m=g m)->l.filterMap f=l.filterMap g:=by
  intro l f g;induction l with
  | nil=>intro _;rfl
  | cons y ys ih =>
    intro h;rw [UQ,UQ,h y (by simp),ih (fun m hm=>h m (by simp [hm]))]
 rw [f _ _ _ e]
 have gl:∀ (ys:List Q6),(Sn ys.length).filterMap (fun m=>ys[m]?)=ys:=by
  intro ys;have:=pick_run ys.toArray 0 ys.length;simp only [WA] at this
  have e3:((fun x=>ys.toArray[x]?) ∘ fun x=>0+x)=fun m=>ys[m]?:=by
   funext m;simp
  rw [e3] at this;rw [this];simp
 have:=gl xs.toList.reverse;rw [Si,RD] at this;exact this
theorem sliceApplied_back {sl:Q7} {n:Nat} {t:Tok} {Q:Int×Int×Nat->Q9->Prop} (hs:s.heap.IsSliceOf sl .none .none (.int (-1) t))
 (h:Q ((n:Int) - 1,-1,n) s):Rw (RO prog w) A (UU (.ref sl) (pure (n:Int))) Q E s:=by
 obtain ⟨os,CJ,CY,A7⟩:=id hs;unfold UU Builtin.Slice.sliceFields;refine Q2 (Q2 (Sr CJ A7 (x:=.none) rfl (Q2 (Sr CJ A7 (x:=.none) rfl (Q2 (Sr CJ A7 (x:=.int (-1) t) rfl (Rl ?_)))))));refine Q2 (slicePart_int ?_);show Rw _ _ (if ((-1:Int) == 0)=true then _ else _) _ _ s;rw [if_neg (by decide)];refine Q2 (slicePart_none (Q2 (slicePart_none (Q2 (Rl ?_)))));show Rw _ _ (match Um none none (-1) (n:Int) with | (lo,hi)=>pure (lo,(-1:Int),SI lo hi (-1))) _ _ s;rw [adjust_back n];show Rw _ _ (pure ((n:Int) - 1,(-1:Int),SI ((n:Int) - 1) (-1) (-1))) _ _ s;rw [places_back];exact Rl h
theorem getItem_tuple_back {t sl:Q7} {items:Array Q6} {tk:Tok} {Q:Q6->Q9->Prop} (ht:IsTup s.heap t items) (hs:s.heap.IsSliceOf sl .none .none (.int (-1) tk))
 (h:Q (.ref s.heap.objs.size) { s with heap:=s.heap.push { cls:=.type "tuple",data:=.seq items.toList.reverse.toArray } })
 (hsz:items.size<=Ry):Rw (RO prog w) A (U6 (.ref t) (.ref sl)) Q E s:=by
 have AF:sizeOk (.seq items.toList.reverse.toArray):=by
  show items.toList.reverse.toArray.size<=Ry;rw [Rc,Si,RD];exact hsz
 obtain ⟨os,CJ,CY,A7⟩:=id hs;have F2:s.TypeIs (.ref sl) "slice":=⟨os,CJ,CY⟩;unfold U6
 try with_reducible refine S6 ?_
 first | refine Q2 (Rl ?_) | skip
 refine Q2 (wpAny_sequenceKey ht.typeIs (by decide) ?_)
 refine Q2 (Tj (name:=QZ "__getitem__") ht.typeIs R9
  (Uv R9 ht.typeIs entry_tuple_getitem ?_ (args_tuple_getitem _ _)))
 show Rw _ _ (VP (.ref t) >>= _) _ _ s;refine Q2 (tupleItemsOf_ ht ?_);refine Q2 (U0 F2 ?_);rw [if_pos (by decide)];refine Q2 (sliceApplied_back hs ?_)
 have Cu:¬ ((((items.size:Nat):Int) - 1 == 0 && (-1:Int) == 1 && items.size == items.size)=true):=by
  simp
 show Rw _ _ (if (((items.size:Nat):Int) - 1 == 0 && (-1:Int) == 1 && items.size == items.size)=true then _ else _) _ _ s;rw [if_neg Cu,pick_back]
 first
  | exact Q2 (m:=SV _) (SF (Rl ⟨_,rfl,Rl h⟩) AF)
  | exact Q2 (m:=SV _) (SF (Q2 (Rl (Rl ⟨_,rfl,Rl h⟩))) AF)
  | exact Q2 (Q2 (m:=SV _) (SF (Rl (Rl ⟨_,rfl,Rl h⟩)) AF))
  | exact Q2 (Q2 (m:=SV _) (SF (Rl ⟨_,rfl,Rl h⟩) AF))
end
end HT
namespace L2
open PySem PySem.Spec PyProof.Rows
section
variable {X:Cx} {e:Sm} {te:TE} {pos p2 p3 p4:Vo}
def BkR (X:Cx) (r:V->Hp->VK->Prop):Prop :=
 ∀ (pins:List (Q7×T1)) (s:Q9) (σ:St) (H:Hp) (x:V) (v:Q6) (t:Tok) (sl:Q7) (Q:VK),Inv X pins σ H s->RelV x v->s.heap.IsSliceOf sl .none .none (.int (-1) t)->r x H Q →
   ∃ T id,Wk (.type T) "__getitem__"=pure (some (.builtin id))/\s.TypeIs v T/\Rw (RO X.prog X.w) X.A (U6 v (.ref sl)) (EP X pins σ Q) X.xe s
def tBk (r:V->Hp->VK->Prop) (te:TE):TE:=fun σ H Q=>te σ H fun x H1=>r x H1 Q
theorem uf {r:V->Hp->VK->Prop} (hr:BkR X r) (he:PE X e te):PE X (.Subscript e (.Slice none none (some (.UnaryOp .USub (.Constant (.int 1) 0 p3) p4)) p2) pos) (tBk r te):=by
 intro pins s σ H Q I h;refine Subscript_ (thn (he pins s σ H _ I h) fun v s1 ⟨x,H1,I1,r1,q1⟩=>?_);refine wpAny_Slice ?_;rw [evalPart_none];refine Rl ?_;refine Rl ?_;have N3:PO X (some (.UnaryOp .USub (.Constant (.int 1) 0 p3) p4)) (yA (tUn (rU fun i=>.int (-i)) (tC (.int 1)))):=bR (qN lP ag);refine thn (N3 pins s1 σ H1 (fun o H'=>o=some (-1)/\r x H' Q) I1 ⟨1,rfl,_,rfl,rfl,q1⟩) fun vs s2 ⟨o,H2,I2,ps,ho,q2⟩=>?_;subst ho;cases ps with
 | int i t =>
   have I4:Inv X pins σ H2 { s2 with heap:=s2.heap.push { cls:=.type "slice",data:=.fields #[.none,.none,.int (-1) t] } }:=I2.kept (t':=s2.toks) fun b ob q=>Q5 _ q;obtain ⟨T,id,hT,ht,hg⟩:=hr pins { s2 with heap:=s2.heap.push { cls:=.type "slice",data:=.fields #[.none,.none,.int (-1) t] } } σ H2 x v t s2.heap.objs.size Q I4 r1 (Heap.IsSliceOf.new ..) q2;show Rw (RO X.prog X.w) X.A (subscriptTail e (.Slice none none (some (.UnaryOp .USub (.Constant (.int 1) 0 p3) p4)) p2) v (.ref s2.heap.objs.size)) (EP X pins σ Q) X.xe { s2 with heap:=s2.heap.push { cls:=.type "slice",data:=.fields #[.none,.none,.int (-1) t] } };exact tail_any (ops:=[v,.ref s2.heap.objs.size]) ht hT hg (by with_unfolding_all rfl)
def aaP (K:Q4):V->Hp->VK->Prop:=fun x H Q=>∃ a xs,x=.ref a/\SqT K H a xs/\∀ p,H p=none->Q (.ref p) (upd H p (.tup xs.reverse))
def abd (K:Q4):V->Hp->VK->Prop:=fun x H Q=>∃ a xs,x=.ref a/\SqL K H a xs/\∀ p,H p=none->Q (.ref p) (upd H p (.lst xs.reverse))
theorem Vals.rev {xs:List V} {us:List Q6} (r:Vals xs us):Vals xs.reverse us.reverse:=by
 induction r with
 | nil=>exact .nil
 | cons r1 r2 ih=>rw [RY,RY];exact ih.append (.cons r1 .nil)
theorem yV:BkR X (aaP X.K):=by
 intro pins s σ H x v t sl Q I rx hs h;obtain ⟨a,xs,rfl,hx,q⟩:=h;cases rx;obtain ⟨its,r,ht,hz⟩:=I.tuple hx;have hlen:its.toArray.size=xs.length:=by rw [Rc];exact r.length.symm
 refine ⟨"tuple",_,R9.lookup,ht.typeIs,?_⟩;refine HT.getItem_tuple_back ht hs ?_ (by rw [hlen];exact hz);refine ⟨.ref s.heap.objs.size,_,I.laid (t':=s.toks) (o:=.tup xs.reverse) (fun b ob q=>Q5 _ q) (Q8 _) ?_,rfl,q _ (I.hok.fresh (Q8 _))⟩;exact ⟨by rw [Si];exact hz,_,0,r.rev,Rf _ rfl⟩
theorem mX (its:List Q6):slicePick its.toArray none none (some (-1))=its.reverse.toArray:=by
 unfold slicePick;have e:U7 none none (some (-1)) its.toArray.size=((its.toArray.size:Int) - 1,-1,-1):=rfl;rw [e];unfold sliceRange;have h1:¬ ((-1:Int) > 0):=by omega
 simp only [h1,if_false]
 have hc:(if ((its.toArray.size:Nat):Int) - 1 > -1 then (((its.toArray.size:Nat):Int) - 1 - -1 - -1 - 1) / (- -1) else 0).toNat=its.toArray.size:=by
  by_cases h:its.toArray.size=0
  · rw [h];decide
  · rw [if_pos (by omega),show (- -1:Int)=1 by decide,VV];omega
 rw [hc,WA];have:=HT.pick_back its.toArray;rw [<- this];congr 1;congr 1;funext m;show its.toArray[(((its.toArray.size:Nat):Int) - 1+-1 * (m:Int)).toNat]?=_;rw [Int.mul_comm]
theorem xu:BkR X (abd X.K):=by
 intro pins s σ H x v t sl Q I rx hs h;obtain ⟨a,xs,rfl,hx,q⟩:=h;cases rx;obtain ⟨its,r,ht,hz⟩:=I.list hx;have hlen:=r.length;refine ⟨"list",_,slot_list_getitem.lookup,ht.isList.typeIs,?_⟩;refine wpAny_getItem_list_slice ht.isList hs .none .none (.int _ _) (by simp) ?_ (by rw [Rc] <;> omega);rw [mX];refine ⟨.ref s.heap.objs.size,_,I.laid (t':=s.toks) (o:=.lst xs.reverse) (fun b ob q=>Q5 _ q) (Q8 _) ?_,rfl,q _ (I.hok.fresh (Q8 _))⟩;exact ⟨by rw [Si];exact hz,_,0,r.rev,Rf _ rfl⟩
end
end L2
namespace L2
open PySem PySem.Spec PySem.Calls PyProof.Rows
section
variable {X:Cx}
end
end L2
namespace L2
open PySem PySem.Spec PySem.Calls PyProof.Rows
def rZ (z:Ru) (n:Nat):Ru:=⟨(Ro n z.cps).foldl (·++·) #[]⟩
theorem qp (c:Nat):∀ (n:Nat) (a:Array Nat),(Ro n #[c]).foldl (·++·) a=a++(Ro n c).toArray
 | 0,a=>by simp
 | n+1,a=>by
   rw [Sd,List.foldl_cons,qp c n,Sd,WC];congr 1;simp
theorem mz (c n:Nat):rZ ⟨#[c]⟩ n=⟨(Ro n c).toArray⟩:=by
 unfold rZ;rw [qp];simp
theorem wE (c n:Nat):(rZ ⟨#[c]⟩ n).length=n:=by
 rw [mz];show (Ro n c).toArray.size=n;simp
section
variable {X:Cx}
def zE:R2:=fun x y H Q=>∃ (c:Nat) (n:Int),x=.str ⟨#[c]⟩/\y=.int n/\1<=n/\n<=1000/\Q (.str (rZ ⟨#[c]⟩ n.toNat)) H
theorem xi:OpR X (Uw .Mult) zE:=by
 intro pins s σ H x y v u Q I rx ry h;obtain ⟨c,n,rfl,rfl,h1,h2,q⟩:=h;obtain ⟨t,rfl⟩:=rx;obtain ⟨t',rfl⟩:=ry;have hlen:(⟨#[c]⟩:Ru).length=1:=rfl;refine PySem.P.mul_str ?_ ?_ ?_ ?_
 · rw [decide_eq_false (by omega),decide_eq_false (by omega)];rfl
 · intro _ _;rw [hlen]
   have:(1:Int)<=(2 ^ 63 - 1) / n:=by
    rw [Int.le_ediv_iff_mul_le (by omega)];omega
   show ¬ ((1:Nat):Int) > (2 ^ 63 - 1) / n;omega
 · intro _ _;rw [hlen,Nat.one_mul];have:Ry=16777216:=TC;exact decide_eq_false (by omega)
 · rw [if_neg (by omega)];by_cases hn:n=1
   · subst hn;rw [if_pos (by rfl)];exact ⟨.str ⟨#[c]⟩,H,I,⟨_,rfl⟩,by rw [show rZ ⟨#[c]⟩ (1:Int).toNat=⟨#[c]⟩ from mz c 1] at q;exact q⟩
   · rw [if_neg (by rw [hlen];simp;omega)];refine ⟨?_,⟨.str (rZ ⟨#[c]⟩ n.toNat),H,I.tok _,⟨_,rfl⟩,q⟩⟩;show (rZ ⟨#[c]⟩ n.toNat).length<=Ry;have:Ry=16777216:=TC;rw [wE];omega
end
end L2
namespace BB
open PySem L2
mutual
/-- a pattern over kinds,its calls of so many states and kids -/
def Th.FitS (ks:List (Ru×Int)) (S C:Int):Th->Prop
 | .knot n ts=>(n,(ts.length:Int))∈ks/\FitSs ks S C ts
 | .call s k=>0<=s/\s<S/\0<=k/\k<C
def FitSs (ks:List (Ru×Int)) (S C:Int):List Th->Prop
 | []=>True
 | t::ts=>t.FitS ks S C/\FitSs ks S C ts
end
theorem FitSs.of {ks:List (Ru×Int)} {S C:Int}:∀ {ts:List Th},(∀ t∈ts,t.FitS ks S C)->FitSs ks S C ts
 | [],_=>by rw [FitSs];trivial
 | t::ts,h=>by
   rw [FitSs];exact ⟨h t (Rn ..),FitSs.of fun u hu=>h u (Ri _ hu)⟩
theorem n5 {ts:List Th} {n:Nat} (h:∀ t∈ts,t.tall<=n):bd ts<=n:=by
 induction ts with
 | nil=>rw [bd];exact RJ _
 | cons t ts ih =>
   rw [bd];have h1:=h t (Rn ..);have h2:=ih fun u hu=>h u (Ri _ hu);omega
def SameB (l:Q7) (H H':Hp):Prop:=∀ b o,b≠l->H b=some o->H' b=some o
theorem SameB.trans {l:Q7} {A B C:Hp} (h:SameB l A B) (k:SameB l B C):SameB l A C:=fun b o hb e=>k b o hb (h b o hb e)
theorem SameB.of {l:Q7} {H H':Hp} (h:L2.Same H H'):SameB l H H':=fun b o _ e=>h b o e
theorem SameB.set {l:Q7} {H:Hp} {o:HO}:SameB l H (upd H l o):=fun b o hb e=>by rw [al hb];exact e
theorem SameB.kt {l:Q7} {H H':Hp} {xs:List V} (h:SameB l H H') (e:H l=some (.lst xs)):KT H H':=fun b ys eb=>h b _ (f8 eb e (by intro z;cases z)) eb
def RowAt (H:Hp) (row:List Th) (a:Q7):Prop:=∃ as:List Q7,H a=some (.tup (as.map V.ref))/\Ats H row as
theorem RowAt.mono {H H':Hp} (k:KT H H') {row:List Th} {a:Q7} (h:RowAt H row a):RowAt H' row a:=by
 obtain ⟨as,h1,h2⟩:=h;exact ⟨as,k _ _ h1,h2.mono k⟩
structure BookAt (H:Hp) (ins outs:List (Ru×Int)) (head:Th) (rows:List (List Th)) (r ia oa ha ra:Q7) (Aq Al AG:List Q7):Prop where
 bk:H r=some (.tup [.ref ia,.ref oa,.ref ha,.ref ra])
 inE:H ia=some (.tup (Aq.map V.ref))
 inK:KsAt H ins Aq
 outE:H oa=some (.tup (Al.map V.ref))
 outK:KsAt H outs Al
 hd:At H head ha
 rl:H ra=some (.tup (AG.map V.ref))
 rw:R3 (RowAt H) rows AG
theorem BookAt.mono {H H':Hp} (k:KT H H') {ins outs:List (Ru×Int)} {head:Th} {rows:List (List Th)} {r ia oa ha ra:Q7} {Aq Al AG:List Q7} (b:BookAt H ins outs head rows r ia oa ha ra Aq Al AG):BookAt H' ins outs head rows r ia oa ha ra Aq Al AG :=
 ⟨k _ _ b.bk,k _ _ b.inE,b.inK.mono k,k _ _ b.outE,b.outK.mono k,b.hd.mono k,k _ _ b.rl,P2.mp (fun _ _ e=>e.mono k) b.rw⟩
end BB
namespace BB
open PySem L2
def Bk (H:Hp) (ins outs:List (Ru×Int)) (head:Th) (rows:List (List Th)) (r:Q7):Prop:=∃ ia oa ha ra Aq Al AG,BookAt H ins outs head rows r ia oa ha ra Aq Al AG
theorem Bk.mono {H H':Hp} (k:KT H H') {ins outs:List (Ru×Int)} {head:Th} {rows:List (List Th)} {r:Q7} (b:Bk H ins outs head rows r):Bk H' ins outs head rows r:=by
 obtain ⟨ia,oa,ha,ra,Aq,Al,AG,b⟩:=b;exact ⟨ia,oa,ha,ra,Aq,Al,AG,b.mono k⟩
end BB
namespace L2
open PySem PySem.Spec PySem.Calls PyProof.Rows PySem.SeqAt
end L2
namespace BB
open PySem L2
end BB
namespace L2
open PySem PySem.Spec PyProof.Rows
section
variable {X:Cx} {e:Sm} {te:TE} {p p2 pos AK:Vo}
end
end L2
namespace BB
open PySem L2
theorem lx {α:Type} {F:Hp->α->Q7->Prop} {js:List (Option Nat)} {g:TG} {tt:TT} {te:TE} {σ:St} {J:It} {H:Hp} {xs:List V} {fin:Q7->Hp->Prop} (zs:List α) (hF:∀ H1 H2 z p,KT H1 H2->F H1 z p->F H2 z p) (hz:zs.length=xs.length) (hn:xs.length<=1000000)
 (EI:∀ i H2,L2.Same H H2->i<xs.length->J.go i H2) (Br:∀ H2,L2.Same H H2->J.stop xs.length H2) (Dg:∀ (i:Nat) H2 x H3,L2.Same H H2->i<xs.length->J.yld i H2 x H3->H3=H2/\xs[i]?=some x)
 (hb:∀ (i:Nat) x z H2 (R:VK) (W':Hp->Prop),xs[i]?=some x->zs[i]?=some z->L2.Same H H2->(∀ H3 p,L2.Same H2 H3->F H3 z p->R (.ref p) H3)->g x (cσ js σ) H2 fun Ay H3=>tt Ay H3 fun b H4=>if b=true then te Ay H4 R else W' H4)
 (AM:∀ D H' as,H D=none->L2.Same H H'->H' D=some (.lst (as.map V.ref))->R3 (F H') zs as->fin D H') :
 ∀ D,H D=none->∃ (n:Nat) (W:Nat->Hp->Prop),W 0 (upd H D (.lst []))/\eY js g tt te σ J D n W fun H'=>fin D H':=by
 intro D hD;refine ⟨xs.length,fun i H'=>i<=xs.length/\L2.Same H H'/\∃ as:List Q7,H' D=some (.lst (as.map V.ref))/\R3 (F H') (zs.take i) as,⟨RJ _,ai hD _,[],by rw [ac];rfl,.nil⟩,?_⟩;rintro i H' ⟨hi,s1,as,e1,hp⟩;by_cases Ax:i<xs.length
 · refine .inr ⟨Ax,EI i H' s1 Ax,fun v H1 hy=>?_⟩;obtain ⟨e,hx⟩:=Dg i H' v H1 s1 Ax hy;subst e;obtain ⟨z,BE⟩:∃ z,zs[i]?=some z:=⟨_,Q1 (by omega)⟩;have hl:(zs.take i).length=as.length:=Rx hp;rw [RP] at hl;refine hb i v z _ _ _ hx BE s1 fun H3 p s3 N4=>⟨_,s3 _ _ e1,?_,Ax,aC (s1.trans s3) hD,as++[p],?_,?_⟩
   · rw [Q0];have:Ry=16777216:=TC;omega
   · rw [ac,Rj];rfl
   · have kt:KT H3 (upd H3 D (.lst (as.map V.ref++[.ref p]))):=aW (s3 _ _ e1);rw [take_snoc BE];exact P2.append (P2.mp (fun x y e=>hF _ _ _ _ ((Same.kt s3).trans kt) e) hp) (.cons (hF _ _ _ _ kt N4) .nil)
 · have Bb:i=xs.length:=by omega
   subst Bb;refine .inl ⟨Br _ s1,AM D H' as hD s1 e1 ?_⟩;rw [R0 (by omega)] at hp;exact hp
end BB
namespace L2
open PySem PySem.Spec PyProof.Rows
end L2
namespace L2
open PySem
theorem us1 {α:Type}:∀ {us:List α},us.length=1->∃ a,us=[a]
 | [a],_=>⟨a,rfl⟩
theorem us2 {α:Type}:∀ {us:List α},us.length=2->∃ a b,us=[a,b]
 | [a,b],_=>⟨a,b,rfl⟩
theorem us3 {α:Type}:∀ {us:List α},us.length=3->∃ a b c,us=[a,b,c]
 | [a,b,c],_=>⟨a,b,c,rfl⟩
theorem us4 {α:Type}:∀ {us:List α},us.length=4->∃ a b c d,us=[a,b,c,d]
 | [a,b,c,d],_=>⟨a,b,c,d,rfl⟩
theorem us5 {α:Type}:∀ {us:List α},us.length=5->∃ a b c d e,us=[a,b,c,d,e]
 | [a,b,c,d,e],_=>⟨a,b,c,d,e,rfl⟩
end L2
namespace PySem
open Sem (wp)
section
variable {prog:RL} {w:R1} {K:Type} [DecidableEq K] {knd:HeapKind prog w K} {A:R6} {E:Q6->Q9->Prop} {s:Q9}
end
end PySem
namespace L2
open PySem PySem.Spec PyProof.Rows BB
end L2
namespace BB
open PySem L2
end BB
namespace PySem
open Sem (wp)
section
variable {prog:RL} {w:R1} {A:R6} {E:Q6->Q9->Prop} {s:Q9} {I:Q7} {fp wr:List Q7} {G:Array GenState->Array GenState->Prop} {n:Nat} {P:Nat->Q6->Prop} {St:Nat->Q9->Prop}
theorem bb_collect_rev {Q:List Q6->Q9->Prop}
 (W:WalksS prog w A.in1 I fp wr G n P St) (hT:∀ i s,St i s->s.TypeIs (.ref I) "list_reverseiterator") (By:St 0 s) (JN:∀ b∈fp,b<s.heap.objs.size) (hI:I∈fp)
 (hQ:∀ s' acc,Moved wr G s s'->ItemsOf P acc n->Q acc.toList s') (hn:n<=Ry:=by size_fits):Rw (RO prog w) A (collect (.ref I)) Q E s:=by
 have L0:s.heap.objs.size∉fp:=fun hm=>SK _ (JN _ hm);have Gu:s.heap.objs.size≠I:=fun e=>L0 (e ▸ hI);unfold collect;refine Q2 (wpAny_runValue (UE F.entry_proto_collect ?_));rw [Uq F.plain_proto_collect _];show Rw _ A.in1 (newList [] >>= fun l=>again (.builtin "list.__iadd__" ⟨[l,.ref I],[]⟩)) _ _ s;refine Q2 (SF ?_);refine Rl ⟨V3 F.plain_list_iadd _,UE F.entry_list_iadd ?_⟩;rw [Uq F.plain_list_iadd _];have Ba:=W.frame 0 s (s.heap.push { cls:=.type "list",data:=.seq ([]:List Q6).toArray }) s.toks By (Q8 _) fun b _ o e=>Q5 _ e;have GA:(s.heap.push { cls:=.type "list",data:=.seq ([]:List Q6).toArray }).get? s.heap.objs.size=some { cls:=.type "list",data:=.seq ([]:List Q6).toArray }:=Rf _ rfl;have h1:Builtin.List.listSameRef (.ref s.heap.objs.size) (.ref I)=false:=by simp [Builtin.List.listSameRef,Gu]
 show Rw _ A.in1 (Builtin.List.listExtendWith (.ref s.heap.objs.size) (.ref I) (.ref s.heap.objs.size)) _ _ _;unfold Builtin.List.listExtendWith;refine Q2 (U0 (hT 0 _ Ba) ?_);rw [if_neg (by rw [h1];decide)];refine Q2 (W.self 0 _ _ _ Ba ?_);refine Q2 (S6 ?_);unfold Builtin.List.listLengthHint;refine Q2 (wpAny_specialOf (hT 0 _ Ba) F.bb_nolen_lri ?_);show Rw _ A.in1 (specialOf (Sx I) (QZ "__length_hint__") >>= _) _ _ _;refine Q2 (wpAny_specialOf (hT 0 _ Ba) F.bb_hint_lri ?_)
 (generalize hid:("list_reverseiterator.__length_hint__":String)=L1;(fail_if_success (clear hid L1));wp_delta;rw [show splitId L1=some ("list_reverseiterator","__length_hint__") from by subst hid;decide +kernel];subst hid)
 refine Q2 (wpAny_isInstance (b:=true) (hT 0 _ Ba) (by rw [isSubtype_type];kernel_rfl) ?_);refine Rl ?_;rw [if_neg (by decide)];refine Rl ⟨V3 F.plain_extend_loop _,codeAny_extend_loopS W hn _ L0 _ n 0 _ _ _ rfl (RJ _) Ba GA (ItemsOf.nil P) fun s' JO c' hm AL Cf=>?_⟩;show Rw _ A (load s.heap.objs.size >>= _) _ _ s';refine Q2 (wpAny_load AL ?_);exact Rl (hQ s' JO (Moved.drop_new (o:={ cls:=.type "list",data:=.seq ([]:List Q6).toArray }) (tk:=s.toks) hm (Q8 _)) Cf)
theorem bb_join_rev {x:Ru} {t:Tok} {Q:Q6->Q9->Prop} (W:WalksS prog w A.in1.in1 I fp wr G n P St) (hT:∀ i s,St i s->s.TypeIs (.ref I) "list_reverseiterator") (By:St 0 s) (JN:∀ b∈fp,b<s.heap.objs.size) (hI:I∈fp)
 (ET:∀ i v,P i v->∃ y u,v=VH y u)
 (hq:∀ s' (l:List (Ru×Tok)),Moved wr G s s'->ItemsOf P (V7 l).toArray n->JoinOk x (l.map (·.1))=true/\∀ t' k,Q (.str (R8 x (l.map (·.1))) t') { s' with toks:=k })
 (hsz:n<=Ry:=by size_fits) :
 Rw (RO prog w) A (call (.builtin "str.join") [.str x t,.ref I]) Q E s:=by
 refine wpAny_call (codeAny_call_builtin F.slot_str_join.plain F.entry_str_join (F.slot_str_join.check _ _ _ _ _ _ _ _ (UC _ _ _) (F.args_str_join_2 _ _) ?_));rw [join_tree_other];refine Q2 (U0 (hT 0 s By) ?_);show Rw _ A.in1 ((pyIter (.ref I)).tryCatch _ >>= fun it=>collect it >>= fun items=>joinTail x items) _ _ s;refine Q2 (wpAny_tryCatch (W.of_in1.self 0 s _ _ By ?_));refine Q2 (bb_collect_rev W hT By JN hI (fun s' acc hm Cf=>?_) hsz)
 obtain ⟨l,hl⟩:=exists_strValues acc.toList fun v hv=>by
  obtain ⟨j,hj,rfl⟩:=Array.mem_iff_getElem.mp (Array.mem_toList_iff.mp hv);exact ET j _ (Cf.2 j _ (Array.getElem?_eq_getElem hj))
 rw [<- hl];have GB:ItemsOf P (V7 l).toArray n:=by rw [hl];simpa using Cf
 obtain ⟨hok,GC⟩:=hq s' l hm GB;unfold JoinOk at hok;rw [WO] at hok
 have g:Gives (joinTail x (V7 l)) (joinMade x l):=by
  have g0:=gives_joinTail x l hok;cases l with
  | nil=>exact g0
  | cons p r=>cases r with
    | nil=>exact g0
    | cons q r'=>exact g0
 exact g prog w A (wants Q E) s' (post_join l ⟨joinFit_length hok,GC⟩)
end
end PySem
namespace L2
open PySem PySem.Spec PyProof.Rows
section
variable {X:Cx} {o e:Sm} {to te:TE} {p2 AK apos AJ:Vo}
def vx (K:Q4) (to te:TE):TE:=fun σ H Q=>to σ H fun x H1=>∃ z,x=.str z/\te σ H1 fun y H2=>∃ (l:Q7) (ys:List Ru),y=.ref l/\SqL K H2 l (ys.map V.str)/\(ys.map (·.length)).sum+ys.length * z.length<=16777216/\Q (.str (R8 z ys.reverse)) H2
theorem strs_map_of {ys:List Ru} {us:List Q6} (r:StrsAre us ys):∀ v∈us,∃ y u,v=VH y u:=by
 induction r with
 | nil=>intro v hv;cases hv
 | cons y t _ ih =>
   intro v hv;rcases Rq.mp hv with e | hv
   · exact ⟨y,t,e⟩
   · exact ih v hv
theorem mJ:∀ {l:List (Ru×Tok)} {ys:List Ru},Vals (ys.map V.str) (V7 l)->l.map (·.1)=ys
 | [],[],_=>rfl
 | [],y::ys,h=>by cases h
 | p::l,[],h=>by cases h
 | p::l,y::ys,h=>by
   have h':Vals (V.str y::ys.map V.str) (.str p.1 p.2::V7 l):=h;cases h' with
   | cons a b =>
     obtain ⟨t,e⟩:=a;have e':=(Value.str.inj e).1;rw [Rr,mJ b,e']
theorem r8 (hc:X.calm=true) (g2:Gl X "reversed") (m2:X.mg "reversed"=none) (ho:PE X o to) (he:PE X e te)
 (B1:V4 o "join" X.env (Tz o X.env)=Tz o X.env:=by rfl)
 (EE:((Vw AJ (Se [.Call (.Name "reversed" p2) [e] [] AK] X.env)).all (fun x=>!x.1) && (backToKw AJ (keywordEach [] X.env)).all (fun x=>x.1.isSome)
  && decide (([.Call (.Name "reversed" p2) [e] [] AK]:List Sm).length+([]:List Keyword).length+(if ([]:List Keyword).isEmpty then 0 else 1)<30))=true:=by rfl)
 (Bp:(apos.endLine == AJ.line)=true:=by rfl) (h1:Se [.Call (.Name "reversed" p2) [e] [] AK] X.env=[(false,Tz (.Call (.Name "reversed" p2) [e] [] AK) X.env)]:=by rfl) (h2:Se [e] X.env=[(false,Tz e X.env)]:=by rfl) :
 PE X (.Call (.Attribute o "join" apos) [.Call (.Name "reversed" p2) [e] [] AK] [] AJ) (vx X.K to te):=by
 intro pins s σ H Q I h;refine UB B1 EE Bp rfl (thn (ho pins s σ H _ I h) fun v s1 ⟨x,H1,I1,r1,z,ex,q1⟩=>?_);subst ex;obtain ⟨JP,JQ⟩:=tJ (T:="str") I1 r1 rfl;obtain ⟨t,rfl⟩:=r1;refine ⟨"str",_,RW,SO,SN,JP,JQ,?_⟩;rw [h1];refine T4 rfl (UT ?_);show Rw _ _ (VX ((false,Tz (.Call (.Name "reversed" p2) [e] [] AK) X.env)::[])) _ _ s1;refine S3 ?_;refine Ti (fT I1 g2 m2 boot_reversed (SR ?_ h2 rfl));rw [h2];show Rw _ _ (VX ((false,Tz e X.env)::[])) _ _ s1;refine S3 (thn (he pins s1 σ H1 _ I1 q1) fun u s2 ⟨y,H2,I2,r2,l,ys,ey,hl,hz,q⟩=>TU ?_);subst ey;cases r2;obtain ⟨its,rv,p,Ih⟩:=I2.list hl;have hlen:=rv.length;rw [Q0] at hlen;have hh:X.A.in1.in1.handled=none:=I2.ok.hd hc;refine call_reversed_list p.isList ?_;refine TU ?_;obtain ⟨oa,GD,ca,na,da⟩:=id p.isList;have Av:l≠s2.heap.objs.size:=RT (Rv GD);have ET:=strs_map_of (t6 rv);rw [Q0] at Ih;refine bb_join_rev (Walks.listRev hh s2.heap.objs.size l Av its.toArray).toS (fun i s st=>st.2.1.typeIs) ⟨RJ _,?_,⟨oa,Q5 _ GD,ca,na,da⟩⟩ (fun b hb=>?_) (by simp) (fun i v hv=>ET v ?_) (fun s' ll hm hit=>?_) (by rw [Rc];omega)
 · rw [show (its.toArray.size:Int) - 1 - ((0:Nat):Int)=(its.toArray.size:Int) - 1 by omega];exact ⟨_,Rf _ rfl,rfl,rfl⟩
 · show b<(s2.heap.push _).objs.size;rw [SD];rcases Rq.mp hb with e | e
   · rw [e];exact UL _
   · rw [RH.mp e];exact S7 (Rv GD)
 · rw [List.getElem?_toArray] at hv;exact Rb hv
 · have GF:=wb rv hit;rw [List.toList_toArray,<- VM] at GF;have JR:=mJ GF;rw [JR];refine ⟨joinOk_of (by rw [VM,List.sum_reverse,Si];exact hz),fun t' k=>?_⟩;rw [Moved.eq_with hm];refine ⟨.str (R8 z ys.reverse),H2,I2.kept (t':=k) fun b o e=>hm.heap b o (fun BL=>?_) (Q5 _ e),⟨_,rfl⟩,q⟩;have:=RH.mp BL;exact absurd (Rv e) (by rw [this];exact SK _)
def aae:List V->Hp->VK->Prop:=fun xs H Q=>∃ i:Int,xs=[.int i]/\i.natAbs.log2<1920/\Q (.str (QZ (toString i))) H
theorem eW:eH X (.type "str") aae:=by
 intro pins s σ H xs us Q I r h;obtain ⟨i,rfl,hi,q⟩:=h;obtain ⟨u,rfl,rx⟩:=vals1 r;obtain ⟨t,rfl⟩:=rx;exact P.str_of_int hi ⟨.str (QZ (toString i)),H,I.tok _,⟨_,rfl⟩,q⟩
end
end L2
namespace PySem
open Sem (wp)
namespace F
theorem bb_list_nokeys:Wk (.type "list") "keys"=pure none:=by rw [typeLookup_type,Wx];kernel_rfl
end F
section
variable {prog:RL} {w:R1} {A:R6} {E:Q6->Q9->Prop} {s:Q9} {a:Q7} {xs:Array Q6} {k:Nat}
theorem bb_nokeysL {Q:Option Q6->Q9->Prop} (hA:A.handled=none) (hx:s.heap.get? a=some { cls:=.type "list",data:=.seq xs k })
 (q:∀ h' tk,(∀ b o,s.heap.get? b=some o->h'.get? b=some o)->Q none { s with heap:=h',toks:=tk }):Rw (RO prog w) A (getAttr? (.ref a) "keys") Q E s:=by
 obtain ⟨hp,g,d,tk,os⟩:=s;have gT:∀ z,(⟨hp,g,d,z,os⟩:Q9).TypeIs (.ref a) "list":=fun _=>⟨_,hx,rfl⟩;have g1:=sub_AttributeError;have g3:=V6.lookup;have g4:=V6.bind (.ref a);have g5:=am_list_getattr_none;unfold getAttr? getAttrBy? getAttrBy
 repeat (any_goals (first | assumption | exact gT _ | ((with_reducible show Rw _ _ (call (Value.builtin "list.__getattribute__") _ _) _ _ _);refine UD V6 (gT _) am_entry_list_getattribute (F.args_list_getattribute_2 _ _) (meets_getattribute_miss_list a xs k #[] "keys" _ F.bb_list_nokeys (by decide +kernel) (by decide)) ⟨hx,hA,fun h' N5 e BG=>?_⟩) | wp_step))
 obtain ⟨t',u',he⟩:=BG.there;show Rw _ _ (getattributeRaised _ _ _ _ _ _ _) _ _ _;unfold getattributeRaised
 repeat (any_goals (first | assumption | wp_step))
 exact q h' N5 BG.keeps
end
end PySem
namespace L2
open PySem PySem.Spec PyProof.Rows
def cN:List (List Key×V)->List (List Key×V)->List (List Key×V)
 | Aa,[]=>Aa
 | Aa,p::ps=>cN (putK Aa p.1 p.2) ps
def PrA (H:Hp) (pr:List Key×V) (pa:Q7):Prop:=∃ ka,H pa=some (.tup [.ref ka,pr.2])/\H ka=some (.tup (pr.1.map kV))
section
variable {X:Cx} {pins:List (Q7×T1)} {σ:St}
theorem vn {H:Hp} {s:Q9} {a b:Q7} {v:V} {r:Q6} {k:List Key} {Aa:List (List Key×V)} {A:R6} {E:Q6->Q9->Prop} {Q:Unit->Q9->Prop} (hu:(tupleKind (b9 X.prog X.w)).room A) (I:Inv X pins σ H s) (e:H a=some (.dT Aa)) (eb:H b=some (.tup (k.map kV))) (l:Aa.length<Ry) (rv:RelV v r) (h:∀ h' tk,TK a s.heap h'->Inv X pins σ (upd H a (.dT (putK Aa k v))) { s with heap:=h',toks:=tk }->Q () { s with heap:=h',toks:=tk }) :
 Rw (RO X.prog X.w) A (dictSet a (.ref b) r) Q E s:=by
 obtain ⟨z,hd,xs,rel,dd⟩:=zY I.hok e;have hz:xs.length<=Ry:=by rw [<- Rx rel];exact z
 have hl:(putK Aa k v).length<=Ry:=by have:=kE Aa k v;omega
 refine wpAny_dictSet_heap (hsz:=hz) hu (tU I.hok eb) dd fun h' N6 hs=>h _ _ hs ?_;obtain ⟨q,es,ep,hq,h2,h3,h4,_,h5⟩:=N6;refine xU I (by rw [e];exact UG) hs ⟨q,hq⟩ ⟨hl,hd,_,(rel.put k eb rv).keeps fun c ys ec=>?_,q,es,ep,hq,h2,h3,h4,h5⟩;rw [al (f8 ec e (fun z=>nomatch z))];exact ec
theorem tK {A:R6} {d it l:Q7} {prs:List (List Key×V)} {ps:List Q7} {R:Result->Q9->Prop} (hh:A.handled=none) (hu:A.units+8<Vx) (hn:prs.length<=10000) :
 ∀ (m i:Nat) (s:Q9) (tk:Tok) (H:Hp) (Aa:List (List Key×V)),prs.length - i=m->i<=prs.length->Inv X pins σ H s->H d=some (.dT Aa)->Aa.length<=i->ig X pins H it->s.heap.IsListIter it l i->H l=some (.lst (ps.map V.ref))->R3 (PrA H) prs ps →
   (∀ s',Inv X pins σ (upd H d (.dT (cN Aa (prs.drop i)))) s'->R (.ok (.ret .none)) s') →
   VA (RO X.prog X.w) A (.builtin "dict.update.loop" ⟨[.ref d,.ref it,.int i tk,.none],[]⟩) R s:=by
 intro m;induction m with
 | zero =>
   intro i s tk H Aa hk hi I ed AN hf hit el DJ hR;have BD:i=prs.length:=by omega
   subst BD;obtain ⟨its,rv,p,hz⟩:=I.list (SqL.of (K:=X.K) el);have AX:prs.length=ps.length:=Rx DJ;have hl:=rv.length;rw [Q0] at hl;obtain ⟨f0,f1,f2,f3,f4,f5⟩:=hf;refine UE PySem.F.bb_entry_upd ?_;rw [Uq PySem.F.bb_plain_upd _];show Rw _ A.in1 (Wl (.ref it) >>= _) _ _ s;refine Q2 (Ww hh hit p.isList (by simp;omega) fun h' eb=>?_);refine Q2 (Rl (Rl ?_));refine hR _ ?_;rw [Vd]
   have e0:upd H d (.dT (cN Aa []))=H:=by
    funext b;by_cases hb:b=d
    · rw [hb,ac,ed];rfl
    · rw [al hb]
   rw [e0];exact I.turned (t':=s.toks) (fun b o hb e=>eb b o hb e) f0 f1 f3 f4 f5
 | succ m ih =>
   intro i s tk H Aa hk hi I ed AN hf hit el DJ hR;have Ax:i<prs.length:=by omega
   have AX:prs.length=ps.length:=Rx DJ;obtain ⟨its,rv,p,hz⟩:=I.list (SqL.of (K:=X.K) el);have hl:=rv.length;rw [Q0] at hl;obtain ⟨pa,GG,ka,EU,B6⟩:=BB.P2.get DJ (Q1 Ax);have hx:(ps.map V.ref)[i]?=some (.ref pa):=by rw [Rg,GG];rfl
   obtain ⟨u,N7,ru⟩:=rv.get hx;cases ru;obtain ⟨f0,f1,f2,f3,f4,f5⟩:=id hf;refine UE PySem.F.bb_entry_upd ?_;rw [Uq PySem.F.bb_plain_upd _];show Rw _ A.in1 (Wl (.ref it) >>= _) _ _ s;refine Q2 (Wi hit p.isList (x:=.ref pa) (by simpa using N7) fun h1 JS N8=>?_);have I1:Inv X pins σ H { s with heap:=h1 }:=I.turned (t':=s.toks) (fun b o hb e=>(N8.2 b hb).trans e) f0 f1 f3 f4 f5;obtain ⟨_,Am,n2,N9,e2⟩:=(show ObjOk X.prog X.w H h1 pa (.tup [.ref ka,(prs[i]).2]) from I1.hok pa _ EU)
   obtain ⟨vv,rfl,N'⟩:∃ vv,Am=[.ref ka,vv]/\RelV (prs[i]).2 vv:=by
    cases N9 with
    | cons a b =>
      cases b with
      | cons c d =>
        cases d;cases a;exact ⟨_,rfl,c⟩
   have Oa:(⟨h1,s.gens,s.drawn,s.toks,s.os⟩:Q9).TypeIs (.ref pa) "tuple":=⟨_,e2,rfl⟩;refine Q2 (S6 ?_);refine Q2 (wpAny_tryCatch ?_);unfold Builtin.Dict.pairItems;refine Q2 (U0 Oa ?_);rw [if_pos (by decide)];refine Q2 (TN e2 rfl (Rl ?_));show Rw _ _ (holding [.ref ka,vv] (dictSet d (.ref ka) vv)) _ _ _;refine S6 (vn (k:=(prs[i]).1) ?_ I1 ed B6 (by have:=fD;rw [TC];omega) N' fun h2 JT Dh I2=>?_)
   · exact tupleKind_room_in1 (by omega)
   refine Rl ⟨V3 PySem.F.bb_plain_upd _,?_⟩
   have GH:Vv ((i:Int)+1)=.int ((i+1:Nat):Int) 0:=by
    show VI ((i:Int)+1) 0=_;rw [show ((i+1:Nat):Int)=(i:Int)+1 by omega]
   rw [GH];have EV:it≠d:=fun z=>by rw [z,ed] at f0;cases f0
   refine ih (i+1) _ 0 _ (putK Aa (prs[i]).1 (prs[i]).2) (by omega) Ax I2 ac (by have:=kE Aa (prs[i]).1 (prs[i]).2;omega) ⟨by rw [al EV];exact f0,f1,f2,f3,f4,f5⟩ ?_ ?_ ?_ fun s' I'=>hR s' ?_
   · obtain ⟨o,g1,r⟩:=JS;exact ⟨o,(Dh.2 it EV).trans g1,r⟩
   · rw [al (f8 el ed (fun z=>nomatch z))];exact el
   · refine BB.P2.mp (fun x y e=>?_) DJ;obtain ⟨Ob,g1,g2⟩:=e;exact ⟨Ob,by rw [al (f8 g1 ed (fun z=>nomatch z))];exact g1,by rw [al (f8 g2 ed (fun z=>nomatch z))];exact g2⟩
   · rw [pj] at I';rw [Sa Ax];exact I'
def ze:List V->Hp->VK->Prop:=fun xs H Q=>∃ (l:Q7) (ps:List Q7) (prs:List (List Key×V)),xs=[.ref l]/\H l=some (.lst (ps.map V.ref))/\R3 (PrA H) prs ps/\prs.length<=10000/\∀ d,H d=none->Q (.ref d) (upd H d (.dT (cN [] prs)))
theorem mG (hu:X.A.units+12<Vx) (hc:X.calm=true):eH X (.type "dict") ze:=by
 intro pins s σ H xs us Q I r h;obtain ⟨l,ps,prs,rfl,el,DJ,hn,q⟩:=h;obtain ⟨u,rfl,rx⟩:=vals1 r;cases rx;obtain ⟨z,its,n,rv,e⟩:=(show ObjOk X.prog X.w H s.heap l (.lst (ps.map V.ref)) from I.hok l _ el);refine callType_codes (Q₁:=fun obj f'=>obj=.ref s.heap.objs.size/\f'={ s with heap:=s.heap.push { cls:=.type "dict",data:=.dict #[] } }) PySem.F.kt_called_dict (PySem.F.kt_typeCall_dict_1 _) PySem.F.entry_dict_init (kt_code_dict_new _ ⟨rfl,rfl⟩) ?_;rintro obj f' ⟨rfl,rfl⟩;have gn:(s.heap.push { cls:=.type "dict",data:=.dict #[] }).DictOf (b9 X.prog X.w) s.heap.objs.size []:=Heap.DictOf.new s.heap;have gt:(s.heap.push { cls:=.type "dict",data:=.dict #[] }).get? l=some { cls:=.type "list",data:=.seq its.toArray n }:=Q5 _ e;refine ⟨gn.typeIs,PySem.F.args_dict_init_2 _ _,?_⟩;have Fy:=I.hok.fresh (Q8 s.heap.objs.size);have I1:Inv X pins σ (upd H s.heap.objs.size (.dT [])) { s with heap:=s.heap.push { cls:=.type "dict",data:=.dict #[] } }:=I.laid (a:=s.heap.objs.size) (o:=.dT []) (t':=s.toks) (fun _ _ q=>Q5 _ q) (Q8 _) (wZ s.heap I.big);unfold V1.«dict.__init__»;refine Q2 ?_;unfold Builtin.Dict.selfAndRest;refine Q2 (wpAny_notOrdered_dict gn.typeIs ?_);show Rw _ _ (pure (s.heap.objs.size,[Sx l])) _ _ _;refine Rl ?_;show Rw _ _ (Builtin.Dict.updateFrom "dict.__init__" s.heap.objs.size (.ref l) [] .none) _ _ _;unfold Builtin.Dict.updateFrom;refine Q2 (U0 (T:="list") ⟨_,gt,rfl⟩ ?_);rw [if_pos (by decide)];refine Q2 (bb_nokeysL (A:=X.A.in1.in1) (I.ok.hd hc) gt fun h1 FC k1=>?_);have I2:Inv X pins σ (upd H s.heap.objs.size (.dT [])) { s with heap:=h1,toks:=FC }:=I1.kept (t':=FC) fun b o e=>k1 b o e;simp only [Option.isNone_none,if_true];refine Q2 (wpAny_rule ?_);obtain ⟨od,es,ep,Oc,Qw⟩:=id gn;have Ax:s.heap.objs.size<h1.objs.size:=Rv (k1 _ _ Oc);refine Q2 (Vg (l:=l) (items:=its.toArray) ⟨_,k1 _ _ gt,rfl,n,rfl⟩ ?_);refine Rl ⟨V3 PySem.F.bb_plain_upd _,?_⟩;have JR:l≠s.heap.objs.size:=aB el Fy
 have JU:R3 (PrA (upd H s.heap.objs.size (.dT []))) prs ps:=BB.P2.mp (fun x y e=>by
  obtain ⟨ka,g1,g2⟩:=e;exact ⟨ka,by rw [al (aB g1 Fy)];exact g1,by rw [al (aB g2 Fy)];exact g2⟩) DJ
 have L3:(upd H s.heap.objs.size (.dT [])) h1.objs.size=none:=I2.hok.fresh (Q8 _);refine tK (A:=X.A.in1) (d:=s.heap.objs.size) (it:=h1.objs.size) (l:=l) (prs:=prs) (ps:=ps) (I.ok.hd hc) (by show X.A.units+1+8<Vx;omega) hn prs.length 0 _ 0 (upd H s.heap.objs.size (.dT [])) [] (Vp _) (RJ _) (I2.kept (t':=FC) fun b o e=>Q5 _ e) ac (Q8 _) (I2.fpOk (Q8 _) L3) ⟨_,Rf _ rfl,rfl,rfl⟩ (by rw [al JR];exact el) JU fun s' I'=>?_;rw [pj,Su] at I';exact ⟨rfl,.ref s.heap.objs.size,_,I',rfl,q _ Fy⟩
end
end L2
namespace BB
open PySem L2
theorem x8 {k:Nat} {A:R6} (hr:L2.Room k A):A.units+12<Vx:=by
 have:=hr.units;omega
def aJ (i:Int):Ru:=QZ (toString i)
def dot:Ru:=QZ "."
def jA (s k:Int):Ru:=aJ s++dot++aJ k
theorem wN (s k:Int):R8 dot [aJ s,aJ k]=jA s k:=rfl
theorem ck {n:Int} (h0:0<=n) (h1:n<20):(aJ n).length<=2:=by
 have all:∀ k:Fin 20,(aJ ((k.val:Nat):Int)).length<=2:=by decide +kernel
 have:=all ⟨n.toNat,by omega⟩;have e:((n.toNat:Nat):Int)=n:=Vl h0;rw [<- e];exact this
theorem tX {s k:Int} (h0:0<=s) (h1:s<20) (h2:0<=k) (h3:k<3):jA s k≠q/\(jA s k).length<=8:=by
 have all:∀ (a:Fin 20) (b:Fin 3),jA ((a.val:Nat):Int) ((b.val:Nat):Int)≠q/\(jA ((a.val:Nat):Int) ((b.val:Nat):Int)).length<=8:=by decide +kernel
 have:=all ⟨s.toNat,by omega⟩ ⟨k.toNat,by omega⟩;have e1:((s.toNat:Nat):Int)=s:=Vl h0;have e2:((k.toNat:Nat):Int)=k:=Vl h2;rw [<- e1,<- e2];exact this
theorem cY {n:Int} (h0:0<=n) (h1:n<20):n.natAbs.log2<1920:=by
 have:n.natAbs.log2<=n.natAbs:=Nat.log2_le_self _;omega
def bt (s k:Int):Th:=.knot (jA s k) []
mutual
theorem sV {ks:List (Ru×Int)} (g:ce ks):∀ {t:Th},t.FitP ks->(t.fill bt).Nm 8
 | .knot n ts,h=>by
   rw [Th.FitP] at h;rw [Th.fill,Th.Nm];exact ⟨(g.low _ h.1).2,pY g h.2⟩
 | .call s k,h=>by
   rw [Th.FitP] at h;rw [Th.fill,bt,Th.Nm,Nms];exact ⟨(tX h.1 h.2.1 h.2.2.1 h.2.2.2).2,trivial⟩
theorem pY {ks:List (Ru×Int)} (g:ce ks):∀ {ts:List Th},FitPs ks ts->Nms 8 (fills bt ts)
 | [],_=>by rw [fills,Nms];trivial
 | t::ts,h=>by
   rw [FitPs] at h;rw [fills,Nms];exact ⟨sV g h.1,pY g h.2⟩
end
theorem rS {t:Th} (h:t.InR):(t.fill bt).size<=t.size:=by
 have:=nV (f:=bt) (B:=1) (Q8 _) (fun s k _ _ _ _=>by rw [bt,Th.size,ay];exact Q8 _) t h;omega
theorem uD {ts:List Th} (h:ju ts):ay (fills bt ts)<=ay ts:=by
 have:=i5 (f:=bt) (B:=1) (Q8 _) (fun s k _ _ _ _=>by rw [bt,Th.size,ay];exact Q8 _) ts h;omega
mutual
theorem pZ (pre:List Int):∀ t:Th,(t.pl pre).map (·.2)=t.walk
 | .knot n ks=>by
   rw [Th.pl_eq,Th.walk_eq,Rr];show Th.knot n ks::(pls pre 0 ks).map (·.2)=Th.knot n ks::walks ks;rw [nQ pre 0 ks]
 | .call s k=>by rw [Th.pl_eq,Th.walk_eq,Rr];rfl
theorem nQ (pre:List Int) (i:Int):∀ ts:List Th,(pls pre i ts).map (·.2)=walks ts
 | []=>by rw [pls,walks];rfl
 | t::ts=>by rw [pls,walks,Rj,pZ _ t,nQ pre (i+1) ts]
end
theorem xv {t:Th} {s k:Int} (h:Th.call s k∈t.walk):∃ c∈callsOf (t.pl []),c.2=(s,k):=by
 rw [<- pZ [] t] at h;obtain ⟨p,hp,e⟩:=Sl.mp h;refine ⟨(p.1,s,k),?_,rfl⟩;unfold callsOf;refine Vt.mpr ⟨p,hp,?_⟩;obtain ⟨a,b⟩:=p;dsimp only at e;rw [e];rfl
theorem kJ {R:List Key->V->Prop}:∀ (prs Aa:List (List Key×V)),(∀ k v,dB Aa k=some v->R k v)->(∀ p∈prs,R p.1 p.2) →
 (∀ k v,dB (cN Aa prs) k=some v->R k v)/\(∀ k,((∃ v,dB Aa k=some v)∨∃ p∈prs,p.1=k)->∃ v,dB (cN Aa prs) k=some v)
 | [],Aa,h1,_=>⟨h1,fun k h=>by
   rcases h with h | ⟨p,hp,_⟩
   · exact h
   · cases hp⟩
 | p::prs,Aa,h1,h2=>by
   have ih:=kJ (R:=R) prs (putK Aa p.1 p.2) (fun k v hv=>by
    rw [mI] at hv;by_cases e:k=p.1
    · rw [if_pos e] at hv;cases hv;rw [e];exact h2 p (Rn ..)
    · rw [if_neg e] at hv;exact h1 k v hv) (fun x hx=>h2 x (Ri _ hx))
   refine ⟨ih.1,fun k h=>ih.2 k ?_⟩;by_cases e:k=p.1
   · left;exact ⟨p.2,by rw [mI,if_pos e]⟩
   · rcases h with ⟨v,hv⟩ | ⟨x,hx,L4⟩
     · left;exact ⟨v,by rw [mI,if_neg e];exact hv⟩
     · rcases Rq.mp hx with rfl | hx
       · exact absurd L4.symm e
       · exact .inr ⟨x,hx,L4⟩
def DcAt (H:Hp) (c:List Int×Int×Int) (a:Q7):Prop:=∃ ca va,H a=some (.tup [.ref ca,.ref va])/\H ca=some (.tup [.int c.2.1,.int c.2.2])/\H va=some (.tup [.str (jA c.2.1 c.2.2)])
theorem DcAt.mono {H H':Hp} (k:KT H H') {c:List Int×Int×Int} {a:Q7} (h:DcAt H c a):DcAt H' c a:=by
 obtain ⟨ca,va,h1,h2,h3⟩:=h;exact ⟨ca,va,k _ _ h1,k _ _ h2,k _ _ h3⟩
theorem wt {H:Hp}:∀ {cs:List (List Int×Int×Int)} {as:List Q7},R3 (DcAt H) cs as->∃ prs:List (List Key×V),R3 (PrA H) prs as/\prs.length=cs.length/\(∀ p∈prs,∃ c∈cs,p.1=[To c.2.1,To c.2.2]/\∃ va,p.2=.ref va/\H va=some (.tup [.str (jA c.2.1 c.2.2)]))/\∀ c∈cs,∃ p∈prs,p.1=[To c.2.1,To c.2.2]
 | _,_,.nil=>⟨[],.nil,rfl,(fun p hp=>by cases hp),fun c hc=>by cases hc⟩
 | _,_,.cons (a:=c) (b:=a) r h=>by
   obtain ⟨ca,va,h1,h2,h3⟩:=r;obtain ⟨prs,g1,g2,g3,g4⟩:=wt h;refine ⟨([To c.2.1,To c.2.2],.ref va)::prs,.cons ⟨ca,h1,h2⟩ g1,by rw [Q3,Q3,g2],fun p hp=>?_,fun c' hc=>?_⟩
   · rcases Rq.mp hp with rfl | hp
     · exact ⟨c,Rn ..,rfl,va,rfl,h3⟩
     · obtain ⟨c',e1,e2⟩:=g3 p hp;exact ⟨c',Ri _ e1,e2⟩
   · rcases Rq.mp hc with rfl | hc
     · exact ⟨_,Rn ..,rfl⟩
     · obtain ⟨p,e1,e2⟩:=g4 c' hc;exact ⟨p,Ri _ e1,e2⟩
end BB
namespace PySem
section
variable {prog:RL} {w:R1} {A:R6} {E:Q6->Q9->Prop} {s:Q9}
theorem bb_zip_next0 {z TI TO i1 i2 l1 l2:Q7} {k:Nat} {xs ys:Array Q6} {x y a b:Q6} {Q:Option Q6->Q9->Prop} (D:ZipApart z TI TO i1 i2 l1 l2)
 (hz:We s.heap z TI TO .none) (hTI:Uy s.heap TI (.ref i1) (.ref i2)) (hTO:Uy s.heap TO a b)
 (h1:s.heap.IsTupleIter i1 l1 k) (h2:s.heap.IsTupleIter i2 l2 k) (AZ:s.heap.IsTuple l1 xs) (Bn:s.heap.IsTuple l2 ys) (hx:xs[k]?=some x) (hy:ys[k]?=some y)
 (hQ:∀ h',We h' z TI TO (Vv s.heap.objs.size)->Uy h' TO x y->h'.IsTupleIter i1 l1 (k+1)->h'.IsTupleIter i2 l2 (k+1)->Uy h' s.heap.objs.size x y->h'.objs.size=s.heap.objs.size+1 →
  (∀ c o,c≠z->c≠TO->c≠i1->c≠i2->s.heap.get? c=some o->h'.get? c=some o)->Q (some (.ref s.heap.objs.size)) { s with heap:=h' }) :
 Rw (RO prog w) A (Wl (.ref z)) Q E s:=by
 have hT:s.TypeIs (.ref z) "zip":=⟨_,hz,rfl⟩;unfold Wl;refine Q2 (wpAny_attempt (Tj (name:=QZ "__next__") hT Wv (Uv Wv hT F.entry_zip_next ?_ (F.args_zip_next_1 _))));exact bb_zip_itemA D hz hTI hTO h1 h2 AZ Bn hx hy fun h' a1 a2 a3 a4 a5 a6 a7=>Rl (hQ h' a1 a2 a3 a4 a5 a6 a7)
end
end PySem
namespace L2
open PySem PySem.Spec PyProof.Rows
def Itz (K:Q4) (a b:Q7):It:=⟨fun i H=>∃ xs ys x y,SqT K H a xs/\SqT K H b ys/\xs[i]?=some x/\ys[i]?=some y,fun i H v H'=>∃ p x y,H p=none/\v=.ref p/\H'=upd H p (.tup [x,y])/\(∀ xs,SqT K H a xs->xs[i]?=some x)/\(∀ ys,SqT K H b ys->ys[i]?=some y),fun i H=>∃ xs ys,SqT K H a xs/\SqT K H b ys/\(xs.length<=i∨ys.length<=i)⟩
structure ZTn (z TI TO i1 i2 a b:Q7) (i:Nat) (h:SE):Prop where
 ap:ZipApart z TI TO i1 i2 a b
 zip:We h z TI TO .none
 hTI:Uy h TI (.ref i1) (.ref i2)
 hTO:∃ u v,Uy h TO u v
 h1:h.IsTupleIter i1 a i
 h2:h.IsTupleIter i2 b i
theorem we {P:RL} {w:R1} {K:Q4} {elts:List Sm} {k1} {pos:Vo} (a b z TI TO i1 i2:Q7):Turn P w K (.Tuple elts k1 pos) (Itz K a b) [z,TI,TO,i1,i2] z (ZTn z TI TO i1 i2 a b) where
 mem:=by simp
 obj:=fun i h st c hc=>by
  obtain ⟨D,hz,hTI,⟨u,v,hTO⟩,⟨o1,a1,a2,a3⟩,⟨o2,b1,b2,b3⟩⟩:=st;simp only [Rq,SX,or_false] at hc;rcases hc with rfl | rfl | rfl | rfl | rfl
  · exact ⟨_,hz,fun v z=>by cases z⟩
  · exact ⟨_,hTI,fun v z=>by cases z⟩
  · exact ⟨_,hTO,fun v z=>by cases z⟩
  · exact ⟨o1,a1,fun v z=>by rw [a3] at z;cases z⟩
  · exact ⟨o2,b1,fun v z=>by rw [b3] at z;cases z⟩
 keep:=fun i h h' st k=>by
  obtain ⟨D,hz,hTI,⟨u,v,hTO⟩,⟨o1,a1,a2⟩,⟨o2,b1,b2⟩⟩:=st;exact ⟨D,k _ (by simp) _ hz,k _ (by simp) _ hTI,⟨u,v,k _ (by simp) _ hTO⟩,⟨o1,k _ (by simp) _ a1,a2⟩,⟨o2,k _ (by simp) _ b1,b2⟩⟩
 item:=by
  intro X hP hw hK hc i pins s σ H E I hf st hg;subst hP hw hK;obtain ⟨xs,ys,x,y,FD,FE,hx,hy⟩:=hg;obtain ⟨ia,Ii,pa,GI⟩:=I.tuple FD;obtain ⟨ib,Ij,pb,L5⟩:=I.tuple FE;obtain ⟨u,hu,ru⟩:=Ii.get hx;obtain ⟨v,hv,rv⟩:=Ij.get hy;obtain ⟨D,hz,hTI,⟨ta,tb,hTO⟩,h1,h2⟩:=st
  have lt:∀ c∈[z,TI,TO,i1,i2],c<s.heap.objs.size:=fun c hc=>by
   simp only [Rq,SX,or_false] at hc;rcases hc with rfl | rfl | rfl | rfl | rfl
   · exact Rv hz
   · exact Rv hTI
   · exact Rv hTO
   · obtain ⟨o,e,_⟩:=h1;exact Rv e
   · obtain ⟨o,e,_⟩:=h2;exact Rv e
  refine bb_zip_next0 D hz hTI hTO h1 h2 (show s.heap.IsTuple a ia.toArray from pa) (show s.heap.IsTuple b ib.toArray from pb) (by simpa using hu) (by simpa using hv) fun Ei a1 a2 a3 a4 a5 a6 a7=>?_;refine ⟨_,rfl,wpAny_letOwnedTupleGo_zip a1 fun DI g1 sb=>?_⟩;replace sb:TK z Ei DI:=sb;have Gi:H s.heap.objs.size=none:=I.hok.fresh (Q8 _)
  have IA:Inv X pins σ (upd H s.heap.objs.size (.tup [x,y])) { s with heap:=s.heap.push { cls:=.type "tuple",data:=.seq #[u,v] },toks:=s.toks } :=
   I.laid (o:=.tup [x,y]) (fun b ob q=>Q5 _ q) (Q8 _) ⟨by show 2<=Ry;decide,[u,v],0,.cons ru (.cons rv .nil),Rf _ rfl⟩
  have Qx:s.heap.objs.size≠z:=Ut (lt z (by simp));refine ⟨.ref s.heap.objs.size,upd H s.heap.objs.size (.tup [x,y]),?_,rfl,⟨_,x,y,Gi,rfl,rfl,fun zs GJ=>by rw [I.tuple_inj GJ FD];exact hx,fun zs GJ=>by rw [I.tuple_inj GJ FE];exact hy⟩,?_,fun c hc=>?_⟩
  · have IB:Inv X pins σ (upd H s.heap.objs.size (.tup [x,y])) { s with heap:=DI,toks:=s.toks }:=by
     refine Inv.turnedL (s:={ s with heap:=s.heap.push { cls:=.type "tuple",data:=.seq #[u,v] },toks:=s.toks }) (h':=DI) (fp:=[z,TI,TO,i1,i2]) (t':=s.toks) IA (fun c o hc q=>?_) fun c hc=>?_
     · have n1:c≠z:=fun e=>hc (by simp [e]);have n2:c≠TO:=fun e=>hc (by simp [e]);have n3:c≠i1:=fun e=>hc (by simp [e]);have n4:c≠i2:=fun e=>hc (by simp [e]);rw [sb.2 c n1];by_cases Ca:c=s.heap.objs.size
       · subst Ca;have q':(s.heap.push { cls:=.type "tuple",data:=.seq #[u,v] }).get? s.heap.objs.size=some o:=q;rw [Rf _ rfl] at q';rw [<- q'];exact a5
       · have q':(s.heap.push { cls:=.type "tuple",data:=.seq #[u,v] }).get? c=some o:=q;rw [Heap.get?_push_ne _ _ _ Ca] at q';exact a7 c o n1 n2 n3 n4 q'
     · obtain ⟨f0,f1⟩:=hf c hc;exact ⟨by rw [al (RT (lt c hc))];exact f0,f1⟩
    exact IB
  · have sT:∀ c o,c≠z->Ei.get? c=some o->DI.get? c=some o:=fun c o hc e=>(sb.2 c hc).trans e;refine ⟨D,g1,sT _ _ D.TIz (a7 _ _ D.TIz D.TITO D.TIi1 D.TIi2 hTI),⟨_,_,sT _ _ D.TOz a2⟩,?_,?_⟩
    · obtain ⟨o,e,r⟩:=a3;exact ⟨o,sT _ _ D.i1z e,r⟩
    · obtain ⟨o,e,r⟩:=a4;exact ⟨o,sT _ _ D.i2z e,r⟩
  · rw [al (RT (lt c hc))];exact (hf c hc).1
 done:=by
  intro X hP hw hK hc i pins s σ H E I hf st hg;subst hP hw hK;obtain ⟨xs,ys,FD,FE,CL⟩:=hg;obtain ⟨ia,Ii,pa,GI⟩:=I.tuple FD;obtain ⟨ib,Ij,pb,L5⟩:=I.tuple FE;have Bu:=Ii.length;have Qy:=Ij.length;obtain ⟨D,hz,hTI,hTO,h1,h2⟩:=st;refine bb_zip_done (show X.A.handled=none from I.ok.hd hc) ⟨D,.inl hz,hTI,hTO,h1,h2,pa,pb⟩ ?_ fun h' kp=>⟨rfl,?_⟩
  · rcases CL with h | h
    · exact .inl (by simp;omega)
    · exact .inr (by simp;omega)
  exact I.turnedL (fp:=[z,TI,TO,i1,i2]) (t':=s.toks) (fun c o hc q=>kp c o (fun hm=>hc (by simp only [Rq,SX,or_false] at hm ⊢;rcases hm with h | h | h | h <;> simp [h])) q) hf
 self:=fun _ _ _ _ _ st h=>wpAny_pyIter_zip st.zip h
section
variable {X:Cx} {e1 e2:Sm} {t:TA} {p2 AK:Vo}
def abb (K:Q4) (t:TA):TI:=fun σ H R=>t σ H fun vs H1=>∃ a b,vs=[.ref a,.ref b]/\(∃ xs,SqT K H1 a xs)/\(∃ ys,SqT K H1 b ys)/\R (Itz K a b) H1
theorem vZ {elts:List Sm} {k1} {pos:Vo} (g2:Gl X "zip") (m2:X.mg "zip"=none) (ha:PA X [e1,e2] t)
 (h2:Se [e1,e2] X.env=(false,Tz e1 X.env)::Se [e2] X.env:=by rfl) (h3:(Vw AK (Se [e2] X.env)).any (·.1)=false:=by rfl):PI X (.Tuple elts k1 pos) (.Call (.Name "zip" p2) [e1,e2] [] AK) (abb X.K t):=by
 intro pins s σ H R I h;refine Ti (fT I g2 m2 boot_zip ?_);refine SR (thn (ha AK pins s σ H _ I h) fun us s2 ⟨vs,H2,I2,r,a,b,ev,⟨xs,FD⟩,⟨ys,FE⟩,q⟩=>?_) h2 h3;subst ev;obtain ⟨u1,u2,rfl,r1,r2⟩:=vals2 r;cases r1;cases r2;obtain ⟨ia,Ii,pa,GI⟩:=I2.tuple FD;obtain ⟨ib,Ij,pb,L5⟩:=I2.tuple FE;have Cj:a<s2.heap.objs.size:=by obtain ⟨o,e,_⟩:=pa;exact Rv e
 have BH:b<s2.heap.objs.size:=by obtain ⟨o,e,_⟩:=pb;exact Rv e
 refine bb_call_zip (show s2.heap.IsTuple a ia.toArray from pa) (show s2.heap.IsTuple b ib.toArray from pb) fun h' z1 z2 z3 z4 z5 z6 z7=>?_;have D:ZipApart (s2.heap.objs.size+4) (s2.heap.objs.size+2) (s2.heap.objs.size+3) s2.heap.objs.size (s2.heap.objs.size+1) a b:=zipApart_new Cj BH;refine wpAny_pyIter_zip (s:={ s2 with heap:=h' }) z1 ?_;refine ⟨s2.heap.objs.size+4,[s2.heap.objs.size+4,s2.heap.objs.size+2,s2.heap.objs.size+3,s2.heap.objs.size,s2.heap.objs.size+1],_,_,H2,rfl,I2.kept (t':=s2.toks) z7,we a b _ _ _ _ _,⟨D,z1,z2,⟨_,_,z3⟩,z4,z5⟩,fun c hc=>?_,q⟩
 have Bm:s2.heap.objs.size<=c:=by
  simp only [Rq,SX,or_false] at hc;rcases hc with h | h | h | h | h <;> rw [h]
  · exact Vb _ _
  · exact Vb _ _
  · exact Vb _ _
  · exact Q8 _
  · exact Vb _ _
 exact I2.fpOk Bm (I2.hok.fresh Bm)
def yk (t:TE):TE:=fun σ H Q=>t σ H fun x H1=>∃ i:Int,x=.int i/\i.natAbs.log2<1920/\Q (.str (BB.aJ i)) H1
theorem uj {e:Sm} {te:TE} {pos:Vo} (he:PE X e te):PE X (.FormattedValue e (-1) none pos) (yk te):=by
 intro pins s σ H Q I h;refine VJ (thn (he pins s σ H _ I h) fun v s1 ⟨x,H1,I1,rx,i,e,hz,q⟩=>?_);subst e;obtain ⟨t,rfl⟩:=rx;exact wpAny_formatField_int hz ⟨.str (BB.aJ i),H1,I1.tok _,⟨_,rfl⟩,q⟩
end
end L2
namespace BB
open PySem L2
def blank:Ru:=QZ " "
def rm:Ru:=QZ "/"
def eS:Ru:=QZ "\n"
def aY (k:Ru×Int):Ru:=k.1++rm++aJ k.2
def aP (w:Ru) (ks:List (Ru×Int)):Ru:=R8 blank (w::ks.map aY)
def d9 (st:Int) (n:Ru) (t:Th):Ru:=QZ "rule "++aJ st++blank++n++blank++(t.fill bt).show
def eI (ins:List (Ru×Int)) (st:Int) (row:List Th):List Ru:=(ins.zip row).map fun z=>d9 st z.1.1 z.2
def b7 (ins:List (Ru×Int)) (rows:List (List Th)) (i:Nat):List Ru:=(((rows.zipIdx).take i).map fun z=>eI ins (z.2:Nat) z.1).flatten
theorem zipIdx_get {α:Type} {l:List α} {i:Nat} {x:α} (h:l[i]?=some x):l.zipIdx[i]?=some (x,i):=by
 rw [Wb,h];simp
theorem gq {ins:List (Ru×Int)} {rows:List (List Th)} {i:Nat} {row:List Th} (h:rows[i]?=some row):b7 ins rows (i+1)=b7 ins rows i++eI ins (i:Nat) row:=by
 unfold b7;rw [take_snoc (zipIdx_get h),Rj,TR];simp
theorem gh {ins:List (Ru×Int)} {rows:List (List Th)}:b7 ins rows 0=[]:=by
 unfold b7;rw [SG];rfl
def di (t:Th):Ru:=QZ "head "++(t.fill bt).show
def cH (ins outs:List (Ru×Int)) (head:Th) (rows:List (List Th)):List Ru:=[aP (QZ "in") ins,aP (QZ "out") outs,di head]++b7 ins rows rows.length
theorem sJ (w:Ru):aP w []=w:=rfl
theorem sE (a b c:Ru):a++b++c=a++(b++c):=by
 have e:∀ x y:Ru,(x++y)=(⟨x.cps++y.cps⟩:Ru):=fun _ _=>rfl;simp only [e,WC]
theorem tR (sep a:Ru) {l:List Ru} (h:l≠[]):R8 sep (l++[a])=R8 sep l++sep++a:=by
 have e:∀ m:List Ru,R8 sep m=UH sep m:=fun m=>Uk sep m;rw [e,e,PyProof.Rows.FinIter.join_snoc,if_neg h]
theorem rG (w:Ru) (ks:List (Ru×Int)) (k:Ru×Int):aP w (ks++[k])=aP w ks++blank++k.1++rm++aJ k.2:=by
 unfold aP;rw [Rj,<- Rz];show R8 blank ((w::ks.map aY)++[aY k])=_;rw [tR blank (aY k) (by simp)];unfold aY;simp only [sE]
mutual
theorem fJ {ks:List (Ru×Int)} (g:ce ks):∀ {t:Th},t.FitP ks->t.size<=4 ^ t.tall
 | .knot n ts,h=>by
   rw [Th.FitP] at h;have hn:=g.num _ h.1
   have hl:ts.length<=3:=by
    have h2:((ts.length:Nat):Int)<=3:=hn.2;omega
   have:=kx g h.2;rw [Th.size,Th.tall,Nat.pow_succ];have h1:1<=4 ^ bd ts:=Nat.pos_of_ne_zero (by intro z;have:=Nat.pow_eq_zero.mp z;omega);have h3:ts.length * 4 ^ bd ts<=3 * 4 ^ bd ts:=SW _ hl;omega
 | .call s k,h=>by rw [Th.size,Th.tall];decide
theorem kx {ks:List (Ru×Int)} (g:ce ks):∀ {ts:List Th},FitPs ks ts->ay ts<=ts.length * 4 ^ bd ts
 | [],_=>by rw [ay];exact RJ _
 | t::ts,h=>by
   rw [FitPs] at h;have h1:=fJ g h.1;have h2:=kx g h.2;rw [ay,bd,Q3,Ud];have h3:4 ^ t.tall<=4 ^ max t.tall (bd ts):=Tg (by decide) (Nat.le_max_left ..);have h4:4 ^ bd ts<=4 ^ max t.tall (bd ts):=Tg (by decide) (Nat.le_max_right ..);have h5:=Sv ts.length h4;omega
end
theorem fz {ks:List (Ru×Int)} (g:ce ks) {t:Th} (h:t.FitP ks) (ht:t.tall<=4):(t.fill bt).show.length<=3000/\t.size<=256:=by
 have h1:=fJ g h;have h2:4 ^ t.tall<=4 ^ 4:=Tg (by decide) ht;have h3:=rS h.inR;have h4:=Th.show_le (t.fill bt) (sV g h);have h5:(4:Nat) ^ 4=256:=rfl;have h6:(8+3) * (t.fill bt).size<=11 * 256:=Sv _ (by omega);omega
theorem jO {B:Nat}:∀ {l:List Ru},(∀ x∈l,x.length<=B)->(l.map (·.length)).sum<=B * l.length
 | [],_=>by simp
 | x::l,h=>by
   have h1:=h x (Rn ..);have h2:=jO fun y hy=>h y (Ri _ hy);rw [Rr,Ve,Q3,VU];omega
theorem pp {J:It} {g:TG} {tb:TS} {D:Ends} {σ:St} {H:Hp} (n:Nat) (Pv:Nat->St->Hp->Prop) (h0:Pv 0 σ H) (EI:∀ i σ H,i<n->Pv i σ H->J.go i H) (Br:∀ σ H,Pv n σ H->J.stop n H)
 (hs:∀ i x σ H H',i<n->Pv i σ H->J.yld i H x H'->g x σ H' fun Ay H2=>tb { D with nx:=Pv (i+1),ct:=Pv (i+1),bk:=D.nx } Ay H2) (hd:∀ σ H,Pv n σ H->D.nx σ H) :
 ∃ W:Nat->Nat->St->Hp->Prop,(∃ m,W 0 m σ H)/\∀ i m σ H,W i m σ H →
   (J.stop i H/\D.nx σ H)∨(J.go i H/\∃ N:St->Hp->Prop,(∀ Ab H',N Ab H'->∃ m',m'<m/\W (i+1) m' Ab H')/\∀ x H',J.yld i H x H'->g x σ H' fun Ay H2=>tb { D with nx:=N,ct:=N,bk:=D.nx } Ay H2):=by
 refine ⟨fun i m σ H=>i<=n/\m=n - i/\Pv i σ H,⟨n,RJ _,rfl,h0⟩,?_⟩;rintro i m σ H ⟨hi,rfl,p⟩;by_cases h:i=n
 · left;subst h;exact ⟨Br σ H p,hd σ H p⟩
 · right;have Bb:i<n:=by omega
   exact ⟨EI i σ H Bb p,Pv (i+1),fun Ab H' q=>⟨n - (i+1),by omega,by omega,rfl,q⟩,fun x H' y=>hs i x σ H H' Bb p y⟩
end BB
namespace BB
open PySem L2
noncomputable section
local instance:DecidableEq Th:=fun _ _=>Classical.propDecidable _
end
end BB
namespace PySem
open Sem (wp)
section
variable {prog:RL} {w:R1} {K:Type} [DecidableEq K] {knd:HeapKind prog w K} {A:R6} {E:Q6->Q9->Prop} {s:Q9}
end
end PySem
namespace L2
open PySem PySem.Spec PyProof.Rows
end L2
namespace PySem
open Sem (wp)
section
variable {prog:RL} {w:R1} {A:R6} {R:Result->Q9->Prop}
end
section
variable {prog:RL} {w:R1} {A:R6} {E:Q6->Q9->Prop} {s:Q9}
end
end PySem
namespace L2
open PySem PySem.Spec PyProof.Rows
end L2
namespace L2
open PySem PySem.Spec PyProof.Rows BB
end L2
namespace PySem
open Sem (wp)
section
variable {prog:RL} {w:R1} {K:Type} [DecidableEq K] (knd:HeapKind prog w K) (d:Q7)
end
section
variable {prog:RL} {w:R1} {K:Type} [DecidableEq K] {knd:HeapKind prog w K} {A:R6} {E:Q6->Q9->Prop} {s:Q9}
end
end PySem
namespace L2
open PySem PySem.Spec PyProof.Rows
end L2
namespace BB
open PySem L2
end BB
namespace BB
open PySem L2
end BB
namespace BB
open PySem L2
end BB
namespace BB
open PySem L2
end BB
namespace BB
open PySem L2 PySem.Builtin PySem.Builtin.Str
def ofL (l:List Nat):Ru:=⟨l.toArray⟩
theorem aM (l:List Nat):(ofL l).cps.toList=l:=by unfold ofL;simp
theorem g6 {x y:Ru} (h:x.cps.toList=y.cps.toList):x=y:=by
 apply Str.ext';exact Array.toList_inj.mp h
theorem dN (x:Ru):ofL x.cps.toList=x:=g6 (aM _)
def aR (c:Nat):List Nat->List (List Nat)
 | []=>[[]]
 | d::l=>if d=c then []::aR c l else match aR c l with
   | []=>[[d]]
   | p::r=>(d::p)::r
theorem cx (c:Nat):∀ l,∃ p r,aR c l=p::r
 | []=>⟨[],[],rfl⟩
 | d::l=>by
   obtain ⟨p,r,e⟩:=cx c l;rw [aR,e];split
   · exact ⟨_,_,rfl⟩
   · exact ⟨_,_,rfl⟩
def idxs (c:Nat):Nat->List Nat->List Nat
 | _,[]=>[]
 | off,d::l=>if d=c then off::idxs c (off+1) l else idxs c (off+1) l
theorem dh (c:Nat):(⟨#[c]⟩:Ru).length=1:=rfl
theorem subAt_one (x:Ru) (c i:Nat) (hi:i<x.length):subAt x ⟨#[c]⟩ i=decide (x.cps.toList[i]?=some c):=by
 rw [StrLaws.subAt_eq,dh];have hl:i<x.cps.toList.length:=by rw [RD];exact hi
 rw [Sa hl,Q1 hl];show ([x.cps.toList[i]] == [c])=_;by_cases h:x.cps.toList[i]=c
 · rw [h];simp
 · have:decide (some x.cps.toList[i]=some c)=false:=decide_eq_false fun z=>h (RI z);rw [this];exact beq_false_of_ne fun z=>h (List.cons.inj z).1
theorem vB (x:Ru) (c:Nat) (f:Array Nat) (free:Nat):(forIn [x.length] (f,free) (SQ x ⟨#[c]⟩ x.length (x.length+1))).run.fst=f:=by
 rw [Tu];unfold SQ
 have h1:¬ (((f.size<x.length+1/\free<=x.length)/\x.length+(⟨#[c]⟩:Ru).length<=x.length)/\subAt x ⟨#[c]⟩ x.length=true):=fun h=>by
  have:=h.1.2;rw [dh] at this;omega
 rw [if_neg h1];rfl
theorem lN (x:Ru) (c:Nat):∀ (l pre:List Nat) (f:Array Nat) (free:Nat),x.cps.toList=pre++l->free<=pre.length->f.size<=pre.length →
 (forIn (List.range' pre.length (l.length+1)) (f,free) (SQ x ⟨#[c]⟩ x.length (x.length+1))).run.fst.toList=f.toList++idxs c pre.length l
 | [],pre,f,free,hx,_,_=>by
   have hlen:pre.length=x.length:=by
    have:=congrArg Tt hx;rw [RD,RC] at this;exact this.symm
   rw [Te,hlen,idxs,RC];exact congrArg WQ (vB x c f free)
 | d::l,pre,f,free,hx,hf,hs=>by
   have hlen:x.length=pre.length+(l.length+1):=by
    have:=congrArg Tt hx;rw [RD,Ra,Q3] at this;exact this
   rw [List.range'_succ,Tu,Q3];have hg:x.cps.toList[pre.length]?=some d:=by rw [hx];simp
   have BI:=subAt_one x c pre.length (by omega);rw [hg] at BI;have BG:x.cps.toList=(pre++[d])++l:=by rw [hx];simp
   have AX:(pre++[d]).length=pre.length+1:=by simp
   unfold SQ;rw [idxs];by_cases Bv:d=c
   · have h1:((f.size<x.length+1/\free<=pre.length)/\pre.length+(⟨#[c]⟩:Ru).length<=x.length)/\subAt x ⟨#[c]⟩ pre.length=true:=by
      rw [dh,BI,Bv];exact ⟨⟨⟨by omega,hf⟩,by omega⟩,decide_eq_true rfl⟩
     rw [if_pos h1,if_pos Bv];have ih:=lN x c l (pre++[d]) (f.push pre.length) (pre.length+1) BG (by omega) (by rw [Array.size_push];omega);rw [AX] at ih;unfold SQ at ih;exact Eq.trans ih (by rw [Array.toList_push,RF];rfl)
   · have h1:¬ (((f.size<x.length+1/\free<=pre.length)/\pre.length+(⟨#[c]⟩:Ru).length<=x.length)/\subAt x ⟨#[c]⟩ pre.length=true):=fun h=>by
      have h2:=h.2;rw [BI] at h2;exact Bv (RI (of_decide_eq_true h2))
     rw [if_neg h1,if_neg Bv];have ih:=lN x c l (pre++[d]) f free BG (by omega) (by omega);rw [AX] at ih;unfold SQ at ih;exact ih
theorem pC (x:Ru) (c:Nat):occurrences x ⟨#[c]⟩ 0 x.length (x.length+1)=idxs c 0 x.cps.toList:=by
 rw [StrLaws.occ_eq,Vp];have h:=lN x c x.cps.toList [] #[] 0 (by simp) (RJ _) (RJ _);rw [RD] at h;exact h
theorem iY (x:Ru) (c:Nat):∀ (l pre:List Nat) (i:Nat),x.cps.toList=pre++l->i<=pre.length →
 (StrLaws.partsFrom x 1 i (idxs c pre.length l)).map (fun p=>p.cps.toList)=match aR c l with | []=>[] | p::r=>(pre.drop i++p)::r
 | [],pre,i,hx,hi=>by
   have hlen:x.length=pre.length:=by
    have:=congrArg Tt hx;rw [RD,RC] at this;exact this
   rw [idxs,aR,StrLaws.partsFrom,Rr,SY,StrLaws.strSub_toList,hx,RC,hlen,R0 (by rw [Sf];omega)];simp
 | d::l,pre,i,hx,hi=>by
   have BG:x.cps.toList=(pre++[d])++l:=by rw [hx];simp
   have AX:(pre++[d]).length=pre.length+1:=by simp
   rw [idxs,aR];obtain ⟨p,r,e⟩:=cx c l;by_cases Bv:d=c
   · rw [if_pos Bv,if_pos Bv,StrLaws.partsFrom,Rr];have ih:=iY x c l (pre++[d]) (pre.length+1) BG (by omega);rw [AX,e] at ih;rw [ih,StrLaws.strSub_toList,hx,e]
     have h1:((pre++d::l).drop i).take (pre.length - i)=pre.drop i:=by
      rw [List.drop_append_of_le_length hi,List.take_left' (by rw [Sf])]
     have h2:(pre++[d]).drop (pre.length+1)=[]:=List.drop_eq_nil_of_le (by rw [AX];omega);rw [h1,h2];simp
   · rw [if_neg Bv,if_neg Bv];have ih:=iY x c l (pre++[d]) i BG (by omega);rw [AX,e] at ih;rw [ih,e,List.drop_append_of_le_length hi];simp
theorem oy (x:Ru) (c:Nat):partsBetween x (occurrences x ⟨#[c]⟩ 0 x.length (x.length+1)) 1=(aR c x.cps.toList).map ofL:=by
 rw [StrLaws.partsBetween_eq,pC];have h:=iY x c x.cps.toList [] 0 (by simp) (Q8 _);rw [Te] at h;obtain ⟨p,r,e⟩:=cx c x.cps.toList;rw [e] at h ⊢;have h2:=congrArg (List.map ofL) h;rw [Tr] at h2;have h3:((ofL ∘ fun p:Ru=>p.cps.toList):Ru->Ru)=fun p=>p:=funext fun p=>dN p;rw [h3,List.map_id'] at h2;rw [h2];simp
theorem mU (c:Nat):∀ (l:List Nat) (off:Nat),idxs c off l=[]->aR c l=[l]
 | [],_,_=>rfl
 | d::l,off,h=>by
   rw [idxs] at h;by_cases Bv:d=c
   · rw [if_pos Bv] at h;cases h
   · rw [if_neg Bv] at h;rw [aR,if_neg Bv,mU c l _ h]
theorem ql {x:Ru} {c:Nat} (hc:c<256):¬ Sh x<Sh ⟨#[c]⟩:=by
 have h1:Sh ⟨#[c]⟩=1:=by
  unfold Sh;have:(#[c]:Array Nat).all (·<256)=true:=by simp [hc]
  rw [if_pos this]
 have h2:1<=Sh x:=by
  unfold Sh;split
  · exact Q8 _
  · split <;> decide
 omega
theorem ku (x:Ru) {c:Nat} (hc:c<256):Tn x ⟨#[c]⟩=(aR c x.cps.toList).map ofL:=by
 unfold Tn;by_cases h0:x.length=0
 · have hx:x.cps.toList=[]:=R7.mp (by rw [RD];exact h0)
   have h1:(decide (x.length<(⟨#[c]⟩:Ru).length) || decide (Sh x<Sh ⟨#[c]⟩))=true:=by
    rw [dh,h0];rfl
   rw [if_pos h1,hx];show [x]=[ofL []];rw [<- hx,dN]
 · have h1:¬ (decide (x.length<(⟨#[c]⟩:Ru).length) || decide (Sh x<Sh ⟨#[c]⟩))=true:=fun h=>by
    rcases Bool.or_eq_true .. |>.mp h with h | h
    · have:=of_decide_eq_true h;rw [dh] at this;omega
    · exact ql hc (of_decide_eq_true h)
   rw [if_neg h1];by_cases h2:(occurrences x ⟨#[c]⟩ 0 x.length (x.length+1)).isEmpty=true
   · rw [if_pos h2];rw [pC] at h2;have h3:=mU c _ 0 (List.isEmpty_iff.mp h2);rw [h3,Rr,SY,dN]
   · rw [if_neg h2,dh];exact oy x c
def dZ (c:Nat) (z:List Nat) (l:List Nat):List Nat:=l.flatMap fun d=>if d=c then z else [d]
theorem fB (c:Nat) (z:Ru):∀ l:List Nat,(UH z ((aR c l).map ofL)).cps.toList=dZ c z.cps.toList l
 | []=>by
   show (ofL []).cps.toList=_;rw [aM];rfl
 | d::l=>by
   have ih:=fB c z l;obtain ⟨p,r,e⟩:=cx c l;rw [aR];unfold dZ at ih ⊢;rw [SA,<- ih,e];by_cases Bv:d=c
   · rw [if_pos Bv,if_pos Bv];show (ofL []++z++UH z (ofL p::r.map ofL)).cps.toList=_;rw [Tf,Tf,Sj,Sj,aM,RN];rfl
   · rw [if_neg Bv,if_neg Bv];cases r with
     | nil =>
       show (ofL (d::p)).cps.toList=[d]++(ofL p).cps.toList;rw [aM,aM];rfl
     | cons p2 r =>
       show (ofL (d::p)++z++UH z (ofL p2::r.map ofL)).cps.toList=[d]++(ofL p++z++UH z (ofL p2::r.map ofL)).cps.toList;rw [Tf,Tf,Tf,Tf,Sj,Sj,Sj,Sj,aM,aM];rfl
theorem replace_one (x z:Ru) (c:Nat) (hz:z.length≠0):VZ x ⟨#[c]⟩ z=ofL (dZ c z.cps.toList x.cps.toList):=by
 apply g6;rw [aM];unfold VZ;by_cases h2:(occurrences x ⟨#[c]⟩ 0 x.length (x.length+1)).isEmpty=true
 · rw [if_pos (by rw [h2];rfl)];rw [pC] at h2;have h3:=mU c _ 0 (List.isEmpty_iff.mp h2);have h4:=fB c z x.cps.toList;rw [h3] at h4;rw [<- h4];show _=(ofL x.cps.toList).cps.toList;rw [aM]
 · have h3:¬ ((occurrences x ⟨#[c]⟩ 0 x.length (x.length+1)).isEmpty || ((⟨#[c]⟩:Ru).length == 0 && z.length == 0))=true:=fun h=>by
    rcases Bool.or_eq_true .. |>.mp h with h | h
    · exact h2 h
    · rw [dh] at h;simp at h
   rw [if_neg h3,dh,oy,Uk];exact fB c z _
end BB
namespace L2
open PySem PySem.Spec PySem.Calls PyProof.Rows BB
section
variable {X:Cx} {pins:List (Q7×T1)} {σ:List (Option V)} {H:Hp} {s:Q9}
theorem uP {M:Model} {A:R6} {E:Q6->Q9->Prop} {i:Nat} {x:Ru} {v:V} {u:Q6} {Q:Unit->Q9->Prop} (I:Inv X pins σ H s) (hN:X.N.Nodup) (hi:X.N[i]?=some x) (hk:X.env.scope.names.lookup x=some .local) (r:RelV v u)
 (h:∀ h' m',Inv X pins (σ.set i (some v)) H { s with heap:=h',toks:=s.toks+1 }->h'.Ns X.env.locals m'->m' x=some u->(∀ (j:Nat) (y:Ru) (w:V),j≠i->X.N[j]?=some y->σ[j]?=some (some w)->X.env.scope.names.lookup y=some .local->∃ u',RelV w u'/\m' y=some u')->Q () { s with heap:=h',toks:=s.toks+1 }):Rw M A (storeName X.env x u) Q E s:=by
 obtain ⟨m,hn,hl⟩:=id I.loc;have Ez:(X.env.scope.kind == .class || (X.env.scope.kind == .module && X.env.locals != X.env.globals))=false:=by rw [I.ok.kind];rfl
 have DO:i<σ.length:=by rw [I.len];exact (Rm.mp hi).1
 have cne:=I.cne
 have tracked:∀ {a:Q7} {h':SE},(∃ o,s.heap.get? a=some o/\H a=none)->TK a s.heap h'->HOk X.prog X.w H h':=fun {a h'} ha hs b ob e=>by
  obtain ⟨_,_,BY⟩:=ha;refine (I.hok b ob e).stay (fun c w' hc q=>(hs.2 c ?_).trans q) (fun _ q=>q) fun _ _ q=>q;rintro rfl;rcases hc with rfl | hc
  · rw [BY] at e;cases e
  · rw [BY] at hc;cases hc
 refine wpAny_storeName_local hk hn (fun h' HW hs=>?_) Ez;obtain ⟨oL,_,_,Jh,_⟩:=id hn;refine h h' _ ⟨I.ok,I.os,I.bare,⟨fun b o e n hb hx=>?_,fun b o e n hb hx=>?_,I.base.free,fun b o e hx=>?_,I.base.tups,I.base.frzs,I.base.tbls⟩,⟨_,HW,fun j y v' e1 e2 e3=>?_⟩,fun y c e=>?_,I.free,I.freeC,fun p hp=>?_,tracked ⟨oL,Jh,I.free⟩ hs,by simpa using I.len⟩ HW (by simp) (fun j y w hj h1 h2 h3=>?_)
 · exact (hs.2 b (RT (RU (Rv e) I.ok.above))).trans (I.base.keep b o e n hb hx)
 · obtain ⟨sl,e1⟩:=I.base.slot b o e n hb hx;exact ⟨sl,(hs.2 b (RT (RU (Rv e) I.ok.above))).trans e1⟩
 · obtain ⟨o',e1⟩:=I.base.there b o e hx;exact ⟨o',(hs.2 b (RT (RU (Rv e) I.ok.above))).trans e1⟩
 · by_cases hj:j=i
   · subst hj;rw [hi] at e1;cases e1;rw [Uu DO] at e2;cases e2;exact ⟨u,r,.inl ⟨hk,by simp⟩⟩
   · rw [UI (UX hj)] at e2;obtain ⟨u',r',q⟩:=hl j y v' e1 e2 e3;refine ⟨u',r',?_⟩;rcases q with ⟨k,e⟩ | ⟨k,c,e,z⟩
     · refine .inl ⟨k,?_⟩;have:y≠x:=fun e=>hj (ji hN e1 (e ▸ hi));simp [this,e]
     · exact .inr ⟨k,c,e,z.sameBut hs (cne y c e)⟩
 · obtain ⟨w',z⟩:=I.cell y c e;exact ⟨w',z.sameBut hs (cne y c e)⟩
 · obtain ⟨e,n,ne,nf,d⟩:=I.pin p hp;exact ⟨(hs.2 p.1 ne).trans e,n,ne,nf,d⟩
 · obtain ⟨u',r',q⟩:=hl j y w h1 h2 (.inl h3);refine ⟨u',r',?_⟩;have Od:y≠x:=fun e=>hj (ji hN h1 (e ▸ hi));rcases q with ⟨k,e⟩ | ⟨k,c,e,z⟩
   · simp [Od,e]
   · have k':X.env.scope.names.lookup y=some .cell∨X.env.scope.names.lookup y=some .free:=k;rcases k' with k' | k' <;> (rw [h3] at k';cases k')
end
def BT (X:Cx) (tg:Sm) (body:List Sz) (tb:Ends->V->St->Hp->Prop):Prop :=
 ∀ (pins:List (Q7×T1)) (s:Q9) (σ:St) (H:Hp) (c:Nat) (t:Tok) (D:Ends),Inv X pins σ H s->0<t->t<s.toks->tb D (.str ⟨#[c]⟩) σ H →
   Rw (RO X.prog X.w) X.A (assign tg X.env (.str ⟨#[c]⟩ t)) (fun _ s2=>Rw (RO X.prog X.w) X.A (execs body X.env) (SP X pins D) X.xe s2) X.xe s
def aac (x:Ru) (tb:Ends->V->St->Hp->Prop):TS:=fun D σ H=>∃ W:Nat->St->Hp->Prop,W 0 σ H/\∀ i σ H,W i σ H->(x.cps.size=i/\D.nx σ H)∨∃ c,x.cps[i]?=some c/\tb { D with nx:=W (i+1),ct:=W (i+1),bk:=D.nx } (.str ⟨#[c]⟩) σ H
theorem xY {X:Cx} {tg:Sm} {body:List Sz} {x:Ru} {k:Nat} {AJ pos:Vo} {tb:Ends->V->St->Hp->Prop} (hp:PassesOwn (RO X.prog X.w) X.A X.env X.xe) (hc:X.calm=true) (ha:x.cps.all (·<128)=true) (hb:BT X tg body tb)
 (hs:∀ y,VY (.Constant (.str x) k AJ) X.env y=pure y:=by intro _;rfl):PS X (.For tg (.Constant (.str x) k AJ) body [] pos) (aac x tb):=by
 intro pins s σ H D I h;obtain ⟨W,w0,turn⟩:=h;refine wpAny_For (Ui ?_) hs;have I1:Inv X pins σ H { s with toks:=s.toks+1 }:=I.tok _;refine wpAny_pyIter_ascii ha ?_;have T:=mr (P:=X.prog) (w:=X.w) (K:=X.K) (tg:=tg) x s.toks s.heap.objs.size
 have f2:∀ b∈[s.heap.objs.size],ig X pins H b:=fun b hb=>by
  have e:b=s.heap.objs.size:=by simpa using hb
  subst e;exact I.fpOk (Q8 _) (I.hok.fresh (Q8 _))
 have Bo:∀ {H':Hp},(∀ b∈[s.heap.objs.size],H' b=none)->∀ b∈[s.heap.objs.size],ig X pins H' b:=fun hn b hb=>⟨hn b hb,(f2 b hb).2⟩;refine codeAny_forLoop_any (fun n s'=>∃ i Ab H',Inv X pins Ab H' s'/\s'.heap.IsStrIter s.heap.objs.size "str_ascii_iterator" x s.toks i/\(∀ b∈[s.heap.objs.size],H' b=none)/\W i Ab H'/\n+i=x.cps.size+1/\i<=x.cps.size/\0<s'.toks) ?_ (x.cps.size+1) ⟨0,σ,H,I1.kept (t':=s.toks+1) fun b o e=>Q5 _ e,⟨_,Rf _ rfl,rfl,rfl⟩,fun b hb=>(f2 b hb).1,w0,rfl,RJ _,Nat.succ_pos _⟩;rintro n s3 ⟨i,BZ,H3,I3,FW,Fq,w3,L3,JV,JW⟩;rcases turn i BZ H3 w3 with ⟨stop,qn⟩ | ⟨c,L6,step⟩
 · refine S5 hp (thn (T.done X rfl rfl rfl hc i pins s3 BZ H3 X.xe I3 (Bo Fq) FW stop) fun r s4 ⟨hr,I4⟩=>?_);subst hr;exact U5 ⟨BZ,H3,I4,qn⟩
 · have A':i<x.cps.size:=(Array.getElem?_eq_some_iff.mp L6).1;obtain ⟨f0,f1,Qz,f3,f4,f5⟩:=Bo Fq s.heap.objs.size (by simp);refine S5 hp (wpAny_pyNext_ascii_item FW (c:=c) L6 fun h' Bg sb=>?_);have I5:Inv X pins BZ H3 { s3 with heap:=h',toks:=s3.toks+1 }:=I3.turned (fun b o hb e=>(sb.2 b hb).trans e) f0 f1 f3 f4 f5;obtain ⟨o5,e5,c5,d5⟩:=id Bg;refine S5 hp (lS (s:={ s3 with heap:=h',toks:=s3.toks+1 }) e5 c5 d5 (by decide) ?_);have Jk:=I5.pinned (Bo Fq) (T.obj (i+1) h' Bg);have hB:=hb _ { s3 with heap:=h',toks:=s3.toks+1 } BZ H3 c s3.toks { D with nx:=W (i+1),ct:=W (i+1),bk:=D.nx } Jk JW (UL _) step;have Oe:=wpAny_toks_of (n:=1) (show 1<=s3.toks+1 by omega) hB;refine S5 hp (Ta Oe (fun _ s6 ⟨Of,h6⟩=>?_) fun e s' h=>h.2);have Og:=wpAny_toks_of (n:=1) Of h6;refine S5 hp (Ta Og (fun f s7 ⟨Oh,q7⟩=>?_) fun e s' h=>h.2)
   have again:∀ {Bx:St} {H7:Hp},Inv X (pins++j8 [s.heap.objs.size] h') Bx H7 s7->W (i+1) Bx H7->∃ m,m<n/\∃ i Ab H',Inv X pins Ab H' s7/\s7.heap.IsStrIter s.heap.objs.size "str_ascii_iterator" x s.toks i/\(∀ b∈[s.heap.objs.size],H' b=none)/\W i Ab H'/\m+i=x.cps.size+1/\i<=x.cps.size/\0<s7.toks:=fun {Bx H7} I7 n7=>by
    refine ⟨n - 1,by omega,i+1,Bx,H7,I7.unpinned,T.keep _ _ _ Bg fun b hb o e=>(I7.pin (b,o) (RV _ (RV _ (cU hb e)))).1,fun b hb=>?_,n7,by omega,by omega,Oh⟩;obtain ⟨o,e,d⟩:=T.obj _ _ Bg b hb;exact (I7.pin (b,o) (RV _ (RV _ (cU hb e)))).2.1
   cases f with
   | next=>obtain ⟨Bx,H7,I7,n7⟩:=q7;exact again I7 n7
   | cont=>obtain ⟨Bx,H7,I7,n7⟩:=q7;exact again I7 n7
   | brk=>obtain ⟨Bx,H7,I7,q7⟩:=q7;exact ⟨Bx,H7,I7.unpinned,q7⟩
   | ret v=>obtain ⟨x7,Bx,H7,I7,r7,q7⟩:=q7;exact ⟨x7,Bx,H7,I7.unpinned,r7,q7⟩
def aas (i j:Nat):Ends->V->St->Hp->Prop:=fun D v σ H=>∃ (z:Ru) (c:Nat),v=.str ⟨#[c]⟩/\σ[j]?=some (some (.str z))/\c≠32/\z.length<=1000000/\D.nx ((σ.set i (some v)).set j (some (.str (ofL (dZ c [32,c,32] z.cps.toList))))) H
theorem yI {c:Nat}:((⟨#[c]⟩:Ru) == (⟨#[32,c,32]⟩:Ru))=false:=by
 refine beq_false_of_ne fun z=>?_;have:=congrArg (fun w:Ru=>w.cps.size) z;cases this
theorem zd {X:Cx} {i j:Nat} {x y:Ru} {p0 p1 p2 p3 p4 p5 p6 p7 p8 p9 JX JY:Vo} {k1 k2:Nat} (hN:X.N.Nodup) (hi:X.N[i]?=some x) (hj:X.N[j]?=some y) (Ej:i≠j) (hx:X.env.scope.names.lookup x=some .local) (hy:X.env.scope.names.lookup y=some .local)
 (Ik:(x == ("__debug__":Ru))=false:=by decide) (Oi:(y == ("__debug__":Ru))=false:=by decide) (Bp:(p4.endLine == JX.line)=true:=by rfl)
 (hs:swapsWith (.Call (.Attribute (.Name y p3) "replace" p4) [.Name x p5,.JoinedStr [.Constant (.str (QZ " ")) k1 p6,.FormattedValue (.Name x p7) (-1) none p8,.Constant (.str (QZ " ")) k2 p9] JY] [] JX) (some (.Name y p2)) p1.line X.env=pure false:=by rfl) :
 BT X (.Name x p0) [.Assign [.Name y p2] (.Call (.Attribute (.Name y p3) "replace" p4) [.Name x p5,.JoinedStr [.Constant (.str (QZ " ")) k1 p6,.FormattedValue (.Name x p7) (-1) none p8,.Constant (.str (QZ " ")) k2 p9] JY] [] JX) p1] (aas i j):=by
 intro pins s σ H c t D I Oj ht h;obtain ⟨z,c',hv,Ol,Om,hz,q⟩:=h
 have Ea:c=c':=by
  have h1:=V.str.inj hv;have h2:=congrArg (fun w:Ru=>w.cps) h1;simpa using h2
 subst Ea;refine wpAny_assign_Name (uP (v:=.str ⟨#[c]⟩) I hN hi hx ⟨t,rfl⟩ fun h' m' I2 hn L7 hm=>?_);obtain ⟨u0,r0,Oo⟩:=hm j y _ (UX Ej) hj Ol hy;obtain ⟨t0,rfl⟩:=r0;refine wpAny_execs_cons ?_;refine wpAny_Assign_Name (UB rfl rfl Bp rfl (Wj (UR I2.ok.kind hy hn Oo ?_) Oi)) hs;refine ⟨"str","str.replace",RW,PySem.F.slot_str_replace,PySem.F.type_str_replace,UC _ _ _,(fun _ e=>nomatch e),?_⟩;refine T4 rfl (UT ?_);show Rw _ _ (VX [(false,Tz (.Name x p5) X.env),(false,Tz (.JoinedStr [.Constant (.str (QZ " ")) k1 p6,.FormattedValue (.Name x p7) (-1) none p8,.Constant (.str (QZ " ")) k2 p9] JY) X.env)]) _ _ _;refine S3 (Wj (UR I2.ok.kind hx hn L7 ?_) Ik);refine S3 ?_
 have fin:∀ (t2 k:Nat),t<t2->Rw (RO X.prog X.w) X.A (call (.builtin "str.replace") [.str z t0,.str ⟨#[c]⟩ t,.str ⟨#[32,c,32]⟩ t2]) (fun v f'=>Rw (RO X.prog X.w) X.A (storeName X.env y v) (fun _ s'=>Rw (RO X.prog X.w) X.A (execs [] X.env) (SP X pins D) X.xe s') X.xe f') X.xe { s with heap:=h',toks:=k }:=fun t2 k hk=>by
  refine SC.replaceW (Ut Oj) (Ut (Vs (RJ _) hk)) (RT hk) yI (by omega) (by show 3<=14;decide) fun t' k'=>?_;rw [replace_one z ⟨#[32,c,32]⟩ c (by show 3≠0;decide)];refine jF (v:=.str (ofL (dZ c [32,c,32] z.cps.toList))) (I2.tok k') hN hj (.inl hy) ⟨t',rfl⟩ (fun s2 I3=>U5 ⟨_,H,I3,?_⟩) (.inr hy);exact q
 have e3:U1++QZ " "++(⟨#[c]⟩:Ru)++QZ " "=⟨#[32,c,32]⟩:=rfl;have big:∀ n:Nat,n<=100->n<=Ry:=fun n hn=>by rw [TC];omega
 refine wpAny_JoinedStr ?_;show Rw _ _ (Tz (.Constant (.str (QZ " ")) k1 p6) X.env) _ _ _;refine Ui ⟨_,_,rfl,big _ (by decide),?_⟩;show Rw _ _ (Tz (.FormattedValue (.Name x p7) (-1) none p8) X.env) _ _ _;refine VJ (Wj (UR I2.ok.kind hx hn L7 ?_) Ik)
 have last:∀ k:Nat,t<k->Rw (RO X.prog X.w) X.A (Tz (.Constant (.str (QZ " ")) k2 p9) X.env) (fun v f'=>∃ y' t',v=.str y' t'/\(U1++QZ " "++(⟨#[c]⟩:Ru)++y').length<=Ry/\Joins (RO X.prog X.w) X.A X.xe (evalEach [] X.env) (U1++QZ " "++(⟨#[c]⟩:Ru)++y') (fun out f'=>out.length<=Ry/\Rw (RO X.prog X.w) X.A (VX []) (fun vs AS=>Rw (RO X.prog X.w) X.A (call (.builtin "str.replace") ([.str z t0]++(.str ⟨#[c]⟩ t::.str out f'.toks::vs))) (fun v f'=>Rw (RO X.prog X.w) X.A (storeName X.env y v) (fun _ s'=>Rw (RO X.prog X.w) X.A (execs [] X.env) (SP X pins D) X.xe s') X.xe f') X.xe AS) X.xe { f' with toks:=f'.toks+1 }) f') X.xe { s with heap:=h',toks:=k }:=fun k hk=>by
  refine Ui ⟨_,_,rfl,big _ (by show 3<=100;decide),?_⟩;show _<=Ry/\_;rw [e3];refine ⟨big _ (by show 3<=100;decide),?_⟩;exact TU (fin _ _ (S7 hk))
 refine wpAny_formatField_str ?_ ?_ (big _ (by show 1<=100;decide))
 · exact ⟨_,_,rfl,big _ (by show 2<=100;decide),last _ (S7 (S7 ht))⟩
 · exact ⟨_,_,rfl,big _ (by show 2<=100;decide),last _ (S7 (S7 (S7 ht)))⟩
end L2
namespace L2
open PySem PySem.Spec PySem.Calls PyProof.Rows PySem.Builtin PySem.Builtin.Str BB
variable {X:Cx}
def zi:V->List V->Hp->VK->Prop:=fun x vs H Q=>∃ z y,x=.str z/\vs=[.str y]/\(y.length == 0)=false/\z.length<=1000000/\∀ p,H p=none->Q (.ref p) (upd H p (.lst ((Tn z y).map V.str)))
theorem om:∀ {l:List (Ru×Tok)} {zs:List Ru},l.map (·.1)=zs->Vals (zs.map V.str) (V7 l)
 | [],_,e=>by subst e;exact .nil
 | (z,t)::l,_,e=>by
   subst e;exact .cons ⟨t,rfl⟩ (om rfl)
theorem split_len (z y:Ru) (hz:z.length<=1000000):(partsBetween z (occurrences z y 0 z.length (z.length+1)) y.length).length<=Ry/\(Tn z y).length<=Ry:=by
 have h1:=StrLaws.occ_length_le z y 0 z.length (z.length+1);have h2:=PySem.length_partsBetween z (occurrences z y 0 z.length (z.length+1)) y.length;have h3:Ry=16777216:=TC;refine ⟨by omega,?_⟩;unfold Tn;split
 · show 1<=Ry;omega
 · split
   · show 1<=Ry;omega
   · omega
theorem lI:MtR X "str.split" zi:=by
 intro pins s σ H x vs v us Q I rx rv h;obtain ⟨z,y,rfl,rfl,hy,hz,q⟩:=h;obtain ⟨t,rfl⟩:=rx;obtain ⟨u,rfl,t',rfl⟩:=rv.one;obtain ⟨AZ,Bn⟩:=split_len z y hz;have hf:H s.heap.objs.size=none:=I.hok.fresh (Q8 _)
 have fin:∀ (l:List (Ru×Tok)) (k:Nat),l.map (·.1)=Tn z y->EP X pins σ Q (.ref s.heap.objs.size) { s with toks:=k,heap:=s.heap.push { cls:=.type "list",data:=.seq (V7 l).toArray } }:=fun l k hl=>by
  refine ⟨.ref s.heap.objs.size,upd H s.heap.objs.size (.lst ((Tn z y).map V.str)),I.laid (t':=k) (fun b u e=>Q5 _ e) (Q8 _) ?_,rfl,q _ hf⟩;exact ⟨by rw [Q0];exact Bn,_,_,om hl,Rf _ rfl⟩
 cases h1:(decide (z.length<y.length) || decide (strKind z<strKind y))
 · cases hf:(occurrences z y 0 z.length (z.length+1)).isEmpty
   · refine UD F.slot_str_split (UC _ _ _) F.entry_str_split (F.args_str_split_2 _ _) (meets_str_split_sep z y t t' h1 hy hf (by rw [TC];omega) AZ) ?_;show wants (EP X pins σ Q) X.xe _ { s with toks:=_,heap:=s.heap.push { cls:=.type "list",data:=.seq (strsFrom s.toks (partsBetween z (occurrences z y 0 z.length (z.length+1)) y.length)).toArray } };rw [strsFrom_eq];exact fin (numbered s.toks _) _ ((numbered_texts _ _).trans ((if_neg (ne_true_of_eq_false h1)).trans (if_neg (ne_true_of_eq_false hf))).symm)
   · exact UD F.slot_str_split (UC _ _ _) F.entry_str_split (F.args_str_split_2 _ _) (meets_str_split_not_found z y t t' h1 hy hf) (fin [(z,t)] s.toks ((if_neg (ne_true_of_eq_false h1)).trans (if_pos hf)).symm)
 · exact UD F.slot_str_split (UC _ _ _) F.entry_str_split (F.args_str_split_2 _ _) (meets_str_split_cannot_occur z y t t' h1) (fin [(z,t)] s.toks (if_pos h1).symm)
end L2
namespace BB
open PySem L2
def rep3 (l:List Nat):List Nat:=dZ 44 [32,44,32] (dZ 41 [32,41,32] (dZ 40 [32,40,32] l))
def spS (d:Nat):List Nat:=if d=40∨d=41∨d=44 then [32,d,32] else [d]
theorem xT (l:List Nat):rep3 l=l.flatMap spS:=by
 unfold rep3 dZ;rw [Wz,Wz];congr 1;funext d;unfold spS;by_cases h1:d=40
 · subst h1;rfl
 · rw [if_neg h1];by_cases h2:d=41
   · subst h2;rfl
   · by_cases h3:d=44
     · subst h3;rfl
     · rw [if_neg (by omega)];simp [h2,h3]
def wds (l:List Nat):List (List Nat):=(aR 32 l).filter fun p=>!p.isEmpty
theorem i6 (c:Nat) (b:List Nat):∀ a:List Nat,aR c (a++c::b)=aR c a++aR c b
 | []=>by simp [aR]
 | d::a=>by
   rw [Rz,aR,i6 c b a,aR];by_cases h:d=c
   · rw [if_pos h,if_pos h];rfl
   · rw [if_neg h,if_neg h];obtain ⟨p,r,e⟩:=cx c a;rw [e];rfl
theorem hV (a b:List Nat):wds (a++32::b)=wds a++wds b:=by unfold wds;rw [i6,Vu]
theorem xg:wds []=[]:=rfl
theorem uY (b:List Nat):wds (32::b)=wds b:=by
 have:=hV [] b;rw [RN,xg,RN] at this;exact this
theorem cW (b:List Nat):∀ g:Nat,wds (Ro g 32++b)=wds b
 | 0=>rfl
 | g+1=>by rw [Sd,Rz,uY,cW b g]
theorem eA (c:Nat):∀ w:List Nat,(∀ d∈w,d≠c)->aR c w=[w]
 | [],_=>rfl
 | d::w,h=>by rw [aR,if_neg (h d (Rn ..)),eA c w fun e he=>h e (Ri _ he)]
theorem md {w:List Nat} (h:∀ d∈w,d≠32) (Av:w≠[]):wds w=[w]:=by
 unfold wds;rw [eA 32 w h,S2,List.filter_nil];cases w with
 | nil=>exact absurd rfl Av
 | cons d w=>rfl
def wordsOf (x:Ru):List Ru:=(wds (rep3 x.cps.toList)).map ofL
mutual
def Th.wT:Th->List Ru
 | .knot n ts=>n::(if ts=[] then [] else lpar::(wTs ts++[rpar]))
 | .call _ _=>[]
def wTs:List Th->List Ru
 | []=>[]
 | t::ts=>t.wT++(if ts=[] then [] else comma::wTs ts)
end
def sL (x:Ru):List Nat:=x.cps.toList
theorem lX:sL comma=[44]:=by decide +kernel
theorem oS:sL lpar=[40]:=by decide +kernel
theorem pA:sL rpar=[41]:=by decide +kernel
def okW (x:Ru):Prop:=Low x/\x.length≠0
theorem join_cons (sep x:Ru) (xs:List Ru):UH sep (x::xs)=if xs=[] then x else x++sep++UH sep xs:=by
 cases xs with
 | nil=>rfl
 | cons y ys=>rfl
mutual
theorem tZ:∀ t:Th,(∀ p∈t.walk,p.isCall=false)->sL t.show=(t.wT.map sL).flatten
 | .call _ _,h=>by
   have:=h _ (by rw [Th.walk];exact Rn ..);cases this
 | .knot n ts,h=>by
   rw [Th.show,Th.wT];have hs:=qE ts fun p hp=>h p (by rw [Th.walk];exact Ri _ hp);unfold fY;by_cases h0:ts=[]
   · subst h0;simp [bh]
   · have he:(bh ts).isEmpty=false:=by
      cases ts with
      | nil=>exact absurd rfl h0
      | cons x xs=>rw [bh];rfl
     rw [he,if_neg (by decide),if_neg h0];have hj:R8 comma (bh ts)=UH comma (bh ts):=Uk _ _;rw [hj];unfold sL at hs ⊢;rw [Tf,Tf,Tf,Sj,Sj,Sj,hs];simp
theorem qE:∀ ts:List Th,(∀ p∈walks ts,p.isCall=false)->sL (UH comma (bh ts))=((wTs ts).map sL).flatten
 | [],_=>by rw [bh,wTs];rfl
 | t::ts,h=>by
   have h1:=tZ t fun p hp=>h p (by rw [walks];exact Ug _ hp);have h2:=qE ts fun p hp=>h p (by rw [walks];exact RV _ hp);rw [bh,wTs,join_cons];by_cases h0:ts=[]
   · subst h0;rw [bh,if_pos rfl,if_pos rfl,RC];exact h1
   · have he:bh ts≠[]:=by
      cases ts with
      | nil=>exact absurd rfl h0
      | cons x xs=>rw [bh];simp
     rw [if_neg he,if_neg h0];unfold sL at h1 h2 ⊢;rw [Tf,Tf,Sj,Sj,h1,h2];simp
end
end BB
namespace BB
open PySem L2
section
variable {H H':Hp} {t:Th} {a:Q7} {ts:List Th} {es:List Q7}
end
theorem uU {base n:Int} (hn:0<=n):(nameOf base n).length≠0:=by
 unfold nameOf;split
 · rw [jG];have h8:=cX (base / 112) 8;rw [h8];have h1:HT.sIx 8 0 none=0:=rfl
   have h2:HT.sIx 8 8 (some (n+1))≠0:=by
    have e:n+1=((n.toNat+1:Nat):Int):=by omega
    rw [e,HT.sIx_nat];omega
   rw [h1];omega
 · rw [Rh,Rh];have:(⟨#[kW base n]⟩:Ru).length=1:=rfl;omega
theorem kT (cell:Int):∀ k∈cf cell,okW k.1:=fun k hk=>by
 obtain ⟨i,hi⟩:=RZ.mp hk;obtain ⟨e,_⟩:=cF hi;refine ⟨((fw cell).low k hk).1,?_⟩;rw [e];exact uU (by omega)
end BB
namespace L2
open PySem PySem.Spec PyProof.Rows BB
variable {X:Cx}
def zh:R2:=fun x y H Q=>∃ (c:Nat) (n:Int),x=.str ⟨#[c]⟩/\y=.int n/\0<=n/\n<=1000/\Q (.str (ofL (Ro n.toNat c))) H
theorem jq:OpR X (Uw .Mult) zh:=by
 intro pins s σ H x y v u Q I rx ry h;obtain ⟨c,n,rfl,rfl,h1,h2,q⟩:=h;by_cases h0:n<1
 · obtain ⟨t,rfl⟩:=rx;obtain ⟨t',rfl⟩:=ry;have hn:n=0:=by omega
   subst hn;exact PySem.P.mul_str_none (by omega) (by omega) ⟨.str U1,H,I.tok _,⟨_,rfl⟩,q⟩
 · refine xi pins s σ H _ _ v u Q I rx ry ⟨c,n,rfl,rfl,by omega,h2,?_⟩;rw [mz];exact q
end L2
namespace L2
open PySem PySem.Spec PyProof.Rows PySem.W
end L2
namespace L2
open PySem PySem.Spec PyProof.Rows BB
variable {X:Cx}
end L2
namespace L2
open PySem PySem.Spec PySem.Calls PyProof.Rows PySem.W
end L2
namespace BB
open PySem L2 PySem.Builtin PySem.Builtin.Str
theorem d6 (x y:Ru):sL (x++y)=sL x++sL y:=by unfold sL;rw [Tf,Sj]
theorem gb (x:Ru):(sL x).length=x.length:=RD
def blk:Ru:=QZ " "
theorem zk:sL blk=[32]:=by decide +kernel
def jn:List (List Nat)->List Nat
 | []=>[]
 | [x]=>x
 | x::y::r=>x++32::jn (y::r)
theorem lB:∀ ws:List Ru,sL (R8 blk ws)=jn (ws.map sL):=by
 intro ws;have h1:R8 blk ws=UH blk ws:=Uk _ _;rw [h1];clear h1;induction ws with
 | nil=>rfl
 | cons x ws ih =>
   rw [join_cons];cases ws with
   | nil=>rw [if_pos rfl];rfl
   | cons y ws =>
     rw [if_neg (by simp),d6,d6,ih,zk,RF];rfl
theorem ww:∀ ls:List (List Nat),wds (jn ls)=(ls.map wds).flatten
 | []=>rfl
 | [x]=>by rw [jn,Rr,SY,RR,VO,RC]
 | x::y::r=>by
   rw [jn,hV,ww (y::r)];rfl
theorem wF {c:Nat}:∀ {ls:List (List Nat)},c∈jn ls->c=32∨∃ l∈ls,c∈l
 | [],h=>by rw [jn] at h;cases h
 | [x],h=>by rw [jn] at h;exact .inr ⟨x,Rn ..,h⟩
 | x::y::r,h=>by
   rw [jn] at h;rcases RE.mp h with h | h
   · exact .inr ⟨x,Rn ..,h⟩
   · rcases Rq.mp h with h | h
     · exact .inl h
     · rcases wF h with h | ⟨l,hl,hc⟩
       · exact .inl h
       · exact .inr ⟨l,Ri _ hl,hc⟩
theorem wz:∀ ls:List (List Nat),(jn ls).length<=(ls.map (·.length)).sum+ls.length
 | []=>Q8 _
 | [x]=>by rw [jn];simp
 | x::y::r=>by
   have:=wz (y::r);rw [jn,Ra,Q3,Rr,Ve,Q3];omega
end BB
namespace L2
open PySem PySem.Spec PySem.Calls PyProof.Rows PySem.Builtin PySem.Builtin.Str BB
variable {X:Cx}
end L2
namespace L2
open PySem PySem.Spec PyProof.Rows
end L2
namespace BB
open PySem L2
mutual
theorem qT {ks:List (Ru×Int)} {S C:Int} (hn:(ks.map (·.1)).Nodup):∀ {t:Th},t.FitS ks S C->fpb ks S C t=true
 | .knot n ts,h=>by
   rw [Th.FitS] at h;rw [wJ,okP,decide_eq_true ((mi hn).mpr h.1),UW];exact l8 hn h.2
 | .call s k,h=>by
   rw [Th.FitS] at h;rw [wJ,okP,decide_eq_true ⟨h.1,h.2.1⟩,decide_eq_true ⟨h.2.2.1,h.2.2.2⟩];rfl
theorem l8 {ks:List (Ru×Int)} {S C:Int} (hn:(ks.map (·.1)).Nodup):∀ {ts:List Th},FitSs ks S C ts->v7 ks S C ts=true
 | [],_=>rfl
 | t::ts,h=>by
   rw [FitSs] at h;rw [mD,Rr,Vf,qT hn h.1,<- mD,l8 hn h.2];rfl
end
def gf (rows:List (List Th)):List Dv:=rows.map fun row=>.tup (dvs row)
def fA (ins outs:List (Ru×Int)) (head:Th) (rows:List (List Th)):List Dv:=[.tup (ins.map kDv),.tup (outs.map kDv),head.dv,.tup (gf rows)]
theorem tW {H:Hp}:∀ {rows:List (List Th)} {AG:List Q7},R3 (RowAt H) rows AG->DAts H (gf rows) (AG.map V.ref)
 | _,_,.nil=>.nil
 | _,_,.cons (a:=row) (b:=a) r h=>by
   obtain ⟨as,e,h1⟩:=r;show DAts H (Dv.tup (dvs row)::gf _) (V.ref a::_);refine .cons ?_ (tW h);rw [DAt];exact ⟨a,_,rfl,e,h1.dvs⟩
theorem xV {H:Hp} {ins outs:List (Ru×Int)} {head:Th} {rows:List (List Th)} {r ia oa ha ra:Q7} {Aq Al AG:List Q7} (b:BookAt H ins outs head rows r ia oa ha ra Aq Al AG):DAts H (fA ins outs head rows) [.ref ia,.ref oa,.ref ha,.ref ra]:=by
 refine .cons ?_ (.cons ?_ (.cons b.hd.dv (.cons ?_ .nil)))
 · rw [DAt];exact ⟨ia,_,rfl,b.inE,wD b.inK⟩
 · rw [DAt];exact ⟨oa,_,rfl,b.outE,wD b.outK⟩
 · rw [DAt];exact ⟨ra,_,rfl,b.rl,tW b.rw⟩
theorem kH {m:Nat}:∀ {rows:List (List Th)},(∀ row∈rows,∀ t∈row,t.tall<=m)->cn (gf rows)<=m+1
 | [],_=>by show cn []<=_;rw [cn];exact RJ _
 | row::rows,h=>by
   have h1:=kH (rows:=rows) fun r hr=>h r (Ri _ hr);have h2:=me row
   have h3:bd row<=m:=by
    have:=h row (Rn ..);clear h h1 h2;induction row with
    | nil=>rw [bd];exact RJ _
    | cons t ts ih =>
      rw [bd];have a:=this t (Rn ..);have b:=ih fun u hu=>this u (Ri _ hu);omega
   show cn (Dv.tup (dvs row)::gf rows)<=_;rw [cn,Dv.deep];omega
theorem qo {ins outs:List (Ru×Int)} {head:Th} {rows:List (List Th)} {m:Nat} (hm:1<=m) (h1:head.tall<=m) (h2:∀ row∈rows,∀ t∈row,t.tall<=m):cn (fA ins outs head rows)<=m+2:=by
 have a1:=mS ins;have a2:=mS outs;have a3:=head.dv_deep;have a4:=kH h2;unfold fA;simp only [cn,Dv.deep];omega
end BB
namespace BB
open PySem L2 PySem.Builtin PySem.Builtin.Str
def li (c:Nat):Nat->List Nat->List Nat
 | _,[]=>[]
 | off,d::l=>if d=c then [off] else li c (off+1) l
theorem qy (x y:Ru) (n:Nat):∀ (l:List Nat) (st:Array Nat×Nat),st.1.size=1->(forIn l st (SQ x y n 1)).run.fst=st.1
 | [],st,_=>rfl
 | a::l,st,h=>by
   rw [Tu];unfold SQ;rw [if_neg (fun z=>by have:=z.1.1.1;omega)];exact qy x y n l st h
theorem fG (x:Ru) (c:Nat):∀ (l pre:List Nat) (free:Nat),x.cps.toList=pre++l->free<=pre.length →
 (forIn (List.range' pre.length (l.length+1)) (#[],free) (SQ x ⟨#[c]⟩ x.length 1)).run.fst.toList=li c pre.length l
 | [],pre,free,hx,_=>by
   have hlen:pre.length=x.length:=by
    have:=congrArg Tt hx;rw [RD,RC] at this;exact this.symm
   rw [Te,hlen,li];show ((forIn [x.length] (#[],free) (SQ x ⟨#[c]⟩ x.length 1)).run.fst).toList=[];rw [Tu];unfold SQ;rw [if_neg (fun z=>by have:=z.1.2;rw [dh] at this;omega)];rfl
 | d::l,pre,free,hx,hf=>by
   have hlen:x.length=pre.length+(l.length+1):=by
    have:=congrArg Tt hx;rw [RD,Ra,Q3] at this;exact this
   rw [List.range'_succ,Tu,Q3];have hg:x.cps.toList[pre.length]?=some d:=by rw [hx];simp
   have BI:=subAt_one x c pre.length (by omega);rw [hg] at BI;have BG:x.cps.toList=(pre++[d])++l:=by rw [hx];simp
   have AX:(pre++[d]).length=pre.length+1:=by simp
   unfold SQ;rw [li];by_cases Bv:d=c
   · have h1:(((#[]:Array Nat).size<1/\free<=pre.length)/\pre.length+(⟨#[c]⟩:Ru).length<=x.length)/\subAt x ⟨#[c]⟩ pre.length=true:=by
      rw [dh,BI,Bv];exact ⟨⟨⟨by decide,hf⟩,by omega⟩,decide_eq_true rfl⟩
     rw [if_pos h1,if_pos Bv];show ((forIn (List.range' (pre.length+1) (l.length+1)) ((#[]:Array Nat).push pre.length,pre.length+1) (SQ x ⟨#[c]⟩ x.length 1)).run.fst).toList=_;rw [qy _ _ _ _ _ rfl];rfl
   · have h1:¬ ((((#[]:Array Nat).size<1/\free<=pre.length)/\pre.length+(⟨#[c]⟩:Ru).length<=x.length)/\subAt x ⟨#[c]⟩ pre.length=true):=fun z=>by
      have h2:=z.2;rw [BI] at h2;exact Bv (RI (of_decide_eq_true h2))
     rw [if_neg h1,if_neg Bv];have ih:=fG x c l (pre++[d]) free BG (by omega);rw [AX] at ih;exact ih
theorem qz (c:Nat) (post:List Nat):∀ (pre:List Nat) (off:Nat),(∀ d∈pre,d≠c)->li c off (pre++c::post)=[off+pre.length]
 | [],off,_=>by rw [RN,li,if_pos rfl];rfl
 | d::pre,off,h=>by
   rw [Rz,li,if_neg (h d (Rn ..)),qz c post pre (off+1) fun e he=>h e (Ri _ he),Q3];congr 1;omega
theorem occ_first {x:Ru} {c:Nat} {pre post:List Nat} (hx:x.cps.toList=pre++c::post) (hp:∀ d∈pre,d≠c):occurrences x ⟨#[c]⟩ 0 x.length 1=[pre.length]:=by
 rw [StrLaws.occ_eq];have h:=fG x c (pre++c::post) [] 0 hx (Q8 _)
 have hlen:x.length=(pre++c::post).length:=by
  rw [<- hx,RD];rfl
 rw [Te,<- hlen] at h;rw [show x.length+1 - 0=x.length+1 by omega,h,qz c post pre 0 hp,UJ]
end BB
namespace L2
open PySem PySem.Spec PySem.SeqAt PySem.Calls PyProof.Rows PySem.Builtin PySem.Builtin.Str BB
variable {X:Cx}
def aaX (K:Q4) (n:Nat) (t:TGs):TG:=fun v σ H Q=>∃ a xs,v=.ref a/\SqL K H a xs/\xs.length=n/\t xs σ H Q
theorem zn {es:List Sm} {k:Nat} {t:TGs} {n:Nat} {pos:Vo} (hc:X.calm=true) (h:PGs X es t)
 (hn:(Vn es X.env).length=n:=by rfl) (By:(Vn es X.env).findIdx? (·.1)=none:=by rfl):PG X (.Tuple es k pos) (aaX X.K n t):=by
 intro pins s σ H v u Q I r hw;obtain ⟨a,xs,e1,hq,hl,hw⟩:=hw;subst e1;cases r;obtain ⟨its,rv,ht,hz⟩:=I.list hq;rw [assign_Tuple];refine Q2 (wpAny_standAt ?_);unfold unpack;have hsz:its.toArray.size=n:=by rw [Rc,<- rv.length,hl]
 rw [hn,By,<- hsz];refine Q2 (S6 (PySem.W.kun_itemsOf (I.ok.hd hc) ht.isList fun h' hx=>?_));have I1:Inv X pins σ H { s with heap:=h' }:=I.kept (t':=s.toks) fun b o e=>hx b o (RT (Rv e)) e;exact h pins _ σ H xs _ Q I1 (by simpa using rv) hw
def aat:List V->Hp->VK->Prop:=fun xs H Q=>∃ (x:Ru) (n:Int),xs=[.str x]/\PySem.intText? x=some n/\x.length<=640/\Q (.int n) H
theorem uG:eH X (.type "int") aat:=by
 intro pins s σ H xs us Q I r h;obtain ⟨x,n,rfl,hn,hl,q⟩:=h;obtain ⟨u,rfl,t,rfl⟩:=r.one;exact PySem.W.KIN.call_text hn hl ⟨.int n,H,I.tok _,⟨_,rfl⟩,q⟩
def aaV (K:Q4):R2:=fun x y H Q=>∃ z,y=.str z/\((∃ w,x=.str w/\Q (.bl (decide (w=z))) H)∨∃ a vs,x=.ref a/\SqT K H a vs/\Q (.bl false) H)
theorem jX (hu:X.A.units+2<Vx):OpR X (TH .Eq) (aaV X.K):=by
 intro pins s σ H x y v u Q I rx ry h;obtain ⟨z,rfl,h⟩:=h;obtain ⟨t',rfl⟩:=ry;rcases h with ⟨w,rfl,q⟩ | ⟨a,vs,rfl,ha,q⟩
 · obtain ⟨t,rfl⟩:=rx
   have e:decide (w=z)=(w == z):=by
    by_cases h:w=z
    · subst h;simp
    · rw [decide_eq_false h];exact (beq_false_of_ne h).symm
   rw [e] at q;exact RcAt.str_str w t z t' X.prog X.w X.xe _ ⟨.bl (w == z),H,I,rfl,q⟩
 · cases rx;obtain ⟨its,rv,ht,hz⟩:=I.tuple ha;exact RcAt.tuple_str z t' (show s.heap.IsTuple a its.toArray from ht) (by omega) X.prog X.w X.xe _ ⟨.bl false,H,I,rfl,q⟩
def aad:V->List V->Hp->VK->Prop:=fun x vs H Q=>∃ (z:Ru) (c:Nat) (pre post:List Nat),x=.str z/\vs=[.str ⟨#[c]⟩]/\z.cps.toList=pre++c::post/\(∀ d∈pre,d≠c)/\z.length<=1000000/\∀ p,H p=none->Q (.ref p) (upd H p (.tup [.str (ofL pre),.str ⟨#[c]⟩,.str (ofL post)]))
theorem oW:MtR X "str.partition" aad:=by
 intro pins s σ H x vs v us Q I rx rv h;obtain ⟨z,c,pre,post,rfl,rfl,hx,hp,hz,q⟩:=h;obtain ⟨t,rfl⟩:=rx;obtain ⟨u,rfl,t',rfl⟩:=rv.one;have JZ:=occ_first hx hp;have hf:H s.heap.objs.size=none:=I.hok.fresh (Q8 _);have hm:=meets_str_partition z ⟨#[c]⟩ t t' rfl (by rw [TC];omega);rw [JZ] at hm;refine UD F.slot_str_partition (UC _ _ _) F.entry_str_partition (F.args_str_partition_2 _ _) hm ?_
 have e1:strSub z 0 pre.length=ofL pre:=g6 (by
  rw [aM];show (z.cps.extract 0 pre.length).toList=pre;rw [Array.toList_extract,hx];simp)
 have e2:strSub z (pre.length+(⟨#[c]⟩:Ru).length) z.length=ofL post:=g6 (by
  rw [aM];show (z.cps.extract (pre.length+1) z.cps.size).toList=post
  have hsz:z.cps.size=pre.length+(post.length+1):=by
   rw [<- RD,hx,Ra,Q3]
  rw [Array.toList_extract,hx,hsz];simp;exact R0 (by omega))
 show wants (EP X pins σ Q) X.xe _ { s with toks:=s.toks+1+1,heap:=s.heap.push { cls:=.type "tuple",data:=.seq [.str (strSub z 0 pre.length) s.toks,.str ⟨#[c]⟩ t',.str (strSub z (pre.length+(⟨#[c]⟩:Ru).length) z.length) (s.toks+1)].toArray } };rw [e1,e2];refine ⟨.ref s.heap.objs.size,upd H s.heap.objs.size (.tup [.str (ofL pre),.str ⟨#[c]⟩,.str (ofL post)]),I.laid (t':=s.toks+1+1) (fun b u e=>Q5 _ e) (Q8 _) ?_,rfl,q _ hf⟩;exact ⟨by show 3<=Ry;decide,_,_,.cons ⟨_,rfl⟩ (.cons ⟨_,rfl⟩ (.cons ⟨_,rfl⟩ .nil)),Rf _ rfl⟩
theorem vK:aal X (aak X.K):=by
 intro pins s σ H o i ov iv Q I r1 r2 h;obtain ⟨p,xs,k,z,rfl,rfl,hq,he,q⟩:=h;cases r1;obtain ⟨t,rfl⟩:=r2;obtain ⟨its,r,pl,hz⟩:=I.list hq;obtain ⟨j,h1,h2,h3,h4,h5⟩:=lw he;obtain ⟨w,ew,De⟩:=r.get h2;have hl:=r.length;have hn:=fD;have fin:EP X pins σ Q w s:=⟨z,H,I,De,q⟩;by_cases h0:0<=k
 · have hj:k.toNat=j:=by
    rw [seqIndex_of h0 h5] at h1;exact RI h1
   exact wpAny_getItem_list pl.isList h0 (by omega) (by rw [hj];simpa using ew) fin
 · have hj:(k+(its.toArray.size:Int)).toNat=j:=by
    rw [seqIndex_neg (by omega) h4] at h1;rw [Rc,<- hl];exact RI h1
   exact wpAny_getItem_list_neg pl.isList (by omega) (by rw [Rc,<- hl];omega) (by omega) (by rw [hj];simpa using ew) fin
def zM (K:Q4) (sep y z:Ru) (te:TE):TE:=fun σ H Q=>te σ H fun v H1=>∃ p ys,v=.ref p/\SqL K H1 p (ys.map V.str)/\(ys.map (·.length)).sum+ys.length * sep.length<=1000000/\(R8 sep ys).length<=1000000/\Q (.str (VZ (R8 sep ys) y z)) H1
theorem xI {sep y z:Ru} {e:Sm} {te:TE} {k0 k1 k2:Nat} {p0 p1 p2 p3 p4 p5 p6:Vo} (he:PE X e te) (Oq:(y == z)=false) (hz:z.length<=14)
 (hs:Se [e] X.env=[(false,Tz e X.env)]:=by rfl) (AZ:(p1.endLine == p2.line)=true:=by rfl) (Bn:(p3.endLine == p6.line)=true:=by rfl)
 (Ot:((Vw p2 (Se [e] X.env)).all (fun x=>!x.1) && (backToKw p2 (keywordEach [] X.env)).all (fun x=>x.1.isSome) && decide (([e]:List Sm).length+([]:List Keyword).length+(if ([]:List Keyword).isEmpty then 0 else 1)<30))=true:=by rfl) :
 PE X (.Call (.Attribute (.Call (.Attribute (.Constant (.str sep) k0 p0) "join" p1) [e] [] p2) "replace" p3) [.Constant (.str y) k1 p4,.Constant (.str z) k2 p5] [] p6) (zM X.K sep y z te):=by
 intro pins s σ H Q I h;refine UB rfl rfl Bn rfl ?_;refine UB rfl Ot AZ rfl (Ui ?_);refine ⟨"str","str.join",RW,SO,SN,UC _ _ _,(fun _ e=>nomatch e),?_⟩;have I1:Inv X pins σ H { s with toks:=s.toks+1 }:=I.tok _;refine wpAny_with_toks (n:=1) (show 1<=s.toks+1 by omega) ?_;refine Ta (Q:=EP X pins σ fun x H1=>∃ ys,x=.str (R8 sep ys)/\(R8 sep ys).length<=1000000/\Q (.str (VZ (R8 sep ys) y z)) H1) (E:=X.xe) ?_ (fun v s1 hv hk=>?_) fun e s' h _=>h
 · have hA:=(aa he (@ab X) hs) p2 pins _ σ H (fun vs H1=>match vs with | [v]=>∃ p ys,v=.ref p/\SqL X.K H1 p (ys.map V.str)/\(ys.map (·.length)).sum+ys.length * sep.length<=1000000/\(R8 sep ys).length<=1000000/\Q (.str (VZ (R8 sep ys) y z)) H1 | _=>False) I1 h;rw [hs] at hA ⊢;refine T4 rfl (UT ?_);refine thn hA fun us s2 ⟨vs,H2,I2,r2,q2⟩=>eC pins s2 σ H2 (.str sep) vs (.str sep s.toks) us _ I2 ⟨_,rfl⟩ r2 ?_
   match vs,q2 with
   | [v],⟨p,ys,e1,hl,Em,Il,q⟩=>exact ⟨sep,p,ys,rfl,by rw [e1],hl,by omega,ys,rfl,Il,q⟩
 · obtain ⟨x,H1,I2,rx,ys,rfl,hlen,q⟩:=hv;obtain ⟨t,rfl⟩:=rx;refine ⟨"str","str.replace",RW,PySem.F.slot_str_replace,PySem.F.type_str_replace,UC _ _ _,(fun _ e=>nomatch e),?_⟩;refine T4 rfl (UT ?_);show Rw _ _ (VX [(false,Tz (.Constant (.str y) k1 p4) X.env),(false,Tz (.Constant (.str z) k2 p5) X.env)]) _ _ _;refine S3 (Ui (S3 (Ui (TU ?_))));exact SC.replaceW (Ut hk) (Nat.succ_ne_zero _) (RT (UL _)) Oq (by omega) hz fun t' k'=>⟨.str _,H1,I2.tok k',⟨_,rfl⟩,q⟩
end L2
namespace BB
open PySem L2
inductive Stp where
 | sg (c:Ru)
 | th (t:Th)
mutual
def Th.stP:Th->List (List Ru×Stp)
 | .knot n ts=>([n],.th (.knot n []))::(if ts=[] then [] else ([lpar],.sg lpar)::(i9 ts++[([rpar],.sg rpar)]))
 | .call s k=>[([aJ s,dot,aJ k],.th (.call s k))]
def i9:List Th->List (List Ru×Stp)
 | []=>[]
 | t::ts=>t.stP++(if ts=[] then [] else ([comma],.sg comma)::i9 ts)
end
def Th.wP (t:Th):List Ru:=(t.stP.map (·.1)).flatten
structure PSt where
 tops:List (Th×Int)
 win:List Nat
 bef:Stp
def ended:Stp->Bool
 | .th _=>true
 | .sg c=>decide (c=rpar)
def sH:Stp->Bool
 | .th (.knot _ _)=>true
 | _=>false
def qQ (l:List (Th×Int)) (j:Nat) (f:Int->Int):List (Th×Int):=l.modify j fun p=>(p.1,f p.2)
def bW (S:PSt):Stp->Option PSt
 | .th t=>if ended S.bef=false then some ⟨S.tops++[(t,0)],S.win,.th t⟩ else none
 | .sg c=>if c=lpar then (if sH S.bef=true/\S.win.length<100/\S.tops≠[] then some ⟨qQ S.tops (S.tops.length - 1) (fun _=>1),S.win++[S.tops.length - 1],.sg c⟩ else none)
   else if c=comma then (if ended S.bef=true/\S.win≠[] then some ⟨qQ S.tops (S.win.getLastD 0) (·+1),S.win,.sg c⟩ else none)
   else if c=rpar then (if ended S.bef=true/\S.win≠[] then some ⟨S.tops,S.win.dropLast,.sg c⟩ else none)
   else none
def prun (S:PSt):List Stp->Option PSt
 | []=>some S
 | x::l=>(bW S x).bind fun S'=>prun S' l
def ny:Th->Th×Int
 | .knot n ks=>(.knot n [],(ks.length:Nat))
 | .call s k=>(.call s k,0)
theorem rQ (A B:List (Th×Int)) (x:Th×Int) (f:Int->Int):qQ (A++x::B) A.length f=A++(x.1,f x.2)::B:=by
 unfold qQ;induction A with
 | nil=>rfl
 | cons a A ih=>rw [Rz,Q3,List.modify_succ_cons,ih];rfl
theorem iB (l:List Nat) (x d:Nat):(l++[x]).getLastD d=x:=by rw [List.getLastD_eq_getLast?,List.getLast?_concat];rfl
theorem dM {S S':PSt} {x:Stp} {l:List Stp} (h:bW S x=some S'):prun S (x::l)=prun S' l:=by rw [prun,h];rfl
theorem ow:comma≠lpar/\rpar≠lpar/\rpar≠comma/\comma≠rpar/\lpar≠rpar:=by decide +kernel
theorem sP:ended (.sg lpar)=false:=decide_eq_false ow.2.2.2.2
theorem kI:ended (.sg comma)=false:=decide_eq_false ow.2.2.2.1
theorem r6:ended (.sg rpar)=true:=by
 show decide (rpar=rpar)=true;exact decide_eq_true rfl
mutual
theorem tH:∀ (t:Th) (S:PSt) (rest:List Stp),ended S.bef=false->t.tall+S.win.length<=100->∃ b,ended b=true/\prun S (t.stP.map (·.2)++rest)=prun ⟨S.tops++t.walk.map ny,S.win,b⟩ rest
 | .call s k,S,rest,hb,_=>by
   refine ⟨.th (.call s k),rfl,?_⟩;rw [Th.stP,Th.walk];exact dM (by rw [bW,if_pos hb];rfl)
 | .knot n ts,S,rest,hb,ht=>by
   have h1:bW S (.th (.knot n []))=some ⟨S.tops++[(.knot n [],0)],S.win,.th (.knot n [])⟩:=by rw [bW,if_pos hb]
   rw [Th.stP,Th.walk];by_cases hz:ts=[]
   · subst hz;rw [if_pos rfl];refine ⟨.th (.knot n []),rfl,?_⟩;rw [Rr,SY,Rz,RN,dM h1];rfl
   · rw [if_neg hz];rw [Th.tall] at ht;have hl:(S.tops++[((Th.knot n []:Th),(0:Int))]).length - 1=S.tops.length:=by rw [Ra];rfl
     have h2:bW ⟨S.tops++[(.knot n [],0)],S.win,.th (.knot n [])⟩ (.sg lpar)=some ⟨S.tops++[(.knot n [],1)],S.win++[S.tops.length],.sg lpar⟩:=by
      rw [bW,if_pos rfl,if_pos ⟨rfl,(by show S.win.length<100;omega),(by simp)⟩];dsimp only;rw [hl,rQ]
     obtain ⟨b,Ca,h3⟩:=tV ts hz S.tops n 1 [] S.win (.sg lpar) (.sg rpar::rest) sP (by omega);refine ⟨.sg rpar,r6,?_⟩;rw [Rr,Rr,Rj,Rr,SY,Rz,Rz,RF,Rz,RN,dM h1,dM h2,h3]
     have h4:bW ⟨S.tops++(.knot n [],1+((ts.length:Nat):Int) - 1)::([]++(walks ts).map ny),S.win++[S.tops.length],b⟩ (.sg rpar)=some ⟨S.tops++(.knot n [],1+((ts.length:Nat):Int) - 1)::([]++(walks ts).map ny),S.win,.sg rpar⟩:=by
      rw [bW,if_neg ow.2.1,if_neg ow.2.2.1,if_pos rfl,if_pos ⟨Ca,by simp⟩];dsimp only;rw [Wc]
     rw [dM h4,RN,Rr,ny,show (1:Int)+((ts.length:Nat):Int) - 1=((ts.length:Nat):Int) by omega]
theorem tV:∀ (ts:List Th),ts≠[]->∀ (A:List (Th×Int)) (n:Ru) (m:Int) (B:List (Th×Int)) (W:List Nat) (bef:Stp) (rest:List Stp),ended bef=false->bd ts+(W.length+1)<=100 →
 ∃ b,ended b=true/\prun ⟨A++(.knot n [],m)::B,W++[A.length],bef⟩ ((i9 ts).map (·.2)++rest)=prun ⟨A++(.knot n [],m+((ts.length:Nat):Int) - 1)::(B++(walks ts).map ny),W++[A.length],b⟩ rest
 | [],h,_,_,_,_,_,_,_,_,_=>absurd rfl h
 | t::ts,_,A,n,m,B,W,bef,rest,hb,ht=>by
   rw [bd] at ht;rw [i9,walks];by_cases hz:ts=[]
   · subst hz;rw [if_pos rfl,RC];obtain ⟨b,J0,h1⟩:=tH t ⟨A++(.knot n [],m)::B,W++[A.length],bef⟩ rest hb (by show t.tall+(W++[A.length]).length<=100;rw [Ra,Sq];omega);refine ⟨b,J0,?_⟩;rw [h1,walks,RC,RF,Rz];have:m+(([t].length:Nat):Int) - 1=m:=by show m+1 - 1=m;omega
     rw [this]
   · rw [if_neg hz];obtain ⟨b,J0,h1⟩:=tH t ⟨A++(.knot n [],m)::B,W++[A.length],bef⟩ (.sg comma::((i9 ts).map (·.2)++rest)) hb (by show t.tall+(W++[A.length]).length<=100;rw [Ra,Sq];omega)
     have h2:bW ⟨(A++(.knot n [],m)::B)++t.walk.map ny,W++[A.length],b⟩ (.sg comma)=some ⟨A++(.knot n [],m+1)::(B++t.walk.map ny),W++[A.length],.sg comma⟩:=by
      rw [bW,if_neg ow.1,if_pos rfl,if_pos ⟨J0,by simp⟩];dsimp only;rw [iB,RF,Rz,rQ]
     obtain ⟨b2,Ca,h3⟩:=tV ts hz A n (m+1) (B++t.walk.map ny) W (.sg comma) rest kI (by omega);refine ⟨b2,Ca,?_⟩;rw [Rj,Rr,RF,Rz,h1,dM h2,h3];congr 2;rw [Rj,RF,Q3];congr 3
     push_cast
     omega
end
theorem v6 {t:Th} (h:t.tall<=100):∃ b,ended b=true/\prun ⟨[],[],.sg comma⟩ (t.stP.map (·.2))=some ⟨t.walk.map ny,[],b⟩:=by
 obtain ⟨b,hb,e⟩:=tH t ⟨[],[],.sg comma⟩ [] kI (by show t.tall+0<=100;omega);rw [RC,RN] at e;exact ⟨b,hb,e⟩
def sp4 (d:Nat):List Nat:=if d=46 then [32,46,32] else spS d
theorem xB (l:List Nat):rep3 (dZ 46 [32,46,32] l)=l.flatMap sp4:=by
 rw [xT];unfold dZ;rw [Wz];congr 1;funext d;unfold sp4;split
 · rfl
 · rw [SA,List.flatMap_nil,RC]
def W4 (l:List Nat):List (List Nat):=wds (l.flatMap sp4)
theorem yQ:sp4 32=[32]:=rfl
theorem zf (a b:List Nat):W4 (a++32::b)=W4 a++W4 b:=by
 unfold W4;rw [UP,SA,yQ];exact hV _ _
theorem vN:∀ ls:List (List Nat),W4 (jn ls)=(ls.map W4).flatten
 | []=>rfl
 | [x]=>by rw [jn,Rr,SY,RR,VO,RC]
 | x::y::r=>by
   rw [jn,zf,vN (y::r)];rfl
theorem rL:∀ l:List Nat,jn (aR 32 l)=l
 | []=>rfl
 | d::l=>by
   obtain ⟨p,r,e⟩:=cx 32 l;have ih:=rL l;rw [aR];rw [e] at ih ⊢;split
   · rename_i h
     rw [jn,ih,h];rfl
   · cases r with
     | nil=>rw [jn] at ih ⊢;rw [ih]
     | cons y r=>rw [jn] at ih ⊢;rw [Rz,ih]
theorem yG (l:List Nat):W4 (jn (wds l))=W4 l:=by
 rw [vN]
 conv=>rhs;rw [<- rL l,vN]
 unfold wds;generalize aR 32 l=ps;induction ps with
 | nil=>rfl
 | cons p ps ih =>
   rw [S2];cases p with
   | nil=>exact ih
   | cons d p =>
     show (List.map W4 ((d::p)::ps.filter fun p=>!p.isEmpty)).flatten=_;rw [Rr,RR,ih,Rr,RR]
def em (cur:List Nat):List (List Nat):=if cur=[] then [] else [cur]
def scW:List Nat->List Nat->List (List Nat)
 | cur,[]=>em cur
 | cur,c::l=>if c=32 then em cur++scW [] l else scW (cur++[c]) l
theorem w9 {cur:List Nat} (h:∀ c∈cur,c≠32):wds cur=em cur:=by
 unfold em;by_cases hz:cur=[]
 · rw [if_pos hz,hz];rfl
 · rw [if_neg hz];exact md h hz
theorem mQ:∀ (l cur:List Nat),(∀ c∈cur,c≠32)->wds (cur++l)=scW cur l
 | [],cur,h=>by rw [RC,scW];exact w9 h
 | c::l,cur,h=>by
   rw [scW];by_cases hc:c=32
   · rw [if_pos hc,hc,hV,w9 h];have:=mQ l [] (fun c h=>by cases h);rw [RN] at this;rw [this]
   · rw [if_neg hc]
     have:=mQ l (cur++[c]) fun d hd=>by
      rcases RE.mp hd with hd | hd
      · exact h d hd
      · rw [RH.mp hd];exact hc
     rw [<- this,RF];rfl
theorem wk (l:List Nat):W4 l=scW [] (l.flatMap sp4):=mQ _ [] fun c h=>by cases h
theorem fj (l:List Nat):∀ g:Nat,scW [] (Ro g 32++l)=scW [] l
 | 0=>rfl
 | g+1=>by rw [Sd,Rz,scW,if_pos rfl,fj l g];rfl
theorem tm (cur l:List Nat):∀ g:Nat,scW cur (Ro g 32++32::l)=em cur++scW [] l
 | 0=>by rw [List.replicate_zero,RN,scW,if_pos rfl]
 | g+1=>by
   rw [Sd,Rz,scW,if_pos rfl];have:=fj (32::l) g;rw [this,scW,if_pos rfl];rfl
theorem pL (l:List Nat):∀ (w cur:List Nat),(∀ c∈w,c≠32)->scW cur (w++l)=scW (cur++w) l
 | [],cur,_=>by rw [RN,RC]
 | c::w,cur,h=>by
   rw [Rz,scW,if_neg (h c (Rn ..)),pL l w _ fun d hd=>h d (Ri _ hd),RF];rfl
mutual
def Th.cP:Th->List Nat
 | .knot n ts=>sL n++(if ts=[] then [] else 40::(cPs ts++[41]))
 | .call s k=>[48+s.toNat,46,48+k.toNat]
def cPs:List Th->List Nat
 | []=>[]
 | t::ts=>t.cP++(if ts=[] then [] else 44::cPs ts)
end
theorem cr {n:Int} (h0:0<=n) (h1:n<10):sL (aJ n)=[48+n.toNat]:=by
 rcases (by omega:n=0∨n=1∨n=2∨n=3∨n=4∨n=5∨n=6∨n=7∨n=8∨n=9) with rfl | rfl | rfl | rfl | rfl | rfl | rfl | rfl | rfl | rfl <;> decide +kernel
theorem wo:sL dot=[46]:=by decide +kernel
theorem yc {s k:Int} (h0:0<=s) (h1:s<10) (h2:0<=k) (h3:k<10):sL (jA s k)=[48+s.toNat,46,48+k.toNat]:=by
 unfold jA;rw [d6,d6,cr h0 h1,cr h2 h3,wo];rfl
mutual
/-- calls of one J1,names Jb are words -/
def Th.Rd:Th->Prop
 | .knot n ts=>okW n/\n.length<=8/\Rds ts
 | .call s k=>0<=s/\s<10/\0<=k/\k<10
def Rds:List Th->Prop
 | []=>True
 | t::ts=>t.Rd/\Rds ts
end
theorem g7 {f:Int->Int->Th} {ts:List Th}:fills f ts=[]↔ts=[]:=by
 cases ts with
 | nil=>exact ⟨fun _=>rfl,fun _=>by rw [fills]⟩
 | cons t ts=>rw [fills];exact ⟨(fun z=>by cases z),(fun z=>by cases z)⟩
mutual
theorem yi:∀ {t:Th},t.Rd->((t.fill bt).wT.map sL).flatten=t.cP
 | .call s k,h=>by
   rw [Th.Rd] at h;rw [Th.fill,bt,Th.wT,if_pos rfl,Th.cP];show sL (jA s k)++[]=_;rw [RC,yc h.1 h.2.1 h.2.2.1 h.2.2.2]
 | .knot n ts,h=>by
   rw [Th.Rd] at h;rw [Th.fill,Th.wT,Th.cP,Rr,RR];congr 1;by_cases hz:ts=[]
   · rw [if_pos hz,if_pos (g7.mpr hz)];rfl
   · rw [if_neg hz,if_neg (fun z=>hz (g7.mp z)),Rr,RR,Rj,TR,wd h.2.2,oS];show [40]++(cPs ts++(sL rpar++[]))=_;rw [pA];rfl
theorem wd:∀ {ts:List Th},Rds ts->((wTs (fills bt ts)).map sL).flatten=cPs ts
 | [],_=>by rw [fills,wTs,cPs];rfl
 | t::ts,h=>by
   rw [Rds] at h;rw [fills,wTs,cPs,Rj,TR,yi h.1];congr 1;by_cases hz:ts=[]
   · rw [if_pos hz,if_pos (g7.mpr hz)];rfl
   · rw [if_neg hz,if_neg (fun z=>hz (g7.mp z)),Rr,RR,wd h.2,lX];rfl
end
mutual
theorem qZ:∀ (t:Th),∀ p∈(t.fill bt).walk,p.isCall=false
 | .call s k=>fun p hp=>by
   rw [Th.fill,bt,Th.walk,walks] at hp;rw [RH.mp hp];rfl
 | .knot n ts=>fun p hp=>by
   rw [Th.fill,Th.walk] at hp;rcases Rq.mp hp with rfl | hp
   · rfl
   · exact nR ts p hp
theorem nR:∀ (ts:List Th),∀ p∈walks (fills bt ts),p.isCall=false
 | []=>fun p hp=>by rw [fills,walks] at hp;cases hp
 | t::ts=>fun p hp=>by
   rw [fills,walks] at hp;rcases RE.mp hp with hp | hp
   · exact qZ t p hp
   · exact nR ts p hp
end
theorem t8 {t:Th} (h:t.Rd):sL (t.fill bt).show=t.cP:=by rw [tZ _ (qZ t),yi h]
def Nx (l:List Nat):Prop:=l=[]∨∃ c r,l=c::r/\(c=40∨c=41∨c=44)
theorem rD {c:Nat} (h:c=40∨c=41∨c=44∨c=46):sp4 c=[32,c,32]:=by
 rcases h with rfl | rfl | rfl | rfl <;> rfl
theorem hG {c:Nat} (h:c≠40/\c≠41/\c≠44/\c≠46):sp4 c=[c]:=by
 unfold sp4 spS;rw [if_neg h.2.2.2,if_neg (fun z=>by omega)]
theorem rH {w:List Nat} (h:∀ c∈w,47<=c):w.flatMap sp4=w:=by
 induction w with
 | nil=>rfl
 | cons c w ih =>
   have hc:=h c (Rn ..);rw [SA,hG ⟨by omega,by omega,by omega,by omega⟩,ih fun d hd=>h d (Ri _ hd)];rfl
theorem dJ (cur l:List Nat) {c:Nat} (h:c=40∨c=41∨c=44∨c=46):scW cur ((c::l).flatMap sp4)=em cur++[c]::scW [] (l.flatMap sp4):=by
 rw [SA,rD h];show scW cur (32::c::32::l.flatMap sp4)=_;rw [scW,if_pos rfl,scW,if_neg (by omega),scW,if_pos rfl];rfl
theorem wm {w l:List Nat} (hw:w≠[]) (h:Nx l):scW w (l.flatMap sp4)=w::scW [] (l.flatMap sp4):=by
 have he:em w=[w]:=by unfold em;rw [if_neg hw]
 rcases h with rfl | ⟨c,r,rfl,hc⟩
 · show em w=w::em [];rw [he];rfl
 · have Bm:c=40∨c=41∨c=44∨c=46:=by omega
   rw [dJ w r Bm,dJ [] r Bm,he];rfl
theorem sN {n:Ru} (h:okW n):(∀ c∈sL n,47<=c)/\sL n≠[]:=by
 refine ⟨fun c hc=>by have:=h.1 c hc;omega,fun z=>h.2 ?_⟩;rw [<- gb,z];rfl
mutual
theorem vO:∀ {t:Th},t.Rd->∀ (l:List Nat),Nx l->scW [] ((t.cP++l).flatMap sp4)=t.wP.map sL++scW [] (l.flatMap sp4)
 | .call s k,h,l,hl=>by
   rw [Th.Rd] at h;have e1:=cr h.1 h.2.1;have e2:=cr h.2.2.1 h.2.2.2;rw [Th.cP,Th.wP,Th.stP];show scW [] (((48+s.toNat)::46::(48+k.toNat)::l).flatMap sp4)=[sL (aJ s),sL dot,sL (aJ k)]++_;rw [SA,hG ⟨by omega,by omega,by omega,by omega⟩,Rz,RN,scW,if_neg (by omega),RN,dJ _ _ (.inr (.inr (.inr rfl))),SA,hG ⟨by omega,by omega,by omega,by omega⟩,Rz,RN,scW,if_neg (by omega),RN,wm (by simp) hl,e1,e2,wo];rfl
 | .knot n ts,h,l,hl=>by
   rw [Th.Rd] at h;obtain ⟨B7,Av⟩:=sN h.1;have Ck:∀ c∈sL n,c≠32:=fun c hc=>by have:=B7 c hc;omega
   rw [Th.cP,Th.wP,Th.stP];by_cases hz:ts=[]
   · rw [if_pos hz,if_pos hz,RC,UP,rH B7,pL _ _ _ Ck,RN,wm Av hl];rfl
   · rw [if_neg hz,if_neg hz,RF,Rz,RF,UP,rH B7,pL _ _ _ Ck,RN,dJ _ _ (.inl rfl),v8 h.2.2 hz ([41]++l) (.inr ⟨41,l,rfl,.inr (.inl rfl)⟩)];rw [Rz,RN,dJ _ _ (.inr (.inl rfl))];have he:em (sL n)=[sL n]:=by unfold em;rw [if_neg Av]
     rw [he];simp only [Rr,RR,Rj,TR,SY,VO,RC,Rz,RN,RF,oS,pA];rfl
theorem v8:∀ {ts:List Th},Rds ts->ts≠[]->∀ (l:List Nat),Nx l->scW [] ((cPs ts++l).flatMap sp4)=(((i9 ts).map (·.1)).flatten).map sL++scW [] (l.flatMap sp4)
 | [],_,hn,_,_=>absurd rfl hn
 | t::ts,h,_,l,hl=>by
   rw [Rds] at h;rw [cPs,i9];by_cases hz:ts=[]
   · rw [if_pos hz,if_pos hz,RC,RC,vO h.1 l hl];rfl
   · rw [if_neg hz,if_neg hz,RF,Rz,vO h.1 _ (.inr ⟨44,_,rfl,.inr (.inr rfl)⟩),dJ _ _ (.inr (.inr (.inl rfl))),v8 h.2 hz l hl];simp only [Rr,RR,Rj,TR,Rz,RN,RF,lX];rfl
end
theorem aab {t:Th} (h:t.Rd):W4 t.cP=t.wP.map sL:=by
 have:=vO h [] (.inl rfl);rw [RC] at this;rw [wk,this];show _++em []=_;exact RC _
inductive Wd (p:Nat->Bool):List Nat->List Nat->Prop
 | nil:Wd p [] []
 | ch {c:Nat} {l l':List Nat} (hc:c≠32) (h:Wd p l l'):Wd p (c::l) (c::l')
 | gap {c g h:Nat} {l l':List Nat} (hc:p c=true) (w:Wd p l l'):Wd p (c::l) (Ro g 32++c::(Ro h 32++l'))
def sgB (c:Nat):Bool:=decide (c=32∨c=40∨c=41∨c=44∨c=46)
def blB (c:Nat):Bool:=decide (c=32)
theorem iX:∀ g:Nat,(Ro g 32).flatMap sp4=Ro g 32
 | 0=>rfl
 | g+1=>by rw [Sd,SA,iX g];rfl
theorem yS (c:Nat):(c=40∨c=41∨c=44∨c=46)∨(c≠40/\c≠41/\c≠44/\c≠46):=by omega
theorem Wd.sc4 {l l':List Nat} (w:Wd sgB l l'):∀ cur:List Nat,scW cur (l'.flatMap sp4)=scW cur (l.flatMap sp4):=by
 induction w with
 | nil=>exact fun _=>rfl
 | @ch c l l' hc _ ih =>
   intro cur;rcases yS c with h | h
   · rw [dJ _ _ h,dJ _ _ h,ih]
   · rw [SA,SA,hG h];show scW cur (c::l'.flatMap sp4)=scW cur (c::l.flatMap sp4);rw [scW,if_neg hc,scW,if_neg hc,ih]
 | @gap c g h l l' hc _ ih =>
   intro cur;have Bm:=of_decide_eq_true hc;rw [UP,iX,SA,UP,iX];by_cases Ck:c=32
   · subst Ck;show scW cur (Ro g 32++32::(Ro h 32++l'.flatMap sp4))=scW cur (32::l.flatMap sp4);rw [tm,fj,ih,scW,if_pos rfl]
   · have h4:c=40∨c=41∨c=44∨c=46:=by omega
     rw [dJ _ _ h4,rD h4];show scW cur (Ro g 32++32::(c::32::(Ro h 32++l'.flatMap sp4)))=_;rw [tm,scW,if_neg Ck,scW,if_pos rfl,fj,ih];rfl
theorem Wd.W4 {l l':List Nat} (w:Wd sgB l l'):W4 l'=W4 l:=by rw [wk,wk];exact w.sc4 []
theorem Wd.scb {l l':List Nat} (w:Wd blB l l'):∀ cur:List Nat,scW cur l'=scW cur l:=by
 induction w with
 | nil=>exact fun _=>rfl
 | @ch c l l' hc _ ih=>intro cur;rw [scW,if_neg hc,scW,if_neg hc,ih]
 | @gap c g h l l' hc _ ih =>
   intro cur;have Ck:c=32:=of_decide_eq_true hc;subst Ck;rw [tm,fj,ih,scW,if_pos rfl]
theorem Wd.wds {l l':List Nat} (w:Wd blB l l'):wds l'=wds l:=by
 have h1:=mQ l' [] fun c h=>by cases h
 have h2:=mQ l [] fun c h=>by cases h
 rw [RN] at h1 h2;rw [h1,h2];exact w.scb []
theorem Wd.word {l l':List Nat}:∀ (w:List Nat),(∀ c∈w,47<=c)->Wd sgB (w++32::l) l'->∃ (g h:Nat) (r:List Nat),l'=w++(Ro g 32++32::(Ro h 32++r))/\Wd sgB l r
 | [],_,hw=>by
   cases hw with
   | ch hc _=>exact absurd rfl hc
   | @gap _ g h _ l2 _ w=>exact ⟨g,h,l2,rfl,w⟩
 | c::w,B7,hw=>by
   have hc:=B7 c (Rn ..);cases hw with
   | ch _ w2 =>
     obtain ⟨g,h,r,e,w3⟩:=Wd.word w (fun d hd=>B7 d (Ri _ hd)) w2;exact ⟨g,h,r,by rw [e];rfl,w3⟩
   | gap CW _ =>
     have:=of_decide_eq_true CW;omega
theorem lz (l:List Nat):∀ g:Nat,BB.wds (l++Ro g 32)=BB.wds l
 | 0=>by rw [List.replicate_zero,RC]
 | g+1=>by
   rw [Sd,hV,show BB.wds (Ro g 32)=[] by have:=cW [] g;rw [RC] at this;rw [this];rfl,RC]
theorem jE {w r:List Nat} (B7:∀ c∈w,47<=c) (Av:w≠[]) (g h:Nat):BB.wds (w++(Ro g 32++32::(Ro h 32++r)))=w::BB.wds r:=by
 rw [<- RF,hV,cW,lz,md (fun c hc=>by have:=B7 c hc;omega) Av];rfl
end BB
namespace L2
open PySem PySem.Spec PyProof.Rows
def v0 (K:Q4) (a:Q7):It:=⟨fun i H=>∃ xs x,SqL K H a xs/\xs[i]?=some x,fun i H x H'=>∃ p y,H p=none/\x=.ref p/\H'=upd H p (.tup [.int (i:Nat),y])/\∀ xs,SqL K H a xs->xs[i]?=some y,fun i H=>∃ xs,SqL K H a xs/\xs.length=i⟩
theorem tj {P:RL} {w:R1} {K:Q4} {elts:List Sm} {k1} {pos:Vo} (a e it:Q7):Turn P w K (.Tuple elts k1 pos) (v0 K a) [e,it] e (fun i h=>(∃ old,IsEnum h e it ((i:Nat):Int) old)/\h.IsListIter it a i) where
 mem:=by simp
 obj:=fun i h st b hb=>by
  obtain ⟨⟨old,he⟩,o,e1,e2,e3⟩:=st;rcases Rq.mp hb with rfl | hb
  · exact ⟨_,he,fun v z=>by cases z⟩
  · have:b=it:=by simpa using hb
    subst this;exact ⟨o,e1,fun v z=>by rw [e3] at z;cases z⟩
 keep:=fun i h h' st k=>by
  obtain ⟨⟨old,he⟩,o,e1,e2⟩:=st;exact ⟨⟨old,k e (by simp) _ he⟩,o,k it (by simp) _ e1,e2⟩
 item:=by
  intro X hP hw hK hc i pins s σ H E I hf st hg;subst hP hw hK;obtain ⟨xs,x,hq,hx⟩:=hg;obtain ⟨its,rv,p,hz⟩:=I.list hq;obtain ⟨u,hu,ru⟩:=rv.get hx;obtain ⟨⟨old,he⟩,hi⟩:=st
  have EL:e≠it:=by
   rintro rfl;obtain ⟨o,e1,e2,_⟩:=hi;rw [he] at e1;cases e1;exact absurd (Ux e2) (by decide)
  have EM:a≠it:=by
   rintro rfl;obtain ⟨o,e1,e2,_⟩:=hi;obtain ⟨o',CK,Bz,_⟩:=p.isList;rw [CK] at e1;cases e1;rw [Bz] at e2;exact absurd (Ux e2) (by decide)
  have JB:a≠e:=by
   rintro rfl;obtain ⟨o',CK,Bz,_⟩:=p.isList;rw [he] at CK;cases CK;exact absurd (Ux Bz) (by decide)
  have Ax:i<its.toArray.size:=by
   have:=(Rm.mp hu).1;simpa using this
  have JC:e<s.heap.objs.size:=Rv he;have A':it<s.heap.objs.size:=by obtain ⟨o,e1,_⟩:=hi;exact Rv e1
  refine wpAny_pyNext_enum_itemD (Draws.list (A:=X.A.in1) (show X.A.in1.handled=none from I.ok.hd hc) it a EM its.toArray) he ⟨hi,p.isList⟩ Ax EL (by simp [EL,JB.symm]) fun y h1 tk hy ho JD hT hsz hk=>?_
  have JE:y=u:=by
   have:its[i]?=some y:=by simpa using hy
   rw [hu] at this;exact (RI this).symm
  subst JE;refine ⟨_,rfl,wpAny_letOwnedTupleGo_enum ho fun h2 JF Dh=>?_⟩;replace Dh:TK e h1 h2:=Dh
  have Av:∀ b∈[e,it],b<s.heap.objs.size:=fun b hb=>by
   rcases Rq.mp hb with rfl | hb
   · exact JC
   · have:b=it:=by simpa using hb
     subst this;exact A'
  have Gi:H s.heap.objs.size=none:=I.hok.fresh (Q8 _)
  have IA:Inv X pins σ (upd H s.heap.objs.size (.tup [.int (i:Nat),x])) { s with heap:=s.heap.push { cls:=.type "tuple",data:=.seq #[.int (i:Nat) tk,y] },toks:=tk } :=
   I.laid (o:=.tup [.int (i:Nat),x]) (fun b ob q=>Q5 _ q) (Q8 _) ⟨by show 2<=Ry;decide,[.int (i:Nat) tk,y],0,.cons ⟨tk,rfl⟩ (.cons ru .nil),Rf _ rfl⟩
  refine ⟨.ref s.heap.objs.size,upd H s.heap.objs.size (.tup [.int (i:Nat),x]),?_,rfl,⟨_,x,Gi,rfl,rfl,fun ys Ge=>by rw [I.list_inj Ge hq];exact hx⟩,⟨⟨y,by simpa using JF⟩,?_⟩,fun b hb=>?_⟩
  · have IB:Inv X pins σ (upd H s.heap.objs.size (.tup [.int (i:Nat),x])) { s with heap:=h2,toks:=tk+1 }:=by
     refine Inv.turnedL (s:={ s with heap:=s.heap.push { cls:=.type "tuple",data:=.seq #[.int (i:Nat) tk,y] },toks:=tk }) (h':=h2) (fp:=[e,it]) (t':=tk+1) IA (fun b o hb q=>?_) fun b hb=>?_
     · have CI:b≠e:=fun z=>hb (by simp [z]);have Fx:b≠it:=fun z=>hb (by simp [z]);rw [Dh.2 b CI];by_cases Ca:b=s.heap.objs.size
       · subst Ca;rw [hT];have q':(s.heap.push { cls:=.type "tuple",data:=.seq #[.int (i:Nat) tk,y] }).get? s.heap.objs.size=some o:=q;rw [Rf _ rfl] at q';exact q'
       · have BH:b<(s.heap.push { cls:=.type "tuple",data:=.seq #[.int (i:Nat) tk,y] }).objs.size:=Rv q;rw [SD] at BH;refine hk b o CI Fx ?_;have q':(s.heap.push { cls:=.type "tuple",data:=.seq #[.int (i:Nat) tk,y] }).get? b=some o:=q;rw [Heap.get?_push_ne _ _ _ Ca] at q';exact q'
     · obtain ⟨f0,f1⟩:=hf b hb;exact ⟨by rw [al (RT (Av b hb))];exact f0,f1⟩
    exact IB
  · obtain ⟨o,e1,r⟩:=JD.1;exact ⟨o,(Dh.2 it (UX EL)).trans e1,r⟩
  · rw [al (RT (Av b hb))];exact (hf b hb).1
 done:=by
  intro X hP hw hK hc i pins s σ H E I hf st hg;subst hP hw hK;obtain ⟨xs,hq,hx⟩:=hg;obtain ⟨its,rv,p,hz⟩:=I.list hq;obtain ⟨⟨old,he⟩,hi⟩:=st
  have EM:a≠it:=by
   rintro rfl;obtain ⟨o,e1,e2,_⟩:=hi;obtain ⟨o',CK,Bz,_⟩:=p.isList;rw [CK] at e1;cases e1;rw [Bz] at e2;exact absurd (Ux e2) (by decide)
  have hn:its.toArray.size=i:=by
   have:=rv.length;rw [Rc];omega
  refine wpAny_pyNext_enum_endD (Draws.list (A:=X.A.in1) (show X.A.in1.handled=none from I.ok.hd hc) it a EM its.toArray) he (by rw [hn];exact ⟨hi,p.isList⟩) fun h' eb=>⟨rfl,?_⟩;exact I.turnedL (fp:=[e,it]) (t':=s.toks) (fun b o hb q=>eb b o (fun z=>hb (by simp [z])) q) hf
 self:=fun _ _ _ _ _ st h=>by
  obtain ⟨⟨old,he⟩,_⟩:=st;exact VW he h
section
variable {X:Cx} {e:Sm} {te:TE} {p2 AK:Vo}
def yO (K:Q4) (tl:TE):TI:=fun σ H R=>tl σ H fun x H1=>∃ a,x=.ref a/\(∃ xs,SqL K H1 a xs)/\R (v0 K a) H1
theorem vX {elts:List Sm} {k1} {pos:Vo} (g2:Gl X "enumerate") (m2:X.mg "enumerate"=none) (he:PE X e te) (h2:Se [e] X.env=[(false,Tz e X.env)]:=by rfl):PI X (.Tuple elts k1 pos) (.Call (.Name "enumerate" p2) [e] [] AK) (yO X.K te):=by
 intro pins s σ H R I h;refine Ti (fT I g2 m2 boot_enumerate (SR ?_ h2 rfl));rw [h2];show Rw _ _ (VX ((false,Tz e X.env)::[])) _ _ s;refine S3 (thn (he pins s σ H _ I h) fun u s1 ⟨x,H1,I1,r1,a,ex,⟨xs,hq⟩,q⟩=>TU ?_);subst ex;cases r1;obtain ⟨its,rv,p,hz⟩:=I1.list hq;refine call_enumerate_list (show s1.heap.IsList a its.toArray from p.isList) fun h' g1 g2 g3 g4=>?_;refine VW (s:={ s1 with heap:=h' }) g1 ?_;refine ⟨s1.heap.objs.size+1,[s1.heap.objs.size+1,s1.heap.objs.size],_,_,H1,rfl,I1.kept (t':=s1.toks) g4,tj a _ _,⟨⟨_,g1⟩,g2⟩,fun b hb=>?_,q⟩
 have Bc:s1.heap.objs.size<=b:=by
  rcases Rq.mp hb with rfl | hb
  · omega
  · have:b=s1.heap.objs.size:=by simpa using hb
    exact WL this.symm
 exact I1.fpOk Bc (I1.hok.fresh Bc)
end
theorem vk {K:Q4} {a:Q7} {xs:List V} {g:TG} {tb:TS} {D:Ends} {σ:St} {H:Hp} (Pv:Nat->St->Hp->Prop) (h0:Pv 0 σ H) (hl:∀ i σ H,i<=xs.length->Pv i σ H->SqL K H a xs)
 (hs:∀ i x p σ H,xs[i]?=some x->H p=none->Pv i σ H->g (.ref p) σ (upd H p (.tup [.int (i:Nat),x])) fun Ay H2=>tb { D with nx:=Pv (i+1),ct:=Pv (i+1),bk:=D.nx } Ay H2) (hd:∀ σ H,Pv xs.length σ H->D.nx σ H) :
 ∃ W:Nat->Nat->St->Hp->Prop,(∃ m,W 0 m σ H)/\∀ i m σ H,W i m σ H →
   ((v0 K a).stop i H/\D.nx σ H)∨((v0 K a).go i H/\∃ N:St->Hp->Prop,(∀ Ab H',N Ab H'->∃ m',m'<m/\W (i+1) m' Ab H')/\∀ x H',(v0 K a).yld i H x H'->g x σ H' fun Ay H2=>tb { D with nx:=N,ct:=N,bk:=D.nx } Ay H2):=by
 refine ⟨fun i m σ H=>m=xs.length - i/\i<=xs.length/\Pv i σ H,⟨xs.length,by simp,RJ _,h0⟩,?_⟩;rintro i m σ H ⟨rfl,hi,p⟩;have q:=hl i σ H hi p;by_cases Ax:i<xs.length
 · refine .inr ⟨⟨xs,xs[i],q,by simp [Ax]⟩,Pv (i+1),fun Ab H' p'=>⟨xs.length - (i+1),by omega,rfl,Ax,p'⟩,fun x H' y=>?_⟩;obtain ⟨pa,y,hp,rfl,rfl,hy⟩:=y;exact hs i y pa σ H (hy xs q) hp p
 · have e:i=xs.length:=by omega
   subst e;exact .inl ⟨⟨xs,q,rfl⟩,hd σ H p⟩
end L2
namespace BB
theorem hid {G:Prop} (k:∀ F:Prop,(G->F)->F):G:=k G id
inductive Ex1 {A0:Type} (p:A0->Prop):Prop
 | mk (x0:A0) (h:p x0):Ex1 p
inductive Ex2 {A0 A1:Type} (p:A0->A1->Prop):Prop
 | mk (x0:A0) (x1:A1) (h:p x0 x1):Ex2 p
inductive Ex3 {A0 A1 A2:Type} (p:A0->A1->A2->Prop):Prop
 | mk (x0:A0) (x1:A1) (x2:A2) (h:p x0 x1 x2):Ex3 p
inductive Ex4 {A0 A1 A2 A3:Type} (p:A0->A1->A2->A3->Prop):Prop
 | mk (x0:A0) (x1:A1) (x2:A2) (x3:A3) (h:p x0 x1 x2 x3):Ex4 p
inductive Ex5 {A0 A1 A2 A3 A4:Type} (p:A0->A1->A2->A3->A4->Prop):Prop
 | mk (x0:A0) (x1:A1) (x2:A2) (x3:A3) (x4:A4) (h:p x0 x1 x2 x3 x4):Ex5 p
inductive Ex6 {A0 A1 A2 A3 A4 A5:Type} (p:A0->A1->A2->A3->A4->A5->Prop):Prop
 | mk (x0:A0) (x1:A1) (x2:A2) (x3:A3) (x4:A4) (x5:A5) (h:p x0 x1 x2 x3 x4 x5):Ex6 p
inductive Ex7 {A0 A1 A2 A3 A4 A5 A6:Type} (p:A0->A1->A2->A3->A4->A5->A6->Prop):Prop
 | mk (x0:A0) (x1:A1) (x2:A2) (x3:A3) (x4:A4) (x5:A5) (x6:A6) (h:p x0 x1 x2 x3 x4 x5 x6):Ex7 p
inductive An2 (a0 a1:Prop):Prop
 | mk (h0:a0) (h1:a1):An2 a0 a1
inductive An3 (a0 a1 a2:Prop):Prop
 | mk (h0:a0) (h1:a1) (h2:a2):An3 a0 a1 a2
inductive An4 (a0 a1 a2 a3:Prop):Prop
 | mk (h0:a0) (h1:a1) (h2:a2) (h3:a3):An4 a0 a1 a2 a3
inductive An5 (a0 a1 a2 a3 a4:Prop):Prop
 | mk (h0:a0) (h1:a1) (h2:a2) (h3:a3) (h4:a4):An5 a0 a1 a2 a3 a4
inductive An6 (a0 a1 a2 a3 a4 a5:Prop):Prop
 | mk (h0:a0) (h1:a1) (h2:a2) (h3:a3) (h4:a4) (h5:a5):An6 a0 a1 a2 a3 a4 a5
inductive An7 (a0 a1 a2 a3 a4 a5 a6:Prop):Prop
 | mk (h0:a0) (h1:a1) (h2:a2) (h3:a3) (h4:a4) (h5:a5) (h6:a6):An7 a0 a1 a2 a3 a4 a5 a6
inductive An8 (a0 a1 a2 a3 a4 a5 a6 a7:Prop):Prop
 | mk (h0:a0) (h1:a1) (h2:a2) (h3:a3) (h4:a4) (h5:a5) (h6:a6) (h7:a7):An8 a0 a1 a2 a3 a4 a5 a6 a7
inductive An9 (a0 a1 a2 a3 a4 a5 a6 a7 a8:Prop):Prop
 | mk (h0:a0) (h1:a1) (h2:a2) (h3:a3) (h4:a4) (h5:a5) (h6:a6) (h7:a7) (h8:a8):An9 a0 a1 a2 a3 a4 a5 a6 a7 a8
inductive yY (a0 a1 a2 a3 a4 a5 a6 a7 a8 a9 L8 L9 L':Prop):Prop
 | mk (h0:a0) (h1:a1) (h2:a2) (h3:a3) (h4:a4) (h5:a5) (h6:a6) (h7:a7) (h8:a8) (h9:a9) (QA:L8) (QB:L9) (QC:L'):yY a0 a1 a2 a3 a4 a5 a6 a7 a8 a9 L8 L9 L'
end BB
namespace L2
open PySem PySem.Spec PyProof.Rows
end L2
namespace LAW
open PySem L2 BB
def top (i:Nat):Sz:=PySem.Challenge.pw_boughbook_k30_whole_books_read_back.main.body.getD i (.Pass ⟨0,0,0,0⟩)
theorem scm {N P:List Ru} {sc:U8} (a:sc.kind=.function:=by rfl) (b:sc.isCoroutine=false:=by rfl) (c:sc.isGenerator=false:=by rfl) (d:N.Nodup:=by decide +kernel) (e:N.take P.length=P:=by rfl) (f:∀ x∈P,sc.names.lookup x=some .local∨sc.names.lookup x=some .cell:=by decide +kernel) (g:∀ y∈sc.names,y.2≠.free:=by decide +kernel):aw N P sc:=⟨a,b,c,d,e,f,g⟩
abbrev gz:Sz:=top 10
theorem pN:aw ["thing"] ["thing"] (ak gz):=scm
abbrev i3:Sz:=top 11
theorem qF:aw ["number","bound"] ["number","bound"] (ak i3):=scm
abbrev jK:Sz:=top 12
theorem rX:aw ["thing"] ["thing"] (ak jK):=scm
abbrev km:Sz:=top 13
theorem ss:aw ["pair"] ["pair"] (ak km):=scm
abbrev gJ:Sz:=top 14
theorem jk:aw ["kinds","names"] ["kinds"] (ak gJ):=scm
abbrev i4:Sz:=top 15
theorem kM:aw ["pairs","kinds"] ["pairs"] (ak i4):=scm
abbrev kh:Sz:=top 16
theorem i0:aw ["kinds","name","kind","many"] ["kinds","name"] (ak kh):=scm
abbrev jJ:Sz:=top 17
theorem sr:aw ["thing"] ["thing"] (ak jJ):=scm
abbrev mR:Sz:=top 18
theorem hX:aw ["thing","met","ahead","part"] ["thing"] (ak mR):=scm
abbrev lL:Sz:=top 19
theorem dL:aw ["thing","met","ahead","place","part","kids"] ["thing"] (ak lL):=scm
abbrev oG:Sz:=top 20
theorem dj:aw ["tops","done","top","many"] ["tops"] (ak oG):=scm
abbrev kf:Sz:=top 22
theorem sU:aw ["thing"] ["thing"] (ak kf):=scm
abbrev gE:Sz:=top 23
theorem oO:aw ["call"] ["call"] (ak gE):=scm
abbrev dX:Sz:=top 24
theorem gc:aw ["kinds","pattern","states","kids","part"] ["kinds","pattern","states","kids"] (ak dX):=scm
abbrev iS:Sz:=top 25
theorem qu:aw ["pattern"] ["pattern"] (ak iS):=scm
abbrev mq:Sz:=top 26
theorem nL:aw ["part","many"] ["part"] (ak mq):=scm
abbrev mK:Sz:=top 27
theorem jY:aw ["pattern","table","tops","part"] ["pattern","table"] (ak mK):=scm
abbrev bU:Sz:=inClass (top 33) 0
theorem ld:aw ["self"] ["self"] (ak bU):=scm
abbrev bH:Sz:=inClass (top 33) 1
theorem j3:aw ["self","part","row"] ["self","part","row"] (ak bH):=scm
abbrev iZ:Sz:=top 34
theorem dm:aw ["pattern","measure","ahead","part","row"] ["pattern"] (ak iZ):=scm
abbrev dC:Sz:=top 35
theorem j1:aw ["outs","pattern","states","kids"] ["outs","pattern","states","kids"] (ak dC):=scm
abbrev eP:Sz:=top 36
theorem dR:aw ["ins","outs","patterns","states","kind","pattern"] ["ins","outs","patterns","states"] (ak eP):=scm
abbrev gp:Sz:=top 37
theorem cO:aw ["ins","outs","head","rules","taken","given","rows","patterns"] ["ins","outs","head","rules"] (ak gp):=scm
abbrev lR:Sz:=top 38
theorem vi:aw ["book"] ["book"] (ak lR):=scm
abbrev jU:Sz:=top 39
theorem r9:aw ["book"] ["book"] (ak jU):=scm
abbrev j6:Sz:=top 40
theorem sC:aw ["book"] ["book"] (ak j6):=scm
abbrev iV:Sz:=top 41
theorem qK:aw ["book"] ["book"] (ak iV):=scm
abbrev fu:Sz:=top 43
theorem iE:aw ["name","kids","inner"] ["name","kids"] (ak fu):=scm
abbrev fQ:Sz:=top 44
theorem de:aw ["tree","done","knot","kids"] ["tree"] (ak fQ):=scm
abbrev iR:Sz:=top 45
theorem gL:aw ["text","spread","sign"] ["text"] (ak iR):=scm
abbrev d4:Sz:=top 51
theorem dw:aw ["number","pieces","rest","piece"] ["number"] (ak d4):=scm
abbrev fq:Sz:=top 52
theorem nz:aw ["call"] ["call"] (ak fq):=scm
abbrev dr:Sz:=top 53
theorem eX:aw ["pattern","table"] ["pattern"] (ak dr):=scm
abbrev eN:Sz:=top 54
theorem lK:aw ["word","kinds"] ["word","kinds"] (ak eN):=scm
abbrev fR:Sz:=top 55
theorem iD:aw ["state","name","pattern","shown"] ["state","name","pattern"] (ak fR):=scm
abbrev fF:Sz:=top 56
theorem bQ:aw ["book","head","rows","state","patterns","kind","pattern"] ["book"] (ak fF):=scm
abbrev eO:Sz:=top 57
theorem gK:aw ["word","figures"] ["word"] (ak eO):=scm
abbrev gP:Sz:=top 58
theorem pq:aw ["words"] ["words"] (ak gP):=scm
abbrev iM:Sz:=top 59
theorem cK:aw ["words","steps","at"] ["words"] (ak iM):=scm
abbrev jI:Sz:=top 60
theorem mY:aw ["before","step","depth","ended"] ["before","step","depth"] (ak jI):=scm
abbrev jS:Sz:=top 61
theorem cZ:aw ["steps","tops","within","before","step"] ["steps"] (ak jS):=scm
abbrev d2:Sz:=top 62
theorem fV:aw ["words","text"] ["words"] (ak d2):=scm
abbrev gG:Sz:=top 63
theorem dG:aw ["word","name","slash","many"] ["word"] (ak gG):=scm
abbrev fI:Sz:=top 64
theorem m5:aw ["first","words"] ["first","words"] (ak fI):=scm
abbrev gH:Sz:=top 65
theorem pQ:aw ["words"] ["words"] (ak gH):=scm
abbrev gB:Sz:=top 66
theorem oV:aw ["state","name","words"] ["state","name","words"] (ak gB):=scm
abbrev fL:Sz:=top 67
theorem b6:aw ["ins","rows","rules","number","words","state","at"] ["ins","rows"] (ak fL):=scm
abbrev iN:Sz:=top 68
theorem rh:aw ["row"] ["row"] (ak iN):=scm
abbrev gj:Sz:=top 69
theorem cM:aw ["text","rows","ins","outs","head"] ["text"] (ak gj):=scm
abbrev dQ:Sz:=top 71
theorem lh:aw ["script","k"] ["script","k"] (ak dQ):=scm
abbrev gW:Sz:=top 72
theorem bo:aw ["base","n","letters","word","rest","k","size","at","step"] ["base","n"] (ak gW):=scm
abbrev fU:Sz:=top 73
theorem bD:aw ["cell","mixed","many","rest","kinds","k","at"] ["cell"] (ak fU):=scm
abbrev eJ:Sz:=top 74
theorem d7:aw ["script","many","cells","k"] ["script","many"] (ak eJ):=scm
abbrev dS:Sz:=top 75
theorem bx:aw ["cell","outs","states","kids","deep","pair","parts","k","part"] ["cell","outs","states","kids","deep"] (ak dS):=scm
abbrev eQ:Sz:=top 76
theorem bq:aw ["own","outs","states","kids","deep","calls","pick","pair","parts","k"] ["own","outs","states","kids","deep"] (ak eQ):=scm
abbrev gQ:Sz:=top 77
theorem aU:aw ["script","most","deep","ins","outs","states","cells","digits","rules","state","row","k","cell","head"] ["script","most","deep"] (ak gQ):=scm
abbrev fM:Sz:=top 78
theorem ni:aw ["pattern"] ["pattern"] (ak fM):=scm
abbrev gw:Sz:=top 79
theorem bL:aw ["book","rows","at","pair","state","k","name","text"] ["book"] (ak gw):=scm
abbrev gF:Sz:=top 80
theorem jb:aw ["found","due","k"] ["found","due"] (ak gF):=scm
abbrev gg:Sz:=top 81
theorem bO:aw ["rows","cell","found","k","text","sign"] ["rows","cell"] (ak gg):=scm
abbrev jm:Sz:=top 82
theorem pM:aw ["script","book","rows","text"] ["script"] (ak jm):=scm
structure FX (K:Q4) (mg:Ru->Option Q6) (n:Ru) (s:Sz) (ps:List Ru) where
 f:Q7
 d:Uz
 F:Fun K n n s f d
 b:Binds K d ps []
 m:mg n=some (.ref f)
section
open PySem.W
variable {K:Frag} {mg:Ru->Option Q6} {h:SE} {n:Ru} {st:Sz} {f:Q7} {oc kV dc pm cd ct:Q6} {od an:Option Q7} {sl:Array (Option Q6)} (X:K.In h) (G:h.Ns RK mg)
noncomputable def fx1 {p0:Ru} (a:nsIn K RK n=some (some (.ref f)):=by k_is) (l:K.lookup f=some ⟨oc,od,.func (fnOf n n (bF st) (bB st) (ak st) .none kV dc pm an cd ct),sl⟩:=by k_is) (c:codeIn K cd n=true:=by k_is) (k:keepIn K (.ref f)=true:=by k_is) (hb:∀ (kV dc pm:Q6) (an:Option Q7) (cd ct u0:Q6),WG (fnOf n n (bF st) (bB st) (ak st) .none kV dc pm an cd ct) ⟨[u0],[]⟩=pure [(p0,u0)]:=by intros;rfl):FX K mg n st [p0] :=
 ⟨f,_,cT l c k,(cT l c k).binds fun a b c d e f us hl=>by obtain ⟨u0,rfl⟩:=us1 hl;exact hb a b c d e f u0,mg_of X G a⟩
noncomputable def fx2 {p0 p1:Ru} (a:nsIn K RK n=some (some (.ref f)):=by k_is) (l:K.lookup f=some ⟨oc,od,.func (fnOf n n (bF st) (bB st) (ak st) .none kV dc pm an cd ct),sl⟩:=by k_is) (c:codeIn K cd n=true:=by k_is) (k:keepIn K (.ref f)=true:=by k_is) (hb:∀ (kV dc pm:Q6) (an:Option Q7) (cd ct u0 u1:Q6),WG (fnOf n n (bF st) (bB st) (ak st) .none kV dc pm an cd ct) ⟨[u0,u1],[]⟩=pure [(p0,u0),(p1,u1)]:=by intros;rfl):FX K mg n st [p0,p1] :=
 ⟨f,_,cT l c k,(cT l c k).binds fun a b c d e f us hl=>by obtain ⟨u0,u1,rfl⟩:=us2 hl;exact hb a b c d e f u0 u1,mg_of X G a⟩
noncomputable def fx3 {p0 p1 p2:Ru} (a:nsIn K RK n=some (some (.ref f)):=by k_is) (l:K.lookup f=some ⟨oc,od,.func (fnOf n n (bF st) (bB st) (ak st) .none kV dc pm an cd ct),sl⟩:=by k_is) (c:codeIn K cd n=true:=by k_is) (k:keepIn K (.ref f)=true:=by k_is) (hb:∀ (kV dc pm:Q6) (an:Option Q7) (cd ct u0 u1 u2:Q6),WG (fnOf n n (bF st) (bB st) (ak st) .none kV dc pm an cd ct) ⟨[u0,u1,u2],[]⟩=pure [(p0,u0),(p1,u1),(p2,u2)]:=by intros;rfl):FX K mg n st [p0,p1,p2] :=
 ⟨f,_,cT l c k,(cT l c k).binds fun a b c d e f us hl=>by obtain ⟨u0,u1,u2,rfl⟩:=us3 hl;exact hb a b c d e f u0 u1 u2,mg_of X G a⟩
noncomputable def fx4 {p0 p1 p2 p3:Ru} (a:nsIn K RK n=some (some (.ref f)):=by k_is) (l:K.lookup f=some ⟨oc,od,.func (fnOf n n (bF st) (bB st) (ak st) .none kV dc pm an cd ct),sl⟩:=by k_is) (c:codeIn K cd n=true:=by k_is) (k:keepIn K (.ref f)=true:=by k_is) (hb:∀ (kV dc pm:Q6) (an:Option Q7) (cd ct u0 u1 u2 u3:Q6),WG (fnOf n n (bF st) (bB st) (ak st) .none kV dc pm an cd ct) ⟨[u0,u1,u2,u3],[]⟩=pure [(p0,u0),(p1,u1),(p2,u2),(p3,u3)]:=by intros;rfl):FX K mg n st [p0,p1,p2,p3] :=
 ⟨f,_,cT l c k,(cT l c k).binds fun a b c d e f us hl=>by obtain ⟨u0,u1,u2,u3,rfl⟩:=us4 hl;exact hb a b c d e f u0 u1 u2 u3,mg_of X G a⟩
noncomputable def fx5 {p0 p1 p2 p3 p4:Ru} (a:nsIn K RK n=some (some (.ref f)):=by k_is) (l:K.lookup f=some ⟨oc,od,.func (fnOf n n (bF st) (bB st) (ak st) .none kV dc pm an cd ct),sl⟩:=by k_is) (c:codeIn K cd n=true:=by k_is) (k:keepIn K (.ref f)=true:=by k_is) (hb:∀ (kV dc pm:Q6) (an:Option Q7) (cd ct u0 u1 u2 u3 u4:Q6),WG (fnOf n n (bF st) (bB st) (ak st) .none kV dc pm an cd ct) ⟨[u0,u1,u2,u3,u4],[]⟩=pure [(p0,u0),(p1,u1),(p2,u2),(p3,u3),(p4,u4)]:=by intros;rfl):FX K mg n st [p0,p1,p2,p3,p4] :=
 ⟨f,_,cT l c k,(cT l c k).binds fun a b c d e f us hl=>by obtain ⟨u0,u1,u2,u3,u4,rfl⟩:=us5 hl;exact hb a b c d e f u0 u1 u2 u3 u4,mg_of X G a⟩
end
theorem pcF {X:Cx} {kk k:Nat} {sp:Sp} {n:Ru} {st:Sz} {ps:List Ru} {e:Sm} {es:List Sm} {t:TA} {p pos:Vo} (g:FX X.K X.mg n st ps) (F:aV X.prog X.w X.K X.mg X.base CX0 k g.f g.d ps sp) (hr:Room kk X.A) (ha:PA X (e::es) t) (hle:k<=kk:=by first | decide | omega) (hg:Gl X n:=by rfl) (DS:(n == ("__debug__":Ru))=false:=by decide) (he:Se (e::es) X.env=(false,Tz e X.env)::Se es X.env:=by rfl) (AX:(Vw pos (Se es X.env)).any (·.1)=false:=by rfl):PE X (.Call (.Name n p) (e::es) [] pos) (ip sp [] E0 t) :=
 jr F (hr.mono hle) hg g.m g.F.kp g.b .nil mj ha DS he AX
structure TX (K:Q4) (mg:Ru->Option Q6) where
 c_CALL_SIGN:∃ tk,mg "CALL_SIGN"=some (.str (QZ "?") tk)
 c_MOST_LETTERS:∃ tk,mg "MOST_LETTERS"=some (.int (8) tk)
 c_MOST_KINDS:∃ tk,mg "MOST_KINDS"=some (.int (8) tk)
 c_MOST_KIDS:∃ tk,mg "MOST_KIDS"=some (.int (3) tk)
 c_MOST_STATES:∃ tk,mg "MOST_STATES"=some (.int (20) tk)
 c_MOST_ROWS:∃ tk,mg "MOST_ROWS"=some (.int (20) tk)
 c_MOST_KNOTS:∃ tk,mg "MOST_KNOTS"=some (.int (400) tk)
 c_MOST_CALLS:∃ tk,mg "MOST_CALLS"=some (.int (200) tk)
 c_PIECE:∃ tk,mg "PIECE"=some (.int (1000000000) tk)
 c_PIECE_FIGURES:∃ tk,mg "PIECE_FIGURES"=some (.int (9) tk)
 c_MOST_FIGURES:∃ tk,mg "MOST_FIGURES"=some (.int (3) tk)
 c_MOST_BRACKETS:∃ tk,mg "MOST_BRACKETS"=some (.int (100) tk)
 g_is_number:FX K mg "is_number" gz ["thing"]
 g_is_below:FX K mg "is_below" i3 ["number","bound"]
 g_is_name:FX K mg "is_name" jK ["thing"]
 g_is_kind:FX K mg "is_kind" km ["pair"]
 g_are_kinds:FX K mg "are_kinds" gJ ["kinds"]
 g_kinds_of:FX K mg "kinds_of" i4 ["pairs"]
 g_many_of:FX K mg "many_of" kh ["kinds","name"]
 g_kids_of:FX K mg "kids_of" jJ ["thing"]
 g_walked:FX K mg "walked" mR ["thing"]
 g_placed:FX K mg "placed" lL ["thing"]
 g_built:FX K mg "built" oG ["tops"]
 g_is_call:FX K mg "is_call" kf ["thing"]
 g_called_by:FX K mg "called_by" gE ["call"]
 g_fits_pattern:FX K mg "fits_pattern" dX ["kinds","pattern","states","kids"]
 g_calls_in:FX K mg "calls_in" iS ["pattern"]
 g_top_of:FX K mg "top_of" mq ["part"]
 g_filled:FX K mg "filled" mK ["pattern","table"]
 f_Measure_init:Q7
 d_Measure_init:Uz
 F_Measure_init:Fun K "__init__" "Measure.__init__" bU f_Measure_init d_Measure_init
 b_Measure_init:Binds K d_Measure_init ["self"] []
 f_Measure_takes:Q7
 d_Measure_takes:Uz
 F_Measure_takes:Fun K "takes" "Measure.takes" bH f_Measure_takes d_Measure_takes
 b_Measure_takes:Binds K d_Measure_takes ["self","part","row"] []
 g_is_small:FX K mg "is_small" iZ ["pattern"]
 g_check_pattern:FX K mg "check_pattern" dC ["outs","pattern","states","kids"]
 g_check_state:FX K mg "check_state" eP ["ins","outs","patterns","states"]
 g_made_book:FX K mg "made_book" gp ["ins","outs","head","rules"]
 g_ins_of:FX K mg "ins_of" lR ["book"]
 g_outs_of:FX K mg "outs_of" jU ["book"]
 g_head_of:FX K mg "head_of" j6 ["book"]
 g_rules_of:FX K mg "rules_of" iV ["book"]
 g_shown_knot:FX K mg "shown_knot" fu ["name","kids"]
 g_shown_tree:FX K mg "shown_tree" fQ ["tree"]
 g_words_of:FX K mg "words_of" iR ["text"]
 g_shown_number:FX K mg "shown_number" d4 ["number"]
 g_shown_call:FX K mg "shown_call" fq ["call"]
 g_shown_pattern:FX K mg "shown_pattern" dr ["pattern"]
 g_shown_kinds:FX K mg "shown_kinds" eN ["word","kinds"]
 g_shown_rule:FX K mg "shown_rule" fR ["state","name","pattern"]
 g_shown_book:FX K mg "shown_book" fF ["book"]
 g_read_number:FX K mg "read_number" eO ["word"]
 g_read_call:FX K mg "read_call" gP ["words"]
 g_steps_of:FX K mg "steps_of" iM ["words"]
 g_follows:FX K mg "follows" jI ["before","step","depth"]
 g_tops_of:FX K mg "tops_of" jS ["steps"]
 g_read_pattern:FX K mg "read_pattern" d2 ["words"]
 g_read_kind:FX K mg "read_kind" gG ["word"]
 g_read_kinds:FX K mg "read_kinds" fI ["first","words"]
 g_read_head:FX K mg "read_head" gH ["words"]
 g_read_rule:FX K mg "read_rule" gB ["state","name","words"]
 g_read_rules:FX K mg "read_rules" fL ["ins","rows"]
 g_words_in:FX K mg "words_in" iN ["row"]
 g_read_book:FX K mg "read_book" gj ["text"]
 g__law_cell_at:FX K mg "_law_cell_at" dQ ["script","k"]
 g__law_name:FX K mg "_law_name" gW ["base","n"]
 g__law_kinds:FX K mg "_law_kinds" fU ["cell"]
 g__law_folded:FX K mg "_law_folded" eJ ["script","many"]
 g__law_pattern:FX K mg "_law_pattern" dS ["cell","outs","states","kids","deep"]
 g__law_digits:FX K mg "_law_digits" eQ ["own","outs","states","kids","deep"]
 g__law_book:FX K mg "_law_book" gQ ["script","most","deep"]
 g__law_shown:FX K mg "_law_shown" fM ["pattern"]
 g__law_rows:FX K mg "_law_rows" gw ["book"]
 g__law_same:FX K mg "_law_same" gF ["found","due"]
 g__law_wide:FX K mg "_law_wide" gg ["rows","cell"]
 g_law:FX K mg "law" jm ["script"]
 e_Measure:Q7
 x_Measure:mg "Measure"=some (.ref e_Measure)
 cl_Measure:Cls K e_Measure
 mk_Measure:Mk K e_Measure f_Measure_init
 na_Measure_met_knots:NoAttr K e_Measure "met_knots"
 na_Measure_met_calls:NoAttr K e_Measure "met_calls"
 me_Measure_takes:Meth K e_Measure "takes" f_Measure_takes
 n_all:mg "all"=none
 n_bool:mg "bool"=none
 n_dict:mg "dict"=none
 n_divmod:mg "divmod"=none
 n_enumerate:mg "enumerate"=none
 n_int:mg "int"=none
 n_isinstance:mg "isinstance"=none
 n_len:mg "len"=none
 n_range:mg "range"=none
 n_reversed:mg "reversed"=none
 n_set:mg "set"=none
 n_str:mg "str"=none
 n_tuple:mg "tuple"=none
 n_zip:mg "zip"=none
theorem aar:([QZ "number",QZ "kid",QZ "place"]:List Ru).Nodup:=by decide +kernel
theorem zC:([QZ "number",QZ "done"]:List Ru).Nodup:=by decide +kernel
theorem zS:([QZ "place",QZ "part"]:List Ru).Nodup:=by decide +kernel
theorem aaN:([QZ "kid",QZ "done"]:List Ru).Nodup:=by decide +kernel
theorem aaO:([QZ "number"]:List Ru).Nodup:=by decide +kernel
theorem zK:([QZ "place",QZ "call"]:List Ru).Nodup:=by decide +kernel
theorem zL:([QZ "name",QZ "many"]:List Ru).Nodup:=by decide +kernel
theorem aa1:([QZ "kid",QZ "row"]:List Ru).Nodup:=by decide +kernel
theorem aaz:([QZ "sign"]:List Ru).Nodup:=by decide +kernel
theorem yd:([QZ "pair"]:List Ru).Nodup:=by decide +kernel
theorem aaA:([QZ "patterns"]:List Ru).Nodup:=by decide +kernel
theorem vE:([QZ "word"]:List Ru).Nodup:=by decide +kernel
theorem zD:([QZ "row"]:List Ru).Nodup:=by decide +kernel
theorem yq:([QZ "one"]:List Ru).Nodup:=by decide +kernel
theorem aav:([QZ "part"]:List Ru).Nodup:=by decide +kernel
section
variable {P:RL} {w:R1} {K:Q4} {mg:Ru->Option Q6} {base:SE} (T:TX K mg)
inductive kA (vs:List V) (H:Hp) (Q:VK) (_E:XK):Prop
 | mk (a:Q7) (t:Th) (Aj:vs=[.ref a]) (Ak:At H t a) (An:∀ (r:Q7) (as:List Q7) (H':Hp),L2.Same H H'->H' r=some (.tup (as.map V.ref))->Ats H' t.kids as->Q (.ref r) H'):kA  vs H Q _E
def sq:Sp:=kA
theorem dY:aV P w K mg base CX0 1 T.g_kids_of.f T.g_kids_of.d ["thing"] sq:=by
 refine T.g_kids_of.F.ok sr (fun vs H Q E h=>?_) (fun Ag A outer s H vs Q E hr h=>?_)
 · obtain ⟨a,t,rfl,_⟩:=h;rfl
 obtain ⟨a,t,rfl,hA,k⟩:=h
 refine ⟨_,(ad (aS (aD cI (az aI (pv 0) ag (fun _ _=>rfl)) (cw (v:=.str (QZ "?")) rfl T.c_CALL_SIGN.choose_spec ⟨_,rfl⟩) (aE _)) (ae (ax (bg ab))) aH)
  (ae (ax (bT sQ (pv 0) (bR ag) cL)))),?_⟩
 try dsimp only [Ar,Ac]
 cases t with
 | knot n ks =>
   rw [At] at hA;refine hid fun ZZ kZ=>?_;obtain ⟨hn,as,h1,h2⟩:=hA;refine kZ ?_;refine ⟨_,rfl,a,_,0,.str n,rfl,rfl,SqT.of h1,at0,rfl,_,rfl,?_⟩;refine cA (fun c=>absurd (of_decide_eq_true c) (fun z=>hn (V.str.inj z))) (fun _=>?_);refine ⟨_,rfl,1,rfl,a,_,rfl,SqT.of h1,?_,fun r hr=>?_⟩
   · intro z;have:=z.1;simp [HT.sIx] at this
   · rw [jf];exact k r as _ (ai hr _) ac (h2.mono (dE hr))
 | call sn kn =>
   rw [At] at hA;refine ⟨_,rfl,a,_,0,.str q,rfl,rfl,SqT.of hA,at0,rfl,_,rfl,?_⟩;refine cA (fun _=>?_) (fun c=>absurd (decide_eq_true rfl) c);refine ⟨by show 0<=Ry;decide,fun r hr=>?_⟩;exact k r [] _ (ai hr _) ac .nil
inductive mC (vs:List V) (H:Hp) (Q:VK) (_E:XK):Prop
 | mk (a:Q7) (t:Th) (Aj:vs=[.ref a]) (Ak:At H t a) (An:t.size<=100000) (Az:∀ (r:Q7) (as:List Q7) (H':Hp),L2.Same H H'->H r=none->H' r=some (.lst (as.map V.ref))->Ats H' t.walk as->Q (.ref r) H'):mC  vs H Q _E
def ux:Sp:=mC
theorem j4:aV P w K mg base CX0 2 T.g_walked.f T.g_walked.d ["thing"] ux:=by
 refine T.g_walked.F.ok hX (fun vs H Q E h=>?_) (fun Ag A outer s H vs Q E hr h=>?_)
 · obtain ⟨a,t,rfl,_⟩:=h;rfl
 obtain ⟨a,t,rfl,hA,hsz,k⟩:=h
 refine ⟨_,(ad (ar (i:=1) hX.nd rfl (Rp rfl) (bm ab))
  (ad (ar (i:=2) hX.nd rfl (Rp rfl) (bm (aa (pv 0) ab)))
  (ad (gv RM (aQ (pv 2) (fun _=>rfl)) (ad (ar (i:=3) hX.nd rfl (Rp rfl) (iO Rk Tx Tw iT (pv 2)))
  (ad (aT (bi Rk RB RA aN (pv 1) (aa (pv 3) ab)))
  (ae (aT (bi Rk VD VC sZ (pv 2) (aa (uf yV (pcF T.g_kids_of (dY T) hr (aa (pv 3) ab))) ab)))))))
  (ae (ax (pv 1)))))),?_⟩
 try dsimp only [Ar,Ac]
 refine ⟨by show 0<=Ry;decide,fun mt Cm=>?_⟩;refine ⟨_,rfl,by show 1<=Ry;decide,fun ah CP=>?_⟩;have DW:H ah=none:=(ai Cm _).free CP;have Av:ah≠mt:=fun z=>by rw [z,ac] at CP;cases CP
 refine ⟨fun m σ H2=>Ex5 fun (ms as:List Q7) (Ms As:List Th) (p:Option V)=>An8 (σ=[some (.ref a),some (.ref mt),some (.ref ah),p]) (L2.Same H H2) (H2 mt=some (.lst (ms.map V.ref))) (H2 ah=some (.lst (as.map V.ref))) (Ats H2 Ms ms) (Ats H2 As as) (Ms++walks As.reverse=t.walk) (m=ay As),⟨_,[],[a],[],[t],none,rfl,?_,?_,?_,.nil,.cons (hA.mono ?_) .nil,?_,rfl⟩,?_⟩
 · exact aC (ai Cm _) DW
 · rw [al Av.symm,ac];rfl
 · rw [ac];rfl
 · exact Same.kt (aC (ai Cm _) DW)
 · simp [walks]
 rintro m σ H2 ⟨ms,as,Ms,As,p,rfl,sm,e1,e2,a1,a2,hw,rfl⟩
 have hlen:ms.length+ay As<=100000:=by
  have h1:=congrArg Tt hw;rw [Ra,jM,Th.walk_len,<- a1.length] at h1;have h2:=oC As;omega
 refine ⟨_,rfl,_,.inl ⟨_,SqL.of e2,rfl⟩,?_⟩;refine cA (fun c=>?_) (fun c=>?_)
 · -- a part is taken off
   refine ⟨fun Ab H'=>∃ m',m'<ay As/\Ex5 fun (ms as:List Q7) (Ms As:List Th) (p:Option V)=>An8 (Ab=[some (.ref a),some (.ref mt),some (.ref ah),p]) (L2.Same H H') (H' mt=some (.lst (ms.map V.ref))) (H' ah=some (.lst (as.map V.ref))) (Ats H' Ms ms) (Ats H' As as) (Ms++walks As.reverse=t.walk) (m'=ay As),fun Ab H' h=>h,?_⟩;have Bj:as≠[]:=by intro z;subst z;simp at c
   obtain ⟨A8,b,rfl⟩:∃ A8 b,as=A8++[b]:=⟨as.dropLast,as.getLast Bj,(SH Bj).symm⟩;obtain ⟨Us,x,rfl,a3,a4⟩:=a2.snoc_inv;have hs:ay (Us++[x])=ay Us+x.size:=by rw [bC,ay,ay];omega
   have FF:=x.size_eq;rw [hs] at hlen;refine ⟨_,rfl,.inl ⟨rfl,_,SqL.of e2⟩,ah,_,.ref b,rfl,rfl,e2,by simp,?_⟩;have d1:((A8++[b]).map V.ref).dropLast=A8.map V.ref:=by simp
   rw [d1];refine ⟨_,rfl,.inl ⟨rfl,_,SqL.of (by rw [al Av.symm];exact e1)⟩,_,rfl,mt,_,.ref b,rfl,rfl,by rw [al Av.symm];exact e1,aF (by rw [Q0];omega),?_⟩;have k1:KT H2 (upd (upd H2 ah (.lst (A8.map V.ref))) mt (.lst (ms.map V.ref++[.ref b]))):=(aW e2).trans (aW (xs:=ms.map V.ref) (by rw [al Av.symm];exact e1));refine ⟨_,rfl,.inl ⟨rfl,_,SqL.of (by rw [al Av,ac])⟩,_,rfl,b,x,rfl,a4.mono k1,fun r ks H3 s3 e3 a5=>?_⟩;refine ⟨r,_,rfl,SqT.of e3,fun l hl=>?_⟩;have l1:l≠ah:=fun z=>by rw [z,s3 ah _ (by rw [al Av,ac])] at hl;cases hl
   have l2:l≠mt:=fun z=>by rw [z,s3 mt _ ac] at hl;cases hl
   refine ⟨ah,l,_,_,rfl,rfl,by rw [al l1.symm];exact s3 ah _ (by rw [al Av,ac]),SqT.of ac,Tc (aF ?_),?_⟩
   · have q1:=a3.length;have q2:=a5.length;have q3:=cJ Us;have q4:=cJ x.kids;rw [Q0,Si,Q0];omega
   · have k2:KT H2 (upd (upd H3 l (.tup (ks.map V.ref).reverse)) ah (.lst (A8.map V.ref++(ks.map V.ref).reverse))) :=
      k1.trans ((Same.kt s3).trans ((dE hl).trans (aW (xs:=A8.map V.ref) (by rw [al l1.symm];exact s3 ah _ (by rw [al Av,ac])))))
     have k3:KT H3 (upd (upd H3 l (.tup (ks.map V.ref).reverse)) ah (.lst (A8.map V.ref++(ks.map V.ref).reverse))) :=
      (dE hl).trans (aW (xs:=A8.map V.ref) (by rw [al l1.symm];exact s3 ah _ (by rw [al Av,ac])))
     refine ⟨ay (Us++x.kids.reverse),?_,ms++[b],A8++ks.reverse,Ms++[x],Us++x.kids.reverse,some (.ref b),rfl,?_,?_,?_,?_,?_,?_,rfl⟩
     · rw [bC,oC,hs];omega
     · have s4:L2.Same H (upd (upd H2 ah (.lst (A8.map V.ref))) mt (.lst (ms.map V.ref++[.ref b]))):=aC (aC sm DW) Cm;have nl:H l=none:=s4.free (s3.free hl);exact aC (aC (s4.trans s3) nl) DW
     · rw [al Av.symm,al l2.symm,s3 mt _ ac,Rj];rfl
     · rw [ac,Rj,VM]
     · exact (a1.mono k2).append (.cons (a4.mono k2) .nil)
     · exact (a3.mono k2).append (a5.mono k3).reverse
     · rw [<- hw,RF,Uo,Uo,Ue,dI];show Ms++([x]++(walks x.kids++walks Us.reverse))=Ms++walks (x::Us.reverse);rw [walks,x.walk_eq];rfl
 · have hz:as=[]:=by
    cases as with
    | nil=>rfl
    | cons y ys=>simp at c
   subst hz;have GL:As=[]:=R7.mp a2.length.symm;subst GL;refine ⟨_,rfl,k mt ms H2 sm Cm e1 ?_⟩;have J2:Ms=t.walk:=by simpa [walks] using hw
   rw [<- J2];exact a1
inductive lQ (vs:List V) (H:Hp) (Q:VK) (_E:XK):Prop
 | mk (a:Q7) (t:Th) (Aj:vs=[.ref a]) (Ak:At H t a) (An:t.size<=100000) (Az:t.tall<=100000) (AR:∀ (r:Q7) (as:List Q7) (H':Hp),L2.Same H H'->H r=none->H' r=some (.lst (as.map V.ref))->PsAt H' (t.pl []) as->Q (.ref r) H'):lQ  vs H Q _E
def uA:Sp:=lQ
theorem uz:aV P w K mg base CX0 2 T.g_placed.f T.g_placed.d ["thing"] uA:=by
 refine T.g_placed.F.ok dL (fun vs H Q E h=>?_) (fun Ag A outer s H vs Q E hr h=>?_)
 · obtain ⟨a,t,rfl,_⟩:=h;rfl
 obtain ⟨a,t,rfl,hA,hsz,AI,k⟩:=h
 refine ⟨_,(ad (ar (i:=1) dL.nd rfl (Rp rfl) (bm ab))
  (ad (ar (i:=2) dL.nd rfl (Rp rfl) (bm (aa (bg (aa (bg ab) (aa (pv 0) ab))) ab)))
  (ad (gv RM (aQ (pv 2) (fun _=>rfl)) (ad (fH (iO Rk Tx Tw iT (pv 2)) (cQ rfl (aL (aq (i:=3) dL.nd rfl (Or.inr rfl)) (aL (aq (i:=4) dL.nd rfl (Rp rfl)) bX))))
  (ad (aT (bi Rk RB RA aN (pv 1) (aa (bg (aa (pv 3) (aa (pv 4) ab))) ab)))
  (ad (jy (i:=5) (N:=[QZ "number",QZ "kid",QZ "place"]) (js:=[none,none,some 3]) (g:=(uT K 2 (iK (aG 0) (iK (aG 1) vq)))) (tt:=bn) (te:=(tT (b8 (tOp (vy K) (bV 2) (tT (b8 (bV 0) eR))) (b8 (bV 1) eR)))) dL.nd rfl (Rp rfl) rfl (cg rfl (by decide +kernel) (by decide +kernel) rfl rfl rfl) (ur rfl T.n_enumerate (pcF T.g_kids_of (dY T) hr (aa (pv 4) ab))) (fun _ _ _ _ _ _=>(cQ rfl (aL (aq (i:=0) aar rfl (Rp rfl)) (aL (aq (i:=1) aar rfl (Rp rfl)) bX)))) (oM (ej cq (aX rfl) (ej cq (aX rfl) pB))) (fun _ _ _ _ _ _=>bN) (fun _ _ _ _ _ _=>(bg (aa (am fo (pv 2) (bg (aa (pv 0) ab))) (aa (pv 1) ab)))))
  (ae (aT (bi Rk VD VC nB (pv 2) (aa (uf xu (pv 5)) ab))))))))
  (ae (ax (pv 1)))))),?_⟩
 try dsimp only [Ar,Ac]
 refine ⟨aj (by show 0<=1000000;decide),fun mt Cm=>?_⟩;have s1:L2.Same H (upd H mt (.lst [])):=ai Cm _;have J3:(upd H mt (.lst [])) mt=some (.lst []):=ac;generalize upd H mt (.lst [])=H1 at s1 J3 ⊢;refine ⟨aj (by show 0<=1000000;decide),fun p0 J4=>?_⟩;refine ⟨_,rfl,aj (by show 2<=1000000;decide),fun p1 Cn=>?_⟩;refine ⟨aj (by show 1<=1000000;decide),fun ah CP=>?_⟩;have s2:L2.Same H1 (upd (upd H1 p0 (.tup [])) p1 (.tup [.ref p0,.ref a])):=(ai J4 _).trans (ai Cn _);have e1:(upd (upd H1 p0 (.tup [])) p1 (.tup [.ref p0,.ref a])) p1=some (.tup [.ref p0,.ref a]):=ac;have e0:(upd (upd H1 p0 (.tup [])) p1 (.tup [.ref p0,.ref a])) p0=some (.tup []):=ai Cn _ _ _ ac;generalize (upd (upd H1 p0 (.tup [])) p1 (.tup [.ref p0,.ref a]))=H2 at s2 e1 e0 CP ⊢;have EW:H1 ah=none:=s2.free CP;have DW:H ah=none:=s1.free EW;have Av:ah≠mt:=fun z=>by rw [z,J3] at EW;cases EW
 refine ⟨fun m σ H3=>Ex7 fun (ms as:List Q7) (Ms As:List (List Int×Th)) (c3 c4 c5:Option V)=>An9 (σ=[some (.ref a),some (.ref mt),some (.ref ah),c3,c4,c5]) (L2.Same H H3) (H3 mt=some (.lst (ms.map V.ref))) (H3 ah=some (.lst (as.map V.ref))) (PsAt H3 Ms ms) (PsAt H3 As as) (Ms++plP As.reverse=t.pl []) ((∀ p∈As,p.1.length+p.2.tall<=100000)) (m=szP As),⟨_,[],[p1],[],[([],t)],none,none,none,rfl,?_,?_,?_,.nil,.cons ⟨p0,a,?_,?_,?_⟩ .nil,?_,?_,rfl⟩,?_⟩
 · exact aC (s1.trans s2) DW
 · rw [al Av.symm];exact s2 _ _ J3
 · rw [ac];rfl
 · exact ai CP _ _ _ e1
 · exact ai CP _ _ _ e0
 · exact hA.mono (Same.kt (aC (s1.trans s2) DW))
 · simp [plP]
 · intro p hp;rw [RH] at hp;subst hp;simpa using AI
 rintro m σ H3 ⟨ms,as,Ms,As,c3,c4,c5,rfl,sm,em,ea,a1,a2,hw,hb,rfl⟩
 have hlen:ms.length+szP As<=100000:=by
  have h1:=congrArg Tt hw;rw [Ra,ut,Th.pl_len,ue] at h1;have h2:=Rx a1;omega
 refine ⟨_,rfl,_,.inl ⟨_,SqL.of ea,rfl⟩,?_⟩;refine cA (fun c=>?_) (fun c=>?_)
 · refine ⟨fun Ab H'=>∃ m',m'<szP As/\Ex7 fun (ms as:List Q7) (Ms As:List (List Int×Th)) (c3 c4 c5:Option V)=>An9 (Ab=[some (.ref a),some (.ref mt),some (.ref ah),c3,c4,c5]) (L2.Same H H') (H' mt=some (.lst (ms.map V.ref))) (H' ah=some (.lst (as.map V.ref))) (PsAt H' Ms ms) (PsAt H' As as) (Ms++plP As.reverse=t.pl []) ((∀ p∈As,p.1.length+p.2.tall<=100000)) (m'=szP As),fun Ab H' h=>h,?_⟩;have Bj:as≠[]:=by intro z;subst z;simp at c
   refine hid fun ZZ kZ=>?_;obtain ⟨A8,b,rfl⟩:∃ A8 b,as=A8++[b]:=⟨as.dropLast,as.getLast Bj,(SH Bj).symm⟩;obtain ⟨Us,⟨pre,x⟩,rfl,a3,pa,ta,eb,EU,Co⟩:=P2.snoc_inv a2;refine kZ ?_;have Ma:szP (Us++[(pre,x)])=szP Us+x.size:=by rw [fm,szP,szP];rfl
   have FF:=x.size_eq;rw [Ma] at hlen;have Ou:=hb (pre,x) (by simp);simp only at Ou EU Co;refine ⟨_,rfl,.inl ⟨rfl,_,SqL.of ea⟩,ah,_,.ref b,rfl,rfl,ea,by simp,?_⟩;have d1:((A8++[b]).map V.ref).dropLast=A8.map V.ref:=by simp
   rw [d1];have k1:KT H3 (upd H3 ah (.lst (A8.map V.ref))):=aW ea;have FG:L2.Same H (upd H3 ah (.lst (A8.map V.ref))):=aC sm DW;have GN:(upd H3 ah (.lst (A8.map V.ref))) mt=some (.lst (ms.map V.ref)):=by rw [al Av.symm];exact em
   have J5:(upd H3 ah (.lst (A8.map V.ref))) ah=some (.lst (A8.map V.ref)):=ac;generalize (upd H3 ah (.lst (A8.map V.ref)))=H4 at k1 FG GN J5 ⊢;refine ⟨b,_,rfl,SqT.of (k1 _ _ eb),rfl,_,_,rfl,_,_,rfl,rfl,?_⟩
   -- met.append((place,part))
   refine ⟨_,rfl,.inl ⟨rfl,_,SqL.of GN⟩,_,rfl,_,rfl,aj (by show 2<=1000000;decide),fun pr Cy=>?_⟩;have J6:mt≠pr:=aB GN Cy;refine ⟨mt,_,_,rfl,rfl,ai Cy _ _ _ GN,aF (by rw [Q0];omega),?_⟩;have J7:(upd H4 pr (.tup [.ref pa,.ref ta])) mt=some (.lst (ms.map V.ref)):=ai Cy _ _ _ GN;have k2:KT H4 (upd (upd H4 pr (.tup [.ref pa,.ref ta])) mt (.lst (ms.map V.ref++[.ref pr]))):=(dE Cy).trans (aW J7);have J8:L2.Same H (upd (upd H4 pr (.tup [.ref pa,.ref ta])) mt (.lst (ms.map V.ref++[.ref pr]))):=aC (aC FG (FG.free Cy)) Cm;have Mb:(upd (upd H4 pr (.tup [.ref pa,.ref ta])) mt (.lst (ms.map V.ref++[.ref pr]))) mt=some (.lst ((ms++[pr]).map V.ref)):=by rw [ac,Rj];rfl
   have Mc:(upd (upd H4 pr (.tup [.ref pa,.ref ta])) mt (.lst (ms.map V.ref++[.ref pr]))) ah=some (.lst (A8.map V.ref)):=by rw [al Av,al (aB J5 Cy)];exact J5
   have FH:(upd (upd H4 pr (.tup [.ref pa,.ref ta])) mt (.lst (ms.map V.ref++[.ref pr]))) pr=some (.tup [.ref pa,.ref ta]):=by rw [al J6.symm,ac]
   generalize (upd (upd H4 pr (.tup [.ref pa,.ref ta])) mt (.lst (ms.map V.ref++[.ref pr])))=H5 at k2 J8 Mb Mc FH ⊢;have J9:KT H3 H5:=k1.trans k2;have J':=J9 _ _ EU
   -- kids
   refine ⟨_,rfl,ta,x,rfl,Co.mono J9,fun r ks H6 s6 er AE=>⟨r,rfl,⟨_,SqT.of er⟩,?_⟩⟩;have AN:ks.length=x.kids.length:=AE.length;have QD:=cJ x.kids;intro D hD;have Ka:=s6 _ _ J';refine ⟨ks.length,fun j H7=>An3 (j<=ks.length) (L2.Same H6 H7) (Ex1 fun (bs:List Q7)=>An2 (H7 D=some (.lst (bs.map V.ref))) (PsAt H7 ((fe pre 0 x.kids).take j) bs)),⟨RJ _,ai hD _,[],ac,.nil⟩,?_⟩;rintro j H7 ⟨hj,s7,bs,eD,BM⟩;by_cases CQ:j=ks.length
   · left;refine ⟨⟨_,SqT.of (s7 _ _ er),by rw [Q0];exact CQ.symm⟩,?_⟩;have Ai:(fe pre 0 x.kids).take j=fe pre 0 x.kids:=by rw [CQ,AN,<- mT pre 0 x.kids,SM]
     rw [Ai] at BM;have Kb:=s7 _ _ (s6 _ _ Mc);have Md:=s7 _ _ (s6 _ _ Mb)
     have BH:bs.length=x.kids.length:=by
      have:=Rx BM;rw [mT] at this;exact this.symm
     refine ⟨_,rfl,.inl ⟨rfl,_,SqL.of Kb⟩,_,rfl,D,_,rfl,SqL.of eD,fun l hl=>?_⟩;have Bu:ah≠l:=aB Kb hl;have Ov:mt≠l:=aB Md hl;have Me:(upd H7 l (.lst (bs.map V.ref).reverse)) ah=some (.lst (A8.map V.ref)):=by rw [al Bu];exact Kb
     have q3:A8.length=Us.length:=(Rx a3).symm;have q4:=tY Us;refine ⟨ah,l,_,_,rfl,rfl,Me,ac,aj ?_,?_⟩
     · rw [Q0,Si,Q0];omega
     have k8:KT H7 (upd (upd H7 l (.lst (bs.map V.ref).reverse)) ah (.lst (A8.map V.ref++(bs.map V.ref).reverse))):=(dE hl).trans (aW Me);have Im:KT H3 (upd (upd H7 l (.lst (bs.map V.ref).reverse)) ah (.lst (A8.map V.ref++(bs.map V.ref).reverse))):=J9.trans ((Same.kt (s6.trans s7)).trans k8);refine ⟨szP (Us++(fe pre 0 x.kids).reverse),?_,ms++[pr],A8++bs.reverse,Ms++[(pre,x)],Us++(fe pre 0 x.kids).reverse,_,_,_,rfl,?_,?_,?_,?_,?_,?_,?_,rfl⟩
     · rw [fm,ue,qY,Ma];omega
     · exact aC (aC ((J8.trans s6).trans s7) ((J8.trans s6).trans s7 |>.free hl)) DW
     · rw [al Av.symm,al Ov];exact Md
     · rw [ac,Rj,VM]
     · exact P2.append (a1.mono Im) (.cons ⟨pa,ta,k8 _ _ (s7 _ _ (s6 _ _ FH)),Im _ _ EU,Co.mono Im⟩ .nil)
     · exact P2.append (PsAt.mono Im a3) (P2.reverse (PsAt.mono k8 BM))
     · rw [<- hw,RF,Uo,Uo,Ue,mO,rM];show Ms++([(pre,x)]++(pls pre 0 x.kids++plP Us.reverse))=Ms++plP ((pre,x)::Us.reverse);rw [plP,x.pl_eq pre];rfl
     · intro p hp;rcases RE.mp hp with hp | hp
       · exact hb p (Ug _ hp)
       · obtain ⟨g1,g2⟩:=qL pre 0 x.kids p (List.mem_reverse.mp hp);have:=o9 g2;omega
   · right;have Bl:j<ks.length:=by omega
     refine ⟨Bl,⟨_,.ref ks[j],SqT.of (s7 _ _ er),by rw [Rg,Q1 Bl];rfl⟩,?_⟩;rintro y H8 ⟨p,v,hp,rfl,rfl,hv⟩;have B0:=hv _ (SqT.of (s7 _ _ er));obtain ⟨kd,rfl,GO⟩:=ba B0;obtain ⟨tk,Dc,Ow⟩:=AE.get GO;have s8:L2.Same H7 (upd H7 p (.tup [.int (j:Nat),.ref kd])):=ai hp _;refine ⟨p,_,rfl,SqT.of ac,rfl,_,_,rfl,_,_,rfl,rfl,?_⟩;generalize (upd H7 p (.tup [.int (j:Nat),.ref kd]))=H8 at s8 ⊢;refine ⟨_,rfl,_,rfl,aj (by show 1<=1000000;decide),fun n1 Ox=>?_⟩;have s9:L2.Same H8 (upd H8 n1 (.tup [.int (j:Nat)])):=ai Ox _;have e9:(upd H8 n1 (.tup [.int (j:Nat)])) n1=some (.tup [.int (j:Nat)]):=ac;generalize (upd H8 n1 (.tup [.int (j:Nat)]))=H9 at s9 e9 ⊢;refine sh (s9 _ _ (s8 _ _ (s7 _ _ Ka))) e9 (by rw [Q0];show pre.length+1<=1000000;omega) fun n2 Gd Gb Oy=>?_;refine ⟨_,rfl,aj (by show 2<=1000000;decide),fun n3 DX=>?_⟩;have Gf:L2.Same H7 (upd Gd n3 (.tup [.ref n2,.ref kd])):=(s8.trans (s9.trans Gb)).trans (ai DX _);have GP:=Gf _ _ eD;refine ⟨_,GP,aF ?_,Bl,?_,bs++[n3],?_,?_⟩
     · have:=Rx BM;rw [RP] at this;rw [Q0];omega
     · exact aC (s7.trans Gf) hD
     · rw [ac,Rj];rfl
     · have Io:KT (upd Gd n3 (.tup [.ref n2,.ref kd])) (upd (upd Gd n3 (.tup [.ref n2,.ref kd])) D (.lst (bs.map V.ref++[.ref n3]))):=aW GP;rw [SS,rR pre 0 x.kids j tk Dc];refine P2.append (PsAt.mono ((Same.kt Gf).trans Io) BM) (.cons ⟨n2,kd,Io _ _ ac,Io _ _ (ai DX _ _ _ ?_),?_⟩ .nil)
       · rw [Oy,Rj,Int.zero_add];rfl
       · exact Ow.mono ((Same.kt (s7.trans Gf)).trans Io)
 · have hz:as=[]:=by
    cases as with
    | nil=>rfl
    | cons y ys=>simp at c
   subst hz;have GL:As=[]:=R7.mp (Rx a2);subst GL;refine ⟨_,rfl,k mt ms H3 sm Cm em ?_⟩;have J2:Ms=t.pl []:=by simpa [plP] using hw
   rw [<- J2];exact a1
inductive fc (vs:List V) (H:Hp) (Q:VK) (_E:XK):Prop
 | mk (l:Q7) (as:List Q7) (tops:List Top) (u:Th) (Aj:vs=[.ref l]) (Ak:H l=some (.lst (as.map V.ref))) (An:R3 (TopAt H) tops as) (Az:tops.length<=100000) (AR:TopsOk tops) (Bh:(∀ t,Top.th t∈tops->t.size<=100000)) (Cg:bl tops=[u]) (DG:∀ (r:Q7) (H':Hp),L2.Same H H'->At H' u r->Q (.ref r) H'):fc  vs H Q _E
def my:Sp:=fc
theorem ok_built:aV P w K mg base CX0 1 T.g_built.f T.g_built.d ["tops"] my:=by
 refine T.g_built.F.ok dj (fun vs H Q E h=>?_) (fun Ag A outer s H vs Q E hr h=>?_)
 · obtain ⟨l,as,tops,u,rfl,_⟩:=h;rfl
 obtain ⟨l,as,tops,u,rfl,el,hT,hlen,hok,EX,hu,k⟩:=h
 refine ⟨_,(ad (ar (i:=1) dj.nd rfl (Or.inr rfl) (bm ab))
  (ad (br RM rfl (sI rfl T.n_reversed (pv 0)) (cQ rfl (aL (aq (i:=2) dj.nd rfl (Rp rfl)) (aL (aq (i:=3) dj.nd rfl (Rp rfl)) bX))) (ae (aS (aD nH (pv 3) ag (aE _)) (ae (aT (bi Rk RB RA aN (pv 1) (aa (am fo (pv 2) (bf bp rfl T.n_tuple R4 (aa (bG (N:=[QZ "number",QZ "done"]) (js:=[none,some 1]) (g:=(aG 0)) (tt:=bn) (te:=(xC K "list" (xp) (bV 1))) rfl (cg rfl (by decide +kernel) (by decide +kernel) rfl rfl rfl) (bw rfl T.n_range (aa (pv 3) ab)) (fun _ _ _ _ _ _=>(aq (i:=0) zC rfl (Rp rfl))) (aX rfl) (fun _ _ _ _ _ _=>bN) (fun _ _ _ _ _ _=>(iO Rk Tx Tw iT (pv 1)))) ab))) ab)))) (ae (aT (bi Rk RB RA aN (pv 1) (aa (pv 2) ab)))))))
  (ae (ax (az aO (pv 1) ag (fun _ _=>rfl)))))),?_⟩
 try dsimp only [Ar,Ac]
 have Cj:tops.length=as.length:=Rx hT;refine ⟨aj (by show 0<=1000000;decide),fun dn B8=>?_⟩;refine ⟨_,rfl,l,_,rfl,SqL.of (ai B8 _ _ _ el),?_⟩
 refine qf (K:=K) (a:=l) (xs:=as.map V.ref) (fun i σ H2=>Ex3 fun c2 c3 ds=>An4 (σ=[some (.ref l),some (.ref dn),c2,c3]) (L2.Same H H2) (H2 dn=some (.lst (ds.map V.ref))) (Ats H2 (bl (tops.drop (tops.length - i))).reverse ds))
  ⟨none,none,[],rfl,ai B8 _,ac,by rw [Vp,Vd];exact .nil⟩ (fun i σ H2 _ ⟨_,_,_,_,s2,_,_⟩=>SqL.of (s2 _ _ el)) ?_ ?_
 · rintro i y σ H2 hi hy ⟨c2,c3,ds,rfl,s2,BN,A7⟩;rw [Q0,<- Cj] at hi hy;obtain ⟨pr,rfl,Cy⟩:=ba hy;obtain ⟨x,hx,EY⟩:=P2.get' hT Cy;have EZ:=EY.mono (Same.kt s2);have hn:tops.length - 1 - i<tops.length:=by omega
   have B9:tops.drop (tops.length - 1 - i)=x::tops.drop (tops.length - i):=by
    rw [Sa hn,show tops.length - 1 - i+1=tops.length - i by omega];congr 1;rw [Q1 hn] at hx;exact RI hx
   have BO:=hok.drop (tops.length - 1 - i);rw [B9] at BO;have Be:tops.length - (i+1)=tops.length - 1 - i:=by omega
   have Gv:(bl (tops.drop (tops.length - i))).length<=100000:=by
    have:=pO (tops.drop (tops.length - i));rw [Sf] at this;omega
   generalize tops.drop (tops.length - i)=S at B9 A7 BO Gv;refine hid fun ZZ kZ=>?_
   obtain ⟨ta,m,xs,FH,eta,hm,Ip,AM⟩:∃ (ta:Q7) (m:Nat) (xs:List V),H2 pr=some (.tup [.ref ta,.int (m:Nat)])/\H2 ta=some (.tup xs)/\m<=(bl S).length/\xs.length<=200000/\∀ (H':Hp) (p:Q7) (ks:List Q7),KT H2 H'->Ats H' ((bl S).take m) ks->H' p=some (.tup (xs++ks.map V.ref))->∃ u',bl (x::S)=u'::(bl S).drop m/\At H' u' p:=by
    cases x with
    | nm n m =>
      rw [TopsOk] at BO;obtain ⟨ta,h1,h2,h3⟩:=EZ;refine ⟨ta,m,_,h1,h3,BO.1,(by show 1<=200000;decide),fun H' p ks kt hk hp=>⟨_,by rw [bl],?_⟩⟩;rw [At];exact ⟨h2,ks,hp,hk⟩
    | th t =>
      obtain ⟨ta,h1,h2⟩:=EZ;obtain ⟨n',r',h3⟩:=h2.tup;have hw:=h2.width h3;have Bc:=EX t (Rb hx);refine ⟨ta,0,_,h1,h3,RJ _,by omega,fun H' p ks kt hk hp=>⟨t,by rw [bl,Su],?_⟩⟩;rw [SG,Ats] at hk;subst hk;rw [SY,RC] at hp;exact (h2.mono kt).same (kt _ _ h3) hp
   refine kZ ?_;refine ⟨pr,_,rfl,SqT.of FH,rfl,_,_,rfl,_,_,rfl,rfl,?_⟩;have E1:=A7.length;rw [Si] at E1;refine bZ (fun b H'=>An2 (H'=H2) (b=decide ((0:Int)<(m:Int)))) (fun kk En=>?_) (fun H' hb=>?_) (fun H' hb=>?_)
   · exact ⟨_,rfl,_,_,rfl,rfl,_,rfl,En _ _ ⟨rfl,rfl⟩⟩
   rotate_left
   · obtain ⟨rfl,hb⟩:=hb
     have Kc:m=0:=by
      have:=of_decide_eq_false hb.symm;omega
     subst Kc;obtain ⟨u',CM,Au⟩:=AM H' ta [] (Same.kt (.refl _)) (by rw [SG];exact .nil) (by rw [SY,RC];exact eta);refine ⟨_,rfl,.inl ⟨rfl,_,SqL.of BN⟩,_,rfl,dn,_,_,rfl,rfl,BN,aF (by rw [Q0];omega),?_⟩;have k6:KT H' (upd H' dn (.lst (ds.map V.ref++[.ref ta]))):=aW BN;refine ⟨_,_,ds++[ta],rfl,?_,by rw [ac,Rj];rfl,?_⟩
     · intro b o e;rw [al (aB e B8)];exact s2 b o e
     · rw [Be,B9,CM,RY];rw [Su];exact (A7.mono k6).append (.cons (Au.mono k6) .nil)
   obtain ⟨rfl,hb⟩:=hb;refine ⟨_,rfl,.inl ⟨rfl,_,SqL.of BN⟩,_,rfl,?_⟩;refine ⟨_,rfl,(m:Int),rfl,by omega,by omega,fun D hD=>?_⟩;have E2:D≠dn:=fun z=>by rw [z,BN] at hD;cases hD
   have Cm:((m:Nat):Int).toNat=m:=SU m
   refine ⟨m,fun j H3=>An3 (j<=m) ((∀ b o,H' b=some o->b≠dn->H3 b=some o)) (Ex2 fun (BP ks:List Q7)=>An4 (H3 dn=some (.lst (BP.map V.ref))) (H3 D=some (.lst (ks.map V.ref))) (Ats H3 ((bl S).drop j).reverse BP) (Ats H3 ((bl S).take j) ks)),
    ⟨RJ _,fun b o e hb=>?_,ds,[],?_,?_,?_,?_⟩,?_⟩
   · rw [al (aB e hD)];exact e
   · rw [al E2.symm];exact BN
   · rw [ac];rfl
   · rw [Su];exact A7.mono (dE hD)
   · rw [SG];exact .nil
   rintro j H3 ⟨hj,kp,BP,ks,ed,eD,BU,hd2⟩;by_cases GQ:j=m
   · left;refine ⟨(by show ((m:Nat):Int).toNat<=j;rw [Cm,GQ];exact Q8 _),?_⟩;subst GQ;have Dp:KT H' H3:=fun b Oz e=>kp b _ e (f8 e BN (by intro z;cases z));refine ⟨D,_,rfl,.inl ⟨SqL.of eD,fun tp C2=>?_⟩⟩;have s4:L2.Same H3 (upd H3 tp (.tup (ks.map V.ref))):=ai C2 _;have e4:(upd H3 tp (.tup (ks.map V.ref))) tp=some (.tup (ks.map V.ref)):=ac;generalize (upd H3 tp (.tup (ks.map V.ref)))=H4 at s4 e4 ⊢;have AN:=hd2.length;refine sh (s4 _ _ (Dp _ _ eta)) e4 (by rw [Q0,AN,RP];omega) fun p H5 s5 e5=>?_;have Cz:=s4.trans s5;have GR:=Cz _ _ ed;have E3:=Dp.trans (Same.kt Cz);obtain ⟨u',CM,Au⟩:=AM H5 p ks E3 (hd2.mono (Same.kt Cz)) e5;have El:=BU.length;rw [Si,Sf] at El;refine ⟨dn,_,_,rfl,rfl,GR,aF (by rw [Q0];omega),?_⟩;have k6:KT H5 (upd H5 dn (.lst (BP.map V.ref++[.ref p]))):=aW GR;refine ⟨_,_,BP++[p],rfl,?_,by rw [ac,Rj];rfl,?_⟩
     · intro b o e;have hb:b≠dn:=aB e B8;rw [al hb];exact Cz _ _ (kp b o (s2 b o e) hb)
     · rw [Be,B9,CM,RY];exact (BU.mono ((Same.kt Cz).trans k6)).append (.cons (Au.mono k6) .nil)
   · right;have Bl:j<m:=by omega
     refine ⟨Bl,(by show j<((m:Nat):Int).toNat;rw [Cm];exact Bl),?_⟩;rintro x' H4 ⟨e1,e2⟩;have Bz:H4=H3:=e1;subst Bz;have Eo:j<(bl S).length:=by omega
     have GS:(bl S).drop j=(bl S)[j]::(bl S).drop (j+1):=Sa Eo;rw [GS,RY] at BU
     have Av:BP≠[]:=by
      intro z;subst z;have:=BU.length;rw [Ra] at this;simp at this
     refine hid fun ZZ kZ=>?_;obtain ⟨Cp,b,rfl⟩:∃ Cp b,BP=Cp++[b]:=⟨BP.dropLast,BP.getLast Av,(SH Av).symm⟩;obtain ⟨Us,x2,e3,hU,Ca⟩:=BU.snoc_inv;have e4:=List.append_inj' e3 rfl;obtain ⟨e5,e6⟩:=e4;refine kZ ?_;cases e6;subst e5;refine ⟨_,rfl,.inl ⟨rfl,_,SqL.of ed⟩,dn,_,.ref b,rfl,rfl,ed,by simp,?_⟩;have d1:((Cp++[b]).map V.ref).dropLast=Cp.map V.ref:=by simp
     rw [d1];have GU:(upd H4 dn (.lst (Cp.map V.ref))) D=some (.lst (ks.map V.ref)):=by rw [al E2];exact eD
     have k5:KT H4 (upd (upd H4 dn (.lst (Cp.map V.ref))) D (.lst (ks.map V.ref++[.ref b]))):=(aW ed).trans (aW GU);refine ⟨_,GU,aF (by rw [Q0,hd2.length,RP];omega),Bl,fun b' o e Bc=>?_,Cp,ks++[b],?_,?_,hU.mono k5,?_⟩
     · rw [al (aB e hD),al Bc];exact kp b' o e Bc
     · rw [al E2.symm,ac]
     · rw [ac,Rj];rfl
     · rw [SS,Q1 Eo];exact (hd2.mono k5).append (.cons (Ca.mono k5) .nil)
 · rintro σ H2 ⟨c2,c3,ds,rfl,s2,BN,A7⟩;rw [Q0,<- Cj,UK,Su,hu] at A7;have Dq:Ats H2 [u] ds:=A7;rw [Ats] at Dq;obtain ⟨b,r,rfl,hb,OA⟩:=Dq;exact ⟨_,rfl,dn,_,0,.ref b,rfl,rfl,SqL.of BN,at0,k b H2 s2 hb⟩
inductive kF (vs:List V) (H:Hp) (Q:VK) (_E:XK):Prop
 | mk (a:Q7) (t:Th) (Aj:vs=[.ref a]) (Ak:At H t a) (An:Q (.bl t.isCall) H):kF  vs H Q _E
def lW:Sp:=kF
theorem dU:aV P w K mg base CX0 1 T.g_is_call.f T.g_is_call.d ["thing"] lW:=by
 refine T.g_is_call.F.ok sU (fun vs H Q E h=>?_) (fun Ag A outer s H vs Q E hr h=>?_)
 · obtain ⟨a,t,rfl,_⟩:=h;rfl
 obtain ⟨a,t,rfl,hA,k⟩:=h;refine ⟨_,(ae (ax (cz cI (az aI (pv 0) ag (fun _ _=>rfl)) (cw (v:=.str (QZ "?")) rfl T.c_CALL_SIGN.choose_spec ⟨_,rfl⟩) (aE _)))),?_⟩
 try dsimp only [Ar,Ac]
 cases t with
 | knot n ks =>
   rw [At] at hA;refine hid fun ZZ kZ=>?_;obtain ⟨hn,as,h1,h2⟩:=hA;refine kZ ?_;refine ⟨_,rfl,a,_,0,.str n,rfl,rfl,SqT.of h1,at0,rfl,?_⟩;have e:decide (V.str n=V.str (QZ "?"))=false:=decide_eq_false (fun z=>hn (V.str.inj z));rw [e];exact k
 | call sn kn =>
   rw [At] at hA;refine ⟨_,rfl,a,_,0,.str q,rfl,rfl,SqT.of hA,at0,rfl,?_⟩;have e:decide (V.str q=V.str (QZ "?"))=true:=decide_eq_true rfl;rw [e];exact k
inductive iL (vs:List V) (H:Hp) (Q:VK) (_E:XK):Prop
 | mk (a:Q7) (sn kn:Int) (Aj:vs=[.ref a]) (Ak:At H (.call sn kn) a) (An:∀ p,H p=none->Q (.ref p) (upd H p (.tup [.int sn,.int kn]))):iL  vs H Q _E
def je:Sp:=iL
theorem jl:aV P w K mg base CX0 1 T.g_called_by.f T.g_called_by.d ["call"] je:=by
 refine T.g_called_by.F.ok oO (fun vs H Q E h=>?_) (fun Ag A outer s H vs Q E hr h=>?_)
 · obtain ⟨a,sn,kn,rfl,_⟩:=h;rfl
 obtain ⟨a,sn,kn,rfl,hA,k⟩:=h;refine ⟨_,(ae (ax (bg (aa (az aI (pv 0) ag (fun _ _=>rfl)) (aa (az aI (pv 0) ag (fun _ _=>rfl)) ab))))),?_⟩
 try dsimp only [Ar,Ac]
 rw [At] at hA;exact ⟨_,rfl,a,_,1,_,rfl,rfl,SqT.of hA,at1,_,rfl,a,_,2,_,rfl,rfl,SqT.of hA,at2,aj (by show 2<=1000000;decide),fun p hp=>k p hp⟩
inductive jg (vs:List V) (H:Hp) (Q:VK) (_E:XK):Prop
 | mk (a:Q7) (t:Th) (Aj:vs=[.ref a]) (Ak:At H t a) (An:t.size<=100000) (Az:t.tall<=100000) (AR:∀ (r:Q7) (as:List Q7) (H':Hp),L2.Same H H'->H' r=some (.lst (as.map V.ref))->CsAt H' (callsOf (t.pl [])) as->Q (.ref r) H'):jg  vs H Q _E
def rE:Sp:=jg
theorem rA:aV P w K mg base CX0 3 T.g_calls_in.f T.g_calls_in.d ["pattern"] rE:=by
 refine T.g_calls_in.F.ok qu (fun vs H Q E h=>?_) (fun Ag A outer s H vs Q E hr h=>?_)
 · obtain ⟨a,t,rfl,_⟩:=h;rfl
 obtain ⟨a,t,rfl,hA,hsz,AI,k⟩:=h;refine ⟨_,(ae (ax (bG (N:=[QZ "place",QZ "part"]) (js:=[none,none]) (g:=(uT K 2 (iK (aG 0) (iK (aG 1) vq)))) (tt:=(fun σ H Q=>(ip lW [] E0 (b8 (bV 1) eR)) σ H fun x H1=>∃ k,zw K x H1 k/\Q k H1)) (te:=(tT (b8 (bV 0) (b8 (ip je [] E0 (b8 (bV 1) eR)) eR)))) rfl (cg rfl (by decide +kernel) (by decide +kernel) rfl rfl rfl) (df (pcF T.g_placed (uz T) hr (aa (pv 0) ab))) (fun _ _ _ _ _ _=>(cQ rfl (aL (aq (i:=0) zS rfl (Rp rfl)) (aL (aq (i:=1) zS rfl (Rp rfl)) bX)))) (oM (ej cq (aX rfl) (ej cq (aX rfl) pB))) (fun _ _ _ _ _ _=>g8 (aQ (pcF T.g_is_call (dU T) hr (aa (pv 1) ab)) (fun _=>rfl))) (fun _ _ _ _ _ _=>(bg (aa (pv 0) (aa (pcF T.g_called_by (jl T) hr (aa (pv 1) ab)) ab))))))),?_⟩
 try dsimp only [Ar,Ac]
 refine ⟨_,rfl,a,t,rfl,hA,hsz,AI,fun r as H1 s1 nr er DJ=>⟨r,rfl,⟨_,SqL.of er⟩,?_⟩⟩;have Cj:(t.pl []).length=as.length:=Rx DJ;have AX:=Th.pl_len [] t;intro D hD;refine ⟨as.length,fun j H2=>An3 (j<=as.length) (L2.Same H1 H2) (Ex1 fun (bs:List Q7)=>An2 (H2 D=some (.lst (bs.map V.ref))) (CsAt H2 (callsOf ((t.pl []).take j)) bs)),⟨RJ _,ai hD _,[],ac,.nil⟩,?_⟩;rintro j H2 ⟨hj,s2,bs,eD,BM⟩;by_cases CQ:j=as.length
 · left;refine ⟨⟨_,SqL.of (s2 _ _ er),by rw [Q0,CQ];exact Q8 _⟩,?_⟩;have Ai:(t.pl []).take j=t.pl []:=by rw [CQ,<- Cj,SM]
   rw [Ai] at BM;exact k D bs H2 (s1.trans s2) eD BM
 · right;have Bl:j<as.length:=by omega
   refine ⟨Bl,⟨_,.ref as[j],SqL.of (s2 _ _ er),by rw [Rg,Q1 Bl];rfl⟩,?_⟩;rintro y H3 ⟨rfl,hv⟩;have B0:=hv _ (SqL.of (s2 _ _ er));refine hid fun ZZ kZ=>?_;obtain ⟨pr,rfl,Cy⟩:=ba B0;obtain ⟨⟨p,u⟩,OB,pa,ta,e1,e2,e3⟩:=P2.get' (DJ.mono (Same.kt s2)) Cy;refine kZ ?_;simp only at e2 e3;have Dc:(t.pl []).take (j+1)=(t.pl []).take j++[(p,u)]:=by rw [SS,OB];rfl
   have BH:bs.length<=j:=by
    have g1:=Rx BM;have g2:=kR ((t.pl []).take j);rw [RP] at g2;omega
   refine ⟨pr,_,rfl,SqT.of e1,rfl,_,_,rfl,_,_,rfl,rfl,?_⟩;refine ⟨_,rfl,ta,u,rfl,e3,_,rfl,?_⟩;cases u with
   | knot n ks =>
     refine bA ⟨Bl,s2,bs,eD,?_⟩;rw [Dc,gS];show CsAt H3 (callsOf ((t.pl []).take j)++[]) bs;rw [RC];exact BM
   | call sn kn =>
     refine cE ?_;refine ⟨_,rfl,_,rfl,ta,sn,kn,rfl,e3,fun ca E4=>⟨aj (by show 2<=1000000;decide),fun n3 DX=>?_⟩⟩;have s4:L2.Same H3 (upd (upd H3 ca (.tup [.int sn,.int kn])) n3 (.tup [.ref pa,.ref ca])):=(ai E4 _).trans (ai DX _);have Iq:=s4 _ _ eD;refine ⟨_,Iq,aF (by rw [Q0];omega),Bl,aC (s2.trans s4) hD,bs++[n3],?_,?_⟩
     · rw [ac,Rj];rfl
     · have k5:KT (upd (upd H3 ca (.tup [.int sn,.int kn])) n3 (.tup [.ref pa,.ref ca])) (upd (upd (upd H3 ca (.tup [.int sn,.int kn])) n3 (.tup [.ref pa,.ref ca])) D (.lst (bs.map V.ref++[.ref n3]))):=aW Iq;rw [Dc,gS];exact P2.append (CsAt.mono ((Same.kt s4).trans k5) BM) (.cons ⟨pa,ca,k5 _ _ ac,k5 _ _ (s4 _ _ e2),k5 _ _ (ai DX _ _ _ ac)⟩ .nil)
inductive mW (vs:List V) (H:Hp) (Q:VK) (_E:XK):Prop
 | mk (a:Q7) (n:Ru) (ks:List Th) (Aj:vs=[.ref a]) (Ak:At H (.knot n ks) a) (An:∀ (r:Q7) (H':Hp),L2.Same H H'->TopAt H' (.nm n ks.length) r->Q (.ref r) H'):mW  vs H Q _E
def uQ:Sp:=mW
theorem u9:aV P w K mg base CX0 2 T.g_top_of.f T.g_top_of.d ["part"] uQ:=by
 refine T.g_top_of.F.ok nL (fun vs H Q E h=>?_) (fun Ag A outer s H vs Q E hr h=>?_)
 · obtain ⟨a,n,ks,rfl,_⟩:=h;rfl
 obtain ⟨a,n,ks,rfl,hA,k⟩:=h
 refine ⟨_,(ad (ar (i:=1) nL.nd rfl (Rp rfl) (av ao rfl T.n_len RG (aa (pcF T.g_kids_of (dY T) hr (aa (pv 0) ab)) ab)))
  (ae (ax (bg (aa (bT ye (pv 0) cL (bR (am mh (av ao rfl T.n_len RG (aa (pv 0) ab)) (pv 1)))) (aa (pv 1) ab)))))),?_⟩
 try dsimp only [Ar,Ac]
 refine ⟨_,rfl,a,.knot n ks,rfl,hA,fun r as H1 s1 er AE=>⟨r,_,rfl,.inr (SqT.of er),?_⟩⟩;rw [At] at hA;refine hid fun ZZ kZ=>?_;obtain ⟨hn,ka,ea,AQ⟩:=hA;refine kZ ?_;have AN:ka.length=ks.length:=AQ.length;have Cj:as.length=ks.length:=AE.length;refine ⟨_,rfl,_,rfl,a,_,rfl,.inr (SqT.of (s1 _ _ ea)),_,rfl,_,_,rfl,rfl,_,rfl,a,_,rfl,s1 _ _ ea,fun p H2 s2 e2=>?_⟩
 have e1:((V.str n::ka.map V.ref).length:Int) - ((as.map V.ref).length:Int)=1:=by
  rw [Q3,Q0,Q0,AN,Cj];omega
 have e3:H2 p=some (.tup [.str n]):=by
  rw [e2];show some (HO.tup (cB (V.str n::ka.map V.ref) none (some (((V.str n::ka.map V.ref).length:Int) - ((as.map V.ref).length:Int)))))=_;rw [e1,xQ]
 refine ⟨_,rfl,aj (by show 2<=1000000;decide),fun l hl=>?_⟩;refine k l _ (s1.trans (s2.trans (ai hl _))) ⟨p,?_,hn,ai hl _ _ _ e3⟩;rw [ac,Q0,Cj]
inductive mn (vs:List V) (H:Hp) (Q:VK) (_E:XK):Prop
 | mk (a ta:Q7) (t:Th) (f:Int->Int->Th) (Aa:List (List Key×V)) (Aj:vs=[.ref a,.ref ta]) (Ak:At H t a) (An:t.size<=100000) (Az:Rd H ta (.dT Aa)) (AR:(∀ s k,Th.call s k∈t.walk->∃ v,dB Aa [To s,To k]=some (.ref v)/\At H (f s k) v/\(f s k).size<=100000)) (Bh:∀ (r:Q7) (H':Hp),L2.Same H H'->At H' (t.fill f) r->Q (.ref r) H'):mn  vs H Q _E
def u6:Sp:=mn
theorem uO:aV P w K mg base CX0 3 T.g_filled.f T.g_filled.d ["pattern","table"] u6:=by
 refine T.g_filled.F.ok jY (fun vs H Q E h=>?_) (fun Ag A outer s H vs Q E hr h=>?_)
 · obtain ⟨a,ta,t,f,Aa,rfl,_⟩:=h;rfl
 obtain ⟨a,ta,t,f,Aa,rfl,hA,hsz,LJ,GV,k⟩:=h
 refine ⟨_,(ad (ar (i:=2) jY.nd rfl (Rp rfl) (bm ab))
  (ad (br RM rfl (df (pcF T.g_walked (j4 T) hr (aa (pv 0) ab))) (aq (i:=3) jY.nd rfl (Rp rfl)) (ae (aS (aQ (pcF T.g_is_call (dU T) hr (aa (pv 3) ab)) (fun _=>rfl)) (ae (aT (bi Rk RB RA aN (pv 2) (aa (bg (aa (xS (aay hr) (pv 1) (pcF T.g_called_by (jl T) hr (aa (pv 3) ab)) (fun _ _=>rfl)) (aa ag ab))) ab)))) (ae (aT (bi Rk RB RA aN (pv 2) (aa (pcF T.g_top_of (u9 T) hr (aa (pv 3) ab)) ab)))))))
  (ae (ax (pcF T.g_built (ok_built T) hr (aa (pv 2) ab)))))),?_⟩
 try dsimp only [Ar,Ac]
 refine ⟨aj (by show 0<=1000000;decide),fun tl AI=>?_⟩;refine ⟨_,rfl,a,t,rfl,hA.mono (dE AI),hsz,fun wl as H1 s1 GW Mf hw=>?_⟩;have B':as.length=t.walk.length:=hw.length;have QE:=Th.walk_len t;have OC:L2.Same H H1:=(ai AI _).trans s1;have OD:wl≠tl:=fun z=>by rw [z,ac] at GW;cases GW
 refine ⟨wl,rfl,⟨_,SqL.of Mf⟩,?_⟩
 refine mM (K:=K) (a:=wl) (xs:=as.map V.ref) (fun i σ H2=>Ex2 fun c bs=>An6 (σ=[some (.ref a),some (.ref ta),some (.ref tl),c]) (L2.Same H H2) (H2 wl=some (.lst (as.map V.ref))) (Ats H2 t.walk as) (H2 tl=some (.lst (bs.map V.ref))) (R3 (TopAt H2) ((t.walk.take i).map (dW f)) bs))
  ⟨none,[],rfl,OC,Mf,hw,s1 _ _ ac,.nil⟩ (fun i σ H2 _ ⟨_,_,_,_,e,_,_,_⟩=>SqL.of e) ?_ ?_
 · rintro i x σ H2 hx ⟨c,bs,rfl,s2,GX,E5,E6,BM⟩;obtain ⟨xa,rfl,GY⟩:=ba hx;obtain ⟨tx,DK,DL⟩:=E5.get GY;have OE:tx∈t.walk:=Rb DK;have Dc:t.walk.take (i+1)=t.walk.take i++[tx]:=by rw [SS,DK];rfl
   have BH:bs.length<=100000:=by
    have:=Rx BM;rw [Q0,RP] at this;omega
   refine ⟨_,rfl,xa,tx,rfl,DL,_,rfl,?_⟩
   have push:∀ (H3:Hp) (p:Q7),L2.Same H2 H3->TopAt H3 (dW f tx) p->Ex2 fun c Mg=>An6 (([some (.ref a),some (.ref ta),some (.ref tl),some (.ref xa)]:St)=[some (.ref a),some (.ref ta),some (.ref tl),c]) (L2.Same H (upd H3 tl (.lst (bs.map V.ref++[.ref p])))) ((upd H3 tl (.lst (bs.map V.ref++[.ref p]))) wl=some (.lst (as.map V.ref))) (Ats (upd H3 tl (.lst (bs.map V.ref++[.ref p]))) t.walk as) ((upd H3 tl (.lst (bs.map V.ref++[.ref p]))) tl=some (.lst (Mg.map V.ref))) (R3 (TopAt (upd H3 tl (.lst (bs.map V.ref++[.ref p])))) ((t.walk.take (i+1)).map (dW f)) Mg):=by
    intro H3 p s3 hp;have k3:KT H3 (upd H3 tl (.lst (bs.map V.ref++[.ref p]))):=aW (s3 _ _ E6);refine ⟨_,bs++[p],rfl,aC (s2.trans s3) AI,by rw [al OD];exact s3 _ _ GX,E5.mono ((Same.kt s3).trans k3),by rw [ac,Rj];rfl,?_⟩;rw [Dc,Rj];exact P2.append (uN ((Same.kt s3).trans k3) BM) (.cons (hp.mono k3) .nil)
   cases tx with
   | call sn kn =>
     refine cE ?_;refine hid fun ZZ kZ=>?_;obtain ⟨v,hv,OF,_⟩:=GV sn kn OE;refine kZ ?_;refine ⟨_,rfl,.inl ⟨rfl,_,SqL.of E6⟩,_,rfl,_,rfl,xa,sn,kn,rfl,DL,fun cb OG=>?_⟩;have s3:L2.Same H2 (upd H2 cb (.tup [.int sn,.int kn])):=ai OG _
     have Kd:Rd (upd H2 cb (.tup [.int sn,.int kn])) ta (.dT Aa):=by
      rcases LJ with h | ⟨o,h⟩
      · exact .inl (s3 _ _ (s2 _ _ h))
      · exact .inr ⟨o,s3 _ _ (s2 _ _ h)⟩
     refine ⟨ta,.ref v,rfl,.inr ⟨Aa,[To sn,To kn],cb,Kd,rfl,ac,hv.symm⟩,aj (by show 2<=1000000;decide),fun p hp=>?_⟩;have s4:=s3.trans (ai hp (.tup [.ref v,.int 0]));refine ⟨tl,_,_,rfl,rfl,s4 _ _ E6,aF (by rw [Q0];omega),?_⟩;exact push _ p s4 ⟨v,ac,OF.mono (Same.kt (s2.trans s4))⟩
   | knot nm us =>
     refine bA ?_;refine ⟨_,rfl,.inl ⟨rfl,_,SqL.of E6⟩,_,rfl,xa,nm,us,rfl,DL,fun p H3 s3 hp=>?_⟩;refine ⟨tl,_,_,rfl,rfl,s3 _ _ E6,aF (by rw [Q0];omega),?_⟩;exact push _ p s3 hp
 · rintro σ H2 ⟨c,bs,rfl,s2,GX,E5,E6,BM⟩;rw [Q0,B',SM] at BM;obtain ⟨b1,b2⟩:=ud f t;refine ⟨_,rfl,tl,bs,_,t.fill f,rfl,E6,BM,by rw [Q0];omega,b2,?_,b1,fun r H3 s3 E7=>k r H3 (s2.trans s3) E7⟩;intro u hu;obtain ⟨x,hx,e⟩:=Sl.mp hu;cases x with
   | knot nm us=>cases e
   | call sn kn =>
     cases e;refine hid fun ZZ kZ=>?_;obtain ⟨v,_,_,hz⟩:=GV sn kn hx;refine kZ ?_;exact hz
inductive mH (vs:List V) (H:Hp) (Q:VK) (_E:XK):Prop
 | mk (b:Q7) (v1 v2 v3 v4:V) (Aj:vs=[.ref b]) (Ak:H b=some (.tup [v1,v2,v3,v4])) (An:Q v1 H):mH  vs H Q _E
def uW:Sp:=mH
inductive jt (vs:List V) (H:Hp) (Q:VK) (_E:XK):Prop
 | mk (b:Q7) (v1 v2 v3 v4:V) (Aj:vs=[.ref b]) (Ak:H b=some (.tup [v1,v2,v3,v4])) (An:Q v4 H):jt  vs H Q _E
def rb:Sp:=jt
theorem nZ:aV P w K mg base CX0 1 T.g_ins_of.f T.g_ins_of.d ["book"] uW:=by
 refine T.g_ins_of.F.ok vi (fun vs H Q E h=>?_) (fun Ag A outer s H vs Q E hr h=>?_)
 · obtain ⟨b,v1,v2,v3,v4,rfl,_⟩:=h;rfl
 obtain ⟨b,v1,v2,v3,v4,rfl,e,q⟩:=h;refine ⟨_,(ae (ax (az aI (pv 0) ag (fun _ _=>rfl)))),?_⟩
 try dsimp only [Ar,Ac]
 exact ⟨_,rfl,b,_,0,v1,rfl,rfl,SqT.of e,at0,q⟩
theorem qm:aV P w K mg base CX0 1 T.g_rules_of.f T.g_rules_of.d ["book"] rb:=by
 refine T.g_rules_of.F.ok qK (fun vs H Q E h=>?_) (fun Ag A outer s H vs Q E hr h=>?_)
 · obtain ⟨b,v1,v2,v3,v4,rfl,_⟩:=h;rfl
 obtain ⟨b,v1,v2,v3,v4,rfl,e,q⟩:=h;refine ⟨_,(ae (ax (az aI (pv 0) ag (fun _ _=>rfl)))),?_⟩
 try dsimp only [Ar,Ac]
 exact ⟨_,rfl,b,_,3,v4,rfl,rfl,SqT.of e,fC (j:=3) rfl,q⟩
inductive kL (vs:List V) (H:Hp) (Q:VK) (_E:XK):Prop
 | mk (b:Q7) (v1 v2 v3 v4:V) (Aj:vs=[.ref b]) (Ak:H b=some (.tup [v1,v2,v3,v4])) (An:Q v2 H):kL  vs H Q _E
def tP:Sp:=kL
inductive ky (vs:List V) (H:Hp) (Q:VK) (_E:XK):Prop
 | mk (b:Q7) (v1 v2 v3 v4:V) (Aj:vs=[.ref b]) (Ak:H b=some (.tup [v1,v2,v3,v4])) (An:Q v3 H):ky  vs H Q _E
def tQ:Sp:=ky
theorem sd:aV P w K mg base CX0 1 T.g_outs_of.f T.g_outs_of.d ["book"] tP:=by
 refine T.g_outs_of.F.ok r9 (fun vs H Q E h=>?_) (fun Ag A outer s H vs Q E hr h=>?_)
 · obtain ⟨b,v1,v2,v3,v4,rfl,_⟩:=h;rfl
 obtain ⟨b,v1,v2,v3,v4,rfl,e,q⟩:=h;refine ⟨_,(ae (ax (az aI (pv 0) ag (fun _ _=>rfl)))),?_⟩
 try dsimp only [Ar,Ac]
 exact ⟨_,rfl,b,_,1,v2,rfl,rfl,SqT.of e,at1,q⟩
theorem rW:aV P w K mg base CX0 1 T.g_head_of.f T.g_head_of.d ["book"] tQ:=by
 refine T.g_head_of.F.ok sC (fun vs H Q E h=>?_) (fun Ag A outer s H vs Q E hr h=>?_)
 · obtain ⟨b,v1,v2,v3,v4,rfl,_⟩:=h;rfl
 obtain ⟨b,v1,v2,v3,v4,rfl,e,q⟩:=h;refine ⟨_,(ae (ax (az aI (pv 0) ag (fun _ _=>rfl)))),?_⟩
 try dsimp only [Ar,Ac]
 exact ⟨_,rfl,b,_,2,v3,rfl,rfl,SqT.of e,at2,q⟩
inductive gm (vs:List V) (H:Hp) (Q:VK) (_E:XK):Prop
 | mk (n:Ru) (l:Q7) (ts:List Ru) (Aj:vs=[.str n,.ref l]) (Ak:H l=some (.lst (ts.map V.str))) (An:n.length+(ts.map (·.length)).sum+ts.length<=900000) (Az:Q (.str (fY n ts)) H):gm  vs H Q _E
def nh:Sp:=gm
theorem nu:aV P w K mg base CX0 1 T.g_shown_knot.f T.g_shown_knot.d ["name","kids"] nh:=by
 refine T.g_shown_knot.F.ok iE (fun vs H Q E h=>?_) (fun Ag A outer s H vs Q E hr h=>?_)
 · obtain ⟨n,l,ts,rfl,_⟩:=h;rfl
 obtain ⟨n,l,ts,rfl,e,hz,k⟩:=h
 refine ⟨_,(ad (aS (ci (aQ (pv 1) (fun _=>rfl))) (ae (ax (pv 0))) aH)
  (ad (ar (i:=2) iE.nd rfl (Rp rfl) (bi RW SO SN eC aA (aa (pv 1) ab)))
  (ae (ax (lr (.cons (jQ (pv 0)) (.cons aA (.cons (jQ (pv 2)) (.cons aA .nil))))))))),?_⟩
 try dsimp only [Ar,Ac]
 refine ⟨_,rfl,_,.inl ⟨_,SqL.of e,rfl⟩,?_⟩;refine cA (fun c=>?_) (fun c=>?_)
 · have BV:ts=[]:=by
    cases ts with
    | nil=>rfl
    | cons x xs=>simp at c
   subst BV;exact ⟨_,rfl,k⟩
 · have Av:ts.isEmpty=false:=by
    cases ts with
    | nil=>simp at c
    | cons x xs=>rfl
   have hk:fY n ts=n++lpar++R8 comma ts++rpar:=by
    unfold fY;rw [Av];rfl
   rw [hk] at k;have hj:=join_le ts;have l1:=pP.1;have l2:=pP.2.1;have l3:=pP.2.2;refine ⟨rfl,_,rfl,comma,l,ts,rfl,rfl,SqL.of e,by rw [l1];omega,?_⟩;refine ⟨_,rfl,n,rfl,Tc (aF (by omega)),n,rfl,?_⟩;rw [empty_app];refine ⟨Tc (aF (by omega)),lpar,rfl,Tc (aF (by rw [Rh];omega)),?_⟩;refine ⟨_,rfl,R8 comma ts,rfl,Tc (aF (by omega)),_,rfl,Tc (aF (by rw [Rh,Rh];omega)),?_⟩;exact ⟨rpar,rfl,Tc (aF (by rw [Rh,Rh,Rh];omega)),Tc (aF (by rw [Rh,Rh,Rh];omega)),k⟩
inductive gU (vs:List V) (H:Hp) (Q:VK) (_E:XK):Prop
 | mk (a:Q7) (t:Th) (L:Nat) (Aj:vs=[.ref a]) (Ak:At H t a) (An:1<=L) (Az:t.Nm L) (AR:(L+3) * t.size<=100000) (Bh:∀ (H':Hp),L2.Same H H'->Q (.str t.show) H'):gU  vs H Q _E
def nk:Sp:=gU
theorem m7:aV P w K mg base CX0 3 T.g_shown_tree.f T.g_shown_tree.d ["tree"] nk:=by
 refine T.g_shown_tree.F.ok de (fun vs H Q E h=>?_) (fun Ag A outer s H vs Q E hr h=>?_)
 · obtain ⟨a,t,L,rfl,_⟩:=h;rfl
 obtain ⟨a,t,L,rfl,hA,hL,hN,hz,k⟩:=h
 refine ⟨_,(ad (ar (i:=1) de.nd rfl (Or.inr rfl) (bm ab))
  (ad (br RM rfl (sI rfl T.n_reversed (pcF T.g_walked (j4 T) hr (aa (pv 0) ab))) (aq (i:=2) de.nd rfl (Rp rfl)) (ad (jy (i:=3) (N:=[QZ "kid",QZ "done"]) (js:=[none,some 1]) (g:=(aG 0)) (tt:=bn) (te:=(xC K "list" (xp) (bV 1))) de.nd rfl (Rp rfl) rfl (cg rfl (by decide +kernel) (by decide +kernel) rfl rfl rfl) (db (pcF T.g_kids_of (dY T) hr (aa (pv 2) ab))) (fun _ _ _ _ _ _=>(aq (i:=0) aaN rfl (Rp rfl))) (aX rfl) (fun _ _ _ _ _ _=>bN) (fun _ _ _ _ _ _=>(iO Rk Tx Tw iT (pv 1))))
  (ae (aT (bi Rk RB RA aN (pv 1) (aa (pcF T.g_shown_knot (nu T) hr (aa (az aI (pv 2) ag (fun _ _=>rfl)) (aa (pv 3) ab))) ab))))))
  (ae (ax (az aO (pv 1) ag (fun _ _=>rfl)))))),?_⟩
 try dsimp only [Ar,Ac]
 have hsz:t.size<=100000:=by
  have:1 * t.size<=(L+3) * t.size:=SW _ (by omega);omega
 refine ⟨by show 0<=Ry;decide,fun dn B8=>?_⟩;refine ⟨_,rfl,a,t,rfl,hA.mono (dE B8),hsz,fun wl as H2 s2 GW e2 a2=>⟨wl,as.map V.ref,rfl,SqL.of e2,?_⟩⟩;have hlen:as.length=t.walk.length:=a2.length;have OH:L2.Same H H2:=(ai B8 _).trans s2
 refine qf (K:=K) (a:=wl) (xs:=as.map V.ref) (fun i σ H3=>Ex2 fun kn kd=>An5 (σ=[some (.ref a),some (.ref dn),kn,kd]) (L2.Same H H3) (H3 wl=some (.lst (as.map V.ref))) (H3 dn=some (.lst ((cS (t.walk.drop (t.walk.length - i))).reverse.map V.str))) (Ats H3 t.walk as))
  ⟨none,none,rfl,OH,e2,?_,a2⟩ (fun i σ H3 _ ⟨_,_,_,_,z,_,_⟩=>SqL.of z) ?_ ?_
 · rw [s2 dn _ ac,Vp,Vd];rfl
 · rintro i x σ H3 hi hx ⟨kn,kd,rfl,s3,e3,d3,a3⟩;rw [Q0,hlen] at hi hx;rw [Rg] at hx;obtain ⟨xa,GY,rfl⟩:=Tq.mp hx;obtain ⟨tx,DK,DL⟩:=a3.get GY;have hn:t.walk.length - 1 - i<t.walk.length:=by omega
   have B9:t.walk.drop (t.walk.length - 1 - i)=tx::t.walk.drop (t.walk.length - i):=by
    rw [Sa hn,show t.walk.length - 1 - i+1=t.walk.length - i by omega];congr 1;rw [Q1 hn] at DK;exact RI DK
   have hS:t.walk=t.walk.take (t.walk.length - 1 - i)++tx::t.walk.drop (t.walk.length - i):=by
    have e1:=(List.take_append_drop (t.walk.length - 1 - i) t.walk).symm;rw [B9] at e1;exact e1
   have Ke:tx.Nm L:=Nms.get (mZ _ [t] (Q8 _) (by rw [Nms,Nms];exact ⟨hN,trivial⟩)) (i:=t.walk.length - 1 - i) (by simpa [walks] using DK)
   have OI:tx.size<=t.size:=by
    have:=iU _ [t] (Q8 _) tx (by simpa [walks] using Rb DK);simpa [ay] using this
   generalize OJ:t.walk.drop (t.walk.length - i)=S at hS d3 B9;obtain ⟨S',AL⟩:=tE (ts:=[t]) (P:=t.walk.take (t.walk.length - 1 - i)) (x:=tx) (S:=S) (by rw [<- hS];simp [walks]);refine ⟨_,rfl,xa,tx,rfl,DL,fun r ks H4 s4 e4 a4=>⟨r,rfl,⟨_,SqT.of e4⟩,fun D hD=>?_⟩⟩;have Kf:D≠dn:=fun z=>by rw [z,s4 dn _ d3] at hD;cases hD
   have hk:ks.length=tx.kids.length:=a4.length;have hR:tx.kids.length<=(cS S).length:=by rw [AL,Ra,gX];omega
   have hle:=Th.show_le tx Ke;have Kg:(L+3) * tx.size<=100000:=Sw (Sv _ OI) hz;have AE:=jw tx.kids Ke.kids;have FI:=tx.size_eq;have OK:(L+3) * ay tx.kids<=100000:=Sw (Sv _ (by omega)) Kg
   have AN:tx.kids.length<=100000:=by
    have:=cJ tx.kids;have:1 * ay tx.kids<=(L+3) * ay tx.kids:=SW _ (by omega);omega
   have BQ:(cS S).length<=100000:=by
    have hw:(t.walk).length<=100000:=by rw [Th.walk_len];exact hsz
    have:S.length<=t.walk.length:=by rw [<- OJ,Sf];omega
    have hl:∀ Z:List Th,(cS Z).length<=Z.length:=by
     intro Z;induction Z with
     | nil=>exact Q8 _
     | cons z Z ih=>rw [cS,Q3,Q3,Sf];omega
    have:=hl S;omega
   refine ⟨ks.length,fun j H5=>An4 (j<=ks.length) ((∀ b o,H4 b=some o->b≠dn->H5 b=some o)) (H5 dn=some (.lst (((cS S).drop j).reverse.map V.str))) (H5 D=some (.lst (((cS S).take j).map V.str))),
    ⟨RJ _,fun b o e hb=>?_,?_,?_⟩,?_⟩
   · rw [al (aB e hD)];exact e
   · rw [al Kf.symm,s4 dn _ d3,Su]
   · rw [ac];simp
   rintro j H5 ⟨hj,kp,ed,eD⟩;by_cases CQ:j=ks.length
   · left;have er:H5 r=some (.tup (ks.map V.ref)):=kp r _ e4 (f8 e4 (s4 dn _ d3) (by intro z;cases z));refine ⟨⟨_,SqT.of er,by rw [Q0,CQ];exact Q8 _⟩,?_⟩
     -- done.append(shown_knot(knot[0],kids))
     have Mh:KT H3 H5:=fun b xs e=>kp b _ (s4 b _ e) (f8 e d3 (by intro z;cases z));obtain ⟨rt,OL⟩:=(DL.mono Mh).tupn;have AF:(cS S).take j=bh tx.kids:=by rw [CQ,hk,AL,<- gX tx.kids,List.take_left]
     rw [AF] at eD;refine ⟨_,rfl,.inl ⟨rfl,_,SqL.of ed⟩,_,rfl,xa,_,0,.str tx.nm,rfl,rfl,SqT.of OL,at0,_,rfl,tx.nm,D,bh tx.kids,rfl,eD,?_,?_⟩
     · have:=Ke.nm hL
       have:L<=100000:=by
        have:=tx.size_pos;have:(L+3) * 1<=(L+3) * tx.size:=Sv _ (by omega);omega
       omega
     · refine ⟨dn,_,_,rfl,rfl,ed,aF (by rw [Q0,Si,Sf];omega),?_⟩;have k5:KT H5 (upd H5 dn (.lst (((cS S).drop j).reverse.map V.str++[.str (fY tx.nm (bh tx.kids))]))):=aW ed;refine ⟨some (.ref xa),some (.ref D),rfl,?_,?_,?_,a3.mono (Mh.trans k5)⟩
       · intro b o e;have hb:b≠dn:=aB e B8;rw [al hb];exact kp b o (s4 b o (s3 b o e)) hb
       · have hw:wl≠dn:=by
          intro z;rw [z,ac] at GW;cases GW
         rw [al hw];exact kp wl _ (s4 wl _ e3) hw
       · rw [ac]
         have e5:t.walk.drop (t.walk.length - (i+1))=tx::S:=by
          rw [show t.walk.length - (i+1)=t.walk.length - 1 - i by omega];exact B9
         rw [e5,cS,CQ,hk,RY,Rj];rw [CQ,hk] at AF;rw [AF];rfl
   · right;have Bl:j<ks.length:=by omega
     have er:H5 r=some (.tup (ks.map V.ref)):=kp r _ e4 (f8 e4 (s4 dn _ d3) (by intro z;cases z));refine ⟨Bl,⟨_,.ref ks[j],SqT.of er,by rw [Rg,Q1 Bl];rfl⟩,?_⟩;rintro x H6 ⟨rfl,_⟩;have Eo:j<(cS S).length:=by omega
     have GS:(cS S).drop j=(cS S)[j]::(cS S).drop (j+1):=Sa Eo;have OM:((cS S).drop j).reverse.map V.str=((cS S).drop (j+1)).reverse.map V.str++[.str (cS S)[j]]:=by rw [GS,RY,Rj];rfl
     rw [OM] at ed;refine ⟨_,rfl,.inl ⟨rfl,_,SqL.of ed⟩,dn,_,.str (cS S)[j],rfl,rfl,ed,by simp,?_⟩;refine ⟨((cS S).take j).map V.str,?_,?_,?_⟩
     · rw [al Kf];exact eD
     · exact aF (by rw [Q0,RP];omega)
     · refine ⟨Bl,fun b o e hb=>?_,?_,?_⟩
       · rw [al (aB e hD),al hb];exact kp b o e hb
       · rw [al Kf.symm,ac,Wc]
       · rw [ac,SS,Q1 Eo,Rj];rfl
 · rintro σ H3 ⟨kn,kd,rfl,s3,e3,d3,a3⟩;rw [Q0,hlen,UK,Su,uy] at d3;exact ⟨_,rfl,dn,_,0,.str t.show,rfl,rfl,SqL.of d3,at0,k H3 s3⟩
def fZ:Sp:=fun vs H Q _=>∃ n:Int,vs=[.int n]/\0<=n/\n<20/\∀ H',L2.Same H H'->Q (.str (aJ n)) H'
inductive gA (vs:List V) (H:Hp) (Q:VK) (_E:XK):Prop
 | mk (ca:Q7) (s k:Int) (Aj:vs=[.ref ca]) (Ak:H ca=some (.tup [.int s,.int k])) (An:0<=s) (Az:s<20) (AR:0<=k) (Bh:k<3) (Cg:∀ H',L2.Same H H'->Q (.str (jA s k)) H'):gA  vs H Q _E
def iA:Sp:=gA
theorem lq:aV P w K mg base CX0 2 T.g_shown_number.f T.g_shown_number.d ["number"] fZ:=by
 refine T.g_shown_number.F.ok dw (fun vs H Q E h=>?_) (fun Ag A outer s H vs Q E hr h=>?_)
 · obtain ⟨n,rfl,_⟩:=h;rfl
 obtain ⟨n,rfl,n0,n1,q⟩:=h
 refine ⟨_,(ad (ar (i:=1) dw.nd rfl (Rp rfl) (bm ab))
  (ad (ar (i:=2) dw.nd rfl (Rp rfl) (pv 0))
  (ad (gv RM (aD zJ (pv 2) (cw (v:=.int (1000000000)) rfl T.c_PIECE.choose_spec ⟨_,rfl⟩) (aE _)) uH)
  (ad (aT (bi Rk RB RA aN (pv 1) (aa (bf eW rfl T.n_str S8 (aa (pv 2) ab)) ab)))
  (ae (ax (r8 rfl rfl T.n_reversed aA (pv 1)))))))),?_⟩
 try dsimp only [Ar,Ac]
 refine ⟨aj (by show 0<=1000000;decide),fun pl AX=>⟨_,rfl,?_⟩⟩;have s1:L2.Same H (upd H pl (.lst [])):=ai AX _;have e1:(upd H pl (.lst [])) pl=some (.lst []):=ac;generalize (upd H pl (.lst []))=H1 at s1 e1 ⊢;refine ⟨fun m σ H2=>An2 (σ=[some (.int n),some (.ref pl),some (.int n),none]) (H1=H2),⟨0,rfl,rfl⟩,?_⟩;rintro m σ H2 ⟨rfl,rfl⟩;refine ⟨_,rfl,_,_,rfl,rfl,_,rfl,?_⟩;refine cA (fun c=>absurd (of_decide_eq_true c) (by omega)) (fun _=>?_);refine ⟨_,rfl,.inl ⟨rfl,_,SqL.of e1⟩,_,rfl,n,rfl,cY n0 n1,pl,_,_,rfl,rfl,e1,aF (by show 0<=1000000;decide),?_⟩;have hl:=ck n0 n1;refine ⟨QZ "",rfl,_,rfl,pl,[aJ n],rfl,SqL.of ac,?_,?_⟩
 · show (aJ n).length+0+1 * 0<=16777216;omega
 · exact q _ (aC s1 AX)
theorem nv:aV P w K mg base CX0 3 T.g_shown_call.f T.g_shown_call.d ["call"] iA:=by
 refine T.g_shown_call.F.ok nz (fun vs H Q E h=>?_) (fun Ag A outer s H vs Q E hr h=>?_)
 · obtain ⟨ca,s,k,rfl,_⟩:=h;rfl
 obtain ⟨ca,s,k,rfl,GZ,s0,s1,k0,k1,q⟩:=h;refine ⟨_,(ae (ax (bi RW SO SN eC aA (aa (bG (N:=[QZ "number"]) (js:=[none]) (g:=(aG 0)) (tt:=bn) (te:=(ip fZ [] E0 (b8 (bV 0) eR))) rfl (cg rfl (by decide +kernel) (by decide +kernel) rfl rfl rfl) (db (pv 0)) (fun _ _ _ _ _ _=>(aq (i:=0) aaO rfl (Rp rfl))) (aX rfl) (fun _ _ _ _ _ _=>bN) (fun _ _ _ _ _ _=>(pcF T.g_shown_number (lq T) hr (aa (pv 0) ab)))) ab)))),?_⟩
 try dsimp only [Ar,Ac]
 refine ⟨rfl,_,rfl,ca,rfl,⟨_,SqT.of GZ⟩,cm [s,k] (fun i=>V.str (aJ i)) (SqT.of GZ) rfl (by show 2<=1000000;decide) (fun i x z H2 R W' hx hz s2 hR=>?_) (fun D H1 hD sD e1=>?_)⟩
 · have Ir:x=.int z/\0<=z/\z<20:=by
    match i,hx,hz with
    | 0,hx,hz =>
      simp at hx hz;subst hx;subst hz;exact ⟨rfl,s0,s1⟩
    | 1,hx,hz =>
      simp at hx hz;subst hx;subst hz;exact ⟨rfl,k0,by omega⟩
    | i+2,hx,hz=>simp at hx
   obtain ⟨rfl,z0,z1⟩:=Ir;exact ⟨_,rfl,z,rfl,z0,z1,fun H3 s3=>hR H3 s3⟩
 have l1:=ck s0 s1;have l2:=ck k0 (by omega);refine ⟨dot,D,[aJ s,aJ k],rfl,rfl,SqL.of e1,?_,?_⟩
 · show (aJ s).length+((aJ k).length+0)+2 * 1<=16777216;omega
 · rw [wN];exact q _ sD
inductive eE (vs:List V) (H:Hp) (Q:VK) (_E:XK):Prop
 | mk (a:Q7) (t:Th) (ks:List (Ru×Int)) (Aj:vs=[.ref a]) (Ak:At H t a) (An:t.FitP ks) (Az:ce ks) (AR:t.size<=1000) (Bh:t.tall<=1000) (Cg:∀ H',L2.Same H H'->Q (.str (t.fill bt).show) H'):eE  vs H Q _E
def j0:Sp:=eE
theorem ff:aV P w K mg base CX0 5 T.g_shown_pattern.f T.g_shown_pattern.d ["pattern"] j0:=by
 refine T.g_shown_pattern.F.ok eX (fun vs H Q E h=>?_) (fun Ag A outer s H vs Q E hr h=>?_)
 · obtain ⟨a,t,ks,rfl,_⟩:=h;rfl
 obtain ⟨a,t,ks,rfl,hA,hF,g,hsz,AI,q⟩:=h
 refine ⟨_,(ad (ar (i:=1) eX.nd rfl (Rp rfl) (bf (mG (x8 hr) rfl) rfl T.n_dict PyProof.Rows.boot_dict (aa (bG (N:=[QZ "place",QZ "call"]) (js:=[none,none]) (g:=(uT K 2 (iK (aG 0) (iK (aG 1) vq)))) (tt:=bn) (te:=(tT (b8 (bV 1) (b8 (tT (b8 (ip iA [] E0 (b8 (bV 1) eR)) eR)) eR)))) rfl (cg rfl (by decide +kernel) (by decide +kernel) rfl rfl rfl) (df (pcF T.g_calls_in (rA T) hr (aa (pv 0) ab))) (fun _ _ _ _ _ _=>(cQ rfl (aL (aq (i:=0) zK rfl (Rp rfl)) (aL (aq (i:=1) zK rfl (Rp rfl)) bX)))) (oM (ej cq (aX rfl) (ej cq (aX rfl) pB))) (fun _ _ _ _ _ _=>bN) (fun _ _ _ _ _ _=>(bg (aa (pv 1) (aa (bg (aa (pcF T.g_shown_call (nv T) hr (aa (pv 1) ab)) ab)) ab))))) ab)))
  (ae (ax (pcF T.g_shown_tree (m7 T) hr (aa (pcF T.g_filled (uO T) hr (aa (pv 0) (aa (pv 1) ab))) ab))))),?_⟩
 try dsimp only [Ar,Ac]
 have hR:=hF.inR;refine ⟨_,rfl,a,t,rfl,hA,by omega,by omega,fun r as H1 s1 er CY=>?_⟩;have Bi:(callsOf (t.pl [])).length=as.length:=Rx CY;have ON:=kR (t.pl []);rw [Th.pl_len] at ON;refine ⟨r,rfl,⟨_,SqL.of er⟩,lx (F:=DcAt) (xs:=as.map V.ref) (callsOf (t.pl [])) (fun H1 H2 z p kt h=>h.mono kt) (by rw [Q0];exact Bi) (by rw [Q0];omega) (fun i Hx sx hi=>⟨_,_,SqL.of (sx _ _ er),Q1 hi⟩) (fun Hx sx=>⟨_,SqL.of (sx _ _ er),Q8 _⟩) (fun i Hx x Hy sx hi hy=>⟨hy.1,hy.2 _ (SqL.of (sx _ _ er))⟩) (fun i x z Hx R W' hx E8 sx OO=>?_) (fun D H2 bs hD s2 eD BM=>?_)⟩
 · refine hid fun ZZ kZ=>?_;obtain ⟨pa,rfl,GG⟩:=ba hx;obtain ⟨c,hc,pl,ca,EU,QF,GZ⟩:=P2.get' CY GG;refine kZ ?_;rw [E8] at hc;cases hc;have Iu:=rF (Rb E8);have BD:(Th.call z.2.1 z.2.2).InR:=qw t hR _ (by rw [<- pZ [] t];exact List.mem_map_of_mem (f:=(·.2)) Iu);rw [Th.InR] at BD;refine ⟨pa,_,rfl,SqT.of (sx _ _ EU),rfl,_,_,rfl,_,_,rfl,rfl,?_⟩;refine ⟨_,rfl,_,rfl,ca,z.2.1,z.2.2,rfl,sx _ _ GZ,BD.1,BD.2.1,BD.2.2.1,BD.2.2.2,fun H3 s3=>?_⟩;refine ⟨aj (by show 1<=1000000;decide),fun va Iv=>⟨aj (by show 2<=1000000;decide),fun p4 Mi=>?_⟩⟩;have s4:=ai Iv (.tup [.str (jA z.2.1 z.2.2)]);have s5:=ai Mi (.tup [.ref ca,.ref va]);exact OO _ p4 (s3.trans (s4.trans s5)) ⟨ca,va,ac,s5 _ _ (s4 _ _ (s3 _ _ (sx _ _ GZ))),s5 _ _ ac⟩
 refine hid fun ZZ kZ=>?_;obtain ⟨prs,Kh,AX,Cn,DV⟩:=wt BM;refine kZ ?_;refine ⟨D,bs,prs,rfl,eD,Kh,by omega,fun ta Co=>?_⟩;have s3:L2.Same H2 (upd H2 ta (.dT (cN [] prs))):=ai Co _;have e3:(upd H2 ta (.dT (cN [] prs))) ta=some (.dT (cN [] prs)):=ac;generalize (upd H2 ta (.dT (cN [] prs)))=H3 at s3 e3 ⊢;have Iw:=s1.trans (s2.trans s3);obtain ⟨f1,f2⟩:=kJ (R:=fun k v=>∃ c∈callsOf (t.pl []),k=[To c.2.1,To c.2.2]/\∃ va,v=.ref va/\H2 va=some (.tup [.str (jA c.2.1 c.2.2)])) prs [] (fun k v hv=>by rw [vz] at hv;cases hv) Cn;refine ⟨_,rfl,_,rfl,a,ta,t,bt,cN [] prs,rfl,hA.mono (Same.kt Iw),by omega,.inl e3,fun sn kn hm=>?_,fun r2 H4 s4 Ep=>?_⟩
 · refine hid fun ZZ kZ=>?_;obtain ⟨c,hc,EO⟩:=xv hm;have BD:=qw t hR _ hm;rw [Th.InR] at BD;obtain ⟨p,hp,Mj⟩:=DV c hc;rw [EO] at Mj;obtain ⟨v,hv⟩:=f2 [To sn,To kn] (.inr ⟨p,hp,Mj⟩);obtain ⟨c2,CW,A9,va,rfl,Iv⟩:=f1 _ v hv;obtain ⟨i1,i2⟩:=xk A9;refine kZ ?_;rw [<- i1,<- i2] at Iv;refine ⟨va,hv,?_,?_⟩
   · rw [bt,At];exact ⟨(tX BD.1 BD.2.1 BD.2.2.1 BD.2.2.2).1,[],s3 _ _ Iv,.nil⟩
   · rw [bt,Th.size,ay];decide
 · have A7:=rS hR;exact ⟨r2,_,8,rfl,Ep,by decide,sV g hF,by omega,fun H5 s5=>q _ (Iw.trans (s4.trans s5))⟩
theorem kb {ks:List (Ru×Int)} (g:ce ks) {k:Ru×Int} (h:k∈ks):(aY k).length<=20:=by
 have h1:=(g.low k h).2;have h2:=g.num k h;have h3:=ck h2.1 (by omega);unfold aY;rw [Rh,Rh];show k.1.length+1+(aJ k.2).length<=20;omega
theorem mF {w:Ru} {ks:List (Ru×Int)} (g:ce ks) (hw:w.length<=10):(aP w ks).length<=1000:=by
 have h1:=g.le
 have all:∀ x∈w::ks.map aY,x.length<=20:=fun x hx=>by
  rcases Rq.mp hx with rfl | hx
  · omega
  · obtain ⟨k,hk,rfl⟩:=Sl.mp hx;exact kb g hk
 have h2:=jO all
 have h3:(R8 blank (w::ks.map aY)).length<=((w::ks.map aY).map (·.length)).sum+(w::ks.map aY).length * blank.length:=by
  have e:R8 blank (w::ks.map aY)=UH blank (w::ks.map aY):=Uk _ _;rw [e];exact Wm _ _
 have h4:(w::ks.map aY).length=ks.length+1:=by rw [Q3,Q0]
 have h5:blank.length=1:=by decide +kernel
 unfold aP;rw [h4] at h2 h3;rw [h5] at h3;omega
inductive fW (vs:List V) (H:Hp) (Q:VK) (_E:XK):Prop
 | mk (w:Ru) (kr:Q7) (Ap:List Q7) (ks:List (Ru×Int)) (Aj:vs=[.str w,.ref kr]) (Ak:H kr=some (.tup (Ap.map V.ref))) (An:KsAt H ks Ap) (Az:ce ks) (AR:w.length<=10) (Bh:∀ H',L2.Same H H'->Q (.str (aP w ks)) H'):fW  vs H Q _E
def lU:Sp:=fW
inductive gu (vs:List V) (H:Hp) (Q:VK) (_E:XK):Prop
 | mk (st:Int) (nm:Ru) (pa:Q7) (t:Th) (ks:List (Ru×Int)) (Aj:vs=[.int st,.str nm,.ref pa]) (Ak:0<=st) (An:st<20) (Az:nm.length<=8) (AR:At H t pa) (Bh:t.FitP ks) (Cg:ce ks) (DG:t.tall<=4) (G0:∀ H',L2.Same H H'->Q (.str (d9 st nm t)) H'):gu  vs H Q _E
def nq:Sp:=gu
theorem oj {ks:List (Ru×Int)} (g:ce ks) {st:Int} {nm:Ru} {t:Th} (s0:0<=st) (s1:st<20) (hn:nm.length<=8) (hf:t.FitP ks) (ht:t.tall<=4):(d9 st nm t).length<=4000:=by
 have h1:=(fz g hf ht).1;have h2:=ck s0 s1;unfold d9;rw [Rh,Rh,Rh,Rh,Rh];show 5+(aJ st).length+1+nm.length+1+(t.fill bt).show.length<=4000;omega
structure kj (ins outs:List (Ru×Int)) (head:Th) (rows:List (List Th)):Prop where
 gi:ce ins
 go:ce outs
 few:rows.length<=20
 row:∀ row∈rows,row.length=ins.length/\∀ t∈row,t.FitP outs/\t.tall<=4
 hd:head.FitP outs/\head.tall<=4
theorem wX {ins outs:List (Ru×Int)} {head:Th} {rows:List (List Th)} (ok:kj ins outs head rows) {st:Int} (s0:0<=st) (s1:st<20) {row:List Th} (hr:row∈rows):∀ x∈eI ins st row,x.length<=4000:=fun x hx=>by
 unfold eI at hx;obtain ⟨z,hz,rfl⟩:=Sl.mp hx;obtain ⟨h1,h2⟩:=V0 (show (z.1,z.2)∈ins.zip row from hz);have h3:=(ok.row row hr).2 _ h2;exact oj ok.go s0 s1 (ok.gi.low _ h1).2 h3.1 h3.2
theorem gY {ins outs:List (Ru×Int)} {head:Th} {rows:List (List Th)} (ok:kj ins outs head rows):∀ i,i<=rows.length->(b7 ins rows i).length<=6 * i/\∀ x∈b7 ins rows i,x.length<=4000
 | 0,_=>by rw [gh];exact ⟨RJ _,fun x hx=>by cases hx⟩
 | i+1,hi=>by
   obtain ⟨row,Ae⟩:∃ row,rows[i]?=some row:=⟨_,Q1 (by omega)⟩;have hm:=Rb Ae;obtain ⟨h1,h2⟩:=gY ok i (by omega);have h6:=ok.gi.le;have Iy:=ok.few;rw [gq Ae];refine ⟨?_,fun x hx=>?_⟩
   · rw [Ra]
     have:(eI ins ((i:Nat):Int) row).length<=6:=by
      unfold eI;rw [Q0,UY];omega
     omega
   · rcases RE.mp hx with hx | hx
     · exact h2 x hx
     · exact wX ok (by omega) (by omega) hm x hx
theorem jP {ks:List (Ru×Int)} (g:ce ks) {t:Th} (hf:t.FitP ks) (ht:t.tall<=4):(di t).length<=4000:=by
 have h1:=(fz g hf ht).1;unfold di;rw [Rh];show 5+(t.fill bt).show.length<=4000;omega
theorem j9 {ins outs:List (Ru×Int)} {head:Th} {rows:List (List Th)} (ok:kj ins outs head rows):(cH ins outs head rows).length<=123/\∀ x∈cH ins outs head rows,x.length<=4000:=by
 obtain ⟨h1,h2⟩:=gY ok rows.length (Q8 _);have Iy:=ok.few;unfold cH;refine ⟨by rw [Ra];show 3+_<=123;omega,fun x hx=>?_⟩;rcases RE.mp hx with hx | hx
 · simp only [Rq,SX,or_false] at hx;rcases hx with rfl | rfl | rfl
   · have:=mF (w:=QZ "in") ok.gi (by decide +kernel);omega
   · have:=mF (w:=QZ "out") ok.go (by decide +kernel);omega
   · exact jP ok.go ok.hd.1 ok.hd.2
 · exact h2 x hx
theorem ox {l:List Ru} (h1:l.length<=123) (h2:∀ x∈l,x.length<=4000):(l.map (·.length)).sum+l.length * eS.length<=16777216:=by
 have:=jO h2;have h3:eS.length=1:=by decide +kernel
 have h4:4000 * l.length<=4000 * 123:=Sv _ h1;rw [h3];omega
set_option maxHeartbeats 2000000 in
theorem gC:aV P w K mg base CX0 2 T.g_shown_kinds.f T.g_shown_kinds.d ["word","kinds"] lU:=by
 refine T.g_shown_kinds.F.ok lK (fun vs H Q E h=>?_) (fun Ag A outer s H vs Q E hr h=>?_)
 · obtain ⟨w,kr,Ap,ks,rfl,_⟩:=h;rfl
 obtain ⟨w,kr,Ap,ks,rfl,ek,AE,g,hw,q⟩:=h;refine ⟨_,(ae (ax (bi RW SO SN eC aA (aa (am zm (bm (aa (pv 0) ab)) (bG (N:=[QZ "name",QZ "many"]) (js:=[none,none]) (g:=(uT K 2 (iK (aG 0) (iK (aG 1) vq)))) (tt:=bn) (te:=(tF U1 [(zX (bV 0)),(tC (.str (QZ "/"))),(yk (bV 1))])) rfl (cg rfl (by decide +kernel) (by decide +kernel) rfl rfl rfl) (db (pv 1)) (fun _ _ _ _ _ _=>(cQ rfl (aL (aq (i:=0) zL rfl (Rp rfl)) (aL (aq (i:=1) zL rfl (Rp rfl)) bX)))) (oM (ej cq (aX rfl) (ej cq (aX rfl) pB))) (fun _ _ _ _ _ _=>bN) (fun _ _ _ _ _ _=>(lr (.cons (jQ (pv 0)) (.cons aA (.cons (uj (pv 1)) .nil))))))) ab)))),?_⟩
 try dsimp only [Ar,Ac]
 have AN:ks.length=Ap.length:=Rx AE;have Iz:=g.le;refine ⟨rfl,_,rfl,aj (by show 1<=1000000;decide),fun l1 AZ=>?_⟩;have s1:L2.Same H (upd H l1 (.lst [.str w])):=ai AZ _;have e1:(upd H l1 (.lst [.str w])) l1=some (.lst [.str w]):=ac;generalize (upd H l1 (.lst [.str w]))=H1 at s1 e1 ⊢;have Ml:=s1 _ _ ek;refine ⟨_,rfl,kr,rfl,⟨_,SqT.of Ml⟩,cm ks (fun k=>V.str (aY k)) (SqT.of Ml) (by rw [Q0];exact AN) (by rw [Q0];omega) (fun i x z H2 R W' hx hz s2 hR=>?_) (fun D H2 hD sD eD=>?_)⟩
 · obtain ⟨ka,rfl,AQ⟩:=ba hx;obtain ⟨z',BE,ez⟩:=P2.get' AE AQ;rw [hz] at BE;cases BE;have Ir:=Rb hz;have h1:=(g.low z Ir).2;have h2:=g.num z Ir;have h3:=ck h2.1 (by omega);refine ⟨ka,_,rfl,SqT.of (s2 _ _ (s1 _ _ ez)),rfl,_,_,rfl,_,_,rfl,rfl,?_⟩;refine ⟨_,rfl,z.1,rfl,aj (by omega),z.1,rfl,?_⟩;rw [empty_app];refine ⟨aj (by omega),rm,rfl,aj (by rw [Rh];show z.1.length+1<=1000000;omega),_,rfl,z.2,rfl,cY h2.1 (by omega),aJ z.2,rfl,aj (by rw [Rh,Rh];show z.1.length+1+(aJ z.2).length<=1000000;omega),aj (by rw [Rh,Rh];show z.1.length+1+(aJ z.2).length<=1000000;omega),hR H2 (.refl _)⟩
 refine ⟨l1,D,_,_,rfl,rfl,sD _ _ e1,eD,aj (by rw [Q0];show 1+ks.length<=1000000;omega),fun cl Bi=>?_⟩
 have all:∀ x∈w::ks.map aY,x.length<=20:=fun x hx=>by
  rcases Rq.mp hx with rfl | hx
  · omega
  · obtain ⟨k,hk,rfl⟩:=Sl.mp hx;exact kb g hk
 have h2:=jO all;have h4:(w::ks.map aY).length=ks.length+1:=by rw [Q3,Q0]
 refine ⟨blank,cl,w::ks.map aY,rfl,rfl,SqL.of ?_,?_,q _ (s1.trans (sD.trans (ai Bi _)))⟩
 · rw [ac,Rr,Tr];rfl
 · have h5:blank.length=1:=by decide +kernel
   rw [h4] at h2 ⊢;rw [h5];omega
set_option maxHeartbeats 2000000 in
theorem nb:aV P w K mg base CX0 6 T.g_shown_rule.f T.g_shown_rule.d ["state","name","pattern"] nq:=by
 refine T.g_shown_rule.F.ok iD (fun vs H Q E h=>?_) (fun Ag A outer s H vs Q E hr h=>?_)
 · obtain ⟨st,nm,pa,t,ks,rfl,_⟩:=h;rfl
 obtain ⟨st,nm,pa,t,ks,rfl,s0,s1,hn,hA,hF,g,ht,q⟩:=h
 refine ⟨_,(ad (ar (i:=3) iD.nd rfl (Rp rfl) (pcF T.g_shown_pattern (ff T) hr (aa (pv 2) ab)))
  (ae (ax (lr (.cons aA (.cons (uj (pv 0)) (.cons aA (.cons (jQ (pv 1)) (.cons aA (.cons (jQ (pv 3)) .nil)))))))))),?_⟩
 try dsimp only [Ar,Ac]
 obtain ⟨hl,hz⟩:=fz g hF ht;have h2:=ck s0 s1;refine ⟨_,rfl,pa,t,ks,rfl,hA,hF,g,by omega,by omega,fun H1 OP=>?_⟩;refine ⟨QZ "rule ",rfl,aj (by rw [empty_app];decide +kernel),?_⟩;rw [empty_app];refine ⟨_,rfl,st,rfl,cY s0 s1,aJ st,rfl,aj (by rw [Rh];show 5+(aJ st).length<=1000000;omega),?_⟩;refine ⟨blank,rfl,aj (by rw [Rh,Rh];show 5+(aJ st).length+1<=1000000;omega),?_⟩;refine ⟨_,rfl,nm,rfl,aj (by omega),nm,rfl,aj (by rw [Rh,Rh,Rh];show 5+(aJ st).length+1+nm.length<=1000000;omega),?_⟩;refine ⟨blank,rfl,aj (by rw [Rh,Rh,Rh,Rh];show 5+(aJ st).length+1+nm.length+1<=1000000;omega),?_⟩;have Ai:=oj g s0 s1 hn hF ht;unfold d9 at Ai;exact ⟨_,rfl,(t.fill bt).show,rfl,aj (by omega),(t.fill bt).show,rfl,aj (by omega),aj (by omega),q _ OP⟩
inductive gN (vs:List V) (H:Hp) (Q:VK) (_E:XK):Prop
 | mk (b:Q7) (ins outs:List (Ru×Int)) (head:Th) (rows:List (List Th)) (Aj:vs=[.ref b]) (Ak:Bk H ins outs head rows b) (An:kj ins outs head rows) (Az:∀ H',L2.Same H H'->Q (.str (R8 eS (cH ins outs head rows))) H'):gN  vs H Q _E
def ng:Sp:=gN
set_option maxHeartbeats 4000000 in
theorem nw:aV P w K mg base CX0 8 T.g_shown_book.f T.g_shown_book.d ["book"] ng:=by
 refine T.g_shown_book.F.ok bQ (fun vs H Q E h=>?_) (fun Ag A outer s H vs Q E hr h=>?_)
 · obtain ⟨b,ins,outs,head,rows,rfl,_⟩:=h;rfl
 obtain ⟨b,ins,outs,head,rows,rfl,hb,ok,q⟩:=h
 refine ⟨_,(ad (ar (i:=1) bQ.nd rfl (Rp rfl) (pcF T.g_shown_pattern (ff T) hr (aa (pcF T.g_head_of (rW T) hr (aa (pv 0) ab)) ab)))
  (ad (ar (i:=2) bQ.nd rfl (Rp rfl) (bm (aa (pcF T.g_shown_kinds (gC T) hr (aa aA (aa (pcF T.g_ins_of (nZ T) hr (aa (pv 0) ab)) ab))) (aa (pcF T.g_shown_kinds (gC T) hr (aa aA (aa (pcF T.g_outs_of (sd T) hr (aa (pv 0) ab)) ab))) (aa (lr (.cons aA (.cons (jQ (pv 1)) .nil))) ab)))))
  (ad (br RM rfl (ur rfl T.n_enumerate (pcF T.g_rules_of (qm T) hr (aa (pv 0) ab))) (cQ rfl (aL (aq (i:=3) bQ.nd rfl (Rp rfl)) (aL (aq (i:=4) bQ.nd rfl (Rp rfl)) bX))) (ae (br RM rfl (vZ rfl T.n_zip (aa (pcF T.g_ins_of (nZ T) hr (aa (pv 0) ab)) (aa (pv 4) ab))) (cQ rfl (aL (aq (i:=5) bQ.nd rfl (Rp rfl)) (aL (aq (i:=6) bQ.nd rfl (Rp rfl)) bX))) (ae (aT (bi Rk RB RA aN (pv 2) (aa (pcF T.g_shown_rule (nb T) hr (aa (pv 3) (aa (az aI (pv 5) ag (fun _ _=>rfl)) (aa (pv 6) ab)))) ab)))))))
  (ae (ax (bi RW SO SN eC aA (aa (pv 2) ab))))))),?_⟩
 try dsimp only [Ar,Ac]
 refine hid fun ZZ kZ=>?_;obtain ⟨ia,oa,ha,ra,Aq,Al,AG,bk⟩:=hb;obtain ⟨El,Ki⟩:=fz ok.go ok.hd.1 ok.hd.2;refine kZ ?_;refine ⟨_,rfl,b,_,_,_,_,rfl,bk.bk,ha,head,outs,rfl,bk.hd,ok.hd.1,ok.go,by omega,by have:=ok.hd.2;omega,fun H1 s1=>?_⟩;have IC:=bk.mono (Same.kt s1);refine ⟨_,rfl,b,_,_,_,_,rfl,IC.bk,QZ "in",ia,Aq,ins,rfl,IC.inE,IC.inK,ok.gi,by decide +kernel,fun H2 s2=>?_⟩;have ID:=IC.mono (Same.kt s2);refine ⟨_,rfl,b,_,_,_,_,rfl,ID.bk,QZ "out",oa,Al,outs,rfl,ID.outE,ID.outK,ok.go,by decide +kernel,fun H3 s3=>?_⟩;have CA:=ID.mono (Same.kt s3);have Iw:=s1.trans (s2.trans s3);have Kj:=jP ok.go ok.hd.1 ok.hd.2;unfold di at Kj;refine ⟨QZ "head ",rfl,aj (by rw [empty_app];decide +kernel),?_⟩;rw [empty_app];refine ⟨_,rfl,(head.fill bt).show,rfl,aj (by omega),(head.fill bt).show,rfl,aj (by omega),aj (by omega),aj (by show 3<=1000000;decide),fun rl BQ=>?_⟩;have G1:H3 rl=none:=BQ;have s4:L2.Same H3 (upd H3 rl (.lst [.str (aP (QZ "in") ins),.str (aP (QZ "out") outs),.str (QZ "head "++(head.fill bt).show)])):=ai BQ _
 have e4:(upd H3 rl (.lst [.str (aP (QZ "in") ins),.str (aP (QZ "out") outs),.str (QZ "head "++(head.fill bt).show)])) rl=some (.lst (([aP (QZ "in") ins,aP (QZ "out") outs,di head]++b7 ins rows 0).map V.str)):=by
  rw [ac,gh];rfl
 generalize (upd H3 rl (.lst [.str (aP (QZ "in") ins),.str (aP (QZ "out") outs),.str (QZ "head "++(head.fill bt).show)]))=H4 at s4 e4 ⊢;have Kk:rows.length=AG.length:=Rx CA.rw;have OQ:ins.length=Aq.length:=Rx CA.inK;have JJ:=ok.gi.le;have Iy:=ok.few;have Kl:∀ H5,L2.Same H3 H5->SqT K H5 ra (AG.map V.ref):=fun H5 s5=>SqT.of (s5 _ _ CA.rl);refine ⟨_,rfl,b,_,_,_,_,rfl,s4 _ _ CA.bk,ra,rfl,⟨_,SqT.of (s4 _ _ CA.rl)⟩,?_⟩
 refine pp rows.length (fun i σ H5=>Ex4 fun c3 c4 c5 c6=>An3 (σ=[some (.ref b),some (.str (head.fill bt).show),some (.ref rl),c3,c4,c5,c6]) (L2.Same H3 H5) (H5 rl=some (.lst (([aP (QZ "in") ins,aP (QZ "out") outs,di head]++b7 ins rows i).map V.str))))
  ⟨none,none,none,none,rfl,s4,e4⟩ (fun i σ H5 hi ⟨_,_,_,_,_,s5,_⟩=>⟨_,_,Kl H5 s5,Q1 (by rw [Q0];omega)⟩) (fun σ H5 ⟨_,_,_,_,_,s5,_⟩=>⟨_,Kl H5 s5,by rw [Q0];omega⟩) ?_ ?_
 · rintro i x σ H5 H6 hi ⟨c3,c4,c5,c6,rfl,s5,e5⟩ ⟨p,y,hp,rfl,rfl,hy⟩;have EG:=hy _ (Kl H5 s5);refine hid fun ZZ kZ=>?_;obtain ⟨BA,rfl,Dr⟩:=ba EG;obtain ⟨row,Ae,Af,CS,BR⟩:=P2.get' CA.rw Dr;have E9:=Rb Ae;obtain ⟨G2,Ds⟩:=ok.row row E9;refine kZ ?_;have AI:=BR.length;have s6:L2.Same H5 (upd H5 p (.tup [.int (i:Nat),.ref BA])):=ai hp _;have e6:(upd H5 p (.tup [.int (i:Nat),.ref BA])) p=some (.tup [.int (i:Nat),.ref BA]):=ac;generalize (upd H5 p (.tup [.int (i:Nat),.ref BA]))=H6 at s6 e6 ⊢;have Er:=s5.trans s6;refine ⟨p,_,rfl,SqT.of e6,rfl,_,_,rfl,_,_,rfl,rfl,?_⟩;refine ⟨_,rfl,b,_,_,_,_,rfl,Er _ _ CA.bk,_,rfl,ia,BA,rfl,⟨_,SqT.of (Er _ _ CA.inE)⟩,⟨_,SqT.of (Er _ _ CS)⟩,?_⟩
   have OR:(eI ins ((i:Nat):Int) row).length=ins.length:=by
    unfold eI;rw [Q0,UY];omega
   obtain ⟨r1,r2⟩:=gY ok i (by omega)
   refine pp ins.length (fun j σ H7=>Ex2 fun c5 c6=>An3 (σ=[some (.ref b),some (.str (head.fill bt).show),some (.ref rl),some (.int (i:Nat)),some (.ref BA),c5,c6]) (L2.Same H3 H7) (H7 rl=some (.lst (([aP (QZ "in") ins,aP (QZ "out") outs,di head]++b7 ins rows i++(eI ins ((i:Nat):Int) row).take j).map V.str))))
    ⟨c5,c6,rfl,Er,by rw [SG,RC];exact s6 _ _ e5⟩ (fun j σ H7 hj ⟨_,_,_,s7,_⟩=>⟨_,_,_,_,SqT.of (s7 _ _ CA.inE),SqT.of (s7 _ _ CS),Q1 (by rw [Q0];omega),Q1 (by rw [Q0];omega)⟩) (fun σ H7 ⟨_,_,_,s7,_⟩=>⟨_,_,SqT.of (s7 _ _ CA.inE),SqT.of (s7 _ _ CS),.inl (by rw [Q0];omega)⟩) ?_ ?_
   · rintro j x σ H7 H8 hj ⟨c5,c6,rfl,s7,e7⟩ ⟨p2,x1,y1,DV,rfl,rfl,FI,Km⟩;refine hid fun ZZ kZ=>?_;obtain ⟨ka,rfl,AQ⟩:=ba (FI _ (SqT.of (s7 _ _ CA.inE)));obtain ⟨ta,rfl,Co⟩:=ba (Km _ (SqT.of (s7 _ _ CS)));obtain ⟨k,hk,ek⟩:=P2.get' CA.inK AQ;obtain ⟨t,ht,Au⟩:=BR.get Co;refine kZ ?_;have Aw:=Ds t (Rb ht);have CB:=Rb hk;have s8:L2.Same H7 (upd H7 p2 (.tup [.ref ka,.ref ta])):=ai DV _;have e8:(upd H7 p2 (.tup [.ref ka,.ref ta])) p2=some (.tup [.ref ka,.ref ta]):=ac;generalize (upd H7 p2 (.tup [.ref ka,.ref ta]))=H8 at s8 e8 ⊢;have Kn:=s7.trans s8;refine ⟨p2,_,rfl,SqT.of e8,rfl,_,_,rfl,_,_,rfl,rfl,?_⟩;refine ⟨_,rfl,.inl ⟨rfl,_,SqL.of (s8 _ _ e7)⟩,_,rfl,_,rfl,ka,_,0,.str k.1,rfl,rfl,SqT.of (Kn _ _ ek),at0,_,rfl,((i:Nat):Int),k.1,ta,t,outs,rfl,by omega,by omega,(ok.gi.low k CB).2,Au.mono (Same.kt Kn),Aw.1,ok.go,Aw.2,fun H9 s9=>?_⟩;have e9:=s9 _ _ (s8 _ _ e7);refine ⟨rl,_,_,rfl,rfl,e9,aF (by rw [Q0,Ra,Ra,RP];show 3+_+_<=1000000;omega),?_⟩;refine ⟨_,_,rfl,aC (Kn.trans s9) G1,?_⟩
     have hz:(eI ins ((i:Nat):Int) row)[j]?=some (d9 ((i:Nat):Int) k.1 t):=by
      unfold eI;rw [Rg,T5.mpr (show ins[j]?=some (k,t).1/\row[j]?=some (k,t).2 from ⟨hk,ht⟩)];rfl
     rw [ac,take_snoc hz,<- RF,Rj (l₂:=[d9 ((i:Nat):Int) k.1 t])];rfl
   · rintro σ H7 ⟨c5,c6,rfl,s7,e7⟩;refine ⟨_,_,_,_,rfl,s7,?_⟩;rw [R0 (by omega)] at e7;rw [gq Ae,<- RF];exact e7
 · rintro σ H5 ⟨c3,c4,c5,c6,rfl,s5,e5⟩;obtain ⟨b1,b2⟩:=j9 ok;exact ⟨rfl,_,rfl,eS,rl,cH ins outs head rows,rfl,rfl,SqL.of e5,ox b1 b2,q _ (Iw.trans s5)⟩
def mf (k c:Int):List (Ru×V):=[("met_knots",.int k),("met_calls",.int c)]
theorem mkc:¬ (("met_knots":Ru)="met_calls"):=by decide +kernel
theorem aaG:¬ (("met_calls":Ru)="met_knots"):=by decide +kernel
theorem ya:dk "met_knots" (.int 0) []=[(("met_knots":Ru),V.int 0)]:=rfl
theorem xx:dk "met_calls" (.int 0) [(("met_knots":Ru),V.int 0)]=mf 0 0:=by
 unfold mf;rw [dk,if_neg mkc,dk]
theorem x9 (k c z:Int):dk "met_knots" (.int z) (mf k c)=mf z c:=by
 unfold mf;rw [dk,if_pos rfl]
theorem xy (k c z:Int):dk "met_calls" (.int z) (mf k c)=mf k z:=by
 unfold mf;rw [dk,if_neg mkc,dk,if_pos rfl]
theorem aap (k c:Int):(mf k c).lookup ("met_knots":Ru)=some (V.int k):=by
 unfold mf;have hb:(("met_knots":Ru) == "met_knots")=true:=beq_iff_eq.mpr rfl;simp only [Uh,hb]
theorem zO (k c:Int):(mf k c).lookup ("met_calls":Ru)=some (V.int c):=by
 unfold mf;have hb:(("met_calls":Ru) == "met_calls")=true:=beq_iff_eq.mpr rfl;have hc:(("met_calls":Ru) == "met_knots")=false:=beq_eq_false_iff_ne.mpr aaG;simp only [Uh,hb,hc]
theorem aaB {m:Ru} (k c:Int) (h1:(m == ("met_knots":Ru))=false) (h2:(m == ("met_calls":Ru))=false):(mf k c).lookup m=none:=by
 unfold mf;simp only [Uh,h1,h2]
theorem vP (k c:Int):(mf k c).length<1000:=by show 2<1000;decide
inductive eU (C:Q7) (vs:List V) (H:Hp) (Q:VK) (_E:XK):Prop
 | mk (x dx:Q7) (Aj:vs=[.ref x]) (Ak:H x=some (.ins C dx [])) (An:∀ H':Hp,(∀ b o,b≠x->H b=some o->H' b=some o)->H' x=some (.ins C dx (mf 0 0))->Q .non H'):eU C vs H Q _E
def lm (C:Q7):Sp:=eU C
theorem lp:aV P w K mg base CX0 1 T.f_Measure_init T.d_Measure_init ["self"] (lm T.e_Measure):=by
 refine T.F_Measure_init.ok ld (fun vs H Q E h=>?_) (fun Ag A outer s H vs Q E hr h=>?_)
 · obtain ⟨x,dx,rfl,_⟩:=h;rfl
 obtain ⟨x,dx,rfl,ex,q⟩:=h
 refine ⟨_,(ad (wG (pv 0) ag rfl)
  (ae (wG (pv 0) ag rfl))),?_⟩
 try dsimp only [Ar,Ac]
 refine ⟨_,rfl,x,T.e_Measure,dx,_,rfl,ex,T.cl_Measure,T.na_Measure_met_knots,(by show 0<1000;decide),?_⟩;refine ⟨_,rfl,x,T.e_Measure,dx,_,rfl,ac,T.cl_Measure,T.na_Measure_met_calls,(by show 1<1000;decide),?_⟩;refine q _ (fun b o hb e=>?_) ?_
 · rw [al hb,al hb];exact e
 · rw [ac,ya,xx]
inductive ee (C:Q7) (vs:List V) (H:Hp) (Q:VK) (_E:XK):Prop
 | mk (x dx pa:Q7) (k c row:Int) (t:Th) (Aj:vs=[.ref x,.ref pa,.int row]) (Ak:H x=some (.ins C dx (mf k c))) (An:At H t pa) (Az:∀ (k' c':Int) (H':Hp),k'=(if t.isCall=true then k else k+1)->c'=(if t.isCall=true then c+1 else c)->(∀ b o,b≠x->H b=some o->H' b=some o)->H' x=some (.ins C dx (mf k' c'))->Q (.bl (decide (row<=20/\k'<=400/\c'<=200))) H'):ee C vs H Q _E
def j7 (C:Q7):Sp:=ee C
theorem jT:aV P w K mg base CX0 2 T.f_Measure_takes T.d_Measure_takes ["self","part","row"] (j7 T.e_Measure):=by
 refine T.F_Measure_takes.ok j3 (fun vs H Q E h=>?_) (fun Ag A outer s H vs Q E hr h=>?_)
 · obtain ⟨x,dx,pa,k,c,row,t,rfl,_⟩:=h;rfl
 obtain ⟨x,dx,pa,k,c,row,t,rfl,ex,hA,q⟩:=h
 refine ⟨_,(ad (aS (aQ (pcF T.g_is_call (dU T) hr (aa (pv 1) ab)) (fun _=>rfl)) (ae (n6 (pv 0) ag vJ)) (ae (n6 (pv 0) ag vJ)))
  (ae (ax (cV (cz iq (pv 2) (cw (v:=.int (20)) rfl T.c_MOST_ROWS.choose_spec ⟨_,rfl⟩) (aE _)) (cV (cz iq (wC (pv 0) rfl) (cw (v:=.int (400)) rfl T.c_MOST_KNOTS.choose_spec ⟨_,rfl⟩) (aE _)) (eK (cz iq (wC (pv 0) rfl) (cw (v:=.int (200)) rfl T.c_MOST_CALLS.choose_spec ⟨_,rfl⟩) (aE _)))))))),?_⟩
 try dsimp only [Ar,Ac]
 refine bS (fun Ab H'=>Ex2 fun (k' c':Int)=>An5 (k'=(if t.isCall=true then k else k+1)) (c'=(if t.isCall=true then c+1 else c)) ((∀ b o,b≠x->H b=some o->H' b=some o)) (H' x=some (.ins T.e_Measure dx (mf k' c'))) (Ab=[some (.ref x),some (.ref pa),some (.int row)])) (fun kk hk=>?_) ?_
 · refine bZ (fun b H'=>An2 (H=H') (b=t.isCall)) (fun k2 A9=>?_) (fun H' hb=>?_) (fun H' hb=>?_)
   · exact ⟨_,rfl,pa,t,rfl,hA,_,rfl,A9 _ _ ⟨rfl,rfl⟩⟩
   · obtain ⟨rfl,hb⟩:=hb;refine ⟨_,rfl,x,T.e_Measure,dx,_,_,rfl,ex,T.cl_Measure,T.na_Measure_met_calls,zO k c,c,1,rfl,rfl,dx,_,ex,vP k c,?_⟩;exact hk _ _ ⟨k,c+1,by rw [if_pos hb.symm],by rw [if_pos hb.symm],fun b o hb e=>by rw [al hb];exact e,by rw [ac,xy],rfl⟩
   · obtain ⟨rfl,hb⟩:=hb;have Bc:¬ t.isCall=true:=fun z=>by rw [<- hb] at z;cases z
     refine ⟨_,rfl,x,T.e_Measure,dx,_,_,rfl,ex,T.cl_Measure,T.na_Measure_met_knots,aap k c,k,1,rfl,rfl,dx,_,ex,vP k c,?_⟩;exact hk _ _ ⟨k+1,c,by rw [if_neg Bc],by rw [if_neg Bc],fun b o hb e=>by rw [al hb];exact e,by rw [ac,x9],rfl⟩
 rintro Ab H' ⟨k',c',B5,Bm,hs,HU,rfl⟩;have q':=q k' c' H' B5 Bm hs HU;clear q;refine ⟨_,rfl,_,_,rfl,rfl,?_⟩;refine ⟨_,rfl,?_⟩;by_cases c1:row<=20
 · rw [if_pos (decide_eq_true c1)];refine ⟨_,rfl,x,T.e_Measure,dx,_,_,rfl,HU,T.cl_Measure,T.na_Measure_met_knots,aap k' c',_,_,rfl,rfl,_,rfl,?_⟩;by_cases c2:k'<=400
   · rw [if_pos (decide_eq_true c2)];refine ⟨_,rfl,x,T.e_Measure,dx,_,_,rfl,HU,T.cl_Measure,T.na_Measure_met_calls,zO k' c',_,_,rfl,rfl,?_⟩;have e:decide (row<=20/\k'<=400/\c'<=200)=decide (c'<=200):=by simp [c1,c2]
     rw [e] at q';exact q'
   · rw [if_neg (fun z=>c2 (of_decide_eq_true z))];rw [decide_eq_false (fun z=>c2 z.2.1)] at q';exact q'
 · rw [if_neg (fun z=>c1 (of_decide_eq_true z))];rw [decide_eq_false (fun z=>c1 z.1)] at q';exact q'
mutual
/-- how many calls -/
def cnT:Th->Nat
 | .knot _ ks=>d8 ks
 | .call _ _=>1
def d8:List Th->Nat
 | []=>0
 | t::ts=>cnT t+d8 ts
end
def Small (t:Th):Prop:=t.tall<=20/\t.kn<=400/\cnT t<=200
instance (t:Th):Decidable (Small t):=inferInstanceAs (Decidable (_/\_/\_))
theorem zN (t:Th):t.kn=(if t.isCall=true then 0 else 1)+kns t.kids:=by
 cases t with
 | knot n ks=>rw [Th.kn,Th.isCall,Th.kids,if_neg Rt];omega
 | call s k=>rw [Th.kn,Th.isCall,Th.kids,if_pos rfl,kns]
theorem aaa (t:Th):cnT t=(if t.isCall=true then 1 else 0)+d8 t.kids:=by
 cases t with
 | knot n ks=>rw [cnT,Th.isCall,Th.kids,if_neg Rt];omega
 | call s k=>rw [cnT,Th.isCall,Th.kids,if_pos rfl,d8]
theorem mv (a b:List Th):kns (a++b)=kns a+kns b:=by
 induction a with
 | nil=>rw [RN,kns];omega
 | cons x a ih=>rw [Rz,kns,kns,ih];omega
theorem kG (a b:List Th):d8 (a++b)=d8 a+d8 b:=by
 induction a with
 | nil=>rw [RN,d8];omega
 | cons x a ih=>rw [Rz,d8,d8,ih];omega
theorem wV {ts:List Th} (h:ts≠[]):∃ t∈ts,bd ts=t.tall:=by
 induction ts with
 | nil=>exact absurd rfl h
 | cons x ts ih =>
   rw [bd];by_cases hz:ts=[]
   · subst hz;exact ⟨x,Rn ..,by rw [bd];omega⟩
   · obtain ⟨t,ht,e⟩:=ih hz;by_cases hc:bd ts<=x.tall
     · exact ⟨x,Rn ..,by omega⟩
     · exact ⟨t,Ri _ ht,by omega⟩
def RwAt (H:Hp) (e:Th×Int) (p:Q7):Prop:=∃ ta,H p=some (.tup [.ref ta,.int e.2])/\At H e.1 ta
theorem RwAt.mono {H H':Hp} (k:KT H H') {e:Th×Int} {p:Q7} (h:RwAt H e p):RwAt H' e p:=by
 obtain ⟨ta,h1,h2⟩:=h;exact ⟨ta,k _ _ h1,h2.mono k⟩
inductive jo (vs:List V) (H:Hp) (Q:VK) (_E:XK):Prop
 | mk (a:Q7) (t:Th) (Aj:vs=[.ref a]) (Ak:At H t a) (An:t.size<=100000) (Az:∀ H',L2.Same H H'->Q (.bl (decide (Small t))) H'):jo  vs H Q _E
def qI:Sp:=jo
set_option maxHeartbeats 2000000 in
theorem rK:aV P w K mg base CX0 4 T.g_is_small.f T.g_is_small.d ["pattern"] qI:=by
 refine T.g_is_small.F.ok dm (fun vs H Q E h=>?_) (fun Ag A outer s H vs Q E hr h=>?_)
 · obtain ⟨a,t,rfl,_⟩:=h;rfl
 obtain ⟨a,t,rfl,hA,hsz,q⟩:=h
 refine ⟨_,(ad (ar (i:=1) dm.nd rfl (Rp rfl) (vF T.mk_Measure (lp T) (hr.mono (by first | decide | omega)) rfl T.x_Measure T.b_Measure_init .nil mj))
  (ad (ar (i:=2) dm.nd rfl (Rp rfl) (bm (aa (bg (aa (pv 0) (aa ag ab))) ab)))
  (ad (gv RM (aQ (pv 2) (fun _=>rfl)) (ad (fH (iO Rk Tx Tw iT (pv 2)) (cQ rfl (aL (aq (i:=3) dm.nd rfl (Rp rfl)) (aL (aq (i:=4) dm.nd rfl (Or.inr rfl)) bX))))
  (ad (aS (ci (aQ (xW (pv 1) T.cl_Measure T.me_Measure_takes (jT T) (hr.mono (by first | decide | omega)) T.b_Measure_takes .nil mj (aa (pv 3) (aa (pv 4) ab))) (fun _=>rfl))) (ae (ax gx)) aH)
  (ae (aT (bi Rk VD VC nB (pv 2) (aa (bG (N:=[QZ "kid",QZ "row"]) (js:=[none,some 4]) (g:=(aG 0)) (tt:=bn) (te:=(tT (b8 (bV 0) (b8 (tOp (rI0 fun i j=>.int (i+j)) (bV 1) (tC (.int 1))) eR)))) rfl (cg rfl (by decide +kernel) (by decide +kernel) rfl rfl rfl) (db (pcF T.g_kids_of (dY T) hr (aa (pv 3) ab))) (fun _ _ _ _ _ _=>(aq (i:=0) aa1 rfl (Rp rfl))) (aX rfl) (fun _ _ _ _ _ _=>bN) (fun _ _ _ _ _ _=>(bg (aa (pv 0) (aa (am bE (pv 1) ag) ab))))) ab)))))))
  (ae (ax gx))))),?_⟩
 try dsimp only [Ar,Ac]
 intro mo dx IE Ik Av;refine ⟨mo,dx,rfl,ac,fun H1 k1 Mm=>⟨rfl,?_⟩⟩
 have s0:L2.Same H (upd (upd H dx (.own mo)) mo (.ins T.e_Measure dx [])):=fun b o e=>by
  rw [al (aB e IE),al (aB e Ik)];exact e
 have s1:L2.Same H H1:=fun b o e=>k1 b o (aB e IE) (s0 b o e);refine ⟨_,rfl,aj (by show 2<=1000000;decide),fun p0 J4=>?_⟩;dsimp only [aG];have s2:L2.Same H1 (upd H1 p0 (.tup [.ref a,.int 1])):=ai J4 _;have e2:(upd H1 p0 (.tup [.ref a,.int 1])) p0=some (.tup [.ref a,.int 1]):=ac;generalize (upd H1 p0 (.tup [.ref a,.int 1]))=H2 at s2 e2 ⊢;refine ⟨aj (by show 1<=1000000;decide),fun ah CP=>?_⟩;have s3:L2.Same H2 (upd H2 ah (.lst [.ref p0])):=ai CP _;have e3:(upd H2 ah (.lst [.ref p0])) ah=some (.lst (([p0]:List Q7).map V.ref)):=ac;have G3:H ah=none:=(s1.trans s2).free CP;have Ko:mo≠ah:=fun z=>by rw [<- z,s2 _ _ Mm] at CP;cases CP
 generalize (upd H2 ah (.lst [.ref p0]))=H3 at s3 e3 ⊢;have DY:=s2.trans s3;refine ⟨fun m σ H4=>Ex6 fun (ps:List Q7) (As:List (Th×Int)) (k c:Int) (pv rv:Option V)=>yY (σ=[some (.ref a),some (.ref mo),some (.ref ah),pv,rv]) (L2.Same H H4) (H4 ah=some (.lst (ps.map V.ref))) (R3 (RwAt H4) As ps) (H4 mo=some (.ins T.e_Measure dx (mf k c))) (k+(kns (As.map (·.1)):Int)=(t.kn:Int)) (c+(d8 (As.map (·.1)):Int)=(cnT t:Int)) (k<=400) (c<=200) ((∀ e∈As,e.2+(e.1.tall:Int)<=(t.tall:Int)+1)) (((t.tall:Int)<=20∨∃ e∈As,(t.tall:Int)+1<=e.2+(e.1.tall:Int))) (ay (As.map (·.1))<=100000) (m=ay (As.map (·.1))),⟨_,[p0],[(t,1)],0,0,none,none,rfl,s1.trans DY,e3,.cons ⟨a,s3 _ _ e2,hA.mono (Same.kt (s1.trans DY))⟩ .nil,DY _ _ Mm,?_,?_,by decide,by decide,?_,?_,?_,rfl⟩,?_⟩
 · show (0:Int)+((kns [t]:Nat):Int)=_;rw [kns,kns];omega
 · show (0:Int)+((d8 [t]:Nat):Int)=_;rw [d8,d8];omega
 · intro e he;rw [RH.mp he];show (1:Int)+(t.tall:Int)<=_;omega
 · exact .inr ⟨(t,1),Rn ..,by show _<=(1:Int)+(t.tall:Int);omega⟩
 · show ay [t]<=100000;rw [ay,ay];omega
 rintro m σ H4 ⟨ps,As,k,c,pv,rv,rfl,s4,e4,Mn,em,hk,hc,QG,CW,hle,Mo,Mp,rfl⟩;refine ⟨_,rfl,_,.inl ⟨_,SqL.of e4,rfl⟩,?_⟩;refine cA (fun cc=>?_) (fun cc=>?_)
 · refine ⟨fun Ab H'=>∃ m',m'<ay (As.map (·.1))/\Ex6 fun (ps:List Q7) (As:List (Th×Int)) (k c:Int) (pv rv:Option V)=>yY (Ab=[some (.ref a),some (.ref mo),some (.ref ah),pv,rv]) (L2.Same H H') (H' ah=some (.lst (ps.map V.ref))) (R3 (RwAt H') As ps) (H' mo=some (.ins T.e_Measure dx (mf k c))) (k+(kns (As.map (·.1)):Int)=(t.kn:Int)) (c+(d8 (As.map (·.1)):Int)=(cnT t:Int)) (k<=400) (c<=200) ((∀ e∈As,e.2+(e.1.tall:Int)<=(t.tall:Int)+1)) (((t.tall:Int)<=20∨∃ e∈As,(t.tall:Int)+1<=e.2+(e.1.tall:Int))) (ay (As.map (·.1))<=100000) (m'=ay (As.map (·.1))),fun Ab H' h=>h,?_⟩;have Bj:ps≠[]:=by intro z;subst z;simp at cc
   refine hid fun ZZ kZ=>?_;obtain ⟨Cq,b,rfl⟩:∃ Cq b,ps=Cq++[b]:=⟨ps.dropLast,ps.getLast Bj,(SH Bj).symm⟩;obtain ⟨Us,⟨x,r⟩,rfl,Mq,ta,eb,hx⟩:=P2.snoc_inv Mn;refine kZ ?_;have G4:(Us++[(x,r)]).map (·.1)=Us.map (·.1)++[x]:=by rw [Rj];rfl
   rw [G4] at hk hc Mp;rw [mv,kns,kns,zN] at hk;rw [kG,d8,d8,aaa] at hc;rw [bC,ay,ay,x.size_eq] at Mp;have OS:=hle (x,r) (RV _ (Rn ..));dsimp only at OS;have EZ:=x.tall_eq;refine ⟨_,rfl,.inl ⟨rfl,_,SqL.of e4⟩,ah,_,.ref b,rfl,rfl,e4,by simp,?_⟩;have d1:((Cq++[b]).map V.ref).dropLast=Cq.map V.ref:=by simp
   rw [d1];have k5:KT H4 (upd H4 ah (.lst (Cq.map V.ref))):=aW e4;have s5:L2.Same H (upd H4 ah (.lst (Cq.map V.ref))):=aC s4 G3;have e5:(upd H4 ah (.lst (Cq.map V.ref))) ah=some (.lst (Cq.map V.ref)):=ac;have IF:(upd H4 ah (.lst (Cq.map V.ref))) mo=some (.ins T.e_Measure dx (mf k c)):=by rw [al Ko];exact em
   generalize (upd H4 ah (.lst (Cq.map V.ref)))=H5 at k5 s5 e5 IF ⊢;refine ⟨b,_,rfl,SqT.of (k5 _ _ eb),rfl,_,_,rfl,_,_,rfl,rfl,?_⟩;dsimp only [aG];refine bS (fun Ab H6=>Ex2 fun (k' c':Int)=>An6 (k'=(if x.isCall=true then k else k+1)) (c'=(if x.isCall=true then c+1 else c)) ((∀ b o,b≠mo->H5 b=some o->H6 b=some o)) (H6 mo=some (.ins T.e_Measure dx (mf k' c'))) ((r<=20/\k'<=400/\c'<=200)) (Ab=[some (.ref a),some (.ref mo),some (.ref ah),some (.ref ta),some (.int r)])) (fun kk En=>?_) ?_
   · refine bZ (fun bb H6=>Ex2 fun (k' c':Int)=>An5 (k'=(if x.isCall=true then k else k+1)) (c'=(if x.isCall=true then c+1 else c)) ((∀ b o,b≠mo->H5 b=some o->H6 b=some o)) (H6 mo=some (.ins T.e_Measure dx (mf k' c'))) (bb=!decide (r<=20/\k'<=400/\c'<=200))) (fun k2 A9=>?_) (fun H6 hb=>?_) (fun H6 hb=>?_)
     · refine ⟨_,rfl,mo,dx,_,rfl,IF,aaB k c (by decide +kernel) (by decide +kernel),_,rfl,_,rfl,mo,dx,ta,k,c,r,x,rfl,IF,hx.mono k5,fun k' c' H6 h1 h2 h3 h4=>?_⟩;exact ⟨_,rfl,A9 _ _ ⟨k',c',h1,h2,h3,h4,rfl⟩⟩
     · refine hid fun ZZ kZ=>?_;obtain ⟨k',c',h1,h2,h3,h4,h5⟩:=hb;refine kZ ?_;have Cu:¬ (r<=20/\k'<=400/\c'<=200):=fun z=>by rw [decide_eq_true z] at h5;cases h5
       have DT:decide (Small t)=false:=decide_eq_false fun z=>Cu (by
        obtain ⟨z1,z2,z3⟩:=z;refine ⟨by omega,?_,?_⟩
        · rw [h1];split at hk <;> split <;> first | omega | contradiction
        · rw [h2];split at hc <;> split <;> first | omega | contradiction)
       have s6:L2.Same H H6:=fun b o e=>h3 b o (aB e IE) (s5 b o e);rw [DT] at q;exact q H6 s6
     · refine hid fun ZZ kZ=>?_;obtain ⟨k',c',h1,h2,h3,h4,h5⟩:=hb;refine kZ ?_
       have CN:r<=20/\k'<=400/\c'<=200:=of_decide_eq_true (by
        cases hd:decide (r<=20/\k'<=400/\c'<=200) with
        | true=>rfl
        | false=>rw [hd] at h5;cases h5)
       exact En _ _ ⟨k',c',h1,h2,h3,h4,CN,rfl⟩
   rintro Ab H6 ⟨k',c',h1,h2,h3,h4,⟨OT,Kp,Kq⟩,rfl⟩;have k6:KT H5 H6:=fun b xs e=>h3 b _ (fun z=>by rw [z,IF] at e;cases e) e;have s6:L2.Same H H6:=fun b o e=>h3 b o (aB e IE) (s5 b o e);have e6:H6 ah=some (.lst (Cq.map V.ref)):=h3 _ _ Ko.symm e5;have Mr:=k5.trans k6;refine ⟨_,rfl,.inl ⟨rfl,_,SqL.of e6⟩,_,rfl,ta,x,rfl,hx.mono Mr,fun ka Ap H7 s7 ek AE=>?_⟩;have AN:Ap.length=x.kids.length:=AE.length;have QH:=cJ x.kids;refine ⟨ka,rfl,⟨_,SqT.of ek⟩,lx (F:=RwAt) (xs:=Ap.map V.ref) (x.kids.map fun u=>(u,r+1)) (fun H1 H2 z p kt h=>h.mono kt) (by rw [Q0,Q0];omega) (by rw [Q0];omega) (fun i Hx sx hi=>⟨_,_,SqT.of (sx _ _ ek),Q1 hi⟩) (fun Hx sx=>⟨_,SqT.of (sx _ _ ek),Q8 _⟩) (fun i Hx x Hy sx hi hy=>⟨hy.1,hy.2 _ (SqT.of (sx _ _ ek))⟩) (fun i y z Hx R W' hy E8 sx hR=>?_) (fun D H8 bs hD s8 eD G5=>?_)⟩
   · obtain ⟨ua,rfl,Kr⟩:=ba hy;obtain ⟨u,hu,Ks⟩:=AE.get Kr;rw [Rg,hu] at E8;cases E8;refine ⟨_,rfl,_,rfl,_,_,rfl,rfl,aj (by show 2<=1000000;decide),fun p1 Cn=>?_⟩;exact hR _ p1 (ai Cn _) ⟨ua,ac,Ks.mono (Same.kt (sx.trans (ai Cn _)))⟩
   have QI:Us.length=Cq.length:=Rx Mq;have BH:(x.kids.map fun u=>(u,r+1)).length=bs.length:=Rx G5;rw [Q0] at BH;have OU:=cJ (Us.map (·.1));rw [Q0] at OU;have IG:=s7.trans s8;have e8:=IG _ _ e6;refine ⟨ah,D,_,_,rfl,rfl,e8,eD,Tc (aF (by rw [Q0,Q0];omega)),?_⟩;have k9:KT H8 (upd H8 ah (.lst (Cq.map V.ref++bs.map V.ref))):=aW e8;have s9:L2.Same H (upd H8 ah (.lst (Cq.map V.ref++bs.map V.ref))):=aC (s6.trans IG) G3
   have IH:(Us++x.kids.map fun u=>(u,r+1)).map (·.1)=Us.map (·.1)++x.kids:=by
    rw [Rj,Tr];congr 1;exact List.map_id' _
   refine ⟨ay ((Us++x.kids.map fun u=>(u,r+1)).map (·.1)),?_,Cq++bs,Us++(x.kids.map fun u=>(u,r+1)),k',c',_,_,rfl,s9,?_,?_,?_,?_,?_,Kp,Kq,?_,?_,?_,rfl⟩
   · rw [IH,G4,bC,bC,ay,ay,x.size_eq];omega
   · rw [ac,Rj]
   · exact P2.append (P2.mp (fun _ _ e=>e.mono ((Mr.trans (Same.kt IG)).trans k9)) Mq) (P2.mp (fun _ _ e=>e.mono k9) G5)
   · rw [al Ko];exact IG _ _ h4
   · rw [IH,mv,h1];split at hk <;> split <;> first | omega | contradiction
   · rw [IH,kG,h2];split at hc <;> split <;> first | omega | contradiction
   · intro e he;rcases RE.mp he with he | he
     · exact hle e (Ug _ he)
     · obtain ⟨u,hu,rfl⟩:=Sl.mp he;have:=jv hu;dsimp only;omega
   · rcases Mo with h | ⟨e,he,Kt⟩
     · exact .inl h
     · rcases RE.mp he with he | he
       · exact .inr ⟨e,Ug _ he,Kt⟩
       · rw [RH.mp he] at Kt;dsimp only at Kt;by_cases hz:x.kids=[]
         · rw [hz,bd] at EZ;exact .inl (by omega)
         · obtain ⟨u,hu,eu⟩:=wV hz;exact .inr ⟨(u,r+1),RV _ (Sl.mpr ⟨u,hu,rfl⟩),by dsimp only;omega⟩
   · rw [IH,bC];omega
 · have hz:ps=[]:=by
    cases ps with
    | nil=>rfl
    | cons y ys=>simp at cc
   subst hz;have GL:As=[]:=R7.mp (Rx Mn);subst GL;have B5:k+((kns []:Nat):Int)=(t.kn:Int):=hk;have Bm:c+((d8 []:Nat):Int)=(cnT t:Int):=hc;rw [kns] at B5;rw [d8] at Bm
   have OV:(t.tall:Int)<=20:=by
    rcases Mo with h | ⟨e,he,_⟩
    · exact h
    · cases he
   have Ku:decide (Small t)=true:=decide_eq_true ⟨by omega,by omega,by omega⟩;rw [Ku] at q;exact q H4 s4
inductive iC (vs:List V) (H:Hp) (Q:VK) (_E:XK):Prop
 | mk (i:Int) (Aj:vs=[.int i]) (Ak:Q (.bl true) H):iC  vs H Q _E
def qb:Sp:=iC
theorem pc:aV P w K mg base CX0 1 T.g_is_number.f T.g_is_number.d ["thing"] qb:=by
 refine T.g_is_number.F.ok pN (fun vs H Q E h=>?_) (fun Ag A outer s H vs Q E hr h=>?_)
 · obtain ⟨i,rfl,_⟩:=h;rfl
 obtain ⟨i,rfl,k⟩:=h;refine ⟨_,(ae (ax (cV (av (bI (T:="int")) rfl T.n_isinstance RX (aa (pv 0) (aa (cC (v:=.ty "int") rfl T.n_int V5 rfl) ab))) (eK (px (av (bI (T:="bool")) rfl T.n_isinstance RX (aa (pv 0) (aa (cC (v:=.ty "bool") rfl T.n_bool PyProof.Rows.boot_bool rfl) ab)))))))),?_⟩
 try dsimp only [Ar,Ac]
 refine ⟨_,rfl,_,_,_,rfl,.int i,vT,_,rfl,?_⟩;refine cE ?_;exact ⟨_,rfl,_,_,_,rfl,.int i,wB,_,rfl,k⟩
inductive jp (vs:List V) (H:Hp) (Q:VK) (_E:XK):Prop
 | mk (i b:Int) (Aj:vs=[.int i,.int b]) (Ak:Q (.bl (decide (0<=i/\i<b))) H):jp  vs H Q _E
def re:Sp:=jp
theorem gr:aV P w K mg base CX0 2 T.g_is_below.f T.g_is_below.d ["number","bound"] re:=by
 refine T.g_is_below.F.ok qF (fun vs H Q E h=>?_) (fun Ag A outer s H vs Q E hr h=>?_)
 · obtain ⟨i,b,rfl,_⟩:=h;rfl
 obtain ⟨i,b,rfl,k⟩:=h;refine ⟨_,(ae (ax (cV (pcF T.g_is_number (pc T) hr (aa (pv 0) ab)) (eK (rg iq im ag (pv 0) (pv 1)))))),?_⟩
 try dsimp only [Ar,Ac]
 refine ⟨_,rfl,i,rfl,_,rfl,?_⟩;refine cE ?_;refine ⟨_,rfl,_,_,rfl,rfl,_,rfl,?_⟩;refine cA (fun c=>?_) (fun c=>?_)
 · have c':0<=i:=of_decide_eq_true c;refine ⟨_,rfl,_,_,rfl,rfl,?_⟩;have e:decide (0<=i/\i<b)=decide (i<b):=by simp [c']
   rw [e] at k;exact k
 · have c':¬ 0<=i:=fun z=>c (decide_eq_true z);have e:decide (0<=i/\i<b)=false:=by simp [c']
   rw [e] at k;exact k
inductive kY (vs:List V) (H:Hp) (Q:VK) (_E:XK):Prop
 | mk (z:Ru) (Aj:vs=[.str z]) (Ak:z.length<=100000) (An:∀ H',L2.Same H H'->Q (.bl (bP z)) H'):kY  vs H Q _E
def se:Sp:=kY
theorem iP:aV P w K mg base CX0 1 T.g_is_name.f T.g_is_name.d ["thing"] se:=by
 refine T.g_is_name.F.ok rX (fun vs H Q E h=>?_) (fun Ag A outer s H vs Q E hr h=>?_)
 · obtain ⟨z,rfl,_⟩:=h;rfl
 obtain ⟨z,rfl,hz,k⟩:=h
 refine ⟨_,(ad (aS (PW.pt (eF (ci (aQ (av (bI (T:="str")) rfl T.n_isinstance RX (aa (pv 0) (aa (cC (v:=.ty "str") rfl T.n_str S8 rfl) ab))) (fun _=>rfl))) (dz (ci (jh iq iq ag (av fK rfl T.n_len RG (aa (pv 0) ab)) (cw (v:=.int (8)) rfl T.c_MOST_LETTERS.choose_spec ⟨_,rfl⟩)))))) (ae (ax gx)) aH)
  (ae (ax (av (rT rfl) rfl T.n_all PyProof.Rows.boot_all (aa (bG (N:=[QZ "sign"]) (js:=[none]) (g:=(aG 0)) (tt:=bn) (te:=(pX (wg) (wg) (tC (.str (QZ "a"))) (bV 0) (tC (.str (QZ "z"))))) rfl (cg rfl (by decide +kernel) (by decide +kernel) rfl rfl rfl) (tB (pv 0)) (fun _ _ _ _ _ _=>(aq (i:=0) aaz rfl (Rp rfl))) (aX rfl) (fun _ _ _ _ _ _=>bN) (fun _ _ _ _ _ _=>(rg hZ hZ aA (pv 0) aA))) ab))))),?_⟩
 try dsimp only [Ar,Ac]
 refine ⟨_,rfl,_,_,_,rfl,.str z,tD,_,rfl,?_⟩;refine bA ?_;refine ⟨_,rfl,_,rfl,aj (by omega),_,_,rfl,rfl,_,rfl,?_⟩;refine cA (fun c1=>?_) (fun c1=>?_)
 · have DZ:1<=(z.length:Int):=of_decide_eq_true c1;refine ⟨_,_,rfl,rfl,_,rfl,?_⟩;refine cA (fun c2=>?_) (fun c2=>?_)
   · have kk:=k H (.refl _)
     have e:bP z=false:=by
      unfold bP;rw [decide_eq_false (fun h=>?_)]
      · rfl
      · rw [decide_eq_true (show (z.length:Int)<=8 by omega)] at c2;cases c2
     rw [e] at kk;exact kk
   · have G6:z.length<=8:=by
      by_cases h:z.length<=8
      · exact h
      · rw [decide_eq_false (show ¬ (z.length:Int)<=8 by omega)] at c2;exact absurd rfl c2
     have e:bP z=low z:=by
      unfold bP;rw [decide_eq_true (show 1<=z.length/\z.length<=8 from ⟨by omega,G6⟩)];rfl
     rw [e] at k;refine ⟨_,rfl,z,rfl,rV (fun c=>decide (97<=c/\c<=122)) (by show z.length<=100000;exact hz) (fun c H1 Q' W' _ hQ=>?_) (fun D H' hD s1 e1=>?_)⟩
     · refine ⟨_,rfl,_,_,rfl,rfl,_,rfl,?_⟩;rw [show (QZ "a").cps.toList=[97] by decide +kernel];rw [oJ 97 c];refine cA (fun d1=>?_) (fun d1=>?_)
       · have Kv:97<=c:=of_decide_eq_true d1;refine ⟨_,_,rfl,rfl,?_⟩;rw [show (QZ "z").cps.toList=[122] by decide +kernel,oJ c 122];have e2:decide (97<=c/\c<=122)=decide (c<=122):=by simp [Kv]
         rw [e2] at hQ;exact hQ
       · have Kv:¬ 97<=c:=fun z=>d1 (decide_eq_true z);have e2:decide (97<=c/\c<=122)=false:=decide_eq_false fun z=>Kv z.1;rw [e2] at hQ;exact hQ
     · refine ⟨D,_,rfl,SqL.of e1,?_⟩;rw [show ((z.cps.toList.map fun c=>decide (97<=c/\c<=122)).all id)=low z by unfold low;rw [List.all_map];rfl];exact k H' s1
 · have kk:=k H (.refl _)
   have e:bP z=false:=by
    unfold bP;rw [decide_eq_false (fun h=>c1 (decide_eq_true (by omega)))];rfl
   rw [e] at kk;refine ⟨_,rfl,cE ?_⟩;exact kk
def cD (k:Ru×Int):Bool:=bP k.1 && decide (0<=k.2/\k.2<4)
inductive kQ (vs:List V) (H:Hp) (Q:VK) (_E:XK):Prop
 | mk (a:Q7) (k:Ru×Int) (Aj:vs=[.ref a]) (Ak:H a=some (.tup [.str k.1,.int k.2])) (An:k.1.length<=100000) (Az:∀ H',L2.Same H H'->Q (.bl (cD k)) H'):kQ  vs H Q _E
def l7:Sp:=kQ
theorem sy:aV P w K mg base CX0 3 T.g_is_kind.f T.g_is_kind.d ["pair"] l7:=by
 refine T.g_is_kind.F.ok ss (fun vs H Q E h=>?_) (fun Ag A outer s H vs Q E hr h=>?_)
 · obtain ⟨a,z,rfl,_⟩:=h;rfl
 obtain ⟨a,⟨z,n⟩,rfl,ha,hz,k⟩:=h;refine ⟨_,(ae (ax (cV (cz cI (av ao rfl T.n_len RG (aa (pv 0) ab)) ag (aE _)) (cV (pcF T.g_is_name (iP T) hr (aa (az aI (pv 0) ag (fun _ _=>rfl)) ab)) (eK (pcF T.g_is_below (gr T) hr (aa (az aI (pv 0) ag (fun _ _=>rfl)) (aa (am bE (cw (v:=.int (3)) rfl T.c_MOST_KIDS.choose_spec ⟨_,rfl⟩) ag) ab)))))))),?_⟩
 try dsimp only [Ar,Ac]
 refine ⟨_,rfl,a,_,rfl,.inr (SqT.of ha),rfl,_,rfl,?_⟩;refine cE ?_;refine ⟨_,rfl,a,_,0,.str z,rfl,rfl,SqT.of ha,at0,z,rfl,hz,fun H1 s1=>?_⟩;refine ⟨_,rfl,?_⟩;refine cA (fun c=>?_) (fun c=>?_)
 · refine ⟨_,rfl,a,_,1,.int n,rfl,rfl,SqT.of (s1 _ _ ha),at1,_,_,rfl,rfl,n,_,rfl,?_⟩;have kk:=k H1 s1;unfold cD at kk;rw [show bP z=true from c,UW] at kk;exact kk
 · have kk:=k H1 s1;unfold cD at kk;have c':bP z=false:=Uj.mpr c;rw [c',Bool.false_and] at kk;exact kk
def cy (ks:List (Ru×Int)):Bool:=decide (1<=ks.length/\ks.length<=8) && (ks.all cD && (decide ((ks.map (·.1)).Nodup) && decide ((0:Int)∈ks.map (·.2))))
inductive iF (K:Q4) (vs:List V) (H:Hp) (Q:VK) (_E:XK):Prop
 | mk (kr:Q7) (Ap:List Q7) (ks:List (Ru×Int)) (Aj:vs=[.ref kr]) (Ak:SqT K H kr (Ap.map V.ref)) (An:KsAt H ks Ap) (Az:ks.length<=1000) (AR:(∀ k∈ks,k.1.length<=100000)) (Bh:∀ H',L2.Same H H'->Q (.bl (cy ks)) H'):iF K vs H Q _E
def pf (K:Q4):Sp:=iF K
theorem oF:aV P w K mg base CX0 4 T.g_are_kinds.f T.g_are_kinds.d ["kinds"] (pf K):=by
 refine T.g_are_kinds.F.ok jk (fun vs H Q E h=>?_) (fun Ag A outer s H vs Q E hr h=>?_)
 · obtain ⟨kr,Ap,ks,rfl,_⟩:=h;rfl
 obtain ⟨kr,Ap,ks,rfl,hK,AE,hlen,Kw,k⟩:=h
 refine ⟨_,(ad (aS (PW.pt (eF (ci (jh iq iq ag (av ao rfl T.n_len RG (aa (pv 0) ab)) (cw (v:=.int (8)) rfl T.c_MOST_KINDS.choose_spec ⟨_,rfl⟩))) (dz (ci (aQ (av (rT rfl) rfl T.n_all PyProof.Rows.boot_all (aa (bG (N:=[QZ "pair"]) (js:=[none]) (g:=(aG 0)) (tt:=bn) (te:=(ip l7 [] E0 (b8 (bV 0) eR))) rfl (cg rfl (by decide +kernel) (by decide +kernel) rfl rfl rfl) (db (pv 0)) (fun _ _ _ _ _ _=>(aq (i:=0) yd rfl (Rp rfl))) (aX rfl) (fun _ _ _ _ _ _=>bN) (fun _ _ _ _ _ _=>(pcF T.g_is_kind (sy T) hr (aa (pv 0) ab)))) ab)) (fun _=>rfl)))))) (ae (ax gx)) aH)
  (ad (jy (i:=1) (N:=[QZ "pair"]) (js:=[none]) (g:=(aG 0)) (tt:=bn) (te:=(tOp (wn K) (bV 0) (tC (.int 0)))) jk.nd rfl (Rp rfl) rfl (cg rfl (by decide +kernel) (by decide +kernel) rfl rfl rfl) (db (pv 0)) (fun _ _ _ _ _ _=>(aq (i:=0) yd rfl (Rp rfl))) (aX rfl) (fun _ _ _ _ _ _=>bN) (fun _ _ _ _ _ _=>(az aI (pv 0) ag (fun _ _=>rfl))))
  (ae (ax (cV (cz cI (av uJ rfl T.n_len RG (aa (bf (vb rfl) rfl T.n_set PyProof.Rows.boot_set (aa (pv 1) ab)) ab)) (av ao rfl T.n_len RG (aa (pv 1) ab)) (aE _)) (eK (cz nX ag (bG (N:=[QZ "pair"]) (js:=[none]) (g:=(aG 0)) (tt:=bn) (te:=(tOp (wn K) (bV 0) (tC (.int 1)))) rfl (cg rfl (by decide +kernel) (by decide +kernel) rfl rfl rfl) (db (pv 0)) (fun _ _ _ _ _ _=>(aq (i:=0) yd rfl (Rp rfl))) (aX rfl) (fun _ _ _ _ _ _=>bN) (fun _ _ _ _ _ _=>(az aI (pv 0) ag (fun _ _=>rfl)))) (by with_unfolding_all rfl)))))))),?_⟩
 try dsimp only [Ar,Ac]
 have AN:ks.length=Ap.length:=Rx AE;refine ⟨_,rfl,kr,_,rfl,.inr hK,_,_,rfl,rfl,_,rfl,?_⟩;rw [Q0,<- AN]
 have Cu:∀ Hx,L2.Same H Hx->cy ks=false->Q (.bl false) Hx:=fun Hx sx e=>by
  have kk:=k Hx sx;rw [e] at kk;exact kk
 have bad:¬ (1<=ks.length/\ks.length<=8)->cy ks=false:=fun z=>by
  unfold cy;rw [decide_eq_false z];rfl
 refine cA (fun c1=>?_) (fun c1=>?_)
 · have DZ:(1:Int)<=(ks.length:Int):=of_decide_eq_true c1;refine ⟨_,_,rfl,rfl,_,rfl,?_⟩;refine cA (fun c2=>?_) (fun c2=>?_)
   · refine cE (Cu H (.refl _) (bad fun z=>?_));rw [decide_eq_true (show (ks.length:Int)<=8 by omega)] at c2;cases c2
   · have G6:ks.length<=8:=by
      by_cases h:ks.length<=8
      · exact h
      · rw [decide_eq_false (show ¬ (ks.length:Int)<=8 by omega)] at c2;exact absurd rfl c2
     have Dt:cy ks=(ks.all cD && (decide ((ks.map (·.1)).Nodup) && decide ((0:Int)∈ks.map (·.2)))):=by
      unfold cy;rw [decide_eq_true (show 1<=ks.length/\ks.length<=8 from ⟨by omega,G6⟩)];rfl
     refine ⟨_,rfl,kr,rfl,⟨_,hK⟩,cm ks (fun k=>V.bl (cD k)) hK (by rw [Q0];exact AN) (by rw [Q0];omega) (fun i x z H2 R W' hx hz s2 hR=>?_) (fun D H1 hD s1 e1=>?_)⟩
     · obtain ⟨ka,rfl,AQ⟩:=ba hx;obtain ⟨z',BE,ez⟩:=P2.get' AE AQ;rw [hz] at BE;cases BE;exact ⟨_,rfl,ka,z,rfl,s2 _ _ ez,Kw z (Rb hz),fun H3 s3=>hR H3 s3⟩
     · have Kx:ks.map (fun k=>V.bl (cD k))=(ks.map cD).map V.bl:=by rw [Tr];rfl
       rw [Kx] at e1;refine ⟨D,_,rfl,SqL.of e1,_,rfl,?_⟩;rw [show (ks.map cD).all id=ks.all cD by rw [List.all_map];rfl];refine cA (fun c3=>?_) (fun c3=>?_)
       · refine Cu H1 s1 ?_;rw [Dt]
         have:ks.all cD=false:=by
          cases h:ks.all cD with
          | false=>rfl
          | true=>rw [h] at c3;cases c3
         rw [this];rfl
       · have Ai:ks.all cD=true:=by
          cases h:ks.all cD with
          | true=>rfl
          | false=>rw [h] at c3;exact absurd rfl c3
         rw [Ai,UW] at Dt;have Du:=AE.mono (Same.kt s1);refine ⟨_,rfl,kr,rfl,⟨_,s1.seqT hK⟩,cm ks (fun k=>V.str k.1) (s1.seqT hK) (by rw [Q0];exact AN) (by rw [Q0];omega) (fun i x z H2 R W' hx hz s2 hR=>?_) (fun D1 H2 QJ s2 e2=>?_)⟩
         · obtain ⟨ka,rfl,AQ⟩:=ba hx;obtain ⟨z',BE,ez⟩:=P2.get' Du AQ;rw [hz] at BE;cases BE;exact ⟨_,rfl,ka,_,0,.str z.1,rfl,rfl,SqT.of (s2 _ _ ez),at0,hR H2 (.refl _)⟩
         · have en:ks.map (fun k=>V.str k.1)=(ks.map (·.1)).map V.str:=by rw [Tr];rfl
           rw [en] at e2;have Dw:=s1.trans s2;refine ⟨_,rfl,D1,ks.map (·.1),rfl,SqL.of e2,by rw [Q0];omega,fun sa OW=>?_⟩;have s3:=fun o:HO=>ai OW o;have DY:=fun o:HO=>Dw.trans (s3 o);refine ⟨sa,ks.map (·.1),rfl,ac,_,rfl,D1,_,rfl,.inl (SqL.of (s3 _ _ _ e2)),rfl,_,rfl,?_⟩;have B8:=rJ (ks.map (·.1)) (ks.map (·.1)).length (Q8 _);rw [SM] at B8;refine cA (fun c4=>?_) (fun c4=>?_)
           · have OX:((dn (ks.map (·.1)) (ks.map (·.1)).length:Nat):Int)=(((ks.map (·.1)).map V.str).length:Int):=V.int.inj (of_decide_eq_true c4);rw [Q0 (f:=V.str)] at OX;have OY:=B8.mp (by omega);rw [decide_eq_true OY,UW] at Dt;refine ⟨_,rfl,kr,rfl,⟨_,(DY _).seqT hK⟩,cm ks (fun k=>V.int k.2) ((DY _).seqT hK) (by rw [Q0];exact AN) (by rw [Q0];omega) (fun i x z H4 R W' hx hz s4 hR=>?_) (fun D3 H4 QK s4 e4=>?_)⟩
             · obtain ⟨ka,rfl,AQ⟩:=ba hx;obtain ⟨z',BE,ez⟩:=P2.get' (AE.mono (Same.kt ((DY _).trans s4))) AQ;rw [hz] at BE;cases BE;exact ⟨_,rfl,ka,_,1,.int z.2,rfl,rfl,SqT.of ez,at1,hR H4 (.refl _)⟩
             · have BD:inV (.int 0) (ks.map fun k=>V.int k.2)=decide ((0:Int)∈ks.map (·.2)):=by
                unfold inV;rw [List.any_map];by_cases h:(0:Int)∈ks.map (·.2)
                · rw [decide_eq_true h];obtain ⟨k',B5,e'⟩:=Sl.mp h;exact List.any_eq_true.mpr ⟨k',B5,by show eqV (.int k'.2) (.int 0)=true;rw [e'];rfl⟩
                · rw [decide_eq_false h];refine Uj.mpr fun z=>h ?_;obtain ⟨k',B5,e'⟩:=List.any_eq_true.mp z;have Bz:eqV (.int k'.2) (.int 0)=true:=e';exact Sl.mpr ⟨k',B5,by simpa [eqV] using Bz⟩
               refine ⟨D3,_,rfl,.inl (SqL.of e4),rfl,?_,?_⟩
               · rw [List.all_map];exact TB.mpr fun _ _=>rfl
               · have kk:=k H4 ((DY _).trans s4);rw [Dt,<- BD] at kk;exact kk
           · refine Cu _ (DY _) ?_;rw [Dt,decide_eq_false (fun z=>c4 (decide_eq_true ?_))]
             · rfl
             · show V.int ((dn (ks.map (·.1)) (ks.map (·.1)).length:Nat):Int)=V.int (((ks.map (·.1)).map V.str).length:Int);rw [B8.mpr z,Q0 (f:=V.str)]
 · refine ⟨_,rfl,cE (Cu H (.refl _) (bad fun z=>c1 (decide_eq_true (by omega))))⟩
def kg (K:Q4) (H:Hp) (ks:List (Ru×Int)) (a:Q7) (Ap:List Q7):Prop:=(SqL K H a (Ap.map V.ref)∨SqT K H a (Ap.map V.ref))/\KsAt H ks Ap/\ks.length<=1000/\∀ k∈ks,k.1.length<=100000
inductive i7 (K:Q4) (vs:List V) (H:Hp) (Q:VK) (_E:XK):Prop
 | mk (pr:Q7) (Ap:List Q7) (ks:List (Ru×Int)) (Aj:vs=[.ref pr]) (Ak:kg K H ks pr Ap) (An:cy ks=true) (Az:∀ (r:Q7) (H':Hp),L2.Same H H'->H' r=some (.tup (Ap.map V.ref))->Q (.ref r) H'):i7 K vs H Q _E
def qq (K:Q4):Sp:=i7 K
theorem pF {σ:St} {H:Hp} {ks:List (Ru×Int)} {pr:Q7} {Ap:List Q7} {fin:Q7->Hp->Prop} (h:kg K H ks pr Ap) (hq:∀ D H',L2.Same H H'->H' D=some (.lst (Ap.map V.ref))->fin D H') :
 ((∃ xs,SqL K H pr xs)/\∀ D,H D=none->∃ (n:Nat) (W:Nat->Hp->Prop),W 0 (upd H D (.lst []))/\eY [none] (aG 0) bn (tCB (fun xs H Q=>∃ p ys,xs=[.ref p]/\((SqL K H p ys/\∀ l,H l=none->Q (.ref l) (upd H l (.tup ys)))∨(SqT K H p ys/\Q (.ref p) H))) (b8 (bV 0) eR)) σ (Itl K pr) D n W fun H'=>fin D H') ∨
 ((∃ xs,SqT K H pr xs)/\∀ D,H D=none->∃ (n:Nat) (W:Nat->Hp->Prop),W 0 (upd H D (.lst []))/\eY [none] (aG 0) bn (tCB (fun xs H Q=>∃ p ys,xs=[.ref p]/\((SqL K H p ys/\∀ l,H l=none->Q (.ref l) (upd H l (.tup ys)))∨(SqT K H p ys/\Q (.ref p) H))) (b8 (bV 0) eR)) σ (Itt K pr) D n W fun H'=>fin D H'):=by
 obtain ⟨hS,AE,hlen,_⟩:=h;have AN:ks.length=Ap.length:=Rx AE
 have step:∀ (i:Nat) (x:V) (z:Q7) (H2:Hp) (R:VK) (W':Hp->Prop),(Ap.map V.ref)[i]?=some x->Ap[i]?=some z->L2.Same H H2->(∀ H3,L2.Same H2 H3->R (.ref z) H3) →
  aG 0 x (cσ [none] σ) H2 fun Ay H3=>bn Ay H3 fun b H4=>if b=true then (tCB (fun xs H Q=>∃ p ys,xs=[.ref p]/\((SqL K H p ys/\∀ l,H l=none->Q (.ref l) (upd H l (.tup ys)))∨(SqT K H p ys/\Q (.ref p) H))) (b8 (bV 0) eR)) Ay H4 R else W' H4:=by
  intro i x z H2 R W' hx hz s2 hR;obtain ⟨ka,rfl,AQ⟩:=ba hx;rw [hz] at AQ;cases AQ;obtain ⟨z',BE,ez⟩:=P2.get' AE hz;exact ⟨_,rfl,z,_,rfl,.inr ⟨SqT.of (s2 _ _ ez),hR H2 (.refl _)⟩⟩
 rcases hS with hS | hS
 · exact .inl ⟨⟨_,hS⟩,pE Ap V.ref hS (by rw [Q0]) (by rw [Q0];omega) step fun D H' hD s1 e1=>hq D H' s1 e1⟩
 · exact .inr ⟨⟨_,hS⟩,cm Ap V.ref hS (by rw [Q0]) (by rw [Q0];omega) step fun D H' hD s1 e1=>hq D H' s1 e1⟩
theorem kB:aV P w K mg base CX0 5 T.g_kinds_of.f T.g_kinds_of.d ["pairs"] (qq K):=by
 refine T.g_kinds_of.F.ok kM (fun vs H Q E h=>?_) (fun Ag A outer s H vs Q E hr h=>?_)
 · obtain ⟨pr,Ap,ks,rfl,_⟩:=h;rfl
 obtain ⟨pr,Ap,ks,rfl,hp,hok,k⟩:=h
 refine ⟨_,(ad (ar (i:=1) kM.nd rfl (Rp rfl) (bf bp rfl T.n_tuple R4 (aa (bG (N:=[QZ "pair"]) (js:=[none]) (g:=(aG 0)) (tt:=bn) (te:=(tCB (fun xs H Q=>∃ p ys,xs=[.ref p]/\((SqL K H p ys/\∀ l,H l=none->Q (.ref l) (upd H l (.tup ys)))∨(SqT K H p ys/\Q (.ref p) H))) (b8 (bV 0) eR))) rfl (cg rfl (by decide +kernel) (by decide +kernel) rfl rfl rfl) (yJ (pv 0)) (fun _ _ _ _ _ _=>(aq (i:=0) yd rfl (Rp rfl))) (aX rfl) (fun _ _ _ _ _ _=>bN) (fun _ _ _ _ _ _=>(bf bp rfl T.n_tuple R4 (aa (pv 0) ab)))) ab)))
  (ad (aS (ci (aQ (pcF T.g_are_kinds (oF T) hr (aa (pv 1) ab)) (fun _=>rfl))) (ae bz) aH)
  (ae (ax (pv 1))))),?_⟩
 try dsimp only [Ar,Ac]
 refine ⟨_,rfl,pr,rfl,pF hp fun D H1 s1 e1=>?_⟩;refine ⟨D,_,rfl,.inl ⟨SqL.of e1,fun r AV=>?_⟩⟩;have s2:=s1.trans (ai AV (.tup (Ap.map V.ref)));refine hid fun ZZ kZ=>?_;obtain ⟨hS,AE,hlen,Kw⟩:=hp;refine kZ ?_;refine ⟨_,rfl,r,Ap,ks,rfl,SqT.of ac,AE.mono (Same.kt s2),hlen,Kw,fun H3 s3=>?_⟩;rw [hok];refine ⟨_,rfl,bA ?_⟩;exact ⟨_,rfl,k r H3 (s2.trans s3) (s3 _ _ ac)⟩
inductive kX (K:Q4) (vs:List V) (H:Hp) (Q:VK) (_E:XK):Prop
 | mk (kr:Q7) (Ap:List Q7) (ks:List (Ru×Int)) (n:Ru) (Aj:vs=[.ref kr,.str n]) (Ak:SqT K H kr (Ap.map V.ref)) (An:KsAt H ks Ap) (Az:Q (.int (dD ks n)) H):kX K vs H Q _E
def sG (K:Q4):Sp:=kX K
theorem sk:aV P w K mg base CX0 1 T.g_many_of.f T.g_many_of.d ["kinds","name"] (sG K):=by
 refine T.g_many_of.F.ok i0 (fun vs H Q E h=>?_) (fun Ag A outer s H vs Q E hr h=>?_)
 · obtain ⟨kr,Ap,ks,n,rfl,_⟩:=h;rfl
 obtain ⟨kr,Ap,ks,n,rfl,hK,AE,k⟩:=h
 refine ⟨_,(ad (br RM rfl (db (pv 0)) (cQ rfl (aL (aq (i:=2) i0.nd rfl (Rp rfl)) (aL (aq (i:=3) i0.nd rfl (Rp rfl)) bX))) (ae (aS (aD cI (pv 2) (pv 1) (aE _)) (ae (ax (pv 3))) aH)))
  (ae (ax (qN lP ag)))),?_⟩
 try dsimp only [Ar,Ac]
 refine ⟨_,rfl,kr,rfl,⟨_,hK⟩,?_⟩;have AN:ks.length=Ap.length:=Rx AE;refine pH (K:=K) (a:=kr) (xs:=Ap.map V.ref) (fun i σ H2=>Ex2 fun c1 c2=>An3 (σ=[some (.ref kr),some (.str n),c1,c2]) (H2=H) (dD ks n=dD (ks.drop i) n)) ⟨none,none,rfl,rfl,by rw [Su]⟩ (fun i σ H2 _ ⟨_,_,_,e,_⟩=>by rw [e];exact hK) ?_ ?_
 · rintro i x σ H2 hx ⟨c1,c2,rfl,rfl,hm⟩;obtain ⟨ka,rfl,AQ⟩:=ba hx;obtain ⟨kd,GO,OZ⟩:=P2.get' AE AQ;have hi:i<ks.length:=(Rm.mp GO).1
   have hd:ks.drop i=kd::ks.drop (i+1):=by
    rw [Sa hi];congr 1;rw [Q1 hi] at GO;exact RI GO
   rw [hd,dD] at hm;refine ⟨ka,_,rfl,SqT.of OZ,rfl,_,_,rfl,_,_,rfl,rfl,?_⟩;refine ⟨_,rfl,_,rfl,rfl,_,rfl,?_⟩;refine cA (fun c=>?_) (fun c=>?_)
   · have c':kd.1=n:=V.str.inj (of_decide_eq_true c);rw [if_pos c'] at hm;rw [hm] at k;exact ⟨_,rfl,k⟩
   · have c':¬ kd.1=n:=fun z=>c (decide_eq_true (congrArg V.str z));rw [if_neg c'] at hm;exact ⟨_,_,rfl,rfl,hm⟩
 · rintro σ H2 ⟨c1,c2,rfl,rfl,hm⟩;rw [Q0,<- AN,Vd,dD] at hm;rw [hm] at k;exact ⟨_,rfl,k⟩
inductive eV (K:Q4) (vs:List V) (H:Hp) (Q:VK) (_E:XK):Prop
 | mk (kr a:Q7) (Ap:List Q7) (ks:List (Ru×Int)) (t:Th) (st kd:Int) (Aj:vs=[.ref kr,.ref a,.int st,.int kd]) (Ak:SqT K H kr (Ap.map V.ref)) (An:KsAt H ks Ap) (Az:At H t a) (AR:t.size<=100000) (Bh:∀ H',L2.Same H H'->Q (.bl (fpb ks st kd t)) H'):eV K vs H Q _E
def lc (K:Q4):Sp:=eV K
theorem lf:aV P w K mg base CX0 3 T.g_fits_pattern.f T.g_fits_pattern.d ["kinds","pattern","states","kids"] (lc K):=by
 refine T.g_fits_pattern.F.ok gc (fun vs H Q E h=>?_) (fun Ag A outer s H vs Q E hr h=>?_)
 · obtain ⟨kr,a,Ap,ks,t,st,kd,rfl,_⟩:=h;rfl
 obtain ⟨kr,a,Ap,ks,t,st,kd,rfl,hK,AE,hA,hsz,k⟩:=h
 refine ⟨_,(ad (br RM rfl (df (pcF T.g_walked (j4 T) hr (aa (pv 1) ab))) (aq (i:=4) gc.nd rfl (Rp rfl)) (ae (aS (aQ (pcF T.g_is_call (dU T) hr (aa (pv 4) ab)) (fun _=>rfl)) (ae (aS (PW.pt (eF (ci (aQ (pcF T.g_is_below (gr T) hr (aa (az aI (pv 4) ag (fun _ _=>rfl)) (aa (pv 2) ab))) (fun _=>rfl))) (dz (ci (aQ (pcF T.g_is_below (gr T) hr (aa (az aI (pv 4) ag (fun _ _=>rfl)) (aa (pv 3) ab))) (fun _=>rfl)))))) (ae (ax gx)) aH)) (ae (aS (aD dO (pcF T.g_many_of (sk T) hr (aa (pv 0) (aa (az aI (pv 4) ag (fun _ _=>rfl)) ab))) (am mh (av ao rfl T.n_len RG (aa (pv 4) ab)) ag) (aE _)) (ae (ax gx)) aH)))))
  (ae (ax gx))),?_⟩
 try dsimp only [Ar,Ac]
 refine ⟨_,rfl,a,t,rfl,hA,hsz,fun r as H1 s1 nr er hw=>⟨r,rfl,⟨_,SqL.of er⟩,?_⟩⟩;have B':as.length=t.walk.length:=hw.length
 refine mM (K:=K) (a:=r) (xs:=as.map V.ref) (fun i σ H2=>Ex1 fun c=>An3 (σ=[some (.ref kr),some (.ref a),some (.int st),some (.int kd),c]) (L2.Same H1 H2) ((t.walk.take i).all (okP ks st kd)=true))
  ⟨none,rfl,.refl _,by rw [SG];rfl⟩ (fun i σ H2 _ ⟨_,_,s2,_⟩=>SqL.of (s2 _ _ er)) ?_ ?_
 · rintro i x σ H2 hx ⟨c,rfl,s2,Ai⟩;obtain ⟨xa,rfl,GY⟩:=ba hx;obtain ⟨tx,DK,Ky⟩:=hw.get GY;have DL:=Ky.mono (Same.kt s2);have Dw:=s1.trans s2;have Dc:t.walk.take (i+1)=t.walk.take i++[tx]:=by rw [SS,DK];rfl
   have Cu:okP ks st kd tx=false->fpb ks st kd t=false:=by
    intro z;unfold fpb;rw [Uj];intro y;rw [TB] at y;rw [y tx (Rb DK)] at z;cases z
   have CN:okP ks st kd tx=true->(t.walk.take (i+1)).all (okP ks st kd)=true:=by
    intro z;rw [Dc,List.all_append,Ai];simp [z]
   refine ⟨_,rfl,xa,tx,rfl,DL,_,rfl,?_⟩;cases tx with
   | call sn kn =>
     refine cE ?_;have CT:=DL;rw [At] at CT;refine ⟨_,rfl,xa,_,1,_,rfl,rfl,SqT.of CT,at1,_,rfl,sn,st,rfl,_,rfl,?_⟩;refine cA (fun c1=>?_) (fun c1=>?_)
     · have e:fpb ks st kd t=false:=Cu (by rw [okP];rw [WO] at c1;rw [c1];rfl);have:=k H2 Dw;rw [e] at this;exact cE this
     · refine ⟨_,rfl,xa,_,2,_,rfl,rfl,SqT.of CT,at2,_,rfl,kn,kd,rfl,_,rfl,?_⟩
       have DZ:decide (0<=sn/\sn<st)=true:=by
        cases h:decide (0<=sn/\sn<st) with
        | true=>rfl
        | false=>rw [h] at c1;exact absurd rfl c1
       refine cA (fun c2=>?_) (fun c2=>?_)
       · have e:fpb ks st kd t=false:=Cu (by rw [okP];rw [WO] at c2;rw [DZ,c2];rfl);have:=k H2 Dw;rw [e] at this;exact this
       · have G6:decide (0<=kn/\kn<kd)=true:=by
          cases h:decide (0<=kn/\kn<kd) with
          | true=>rfl
          | false=>rw [h] at c2;exact absurd rfl c2
         exact ⟨_,rfl,s2,CN (by rw [okP,DZ,G6];rfl)⟩
   | knot nm us =>
     refine bA ?_;have CT:=DL;rw [At] at CT;refine hid fun ZZ kZ=>?_;obtain ⟨Mt,ka,ek,AQ⟩:=CT;refine kZ ?_;have AN:ka.length=us.length:=AQ.length;refine ⟨_,rfl,_,rfl,xa,_,0,.str nm,rfl,rfl,SqT.of ek,at0,kr,Ap,ks,nm,rfl,Dw.seqT hK,AE.mono (Same.kt Dw),_,rfl,xa,_,rfl,.inr (SqT.of ek),_,_,rfl,rfl,rfl,_,rfl,?_⟩;have hlen:((V.str nm::ka.map V.ref).length:Int) - 1=(us.length:Int):=by rw [Q3,Q0,AN];omega
     refine cA (fun c=>?_) (fun c=>?_)
     · have hm:¬ dD ks nm=((us.length:Nat):Int):=fun z=>zG c (by rw [z,<- hlen]);have e:fpb ks st kd t=false:=Cu (by rw [okP];exact decide_eq_false hm);have:=k H2 Dw;rw [e] at this;exact this
     · have hm:dD ks nm=((us.length:Nat):Int):=by
        have:=V.int.inj (yZ c);rw [this];exact hlen
       exact ⟨_,rfl,s2,CN (by rw [okP];exact decide_eq_true hm)⟩
 · rintro σ H2 ⟨c,rfl,s2,Ai⟩;rw [Q0,B',SM] at Ai;have e:fpb ks st kd t=true:=Ai;have:=k H2 (s1.trans s2);rw [e] at this;exact this
def og (outs:List (Ru×Int)) (st kd:Int) (t:Th):Prop:=Small t/\fpb outs st kd t=true
instance (outs:List (Ru×Int)) (st kd:Int) (t:Th):Decidable (og outs st kd t):=inferInstanceAs (Decidable (_/\_))
inductive eG (K:Q4) (vs:List V) (H:Hp) (Q:VK) (_E:XK):Prop
 | mk (oa pa:Q7) (Al:List Q7) (outs:List (Ru×Int)) (t:Th) (st kd:Int) (Aj:vs=[.ref oa,.ref pa,.int st,.int kd]) (Ak:SqT K H oa (Al.map V.ref)) (An:KsAt H outs Al) (Az:At H t pa) (AR:t.size<=100000) (Bh:og outs st kd t) (Cg:∀ H',L2.Same H H'->Q .non H'):eG K vs H Q _E
def jV (K:Q4):Sp:=eG K
theorem fb:aV P w K mg base CX0 5 T.g_check_pattern.f T.g_check_pattern.d ["outs","pattern","states","kids"] (jV K):=by
 refine T.g_check_pattern.F.ok j1 (fun vs H Q E h=>?_) (fun Ag A outer s H vs Q E hr h=>?_)
 · obtain ⟨oa,pa,Al,outs,t,st,kd,rfl,_⟩:=h;rfl
 obtain ⟨oa,pa,Al,outs,t,st,kd,rfl,hS,AE,hA,hsz,hok,q⟩:=h
 refine ⟨_,(ad (aS (ci (aQ (pcF T.g_is_small (rK T) hr (aa (pv 1) ab)) (fun _=>rfl))) (ae bz) aH)
  (ae (aS (ci (aQ (pcF T.g_fits_pattern (lf T) hr (aa (pv 0) (aa (pv 1) (aa (pv 2) (aa (pv 3) ab))))) (fun _=>rfl))) (ae bz) aH))),?_⟩
 try dsimp only [Ar,Ac]
 refine ⟨_,rfl,pa,t,rfl,hA,hsz,fun H1 s1=>⟨_,rfl,?_⟩⟩;rw [decide_eq_true hok.1];refine bA ?_;refine ⟨_,rfl,_,rfl,_,rfl,_,rfl,oa,pa,Al,outs,t,st,kd,rfl,s1.seqT hS,AE.mono (Same.kt s1),hA.mono (Same.kt s1),hsz,fun H2 s2=>⟨_,rfl,?_⟩⟩;rw [hok.2];exact bA (q H2 (s1.trans s2))
def qi (ins outs:List (Ru×Int)) (st:Int) (row:List Th):Prop:=row.length=ins.length/\∀ (j:Nat) (t:Th) (k:Ru×Int),row[j]?=some t->ins[j]?=some k->og outs st k.2 t
inductive f6 (K:Q4) (vs:List V) (H:Hp) (Q:VK) (_E:XK):Prop
 | mk (ia oa ra:Q7) (Aq Al Af:List Q7) (ins outs:List (Ru×Int)) (row:List Th) (st:Int) (Aj:vs=[.ref ia,.ref oa,.ref ra,.int st]) (Ak:SqT K H ia (Aq.map V.ref)) (An:KsAt H ins Aq) (Az:SqT K H oa (Al.map V.ref)) (AR:KsAt H outs Al) (Bh:H ra=some (.tup (Af.map V.ref))) (Cg:Ats H row Af) (DG:(∀ t∈row,t.size<=100000)) (G0:qi ins outs st row) (Kz:∀ H',L2.Same H H'->Q .non H'):f6 K vs H Q _E
def mP (K:Q4):Sp:=f6 K
theorem l5:aV P w K mg base CX0 6 T.g_check_state.f T.g_check_state.d ["ins","outs","patterns","states"] (mP K):=by
 refine T.g_check_state.F.ok dR (fun vs H Q E h=>?_) (fun Ag A outer s H vs Q E hr h=>?_)
 · obtain ⟨ia,oa,ra,Aq,Al,Af,ins,outs,row,st,rfl,_⟩:=h;rfl
 obtain ⟨ia,oa,ra,Aq,Al,Af,ins,outs,row,st,rfl,hI,BS,hO,CC,er,Ae,hsz,hok,q⟩:=h
 refine ⟨_,(ad (aS (aD dO (av ao rfl T.n_len RG (aa (pv 2) ab)) (av ao rfl T.n_len RG (aa (pv 0) ab)) (aE _)) (ae bz) aH)
  (ae (br RM rfl (vZ rfl T.n_zip (aa (pv 0) (aa (pv 2) ab))) (cQ rfl (aL (aq (i:=4) dR.nd rfl (Rp rfl)) (aL (aq (i:=5) dR.nd rfl (Rp rfl)) bX))) (ae (aT (pcF T.g_check_pattern (fb T) hr (aa (pv 1) (aa (pv 5) (aa (pv 3) (aa (az aI (pv 4) ag (fun _ _=>rfl)) ab)))))))))),?_⟩
 try dsimp only [Ar,Ac]
 have A':ins.length=Aq.length:=Rx BS;have AI:Af.length=row.length:=Ae.length;refine ⟨_,rfl,ra,_,rfl,.inr (SqT.of er),_,rfl,ia,_,rfl,.inr hI,rfl,_,rfl,?_⟩;refine cA (fun c=>?_) (fun c=>?_)
 · refine absurd hok (fun z=>?_)
   have hz:((Af.map V.ref).length:Int)=((Aq.map V.ref).length:Int):=by
    rw [Q0,Q0];have:=z.1;omega
   rw [hz] at c;simp at c
 · have hlen:row.length=ins.length:=by
    by_cases z:V.int ((Af.map V.ref).length:Int)=V.int ((Aq.map V.ref).length:Int)
    · have z':=V.int.inj z;rw [Q0,Q0] at z';omega
    · exact absurd (by simpa using z) c
   refine ⟨_,rfl,_,rfl,ia,ra,rfl,⟨_,hI⟩,⟨_,SqT.of er⟩,?_⟩
   refine pp ins.length (fun j σ H7=>Ex2 fun c4 c5=>An3 (σ=[some (.ref ia),some (.ref oa),some (.ref ra),some (.int st),c4,c5]) (L2.Same H H7) (∀ (j':Nat) (t:Th) (k:Ru×Int),j'<j->row[j']?=some t->ins[j']?=some k->og outs st k.2 t))
    ⟨none,none,rfl,.refl _,fun j' t k h=>absurd h (Nat.not_lt_zero _)⟩ (fun j σ H7 hj ⟨_,_,_,s7,_⟩=>⟨_,_,_,_,s7.seqT hI,SqT.of (s7 _ _ er),Q1 (by rw [Q0];omega),Q1 (by rw [Q0];omega)⟩) (fun σ H7 ⟨_,_,_,s7,_⟩=>⟨_,_,s7.seqT hI,SqT.of (s7 _ _ er),.inl (by rw [Q0];omega)⟩) ?_ ?_
   · rintro j x σ H7 H8 hj ⟨c4,c5,rfl,s7,Ai⟩ ⟨p2,x1,y1,DV,rfl,rfl,FI,Km⟩;refine hid fun ZZ kZ=>?_;obtain ⟨ka,rfl,AQ⟩:=ba (FI _ (s7.seqT hI));obtain ⟨ta,rfl,Co⟩:=ba (Km _ (SqT.of (s7 _ _ er)));obtain ⟨k,hk,ek⟩:=P2.get' BS AQ;obtain ⟨t,ht,Au⟩:=Ae.get Co;refine kZ ?_;have s8:L2.Same H7 (upd H7 p2 (.tup [.ref ka,.ref ta])):=ai DV _;have e8:(upd H7 p2 (.tup [.ref ka,.ref ta])) p2=some (.tup [.ref ka,.ref ta]):=ac;generalize (upd H7 p2 (.tup [.ref ka,.ref ta]))=H8 at s8 e8 ⊢;have G7:=s7.trans s8;refine ⟨p2,_,rfl,SqT.of e8,rfl,_,_,rfl,_,_,rfl,rfl,?_⟩;refine ⟨_,rfl,_,rfl,_,rfl,_,rfl,ka,_,1,_,rfl,rfl,SqT.of (G7 _ _ ek),at1,oa,ta,Al,outs,t,st,k.2,rfl,G7.seqT hO,CC.mono (Same.kt G7),Au.mono (Same.kt G7),hsz t (Rb ht),hok.2 j t k ht hk,fun H9 s9=>?_⟩
     · refine ⟨_,_,rfl,G7.trans s9,fun j' t' k' Bl D0 B5=>?_⟩;by_cases hz:j'<j
       · exact Ai j' t' k' hz D0 B5
       · have:j'=j:=by omega
         subst this;rw [ht] at D0;cases D0;rw [hk] at B5;cases B5;exact hok.2 j' t k ht hk
   · rintro σ H7 ⟨c4,c5,rfl,s7,Ai⟩;exact q H7 s7
def LRow (H:Hp) (row:List Th) (a:Q7):Prop:=∃ Af:List Q7,H a=some (.lst (Af.map V.ref))/\Ats H row Af
theorem LRow.mono {H H':Hp} (s:L2.Same H H') {row:List Th} {a:Q7} (h:LRow H row a):LRow H' row a:=by
 obtain ⟨Af,h1,h2⟩:=h;exact ⟨Af,s _ _ h1,h2.mono (Same.kt s)⟩
def sF (ins outs:List (Ru×Int)) (head:Th) (rows:List (List Th)):Prop:=rows.length<=20/\og outs (rows.length:Nat) 1 head/\∀ row∈rows,qi ins outs (rows.length:Nat) row
inductive iy (K:Q4) (vs:List V) (H:Hp) (Q:VK) (_E:XK):Prop
 | mk (ia oa ha ru:Q7) (Aq Al AW:List Q7) (ins outs:List (Ru×Int)) (head:Th) (rows:List (List Th)) (Aj:vs=[.ref ia,.ref oa,.ref ha,.ref ru]) (Ak:kg K H ins ia Aq) (An:cy ins=true) (Az:kg K H outs oa Al) (AR:cy outs=true) (Bh:At H head ha) (Cg:head.size<=100000) (DG:H ru=some (.lst (AW.map V.ref))) (G0:R3 (LRow H) rows AW) (Kz:rows.length<=1000) (G8:(∀ row∈rows,∀ t∈row,t.size<=100000)) (KA:sF ins outs head rows) (O0:∀ (r:Q7) (H':Hp),L2.Same H H'->Bk H' ins outs head rows r->Q (.ref r) H'):iy K vs H Q _E
def pz (K:Q4):Sp:=iy K
set_option maxHeartbeats 2000000 in
theorem o7:aV P w K mg base CX0 7 T.g_made_book.f T.g_made_book.d ["ins","outs","head","rules"] (pz K):=by
 refine T.g_made_book.F.ok cO (fun vs H Q E h=>?_) (fun Ag A outer s H vs Q E hr h=>?_)
 · obtain ⟨ia,oa,ha,ru,Aq,Al,AW,ins,outs,head,rows,rfl,_⟩:=h;rfl
 obtain ⟨ia,oa,ha,ru,Aq,Al,AW,ins,outs,head,rows,rfl,hI,gi,hO,go,hd,Ki,KC,Bf,II,O1,D2,q⟩:=h
 refine ⟨_,(ad (ar (i:=4) cO.nd rfl (Rp rfl) (pcF T.g_kinds_of (kB T) hr (aa (pv 0) ab)))
  (ad (ar (i:=5) cO.nd rfl (Rp rfl) (pcF T.g_kinds_of (kB T) hr (aa (pv 1) ab)))
  (ad (ar (i:=6) cO.nd rfl (Rp rfl) (bf bp rfl T.n_tuple R4 (aa (bG (N:=[QZ "patterns"]) (js:=[none]) (g:=(aG 0)) (tt:=bn) (te:=(tCB (fun xs H Q=>∃ p ys,xs=[.ref p]/\((SqL K H p ys/\∀ l,H l=none->Q (.ref l) (upd H l (.tup ys)))∨(SqT K H p ys/\Q (.ref p) H))) (b8 (bV 0) eR))) rfl (cg rfl (by decide +kernel) (by decide +kernel) rfl rfl rfl) (df (pv 3)) (fun _ _ _ _ _ _=>(aq (i:=0) aaA rfl (Rp rfl))) (aX rfl) (fun _ _ _ _ _ _=>bN) (fun _ _ _ _ _ _=>(bf bp rfl T.n_tuple R4 (aa (pv 0) ab)))) ab)))
  (ad (aS (aD nH (av ao rfl T.n_len RG (aa (pv 6) ab)) (cw (v:=.int (20)) rfl T.c_MOST_STATES.choose_spec ⟨_,rfl⟩) (aE _)) (ae bz) aH)
  (ad (aT (pcF T.g_check_pattern (fb T) hr (aa (pv 5) (aa (pv 2) (aa (av ao rfl T.n_len RG (aa (pv 6) ab)) (aa ag ab))))))
  (ad (br RM rfl (db (pv 6)) (aq (i:=7) cO.nd rfl (Rp rfl)) (ae (aT (pcF T.g_check_state (l5 T) hr (aa (pv 4) (aa (pv 5) (aa (pv 7) (aa (av ao rfl T.n_len RG (aa (pv 6) ab)) ab))))))))
  (ae (ax (bg (aa (pv 4) (aa (pv 5) (aa (pv 2) (aa (pv 6) ab))))))))))))),?_⟩
 try dsimp only [Ar,Ac]
 have BQ:rows.length=AW.length:=Rx Bf;refine hid fun ZZ kZ=>?_;obtain ⟨O2,BS,O3,O4⟩:=hI;obtain ⟨O5,CC,O6,O7⟩:=hO;refine kZ ?_;refine ⟨_,rfl,ia,Aq,ins,rfl,⟨O2,BS,O3,O4⟩,gi,fun ti H1 s1 ei=>?_⟩;refine ⟨_,rfl,oa,Al,outs,rfl,⟨?_,CC.mono (Same.kt s1),O6,O7⟩,go,fun to H2 s2 eo=>?_⟩
 · rcases O5 with h | h
   · exact .inl (s1.seq h)
   · exact .inr (s1.seqT h)
 have G9:=s1.trans s2;have D4:=G9 _ _ KC;refine ⟨_,rfl,ru,rfl,⟨_,SqL.of D4⟩,lx (F:=RowAt) (xs:=AW.map V.ref) rows (fun H1 H2 z p kt h=>h.mono kt) (by rw [Q0];omega) (by rw [Q0];omega) (fun i Hx sx hi=>⟨_,_,SqL.of (sx _ _ D4),Q1 hi⟩) (fun Hx sx=>⟨_,SqL.of (sx _ _ D4),Q8 _⟩) (fun i Hx x Hy sx hi hy=>⟨hy.1,hy.2 _ (SqL.of (sx _ _ D4))⟩) (fun i y row Hx R W' hy E8 sx hR=>?_) (fun D H3 bs hD s3 eD G5=>?_)⟩
 · obtain ⟨la,rfl,Bu⟩:=ba hy;obtain ⟨Fb,Es,hl⟩:=P2.get' Bf Bu;rw [E8] at Es;cases Es;obtain ⟨Af,e1,h1⟩:=hl.mono (G9.trans sx);exact ⟨_,rfl,la,_,rfl,.inl ⟨SqL.of e1,fun l C9=>hR _ l (ai C9 _) ⟨Af,ac,h1.mono (Same.kt (ai C9 _))⟩⟩⟩
 have BH:rows.length=bs.length:=Rx G5;refine ⟨D,_,rfl,.inl ⟨SqL.of eD,fun rt O8=>?_⟩⟩;have s4:L2.Same H3 (upd H3 rt (.tup (bs.map V.ref))):=ai O8 _;have e4:(upd H3 rt (.tup (bs.map V.ref))) rt=some (.tup (bs.map V.ref)):=ac;generalize (upd H3 rt (.tup (bs.map V.ref)))=H4 at s4 e4 ⊢;have KD:=s3.trans s4;have G':=G9.trans KD;have Mu:R3 (RowAt H4) rows bs:=P2.mp (fun _ _ e=>e.mono (Same.kt s4)) G5;have KG:((bs.map V.ref).length:Int)=(rows.length:Nat):=by rw [Q0,BH]
 refine ⟨_,rfl,rt,_,rfl,.inr (SqT.of e4),_,_,rfl,rfl,_,rfl,?_⟩;rw [KG];refine cA (fun c=>?_) (fun c=>?_)
 · refine absurd D2 (fun z=>?_);have:=of_decide_eq_true c;have:=z.1;omega
 have Iy:rows.length<=20:=by
  by_cases z:((rows.length:Nat):Int) > 20
  · exact absurd (decide_eq_true z) c
  · omega
 have KH:=KD _ _ eo;have Mv:=(s2.trans KD) _ _ ei;refine ⟨_,rfl,_,rfl,_,rfl,rt,_,rfl,.inr (SqT.of e4),to,ha,Al,outs,head,_,1,rfl,SqT.of KH,CC.mono (Same.kt G'),hd.mono (Same.kt G'),Ki,by rw [KG];exact D2.2.1,?_⟩
 · intro H5 s5;dsimp only [yn];have Mw:=G'.trans s5;refine ⟨_,rfl,rt,rfl,⟨_,SqT.of (s5 _ _ e4)⟩,?_⟩
   refine pH (K:=K) (a:=rt) (xs:=bs.map V.ref) (fun i σ H6=>Ex1 fun c7=>An3 (σ=[some (.ref ia),some (.ref oa),some (.ref ha),some (.ref ru),some (.ref ti),some (.ref to),some (.ref rt),c7]) (L2.Same H4 H6) (∀ row∈rows.take i,qi ins outs (rows.length:Nat) row))
    ⟨none,rfl,s5,fun row h=>by rw [SG] at h;cases h⟩ (fun i σ H6 _ ⟨_,_,s6,_⟩=>SqT.of (s6 _ _ e4)) ?_ ?_
   · rintro i x σ H6 hx ⟨c7,rfl,s6,Ai⟩;refine hid fun ZZ kZ=>?_;obtain ⟨ra,rfl,FJ⟩:=ba hx;obtain ⟨row,Ae,Af,er,Au⟩:=P2.get' Mu FJ;refine kZ ?_;have E9:=Rb Ae;have Mx:=G'.trans s6;refine ⟨_,rfl,_,rfl,_,rfl,_,rfl,rt,_,rfl,.inr (SqT.of (s6 _ _ e4)),ti,to,ra,Aq,Al,Af,ins,outs,row,_,rfl,SqT.of (s6 _ _ Mv),BS.mono (Same.kt Mx),SqT.of (s6 _ _ KH),CC.mono (Same.kt Mx),s6 _ _ er,Au.mono (Same.kt s6),O1 row E9,by rw [KG];exact D2.2.2 row E9,?_⟩
     · intro H7 s7;refine ⟨_,rfl,s6.trans s7,fun r' AV=>?_⟩;rw [take_snoc Ae] at AV;rcases RE.mp AV with AV | AV
       · exact Ai r' AV
       · rw [RH.mp AV];exact D2.2.2 row E9
   · rintro σ H6 ⟨c7,rfl,s6,Ai⟩;rw [R0 (by rw [Q0];omega)] at Ai;refine ⟨_,rfl,_,rfl,_,rfl,_,rfl,aj (by show 4<=1000000;decide),fun r AV=>?_⟩;have s7:=s6.trans (ai AV (.tup [.ref ti,.ref to,.ref ha,.ref rt]));have IJ:=G'.trans s7;exact q r _ IJ ⟨ti,to,ha,rt,Aq,Al,bs,ac,s7 _ _ Mv,BS.mono (Same.kt IJ),s7 _ _ KH,CC.mono (Same.kt IJ),hd.mono (Same.kt IJ),s7 _ _ e4,P2.mp (fun _ _ e=>e.mono (Same.kt s7)) Mu⟩
def rk:Sp:=fun vs H Q _=>∃ z:Ru,vs=[.str z]/\z.length<=20000/\∀ (r:Q7) (H':Hp),L2.Same H H'->H r=none->H' r=some (.lst ((BB.wordsOf z).map V.str))->Q (.ref r) H'
theorem ja (c:Nat) (z:List Nat) (hz:z.length=3) (l:List Nat):(dZ c z l).length<=3 * l.length:=by
 unfold dZ;induction l with
 | nil=>simp
 | cons d l ih =>
   rw [SA,Ra,Q3];split
   · omega
   · show 1+_<=_;omega
theorem bu (l:List Nat):(ofL l).length=l.length:=by unfold ofL;show l.toArray.size=l.length;simp
theorem qJ (l:List (List Nat)):(l.map ofL).filter (fun x=>!decide (V.str x=V.str (QZ "")))=(l.filter fun p=>!p.isEmpty).map ofL:=by
 induction l with
 | nil=>rfl
 | cons p l ih =>
   rw [Rr,S2,S2,ih];cases p with
   | nil=>rfl
   | cons d p =>
     have:decide (V.str (ofL (d::p))=V.str (QZ ""))=false:=decide_eq_false fun z=>by
      have h1:=congrArg (fun w:Ru=>w.cps.toList) (V.str.inj z);rw [show (ofL (d::p)).cps.toList=d::p from aM _] at h1;cases h1
     rw [this];rfl
set_option maxHeartbeats 1000000 in
theorem qX:aV P w K mg base CX0 1 T.g_words_of.f T.g_words_of.d ["text"] rk:=by
 refine T.g_words_of.F.ok gL (fun vs H Q E h=>?_) (fun Ag A outer s H vs Q E hr h=>?_)
 · obtain ⟨z,rfl,_⟩:=h;rfl
 obtain ⟨z,rfl,hz,q⟩:=h
 refine ⟨_,(ad (ar (i:=1) gL.nd rfl (Rp rfl) (pv 0))
  (ad (xY RM rfl (by decide +kernel) (zd (i:=2) (j:=1) gL.nd rfl rfl (by decide) rfl rfl))
  (ae (ax (bG (N:=[QZ "word"]) (js:=[none]) (g:=(aG 0)) (tt:=(l4 (tOp (rNe) (bV 0) (tC (.str (QZ "")))))) (te:=(bV 0)) rfl (cg rfl (by decide +kernel) (by decide +kernel) rfl rfl rfl) (df (bi RW VT VR lI (pv 1) (aa aA ab))) (fun _ _ _ _ _ _=>(aq (i:=0) vE rfl (Rp rfl))) (aX rfl) (fun _ _ _ _ _ _=>g8 (aD dO (pv 0) aA (aE _))) (fun _ _ _ _ _ _=>(pv 0))))))),?_⟩
 try dsimp only [Ar,Ac]
 refine ⟨_,rfl,?_⟩;dsimp only [aG];have Ih:z.cps.toList.length=z.length:=RD;have l1:=ja 40 [32,40,32] rfl z.cps.toList;have l2:=ja 41 [32,41,32] rfl (dZ 40 [32,40,32] z.cps.toList);have l3:=ja 44 [32,44,32] rfl (dZ 41 [32,41,32] (dZ 40 [32,40,32] z.cps.toList));refine ⟨fun i σ H'=>An2 (H'=H) (((i=0/\σ=[some (.str z),some (.str z),none])∨(∃ c,i=1/\σ=[some (.str z),some (.str (ofL (dZ 40 [32,40,32] z.cps.toList))),c])∨(∃ c,i=2/\σ=[some (.str z),some (.str (ofL (dZ 41 [32,41,32] (dZ 40 [32,40,32] z.cps.toList)))),c])∨(∃ c,i=3/\σ=[some (.str z),some (.str (ofL (rep3 z.cps.toList))),c]))),⟨rfl,.inl ⟨rfl,rfl⟩⟩,?_⟩;rintro i σ H' ⟨rfl,⟨rfl,rfl⟩ | ⟨c,rfl,rfl⟩ | ⟨c,rfl,rfl⟩ | ⟨c,rfl,rfl⟩⟩
 · refine .inr ⟨40,rfl,z,40,rfl,rfl,by decide,by omega,rfl,.inr (.inl ⟨_,rfl,rfl⟩)⟩
 · refine .inr ⟨41,rfl,_,41,rfl,rfl,by decide,by rw [bu];omega,rfl,.inr (.inr (.inl ⟨_,rfl,by rw [aM];rfl⟩))⟩
 · refine .inr ⟨44,rfl,_,44,rfl,rfl,by decide,by rw [bu];omega,rfl,.inr (.inr (.inr ⟨_,rfl,by rw [aM];rfl⟩))⟩
 · refine .inl ⟨rfl,?_⟩;refine ⟨_,rfl,rfl,ofL (rep3 z.cps.toList),QZ " ",rfl,rfl,rfl,by rw [bu];unfold rep3;omega,fun p hp=>?_⟩
   have Ct:Tn (ofL (rep3 z.cps.toList)) (QZ " ")=(aR 32 (rep3 z.cps.toList)).map ofL:=by
    have h1:QZ " "=⟨#[32]⟩:=rfl;rw [h1,ku _ (by decide),aM]
   have Fc:(aR 32 (rep3 z.cps.toList)).length<=1000000:=by
    have hle:∀ l:List Nat,(aR 32 l).length<=l.length+1:=by
     intro l;induction l with
     | nil=>exact Q8 _
     | cons d l ih =>
       rw [aR];obtain ⟨p,r,e⟩:=cx 32 l;rw [e] at ih ⊢;rw [Q3] at ih;split
       · rw [Q3,Q3,Q3];omega
       · rw [Q3,Q3];omega
    have:=hle (rep3 z.cps.toList);unfold rep3 at this ⊢;omega
   have s1:L2.Same H' (upd H' p (.lst ((Tn (ofL (rep3 z.cps.toList)) (QZ " ")).map V.str))):=ai hp _;have e1:(upd H' p (.lst ((Tn (ofL (rep3 z.cps.toList)) (QZ " ")).map V.str))) p=some (.lst (((aR 32 (rep3 z.cps.toList)).map ofL).map V.str)):=by rw [ac,Ct]
   generalize (upd H' p (.lst ((Tn (ofL (rep3 z.cps.toList)) (QZ " ")).map V.str)))=H1 at s1 e1 ⊢;refine ⟨p,rfl,⟨_,SqL.of e1⟩,jd ((aR 32 (rep3 z.cps.toList)).map ofL) (fun x=>!decide (V.str x=V.str (QZ ""))) V.str (SqL.of e1) (by rw [Q0,Q0,Q0]) (by rw [Q0,Q0];exact Fc) (fun i x y H2 R hx hy sm r=>?_) (fun i x y H2 R hx hy _ sm r=>?_) (fun D hD=>?_)⟩
   · rw [Rg,hy] at hx;cases hx;exact ⟨_,rfl,rfl,_,rfl,r⟩
   · rw [Rg,hy] at hx;cases hx;exact ⟨_,rfl,r⟩
   · rw [qJ];exact q D _ (s1.trans (ai hD _)) (s1.free hD) ac
def lC:Sp:=fun vs H Q _=>∃ n:Int,vs=[.str (aJ n)]/\0<=n/\n<10/\∀ H',L2.Same H H'->Q (.int n) H'
theorem digit_eq {n:Int} (h0:0<=n) (h1:n<10):aJ n=⟨#[48+n.toNat]⟩:=g6 (cr h0 h1)
theorem uE {n:Int} (h0:0<=n) (h1:n<10):PySem.intText? (aJ n)=some n:=by
 rcases (by omega:n=0∨n=1∨n=2∨n=3∨n=4∨n=5∨n=6∨n=7∨n=8∨n=9) with rfl | rfl | rfl | rfl | rfl | rfl | rfl | rfl | rfl | rfl <;> decide +kernel
set_option maxHeartbeats 1000000 in
theorem cR:aV P w K mg base CX0 1 T.g_read_number.f T.g_read_number.d ["word"] lC:=by
 refine T.g_read_number.F.ok gK (fun vs H Q E h=>?_) (fun Ag A outer s H vs Q E hr h=>?_)
 · obtain ⟨n,rfl,_⟩:=h;rfl
 obtain ⟨n,rfl,h0,h1,q⟩:=h
 refine ⟨_,(ad (jy (i:=1) (N:=[QZ "sign"]) (js:=[none]) (g:=(aG 0)) (tt:=(l4 (pX (wg) (wg) (tC (.str (QZ "0"))) (bV 0) (tC (.str (QZ "9")))))) (te:=(bV 0)) gK.nd rfl (Rp rfl) rfl (cg rfl (by decide +kernel) (by decide +kernel) rfl rfl rfl) (tB (pv 0)) (fun _ _ _ _ _ _=>(aq (i:=0) aaz rfl (Rp rfl))) (aX rfl) (fun _ _ _ _ _ _=>g8 (jh hZ hZ aA (pv 0) aA)) (fun _ _ _ _ _ _=>(pv 0)))
  (ad (aS (PW.pt (eF (ci (jh iq iq ag (av fK rfl T.n_len RG (aa (pv 0) ab)) (cw (v:=.int (3)) rfl T.c_MOST_FIGURES.choose_spec ⟨_,rfl⟩))) (dz (aD dO (av ao rfl T.n_len RG (aa (pv 1) ab)) (av fK rfl T.n_len RG (aa (pv 0) ab)) (aE _))))) (ae bz) aH)
  (ad (aS (PW.pt (pV (aD cI (az pT (pv 0) ag (fun _ _=>rfl)) aA (aE _)) (ly (aD dO (pv 0) aA (aE _))))) (ae bz) aH)
  (ae (ax (bf uG rfl T.n_int V5 (aa (pv 0) ab))))))),?_⟩
 try dsimp only [Ar,Ac]
 have hi:=uE h0 h1;have hz:aJ n=QZ "0"∨aJ n≠QZ "0":=Classical.em _;have hd:=digit_eq h0 h1;generalize aJ n=z at hi hz hd ⊢;have Em:z.cps.toList=[48+n.toNat]:=by rw [hd]
 have Il:z.length=1:=by rw [hd];rfl
 have GJ:z.cps.size=1:=Il;refine ⟨_,rfl,z,rfl,oY (xs:=z.cps.toList.map fun c=>V.str ⟨#[c]⟩) z.cps.toList (fun c=>V.str ⟨#[c]⟩) (by rw [Q0]) (by rw [Q0,Em];show 1<=1000000;decide) (fun i Hx sx hi=>by rw [Q0,RD] at hi;exact hi) (fun Hx sx=>by rw [Q0,RD];exact rfl) (fun i Hx x Hy sx hi hy=>?_) (fun i x c Hx R W' hx hc sx hR=>?_) (fun D H1 hD s1 e1=>?_)⟩
 · obtain ⟨e,c,hc,rfl⟩:=hy;exact ⟨e,by rw [Rg,S9,hc];rfl⟩
 · rw [Rg,hc] at hx;cases hx;have Iu:=Rb hc;rw [Em] at Iu;have Bm:=RH.mp Iu;refine ⟨_,rfl,_,_,rfl,rfl,_,rfl,?_⟩;rw [show (QZ "0").cps.toList=[48] by decide +kernel,oJ 48 c,decide_eq_true (show 48<=c by omega)];refine cE ⟨_,_,rfl,rfl,?_⟩;rw [show (QZ "9").cps.toList=[57] by decide +kernel,oJ c 57,decide_eq_true (show c<=57 by omega)];exact ⟨_,rfl,cE ⟨_,rfl,hR _ (.refl _)⟩⟩
 dsimp only [aG];refine ⟨_,rfl,z,rfl,aj (by omega),_,_,rfl,rfl,_,rfl,?_⟩;rw [decide_eq_true (show (1:Int)<=((z.length:Nat):Int) by omega)];refine cE ⟨_,_,rfl,rfl,_,rfl,?_⟩;rw [decide_eq_true (show ((z.length:Nat):Int)<=3 by omega)];refine bA ?_;have Et:((z.cps.toList.map fun c=>V.str ⟨#[c]⟩).length:Int)=((z.length:Nat):Int):=by rw [Q0,RD,GJ,Il]
 refine ⟨_,rfl,D,_,rfl,.inl (SqL.of e1),_,rfl,z,rfl,aj (by omega),rfl,_,rfl,?_⟩;rw [Et,decide_eq_true rfl];refine bA ?_;dsimp only [eg];refine ⟨_,rfl,z,0,48+n.toNat,rfl,rfl,aj (by omega),by rw [Em];rfl,rfl,_,rfl,?_⟩;refine cA (fun c=>?_) (fun c=>?_)
 · have c':(⟨#[48+n.toNat]⟩:Ru)=QZ "0":=V.str.inj (of_decide_eq_true c);refine ⟨_,rfl,rfl,_,rfl,?_⟩;rw [decide_eq_true (show V.str z=V.str (QZ "0") by rw [hd,c'])];refine bA ?_;exact ⟨_,rfl,z,n,rfl,hi,by omega,q H1 s1⟩
 · exact ⟨_,rfl,z,n,rfl,hi,by omega,q H1 s1⟩
def yL (it:List Ru×Stp):Prop:=(∃ c,it=([c],.sg c)/\(c=lpar∨c=comma∨c=rpar))∨(∃ n,it=([n],.th (.knot n []))/\bP n=true)∨∃ s k:Int,it=([aJ s,dot,aJ k],.th (.call s k))/\0<=s/\s<10/\0<=k/\k<10
def StV (H:Hp):Stp->V->Prop
 | .sg c,v=>v=.str c
 | .th t,v=>∃ a,v=.ref a/\At H t a
theorem StV.mono {H H':Hp} (k:KT H H'):∀ {x:Stp} {v:V},StV H x v->StV H' x v
 | .sg c,v,h=>h
 | .th t,v,⟨a,e,h⟩=>⟨a,e,h.mono k⟩
theorem nE {n:Ru} (h:okW n) (h8:n.length<=8):bP n=true:=by
 have h0:=h.2;unfold bP low;rw [decide_eq_true (show 1<=n.length/\n.length<=8 from ⟨by omega,h8⟩),UW,TB];exact fun c hc=>decide_eq_true (h.1 c hc)
mutual
theorem nD:∀ {t:Th},t.Rd->∀ it∈t.stP,yL it
 | .call s k,h,it,hi=>by
   rw [Th.Rd] at h;rw [Th.stP] at hi;exact .inr (.inr ⟨s,k,RH.mp hi,h⟩)
 | .knot n ts,h,it,hi=>by
   rw [Th.Rd] at h;rw [Th.stP] at hi;rcases Rq.mp hi with rfl | hi
   · exact .inr (.inl ⟨n,rfl,nE h.1 h.2.1⟩)
   · by_cases hz:ts=[]
     · rw [if_pos hz] at hi;cases hi
     · rw [if_neg hz] at hi;rcases Rq.mp hi with rfl | hi
       · exact .inl ⟨lpar,rfl,.inl rfl⟩
       · rcases RE.mp hi with hi | hi
         · exact mE h.2.2 it hi
         · exact .inl ⟨rpar,RH.mp hi,.inr (.inr rfl)⟩
theorem mE:∀ {ts:List Th},Rds ts->∀ it∈i9 ts,yL it
 | [],_,it,hi=>by rw [i9] at hi;cases hi
 | t::ts,h,it,hi=>by
   rw [Rds] at h;rw [i9] at hi;rcases RE.mp hi with hi | hi
   · exact nD h.1 it hi
   · by_cases hz:ts=[]
     · rw [if_pos hz] at hi;cases hi
     · rw [if_neg hz] at hi;rcases Rq.mp hi with rfl | hi
       · exact .inl ⟨comma,rfl,.inr (.inl rfl)⟩
       · exact mE h.2 it hi
end
inductive ii (vs:List V) (H:Hp) (Q:VK) (_E:XK):Prop
 | mk (wl:Q7) (a b:Int) (Aj:vs=[.ref wl]) (Ak:H wl=some (.lst [.str (aJ a),.str dot,.str (aJ b)])) (An:0<=a) (Az:a<10) (AR:0<=b) (Bh:b<10) (Cg:∀ (r:Q7) (H':Hp),L2.Same H H'->At H' (.call a b) r->Q (.ref r) H'):ii  vs H Q _E
def pD:Sp:=ii
inductive jD (vs:List V) (H:Hp) (Q:VK) (_E:XK):Prop
 | mk (wl:Q7) (its:List (List Ru×Stp)) (Aj:vs=[.ref wl]) (Ak:H wl=some (.lst (((its.map (·.1)).flatten).map V.str))) (An:(∀ it∈its,yL it)) (Az:its.length<=100000) (AR:∀ (r:Q7) (xs:List V) (H':Hp),L2.Same H H'->H' r=some (.lst xs)->R3 (StV H') (its.map (·.2)) xs->Q (.ref r) H'):jD  vs H Q _E
def qA:Sp:=jD
theorem in3 (c:Ru):inV (.str c) [.str (QZ "("),.str (QZ ","),.str (QZ ")")]=decide (c=lpar∨c=comma∨c=rpar):=by
 have e:∀ d:Ru,eqV (.str d) (.str c)=decide (c=d):=fun d=>by
  show (d == c)=_;by_cases h:c=d
  · subst h;simp
  · rw [decide_eq_false h];exact beq_false_of_ne fun z=>h z.symm
 unfold inV;simp only [Wu,List.any_nil,Bool.or_false,e];rw [<- Bool.decide_or,<- Bool.decide_or];rfl
def StI (H:Hp) (its:List (List Ru×Stp)) (wl sl:Q7) (m:Nat) (σ:St) (H2:Hp):Prop:=∃ (i:Nat) (xs:List V),σ=[some (.ref wl),some (.ref sl),some (.int (((its.take i).map (·.1)).flatten.length:Nat))]/\L2.Same H H2/\H2 sl=some (.lst xs)/\R3 (StV H2) ((its.take i).map (·.2)) xs/\i<=its.length/\m=its.length - i
def StN (H:Hp) (its:List (List Ru×Stp)) (wl sl:Q7) (i:Nat) (σ:St) (H2:Hp):Prop:=∃ m',m'<its.length - i/\StI H its wl sl m' σ H2
theorem oT:aV P w K mg base CX0 2 T.g_read_call.f T.g_read_call.d ["words"] pD:=by
 refine T.g_read_call.F.ok pq (fun vs H Q E h=>?_) (fun Ag A outer s H vs Q E hr h=>?_)
 · obtain ⟨wl,a,b,rfl,_⟩:=h;rfl
 obtain ⟨wl,a,b,rfl,e,a0,a1,b0,b1,q⟩:=h
 refine ⟨_,(ad (aS (PW.pt (eF (aD dO (av ao rfl T.n_len RG (aa (pv 0) ab)) ag (aE _)) (dz (aD dO (az aO (pv 0) ag (fun _ _=>rfl)) aA (aE _))))) (ae bz) aH)
  (ae (ax (bg (aa (cw (v:=.str (QZ "?")) rfl T.c_CALL_SIGN.choose_spec ⟨_,rfl⟩) (aa (pcF T.g_read_number (cR T) hr (aa (az aO (pv 0) ag (fun _ _=>rfl)) ab)) (aa (pcF T.g_read_number (cR T) hr (aa (az aO (pv 0) ag (fun _ _=>rfl)) ab)) ab))))))),?_⟩
 try dsimp only [Ar,Ac]
 refine ⟨_,rfl,wl,_,rfl,.inl (SqL.of e),rfl,_,rfl,bA ?_⟩;refine ⟨_,rfl,wl,_,1,.str dot,rfl,rfl,SqL.of e,at1,rfl,_,rfl,?_⟩;rw [decide_eq_true (show V.str dot=V.str (QZ ".") from rfl)];refine bA ?_;dsimp only [eg];refine ⟨_,rfl,wl,_,0,.str (aJ a),rfl,rfl,SqL.of e,at0,a,rfl,a0,a1,fun H1 s1=>?_⟩;refine ⟨_,rfl,wl,_,2,.str (aJ b),rfl,rfl,SqL.of (s1 _ _ e),at2,b,rfl,b0,b1,fun H2 s2=>?_⟩;refine ⟨aj (by show 3<=1000000;decide),fun r AV=>q r _ (s1.trans (s2.trans (ai AV _))) ?_⟩;rw [At];exact ac
set_option maxHeartbeats 2000000 in
theorem qH:aV P w K mg base CX0 3 T.g_steps_of.f T.g_steps_of.d ["words"] qA:=by
 refine T.g_steps_of.F.ok cK (fun vs H Q E h=>?_) (fun Ag A outer s H vs Q E hr h=>?_)
 · obtain ⟨wl,its,rfl,_⟩:=h;rfl
 obtain ⟨wl,its,rfl,ew,hok,hlen,kq⟩:=h
 refine ⟨_,(ad (ar (i:=1) cK.nd rfl (Rp rfl) (bm ab))
  (ad (ar (i:=2) cK.nd rfl (Rp rfl) ag)
  (ad (gv RM (aD im (pv 2) (av ao rfl T.n_len RG (aa (pv 0) ab)) (aE _)) (ae (aS (aD nX (az aO (pv 0) (pv 2) (fun _ _=>rfl)) (bg (aa aA (aa aA (aa aA ab)))) (by with_unfolding_all rfl)) (ad (aT (bi Rk RB RA aN (pv 1) (aa (az aO (pv 0) (pv 2) (fun _ _=>rfl)) ab)))
  (ae (sw (i:=2) cK.nd rfl (Rp rfl) ag pW))) (ae (aS (aQ (pcF T.g_is_name (iP T) hr (aa (az aO (pv 0) (pv 2) (fun _ _=>rfl)) ab)) (fun _=>rfl)) (ad (aT (bi Rk RB RA aN (pv 1) (aa (bg (aa (az aO (pv 0) (pv 2) (fun _ _=>rfl)) ab)) ab)))
  (ae (sw (i:=2) cK.nd rfl (Rp rfl) ag pW))) (ad (aT (bi Rk RB RA aN (pv 1) (aa (pcF T.g_read_call (oT T) hr (aa (bT fP (pv 0) (bR (pv 2)) (bR (am bE (pv 2) ag))) ab)) ab)))
  (ae (sw (i:=2) cK.nd rfl (Rp rfl) ag pW))))))))
  (ae (ax (pv 1)))))),?_⟩
 try dsimp only [Ar,Ac]
 refine ⟨aj (by show 0<=1000000;decide),fun sl DM=>?_⟩;have s1:L2.Same H (upd H sl (.lst [])):=ai DM _;have e1:(upd H sl (.lst [])) sl=some (.lst []):=ac;generalize (upd H sl (.lst []))=H1 at s1 e1 ⊢;dsimp only [aG];refine ⟨StI H its wl sl,⟨_,0,[],rfl,s1,e1,.nil,RJ _,rfl⟩,?_⟩;rintro m σ H2 ⟨i,xs,rfl,s2,e2,FF,hi,rfl⟩;have Dx:=s2 _ _ ew;have Ip:((its.take i).map (·.2)).length=xs.length:=Rx FF;rw [Q0,RP] at Ip;refine ⟨_,rfl,_,rfl,wl,_,rfl,.inl (SqL.of Dx),_,_,rfl,rfl,_,rfl,?_⟩;by_cases A':i<its.length
 · obtain ⟨it,hit⟩:∃ it,its[i]?=some it:=⟨_,Q1 A'⟩;have Ha:=hok it (Rb hit)
   have Bw:(its.map (·.1)).flatten=((its.take i).map (·.1)).flatten++(it.1++((its.drop (i+1)).map (·.1)).flatten):=by
    conv=>lhs;rw [<- List.take_append_drop i its,Sa A']
    rw [Rj,TR,Rr,RR];rw [Q1 A'] at hit;rw [RI hit]
   have Be:((its.take (i+1)).map (·.1)).flatten.length=((its.take i).map (·.1)).flatten.length+it.1.length:=by
    rw [take_snoc hit,Rj,TR,Ra];show _+(it.1++[]).length=_;rw [RC]
   generalize hA:((its.take i).map (·.1)).flatten=A at Bw Be ⊢;generalize hB:((its.drop (i+1)).map (·.1)).flatten=B at Bw;have Av:it.1≠[]:=by rcases Ha with ⟨c,rfl,_⟩ | ⟨n,rfl,_⟩ | ⟨a,b,rfl,_⟩ <;> simp
   have Ax:decide (((A.length:Nat):Int)<(((((its.map (·.1)).flatten).map V.str).length:Nat):Int))=true:=decide_eq_true (by
    rw [Bw,Q0,Ra,Ra];have:=Up.mpr Av;omega)
   rw [Ax];refine cE ⟨StN H its wl sl i,fun Ab H' h=>h,?_⟩
   have Au:∀ (w0:Ru) (ws:List Ru),it.1=w0::ws->atI (((its.map (·.1)).flatten).map V.str) ((A.length:Nat):Int)=some (.str w0):=fun w0 ws e=>at_nonneg (by omega) (by
    rw [SU,Rg,Bw,e,Ts (Q8 _),UK];rfl)
   have fin:∀ (v:V) (H3:Hp),L2.Same H2 H3->StV H3 it.2 v->StN H its wl sl i [some (.ref wl),some (.ref sl),some (.int (((A.length:Nat):Int)+((it.1.length:Nat):Int)))] (upd H3 sl (.lst (xs++[v]))):=fun v H3 s3 hv=>by
    have e3:=s3 _ _ e2;have k4:KT H3 (upd H3 sl (.lst (xs++[v]))):=aW e3;refine ⟨_,by omega,i+1,xs++[v],by rw [Be];push_cast;rfl,aC (s2.trans s3) DM,ac,?_,A',rfl⟩;rw [take_snoc hit,Rj];exact P2.append (P2.mp (fun _ _ e=>StV.mono ((Same.kt s3).trans k4) e) FF) (.cons (StV.mono k4 hv) .nil)
   have My:xs.length<=200000:=by omega
   rcases Ha with ⟨c,rfl,hc⟩ | ⟨n,rfl,hn⟩ | ⟨a,b,rfl,a0,a1,b0,b1⟩
   · refine ⟨_,rfl,_,rfl,wl,_,_,.str c,rfl,rfl,SqL.of Dx,Au c [] rfl,aj (by show 3<=1000000;decide),fun tp C2=>?_⟩;have s3:L2.Same H2 (upd H2 tp (.tup [.str (QZ "("),.str (QZ ","),.str (QZ ")")])):=ai C2 _;have e3:(upd H2 tp (.tup [.str (QZ "("),.str (QZ ","),.str (QZ ")")])) tp=some (.tup [.str (QZ "("),.str (QZ ","),.str (QZ ")")]):=ac;generalize (upd H2 tp (.tup [.str (QZ "("),.str (QZ ","),.str (QZ ")")]))=H3 at s3 e3 ⊢;refine ⟨tp,_,rfl,.inr (SqT.of e3),rfl,rfl,_,rfl,?_⟩;rw [if_neg Rt,in3,decide_eq_true hc];refine cE ?_;have Mz:=s3 _ _ e2;refine ⟨_,rfl,.inl ⟨rfl,_,SqL.of Mz⟩,_,rfl,_,rfl,wl,_,_,.str c,rfl,rfl,SqL.of (s3 _ _ Dx),Au c [] rfl,sl,_,_,rfl,rfl,Mz,aF (by omega),?_⟩;exact ⟨_,rfl,_,_,rfl,rfl,fin _ H3 s3 rfl⟩
   · have D5:low n=true:=by
      unfold bP at hn;exact (TY _ _ |>.mp hn).2
     have DX:¬ (n=lpar∨n=comma∨n=rpar):=by
      rintro (rfl | rfl | rfl) <;> exact absurd hn (by decide +kernel)
     have O9:n.length<=8:=by
      unfold bP at hn;exact (of_decide_eq_true (TY _ _ |>.mp hn).1).2
     have Pa:n≠q:=by rintro rfl;exact absurd hn (by decide +kernel)
     refine ⟨_,rfl,_,rfl,wl,_,_,.str n,rfl,rfl,SqL.of Dx,Au n [] rfl,aj (by show 3<=1000000;decide),fun tp C2=>?_⟩;have s3:L2.Same H2 (upd H2 tp (.tup [.str (QZ "("),.str (QZ ","),.str (QZ ")")])):=ai C2 _;have e3:(upd H2 tp (.tup [.str (QZ "("),.str (QZ ","),.str (QZ ")")])) tp=some (.tup [.str (QZ "("),.str (QZ ","),.str (QZ ")")]):=ac;generalize (upd H2 tp (.tup [.str (QZ "("),.str (QZ ","),.str (QZ ")")]))=H3 at s3 e3 ⊢;refine ⟨tp,_,rfl,.inr (SqT.of e3),rfl,rfl,_,rfl,?_⟩;rw [if_neg Rt,in3,decide_eq_false DX];refine bA ?_;refine ⟨_,rfl,_,rfl,wl,_,_,.str n,rfl,rfl,SqL.of (s3 _ _ Dx),Au n [] rfl,n,rfl,by omega,fun H4 s4=>?_⟩;rw [hn];refine ⟨_,rfl,cE ?_⟩;have BX:=s3.trans s4;have Hb:=BX _ _ e2;refine ⟨_,rfl,.inl ⟨rfl,_,SqL.of Hb⟩,_,rfl,_,rfl,wl,_,_,.str n,rfl,rfl,SqL.of (BX _ _ Dx),Au n [] rfl,aj (by show 1<=1000000;decide),fun np Cr=>?_⟩;have s5:L2.Same H4 (upd H4 np (.tup [.str n])):=ai Cr _;have e5:(upd H4 np (.tup [.str n])) np=some (.tup [.str n]):=ac;generalize (upd H4 np (.tup [.str n]))=H5 at s5 e5 ⊢;have Pb:=s5 _ _ Hb;refine ⟨sl,_,_,rfl,rfl,Pb,aF (by omega),?_⟩;refine ⟨_,rfl,_,_,rfl,rfl,fin _ H5 (BX.trans s5) ⟨np,rfl,?_⟩⟩;rw [At];exact ⟨Pa,[],e5,.nil⟩
   · have MA:=digit_eq a0 a1
     have DX:¬ (aJ a=lpar∨aJ a=comma∨aJ a=rpar):=by
      have hs:sL (aJ a)=[48+a.toNat]:=cr a0 a1;rintro (h | h | h)
      · rw [h,oS] at hs;have:=VN hs;omega
      · rw [h,lX] at hs;have:=VN hs;omega
      · rw [h,pA] at hs;have:=VN hs;omega
     have KI:bP (aJ a)=false:=by
      have:low (aJ a)=false:=by
       rw [MA];show (([48+a.toNat]:List Nat).all fun c=>decide (97<=c/\c<=122))=false;rw [Vf,decide_eq_false (fun z=>by omega)];rfl
      unfold bP;rw [this,Wg]
     have Cj:(aJ a).length=1:=by rw [MA];rfl
     refine ⟨_,rfl,_,rfl,wl,_,_,.str (aJ a),rfl,rfl,SqL.of Dx,Au (aJ a) _ rfl,aj (by show 3<=1000000;decide),fun tp C2=>?_⟩;have s3:L2.Same H2 (upd H2 tp (.tup [.str (QZ "("),.str (QZ ","),.str (QZ ")")])):=ai C2 _;have e3:(upd H2 tp (.tup [.str (QZ "("),.str (QZ ","),.str (QZ ")")])) tp=some (.tup [.str (QZ "("),.str (QZ ","),.str (QZ ")")]):=ac;generalize (upd H2 tp (.tup [.str (QZ "("),.str (QZ ","),.str (QZ ")")]))=H3 at s3 e3 ⊢;refine ⟨tp,_,rfl,.inr (SqT.of e3),rfl,rfl,_,rfl,?_⟩;rw [if_neg Rt,in3,decide_eq_false DX];refine bA ?_;refine ⟨_,rfl,_,rfl,wl,_,_,.str (aJ a),rfl,rfl,SqL.of (s3 _ _ Dx),Au (aJ a) _ rfl,aJ a,rfl,by omega,fun H4 s4=>?_⟩;rw [KI];refine ⟨_,rfl,bA ?_⟩;have BX:=s3.trans s4;have Hb:=BX _ _ e2;refine ⟨_,rfl,.inl ⟨rfl,_,SqL.of Hb⟩,_,rfl,_,rfl,_,rfl,_,rfl,_,_,rfl,rfl,_,rfl,wl,_,rfl,SqL.of (BX _ _ Dx),fun cp Pd=>?_⟩
     have KJ:cB (((its.map (·.1)).flatten).map V.str) (some ((A.length:Nat):Int)) (some (((A.length:Nat):Int)+3))=[.str (aJ a),.str dot,.str (aJ b)]:=by
      rw [Bw];unfold cB;rw [show ((A.length:Nat):Int)+3=(((A.length+3:Nat)):Int) by push_cast;rfl,HT.sIx_nat,HT.sIx_nat];have hl:((A++([aJ a,dot,aJ b]++B)).map V.str).length=A.length+(3+B.length):=by rw [Q0,Ra,Ra];rfl
      rw [hl,Vi (by omega),Vi (by omega),<- List.map_drop,List.drop_left,show A.length+3 - A.length=3 by omega];rfl
     rw [KJ];have s5:L2.Same H4 (upd H4 cp (.lst [.str (aJ a),.str dot,.str (aJ b)])):=ai Pd _;have e5:(upd H4 cp (.lst [.str (aJ a),.str dot,.str (aJ b)])) cp=some (.lst [.str (aJ a),.str dot,.str (aJ b)]):=ac;generalize (upd H4 cp (.lst [.str (aJ a),.str dot,.str (aJ b)]))=H5 at s5 e5 ⊢;refine ⟨cp,a,b,rfl,e5,a0,a1,b0,b1,fun r H6 s6 Pe=>?_⟩;have Pf:=(s5.trans s6) _ _ Hb;refine ⟨sl,_,_,rfl,rfl,Pf,aF (by omega),?_⟩;exact ⟨_,rfl,_,_,rfl,rfl,fin _ H6 (BX.trans (s5.trans s6)) ⟨r,rfl,Pe⟩⟩
 · have KL:i=its.length:=by omega
   subst KL;rw [SM] at FF ⊢;rw [Q0,decide_eq_false (fun z=>by omega)];exact bA ⟨_,rfl,kq sl xs H2 s2 e2 FF⟩
def fol (b s:Stp) (d:Int):Bool:=match s with
 | .th _=>!ended b
 | .sg c=>if c=lpar then sH b && decide (d<100) else ended b && decide (0<d)
inductive kU (vs:List V) (H:Hp) (Q:VK) (_E:XK):Prop
 | mk (bv sv:V) (b s:Stp) (d:Int) (Aj:vs=[bv,sv,.int d]) (Ak:StV H b bv) (An:StV H s sv) (Az:Q (.bl (fol b s d)) H):kU  vs H Q _E
def tf:Sp:=kU
set_option maxHeartbeats 1000000 in
theorem tq:aV P w K mg base CX0 2 T.g_follows.f T.g_follows.d ["before","step","depth"] tf:=by
 refine T.g_follows.F.ok mY (fun vs H Q E h=>?_) (fun Ag A outer s H vs Q E hr h=>?_)
 · obtain ⟨bv,sv,b,s,d,rfl,_⟩:=h;rfl
 obtain ⟨bv,sv,b,st,d,rfl,hb,hs,kq⟩:=h
 refine ⟨_,(ad (ar (i:=3) mY.nd rfl (Rp rfl) (aao (av (bI (T:="tuple")) rfl T.n_isinstance RX (aa (pv 0) (aa (cC (v:=.ty "tuple") rfl T.n_tuple R4 rfl) ab))) (eK (cz (jX (j5 hr)) (pv 0) aA (aE _)))))
  (ad (aS (aQ (av (bI (T:="tuple")) rfl T.n_isinstance RX (aa (pv 1) (aa (cC (v:=.ty "tuple") rfl T.n_tuple R4 rfl) ab))) (fun _=>rfl)) (ae (ax (px (pv 3)))) aH)
  (ad (aS (aD (jX (j5 hr)) (pv 1) aA (aE _)) (ae (ax (cV (av (bI (T:="tuple")) rfl T.n_isinstance RX (aa (pv 0) (aa (cC (v:=.ty "tuple") rfl T.n_tuple R4 rfl) ab))) (cV (px (pcF T.g_is_call (dU T) hr (aa (pv 0) ab))) (eK (cz im (pv 2) (cw (v:=.int (100)) rfl T.c_MOST_BRACKETS.choose_spec ⟨_,rfl⟩) (aE _))))))) aH)
  (ae (ax (cV (pv 3) (eK (cz nH (pv 2) ag (aE _))))))))),?_⟩
 try dsimp only [Ar,Ac]
 refine bS (fun Ab H'=>An2 (H=H') (Ab=[some bv,some sv,some (.int d),some (.bl (ended b))])) (fun kk hk=>?_) ?_
 · cases b with
   | sg c =>
     have Bc:bv=.str c:=hb;subst Bc;refine ⟨_,rfl,_,_,_,rfl,.str c,pU,?_⟩;refine ⟨_,rfl,bA ?_⟩;refine ⟨_,rfl,_,rfl,.inl ⟨c,rfl,?_⟩⟩;exact hk _ _ ⟨rfl,rfl⟩
   | th t =>
     obtain ⟨a,rfl,hA⟩:=hb;obtain ⟨n',r',h3⟩:=hA.tup;refine ⟨_,rfl,_,_,_,rfl,.tup h3,mV,?_⟩;exact ⟨_,rfl,cE (hk _ _ ⟨rfl,rfl⟩)⟩
 rintro Ab H' ⟨rfl,rfl⟩;cases st with
 | th t =>
   obtain ⟨a,rfl,hA⟩:=hs;obtain ⟨n',r',h3⟩:=hA.tup;refine ⟨_,rfl,_,_,_,rfl,.tup h3,mV,_,rfl,cE ?_⟩;exact ⟨_,rfl,_,rfl,kq⟩
 | sg c =>
   have Pg:sv=.str c:=hs;subst Pg;refine ⟨_,rfl,_,_,_,rfl,.str c,pU,_,rfl,bA ?_⟩;dsimp only [eg];refine ⟨_,rfl,_,rfl,.inl ⟨c,rfl,_,rfl,?_⟩⟩;refine cA (fun c1=>?_) (fun c1=>?_)
   · have hc:c=lpar:=of_decide_eq_true c1
     have Eu:Q (.bl (sH b && decide (d<100))) H:=by
      have:fol b (.sg c) d=(sH b && decide (d<100)):=if_pos hc;rw [this] at kq;exact kq
     cases b with
     | sg c2 =>
       have Bc:bv=.str c2:=hb;subst Bc;refine ⟨_,rfl,_,_,_,rfl,.str c2,pU,_,rfl,bA Eu⟩
     | th t =>
       obtain ⟨a,rfl,hA⟩:=hb;obtain ⟨n',r',h3⟩:=hA.tup;refine ⟨_,rfl,_,_,_,rfl,.tup h3,mV,_,rfl,cE ?_⟩;refine ⟨_,rfl,a,t,rfl,hA,_,rfl,?_⟩;cases t with
       | call x y=>exact ⟨_,rfl,bA Eu⟩
       | knot n ks=>exact ⟨_,rfl,cE ⟨_,rfl,_,_,rfl,rfl,Eu⟩⟩
   · have hc:¬ c=lpar:=fun z=>c1 (decide_eq_true z)
     have Eu:Q (.bl (ended b && decide (0<d))) H:=by
      have:fol b (.sg c) d=(ended b && decide (0<d)):=if_neg hc;rw [this] at kq;exact kq
     dsimp only [eg];refine ⟨_,rfl,_,rfl,?_⟩;refine cA (fun c2=>?_) (fun c2=>?_)
     · rw [c2,UW] at Eu;exact ⟨_,rfl,_,_,rfl,rfl,Eu⟩
     · rw [Uj.mpr c2,Bool.false_and] at Eu;exact Eu
def TpL (H:Hp) (x:Th×Int) (a:Q7):Prop:=∃ ta,H a=some (.lst [.ref ta,.int x.2])/\At H x.1 ta
theorem TpL.keep {H:Hp} {x:Th×Int} {b a:Q7} {o:HO} {xs:List V} (h:TpL H x b) (Av:b≠a) (ea:H a=some (.lst xs)):TpL (upd H a o) x b:=by
 obtain ⟨ta,h1,h2⟩:=h;exact ⟨ta,by rw [al Av];exact h1,h2.mono (aW ea)⟩
theorem TpL.same {H H':Hp} (s:L2.Same H H') {x:Th×Int} {b:Q7} (h:TpL H x b):TpL H' x b:=by
 obtain ⟨ta,h1,h2⟩:=h;exact ⟨ta,s _ _ h1,h2.mono (Same.kt s)⟩
theorem gd {H:Hp} {a:Q7} {o:HO} {xs:List V} (ea:H a=some (.lst xs)):∀ {tops:List (Th×Int)} {Af:List Q7},R3 (TpL H) tops Af->a∉Af->R3 (TpL (upd H a o)) tops Af
 | _,_,.nil,_=>.nil
 | _,_,.cons h t,hn=>.cons (h.keep (fun z=>hn (by rw [z];exact Rn ..)) ea) (gd ea t fun z=>hn (Ri _ z))
theorem t7 {H:Hp} {f:Int->Int} {a ta:Q7} {m:Int} (ea:H a=some (.lst [.ref ta,.int m])):∀ {tops:List (Th×Int)} {Af:List Q7} {j:Nat},R3 (TpL H) tops Af->Af.Nodup->Af[j]?=some a->R3 (TpL (upd H a (.lst [.ref ta,.int (f m)]))) (qQ tops j f) Af
 | _,_,j,.nil,_,h=>by cases h
 | x::tops,b::Af,0,.cons h t,nd,e=>by
   have hb:b=a:=RI e;subst hb;obtain ⟨MB,h1,h2⟩:=h;rw [ea] at h1;have h3:[V.ref ta,V.int m]=[V.ref MB,V.int x.2]:=by cases h1;rfl
   have h4:ta=MB:=by injection h3 with z _;exact V.ref.inj z
   have h5:m=x.2:=by injection h3 with _ z;injection z with z _;exact V.int.inj z
   subst h4;rw [h5] at ea ⊢;exact .cons ⟨ta,ac,h2.mono (aW ea)⟩ (gd ea t (Td.mp nd).1)
 | x::tops,b::Af,j+1,.cons h t,nd,e=>by
   have hm:a∈Af:=Rb (by simpa using e);have Av:b≠a:=fun z=>(Td.mp nd).1 (by rw [z];exact hm);have ih:=t7 (f:=f) ea t (Td.mp nd).2 (j:=j) (by simpa using e);exact .cons (h.keep Av ea) ih
structure TpI (H0:Hp) (sl tl wl:Q7) (S:PSt) (bv:V) (ws Af:List Q7) (H:Hp):Prop where
 sm:L2.Same H0 H
 tl0:H0 tl=none
 wl0:H0 wl=none
 tw:tl≠wl
 et:H tl=some (.lst (Af.map V.ref))
 ew:H wl=some (.lst (ws.map V.ref))
 win:R3 (fun j a=>Af[j]?=some a) S.win ws
 tops:R3 (TpL H) S.tops Af
 nd:Af.Nodup
 tas0:∀ a∈Af,H0 a=none
 tln:tl∉Af
 wln:wl∉Af
 bef:StV H S.bef bv
inductive kz (K:Q4) (vs:List V) (H:Hp) (Q:VK) (_E:XK):Prop
 | mk (sl:Q7) (xs:List V) (steps:List Stp) (F:PSt) (Aj:vs=[.ref sl]) (Ak:H sl=some (.lst xs)) (An:R3 (StV H) steps xs) (Az:steps.length<=100000) (AR:prun ⟨[],[],.sg comma⟩ steps=some F) (Bh:F.win=[]) (Cg:ended F.bef=true) (DG:∀ (r:Q7) (Af:List Q7) (H':Hp),L2.Same H H'->H' r=some (.lst (Af.map V.ref))->R3 (TpL H') F.tops Af->Q (.ref r) H'):kz K vs H Q _E
def sM (K:Q4):Sp:=kz K
theorem prun_step {S F:PSt} {x:Stp} {l:List Stp} (h:prun S (x::l)=some F):∃ S',bW S x=some S'/\prun S' l=some F:=by
 rw [prun] at h;cases e:bW S x with
 | none=>rw [e] at h;cases h
 | some S'=>rw [e] at h;exact ⟨S',rfl,h⟩
theorem uS {S S':PSt} {x:Stp} (h:bW S x=some S'):fol S.bef x (S.win.length:Nat)=true:=by
 cases x with
 | th t =>
   rw [bW] at h;by_cases c:ended S.bef=false
   · show (!ended S.bef)=true;rw [c];rfl
   · rw [if_neg c] at h;cases h
 | sg c =>
   rw [bW] at h;unfold fol;dsimp only;by_cases c1:c=lpar
   · rw [if_pos c1] at h ⊢;by_cases c2:sH S.bef=true/\S.win.length<100/\S.tops≠[]
     · rw [c2.1,decide_eq_true (show ((S.win.length:Nat):Int)<100 by omega)];rfl
     · rw [if_neg c2] at h;cases h
   · rw [if_neg c1] at h ⊢
     have key:ended S.bef=true/\S.win≠[]:=by
      by_cases c2:c=comma
      · rw [if_pos c2] at h;by_cases c3:ended S.bef=true/\S.win≠[]
        · exact c3
        · rw [if_neg c3] at h;cases h
      · rw [if_neg c2] at h;by_cases c3:c=rpar
        · rw [if_pos c3] at h;by_cases c4:ended S.bef=true/\S.win≠[]
          · exact c4
          · rw [if_neg c4] at h;cases h
        · rw [if_neg c3] at h;cases h
     have:=Up.mpr key.2;rw [key.1,decide_eq_true (show (0:Int)<((S.win.length:Nat):Int) by omega)];rfl
theorem uF {S S':PSt} {x:Stp} (h:bW S x=some S'):S'.bef=x:=by
 cases x with
 | th t=>rw [bW] at h;split at h <;> cases h;rfl
 | sg c =>
   rw [bW] at h;split at h
   · split at h <;> cases h;rfl
   · split at h
     · split at h <;> cases h;rfl
     · split at h
       · split at h <;> cases h;rfl
       · cases h
def TpR (H:Hp) (sl tl wl:Q7) (S S':PSt) (st:Stp) (bv x:V) (i:Nat) (σ:St) (H':Hp):Prop:=∃ (ws Af:List Q7),σ=[some (.ref sl),some (.ref tl),some (.ref wl),some bv,some x]/\TpI H sl tl wl ⟨S'.tops,S'.win,S.bef⟩ bv ws Af H'/\Af.length<=i+1/\ws.length<=i+1/\StV H' st x
set_option maxHeartbeats 2000000 in
theorem sO:aV P w K mg base CX0 3 T.g_tops_of.f T.g_tops_of.d ["steps"] (sM K):=by
 refine T.g_tops_of.F.ok cZ (fun vs H Q E h=>?_) (fun Ag A outer s H vs Q E hr h=>?_)
 · obtain ⟨sl,xs,steps,F,rfl,_⟩:=h;rfl
 obtain ⟨sl,xs,steps,F,rfl,es,By,hlen,Fd,Ph,MC,kq⟩:=h
 refine ⟨_,(ad (ar (i:=1) cZ.nd rfl (Rp rfl) (bm ab))
  (ad (ar (i:=2) cZ.nd rfl (Rp rfl) (bm ab))
  (ad (ar (i:=3) cZ.nd rfl (Rp rfl) aA)
  (ad (br RM rfl (df (pv 0)) (aq (i:=4) cZ.nd rfl (Rp rfl)) (ad (aS (ci (aQ (pcF T.g_follows (tq T) hr (aa (pv 3) (aa (pv 4) (aa (av ao rfl T.n_len RG (aa (pv 2) ab)) ab)))) (fun _=>rfl))) (ae bz) aH)
  (ad (aS (aD (jX (j5 hr)) (pv 4) aA (aE _)) (ad (fH ag (lE (az aO (pv 1) (qN lP ag) (fun _ _=>rfl)) ag set_list))
  (ae (aT (bi Rk RB RA aN (pv 2) (aa (az aO (pv 1) (qN lP ag) (fun _ _=>rfl)) ab))))) (ae (aS (aD (jX (j5 hr)) (pv 4) aA (aE _)) (ae (xX (az aO (pv 2) (qN lP ag) (fun _ _=>rfl)) ag vK ag pW set_list)) (ae (aS (aD (jX (j5 hr)) (pv 4) aA (aE _)) (ae (aT (iO Rk Tx Tw iT (pv 2)))) (ae (aT (bi Rk RB RA aN (pv 1) (aa (bm (aa (pv 4) (aa ag ab))) ab)))))))))
  (ae (ar (i:=3) cZ.nd rfl (Rp rfl) (pv 4))))))
  (ad (aS (PW.pt (eF (aQ (pv 2) (fun _=>rfl)) (dz (aD (jX (j5 hr)) (pv 3) aA (aE _))))) (ae bz) aH)
  (ae (ax (pv 1)))))))),?_⟩
 try dsimp only [Ar,Ac]
 have DM:steps.length=xs.length:=Rx By;refine ⟨aj (by show 0<=1000000;decide),fun tl AI=>?_⟩;have s1:L2.Same H (upd H tl (.lst [])):=ai AI _;have e1:(upd H tl (.lst [])) tl=some (.lst (([]:List Q7).map V.ref)):=ac;generalize (upd H tl (.lst []))=H1 at s1 e1 ⊢;refine ⟨aj (by show 0<=1000000;decide),fun wl B'=>?_⟩;have s2:L2.Same H1 (upd H1 wl (.lst [])):=ai B' _;have e2:(upd H1 wl (.lst [])) wl=some (.lst (([]:List Q7).map V.ref)):=ac;generalize (upd H1 wl (.lst []))=H2 at s2 e2 ⊢;have Pj:tl≠wl:=fun z=>by rw [z,B'] at e1;cases e1
 dsimp only [aG];refine ⟨_,rfl,sl,rfl,⟨_,SqL.of ((s1.trans s2) _ _ es)⟩,?_⟩
 refine mM (K:=K) (a:=sl) (xs:=xs) (fun i σ H3=>Ex5 fun (sv:Option V) (S:PSt) (bv:V) (ws Af:List Q7)=>An5 (σ=[some (.ref sl),some (.ref tl),some (.ref wl),some bv,sv]) (TpI H sl tl wl S bv ws Af H3) (prun S (steps.drop i)=some F) (Af.length<=i) (ws.length<=i))
  ⟨none,⟨[],[],.sg comma⟩,.str comma,[],[],rfl,⟨s1.trans s2,AI,s1.free B',Pj,s2 _ _ e1,e2,.nil,.nil,U4,(fun a h=>by cases h),SX,SX,rfl⟩,Fd,Q8 _,Q8 _⟩ (fun i σ H3 _ ⟨_,_,_,_,_,_,I,_,_,_⟩=>SqL.of (I.sm _ _ es)) ?_ ?_
 · rintro i x σ H3 hx ⟨sv,S,bv,ws,Af,rfl,I,E7,AZ,Bn⟩;refine hid fun ZZ kZ=>?_;obtain ⟨st,Fe,KN⟩:=P2.get' By hx;have A':=(Rm.mp Fe).1
   have B9:steps.drop i=st::steps.drop (i+1):=by
    rw [Sa A'];rw [Q1 A'] at Fe;rw [RI Fe]
   rw [B9] at E7;obtain ⟨S',AL,Ep⟩:=prun_step E7;refine kZ ?_;have KO:=uS AL;have KP:S.win.length=ws.length:=Rx I.win;have IK:S.tops.length=Af.length:=Rx I.tops;have Dy:=KN.mono (Same.kt I.sm);dsimp only [aG];refine ⟨_,rfl,_,rfl,_,rfl,wl,_,rfl,.inl (SqL.of I.ew),bv,x,S.bef,st,_,rfl,I.bef,Dy,?_⟩;rw [Q0,<- KP,KO];refine ⟨_,rfl,bA ?_⟩;dsimp only [eg];refine bS (TpR H sl tl wl S S' st bv x i) (fun kk hk=>?_) ?_
   rotate_left
   · rintro Ab H4 ⟨DN,Ff,rfl,I4,Pk,Pl,Pm⟩;refine ⟨_,rfl,_,S',x,DN,Ff,rfl,⟨I4.sm,I4.tl0,I4.wl0,I4.tw,I4.et,I4.ew,I4.win,I4.tops,I4.nd,I4.tas0,I4.tln,I4.wln,by rw [uF AL];exact Pm⟩,Ep,Pk,Pl⟩
   cases st with
   | th t =>
     obtain ⟨a,rfl,hA⟩:=Dy;obtain ⟨n',r',h3⟩:=hA.tup
     have Fz:S'=⟨S.tops++[(t,0)],S.win,.th t⟩:=by
      rw [bW] at AL;split at AL
      · exact (RI AL).symm
      · cases AL
     refine ⟨_,rfl,_,rfl,.inr ⟨a,_,rfl,SqT.of h3,_,rfl,bA ?_⟩⟩;refine ⟨_,rfl,_,rfl,.inr ⟨a,_,rfl,SqT.of h3,_,rfl,bA ?_⟩⟩;refine ⟨_,rfl,_,rfl,.inr ⟨a,_,rfl,SqT.of h3,_,rfl,bA ?_⟩⟩;refine ⟨_,rfl,.inl ⟨rfl,_,SqL.of I.et⟩,_,rfl,aj (by show 2<=1000000;decide),fun np Cr=>?_⟩;have s4:L2.Same H3 (upd H3 np (.lst [.ref a,.int 0])):=ai Cr _;have e4:(upd H3 np (.lst [.ref a,.int 0])) np=some (.lst [.ref a,.int 0]):=ac;generalize (upd H3 np (.lst [.ref a,.int 0]))=H4 at s4 e4 ⊢;have KQ:=s4 _ _ I.et;have KR:H np=none:=I.sm.free Cr;have MD:np≠tl:=fun z=>by rw [z,I.et] at Cr;cases Cr
     have Pn:np≠wl:=fun z=>by rw [z,I.ew] at Cr;cases Cr
     have Mt:np∉Af:=fun z=>by
      obtain ⟨j,hj⟩:=RZ.mp z;obtain ⟨y,_,ta,e,_⟩:=P2.get' I.tops hj;rw [Cr] at e;cases e
     refine ⟨tl,_,_,rfl,rfl,KQ,aF (by rw [Q0];omega),?_⟩;have k5:KT H4 (upd H4 tl (.lst (Af.map V.ref++[.ref np]))):=aW KQ;refine hk _ _ ⟨ws,Af++[np],rfl,?_,by rw [Ra,Sq];omega,by omega,⟨a,rfl,(hA.mono (Same.kt s4)).mono k5⟩⟩;subst Fz;refine ⟨aC (I.sm.trans s4) I.tl0,I.tl0,I.wl0,I.tw,by rw [ac,Rj];rfl,by rw [al I.tw.symm];exact s4 _ _ I.ew,P2.mp (fun j b e=>?_) I.win,?_,?_,fun b hb=>?_,fun z=>?_,fun z=>?_,(I.bef.mono (Same.kt s4)).mono k5⟩
     · rw [T6 (Rm.mp e).1];exact e
     · exact P2.append (gd KQ (P2.mp (fun _ _ e=>TpL.same s4 e) I.tops) I.tln) (.cons ⟨a,by rw [al MD];exact e4,(hA.mono (Same.kt s4)).mono k5⟩ .nil)
     · exact WM.mpr ⟨I.nd,Td.mpr ⟨SX,U4⟩,fun b hb c hc e=>Mt (by rw [<- RH.mp hc,<- e];exact hb)⟩
     · rcases RE.mp hb with hb | hb
       · exact I.tas0 b hb
       · rw [RH.mp hb];exact KR
     · rcases RE.mp z with z | z
       · exact I.tln z
       · exact MD (RH.mp z).symm
     · rcases RE.mp z with z | z
       · exact I.wln z
       · exact Pn (RH.mp z).symm
   | sg c =>
     have BG:x=.str c:=Dy;subst BG
     have Hc:∀ (la ta:Q7) (m m':Int) (DN:List Q7) (W':List Nat) (j:Nat) (f:Int->Int),Af[j]?=some la->H3 la=some (.lst [.ref ta,.int m])->m'=f m->TpI H sl tl wl ⟨qQ S.tops j f,S.win,S.bef⟩ bv ws Af (upd H3 la (.lst [.ref ta,.int m'])):=fun la ta m m' DN W' j f hj C3 em=>by
      have CU:=Rb hj;have Ax:la≠tl:=fun z=>I.tln (by rw [<- z];exact CU);have Po:la≠wl:=fun z=>I.wln (by rw [<- z];exact CU);subst em;exact ⟨aC I.sm (I.tas0 la CU),I.tl0,I.wl0,I.tw,by rw [al Ax.symm];exact I.et,by rw [al Po.symm];exact I.ew,I.win,t7 C3 I.tops I.nd hj,I.nd,I.tas0,I.tln,I.wln,I.bef.mono (aW C3)⟩
     by_cases c1:c=lpar
     · have Fz:sH S.bef=true/\S.win.length<100/\S.tops≠[]:=by
        rw [bW,if_pos c1] at AL;by_cases z:sH S.bef=true/\S.win.length<100/\S.tops≠[]
        · exact z
        · rw [if_neg z] at AL;cases AL
       have ER:S'=⟨qQ S.tops (S.tops.length - 1) (fun _=>1),S.win++[S.tops.length - 1],.sg c⟩:=by
        rw [bW,if_pos c1,if_pos Fz] at AL;exact (RI AL).symm
       refine ⟨_,rfl,_,rfl,.inl ⟨c,rfl,_,rfl,?_⟩⟩;rw [decide_eq_true (show c=QZ "(" from c1)];refine cE ?_;have Bj:Af≠[]:=fun z=>Fz.2.2 (by rw [z] at IK;exact R7.mp IK);have C2:=Up.mpr Bj;refine hid fun ZZ kZ=>?_;obtain ⟨la,Bu⟩:∃ la,Af[Af.length - 1]?=some la:=⟨_,Q1 (by omega)⟩
       have CD:∀ ys:List Q7,ys=Af->atI (ys.map V.ref) (-1)=some (.ref la):=fun ys e=>by
        subst e;obtain ⟨ME,b,rfl⟩:∃ ME b,ys=ME++[b]:=⟨ys.dropLast,ys.getLast Bj,(SH Bj).symm⟩;rw [Ra,Sq,Nat.add_sub_cancel,Ts (Q8 _),UK] at Bu;rw [Rj,<- RI Bu];exact qD _ _
       obtain ⟨y,hy,ta,C3,_⟩:=P2.get' I.tops Bu;refine kZ ?_;refine ⟨_,rfl,_,rfl,tl,_,_,.ref la,rfl,rfl,SqL.of I.et,CD _ rfl,la,_,1,1,rfl,rfl,C3,rfl,?_⟩;have I4:=Hc la ta y.2 1 ws S.win (Af.length - 1) (fun _=>1) Bu C3 rfl;dsimp only [List.set];generalize (upd H3 la (.lst [.ref ta,.int 1]))=H4 at I4 ⊢;refine ⟨_,rfl,.inl ⟨rfl,_,SqL.of I4.ew⟩,_,rfl,_,rfl,tl,_,_,.ref la,rfl,rfl,SqL.of I4.et,CD _ rfl,wl,_,_,rfl,rfl,I4.ew,aF (by rw [Q0];omega),?_⟩;have k5:KT H4 (upd H4 wl (.lst (ws.map V.ref++[.ref la]))):=aW I4.ew;refine hk _ _ ⟨ws++[la],Af,rfl,?_,by omega,by rw [Ra,Sq];omega,rfl⟩;subst ER;exact ⟨aC I4.sm I4.wl0,I4.tl0,I4.wl0,I4.tw,by rw [al I4.tw];exact I4.et,by rw [ac,Rj];rfl,P2.append I4.win (.cons (by (try dsimp only);rw [IK];exact Bu) .nil),by (try dsimp only);rw [IK];exact gd I4.ew I4.tops I4.wln,I4.nd,I4.tas0,I4.tln,I4.wln,I4.bef.mono k5⟩
     · refine ⟨_,rfl,_,rfl,.inl ⟨c,rfl,_,rfl,?_⟩⟩;rw [decide_eq_false (show ¬ c=QZ "(" from c1)];refine bA ?_
       have key:ended S.bef=true/\S.win≠[]:=by
        rw [bW,if_neg c1] at AL;by_cases c2:c=comma
        · rw [if_pos c2] at AL;by_cases c3:ended S.bef=true/\S.win≠[]
          · exact c3
          · rw [if_neg c3] at AL;cases AL
        · rw [if_neg c2] at AL;by_cases c3:c=rpar
          · rw [if_pos c3] at AL;by_cases c4:ended S.bef=true/\S.win≠[]
            · exact c4
            · rw [if_neg c4] at AL;cases AL
          · rw [if_neg c3] at AL;cases AL
       have Hd:ws≠[]:=fun z=>key.2 (by rw [z] at KP;exact R7.mp KP);refine hid fun ZZ kZ=>?_;obtain ⟨DN,la,He⟩:∃ DN b,ws=DN++[b]:=⟨ws.dropLast,ws.getLast Hd,(SH Hd).symm⟩;have Hf:=I.win;rw [He] at Hf;obtain ⟨W',j,MF,Pp,hj⟩:=P2.snoc_inv Hf;refine kZ ?_;by_cases c2:c=comma
       · have ER:S'=⟨qQ S.tops (S.win.getLastD 0) (·+1),S.win,.sg c⟩:=by
          rw [bW,if_neg c1,if_pos c2,if_pos key] at AL;exact (RI AL).symm
         refine ⟨_,rfl,_,rfl,.inl ⟨c,rfl,_,rfl,?_⟩⟩;rw [decide_eq_true (show c=QZ "," from c2)];refine cE ?_;refine hid fun ZZ kZ=>?_;obtain ⟨y,hy,ta,C3,_⟩:=P2.get' I.tops hj;refine kZ ?_;have CD:atI (ws.map V.ref) (-1)=some (.ref la):=by rw [He,Rj];exact qD _ _
         refine ⟨_,rfl,_,rfl,wl,_,_,.ref la,rfl,rfl,SqL.of I.ew,CD,la,_,1,.int y.2,rfl,rfl,SqL.of C3,at1,_,_,rfl,rfl,la,_,1,1,rfl,rfl,C3,rfl,?_⟩;have I4:=Hc la ta y.2 (y.2+1) ws S.win j (·+1) hj C3 rfl;refine hk _ _ ⟨ws,Af,rfl,?_,by omega,by omega,rfl⟩;subst ER;dsimp only;rw [show S.win.getLastD 0=j by rw [MF,iB]];exact I4
       · have c3:c=rpar:=by
          rw [bW,if_neg c1,if_neg c2] at AL;by_cases c3:c=rpar
          · exact c3
          · rw [if_neg c3] at AL;cases AL
         have ER:S'=⟨S.tops,S.win.dropLast,.sg c⟩:=by
          rw [bW,if_neg c1,if_neg c2,if_pos c3,if_pos key] at AL;exact (RI AL).symm
         refine ⟨_,rfl,_,rfl,.inl ⟨c,rfl,_,rfl,?_⟩⟩;rw [decide_eq_false (show ¬ c=QZ "," from c2)];refine bA ?_;refine ⟨_,rfl,_,rfl,.inl ⟨c,rfl,_,rfl,?_⟩⟩;rw [decide_eq_true (show c=QZ ")" from c3)];refine cE ?_;refine ⟨_,rfl,.inl ⟨rfl,_,SqL.of I.ew⟩,wl,_,.ref la,rfl,rfl,I.ew,by rw [He];simp,?_⟩;have d1:(ws.map V.ref).dropLast=DN.map V.ref:=by rw [He];simp
         rw [d1];have k5:KT H3 (upd H3 wl (.lst (DN.map V.ref))):=aW I.ew;refine hk _ _ ⟨DN,Af,rfl,?_,by omega,by rw [He,Ra,Sq] at Bn;omega,rfl⟩;subst ER;exact ⟨aC I.sm I.wl0,I.tl0,I.wl0,I.tw,by rw [al I.tw];exact I.et,ac,by (try dsimp only);rw [MF,Wc];exact Pp,gd I.ew I.tops I.wln,I.nd,I.tas0,I.tln,I.wln,I.bef.mono k5⟩
 · rintro σ H3 ⟨sv,S,bv,ws,Af,rfl,I,E7,AZ,Bn⟩;rw [List.drop_of_length_le (by omega)] at E7;have Pq:S=F:=RI E7;subst Pq
   have Ci:ws=[]:=by
    have:=Rx I.win;rw [Ph] at this;exact R7.mp this.symm
   subst Ci;refine ⟨_,rfl,_,.inl ⟨_,SqL.of I.ew,rfl⟩,bA ?_⟩;have AM:Q (.ref tl) H3:=kq tl Af H3 I.sm I.et I.tops;have D6:=I.bef;cases Fv:S.bef with
   | th t =>
     rw [Fv] at D6;obtain ⟨a,rfl,hA⟩:=D6;obtain ⟨n',r',h3⟩:=hA.tup;exact ⟨_,rfl,_,rfl,.inr ⟨a,_,rfl,SqT.of h3,_,rfl,bA ⟨_,rfl,AM⟩⟩⟩
   | sg c =>
     rw [Fv] at D6 MC;have Bc:bv=.str c:=D6;subst Bc;have hc:c=rpar:=of_decide_eq_true MC;refine ⟨_,rfl,_,rfl,.inl ⟨c,rfl,_,rfl,?_⟩⟩;rw [decide_eq_false (show ¬ c=QZ "," from fun z=>ow.2.2.1 (hc.symm.trans z))];exact bA ⟨_,rfl,AM⟩
namespace LB
def TopAtL (H:Hp):Top->Q7->Prop
 | .nm n m,a=>∃ ta,H a=some (.lst [.ref ta,.int (m:Nat)])/\n≠q/\H ta=some (.tup [.str n])
 | .th t,a=>∃ ta,H a=some (.lst [.ref ta,.int 0])/\At H t ta
theorem TopAtL.same {H H':Hp} (s:L2.Same H H'):∀ {x:Top} {a:Q7},TopAtL H x a->TopAtL H' x a
 | .nm n m,a,h=>by
   obtain ⟨ta,h1,h2,h3⟩:=h;exact ⟨ta,s _ _ h1,h2,s _ _ h3⟩
 | .th t,a,h=>by
   obtain ⟨ta,h1,h2⟩:=h;exact ⟨ta,s _ _ h1,h2.mono (Same.kt s)⟩
inductive fc (vs:List V) (H:Hp) (Q:VK) (_E:XK):Prop
 | mk (l:Q7) (as:List Q7) (tops:List Top) (u:Th) (Aj:vs=[.ref l]) (Ak:H l=some (.lst (as.map V.ref))) (An:R3 (TopAtL H) tops as) (Az:tops.length<=100000) (AR:TopsOk tops) (Bh:(∀ t,Top.th t∈tops->t.size<=100000)) (Cg:bl tops=[u]) (DG:∀ (r:Q7) (H':Hp),L2.Same H H'->At H' u r->Q (.ref r) H'):fc  vs H Q _E
def my:Sp:=fc
theorem ok_built:aV P w K mg base CX0 1 T.g_built.f T.g_built.d ["tops"] my:=by
 refine T.g_built.F.ok dj (fun vs H Q E h=>?_) (fun Ag A outer s H vs Q E hr h=>?_)
 · obtain ⟨l,as,tops,u,rfl,_⟩:=h;rfl
 obtain ⟨l,as,tops,u,rfl,el,hT,hlen,hok,EX,hu,k⟩:=h
 refine ⟨_,(ad (ar (i:=1) dj.nd rfl (Or.inr rfl) (bm ab))
  (ad (br RM rfl (sI rfl T.n_reversed (pv 0)) (zn rfl (aL (aq (i:=2) dj.nd rfl (Rp rfl)) (aL (aq (i:=3) dj.nd rfl (Rp rfl)) bX))) (ae (aS (aD nH (pv 3) ag (aE _)) (ae (aT (bi Rk RB RA aN (pv 1) (aa (am fo (pv 2) (bf bp rfl T.n_tuple R4 (aa (bG (N:=[QZ "number",QZ "done"]) (js:=[none,some 1]) (g:=(aG 0)) (tt:=bn) (te:=(xC K "list" (xp) (bV 1))) rfl (cg rfl (by decide +kernel) (by decide +kernel) rfl rfl rfl) (bw rfl T.n_range (aa (pv 3) ab)) (fun _ _ _ _ _ _=>(aq (i:=0) zC rfl (Rp rfl))) (aX rfl) (fun _ _ _ _ _ _=>bN) (fun _ _ _ _ _ _=>(iO Rk Tx Tw iT (pv 1)))) ab))) ab)))) (ae (aT (bi Rk RB RA aN (pv 1) (aa (pv 2) ab)))))))
  (ae (ax (az aO (pv 1) ag (fun _ _=>rfl)))))),?_⟩
 have Cj:tops.length=as.length:=Rx hT;refine ⟨aj (by show 0<=1000000;decide),fun dn B8=>?_⟩;refine ⟨_,rfl,l,_,rfl,SqL.of (ai B8 _ _ _ el),?_⟩
 refine qf (K:=K) (a:=l) (xs:=as.map V.ref) (fun i σ H2=>Ex3 fun c2 c3 ds=>An4 (σ=[some (.ref l),some (.ref dn),c2,c3]) (L2.Same H H2) (H2 dn=some (.lst (ds.map V.ref))) (Ats H2 (bl (tops.drop (tops.length - i))).reverse ds))
  ⟨none,none,[],rfl,ai B8 _,ac,by rw [Vp,Vd];exact .nil⟩ (fun i σ H2 _ ⟨_,_,_,_,s2,_,_⟩=>SqL.of (s2 _ _ el)) ?_ ?_
 · rintro i y σ H2 hi hy ⟨c2,c3,ds,rfl,s2,BN,A7⟩;rw [Q0,<- Cj] at hi hy;obtain ⟨pr,rfl,Cy⟩:=ba hy;obtain ⟨x,hx,EY⟩:=P2.get' hT Cy;have EZ:=EY.same s2;have hn:tops.length - 1 - i<tops.length:=by omega
   have B9:tops.drop (tops.length - 1 - i)=x::tops.drop (tops.length - i):=by
    rw [Sa hn,show tops.length - 1 - i+1=tops.length - i by omega];congr 1;rw [Q1 hn] at hx;exact RI hx
   have BO:=hok.drop (tops.length - 1 - i);rw [B9] at BO;have Be:tops.length - (i+1)=tops.length - 1 - i:=by omega
   have Gv:(bl (tops.drop (tops.length - i))).length<=100000:=by
    have:=pO (tops.drop (tops.length - i));rw [Sf] at this;omega
   generalize tops.drop (tops.length - i)=S at B9 A7 BO Gv;refine hid fun ZZ kZ=>?_
   obtain ⟨ta,m,xs,FH,eta,hm,Ip,AM⟩:∃ (ta:Q7) (m:Nat) (xs:List V),H2 pr=some (.lst [.ref ta,.int (m:Nat)])/\H2 ta=some (.tup xs)/\m<=(bl S).length/\xs.length<=200000/\∀ (H':Hp) (p:Q7) (ks:List Q7),KT H2 H'->Ats H' ((bl S).take m) ks->H' p=some (.tup (xs++ks.map V.ref))->∃ u',bl (x::S)=u'::(bl S).drop m/\At H' u' p:=by
    cases x with
    | nm n m =>
      rw [TopsOk] at BO;obtain ⟨ta,h1,h2,h3⟩:=EZ;refine ⟨ta,m,_,h1,h3,BO.1,(by show 1<=200000;decide),fun H' p ks kt hk hp=>⟨_,by rw [bl],?_⟩⟩;rw [At];exact ⟨h2,ks,hp,hk⟩
    | th t =>
      obtain ⟨ta,h1,h2⟩:=EZ;obtain ⟨n',r',h3⟩:=h2.tup;have hw:=h2.width h3;have Bc:=EX t (Rb hx);refine ⟨ta,0,_,h1,h3,RJ _,by omega,fun H' p ks kt hk hp=>⟨t,by rw [bl,Su],?_⟩⟩;rw [SG,Ats] at hk;subst hk;rw [SY,RC] at hp;exact (h2.mono kt).same (kt _ _ h3) hp
   refine kZ ?_;refine ⟨pr,_,rfl,SqL.of FH,rfl,_,_,rfl,_,_,rfl,rfl,?_⟩;have E1:=A7.length;rw [Si] at E1;refine bZ (fun b H'=>An2 (H'=H2) (b=decide ((0:Int)<(m:Int)))) (fun kk En=>?_) (fun H' hb=>?_) (fun H' hb=>?_)
   · exact ⟨_,rfl,_,_,rfl,rfl,_,rfl,En _ _ ⟨rfl,rfl⟩⟩
   rotate_left
   · obtain ⟨rfl,hb⟩:=hb
     have Kc:m=0:=by
      have:=of_decide_eq_false hb.symm;omega
     subst Kc;obtain ⟨u',CM,Au⟩:=AM H' ta [] (Same.kt (.refl _)) (by rw [SG];exact .nil) (by rw [SY,RC];exact eta);refine ⟨_,rfl,.inl ⟨rfl,_,SqL.of BN⟩,_,rfl,dn,_,_,rfl,rfl,BN,aF (by rw [Q0];omega),?_⟩;have k6:KT H' (upd H' dn (.lst (ds.map V.ref++[.ref ta]))):=aW BN;refine ⟨_,_,ds++[ta],rfl,?_,by rw [ac,Rj];rfl,?_⟩
     · intro b o e;rw [al (aB e B8)];exact s2 b o e
     · rw [Be,B9,CM,RY];rw [Su];exact (A7.mono k6).append (.cons (Au.mono k6) .nil)
   obtain ⟨rfl,hb⟩:=hb;refine ⟨_,rfl,.inl ⟨rfl,_,SqL.of BN⟩,_,rfl,?_⟩;refine ⟨_,rfl,(m:Int),rfl,by omega,by omega,fun D hD=>?_⟩;have E2:D≠dn:=fun z=>by rw [z,BN] at hD;cases hD
   have Cm:((m:Nat):Int).toNat=m:=SU m
   refine ⟨m,fun j H3=>An3 (j<=m) ((∀ b o,H' b=some o->b≠dn->H3 b=some o)) (Ex2 fun (BP ks:List Q7)=>An4 (H3 dn=some (.lst (BP.map V.ref))) (H3 D=some (.lst (ks.map V.ref))) (Ats H3 ((bl S).drop j).reverse BP) (Ats H3 ((bl S).take j) ks)),
    ⟨RJ _,fun b o e hb=>?_,ds,[],?_,?_,?_,?_⟩,?_⟩
   · rw [al (aB e hD)];exact e
   · rw [al E2.symm];exact BN
   · rw [ac];rfl
   · rw [Su];exact A7.mono (dE hD)
   · rw [SG];exact .nil
   rintro j H3 ⟨hj,kp,BP,ks,ed,eD,BU,hd2⟩;by_cases GQ:j=m
   · left;refine ⟨(by show ((m:Nat):Int).toNat<=j;rw [Cm,GQ];exact Q8 _),?_⟩;subst GQ;have Dp:KT H' H3:=fun b Oz e=>kp b _ e (f8 e BN (by intro z;cases z));refine ⟨D,_,rfl,.inl ⟨SqL.of eD,fun tp C2=>?_⟩⟩;have s4:L2.Same H3 (upd H3 tp (.tup (ks.map V.ref))):=ai C2 _;have e4:(upd H3 tp (.tup (ks.map V.ref))) tp=some (.tup (ks.map V.ref)):=ac;generalize (upd H3 tp (.tup (ks.map V.ref)))=H4 at s4 e4 ⊢;have AN:=hd2.length;refine sh (s4 _ _ (Dp _ _ eta)) e4 (by rw [Q0,AN,RP];omega) fun p H5 s5 e5=>?_;have Cz:=s4.trans s5;have GR:=Cz _ _ ed;have E3:=Dp.trans (Same.kt Cz);obtain ⟨u',CM,Au⟩:=AM H5 p ks E3 (hd2.mono (Same.kt Cz)) e5;have El:=BU.length;rw [Si,Sf] at El;refine ⟨dn,_,_,rfl,rfl,GR,aF (by rw [Q0];omega),?_⟩;have k6:KT H5 (upd H5 dn (.lst (BP.map V.ref++[.ref p]))):=aW GR;refine ⟨_,_,BP++[p],rfl,?_,by rw [ac,Rj];rfl,?_⟩
     · intro b o e;have hb:b≠dn:=aB e B8;rw [al hb];exact Cz _ _ (kp b o (s2 b o e) hb)
     · rw [Be,B9,CM,RY];exact (BU.mono ((Same.kt Cz).trans k6)).append (.cons (Au.mono k6) .nil)
   · right;have Bl:j<m:=by omega
     refine ⟨Bl,(by show j<((m:Nat):Int).toNat;rw [Cm];exact Bl),?_⟩;rintro x' H4 ⟨e1,e2⟩;have Bz:H4=H3:=e1;subst Bz;have Eo:j<(bl S).length:=by omega
     have GS:(bl S).drop j=(bl S)[j]::(bl S).drop (j+1):=Sa Eo;rw [GS,RY] at BU
     have Av:BP≠[]:=by
      intro z;subst z;have:=BU.length;rw [Ra] at this;simp at this
     refine hid fun ZZ kZ=>?_;obtain ⟨Cp,b,rfl⟩:∃ Cp b,BP=Cp++[b]:=⟨BP.dropLast,BP.getLast Av,(SH Av).symm⟩;obtain ⟨Us,x2,e3,hU,Ca⟩:=BU.snoc_inv;have e4:=List.append_inj' e3 rfl;obtain ⟨e5,e6⟩:=e4;refine kZ ?_;cases e6;subst e5;refine ⟨_,rfl,.inl ⟨rfl,_,SqL.of ed⟩,dn,_,.ref b,rfl,rfl,ed,by simp,?_⟩;have d1:((Cp++[b]).map V.ref).dropLast=Cp.map V.ref:=by simp
     rw [d1];have GU:(upd H4 dn (.lst (Cp.map V.ref))) D=some (.lst (ks.map V.ref)):=by rw [al E2];exact eD
     have k5:KT H4 (upd (upd H4 dn (.lst (Cp.map V.ref))) D (.lst (ks.map V.ref++[.ref b]))):=(aW ed).trans (aW GU);refine ⟨_,GU,aF (by rw [Q0,hd2.length,RP];omega),Bl,fun b' o e Bc=>?_,Cp,ks++[b],?_,?_,hU.mono k5,?_⟩
     · rw [al (aB e hD),al Bc];exact kp b' o e Bc
     · rw [al E2.symm,ac]
     · rw [ac,Rj];rfl
     · rw [SS,Q1 Eo];exact (hd2.mono k5).append (.cons (Ca.mono k5) .nil)
 · rintro σ H2 ⟨c2,c3,ds,rfl,s2,BN,A7⟩;rw [Q0,<- Cj,UK,Su,hu] at A7;have Dq:Ats H2 [u] ds:=A7;rw [Ats] at Dq;obtain ⟨b,r,rfl,hb,OA⟩:=Dq;exact ⟨_,rfl,dn,_,0,.ref b,rfl,rfl,SqL.of BN,at0,k b H2 s2 hb⟩
end LB
theorem wf {H:Hp}:∀ {l:List Th} {Af:List Q7},R3 (TpL H) (l.map ny) Af->R3 (LB.TopAtL H) (l.map (dW Th.call)) Af
 | [],_,h=>by cases h;exact .nil
 | t::l,Af,h=>by
   cases h with
   | cons h1 h2 =>
     refine .cons ?_ (wf h2);obtain ⟨ta,e,hA⟩:=h1;cases t with
     | knot n ks =>
       have Fg:At H (.knot n []) ta:=hA;rw [At] at Fg;refine hid fun ZZ kZ=>?_;obtain ⟨hq,as,e2,h3⟩:=Fg;refine kZ ?_;have:as=[]:=R7.mp (by have:=h3.length;exact this);subst this;exact ⟨ta,e,hq,e2⟩
     | call s k=>exact ⟨ta,e,hA⟩
theorem qd:∀ (t u:Th),Top.th u∈t.walk.map (dW Th.call)->u.size<=1:=fun t u h=>by
 obtain ⟨v,_,e⟩:=Sl.mp h;cases v with
 | knot n ks=>cases e
 | call s k=>cases e;rw [Th.size];exact Q8 _
inductive eT (K:Q4) (vs:List V) (H:Hp) (Q:VK) (_E:XK):Prop
 | mk (wl:Q7) (ws:List Ru) (t:Th) (Aj:vs=[.ref wl]) (Ak:H wl=some (.lst (ws.map V.str))) (An:W4 (jn (ws.map sL))=t.wP.map sL) (Az:t.Rd) (AR:t.tall<=100) (Bh:t.size<=1000) (Cg:(ws.map (·.length)).sum+ws.length<=6000) (DG:∀ (r:Q7) (H':Hp),L2.Same H H'->At H' t r->Q (.ref r) H'):eT K vs H Q _E
def lj (K:Q4):Sp:=eT K
mutual
theorem oK:∀ t:Th,t.stP.length+1<=4 * t.size
 | .call s k=>by rw [Th.stP,Th.size];show 1+1<=4 * 1;omega
 | .knot n ts=>by
   rw [Th.stP,Th.size];by_cases hz:ts=[]
   · rw [if_pos hz];show 1+1<=_;omega
   · rw [if_neg hz,Q3,Q3,Ra];have:=qP ts
     have h1:1<=ay ts:=by
      cases ts with
      | nil=>exact absurd rfl hz
      | cons t ts=>rw [ay];have:=t.size_pos;omega
     show (i9 ts).length+1+1+1+1<=_;omega
theorem qP:∀ ts:List Th,(i9 ts).length<=4 * ay ts
 | []=>by rw [i9];exact RJ _
 | t::ts=>by
   rw [i9,ay,Ra];have h1:=oK t;have h2:=qP ts;by_cases hz:ts=[]
   · rw [if_pos hz];show _+0<=_;omega
   · rw [if_neg hz,Q3];omega
end
set_option maxHeartbeats 1000000 in
theorem f7:aV P w K mg base CX0 4 T.g_read_pattern.f T.g_read_pattern.d ["words"] (lj K):=by
 refine T.g_read_pattern.F.ok fV (fun vs H Q E h=>?_) (fun Ag A outer s H vs Q E hr h=>?_)
 · obtain ⟨wl,ws,t,rfl,_⟩:=h;rfl
 obtain ⟨wl,ws,t,rfl,ew,hW,C4,AI,hsz,hlen,kq⟩:=h
 refine ⟨_,(ad (ar (i:=1) fV.nd rfl (Rp rfl) (xI (sep:=QZ " ") (y:=QZ ".") (z:=QZ " . ") (pv 0) (by decide +kernel) (by decide +kernel)))
  (ae (ax (pcF T.g_built (LB.ok_built T) hr (aa (pcF T.g_tops_of (sO T) hr (aa (pcF T.g_steps_of (qH T) hr (aa (pcF T.g_words_of (qX T) hr (aa (pv 1) ab)) ab)) ab)) ab))))),?_⟩
 try dsimp only [Ar,Ac]
 have IL:(R8 (QZ " ") ws).length<=6000:=by
  have h1:(R8 (QZ " ") ws).length=(jn (ws.map sL)).length:=by rw [<- gb];exact congrArg Tt (lB ws)
  rw [h1];have h2:=wz (ws.map sL);rw [Tr,Q0] at h2;have h3:(ws.map (Tt ∘ sL))=ws.map (·.length):=TQ fun x _=>gb x;rw [h3] at h2;omega
 refine ⟨_,rfl,wl,ws,rfl,SqL.of ew,?_,by omega,?_⟩
 · show _+ws.length * 1<=1000000;omega
 dsimp only [aG]
 have KS:VZ (R8 (QZ " ") ws) (QZ ".") (QZ " . ")=ofL (dZ 46 [32,46,32] (jn (ws.map sL))):=by
  have h1:QZ "."=⟨#[46]⟩:=by decide +kernel
  have h2:(QZ " . ").cps.toList=[32,46,32]:=by decide +kernel
  rw [h1,replace_one _ _ _ (by decide +kernel),h2];exact congrArg (fun l=>ofL (dZ 46 [32,46,32] l)) (lB ws)
 rw [KS]
 have BQ:(ofL (dZ 46 [32,46,32] (jn (ws.map sL)))).length<=18000:=by
  rw [bu];have h1:=ja 46 [32,46,32] rfl (jn (ws.map sL))
  have h2:(jn (ws.map sL)).length<=6000:=by
   have h1:(R8 (QZ " ") ws).length=(jn (ws.map sL)).length:=by rw [<- gb];exact congrArg Tt (lB ws)
   omega
  omega
 have Pr:BB.wordsOf (ofL (dZ 46 [32,46,32] (jn (ws.map sL))))=t.wP:=by
  unfold BB.wordsOf;rw [aM,xB];show (W4 (jn (ws.map sL))).map ofL=_;rw [hW,Tr]
  conv=>rhs;rw [<- List.map_id t.wP]
  exact TQ fun x _=>dN x
 refine ⟨_,rfl,_,rfl,by omega,fun r1 H1 s1 _ e1=>?_⟩;rw [Pr] at e1;refine ⟨r1,t.stP,rfl,e1,nD C4,by have:=oK t;omega,fun r2 xs H2 s2 e2 Hg=>?_⟩;obtain ⟨b,hb,Fd⟩:=v6 AI;refine ⟨r2,xs,t.stP.map (·.2),_,rfl,e2,Hg,by rw [Q0];have:=oK t;omega,Fd,rfl,hb,fun r3 Af H3 s3 e3 JW=>?_⟩;obtain ⟨BH,hok⟩:=ud Th.call t;refine ⟨r3,Af,t.walk.map (dW Th.call),t,rfl,e3,wf JW,by rw [Q0,Th.walk_len];omega,hok,fun u hu=>Sw (qd t u hu) (by decide),by rw [BH,BB.ub],fun r4 H4 s4 Ep=>?_⟩;exact kq r4 H4 (s1.trans (s2.trans (s3.trans s4))) Ep
def kD:Sp:=fun vs H Q _=>∃ z:Ru,vs=[.str z]/\z.length<=30000/\∀ (r:Q7) (H':Hp),L2.Same H H'->H r=none->H' r=some (.lst (((wds (sL z)).map ofL).map V.str))->Q (.ref r) H'
def pG (k:Ru×Int):Prop:=bP k.1=true/\0<=k.2/\k.2<10
def jH:Sp:=fun vs H Q _=>∃ k:Ru×Int,vs=[.str (aY k)]/\pG k/\∀ (r:Q7) (H':Hp),L2.Same H H'->KAt H' k r->Q (.ref r) H'
inductive gM (vs:List V) (H:Hp) (Q:VK) (_E:XK):Prop
 | mk (f:Ru) (wl:Q7) (ks:List (Ru×Int)) (Aj:vs=[.str f,.ref wl]) (Ak:H wl=some (.lst ((f::ks.map aY).map V.str))) (An:ks≠[]) (Az:ks.length<=1000) (AR:(∀ k∈ks,pG k)) (Bh:∀ (r:Q7) (as:List Q7) (H':Hp),L2.Same H H'->H' r=some (.lst (as.map V.ref))->KsAt H' ks as->Q (.ref r) H'):gM  vs H Q _E
def m8:Sp:=gM
theorem split_le (c:Nat):∀ l:List Nat,(aR c l).length<=l.length+1
 | []=>Q8 _
 | d::l=>by
   have ih:=split_le c l;rw [aR];obtain ⟨p,r,e⟩:=cx c l;rw [e] at ih ⊢;rw [Q3] at ih;split
   · rw [Q3,Q3,Q3];omega
   · rw [Q3,Q3];omega
theorem fE {n:Ru} (h:bP n=true):(∀ c∈sL n,97<=c/\c<=122)/\n.length<=8/\n.length≠0:=by
 unfold bP low at h;obtain ⟨h1,h2⟩:=TY _ _ |>.mp h;have h3:=of_decide_eq_true h1;exact ⟨fun c hc=>of_decide_eq_true (TB.mp h2 c hc),h3.2,by omega⟩
theorem vR:sL rm=[47]:=by decide +kernel
theorem qG {k:Ru×Int} (h:pG k):sL (aY k)=sL k.1++47::sL (aJ k.2):=by
 unfold aY;rw [d6,d6,vR,RF];rfl
set_option maxHeartbeats 1000000 in
theorem rq:aV P w K mg base CX0 1 T.g_words_in.f T.g_words_in.d ["row"] kD:=by
 refine T.g_words_in.F.ok rh (fun vs H Q E h=>?_) (fun Ag A outer s H vs Q E hr h=>?_)
 · obtain ⟨z,rfl,_⟩:=h;rfl
 obtain ⟨z,rfl,hz,q⟩:=h;refine ⟨_,(ae (ax (bG (N:=[QZ "word"]) (js:=[none]) (g:=(aG 0)) (tt:=(l4 (tOp (rNe) (bV 0) (tC (.str (QZ "")))))) (te:=(bV 0)) rfl (cg rfl (by decide +kernel) (by decide +kernel) rfl rfl rfl) (df (bi RW VT VR lI (pv 0) (aa aA ab))) (fun _ _ _ _ _ _=>(aq (i:=0) vE rfl (Rp rfl))) (aX rfl) (fun _ _ _ _ _ _=>g8 (aD dO (pv 0) aA (aE _))) (fun _ _ _ _ _ _=>(pv 0))))),?_⟩
 try dsimp only [Ar,Ac]
 refine ⟨_,rfl,rfl,z,QZ " ",rfl,rfl,rfl,by omega,fun p hp=>?_⟩
 have Ct:Tn z (QZ " ")=(aR 32 (sL z)).map ofL:=by
  have h1:QZ " "=⟨#[32]⟩:=rfl;rw [h1,ku _ (by decide)];rfl
 have Fc:=split_le 32 (sL z);rw [gb] at Fc;have s1:L2.Same H (upd H p (.lst ((Tn z (QZ " ")).map V.str))):=ai hp _;have e1:(upd H p (.lst ((Tn z (QZ " ")).map V.str))) p=some (.lst (((aR 32 (sL z)).map ofL).map V.str)):=by rw [ac,Ct]
 generalize (upd H p (.lst ((Tn z (QZ " ")).map V.str)))=H1 at s1 e1 ⊢;refine ⟨p,rfl,⟨_,SqL.of e1⟩,jd ((aR 32 (sL z)).map ofL) (fun x=>!decide (V.str x=V.str (QZ ""))) V.str (SqL.of e1) (by rw [Q0,Q0,Q0]) (by rw [Q0,Q0];omega) (fun i x y H2 R hx hy sm r=>?_) (fun i x y H2 R hx hy _ sm r=>?_) (fun D hD=>?_)⟩
 · rw [Rg,hy] at hx;cases hx;exact ⟨_,rfl,rfl,_,rfl,r⟩
 · rw [Rg,hy] at hx;cases hx;exact ⟨_,rfl,r⟩
 · rw [qJ];exact q D _ (s1.trans (ai hD _)) (s1.free hD) ac
theorem pR:aV P w K mg base CX0 2 T.g_read_kind.f T.g_read_kind.d ["word"] jH:=by
 refine T.g_read_kind.F.ok dG (fun vs H Q E h=>?_) (fun Ag A outer s H vs Q E hr h=>?_)
 · obtain ⟨k,rfl,_⟩:=h;rfl
 obtain ⟨k,rfl,hk,kq⟩:=h
 refine ⟨_,(ad (fH (bi RW PySem.F.slot_str_partition PySem.F.type_str_partition oW (pv 0) (aa aA ab)) (cQ rfl (aL (aq (i:=1) dG.nd rfl (Rp rfl)) (aL (aq (i:=2) dG.nd rfl (Rp rfl)) (aL (aq (i:=3) dG.nd rfl (Rp rfl)) bX)))))
  (ad (aS (ci (aQ (pcF T.g_is_name (iP T) hr (aa (pv 1) ab)) (fun _=>rfl))) (ae bz) aH)
  (ae (ax (bg (aa (pv 1) (aa (pcF T.g_read_number (cR T) hr (aa (pv 3) ab)) ab))))))),?_⟩
 try dsimp only [Ar,Ac]
 obtain ⟨l1,l2,l3⟩:=fE hk.1;have hs:=qG hk
 have hl:(aY k).length<=20:=by
  rw [<- gb,hs,Ra,Q3,gb,cr hk.2.1 hk.2.2];show k.1.length+2<=20;omega
 refine ⟨_,rfl,rfl,_,47,sL k.1,sL (aJ k.2),rfl,by rw [show QZ "/"=(⟨#[47]⟩:Ru) by decide +kernel],hs,fun d hd=>by have:=l1 d hd;omega,by omega,fun p hp=>?_⟩;rw [show ofL (sL k.1)=k.1 from dN _,show ofL (sL (aJ k.2))=aJ k.2 from dN _];have s1:L2.Same H (upd H p (.tup [.str k.1,.str ⟨#[47]⟩,.str (aJ k.2)])):=ai hp _;have e1:(upd H p (.tup [.str k.1,.str ⟨#[47]⟩,.str (aJ k.2)])) p=some (.tup [.str k.1,.str ⟨#[47]⟩,.str (aJ k.2)]):=ac;generalize (upd H p (.tup [.str k.1,.str ⟨#[47]⟩,.str (aJ k.2)]))=H1 at s1 e1 ⊢;refine ⟨p,_,rfl,SqT.of e1,rfl,_,_,rfl,_,_,rfl,_,_,rfl,rfl,?_⟩;dsimp only [aG];refine ⟨_,rfl,k.1,rfl,by omega,fun H2 s2=>?_⟩;rw [hk.1];refine ⟨_,rfl,bA ?_⟩;dsimp only [eg];refine ⟨_,rfl,_,rfl,k.2,rfl,hk.2.1,hk.2.2,fun H3 s3=>⟨aj (by show 2<=1000000;decide),fun r AV=>?_⟩⟩;exact kq r _ (s1.trans (s2.trans (s3.trans (ai AV _)))) ac
set_option maxHeartbeats 1000000 in
theorem iG:aV P w K mg base CX0 3 T.g_read_kinds.f T.g_read_kinds.d ["first","words"] m8:=by
 refine T.g_read_kinds.F.ok m5 (fun vs H Q E h=>?_) (fun Ag A outer s H vs Q E hr h=>?_)
 · obtain ⟨f,wl,ks,rfl,_⟩:=h;rfl
 obtain ⟨f,wl,ks,rfl,ew,Av,hlen,hok,kq⟩:=h
 refine ⟨_,(ad (aS (PW.pt (eF (aD im (av ao rfl T.n_len RG (aa (pv 1) ab)) ag (aE _)) (dz (aD dO (az aO (pv 1) ag (fun _ _=>rfl)) (pv 0) (aE _))))) (ae bz) aH)
  (ae (ax (bG (N:=[QZ "word"]) (js:=[none]) (g:=(aG 0)) (tt:=bn) (te:=(ip jH [] E0 (b8 (bV 0) eR))) rfl (cg rfl (by decide +kernel) (by decide +kernel) rfl rfl rfl) (df (bT fP (pv 1) (bR ag) cL)) (fun _ _ _ _ _ _=>(aq (i:=0) vE rfl (Rp rfl))) (aX rfl) (fun _ _ _ _ _ _=>bN) (fun _ _ _ _ _ _=>(pcF T.g_read_kind (pR T) hr (aa (pv 0) ab))))))),?_⟩
 try dsimp only [Ar,Ac]
 have QL:=Up.mpr Av;refine ⟨_,rfl,wl,_,rfl,.inl (SqL.of ew),_,_,rfl,rfl,_,rfl,?_⟩;rw [decide_eq_false (by rw [Q0,Q3,Q0];omega)];refine bA ?_;refine ⟨_,rfl,wl,_,0,.str f,rfl,rfl,SqL.of ew,at0,_,rfl,rfl,_,rfl,?_⟩;rw [decide_eq_true rfl];refine bA ?_;dsimp only [eg];refine ⟨_,rfl,1,rfl,wl,_,rfl,SqL.of ew,fun l1 AZ=>?_⟩;have FA:cB ((f::ks.map aY).map V.str) (some 1) none=(ks.map aY).map V.str:=jf _ _;rw [FA];have s1:L2.Same H (upd H l1 (.lst ((ks.map aY).map V.str))):=ai AZ _;have e1:(upd H l1 (.lst ((ks.map aY).map V.str))) l1=some (.lst ((ks.map aY).map V.str)):=ac;generalize (upd H l1 (.lst ((ks.map aY).map V.str)))=H1 at s1 e1 ⊢;refine ⟨l1,rfl,⟨_,SqL.of e1⟩,lx (F:=KAt) (xs:=(ks.map aY).map V.str) ks (fun H1 H2 z p kt h=>kt _ _ h) (by rw [Q0,Q0]) (by rw [Q0,Q0];omega) (fun i Hx sx hi=>⟨_,_,SqL.of (sx _ _ e1),Q1 hi⟩) (fun Hx sx=>⟨_,SqL.of (sx _ _ e1),Q8 _⟩) (fun i Hx x Hy sx hi hy=>⟨hy.1,hy.2 _ (SqL.of (sx _ _ e1))⟩) (fun i x k Hx R W' hx hk sx hR=>?_) (fun D H2 as hD s2 eD AE=>?_)⟩
 · rw [Rg,Rg,hk] at hx;cases hx;exact ⟨_,rfl,k,rfl,hok k (Rb hk),fun r H3 s3 h3=>hR H3 r s3 h3⟩
 · exact kq D as H2 (s1.trans s2) eD AE
def sW (ws:List Ru) (t:Th):Prop:=W4 (jn (ws.map sL))=t.wP.map sL/\t.Rd/\t.tall<=100/\t.size<=1000/\(ws.map (·.length)).sum+ws.length<=6000/\ws≠[]
inductive iJ (vs:List V) (H:Hp) (Q:VK) (_E:XK):Prop
 | mk (wl:Q7) (ws:List Ru) (t:Th) (Aj:vs=[.ref wl]) (Ak:H wl=some (.lst ((QZ "head"::ws).map V.str))) (An:sW ws t) (Az:∀ (r:Q7) (H':Hp),L2.Same H H'->At H' t r->Q (.ref r) H'):iJ  vs H Q _E
def pd:Sp:=iJ
inductive il (vs:List V) (H:Hp) (Q:VK) (_E:XK):Prop
 | mk (st:Int) (nm:Ru) (wl:Q7) (ws:List Ru) (t:Th) (Aj:vs=[.int st,.str nm,.ref wl]) (Ak:H wl=some (.lst ((QZ "rule"::aJ st::nm::ws).map V.str))) (An:0<=st) (Az:st<10) (AR:sW ws t) (Bh:∀ (r:Q7) (H':Hp),L2.Same H H'->At H' t r->Q (.ref r) H'):il  vs H Q _E
def pe:Sp:=il
set_option maxHeartbeats 1000000 in
theorem oZ:aV P w K mg base CX0 5 T.g_read_head.f T.g_read_head.d ["words"] pd:=by
 refine T.g_read_head.F.ok pQ (fun vs H Q E h=>?_) (fun Ag A outer s H vs Q E hr h=>?_)
 · obtain ⟨wl,ws,t,rfl,_⟩:=h;rfl
 obtain ⟨wl,ws,t,rfl,ew,⟨o1,o2,o3,o4,o5,o6⟩,kq⟩:=h
 refine ⟨_,(ad (aS (aD (yW (B:=150) (xc hr)) (bT fP (pv 0) cL (bR ag)) (bm (aa aA ab)) (aE _)) (ae bz) aH)
  (ae (ax (pcF T.g_read_pattern (f7 T) hr (aa (bT fP (pv 0) (bR ag) cL) ab))))),?_⟩
 try dsimp only [Ar,Ac]
 refine ⟨_,rfl,1,rfl,wl,_,rfl,SqL.of ew,fun l1 AZ=>?_⟩
 have FA:cB ((QZ "head"::ws).map V.str) none (some 1)=[.str (QZ "head")]:=by
  unfold cB;rw [show (1:Int)=((1:Nat):Int) by rfl,HT.sIx_none,HT.sIx_nat,Q0,Q3,Vi (by omega),Su];rfl
 rw [FA];have s1:L2.Same H (upd H l1 (.lst [.str (QZ "head")])):=ai AZ _;have e1:(upd H l1 (.lst [.str (QZ "head")])) l1=some (.lst [.str (QZ "head")]):=ac;generalize (upd H l1 (.lst [.str (QZ "head")]))=H1 at s1 e1 ⊢;refine ⟨aj (by show 1<=1000000;decide),fun l2 Bn=>?_⟩;have s2:L2.Same H1 (upd H1 l2 (.lst [.str (QZ "head")])):=ai Bn _;have e2:(upd H1 l2 (.lst [.str (QZ "head")])) l2=some (.lst [.str (QZ "head")]):=ac;generalize (upd H1 l2 (.lst [.str (QZ "head")]))=H2 at s2 e2 ⊢;refine ⟨l1,l2,_,_,[.str (QZ "head")],[.str (QZ "head")],rfl,rfl,SqL.of (s2 _ _ e1),SqL.of e2,.cons (by rw [DAt]) .nil,.cons (by rw [DAt]) .nil,by decide +kernel,fun bb Fv=>⟨_,rfl,?_⟩⟩
 have hb:bb=false:=by
  cases bb with
  | false=>rfl
  | true=>exact absurd rfl (Fv.mp rfl)
 subst hb;refine bA ?_;dsimp only [eg];have Dx:=(s1.trans s2) _ _ ew;refine ⟨_,rfl,1,rfl,wl,_,rfl,SqL.of Dx,fun l3 Hh=>?_⟩;have Fh:cB ((QZ "head"::ws).map V.str) (some 1) none=ws.map V.str:=jf _ _;rw [Fh];have s3:L2.Same H2 (upd H2 l3 (.lst (ws.map V.str))):=ai Hh _;have e3:(upd H2 l3 (.lst (ws.map V.str))) l3=some (.lst (ws.map V.str)):=ac;generalize (upd H2 l3 (.lst (ws.map V.str)))=H3 at s3 e3 ⊢;exact ⟨l3,ws,t,rfl,e3,o1,o2,o3,o4,o5,fun r H4 s4 h4=>kq r H4 (s1.trans (s2.trans (s3.trans s4))) h4⟩
set_option maxHeartbeats 1000000 in
theorem qa:aV P w K mg base CX0 5 T.g_read_rule.f T.g_read_rule.d ["state","name","words"] pe:=by
 refine T.g_read_rule.F.ok oV (fun vs H Q E h=>?_) (fun Ag A outer s H vs Q E hr h=>?_)
 · obtain ⟨st,nm,wl,ws,t,rfl,_⟩:=h;rfl
 obtain ⟨st,nm,wl,ws,t,rfl,ew,s0,Gb,⟨o1,o2,o3,o4,o5,o6⟩,kq⟩:=h
 refine ⟨_,(ad (aS (PW.pt (eF (aD im (av ao rfl T.n_len RG (aa (pv 2) ab)) ag (aE _)) (eF (aD dO (az aO (pv 2) ag (fun _ _=>rfl)) aA (aE _)) (eF (aD dO (pcF T.g_read_number (cR T) hr (aa (az aO (pv 2) ag (fun _ _=>rfl)) ab)) (pv 0) (aE _)) (dz (aD dO (az aO (pv 2) ag (fun _ _=>rfl)) (pv 1) (aE _))))))) (ae bz) aH)
  (ae (ax (pcF T.g_read_pattern (f7 T) hr (aa (bT fP (pv 2) (bR ag) cL) ab))))),?_⟩
 try dsimp only [Ar,Ac]
 have QM:=Up.mpr o6;refine ⟨_,rfl,wl,_,rfl,.inl (SqL.of ew),_,_,rfl,rfl,_,rfl,?_⟩;rw [decide_eq_false (by rw [Q0,Q3,Q3,Q3];omega)];refine bA ?_;refine ⟨_,rfl,wl,_,0,.str (QZ "rule"),rfl,rfl,SqL.of ew,at0,rfl,_,rfl,?_⟩;rw [decide_eq_true rfl];refine bA ?_;refine ⟨_,rfl,wl,_,1,.str (aJ st),rfl,rfl,SqL.of ew,at1,st,rfl,s0,Gb,fun H1 s1=>?_⟩;refine ⟨_,rfl,rfl,_,rfl,?_⟩;rw [decide_eq_true rfl];refine bA ?_;have MG:=s1 _ _ ew;refine ⟨_,rfl,wl,_,2,.str nm,rfl,rfl,SqL.of MG,at2,_,rfl,rfl,_,rfl,?_⟩;rw [decide_eq_true rfl];refine bA ?_;dsimp only [eg];refine ⟨_,rfl,3,rfl,wl,_,rfl,SqL.of MG,fun l3 Hh=>?_⟩
 have Fh:cB ((QZ "rule"::aJ st::nm::ws).map V.str) (some 3) none=ws.map V.str:=by
  rw [show (3:Int)=((3:Nat):Int) by rfl,nN (by rw [Q0,Q3,Q3,Q3];omega)];rfl
 rw [Fh];have s3:L2.Same H1 (upd H1 l3 (.lst (ws.map V.str))):=ai Hh _;have e3:(upd H1 l3 (.lst (ws.map V.str))) l3=some (.lst (ws.map V.str)):=ac;generalize (upd H1 l3 (.lst (ws.map V.str)))=H3 at s3 e3 ⊢;exact ⟨l3,ws,t,rfl,e3,o1,o2,o3,o4,o5,fun r H4 s4 h4=>kq r H4 (s1.trans (s3.trans s4)) h4⟩
structure ul (ins:List (Ru×Int)) (rows:List (List Th)) (WR:List (List Ru)):Prop where
 len:WR.length=rows.length * ins.length
 row:∀ row∈rows,row.length=ins.length
 le:rows.length<=9
 w:∀ (s j:Nat) (row:List Th) (t:Th) (k:Ru×Int),rows[s]?=some row->row[j]?=some t->ins[j]?=some k->∃ ws,WR[s * ins.length+j]?=some (QZ "rule"::aJ (s:Nat)::k.1::ws)/\sW ws t
structure RlI (H0:Hp) (rl:Q7) (rows:List (List Th)) (n i L:Nat) (AW:List Q7) (H:Hp):Prop where
 sm:L2.Same H0 H
 rl0:H0 rl=none
 er:H rl=some (.lst (AW.map V.ref))
 len:AW.length=L
 nd:AW.Nodup
 fr:∀ a∈AW,H0 a=none
 rln:rl∉AW
 ent:∀ (s:Nat) (a:Q7) (row:List Th),AW[s]?=some a->rows[s]?=some row->∃ Af:List Q7,H a=some (.lst (Af.map V.ref))/\Ats H (row.take (i - s * n)) Af
theorem RlI.same {H0 H H':Hp} {rl:Q7} {rows:List (List Th)} {n i L:Nat} {AW:List Q7} (h:RlI H0 rl rows n i L AW H) (s:L2.Same H H'):RlI H0 rl rows n i L AW H' :=
 ⟨h.sm.trans s,h.rl0,s _ _ h.er,h.len,h.nd,h.fr,h.rln,fun x a row h1 h2=>by
  obtain ⟨Af,e,ht⟩:=h.ent x a row h1 h2;exact ⟨Af,s _ _ e,ht.mono (Same.kt s)⟩⟩
inductive gD (vs:List V) (H:Hp) (Q:VK) (_E:XK):Prop
 | mk (ia wr:Q7) (Aq Fi:List Q7) (ins:List (Ru×Int)) (rows:List (List Th)) (WR:List (List Ru)) (Aj:vs=[.ref ia,.ref wr]) (Ak:H ia=some (.lst (Aq.map V.ref))) (An:KsAt H ins Aq) (Az:ins≠[]) (AR:ins.length<=8) (Bh:H wr=some (.lst (Fi.map V.ref))) (Cg:R3 (fun ws a=>H a=some (.lst ((ws:List Ru).map V.str))) WR Fi) (DG:ul ins rows WR) (G0:∀ (r:Q7) (AW:List Q7) (H':Hp),L2.Same H H'->H' r=some (.lst (AW.map V.ref))->R3 (LRow H') rows AW->Q (.ref r) H'):gD  vs H Q _E
def no:Sp:=gD
theorem lJ {α β:Type} {F:α->β->Prop}:∀ {a:List α} {b:List β},a.length=b.length->(∀ (i:Nat) (x:α) (y:β),a[i]?=some x->b[i]?=some y->F x y)->R3 F a b
 | [],[],_,_=>.nil
 | x::a,y::b,hl,h=>.cons (h 0 x y rfl rfl) (lJ (by simpa using hl) fun i u v hu hv=>h (i+1) u v (by simpa using hu) (by simpa using hv))
 | [],y::b,hl,_=>by cases hl
 | x::a,[],hl,_=>by cases hl
set_option maxHeartbeats 2000000 in
theorem m4:aV P w K mg base CX0 6 T.g_read_rules.f T.g_read_rules.d ["ins","rows"] no:=by
 refine T.g_read_rules.F.ok b6 (fun vs H Q E h=>?_) (fun Ag A outer s H vs Q E hr h=>?_)
 · obtain ⟨ia,wr,Aq,Fi,ins,rows,WR,rfl,_⟩:=h;rfl
 obtain ⟨ia,wr,Aq,Fi,ins,rows,WR,rfl,ei,BS,Av,h8,KU,MH,O,kq⟩:=h
 refine ⟨_,(ad (aS (aD dO (am aZ (av ao rfl T.n_len RG (aa (pv 1) ab)) (av ao rfl T.n_len RG (aa (pv 0) ab))) ag (aE _)) (ae bz) aH)
  (ad (ar (i:=2) b6.nd rfl (Rp rfl) (bm ab))
  (ad (br RM rfl (vX rfl T.n_enumerate (pv 1)) (cQ rfl (aL (aq (i:=3) b6.nd rfl (Rp rfl)) (aL (aq (i:=4) b6.nd rfl (Rp rfl)) bX))) (ad (fH (av qR rfl T.n_divmod PyProof.Rows.boot_divmod (aa (pv 3) (aa (av ao rfl T.n_len RG (aa (pv 0) ab)) ab))) (cQ rfl (aL (aq (i:=5) b6.nd rfl (Rp rfl)) (aL (aq (i:=6) b6.nd rfl (Rp rfl)) bX))))
  (ad (aS (aD cI (pv 6) ag (aE _)) (ae (aT (bi Rk RB RA aN (pv 2) (aa (bm ab) ab)))) aH)
  (ae (aT (bi Rk RB RA aN (az aO (pv 2) (pv 5) (fun _ _=>rfl)) (aa (pcF T.g_read_rule (qa T) hr (aa (pv 5) (aa (az aI (az aO (pv 0) (pv 6) (fun _ _=>rfl)) ag (fun _ _=>rfl)) (aa (pv 4) ab)))) ab)))))))
  (ae (ax (pv 2)))))),?_⟩
 try dsimp only [Ar,Ac]
 have Jv:=Up.mpr Av;have A':ins.length=Aq.length:=Rx BS;have B':WR.length=Fi.length:=Rx MH;have KW:=O.len;have Pt:=O.le
 have hle:rows.length * ins.length<=72:=by
  have h1:rows.length * ins.length<=9 * ins.length:=SW _ Pt;omega
 obtain ⟨n,hn⟩:∃ n,n=ins.length:=⟨_,rfl⟩;have hN:((Aq.map V.ref).length:Int)=((n:Nat):Int):=by rw [Q0,hn,A']
 have hW:((Fi.map V.ref).length:Int)=((rows.length * n:Nat):Int):=by rw [Q0,<- B',KW,hn]
 refine ⟨_,rfl,wr,_,rfl,.inl (SqL.of KU),_,rfl,ia,_,rfl,.inl (SqL.of ei),_,_,rfl,rfl,(by rw [hN];omega),rfl,_,rfl,?_⟩;rw [hN,hW]
 have hm:(((rows.length * n:Nat)):Int)%((n:Nat):Int)=0:=by
  push_cast
  exact Int.mul_emod_left _ _
 rw [hm,decide_eq_true rfl];refine bA ?_;dsimp only [eg];refine ⟨aj (by show 0<=1000000;decide),fun rl BQ=>?_⟩;have s1:L2.Same H (upd H rl (.lst [])):=ai BQ _;have e1:(upd H rl (.lst [])) rl=some (.lst (([]:List Q7).map V.ref)):=ac;generalize (upd H rl (.lst []))=H1 at s1 e1 ⊢;dsimp only [aG];have Cr:0<n:=by omega
 refine ⟨_,rfl,wr,rfl,⟨_,SqL.of (s1 _ _ KU)⟩,?_⟩
 refine vk (K:=K) (a:=wr) (xs:=Fi.map V.ref) (fun i σ H3=>Ex5 fun (c3 c4 c5 c6:Option V) (AW:List Q7)=>An2 (σ=[some (.ref ia),some (.ref wr),some (.ref rl),c3,c4,c5,c6]) (RlI H rl rows n i ((i+n - 1) / n) AW H3))
  ⟨none,none,none,none,[],rfl,⟨s1,BQ,e1,by rw [UJ,Vc (by omega)];rfl,U4,(fun a h=>by cases h),SX,fun s a row h=>by simp at h⟩⟩ (fun i σ H3 _ ⟨_,_,_,_,_,_,I⟩=>SqL.of (I.sm _ _ KU)) ?_ ?_
 · rintro i x pr σ H3 hx Cy ⟨c3,c4,c5,c6,AW,rfl,I0⟩;obtain ⟨wa,rfl,IM⟩:=ba hx;have Pu:=(Rm.mp IM).1;have Hi:i<rows.length * n:=by rw [hn,<- KW];omega
   obtain ⟨s,hs⟩:∃ s,s=i / n:=⟨_,rfl⟩;obtain ⟨j,hj⟩:∃ j,j=i%n:=⟨_,rfl⟩;have Ej:i=s * n+j:=by rw [hs,hj,Vq];exact (Nat.div_add_mod i n).symm
   have Pw:j<n:=by rw [hj];exact Nat.mod_lt _ Cr
   have Px:s<rows.length:=by rw [hs];exact Nat.div_lt_of_lt_mul (by rw [Vq];exact Hi)
   have s4:L2.Same H3 (upd H3 pr (.tup [.int ((i:Nat):Int),.ref wa])):=ai Cy _;have e4:(upd H3 pr (.tup [.int ((i:Nat):Int),.ref wa])) pr=some (.tup [.int ((i:Nat):Int),.ref wa]):=ac;generalize (upd H3 pr (.tup [.int ((i:Nat):Int),.ref wa]))=H4 at s4 e4 ⊢;have I4:=I0.same s4;refine ⟨pr,_,rfl,SqT.of e4,rfl,_,_,rfl,_,_,rfl,rfl,?_⟩;dsimp only [aG];refine ⟨_,rfl,_,rfl,ia,_,rfl,.inl (SqL.of (I4.sm _ _ ei)),_,_,rfl,⟨by rw [hN];omega,by rw [hN];omega⟩,fun dp Py=>?_⟩;rw [hN];have BU:((i:Nat):Int) / ((n:Nat):Int)=((s:Nat):Int):=by rw [hs];rfl
   have hd2:((i:Nat):Int)%((n:Nat):Int)=((j:Nat):Int):=by rw [hj];rfl
   rw [BU,hd2];have s5:L2.Same H4 (upd H4 dp (.tup [.int ((s:Nat):Int),.int ((j:Nat):Int)])):=ai Py _;have e5:(upd H4 dp (.tup [.int ((s:Nat):Int),.int ((j:Nat):Int)])) dp=some (.tup [.int ((s:Nat):Int),.int ((j:Nat):Int)]):=ac;generalize (upd H4 dp (.tup [.int ((s:Nat):Int),.int ((j:Nat):Int)]))=H5 at s5 e5 ⊢;have I5:=I4.same s5;refine ⟨dp,_,rfl,SqT.of e5,rfl,_,_,rfl,_,_,rfl,rfl,?_⟩;dsimp only [aG]
   have Dz:(i+n - 1) / n=if j=0 then s else s+1:=by
    split
    · rename_i h
      rw [Ej,h,Nat.add_zero,show s * n+n - 1=(n - 1)+s * n by omega,U9 _ _ Cr,Vc (by omega),UJ]
    · rw [Ej,show s * n+j+n - 1=(j - 1)+(s+1) * n by rw [Ud];omega,U9 _ _ Cr,Vc (by omega),UJ]
   have Hj:(i+1+n - 1) / n=s+1:=by
    rw [Ej,show s * n+j+1+n - 1=j+(s+1) * n by rw [Ud];omega,U9 _ _ Cr,Vc Pw,UJ]
   refine bS (fun Ab H'=>Ex1 fun (D7:List Q7)=>An2 (Ab=[some (.ref ia),some (.ref wr),some (.ref rl),some (.int ((i:Nat):Int)),some (.ref wa),some (.int ((s:Nat):Int)),some (.int ((j:Nat):Int))]) (RlI H rl rows n i (s+1) D7 H')) (fun kk hk=>?_) ?_
   · refine ⟨_,rfl,rfl,_,rfl,?_⟩;by_cases FK:j=0
     · rw [decide_eq_true (show V.int ((j:Nat):Int)=V.int 0 by rw [FK];rfl)];refine cE ?_;refine ⟨_,rfl,.inl ⟨rfl,_,SqL.of I5.er⟩,aj (by show 0<=1000000;decide),fun la Bu=>?_⟩;have s6:L2.Same H5 (upd H5 la (.lst [])):=ai Bu _;have e6:(upd H5 la (.lst [])) la=some (.lst (([]:List Q7).map V.ref)):=ac;generalize (upd H5 la (.lst []))=H6 at s6 e6 ⊢;have I6:=I5.same s6;have IP:la≠rl:=fun z=>by rw [z,I5.er] at Bu;cases Bu
       have Pz:la∉AW:=fun z=>by
        obtain ⟨y,hy⟩:=RZ.mp z;have Gh:=(Rm.mp hy).1;have hL:=I5.len;rw [Dz,if_pos FK] at hL;obtain ⟨row,Ae⟩:∃ row,rows[y]?=some row:=⟨_,Q1 (by omega)⟩;obtain ⟨Af,e,_⟩:=I5.ent y la row hy Ae;rw [Bu] at e;cases e
       have hL:=I6.len;rw [Dz,if_pos FK] at hL;refine ⟨rl,_,_,rfl,rfl,I6.er,aF (by rw [Q0];omega),?_⟩;have k7:KT H6 (upd H6 rl (.lst (AW.map V.ref++[.ref la]))):=aW I6.er;refine hk _ _ ⟨AW++[la],rfl,aC I6.sm I6.rl0,I6.rl0,by rw [ac,Rj];rfl,by rw [Ra,hL];rfl,WM.mpr ⟨I6.nd,Td.mpr ⟨SX,U4⟩,fun b hb c hc e=>Pz (by rw [<- RH.mp hc,<- e];exact hb)⟩,fun b hb=>?_,fun z=>?_,fun y a row h1 h2=>?_⟩
       · rcases RE.mp hb with hb | hb
         · exact I6.fr b hb
         · rw [RH.mp hb];exact I5.sm.free Bu
       · rcases RE.mp z with z | z
         · exact I6.rln z
         · exact IP (RH.mp z).symm
       · by_cases hy:y<AW.length
         · rw [T6 hy] at h1;obtain ⟨Af,e,ht⟩:=I6.ent y a row h1 h2;have Fj:a≠rl:=fun z=>I6.rln (by rw [<- z];exact Rb h1);exact ⟨Af,by rw [al Fj];exact e,ht.mono k7⟩
         · have PB:=(Rm.mp h1).1;rw [Ra,Sq] at PB;obtain rfl:y=s:=by omega
           rw [Ts (by omega),hL,UK] at h1;cases h1;refine ⟨[],by rw [al IP];exact e6,?_⟩;rw [Ej,FK,Nat.add_zero,UK,SG];exact .nil
     · rw [decide_eq_false (show ¬ V.int ((j:Nat):Int)=V.int 0 from fun z=>FK (by have:=V.int.inj z;omega))];refine bA ?_;dsimp only [eg];refine hk _ _ ⟨AW,rfl,?_⟩;rw [Dz,if_neg FK] at I5;exact I5
   · rintro Ab H6 ⟨D7,rfl,I6⟩;refine hid fun ZZ kZ=>?_;obtain ⟨la,Bu⟩:∃ la,D7[s]?=some la:=⟨_,Q1 (by rw [I6.len];omega)⟩;obtain ⟨row,Ae⟩:∃ row,rows[s]?=some row:=⟨_,Q1 Px⟩;have PC:=O.row row (Rb Ae);obtain ⟨t,ht⟩:∃ t,row[j]?=some t:=⟨_,Q1 (by omega)⟩;obtain ⟨k,hk⟩:∃ k,ins[j]?=some k:=⟨_,Q1 (by omega)⟩;obtain ⟨ka,AQ,B6⟩:=P2.get BS hk;obtain ⟨ws,Ci,IQ⟩:=O.w s j row t k Ae ht hk;rw [<- hn,<- Ej] at Ci;obtain ⟨DN,Hk,PD⟩:=P2.get' MH IM;rw [Ci] at Hk;cases Hk;obtain ⟨Af,C3,BR⟩:=I6.ent s la row Bu Ae;refine kZ ?_;have AI:=BR.length;rw [RP] at AI;refine ⟨_,rfl,_,rfl,rl,_,_,.ref la,rfl,rfl,SqL.of I6.er,at_nonneg (by omega) (by rw [SU,Rg,Bu];rfl),.inl ⟨rfl,_,SqL.of C3⟩,?_⟩;refine ⟨_,rfl,_,rfl,_,rfl,ia,_,_,.ref ka,rfl,rfl,SqL.of (I6.sm _ _ ei),at_nonneg (by omega) (by rw [SU,Rg,AQ];rfl),ka,_,0,.str k.1,rfl,rfl,SqT.of (I6.sm _ _ B6),at0,_,rfl,?_⟩;refine ⟨((s:Nat):Int),k.1,wa,ws,t,rfl,I6.sm _ _ PD,by omega,by omega,IQ,fun r H7 s7 PF=>?_⟩;have I7:=I6.same s7;have Hl:=s7 _ _ C3;refine ⟨la,_,_,rfl,rfl,Hl,aF (by rw [Q0];omega),?_⟩;have CU:=Rb Bu;have IP:la≠rl:=fun z=>I6.rln (by rw [<- z];exact CU);have k8:KT H7 (upd H7 la (.lst (Af.map V.ref++[.ref r]))):=aW Hl;refine ⟨_,_,_,_,D7,rfl,aC I7.sm (I7.fr la CU),I7.rl0,by rw [al IP.symm];exact I7.er,by rw [Hj];exact I7.len,I7.nd,I7.fr,I7.rln,fun y a Fb h1 h2=>?_⟩;by_cases MI:y=s
     · subst MI;rw [Bu] at h1;cases h1;rw [Ae] at h2;cases h2;refine ⟨Af++[r],by rw [ac,Rj];rfl,?_⟩;have e1:i - y * n=j:=by omega
       have e2:i+1 - y * n=j+1:=by omega
       rw [e1] at BR;rw [e2,take_snoc ht];exact Ats.append (BR.mono ((Same.kt s7).trans k8)) (.cons (PF.mono k8) .nil)
     · obtain ⟨Ff,e,D0⟩:=I7.ent y a Fb h1 h2
       have Fj:a≠la:=fun z=>by
        rw [z] at h1;exact MI ((List.getElem?_inj (Rm.mp h1).1 I7.nd).mp (h1.trans Bu.symm))
       refine ⟨Ff,by rw [al Fj];exact e,?_⟩;have Gh:=(Rm.mp h1).1;rw [I7.len] at Gh;have G1:=O.row Fb (Rb h2);have hmul:(y+1) * n<=s * n:=SW _ (by omega);rw [Ud] at hmul;rw [R0 (by omega)] at D0 ⊢;exact D0.mono k8
 · rintro σ H3 ⟨c3,c4,c5,c6,AW,rfl,I⟩;rw [Q0,<- B',KW,<- hn] at I;refine ⟨_,rfl,kq rl AW H3 I.sm I.er (lJ ?_ fun y row a h1 h2=>?_)⟩
   · rw [I.len,show rows.length * n+n - 1=(n - 1)+rows.length * n by omega,U9 _ _ Cr,Vc (by omega),UJ]
   · obtain ⟨Af,e,ht⟩:=I.ent y a row h2 h1;have Gh:=(Rm.mp h1).1;have hmul:(y+1) * n<=rows.length * n:=SW _ (by omega);rw [Ud] at hmul;rw [R0 (by rw [O.row row (Rb h1)];omega)] at ht;exact ⟨Af,e,ht⟩
def ie (r:List Nat):List Ru:=(wds r).map ofL
structure yE (z:Ru) (ins outs:List (Ru×Int)) (head:Th) (rows:List (List Th)) (r0 r1 r2:List Nat) (rest:List (List Nat)):Prop where
 sp:aR 10 (sL z)=r0::r1::r2::rest
 zl:z.length<=1000000
 rl:∀ r∈r0::r1::r2::rest,r.length<=30000
 n:rest.length<=1000
 w0:ie r0=QZ "in"::ins.map aY
 w1:ie r1=QZ "out"::outs.map aY
 w2:∃ ws,ie r2=QZ "head"::ws/\sW ws head
 w3:ul ins rows (rest.map ie)
 ki:∀ k∈ins,pG k
 ko:∀ k∈outs,pG k
 i8:ins.length<=8
 o8:outs.length<=8
 ine:ins≠[]
 one:outs≠[]
 sz:∀ row∈rows,∀ t∈row,t.size<=1000
inductive iw (vs:List V) (H:Hp) (Q:VK) (_E:XK):Prop
 | mk (z:Ru) (ins outs:List (Ru×Int)) (head:Th) (rows:List (List Th)) (r0 r1 r2:List Nat) (rest:List (List Nat)) (Aj:vs=[.str z]) (Ak:yE z ins outs head rows r0 r1 r2 rest) (An:cy ins=true) (Az:cy outs=true) (AR:sF ins outs head rows) (Bh:∀ (r:Q7) (H':Hp),L2.Same H H'->Bk H' ins outs head rows r->Q (.ref r) H'):iw  vs H Q _E
def pK:Sp:=iw
def uR (H:Hp) (ws:List Ru) (a:Q7):Prop:=H a=some (.lst (ws.map V.str))
theorem rO {α β:Type} {F G:α->β->Prop}:∀ {a:List α} {b:List β},(∀ x y,y∈b->F x y->G x y)->R3 F a b->R3 G a b
 | _,_,_,.nil=>.nil
 | _,_,f,.cons h t=>.cons (f _ _ (Rn ..) h) (rO (fun x y hy=>f x y (Ri _ hy)) t)
set_option maxHeartbeats 2000000 in
theorem fv:aV P w K mg base CX0 8 T.g_read_book.f T.g_read_book.d ["text"] pK:=by
 refine T.g_read_book.F.ok cM (fun vs H Q E h=>?_) (fun Ag A outer s H vs Q E hr h=>?_)
 · obtain ⟨z,ins,outs,head,rows,r0,r1,r2,rest,rfl,_⟩:=h;rfl
 obtain ⟨z,ins,outs,head,rows,r0,r1,r2,rest,rfl,B,gi,go,hok,kq⟩:=h
 refine ⟨_,(ad (jy (i:=1) (N:=[QZ "row"]) (js:=[none]) (g:=(aG 0)) (tt:=bn) (te:=(ip kD [] E0 (b8 (bV 0) eR))) cM.nd rfl (Rp rfl) rfl (cg rfl (by decide +kernel) (by decide +kernel) rfl rfl rfl) (df (bi RW VT VR lI (pv 0) (aa aA ab))) (fun _ _ _ _ _ _=>(aq (i:=0) zD rfl (Rp rfl))) (aX rfl) (fun _ _ _ _ _ _=>bN) (fun _ _ _ _ _ _=>(pcF T.g_words_in (rq T) hr (aa (pv 0) ab))))
  (ad (aS (aD im (av ao rfl T.n_len RG (aa (pv 1) ab)) ag (aE _)) (ae bz) aH)
  (ad (ar (i:=2) cM.nd rfl (Rp rfl) (pcF T.g_read_kinds (iG T) hr (aa aA (aa (az aO (pv 1) ag (fun _ _=>rfl)) ab))))
  (ad (ar (i:=3) cM.nd rfl (Rp rfl) (pcF T.g_read_kinds (iG T) hr (aa aA (aa (az aO (pv 1) ag (fun _ _=>rfl)) ab))))
  (ad (ar (i:=4) cM.nd rfl (Rp rfl) (pcF T.g_read_head (oZ T) hr (aa (az aO (pv 1) ag (fun _ _=>rfl)) ab)))
  (ae (ax (pcF T.g_made_book (o7 T) hr (aa (pv 2) (aa (pv 3) (aa (pv 4) (aa (pcF T.g_read_rules (m4 T) hr (aa (pv 2) (aa (bT fP (pv 1) (bR ag) cL) ab))) ab)))))))))))),?_⟩
 try dsimp only [Ar,Ac]
 have QN:=B.zl;have QO:=B.n;refine ⟨_,rfl,rfl,z,QZ "\n",rfl,rfl,rfl,by omega,fun p hp=>?_⟩;obtain ⟨R,hR⟩:∃ R,R=r0::r1::r2::rest:=⟨_,rfl⟩
 have Ct:Tn z (QZ "\n")=R.map ofL:=by
  have h1:QZ "\n"=⟨#[10]⟩:=rfl;rw [h1,ku _ (by decide),hR,<- B.sp];rfl
 have Cb:R.length=rest.length+3:=by rw [hR];rfl
 have s1:L2.Same H (upd H p (.lst ((Tn z (QZ "\n")).map V.str))):=ai hp _;have e1:(upd H p (.lst ((Tn z (QZ "\n")).map V.str))) p=some (.lst ((R.map ofL).map V.str)):=by rw [ac,Ct]
 generalize (upd H p (.lst ((Tn z (QZ "\n")).map V.str)))=H1 at s1 e1 ⊢;refine ⟨p,rfl,⟨_,SqL.of e1⟩,fun D hD=>?_⟩;refine ⟨R.length,fun j H2=>Ex1 fun (as:List Q7)=>An5 (j<=R.length) (L2.Same H1 H2) (H2 D=some (.lst (as.map V.ref))) (D∉as) (R3 (uR H2) ((R.take j).map ie) as),⟨[],RJ _,ai hD _,ac,SX,.nil⟩,?_⟩;rintro j H2 ⟨as,hj,s2,eD,MJ,has⟩;have KY:=s2 _ _ e1;have Cj:((R.take j).map ie).length=as.length:=Rx has;rw [Q0,RP] at Cj;by_cases CQ:j=R.length
 · left;refine ⟨⟨_,SqL.of KY,by rw [Q0,Q0,CQ];exact Q8 _⟩,?_⟩;rw [CQ,SM,hR] at has;dsimp only [aG];have Bu:as.length=rest.length+3:=by omega
   refine ⟨_,rfl,D,_,rfl,.inl (SqL.of eD),_,_,rfl,rfl,_,rfl,?_⟩;rw [decide_eq_false (by rw [Q0];omega)];refine bA ?_;dsimp only [eg];refine hid fun ZZ kZ=>?_;obtain ⟨a0,h0,w0⟩:=P2.get has (i:=0) rfl;obtain ⟨a1,h1,w1⟩:=P2.get has (i:=1) rfl;obtain ⟨a2,h2,w2⟩:=P2.get has (i:=2) rfl;refine kZ ?_;have Au:∀ (i:Nat) (a:Q7),as[i]?=some a->atI (as.map V.ref) ((i:Nat):Int)=some (.ref a):=fun i a h=>fC (by rw [Rg,h];rfl);unfold uR at w0 w1 w2;rw [B.w0] at w0;rw [B.w1] at w1;obtain ⟨ws,E5,IQ⟩:=B.w2;rw [E5] at w2;refine ⟨_,rfl,D,_,0,.ref a0,rfl,rfl,SqL.of eD,Au 0 a0 h0,_,a0,ins,rfl,w0,B.ine,by have:=B.i8;omega,B.ki,fun ia Aq H3 s3 MK ML=>?_⟩;dsimp only [aG];refine ⟨_,rfl,D,_,1,.ref a1,rfl,rfl,SqL.of (s3 _ _ eD),Au 1 a1 h1,_,a1,outs,rfl,s3 _ _ w1,B.one,by have:=B.o8;omega,B.ko,fun oa Al H4 s4 GD PH=>?_⟩;dsimp only [aG];have BX:=s3.trans s4;refine ⟨_,rfl,D,_,2,.ref a2,rfl,rfl,SqL.of (BX _ _ eD),Au 2 a2 h2,a2,ws,head,rfl,BX _ _ w2,IQ,fun ha H5 s5 PJ=>?_⟩;dsimp only [aG];have Cz:=BX.trans s5;refine ⟨_,rfl,_,rfl,_,rfl,_,rfl,_,rfl,3,rfl,D,_,rfl,SqL.of (Cz _ _ eD),fun l3 Hh=>?_⟩
   have FA:cB (as.map V.ref) (some 3) none=(as.drop 3).map V.ref:=by
    rw [show (3:Int)=((3:Nat):Int) by rfl,nN (by rw [Q0];omega),List.map_drop]
   rw [FA];have s6:L2.Same H5 (upd H5 l3 (.lst ((as.drop 3).map V.ref))):=ai Hh _;have e6:(upd H5 l3 (.lst ((as.drop 3).map V.ref))) l3=some (.lst ((as.drop 3).map V.ref)):=ac;generalize (upd H5 l3 (.lst ((as.drop 3).map V.ref)))=H6 at s6 e6 ⊢;have MM:=Cz.trans s6;have Hm:=s5.trans s6;have Er:=s4.trans Hm
   have B9:R3 (fun ws a=>H6 a=some (.lst ((ws:List Ru).map V.str))) (rest.map ie) (as.drop 3):=by
    have:=P2.drop 3 has;exact P2.mp (fun _ _ e=>MM _ _ e) this
   refine ⟨ia,l3,Aq,as.drop 3,ins,rows,rest.map ie,rfl,Er _ _ MK,ML.mono (Same.kt Er),B.ine,B.i8,e6,B9,B.w3,fun ru AW H7 s7 KC KZ=>?_⟩;have MN:=Er.trans s7;have MO:=Hm.trans s7;have hI:kg K H7 ins ia Aq:=⟨.inl (SqL.of (MN _ _ MK)),ML.mono (Same.kt MN),by have:=B.i8;omega,fun k hk=>by have:=(fE (B.ki k hk).1).2.1;omega⟩;have hO:kg K H7 outs oa Al:=⟨.inl (SqL.of (MO _ _ GD)),PH.mono (Same.kt MO),by have:=B.o8;omega,fun k hk=>by have:=(fE (B.ko k hk).1).2.1;omega⟩;exact ⟨ia,oa,ha,ru,Aq,Al,AW,ins,outs,head,rows,rfl,hI,gi,hO,go,PJ.mono (Same.kt (s6.trans s7)),by have:=IQ.2.2.2.1;omega,KC,KZ,by have:=B.w3.le;omega,fun row Ae t ht=>by have:=B.sz row Ae t ht;omega,hok,fun r H8 s8 hB=>kq r H8 (s1.trans (s2.trans (MM.trans (s7.trans s8)))) hB⟩
 · right;have Bl:j<R.length:=by omega
   obtain ⟨r,AV⟩:∃ r,R[j]?=some r:=⟨_,Q1 Bl⟩;refine ⟨Bl,⟨_,.str (ofL r),SqL.of KY,by rw [Rg,Rg,AV];rfl⟩,?_⟩;rintro y H3 ⟨q1,hv⟩;have PK:H3=H2:=q1;subst PK;have B0:=hv _ (SqL.of KY);rw [Rg,Rg,AV] at B0;cases B0;have BQ:=B.rl r (by rw [<- hR];exact Rb AV);refine ⟨_,rfl,ofL r,rfl,by rw [bu];exact BQ,fun ra H4 s4 FJ era=>?_⟩;have Iq:=s4 _ _ eD;have Hn:ra≠D:=fun z=>by rw [z,eD] at FJ;cases FJ
   have PL:uR H4 (ie r) ra:=by
    unfold uR ie;rw [show sL (ofL r)=r from aM r] at era;exact era
   refine ⟨_,Iq,aF (by rw [Q0];omega),as++[ra],Bl,aC (s2.trans s4) hD,by rw [ac,Rj];rfl,fun zz=>?_,?_⟩
   · rcases RE.mp zz with zz | zz
     · exact MJ zz
     · exact Hn (RH.mp zz).symm
   · rw [take_snoc AV,Rj];refine P2.append (rO (fun ws a hm e=>?_) has) (.cons ?_ .nil)
     · unfold uR;rw [al (fun z=>MJ (by rw [<- z];exact hm))];exact s4 _ _ e
     · unfold uR;rw [al Hn];exact PL
inductive eZ (K:Q4) (vs:List V) (H:Hp) (Q:VK) (_E:XK):Prop
 | mk (a:Q7) (ns:List Int) (k:Int) (Aj:vs=[.ref a,.int k]) (Ak:SqL K H a (ns.map V.int)) (An:0<=k) (Az:Q (.int (cellAt ns k)) H):eZ K vs H Q _E
def lb (K:Q4):Sp:=eZ K
theorem bJ:aV P w K mg base CX0 1 T.g__law_cell_at.f T.g__law_cell_at.d ["script","k"] (lb K):=by
 refine T.g__law_cell_at.F.ok lh (fun vs H Q E h=>?_) (fun Ag A outer s H vs Q E hr h=>?_)
 · obtain ⟨a,ns,k,rfl,_⟩:=h;rfl
 obtain ⟨a,ns,k,rfl,hS,h0,q⟩:=h
 refine ⟨_,(ad (aS (aD im (pv 1) (av ao rfl T.n_len RG (aa (pv 0) ab)) (aE _)) (ae (ax (am aZ (az aO (pv 0) (pv 1) (fun _ _=>rfl)) (am vH ag ag)))) aH)
  (ae (ax ag))),?_⟩
 try dsimp only [Ar,Ac]
 refine ⟨_,rfl,_,rfl,a,_,rfl,.inl hS,_,_,rfl,rfl,_,rfl,?_⟩;refine cA (fun c=>?_) (fun c=>?_)
 · have c':k<(((ns.map V.int).length:Nat):Int):=of_decide_eq_true c;rw [Q0] at c';refine ⟨_,rfl,_,rfl,a,_,k,_,rfl,rfl,hS,int_at h0 c',_,_,rfl,rfl,⟨by decide,by decide,by decide⟩,_,_,rfl,rfl,?_,?_⟩
   · show (0:Int)<10 ^ 60;decide
   · have e:cellAt ns k=ns.getD k.toNat 0%10 ^ 60:=by unfold cellAt;rw [if_pos c']
     rw [e] at q;exact q
 · have c':¬ k<(((ns.map V.int).length:Nat):Int):=of_decide_eq_false (Uj.mpr c);rw [Q0] at c';have e:cellAt ns k=0:=by unfold cellAt;rw [if_neg c']
   rw [e] at q;exact q
inductive io (vs:List V) (H:Hp) (Q:VK) (_E:XK):Prop
 | mk (base n:Int) (Aj:vs=[.int base,.int n]) (Ak:0<=base) (An:0<=n) (Az:Q (.str (nameOf base n)) H):io  vs H Q _E
def oH:Sp:=io
theorem o0:aV P w K mg base CX0 1 T.g__law_name.f T.g__law_name.d ["base","n"] oH:=by
 refine T.g__law_name.F.ok bo (fun vs H Q E h=>?_) (fun Ag A outer s H vs Q E hr h=>?_)
 · obtain ⟨b,n,rfl,_⟩:=h;rfl
 obtain ⟨b,n,rfl,h0,hn,q⟩:=h
 refine ⟨_,(ad (ar (i:=2) bo.nd rfl (Rp rfl) aA)
  (ad (ar (i:=3) bo.nd rfl (Rp rfl) aA)
  (ad (ar (i:=4) bo.nd rfl (Rp rfl) (am bj (pv 0) ag))
  (ad (br RM rfl (bw rfl T.n_range (aa ag ab)) (aq (i:=5) bo.nd rfl (Rp rfl)) (ad (ar (i:=3) bo.nd rfl (Rp rfl) (am aK (pv 3) (az pT (pv 2) (am aZ (pv 4) ag) (fun _ _=>rfl))))
  (ae (ar (i:=4) bo.nd rfl (Rp rfl) (am bj (pv 4) ag)))))
  (ad (aS (aD cI (am aZ (pv 0) ag) ag (aE _)) (ae (ax (bT sX (pv 3) cL (bR (am bE (pv 1) ag))))) aH)
  (ad (ar (i:=6) bo.nd rfl (Rp rfl) (am bE ag (am aZ (am bj (pv 0) ag) ag)))
  (ad (ar (i:=7) bo.nd rfl (Rp rfl) (am aZ (am aZ (am bj (pv 0) ag) ag) (pv 6)))
  (ad (ar (i:=8) bo.nd rfl (Rp rfl) (az pT (pv 2) (am aZ (am bE (bi RW PySem.F.slot_str_index PySem.F.type_str_index wU (pv 2) (aa (az pT (pv 3) (pv 7) (fun _ _=>rfl)) ab)) (pv 1)) ag) (fun _ _=>rfl)))
  (ae (ax (am aK (am aK (bT sX (pv 3) cL (bR (pv 7))) (pv 8)) (bT sX (pv 3) (bR (am bE (pv 7) ag)) (bR (pv 6)))))))))))))),?_⟩
 try dsimp only [Ar,Ac]
 refine ⟨_,rfl,_,_,rfl,rfl,⟨by decide,by decide⟩,?_⟩;refine ⟨8,rfl,by decide,by decide,?_⟩;refine bK (n:=8) (fun i σ H2=>Ex1 fun kv=>An2 (H2=H) (σ=[some (.int b),some (.int n),some (.str dH),some (.str (cG (b / 112) i)),some (.int (b / 112 / 26 ^ i)),kv,none,none,none])) ⟨none,rfl,?_⟩ ?_ ?_
 · have e1:cG (b / 112) 0=QZ "":=by
    show (⟨([]:List Nat).toArray⟩:Ru)=QZ "";decide +kernel
   have e2:b / 112 / 26 ^ 0=b / 112:=by rw [Int.pow_zero,VV]
   rw [e1,e2];rfl
 · rintro i σ H2 hi ⟨kv,rfl,rfl⟩;have h1:=RS (b / 112 / 26 ^ i) (by decide:(26:Int)≠0);have h2:=RQ (b / 112 / 26 ^ i) (by decide:(0:Int)<26);refine ⟨_,rfl,_,rfl,_,rfl,_,_,rfl,rfl,(by show (0:Int)<26;decide),dH,_,_,rfl,rfl,aj (by rw [kN];decide),nP h1 h2,_,_,rfl,rfl,aj ?_,?_⟩
   · rw [cX];show i+1<=1000000;omega
   · refine ⟨_,rfl,_,_,rfl,rfl,⟨by decide,by decide⟩,some (.int (0+i)),rfl,?_⟩
     have e1:b / 112 / 26 ^ (i+1)=b / 112 / 26 ^ i / 26:=by
      rw [Int.pow_succ,Int.ediv_ediv_of_nonneg (Int.le_of_lt (Int.pow_pos (by decide)))]
     rw [sS,e1];rfl
 · rintro σ H2 ⟨kv,rfl,rfl⟩;have hw:=cX (b / 112) 8;refine ⟨_,rfl,_,_,rfl,rfl,(by show (0:Int)<2;decide),rfl,_,rfl,?_⟩;refine cA (fun c=>?_) (fun c=>?_)
   · have c':b%2=1:=V.int.inj (of_decide_eq_true c);refine ⟨_,rfl,_,rfl,_,_,rfl,rfl,_,rfl,_,rfl,aj (by rw [hw];decide),?_⟩;have e:nameOf b n=fN (cG (b / 112) 8) none (some (n+1)):=by unfold nameOf;rw [if_pos c']
     rw [e] at q;exact q
   · have c':¬ b%2=1:=fun z=>c (decide_eq_true (congrArg V.int z));have hs:=jZ b;have ha:=wu b;refine ⟨_,rfl,_,_,rfl,rfl,⟨by decide,by decide⟩,_,_,rfl,rfl,(by show (0:Int)<8;decide),_,_,rfl,rfl,?_⟩;refine ⟨_,rfl,_,_,rfl,rfl,⟨by decide,by decide⟩,_,_,rfl,rfl,(by show (0:Int)<7;decide),_,rfl,_,_,rfl,rfl,(by show (0:Int)<eh b;omega),?_⟩;have hk:(nAt b).toNat<8:=by omega
     have IM:atI (cG (b / 112) 8).cps.toList (nAt b)=some (97+((b / 112 / 26 ^ (nAt b).toNat)%26).toNat):=by
      refine at_nonneg ha.1 ?_;show (f9 (b / 112) 8)[(nAt b).toNat]?=_;unfold f9;rw [Rg,UO hk];rfl
     have h1:=RS (b / 112 / 26 ^ (nAt b).toNat) (by decide:(26:Int)≠0);have h2:=RQ (b / 112 / 26 ^ (nAt b).toNat) (by decide:(0:Int)<26);have h3:=RS ((((b / 112 / 26 ^ (nAt b).toNat)%26).toNat:Int)+n) (by decide:(26:Int)≠0);have h4:=RQ ((((b / 112 / 26 ^ (nAt b).toNat)%26).toNat:Int)+n) (by decide:(0:Int)<26);refine ⟨_,rfl,_,rfl,rfl,_,rfl,_,rfl,_,nAt b,_,rfl,rfl,aj (by rw [hw];decide),IM,dH,_,_,[],rfl,rfl,vd _ (by omega),_,rfl,_,_,rfl,rfl,_,_,rfl,rfl,(by show (0:Int)<26;decide),dH,_,_,rfl,rfl,aj (by rw [kN];decide),nP h3 h4,?_⟩;have l1:=eB (cG (b / 112) 8) none (some (nAt b));have l2:=eB (cG (b / 112) 8) (some (nAt b+1)) (some (eh b));rw [hw] at l1 l2;refine ⟨_,rfl,_,rfl,_,rfl,_,rfl,aj (by rw [hw];decide),_,rfl,_,_,rfl,rfl,aj ?_,_,rfl,_,rfl,_,_,rfl,rfl,_,rfl,_,rfl,_,rfl,_,rfl,aj (by rw [hw];decide),_,_,rfl,rfl,aj ?_,?_⟩
     · show (fN (cG (b / 112) 8) none (some (nAt b))).length+1<=1000000;omega
     · rw [Rh];show (fN (cG (b / 112) 8) none (some (nAt b))).length+1+(fN (cG (b / 112) 8) (some (nAt b+1)) (some (eh b))).length<=1000000;omega
     · have e:nameOf b n=fN (cG (b / 112) 8) none (some (nAt b))++⟨#[kW b n]⟩++fN (cG (b / 112) 8) (some (nAt b+1)) (some (eh b)):=by unfold nameOf;rw [if_neg c']
       rw [e] at q;exact q
inductive gR (vs:List V) (H:Hp) (Q:VK) (_E:XK):Prop
 | mk (cell:Int) (Aj:vs=[.int cell]) (Ak:0<=cell) (An:∀ (r:Q7) (as:List Q7) (H':Hp),L2.Same H H'->H' r=some (.tup (as.map V.ref))->KsAt H' (cf cell) as->Q (.ref r) H'):gR  vs H Q _E
def m9:Sp:=gR
theorem iI:aV P w K mg base CX0 2 T.g__law_kinds.f T.g__law_kinds.d ["cell"] m9:=by
 refine T.g__law_kinds.F.ok bD (fun vs H Q E h=>?_) (fun Ag A outer s H vs Q E hr h=>?_)
 · obtain ⟨c,rfl,_⟩:=h;rfl
 obtain ⟨cell,rfl,h0,q⟩:=h
 refine ⟨_,(ad (ar (i:=1) bD.nd rfl (Rp rfl) (am bE (am fS (pv 0) ag) ag))
  (ad (ar (i:=2) bD.nd rfl (Rp rfl) (am bE ag (am aZ (pv 1) ag)))
  (ad (ar (i:=3) bD.nd rfl (Rp rfl) (am bj (pv 1) ag))
  (ad (ar (i:=4) bD.nd rfl (Rp rfl) (bm ab))
  (ad (br RM rfl (bw rfl T.n_range (aa (pv 2) ab)) (aq (i:=5) bD.nd rfl (Rp rfl)) (ad (aT (bi Rk RB RA aN (pv 4) (aa (bg (aa (pcF T.g__law_name (o0 T) hr (aa (am bj (pv 1) ag) (aa (pv 5) ab))) (aa (am aZ (pv 3) ag) ab))) ab)))
  (ae (ar (i:=3) bD.nd rfl (Rp rfl) (am bE (am bj (pv 3) ag) (pv 5))))))
  (ad (ar (i:=6) bD.nd rfl (Rp rfl) (am aZ (am bj (pv 1) ag) (pv 2)))
  (ad (fH (bg (aa (az aI (az aO (pv 4) (pv 6) (fun _ _=>rfl)) ag (fun _ _=>rfl)) (aa ag ab))) (lE (pv 4) (pv 6) set_list))
  (ae (ax (bf bp rfl T.n_tuple R4 (aa (pv 4) ab))))))))))),?_⟩
 try dsimp only [Ar,Ac]
 have hM:=xZ h0;have hm:=jj cell;have ha:=tO cell;refine ⟨_,rfl,_,_,rfl,rfl,.inr ⟨by decide,by decide⟩,_,_,rfl,rfl,?_⟩;refine ⟨_,rfl,_,_,rfl,rfl,(by show (0:Int)<6;decide),_,_,rfl,rfl,?_⟩;refine ⟨_,rfl,_,_,rfl,rfl,⟨by decide,by decide⟩,?_⟩;refine ⟨aj (by show 0<=1000000;decide),fun kl AN=>?_⟩;refine ⟨_,rfl,dq cell,rfl,by omega,by omega,?_⟩
 refine bK (n:=(dq cell).toNat) (fun i σ H2=>Ex2 fun kv as=>An4 (σ=[some (.int cell),some (.int (dF cell)),some (.int (dq cell)),some (.int (rests (dF cell / 7) i)),some (.ref kl),kv,none]) (L2.Same H H2) (H2 kl=some (.lst (as.map V.ref))) (KsAt H2 ((rp cell).take i) as))
  ⟨none,[],rfl,ai AN _,ac,.nil⟩ ?_ ?_
 · rintro i σ H2 hi ⟨kv,as,rfl,sm,e,hp⟩;have hb:0<=dF cell / 36:=Int.ediv_nonneg hM (by decide)
   have hl:as.length=i:=by
    have:=Rx hp;rw [RP,gy] at this;omega
   refine ⟨_,rfl,.inl ⟨rfl,_,SqL.of e⟩,_,rfl,_,_,rfl,rfl,⟨by decide,by decide⟩,_,rfl,dF cell / 36,0+(i:Int),rfl,hb,by omega,_,rfl,_,_,rfl,rfl,(by show (0:Int)<4;decide),aj (by show 2<=1000000;decide),fun p DF=>?_⟩;have C5:kl≠p:=aB e DF;refine ⟨kl,_,_,rfl,rfl,by rw [al C5];exact e,aF (by rw [Q0];omega),?_⟩;refine ⟨_,rfl,_,_,rfl,rfl,⟨by decide,by decide⟩,_,rfl,_,_,rfl,rfl,some (.int (0+(i:Int))),as++[p],?_,aC (aC sm (sm.free DF)) AN,?_,?_⟩
   · have e1:rests (dF cell / 7) (i+1)=rests (dF cell / 7) i / 4+(0+(i:Int)):=by rw [rests];omega
     rw [e1];rfl
   · rw [ac,Rj];rfl
   · have K0:i<(dq cell).toNat:=hi;rw [SS,ma K0];have kt:KT H2 (upd (upd H2 p (.tup [.str (nameOf (dF cell / 36) (0+(i:Int))),.int (rests (dF cell / 7) i%4)])) kl (.lst (as.map V.ref++[.ref p]))):=(dE DF).trans (aW (xs:=as.map V.ref) (by rw [al C5];exact e));refine P2.append (hp.mono kt) (.cons ?_ .nil);show (upd (upd H2 p _) kl _) p=_;rw [al C5.symm,ac,Int.zero_add]
 · rintro σ H2 ⟨kv,as,rfl,sm,e,hp⟩;have hk:(rp cell).take (dq cell).toNat=rp cell:=by rw [<- gy,SM]
   rw [hk] at hp
   have hl:as.length=(dq cell).toNat:=by
    have:=Rx hp;rw [gy] at this;omega
   obtain ⟨pa,GG,MP⟩:=P2.get hp (ma (cell:=cell) (i:=(kAt cell).toNat) (by omega));have Au:atI (as.map V.ref) (kAt cell)=some (.ref pa):=at_nonneg ha.1 (by rw [Rg,GG];rfl);have Ho:(((kAt cell).toNat:Nat):Int)=kAt cell:=by omega
   rw [Ho] at MP;refine ⟨_,rfl,_,_,rfl,rfl,⟨by decide,by decide⟩,_,rfl,_,_,rfl,rfl,(by show (0:Int)<dq cell;omega),?_⟩;refine ⟨_,rfl,_,rfl,kl,_,kAt cell,.ref pa,rfl,rfl,SqL.of e,Au,pa,_,0,_,rfl,rfl,SqT.of MP,at0,aj (by show 2<=1000000;decide),fun p DF=>?_⟩;have C5:kl≠p:=aB e DF;refine ⟨_,rfl,_,rfl,kl,_,kAt cell,(kAt cell).toNat,rfl,rfl,by rw [al C5];exact e,?_,?_⟩
   · unfold ixN;rw [if_pos ha.1,if_pos (by rw [Q0,hl];omega)]
   · refine ⟨_,rfl,kl,_,rfl,.inl ⟨SqL.of ac,fun l C9=>?_⟩⟩;have kt:KT H2 (upd (upd H2 p (.tup [.str (nameOf (dF cell / 36) (kAt cell)),.int 0])) kl (.lst ((as.map V.ref).set (kAt cell).toNat (.ref p)))):=(dE DF).trans (aW (xs:=as.map V.ref) (by rw [al C5];exact e));refine q l (as.set (kAt cell).toNat p) _ (aC (aC (aC sm (sm.free DF)) AN) ?_) ?_ ?_
     · exact (aC (aC sm (sm.free DF)) AN).free C9
     · rw [ac,List.map_set]
     · have PM:=kt.trans (dE (o:=.tup ((as.map V.ref).set (kAt cell).toNat (.ref p))) C9);refine P2.set ?_ _ (hp.mono PM)
       have PN:p≠l:=by
        intro z;rw [<- z,al C5.symm,ac] at C9;cases C9
       show (upd _ l _) p=_;rw [al PN,al C5.symm,ac]
theorem xJ (n:Nat) (z:Int):(Ro n [V.int z]).flatten=(Ro n z).map V.int:=by
 induction n with
 | zero=>rfl
 | succ n ih=>rw [Sd,RR,ih,Sd];rfl
inductive ga (K:Q4) (vs:List V) (H:Hp) (Q:VK) (_E:XK):Prop
 | mk (a:Q7) (xs:List V) (many:Int) (Aj:vs=[.ref a,.int many]) (Ak:H a=some (.lst xs)) (An:(∀ v∈xs,∃ z,v=.int z)) (Az:xs.length<=1000) (AR:1<=many) (Bh:many<=1000) (Cg:∀ (r:Q7) (cs:List Int) (H':Hp),L2.Same H H'->H' r=some (.lst (cs.map V.int))->cs.length=many.toNat->Q (.ref r) H'):ga K vs H Q _E
def l6 (K:Q4):Sp:=ga K
theorem mL:aV P w K mg base CX0 1 T.g__law_folded.f T.g__law_folded.d ["script","many"] (l6 K):=by
 refine T.g__law_folded.F.ok d7 (fun vs H Q E h=>?_) (fun Ag A outer s H vs Q E hr h=>?_)
 · obtain ⟨a,xs,many,rfl,_⟩:=h;rfl
 obtain ⟨a,xs,many,rfl,ea,hint,Ip,m1,m2,q⟩:=h
 refine ⟨_,(ad (ar (i:=2) d7.nd rfl (Rp rfl) (am zg (bm (aa ag ab)) (pv 1)))
  (ad (br RM rfl (bw rfl T.n_range (aa (av ao rfl T.n_len RG (aa (pv 0) ab)) ab)) (aq (i:=3) d7.nd rfl (Rp rfl)) (ae (fH (am aZ (am bE (am fS (az aO (pv 2) (am aZ (pv 3) (pv 1)) (fun _ _=>rfl)) ag) (az aO (pv 0) (pv 3) (fun _ _=>rfl))) (am vH ag ag)) (lE (pv 2) (am aZ (pv 3) (pv 1)) set_list))))
  (ae (ax (pv 2))))),?_⟩
 try dsimp only [Ar,Ac]
 refine ⟨aj (by show 1<=1000000;decide),fun l1 AZ=>?_⟩;have s1:L2.Same H (upd H l1 (.lst [.int 0])):=ai AZ _;have e1:(upd H l1 (.lst [.int 0])) l1=some (.lst [.int 0]):=ac;generalize (upd H l1 (.lst [.int 0]))=H1 at s1 e1 ⊢;refine ⟨_,rfl,l1,_,_,rfl,rfl,e1,by omega,by omega,aj (by show 1 * many.toNat<=1000000;omega),fun kl AN=>?_⟩;dsimp only;rw [xJ];have s2:L2.Same H (upd H1 kl (.lst ((Ro many.toNat (0:Int)).map V.int))):=s1.trans (ai AN _);have e2:(upd H1 kl (.lst ((Ro many.toNat (0:Int)).map V.int))) kl=some (.lst ((Ro many.toNat (0:Int)).map V.int)):=ac;have PQ:H kl=none:=s1.free AN;generalize (upd H1 kl (.lst ((Ro many.toNat (0:Int)).map V.int)))=H2 at s2 e2 ⊢;refine ⟨_,rfl,a,_,rfl,.inl (SqL.of (s2 _ _ ea)),_,rfl,by omega,by omega,?_⟩
 refine bK (n:=((xs.length:Nat):Int).toNat) (fun i σ H3=>Ex2 fun (kv:Option V) (cs:List Int)=>An4 (σ=[some (.ref a),some (.int many),some (.ref kl),kv]) (L2.Same H H3) (H3 kl=some (.lst (cs.map V.int))) (cs.length=many.toNat))
  ⟨none,_,rfl,s2,e2,Sb⟩ ?_ ?_
 · rintro i σ H3 hi ⟨kv,cs,rfl,s3,e3,Bi⟩
   have Bb:i<xs.length:=by
    have:i<((xs.length:Nat):Int).toNat:=hi;omega
   have y0:=RS (0+(i:Int)) (show many≠0 by omega);have y1:=RQ (0+(i:Int)) (show 0<many by omega);obtain ⟨ix,JV⟩:∃ ix:Nat,(0+(i:Int))%many=(ix:Int):=⟨_,(Vl y0).symm⟩;obtain ⟨c,hc⟩:∃ c,cs[ix]?=some c:=⟨_,Q1 (by omega)⟩;obtain ⟨x,hx⟩:∃ x,xs[i]?=some x:=⟨_,Q1 Bb⟩;obtain ⟨z,rfl⟩:=hint x (Rb hx);refine ⟨_,rfl,_,rfl,_,rfl,_,_,rfl,rfl,(by show 0<many;omega),kl,_,_,.int c,rfl,rfl,SqL.of e3,at_nonneg y0 (by rw [JV,SU,Rg,hc];rfl),_,_,rfl,rfl,.inr ⟨by decide,by decide⟩,?_⟩;refine ⟨_,rfl,_,rfl,a,_,_,.int z,rfl,rfl,SqL.of (s3 _ _ ea),at_nonneg (by omega) (by rw [show (0+(i:Int)).toNat=i by omega];exact hx),_,_,rfl,rfl,_,_,rfl,rfl,⟨by decide,by decide,by decide⟩,_,_,rfl,rfl,(by show (0:Int)<10 ^ 60;decide),?_⟩;refine ⟨_,rfl,_,rfl,_,rfl,_,_,rfl,rfl,(by show 0<many;omega),kl,_,_,ix,rfl,rfl,e3,?_,?_⟩
   · rw [JV];unfold ixN;rw [if_pos (by omega),if_pos (by rw [Q0];omega)];simp
   · refine ⟨_,cs.set ix ((c * 31+z)%10 ^ 60),rfl,aC s3 PQ,?_,by rw [Vk];exact Bi⟩;rw [ac,List.map_set];rfl
 · rintro σ H3 ⟨kv,cs,rfl,s3,e3,Bi⟩;exact ⟨_,rfl,q kl cs H3 s3 e3 Bi⟩
theorem j2 {H:Hp}:∀ {ks:List (Ru×Int)} {as:List Q7},KsAt H ks as->∀ z∈ks.zip as,z.1∈ks/\KAt H z.1 z.2
 | _,_,.nil,z,hz=>by simp at hz
 | _,_,.cons (a:=k) (b:=a) r t,z,hz=>by
   rw [List.zip_cons_cons] at hz;rcases Rq.mp hz with rfl | hz
   · exact ⟨Rn ..,r⟩
   · obtain ⟨h1,h2⟩:=j2 t z hz;exact ⟨Ri _ h1,h2⟩
theorem ml {K:Q4} {js:List (Option Nat)} {tt:TT} {te:TE} {σ:St} {H:Hp} {kr:Q7} {Ap:List Q7} {ks:List (Ru×Int)} {fin:Q7->Hp->Prop} (e:H kr=some (.tup (Ap.map V.ref))) (AE:KsAt H ks Ap) (g:ce ks)
 (EJ:∀ (z:Ru×Int) (ka:Q7) (H2:Hp) (R:Bool->Hp->Prop),L2.Same H H2->KAt H2 z ka->R (decide (V.int z.2=V.int 0)) H2->tt ((cσ js σ).set 0 (some (.ref ka))) H2 R)
 (EK:∀ (ka:Q7) (H2:Hp) (R:VK),R (.ref ka) H2->te ((cσ js σ).set 0 (some (.ref ka))) H2 R)
 (q:∀ (D:Q7) (k0:Ru×Int) (ka:Q7) (rs:List V) (H':Hp),H D=none->L2.Same H H'->H' D=some (.lst (.ref ka::rs))->k0∈ks->k0.2=0->KAt H' k0 ka->fin D H') :
 ∀ D,H D=none->∃ (n:Nat) (W:Nat->Hp->Prop),W 0 (upd H D (.lst []))/\eY js (aG 0) tt te σ (Itt K kr) D n W fun H'=>fin D H':=by
 have AN:ks.length=Ap.length:=Rx AE;have Iz:=g.le;have Ih:(ks.zip Ap).length=ks.length:=by rw [UY];omega
 have GI:∀ (i:Nat) (x:V) (z:(Ru×Int)×Q7),(Ap.map V.ref)[i]?=some x->(ks.zip Ap)[i]?=some z->x=.ref z.2:=fun i x z hx hz=>by
  obtain ⟨ka,rfl,AQ⟩:=ba hx;obtain ⟨h1,h2⟩:=T5.mp hz;rw [AQ] at h2;cases h2;rfl
 refine rC (ks.zip Ap) (fun z=>decide (V.int z.1.2=V.int 0)) (fun z=>.ref z.2) (SqT.of e) (by rw [Ih,Q0];exact AN) (by rw [Q0];omega) (fun i x z H2 R hx hz sm r=>?_) (fun i x z H2 R hx hz _ sm r=>?_) (fun D hD=>?_)
 · rw [GI i x z hx hz];have:=(j2 AE z (Rb hz)).2;exact EJ z.1 z.2 H2 R sm (sm _ _ this) r
 · rw [GI i x z hx hz];exact EK z.2 H2 R r
 · obtain ⟨k,hk,CF⟩:=g.zero;obtain ⟨i,hi,rfl⟩:=List.getElem_of_mem hk;have hz:(ks.zip Ap)[i]'(by omega)∈(ks.zip Ap).filter fun z=>decide (V.int z.1.2=V.int 0):=Vj.mpr ⟨List.getElem_mem _,by rw [List.getElem_zip];exact decide_eq_true (congrArg V.int CF)⟩
   have Ai:∀ z∈(ks.zip Ap).filter fun z=>decide (V.int z.1.2=V.int 0),z.1∈ks/\z.1.2=0/\KAt H z.1 z.2:=fun z hz=>by
    obtain ⟨h1,h2⟩:=Vj.mp hz;obtain ⟨h3,h4⟩:=j2 AE z h1;exact ⟨h3,V.int.inj (of_decide_eq_true h2),h4⟩
   generalize ((ks.zip Ap).filter fun z=>decide (V.int z.1.2=V.int 0))=bs at hz Ai ⊢;cases bs with
   | nil=>cases hz
   | cons z0 bs =>
     obtain ⟨h1,h2,h3⟩:=Ai z0 (Rn ..);exact q D z0.1 z0.2 _ _ hD (ai hD _) ac h1 h2 (ai hD _ _ _ h3)
inductive fk (n:Nat) (vs:List V) (H:Hp) (Q:VK) (_E:XK):Prop
 | mk (cell:Int) (oa:Q7) (Al:List Q7) (outs:List (Ru×Int)) (S C deep:Int) (Aj:vs=[.int cell,.ref oa,.int S,.int C,.int deep]) (Ak:H oa=some (.tup (Al.map V.ref))) (An:KsAt H outs Al) (Az:ce outs) (AR:0<=S) (Bh:S<=20) (Cg:0<=C) (DG:C<=3) (G0:0<=deep) (Kz:deep<(n:Int)) (G8:∀ (t:Th) (r:Q7) (H':Hp),L2.Same H H'->At H' t r->t.FitS outs S C->t.tall<=deep.toNat+1->Q (.ref r) H'):fk n vs H Q _E
def lg (n:Nat):Sp:=fk n
set_option maxHeartbeats 4000000 in
theorem dA:∀ n:Nat,aV P w K mg base CX0 (n+2) T.g__law_pattern.f T.g__law_pattern.d ["cell","outs","states","kids","deep"] (lg n)
 | 0=>⟨fun _ _ _ _ h=>by obtain ⟨_,_,_,_,_,_,_,_,_,_,_,_,_,_,_,h1,h2,_⟩:=h;omega,fun _ _ _ _ _ _ _ _ _ _ _ _ _ h=>by obtain ⟨_,_,_,_,_,_,_,_,_,_,_,_,_,_,_,h1,h2,_⟩:=h;omega⟩
 | n+1=>by
   have ih:=dA n;refine T.g__law_pattern.F.ok bx (fun vs H Q E h=>?_) (fun Ag A outer s H vs Q E hr h=>?_)
   · obtain ⟨cell,oa,Al,outs,S,C,deep,rfl,_⟩:=h;rfl
   obtain ⟨cell,oa,Al,outs,S,C,deep,rfl,eo,AE,g,S0,S1,C0,C1,d0,d1,q⟩:=h
   refine ⟨_,(ad (aS (PW.pt (pV (aD nH (am fS (pv 2) (pv 3)) ag (aE _)) (ly (PW.pt (eF (aD im (am aZ (pv 0) ag) ag (aE _)) (dz (PW.pt (pV (aD cI (pv 4) ag (aE _)) (ly (aD im (am aZ (pv 0) ag) ag (aE _))))))))))) (ae (ax (bg (aa aA (aa (am aZ (am bj (pv 0) ag) (pv 2)) (aa (am aZ (am bj (am bj (pv 0) ag) (pv 2)) (pv 3)) ab)))))) aH)
    (ad (ar (i:=5) bx.nd rfl (Rp rfl) (az aI (pv 1) (am aZ (am bj (pv 0) ag) (av ao rfl T.n_len RG (aa (pv 1) ab))) (fun _ _=>rfl)))
    (ad (aS (aD cI (pv 4) ag (aE _)) (ae (ar (i:=5) bx.nd rfl (Rp rfl) (az aO (bG (N:=[QZ "one"]) (js:=[none]) (g:=(aG 0)) (tt:=(l4 (tOp (rEq) (tOp (wn K) (bV 0) (tC (.int 1))) (tC (.int 0))))) (te:=(bV 0)) rfl (cg rfl (by decide +kernel) (by decide +kernel) rfl rfl rfl) (db (pv 1)) (fun _ _ _ _ _ _=>(aq (i:=0) yq rfl (Rp rfl))) (aX rfl) (fun _ _ _ _ _ _=>g8 (aD cI (az aI (pv 0) ag (fun _ _=>rfl)) ag (aE _))) (fun _ _ _ _ _ _=>(pv 0))) ag (fun _ _=>rfl)))) aH)
    (ad (ar (i:=6) bx.nd rfl (Rp rfl) (bg ab))
    (ad (br RM rfl (bw rfl T.n_range (aa (az aI (pv 5) ag (fun _ _=>rfl)) ab)) (aq (i:=7) bx.nd rfl (Rp rfl)) (ad (ar (i:=8) bx.nd rfl (Rp rfl) (jr (ih) (hr.mono (Q8 _)) rfl T.g__law_pattern.m T.g__law_pattern.F.kp T.g__law_pattern.b .nil mj (aa (am aZ (am fS (am bE (am bE (am bj (pv 0) ag) (pv 7)) ag) ag) ag) (aa (pv 1) (aa (pv 2) (aa (pv 3) (aa (am mh (pv 4) ag) ab)))))))
    (ae (ar (i:=6) bx.nd rfl (Rp rfl) (am fo (pv 6) (bg (aa (pv 8) ab)))))))
    (ae (ax (am fo (bg (aa (az aI (pv 5) ag (fun _ _=>rfl)) ab)) (pv 6))))))))),?_⟩
   try dsimp only [Ar,Ac]
   have AN:outs.length=Al.length:=Rx AE;have Iz:=g.le;have PR:=g.ne;refine bS (fun Ab H'=>An2 (H=H') (Ab=[some (.int cell),some (.ref oa),some (.int S),some (.int C),some (.int deep),none,none,none,none])) (fun kk hk=>?_) ?_
   · refine bZ (fun b H'=>An2 (H=H') ((b=true->0<S/\0<C))) (fun k2 A9=>?_) (fun H' hb=>?_) (fun H' hb=>?_)
     · refine ⟨_,rfl,_,rfl,_,_,rfl,rfl,.inl ⟨by omega,by omega⟩,_,_,rfl,rfl,_,rfl,?_⟩;refine cA (fun c1=>?_) (fun c1=>A9 _ _ ⟨rfl,fun z=>absurd z Rt⟩)
       have Hq:0<S/\0<C:=by
        have DZ:0<S * C:=of_decide_eq_true c1;refine ⟨?_,?_⟩
        · rcases WB S0 with h | h
          · exact h
          · rw [<- h] at DZ;simp at DZ
        · rcases WB C0 with h | h
          · exact h
          · rw [<- h] at DZ;simp at DZ
       refine ⟨_,rfl,_,_,rfl,rfl,(by show (0:Int)<5;decide),_,_,rfl,rfl,_,rfl,?_⟩;refine cA (fun c2=>A9 _ _ ⟨rfl,fun _=>Hq⟩) (fun c2=>?_);refine ⟨_,rfl,rfl,_,rfl,?_⟩;refine cA (fun c3=>?_) (fun c3=>A9 _ _ ⟨rfl,fun _=>Hq⟩);exact ⟨_,rfl,_,_,rfl,rfl,(by show (0:Int)<5;decide),_,_,rfl,rfl,_,rfl,A9 _ _ ⟨rfl,fun _=>Hq⟩⟩
     · obtain ⟨rfl,hb⟩:=hb;obtain ⟨hS,hC⟩:=hb rfl;refine ⟨_,rfl,_,_,rfl,rfl,⟨by decide,by decide⟩,_,rfl,_,_,rfl,rfl,hS,_,rfl,_,_,rfl,rfl,⟨by decide,by decide⟩,_,rfl,_,_,rfl,rfl,⟨hS,by omega⟩,_,rfl,_,_,rfl,rfl,hC,aj (by show 3<=1000000;decide),fun ca E4=>?_⟩;have y0:=RS (cell / 5) (show S≠0 by omega);have y1:=RQ (cell / 5) hS;have y2:=RS (cell / 5 / S) (show C≠0 by omega);have y3:=RQ (cell / 5 / S) hC;refine q (.call (cell / 5%S) (cell / 5 / S%C)) ca _ (ai E4 _) ?_ ?_ ?_
       · rw [At];exact ac
       · rw [Th.FitS];exact ⟨y0,by omega,y2,by omega⟩
       · rw [Th.tall];omega
     · obtain ⟨rfl,_⟩:=hb;exact hk _ _ ⟨rfl,rfl⟩
   rintro Ab H' ⟨rfl,rfl⟩;have m0:=RS (cell / 5) (show ((Al.map V.ref).length:Int)≠0 by rw [Q0];omega);have m1:=RQ (cell / 5) (show (0:Int)<((Al.map V.ref).length:Int) by rw [Q0];omega);refine hid fun ZZ kZ=>?_;obtain ⟨k0,CF⟩:∃ k0,outs[(cell / 5%((Al.map V.ref).length:Int)).toNat]?=some k0:=⟨_,Q1 (by rw [Q0] at m0 m1 ⊢;omega)⟩;obtain ⟨ka,AQ,B6⟩:=P2.get AE CF;refine kZ ?_;refine ⟨_,rfl,_,rfl,_,_,rfl,rfl,⟨by decide,by decide⟩,_,rfl,oa,_,rfl,.inr (SqT.of eo),_,_,rfl,rfl,(by show (0:Int)<((Al.map V.ref).length:Int);rw [Q0];omega),oa,_,_,.ref ka,rfl,rfl,SqT.of eo,at_nonneg m0 (by rw [Rg,AQ];rfl),?_⟩;dsimp only [aG];refine bS (fun Ab H'=>Ex2 fun (k0:Ru×Int) (ka:Q7)=>An5 (k0∈outs) (KAt H' k0 ka) ((deep=0->k0.2=0)) (L2.Same H H') (Ab=[some (.int cell),some (.ref oa),some (.int S),some (.int C),some (.int deep),some (.ref ka),none,none,none])) (fun kk hk=>?_) ?_
   · refine bZ (fun b H'=>An2 (H=H') ((b=false->deep≠0))) (fun k2 A9=>?_) (fun H' hb=>?_) (fun H' hb=>?_)
     · exact ⟨_,rfl,rfl,_,rfl,A9 _ _ ⟨rfl,fun z z2=>of_decide_eq_false z (congrArg V.int z2)⟩⟩
     · obtain ⟨rfl,_⟩:=hb;refine ⟨_,rfl,oa,rfl,⟨_,SqT.of eo⟩,ml (K:=K) eo AE g (fun z ka H2 R sm hz r=>⟨_,rfl,ka,_,1,_,rfl,rfl,SqT.of hz,at1,rfl,_,rfl,r⟩) (fun ka H2 R r=>⟨_,rfl,r⟩) (fun D k1 Ew rs H1 hD s1 eD K1 Em e1=>?_)⟩;exact ⟨D,_,0,.ref Ew,rfl,rfl,SqL.of eD,at0,hk _ _ ⟨k1,Ew,K1,e1,fun _=>Em,s1,rfl⟩⟩
     · obtain ⟨rfl,hb⟩:=hb;exact hk _ _ ⟨k0,ka,Rb CF,B6,fun z=>absurd z (hb rfl),.refl _,rfl⟩
   rintro Ab H1 ⟨k0,ka,BL,B6,hz,s1,rfl⟩;have CV:=g.num k0 BL;refine ⟨aj (by show 0<=1000000;decide),fun pl AX=>?_⟩;have s2:L2.Same H1 (upd H1 pl (.tup [])):=ai AX _;have e2:(upd H1 pl (.tup [])) pl=some (.tup (([]:List Q7).map V.ref)):=ac;generalize (upd H1 pl (.tup []))=H2 at s2 e2 ⊢;have Dw:=s1.trans s2;refine ⟨_,rfl,ka,_,1,_,rfl,rfl,SqT.of (s2 _ _ B6),at1,k0.2,rfl,by omega,by omega,?_⟩
   refine bK (n:=k0.2.toNat) (fun i σ H3=>Ex5 fun (c7 c8:Option V) (pl:Q7) (bs:List Q7) (ts:List Th)=>An6 (σ=[some (.int cell),some (.ref oa),some (.int S),some (.int C),some (.int deep),some (.ref ka),some (.ref pl),c7,c8]) (L2.Same H1 H3) (H3 pl=some (.tup (bs.map V.ref))) (Ats H3 ts bs) (ts.length=i) (∀ t∈ts,t.FitS outs S C/\t.tall<=(deep - 1).toNat+1))
    ⟨none,none,pl,[],[],rfl,s2,e2,.nil,rfl,fun t ht=>by cases ht⟩ ?_ ?_
   · rintro i σ H3 hi ⟨c7,c8,pl,bs,ts,rfl,s3,e3,BV,AI,Ai⟩;have IS:i<k0.2.toNat:=hi;have sB:L2.Same H H3:=s1.trans s3
     have CG:1<=deep:=by
      by_cases z:deep=0
      · have:=hz z;omega
      · omega
     refine ⟨_,rfl,_,_,rfl,rfl,⟨by decide,by decide⟩,_,rfl,_,_,rfl,rfl,_,_,rfl,rfl,_,_,rfl,rfl,.inr ⟨by decide,by decide⟩,_,_,rfl,rfl,(by show (0:Int)<2147483647;decide),?_⟩;refine ⟨_,rfl,_,rfl,_,rfl,_,rfl,_,_,rfl,rfl,_,oa,Al,outs,S,C,deep - 1,rfl,sB _ _ eo,AE.mono (Same.kt sB),g,S0,S1,C0,C1,by omega,by omega,fun t r H4 s4 Au Aw AB=>?_⟩;have BH:bs.length=ts.length:=BV.length;refine ⟨_,rfl,_,rfl,aj (by show 1<=1000000;decide),fun p1 Cn=>?_⟩;dsimp only;have s5:L2.Same H4 (upd H4 p1 (.tup [.ref r])):=ai Cn _;have e5:(upd H4 p1 (.tup [.ref r])) p1=some (.tup [.ref r]):=ac;generalize (upd H4 p1 (.tup [.ref r]))=H5 at s5 e5 ⊢;refine sh (s5 _ _ (s4 _ _ e3)) e5 (by rw [Q0];show bs.length+1<=1000000;omega) fun p H6 s6 e6=>?_;have Hm:=s4.trans (s5.trans s6);refine ⟨_,_,p,bs++[r],ts++[t],rfl,s3.trans Hm,by rw [e6,Rj];rfl,(BV.mono (Same.kt Hm)).append (.cons (Au.mono (Same.kt (s5.trans s6))) .nil),by rw [Ra,AI];rfl,fun u hu=>?_⟩;rcases RE.mp hu with hu | hu
     · exact Ai u hu
     · rw [RH.mp hu];exact ⟨Aw,AB⟩
   · rintro σ H3 ⟨c7,c8,pl,bs,ts,rfl,s3,e3,BV,AI,Ai⟩;have BH:bs.length=ts.length:=BV.length;refine ⟨_,rfl,ka,_,0,.str k0.1,rfl,rfl,SqT.of (s3 _ _ B6),at0,aj (by show 1<=1000000;decide),fun p1 Cn=>?_⟩;dsimp only;have s4:L2.Same H3 (upd H3 p1 (.tup [.str k0.1])):=ai Cn _;have e4:(upd H3 p1 (.tup [.str k0.1])) p1=some (.tup [.str k0.1]):=ac;generalize (upd H3 p1 (.tup [.str k0.1]))=H4 at s4 e4 ⊢;refine ⟨_,rfl,?_⟩;refine sh e4 (s4 _ _ e3) (by rw [Q0];show 1+bs.length<=1000000;omega) fun p H6 s6 e6=>?_;have D5:=(g.low k0 BL).1;refine q (.knot k0.1 ts) p H6 (s1.trans (s3.trans (s4.trans s6))) ?_ ?_ ?_
     · rw [At];exact ⟨yu D5,bs,e6,BV.mono (Same.kt (s4.trans s6))⟩
     · rw [Th.FitS];refine ⟨?_,FitSs.of fun t ht=>(Ai t ht).1⟩
       have:(k0.1,(ts.length:Int))=k0:=by
        rw [AI];exact Prod.ext rfl (by show ((k0.2.toNat:Nat):Int)=k0.2;omega)
       rw [this];exact BL
     · rw [Th.tall];by_cases z:deep=0
       · have A9:=hz z;have:ts=[]:=R7.mp (by omega);subst this;rw [bd];omega
       · have:=n5 (n:=(deep - 1).toNat+1) fun t ht=>(Ai t ht).2;omega
inductive fX (n:Nat) (vs:List V) (H:Hp) (Q:VK) (_E:XK):Prop
 | mk (l:Q7) (x:Int) (oa:Q7) (Al:List Q7) (outs:List (Ru×Int)) (S C deep:Int) (Aj:vs=[.ref l,.ref oa,.int S,.int C,.int deep]) (Ak:H l=some (.lst [.int x])) (An:H oa=some (.tup (Al.map V.ref))) (Az:KsAt H outs Al) (AR:ce outs) (Bh:0<=S) (Cg:S<=20) (DG:0<=C) (G0:C<=3) (Kz:0<=deep) (G8:deep<(n:Int)) (KA:∀ (t:Th) (r:Q7) (x':Int) (H':Hp),SameB l H H'->H' l=some (.lst [.int x'])->At H' t r->t.FitS outs S C->t.tall<=deep.toNat+1->Q (.ref r) H'):fX n vs H Q _E
def lV (n:Nat):Sp:=fX n
set_option maxHeartbeats 4000000 in
theorem dP:∀ n:Nat,aV P w K mg base CX0 (n+2) T.g__law_digits.f T.g__law_digits.d ["own","outs","states","kids","deep"] (lV n)
 | 0=>⟨fun _ _ _ _ h=>by obtain ⟨_,_,_,_,_,_,_,_,_,_,_,_,_,_,_,_,_,h1,h2,_⟩:=h;omega,fun _ _ _ _ _ _ _ _ _ _ _ _ _ h=>by obtain ⟨_,_,_,_,_,_,_,_,_,_,_,_,_,_,_,_,_,h1,h2,_⟩:=h;omega⟩
 | n+1=>by
   have ih:=dP n;refine T.g__law_digits.F.ok bq (fun vs H Q E h=>?_) (fun Ag A outer s H vs Q E hr h=>?_)
   · obtain ⟨l,x,oa,Al,outs,S,C,deep,rfl,_⟩:=h;rfl
   obtain ⟨l,x,oa,Al,outs,S,C,deep,rfl,el,eo,AE,g,S0,S1,C0,C1,d0,d1,q⟩:=h
   refine ⟨_,(ad (ar (i:=5) bq.nd rfl (Rp rfl) (am fS (pv 2) (pv 3)))
    (ad (ar (i:=6) bq.nd rfl (Rp rfl) (am aZ (az aO (pv 0) ag (fun _ _=>rfl)) (am bE (pv 5) (av ao rfl T.n_len RG (aa (pv 1) ab)))))
    (ad (fH (am bj (az aO (pv 0) ag (fun _ _=>rfl)) (am bE (pv 5) (av ao rfl T.n_len RG (aa (pv 1) ab)))) (lE (pv 0) ag set_list))
    (ad (aS (aD im (pv 6) (pv 5) (aE _)) (ae (ax (bg (aa aA (aa (am aZ (pv 6) (pv 2)) (aa (am bj (pv 6) (pv 2)) ab)))))) aH)
    (ad (ar (i:=7) bq.nd rfl (Rp rfl) (az aI (pv 1) (am mh (pv 6) (pv 5)) (fun _ _=>rfl)))
    (ad (aS (aD cI (pv 4) ag (aE _)) (ae (ar (i:=7) bq.nd rfl (Rp rfl) (az aO (bG (N:=[QZ "one"]) (js:=[none]) (g:=(aG 0)) (tt:=(l4 (tOp (rEq) (tOp (wn K) (bV 0) (tC (.int 1))) (tC (.int 0))))) (te:=(bV 0)) rfl (cg rfl (by decide +kernel) (by decide +kernel) rfl rfl rfl) (db (pv 1)) (fun _ _ _ _ _ _=>(aq (i:=0) yq rfl (Rp rfl))) (aX rfl) (fun _ _ _ _ _ _=>g8 (aD cI (az aI (pv 0) ag (fun _ _=>rfl)) ag (aE _))) (fun _ _ _ _ _ _=>(pv 0))) ag (fun _ _=>rfl)))) aH)
    (ad (ar (i:=8) bq.nd rfl (Rp rfl) (bg ab))
    (ad (br RM rfl (bw rfl T.n_range (aa (az aI (pv 7) ag (fun _ _=>rfl)) ab)) (aq (i:=9) bq.nd rfl (Rp rfl)) (ae (ar (i:=8) bq.nd rfl (Rp rfl) (am fo (pv 8) (bg (aa (jr (ih) (hr.mono (Q8 _)) rfl T.g__law_digits.m T.g__law_digits.F.kp T.g__law_digits.b .nil mj (aa (pv 0) (aa (pv 1) (aa (pv 2) (aa (pv 3) (aa (am mh (pv 4) ag) ab)))))) ab))))))
    (ae (ax (am fo (bg (aa (az aI (pv 7) ag (fun _ _=>rfl)) ab)) (pv 8)))))))))))),?_⟩
   try dsimp only [Ar,Ac]
   have AN:outs.length=Al.length:=Rx AE;have Iz:=g.le;have PR:=g.ne;have QP:((Al.map V.ref).length:Int)=(outs.length:Int):=by rw [Q0,AN]
   have Hq:0<=S * C:=Int.mul_nonneg S0 C0
   have K2:S * C<=60:=by
    have:S * C<=20 * 3:=Int.mul_le_mul S1 C1 C0 (by decide);omega
   refine ⟨_,rfl,_,rfl,_,_,rfl,rfl,.inl ⟨by omega,by omega⟩,?_⟩;dsimp only [aG];have D8:0<S * C+((Al.map V.ref).length:Int):=by omega
   refine ⟨_,rfl,l,_,0,.int x,rfl,rfl,SqL.of el,at0,_,rfl,_,rfl,oa,_,rfl,.inr (SqT.of eo),_,_,rfl,rfl,_,_,rfl,rfl,D8,?_⟩;refine ⟨_,rfl,l,_,0,.int x,rfl,rfl,SqL.of el,at0,_,rfl,_,rfl,oa,_,rfl,.inr (SqT.of eo),_,_,rfl,rfl,_,_,rfl,rfl,⟨D8,by show S * C+((Al.map V.ref).length:Int)<1073741824;omega⟩,?_⟩;refine ⟨_,rfl,l,_,0,0,rfl,rfl,el,rfl,?_⟩;dsimp only;have p0:=RS x (show S * C+((Al.map V.ref).length:Int)≠0 by omega);have p1:=RQ x D8;generalize x%(S * C+((Al.map V.ref).length:Int))=pick at p0 p1 ⊢;generalize x / (S * C+((Al.map V.ref).length:Int))=x1;have e1:(upd H l (.lst ([V.int x].set 0 (.int x1)))) l=some (.lst [.int x1]):=by rw [ac];rfl
   have s1:SameB l H (upd H l (.lst ([V.int x].set 0 (.int x1)))):=.set;generalize (upd H l (.lst ([V.int x].set 0 (.int x1))))=H1 at e1 s1 ⊢;have IT:H1 oa=some (.tup (Al.map V.ref)):=s1 _ _ (f8 eo el (by intro z;cases z)) eo;have PU:KT H H1:=s1.kt el;have Du:=AE.mono PU;generalize DA:S * C=calls at Hq K2 p1 D8 ⊢;refine bS (fun Ab H'=>An3 (H1=H') (¬ pick<calls) (Ab=[some (.ref l),some (.ref oa),some (.int S),some (.int C),some (.int deep),some (.int calls),some (.int pick),none,none,none])) (fun kk hk=>?_) ?_
   · refine bZ (fun b H'=>An2 (H1=H') (b=decide (pick<calls))) (fun k2 A9=>?_) (fun H' hb=>?_) (fun H' hb=>?_)
     · exact ⟨_,rfl,_,rfl,_,_,rfl,rfl,_,rfl,A9 _ _ ⟨rfl,rfl⟩⟩
     · obtain ⟨rfl,hb⟩:=hb;have Ax:=of_decide_eq_true hb.symm
       have hS:0<S:=by
        rcases WB S0 with h | h
        · exact h
        · rw [<- h,Int.zero_mul] at DA;omega
       have y0:=RS pick (show S≠0 by omega);have y1:=RQ pick hS;have y2:0<=pick / S:=Int.ediv_nonneg p0 (by omega);have y3:pick / S<C:=Int.ediv_lt_of_lt_mul hS (by rw [Int.mul_comm,DA];exact Ax);refine ⟨_,rfl,_,rfl,_,_,rfl,rfl,hS,_,rfl,_,rfl,_,_,rfl,rfl,⟨hS,by omega⟩,aj (by show 3<=1000000;decide),fun ca E4=>?_⟩;have Bi:l≠ca:=fun z=>by rw [<- z,e1] at E4;cases E4
       refine q (.call (pick%S) (pick / S)) ca x1 _ (s1.trans (.of (ai E4 _))) (by rw [al Bi];exact e1) ?_ ?_ ?_
       · rw [At];exact ac
       · rw [Th.FitS];exact ⟨y0,by omega,y2,by omega⟩
       · rw [Th.tall];omega
     · obtain ⟨rfl,hb⟩:=hb;exact hk _ _ ⟨rfl,of_decide_eq_false hb.symm,rfl⟩
   rintro Ab H' ⟨rfl,QQ,rfl⟩;refine hid fun ZZ kZ=>?_;obtain ⟨k0,CF⟩:∃ k0,outs[(pick - calls).toNat]?=some k0:=⟨_,Q1 (by omega)⟩;obtain ⟨ka,AQ,B6⟩:=P2.get Du CF;refine kZ ?_;refine ⟨_,rfl,_,rfl,_,rfl,_,_,rfl,rfl,oa,_,_,.ref ka,rfl,rfl,SqT.of IT,at_nonneg (by omega) (by rw [Rg,AQ];rfl),?_⟩;dsimp only [aG];refine bS (fun Ab H'=>Ex2 fun (k0:Ru×Int) (ka:Q7)=>An5 (k0∈outs) (KAt H' k0 ka) ((deep=0->k0.2=0)) (L2.Same H1 H') (Ab=[some (.ref l),some (.ref oa),some (.int S),some (.int C),some (.int deep),some (.int calls),some (.int pick),some (.ref ka),none,none])) (fun kk hk=>?_) ?_
   · refine bZ (fun b H'=>An2 (H1=H') ((b=false->deep≠0))) (fun k2 A9=>?_) (fun H' hb=>?_) (fun H' hb=>?_)
     · exact ⟨_,rfl,rfl,_,rfl,A9 _ _ ⟨rfl,fun z z2=>of_decide_eq_false z (congrArg V.int z2)⟩⟩
     · obtain ⟨rfl,_⟩:=hb;refine ⟨_,rfl,oa,rfl,⟨_,SqT.of IT⟩,ml (K:=K) IT Du g (fun z ka H2 R sm hz r=>⟨_,rfl,ka,_,1,_,rfl,rfl,SqT.of hz,at1,rfl,_,rfl,r⟩) (fun ka H2 R r=>⟨_,rfl,r⟩) (fun D k1 Ew rs H2 hD s2 eD K1 Em e2=>?_)⟩;exact ⟨D,_,0,.ref Ew,rfl,rfl,SqL.of eD,at0,hk _ _ ⟨k1,Ew,K1,e2,fun _=>Em,s2,rfl⟩⟩
     · obtain ⟨rfl,hb⟩:=hb;exact hk _ _ ⟨k0,ka,Rb CF,B6,fun z=>absurd z (hb rfl),.refl _,rfl⟩
   clear CF AQ B6;rintro Ab H2 ⟨k0,ka,BL,B6,hz,s2,rfl⟩;have CV:=g.num k0 BL;have K3:=s2 _ _ e1;refine ⟨aj (by show 0<=1000000;decide),fun pl AX=>?_⟩;have s3:L2.Same H2 (upd H2 pl (.tup [])):=ai AX _;have e3:(upd H2 pl (.tup [])) pl=some (.tup (([]:List Q7).map V.ref)):=ac;generalize (upd H2 pl (.tup []))=H3 at s3 e3 ⊢;refine ⟨_,rfl,ka,_,1,_,rfl,rfl,SqT.of (s3 _ _ B6),at1,k0.2,rfl,by omega,by omega,?_⟩
   refine bK (n:=k0.2.toNat) (fun i σ H4=>Ex5 fun (c9:Option V) (pl:Q7) (bs:List Q7) (ts:List Th) (x':Int)=>An7 (σ=[some (.ref l),some (.ref oa),some (.int S),some (.int C),some (.int deep),some (.int calls),some (.int pick),some (.ref ka),some (.ref pl),c9]) (SameB l H2 H4) (H4 l=some (.lst [.int x'])) (H4 pl=some (.tup (bs.map V.ref))) (Ats H4 ts bs) (ts.length=i) (∀ t∈ts,t.FitS outs S C/\t.tall<=(deep - 1).toNat+1))
    ⟨none,pl,[],[],x1,rfl,.of s3,s3 _ _ K3,e3,.nil,rfl,fun t ht=>by cases ht⟩ ?_ ?_
   · rintro i σ H4 hi ⟨c9,pl,bs,ts,x',rfl,s4,IU,e4,BV,AI,Ai⟩;have IS:i<k0.2.toNat:=hi;have IV:KT H2 H4:=s4.kt K3
     have CG:1<=deep:=by
      by_cases z:deep=0
      · have:=hz z;omega
      · omega
     refine ⟨_,rfl,_,rfl,_,rfl,_,rfl,_,rfl,_,rfl,_,_,rfl,rfl,l,x',oa,Al,outs,S,C,deep - 1,rfl,IU,IV _ _ (s2 _ _ IT),Du.mono ((Same.kt s2).trans IV),g,S0,S1,C0,C1,by omega,by omega,fun t r x5 H5 s5 PV Au Aw AB=>?_⟩;have BH:bs.length=ts.length:=BV.length;have FL:KT H4 H5:=s5.kt IU;refine ⟨aj (by show 1<=1000000;decide),fun D9 Cn=>?_⟩;dsimp only;have s6:L2.Same H5 (upd H5 D9 (.tup [.ref r])):=ai Cn _;have e6:(upd H5 D9 (.tup [.ref r])) D9=some (.tup [.ref r]):=ac;generalize (upd H5 D9 (.tup [.ref r]))=H6 at s6 e6 ⊢;refine sh (s6 _ _ (FL _ _ e4)) e6 (by rw [Q0];show bs.length+1<=1000000;omega) fun p H7 s7 e7=>?_;have C6:=s6.trans s7;refine ⟨_,p,bs++[r],ts++[t],x5,rfl,s4.trans (s5.trans (.of C6)),C6 _ _ PV,by rw [e7,Rj];rfl,(BV.mono (FL.trans (Same.kt C6))).append (.cons (Au.mono (Same.kt C6)) .nil),by rw [Ra,AI];rfl,fun u hu=>?_⟩;rcases RE.mp hu with hu | hu
     · exact Ai u hu
     · rw [RH.mp hu];exact ⟨Aw,AB⟩
   · rintro σ H4 ⟨c9,pl,bs,ts,x',rfl,s4,IU,e4,BV,AI,Ai⟩;have BH:bs.length=ts.length:=BV.length;have IV:KT H2 H4:=s4.kt K3;refine ⟨_,rfl,ka,_,0,.str k0.1,rfl,rfl,SqT.of (IV _ _ B6),at0,aj (by show 1<=1000000;decide),fun D9 Cn=>?_⟩;dsimp only;have s5:L2.Same H4 (upd H4 D9 (.tup [.str k0.1])):=ai Cn _;have e5:(upd H4 D9 (.tup [.str k0.1])) D9=some (.tup [.str k0.1]):=ac;generalize (upd H4 D9 (.tup [.str k0.1]))=H5 at s5 e5 ⊢;refine ⟨_,rfl,?_⟩;refine sh e5 (s5 _ _ e4) (by rw [Q0];show 1+bs.length<=1000000;omega) fun p H6 s6 e6=>?_;have K4:=s5.trans s6;have D5:=(g.low k0 BL).1;refine q (.knot k0.1 ts) p x' H6 (s1.trans ((SameB.of s2).trans (s4.trans (.of K4)))) (K4 _ _ IU) ?_ ?_ ?_
     · rw [At];exact ⟨yu D5,bs,e6,BV.mono (Same.kt K4)⟩
     · rw [Th.FitS];refine ⟨?_,FitSs.of fun t ht=>(Ai t ht).1⟩
       have:(k0.1,(ts.length:Int))=k0:=by
        rw [AI];exact Prod.ext rfl (by show ((k0.2.toNat:Nat):Int)=k0.2;omega)
       rw [this];exact BL
     · rw [Th.tall];by_cases z:deep=0
       · have A9:=hz z;have:ts=[]:=R7.mp (by omega);subst this;rw [bd];omega
       · have:=n5 (n:=(deep - 1).toNat+1) fun t ht=>(Ai t ht).2;omega
theorem xm {xs:List V} {lo hi:Option Int} {v:V} (h:v∈cB xs lo hi):v∈xs:=by
 unfold cB at h;exact List.mem_of_mem_drop (Wa h)
theorem yP (xs:List V) (lo hi:Option Int):(cB xs lo hi).length<=xs.length:=by
 unfold cB;rw [RP,Sf];omega
theorem SameB.fresh {l:Q7} {H H1 H':Hp} (hl:H l=none) (s:L2.Same H H1) (b:SameB l H1 H'):L2.Same H H':=fun a o e=>b a o (fun z=>by rw [z,hl] at e;cases e) (s a o e)
def GK (ks:List (Ru×Int)):Prop:=ce ks/\(∀ k∈ks,okW k.1)/\(ks.map (·.1)).Nodup
def TsF (ins outs:List (Ru×Int)) (S:Int) (ts:List Th):Prop:=∀ (j:Nat) (t:Th) (k:Ru×Int),ts[j]?=some t->ins[j]?=some k->t.FitS outs S k.2/\t.tall<=4
def RwF (ins outs:List (Ru×Int)) (S:Int) (row:List Th):Prop:=row.length=ins.length/\TsF ins outs S row
theorem TsF.snoc {ins outs:List (Ru×Int)} {S:Int} {ts:List Th} {t:Th} {k:Ru×Int} (h:TsF ins outs S ts) (hk:ins[ts.length]?=some k) (hf:t.FitS outs S k.2) (ht:t.tall<=4):TsF ins outs S (ts++[t]):=fun j u k' hu B5=>by
 by_cases hj:j<ts.length
 · rw [T6 hj] at hu;exact h j u k' hu B5
 · have PX:=(Rm.mp hu).1;rw [Ra,Sq] at PX;obtain rfl:j=ts.length:=by omega
   rw [Ts (Q8 _),UK] at hu;cases hu;rw [hk] at B5;cases B5;exact ⟨hf,ht⟩
structure nn (ins outs:List (Ru×Int)) (head:Th) (rows:List (List Th)):Prop where
 gi:GK ins
 go:GK outs
 few:rows.length<=4
 row:∀ row∈rows,RwF ins outs (rows.length:Nat) row
 hd:head.FitS outs (rows.length:Nat) 1/\head.tall<=4
inductive ir (K:Q4) (vs:List V) (H:Hp) (Q:VK) (_E:XK):Prop
 | mk (a:Q7) (ns:List Int) (Aj:vs=[.ref a,.int 4,.int 3]) (Ak:SqL K H a (ns.map V.int)) (An:ns.length<=63) (Az:∀ (r:Q7) (ins outs:List (Ru×Int)) (head:Th) (rows:List (List Th)) (H':Hp),L2.Same H H'->Bk H' ins outs head rows r->nn ins outs head rows->Q (.ref r) H'):ir K vs H Q _E
def oN (K:Q4):Sp:=ir K
set_option maxHeartbeats 4000000 in
theorem oU:aV P w K mg base CX0 9 T.g__law_book.f T.g__law_book.d ["script","most","deep"] (oN K):=by
 refine T.g__law_book.F.ok aU (fun vs H Q E h=>?_) (fun Ag A outer s H vs Q E hr h=>?_)
 · obtain ⟨a,ns,rfl,_⟩:=h;rfl
 obtain ⟨a,ns,rfl,hS,DT,q⟩:=h
 refine ⟨_,(ad (ar (i:=3) aU.nd rfl (Rp rfl) (pcF T.g__law_kinds (iI T) hr (aa (pcF T.g__law_cell_at (bJ T) hr (aa (pv 0) (aa ag ab))) ab)))
  (ad (ar (i:=4) aU.nd rfl (Rp rfl) (pcF T.g__law_kinds (iI T) hr (aa (pcF T.g__law_cell_at (bJ T) hr (aa (pv 0) (aa ag ab))) ab)))
  (ad (aS (aD cI (am aZ (am bj (pcF T.g__law_cell_at (bJ T) hr (aa (pv 0) (aa ag ab))) ag) ag) ag (aE _)) (ae (ar (i:=4) aU.nd rfl (Rp rfl) (pv 3))) aH)
  (ad (ar (i:=5) aU.nd rfl (Rp rfl) (am aZ (pcF T.g__law_cell_at (bJ T) hr (aa (pv 0) (aa ag ab))) (am bE (pv 1) ag)))
  (ad (ar (i:=6) aU.nd rfl (Rp rfl) (pcF T.g__law_folded (mL T) hr (aa (bT fP (pv 0) (bR ag) cL) (aa (am bE (am fS (pv 5) (av ao rfl T.n_len RG (aa (pv 3) ab))) ag) ab))))
  (ad (ar (i:=7) aU.nd rfl (Rp rfl) (cz cI (am aZ (am bj (pcF T.g__law_cell_at (bJ T) hr (aa (pv 0) (aa ag ab))) ag) ag) ag (aE _)))
  (ad (ar (i:=8) aU.nd rfl (Rp rfl) (bm ab))
  (ad (br RM rfl (bw rfl T.n_range (aa (pv 5) ab)) (aq (i:=9) aU.nd rfl (Rp rfl)) (ad (ar (i:=10) aU.nd rfl (Rp rfl) (bm ab))
  (ad (br RM rfl (bw rfl T.n_range (aa (av ao rfl T.n_len RG (aa (pv 3) ab)) ab)) (aq (i:=11) aU.nd rfl (Rp rfl)) (ad (ar (i:=12) aU.nd rfl (Rp rfl) (am bE (am bE (az aO (pv 6) (am bE (am bE ag (am fS (pv 9) (av ao rfl T.n_len RG (aa (pv 3) ab)))) (pv 11)) (fun _ _=>rfl)) (am fS ag (pv 11))) (pv 9)))
  (ae (aS (aQ (pv 7) (fun _=>rfl)) (ae (aT (bi Rk RB RA aN (pv 10) (aa (pcF T.g__law_digits (dP T 5) hr (aa (bm (aa (pv 12) ab)) (aa (pv 4) (aa (pv 5) (aa (az aI (az aI (pv 3) (pv 11) (fun _ _=>rfl)) ag (fun _ _=>rfl)) (aa (pv 2) ab)))))) ab)))) (ae (aT (bi Rk RB RA aN (pv 10) (aa (pcF T.g__law_pattern (dA T 5) hr (aa (pv 12) (aa (pv 4) (aa (pv 5) (aa (az aI (az aI (pv 3) (pv 11) (fun _ _=>rfl)) ag (fun _ _=>rfl)) (aa (am aZ (am bj (pv 12) ag) (am bE (pv 2) ag)) ab)))))) ab))))))))
  (ae (aT (bi Rk RB RA aN (pv 8) (aa (bf bp rfl T.n_tuple R4 (aa (pv 10) ab)) ab)))))))
  (ad (ar (i:=13) aU.nd rfl (Rp rfl) (pcF T.g__law_pattern (dA T 5) hr (aa (az aO (pv 6) ag (fun _ _=>rfl)) (aa (pv 4) (aa (pv 5) (aa ag (aa (pv 2) ab)))))))
  (ad (aS (aQ (pv 7) (fun _=>rfl)) (ae (ar (i:=13) aU.nd rfl (Rp rfl) (pcF T.g__law_digits (dP T 5) hr (aa (bm (aa (az aO (pv 6) ag (fun _ _=>rfl)) ab)) (aa (pv 4) (aa (pv 5) (aa ag (aa (pv 2) ab)))))))) aH)
  (ae (ax (bg (aa (pv 3) (aa (pv 4) (aa (pv 13) (aa (bf bp rfl T.n_tuple R4 (aa (pv 8) ab)) ab))))))))))))))))),?_⟩
 try dsimp only [Ar,Ac]
 refine ⟨_,rfl,a,ns,0,rfl,hS,by decide,cellAt ns 0,rfl,jW ns 0,fun ia Aq H1 s1 ei BS=>?_⟩;refine ⟨_,rfl,a,ns,1,rfl,s1.seq hS,by decide,cellAt ns 1,rfl,jW ns 1,fun PY K5 H2 s2 MQ Fl=>?_⟩;have gI:GK (cf (cellAt ns 0)):=⟨fw _,kT _,iH _⟩;have K6:GK (cf (cellAt ns 1)):=⟨fw _,kT _,iH _⟩;generalize cf (cellAt ns 0)=ins at BS gI;generalize cf (cellAt ns 1)=Hr at Fl K6;have gi:=gI.1;have BS:=BS.mono (Same.kt s2);have ei:=s2 _ _ ei;have Dw:=s1.trans s2;have hS:=Dw.seq hS;dsimp only [aG];refine bS (fun Ab H'=>Ex3 fun (oa:Q7) (Al:List Q7) (outs:List (Ru×Int))=>An5 (H2=H') (H2 oa=some (.tup (Al.map V.ref))) (KsAt H2 outs Al) (GK outs) (Ab=[some (.ref a),some (.int 4),some (.int 3),some (.ref ia),some (.ref oa),none,none,none,none,none,none,none,none,none])) (fun kk hk=>?_) ?_
 · refine bZ (fun b H'=>H2=H') (fun k2 A9=>?_) (fun H' hb=>?_) (fun H' hb=>?_)
   · exact ⟨_,rfl,a,ns,1,rfl,hS,by decide,_,_,rfl,rfl,⟨by decide,by decide⟩,_,_,rfl,rfl,(by show (0:Int)<3;decide),rfl,_,rfl,A9 _ _ rfl⟩
   · subst hb;exact ⟨_,rfl,hk _ _ ⟨ia,Aq,ins,rfl,ei,BS,gI,rfl⟩⟩
   · subst hb;exact hk _ _ ⟨PY,K5,Hr,rfl,MQ,Fl,K6,rfl⟩
 clear MQ Fl K6;rintro Ab H' ⟨oa,Al,outs,rfl,eo,CC,gO,rfl⟩;have go:=gO.1;have A':ins.length=Aq.length:=Rx BS;have JJ:=gi.le;have BQ:((Aq.map V.ref).length:Int)=(ins.length:Int):=by rw [Q0,A']
 refine ⟨_,rfl,a,ns,2,rfl,hS,by decide,_,rfl,_,_,rfl,rfl,_,_,rfl,rfl,(by show (0:Int)<4+1;decide),?_⟩;have S0:=RS (cellAt ns 2) (show (4+1:Int)≠0 by decide);have S1:=RQ (cellAt ns 2) (show (0:Int)<4+1 by decide);dsimp only [aG];generalize cellAt ns 2%(4+1)=S at S0 S1 ⊢;have PZ:0<=S * (ins.length:Int):=Int.mul_nonneg S0 (by omega)
 have K7:S * (ins.length:Int)<=24:=by
  have:S * (ins.length:Int)<=4 * 6:=Int.mul_le_mul (by omega) (by omega) (by omega) (by decide);omega
 rw [<- BQ] at PZ K7;refine ⟨_,rfl,3,rfl,a,_,rfl,hS,fun p hp=>?_⟩;dsimp only [aG];have s3:L2.Same H2 (upd H2 p (.lst (cB (ns.map V.int) (some 3) none))):=ai hp _;have e3:(upd H2 p (.lst (cB (ns.map V.int) (some 3) none))) p=some (.lst (cB (ns.map V.int) (some 3) none)):=ac;generalize (upd H2 p (.lst (cB (ns.map V.int) (some 3) none)))=H3 at s3 e3 ⊢;have K8:=yP (ns.map V.int) (some 3) none;rw [Q0] at K8;refine ⟨_,rfl,_,rfl,ia,_,rfl,.inr (SqT.of (s3 _ _ ei)),_,_,rfl,rfl,.inl ⟨by omega,by omega⟩,_,_,rfl,rfl,p,_,_,rfl,e3,(fun v hv=>(Sl.mp (xm hv)).elim fun z hz=>⟨z,hz.2.symm⟩),by omega,by omega,by omega,fun ca cs H4 s4 ec Bi=>?_⟩;have BX:=s3.trans s4;have hS:=BX.seq hS;have P0:=Dw.trans BX;have ei:=BX _ _ ei;have BS:=BS.mono (Same.kt BX);have eo:=BX _ _ eo;have CC:=CC.mono (Same.kt BX);refine ⟨_,rfl,a,ns,2,rfl,hS,by decide,_,_,rfl,rfl,⟨by decide,by decide⟩,_,_,rfl,rfl,(by show (0:Int)<2;decide),rfl,?_⟩;dsimp only [aG];generalize decide (V.int (cellAt ns 2 / 7%2)=V.int 1)=dg;refine ⟨aj (by show 0<=1000000;decide),fun rl DB=>?_⟩;have FG:L2.Same H4 (upd H4 rl (.lst [])):=ai DB _;have MR:(upd H4 rl (.lst [])) rl=some (.lst []):=ac;generalize (upd H4 rl (.lst []))=H5 at FG MR ⊢;refine ⟨_,rfl,S,rfl,by omega,by omega,?_⟩
 refine bK (n:=S.toNat) (fun i σ H3=>Ex6 fun (sv rv kv cv:Option V) (AG:List Q7) (rows:List (List Th))=>An6 (σ=[some (.ref a),some (.int 4),some (.int 3),some (.ref ia),some (.ref oa),some (.int S),some (.ref ca),some (.bl dg),some (.ref rl),sv,rv,kv,cv,none]) (L2.Same H4 H3) (H3 rl=some (.lst (AG.map V.ref))) (R3 (RowAt H3) rows AG) (rows.length=i) (∀ row∈rows,RwF ins outs S row))
  ⟨none,none,none,none,[],[],rfl,FG,MR,.nil,rfl,fun t ht=>by cases ht⟩ ?_ ?_
 · rintro i σ H3 hi ⟨sv,rv,kv,cv,AG,rows,rfl,s3,IW,Bf,II,Ai⟩;have IS:i<S.toNat:=hi;have Hs:rows.length=AG.length:=Rx Bf;refine ⟨aj (by show 0<=1000000;decide),fun rw IX=>?_⟩;have K9:H4 rw=none:=s3.free IX;have K':rw≠rl:=fun z=>by rw [z,IW] at IX;cases IX
   have s6:L2.Same H3 (upd H3 rw (.lst [])):=ai IX _;have MS:(upd H3 rw (.lst [])) rw=some (.lst []):=ac;generalize (upd H3 rw (.lst []))=H6 at s6 MS ⊢;refine ⟨_,rfl,ia,_,rfl,.inr (SqT.of (s6 _ _ (s3 _ _ ei))),_,rfl,by omega,by omega,?_⟩
   refine bK (n:=((Aq.map V.ref).length:Int).toNat) (fun j σ H5=>Ex4 fun (kv cv:Option V) (bs:List Q7) (ts:List Th)=>An8 (σ=[some (.ref a),some (.int 4),some (.int 3),some (.ref ia),some (.ref oa),some (.int S),some (.ref ca),some (.bl dg),some (.ref rl),some (.int (0+(i:Int))),some (.ref rw),kv,cv,none]) (L2.Same H4 H5) (H5 rl=some (.lst (AG.map V.ref))) (KT H6 H5) (H5 rw=some (.lst (bs.map V.ref))) (Ats H5 ts bs) (ts.length=j) (TsF ins outs S ts))
    ⟨kv,cv,[],[],rfl,s3.trans s6,s6 _ _ IW,fun _ _ e=>e,MS,.nil,rfl,fun j t k h=>by simp at h⟩ ?_ ?_
   · rintro j σ H5 hj ⟨kv,cv,bs,ts,rfl,s5,IY,FL,Ht,BV,AI,DC⟩
     have La:j<ins.length:=by
      have:j<((Aq.map V.ref).length:Int).toNat:=hj;omega
     refine hid fun ZZ kZ=>?_;obtain ⟨k0,CF⟩:∃ k0,ins[j]?=some k0:=⟨_,Q1 La⟩;obtain ⟨ka,AQ,B6⟩:=P2.get BS CF;have CV:=gi.num k0 (Rb CF);have Au:atI (Aq.map V.ref) (0+(j:Int))=some (.ref ka):=at_nonneg (by omega) (by rw [show (0+(j:Int)).toNat=j by omega,Rg,AQ];rfl);have hmul:0<=(0+(i:Int)) * ((Aq.map V.ref).length:Int):=Int.mul_nonneg (by omega) (by omega)
     have MT:(0+(i:Int)) * ((Aq.map V.ref).length:Int)+((Aq.map V.ref).length:Int)<=S * ((Aq.map V.ref).length:Int):=by
      have h1:(0+(i:Int)+1) * ((Aq.map V.ref).length:Int)<=S * ((Aq.map V.ref).length:Int):=Int.mul_le_mul_of_nonneg_right (by omega) (by omega);rw [Int.add_mul (0+(i:Int)) 1,Int.one_mul] at h1;exact h1
     obtain ⟨c,hc⟩:∃ c,cs[(1+(0+(i:Int)) * ((Aq.map V.ref).length:Int)+(0+(j:Int))).toNat]?=some c:=⟨_,Q1 (by omega)⟩;refine kZ ?_;refine ⟨_,rfl,_,rfl,_,rfl,ia,_,rfl,.inr (SqT.of (s5 _ _ ei)),_,_,rfl,rfl,.inl ⟨by omega,by omega⟩,_,_,rfl,rfl,_,rfl,_,_,rfl,rfl,ca,_,_,.int c,rfl,rfl,SqL.of (s5 _ _ ec),at_nonneg (by omega) (by rw [Rg,hc];rfl),?_⟩;refine ⟨_,rfl,_,_,rfl,rfl,.inl ⟨by decide,by decide⟩,_,_,rfl,rfl,_,rfl,_,_,rfl,rfl,?_⟩;dsimp only [aG];generalize c+7 * (0+(j:Int))+(0+(i:Int))=cell
     have fin:∀ (t:Th) (r:Q7) (H7:Hp),L2.Same H5 H7->At H7 t r->t.FitS outs S k0.2->t.tall<=4->(uq (V.ref rw) [V.ref r] H7 fun _ H8=>Ex4 fun (kv cv:Option V) (bs:List Q7) (ts:List Th)=>An8 ([some (V.ref a),some (.int 4),some (.int 3),some (.ref ia),some (.ref oa),some (.int S),some (.ref ca),some (.bl dg),some (.ref rl),some (.int (0+(i:Int))),some (.ref rw),some (.int (0+(j:Int))),some (.int cell),none]=[some (.ref a),some (.int 4),some (.int 3),some (.ref ia),some (.ref oa),some (.int S),some (.ref ca),some (.bl dg),some (.ref rl),some (.int (0+(i:Int))),some (.ref rw),kv,cv,none]) (L2.Same H4 H8) (H8 rl=some (.lst (AG.map V.ref))) (KT H6 H8) (H8 rw=some (.lst (bs.map V.ref))) (Ats H8 ts bs) (ts.length=j+1) (TsF ins outs S ts)):=by
      intro t r H7 s7 Au Aw AB;have MU:=s7 _ _ Ht;have FN:=s7 _ _ IY;have BH:bs.length=ts.length:=BV.length;refine ⟨rw,_,_,rfl,rfl,MU,aF (by rw [Q0];omega),?_⟩;have kt:KT H7 (upd H7 rw (.lst (bs.map V.ref++[.ref r]))):=aW MU;refine ⟨_,_,bs++[r],ts++[t],rfl,aC (s5.trans s7) K9,by rw [al K'.symm];exact FN,FL.trans ((Same.kt s7).trans kt),?_,?_,?_,?_⟩
      · rw [ac,Rj];rfl
      · exact (BV.mono ((Same.kt s7).trans kt)).append (.cons (Au.mono kt) .nil)
      · rw [Ra,AI];rfl
      · exact DC.snoc (by rw [AI];exact CF) Aw AB
     refine bZ (fun b H'=>H5=H') (fun k2 A9=>?_) (fun H' hb=>?_) (fun H' hb=>?_)
     · exact ⟨_,rfl,_,rfl,A9 _ _ rfl⟩
     · subst hb;refine ⟨_,rfl,.inl ⟨rfl,_,SqL.of Ht⟩,_,rfl,aj (by show 1<=1000000;decide),fun ol Ek=>?_⟩;have s7:L2.Same H5 (upd H5 ol (.lst [.int cell])):=ai Ek _;have e7:(upd H5 ol (.lst [.int cell])) ol=some (.lst [.int cell]):=ac;dsimp only;generalize (upd H5 ol (.lst [.int cell]))=H7 at s7 e7 ⊢;have C6:=s5.trans s7;refine ⟨_,rfl,_,rfl,_,rfl,_,rfl,ia,_,_,.ref ka,rfl,rfl,SqT.of (C6 _ _ ei),Au,ka,_,1,_,rfl,rfl,SqT.of (C6 _ _ B6),at1,_,rfl,ol,cell,oa,Al,outs,S,k0.2,3,rfl,e7,C6 _ _ eo,CC.mono (Same.kt C6),go,S0,by omega,CV.1,CV.2,by decide,by decide,fun t r x' H8 s8 _ Au Aw AB=>?_⟩;exact fin t r H8 (SameB.fresh Ek s7 s8) Au Aw AB
     · subst hb;have y0:=RS (cell / 3) (show (3+1:Int)≠0 by decide);have y1:=RQ (cell / 3) (show (0:Int)<3+1 by decide);refine ⟨_,rfl,.inl ⟨rfl,_,SqL.of Ht⟩,_,rfl,_,rfl,_,rfl,_,rfl,_,rfl,ia,_,_,.ref ka,rfl,rfl,SqT.of (s5 _ _ ei),Au,ka,_,1,_,rfl,rfl,SqT.of (s5 _ _ B6),at1,_,rfl,_,_,rfl,rfl,⟨by decide,by decide⟩,_,rfl,_,_,rfl,rfl,_,_,rfl,rfl,(by show (0:Int)<3+1;decide),cell,oa,Al,outs,S,k0.2,_,rfl,s5 _ _ eo,CC.mono (Same.kt s5),go,S0,by omega,CV.1,CV.2,y0,by show cell / 3%(3+1)<((5:Nat):Int);omega,fun t r H8 s8 Au Aw AB=>?_⟩;exact fin t r H8 s8 Au Aw (by omega)
   · rintro σ H5 ⟨kv,cv,bs,ts,rfl,s5,IY,FL,Ht,BV,AI,DC⟩;refine ⟨_,rfl,.inl ⟨rfl,_,SqL.of IY⟩,_,rfl,rw,_,rfl,.inl ⟨SqL.of Ht,fun tp C2=>?_⟩⟩;have s7:L2.Same H5 (upd H5 tp (.tup (bs.map V.ref))):=ai C2 _;have e7:(upd H5 tp (.tup (bs.map V.ref))) tp=some (.tup (bs.map V.ref)):=ac;generalize (upd H5 tp (.tup (bs.map V.ref)))=H7 at s7 e7 ⊢;have FN:=s7 _ _ IY;refine ⟨rl,_,_,rfl,rfl,FN,aF (by rw [Q0];omega),?_⟩;have kt:KT H7 (upd H7 rl (.lst (AG.map V.ref++[.ref tp]))):=aW FN;have P1:KT H3 (upd H7 rl (.lst (AG.map V.ref++[.ref tp]))):=(Same.kt s6).trans (FL.trans ((Same.kt s7).trans kt));refine ⟨_,_,_,_,AG++[tp],rows++[ts],rfl,aC (s5.trans s7) DB,?_,?_,?_,?_⟩
     · rw [ac,Rj];rfl
     · exact P2.append (P2.mp (fun _ _ e=>RowAt.mono P1 e) Bf) (.cons ⟨bs,kt _ _ e7,BV.mono ((Same.kt s7).trans kt)⟩ .nil)
     · rw [Ra,II];rfl
     · intro row Ae;rcases RE.mp Ae with Ae | Ae
       · exact Ai row Ae
       · rw [RH.mp Ae];exact ⟨by rw [AI];omega,DC⟩
 · rintro σ H3 ⟨sv,rv,kv,cv,AG,rows,rfl,s3,IW,Bf,II,Ai⟩;have Hs:rows.length=AG.length:=Rx Bf;obtain ⟨c,hc⟩:∃ c,cs[0]?=some c:=⟨_,Q1 (by omega)⟩;have Hu:atI (cs.map V.int) 0=some (.int c):=at_nonneg (by decide) (by rw [Rg];show (cs[0]?).map V.int=_;rw [hc];rfl);refine ⟨_,rfl,ca,_,0,.int c,rfl,rfl,SqL.of (s3 _ _ ec),Hu,_,rfl,_,rfl,_,rfl,c,oa,Al,outs,S,1,3,rfl,s3 _ _ eo,CC.mono (Same.kt s3),go,S0,by omega,by decide,by decide,by decide,by decide,fun t ha H6 s6 Au Aw AB=>?_⟩;dsimp only [aG];have MV:L2.Same H4 H6:=s3.trans s6;refine bS (fun Ab H7=>Ex2 fun (t:Th) (ha:Q7)=>An5 (L2.Same H6 H7) (At H7 t ha) (t.FitS outs S 1) (t.tall<=4) (Ab=[some (.ref a),some (.int 4),some (.int 3),some (.ref ia),some (.ref oa),some (.int S),some (.ref ca),some (.bl dg),some (.ref rl),sv,rv,kv,cv,some (.ref ha)])) (fun kk hk=>?_) ?_
   · refine bZ (fun b H'=>H6=H') (fun k2 A9=>?_) (fun H' hb=>?_) (fun H' hb=>?_)
     · exact ⟨_,rfl,_,rfl,A9 _ _ rfl⟩
     · subst hb;refine ⟨_,rfl,ca,_,0,.int c,rfl,rfl,SqL.of (MV _ _ ec),Hu,aj (by show 1<=1000000;decide),fun ol Ek=>?_⟩;have s7:L2.Same H6 (upd H6 ol (.lst [.int c])):=ai Ek _;have e7:(upd H6 ol (.lst [.int c])) ol=some (.lst [.int c]):=ac;dsimp only;generalize (upd H6 ol (.lst [.int c]))=H7 at s7 e7 ⊢;have C6:=MV.trans s7;exact ⟨_,rfl,_,rfl,_,rfl,ol,c,oa,Al,outs,S,1,3,rfl,e7,C6 _ _ eo,CC.mono (Same.kt C6),go,S0,by omega,by decide,by decide,by decide,by decide,fun t r x' H8 s8 _ Au Aw AB=>hk _ _ ⟨t,r,SameB.fresh Ek s7 s8,Au,Aw,AB,rfl⟩⟩
     · subst hb;exact hk _ _ ⟨t,ha,.refl _,Au,Aw,AB,rfl⟩
   clear Au Aw AB;rintro Ab H7 ⟨t,ha,s7,Au,Aw,AB,rfl⟩;have FN:=s7 _ _ (s6 _ _ IW);refine ⟨_,rfl,_,rfl,_,rfl,_,rfl,rl,_,rfl,.inl ⟨SqL.of FN,fun ra FJ=>?_⟩⟩;have s8:L2.Same H7 (upd H7 ra (.tup (AG.map V.ref))):=ai FJ _;have e8:(upd H7 ra (.tup (AG.map V.ref))) ra=some (.tup (AG.map V.ref)):=ac;generalize (upd H7 ra (.tup (AG.map V.ref)))=H8 at s8 e8 ⊢;refine ⟨aj (by show 4<=1000000;decide),fun r AV=>?_⟩;have s9:L2.Same H8 (upd H8 r (.tup [.ref ia,.ref oa,.ref ha,.ref ra])):=ai AV _;have sA:=s6.trans (s7.trans (s8.trans s9));have sB:=s3.trans sA;have MW:((rows.length:Nat):Int)=S:=by rw [II];omega
   exact q r ins outs t rows _ (P0.trans sB) ⟨ia,oa,ha,ra,Aq,Al,AG,ac,sB _ _ ei,BS.mono (Same.kt sB),sB _ _ eo,CC.mono (Same.kt sB),Au.mono (Same.kt (s8.trans s9)),s9 _ _ e8,P2.mp (fun _ _ e=>RowAt.mono (Same.kt sA) e) Bf⟩ ⟨gI,gO,by omega,by rw [MW];exact Ai,by rw [MW];exact Aw,AB⟩
def ik:Nat->Sp
 | 0=>fun _ _ _ _=>False
 | n+1=>fun vs H Q _=>∃ (a:Q7) (t:Th) (ks:List (Ru×Int)),vs=[.ref a]/\At H t a/\t.FitP ks/\ce ks/\t.tall<=n+1/\t.tall<=4/\∀ H',L2.Same H H'->Q (.str (t.fill bt).show) H'
set_option maxHeartbeats 2000000 in
theorem eL:∀ n:Nat,aV P w K mg base CX0 n T.g__law_shown.f T.g__law_shown.d ["pattern"] (ik n)
 | 0=>⟨fun _ _ _ _ h=>h.elim,fun _ _ _ _ _ _ _ _ _ _ _ _ _ h=>h.elim⟩
 | n+1=>by
   have ih:=eL n;refine T.g__law_shown.F.ok ni (fun vs H Q E h=>?_) (fun Ag A outer s H vs Q E hr h=>?_)
   · obtain ⟨a,t,ks,rfl,_⟩:=h;rfl
   obtain ⟨a,t,ks,rfl,hA,hF,g,AI,MX,q⟩:=h
   refine ⟨_,(ad (aS (aD cI (az aI (pv 0) ag (fun _ _=>rfl)) aA (aE _)) (ae (ax (am aK (am aK (bf eW rfl T.n_str S8 (aa (az aI (pv 0) ag (fun _ _=>rfl)) ab)) aA) (bf eW rfl T.n_str S8 (aa (az aI (pv 0) ag (fun _ _=>rfl)) ab))))) aH)
    (ad (aS (aD cI (av ao rfl T.n_len RG (aa (pv 0) ab)) ag (aE _)) (ae (ax (az aI (pv 0) ag (fun _ _=>rfl)))) aH)
    (ae (ax (am aK (am aK (am aK (az aI (pv 0) ag (fun _ _=>rfl)) aA) (bi RW SO SN eC aA (aa (bG (N:=[QZ "part"]) (js:=[none]) (g:=(aG 0)) (tt:=bn) (te:=(ip (ik _) [] E0 (b8 (bV 0) eR))) rfl (cg rfl (by decide +kernel) (by decide +kernel) rfl rfl rfl) (db (bT sQ (pv 0) (bR ag) cL)) (fun _ _ _ _ _ _=>(aq (i:=0) aav rfl (Rp rfl))) (aX rfl) (fun _ _ _ _ _ _=>bN) (fun _ _ _ _ _ _=>(jr (ih) (hr.mono (Q8 _)) rfl T.g__law_shown.m T.g__law_shown.F.kp T.g__law_shown.b .nil mj (aa (pv 0) ab)))) ab))) aA))))),?_⟩
   try dsimp only [Ar,Ac]
   obtain ⟨hlen,_⟩:=fz g hF MX;cases t with
   | call sn kn =>
     have Fg:=hA;rw [At] at Fg;rw [Th.FitP] at hF;have l1:=ck hF.1 hF.2.1;have l2:=ck hF.2.2.1 (by omega);refine ⟨_,rfl,a,_,0,.str BB.q,rfl,rfl,SqT.of Fg,at0,rfl,_,rfl,?_⟩;refine cA (fun _=>?_) (fun c=>absurd (decide_eq_true rfl) c);refine ⟨_,rfl,a,_,1,_,rfl,rfl,SqT.of Fg,at1,sn,rfl,cY hF.1 hF.2.1,aJ sn,dot,rfl,rfl,aj (by show (aJ sn).length+1<=1000000;omega),_,rfl,a,_,2,_,rfl,rfl,SqT.of Fg,at2,kn,rfl,cY hF.2.2.1 (by omega),_,aJ kn,rfl,rfl,aj (by rw [Rh];show (aJ sn).length+1+(aJ kn).length<=1000000;omega),?_⟩;have:=q H (.refl _);rw [Th.fill,bt,Th.show,bh] at this;exact this
   | knot m ts =>
     rw [Th.fill,Th.show] at hlen q;have FO:=hF;rw [Th.FitP] at FO;rw [Th.tall] at AI MX;rw [At] at hA;refine hid fun ZZ kZ=>?_;obtain ⟨P4,Af,ea,Co⟩:=hA;refine kZ ?_;have Lb:Af.length=ts.length:=Co.length;have QR:=(g.low _ FO.1).2
     have hw:ts.length<=3:=by
      have:=(g.num _ FO.1).2;have h2:((ts.length:Nat):Int)<=3:=this;omega
     refine ⟨_,rfl,a,_,0,.str m,rfl,rfl,SqT.of ea,at0,rfl,_,rfl,?_⟩;refine cA (fun c=>absurd (of_decide_eq_true c) (fun z=>P4 (V.str.inj z))) (fun _=>?_);refine ⟨_,rfl,a,_,rfl,.inr (SqT.of ea),rfl,_,rfl,?_⟩;refine cA (fun c=>?_) (fun c=>?_)
     · have c':=V.int.inj (of_decide_eq_true c);rw [Q3,Q0] at c';have hz:ts=[]:=R7.mp (by omega);subst hz;have:=q H (.refl _);rw [fills,bh] at this;exact ⟨_,rfl,a,_,0,.str m,rfl,rfl,SqT.of ea,at0,this⟩
     · have Av:ts≠[]:=fun z=>by
        subst z;have hz:Af=[]:=R7.mp (by rw [Lb];rfl);subst hz;exact c (decide_eq_true rfl)
       have l1:=pP.1;have l2:=pP.2.1;have l3:=pP.2.2
       have hx:(bh (fills bt ts)).isEmpty=false:=by
        cases ts with
        | nil=>exact absurd rfl Av
        | cons x xs=>rw [fills,bh];rfl
       have Ec:fY m (bh (fills bt ts))=m++lpar++R8 comma (bh (fills bt ts))++rpar:=by
        unfold fY;rw [hx];rfl
       rw [Ec] at hlen q;rw [Rh,Rh,Rh] at hlen;refine ⟨_,rfl,a,_,0,.str m,rfl,rfl,SqT.of ea,at0,m,lpar,rfl,rfl,aj (by omega),rfl,_,rfl,1,rfl,a,_,rfl,SqT.of ea,?_,fun p2 DV=>?_⟩
       · rintro ⟨z,_⟩;rw [Q3,show (1:Int)=((1:Nat):Int) by rfl,HT.sIx_nat] at z;omega
       dsimp only;rw [jf];have s2:L2.Same H (upd H p2 (.tup (Af.map V.ref))):=ai DV _;have e2:(upd H p2 (.tup (Af.map V.ref))) p2=some (.tup (Af.map V.ref)):=ac;generalize (upd H p2 (.tup (Af.map V.ref)))=H2 at s2 e2 ⊢;refine ⟨p2,rfl,⟨_,SqT.of e2⟩,cm ts (fun t=>V.str (t.fill bt).show) (SqT.of e2) (by rw [Q0];omega) (by rw [Q0];omega) (fun i x z Hx R W' Hg hz sx hR=>?_) (fun D H3 hD sD eD=>?_)⟩
       · obtain ⟨ua,rfl,Kr⟩:=ba Hg;obtain ⟨u,hu,Ks⟩:=Co.get Kr;rw [hz] at hu;cases hu;have MY:z∈ts:=Rb hz;have QS:=jv MY;have QT:=z.tall_eq
         have P5:z.FitP ks:=by
          have:∀ us:List Th,FitPs ks us->∀ u∈us,u.FitP ks:=by
           intro us;induction us with
           | nil=>intro _ u hu;cases hu
           | cons v us P6 =>
             intro h u hu;rw [FitPs] at h;rcases Rq.mp hu with rfl | hu
             · exact h.1
             · exact P6 h.2 u hu
          exact this ts FO.2 z MY
         cases n with
         | zero=>omega
         | succ n =>
         exact ⟨_,rfl,ua,z,ks,rfl,Ks.mono (Same.kt (s2.trans sx)),P5,g,by omega,by omega,fun H4 s4=>hR H4 s4⟩
       have Ku:∀ us:List Th,(bh (fills bt us)).map V.str=us.map (fun t=>V.str (t.fill bt).show):=by
        intro us;induction us with
        | nil=>rw [fills,bh];rfl
        | cons u us ih=>rw [fills,bh,Rr,ih];rfl
       have hs:=jw (fills bt ts) (pY g FO.2);have A7:=uD FO.2.inRs;have P7:=fJ g hF;rw [Th.size,Th.tall] at P7;have Mi:4 ^ (bd ts+1)<=4 ^ 4:=Tg (by decide) (by omega);have QU:(4:Nat) ^ 4=256:=rfl
       have QV:ay ts<=256:=by
        have:(Th.knot m ts).size<=256:=by rw [Th.size];omega
        rw [Th.size] at this;omega
       have hmul:(8+3) * ay (fills bt ts)<=11 * 256:=Sv _ (by omega);refine ⟨comma,D,bh (fills bt ts),rfl,rfl,SqL.of (by rw [Ku];exact eD),by rw [l1];omega,m++lpar,_,rfl,rfl,aj (by rw [Rh];omega),_,rpar,rfl,rfl,aj (by rw [Rh,Rh];omega),?_⟩;exact q _ (s2.trans sD)
theorem qU {w:Ru} {ks ks':List (Ru×Int)} (g:ce ks) (hw:w.length<=10) (hm:∀ k∈ks',k∈ks) (hl:ks'.length<=6):(aP w ks').length<=1000:=by
 have all:∀ x∈w::ks'.map aY,x.length<=20:=fun x hx=>by
  rcases Rq.mp hx with rfl | hx
  · omega
  · obtain ⟨k,hk,rfl⟩:=Sl.mp hx;exact kb g (hm k hk)
 have h2:=jO all
 have h3:(R8 blank (w::ks'.map aY)).length<=((w::ks'.map aY).map (·.length)).sum+(w::ks'.map aY).length * blank.length:=by
  have e:R8 blank (w::ks'.map aY)=UH blank (w::ks'.map aY):=Uk _ _;rw [e];exact Wm _ _
 have h4:(w::ks'.map aY).length=ks'.length+1:=by rw [Q3,Q0]
 have h5:blank.length=1:=by decide +kernel
 unfold aP;rw [h4] at h2 h3;rw [h5] at h3;omega
theorem set_same {α:Type} {l:List α} {i:Nat} {x:α} (h:l[i]?=some x):l.set i x=l:=by
 obtain ⟨h1,rfl⟩:=Rm.mp h;exact List.set_getElem_self h1
def sK (ins outs:List (Ru×Int)) (head:Th):Nat->List Ru
 | 0=>[QZ "in",QZ "out",di head]
 | 1=>[aP (QZ "in") ins,QZ "out",di head]
 | _=>[aP (QZ "in") ins,aP (QZ "out") outs,di head]
inductive ij (vs:List V) (H:Hp) (Q:VK) (_E:XK):Prop
 | mk (b:Q7) (ins outs:List (Ru×Int)) (head:Th) (rows:List (List Th)) (Aj:vs=[.ref b]) (Ak:Bk H ins outs head rows b) (An:kj ins outs head rows) (Az:∀ (r:Q7) (H':Hp),L2.Same H H'->H' r=some (.lst ((cH ins outs head rows).map V.str))->Q (.ref r) H'):ij  vs H Q _E
def qj:Sp:=ij
set_option maxHeartbeats 4000000 in
theorem oQ:aV P w K mg base CX0 9 T.g__law_rows.f T.g__law_rows.d ["book"] qj:=by
 refine T.g__law_rows.F.ok bL (fun vs H Q E h=>?_) (fun Ag A outer s H vs Q E hr h=>?_)
 · obtain ⟨b,ins,outs,head,rows,rfl,_⟩:=h;rfl
 obtain ⟨b,ins,outs,head,rows,rfl,hb,ok,q⟩:=h
 refine ⟨_,(ad (ar (i:=1) bL.nd rfl (Rp rfl) (bm (aa aA (aa aA (aa (am aK aA (pcF T.g__law_shown (eL T 8) hr (aa (az aI (pv 0) ag (fun _ _=>rfl)) ab))) ab)))))
  (ad (br RM rfl (bw rfl T.n_range (aa ag ab)) (aq (i:=2) bL.nd rfl (Rp rfl)) (ae (br RM rfl (db (az aI (pv 0) (pv 2) (fun _ _=>rfl))) (aq (i:=3) bL.nd rfl (Rp rfl)) (ae (fH (am aK (am aK (am aK (am aK (az aO (pv 1) (pv 2) (fun _ _=>rfl)) aA) (az aI (pv 3) ag (fun _ _=>rfl))) aA) (bf eW rfl T.n_str S8 (aa (az aI (pv 3) ag (fun _ _=>rfl)) ab))) (lE (pv 1) (pv 2) set_list))))))
  (ad (br RM rfl (bw rfl T.n_range (aa (av ao rfl T.n_len RG (aa (az aI (pv 0) ag (fun _ _=>rfl)) ab)) ab)) (aq (i:=4) bL.nd rfl (Rp rfl)) (ae (br RM rfl (bw rfl T.n_range (aa (av ao rfl T.n_len RG (aa (az aI (pv 0) ag (fun _ _=>rfl)) ab)) ab)) (aq (i:=5) bL.nd rfl (Rp rfl)) (ad (ar (i:=6) bL.nd rfl (Rp rfl) (az aI (az aI (az aI (pv 0) ag (fun _ _=>rfl)) (pv 5) (fun _ _=>rfl)) ag (fun _ _=>rfl)))
  (ad (ar (i:=7) bL.nd rfl (Rp rfl) (pcF T.g__law_shown (eL T 8) hr (aa (az aI (az aI (az aI (pv 0) ag (fun _ _=>rfl)) (pv 4) (fun _ _=>rfl)) (pv 5) (fun _ _=>rfl)) ab)))
  (ae (aT (bi Rk RB RA aN (pv 1) (aa (am aK (am aK (am aK (am aK (am aK aA (bf eW rfl T.n_str S8 (aa (pv 4) ab))) aA) (pv 6)) aA) (pv 7)) ab)))))))))
  (ae (ax (pv 1)))))),?_⟩
 try dsimp only [Ar,Ac]
 refine hid fun ZZ kZ=>?_;obtain ⟨ia,oa,ha,ra,Aq,Al,AG,bk⟩:=hb;obtain ⟨El,Ki⟩:=fz ok.go ok.hd.1 ok.hd.2;refine kZ ?_;have Kj:=jP ok.go ok.hd.1 ok.hd.2;unfold di at Kj;have Hv:=ok.hd.2;refine ⟨_,rfl,b,_,2,.ref ha,rfl,rfl,SqT.of bk.bk,at2,ha,head,outs,rfl,bk.hd,ok.hd.1,ok.go,Sw Hv (by decide),Hv,fun H1 s1=>⟨_,_,rfl,rfl,aj (by show 5+(head.fill bt).show.length<=1000000;omega),aj (by show 3<=1000000;decide),fun rl BQ=>?_⟩⟩;have s2:L2.Same H1 (upd H1 rl (.lst [.str (QZ "in"),.str (QZ "out"),.str (QZ "head "++(head.fill bt).show)])):=ai BQ _;have e2:(upd H1 rl (.lst [.str (QZ "in"),.str (QZ "out"),.str (QZ "head "++(head.fill bt).show)])) rl=some (.lst ((sK ins outs head 0).map V.str)):=ac;have DB:H rl=none:=s1.free BQ;generalize (upd H1 rl (.lst [.str (QZ "in"),.str (QZ "out"),.str (QZ "head "++(head.fill bt).show)]))=H2 at s2 e2 ⊢;have G9:=s1.trans s2;dsimp only [aG];have JJ:=ok.gi.le;have Iy:=ok.few;have OQ:ins.length=Aq.length:=Rx bk.inK;have Kk:rows.length=AG.length:=Rx bk.rw;refine ⟨2,rfl,by decide,by decide,?_⟩
 refine bK (n:=(2:Int).toNat) (fun i σ H3=>Ex2 fun c2 c3=>An3 (σ=[some (.ref b),some (.ref rl),c2,c3,none,none,none,none]) (L2.Same H H3) (H3 rl=some (.lst ((sK ins outs head i).map V.str))))
  ⟨none,none,rfl,G9,e2⟩ ?_ ?_
 · rintro i σ H3 hi ⟨c2,c3,rfl,s3,e3⟩;have K0:i<2:=hi;refine hid fun ZZ kZ=>?_
   obtain ⟨w,ks,ka,Ap,Fx,hw,MZ,M0,g,Cc,Ex,hlen⟩:∃ (w:Ru) (ks:List (Ru×Int)) (ka:Q7) (Ap:List Q7),atI [V.ref ia,.ref oa,.ref ha,.ref ra] (0+(i:Int))=some (.ref ka)/\w.length<=10/\H ka=some (.tup (Ap.map V.ref))/\KsAt H ks Ap/\ce ks/\(sK ins outs head i)[i]?=some w/\sK ins outs head (i+1)=(sK ins outs head i).set i (aP w ks)/\(sK ins outs head i).length=3:=by
    match i,K0 with
    | 0,_=>exact ⟨QZ "in",ins,ia,Aq,at_nonneg (by decide) rfl,by decide +kernel,bk.inE,bk.inK,ok.gi,rfl,rfl,rfl⟩
    | 1,_=>exact ⟨QZ "out",outs,oa,Al,at_nonneg (by decide) rfl,by decide +kernel,bk.outE,bk.outK,ok.go,rfl,rfl,rfl⟩
   refine kZ ?_;generalize sK ins outs head i=pre at e3 Cc Ex hlen;have AN:ks.length=Ap.length:=Rx M0;have Iz:=g.le;refine ⟨_,rfl,_,rfl,b,_,_,.ref ka,rfl,rfl,SqT.of (s3 _ _ bk.bk),Fx,ka,rfl,⟨_,SqT.of (s3 _ _ MZ)⟩,?_⟩
   refine pH (K:=K) (a:=ka) (xs:=Ap.map V.ref) (fun j σ H4=>Ex1 fun c3=>An3 (σ=[some (.ref b),some (.ref rl),some (.int (0+(i:Int))),c3,none,none,none,none]) (L2.Same H H4) (H4 rl=some (.lst ((pre.set i (aP w (ks.take j))).map V.str))))
    ⟨c3,rfl,s3,by rw [SG,sJ,e3];congr 3;exact (set_same Cc).symm⟩ (fun j σ H4 _ ⟨_,_,s4,_⟩=>SqT.of (s4 _ _ MZ)) ?_ ?_
   · rintro j x σ H4 hx ⟨c3,rfl,s4,e4⟩;obtain ⟨Ew,rfl,AQ⟩:=ba hx;obtain ⟨k,hk,ek⟩:=P2.get' M0 AQ;have CB:=Rb hk;have h1:=(g.low k CB).2;have h2:=g.num k CB;have h3:=ck h2.1 (by omega);have h4:=qU (w:=w) (ks':=ks.take j) g hw (fun k hk=>Wa hk) (by rw [RP];omega);have M1:=s4 _ _ ek
     have CO:(pre.set i (aP w (ks.take j)))[i]?=some (aP w (ks.take j)):=by
      rw [Uu (by omega)]
     refine ⟨_,rfl,_,rfl,rl,_,_,.str (aP w (ks.take j)),rfl,rfl,SqL.of e4,at_nonneg (by omega) (by rw [show (0+(i:Int)).toNat=i by omega,Rg,CO];rfl),_,blank,rfl,rfl,aj (by show (aP w (ks.take j)).length+1<=1000000;omega),?_⟩;refine ⟨_,rfl,Ew,_,0,.str k.1,rfl,rfl,SqT.of M1,at0,_,_,rfl,rfl,aj (by rw [Rh];show (aP w (ks.take j)).length+1+k.1.length<=1000000;omega),_,rm,rfl,rfl,aj (by rw [Rh,Rh];show (aP w (ks.take j)).length+1+k.1.length+1<=1000000;omega),?_⟩;refine ⟨_,rfl,Ew,_,1,.int k.2,rfl,rfl,SqT.of M1,at1,k.2,rfl,cY h2.1 (by omega),_,aJ k.2,rfl,rfl,aj (by rw [Rh,Rh,Rh];show (aP w (ks.take j)).length+1+k.1.length+1+(aJ k.2).length<=1000000;omega),?_⟩;rw [<- rG,<- take_snoc hk];refine ⟨_,rfl,_,rfl,rl,_,_,i,rfl,rfl,e4,?_,?_⟩
     · unfold ixN;rw [if_pos (by omega),if_pos (by rw [Q0,Vk];omega)];simp
     · refine ⟨_,rfl,aC s4 DB,?_⟩;rw [ac,<- List.map_set,List.set_set]
   · rintro σ H4 ⟨c3,rfl,s4,e4⟩;rw [R0 (by rw [Q0];omega),<- Ex] at e4;exact ⟨_,_,rfl,s4,e4⟩
 rintro σ H3 ⟨c2,c3,rfl,s3,e3⟩
 have e3:H3 rl=some (.lst (([aP (QZ "in") ins,aP (QZ "out") outs,di head]++b7 ins rows 0).map V.str)):=by
  rw [gh,RC];exact e3
 refine ⟨_,rfl,b,_,3,.ref ra,rfl,rfl,SqT.of (s3 _ _ bk.bk),at3,ra,_,rfl,.inr (SqT.of (s3 _ _ bk.rl)),_,rfl,by omega,by rw [Q0];omega,?_⟩
 refine bK (n:=((AG.map V.ref).length:Int).toNat) (fun i σ H5=>Ex4 fun c4 c5 c6 c7=>An3 (σ=[some (.ref b),some (.ref rl),c2,c3,c4,c5,c6,c7]) (L2.Same H H5) (H5 rl=some (.lst (([aP (QZ "in") ins,aP (QZ "out") outs,di head]++b7 ins rows i).map V.str))))
  ⟨none,none,none,none,rfl,s3,e3⟩ ?_ ?_
 · rintro i σ H5 hi ⟨c4,c5,c6,c7,rfl,s5,e5⟩
   have IS:i<rows.length:=by
    have:i<((AG.map V.ref).length:Int).toNat:=hi;rw [Q0] at this;omega
   refine hid fun ZZ kZ=>?_;obtain ⟨row,Ae⟩:∃ row,rows[i]?=some row:=⟨_,Q1 IS⟩;obtain ⟨BA,Dr,Af,CS,BR⟩:=P2.get bk.rw Ae;have E9:=Rb Ae;obtain ⟨G2,Ds⟩:=ok.row row E9;have AI:=BR.length
   have OR:(eI ins ((i:Nat):Int) row).length=ins.length:=by
    unfold eI;rw [Q0,UY];omega
   obtain ⟨r1,r2⟩:=gY ok i (by omega);refine kZ ?_;have Lc:atI (AG.map V.ref) (0+(i:Int))=some (.ref BA):=at_nonneg (by omega) (by rw [show (0+(i:Int)).toNat=i by omega,Rg,Dr];rfl);refine ⟨_,rfl,b,_,0,.ref ia,rfl,rfl,SqT.of (s5 _ _ bk.bk),at0,ia,_,rfl,.inr (SqT.of (s5 _ _ bk.inE)),_,rfl,by omega,by rw [Q0];omega,?_⟩
   refine bK (n:=((Aq.map V.ref).length:Int).toNat) (fun j σ H7=>Ex3 fun c5 c6 c7=>An3 (σ=[some (.ref b),some (.ref rl),c2,c3,some (.int (0+(i:Int))),c5,c6,c7]) (L2.Same H H7) (H7 rl=some (.lst (([aP (QZ "in") ins,aP (QZ "out") outs,di head]++b7 ins rows i++(eI ins ((i:Nat):Int) row).take j).map V.str))))
    ⟨c5,c6,c7,rfl,s5,by rw [SG,RC];exact e5⟩ ?_ ?_
   · rintro j σ H7 hj ⟨c5,c6,c7,rfl,s7,e7⟩
     have La:j<ins.length:=by
      have:j<((Aq.map V.ref).length:Int).toNat:=hj;rw [Q0] at this;omega
     refine hid fun ZZ kZ=>?_;obtain ⟨k,hk⟩:∃ k,ins[j]?=some k:=⟨_,Q1 La⟩;obtain ⟨ka,AQ,ek⟩:=P2.get bk.inK hk;obtain ⟨t,ht⟩:∃ t,row[j]?=some t:=⟨_,Q1 (by omega)⟩;obtain ⟨ta,Co⟩:∃ ta,Af[j]?=some ta:=⟨_,Q1 (by omega)⟩;obtain ⟨t',D0,Au⟩:=BR.get Co;refine kZ ?_;rw [ht] at D0;cases D0;have Aw:=Ds t (Rb ht);have CB:=Rb hk;have O9:=(ok.gi.low k CB).2;have Ld:atI (Aq.map V.ref) (0+(j:Int))=some (.ref ka):=at_nonneg (by omega) (by rw [show (0+(j:Int)).toNat=j by omega,Rg,AQ];rfl);have Le:atI (Af.map V.ref) (0+(j:Int))=some (.ref ta):=at_nonneg (by omega) (by rw [show (0+(j:Int)).toNat=j by omega,Rg,Co];rfl);refine ⟨_,rfl,b,_,0,.ref ia,rfl,rfl,SqT.of (s7 _ _ bk.bk),at0,_,rfl,ia,_,_,.ref ka,rfl,rfl,SqT.of (s7 _ _ bk.inE),Ld,ka,_,0,.str k.1,rfl,rfl,SqT.of (s7 _ _ ek),at0,?_⟩;refine ⟨_,rfl,b,_,3,.ref ra,rfl,rfl,SqT.of (s7 _ _ bk.bk),at3,_,rfl,ra,_,_,.ref BA,rfl,rfl,SqT.of (s7 _ _ bk.rl),Lc,_,rfl,BA,_,_,.ref ta,rfl,rfl,SqT.of (s7 _ _ CS),Le,ta,t,outs,rfl,Au.mono (Same.kt s7),Aw.1,ok.go,Sw Aw.2 (by decide),Aw.2,fun H8 s8=>?_⟩;dsimp only [aG];have e0:(0+(i:Int))=((i:Nat):Int):=Int.zero_add _;have l1:=(fz ok.go Aw.1 Aw.2).1;have l2:=ck (n:=((i:Nat):Int)) (by omega) (by omega);have e8:=s8 _ _ e7;refine ⟨_,rfl,.inl ⟨rfl,_,SqL.of e8⟩,_,rfl,_,rfl,by rw [e0];exact cY (by omega) (by omega),_,_,rfl,rfl,aj (by rw [e0];show 5+(aJ (i:Nat)).length<=1000000;omega),?_⟩;rw [e0];refine ⟨_,blank,rfl,rfl,aj (by rw [Rh];show 5+(aJ (i:Nat)).length+1<=1000000;omega),_,rfl,_,k.1,rfl,rfl,aj (by rw [Rh,Rh];show 5+(aJ (i:Nat)).length+1+k.1.length<=1000000;omega),_,blank,rfl,rfl,aj (by rw [Rh,Rh,Rh];show 5+(aJ (i:Nat)).length+1+k.1.length+1<=1000000;omega),?_⟩;refine ⟨_,rfl,_,(t.fill bt).show,rfl,rfl,aj (by rw [Rh,Rh,Rh,Rh];show 5+(aJ (i:Nat)).length+1+k.1.length+1+(t.fill bt).show.length<=1000000;omega),?_⟩;refine ⟨rl,_,_,rfl,rfl,e8,aF (by rw [Q0,Ra,Ra,RP];show 3+_+_<=1000000;omega),?_⟩;refine ⟨_,_,_,rfl,aC (s7.trans s8) DB,?_⟩
     have hz:(eI ins ((i:Nat):Int) row)[j]?=some (d9 ((i:Nat):Int) k.1 t):=by
      unfold eI;rw [Rg,T5.mpr (show ins[j]?=some (k,t).1/\row[j]?=some (k,t).2 from ⟨hk,ht⟩)];rfl
     rw [ac,take_snoc hz,<- RF,Rj (l₂:=[d9 ((i:Nat):Int) k.1 t])];rfl
   · rintro σ H7 ⟨c5,c6,c7,rfl,s7,e7⟩;refine ⟨_,_,_,_,rfl,s7,?_⟩;rw [R0 (by rw [Q0];omega)] at e7;rw [gq Ae,<- RF];exact e7
 · rintro σ H5 ⟨c4,c5,c6,c7,rfl,s5,e5⟩;refine ⟨_,rfl,q rl H5 s5 ?_⟩;have:((AG.map V.ref).length:Int).toNat=rows.length:=by rw [Q0];omega
   rw [this] at e5;exact e5
def oX:Nat->Sp
 | 0=>fun _ _ _ _=>False
 | n+1=>fun vs H Q _=>∃ (f u:V) (d:Dv),vs=[f,u]/\DAt H d f/\DAt H d u/\d.deep<=n/\d.tot<=1000000/\Q (.bl true) H
theorem ft:∀ n:Nat,aV P w K mg base CX0 n T.g__law_same.f T.g__law_same.d ["found","due"] (oX n)
 | 0=>⟨fun _ _ _ _ h=>h.elim,fun _ _ _ _ _ _ _ _ _ _ _ _ _ h=>h.elim⟩
 | n+1=>by
   have ih:=ft n;refine T.g__law_same.F.ok jb (fun vs H Q E h=>?_) (fun Ag A outer s H vs Q E hr h=>?_)
   · obtain ⟨f,u,d,rfl,_⟩:=h;rfl
   obtain ⟨f,u,d,rfl,hf,hu,hd,ht,k⟩:=h
   refine ⟨_,(ad (aS (aQ (av (bI (T:="tuple")) rfl T.n_isinstance RX (aa (pv 1) (aa (cC (v:=.ty "tuple") rfl T.n_tuple R4 rfl) ab))) (fun _=>rfl)) (ad (aS (PW.pt (eF (ci (aQ (av (bI (T:="tuple")) rfl T.n_isinstance RX (aa (pv 0) (aa (cC (v:=.ty "tuple") rfl T.n_tuple R4 rfl) ab))) (fun _=>rfl))) (dz (aD dO (av ao rfl T.n_len RG (aa (pv 0) ab)) (av ao rfl T.n_len RG (aa (pv 1) ab)) (aE _))))) (ae (ax gx)) aH)
    (ad (br RM rfl (bw rfl T.n_range (aa (av ao rfl T.n_len RG (aa (pv 1) ab)) ab)) (aq (i:=2) jb.nd rfl (Rp rfl)) (ae (aS (ci (aQ (jr (ih) (hr.mono (Q8 _)) rfl T.g__law_same.m T.g__law_same.F.kp T.g__law_same.b .nil mj (aa (az aI (pv 0) (pv 2) (fun _ _=>rfl)) (aa (az aI (pv 1) (pv 2) (fun _ _=>rfl)) ab))) (fun _=>rfl))) (ae (ax gx)) aH)))
    (ae (ax gx)))) aH)
    (ad (aS (aQ (av (bI (T:="str")) rfl T.n_isinstance RX (aa (pv 1) (aa (cC (v:=.ty "str") rfl T.n_str S8 rfl) ab))) (fun _=>rfl)) (ae (ax (cV (av (bI (T:="str")) rfl T.n_isinstance RX (aa (pv 0) (aa (cC (v:=.ty "str") rfl T.n_str S8 rfl) ab))) (eK (cz cI (pv 0) (pv 1) (aE _)))))) aH)
    (ae (ax (cV (av (bI (T:="int")) rfl T.n_isinstance RX (aa (pv 0) (aa (cC (v:=.ty "int") rfl T.n_int V5 rfl) ab))) (cV (px (av (bI (T:="bool")) rfl T.n_isinstance RX (aa (pv 0) (aa (cC (v:=.ty "bool") rfl T.n_bool PyProof.Rows.boot_bool rfl) ab)))) (eK (cz cI (pv 0) (pv 1) (aE _))))))))),?_⟩
   try dsimp only [Ar,Ac]
   cases d with
   | int i =>
     rw [DAt] at hf hu;subst hf hu;refine ⟨_,rfl,_,_,_,rfl,.int i,zy,_,rfl,bA ?_⟩;refine ⟨_,rfl,_,_,_,rfl,.int i,zr,_,rfl,bA ?_⟩;refine ⟨_,rfl,_,_,_,rfl,.int i,vT,_,rfl,cE ?_⟩;refine ⟨_,rfl,_,_,_,rfl,.int i,wB,_,rfl,_,rfl,cE ?_⟩;refine ⟨_,rfl,_,rfl,rfl,?_⟩;rw [decide_eq_true (rfl:V.int i=V.int i)];exact k
   | str x =>
     rw [DAt] at hf hu;subst hf hu;refine ⟨_,rfl,_,_,_,rfl,.str x,pU,_,rfl,bA ?_⟩;refine ⟨_,rfl,_,_,_,rfl,.str x,tD,_,rfl,cE ?_⟩;refine ⟨_,rfl,_,_,_,rfl,.str x,tD,_,rfl,cE ?_⟩;refine ⟨_,rfl,_,rfl,rfl,?_⟩;rw [decide_eq_true (rfl:V.str x=V.str x)];exact k
   | tup ds =>
     rw [DAt] at hf hu;refine hid fun ZZ kZ=>?_;obtain ⟨fa,fs,rfl,ef,M3⟩:=hf;obtain ⟨ua,us,rfl,eu,Ic⟩:=hu;refine kZ ?_;have l1:=M3.length;have l2:=Ic.length;rw [Dv.deep] at hd;rw [Dv.tot] at ht;have l3:=rn ds;refine ⟨_,rfl,_,_,_,rfl,.tup eu,mV,_,rfl,cE ?_⟩;refine ⟨_,rfl,_,_,_,rfl,.tup ef,mV,_,rfl,?_⟩;refine bA ?_;refine ⟨_,rfl,fa,_,rfl,.inr (SqT.of ef),_,rfl,ua,_,rfl,.inr (SqT.of eu),rfl,_,rfl,?_⟩;refine aah (by rw [l1,l2]) ?_;refine ⟨_,rfl,ua,_,rfl,.inr (SqT.of eu),_,rfl,by omega,by omega,?_⟩;refine bK (fun i σ H2=>Ex1 fun c=>An2 (H2=H) (σ=[some (.ref fa),some (.ref ua),c])) ⟨none,rfl,rfl⟩ ?_ ?_
     · rintro i σ H2 hi ⟨c,rfl,rfl⟩;have Bb:i<ds.length:=by rw [<- l2];simpa using hi
       refine hid fun ZZ kZ=>?_;obtain ⟨d,EV⟩:∃ d,ds[i]?=some d:=⟨_,Q1 Bb⟩;obtain ⟨vf,P8,af⟩:=M3.at EV;obtain ⟨vu,P9,au⟩:=Ic.at EV;refine kZ ?_;have g1:=jC EV;have g2:=pI EV;cases n with
       | zero=>omega
       | succ n =>
         refine ⟨_,rfl,_,rfl,fa,_,_,vf,rfl,rfl,SqT.of ef,at_nonneg (by omega) (by rw [show (0+(i:Int)).toNat=i by omega];exact P8),_,rfl,_,rfl,ua,_,_,vu,rfl,rfl,SqT.of eu,at_nonneg (by omega) (by rw [show (0+(i:Int)).toNat=i by omega];exact P9),vf,vu,d,rfl,af,au,by omega,by omega,_,rfl,?_⟩;exact bA ⟨_,rfl,rfl⟩
     · rintro σ H2 ⟨c,rfl,rfl⟩;exact k
theorem nW {p:Nat->Bool} {a a' b b':List Nat} (h:Wd p a a') (g:Wd p b b'):Wd p (a++b) (a'++b'):=by
 induction h with
 | nil=>exact g
 | ch hc _ ih=>exact .ch hc ih
 | @gap c x y l l' hc _ ih =>
   show Wd p (c::(l++b)) _;rw [RF (Ro x 32),show (c::(Ro y 32++l'))++b'=c::(Ro y 32++(l'++b')) by rw [Rz,RF]];exact .gap hc ih
theorem wY {p:Nat->Bool} {a a':List Nat} {c:Nat} (h:Wd p a a') (hc:c≠32):Wd p (a++[c]) (a'++[c]):=nW h (.ch hc .nil)
theorem w8 {p:Nat->Bool} {a a':List Nat} {c:Nat} (h:Wd p a a') (hc:p c=true) (x y:Nat):Wd p (a++[c]) (a'++(Ro x 32++c::Ro y 32)):=by
 have:=nW h (Wd.gap (g:=x) (h:=y) hc (Wd.nil (p:=p)));rw [RC] at this;exact this
def WdR (i:Nat) (l l':List Nat):Prop:=∃ (x y:Nat) (w:List Nat),l'=Ro x 32++(w++Ro y 32)/\Wd (if 1<i then sgB else blB) l w/\l'.length<=5 * l.length+4
inductive iz (vs:List V) (H:Hp) (Q:VK) (_E:XK):Prop
 | mk (rl:Q7) (rs:List Ru) (c:Int) (Aj:vs=[.ref rl,.int c]) (Ak:H rl=some (.lst (rs.map V.str))) (An:rs.length<=200) (Az:(∀ r∈rs,r.length<=4000)) (AR:∀ (R:List (List Nat)) (H':Hp),L2.Same H H'->R3 (fun (i:Nat) r'=>∃ r,rs[i]?=some r/\WdR i (sL r) r') (Sn rs.length) R->Q (.str (R8 eS (R.map ofL))) H'):iz  vs H Q _E
def pJ:Sp:=iz
theorem wx (c:Nat):(!(PySem.Builtin.Str.occurrences (QZ "(),.") ⟨#[c]⟩ 0 (QZ "(),.").length 1).isEmpty)=decide (c=40∨c=41∨c=44∨c=46):=by
 have hs:(QZ "(),.").cps.toList=[40,41,44,46]:=by decide +kernel
 have hl:(QZ "(),.").length=4:=by decide +kernel
 rw [PySem.StrLaws.occ_eq];have h:=fG (QZ "(),.") c [40,41,44,46] [] 0 hs (Q8 _);rw [Te] at h;rw [hl] at h ⊢;rw [show 4+1 - 0=[40,41,44,46].length+1 from rfl,h];unfold li li li li li;by_cases h1:c=40
 · rw [if_pos h1.symm,decide_eq_true (.inl h1)];rfl
 · rw [if_neg fun z=>h1 z.symm];by_cases h2:c=41
   · rw [if_pos h2.symm,decide_eq_true (.inr (.inl h2))];rfl
   · rw [if_neg fun z=>h2 z.symm];by_cases h3:c=44
     · rw [if_pos h3.symm,decide_eq_true (.inr (.inr (.inl h3)))];rfl
     · rw [if_neg fun z=>h3 z.symm];by_cases h4:c=46
       · rw [if_pos h4.symm,decide_eq_true (.inr (.inr (.inr h4)))];rfl
       · rw [if_neg fun z=>h4 z.symm,decide_eq_false (by omega)];rfl
theorem gZ (a b:List Nat):ofL a++ofL b=ofL (a++b):=g6 (by
 show sL (ofL a++ofL b)=sL (ofL (a++b));rw [d6,show sL (ofL a)=a from aM a,show sL (ofL b)=b from aM b,show sL (ofL (a++b))=a++b from aM _])
set_option maxHeartbeats 2000000 in
theorem qg:aV P w K mg base CX0 1 T.g__law_wide.f T.g__law_wide.d ["rows","cell"] pJ:=by
 refine T.g__law_wide.F.ok bO (fun vs H Q E h=>?_) (fun Ag A outer s H vs Q E hr h=>?_)
 · obtain ⟨rl,rs,c,rfl,_⟩:=h;rfl
 obtain ⟨rl,rs,c,rfl,er,QW,Ep,kq⟩:=h
 refine ⟨_,(ad (ar (i:=2) bO.nd rfl (Rp rfl) (bm ab))
  (ad (br RM rfl (bw rfl T.n_range (aa (av ao rfl T.n_len RG (aa (pv 0) ab)) ab)) (aq (i:=3) bO.nd rfl (Rp rfl)) (ad (ar (i:=4) bO.nd rfl (Rp rfl) aA)
  (ad (br RM rfl (tB (az aO (pv 0) (pv 3) (fun _ _=>rfl))) (aq (i:=5) bO.nd rfl (Rp rfl)) (ad (ar (i:=1) bO.nd rfl (Rp rfl) (am aZ (am bE (am fS (pv 1) ag) ag) ag))
  (ae (aS (PW.pt (eF (aD cI (pv 5) aA (aE _)) (dz (PW.pt (pV (aD nH (pv 3) ag (aE _)) (ly (aD u7 (pv 5) aA (by with_unfolding_all rfl)))))))) (ae (ar (i:=4) bO.nd rfl (Rp rfl) (am aK (am aK (am aK (pv 4) (am jq aA (am aZ (am bj (pv 1) ag) ag))) (pv 5)) (am jq aA (am aZ (am bj (pv 1) ag) ag))))) (ae (ar (i:=4) bO.nd rfl (Rp rfl) (am aK (pv 4) (pv 5))))))))
  (ae (aT (bi Rk RB RA aN (pv 2) (aa (am aK (am aK (am jq aA (am aZ (am bj (pv 1) ag) ag)) (pv 4)) (am jq aA (am aZ (am bj (pv 1) ag) ag))) ab)))))))
  (ae (ax (bi RW SO SN eC aA (aa (pv 2) ab)))))),?_⟩
 try dsimp only [Ar,Ac]
 refine ⟨aj (by show 0<=1000000;decide),fun fl Et=>?_⟩;have s1:L2.Same H (upd H fl (.lst [])):=ai Et _;have e1:(upd H fl (.lst [])) fl=some (.lst (([]:List (List Nat)).map fun r=>V.str (ofL r))):=ac;generalize (upd H fl (.lst []))=H1 at s1 e1 ⊢;dsimp only [aG];refine ⟨_,rfl,rl,_,rfl,.inl (SqL.of (s1 _ _ er)),_,rfl,by omega,by rw [Q0];omega,?_⟩
 refine bK (n:=(((rs.map V.str).length:Nat):Int).toNat) (fun i σ H2=>Ex5 fun (cc:Int) (c3 c4 c5:Option V) (R:List (List Nat))=>An4 (σ=[some (.ref rl),some (.int cc),some (.ref fl),c3,c4,c5]) (L2.Same H H2) (H2 fl=some (.lst (R.map fun r=>V.str (ofL r)))) (R3 (fun (i:Nat) r'=>∃ r,rs[i]?=some r/\WdR i (sL r) r') (Sn i) R))
  ⟨c,none,none,none,[],rfl,s1,e1,.nil⟩ ?_ ?_
 · rintro i σ H2 hi ⟨cc,c3,c4,c5,R,rfl,s2,e2,hR⟩
   have Bb:i<rs.length:=by
    have h1:i<(((rs.map V.str).length:Nat):Int).toNat:=hi;rw [Q0] at h1;omega
   have Cb:(Sn i).length=R.length:=Rx hR;rw [TJ] at Cb;obtain ⟨r,AV⟩:∃ r,rs[i]?=some r:=⟨_,Q1 Bb⟩;have P':=Ep r (Rb AV);dsimp only [aG];refine ⟨_,rfl,_,rfl,rl,_,_,.str r,rfl,rfl,SqL.of (s2 _ _ er),at_nonneg (by omega) (by rw [show (0+(i:Int)).toNat=i by omega,Rg,AV];rfl),r,rfl,?_⟩;obtain ⟨pk,C5⟩:∃ pk:Nat->Bool,pk=if 1<i then sgB else blB:=⟨_,rfl⟩
   refine pp r.cps.size (fun j σ H3=>Ex3 fun (cc:Int) (c5:Option V) (w:List Nat)=>An4 (σ=[some (.ref rl),some (.int cc),some (.ref fl),some (.int (0+(i:Int))),some (.str (ofL w)),c5]) (H3=H2) (Wd pk ((sL r).take j) w) (w.length<=5 * j))
    ⟨cc,c5,[],rfl,rfl,by rw [SG];exact .nil,RJ _⟩ (fun j σ H3 hj _=>hj) (fun σ H3 _=>rfl) ?_ ?_
   · rintro j x σ H3 H4 hj ⟨cc,c5,w,rfl,Ga,hw,B'⟩ ⟨M4,c,hc,rfl⟩;have hH:H4=H2:=M4.trans Ga;clear M4 Ga;subst hH;have CY:(sL r)[j]?=some c:=by unfold sL;rw [S9];exact hc
     have QX:j<4000:=by have:r.cps.size=r.length:=rfl;omega
     rw [take_snoc CY];dsimp only [aG];refine ⟨_,rfl,_,_,rfl,rfl,.inr ⟨by decide,by decide⟩,_,_,rfl,rfl,_,_,rfl,rfl,(by show (0:Int)<2147483647;decide),?_⟩;dsimp only [aG];generalize (cc * 48271+11)%2147483647=c2;have a0:=RS (c2 / 5) (show (3:Int)≠0 by decide);have a1:=RQ (c2 / 5) (show (0:Int)<3 by decide);have b0:=RS (c2 / 15) (show (3:Int)≠0 by decide);have b1:=RQ (c2 / 15) (show (0:Int)<3 by decide);refine bZ (fun b H'=>An3 (H4=H') ((b=true->pk c=true)) ((b=false->c≠32))) (fun k2 A9=>?_) (fun H' hb=>?_) (fun H' hb=>?_)
     · refine ⟨_,rfl,rfl,_,rfl,?_⟩;by_cases Ck:c=32
       · rw [decide_eq_true (show V.str ⟨#[c]⟩=V.str (QZ " ") by rw [Ck];rfl)];refine cE (A9 _ _ ⟨rfl,fun _=>?_,fun z=>by cases z⟩);rw [C5,Ck];split <;> rfl
       · rw [decide_eq_false (show ¬ V.str ⟨#[c]⟩=V.str (QZ " ") from fun z=>Ck (by
          have h1:=congrArg (fun w:Ru=>w.cps.toList) (V.str.inj z);have h2:([c]:List Nat)=[32]:=h1;exact (List.cons.inj h2).1))]
         refine bA ⟨_,rfl,_,_,rfl,rfl,_,rfl,?_⟩;by_cases Qa:1<i
         · rw [decide_eq_true (show (1:Int)<0+(i:Int) by omega)];refine cE ⟨_,rfl,_,_,rfl,rfl,_,rfl,?_⟩;refine A9 _ _ ⟨rfl,fun z=>?_,fun _=>Ck⟩;rw [wx] at z;have:=of_decide_eq_true z;rw [C5,if_pos Qa];exact decide_eq_true (by omega)
         · rw [decide_eq_false (show ¬ (1:Int)<0+(i:Int) by omega)];exact bA (A9 _ _ ⟨rfl,(fun z=>by cases z),fun _=>Ck⟩)
     · obtain ⟨rfl,hp,_⟩:=hb;refine ⟨_,rfl,_,rfl,_,_,rfl,rfl,⟨by decide,by decide⟩,_,_,rfl,rfl,(by show (0:Int)<3;decide),32,_,rfl,rfl,a0,by omega,_,_,rfl,rfl,aj (by rw [bu,bu,Sb];omega),?_⟩;refine ⟨_,rfl,_,_,rfl,rfl,aj (by rw [Rh,bu,bu,Sb];show _+1<=_;omega),?_⟩;refine ⟨_,rfl,_,_,rfl,rfl,⟨by decide,by decide⟩,_,_,rfl,rfl,(by show (0:Int)<3;decide),32,_,rfl,rfl,b0,by omega,_,_,rfl,rfl,aj (by rw [Rh,Rh,bu,bu,bu,Sb,Sb];show _+1+_<=_;omega),?_⟩;have Ea:(⟨#[c]⟩:Ru)=ofL [c]:=rfl;refine ⟨c2,some (.str ⟨#[c]⟩),w++(Ro (c2 / 5%3).toNat 32++c::Ro (c2 / 15%3).toNat 32),?_,rfl,w8 hw (hp rfl) _ _,?_⟩
       · rw [Ea,gZ,gZ,gZ];simp only [RF,Rz,RN];rfl
       · rw [Ra,Ra,Q3,Sb,Sb];omega
     · obtain ⟨rfl,_,Ck⟩:=hb;refine ⟨_,rfl,_,rfl,_,_,rfl,rfl,aj (by rw [bu];show _+1<=_;omega),?_⟩;have Ea:(⟨#[c]⟩:Ru)=ofL [c]:=rfl;refine ⟨c2,some (.str ⟨#[c]⟩),w++[c],?_,rfl,wY hw (Ck rfl),by rw [Ra,Sq];omega⟩;rw [Ea,gZ];rfl
   · rintro σ H3 ⟨cc,c5,w,rfl,Ga,hw,B'⟩;subst Ga;have Kk:r.cps.size=(sL r).length:=RD.symm;rw [Kk,SM] at hw;have BQ:(sL r).length=r.length:=gb r;have a0:=RS (cc / 3) (show (3:Int)≠0 by decide);have a1:=RQ (cc / 3) (show (0:Int)<3 by decide);have b0:=RS (cc / 9) (show (3:Int)≠0 by decide);have b1:=RQ (cc / 9) (show (0:Int)<3 by decide);refine ⟨_,rfl,.inl ⟨rfl,_,SqL.of e2⟩,_,rfl,_,_,rfl,rfl,⟨by decide,by decide⟩,_,_,rfl,rfl,(by show (0:Int)<3;decide),32,_,rfl,rfl,a0,by omega,_,rfl,_,_,rfl,rfl,aj (by rw [bu,bu,Sb];omega),?_⟩;refine ⟨_,rfl,_,_,rfl,rfl,⟨by decide,by decide⟩,_,_,rfl,rfl,(by show (0:Int)<3;decide),32,_,rfl,rfl,b0,by omega,_,_,rfl,rfl,aj (by rw [Rh,bu,bu,bu,Sb,Sb];omega),?_⟩;refine ⟨fl,_,_,rfl,rfl,e2,aF (by rw [Q0];omega),?_⟩;rw [gZ,gZ];refine ⟨cc,_,_,_,R++[Ro (cc / 3%3).toNat 32++w++Ro (cc / 9%3).toNat 32],rfl,aC s2 Et,by rw [ac,Rj];rfl,?_⟩;rw [List.range_succ];refine P2.append hR (.cons ⟨r,AV,_,_,w,by rw [RF],by rw [<- C5];exact hw,?_⟩ .nil);rw [Ra,Ra,Sb,Sb];omega
 · rintro σ H2 ⟨cc,c3,c4,c5,R,rfl,s2,e2,hR⟩;have KI:(((rs.map V.str).length:Nat):Int).toNat=rs.length:=by rw [Q0,SU]
   rw [KI] at hR;have Cb:(Sn rs.length).length=R.length:=Rx hR;rw [TJ] at Cb;have Bz:H2 fl=some (.lst ((R.map ofL).map V.str)):=by rw [e2,Tr];rfl
   refine ⟨rfl,_,rfl,eS,fl,R.map ofL,rfl,rfl,SqL.of Bz,?_,kq R H2 s2 hR⟩
   have DD:∀ x∈R.map ofL,x.length<=20004:=fun x hx=>by
    obtain ⟨r',AV,rfl⟩:=Sl.mp hx;obtain ⟨y,hy⟩:=RZ.mp AV;obtain ⟨y',_,r,h1,_,_,_,_,_,h2⟩:=P2.get' hR hy;have h3:=Ep r (Rb h1);rw [gb] at h2;rw [bu];omega
   have h1:=jO DD;rw [Q0] at h1 ⊢;show _+R.length * 1<=_;have h2:20004 * R.length<=20004 * 200:=Sv _ (by omega);omega
theorem lF (c:Nat):∀ l:List Nat,(aR c l).flatten=l.filter fun d=>decide (d≠c)
 | []=>rfl
 | d::l=>by
   have ih:=lF c l;obtain ⟨p,r,e⟩:=cx c l;rw [aR];rw [e] at ih ⊢;rw [S2];by_cases h:d=c
   · rw [if_pos h,decide_eq_false (fun z=>z h),if_neg Rt,RR,RN];exact ih
   · rw [if_neg h,decide_eq_true h,if_pos rfl,<- ih];rfl
theorem vL (l:List Nat):(wds l).flatten=l.filter fun d=>decide (d≠32):=by
 rw [<- lF];unfold wds;generalize aR 32 l=ps;induction ps with
 | nil=>rfl
 | cons p ps ih =>
   rw [S2];cases p with
   | nil=>exact ih
   | cons d p =>
     show ((d::p)::ps.filter fun p=>!p.isEmpty).flatten=_;rw [RR,ih,RR]
theorem xz {l p:List Nat} (h:p∈wds l):1<=p.length:=by
 unfold wds at h;have:=(Vj.mp h).2;cases p with
 | nil=>cases this
 | cons d p=>rw [Q3];omega
theorem vV:∀ {L:List (List Nat)},(∀ p∈L,1<=p.length)->L.length<=(L.map Tt).sum
 | [],_=>Q8 _
 | p::L,h=>by
   have h1:=h p (Rn ..);have h2:=vV (L:=L) fun q hq=>h q (Ri _ hq);rw [Q3,Rr,Ve];omega
theorem vh {p:Nat->Bool} {l l':List Nat} (h:Wd p l l'):(l'.filter fun d=>decide (d≠32))=l.filter fun d=>decide (d≠32):=by
 have hb:∀ g:Nat,((Ro g 32).filter fun d=>decide (d≠32))=[]:=fun g=>List.filter_eq_nil_iff.mpr fun d hd=>by rw [Ul hd];decide
 induction h with
 | nil=>rfl
 | ch hc _ ih=>rw [S2,S2,ih]
 | gap hc _ ih =>
   rw [Vu,hb,RN,S2,Vu,hb,RN,ih,S2]
theorem zq {p:Nat->Bool} {l l':List Nat} (h:Wd p l l'):∀ c∈l',c=32∨c∈l:=by
 induction h with
 | nil=>intro c hc;cases hc
 | ch hc _ ih =>
   intro d hd;rcases Rq.mp hd with rfl | hd
   · exact .inr (Rn ..)
   · rcases ih d hd with h | h
     · exact .inl h
     · exact .inr (Ri _ h)
 | gap hc _ ih =>
   intro d hd;rcases RE.mp hd with hd | hd
   · exact .inl (Ul hd)
   · rcases Rq.mp hd with rfl | hd
     · exact .inr (Rn ..)
     · rcases RE.mp hd with hd | hd
       · exact .inl (Ul hd)
       · rcases ih d hd with h | h
         · exact .inl h
         · exact .inr (Ri _ h)
theorem oP {p:Nat->Bool} (hp:p 32=true):∀ l:List Nat,Wd p l l
 | []=>.nil
 | c::l=>by
   by_cases h:c=32
   · have:=Wd.gap (c:=c) (g:=0) (h:=0) (p:=p) (by rw [h];exact hp) (oP hp l);exact this
   · exact .ch h (oP hp l)
mutual
theorem t9:∀ {t:Th},t.Rd->∀ c∈t.cP,40<=c/\c≠47
 | .call s k,h,c,hc=>by
   rw [Th.Rd] at h;rw [Th.cP] at hc;rcases Rq.mp hc with rfl | hc
   · omega
   · rcases Rq.mp hc with rfl | hc
     · omega
     · rw [RH.mp hc];omega
 | .knot n ts,h,c,hc=>by
   rw [Th.Rd] at h;rw [Th.cP] at hc;rcases RE.mp hc with hc | hc
   · have:=h.1.1 c hc;omega
   · by_cases hz:ts=[]
     · rw [if_pos hz] at hc;cases hc
     · rw [if_neg hz] at hc;rcases Rq.mp hc with rfl | hc
       · omega
       · rcases RE.mp hc with hc | hc
         · exact vC h.2.2 c hc
         · rw [RH.mp hc];omega
theorem vC:∀ {ts:List Th},Rds ts->∀ c∈cPs ts,40<=c/\c≠47
 | [],_,c,hc=>by rw [cPs] at hc;cases hc
 | t::ts,h,c,hc=>by
   rw [Rds] at h;rw [cPs] at hc;rcases RE.mp hc with hc | hc
   · exact t9 h.1 c hc
   · by_cases hz:ts=[]
     · rw [if_pos hz] at hc;cases hc
     · rw [if_neg hz] at hc;rcases Rq.mp hc with rfl | hc
       · omega
       · exact vC h.2 c hc
end
mutual
theorem wA:∀ {t:Th},t.Rd->t.cP.length+1<=11 * t.size/\1<=t.cP.length
 | .call s k,h=>by rw [Th.cP,Th.size];exact ⟨by show 3+1<=11;omega,by show 1<=3;omega⟩
 | .knot n ts,h=>by
   rw [Th.Rd] at h;have hl:(sL n).length=n.length:=gb n;have h0:=h.1.2;rw [Th.cP,Th.size,Ra];by_cases hz:ts=[]
   · rw [if_pos hz,Te];exact ⟨by omega,by omega⟩
   · rw [if_neg hz,Q3,Ra,Sq];have:=t4 h.2.2;exact ⟨by omega,by omega⟩
theorem t4:∀ {ts:List Th},Rds ts->(cPs ts).length<=11 * ay ts
 | [],_=>by rw [cPs];exact RJ _
 | t::ts,h=>by
   rw [Rds] at h;have h1:=wA h.1;have h2:=t4 h.2;rw [cPs,ay,Ra];by_cases hz:ts=[]
   · rw [if_pos hz,Te];omega
   · rw [if_neg hz,Q3];omega
end
theorem yj {t:Th} {l':List Nat} (C4:t.Rd) (AI:t.tall<=4) (hsz:t.size<=256) (w:Wd sgB t.cP l'):sW ((wds l').map ofL) t:=by
 have hid:((wds l').map ofL).map sL=wds l':=by
  rw [Tr]
  conv=>rhs;rw [<- List.map_id (wds l')]
  exact TQ fun x _=>aM x
 have Et:=vL l';rw [vh w] at Et;have Ai:(t.cP.filter fun d=>decide (d≠32))=t.cP:=List.filter_eq_self.mpr fun c hc=>decide_eq_true (by have:=t9 C4 c hc;omega);rw [Ai] at Et;obtain ⟨c1,c2⟩:=wA C4;have DD:((wds l').map Tt).sum=t.cP.length:=by rw [<- List.length_flatten,Et]
 have Qb:=vV fun p hp=>xz (l:=l') hp;refine ⟨?_,C4,by omega,by omega,?_,fun z=>?_⟩
 · rw [hid,yG,w.W4,aab C4]
 · have e:((wds l').map ofL).map (·.length)=(wds l').map Tt:=by
    rw [Tr];exact TQ fun x _=>bu x
   rw [e,DD,Q0];omega
 · have:wds l'=[]:=List.map_eq_nil_iff.mp z;rw [this] at DD;have:(0:Nat)=t.cP.length:=DD;omega
mutual
theorem nU {outs:List (Ru×Int)} {S C:Int} (g:GK outs) (hS:S<=10) (hC:C<=10):∀ {t:Th},t.FitS outs S C->t.Rd
 | .call s k,h=>by rw [Th.FitS] at h;rw [Th.Rd];exact ⟨h.1,by omega,h.2.2.1,by omega⟩
 | .knot n ts,h=>by
   rw [Th.FitS] at h;rw [Th.Rd];exact ⟨g.2.1 _ h.1,(g.1.low _ h.1).2,wQ g hS hC h.2⟩
theorem wQ {outs:List (Ru×Int)} {S C:Int} (g:GK outs) (hS:S<=10) (hC:C<=10):∀ {ts:List Th},FitSs outs S C ts->Rds ts
 | [],_=>by rw [Rds];trivial
 | t::ts,h=>by
   rw [FitSs] at h;rw [Rds];exact ⟨nU g hS hC h.1,wQ g hS hC h.2⟩
end
mutual
theorem lA {outs:List (Ru×Int)} {S C:Int} (hS:S<=20) (hC:C<=3):∀ {t:Th},t.FitS outs S C->t.FitP outs
 | .call s k,h=>by rw [Th.FitS] at h;rw [Th.FitP];exact ⟨h.1,by omega,h.2.2.1,by omega⟩
 | .knot n ts,h=>by
   rw [Th.FitS] at h;rw [Th.FitP];exact ⟨h.1,rc hS hC h.2⟩
theorem rc {outs:List (Ru×Int)} {S C:Int} (hS:S<=20) (hC:C<=3):∀ {ts:List Th},FitSs outs S C ts->FitPs outs ts
 | [],_=>by rw [FitPs];trivial
 | t::ts,h=>by
   rw [FitSs] at h;rw [FitPs];exact ⟨lA hS hC h.1,rc hS hC h.2⟩
end
mutual
theorem cn3 {outs:List (Ru×Int)} {S C:Int} (g:ce outs):∀ {t:Th},t.FitS outs S C->cnT t<=3 ^ t.tall/\t.kn<=t.size
 | .call s k,_=>by rw [cnT,Th.tall,Th.kn,Th.size];exact ⟨by decide,by omega⟩
 | .knot n ts,h=>by
   rw [Th.FitS] at h;obtain ⟨h1,h2⟩:=aaw g h.2;have hn:=(g.num _ h.1).2;rw [cnT,Th.tall,Th.kn,Th.size];refine ⟨?_,by omega⟩;have h3:ts.length * 3 ^ bd ts<=3 * 3 ^ bd ts:=SW _ (by omega);rw [Nat.pow_succ,Vq];omega
theorem aaw {outs:List (Ru×Int)} {S C:Int} (g:ce outs):∀ {ts:List Th},FitSs outs S C ts->d8 ts<=ts.length * 3 ^ bd ts/\kns ts<=ay ts
 | [],_=>by rw [d8,kns];exact ⟨RJ _,RJ _⟩
 | t::ts,h=>by
   rw [FitSs] at h;obtain ⟨h1,h2⟩:=cn3 g h.1;obtain ⟨h3,h4⟩:=aaw g h.2;rw [d8,kns,ay,bd,Q3,Ud];have h5:3 ^ t.tall<=3 ^ (max t.tall (bd ts)):=Tg (by decide) (Nat.le_max_left ..);have h6:3 ^ bd ts<=3 ^ (max t.tall (bd ts)):=Tg (by decide) (Nat.le_max_right ..);have h7:ts.length * 3 ^ bd ts<=ts.length * 3 ^ (max t.tall (bd ts)):=Sv _ h6;exact ⟨by omega,by omega⟩
end
theorem jB {outs:List (Ru×Int)} {S C:Int} (g:GK outs) (hS:S<=20) (hC:C<=3) {t:Th} (h:t.FitS outs S C) (ht:t.tall<=4):og outs S C t/\t.size<=256:=by
 obtain ⟨h1,h2⟩:=cn3 g.1 h;have h3:=fJ g.1 (lA hS hC h);have h4:4 ^ t.tall<=4 ^ 4:=Tg (by decide) ht;have h5:3 ^ t.tall<=3 ^ 4:=Tg (by decide) ht;have h6:(4:Nat) ^ 4=256:=by decide
 have h7:(3:Nat) ^ 4=81:=by decide
 exact ⟨⟨⟨by omega,by omega,by omega⟩,qT g.2.2 h⟩,by omega⟩
theorem fh {ks:List (Ru×Int)} (g:GK ks):cy ks=true/\∀ k∈ks,pG k:=by
 have hk:∀ k∈ks,bP k.1=true/\0<=k.2/\k.2<=3:=fun k hk=>⟨nE (g.2.1 k hk) (g.1.low k hk).2,(g.1.num k hk).1,(g.1.num k hk).2⟩;refine ⟨?_,fun k h=>⟨(hk k h).1,(hk k h).2.1,by have:=(hk k h).2.2;omega⟩⟩;unfold cy;have h1:=g.1.ne;have h2:=g.1.le;obtain ⟨k0,CF,hz⟩:=g.1.zero;rw [decide_eq_true (show 1<=ks.length/\ks.length<=8 from ⟨h1,by omega⟩),decide_eq_true g.2.2,decide_eq_true (Sl.mpr ⟨k0,CF,hz⟩),UW,Bool.and_true,Bool.and_true,TB];intro k CB;unfold cD;rw [(hk k CB).1,decide_eq_true (show 0<=k.2/\k.2<4 from ⟨(hk k CB).2.1,by have:=(hk k CB).2.2;omega⟩)];rfl
theorem uv {ins outs:List (Ru×Int)} {head:Th} {rows:List (List Th)} (B:nn ins outs head rows):kj ins outs head rows:=by
 have hf:=B.few;refine ⟨B.gi.1,B.go.1,by omega,fun row Ae=>?_,lA (by omega) (by decide) B.hd.1,B.hd.2⟩;obtain ⟨h1,h2⟩:=B.row row Ae;refine ⟨h1,fun t ht=>?_⟩;obtain ⟨j,hj⟩:=RZ.mp ht;have IL:=(Rm.mp hj).1;obtain ⟨k,hk⟩:∃ k,ins[j]?=some k:=⟨_,Q1 (by omega)⟩;have h3:=h2 j t k hj hk;exact ⟨lA (by omega) (B.gi.1.num k (Rb hk)).2 h3.1,h3.2⟩
theorem xq {ins outs:List (Ru×Int)} {head:Th} {rows:List (List Th)} (B:nn ins outs head rows):sF ins outs head rows:=by
 have hf:=B.few;refine ⟨by omega,(jB B.go (by omega) (by decide) B.hd.1 B.hd.2).1,fun row Ae=>?_⟩;obtain ⟨h1,h2⟩:=B.row row Ae;refine ⟨h1,fun j t k ht hk=>?_⟩;have h3:=h2 j t k ht hk;exact (jB B.go (by omega) (B.gi.1.num k (Rb hk)).2 h3.1 h3.2).1
def jL:List (List Nat)->List Nat
 | []=>[]
 | [x]=>x
 | x::y::r=>x++10::jL (y::r)
theorem wc:sL eS=[10]:=by decide +kernel
theorem xr:∀ ws:List Ru,sL (R8 eS ws)=jL (ws.map sL):=by
 intro ws;have h1:R8 eS ws=UH eS ws:=PySem.StrLaws.glued_eq_join _ _;rw [h1];clear h1;induction ws with
 | nil=>rfl
 | cons x ws ih =>
   rw [join_cons];cases ws with
   | nil=>rw [if_pos rfl];rfl
   | cons y ws =>
     rw [if_neg (by simp),d6,d6,ih,wc,RF];rfl
theorem qO:∀ {ls:List (List Nat)},ls≠[]->(∀ l∈ls,∀ c∈l,c≠10)->aR 10 (jL ls)=ls
 | [],h,_=>absurd rfl h
 | [x],_,h=>by rw [jL,eA 10 x (h x (Rn ..))]
 | x::y::r,_,h=>by
   rw [jL,i6,eA 10 x (h x (Rn ..)),qO (by simp) fun l hl=>h l (Ri _ hl)];rfl
theorem wW:∀ ls:List (List Nat),(jL ls).length<=(ls.map (·.length)).sum+ls.length
 | []=>RJ _
 | [x]=>by rw [jL];show x.length<=x.length+0+1;omega
 | x::y::r=>by
   have ih:=wW (y::r);rw [jL,Ra,Q3,Rr,Ve,Q3];omega
theorem xO {ws:List Ru} (h:∀ w∈ws,(∀ c∈sL w,c≠32)/\sL w≠[]):wds (jn (ws.map sL))=ws.map sL:=by
 rw [ww,Tr];induction ws with
 | nil=>rfl
 | cons w ws ih =>
   obtain ⟨h1,h2⟩:=h w (Rn ..);rw [Rr,RR,ih fun v hv=>h v (Ri _ hv),Rr];show wds (sL w)++_=_;rw [md h1 h2];rfl
theorem qC {α:Type} {n:Nat}:∀ {L:List (List α)} {s j:Nat} {l:List α} {x:α},(∀ l∈L,l.length=n)->L[s]?=some l->l[j]?=some x->L.flatten[s * n+j]?=some x
 | [],s,j,l,x,_,h,_=>by cases h
 | l0::L,0,j,l,x,hn,h,hx=>by
   cases h;rw [Nat.zero_mul,UJ,RR,T6 (Rm.mp hx).1];exact hx
 | l0::L,s+1,j,l,x,hn,h,hx=>by
   have h0:=hn l0 (Rn ..);have ih:=qC (L:=L) (s:=s) (j:=j) (fun l hl=>hn l (Ri _ hl)) (by simpa using h) hx;rw [RR,Ud,Ts (by omega),show s * n+n+j - l0.length=s * n+j by omega];exact ih
theorem nK {α:Type} {n:Nat}:∀ {L:List (List α)},(∀ l∈L,l.length=n)->L.flatten.length=L.length * n
 | [],_=>by rw [VO,Te,Te,Nat.zero_mul]
 | l::L,h=>by
   rw [RR,Ra,h l (Rn ..),nK fun m hm=>h m (Ri _ hm),Q3,Ud];omega
section
variable {ins outs:List (Ru×Int)} {head:Th} {rows:List (List Th)}
theorem nS (B:nn ins outs head rows):(b7 ins rows rows.length).length=rows.length * ins.length:=by
 unfold b7;rw [R0 (by rw [Wy];exact Q8 _)]
 have:=nK (n:=ins.length) (L:=(rows.zipIdx).map fun z=>eI ins (z.2:Nat) z.1) fun l hl=>by
  obtain ⟨z,hz,rfl⟩:=Sl.mp hl
  have hm:z.1∈rows:=by
   obtain ⟨i,hi⟩:=RZ.mp hz;rw [Wb,Tq] at hi;obtain ⟨a,ha,e⟩:=hi;rw [<- e];exact Rb ha
  unfold eI;rw [Q0,UY,(B.row _ hm).1,Nat.min_self]
 rw [this,Q0,Wy]
theorem ou (B:nn ins outs head rows) {s j:Nat} {row:List Th} {t:Th} {k:Ru×Int} (hr:rows[s]?=some row) (ht:row[j]?=some t) (hk:ins[j]?=some k):(b7 ins rows rows.length)[s * ins.length+j]?=some (d9 (s:Nat) k.1 t):=by
 unfold b7;rw [R0 (by rw [Wy];exact Q8 _)];refine qC (n:=ins.length) (l:=eI ins (s:Nat) row) (fun l hl=>?_) ?_ ?_
 · obtain ⟨z,hz,rfl⟩:=Sl.mp hl
   have hm:z.1∈rows:=by
    obtain ⟨i,hi⟩:=RZ.mp hz;rw [Wb,Tq] at hi;obtain ⟨a,ha,e⟩:=hi;rw [<- e];exact Rb ha
   unfold eI;rw [Q0,UY,(B.row _ hm).1,Nat.min_self]
 · rw [Rg,zipIdx_get hr];rfl
 · unfold eI;rw [Rg,show (ins.zip row)[j]?=some (k,t) from T5.mpr ⟨hk,ht⟩];rfl
theorem rN {t:Th} (h:t.Rd):sL (di t)=sL (QZ "head")++32::t.cP:=by
 unfold di;rw [d6,t8 h,show sL (QZ "head ")=sL (QZ "head")++[32] by decide +kernel,RF];rfl
theorem qB {st:Int} {n:Ru} {t:Th} (h:t.Rd):sL (d9 st n t)=sL (QZ "rule")++32::(sL (aJ st)++32::(sL n++32::t.cP)):=by
 unfold d9;rw [d6,d6,d6,d6,d6,t8 h,show sL (QZ "rule ")=sL (QZ "rule")++[32] by decide +kernel,show sL blank=[32] by decide +kernel];simp only [RF,Rz,RN]
theorem nY (w:Ru) (ks:List (Ru×Int)):sL (aP w ks)=jn ((w::ks.map aY).map sL):=lB _
theorem nG {k:Ru×Int} (h:pG k):(∀ c∈sL (aY k),47<=c)/\sL (aY k)≠[]:=by
 rw [qG h];refine ⟨fun c hc=>?_,by simp⟩;rcases RE.mp hc with hc | hc
 · have:=(fE h.1).1 c hc;omega
 · rcases Rq.mp hc with rfl | hc
   · exact Q8 _
   · rw [cr h.2.1 h.2.2] at hc;rw [RH.mp hc];omega
theorem uw {ws:List Ru}:(ws.map sL).map ofL=ws:=by
 rw [Tr]
 conv=>rhs;rw [<- List.map_id ws]
 exact TQ fun x _=>dN x
theorem nT {i:Nat} (hi:¬ 1<i) {w:Ru} (hw:(∀ c∈sL w,47<=c)/\sL w≠[]) {ks:List (Ru×Int)} (hk:∀ k∈ks,pG k) {r':List Nat} (h:WdR i (sL (aP w ks)) r'):ie r'=w::ks.map aY:=by
 obtain ⟨x,y,u,rfl,hu,_⟩:=h;rw [if_neg hi] at hu;unfold ie;rw [cW,lz,hu.wds,nY,xO,uw];intro v hv
 have B7:(∀ c∈sL v,47<=c)/\sL v≠[]:=by
  rcases Rq.mp hv with rfl | hv
  · exact hw
  · obtain ⟨k,CB,rfl⟩:=Sl.mp hv;exact nG (hk k CB)
 exact ⟨fun c hc=>by have:=B7.1 c hc;omega,B7.2⟩
theorem wv {i:Nat} (hi:1<i) {t:Th} (C4:t.Rd) (AI:t.tall<=4) (hsz:t.size<=256) {r':List Nat} (h:WdR i (sL (di t)) r'):∃ ws,ie r'=QZ "head"::ws/\sW ws t:=by
 obtain ⟨x,y,u,rfl,hu,_⟩:=h;rw [if_pos hi,rN C4] at hu;have B7:∀ c∈sL (QZ "head"),47<=c:=by decide +kernel
 obtain ⟨g,h,l',rfl,hw⟩:=Wd.word _ B7 hu;refine ⟨_,?_,yj C4 AI hsz hw⟩;unfold ie;rw [cW,lz,jE B7 (by decide +kernel),Rr,show ofL (sL (QZ "head"))=QZ "head" from dN _]
theorem wq {i:Nat} (hi:1<i) {st:Int} (s0:0<=st) (s1:st<10) {n:Ru} (hn:okW n) {t:Th} (C4:t.Rd) (AI:t.tall<=4) (hsz:t.size<=256) {r':List Nat} (h:WdR i (sL (d9 st n t)) r'):∃ ws,ie r'=QZ "rule"::aJ st::n::ws/\sW ws t:=by
 obtain ⟨x,y,u,rfl,hu,_⟩:=h;rw [if_pos hi,qB C4] at hu;have B7:∀ c∈sL (QZ "rule"),47<=c:=by decide +kernel
 have M5:∀ c∈sL (aJ st),47<=c:=fun c hc=>by rw [cr s0 s1] at hc;rw [RH.mp hc];omega
 have Qc:sL (aJ st)≠[]:=by rw [cr s0 s1];simp
 refine hid fun ZZ kZ=>?_;obtain ⟨M6,Qd⟩:=sN hn;obtain ⟨g,h,l1,rfl,Qe⟩:=Wd.word _ B7 hu;obtain ⟨g2,h2,l2,rfl,E5⟩:=Wd.word _ M5 Qe;obtain ⟨g3,h3,l3,rfl,Qf⟩:=Wd.word _ M6 E5;refine kZ ?_;refine ⟨_,?_,yj C4 AI hsz Qf⟩;unfold ie;rw [cW,lz,jE B7 (by decide +kernel),jE M5 Qc,jE M6 Qd,Rr,Rr,Rr,show ofL (sL (QZ "rule"))=QZ "rule" from dN _,show ofL (sL (aJ st))=aJ st from dN _,show ofL (sL n)=n from dN _]
theorem vG {ws:List Ru} (h:∀ w∈ws,∀ c∈sL w,47<=c):∀ c∈jn (ws.map sL),c≠10:=fun c hc=>by
 rcases wF hc with rfl | ⟨l,hl,Bi⟩
 · decide
 · obtain ⟨w,hw,rfl⟩:=Sl.mp hl;have:=h w hw c Bi;omega
end
section
variable {ins outs:List (Ru×Int)} {head:Th} {rows:List (List Th)}
theorem g9 (B:nn ins outs head rows) {s j:Nat} {row:List Th} {t:Th} {k:Ru×Int} (hr:rows[s]?=some row) (ht:row[j]?=some t) (hk:ins[j]?=some k):t.Rd/\t.tall<=4/\t.size<=256:=by
 have hf:=B.few;have h3:=(B.row row (Rb hr)).2 j t k ht hk;have hn:=(B.gi.1.num k (Rb hk)).2;exact ⟨nU B.go (by omega) (by omega) h3.1,h3.2,(jB B.go (by omega) hn h3.1 h3.2).2⟩
theorem iW (B:nn ins outs head rows):head.Rd/\head.tall<=4/\head.size<=256:=by
 have hf:=B.few;exact ⟨nU B.go (by omega) (by decide) B.hd.1,B.hd.2,(jB B.go (by omega) (by decide) B.hd.1 B.hd.2).2⟩
theorem xN (B:nn ins outs head rows):∀ x∈cH ins outs head rows,∀ c∈sL x,c≠10:=by
 refine hid fun ZZ kZ=>?_;obtain ⟨Hw,Hz⟩:=fh B.gi;obtain ⟨HA,go2⟩:=fh B.go;obtain ⟨BU,hd2,M7⟩:=iW B;refine kZ ?_;have BD:∀ c∈sL (QZ "in"),47<=c:=by decide +kernel
 have Lf:∀ c∈sL (QZ "out"),47<=c:=by decide +kernel
 have En:∀ (w:Ru) (ks:List (Ru×Int)),(∀ c∈sL w,47<=c)->(∀ k∈ks,pG k)->∀ c∈sL (aP w ks),c≠10:=fun w ks hw hk=>by
  rw [nY];refine vG fun v hv=>?_;rcases Rq.mp hv with rfl | hv
  · exact hw
  · obtain ⟨k,CB,rfl⟩:=Sl.mp hv;exact (nG (hk k CB)).1
 intro x hx;unfold cH at hx;rcases RE.mp hx with hx | hx
 · rcases Rq.mp hx with rfl | hx
   · exact En _ _ BD Hz
   · rcases Rq.mp hx with rfl | hx
     · exact En _ _ Lf go2
     · rw [RH.mp hx,rN BU];intro c hc;rcases RE.mp hc with hc | hc
       · have:=(show ∀ c∈sL (QZ "head"),47<=c by decide +kernel) c hc;omega
       · rcases Rq.mp hc with rfl | hc
         · decide
         · have:=(t9 BU c hc).1;omega
 · refine hid fun ZZ kZ=>?_;obtain ⟨i,hi⟩:=RZ.mp hx;have A':=(Rm.mp hi).1;rw [nS B] at A';have hf:=B.few;have Jv:0<ins.length:=by have:=B.gi.1.ne;omega
   have hs:i / ins.length<rows.length:=Nat.div_lt_of_lt_mul (by rw [Vq];exact A');have hj:i%ins.length<ins.length:=Nat.mod_lt _ Jv;obtain ⟨row,Ae⟩:∃ row,rows[i / ins.length]?=some row:=⟨_,Q1 hs⟩;have BQ:=(B.row row (Rb Ae)).1;obtain ⟨t,ht⟩:∃ t,row[i%ins.length]?=some t:=⟨_,Q1 (by omega)⟩;obtain ⟨k,hk⟩:∃ k,ins[i%ins.length]?=some k:=⟨_,Q1 hj⟩;refine kZ ?_;have hg:=ou B Ae ht hk;have KL:i / ins.length * ins.length+i%ins.length=i:=by rw [Vq];exact Nat.div_add_mod i ins.length
   rw [KL,hi] at hg;rw [RI hg];obtain ⟨r1,r2,r3⟩:=g9 B Ae ht hk;rw [qB r1];intro c hc;rcases RE.mp hc with hc | hc
   · have:=(show ∀ c∈sL (QZ "rule"),47<=c by decide +kernel) c hc;omega
   · rcases Rq.mp hc with rfl | hc
     · decide
     · rcases RE.mp hc with hc | hc
       · rw [cr (Int.natCast_nonneg _) (Int.ofNat_lt.mpr (RU hs (Sw hf (by decide))))] at hc;rw [RH.mp hc];omega
       · rcases Rq.mp hc with rfl | hc
         · decide
         · rcases RE.mp hc with hc | hc
           · have:=(sN (B.gi.2.1 k (Rb hk))).1 c hc;omega
           · rcases Rq.mp hc with rfl | hc
             · decide
             · have:=(t9 r1 c hc).1;omega
theorem yb {i:Nat} {l l':List Nat} (h:WdR i l l') (hl:∀ c∈l,c≠10):∀ c∈l',c≠10:=by
 obtain ⟨x,y,u,rfl,hu,_⟩:=h;intro c hc;rcases RE.mp hc with hc | hc
 · rw [Ul hc];decide
 · rcases RE.mp hc with hc | hc
   · rcases zq hu c hc with rfl | h
     · decide
     · exact hl c h
   · rw [Ul hc];decide
theorem wH (i:Nat) (l:List Nat):WdR i l l:=⟨0,0,l,by simp,by split <;> exact oP rfl l,by omega⟩
theorem qv (B:nn ins outs head rows) {R:List (List Nat)} (hR:R3 (fun (i:Nat) r'=>∃ r,(cH ins outs head rows)[i]?=some r/\WdR i (sL r) r') (Sn (cH ins outs head rows).length) R):∃ r0 r1 r2 rest,yE (R8 eS (R.map ofL)) ins outs head rows r0 r1 r2 rest:=by
 refine hid fun ZZ kZ=>?_;obtain ⟨Hw,Hz⟩:=fh B.gi;obtain ⟨HA,go2⟩:=fh B.go;obtain ⟨BU,hd2,M7⟩:=iW B;obtain ⟨b1,b2⟩:=j9 (uv B);refine kZ ?_;have hf:=B.few;have h6:=B.gi.1.le;have QY:=B.go.1.le;have Av:=B.gi.1.ne;have HB:=B.go.1.ne
 have hmul:rows.length * ins.length<=24:=by
  have h1:rows.length * ins.length<=4 * ins.length:=SW _ hf;omega
 have hlen:(cH ins outs head rows).length=rows.length * ins.length+3:=by
  unfold cH;rw [Ra,nS B];show 3+_=_;omega
 have Cb:(Sn (cH ins outs head rows).length).length=R.length:=Rx hR;rw [TJ,hlen] at Cb
 have Au:∀ (i:Nat) (r':List Nat),R[i]?=some r'->∃ r,(cH ins outs head rows)[i]?=some r/\WdR i (sL r) r':=fun i r' h=>by
  obtain ⟨i',Bb,r,e1,e2⟩:=P2.get' hR h;have A':=(Rm.mp h).1;rw [UO (by omega)] at Bb;cases Bb;exact ⟨r,e1,e2⟩
 have CH:∀ r'∈R,r'.length<=20004:=fun r' AV=>by
  obtain ⟨i,hi⟩:=RZ.mp AV;obtain ⟨r,h1,_,_,_,_,_,h2⟩:=Au i r' hi;have h3:=b2 r (Rb h1);rw [gb] at h2;omega
 have Fm:∀ l∈R,∀ c∈l,c≠10:=fun l hl=>by
  obtain ⟨i,hi⟩:=RZ.mp hl;obtain ⟨r,h1,h2⟩:=Au i l hi;exact yb h2 (xN B r (Rb h1))
 have Qg:(R.map ofL).map sL=R:=by
  rw [Tr]
  conv=>rhs;rw [<- List.map_id R]
  exact TQ fun x _=>aM x
 have DM:sL (R8 eS (R.map ofL))=jL R:=by rw [xr,Qg]
 match R,Cb,Au,CH,Fm,DM with
 | r0::r1::r2::rest,Cb,Au,CH,Fm,DM =>
   have BQ:rest.length=rows.length * ins.length:=by
    rw [Q3,Q3,Q3] at Cb;omega
   refine hid fun ZZ kZ=>?_;obtain ⟨x0,e0,w0⟩:=Au 0 r0 rfl;obtain ⟨x1,e1,w1⟩:=Au 1 r1 rfl;obtain ⟨x2,e2,w2⟩:=Au 2 r2 rfl;refine kZ ?_;cases e0;cases e1;cases e2;refine ⟨r0,r1,r2,rest,?_,?_,(fun r hr=>by have:=CH r hr;omega),by omega,nT (by decide) (by decide +kernel) Hz w0,nT (by decide) (by decide +kernel) go2 w1,wv (by decide) BU hd2 M7 w2,?_,Hz,go2,by omega,by omega,(fun z=>by rw [z] at Av;cases Av),(fun z=>by rw [z] at HB;cases HB),fun row Ae t ht=>?_⟩
   · rw [DM];exact qO (by simp) Fm
   · rw [<- gb,DM];have h1:=wW (r0::r1::r2::rest)
     have h2:∀ L:List (List Nat),(∀ l∈L,l.length<=20004)->(L.map (·.length)).sum<=20004 * L.length:=fun L=>by
      induction L with
      | nil=>exact fun _=>Q8 _
      | cons l L ih =>
        intro h;have h3:=h l (Rn ..);have h4:=ih fun m hm=>h m (Ri _ hm);rw [Rr,Ve,Q3,VU];omega
     have h3:=h2 _ CH;rw [<- Cb] at h1 h3;have h4:20004 * (rows.length * ins.length+3)<=20004 * 27:=Sv _ (by omega);omega
   · refine ⟨by rw [Q0,BQ],fun row Ae=>(B.row row Ae).1,by omega,fun s j row t k hr ht hk=>?_⟩;have DM:=(Rm.mp hr).1;have IL:=(Rm.mp hk).1
     have Ax:s * ins.length+j<rest.length:=by
      have:(s+1) * ins.length<=rows.length * ins.length:=SW _ DM;rw [Ud] at this;omega
     refine hid fun ZZ kZ=>?_;obtain ⟨r',AV⟩:∃ r',rest[s * ins.length+j]?=some r':=⟨_,Q1 Ax⟩;obtain ⟨r,h1,h2⟩:=Au (s * ins.length+j+3) r' AV;have h3:(cH ins outs head rows)[s * ins.length+j+3]?=some (d9 (s:Nat) k.1 t):=ou B hr ht hk;rw [h1] at h3;rw [RI h3] at h2;obtain ⟨f1,f2,f3⟩:=g9 B hr ht hk;obtain ⟨ws,h4,h5⟩:=wq (by omega) (by omega) (by omega) (B.gi.2.1 k (Rb hk)) f1 f2 f3 h2;refine kZ ?_;exact ⟨ws,by rw [Rg,AV,Vh,h4],h5⟩
   · refine hid fun ZZ kZ=>?_;obtain ⟨s,hs⟩:=RZ.mp Ae;obtain ⟨j,hj⟩:=RZ.mp ht;have IL:=(Rm.mp hj).1;have:=(B.row row Ae).1;obtain ⟨k,hk⟩:∃ k,ins[j]?=some k:=⟨_,Q1 (by omega)⟩;refine kZ ?_;have:=(g9 B hs hj hk).2.2;omega
 | [],Cb,_,_,_,_=>exact absurd Cb (by simp)
 | [_],Cb,_,_,_,_=>exact absurd Cb (by simp)
 | [_,_],Cb,_,_,_,_=>exact absurd Cb (by simp)
end
theorem mN:∀ ks:List (Ru×Int),du (ks.map kDv)=3 * ks.length
 | []=>rfl
 | k::ks=>by
   rw [Rr,du,mN ks,kDv,Dv.tot,du,du,du,Dv.tot,Dv.tot,Q3];omega
theorem oz {B:Nat}:∀ {rows:List (List Th)},(∀ row∈rows,du (dvs row)<=B)->du (gf rows)<=(B+1) * rows.length
 | [],_=>RJ _
 | row::rows,h=>by
   have h1:=h row (Rn ..);have h2:=oz (rows:=rows) fun r hr=>h r (Ri _ hr);show (Dv.tup (dvs row)).tot+du (gf rows)<=_;rw [Dv.tot,Q3,VU];omega
theorem qM {B:Nat}:∀ {ts:List Th},(∀ t∈ts,t.size<=B)->ay ts<=B * ts.length
 | [],_=>RJ _
 | t::ts,h=>by
   have h1:=h t (Rn ..);have h2:=qM (ts:=ts) fun u hu=>h u (Ri _ hu);rw [ay,Q3,VU];omega
theorem wS {ins outs:List (Ru×Int)} {head:Th} {rows:List (List Th)} (B:nn ins outs head rows):(Dv.tup (fA ins outs head rows)).tot<=1000000:=by
 have hf:=B.few;have h1:=B.gi.1.le;have h2:=B.go.1.le;obtain ⟨_,_,d3⟩:=iW B;have h3:=head.dv_tot
 have h4:du (gf rows)<=(6144+1) * rows.length:=oz fun row Ae=>by
  obtain ⟨s,hs⟩:=RZ.mp Ae;have hl:=(B.row row Ae).1
  have h5:ay row<=256 * row.length:=qM fun t ht=>by
   obtain ⟨j,hj⟩:=RZ.mp ht;have IL:=(Rm.mp hj).1;obtain ⟨k,hk⟩:∃ k,ins[j]?=some k:=⟨_,Q1 (by omega)⟩;exact (g9 B hs hj hk).2.2
  have h6:=pS row;omega
 rw [Dv.tot,fA,du,du,du,du,du,Dv.tot,Dv.tot,Dv.tot,mN,mN];have h7:6145 * rows.length<=6145 * 4:=Sv _ hf;omega
inductive ui (K:Q4) (vs:List V) (H:Hp) (Q:VK) (_E:XK):Prop
 | mk (a:Q7) (ns:List Int) (Aj:vs=[.ref a]) (Ak:SqL K H a (ns.map V.int)) (An:ns.length<=63) (Az:∀ H',Q (.bl true) H'):ui K vs H Q _E
def ph (K:Q4):Sp:=ui K
set_option maxHeartbeats 2000000 in
theorem zo:aV P w K mg base CX0 60 T.g_law.f T.g_law.d ["script"] (ph K):=by
 refine T.g_law.F.ok pM (fun vs H Q E h=>?_) (fun Ag A outer s H vs Q E hr h=>?_)
 · obtain ⟨a,ns,rfl,_⟩:=h;rfl
 obtain ⟨a,ns,rfl,hS,DT,k⟩:=h
 refine ⟨_,(ad (ar (i:=1) pM.nd rfl (Rp rfl) (pcF T.g__law_book (oU T) hr (aa (pv 0) (aa ag (aa ag ab)))))
  (ad (ar (i:=2) pM.nd rfl (Rp rfl) (pcF T.g__law_rows (oQ T) hr (aa (pv 1) ab)))
  (ad (ar (i:=3) pM.nd rfl (Rp rfl) (bi RW SO SN eC aA (aa (pv 2) ab)))
  (ad (aS (PW.pt (eF (ci (aQ (pcF T.g__law_same (ft T 45) hr (aa (pcF T.g_read_book (fv T) hr (aa (pv 3) ab)) (aa (pv 1) ab))) (fun _=>rfl))) (dz (aD dO (pcF T.g_shown_book (nw T) hr (aa (pcF T.g_read_book (fv T) hr (aa (pv 3) ab)) ab)) (pv 3) (aE _))))) (ae (ax gx)) aH)
  (ae (ax (pcF T.g__law_same (ft T 45) hr (aa (pcF T.g_read_book (fv T) hr (aa (pcF T.g__law_wide (qg T) hr (aa (pv 2) (aa (am aZ (pcF T.g__law_cell_at (bJ T) hr (aa (pv 0) (aa ag ab))) ag) ab))) ab)) (aa (pv 1) ab))))))))),?_⟩
 try dsimp only [Ar,Ac]
 refine ⟨_,rfl,a,ns,rfl,hS,DT,fun b ins outs head rows H1 s1 bk B=>?_⟩;dsimp only [aG];have Ec:=uv B;obtain ⟨b1,b2⟩:=j9 Ec;refine ⟨_,rfl,b,ins,outs,head,rows,rfl,bk,Ec,fun rr H2 s2 e2=>?_⟩;dsimp only [aG];refine ⟨rfl,_,rfl,eS,rr,cH ins outs head rows,rfl,rfl,SqL.of e2,ox b1 b2,?_⟩;dsimp only [aG]
 have HC:R3 (fun (i:Nat) r'=>∃ r,(cH ins outs head rows)[i]?=some r/\WdR i (sL r) r') (Sn (cH ins outs head rows).length) ((cH ins outs head rows).map sL):=lJ (by rw [TJ,Q0]) fun i x y hx hy=>by
  have A':=(Rm.mp hx).1;rw [TJ] at A';rw [UO A'] at hx;cases hx;rw [Rg,Q1 A'] at hy;cases hy;exact ⟨_,Q1 A',wH _ _⟩
 refine hid fun ZZ kZ=>?_;obtain ⟨r0,r1,r2,rest,BW⟩:=qv B HC;rw [uw] at BW;obtain ⟨Hw,Hz⟩:=fh B.gi;obtain ⟨HA,go2⟩:=fh B.go;refine kZ ?_;have Lg:=xq B
 have IZ:∀ (Hx:Hp) (x:Q7),Bk Hx ins outs head rows x->DAt Hx (.tup (fA ins outs head rows)) (.ref x):=fun Hx x hx=>by
  obtain ⟨ia,oa,ha,ra,Aq,Al,AG,hb⟩:=hx;rw [DAt];exact ⟨x,_,rfl,hb.bk,xV hb⟩
 have CG:(Dv.tup (fA ins outs head rows)).deep<=44:=by
  have h1:cn (fA ins outs head rows)<=4+2:=qo (by decide) B.hd.2 fun row Ae t ht=>((Ec.row row Ae).2 t ht).2;rw [Dv.deep];omega
 have HE:(Dv.tup (fA ins outs head rows)).tot<=1000000:=wS B;refine ⟨_,rfl,_,ins,outs,head,rows,r0,r1,r2,rest,rfl,BW,Hw,HA,Lg,fun x1 H3 s3 FI=>?_⟩;have CA:=bk.mono (Same.kt (s2.trans s3));refine ⟨_,rfl,.ref x1,.ref b,_,rfl,IZ _ _ FI,IZ _ _ CA,CG,HE,_,rfl,bA ?_⟩;refine ⟨_,rfl,_,ins,outs,head,rows,r0,r1,r2,rest,rfl,BW,Hw,HA,Lg,fun x2 H4 s4 Hg=>?_⟩;refine ⟨x2,ins,outs,head,rows,rfl,Hg,Ec,fun H5 s5=>?_⟩;refine ⟨_,rfl,rfl,_,rfl,?_⟩;rw [decide_eq_true rfl];refine bA ?_;dsimp only [eg];have M8:=s2.trans (s3.trans (s4.trans s5));have Mw:=s1.trans M8;have c0:=jW ns 3;refine ⟨_,rfl,_,rfl,a,ns,3,rfl,Mw.seq hS,by decide,_,_,rfl,rfl,(by show (0:Int)<2147483647;decide),?_⟩;refine ⟨rr,cH ins outs head rows,_,rfl,(s3.trans (s4.trans s5)) _ _ e2,by omega,b2,fun R H6 s6 hR=>?_⟩;refine hid fun ZZ kZ=>?_;obtain ⟨q0,q1,q2,qr,Qh⟩:=qv B hR;refine kZ ?_;refine ⟨_,ins,outs,head,rows,q0,q1,q2,qr,rfl,Qh,Hw,HA,Lg,fun x3 H7 s7 Qi=>?_⟩;exact ⟨_,rfl,.ref x3,.ref b,_,rfl,IZ _ _ Qi,IZ _ _ (bk.mono (Same.kt (M8.trans (s6.trans s7)))),CG,HE,k H7⟩
end
set_option maxHeartbeats 8000000 in
theorem all_mk {l:PySem.W.OpenLaw} {w:R1} {K:Q4} {h:SE} {mg:Ru->Option Q6} {fa:Q7} (X:K.In h) (G:h.Ns RK mg) (Qj:mg "law"=some (.ref fa))
 {Ad:Q7} {HF:Q7} {Lh Li:Option Q7} {Lj:Array (Option Q6)} {Lk Ll Lm Ln HG Lo:Q6} {HH:Q7} {Lp Lq:Option Q7} {Lr:Array (Option Q6)} {Ls Lu Lv Lw HI Lx:Q6} {HJ:Q7} {Ly HK:Option Q7} {Lz:Array (Option Q6)} {LA HL HM HN Fn HP:Q6} {M9:Tok} {FC:Tok} {JT:Tok} {M':Tok} {Na:Tok} {Nb:Tok} {Nc:Tok} {Nd:Tok} {Nf:Tok} {Ng:Tok} {HQ:Tok} {HR:Tok}
 (g_is_number:FX K mg "is_number" gz ["thing"])
 (g_is_below:FX K mg "is_below" i3 ["number","bound"])
 (g_is_name:FX K mg "is_name" jK ["thing"])
 (g_is_kind:FX K mg "is_kind" km ["pair"])
 (g_are_kinds:FX K mg "are_kinds" gJ ["kinds"])
 (g_kinds_of:FX K mg "kinds_of" i4 ["pairs"])
 (g_many_of:FX K mg "many_of" kh ["kinds","name"])
 (g_kids_of:FX K mg "kids_of" jJ ["thing"])
 (g_walked:FX K mg "walked" mR ["thing"])
 (g_placed:FX K mg "placed" lL ["thing"])
 (g_built:FX K mg "built" oG ["tops"])
 (g_is_call:FX K mg "is_call" kf ["thing"])
 (g_called_by:FX K mg "called_by" gE ["call"])
 (g_fits_pattern:FX K mg "fits_pattern" dX ["kinds","pattern","states","kids"])
 (g_calls_in:FX K mg "calls_in" iS ["pattern"])
 (g_top_of:FX K mg "top_of" mq ["part"])
 (g_filled:FX K mg "filled" mK ["pattern","table"])
 (g_is_small:FX K mg "is_small" iZ ["pattern"])
 (g_check_pattern:FX K mg "check_pattern" dC ["outs","pattern","states","kids"])
 (g_check_state:FX K mg "check_state" eP ["ins","outs","patterns","states"])
 (g_made_book:FX K mg "made_book" gp ["ins","outs","head","rules"])
 (g_ins_of:FX K mg "ins_of" lR ["book"])
 (g_outs_of:FX K mg "outs_of" jU ["book"])
 (g_head_of:FX K mg "head_of" j6 ["book"])
 (g_rules_of:FX K mg "rules_of" iV ["book"])
 (g_shown_knot:FX K mg "shown_knot" fu ["name","kids"])
 (g_shown_tree:FX K mg "shown_tree" fQ ["tree"])
 (g_words_of:FX K mg "words_of" iR ["text"])
 (g_shown_number:FX K mg "shown_number" d4 ["number"])
 (g_shown_call:FX K mg "shown_call" fq ["call"])
 (g_shown_pattern:FX K mg "shown_pattern" dr ["pattern"])
 (g_shown_kinds:FX K mg "shown_kinds" eN ["word","kinds"])
 (g_shown_rule:FX K mg "shown_rule" fR ["state","name","pattern"])
 (g_shown_book:FX K mg "shown_book" fF ["book"])
 (g_read_number:FX K mg "read_number" eO ["word"])
 (g_read_call:FX K mg "read_call" gP ["words"])
 (g_steps_of:FX K mg "steps_of" iM ["words"])
 (g_follows:FX K mg "follows" jI ["before","step","depth"])
 (g_tops_of:FX K mg "tops_of" jS ["steps"])
 (g_read_pattern:FX K mg "read_pattern" d2 ["words"])
 (g_read_kind:FX K mg "read_kind" gG ["word"])
 (g_read_kinds:FX K mg "read_kinds" fI ["first","words"])
 (g_read_head:FX K mg "read_head" gH ["words"])
 (g_read_rule:FX K mg "read_rule" gB ["state","name","words"])
 (g_read_rules:FX K mg "read_rules" fL ["ins","rows"])
 (g_words_in:FX K mg "words_in" iN ["row"])
 (g_read_book:FX K mg "read_book" gj ["text"])
 (g__law_cell_at:FX K mg "_law_cell_at" dQ ["script","k"])
 (g__law_name:FX K mg "_law_name" gW ["base","n"])
 (g__law_kinds:FX K mg "_law_kinds" fU ["cell"])
 (g__law_folded:FX K mg "_law_folded" eJ ["script","many"])
 (g__law_pattern:FX K mg "_law_pattern" dS ["cell","outs","states","kids","deep"])
 (g__law_digits:FX K mg "_law_digits" eQ ["own","outs","states","kids","deep"])
 (g__law_book:FX K mg "_law_book" gQ ["script","most","deep"])
 (g__law_shown:FX K mg "_law_shown" fM ["pattern"])
 (g__law_rows:FX K mg "_law_rows" gw ["book"])
 (g__law_same:FX K mg "_law_same" gF ["found","due"])
 (g__law_wide:FX K mg "_law_wide" gg ["rows","cell"])
 (on_Measure:R5 K RK "Measure"=some (some (.ref Ad)))
 (pg_Measure:Va K Ad U1=true)
 (hd_Measure:Vy K Ad=true)
 (po_Measure:WI K Ad=true)
 (sa_Measure:Sy K (.ref Ad) "__setattr__"=some (some (.builtin "object.__setattr__")))
 (mk_Measure:PySem.W.makesIn K Ad=true)
 (kc_Measure:TZ K (.ref Ad)=true)
 (na_Measure_met_knots:Sy K (.ref Ad) "met_knots"=some none)
 (na_Measure_met_calls:Sy K (.ref Ad) "met_calls"=some none)
 (a17:Sy K (.ref Ad) "__init__"=some (some (.ref HF))) (i17:VQ K (.ref HF)=true) (l17:K.lookup HF=some ⟨Lk,Lh,.func (Uc "__init__" "Measure.__init__" (bF bU) (bB bU) (ak bU) .none Ll Lm Ln Li HG Lo),Lj⟩) (c17:U3 K HG "Measure.__init__"=true) (k17:TZ K (.ref HF)=true)
 (a18:Sy K (.ref Ad) "takes"=some (some (.ref HH))) (i18:VQ K (.ref HH)=true) (l18:K.lookup HH=some ⟨Ls,Lp,.func (Uc "takes" "Measure.takes" (bF bH) (bB bH) (ak bH) .none Lu Lv Lw Lq HI Lx),Lr⟩) (c18:U3 K HI "Measure.takes"=true) (k18:TZ K (.ref HH)=true)
 (a60:R5 K RK "law"=some (some (.ref HJ))) (l60:K.lookup HJ=some ⟨LA,Ly,.func (Uc "law" "law" (bF jm) (bB jm) (ak jm) .none HL HM HN HK Fn HP),Lz⟩) (c60:U3 K Fn "law"=true) (k60:TZ K (.ref HJ)=true)
 (z0:R5 K RK "all"=some none)
 (z1:R5 K RK "bool"=some none)
 (z2:R5 K RK "dict"=some none)
 (z3:R5 K RK "divmod"=some none)
 (z4:R5 K RK "enumerate"=some none)
 (z5:R5 K RK "int"=some none)
 (z6:R5 K RK "isinstance"=some none)
 (z7:R5 K RK "len"=some none)
 (z8:R5 K RK "range"=some none)
 (z9:R5 K RK "reversed"=some none)
 (z10:R5 K RK "set"=some none)
 (z11:R5 K RK "str"=some none)
 (z12:R5 K RK "tuple"=some none)
 (z13:R5 K RK "zip"=some none)
 (y0:R5 K RK "CALL_SIGN"=some (some (.str (QZ "?") M9)))
 (y1:R5 K RK "MOST_LETTERS"=some (some (.int (8) FC)))
 (y2:R5 K RK "MOST_KINDS"=some (some (.int (8) JT)))
 (y3:R5 K RK "MOST_KIDS"=some (some (.int (3) M')))
 (y4:R5 K RK "MOST_STATES"=some (some (.int (20) Na)))
 (y5:R5 K RK "MOST_ROWS"=some (some (.int (20) Nb)))
 (y6:R5 K RK "MOST_KNOTS"=some (some (.int (400) Nc)))
 (y7:R5 K RK "MOST_CALLS"=some (some (.int (200) Nd)))
 (y8:R5 K RK "PIECE"=some (some (.int (1000000000) Nf)))
 (y9:R5 K RK "PIECE_FIGURES"=some (some (.int (9) Ng)))
 (y10:R5 K RK "MOST_FIGURES"=some (some (.int (3) HQ)))
 (y11:R5 K RK "MOST_BRACKETS"=some (some (.int (100) HR))) :
 ∃ fd:Uz,(∀ (s:Q9) (v:Q6),BindsTo s fd ⟨[v],[]⟩ [("script",v)])/\∀ base:SE,K.In base->base.Ns RK mg->aV l.prog w K mg base CX0 60 fa fd ["script"] (ph K):=by
 have e0:=Qj.symm.trans (SJ X G a60);have e:HJ=fa:=(Value.ref.inj (RI e0)).symm;subst e;have Nh:=cT (st:=bU) l17 c17 k17;have Qk:=Nh.binds (ps:=["self"]) fun _ _ _ _ _ _ us hl=>by obtain ⟨y0,rfl⟩:=us1 hl;rfl
 have Ni:=cT (st:=bH) l18 c18 k18;have Ql:=Ni.binds (ps:=["self","part","row"]) fun _ _ _ _ _ _ us hl=>by obtain ⟨y0,y1,y2,rfl⟩:=us3 hl;rfl
 have Nj:=cT (st:=jm) l60 c60 k60;have Qm:=Nj.binds (ps:=["script"]) fun _ _ _ _ _ _ us hl=>by obtain ⟨y0,rfl⟩:=us1 hl;rfl
 let T:TX K mg:=⟨⟨M9,SJ X G y0⟩,⟨FC,SJ X G y1⟩,⟨JT,SJ X G y2⟩,⟨M',SJ X G y3⟩,⟨Na,SJ X G y4⟩,⟨Nb,SJ X G y5⟩,⟨Nc,SJ X G y6⟩,⟨Nd,SJ X G y7⟩,⟨Nf,SJ X G y8⟩,⟨Ng,SJ X G y9⟩,⟨HQ,SJ X G y10⟩,⟨HR,SJ X G y11⟩,g_is_number,g_is_below,g_is_name,g_is_kind,g_are_kinds,g_kinds_of,g_many_of,g_kids_of,g_walked,g_placed,g_built,g_is_call,g_called_by,g_fits_pattern,g_calls_in,g_top_of,g_filled,HF,_,Nh,Qk,HH,_,Ni,Ql,g_is_small,g_check_pattern,g_check_state,g_made_book,g_ins_of,g_outs_of,g_head_of,g_rules_of,g_shown_knot,g_shown_tree,g_words_of,g_shown_number,g_shown_call,g_shown_pattern,g_shown_kinds,g_shown_rule,g_shown_book,g_read_number,g_read_call,g_steps_of,g_follows,g_tops_of,g_read_pattern,g_read_kind,g_read_kinds,g_read_head,g_read_rule,g_read_rules,g_words_in,g_read_book,g__law_cell_at,g__law_name,g__law_kinds,g__law_folded,g__law_pattern,g__law_digits,g__law_book,g__law_shown,g__law_rows,g__law_same,g__law_wide,⟨HJ,_,Nj,Qm,SJ X G a60⟩,Ad,SJ X G on_Measure,⟨pg_Measure,hd_Measure,po_Measure,sa_Measure⟩,⟨mk_Measure,a17,i17,kc_Measure⟩,na_Measure_met_knots,na_Measure_met_calls,⟨a18,i18,k18⟩,Sg X G z0,Sg X G z1,Sg X G z2,Sg X G z3,Sg X G z4,Sg X G z5,Sg X G z6,Sg X G z7,Sg X G z8,Sg X G z9,Sg X G z10,Sg X G z11,Sg X G z12,Sg X G z13⟩
 refine ⟨Uc "law" "law" (bF jm) (bB jm) (ak jm) .none HL HM HN HK Fn HP,fun s v=>.of_eq rfl,fun base _ _=>?_⟩;exact zo T
theorem walk {l:PySem.W.OpenLaw} {q:RL} {loose:List Ru} {XP:(Ru->Option Q6)->SE->Prop} {YP:R1->SE->Prop} {d:DefRec} {K:Params->Q4} (hn:l.most=some 63) (F3:d.params.defaults=[])
 (hY:∀ (w:R1) (h:SE),YP w h->(K w.params).In h)
 (F:∀ (w:R1) (mg:Ru->Option Q6) (fa:Q7) (h:SE),(K w.params).In h->h.Ns RK mg->mg d.name=some (.ref fa) →
  ∃ fd:Uz,(∀ (s:Q9) (u:Q6),BindsTo s fd ⟨[u],[]⟩ [("script",u)])/\∀ base:SE,(K w.params).In base->base.Ns RK mg->aV l.prog w (K w.params) mg base CX0 60 fa fd ["script"] (ph (K w.params))) :
 PySem.W.WalkO q loose XP YP l.row.toRowW d [] (fun f vs=>PySem.call f vs) :=
 L2.xl (n:=63) (k:=60) (x:="script") (CX:=fun _=>CX0) (sp:=fun w=>ph (K w.params)) hn (by decide) F3 ⟨rfl,by decide,by decide⟩ hY F (fun _ _ a ns hl _ hS=>⟨a,ns,rfl,hS,hl,fun _=>rfl⟩) fun _ _ _ _ _ z=>z
end LAW
open PySem PySem.W PyProof.Rows
set_option maxRecDepth 100000 in
set_option maxHeartbeats 0 in
theorem PySem.Challenge.cw_boughbook_k30_whole_books_read_back_holds : PySem.Challenge.rw_boughbook_k30_whole_books_read_back.Holds := by
 w_on;o_law;(refine holds_open (q:=LAW.vw) (N:=90000) (loose:=[]) (XP:=XL LAW.vw []) (Yf:=Hook.obs (kHook LAW.d0.heap_1 LAW.ks LAW.ke)) (Ya:=Hook.val (kHook LAW.d0.heap_1 LAW.ks LAW.ke)) (YP:=Hook.says (kHook LAW.d0.heap_1 LAW.ks LAW.ke)) (Xt:=LAW.xt) (HD.uC (by kernel_rfl) (by kernel_rfl) (fun _=>by kernel_rfl) LAW.lk0 LAW.lk1 LAW.lk2 LAW.lk3 LAW.lk4 LAW.lk5 (HD.Pc.k LAW.kp)) (Hook.of (kHook LAW.d0.heap_1 LAW.ks LAW.ke)) (Hook.keeps (kHook LAW.d0.heap_1 LAW.ks LAW.ke)) (fun s e=>xl_of s (Wh.mp e).1) XL.keeps (by rfl) (by rfl) (by rfl) (fun s e=>recFacts_of (Wh.mp e).2) (by rfl) (by assumption) (by decide +kernel) ⟨rfl,rfl,rfl,rfl,rfl,by decide +kernel⟩ ?_ ?_);w_witness2
 k_fill
 refine LAW.walk (l:=PySem.Challenge.rw_boughbook_k30_whole_books_read_back) rfl rfl (fun w h Y=>PySem.W.kIn_of Y) ?F
 case F =>
  intro w mg fa h KX G F4;refine' LAW.all_mk KX G F4 (LAW.fx1 KX G) (LAW.fx2 KX G) (LAW.fx1 KX G) (LAW.fx1 KX G) (LAW.fx1 KX G) (LAW.fx1 KX G) (LAW.fx2 KX G) (LAW.fx1 KX G) (LAW.fx1 KX G) (LAW.fx1 KX G) (LAW.fx1 KX G) (LAW.fx1 KX G) (LAW.fx1 KX G) (LAW.fx4 KX G) (LAW.fx1 KX G) (LAW.fx1 KX G) (LAW.fx2 KX G) (LAW.fx1 KX G) (LAW.fx4 KX G) (LAW.fx4 KX G) (LAW.fx4 KX G) (LAW.fx1 KX G) (LAW.fx1 KX G) (LAW.fx1 KX G) (LAW.fx1 KX G) (LAW.fx2 KX G) (LAW.fx1 KX G) (LAW.fx1 KX G) (LAW.fx1 KX G) (LAW.fx1 KX G) (LAW.fx1 KX G) (LAW.fx2 KX G) (LAW.fx3 KX G) (LAW.fx1 KX G) (LAW.fx1 KX G) (LAW.fx1 KX G) (LAW.fx1 KX G) (LAW.fx3 KX G) (LAW.fx1 KX G) (LAW.fx1 KX G) (LAW.fx1 KX G) (LAW.fx2 KX G) (LAW.fx1 KX G) (LAW.fx3 KX G) (LAW.fx2 KX G) (LAW.fx1 KX G) (LAW.fx1 KX G) (LAW.fx2 KX G) (LAW.fx2 KX G) (LAW.fx1 KX G) (LAW.fx2 KX G) (LAW.fx5 KX G) (LAW.fx5 KX G) (LAW.fx3 KX G) (LAW.fx1 KX G) (LAW.fx1 KX G) (LAW.fx2 KX G) (LAW.fx2 KX G) ?on_Measure ?pg_Measure ?hd_Measure ?po_Measure ?sa_Measure ?mk_Measure ?kc_Measure ?na_Measure_met_knots ?na_Measure_met_calls ?a17 ?i17 ?l17 ?c17 ?k17 ?a18 ?i18 ?l18 ?c18 ?k18 ?a60 ?l60 ?c60 ?k60 ?z0 ?z1 ?z2 ?z3 ?z4 ?z5 ?z6 ?z7 ?z8 ?z9 ?z10 ?z11 ?z12 ?z13 ?y0 ?y1 ?y2 ?y3 ?y4 ?y5 ?y6 ?y7 ?y8 ?y9 ?y10 ?y11
  (case on_Measure=>k_is)
  (case pg_Measure=>k_is)
  (case hd_Measure=>k_is)
  (case po_Measure=>k_is)
  (case sa_Measure=>k_is)
  (case mk_Measure=>k_is)
  (case kc_Measure=>k_is)
  (case na_Measure_met_knots=>k_is)
  (case na_Measure_met_calls=>k_is)
  (case a17=>k_is)
  (case i17=>k_is)
  (case l17=>k_is)
  (case c17=>k_is)
  (case k17=>k_is)
  (case a18=>k_is)
  (case i18=>k_is)
  (case l18=>k_is)
  (case c18=>k_is)
  (case k18=>k_is)
  (case a60=>k_is)
  (case l60=>k_is)
  (case c60=>k_is)
  (case k60=>k_is)
  (case z0=>k_is)
  (case z1=>k_is)
  (case z2=>k_is)
  (case z3=>k_is)
  (case z4=>k_is)
  (case z5=>k_is)
  (case z6=>k_is)
  (case z7=>k_is)
  (case z8=>k_is)
  (case z9=>k_is)
  (case z10=>k_is)
  (case z11=>k_is)
  (case z12=>k_is)
  (case z13=>k_is)
  (case y0=>k_is)
  (case y1=>k_is)
  (case y2=>k_is)
  (case y3=>k_is)
  (case y4=>k_is)
  (case y5=>k_is)
  (case y6=>k_is)
  (case y7=>k_is)
  (case y8=>k_is)
  (case y9=>k_is)
  (case y10=>k_is)
  (case y11=>k_is)
