import PyProof.Rows.All
import Wide.All
import OpenK.AllK
import Wide.FinOn
import Lean
import PyProof.EqAt
import PyProof.EqKinds
import PyProof.TupleCall
import KE.KRevIter
import PyProof.ListNew
import PyProof.Draws
import PyProof.EnumMake
import PyProof.Rows.EnumRows
import PyProof.ZipIter
import PyProof.ConsumeWalk
import KE.LcSums
import PyProof.AttrMissHeap
import KE.KDictOf
import PyProof.DictWalks
import PyProof.ListMulRoad
import PyProof.FactsAll.tuple
import PyProof.NeKinds
import KE.RegKTryMore
import KE.RegKIsAll
import PyProof.StrWalks
import PyProof.Rows.SetFrom
import PyProof.FString5
import Wide.Txt
import PyProof.Rows.SeqMore
import PyProof.StrOps2
import KE.KEqDict
import PyProof.CollectIter
import PyProof.JoinWalk
import PyProof.CallStr
import PyProof.DictRoadsH
import PyProof.MeetsDictList
import PyProof.DictTruth
import PyProof.StrLawsChain
import PyProof.StrCalls6
import PyProof.ToksMono
import PyProof.StrCalls2
import KE.KWords
import PyProof.MeetsStr2
import KE.KUnpack
import KE.KIntText
import PyProof.MeetsStr
import PyProof.Rows.StrLawsPart
import PyProof.Rows.RuleDivmod
import PyProof.ListIndexNeg
import PyProof.MeetsStr3
import PySem.Challenge.RW_boughbook_k31_rows_that_are_none
set_option Elab.async false
set_option linter.all false
set_option maxRecDepth 100000
set_option genInjectivity false
set_option genSizeOf false
local macro_rules | `(tactic| omega) => `(tactic| lia)
open PySem.Str renaming ofString→Rc,empty→Tr,cps_append→Tx,join→Vf
open List renaming length_map→Rf,getElem?_eq_getElem→Rg,length_cons→Rh,length_append→Rm,mem_cons_of_mem→Rp,mem_cons_self→Rr,size_toArray→Rt,mem_of_getElem?→Ru,getElem?_eq_some_iff→Rv,getElem?_map→Rw,length_take→Rx,mem_cons→RA,map_cons→RB,map_append→RC,mem_append_right→RI,length_drop→RJ,append_assoc→RM,mem_append→RN,mem_singleton→RO,append_nil→RP,cons_append→RZ,flatten_cons→R0,length_eq_zero_iff→R4,take_of_length_le→Sd,length_singleton→Sg,all_eq_true→Sl,nil_append→Sn,mem_append_left→Su,mem_iff_getElem?→Sv,range→Sw,replicate→Sy,drop_eq_getElem_cons→SH,mem_map→SQ,mem_of_mem_take→SU,getElem?_eq_none→SW,length_pos_iff→SX,getElem?_append_right→SY,reverse_cons→S5,forIn_cons→S9,mem_of_mem_drop→Ti,sum_cons→Tj,drop_zero→Tt,nodup_cons→Tv,not_mem_nil→Tz,length→TB,getElem?_set_self→TK,length_nil→TM,getElem?_append_left→TQ,map_nil→TY,getElem?_set_ne→T2,flatMap_cons→T4,dropLast_concat_getLast→T5,replicate_succ→T9,flatten_append→Ua,map_map→Ud,drop_of_length_le→Ue,lookup_cons→Uh,take_zero→Uj,lookup→Uz,length_range→UA,map_take→UB,length_reverse→UH,flatMap_append→UI,filterMap_cons→UJ,mem_range→UK,map_drop→UQ,take_add_one→UU,reverse_reverse→U0,take_length→U6,filter_cons→U7,getElem?_zip_eq_some→U8,map_eq_nil_iff→Vb,map_congr_left→Vc,mem_filter→Vi,ext_getElem?→Vv,any_eq_true→VE,all_cons→VG,length_set→VN,reverse_append→VP,nodup_nil→VW,mem_filterMap→VX,range'→V1,take_nil→V8,drop_length→Wf,length_zip→Wo,dropLast_concat→WE,getElem?_range→WS,flatMap_assoc→WY,nodup_append→Xj,all_map→Xk
open PySem.W renaming Frag→Ri,kitOne→RU,findIn→R1,nsIn→Sb,mg_none_of→SF,mg_of→SS,mroIn→Ts,kia_one→Tu,emptyDict→TJ,keepIn→T1,instObj→Uq,boot_heap→Uv,fnOf→Ux,exmOne→Vp,codeIn→Vq,hideAll→Vx,plainGet→VC,excIn→VF,hasDictIn→V0,isFn→Wh,lookIn→WC,plainGet_of→WN,callWith_K→WW,plainOver→Xg,methodObj→Xh
open PySem renaming wpAny_bind→Rj,Addr→Rk,Value→Rl,Shared→Rn,Str→Rz,wpAny_pure→RF,wpAny→RL,boot_len→RQ,sizeLine→RS,strLen_append→RT,mainGlobals→RV,model→RW,Program→RY,Around→Sf,World→Sj,Paired→So,starEach→Sq,wpAny_field→Sx,wpAny_mono→SA,Expr→SI,Heap→SR,wpAny_newObj_type→S8,Stmt→Tf,wpAny_passesOwn→To,compareOp→TH,wpAny_truthy_bool→TR,Obj→TU,eval→TZ,wpAny_Call_Name_kw→T3,sizeLine_eq→T7,wpAny_callSpecial?_slot→Ug,NameKind→Ui,FuncData→Uk,wpAny_holding→Uo,wpAny_setField_rec→Ur,wpAny_seqItems→Ut,typeIs_str→Uu,Scope→UD,IsPair→UP,wpAny_Call_method_late→UW,call_meets→UX,wpAny_execs_nil→UY,mem_of_lookup→U9,wpAny_loadName_local→Vd,binaryOp→Ve,wpAny_execs_cons→Vk,wpAny_call_entry→Vl,codeAny_mono→Vm,codeAny→Vn,Pos→Vw,foldedSetIterable→VH,backTo→VI,rawInt→VQ,assignEach→VR,sliceBounds→VU,letOwnedTupleGo→VZ,bootBuiltins→V3,OsState→V7,swapsWith→Wa,wpAny_pyIter_tuple→Wb,wpAny_pyIter_list→Wl,wpAny_Assign_Name→Wm,Builtin→Ws,wpAny_standAt→Wu,wpAny_onRaise→Wv,wpAny_comprehension_free→Ww,attributeBase→Wx,noteFrame→Wz,cLine→WA,intText?→WB,IsZip→WG,Env→WH,wpAny_Name→WK,getItem→WL,Result→WM,importedModules→WT,codeAny_builtin→WU,wpAny_updateSeq_pair→W3,wpAny_setField→W5,unbindBehindTheSuite→W6,slicePicked→W7,pyNext→W8,codeAny_call_builtin→W9,bindArgs→Xa,assign→Xb
open PySem.Heap renaming get?_push_of_some→Ro,get?_push_size→RD,lt_size→RG,size_push→TC,SameBut→Ul,get?_update_other→VL,get?_update_self→W0
open Nat renaming le_refl→Rq,lt_of_lt_of_le→R6,ne_of_lt→R7,zero_le→Sk,lt_irrefl→SE,le_trans→SO,pow_le_pow_right→S7,lt_succ_of_lt→Tp,min_eq_left→TL,succ_mul→TV,mul_le_mul_left→T8,ne_of_gt→Uc,zero_add→Uy,add_mul_div_right→US,mul_le_mul_right→UZ,mul_comm→U3,lt_succ_self→U4,div_eq_of_lt→U5,sub_self→Vt,le_of_lt→Vu,le_add_right→VD,div_add_mod→VM,sub_zero→VS,le_of_eq→Wj,div_lt_of_lt_mul→WD,lt_of_le_of_lt→WX,mul_succ→Xi
open Option.some renaming inj→Ry
open Array renaming length_toList→RE,toList_append→Ss,getElem?_toList→UT,getElem?_eq_some_iff→U1,append_assoc→VY,toList→Wk
open Or renaming inl→RH
open Bool renaming false_ne_true→RK,and_eq_true→R5,eq_false_iff→S6,true_and→UC,or_eq_true→Vj,not_eq_true'→V2,eq_iff_iff→Wt,false_and→WI,and_eq_true_iff→WJ
open List.cons renaming inj→RR
open PySem.F renaming plainAttrs_list→RX,type_list_append→R8,slot_list_append→R9,plainAttrs_str→Sr,slot_tuple_iterator_next→Vg,called_set→Vo,type_str_split→Vr,slot_str_split→Vs,type_str_join→Vy,type_list_pop→Vz,slot_str_join→VA,slot_list_pop→VB,type_str_replace→V4,slot_str_replace→V5,args_tuple_add_2→V6,entry_tuple_add→Wc,slot_tuple_add→Wi,slot_zip_next→WV
open PySem.Paired renaming length→R3
open Int renaming emod_lt_of_pos→Sa,emod_nonneg→Se,toNat_natCast→Tq,eq_ofNat_of_zero_le→UL,ediv_nonneg→Wq,lt_or_eq_of_le→WZ,ediv_one→Xl
open PySem.StrLaws renaming occBody→Si,glued_eq_join→U2,strSub_toList→VO,occ_eq→Xf
open PyProof.Rows renaming boot_isinstance→Sm,boot_tuple→SD,slot_tuple_getitem→Tg,callWith_type1→Ub,envOfC→Up,boot_str→UR,AllBare→W2
open PySem.PassesOwn renaming never→Sz,leaving→VJ
open PySem.Builtin.Str renaming strKind→SG,strSliceIndices→V9
open PySem.Builtin.SmallTypes renaming nextOf→SJ,ownedTupleIsFree→SN
open PySem.Txt renaming join→SK,split→Ta,replace→Wn
open PySem.NameKind renaming free→SM,cell→VT
open PySem.Value renaming ref→SV,none→Te,bool→UO,builtin→Wy
open PySem.Builtin.Slice renaming slicePlaces→Tb,sliceAdjust→UE,sliceApplied→Vh
open PySem.Calls renaming spliced_cons→Tc,Constant_str→TF,callWith_builtin→Um,spliced_nil→UM,evalArgs_plain→UN,Name_function_global→Wg
open PySem.Builtin.Tuple renaming tupleExact→Td
open Option renaming map_eq_some_iff→Tn,bind_eq_some_iff→Wd
open False renaming elim→Tw
open ForInStep renaming yield→TN
open PySem.Builtin.List renaming listTooLong→T6
open Ne renaming symm→UG
open PyProof.Rows.F renaming plain_set_update_loop→Va,entry_set_update_loop→WO
open True renaming intro→VV
open PySem.Obj renaming data_mapFields→We,mapSeq→WQ
open PySem.Value.type renaming inj→Xc
open Sum renaming inr→Xd,inl→Xe
namespace HD
open PySem PySem.W PySem.Calls PyProof.Rows
def kX (tb:String->Option Ws) (p:RY) (w:Sj) (m:Nat) (ann:Option Rl):Nat->SharedT->Thread->Option SharedT
 | 0,_,_=>none
 | n+1,s,t=>match through t with
   | true=>some s
   | false=>match stepOk m ann t with
     | false=>none
     | true=>match stepT (denote tb) p w s t with
       | some (s',t')=>kX tb p w m ann n s' t'
       | none=>none
theorem lH {tb:String->Option Ws} {p:RY} {w:Sj} {m:Nat} {ann:Option Rl}:∀ {n:Nat} {s s':SharedT} {t:Thread},kX tb p w m ann n s t=some s'->topRun tb p w m ann n s.abs t=some s'.abs
 | 0,_,_,_,h=>by cases h
 | n+1,s,s',t,h=>by
   unfold kX at h;unfold topRun;cases he:through t with
   | true=>rw [he] at h;cases h;rfl
   | false =>
     rw [he] at h;cases hk:stepOk m ann t with
     | false=>rw [hk] at h;cases h
     | true =>
       rw [hk] at h;cases hs:stepT (denote tb) p w s t with
       | none=>rw [hs] at h;cases h
       | some r =>
         obtain ⟨s2,t2⟩:=r;rw [hs] at h;rw [stepT_spec hs];exact lH h
def vb:List TU->Nat->BT->BT
 | [],_,t=>t
 | o::l,n,t=>vb l (n+1) (t.ins n o)
def wK:List TU->Nat->BT->Bool
 | [],_,_=>true
 | o::l,n,t=>((t.ins n o).get n).isSome && wK l (n+1) (t.ins n o)
theorem nJ:∀ (l:List TU) (n:Nat) (t:BT),wK l n t=true->(vb l n t).list (n+l.length)=t.list n++l
 | [],n,t,_=>by rw [RP];rfl
 | o::l,n,t,h=>by
   obtain ⟨h1,h2⟩:=WJ.mp h;have e:=absHeap_ins (life:=default) h1
   have e2:(t.ins n o).list (n+1)=t.list n++[o]:=by
    have:=congrArg (fun x:SR=>x.objs.toList) e;simpa [absHeap,Heap.push] using this
   have ih:=nJ l (n+1) (t.ins n o) h2;rw [e2,RM] at ih;rw [Rh,show n+(l.length+1)=n+1+l.length by omega];exact ih
theorem yj {h:SR} (ok:wK h.objs.toList 0 .nil=true):absHeap (vb h.objs.toList 0 .nil) h.objs.size h.life=h:=by
 have e:=nJ _ _ _ ok;rw [Uy] at e;unfold absHeap;rw [<- RE,e];rfl
noncomputable abbrev oM (p:RY) (N:Nat) (w:Sj) (os:V7):Option SharedT :=
 kX treeTable p w 11 (some (.ref 6)) N ⟨vb (Uv w.params).objs.toList 0 .nil,11,(Uv w.params).life,Array.mk [],boot_drawn,boot_toks,os⟩ (topStub p)
theorem wE (P:Params):(wK (Uv P).objs.toList 0 .nil,(Uv P).isNs RV,(Uv P).objs.size,(Uv P).nsMap RV "__annotations__")=(true,true,11,some (.ref 6)):=by kernel_rfl
theorem map_some {α β:Type} {o:Option α} {a:α} {f:α->β} {b:β} (h:o=some a) (e:o.map f=some b):f a=b:=by rw [h] at e;exact Ry e
abbrev Tr0 (p q:RY) (loose:List Rz) (Xt:Rn->Bool) (N:Nat) (g0:Bool):Prop:=∀ (w:Sj) (os:V7),((oM p N w os).map fun s=>(staticsOk (WT p.main.body) (Uv w.params) s.abs.heap && namesBound p s.abs.heap && gensDone s.abs && laidKept (Uv w.params) s.abs.heap,s.abs.heap.bltView,pinSeenD q (drecsOf q) s.abs,plainSeenD q loose s.abs,clsSeenW q loose s.abs,(s.abs.heap.accountedOkI (WT p.main.body),s.abs.heap.isNs RV,s.abs.heap.isNs builtinsNs,tablesOk q s.abs.heap,Xt s.abs,(if g0 then s.abs.gens.size == 0 else !leftWithCleanup s.abs.gens))))=some (true,bltViewBooted,pinGoodD (drecsOf q),plainGoodD q loose,clsGoodW q loose,(true,true,true,true,true,true))
abbrev Tr1 (p q:RY) (N:Nat):Prop:=∀ (w:Sj) (os:V7),((oM p N w os).map fun s=>seen ((recsOf q).map (·.name)) (ownsOf q) [] { s.abs with gens:=#[] })=some (expectedOf q)
abbrev Tr2 (p q:RY) (loose:List Rz) (N:Nat):Prop:=∀ (w:Sj) (os:V7),((oM p N w os).map fun s=>s.abs.heap.keysOk (looseW q loose) ((recsOf q).map (·.name)) ((litsOf q).map (·.1)) ((clssOf q (looseW q loose)).map (·.name)))=some true
abbrev Tr3 (p q:RY) (N:Nat):Prop:=∀ (w:Sj) (os:V7),((oM p N w os).map fun s=>tabsOk q s.abs)=some true
abbrev Tr4 (p q:RY) (loose:List Rz) (N:Nat):Prop:=∀ (w:Sj) (os:V7),((oM p N w os).map fun s=>plainSeenE q (looseW q loose) s.abs)=some (plainGoodE q (looseW q loose))
abbrev Tr5 (p q:RY) (N:Nat):Prop:=∀ (w:Sj) (os:V7),((oM p N w os).map fun s=>wideSeen q s.abs)=some (wideGood q)
theorem tL {p q:RY} {loose:List Rz} {Xt:Rn->Bool} {α:Type} {Yf:Rn->α} {Ya:Sj->α} {N:Nat} {g0:Bool}
 (e:opening p=plainProg p.main.scope.names) (hN:Nat.ble 600 N=true) (f:∀ s,fenceModules? p s=some s)
 (r0:Tr0 p q loose Xt N g0)
 (r1:Tr1 p q N)
 (r2:Tr2 p q loose N)
 (r3:Tr3 p q N)
 (r4:Tr4 p q loose N)
 (r5:Tr5 p q N)
 (rY:∀ (w:Sj) (os:V7),((oM p N w os).map fun s=>Yf s.abs)=some (Ya w)) :
 LeftO p q loose Xt Yf Ya N g0:=fun w=>by
 obtain ⟨⟨h,gs,d,k,os⟩,e1,e'⟩:=Tn.mp (boot_open e hN f w);obtain ⟨rfl,rfl,rfl,rfl⟩:h=Uv w.params/\gs=Array.mk []/\d=boot_drawn/\k=boot_toks:=by simpa using e'
 have HZ:=wE w.params;have z0:=congrArg Prod.fst HZ;have z1:=congrArg (fun x=>x.2.1) HZ;have z2:=congrArg (fun x=>x.2.2.1) HZ;have z3:=congrArg (fun x=>x.2.2.2) HZ;dsimp only at z0 z1 z2 z3;obtain ⟨s1,Du,hY⟩:=Tn.mp (rY w os);have q0:=map_some Du (r0 w os);have q1:=map_some Du (r1 w os);have q2:=map_some Du (r2 w os);have q3:=map_some Du (r3 w os);have q4:=map_some Du (r4 w os);have q5:=map_some Du (r5 w os);have rr:=lH Du
 have Ji:SharedT.abs ⟨vb (Uv w.params).objs.toList 0 .nil,11,(Uv w.params).life,Array.mk [],boot_drawn,boot_toks,os⟩=⟨Uv w.params,Array.mk [],boot_drawn,boot_toks,os⟩:=by
  unfold SharedT.abs;dsimp only;rw [<- z2,yj z0]
 rw [Ji] at rr;have a0:=congrArg Prod.fst q0;have a1:=congrArg (fun x=>x.2.1) q0;have a2:=congrArg (fun x=>x.2.2.1) q0;have a3:=congrArg (fun x=>x.2.2.2.1) q0;have a4:=congrArg (fun x=>x.2.2.2.2.1) q0;have b0:=congrArg (fun x=>x.2.2.2.2.2.1) q0;have b1:=congrArg (fun x=>x.2.2.2.2.2.2.1) q0;have b2:=congrArg (fun x=>x.2.2.2.2.2.2.2.1) q0;have b3:=congrArg (fun x=>x.2.2.2.2.2.2.2.2.1) q0;have b4:=congrArg (fun x=>x.2.2.2.2.2.2.2.2.2.1) q0;have b5:=congrArg (fun x=>x.2.2.2.2.2.2.2.2.2.2) q0;dsimp only at a0 a1 a2 a3 a4 b0 b1 b2 b3 b4 b5
 have l2:openSeen q loose (WT p.main.body) Xt g0 s1.abs=openGood q loose:=by
  unfold openSeen openGood;rw [q1,a1,q2,b0,b1,b2,b3,b4,b5,q3,a2,q4,a3,q5,a4];rfl
 have t:topFrom treeTable p w N ⟨Uv w.params,Array.mk [],boot_drawn,boot_toks,os⟩=some s1.abs:=by
  unfold topFrom;dsimp only;rw [z1,z2,z3,rr];show (match staticsOk (WT p.main.body) (Uv w.params) s1.abs.heap && namesBound p s1.abs.heap && gensDone s1.abs && laidKept (Uv w.params) s1.abs.heap with | true=>_ | false=>_)=_;rw [a0]
 unfold openEnds;rw [e1];show (topFrom treeTable p w N _).map _=_;rw [t];exact congrArg some (Prod.ext l2 hY)
def p0:Params:={ strHash:=fun _=>0,shareClass:=fun _=>0,mergeTok:=fun t=>t,idOf:=fun _=>0,idOfShared:=fun _ _=>0,followText:=fun _=>false,idOfImm:=fun _=>0 }
structure Pc (p:RY) (N:Nat) (as:List Rk) (vs:Sj->List (Option TU)):Prop where
 out:∀ (w:Sj) (os:V7),((oM p N w os).map fun s=>as.map s.abs.heap.get?)=some (vs w)
theorem Pc.k {p:RY} {N:Nat} {as:List Rk} {K:Params->Frag} {e:∀ P,as=(K P).map (·.1)} (h:Pc p N as fun w=>(K w.params).map fun p=>some p.2):∀ (w:Sj) (os:V7),((oM p N w os).map fun s=>(kHook K as e).obs s.abs)=some ((kHook K as e).val w):=h.out
end HD
section
open PySem PySem.W PyProof.Rows
def LAW.vw:RY:=PySem.W.view PySem.Challenge.pw_boughbook_k31_rows_that_are_none [1,2,3,4,5,7,8,9,10,11,12,13,14,15,16,17,18,19,20,22,23,25,26,27,28,29,30,31,32,33,35,37,38,39,40,41,42,43,44,45,46,47,48,49,50,51,53,54,55,56,57,58,59,60,61,62,63,64,65]
def LAW.xt (s:Rn):Bool:=xlAt LAW.vw [] s && recOk (RowW.records (OpenRow.toRowW (OpenLaw.row PySem.Challenge.rw_boughbook_k31_rows_that_are_none))) s
set_option maxHeartbeats 0 in
theorem LAW.lk0:HD.Tr0 PySem.Challenge.pw_boughbook_k31_rows_that_are_none LAW.vw [] LAW.xt 90000 true:=fun _ _=>by kernel_rfl
set_option maxHeartbeats 0 in
theorem LAW.lk1:HD.Tr1 PySem.Challenge.pw_boughbook_k31_rows_that_are_none LAW.vw 90000:=fun _ _=>by kernel_rfl
set_option maxHeartbeats 0 in
theorem LAW.lk2:HD.Tr2 PySem.Challenge.pw_boughbook_k31_rows_that_are_none LAW.vw [] 90000:=fun _ _=>by kernel_rfl
set_option maxHeartbeats 0 in
theorem LAW.lk3:HD.Tr3 PySem.Challenge.pw_boughbook_k31_rows_that_are_none LAW.vw 90000:=fun _ _=>by kernel_rfl
set_option maxHeartbeats 0 in
theorem LAW.lk4:HD.Tr4 PySem.Challenge.pw_boughbook_k31_rows_that_are_none LAW.vw [] 90000:=fun _ _=>by kernel_rfl
set_option maxHeartbeats 0 in
theorem LAW.lk5:HD.Tr5 PySem.Challenge.pw_boughbook_k31_rows_that_are_none LAW.vw 90000:=fun _ _=>by kernel_rfl
section
local macro_rules | `(tactic| o_head $_H) => `(tactic| assumption)
set_option maxHeartbeats 0 in
theorem LAW.d0 (h:OpenRow.Holds (OpenLaw.row PySem.Challenge.rw_boughbook_k31_rows_that_are_none)):OpenRow.Holds (OpenLaw.row PySem.Challenge.rw_boughbook_k31_rows_that_are_none):=by
 k_head
end
noncomputable def LAW.ks:List Rk:=(LAW.d0.heap_1 HD.p0).map (·.1)
theorem LAW.ke:∀ P,LAW.ks=(LAW.d0.heap_1 P).map (·.1):=fun _=>by kernel_rfl
set_option maxHeartbeats 0 in
theorem LAW.kp:HD.Pc PySem.Challenge.pw_boughbook_k31_rows_that_are_none 90000 LAW.ks fun w=>(LAW.d0.heap_1 w.params).map fun p=>some p.2:=⟨fun _ _=>by kernel_rfl⟩
end
namespace L2
open PySem PySem.Spec PyProof.Rows
abbrev Key:=Sum Int Rz
def xn:Key->Rl->Bool
 | .inl k,v=>Value.isInt k v
 | .inr x,v=>Value.isStrOf x v
def aaH (w:Sj):Key->Int
 | .inl k=>hashInt k
 | .inr x=>hashStr w x
theorem bT:∀ {k:Key} {v:Rl},xn k v=true->(∃ i t,k=Xe i/\v=Value.int i t)∨(∃ x t,k=Xd x/\v=Value.str x t)
 | .inl i,v,h=>by
   obtain ⟨t,e⟩:=Value.isInt_shape (k:=i) (v:=v) h;exact .inl ⟨i,t,rfl,e⟩
 | .inr x,v,h=>by
   obtain ⟨t,e⟩:=Value.isStrOf_shape (x:=x) (v:=v) h;exact .inr ⟨x,t,rfl,e⟩
theorem ym (a b:Int):decide ((Xe a:Key)=Xe b)=(a == b):=by
 by_cases e:a=b
 · subst e;simp
 · have h:¬ (Xe a:Key)=Xe b:=fun q=>e (Sum.inl.inj q);rw [decide_eq_false h];exact (beq_eq_false_iff_ne.mpr e).symm
theorem xO (a b:Rz):decide ((Xd a:Key)=Xd b)=decide (a=b):=by
 by_cases e:a=b
 · subst e;simp
 · have h:¬ (Xd a:Key)=Xd b:=fun q=>e (Sum.inr.inj q);rw [decide_eq_false h,decide_eq_false e]
theorem yd (a:Int) (b:Rz):decide ((Xe a:Key)=Xd b)=false:=decide_eq_false (fun q=>nomatch q)
theorem yK (a:Rz) (b:Int):decide ((Xd a:Key)=Xe b)=false:=decide_eq_false (fun q=>nomatch q)
def oo (prog:RY) (w:Sj):PySem.KeyKind prog w Key where
 is:=xn
 hash:=aaH w
 inj:=fun v a b ha hb=>by
  rcases bT ha with ⟨i,t,rfl,rfl⟩ | ⟨x,t,rfl,rfl⟩
  · rcases bT hb with ⟨j,u,rfl,e⟩ | ⟨y,u,rfl,e⟩
    · injection e with e1 _;rw [e1]
    · exact nomatch e
  · rcases bT hb with ⟨j,u,rfl,e⟩ | ⟨y,u,rfl,e⟩
    · exact nomatch e
    · injection e with e1 _;rw [e1]
 byValue:=fun k v h=>by
  rcases bT h with ⟨i,t,rfl,rfl⟩ | ⟨x,t,rfl,rfl⟩ <;> rfl
 pyHash:=fun hv h=>by
  rcases bT hv with ⟨i,t,rfl,rfl⟩ | ⟨x,t,rfl,rfl⟩
  · exact wpAny_pyHash_int h
  · exact wpAny_pyHash_str h
 eqBool:=fun hu hv h=>by
  rcases bT hu with ⟨i,t,rfl,rfl⟩ | ⟨x,t,rfl,rfl⟩
  · rcases bT hv with ⟨j,u,rfl,rfl⟩ | ⟨y,u,rfl,rfl⟩
    · rw [ym] at h;exact wpAny_eqBool_int h
    · rw [yd] at h;exact SeqAt.EqAt.int_str i t y u _ _ _ _ h
  · rcases bT hv with ⟨j,u,rfl,rfl⟩ | ⟨y,u,rfl,rfl⟩
    · rw [yK] at h;exact SeqAt.EqAt.str_int x t j u _ _ _ _ h
    · rw [xO] at h;exact wpAny_eqBool_str h
 «strs»:=fun k x t v h=>by
  rcases bT h with ⟨i,u,rfl,e⟩ | ⟨y,u,rfl,e⟩
  · exact nomatch e
  · injection e with e1 _;subst e1;cases v <;> rfl
end L2
namespace L2
open PySem PySem.Spec PyProof.Rows
set_option genInjectivity true in
inductive V where
 | non | bl (b:Bool) | int (i:Int) | str (x:Rz) | byt (b:Array UInt8) | flt (b:UInt64) | ref (a:Rk) | ty (n:String)
 deriving DecidableEq
def RelV:V->Rl->Prop
 | .non,u=>u=Te
 | .bl b,u=>u=UO b
 | .int i,u=>∃ t,u=Value.int i t
 | .str x,u=>∃ t,u=Value.str x t
 | .byt b,u=>∃ t,u=Value.bytes b t
 | .flt b,u=>∃ t,u=Value.float b t
 | .ref a,u=>u=SV a
 | .ty n,u=>u=Value.type n
abbrev Vals:List V->List Rl->Prop:=So RelV
theorem Vals.length {xs:List V} {us:List Rl} (r:Vals xs us):xs.length=us.length:=R3 r
theorem Vals.get:∀ {xs:List V} {us:List Rl} {i:Nat} {x:V},Vals xs us->xs[i]?=some x->∃ u,us[i]?=some u/\RelV x u
 | _,_,_,_,.nil,e=>by simp at e
 | _,_,0,_,.cons r _,e=>by simp at e;subst e;exact ⟨_,rfl,r⟩
 | _,_,i+1,x,.cons _ t,e=>by
   obtain ⟨u,h1,h2⟩:=Vals.get (i:=i) (x:=x) t (by simpa using e);exact ⟨u,by simpa using h1,h2⟩
theorem Vals.set {x:V} {u:Rl} (r:RelV x u):∀ {xs:List V} {us:List Rl} (i:Nat),Vals xs us->Vals (xs.set i x) (us.set i u)
 | _,_,_,.nil=>.nil
 | _,_,0,.cons _ t=>.cons r t
 | _,_,i+1,.cons q t=>.cons q (Vals.set r i t)
theorem Vals.append:∀ {xs ys:List V} {us ws:List Rl},Vals xs us->Vals ys ws->Vals (xs++ys) (us++ws)
 | _,_,_,_,.nil,s=>s
 | _,_,_,_,.cons r t,s=>.cons r (Vals.append t s)
theorem Vals.take:∀ {xs:List V} {us:List Rl} (n:Nat),Vals xs us->Vals (xs.take n) (us.take n)
 | _,_,0,_=>.nil
 | _,_,_+1,.nil=>.nil
 | _,_,n+1,.cons r t=>.cons r (Vals.take n t)
theorem Vals.drop:∀ {xs:List V} {us:List Rl} (n:Nat),Vals xs us->Vals (xs.drop n) (us.drop n)
 | _,_,0,r=>r
 | _,_,_+1,.nil=>.nil
 | _,_,n+1,.cons _ t=>Vals.drop n t
def RelO:Option V->Option Rl->Prop
 | some v,some u=>RelV v u
 | none,none=>True
 | _,_=>False
def KV {κ:Type}:List (κ×V)->List (κ×Rl)->Prop:=So fun (p:κ×V) (q:κ×Rl)=>p.1=q.1/\RelV p.2 q.2
def kV:Key->V
 | .inl i=>.int i
 | .inr x=>.str x
inductive HO where
 /-- a list -/
 | lst (xs:List V)
 /-- a tuple (never changes) -/
 | tup (xs:List V)
 /-- a dict Ga keys are ints and texts;one Ga keys are tuples of ints and texts (C3 empty one is both) -/
 | dK (AO:List (Key×V)) | dT (AO:List (List Key×V))
 /-- a set of ints: its members,its size -/
 | set (S:Int->Bool) (n:Nat)
 /-- an instance of C3 class at C,its dict at dx,its attributes -/
 | ins (C dx:Rk) (fs:List (Rz×V))
 /-- C3 dict of C3 instance at x -/
 | own (x:Rk)
 /-- C3 dict of an exception -/
 | xd (fs:List (Rz×V))
 /-- a bound method,f of x -/
 | met (f x:Rk)
 /-- a range object lo,lo+1,.. below hi -/
 | rng (lo hi:Int)
 /-- a thing Gb is known to C3 object (C3 script;a dict while a loop walks it): read,never written while it is so -/
 | frz (o:TU) (u:HO)
 /-- a code Gd table -/
 | tbl (ps:Array Rl)
 /-- any other thing,by EX is true of its one object (a def of LU own: NO a S n:=HO.ext fun h=>..) -/
 | ext (φ:SR->Prop)
abbrev Hp:=Rk->Option HO
def upd (H:Hp) (a:Rk) (o:HO):Hp:=fun b=>if b=a then some o else H b
theorem ac {H:Hp} {a:Rk} {o:HO}:upd H a o a=some o:=by unfold upd;rw [if_pos rfl]
theorem ar {H:Hp} {a b:Rk} {o:HO} (h:b≠a):upd H a o b=H b:=by unfold upd;rw [if_neg h]
theorem wj {H:Hp} {a:Rk} {o u:HO}:upd (upd H a o) a u=upd H a u:=by
 funext b;unfold upd;split <;> rfl
theorem sI {H:Hp} {a b:Rk} {o u:HO} (h:H a=some o) (h':H b=some u) (d:o≠u):a≠b:=by
 intro e;subst e;rw [h] at h';exact d (Ry h')
theorem aR {H:Hp} {a b:Rk} {o:HO} (h:H a=some o) (h':H b=none):a≠b:=by
 intro e;subst e;rw [h] at h';cases h'
section
variable (P:RY) (w:Sj)
def ObjOk (H:Hp) (h:SR) (a:Rk):HO->Prop
 | .lst xs=>xs.length<=RS/\∃ (its:List Rl) (n:Nat),Vals xs its/\h.get? a=some { cls:=.type "list",data:=.seq its.toArray n }
 | .tup xs=>xs.length<=RS/\∃ (its:List Rl) (n:Nat),Vals xs its/\h.get? a=some { cls:=.type "tuple",data:=.seq its.toArray n }
 | .dK AO=>AO.length<=RS/\(a == sysModules)=false/\∃ vs,KV AO vs/\h.DictOf (oo P w) a vs
 | .dT AO=>AO.length<=RS/\(a == sysModules)=false/\∃ xs:List (List Key×Rk×Rl),
  So (fun (p:List Key×V) (q:List Key×Rk×Rl)=>p.1=q.1/\H q.2.1=some (.tup (p.1.map kV))/\RelV p.2 q.2.2) AO xs ∧
  ∃ o es ep,h.get? a=some o/\o.ExactDict/\o.data=.dict es ep/\es.toList=xs.map (entryOfKey (tupleKind (oo P w)))/\(xs.map (·.1)).Nodup
 | .set S n=>h.SetOf (intKind P w) a S n
 | .ins C dx fs=>H dx=some (.own a)/\fs.length<=1000/\dx≠a/\h.get? a=some (Uq C dx) ∧
  ∃ mA,h.Ns1 dx mA/\(∀ f,RelO (fs.lookup f) (mA f))/\PySem.Within mA (fs.map (·.1))
 | .own _=>∃ o,h.get? a=some o
 | .xd fs=>∃ mA,h.Ns1 a mA/\∀ f,RelO (fs.lookup f) (mA f)
 | .rng lo hi=>∃ t u v,h.get? a=some { cls:=.type "range",data:=.fields #[.int lo t,.int hi u,.int 1 v] }
 | .frz o u=>h.get? a=some o/\ObjOk H h a u
 | .tbl ps=>h.get? a=some { cls:=.none,data:=.fields ps }
 | .met f x=>h.get? a=some (Xh (.ref f) (.ref x))
 | .ext φ=>φ h/\(∃ o,h.get? a=some o)/\∀ h1 h2:SR,φ h1->(∀ o,h1.get? a=some o->h2.get? a=some o)->φ h2
def HOk (H:Hp) (h:SR):Prop:=∀ a o,H a=some o->ObjOk P w H h a o
end
section
variable {P:RY} {w:Sj} {H H':Hp} {h h':SR} {a:Rk} {o:HO}
theorem ObjOk.lt (x:ObjOk P w H h a o):a<h.objs.size:=by
 cases o with
 | lst xs=>obtain ⟨_,_,_,_,e⟩:=x;exact RG e
 | tup xs=>obtain ⟨_,_,_,_,e⟩:=x;exact RG e
 | dK AO=>obtain ⟨_,_,_,_,o,_,_,e,_⟩:=x;exact RG e
 | dT AO=>obtain ⟨_,_,_,_,o,_,_,e,_⟩:=x;exact RG e
 | set S n=>obtain ⟨o,_,_,_,e,_⟩:=x;exact RG e
 | ins C dx fs=>obtain ⟨_,_,_,e,_⟩:=x;exact RG e
 | own y=>obtain ⟨_,e⟩:=x;exact RG e
 | xd fs=>obtain ⟨_,⟨_,_,_,e,_⟩,_⟩:=x;exact RG e
 | rng lo hi=>obtain ⟨_,_,_,e⟩:=x;exact RG e
 | frz ob u=>obtain ⟨e,_⟩:=x;exact RG e
 | tbl ps=>exact RG (show h.get? a=some _ from x)
 | met f y=>exact RG (show h.get? a=some _ from x)
 | ext φ=>obtain ⟨_,⟨_,e⟩,_⟩:=x;exact RG e
theorem So.mapP {α β:Type} {F G:α->β->Prop}:∀ {Ge:List α} {l₂:List β},So F Ge l₂->(∀ a b,F a b->G a b)->So G Ge l₂
 | _,_,.nil,_=>.nil
 | _,_,.cons r t,f=>.cons (f _ _ r) (So.mapP t f)
theorem ObjOk.stay (x:ObjOk P w H h a o) (k:∀ b u,(b=a∨H b=some (.own a))->h.get? b=some u->h'.get? b=some u)
 (ho:∀ b,H b=some (.own a)->H' b=some (.own a)) (ht:∀ b xs,H b=some (.tup xs)->H' b=some (.tup xs)):ObjOk P w H' h' a o:=by
 induction o with
 | lst xs=>obtain ⟨z,its,n,r,e⟩:=x;exact ⟨z,its,n,r,k _ _ (.inl rfl) e⟩
 | tup xs=>obtain ⟨z,its,n,r,e⟩:=x;exact ⟨z,its,n,r,k _ _ (.inl rfl) e⟩
 | dK AO=>obtain ⟨z,y,vs,r,ob,es,ep,e,c⟩:=x;exact ⟨z,y,vs,r,ob,es,ep,k _ _ (.inl rfl) e,c⟩
 | dT AO =>
   obtain ⟨z,y,xs,r,ob,es,ep,e,c⟩:=x;exact ⟨z,y,xs,So.mapP r fun p q z=>⟨z.1,ht _ _ z.2.1,z.2.2⟩,ob,es,ep,k _ _ (.inl rfl) e,c⟩
 | set S n=>obtain ⟨ob,es,ep,t,e,c⟩:=x;exact ⟨ob,es,ep,t,k _ _ (.inl rfl) e,c⟩
 | ins C dx fs =>
   obtain ⟨d,z,ne,e,mA,⟨od,es,ep,e2,c⟩,r⟩:=x;exact ⟨ho _ d,z,ne,k _ _ (.inl rfl) e,mA,⟨od,es,ep,k _ _ (.inr d) e2,c⟩,r⟩
 | own y=>obtain ⟨ob,e⟩:=x;exact ⟨ob,k _ _ (.inl rfl) e⟩
 | xd fs=>obtain ⟨mA,⟨od,es,ep,e,c⟩,r⟩:=x;exact ⟨mA,⟨od,es,ep,k _ _ (.inl rfl) e,c⟩,r⟩
 | rng lo hi=>obtain ⟨t,u,v,e⟩:=x;exact ⟨t,u,v,k _ _ (.inl rfl) e⟩
 | frz ob u ih=>obtain ⟨e,q⟩:=x;exact ⟨k _ _ (.inl rfl) e,ih q⟩
 | tbl ps =>
   have e:h.get? a=some { cls:=.none,data:=.fields ps }:=x;show h'.get? a=some { cls:=.none,data:=.fields ps };exact k a _ (.inl rfl) e
 | met f y =>
   have e:h.get? a=some (Xh (.ref f) (.ref y)):=x;show h'.get? a=some (Xh (.ref f) (.ref y));exact k a _ (.inl rfl) e
 | ext φ=>obtain ⟨p,⟨o,e⟩,st⟩:=x;exact ⟨st _ _ p fun o q=>k _ _ (.inl rfl) q,⟨o,k _ _ (.inl rfl) e⟩,st⟩
theorem HOk.lt (x:HOk P w H h) (e:H a=some o):a<h.objs.size:=(x a o e).lt
theorem HOk.fresh (x:HOk P w H h) (e:h.objs.size<=a):H a=none:=by
 cases q:H a with
 | none=>rfl
 | some u=>exact absurd (R6 (x.lt q) e) (SE _)
theorem HOk.kept (x:HOk P w H h) (k:∀ b u,h.get? b=some u->h'.get? b=some u):HOk P w H h':=fun a o e =>
 (x a o e).stay (fun b u _ q=>k b u q) (fun _ q=>q) fun _ _ q=>q
theorem HOk.laid (x:HOk P w H h) (k:∀ b u,h.get? b=some u->h'.get? b=some u) (hp:h.objs.size<=a) (new:ObjOk P w (upd H a o) h' a o):HOk P w (upd H a o) h':=fun b u e=>by
 have hn:=x.fresh hp;by_cases hb:b=a
 · subst hb;rw [ac] at e;cases e;exact new
 · rw [ar hb] at e;exact (x b u e).stay (fun c v _ q=>k c v q) (fun c q=>by rw [ar (aR q hn)];exact q) fun c xs q=>by rw [ar (aR q hn)];exact q
end
def Rd (H:Hp) (a:Rk) (u:HO):Prop:=H a=some u∨∃ o,H a=some (.frz o u)
theorem Rd.ok {P:RY} {w:Sj} {H:Hp} {h:SR} {a:Rk} {u:HO} (r:Rd H a u) (x:HOk P w H h):ObjOk P w H h a u:=by
 rcases r with r | ⟨o,r⟩
 · exact x a u r
 · obtain ⟨_,q⟩:=x a _ r;exact q
def Mut:Option HO->Prop
 | some (.lst _)=>True
 | some (.dK _)=>True
 | some (.dT _)=>True
 | some (.set _ _)=>True
 | some (.ins _ _ _)=>True
 | some (.ext _)=>True
 | _=>False
section
variable {P:RY} {w:Sj} {H:Hp} {h h':SR} {x e:Rk} {o':HO}
theorem HOk.write (ok:HOk P w H h) (mu:Mut (H x)) (he:e=x∨H e=some (.own x)) (k:∀ b u,b≠e->h.get? b=some u->h'.get? b=some u) (FI:∃ u,h'.get? e=some u)
 (new:ObjOk P w (upd H x o') h' x o'):HOk P w (upd H x o') h':=fun b u q=>by
 have Gf:∀ c y,H c=some (.own y)->c≠x:=fun c y r z=>by subst z;rw [r] at mu;exact mu
 have Jj:∀ c xs,H c=some (.tup xs)->c≠x:=fun c xs r z=>by subst z;rw [r] at mu;exact mu
 by_cases hb:b=x
 · subst hb;rw [ac] at q;cases q;exact new
 · rw [ar hb] at q;by_cases DZ:b=e
   · have q':H b=some (.own x):=by
      rcases he with z | z
      · exact absurd (DZ.trans z) hb
      · rw [DZ];exact z
     rw [q] at q';cases q';obtain ⟨v,hv⟩:=FI;exact ⟨v,by rw [DZ];exact hv⟩
   · refine (ok b u q).stay (fun c v hc r=>k c v ?_ r) (fun c r=>by rw [ar (Gf c b r)];exact r) fun c xs r=>by rw [ar (Jj c xs r)];exact r
     rcases hc with rfl | hc
     · exact DZ
     · rintro rfl;rcases he with z | z
       · exact Gf c b hc z
       · rw [hc] at z;cases z;exact hb rfl
end
structure Un (fs ex:List Rk) (H H':Hp) (h h':SR):Prop where
 keep:∀ b o,h.get? b=some o->H b=none->b∉fs->b∉ex->h'.get? b=some o
 slot:∀ b o,h.get? b=some o->H b=none->b∈fs->b∉ex->∃ sl,h'.get? b=some { o with slots:=sl }
 free:∀ b o,h.get? b=some o->H b=none->b∉ex->H' b=none
 there:∀ b o,h.get? b=some o->b∉ex->∃ o',h'.get? b=some o'
 tups:∀ b xs,H b=some (.tup xs)->H' b=some (.tup xs)
 frzs:∀ b o u,H b=some (.frz o u)->H' b=some (.frz o u)
 tbls:∀ b ps,H b=some (.tbl ps)->∃ more,H' b=some (.tbl (ps++more))
section
variable {fs FJ ex Ia:List Rk} {H H1 H2:Hp} {h h1 h2 h':SR} {a x e:Rk} {o:HO}
theorem Un.any (u:Un fs ex H H1 h h1) {b:Rk} {ob:TU} (q:h.get? b=some ob) (n:H b=none) (hx:b∉ex):∃ sl,h1.get? b=some { ob with slots:=sl }:=by
 by_cases hb:b∈fs
 · exact u.slot b ob q n hb hx
 · exact ⟨ob.slots,u.keep b ob q n hb hx⟩
theorem Un.kept (k:∀ b u,h.get? b=some u->h'.get? b=some u):Un fs ex H H h h' :=
 ⟨fun b ob q _ _ _=>k b ob q,fun b ob q _ _ _=>⟨ob.slots,k b ob q⟩,fun _ _ _ n _=>n,fun b ob q _=>⟨ob,k b ob q⟩,fun _ _ q=>q,fun _ _ _ q=>q,fun _ ps q=>⟨#[],by rw [q];simp⟩⟩
theorem Un.refl:Un fs ex H H h h:=Un.kept fun _ _ q=>q
theorem Un.laid (k:∀ b u,h.get? b=some u->h'.get? b=some u) (hp:h.objs.size<=a) (hn:H a=none):Un fs ex H (upd H a o) h h' where
 keep:=fun b u q _ _ _=>k b u q
 slot:=fun b u q _ _ _=>⟨u.slots,k b u q⟩
 free:=fun b u q n _=>by rw [ar (R7 (R6 (RG q) hp))];exact n
 there:=fun b u q _=>⟨u,k b u q⟩
 tups:=fun b xs q=>by rw [ar (aR q hn)];exact q
 frzs:=fun b u xs q=>by rw [ar (aR q hn)];exact q
 tbls:=fun b ps q=>⟨#[],by rw [ar (aR q hn),q];simp⟩
theorem Un.write (mu:Mut (H x)) (he:e=x∨H e=some (.own x)) (k:∀ b u,b≠e->h.get? b=some u->h'.get? b=some u) (FI:∃ u,h'.get? e=some u):Un fs ex H (upd H x o) h h':=by
 have hx:∀ b,H b=none->b≠x:=fun b n z=>by subst z;rw [n] at mu;exact mu
 have hb:∀ b,H b=none->b≠e:=fun b n z=>by
  subst z;rcases he with r | r
  · exact hx b n r
  · rw [n] at r;cases r
 have hm:∀ b u,H b=some u->¬ Mut (some u)->b≠x:=fun b u q nm z=>by subst z;rw [q] at mu;exact nm mu
 refine ⟨fun b u q n _ _=>k b u (hb b n) q,fun b u q n _ _=>⟨u.slots,k b u (hb b n) q⟩,fun b u q n _=>by rw [ar (hx b n)];exact n,fun b u q _=>?_,
  fun b xs q=>by rw [ar (hm b _ q fun z=>z)];exact q,fun b u xs q=>by rw [ar (hm b _ q fun z=>z)];exact q,fun b ps q=>⟨#[],by rw [ar (hm b _ q fun z=>z),q];simp⟩⟩
 by_cases DZ:b=e
 · subst DZ;exact FI
 · exact ⟨u,k b u DZ q⟩
end
def trk (h:SR) (H:Hp):List Rk:=(Sw h.objs.size).filter fun a=>(H a).isSome
def nP (h:SR) (H:Hp):SR:=PySem.W.hideAll h (trk h H)
theorem tU (h:SR) (H:Hp):(nP h H).objs.size=h.objs.size:=PySem.W.hideAll_size _ _
theorem vc {h:SR} {H:Hp} {b:Rk} {o:TU} (e:h.get? b=some o) (n:H b=none):(nP h H).get? b=some o :=
 PySem.W.hideAll_get _ e fun hm=>by
  have q:(H b).isSome=true:=(Vi.mp hm).2;rw [n] at q;simp at q
theorem wg {h:SR} {H:Hp} {b:Rk} {o:TU} (e:(nP h H).get? b=some o):h.get? b=some o/\H b=none:=by
 have e':h.get? b=some o:=PySem.W.of_hideAll (trk h H) e;refine ⟨e',?_⟩;cases q:H b with
 | none=>rfl
 | some x =>
   have hm:b∈trk h H:=Vi.mpr ⟨UK.mpr (RG e'),by simp [q]⟩;have z:(nP h H).get? b=none:=PySem.W.hideAll_none (trk h H) hm;rw [z] at e;cases e
end L2
namespace L2
open PySem PySem.Spec PyProof.Rows
structure Mod (K:Ri) (mg:Rz->Option Rl) (base:SR):Prop where
 kin:K.In base
 glob:base.Ns RV mg
 blt:∃ mb,base.Ns builtinsNs mb/\∀ x:Rz,x≠"__name__"->mb x=V3 x
 nolimit:base.NoLimit
set_option genInjectivity true in
structure Cx where
 prog:RY
 w:Sj
 K:Ri
 mg:Rz->Option Rl
 base:SR
 A:Sf
 N:List Rz
 s₀:Rn
 H₀:Hp
 env:WH
 outer:List WH
 stack:List WH
 ex:List Rk
 fn:Rz->Bool
 calm:Bool
 pn:List (Rk×TU)
 xe:Rl->Rn->Prop
def frs (l:List WH):List Rk:=l.filterMap (·.frame)
abbrev Cx.fs (X:Cx):List Rk:=frs X.outer
def Vis (sc:UD) (x:Rz):Prop:=sc.names.lookup x=some .local∨sc.names.lookup x=some .cell∨sc.names.lookup x=some .free
def Loc (sc:UD) (x:Rz):Prop:=sc.names.lookup x=some .local∨sc.names.lookup x=some .cell
def Look (env:WH) (h:SR) (m:Rz->Option Rl) (x:Rz) (u:Rl):Prop :=
 (env.kindOf x=some .local/\m x=some u)∨((env.kindOf x=some .cell∨env.kindOf x=some .free)/\∃ c,env.cells.lookup x=some c/\h.IsCell c (some u))
structure Cx.Ok (X:Cx):Prop where
 mod:Mod X.K X.mg X.base
 kind:X.env.scope.kind=.function
 glob:X.env.globals=RV
 blt:X.env.builtins=builtinsNs
 above:X.s₀.heap.objs.size<=X.env.locals
 inj:∀ x y c,X.env.cells.lookup x=some c->X.env.cells.lookup y=some c->x=y
 has:∀ x,(X.env.kindOf x=some .cell∨X.env.kindOf x=some .free)->∃ c,X.env.cells.lookup x=some c
 cab:∀ x c,X.fn x=true->X.env.cells.lookup x=some c->X.s₀.heap.objs.size<=c
 hd:X.calm=true->X.A.handled=none
 frames:X.A.frames=some X.stack
 stk:X.stack=X.outer∨(X.stack=X.env::X.outer/\X.env.frame=some X.env.locals)
 exf:∀ b∈X.ex,b≠X.env.locals/\∀ x c,X.env.cells.lookup x=some c->c≠b
 bs:∀ b o,X.base.get? b=some o->X.s₀.heap.get? b=some o/\X.H₀ b=none
 bsz:X.base.objs.size<=X.s₀.heap.objs.size
 noex:∀ b o,X.base.get? b=some o->b∉X.ex
 exfs:∀ b∈X.ex,b∉X.fs
 funs:X.s₀.heap.FunFrames X.base X.outer
 frf:∀ b∈X.fs,X.H₀ b=none
structure Inv (X:Cx) (pins:List (Rk×TU)) (σ:List (Option V)) (H:Hp) (s:Rn):Prop where
 ok:X.Ok
 os:s.os=X.s₀.os
 bare:W2 s.gens
 base:Un X.fs X.ex X.H₀ H X.s₀.heap s.heap
 loc:∃ m,s.heap.Ns X.env.locals m/\∀ (i:Nat) (x:Rz) (v:V),X.N[i]?=some x->σ[i]?=some (some v)->Vis X.env.scope x->∃ u,RelV v u/\Look X.env s.heap m x u
 cell:∀ x c,X.env.cells.lookup x=some c->∃ v,s.heap.IsCell c v
 free:H X.env.locals=none
 freeC:∀ x c,X.env.cells.lookup x=some c->H c=none
 pin:∀ p∈X.pn++pins,s.heap.get? p.1=some p.2/\H p.1=none/\p.1≠X.env.locals/\p.1∉X.fs/\∀ v,p.2.data≠.cell v
 hok:HOk X.prog X.w H s.heap
 len:σ.length=X.N.length
section
variable {X:Cx} {pins:List (Rk×TU)} {σ:List (Option V)} {H H':Hp} {s:Rn} {h':SR}
theorem Cx.Ok.nofr (ok:X.Ok) {b:Rk} {o:TU} (e:X.base.get? b=some o):b∉X.fs:=fun hb=>by
 have:=(ok.funs.mem hb).1;rw [e] at this;cases this
theorem Inv.bs (I:Inv X pins σ H s):∀ b o,X.base.get? b=some o->s.heap.get? b=some o/\H b=none:=fun b o e =>
 ⟨I.base.keep b o (I.ok.bs b o e).1 (I.ok.bs b o e).2 (I.ok.nofr e) (I.ok.noex b o e),I.base.free b o (I.ok.bs b o e).1 (I.ok.bs b o e).2 (I.ok.noex b o e)⟩
theorem Inv.bk (I:Inv X pins σ H s):∀ b o,X.base.get? b=some o->s.heap.get? b=some o:=fun b o e=>(I.bs b o e).1
theorem Inv.mod (I:Inv X pins σ H s):Mod X.K X.mg X.base:=I.ok.mod
theorem Inv.kIn (I:Inv X pins σ H s):X.K.In s.heap:=I.ok.mod.kin.keeps I.bk
theorem Inv.lt (I:Inv X pins σ H s):X.env.locals<s.heap.objs.size:=let ⟨_,hn,_⟩:=I.loc;hn.lt
theorem Inv.sz (I:Inv X pins σ H s):X.s₀.heap.objs.size<=s.heap.objs.size:=SO I.ok.above (Vu I.lt)
theorem Inv.nofs (I:Inv X pins σ H s) {a:Rk} (h:s.heap.objs.size<=a):a∉X.fs:=fun hb=>by
 obtain ⟨_,o,ho,_⟩:=I.ok.funs.mem hb;exact absurd (R6 (RG ho) (SO I.sz h)) (SE _)
theorem Inv.cne (I:Inv X pins σ H s):∀ x c,X.env.cells.lookup x=some c->c≠X.env.locals:=fun x c e z=>by
 obtain ⟨v,o,ho,hd⟩:=I.cell x c e;obtain ⟨m,⟨o',es,ep,Cd,Jk,_⟩,_⟩:=I.loc;rw [z,Cd] at ho;cases ho;rw [Jk] at hd;cases hd
theorem Inv.funs (I:Inv X pins σ H s):s.heap.FunFrames X.base X.outer:=by
 have all:∀ (l:List WH),(∀ b∈frs l,b∈X.fs)->X.s₀.heap.FunFrames X.base l->s.heap.FunFrames X.base l:=by
  intro l;induction l with
  | nil=>intro _ _;trivial
  | cons env r ih =>
    intro hs hl;obtain ⟨hk,⟨L,o,hf,hn,ho,hd⟩,hr⟩:=hl;have hL:L∈X.fs:=hs L (by unfold frs;rw [UJ,hf];exact Rr);obtain ⟨sl,e⟩:=I.base.slot L o ho (I.ok.frf L hL) hL fun z=>I.ok.exfs L z hL;exact ⟨hk,⟨L,_,hf,hn,e,hd⟩,ih (fun b hb=>hs b (by unfold frs;rw [UJ,hf];exact Rp _ hb)) hr⟩
 exact all X.outer (fun _ hb=>hb) I.ok.funs
theorem Inv.stack (I:Inv X pins σ H s):s.heap.FunFrames X.base X.stack:=by
 rcases I.ok.stk with e | ⟨e,hf⟩
 · rw [e];exact I.funs
 · rw [e];obtain ⟨m,hn,_⟩:=I.loc;refine .cons (by rw [I.ok.kind];decide) hf hn ?_ I.funs;exact Heap.get?_none_of_le (SO I.ok.bsz I.ok.above)
theorem Inv.stkSub (I:Inv X pins σ H s):∀ b∈frs X.stack,b∈X.env.locals::X.fs:=fun b hb=>by
 rcases I.ok.stk with e | ⟨e,hf⟩
 · rw [e] at hb;exact Rp _ hb
 · rw [e] at hb;unfold frs at hb;rw [UJ,hf] at hb;exact hb
theorem Inv.stkFree (I:Inv X pins σ H s):∀ b∈frs X.stack,H b=none:=fun b hb=>by
 rcases RA.mp (I.stkSub b hb) with e | hb
 · rw [e];exact I.free
 · obtain ⟨_,o,ho,_⟩:=I.ok.funs.mem hb;exact I.base.free b o ho (I.ok.frf b hb) fun z=>I.ok.exfs b z hb
theorem Inv.step {g':Array GenState} {t':Nat} {d':Drawn} {ch:List Rk} (I:Inv X pins σ H s)
 (D0:∀ b∈ch,(b∈X.ex∨X.s₀.heap.objs.size<=b)/\b≠X.env.locals/\(∀ x c,X.env.cells.lookup x=some c->c≠b)/\∀ p∈X.pn++pins,p.1≠b)
 (keep:∀ b o,b≠X.env.locals->b∉X.fs->b∉ch->s.heap.get? b=some o->H b=none->h'.get? b=some o)
 (slot:∀ b o,b≠X.env.locals->b∈X.fs->b∉ch->s.heap.get? b=some o->H b=none->∃ sl,h'.get? b=some { o with slots:=sl }) (free:∀ b o,b∉ch->s.heap.get? b=some o->H b=none->H' b=none)
 (there:∀ b o,b∉ch->s.heap.get? b=some o->∃ o',h'.get? b=some o')
 (tups:∀ b xs,H b=some (.tup xs)->H' b=some (.tup xs)) (frzs:∀ b o u,H b=some (.frz o u)->H' b=some (.frz o u)) (tbls:∀ b ps,H b=some (.tbl ps)->∃ more,H' b=some (.tbl (ps++more)))
 (ns:∀ m,s.heap.Ns X.env.locals m->h'.Ns X.env.locals m) (hok:HOk X.prog X.w H' h') (hg:W2 g') :
 Inv X pins σ H' { s with heap:=h',gens:=g',drawn:=d',toks:=t' }:=by
 have FK:∀ b o,X.s₀.heap.get? b=some o->b≠X.env.locals:=fun b o e=>R7 (R6 (RG e) I.ok.above)
 have EY:∀ b o,X.s₀.heap.get? b=some o->b∉X.ex->b∉ch:=fun b o e hx hb=>by
  rcases (D0 b hb).1 with z | z
  · exact hx z
  · exact absurd (R6 (RG e) z) (SE _)
 have cellK:∀ x c,X.env.cells.lookup x=some c->∀ v,s.heap.IsCell c v->h'.IsCell c v:=fun x c e v ⟨o,ho,hd⟩=>by
  have Gg:c∉ch:=fun z=>(D0 c z).2.2.1 x c e rfl;by_cases hc:c∈X.fs
  · obtain ⟨sl,q⟩:=slot c o (I.cne x c e) hc Gg ho (I.freeC x c e);exact ⟨_,q,hd⟩
  · exact ⟨o,keep c o (I.cne x c e) hc Gg ho (I.freeC x c e),hd⟩
 refine ⟨I.ok,I.os,hg,⟨fun b o e n hb hx=>?_,fun b o e n hb hx=>?_,fun b o e n hx=>?_,fun b o e hx=>?_,fun b xs e=>tups b xs (I.base.tups b xs e),fun b o xs e=>frzs b o xs (I.base.frzs b o xs e),fun b ps e=>?_⟩,?_,fun x c e=>?_,?_,fun x c e=>?_,fun p hp=>?_,hok,I.len⟩
 · exact keep b o (FK b o e) hb (EY b o e hx) (I.base.keep b o e n hb hx) (I.base.free b o e n hx)
 · obtain ⟨sl,e1⟩:=I.base.slot b o e n hb hx;obtain ⟨Jl,e2⟩:=slot b _ (FK b o e) hb (EY b o e hx) e1 (I.base.free b o e n hx);exact ⟨Jl,e2⟩
 · obtain ⟨o',e1⟩:=I.base.there b o e hx;exact free b o' (EY b o e hx) e1 (I.base.free b o e n hx)
 · obtain ⟨o',e1⟩:=I.base.there b o e hx;exact there b o' (EY b o e hx) e1
 · obtain ⟨m1,e1⟩:=I.base.tbls b ps e;obtain ⟨m2,e2⟩:=tbls b _ e1;exact ⟨m1++m2,by rw [e2,VY]⟩
 · obtain ⟨m,hn,hl⟩:=I.loc;refine ⟨m,ns m hn,fun i x v e1 e2 e3=>?_⟩;obtain ⟨u,r,l⟩:=hl i x v e1 e2 e3;refine ⟨u,r,?_⟩;rcases l with l | ⟨k,c,e,z⟩
   · exact .inl l
   · exact .inr ⟨k,c,e,cellK x c e _ z⟩
 · obtain ⟨v,z⟩:=I.cell x c e;exact ⟨v,cellK x c e v z⟩
 · obtain ⟨m,⟨o,_,_,ho,_⟩,_⟩:=I.loc;exact free _ o (fun z=>(D0 _ z).2.1 rfl) ho I.free
 · obtain ⟨v,o,ho,hd⟩:=I.cell x c e;exact free c o (fun z=>(D0 c z).2.2.1 x c e rfl) ho (I.freeC x c e)
 · obtain ⟨e,n,ne,nf,d⟩:=I.pin p hp;have Gg:p.1∉ch:=fun z=>(D0 p.1 z).2.2.2 p hp rfl;exact ⟨keep p.1 p.2 ne nf Gg e n,free p.1 p.2 Gg e n,ne,nf,d⟩
theorem Inv.un {t':Nat} (I:Inv X pins σ H s) (u:Un X.fs [] H H' s.heap h') (hok:HOk X.prog X.w H' h'):Inv X pins σ H' { s with heap:=h',toks:=t' }:=by
 obtain ⟨m,⟨o,es,ep,ho,r⟩,_⟩:=id I.loc;obtain ⟨sl,hL⟩:=u.any ho I.free (by simp)
 exact I.step (g':=s.gens) (d':=s.drawn) (ch:=[]) (fun _ z=>nomatch z) (fun b o _ hb _ e n=>u.keep b o e n hb (by simp)) (fun b o _ hb _ e n=>u.slot b o e n hb (by simp)) (fun b o _ e n=>u.free b o e n (by simp)) (fun b o _ e=>u.there b o e (by simp)) u.tups u.frzs u.tbls (fun m' hm=>by
  obtain ⟨o',Jm,Jn,Cd,r'⟩:=hm;rw [ho] at Cd;cases Cd;exact ⟨_,Jm,Jn,hL,r'⟩) hok I.bare
theorem Inv.call {g':Array GenState} {t':Nat} {d':Drawn} {ch:List Rk} (I:Inv X pins σ H s) (u:Un (frs X.stack) ch H H' s.heap h') (hok:HOk X.prog X.w H' h') (hg:W2 g')
 (D0:∀ b∈ch,(b∈X.ex∨X.s₀.heap.objs.size<=b)/\b≠X.env.locals/\(∀ x c,X.env.cells.lookup x=some c->c≠b)/\∀ p∈X.pn++pins,p.1≠b) :
 Inv X pins σ H' { s with heap:=h',gens:=g',drawn:=d',toks:=t' }:=by
 obtain ⟨m,⟨o,es,ep,ho,r⟩,_⟩:=id I.loc;obtain ⟨sl,hL⟩:=u.any ho I.free fun z=>(D0 _ z).2.1 rfl
 exact I.step (ch:=ch) D0 (fun b o hL hb hc e n=>u.keep b o e n (fun z=>(RA.mp (I.stkSub b z)).elim hL hb) hc) (fun b o _ _ hc e n=>u.any e n hc) (fun b o hc e n=>u.free b o e n hc) (fun b o hc e=>u.there b o e hc) u.tups u.frzs u.tbls (fun m' hm=>by
  obtain ⟨o',Jm,Jn,Cd,r'⟩:=hm;rw [ho] at Cd;cases Cd;exact ⟨_,Jm,Jn,hL,r'⟩) hok hg
theorem Inv.turned {t':Nat} {it:Rk} (I:Inv X pins σ H s) (k:∀ b o,b≠it->s.heap.get? b=some o->h'.get? b=some o) (hn:H it=none) (hL:it≠X.env.locals)
 (h1:it∈X.ex∨X.s₀.heap.objs.size<=it) (h2:∀ x c,X.env.cells.lookup x=some c->c≠it) (h3:∀ p∈X.pn++pins,p.1≠it):Inv X pins σ H { s with heap:=h',toks:=t' }:=by
 have Gh:∀ b u,H b=some u->b≠it:=fun b u e z=>by rw [z,hn] at e;cases e
 refine I.step (g':=s.gens) (d':=s.drawn) (ch:=[it]) (fun b hb=>?_) (fun b o _ _ hc e _=>k b o (fun z=>hc (by simp [z])) e) (fun b o _ _ hc e _=>⟨o.slots,k b o (fun z=>hc (by simp [z])) e⟩) (fun _ _ _ _ n=>n)
  (fun b o hc e=>⟨o,k b o (fun z=>hc (by simp [z])) e⟩) (fun _ _ e=>e) (fun _ _ _ e=>e) (fun b ps e=>⟨#[],by rw [e];simp⟩) (fun m hm=>?_) (fun b u e=>?_) I.bare
 · have e:b=it:=by simpa using hb
   subst e;exact ⟨h1,hL,h2,h3⟩
 · obtain ⟨o,es,ep,ho,r⟩:=hm;exact ⟨o,es,ep,k _ o (UG hL) ho,r⟩
 · refine (I.hok b u e).stay (fun c v hc q=>k c v ?_ q) (fun _ q=>q) fun _ _ q=>q;rcases hc with z | z
   · rw [z];exact Gh b u e
   · exact Gh c _ z
theorem Inv.tok (I:Inv X pins σ H s) (t:Nat):Inv X pins σ H { s with toks:=t }:=I.un (h':=s.heap) (t':=t) Un.refl I.hok
theorem Inv.kept {t':Nat} (I:Inv X pins σ H s) (k:∀ b u,s.heap.get? b=some u->h'.get? b=some u):Inv X pins σ H { s with heap:=h',toks:=t' }:=I.un (Un.kept k) (I.hok.kept k)
theorem Inv.laid {a:Rk} {o:HO} {t':Nat} (I:Inv X pins σ H s) (k:∀ b u,s.heap.get? b=some u->h'.get? b=some u) (hp:s.heap.objs.size<=a) (new:ObjOk X.prog X.w (upd H a o) h' a o) :
 Inv X pins σ (upd H a o) { s with heap:=h',toks:=t' }:=I.un (Un.laid k hp (I.hok.fresh hp)) (I.hok.laid k hp new)
theorem Inv.write {x e:Rk} {o:HO} {t':Nat} (I:Inv X pins σ H s) (mu:Mut (H x)) (he:e=x∨H e=some (.own x)) (k:∀ b u,b≠e->s.heap.get? b=some u->h'.get? b=some u) (FI:∃ u,h'.get? e=some u)
 (new:ObjOk X.prog X.w (upd H x o) h' x o):Inv X pins σ (upd H x o) { s with heap:=h',toks:=t' }:=I.un (Un.write mu he k FI) (I.hok.write mu he k FI new)
theorem Inv.weak {f':List (Option V)} (I:Inv X pins σ H s) (hl:f'.length=σ.length) (w:∀ (i:Nat) v,f'[i]?=some (some v)->σ[i]?=some (some v)):Inv X pins f' H s :=
 ⟨I.ok,I.os,I.bare,I.base,let ⟨m,hn,CO⟩:=I.loc;⟨m,hn,fun i x v e1 e2 e3=>CO i x v e1 (w i v e2) e3⟩,I.cell,I.free,I.freeC,I.pin,I.hok,hl.trans I.len⟩
theorem Inv.pins_of {Ax:List (Rk×TU)} (I:Inv X pins σ H s) (h:∀ p∈Ax,s.heap.get? p.1=some p.2/\H p.1=none/\p.1≠X.env.locals/\p.1∉X.fs/\∀ v,p.2.data≠.cell v):Inv X Ax σ H s :=
 ⟨I.ok,I.os,I.bare,I.base,I.loc,I.cell,I.free,I.freeC,fun p hp=>(RN.mp hp).elim (fun z=>I.pin p (Su _ z)) (h p),I.hok,I.len⟩
theorem e9 {N:List Rz} (hN:N.Nodup) {i j:Nat} {x:Rz} (a:N[i]?=some x) (b:N[j]?=some x):i=j:=by
 obtain ⟨h1,e1⟩:=Rv.mp a;obtain ⟨h2,e2⟩:=Rv.mp b;exact (List.getElem_inj hN).mp (e1.trans e2.symm)
theorem na {M:Model} {A:Sf} {E:Rl->Rn->Prop} {i:Nat} {x:Rz} {v:V} {u:Rl} {Q:Unit->Rn->Prop} (I:Inv X pins σ H s) (hN:X.N.Nodup) (hi:X.N[i]?=some x) (hx:Loc X.env.scope x) (r:RelV v u)
 (h:∀ s',Inv X pins (σ.set i (some v)) H s'->(∃ a,Ul a s.heap s'.heap/\(a=X.env.locals∨X.env.cells.lookup x=some a))->Q () s') (hf:X.fn x=true∨X.env.scope.names.lookup x=some .local:=by first | exact .inl rfl | exact .inr rfl | assumption):RL M A (storeName X.env x u) Q E s:=by
 obtain ⟨m,hn,hl⟩:=id I.loc;have BF:(X.env.scope.kind == .class || (X.env.scope.kind == .module && X.env.locals != X.env.globals))=false:=by rw [I.ok.kind];rfl
 have Cz:i<σ.length:=by rw [I.len];exact (Rv.mp hi).1
 have cne:=I.cne
 have tracked:∀ {a:Rk} {h':SR},(∃ o,s.heap.get? a=some o/\H a=none)->Ul a s.heap h'->HOk X.prog X.w H h':=fun {a h'} ha hs b ob e=>by
  obtain ⟨_,_,Ce⟩:=ha;refine (I.hok b ob e).stay (fun c w' hc q=>(hs.2 c ?_).trans q) (fun _ q=>q) fun _ _ q=>q;rintro rfl;rcases hc with rfl | hc
  · rw [Ce] at e;cases e
  · rw [Ce] at hc;cases hc
 rcases hx with hk | hk
 · refine wpAny_storeName_local hk hn (fun h' D2 hs=>?_) BF;obtain ⟨oL,_,_,Ib,_⟩:=id hn;refine h _ ⟨I.ok,I.os,I.bare,⟨fun b o e n hb hx=>?_,fun b o e n hb hx=>?_,I.base.free,fun b o e hx=>?_,I.base.tups,I.base.frzs,I.base.tbls⟩,⟨_,D2,fun j y v' e1 e2 e3=>?_⟩,fun y c e=>?_,I.free,I.freeC,fun p hp=>?_,tracked ⟨oL,Ib,I.free⟩ hs,by simpa using I.len⟩ ⟨_,hs,.inl rfl⟩
   · exact (hs.2 b (R7 (R6 (RG e) I.ok.above))).trans (I.base.keep b o e n hb hx)
   · obtain ⟨sl,e1⟩:=I.base.slot b o e n hb hx;exact ⟨sl,(hs.2 b (R7 (R6 (RG e) I.ok.above))).trans e1⟩
   · obtain ⟨o',e1⟩:=I.base.there b o e hx;exact ⟨o',(hs.2 b (R7 (R6 (RG e) I.ok.above))).trans e1⟩
   · by_cases hj:j=i
     · subst hj;rw [hi] at e1;cases e1;rw [TK Cz] at e2;cases e2;exact ⟨u,r,.inl ⟨hk,by simp⟩⟩
     · rw [T2 (UG hj)] at e2;obtain ⟨u',r',q⟩:=hl j y v' e1 e2 e3;refine ⟨u',r',?_⟩;rcases q with ⟨k,e⟩ | ⟨k,c,e,z⟩
       · refine .inl ⟨k,?_⟩;have:y≠x:=fun e=>hj (e9 hN e1 (e ▸ hi));simp [this,e]
       · exact .inr ⟨k,c,e,z.sameBut hs (cne y c e)⟩
   · obtain ⟨w',z⟩:=I.cell y c e;exact ⟨w',z.sameBut hs (cne y c e)⟩
   · obtain ⟨e,n,ne,nf,d⟩:=I.pin p hp;exact ⟨(hs.2 p.1 ne).trans e,n,ne,nf,d⟩
 · have EA:X.fn x=true:=by
    rcases hf with z | z
    · exact z
    · rw [z] at hk;cases hk
   obtain ⟨c,hc⟩:=I.ok.has x (.inl hk);obtain ⟨w',z⟩:=I.cell x c hc;refine wpAny_storeName_cell I.ok.kind hk hc z (fun h' BQ hs=>?_);obtain ⟨oc,D4,Jo⟩:=id z;refine h { s with heap:=h' } ⟨I.ok,I.os,I.bare,⟨fun b o e n hb hx=>?_,fun b o e n hb hx=>?_,I.base.free,fun b o e hx=>?_,I.base.tups,I.base.frzs,I.base.tbls⟩,⟨m,hn.sameBut hs (UG (cne x c hc)),fun j y v' e1 e2 e3=>?_⟩,fun y c' e=>?_,I.free,I.freeC,fun p hp=>?_,tracked ⟨oc,D4,I.freeC x c hc⟩ hs,by simpa using I.len⟩ ⟨c,hs,.inr hc⟩
   · exact (hs.2 b (R7 (R6 (RG e) (I.ok.cab x c EA hc)))).trans (I.base.keep b o e n hb hx)
   · obtain ⟨sl,e1⟩:=I.base.slot b o e n hb hx;exact ⟨sl,(hs.2 b (R7 (R6 (RG e) (I.ok.cab x c EA hc)))).trans e1⟩
   · obtain ⟨o',e1⟩:=I.base.there b o e hx;exact ⟨o',(hs.2 b (R7 (R6 (RG e) (I.ok.cab x c EA hc)))).trans e1⟩
   · by_cases hj:j=i
     · subst hj;rw [hi] at e1;cases e1;rw [TK Cz] at e2;cases e2;exact ⟨u,r,.inr ⟨.inl hk,c,hc,BQ⟩⟩
     · rw [T2 (UG hj)] at e2;obtain ⟨u',r',q⟩:=hl j y v' e1 e2 e3;refine ⟨u',r',?_⟩;rcases q with q | ⟨k,c',e,z'⟩
       · exact .inl q
       · refine .inr ⟨k,c',e,z'.sameBut hs ?_⟩;rintro rfl;exact hj (e9 hN e1 (I.ok.inj _ _ _ e hc ▸ hi))
   · by_cases Ic:c'=c
     · subst Ic;exact ⟨_,BQ⟩
     · obtain ⟨w2,z2⟩:=I.cell y c' e;exact ⟨w2,z2.sameBut hs Ic⟩
   · obtain ⟨e,n,ne,nf,d⟩:=I.pin p hp;refine ⟨(hs.2 p.1 ?_).trans e,n,ne,nf,d⟩;intro q;rw [q,D4] at e;have q':oc=p.2:=Ry e;exact d w' (by rw [<- q'];exact Jo)
theorem dX {M:Model} {A:Sf} {E:Rl->Rn->Prop} {i:Nat} {x:Rz} {v:V} {u:Rl} {Q:Unit->Rn->Prop} (I:Inv X pins σ H s) (hN:X.N.Nodup) (hi:X.N[i]?=some x) (hx:Loc X.env.scope x) (r:RelV v u)
 (h:∀ s',Inv X pins (σ.set i (some v)) H s'->Q () s') (hf:X.fn x=true∨X.env.scope.names.lookup x=some .local:=by first | exact .inl rfl | exact .inr rfl | assumption):RL M A (storeName X.env x u) Q E s :=
 na I hN hi hx r (fun s' I' _=>h s' I') hf
theorem Inv.call' {s':Rn} {ch:List Rk} (I:Inv X pins σ H s) (ho:s'.os=s.os) (u:Un (frs X.stack) ch H H' s.heap s'.heap) (hok:HOk X.prog X.w H' s'.heap) (hg:W2 s'.gens)
 (D0:∀ b∈ch,(b∈X.ex∨X.s₀.heap.objs.size<=b)/\b≠X.env.locals/\(∀ x c,X.env.cells.lookup x=some c->c≠b)/\∀ p∈X.pn++pins,p.1≠b):Inv X pins σ H' s':=by
 obtain ⟨h',g',d',t',o'⟩:=s';have e:o'=s.os:=ho;subst e;exact I.call (g':=g') (t':=t') (d':=d') u hok hg D0
end
abbrev XK:=Rl->Option Rk->Hp->Prop
abbrev St:=List (Option V)
abbrev VK:=V->Hp->Prop
abbrev TE:=St->Hp->VK->Prop
abbrev TT:=St->Hp->(Bool->Hp->Prop)->Prop
abbrev TA:=St->Hp->(List V->Hp->Prop)->Prop
structure Ends where
 nx:St->Hp->Prop
 rt:VK
 bk:St->Hp->Prop:=fun _ _=>False
 ct:St->Hp->Prop:=fun _ _=>False
abbrev TS:=Ends->St->Hp->Prop
def EP (X:Cx) (pins:List (Rk×TU)) (σ:St) (Q:VK) (u:Rl) (s':Rn):Prop:=∃ v H',Inv X pins σ H' s'/\RelV v u/\Q v H'
def TP (X:Cx) (pins:List (Rk×TU)) (σ:St) (Q:Bool->Hp->Prop) (b:Bool) (s':Rn):Prop:=∃ H',Inv X pins σ H' s'/\Q b H'
def AP (X:Cx) (pins:List (Rk×TU)) (σ:St) (Q:List V->Hp->Prop) (us:List Rl) (s':Rn):Prop:=∃ vs H',Inv X pins σ H' s'/\Vals vs us/\Q vs H'
def SP (X:Cx) (pins:List (Rk×TU)) (D:Ends) (f:Flow) (s':Rn):Prop :=
 match f with
 | .next=>∃ f' H',Inv X pins f' H' s'/\D.nx f' H'
 | .brk=>∃ f' H',Inv X pins f' H' s'/\D.bk f' H'
 | .cont=>∃ f' H',Inv X pins f' H' s'/\D.ct f' H'
 | .ret u=>∃ v f' H',Inv X pins f' H' s'/\RelV v u/\D.rt v H'
def PE (X:Cx) (e:SI) (t:TE):Prop :=
 ∀ (pins:List (Rk×TU)) (s:Rn) (σ:St) (H:Hp) (Q:VK),Inv X pins σ H s->t σ H Q->RL (RW X.prog X.w) X.A (TZ e X.env) (EP X pins σ Q) X.xe s
def PT (X:Cx) (e:SI) (t:TT):Prop :=
 ∀ (pins:List (Rk×TU)) (s:Rn) (σ:St) (H:Hp) (Q:Bool->Hp->Prop),Inv X pins σ H s->t σ H Q->RL (RW X.prog X.w) X.A (isTrue e X.env (TZ e X.env)) (TP X pins σ Q) X.xe s
def PW (X:Cx) (e:SI) (t:TT):Prop :=
 ∀ (whole:Sem Rl) (pins:List (Rk×TU)) (s:Rn) (σ:St) (H:Hp) (Q:Bool->Hp->Prop),Inv X pins σ H s->t σ H Q->RL (RW X.prog X.w) X.A (isTrue e X.env whole) (TP X pins σ Q) X.xe s
theorem PW.pt {X:Cx} {e:SI} {t:TT} (h:PW X e t):PT X e t:=h _
def PA (X:Cx) (es:List SI) (t:TA):Prop :=
 ∀ (pos:Vw) (pins:List (Rk×TU)) (s:Rn) (σ:St) (H:Hp) (Q:List V->Hp->Prop),Inv X pins σ H s->t σ H Q->RL (RW X.prog X.w) X.A (spliced (VI pos (Sq es X.env))) (AP X pins σ Q) X.xe s
def PS (X:Cx) (st:Tf) (t:TS):Prop :=
 ∀ (pins:List (Rk×TU)) (s:Rn) (σ:St) (H:Hp) (D:Ends),Inv X pins σ H s->t D σ H->RL (RW X.prog X.w) X.A (exec st X.env) (SP X pins D) X.xe s
def PSs (X:Cx) (st:List Tf) (t:TS):Prop :=
 ∀ (pins:List (Rk×TU)) (s:Rn) (σ:St) (H:Hp) (D:Ends),Inv X pins σ H s->t D σ H->RL (RW X.prog X.w) X.A (execs st X.env) (SP X pins D) X.xe s
theorem thn {α:Type} {t:Sem α} {Q Q':α->Rn->Prop} {M:Model} {A:Sf} {E:Rl->Rn->Prop} {s:Rn} (h:RL M A t Q E s) (hQ:∀ a s,Q a s->Q' a s):RL M A t Q' E s:=SA h hQ fun _ _ x=>x
end L2
namespace L2
open PySem PySem.Spec PyProof.Rows
section
variable {X:Cx}
inductive xN (i:Nat) (σ:St) (H:Hp) (Q:VK):Prop
 | mk (v:_) (Aq:σ[i]?=some (some v)) (Ar:Q v H):xN i σ H Q
def cj (i:Nat):TE:=xN i
def tC (v:V):TE:=fun _ H Q=>Q v H
theorem yc {i:Nat} {x:Rz} {pos:Vw} (hN:X.N[i]?=some x) (hv:Vis X.env.scope x) (hd:(x == ("__debug__":Rz))=false:=by decide) (C4:(x == ("__classdict__":Rz))=false:=by decide):PE X (.Name x pos) (cj i):=by
 intro pins s σ H Q I h;obtain ⟨v,e,h⟩:=h;obtain ⟨m,hn,hl⟩:=I.loc;obtain ⟨u,r,l⟩:=hl i x v hN e hv;have fin:EP X pins σ Q u s:=⟨v,H,I,r,h⟩;rcases l with ⟨hk,hm⟩ | ⟨hk,c,hc,CP⟩
 · exact WK (Vd I.ok.kind hk hn hm fin) hd
 · rcases hk with hk | hk
   · exact WK (wpAny_loadName_cell I.ok.kind hk hc CP fin) hd
   · exact WK (wpAny_loadName_free I.ok.kind hk hc CP fin C4) hd
theorem ag {i j pos}:PE X (.Constant (.int i) j pos) (tC (.int i)):=fun _ _ _ H _ I h=>wpAny_Constant_int ⟨.int i,H,I.tok _,⟨_,rfl⟩,h⟩
theorem dv {b j pos}:PE X (.Constant (.bool b) j pos) (tC (.bl b)):=fun _ _ _ H _ I h=>Constant_bool ⟨.bl b,H,I,rfl,h⟩
theorem ax {x j pos}:PE X (.Constant (.str x) j pos) (tC (.str x)):=fun _ _ _ H _ I h=>TF ⟨.str x,H,I.tok _,⟨_,rfl⟩,h⟩
def Gl (X:Cx) (x:Rz):Prop:=X.env.kindOf x=some .globalImplicit
theorem iY {E:Rl->Rn->Prop} {pins:List (Rk×TU)} {s:Rn} {σ:St} {H:Hp} {x:Rz} {u:Rl} {pos:Vw} {Q:Rl->Rn->Prop} (I:Inv X pins σ H s) (hg:Gl X x) (hm:X.mg x=some u) (h:Q u s)
 (hd:(x == ("__debug__":Rz))=false:=by decide):RL (RW X.prog X.w) X.A (TZ (.Name x pos) X.env) Q E s :=
 Wg I.ok.kind hg (Calls.loadGlobal_global (by rw [I.ok.glob];exact I.mod.glob.keeps I.bk) hm h) hd
theorem io {E:Rl->Rn->Prop} {pins:List (Rk×TU)} {s:Rn} {σ:St} {H:Hp} {x:Rz} {u:Rl} {pos:Vw} {Q:Rl->Rn->Prop} (I:Inv X pins σ H s) (hg:Gl X x) (hm:X.mg x=none) (hv:V3 x=some u) (h:Q u s)
 (hn:x≠"__name__":=by decide) (hd:(x == ("__debug__":Rz))=false:=by decide):RL (RW X.prog X.w) X.A (TZ (.Name x pos) X.env) Q E s:=by
 obtain ⟨mb,h1,h2⟩:=I.mod.blt;exact Wg I.ok.kind hg (Calls.loadGlobal_builtin (by rw [I.ok.glob];exact I.mod.glob.keeps I.bk) hm (by rw [I.ok.blt];exact h1.keeps I.bk) ((h2 x hn).trans hv) h) hd
theorem bW {x:Rz} {v:V} {u:Rl} {pos:Vw} (hg:Gl X x) (hm:X.mg x=some u) (r:RelV v u) (hd:(x == ("__debug__":Rz))=false:=by decide):PE X (.Name x pos) (tC v) :=
 fun _ _ _ H _ I h=>iY I hg hm ⟨v,H,I,r,h⟩ hd
theorem fb {x:Rz} {v:V} {u:Rl} {pos:Vw} (hg:Gl X x) (hm:X.mg x=none) (hv:V3 x=some u) (r:RelV v u) (hn:x≠"__name__":=by decide) (hd:(x == ("__debug__":Rz))=false:=by decide):PE X (.Name x pos) (tC v) :=
 fun _ _ _ H _ I h=>io I hg hm hv ⟨v,H,I,r,h⟩ hn hd
variable {a b:SI} {ta tb:TE} {pos:Vw}
variable {tA Ie:TT} {rest:List SI}
def aaB (t u:TT):TT:=fun σ H Q=>t σ H fun c H1=>if c=true then u σ H1 Q else Q false H1
def tOr (t u:TT):TT:=fun σ H Q=>t σ H fun c H1=>if c=true then Q true H1 else u σ H1 Q
def aac (t:TT):TT:=fun σ H Q=>t σ H fun c H1=>Q (!c) H1
theorem kL (ha:PT X a tA):PW X (.BoolOp .And [a] pos) tA:=by
 intro wh pins s σ H Q I h;refine isTrue_and (thn (ha pins s σ H Q I h) fun c s1 e=>?_);cases c with
 | true=>exact isTrue_and_nil e
 | false=>exact e
theorem eE (ha:PT X a tA):PW X (.BoolOp .Or [a] pos) tA:=by
 intro wh pins s σ H Q I h;refine isTrue_or (thn (ha pins s σ H Q I h) fun c s1 e=>?_);cases c with
 | false=>exact isTrue_or_nil e
 | true=>exact e
theorem pc (ha:PT X a tA) (hb:PW X (.BoolOp .And (b::rest) pos) Ie):PW X (.BoolOp .And (a::b::rest) pos) (aaB tA Ie):=by
 intro wh pins s σ H Q I h;refine isTrue_and (thn (ha pins s σ H _ I h) fun c s1 ⟨H1,I1,q1⟩=>?_);cases c with
 | true=>exact hb wh pins s1 σ H1 Q I1 q1
 | false=>exact ⟨H1,I1,q1⟩
theorem eR (ha:PT X a tA) (hb:PW X (.BoolOp .Or (b::rest) pos) Ie):PW X (.BoolOp .Or (a::b::rest) pos) (tOr tA Ie):=by
 intro wh pins s σ H Q I h;refine isTrue_or (thn (ha pins s σ H _ I h) fun c s1 ⟨H1,I1,q1⟩=>?_);cases c with
 | true=>exact ⟨H1,I1,q1⟩
 | false=>exact hb wh pins s1 σ H1 Q I1 q1
theorem cG (ha:PT X a tA):PT X (.UnaryOp .Not a pos) (aac tA):=by
 intro pins s σ H Q I h;exact isTrue_not (ha pins s σ H (fun c H1=>Q (!c) H1) I h)
def zO (ta tb:TE):TE:=fun σ H Q=>ta σ H fun x H1=>∃ c,x=.bl c/\if c=true then tb σ H1 Q else Q (.bl false) H1
def aag (ta tb:TE):TE:=fun σ H Q=>ta σ H fun x H1=>∃ c,x=.bl c/\if c=true then Q (.bl true) H1 else tb σ H1 Q
def yS (ta:TE):TE:=fun σ H Q=>ta σ H fun x H1=>∃ c,x=.bl c/\Q (.bl (!c)) H1
theorem fZ {op} {t:TE} (h:PE X a t):PE X (.BoolOp op [a] pos) t:=fun pins s σ H Q I hw=>BoolOp_one (h pins s σ H Q I hw)
theorem eH (ha:PE X a ta) (hb:PE X (.BoolOp .And (b::rest) pos) tb):PE X (.BoolOp .And (a::b::rest) pos) (zO ta tb):=by
 intro pins s σ H Q I h;refine BoolOp_and (thn (ha pins s σ H _ I h) fun v s1 ⟨x,H1,I1,r1,q1⟩=>?_);obtain ⟨c,rfl,q1⟩:=q1;cases r1;refine TR ?_;cases c with
 | true=>exact hb pins s1 σ H1 Q I1 q1
 | false=>exact ⟨.bl false,H1,I1,rfl,q1⟩
theorem zj (ha:PE X a ta) (hb:PE X (.BoolOp .Or (b::rest) pos) tb):PE X (.BoolOp .Or (a::b::rest) pos) (aag ta tb):=by
 intro pins s σ H Q I h;refine BoolOp_or (thn (ha pins s σ H _ I h) fun v s1 ⟨x,H1,I1,r1,q1⟩=>?_);obtain ⟨c,rfl,q1⟩:=q1;cases r1;refine TR ?_;cases c with
 | false=>exact hb pins s1 σ H1 Q I1 q1
 | true=>exact ⟨.bl true,H1,I1,rfl,q1⟩
theorem rg (ha:PE X a ta):PE X (.UnaryOp .Not a pos) (yS ta):=by
 intro pins s σ H Q I h;refine UnaryOp_ (thn (ha pins s σ H _ I h) fun v s1 ⟨x,H1,I1,r1,q1⟩=>?_);obtain ⟨c,rfl,q1⟩:=q1;cases r1;exact not_of (TR ⟨.bl (!c),H1,I1,rfl,q1⟩)
end
end L2
namespace L2
open PySem PySem.Spec PyProof.Rows
def SqL (K:Ri) (H:Hp) (a:Rk) (xs:List V):Prop :=
 Rd H a (.lst xs) ∨
  ∃ (o:TU) (its:Array Rl) (n:Nat),K.lookup a=some o/\o.cls=.type "list"/\o.dict=none/\o.data=.seq its n/\its.size<=RS/\Vals xs its.toList
def SqT (K:Ri) (H:Hp) (a:Rk) (xs:List V):Prop :=
 Rd H a (.tup xs) ∨
  ∃ (o:TU) (its:Array Rl) (n:Nat),K.lookup a=some o/\o.cls=.type "tuple"/\o.data=.seq its n/\its.size<=RS/\Vals xs its.toList
def aap:Rl->Option V
 | .none=>some .non
 | .bool b=>some (.bl b)
 | .int i _=>some (.int i)
 | .str x _=>some (.str x)
 | .bytes b _=>some (.byt b)
 | .float b _=>some (.flt b)
 | .ref a=>some (.ref a)
 | .type n=>some (.ty n)
 | _=>none
theorem RelV.abs {x:V} {u:Rl} (r:RelV x u):aap u=some x:=by
 cases x with
 | non=>cases r;rfl
 | bl _=>cases r;rfl
 | int _=>obtain ⟨t,rfl⟩:=r;rfl
 | str _=>obtain ⟨t,rfl⟩:=r;rfl
 | byt _=>obtain ⟨t,rfl⟩:=r;rfl
 | flt _=>obtain ⟨t,rfl⟩:=r;rfl
 | ref _=>cases r;rfl
 | ty _=>cases r;rfl
theorem RelV.inj {x y:V} {u:Rl} (r:RelV x u) (q:RelV y u):x=y:=Ry (r.abs.symm.trans q.abs)
theorem Vals.inj:∀ {xs ys:List V} {us:List Rl},Vals xs us->Vals ys us->xs=ys
 | _,_,_,.nil,.nil=>rfl
 | _,_,_,.cons r t,.cons r' t'=>by rw [r.inj r',Vals.inj t t']
section
variable {X:Cx} {pins:List (Rk×TU)} {σ:St} {H:Hp} {s:Rn} {a:Rk} {xs ys:List V}
theorem SqL.of {K:Ri} (h:H a=some (.lst xs)):SqL K H a xs:=.inl (.inl h)
theorem SqT.of {K:Ri} (h:H a=some (.tup xs)):SqT K H a xs:=.inl (.inl h)
theorem Inv.list (I:Inv X pins σ H s) (h:SqL X.K H a xs):∃ its:List Rl,Vals xs its/\PlainL s.heap a its.toArray/\xs.length<=RS:=by
 rcases h with h | ⟨o,its,n,hk,hc,hd,hs,hz,r⟩
 · obtain ⟨z,its,n,r,e⟩:=h.ok I.hok;exact ⟨its,r,⟨_,n,e,rfl,rfl,rfl⟩,z⟩
 · refine ⟨its.toList,r,⟨o,n,I.kIn a o hk,hc,hd,by simpa using hs⟩,?_⟩;have e:=r.length;simp only [RE] at e;omega
theorem Inv.tuple (I:Inv X pins σ H s) (h:SqT X.K H a xs):∃ its:List Rl,Vals xs its/\IsTup s.heap a its.toArray/\xs.length<=RS:=by
 rcases h with h | ⟨o,its,n,hk,hc,hs,hz,r⟩
 · obtain ⟨z,its,n,r,p⟩:=h.ok I.hok;exact ⟨its,r,⟨_,p,rfl,n,rfl⟩,z⟩
 · refine ⟨its.toList,r,⟨o,I.kIn a o hk,hc,n,by simpa using hs⟩,?_⟩;have e:=r.length;simp only [RE] at e;omega
theorem Inv.list_inj (I:Inv X pins σ H s) (h:SqL X.K H a xs) (h':SqL X.K H a ys):xs=ys:=by
 obtain ⟨its,r,⟨o,n,e,_,_,d⟩,_⟩:=I.list h;obtain ⟨its',r',⟨o',n',e',_,_,d'⟩,_⟩:=I.list h';rw [e] at e';cases e';rw [d] at d';injection d' with d1 _;have:its=its':=by simpa using congrArg Wk d1
 subst this;exact r.inj r'
theorem Inv.tuple_inj (I:Inv X pins σ H s) (h:SqT X.K H a xs) (h':SqT X.K H a ys):xs=ys:=by
 obtain ⟨its,r,⟨o,e,_,n,d⟩,_⟩:=I.tuple h;obtain ⟨its',r',⟨o',e',_,n',d'⟩,_⟩:=I.tuple h';rw [e] at e';cases e';rw [d] at d';injection d' with d1 _;have:its=its':=by simpa using congrArg Wk d1
 subst this;exact r.inj r'
end
abbrev Cx.wish (X:Cx) (E:Rl->Rn->Prop):Cx:={ X with xe:=E }
abbrev Cx.nox (X:Cx):Cx:=X.wish fun _ _=>False
theorem Cx.Ok.wish {X:Cx} (ok:X.Ok) (E:Rl->Rn->Prop):(X.wish E).Ok :=
 ⟨ok.mod,ok.kind,ok.glob,ok.blt,ok.above,ok.inj,ok.has,ok.cab,ok.hd,ok.frames,ok.stk,ok.exf,ok.bs,ok.bsz,ok.noex,ok.exfs,ok.funs,ok.frf⟩
theorem Cx.Ok.unwish {X:Cx} {E:Rl->Rn->Prop} (ok:(X.wish E).Ok):X.Ok :=
 ⟨ok.mod,ok.kind,ok.glob,ok.blt,ok.above,ok.inj,ok.has,ok.cab,ok.hd,ok.frames,ok.stk,ok.exf,ok.bs,ok.bsz,ok.noex,ok.exfs,ok.funs,ok.frf⟩
section
variable {X:Cx} {pins:List (Rk×TU)} {σ:St} {H:Hp} {s:Rn} {E:Rl->Rn->Prop}
theorem Inv.wish (I:Inv X pins σ H s) (E:Rl->Rn->Prop):Inv (X.wish E) pins σ H s:=⟨I.ok.wish E,I.os,I.bare,I.base,I.loc,I.cell,I.free,I.freeC,I.pin,I.hok,I.len⟩
theorem Inv.unwish (I:Inv (X.wish E) pins σ H s):Inv X pins σ H s:=⟨I.ok.unwish,I.os,I.bare,I.base,I.loc,I.cell,I.free,I.freeC,I.pin,I.hok,I.len⟩
theorem SP.unwish {D:Ends} {f:Flow} {s':Rn} (h:SP (X.wish E) pins D f s'):SP X pins D f s':=by
 cases f with
 | next=>obtain ⟨f',H',I,q⟩:=h;exact ⟨f',H',I.unwish,q⟩
 | brk=>obtain ⟨f',H',I,q⟩:=h;exact ⟨f',H',I.unwish,q⟩
 | cont=>obtain ⟨f',H',I,q⟩:=h;exact ⟨f',H',I.unwish,q⟩
 | ret u=>obtain ⟨v,f',H',I,r,q⟩:=h;exact ⟨v,f',H',I.unwish,r,q⟩
theorem PSs.nox {st:List Tf} {t:TS} (h:PSs X.nox st t):PSs X st t:=fun pins s σ H D I hw =>
 SA (h pins s σ H D (I.wish _) hw) (fun _ _ q=>q.unwish) fun _ _ z=>Tw z
end
section
variable {X:Cx} {st:Tf} {rest:List Tf} {t u:TS} {e:SI} {te:TE} {pos:Vw}
def dR:TS:=fun D σ H=>D.nx σ H
def rN (t u:TS):TS:=fun D σ H=>t { D with nx:=u D } σ H
theorem aE:PSs X [] dR:=fun _ _ σ H _ I h=>UY ⟨σ,H,I,h⟩
theorem af (h1:PS X st t) (h2:PSs X rest u):PSs X (st::rest) (rN t u):=by
 intro pins s σ H D I h;refine Vk (thn (h1 pins s σ H { D with nx:=u D } I h) fun f s1 q=>?_);cases f with
 | next =>
   obtain ⟨f',H',I',q⟩:=q;exact h2 pins s1 f' H' D I' q
 | ret v=>exact q
 | brk=>exact q
 | cont=>exact q
theorem ai (h1:PS X st t):PSs X [st] t:=by
 intro pins s σ H D I h;refine Vk (thn (h1 pins s σ H D I h) fun f s1 q=>?_);cases f with
 | next=>exact UY q
 | ret v=>exact q
 | brk=>exact q
 | cont=>exact q
theorem Inv.quiet {pins:List (Rk×TU)} {σ:St} {H:Hp} {s:Rn} (I:Inv X pins σ H s):interactive X.env=false:=by simp [interactive,I.ok.kind]
def uL (te:TE):TS:=fun D σ H=>te σ H fun _ H1=>D.nx σ H1
theorem bq (he:PE X e te) (hs:Wa e none pos.line X.env=pure false:=by rfl):PS X (.Expr e pos) (uL te):=by
 intro pins s σ H D I h;exact wpAny_Expr_any (thn (he pins s σ H _ I h) fun v s1 ⟨x,H1,I1,r1,q1⟩=>⟨σ,H1,I1,q1⟩) I.quiet hs
def aaz (te:TE):TS:=fun D σ H=>te σ H D.rt
theorem av (he:PE X e te):PS X (.Return (some e) pos) (aaz te):=by
 intro pins s σ H D I h;exact wpAny_Return_some (thn (he pins s σ H _ I h) fun v s1 ⟨x,H1,I1,r1,q1⟩=>⟨x,σ,H1,I1,r1,q1⟩)
def zn (c:TT) (t u:TS):TS:=fun D σ H=>c σ H fun b H1=>if b=true then t D σ H1 else u D σ H1
theorem aN {c:SI} {a b:List Tf} {tc:TT} (hc:PT X c tc) (ha:PSs X a t) (hb:PSs X b u):PS X (.If c a b pos) (zn tc t u):=by
 intro pins s σ H D I h;refine wpAny_If (thn (hc pins s σ H _ I h) fun d s1 ⟨H1,I1,q1⟩=>?_);cases d with
 | true=>exact ha pins s1 σ H1 D I1 q1
 | false=>exact hb pins s1 σ H1 D I1 q1
end
abbrev TG:=V->St->Hp->(St->Hp->Prop)->Prop
abbrev TGs:=List V->St->Hp->(St->Hp->Prop)->Prop
def PG (X:Cx) (target:SI) (t:TG):Prop :=
 ∀ (pins:List (Rk×TU)) (s:Rn) (σ:St) (H:Hp) (v:V) (u:Rl) (Q:St->Hp->Prop),Inv X pins σ H s->RelV v u->t v σ H Q →
   RL (RW X.prog X.w) X.A (Xb target X.env u) (fun _ s'=>∃ f' H',Inv X pins f' H' s'/\Q f' H') X.xe s
def PGs (X:Cx) (ts:List SI) (t:TGs):Prop :=
 ∀ (pins:List (Rk×TU)) (s:Rn) (σ:St) (H:Hp) (vs:List V) (us:List Rl) (Q:St->Hp->Prop),Inv X pins σ H s->Vals vs us->t vs σ H Q →
   RL (RW X.prog X.w) X.A (assignInOrder ((VR ts X.env).map (·.2)) us) (fun _ s'=>∃ f' H',Inv X pins f' H' s'/\Q f' H') X.xe s
abbrev v6:=V->V->V->Hp->(Hp->Prop)->Prop
def xW (X:Cx) (t:v6):Prop :=
 ∀ (pins:List (Rk×TU)) (s:Rn) (σ:St) (H:Hp) (o i v:V) (ov iv u:Rl) (Q:Hp->Prop),Inv X pins σ H s->RelV o ov->RelV i iv->RelV v u->t o i v H Q →
   RL (RW X.prog X.w) X.A (setItem ov iv u) (fun _ s'=>∃ H',Inv X pins σ H' s'/\Q H') X.xe s
abbrev TIp:=V->V->Hp->VK->Prop
def PIp (X:Cx) (op:Operator) (t:TIp):Prop :=
 ∀ (pins:List (Rk×TU)) (s:Rn) (σ:St) (H:Hp) (x y:V) (v u:Rl) (Q:VK),Inv X pins σ H s->RelV x v->RelV y u->t x y H Q →
   RL (RW X.prog X.w) X.A (inplaceOp op v u) (EP X pins σ Q) X.xe s
section
variable {X:Cx} {pos:Vw}
def aC (i:Nat):TG:=fun v σ H Q=>Q (σ.set i (some v)) H
theorem aD {i:Nat} {x:Rz} (hN:X.N.Nodup) (hi:X.N[i]?=some x) (hx:Loc X.env.scope x) (hf:X.fn x=true∨X.env.scope.names.lookup x=some .local:=by first | exact .inl rfl | exact .inr rfl | assumption):PG X (.Name x pos) (aC i):=by
 intro pins s σ H v u Q I r h;exact wpAny_assign_Name (dX I hN hi hx r (fun s' I'=>⟨_,H,I',h⟩) hf)
def aal:TGs:=fun vs σ H Q=>vs=[]/\Q σ H
def zq (t:TG) (u:TGs):TGs:=fun vs σ H Q=>∃ v r,vs=v::r/\t v σ H fun f' H'=>u r f' H' Q
theorem fk:PGs X [] aal:=by
 intro pins s σ H vs us Q I r h;obtain ⟨e,h⟩:=h;subst e;cases r;exact assignInOrder_nil ⟨σ,H,I,h⟩
theorem bK {e:SI} {es:List SI} {t:TG} {u:TGs} (h1:PG X e t) (h2:PGs X es u)
 (hs:(VR (e::es) X.env).map (·.2)=Xb e X.env::(VR es X.env).map (·.2):=by rfl):PGs X (e::es) (zq t u):=by
 intro pins s σ H vs us Q I r h;obtain ⟨v,vr,e1,h⟩:=h;subst e1;cases r with
 | cons r rr =>
   rw [hs];refine assignInOrder_cons (thn (h1 pins s σ H _ _ _ I r h) fun _ s1 ⟨AV,H1,I1,q1⟩=>?_);exact h2 pins s1 AV H1 _ _ Q I1 rr q1
def aaw (K:Ri) (n:Nat) (t:TGs):TG:=fun v σ H Q=>∃ a xs,v=.ref a/\SqT K H a xs/\xs.length=n/\t xs σ H Q
theorem jm {es:List SI} {k:Nat} {t:TGs} {n:Nat} (hc:X.calm=true) (h:PGs X es t)
 (hn:(VR es X.env).length=n:=by rfl) (AE:(VR es X.env).findIdx? (·.1)=none:=by rfl):PG X (.Tuple es k pos) (aaw X.K n t):=by
 intro pins s σ H v u Q I r hw;obtain ⟨a,xs,e1,hq,hl,hw⟩:=hw;subst e1;cases r;obtain ⟨its,rv,ht,hz⟩:=I.tuple hq;refine assign_Tuple_tuple (I.ok.hd hc) ht (by simp [hn,<- hl,rv.length]) AE fun h' hx=>?_;have I1:Inv X pins σ H { s with heap:=h' }:=I.kept (t':=s.toks) fun b o e=>hx b o (R7 (RG e)) e;exact h pins _ σ H xs _ Q I1 (by simpa using rv) hw
def aaf (to ti:TE) (t:v6):TG:=fun v σ H Q=>to σ H fun o H1=>ti σ H1 fun i H2=>t o i v H2 fun H3=>Q σ H3
theorem mC {o i:SI} {to ti:TE} {t:v6} (ho:PE X o to) (hi:PE X i ti) (hs:xW X t)
 (ha:∀ v,Xb (.Subscript o i pos) X.env v=(do
  let ov ← holding [v] (TZ o X.env)
  let iv ← holding [v,ov] (TZ i X.env)
  standAt pos
  holding [v,ov,iv] (setItem ov iv v)
  release [v,ov,iv] []):=by intro _;rfl):PG X (.Subscript o i pos) (aaf to ti t):=by
 intro pins s σ H v u Q I r h;rw [ha];refine Rj (Uo (thn (ho pins s σ H _ I h) fun ov s1 ⟨x,H1,I1,r1,q1⟩=>?_));refine Rj (Uo (thn (hi pins s1 σ H1 _ I1 q1) fun iv s2 ⟨y,H2,I2,r2,q2⟩=>?_));refine Rj (Wu (Rj (Uo (thn (hs pins s2 σ H2 x y v ov iv u _ I2 r1 r2 r q2) fun _ s3 ⟨H3,I3,q3⟩=>?_))));exact wpAny_release ⟨σ,H3,I3,q3⟩
def qV (te:TE) (g:TG):TS:=fun D σ H=>te σ H fun x H1=>g x σ H1 D.nx
theorem gf {tg e:SI} {te:TE} {g:TG} (he:PE X e te) (hg:PG X tg g) (hs:swapsWithSole [tg] e pos.line X.env=pure false:=by rfl) (hw:swappedStores [tg] e X.env=pure none:=by rfl)
 (h1:(VR [tg] X.env).map (·.2)=[Xb tg X.env]:=by rfl):PS X (.Assign [tg] e pos) (qV te g):=by
 intro pins s σ H D I h;refine wpAny_Assign_stores (thn (he pins s σ H _ I h) fun v s1 ⟨x,H1,I1,r1,q1⟩=>?_) hs hw;rw [h1];exact thn (hg pins s1 σ H1 x v _ I1 r1 q1) fun _ s2 q=>q
theorem ao {i:Nat} {x:Rz} {e:SI} {te:TE} {pos':Vw} (hN:X.N.Nodup) (hi:X.N[i]?=some x) (hx:Loc X.env.scope x) (he:PE X e te) (hs:Wa e (some (.Name x pos')) pos.line X.env=pure false:=by rfl) (hf:X.fn x=true∨X.env.scope.names.lookup x=some .local:=by first | exact .inl rfl | exact .inr rfl | assumption) :
 PS X (.Assign [.Name x pos'] e pos) (qV te (aC i)):=by
 intro pins s σ H D I h;refine Wm (thn (he pins s σ H _ I h) fun v s1 ⟨y,H1,I1,r1,q1⟩=>?_) hs;exact dX I1 hN hi hx r1 (fun s2 I2=>⟨_,H1,I2,q1⟩) hf
def aay (i:Nat) (te:TE) (ti:TIp):TS:=fun D σ H=>∃ x,σ[i]?=some (some x)/\te σ H fun y H1=>ti x y H1 fun z H2=>D.nx (σ.set i (some z)) H2
theorem qY {i:Nat} {x:Rz} {e:SI} {te:TE} {op:Operator} {ti:TIp} {pos':Vw} (hN:X.N.Nodup) (hi:X.N[i]?=some x) (hx:Loc X.env.scope x) (he:PE X e te) (ho:PIp X op ti) (hf:X.fn x=true∨X.env.scope.names.lookup x=some .local:=by first | exact .inl rfl | exact .inr rfl | assumption) :
 PS X (.AugAssign (.Name x pos') op e pos) (aay i te ti):=by
 intro pins s σ H D I h;obtain ⟨v,e1,h⟩:=h;obtain ⟨m,hn,hl⟩:=I.loc;have LV:Vis X.env.scope x:=by rcases hx with k | k;exact .inl k;exact .inr (.inl k)
 obtain ⟨u,r,l⟩:=hl i x v hi e1 LV;refine wpAny_AugAssign_Name ?_
 have go:RL (RW X.prog X.w) X.A (TZ e X.env) (fun w Bj=>RL (RW X.prog X.w) X.A (inplaceOp op u w) (fun r BG=>RL (RW X.prog X.w) X.A (storeName X.env x r) (fun _=>SP X pins D .next) X.xe BG) X.xe Bj) X.xe s:=by
  refine thn (he pins s σ H _ I h) fun w s1 ⟨y,H1,I1,r1,q1⟩=>?_;refine thn (ho pins s1 σ H1 v y u w _ I1 r r1 q1) fun z s2 ⟨zv,H2,I2,r2,q2⟩=>?_;exact dX I2 hN hi hx r2 (fun s3 I3=>⟨_,H2,I3,q2⟩) hf
 rcases l with ⟨hk,hm⟩ | ⟨hk,c,hc,CP⟩
 · exact Vd I.ok.kind hk hn hm go
 · rcases hk with hk | hk
   · exact wpAny_loadName_cell I.ok.kind hk hc CP go
   · rcases hx with k | k
     · have:X.env.scope.names.lookup x=some .free:=hk;rw [k] at this;cases this
     · have:X.env.scope.names.lookup x=some .free:=hk;rw [k] at this;cases this
def yY (to ti te:TE) (Ed:V->V->Hp->VK->Prop) (Ig:TIp) (Ee:v6):TS:=fun D σ H=>to σ H fun o H1=>ti σ H1 fun i H2=>Ed o i H2 fun x H3=>te σ H3 fun y H4=>Ig x y H4 fun z H5=>Ee o i z H5 fun H6=>D.nx σ H6
def zI (X:Cx) (t:V->V->Hp->VK->Prop):Prop :=
 ∀ (pins:List (Rk×TU)) (s:Rn) (σ:St) (H:Hp) (o i:V) (ov iv:Rl) (Q:VK),Inv X pins σ H s->RelV o ov->RelV i iv->t o i H Q →
   RL (RW X.prog X.w) X.A (WL ov iv) (EP X pins σ Q) X.xe s
theorem xk {o i e:SI} {to ti te:TE} {Ed:V->V->Hp->VK->Prop} {Ig:TIp} {Ee:v6} {op:Operator} {Ef:Vw} (ho:PE X o to) (hi:PE X i ti) (hg:zI X Ed) (he:PE X e te) (hp:PIp X op Ig) (hs:xW X Ee)
 (ha:∀ ov iv new,augStore i ov iv new=(do holding [new,ov,iv] (setItem ov iv new);release [new,ov,iv] [];pure .next):=by intros;rfl):PS X (.AugAssign (.Subscript o i Ef) op e pos) (yY to ti te Ed Ig Ee):=by
 intro pins s σ H D I h;refine wpAny_AugAssign_SubscriptAny (thn (ho pins s σ H _ I h) fun ov s1 ⟨x1,H1,I1,r1,q1⟩=>?_) ha;refine thn (hi pins s1 σ H1 _ I1 q1) fun iv s2 ⟨x2,H2,I2,r2,q2⟩=>?_;refine thn (hg pins s2 σ H2 x1 x2 ov iv _ I2 r1 r2 q2) fun old s3 ⟨x3,H3,I3,r3,q3⟩=>?_;refine thn (he pins s3 σ H3 _ I3 q3) fun v s4 ⟨x4,H4,I4,r4,q4⟩=>?_;refine thn (hp pins s4 σ H4 x3 x4 old v _ I4 r3 r4 q4) fun new s5 ⟨x5,H5,I5,r5,q5⟩=>?_;exact thn (hs pins s5 σ H5 x1 x2 x5 ov iv new _ I5 r1 r2 r5 q5) fun _ s6 ⟨H6,I6,q6⟩=>⟨σ,H6,I6,q6⟩
def ipI (f:Int->Int->Int):TIp:=fun x y H Q=>∃ i j,x=.int i/\y=.int j/\Q (.int (f i j)) H
theorem og:PIp X .Add (ipI fun i j=>i+j):=by
 intro pins s σ H x y v u Q I r1 r2 h;obtain ⟨i,j,e1,e2,q⟩:=h;subst e1;subst e2;obtain ⟨t,rfl⟩:=r1;obtain ⟨t',rfl⟩:=r2;exact iadd_int ⟨.int _,H,I.tok _,⟨_,rfl⟩,q⟩
end
section
variable {X:Cx} {pos:Vw}
def xX (c:TT) (tb:TS):TS:=fun D σ H=>∃ W:Nat->St->Hp->Prop,(∃ m,W m σ H)/\∀ m σ H,W m σ H →
 c σ H fun b H1=>if b=true then ∃ N:St->Hp->Prop,(∀ f' H',N f' H'->∃ m',m'<m/\W m' f' H')/\tb { D with nx:=N,ct:=N,bk:=D.nx } σ H1 else D.nx σ H1
theorem lY {c:SI} {body:List Tf} {tc:TT} {tb:TS} (hp:PassesOwn (RW X.prog X.w) X.A X.env X.xe) (hc:PT X c tc) (hb:PSs X body tb):PS X (.While c body [] pos) (xX tc tb):=by
 intro pins s σ H D I h;obtain ⟨W,⟨m0,w0⟩,turn⟩:=h;refine wpAny_While (codeAny_whileLoop (fun n s'=>∃ f' H',Inv X pins f' H' s'/\W n f' H') ?_ m0 ⟨σ,H,I,w0⟩);rintro n s1 ⟨AV,H1,I1,w1⟩;refine To hp (thn (hc pins s1 AV H1 _ I1 (turn n AV H1 w1)) fun b s2 ⟨H2,I2,q2⟩=>?_);cases b with
 | true =>
   obtain ⟨N,hN,q2⟩:=q2;rw [if_pos rfl];refine To hp (thn (hb pins s2 AV H2 _ I2 q2) fun f s3 q3=>?_);cases f with
   | next =>
     obtain ⟨Cf,H3,I3,n3⟩:=q3;obtain ⟨m',hm,w3⟩:=hN Cf H3 n3;exact ⟨m',hm,Cf,H3,I3,w3⟩
   | cont =>
     obtain ⟨Cf,H3,I3,n3⟩:=q3;obtain ⟨m',hm,w3⟩:=hN Cf H3 n3;exact ⟨m',hm,Cf,H3,I3,w3⟩
   | brk=>exact q3
   | ret v=>exact q3
 | false =>
   rw [if_neg RK];exact UY ⟨AV,H2,I2,q2⟩
end
structure It where
 go:Nat->Hp->Prop
 yld:Nat->Hp->V->Hp->Prop
 stop:Nat->Hp->Prop
def eQ (X:Cx) (pins:List (Rk×TU)) (H:Hp) (b:Rk):Prop :=
 H b=none/\b≠X.env.locals/\b∉X.fs/\(b∈X.ex∨X.s₀.heap.objs.size<=b)/\(∀ x c,X.env.cells.lookup x=some c->c≠b)/\∀ p∈X.pn++pins,p.1≠b
theorem Inv.fpOk {X:Cx} {pins:List (Rk×TU)} {σ:St} {H H':Hp} {s:Rn} {b:Rk} (I:Inv X pins σ H s) (hb:s.heap.objs.size<=b) (hn:H' b=none):eQ X pins H' b:=by
 refine ⟨hn,Uc (R6 I.lt hb),I.nofs hb,.inr (SO I.sz hb),fun x c e z=>?_,fun p hp z=>?_⟩
 · obtain ⟨v,q⟩:=I.cell x c e;exact absurd (R6 q.lt (by rw [z];exact hb)) (SE _)
 · exact absurd (R6 (RG (I.pin p hp).1) (by rw [z];exact hb)) (SE _)
structure Turn (P:RY) (w:Sj) (K:Ri) (tg:SI) (J:It) (fp:List Rk) (it:Rk) (tn:Nat->SR->Prop):Prop where
 mem:it∈fp
 obj:∀ i h,tn i h->∀ b∈fp,∃ o,h.get? b=some o/\∀ v,o.data≠.cell v
 keep:∀ i h h',tn i h->(∀ b∈fp,∀ o,h.get? b=some o->h'.get? b=some o)->tn i h'
 item:∀ (X:Cx),X.prog=P->X.w=w->X.K=K->X.calm=true->∀ (i:Nat) (pins:List (Rk×TU)) (s:Rn) (σ:St) (H:Hp) (E:Rl->Rn->Prop),Inv X pins σ H s->(∀ b∈fp,eQ X pins H b)->tn i s.heap->J.go i H →
  RL (RW P w) X.A (W8 (.ref it)) (fun r s1=>∃ u,r=some u ∧
   RL (RW P w) X.A (VZ tg (.ref it) u) (fun _ s2=>∃ x H',Inv X pins σ H' s2/\RelV x u/\J.yld i H x H'/\tn (i+1) s2.heap/\∀ b∈fp,H' b=none) E s1) E s
 done:∀ (X:Cx),X.prog=P->X.w=w->X.K=K->X.calm=true->∀ (i:Nat) (pins:List (Rk×TU)) (s:Rn) (σ:St) (H:Hp) (E:Rl->Rn->Prop),Inv X pins σ H s->(∀ b∈fp,eQ X pins H b)->tn i s.heap->J.stop i H →
  RL (RW P w) X.A (W8 (.ref it)) (fun r s1=>r=none/\Inv X pins σ H s1) E s
 self:∀ (A:Sf) (i:Nat) (s:Rn) (Q:Rl->Rn->Prop) (E:Rl->Rn->Prop),tn i s.heap->Q (.ref it) s->RL (RW P w) A (pyIter (.ref it)) Q E s
abbrev TI:=St->Hp->(It->Hp->Prop)->Prop
def PIE (X:Cx) (pins:List (Rk×TU)) (σ:St) (tg:SI) (R:It->Hp->Prop) (Gi:Rl) (s2:Rn):Prop :=
 ∃ (it:Rk) (fp:List Rk) (tn:Nat->SR->Prop) (J:It) (H':Hp),Gi=.ref it/\Inv X pins σ H' s2/\Turn X.prog X.w X.K tg J fp it tn/\tn 0 s2.heap/\(∀ b∈fp,eQ X pins H' b)/\R J H'
def PI (X:Cx) (tg iter:SI) (wi:TI):Prop :=
 ∀ (pins:List (Rk×TU)) (s:Rn) (σ:St) (H:Hp) (R:It->Hp->Prop),Inv X pins σ H s->wi σ H R →
   RL (RW X.prog X.w) X.A (TZ iter X.env) (fun v s1=>RL (RW X.prog X.w) X.A (pyIter v) (PIE X pins σ tg R) X.xe s1) X.xe s
theorem lm {M:Model} {A:Sf} {E:Rl->Rn->Prop} {s:Rn} {tg:SI} {it:Rk} {u:Rl} {o:TU} {n:String} {vs:Array Rl} {Q:Unit->Rn->Prop} (ho:s.heap.get? it=some o) (hc:o.cls=.type n) (hd:o.data=.fields vs)
 (hn:["enumerate","zip","dict_itemiterator","dict_reverseitemiterator","odict_iterator","itertools.zip_longest","itertools.pairwise"].contains n=false) (hQ:Q () s):RL M A (VZ tg (.ref it) u) Q E s:=by
 unfold VZ
 cases tg <;> first
  | exact RF hQ
  | (cases u <;> first
   | exact RF hQ
   | (refine Rj (wpAny_load ho ?_)
      rw [hc,hd];show RL M A (if (["enumerate","zip","dict_itemiterator","dict_reverseitemiterator","odict_iterator","itertools.zip_longest","itertools.pairwise"].contains n && vs[0]? == some (VQ _))=true then _ else _) Q E s;rw [if_neg (by intro h;rw [hn,WI] at h;cases h)];exact RF hQ))
def Itl (K:Ri) (a:Rk):It :=
 ⟨fun i H=>∃ xs x,SqL K H a xs/\xs[i]?=some x,fun i H x H'=>H'=H/\∀ xs,SqL K H a xs->xs[i]?=some x,fun i H=>∃ xs,SqL K H a xs/\xs.length<=i⟩
def Itt (K:Ri) (a:Rk):It :=
 ⟨fun i H=>∃ xs x,SqT K H a xs/\xs[i]?=some x,fun i H x H'=>H'=H/\∀ xs,SqT K H a xs->xs[i]?=some x,fun i H=>∃ xs,SqT K H a xs/\xs.length<=i⟩
def Itr (lo:Int) (n:Nat):It:=⟨fun i _=>i<n,fun i H x H'=>H'=H/\x=.int (lo+i),fun i _=>n<=i⟩
theorem nN {P:RY} {w:Sj} {K:Ri} {tg:SI} (a it:Rk):Turn P w K tg (Itl K a) [it] it (fun i h=>h.IsListIter it a i) where
 mem:=by simp
 obj:=fun i h st b hb=>by
  have e:b=it:=by simpa using hb
  subst e;obtain ⟨o,e,c,d⟩:=st;exact ⟨o,e,fun v z=>by rw [d] at z;cases z⟩
 keep:=fun i h h' st k=>st.at fun o e=>k it (by simp) o e
 item:=by
  intro X hP hw hK hc i pins s σ H E I hf st hg;subst hP hw hK;obtain ⟨xs,x,hq,hx⟩:=hg;obtain ⟨its,rv,p,hz⟩:=I.list hq;obtain ⟨u,hu,ru⟩:=rv.get hx;obtain ⟨f0,f1,f2,f3,f4,f5⟩:=hf it (by simp);refine wpAny_pyNext_list_item st p.isList (x:=u) (by simpa using hu) fun h' Bz sb=>?_;have I1:Inv X pins σ H { s with heap:=h' }:=I.turned (t':=s.toks) (fun b o hb e=>(sb.2 b hb).trans e) f0 f1 f3 f4 f5;obtain ⟨o,e,c,d⟩:=id Bz;exact ⟨u,rfl,lm (s:={ s with heap:=h' }) e c d (by decide) ⟨x,H,I1,ru,⟨rfl,fun ys hy=>by rw [I.list_inj hy hq];exact hx⟩,Bz,fun b hb=>(hf b hb).1⟩⟩
 done:=by
  intro X hP hw hK hc i pins s σ H E I hf st hg;subst hP hw hK;obtain ⟨xs,hq,hx⟩:=hg;obtain ⟨its,rv,p,hz⟩:=I.list hq;obtain ⟨f0,f1,f2,f3,f4,f5⟩:=hf it (by simp);have hl:=rv.length;exact wpAny_pyNext_list_end (I.ok.hd hc) st p.isList (by simp;omega) fun h' eb=>⟨rfl,I.turned (t':=s.toks) (fun b o hb e=>eb b o hb e) f0 f1 f3 f4 f5⟩
 self:=fun _ _ _ _ _ st h=>wpAny_pyIter_listiter st h
theorem lD {P:RY} {w:Sj} {K:Ri} {tg:SI} (a it:Rk):Turn P w K tg (Itt K a) [it] it (fun i h=>h.IsTupleIter it a i) where
 mem:=by simp
 obj:=fun i h st b hb=>by
  have e:b=it:=by simpa using hb
  subst e;obtain ⟨o,e,c,d⟩:=st;exact ⟨o,e,fun v z=>by rw [d] at z;cases z⟩
 keep:=fun i h h' st k=>st.at fun o e=>k it (by simp) o e
 item:=by
  intro X hP hw hK hc i pins s σ H E I hf st hg;subst hP hw hK;obtain ⟨xs,x,hq,hx⟩:=hg;obtain ⟨its,rv,p,hz⟩:=I.tuple hq;obtain ⟨u,hu,ru⟩:=rv.get hx;obtain ⟨f0,f1,f2,f3,f4,f5⟩:=hf it (by simp);refine wpAny_pyNext_tuple_item st (show s.heap.IsTuple a its.toArray from p) (x:=u) (by simpa using hu) fun h' Bz sb=>?_;have I1:Inv X pins σ H { s with heap:=h' }:=I.turned (t':=s.toks) (fun b o hb e=>(sb.2 b hb).trans e) f0 f1 f3 f4 f5;obtain ⟨o,e,c,d⟩:=id Bz;exact ⟨u,rfl,lm (s:={ s with heap:=h' }) e c d (by decide) ⟨x,H,I1,ru,⟨rfl,fun ys hy=>by rw [I.tuple_inj hy hq];exact hx⟩,Bz,fun b hb=>(hf b hb).1⟩⟩
 done:=by
  intro X hP hw hK hc i pins s σ H E I hf st hg;subst hP hw hK;obtain ⟨xs,hq,hx⟩:=hg;obtain ⟨its,rv,p,hz⟩:=I.tuple hq;obtain ⟨f0,f1,f2,f3,f4,f5⟩:=hf it (by simp);have hl:=rv.length;exact wpAny_pyNext_tuple_end (I.ok.hd hc) st (show s.heap.IsTuple a its.toArray from p) (by simp;omega) fun h' eb=>⟨rfl,I.turned (t':=s.toks) (fun b o hb e=>eb b o hb e) f0 f1 f3 f4 f5⟩
 self:=fun _ _ _ _ _ st h=>wpAny_pyIter_tupleiter st h
theorem rH {P:RY} {w:Sj} {K:Ri} {tg:SI} (it:Rk) (lo:Int) (n:Nat):Turn P w K tg (Itr lo n) [it] it (fun i h=>IsRangeIter h it (lo+(i:Nat) * 1) ((n:Int) - (i:Nat)) 1) where
 mem:=by simp
 obj:=fun i h st b hb=>by
  have e:b=it:=by simpa using hb
  subst e
  exact ⟨_,st,fun v z=>by
   have z':Data.fields _=Data.cell v:=z;cases z'⟩
 keep:=fun i h h' st k=>k it (by simp) _ st
 item:=by
  intro X hP hw hK hc i pins s σ H E I hf st hg;subst hP hw hK;obtain ⟨f0,f1,f2,f3,f4,f5⟩:=hf it (by simp);have W:=Walks.range (prog:=X.prog) (w:=X.w) (I.ok.hd hc) it lo 1 n;refine W.item i s _ _ hg st fun v h' tk hv Bz kk=>?_;obtain ⟨t,rfl⟩:=hv;have I1:Inv X pins σ H { s with heap:=h',toks:=tk }:=I.turned (fun b o hb e=>kk b o (by simpa using hb) e) f0 f1 f3 f4 f5;refine ⟨_,rfl,lm (s:={ s with heap:=h',toks:=tk }) (n:="range_iterator") Bz rfl rfl (by decide) ⟨.int (lo+i),H,I1,⟨t,?_⟩,⟨rfl,rfl⟩,Bz,fun b hb=>(hf b hb).1⟩⟩;rw [Int.mul_one]
 done:=by
  intro X hP hw hK hc i pins s σ H E I hf st hg;subst hP hw hK;obtain ⟨f0,f1,f2,f3,f4,f5⟩:=hf it (by simp);exact wpAny_pyNext_range_end (I.ok.hd hc) st (by have:n<=i:=hg;omega) fun h' eb=>⟨rfl,I.turned (t':=s.toks) (fun b o hb e=>eb b o hb e) f0 f1 f3 f4 f5⟩
 self:=fun _ _ _ _ _ st h=>wpAny_pyIter_rangeiter st h
end L2
namespace L2
open PySem PySem.Spec PyProof.Rows
section
variable {X:Cx} {tg:SI}
def zt (K:Ri) (tl:TE):TI:=fun σ H R=>tl σ H fun x H1=>∃ a,x=.ref a/\(∃ xs,SqL K H1 a xs)/\R (Itl K a) H1
def aaA (K:Ri) (tl:TE):TI:=fun σ H R=>tl σ H fun x H1=>∃ a,x=.ref a/\(∃ xs,SqT K H1 a xs)/\R (Itt K a) H1
theorem gE {l:SI} {tl:TE} (hl:PE X l tl):PI X tg l (zt X.K tl):=by
 intro pins s σ H R I h;refine thn (hl pins s σ H _ I h) fun v s1 ⟨x,H1,I1,r1,q1⟩=>?_;obtain ⟨a,e,⟨xs,hq⟩,q⟩:=q1;subst e;cases r1;obtain ⟨its,rv,p,hz⟩:=I1.list hq;refine Wl p.isList ?_;refine ⟨s1.heap.objs.size,[s1.heap.objs.size],_,_,H1,rfl,I1.kept (t':=s1.toks) fun b o e=>Ro _ e,nN a _,⟨_,RD _ rfl,rfl,rfl⟩,fun b hb=>?_,q⟩;have e:b=s1.heap.objs.size:=by simpa using hb
 subst e;exact I1.fpOk (Rq _) (I1.hok.fresh (Rq _))
theorem eL {l:SI} {tl:TE} (hl:PE X l tl):PI X tg l (aaA X.K tl):=by
 intro pins s σ H R I h;refine thn (hl pins s σ H _ I h) fun v s1 ⟨x,H1,I1,r1,q1⟩=>?_;obtain ⟨a,e,⟨xs,hq⟩,q⟩:=q1;subst e;cases r1;obtain ⟨its,rv,p,hz⟩:=I1.tuple hq;refine Wb (show s1.heap.IsTuple a its.toArray from p) ?_;refine ⟨s1.heap.objs.size,[s1.heap.objs.size],_,_,H1,rfl,I1.kept (t':=s1.toks) fun b o e=>Ro _ e,lD a _,⟨_,RD _ rfl,rfl,rfl⟩,fun b hb=>?_,q⟩;have e:b=s1.heap.objs.size:=by simpa using hb
 subst e;exact I1.fpOk (Rq _) (I1.hok.fresh (Rq _))
theorem uu {pins:List (Rk×TU)} {σ:St} {H:Hp} {s:Rn} {R:It->Hp->Prop} {E:Rl->Rn->Prop} {lo hi:Int} {t u v:Tok} {tk:Nat} (I:Inv X pins σ H s) (h1:-(2 ^ 62)<=lo) (h2:lo<2 ^ 62) (h3:-(2 ^ 62)<=hi) (h4:hi<2 ^ 62)
 (q:R (Itr lo (hi - lo).toNat) H):RL (RW X.prog X.w) X.A (pyIter (.ref s.heap.objs.size)) (PIE X pins σ tg R) E { s with heap:=s.heap.push { cls:=.type "range",data:=.fields #[.int lo t,.int hi u,.int 1 v] },toks:=tk }:=by
 refine wpAny_pyIter_range (IsRange.new ..) (small_one h1 h2 h3 h4) ?_;have I1:Inv X pins σ H { s with heap:=s.heap.push { cls:=.type "range",data:=.fields #[.int lo t,.int hi u,.int 1 v] },toks:=tk }:=I.kept fun b o e=>Ro _ e
 refine ⟨(s.heap.push { cls:=.type "range",data:=.fields #[.int lo t,.int hi u,.int 1 v] }).objs.size,[(s.heap.push { cls:=.type "range",data:=.fields #[.int lo t,.int hi u,.int 1 v] }).objs.size],_,_,H,rfl,
  I1.kept (t':=tk) fun b o e=>Ro _ e,rH _ lo (hi - lo).toNat,?_,fun b hb=>?_,q⟩
 · have e1:lo+((0:Nat):Int) * 1=lo:=by simp
   have e2:(((hi - lo).toNat:Nat):Int) - ((0:Nat):Int)=Builtin.Range.rangeSize lo hi 1:=by rw [rangeSize_one];split <;> omega
   show IsRangeIter _ _ (lo+((0:Nat):Int) * 1) ((((hi - lo).toNat:Nat):Int) - ((0:Nat):Int)) 1;rw [e1,e2];exact RD _ rfl
 · have e:b=(s.heap.push { cls:=.type "range",data:=.fields #[.int lo t,.int hi u,.int 1 v] }).objs.size:=by simpa using hb
   subst e;exact I1.fpOk (Rq _) (I1.hok.fresh (Rq _))
def zR (ta:TA):TI:=fun σ H R=>ta σ H fun vs H1=>∃ j:Int,vs=[.int j]/\-(2 ^ 62)<=j/\j<2 ^ 62/\R (Itr 0 j.toNat) H1
theorem bO {a:SI} {ta:TA} {p pos:Vw} (hg:Gl X "range") (hm:X.mg "range"=none) (ha:PA X [a] ta) (hs:Sq [a] X.env=[(false,TZ a X.env)]:=by rfl):PI X tg (.Call (.Name "range" p) [a] [] pos) (zR ta):=by
 intro pins s σ H R I h;refine Call_ (io I hg hm boot_range (Ub (thn (ha pos pins s σ H _ I h) fun us s1 ⟨vs,H1,I1,r1,q1⟩=>?_) hs rfl));obtain ⟨j,e,q1,q2,q⟩:=q1;subst e;cases r1 with
 | cons r rr =>
   cases rr;obtain ⟨t,rfl⟩:=r;exact call_range_1 (uu I1 (by omega) (by omega) q1 q2 (by simpa using q))
def aav (wi:TI) (g:TG) (tb:TS):TS:=fun D σ H=>wi σ H fun J H1=>∃ W:Nat->Nat->St->Hp->Prop,(∃ m,W 0 m σ H1)/\∀ i m σ H,W i m σ H →
 (J.stop i H/\D.nx σ H)∨(J.go i H/\∃ N:St->Hp->Prop,(∀ f' H',N f' H'->∃ m',m'<m/\W (i+1) m' f' H')/\∀ x H',J.yld i H x H'->g x σ H' fun Ay H2=>tb { D with nx:=N,ct:=N,bk:=D.nx } Ay H2)
def iJ (fp:List Rk) (h:SR):List (Rk×TU):=fp.filterMap fun b=>(h.get? b).map fun o=>(b,o)
theorem cw {fp:List Rk} {h:SR} {b:Rk} {o:TU} (hb:b∈fp) (e:h.get? b=some o):(b,o)∈iJ fp h:=VX.mpr ⟨b,hb,by rw [e];rfl⟩
theorem tB {fp:List Rk} {h:SR} {p:Rk×TU} (hp:p∈iJ fp h):p.1∈fp/\h.get? p.1=some p.2:=by
 obtain ⟨b,hb,e⟩:=VX.mp hp;cases q:h.get? b with
 | none=>rw [q] at e;cases e
 | some o =>
   rw [q] at e;have e':(b,o)=p:=Ry e;subst e';exact ⟨hb,q⟩
theorem Inv.pinned {pins:List (Rk×TU)} {σ:St} {H:Hp} {s:Rn} {fp:List Rk} (I:Inv X pins σ H s) (hf:∀ b∈fp,eQ X pins H b) (ho:∀ b∈fp,∃ o,s.heap.get? b=some o/\∀ v,o.data≠.cell v):Inv X (pins++iJ fp s.heap) σ H s :=
 I.pins_of fun p hp=>(RN.mp hp).elim (fun z=>I.pin p (RI _ z)) fun z=>by
  obtain ⟨hb,e⟩:=tB z;obtain ⟨f0,f1,f2,_⟩:=hf p.1 hb;obtain ⟨o,e',d⟩:=ho p.1 hb;rw [e] at e';cases e';exact ⟨e,f0,f1,f2,d⟩
theorem Inv.unpinned {pins pl:List (Rk×TU)} {σ:St} {H:Hp} {s:Rn} (I:Inv X (pins++pl) σ H s):Inv X pins σ H s:=I.pins_of fun p hp=>I.pin p (RI _ (Su _ hp))
theorem cf {iter:SI} {body:List Tf} {wi:TI} {g:TG} {tb:TS} {pos:Vw} (hp:PassesOwn (RW X.prog X.w) X.A X.env X.xe) (hc:X.calm=true) (hi:PI X tg iter wi) (hg:PG X tg g) (hb:PSs X body tb)
 (hs:∀ x,VH iter X.env x=pure x:=by intro _;rfl):PS X (.For tg iter body [] pos) (aav wi g tb):=by
 intro pins s σ H D I h;refine wpAny_For (thn (hi pins s σ H _ I h) fun v s1 h1=>thn h1 fun Gi s2 h2=>?_) hs;obtain ⟨it,fp,tn,J,H2,e,I2,T,Eg,f2,W,⟨m0,w0⟩,turn⟩:=h2;subst e
 -- EX stays true of C3 EZ objects through C3 loop
 have Bg:∀ {H':Hp},(∀ b∈fp,H' b=none)->∀ b∈fp,eQ X pins H' b:=fun hn b hb=>⟨hn b hb,(f2 b hb).2⟩;refine codeAny_forLoop_any (fun n s'=>∃ i f' H',Inv X pins f' H' s'/\tn i s'.heap/\(∀ b∈fp,H' b=none)/\W i n f' H') ?_ m0 ⟨0,σ,H2,I2,Eg,fun b hb=>(f2 b hb).1,w0⟩;rintro n s3 ⟨i,Cf,H3,I3,Gj,FL,w3⟩;rcases turn i n Cf H3 w3 with ⟨stop,qn⟩ | ⟨go,N,hN,step⟩
 · refine To hp (thn (T.done X rfl rfl rfl hc i pins s3 Cf H3 X.xe I3 (Bg FL) Gj stop) fun r s4 ⟨hr,I4⟩=>?_);subst hr;exact UY ⟨Cf,H3,I4,qn⟩
 · refine To hp (thn (T.item X rfl rfl rfl hc i pins s3 Cf H3 X.xe I3 (Bg FL) Gj go) fun r s4 ⟨u,hr,h4⟩=>?_);subst hr;refine To hp (thn h4 fun _ s5 ⟨x,H5,I5,r5,y5,Dw,E1⟩=>?_);have Jp:=I5.pinned (Bg E1) (T.obj _ _ Dw);refine To hp (thn (hg _ s5 Cf H5 x u _ Jp r5 (step x H5 y5)) fun _ s6 ⟨NP,H6,I6,q6⟩=>?_);refine To hp (thn (hb _ s6 NP H6 _ I6 q6) fun f s7 q7=>?_)
   have again:∀ {BR:St} {H7:Hp},Inv X (pins++iJ fp s5.heap) BR H7 s7->N BR H7->∃ m,m<n/\∃ i f' H',Inv X pins f' H' s7/\tn i s7.heap/\(∀ b∈fp,H' b=none)/\W i m f' H':=fun {BR H7} I7 n7=>by
    obtain ⟨m',hm,w7⟩:=hN BR H7 n7;refine ⟨m',hm,i+1,BR,H7,I7.unpinned,T.keep _ _ _ Dw fun b hb o e=>(I7.pin (b,o) (RI _ (RI _ (cw hb e)))).1,fun b hb=>?_,w7⟩;obtain ⟨o,e,d⟩:=T.obj _ _ Dw b hb;exact (I7.pin (b,o) (RI _ (RI _ (cw hb e)))).2.1
   cases f with
   | next=>obtain ⟨BR,H7,I7,n7⟩:=q7;exact again I7 n7
   | cont=>obtain ⟨BR,H7,I7,n7⟩:=q7;exact again I7 n7
   | brk=>obtain ⟨BR,H7,I7,q7⟩:=q7;exact ⟨BR,H7,I7.unpinned,q7⟩
   | ret v=>obtain ⟨x7,BR,H7,I7,r7,q7⟩:=q7;exact ⟨x7,BR,H7,I7.unpinned,r7,q7⟩
end
theorem pD {K:Ri} {a:Rk} {xs:List V} {g:TG} {tb:TS} {D:Ends} {σ:St} {H:Hp} (Pv:Nat->St->Hp->Prop) (h0:Pv 0 σ H) (hl:∀ i σ H,i<=xs.length->Pv i σ H->SqL K H a xs)
 (hs:∀ i x σ H,xs[i]?=some x->Pv i σ H->g x σ H fun Ay H2=>tb { D with nx:=Pv (i+1),ct:=Pv (i+1),bk:=D.nx } Ay H2) (hd:∀ σ H,Pv xs.length σ H->D.nx σ H) :
 ∃ W:Nat->Nat->St->Hp->Prop,(∃ m,W 0 m σ H)/\∀ i m σ H,W i m σ H →
   ((Itl K a).stop i H/\D.nx σ H)∨((Itl K a).go i H/\∃ N:St->Hp->Prop,(∀ f' H',N f' H'->∃ m',m'<m/\W (i+1) m' f' H')/\∀ x H',(Itl K a).yld i H x H'->g x σ H' fun Ay H2=>tb { D with nx:=N,ct:=N,bk:=D.nx } Ay H2):=by
 refine ⟨fun i m σ H=>m=xs.length - i/\i<=xs.length/\Pv i σ H,⟨xs.length,by simp,Sk _,h0⟩,?_⟩;rintro i m σ H ⟨rfl,hi,p⟩;have q:=hl i σ H hi p;by_cases AH:i<xs.length
 · refine .inr ⟨⟨xs,xs[i],q,by simp [AH]⟩,Pv (i+1),fun f' H' p'=>⟨xs.length - (i+1),by omega,rfl,AH,p'⟩,fun x H' y=>?_⟩;obtain ⟨e,y⟩:=y;subst e;exact hs i x σ _ (y xs q) p
 · have e:i=xs.length:=by omega
   subst e;exact .inl ⟨⟨xs,q,Rq _⟩,hd σ H p⟩
theorem oO {K:Ri} {a:Rk} {xs:List V} {g:TG} {tb:TS} {D:Ends} {σ:St} {H:Hp} (Pv:Nat->St->Hp->Prop) (h0:Pv 0 σ H) (hl:∀ i σ H,i<=xs.length->Pv i σ H->SqT K H a xs)
 (hs:∀ i x σ H,xs[i]?=some x->Pv i σ H->g x σ H fun Ay H2=>tb { D with nx:=Pv (i+1),ct:=Pv (i+1),bk:=D.nx } Ay H2) (hd:∀ σ H,Pv xs.length σ H->D.nx σ H) :
 ∃ W:Nat->Nat->St->Hp->Prop,(∃ m,W 0 m σ H)/\∀ i m σ H,W i m σ H →
   ((Itt K a).stop i H/\D.nx σ H)∨((Itt K a).go i H/\∃ N:St->Hp->Prop,(∀ f' H',N f' H'->∃ m',m'<m/\W (i+1) m' f' H')/\∀ x H',(Itt K a).yld i H x H'->g x σ H' fun Ay H2=>tb { D with nx:=N,ct:=N,bk:=D.nx } Ay H2):=by
 refine ⟨fun i m σ H=>m=xs.length - i/\i<=xs.length/\Pv i σ H,⟨xs.length,by simp,Sk _,h0⟩,?_⟩;rintro i m σ H ⟨rfl,hi,p⟩;have q:=hl i σ H hi p;by_cases AH:i<xs.length
 · refine .inr ⟨⟨xs,xs[i],q,by simp [AH]⟩,Pv (i+1),fun f' H' p'=>⟨xs.length - (i+1),by omega,rfl,AH,p'⟩,fun x H' y=>?_⟩;obtain ⟨e,y⟩:=y;subst e;exact hs i x σ _ (y xs q) p
 · have e:i=xs.length:=by omega
   subst e;exact .inl ⟨⟨xs,q,Rq _⟩,hd σ H p⟩
theorem b8 {lo:Int} {n:Nat} {g:TG} {tb:TS} {D:Ends} {σ:St} {H:Hp} (Pv:Nat->St->Hp->Prop) (h0:Pv 0 σ H)
 (hs:∀ i σ H,i<n->Pv i σ H->g (.int (lo+i)) σ H fun Ay H2=>tb { D with nx:=Pv (i+1),ct:=Pv (i+1),bk:=D.nx } Ay H2) (hd:∀ σ H,Pv n σ H->D.nx σ H) :
 ∃ W:Nat->Nat->St->Hp->Prop,(∃ m,W 0 m σ H)/\∀ i m σ H,W i m σ H →
   ((Itr lo n).stop i H/\D.nx σ H)∨((Itr lo n).go i H/\∃ N:St->Hp->Prop,(∀ f' H',N f' H'->∃ m',m'<m/\W (i+1) m' f' H')/\∀ x H',(Itr lo n).yld i H x H'->g x σ H' fun Ay H2=>tb { D with nx:=N,ct:=N,bk:=D.nx } Ay H2):=by
 refine ⟨fun i m σ H=>m=n - i/\i<=n/\Pv i σ H,⟨n,by simp,Sk _,h0⟩,?_⟩;rintro i m σ H ⟨rfl,hi,p⟩;by_cases AH:i<n
 · refine .inr ⟨AH,Pv (i+1),fun f' H' p'=>⟨n - (i+1),by omega,rfl,AH,p'⟩,fun x H' y=>?_⟩;obtain ⟨e,y⟩:=y;subst e y;exact hs i σ _ AH p
 · have e:i=n:=by omega
   subst e;exact .inl ⟨Rq _,hd σ H p⟩
end L2
namespace L2
open PySem PySem.Spec PyProof.Rows
abbrev R2:=V->V->Hp->VK->Prop
def OpR (X:Cx) (f:Rl->Rl->Sem Rl) (r:R2):Prop :=
 ∀ (pins:List (Rk×TU)) (s:Rn) (σ:St) (H:Hp) (x y:V) (v u:Rl) (Q:VK),Inv X pins σ H s->RelV x v->RelV y u->r x y H Q →
   RL (RW X.prog X.w) X.A (f v u) (EP X pins σ Q) X.xe s
def UnR (X:Cx) (f:Rl->Sem Rl) (r:V->Hp->VK->Prop):Prop :=
 ∀ (pins:List (Rk×TU)) (s:Rn) (σ:St) (H:Hp) (x:V) (v:Rl) (Q:VK),Inv X pins σ H s->RelV x v->r x H Q →
   RL (RW X.prog X.w) X.A (f v) (EP X pins σ Q) X.xe s
def ej (X:Cx) (f:Rl) (r:List V->Hp->VK->Prop):Prop :=
 ∀ (pins:List (Rk×TU)) (s:Rn) (σ:St) (H:Hp) (xs:List V) (us:List Rl) (Q:VK),Inv X pins σ H s->Vals xs us->r xs H Q →
   RL (RW X.prog X.w) X.A (call f us) (EP X pins σ Q) X.xe s
def aar (X:Cx) (r:V->Hp->(Bool->Hp->Prop)->Prop):Prop :=
 ∀ (pins:List (Rk×TU)) (s:Rn) (σ:St) (H:Hp) (x:V) (v:Rl) (Q:Bool->Hp->Prop),Inv X pins σ H s->RelV x v->r x H Q →
   RL (RW X.prog X.w) X.A (truthy v) (TP X pins σ Q) X.xe s
def tOp (r:R2) (ta tb:TE):TE:=fun σ H Q=>ta σ H fun x H1=>tb σ H1 fun y H2=>r x y H2 Q
def tUn (r:V->Hp->VK->Prop) (ta:TE):TE:=fun σ H Q=>ta σ H fun x H1=>r x H1 Q
inductive IrI (C:Int->Int->Prop) (g:Int->Int->V) (x:V) (y:V) (H:Hp) (Q:VK):Prop
 | mk (i:_) (j:_) (Aq:x=.int i) (Ar:y=.int j) (AB:C i j) (AQ:Q (g i j) H):IrI C g x y H Q
def rI (C:Int->Int->Prop) (g:Int->Int->V):R2:=IrI C g
inductive zm (g:Int->Int->V) (x:V) (y:V) (H:Hp) (Q:VK):Prop
 | mk (i:_) (j:_) (Aq:x=.int i) (Ar:y=.int j) (AB:Q (g i j) H):zm g x y H Q
def rI0 (g:Int->Int->V):R2:=zm g
inductive IrU (g:Int->V) (x:V) (H:Hp) (Q:VK):Prop
 | mk (i:_) (Aq:x=.int i) (Ar:Q (g i) H):IrU g x H Q
def rU (g:Int->V):V->Hp->VK->Prop:=IrU g
section
variable {X:Cx} {a b c:SI} {ta tb tc:TE} {pos:Vw}
theorem yu (ha:PE X a ta) (hb:PE X b tb) {pins:List (Rk×TU)} {s:Rn} {σ:St} {H:Hp} {R:V->V->Hp->Prop} (I:Inv X pins σ H s)
 (h:ta σ H fun x H1=>tb σ H1 fun y H2=>R x y H2) {Q:Rl->Rn->Prop} {f:Rl->Rl->Sem Rl}
 (hf:∀ v u s2 x y H2,Inv X pins σ H2 s2->RelV x v->RelV y u->R x y H2->RL (RW X.prog X.w) X.A (f v u) Q X.xe s2) :
 RL (RW X.prog X.w) X.A (TZ a X.env) (fun v Ab=>RL (RW X.prog X.w) X.A (TZ b X.env) (fun u Bj=>RL (RW X.prog X.w) X.A (f v u) Q X.xe Bj) X.xe Ab) X.xe s:=by
 refine thn (ha pins s σ H _ I h) fun v s1 ⟨x,H1,I1,r1,q1⟩=>?_;refine thn (hb pins s1 σ H1 _ I1 q1) fun u s2 ⟨y,H2,I2,r2,q2⟩=>?_;exact hf v u s2 x y H2 I2 r1 r2 q2
theorem ak {op:Operator} {r:R2} (ho:OpR X (Ve op) r) (ha:PE X a ta) (hb:PE X b tb):PE X (.BinOp a op b pos) (tOp r ta tb):=by
 intro pins s σ H Q I h;exact wpAny_BinOp (yu ha hb I h fun v u s2 x y H2 I2 rx ry q=>ho pins s2 σ H2 x y v u Q I2 rx ry q)
theorem pF {op:UnaryOp} {r:V->Hp->VK->Prop} (ho:UnR X (unaryOp op) r) (ha:PE X a ta):PE X (.UnaryOp op a pos) (tUn r ta):=by
 intro pins s σ H Q I h;exact UnaryOp_ (thn (ha pins s σ H _ I h) fun v s1 ⟨x,H1,I1,r1,q1⟩=>ho pins s1 σ H1 x v Q I1 r1 q1)
theorem opI {f:Rl->Rl->Sem Rl} {C:Int->Int->Prop} {g:Int->Int->Int}
 (rule:∀ (i j:Int) (t u:Tok) (s:Rn) (Q:Rl->Rn->Prop) (E:Rl->Rn->Prop),C i j->Q (.int (g i j) s.toks) { s with toks:=s.toks+1 }->RL (RW X.prog X.w) X.A (f (.int i t) (.int j u)) Q E s) :
 OpR X f (rI C fun i j=>.int (g i j)):=by
 intro pins s σ H x y v u Q I rx ry h;obtain ⟨i,j,rfl,rfl,hc,q⟩:=h;obtain ⟨t,rfl⟩:=rx;obtain ⟨t',rfl⟩:=ry;exact rule i j t t' s _ _ hc ⟨.int (g i j),H,I.tok _,⟨_,rfl⟩,q⟩
theorem zp {f:Rl->Rl->Sem Rl} {g:Int->Int->Int}
 (rule:∀ (i j:Int) (t u:Tok) (s:Rn) (Q:Rl->Rn->Prop) (E:Rl->Rn->Prop),Q (.int (g i j) s.toks) { s with toks:=s.toks+1 }->RL (RW X.prog X.w) X.A (f (.int i t) (.int j u)) Q E s) :
 OpR X f (rI0 fun i j=>.int (g i j)):=by
 intro pins s σ H x y v u Q I rx ry h;obtain ⟨i,j,rfl,rfl,q⟩:=h;obtain ⟨t,rfl⟩:=rx;obtain ⟨t',rfl⟩:=ry;exact rule i j t t' s _ _ ⟨.int (g i j),H,I.tok _,⟨_,rfl⟩,q⟩
theorem wQ {f:Rl->Rl->Sem Rl} {g:Int->Int->Bool}
 (rule:∀ (i j:Int) (t u:Tok) (s:Rn) (Q:Rl->Rn->Prop) (E:Rl->Rn->Prop),Q (.bool (g i j)) s->RL (RW X.prog X.w) X.A (f (.int i t) (.int j u)) Q E s) :
 OpR X f (rI0 fun i j=>.bl (g i j)):=by
 intro pins s σ H x y v u Q I rx ry h;obtain ⟨i,j,rfl,rfl,q⟩:=h;obtain ⟨t,rfl⟩:=rx;obtain ⟨t',rfl⟩:=ry;exact rule i j t t' s _ _ ⟨.bl (g i j),H,I,rfl,q⟩
def zi (i j:Int):Prop:=0<j/\j<1073741824
def aas (i j:Int):Prop:=0<=j/\j<=1000000/\i.natAbs<2 ^ 64
def CMul (i j:Int):Prop:=(-(2 ^ 64)<i/\i<2 ^ 64)∨(-(2 ^ 64)<j/\j<2 ^ 64)
theorem CMul.ok {i j:Int} (h:CMul i j):IntMulOk i j:=by
 rcases h with ⟨h1,h2⟩ | ⟨h1,h2⟩
 · exact .of_left (intBits_le_64 h1 h2)
 · exact .of_right (intBits_le_64 h1 h2)
theorem aY:OpR X (Ve .Add) (rI0 fun i j=>.int (i+j)):=zp fun _ _ _ _ _ _ _ q=>add_int q
theorem jz:OpR X (Ve .Sub) (rI0 fun i j=>.int (i - j)):=zp fun _ _ _ _ _ _ _ q=>sub_int q
theorem fM:OpR X (Ve .Mult) (rI CMul fun i j=>.int (i * j)):=opI fun _ _ _ _ _ _ _ hc q=>mul_int q hc.ok
theorem bo:OpR X (Ve .FloorDiv) (rI zi fun i j=>.int (i / j)):=opI fun i j _ _ _ _ _ hc q=>by
 have h1:(0:Int)<j:=hc.1;have h2:j<1073741824:=hc.2;exact floordiv_int (by omega) (by rw [Int.fdiv_eq_ediv_of_nonneg i (by omega)];exact q) (.inl (PyProof.noPylong_small (by omega)))
theorem aZ:OpR X (Ve .Mod) (rI (fun _ j=>0<j) fun i j=>.int (i%j)):=opI fun i j _ _ _ _ _ hc q=>by
 have h1:(0:Int)<j:=hc;exact mod_int' (by omega) (by rw [Int.fmod_eq_emod_of_nonneg i (by omega)];exact q)
theorem ul:OpR X (Ve .Pow) (rI aas fun i j=>.int (i ^ j.toNat)):=opI fun _ _ _ _ _ _ _ hc q=>pow_int_small hc.1 hc.2.1 hc.2.2 q
theorem unI {f:Rl->Sem Rl} {g:Int->Int}
 (rule:∀ (i:Int) (t:Tok) (s:Rn) (Q:Rl->Rn->Prop) (E:Rl->Rn->Prop),Q (.int (g i) s.toks) { s with toks:=s.toks+1 }->RL (RW X.prog X.w) X.A (f (.int i t)) Q E s) :
 UnR X f (rU fun i=>.int (g i)):=by
 intro pins s σ H x v Q I rx h;obtain ⟨i,rfl,q⟩:=h;obtain ⟨t,rfl⟩:=rx;exact rule i t s _ _ ⟨.int (g i),H,I.tok _,⟨_,rfl⟩,q⟩
theorem mw:UnR X (unaryOp .USub) (rU fun i=>.int (-i)):=unI fun _ _ _ _ _ q=>neg_int q
end
def zT:V->V->Bool
 | .non,.non=>true | .non,.int _=>true | .int _,.non=>true | .non,.bl _=>true | .bl _,.non=>true | .non,.str _=>true | .str _,.non=>true
 | .int _,.int _=>true | .bl _,.bl _=>true | .str _,.str _=>true | .byt _,.byt _=>true
 | .int _,.str _=>true | .str _,.int _=>true | .bl _,.str _=>true | .str _,.bl _=>true
 | _,_=>false
inductive zJ (x:V) (y:V) (H:Hp) (Q:VK):Prop
 | mk  (Aq:zT x y=true) (Ar:Q (.bl (decide (x=y))) H):zJ  x y H Q
def rEq:R2:=zJ
inductive zr (x:V) (y:V) (H:Hp) (Q:VK):Prop
 | mk  (Aq:zT x y=true) (Ar:Q (.bl (!decide (x=y))) H):zr  x y H Q
def rNe:R2:=zr
theorem tf {i j:Int}:decide (V.int i=V.int j)=(i == j):=by
 rw [Wt];simp
theorem uD {i j:Bool}:decide (V.bl i=V.bl j)=(i == j):=by
 rw [Wt];simp
theorem sJ {i j:Rz}:decide (V.str i=V.str j)=(i == j):=by
 rw [Wt];simp
theorem sk {i j:Array UInt8}:decide (V.byt i=V.byt j)=(i.toList == j.toList):=by
 rw [Wt];cases i;cases j;simp
section
variable {X:Cx} {a b c:SI} {ta tb tc:TE} {pos:Vw}
theorem bi {pins:List (Rk×TU)} {σ:St} {H:Hp} {s:Rn} {Q:VK} {k k':Bool} (I:Inv X pins σ H s) (q:Q (.bl k) H) (e:k=k'):EP X pins σ Q (.bool k') s:=by
 subst e;exact ⟨.bl k,H,I,rfl,q⟩
theorem cq:OpR X (TH .Eq) rEq:=by
 intro pins s σ H x y v u Q I rx ry h;obtain ⟨hs,q⟩:=h;cases x with
 | non =>
   cases rx;cases y with
   | non=>cases ry;exact PySem.EqNone.eq_none_none (bi I q (by simp))
   | bl j=>cases ry;exact PySem.EqNone.eq_none_bool (bi I q (by simp))
   | int j=>obtain ⟨t',rfl⟩:=ry;exact PySem.EqNone.eq_none_int (bi I q (by simp))
   | str j=>obtain ⟨t',rfl⟩:=ry;exact PySem.EqNone.eq_none_str (bi I q (by simp))
   | _=>exact absurd (show false=true from hs) RK
 | bl i =>
   cases rx;cases y with
   | non=>cases ry;exact PySem.EqNone.eq_bool_none (bi I q (by simp))
   | bl j=>cases ry;exact eq_bool (bi I q uD)
   | str j=>obtain ⟨t',rfl⟩:=ry;exact PySem.EqMixed.eq_bool_str (bi I q (by simp))
   | _=>exact absurd (show false=true from hs) RK
 | int i =>
   obtain ⟨t,rfl⟩:=rx;cases y with
   | non=>cases ry;exact PySem.EqNone.eq_int_none (bi I q (by simp))
   | int j=>obtain ⟨t',rfl⟩:=ry;exact eq_int (bi I q tf)
   | str j=>obtain ⟨t',rfl⟩:=ry;exact PySem.EqMixed.eq_int_str (bi I q (by simp))
   | _=>exact absurd (show false=true from hs) RK
 | str i =>
   obtain ⟨t,rfl⟩:=rx;cases y with
   | non=>cases ry;exact PySem.EqNone.eq_str_none (bi I q (by simp))
   | bl j=>cases ry;exact PySem.EqMixed.eq_str_bool (bi I q (by simp))
   | int j=>obtain ⟨t',rfl⟩:=ry;exact PySem.EqMixed.eq_str_int (bi I q (by simp))
   | str j=>obtain ⟨t',rfl⟩:=ry;exact eq_str (bi I q sJ)
   | _=>exact absurd (show false=true from hs) RK
 | byt i =>
   obtain ⟨t,rfl⟩:=rx;cases y with
   | byt j=>obtain ⟨t',rfl⟩:=ry;exact PySem.W.eq_bytes (bi I q sk)
   | _=>exact absurd (show false=true from hs) RK
 | _=>cases y <;> exact absurd (show false=true from hs) RK
theorem eV:OpR X (TH .NotEq) rNe:=by
 intro pins s σ H x y v u Q I rx ry h;obtain ⟨hs,q⟩:=h;cases x with
 | non =>
   cases rx;cases y with
   | non=>cases ry;exact PySem.EqNone.ne_none_none (bi I q (by simp))
   | bl j=>cases ry;exact PySem.EqNone.ne_none_bool (bi I q (by simp))
   | int j=>obtain ⟨t',rfl⟩:=ry;exact PySem.EqNone.ne_none_int (bi I q (by simp))
   | str j=>obtain ⟨t',rfl⟩:=ry;exact PySem.EqNone.ne_none_str (bi I q (by simp))
   | _=>exact absurd (show false=true from hs) RK
 | bl i =>
   cases rx;cases y with
   | non=>cases ry;exact PySem.EqNone.ne_bool_none (bi I q (by simp))
   | bl j=>cases ry;exact ne_bool (bi I q (congrArg not uD))
   | str j=>obtain ⟨t',rfl⟩:=ry;exact PySem.EqMixed.ne_bool_str (bi I q (by simp))
   | _=>exact absurd (show false=true from hs) RK
 | int i =>
   obtain ⟨t,rfl⟩:=rx;cases y with
   | non=>cases ry;exact PySem.EqNone.ne_int_none (bi I q (by simp))
   | int j=>obtain ⟨t',rfl⟩:=ry;exact ne_int (bi I q (congrArg not tf))
   | str j=>obtain ⟨t',rfl⟩:=ry;exact PySem.EqMixed.ne_int_str (bi I q (by simp))
   | _=>exact absurd (show false=true from hs) RK
 | str i =>
   obtain ⟨t,rfl⟩:=rx;cases y with
   | non=>cases ry;exact PySem.EqNone.ne_str_none (bi I q (by simp))
   | bl j=>cases ry;exact PySem.EqMixed.ne_str_bool (bi I q (by simp))
   | int j=>obtain ⟨t',rfl⟩:=ry;exact PySem.EqMixed.ne_str_int (bi I q (by simp))
   | str j=>obtain ⟨t',rfl⟩:=ry;exact ne_str (bi I q (congrArg not sJ))
   | _=>exact absurd (show false=true from hs) RK
 | byt i =>
   obtain ⟨t,rfl⟩:=rx;cases y with
   | byt j=>obtain ⟨t',rfl⟩:=ry;exact PySem.W.ne_bytes (bi I q (congrArg not sk))
   | _=>exact absurd (show false=true from hs) RK
 | _=>cases y <;> exact absurd (show false=true from hs) RK
theorem gq:OpR X (TH .Lt) (rI0 fun i j=>.bl (decide (i<j))):=wQ fun _ _ _ _ _ _ _ q=>lt_int q
theorem hV:OpR X (TH .LtE) (rI0 fun i j=>.bl (decide (i<=j))):=wQ fun _ _ _ _ _ _ _ q=>le_int q
theorem su:OpR X (TH .Gt) (rI0 fun i j=>.bl (decide (j<i))):=wQ fun _ _ _ _ _ _ _ q=>gt_int q
theorem yV:OpR X (TH .GtE) (rI0 fun i j=>.bl (decide (j<=i))):=wQ fun _ _ _ _ _ _ _ q=>ge_int q
theorem ay (b:SI) {op:CmpOp} (h:op≠.In:=by decide) (h2:op≠.NotIn:=by decide):behindInMarks op b=false:=by
 have e1:(op == CmpOp.In)=false:=by cases op <;> first | rfl | exact absurd rfl h
 have e2:(op == CmpOp.NotIn)=false:=by cases op <;> first | rfl | exact absurd rfl h2
 cases b <;> simp [behindInMarks,e1,e2]
theorem cy {op:CmpOp} {r:R2} (ho:OpR X (TH op) r) (ha:PE X a ta) (hb:PE X b tb) (hm:behindInMarks op b=false):PE X (.Compare a [op] [b] pos) (tOp r ta tb):=by
 intro pins s σ H Q I h;exact wpAny_Compare1 (yu ha hb I h fun v u s2 x y H2 I2 rx ry q=>ho pins s2 σ H2 x y v u Q I2 rx ry q) hm
inductive xG (x:V) (Q:Bool->Hp->Prop) (H':Hp):Prop
 | mk (k:Bool) (Aq:x=.bl k) (Ar:Q k H'):xG x Q H'
def lz (t:TE):TT:=fun σ H Q=>t σ H fun x H'=>xG x Q H'
theorem au {op:CmpOp} {r:R2} (ho:OpR X (TH op) r) (ha:PE X a ta) (hb:PE X b tb) (hm:behindInMarks op b=false):PT X (.Compare a [op] [b] pos) (lz (tOp r ta tb)):=by
 intro pins s σ H Q I h
 refine wpAny_isTrue_Compare1 (thn (ha pins s σ H _ I h) fun v s1 ⟨x,H1,I1,r1,q1⟩=>thn (hb pins s1 σ H1 _ I1 q1) fun u s2 ⟨y,H2,I2,r2,q2⟩ =>
  thn (ho pins s2 σ H2 x y v u _ I2 r1 r2 q2) fun c s3 ⟨z,H3,I3,r3,k,e,q3⟩=>?_) hm
 subst e;cases r3;exact TR ⟨H3,I3,q3⟩
def pd (r r':R2) (ta tb tc:TE):TE:=fun σ H Q=>ta σ H fun x H1=>tb σ H1 fun y H2=>r x y H2 fun z H3=>∃ k,z=.bl k ∧
 (if k=true then tc σ H3 fun w' H4=>r' y w' H4 Q else Q (.bl false) H3)
theorem pZ {op E2:CmpOp} {r r':R2} (ho:OpR X (TH op) r) (Cd:OpR X (TH E2) r') (ha:PE X a ta) (hb:PE X b tb) (hc:PE X c tc)
 (hm:lastMarks [op,E2] [b,c]=false:=by with_unfolding_all rfl):PE X (.Compare a [op,E2] [b,c] pos) (pd r r' ta tb tc):=by
 intro pins s σ H Q I h
 refine Compare_chain (thn (ha pins s σ H _ I h) fun v s1 ⟨x,H1,I1,r1,q1⟩=>chain_link (thn (hb pins s1 σ H1 _ I1 q1) fun u s2 ⟨y,H2,I2,r2,q2⟩ =>
  thn (ho pins s2 σ H2 x y v u _ I2 r1 r2 q2) fun d s3 ⟨z,H3,I3,r3,k,e,q3⟩=>?_)) hm
 subst e;cases r3;refine TR ?_;cases k with
 | false=>exact ite_ff ⟨.bl false,H3,I3,rfl,q3⟩
 | true=>exact ite_tt (chain_last (thn (hc pins s3 σ H3 _ I3 q3) fun w' s4 ⟨z',H4,I4,r4,q4⟩=>Cd pins s4 σ H4 y z' u w' Q I4 r2 r4 q4))
theorem i7 {op E2:CmpOp} {r r':R2} (ho:OpR X (TH op) r) (Cd:OpR X (TH E2) r') (ha:PE X a ta) (hb:PE X b tb) (hc:PE X c tc)
 (hm:lastMarks [op,E2] [b,c]=false:=by with_unfolding_all rfl):PT X (.Compare a [op,E2] [b,c] pos) (lz (pd r r' ta tb tc)):=by
 intro pins s σ H Q I h
 refine isTrue_chain (thn (ha pins s σ H _ I h) fun v s1 ⟨x,H1,I1,r1,q1⟩=>test_link (thn (hb pins s1 σ H1 _ I1 q1) fun u s2 ⟨y,H2,I2,r2,q2⟩ =>
  thn (ho pins s2 σ H2 x y v u _ I2 r1 r2 q2) fun d s3 ⟨z,H3,I3,r3,k,e,q3⟩=>?_)) hm
 subst e;cases r3;refine TR ?_;cases k with
 | false =>
   obtain ⟨k',e',q'⟩:=q3;cases e';exact ite_ff ⟨H3,I3,q'⟩
 | true =>
   refine ite_tt (test_last (thn (hc pins s3 σ H3 _ I3 q3) fun w' s4 ⟨z',H4,I4,r4,q4⟩=>thn (Cd pins s4 σ H4 y z' u w' _ I4 r2 r4 q4) fun d' s5 ⟨z2,H5,I5,r5,k2,e2,q5⟩=>?_));subst e2;cases r5;exact TR ⟨H5,I5,q5⟩
def zx (K:Ri) (x:V) (H:Hp) (k:Bool):Prop :=
 match x with
 | .non=>k=false
 | .bl b=>k=b
 | .int i=>k=(i != 0)
 | .str y=>y.length<=RS/\k=((y.length:Int) != 0)
 | .byt y=>y.size<=RS/\k=((y.size:Int) != 0)
 | .ref p=>(∃ xs,SqL K H p xs/\k=!xs.isEmpty)∨(∃ xs,SqT K H p xs/\k=!xs.isEmpty)∨∃ AO,H p=some (.dK AO)/\k=!AO.isEmpty
 | _=>False
theorem rX {κ:Type} {AO:List (κ×V)} {vs:List (κ×Rl)} (r:KV AO vs):(!vs.isEmpty)=!AO.isEmpty:=by
 cases r <;> rfl
theorem mm {xs:List V} {its:List Rl} (r:Vals xs its):(!its.toArray.isEmpty)=!xs.isEmpty:=by
 cases r <;> simp
theorem fT:(RS:Nat)<2 ^ 63:=by rw [T7];decide
theorem yh:aar X (fun x H Q=>∃ k,zx X.K x H k/\Q k H):=by
 intro pins s σ H x v Q I rx h;obtain ⟨k,e,q⟩:=h;have hl:=fT;have hs:RS=16777216:=T7;cases x with
 | non =>
   cases rx;have e':k=false:=e;subst e';exact truthy_none ⟨H,I,q⟩
 | bl b =>
   cases rx;have e':k=b:=e;subst e';exact TR ⟨H,I,q⟩
 | int i =>
   obtain ⟨t,rfl⟩:=rx;have e':k=(i != 0):=e;subst e';exact PySem.P.truthy_int ⟨H,I,q⟩
 | str y =>
   obtain ⟨t,rfl⟩:=rx;obtain ⟨hy,e'⟩:y.length<=RS/\k=((y.length:Int) != 0):=e;subst e';exact PySem.P.truthy_str (by omega) ⟨H,I.tok _,q⟩
 | byt y =>
   obtain ⟨t,rfl⟩:=rx;obtain ⟨hy,e'⟩:y.size<=RS/\k=((y.size:Int) != 0):=e;subst e';exact PySem.W.truthy_bytes (by omega) ⟨H,I.tok _,q⟩
 | ref p =>
   cases rx;have e':(∃ xs,SqL X.K H p xs/\k=!xs.isEmpty)∨(∃ xs,SqT X.K H p xs/\k=!xs.isEmpty)∨∃ AO,H p=some (.dK AO)/\k=!AO.isEmpty:=e;rcases e' with ⟨xs,hx,e'⟩ | ⟨xs,hx,e'⟩ | ⟨AO,hx,e'⟩
   · subst e';obtain ⟨its,r,pl,hz⟩:=I.list hx;have hlen:=r.length;exact wpAny_truthy_list pl.isList (by simp only [Rt];omega) ⟨H,I.tok _,by rw [mm r];exact q⟩
   · subst e';obtain ⟨its,r,pl,hz⟩:=I.tuple hx;have hlen:=r.length;exact truthy_tuple pl (by simp only [Rt];omega) ⟨H,I.tok _,by rw [mm r];exact q⟩
   · subst e';obtain ⟨hz,hS,vs,r,m⟩:AO.length<=RS/\(p == sysModules)=false/\∃ vs,KV AO vs/\s.heap.DictOf (oo X.prog X.w) p vs:=I.hok p _ hx;have hlen:AO.length=vs.length:=R3 r;exact wpAny_truthy_dict hS m (by omega) ⟨H,I.tok _,by rw [rX r];exact q⟩
 | _=>exact (show False from e).elim
theorem ba (ha:PE X a ta) (he:∀ whole,isTrue a X.env whole=(do let v ← whole;standAt a.pos;holding [v] (truthy v))) :
 PT X a (fun σ H Q=>ta σ H fun x H'=>∃ k,zx X.K x H' k/\Q k H'):=by
 intro pins s σ H Q I h;exact isTrue_plain (thn (ha pins s σ H _ I h) fun v s1 ⟨x,H1,I1,r1,q1⟩=>yh pins s1 σ H1 x v Q I1 r1 q1) (he _)
theorem aQ:OpR X (Ve .Add) (fun x y H Q=>∃ i j,x=.str i/\y=.str j/\i.length+j.length<=RS/\Q (.str (i++j)) H):=by
 intro pins s σ H x y v u Q I rx ry h;obtain ⟨i,j,rfl,rfl,hz,q⟩:=h;obtain ⟨t,rfl⟩:=rx;obtain ⟨t',rfl⟩:=ry;exact add_str (fun t' tk=>⟨.str (i++j),H,I.tok _,⟨_,rfl⟩,q⟩) hz
theorem vals1 {x:V} {us:List Rl} (r:Vals [x] us):∃ u,us=[u]/\RelV x u:=by
 cases r with
 | cons r1 r2=>cases r2;exact ⟨_,rfl,r1⟩
theorem vals2 {x y:V} {us:List Rl} (r:Vals [x,y] us):∃ u w',us=[u,w']/\RelV x u/\RelV y w':=by
 cases r with
 | cons r1 r2 =>
   cases r2 with
   | cons r3 r4=>cases r4;exact ⟨_,_,rfl,r1,r3⟩
theorem qb:ej X (.builtin "divmod") (fun xs H Q=>∃ i j,xs=[.int i,.int j]/\zi i j/\∀ p,H p=none->Q (.ref p) (upd H p (.tup [.int (i / j),.int (i%j)]))):=by
 intro pins s σ H xs us Q I r h;obtain ⟨i,j,rfl,⟨h1,h2⟩,q⟩:=h;obtain ⟨u,w',rfl,⟨t,rfl⟩,⟨t',rfl⟩⟩:=vals2 r;refine divmod_int (by omega) ?_ (.inl (PyProof.noPylong_small (by omega)));rw [Int.fdiv_eq_ediv_of_nonneg i (by omega),Int.fmod_eq_emod_of_nonneg i (by omega)];have hn:H s.heap.objs.size=none:=I.hok.fresh (Rq _);refine ⟨.ref s.heap.objs.size,_,?_,rfl,q _ hn⟩;refine I.laid (fun b o e=>Ro _ e) (Rq _) ⟨by simp only [Rh,TM];rw [T7];decide,[.int (i / j) s.toks,.int (i%j) (s.toks+1)],0,.cons ⟨_,rfl⟩ (.cons ⟨_,rfl⟩ .nil),?_⟩;exact RD s.heap rfl
end
end L2
namespace L2
open PySem PySem.Spec PyProof.Rows
structure ObjM (h:SR) (x dx C:Rk) (mA:Rz->Option Rl):Prop where
 obj:h.get? x=some (Uq C dx)
 ns:h.Ns1 dx mA
 ne:dx≠x
theorem ud {h:SR} {dx:Rk} {mA:Rz->Option Rl} (n:h.Ns1 dx mA):∃ od,h.get? dx=some od/\∀ name,WC name od=some (mA name):=by
 obtain ⟨o,es,ep,ho,hd,hk,_,hm⟩:=n;refine ⟨o,ho,fun name=>?_⟩;have e:=hm name;unfold nsFind findBy at e;rw [<- Array.find?_toList] at e;unfold WC;rw [hd];dsimp only;split
 · rename_i y q
   rw [q] at e;exact congrArg some e
 · rename_i q
   rw [q] at e
   have a:es.toList.any (·.refKey)=false:=by
    rw [List.any_eq_false];intro y hy;obtain ⟨z,t,Jq⟩:=hk y (Array.mem_toList_iff.mp hy);simp [DictEntry.refKey,Jq]
   have a':¬ es.toList.any (·.refKey)=true:=by rw [a];exact RK
   rw [if_neg a'];exact congrArg some e
theorem ObjM.look {h:SR} {x dx C:Rk} {mA:Rz->Option Rl} (I:ObjM h x dx C mA):∃ od,PySem.W.InstAt h x (Uq C dx) C (some od)/\∀ name,WC name od=some (mA name) :=
 let ⟨od,ho,hl⟩:=ud I.ns
 ⟨od,⟨I.obj,rfl,rfl,ho⟩,hl⟩
section
variable {prog:RY} {w:Sj} {A:Sf} {E:Rl->Rn->Prop} {s:Rn} {K:Ri} {x dx C f:Rk} {mA:Rz->Option Rl} {name:Rz} {v:Rl}
theorem get_map {expr:Bool} {Q:Rl->Rn->Prop} (X:K.In s.heap) (I:ObjM s.heap x dx C mA) (hg:VC K C name=true) (hh:V0 K C=true)
 (ha:R1 K (.ref C) name=some none) (hv:mA name=some v) (Cu:PySem.W.handedIn v=true) (h:Q v { s with toks:=s.toks+1 }) :
 RL (RW prog w) A (getAttr (.ref x) name expr) Q E s:=by
 obtain ⟨od,J,hl⟩:=I.look;exact PySem.W.get_value X J (WN hg).1 (PySem.W.findObj_own hh ha rfl (by rw [hl,hv])) Cu h
theorem vA {pl:Sem Bool} {Q:Rl×List Rl->Rn->Prop} (X:K.In s.heap) (I:ObjM s.heap x dx C mA) (hg:VC K C name=true)
 (hf:R1 K (.ref C) name=some (some (.ref f))) (ht:Wh K (.ref f)=true) (hv:mA name=none) (h:Q (.ref f,[.ref x]) s) :
 RL (RW prog w) A (getMethod (.ref x) name pl) Q E s:=by
 obtain ⟨od,J,hl⟩:=I.look;exact PySem.W.method_fn X J (WN hg).1 (WN hg).2 hf (beq_iff_eq.mp ht) (by show (WC name od).map (·.isSome)=some false;rw [hl,hv];rfl) h
theorem xg {ns:List Rz} {Q:Unit->Rn->Prop} (X:K.In s.heap) (I:ObjM s.heap x dx C mA)
 (hs:R1 K (.ref C) "__setattr__"=some (some (.builtin "object.__setattr__"))) (hp:Xg K C=true) (ht:PySem.W.takerIn K C name=some none) (hh:V0 K C=true)
 (hw:PySem.Within mA ns) (Az:ns.length<=RS)
 (h:∀ h',ObjM h' x dx C (fun y=>if y=name then some v else mA y)->Ul dx s.heap h'->Q () { s with heap:=h',toks:=s.toks+2 }) :
 RL (RW prog w) A (setAttr (.ref x) name v) Q E s:=by
 obtain ⟨od,J,hl⟩:=I.look;refine PySem.W.set_plain X J hs (PySem.W.osa_open (s:={ s with toks:=s.toks+1 }) (r:=none) X J hp ht fun b=>?_);obtain ⟨cd,hc,Jk⟩:=PySem.W.any_some hh;have hx:s.heap.get? x=some ⟨.ref C,some dx,.plain,#[]⟩:=I.obj;refine Rj (RF (Rj (Rj (wpAny_loadPart hx (Rj (PySem.W.Looks.here (s:={ s with toks:=s.toks+1 }) (PySem.W.looks_clsIn X hc) ?_))))));rw [Jk];refine RF (a:=some dx) (Rj (RF (Rj ?_)));refine wpAny_nsSet1 (s:={ s with toks:=s.toks+1 }) I.ns fun h' Ih hs2=>?_;obtain ⟨oD,QD,QE,NQ,NR,NS⟩:=Ih.count (PySem.Within.cons name v hw);refine Rj (wpAny_lookBehind NQ (by rw [NR];exact pastItsLine_dict (SO NS (by rw [Rh];omega))) ?_);exact RF (h _ ⟨(hs2.2 _ (UG I.ne)).trans I.obj,Ih,I.ne⟩ hs2)
theorem uy {R:WM->Rn->Prop} {vs:List Rl} {kw:List (Rz×Rl)} (X:K.In s.heap) (hm:PySem.W.makesIn K C=true)
 (hi:R1 K (.ref C) "__init__"=some (some (.ref f))) (hf:PySem.W.typeIn K (.ref f)=some (.type "function"))
 (h:Vn (RW prog w) (A.under (.builtin "type.__call__" ⟨.ref C::vs,kw⟩)) (.call (.ref f) ⟨.ref (s.heap.objs.size+1)::vs,kw⟩) (PySem.W.InitBack (s.heap.objs.size+1) R)
  { s with heap:=(s.heap.push TJ).push (Uq C s.heap.objs.size) }) :
 Vn (RW prog w) A (.call (.ref C) ⟨vs,kw⟩) R s:=by
 obtain ⟨hh,g,d,t,os⟩:=s;exact PySem.W.make_core (PySem.W.makes_of X hm) (PySem.W.looks_findIn X hi) (fun self=>PySem.W.bind_fn X self hf) (.inl rfl) h
end
def dl (f:Rz) (v:V):List (Rz×V)->List (Rz×V)
 | []=>[(f,v)]
 | (g,x)::r=>if g=f then (g,v)::r else (g,x)::dl f v r
theorem j2 (f g:Rz) (v:V):∀ fs:List (Rz×V),(dl f v fs).lookup g=if g=f then some v else fs.lookup g
 | []=>by
   show Uz g [(f,v)]=_;by_cases h:g=f
   · have hb:(g == f)=true:=beq_iff_eq.mpr h;simp only [Uz,hb,if_pos h]
   · have hb:(g == f)=false:=beq_eq_false_iff_ne.mpr h;simp only [Uz,hb,if_neg h]
 | (k,x)::r=>by
   have ih:=j2 f g v r;rw [show dl f v ((k,x)::r)=(if k=f then (k,v)::r else (k,x)::dl f v r) from rfl];by_cases hk:k=f
   · rw [if_pos hk];by_cases h:g=k
     · have hb:(g == k)=true:=beq_iff_eq.mpr h;simp only [Uz,hb,if_pos (h.trans hk)]
     · have hb:(g == k)=false:=beq_eq_false_iff_ne.mpr h;simp only [Uz,hb,if_neg (fun e:g=f=>h (e.trans hk.symm))]
   · rw [if_neg hk];by_cases h:g=k
     · have hb:(g == k)=true:=beq_iff_eq.mpr h;simp only [Uz,hb,if_neg (fun e:g=f=>hk (h.symm.trans e))]
     · have hb:(g == k)=false:=beq_eq_false_iff_ne.mpr h;simp only [Uz,hb];exact ih
theorem jw (f:Rz) (v:V):∀ fs:List (Rz×V),f∈(dl f v fs).map (·.1)/\∀ g,g∈fs.map (·.1)->g∈(dl f v fs).map (·.1)
 | []=>⟨by simp [dl],fun g h=>by simp at h⟩
 | (k,x)::r=>by
   obtain ⟨i1,i2⟩:=jw f v r;rw [show dl f v ((k,x)::r)=(if k=f then (k,v)::r else (k,x)::dl f v r) from rfl];by_cases hk:k=f
   · rw [if_pos hk];subst hk;exact ⟨by simp,fun g h=>by simpa using h⟩
   · rw [if_neg hk];refine ⟨?_,fun g h=>?_⟩
     · rw [RB];exact Rp _ i1
     · rw [RB] at h ⊢;rcases RA.mp h with e | e
       · exact RA.mpr (.inl e)
       · exact Rp _ (i2 g e)
theorem jQ (f:Rz) (v:V):∀ fs:List (Rz×V),(dl f v fs).length<=fs.length+1
 | []=>by simp [dl]
 | (k,x)::r=>by
   have ih:=jQ f v r;rw [show dl f v ((k,x)::r)=(if k=f then (k,v)::r else (k,x)::dl f v r) from rfl];by_cases hk:k=f
   · rw [if_pos hk,Rh,Rh];omega
   · rw [if_neg hk,Rh,Rh];omega
theorem RelO.some_of {v:V} {o:Option Rl} (r:RelO (some v) o):∃ u,o=some u/\RelV v u:=by
 cases o with
 | none=>exact (show False from r).elim
 | some u=>exact ⟨u,rfl,r⟩
theorem RelO.none_of {o:Option Rl} (r:RelO none o):o=none:=by
 cases o with
 | none=>rfl
 | some u=>exact (show False from r).elim
theorem tQ {v:V} {u:Rl} (r:RelV v u):PySem.W.handedIn u=true:=by
 cases v with
 | non=>cases (show u=Te from r);rfl
 | bl b=>cases (show u=UO b from r);rfl
 | int i=>obtain ⟨t,e⟩:=(show ∃ t,u=Value.int i t from r);cases e;rfl
 | str x=>obtain ⟨t,e⟩:=(show ∃ t,u=Value.str x t from r);cases e;rfl
 | byt b=>obtain ⟨t,e⟩:=(show ∃ t,u=Value.bytes b t from r);cases e;rfl
 | flt b=>obtain ⟨t,e⟩:=(show ∃ t,u=Value.float b t from r);cases e;rfl
 | ref a=>cases (show u=SV a from r);rfl
 | ty n=>cases (show u=Value.type n from r);rfl
section
variable {P:RY} {w:Sj} {H H':Hp} {h h':SR} {a C dx:Rk} {fs FJ:List (Rz×V)}
theorem kR (hok:HOk P w H h) (e:H a=some (.ins C dx fs)):∃ mA,ObjM h a dx C mA/\(∀ f,RelO (fs.lookup f) (mA f))/\PySem.Within mA (fs.map (·.1))/\fs.length<=1000/\H dx=some (.own a):=by
 obtain ⟨d,z,ne,ob,mA,n,r,q⟩:=(show ObjOk P w H h a (.ins C dx fs) from hok a _ e);exact ⟨mA,⟨ob,n,ne⟩,r,q,z,d⟩
end
structure Cls (K:Ri) (C:Rk):Prop where
 pg:VC K C Tr=true
 hd:V0 K C=true
 po:Xg K C=true
 sa:R1 K (.ref C) "__setattr__"=some (some (.builtin "object.__setattr__"))
theorem Cls.get {K:Ri} {C:Rk} (c:Cls K C) (f:Rz):VC K C f=true:=c.pg
def NoAttr (K:Ri) (C:Rk) (f:Rz):Prop:=R1 K (.ref C) f=some none
theorem NoAttr.taker {K:Ri} {C:Rk} {f:Rz} (n:NoAttr K C f):PySem.W.takerIn K C f=some none:=by
 unfold PySem.W.takerIn;rw [show R1 K (.ref C) f=some none from n];rfl
structure Meth (K:Ri) (C:Rk) (m:Rz) (f:Rk):Prop where
 at_:R1 K (.ref C) m=some (some (.ref f))
 fn:Wh K (.ref f)=true
 kp:T1 K (.ref f)=true
section
variable {X:Cx} {pins:List (Rk×TU)} {σ:St} {H:Hp} {s:Rn} {a C dx:Rk} {fs:List (Rz×V)} {f:Rz} {v:V} {A:Sf} {E:Rl->Rn->Prop}
theorem lN {b:Bool} {Q:Rl->Rn->Prop} (I:Inv X pins σ H s) (e:H a=some (.ins C dx fs)) (c:Cls X.K C) (n:NoAttr X.K C f) (l:fs.lookup f=some v)
 (h:∀ u s',Inv X pins σ H s'->RelV v u->Q u s'):RL (RW X.prog X.w) A (getAttr (.ref a) f b) Q E s:=by
 obtain ⟨mA,O,r,_,_,_⟩:=kR I.hok e;obtain ⟨u,hu,ru⟩:=RelO.some_of (v:=v) (o:=mA f) (by rw [<- l];exact r f);exact get_map I.kIn O (c.get f) c.hd n hu (tQ ru) (h u _ (I.tok _) ru)
theorem qX {m:Rz} {g:Rk} {pl:Sem Bool} {Q:Rl×List Rl->Rn->Prop} (I:Inv X pins σ H s) (e:H a=some (.ins C dx fs)) (c:Cls X.K C) (k:Meth X.K C m g) (l:fs.lookup m=none)
 (h:Q (.ref g,[.ref a]) s):RL (RW X.prog X.w) A (getMethod (.ref a) m pl) Q E s:=by
 obtain ⟨mA,O,r,_,_,_⟩:=kR I.hok e;have hn:mA m=none:=RelO.none_of (by rw [<- l];exact r m);exact vA I.kIn O (c.get m) k.at_ k.fn hn h
theorem l8 {y:V} {u:Rl} {Q:Unit->Rn->Prop} (I:Inv X pins σ H s) (e:H a=some (.ins C dx fs)) (c:Cls X.K C) (n:NoAttr X.K C f) (hl:fs.length<1000) (ry:RelV y u)
 (h:∀ s',Inv X pins σ (upd H a (.ins C dx (dl f y fs))) s'->Q () s'):RL (RW X.prog X.w) A (setAttr (.ref a) f u) Q E s:=by
 obtain ⟨mA,O,r,wi,_,ho⟩:=kR I.hok e;have hz:(fs.map (·.1)).length<=RS:=by rw [Rf,T7];omega
 refine xg I.kIn O c.sa c.po n.taker c.hd wi hz fun h' O' sb=>h _ ?_;have hd:∃ o,h'.get? dx=some o:=let ⟨o,_,_,e',_⟩:=O'.ns;⟨o,e'⟩
 refine I.write (x:=a) (e:=dx) (by rw [e];exact VV) (.inr ho) (fun b q hb z=>(sb.2 b hb).trans z) hd ?_;refine ⟨by rw [ar O.ne];exact ho,?_,O.ne,O'.obj,_,O'.ns,fun g=>?_,fun g hg=>?_⟩
 · have:=jQ f y fs;omega
 · show RelO ((dl f y fs).lookup g) (if g=f then some u else mA g);rw [j2];by_cases q:g=f
   · rw [if_pos q,if_pos q];exact ry
   · rw [if_neg q,if_neg q];exact r g
 · by_cases q:g=f
   · rw [q];exact (jw f y fs).1
   · refine (jw f y fs).2 g (wi g fun z=>hg ?_);show (if g=f then some u else mA g)=none;rw [if_neg q];exact z
theorem Inv.made (I:Inv X pins σ H s):Inv X pins σ (upd (upd H s.heap.objs.size (.own (s.heap.objs.size+1))) (s.heap.objs.size+1) (.ins C s.heap.objs.size []))
 { s with heap:=(s.heap.push TJ).push (Uq C s.heap.objs.size) }:=by
 have e1:(s.heap.push TJ).get? s.heap.objs.size=some TJ:=RD s.heap rfl
 have e2:((s.heap.push TJ).push (Uq C s.heap.objs.size)).get? (s.heap.objs.size+1)=some (Uq C s.heap.objs.size):=by
  have:=RD (s.heap.push TJ) (o:=Uq C s.heap.objs.size) rfl
  rwa [TC] at this
 have e3:(s.heap.push TJ).Ns s.heap.objs.size (fun _=>none):=⟨TJ,#[],_,e1,rfl,(fun e he=>absurd he (by simp)),fun _=>rfl⟩;have I1:=I.laid (a:=s.heap.objs.size) (o:=.own (s.heap.objs.size+1)) (h':=s.heap.push TJ) (t':=s.toks) (fun b u q=>Ro _ q) (Rq _) ⟨_,e1⟩;refine I1.laid (a:=s.heap.objs.size+1) (o:=.ins C s.heap.objs.size []) (t':=s.toks) (fun b u q=>Ro _ q) (Wj (TC _ _)) ?_;have ne:s.heap.objs.size≠s.heap.objs.size+1:=R7 (U4 _);refine ⟨by rw [ar ne,ac],Sk _,ne,e2,fun _=>none,(Heap.Ns1.of_empty e3).at fun o q=>Ro _ q,fun _=>VV,fun y hy=>absurd rfl hy⟩
theorem wJ {prog:RY} {w:Sj} {env:WH} {e:SI} {f:Rz} {pos:Vw} {s:Rn} {Q:Rl->Rn->Prop} (hb:Wx e f env (TZ e env)=TZ e env)
 (h:RL (RW prog w) A (TZ e env) (fun o Ab=>RL (RW prog w) A (getAttr o f true) Q E Ab) E s):RL (RW prog w) A (TZ (.Attribute e f pos) env) Q E s :=
 Attribute_any_ h (by rw [arm_eval_Attribute,hb])
end
def aak (K:Ri) (ta:TE) (f:Rz):TE:=fun σ H Q=>ta σ H fun x H1=>∃ a C dx fs v,x=.ref a/\H1 a=some (.ins C dx fs)/\Cls K C/\NoAttr K C f/\fs.lookup f=some v/\Q v H1
def aaG (K:Ri) (ta tv:TE) (f:Rz):TS:=fun D σ H=>tv σ H fun y H1=>ta σ H1 fun x H2=>∃ a C dx fs,x=.ref a/\H2 a=some (.ins C dx fs)/\Cls K C/\NoAttr K C f/\fs.length<1000 ∧
 D.nx σ (upd H2 a (.ins C dx (dl f y fs)))
def zA (X:Cx) (op:Operator) (rd:V->V->Hp->VK->Prop):Prop :=
 ∀ (pins:List (Rk×TU)) (s:Rn) (σ:St) (H:Hp) (x y:V) (u v:Rl) (Q:VK),Inv X pins σ H s->RelV x u->RelV y v->rd x y H Q->RL (RW X.prog X.w) X.A (inplaceOp op u v) (EP X pins σ Q) X.xe s
def w6 (K:Ri) (ta tv:TE) (rd:V->V->Hp->VK->Prop) (f:Rz):TS:=fun D σ H=>ta σ H fun x H1=>∃ a C dx fs v,x=.ref a/\H1 a=some (.ins C dx fs)/\Cls K C/\NoAttr K C f/\fs.lookup f=some v ∧
 tv σ H1 fun y H2=>rd v y H2 fun z H3=>∃ Jr FJ,H3 a=some (.ins C Jr FJ)/\FJ.length<1000/\D.nx σ (upd H3 a (.ins C Jr (dl f z FJ)))
section
variable {X:Cx} {o e value:SI} {f:Rz} {pos pos' Ef:Vw} {ta tv:TE}
theorem vN (he:PE X e ta) (hb:Wx e f X.env (TZ e X.env)=TZ e X.env):PE X (.Attribute e f pos) (aak X.K ta f):=by
 intro pins s σ H Q I h;refine wJ hb (thn (he pins s σ H _ I h) fun u s1 ⟨x,H1,I1,rx,a,C,dx,fs,v,ex,ea,c,n,l,q⟩=>?_);subst ex;obtain rfl:u=SV a:=rx;exact lN I1 ea c n l fun u' s2 I2 ru=>⟨v,H1,I2,ru,q⟩
theorem vD (ha:PE X o ta) (hv:PE X value tv) (hs:Wa value (some (.Attribute o f pos')) pos.line X.env=pure false):PS X (.Assign [.Attribute o f pos'] value pos) (aaG X.K ta tv f):=by
 intro pins s σ H D I h;refine plainObj_wpAny_Assign_Attribute (thn (hv pins s σ H _ I h) fun u s1 ⟨y,H1,I1,ry,q⟩=>thn (ha pins s1 σ H1 _ I1 q) fun ov s2 ⟨x,H2,I2,rx,a,C,dx,fs,ex,ea,c,n,l,q2⟩=>?_) hs;subst ex;obtain rfl:ov=SV a:=rx;exact l8 I2 ea c n l ry fun s3 I3=>⟨σ,_,I3,q2⟩
theorem nH {op:Operator} {rd:V->V->Hp->VK->Prop} (ha:PE X o ta) (hv:PE X value tv) (NT:zA X op rd):PS X (.AugAssign (.Attribute o f Ef) op value pos) (w6 X.K ta tv rd f):=by
 intro pins s σ H D I h;refine wpAny_AugAssign_AttributeAny (thn (ha pins s σ H _ I h) fun ov s1 ⟨x,H1,I1,rx,a,C,dx,fs,v,ex,ea,c,n,l,q⟩=>?_);subst ex;obtain rfl:ov=SV a:=rx;refine lN I1 ea c n l fun u s2 I2 ru=>thn (hv pins s2 σ H1 _ I2 q) fun w3 s3 ⟨y,H2,I3,ry,q3⟩=>thn (NT pins s3 σ H2 v y u w3 _ I3 ru ry q3) fun w4 s4 ⟨z,H3,I4,rz,Jr,FJ,NU,l',q4⟩=>?_;exact l8 I4 NU c n l' rz fun s5 I5=>⟨σ,_,I5,q4⟩
def aau:V->V->Hp->VK->Prop:=fun x y H Q=>∃ i j,x=.int i/\y=.int j/\Q (.int (i+j)) H
theorem uH:zA X .Add aau:=by
 rintro pins s σ H x y u v Q I rx ry ⟨i,j,rfl,rfl,q⟩;obtain ⟨t,rfl⟩:=(show ∃ t,u=Value.int i t from rx);obtain ⟨t',rfl⟩:=(show ∃ t',v=Value.int j t' from ry);exact PyProof.Rows.iadd_int ⟨.int (i+j),H,I.tok _,⟨_,rfl⟩,q⟩
end
section
variable {X:Cx} {pins:List (Rk×TU)} {σ:St} {H:Hp} {s:Rn} {A:Sf} {E:Rl->Rn->Prop} {Q:Rl->Rn->Prop} {c:Rl} {b:Bool}
inductive jf (K:Ri) (H:Hp):V->Rl->Prop where
 | non:jf K H .non (.type "NoneType")
 | bl (x:Bool):jf K H (.bl x) (.type "bool")
 | int (i:Int):jf K H (.int i) (.type "int")
 | str (x:Rz):jf K H (.str x) (.type "str")
 | flt (x:UInt64):jf K H (.flt x) (.type "float")
 | lst {a:Rk} {xs:List V} (e:H a=some (.lst xs)):jf K H (.ref a) (.type "list")
 | frz {a:Rk} {o:TU} {xs:List V} (e:H a=some (.frz o (.lst xs))):jf K H (.ref a) (.type "list")
 | tup {a:Rk} {xs:List V} (e:H a=some (.tup xs)):jf K H (.ref a) (.type "tuple")
 | dK {a:Rk} {AO:List (Key×V)} (e:H a=some (.dK AO)):jf K H (.ref a) (.type "dict")
 | dT {a:Rk} {AO:List (List Key×V)} (e:H a=some (.dT AO)):jf K H (.ref a) (.type "dict")
 | ins {a C dx:Rk} {fs:List (Rz×V)} (e:H a=some (.ins C dx fs)) (cl:Cls K C) (ha:R1 K (.ref C) "__class__"=some (some (.builtin "object.__class__")))
  (hn:PySem.W.specialIn K (.builtin "object.__class__") "__get__"=some (some (.builtin "getset_descriptor.__get__"))) (Ii:PySem.W.takesIn K (.builtin "object.__class__")=some true)
  (hm:Ts K C (.type "object")=some true):jf K H (.ref a) (.ref C)
theorem tP {x:V} {u t:Rl} (I:Inv X pins σ H s) (rx:RelV x u) (ty:jf X.K H x t) (e:RU X.K t c=some b) (h:∀ tk,Q (.bool b) { s with toks:=tk }) :
 RL (RW X.prog X.w) A (call (.builtin "isinstance") [u,c]) Q E s:=by
 cases ty with
 | non=>cases (show u=Te from rx);exact Tu PySem.W.kitx_none I.kIn VV e (fun z=>nomatch z) h
 | bl y=>cases (show u=UO y from rx);exact Tu PySem.W.kitx_bool I.kIn VV e (fun z=>nomatch z) h
 | int i=>obtain ⟨t,q⟩:=(show ∃ t,u=Value.int i t from rx);cases q;exact Tu PySem.W.kitx_int I.kIn VV e (fun z=>nomatch z) h
 | str y=>obtain ⟨t,q⟩:=(show ∃ t,u=Value.str y t from rx);cases q;exact Tu PySem.W.kitx_str I.kIn VV e (fun z=>nomatch z) h
 | flt y=>obtain ⟨t,q⟩:=(show ∃ t,u=Value.float y t from rx);cases q;exact Tu PySem.W.kitx_float I.kIn VV e (fun z=>nomatch z) h
 | @lst a xs ea =>
   cases (show u=SV a from rx);obtain ⟨_,_,n,_,h1⟩:=(show ObjOk X.prog X.w H s.heap a (.lst xs) from I.hok a _ ea);exact Tu PySem.W.kitx_list I.kIn ⟨_,h1,rfl⟩ e (fun z=>nomatch z) h
 | @frz a ob xs ea =>
   cases (show u=SV a from rx);obtain ⟨_,_,_,n,_,h1⟩:=(show ObjOk X.prog X.w H s.heap a (.frz ob (.lst xs)) from I.hok a _ ea);exact Tu PySem.W.kitx_list I.kIn ⟨_,h1,rfl⟩ e (fun z=>nomatch z) h
 | @tup a xs ea =>
   cases (show u=SV a from rx);obtain ⟨_,_,_,_,h1⟩:=(show ObjOk X.prog X.w H s.heap a (.tup xs) from I.hok a _ ea);exact Tu PySem.W.kitx_tuple I.kIn ⟨_,h1,rfl⟩ e (fun z=>nomatch z) h
 | @dK a AO ea =>
   cases (show u=SV a from rx);obtain ⟨_,_,vs,_,p⟩:=(show ObjOk X.prog X.w H s.heap a (.dK AO) from I.hok a _ ea);obtain ⟨o,es,ep,h1,h2,_⟩:=p;exact Tu PySem.W.kitx_dict I.kIn ⟨o,h1,h2.1⟩ e (fun z=>nomatch z) h
 | @dT a AO ea =>
   cases (show u=SV a from rx);obtain ⟨_,_,xs,_,o,es,ep,h1,h2,_⟩:=(show ObjOk X.prog X.w H s.heap a (.dT AO) from I.hok a _ ea);exact Tu PySem.W.kitx_dict I.kIn ⟨o,h1,h2.1⟩ e (fun z=>nomatch z) h
 | @ins a C dx fs ea cl ha hn Ii hm =>
   cases (show u=SV a from rx);obtain ⟨mA,O,_⟩:=kR I.hok ea;obtain ⟨od,J,_⟩:=O.look;exact Tu (PySem.W.kitx_own (cl.get _) cl.hd ha hn Ii hm) I.kIn J e (fun z=>nomatch z) h
end
end L2
namespace L2
open PySem PySem.Spec PyProof.Rows
structure Room (k:Nat) (A:Sf):Prop where
 hd:A.handled=none
 dp:A.depth+3 * k+5<recursionLimit
 un:A.units+16 * k+200<WA
theorem Room.mono {j k:Nat} {A:Sf} (r:Room k A) (h:j<=k):Room j A:=⟨r.hd,by have:=r.dp;omega,by have:=r.un;omega⟩
theorem Room.deeper {k:Nat} {A:Sf} (r:Room (k+1) A) (env:WH):Room k (A.deeper env) :=
 ⟨r.hd,by have:=r.dp;show A.depth+1+3 * k+5<_;omega,by have:=r.un;show A.units+3+16 * k+200<_;omega⟩
theorem rM {A:Sf} {C:Rk} {us:List Rl} {kw:List (Rz×Rl)}:(A.under (.builtin "type.__call__" ⟨.ref C::us,kw⟩)).depth=A.depth+1:=by
 first | rfl | simp [Around.under,Code.weight,Code.isCreation,Code.isGuard,Code.isCaller,Code.frames,Code.isFrame,guardIds]
theorem rk {A:Sf} {C:Rk} {us:List Rl} {kw:List (Rz×Rl)}:(A.under (.builtin "type.__call__" ⟨.ref C::us,kw⟩)).units=A.units+1:=by
 first | rfl | simp [Around.under,Code.cUnits,Code.frames,Code.isFrame]
theorem Room.make {k:Nat} {A:Sf} (r:Room (k+1) A) (C:Rk) (us:List Rl) (kw:List (Rz×Rl)):Room k (A.under (.builtin "type.__call__" ⟨.ref C::us,kw⟩)) :=
 ⟨r.hd,by have:=r.dp;rw [rM];omega,by have:=r.un;rw [rk];omega⟩
theorem Room.depth {k:Nat} {A:Sf} (r:Room k A):A.depth<recursionLimit:=by have:=r.dp;omega
theorem Room.units {k:Nat} {A:Sf} (r:Room k A):A.units+64<WA:=by have:=r.un;omega
def dP:TA:=fun _ H Q=>Q [] H
def bJ (ta:TE) (tr:TA):TA:=fun σ H Q=>ta σ H fun x H1=>tr σ H1 fun xs H2=>Q (x::xs) H2
section
variable {X:Cx} {e:SI} {es:List SI} {te:TE} {t:TA} {pos:Vw}
theorem ae:PA X [] dP:=fun _ _ _ _ H Q I h=>UM ⟨[],H,I,.nil,h⟩
theorem aa (ha:PE X e te) (hr:PA X es t) (hs:Sq (e::es) X.env=(false,TZ e X.env)::Sq es X.env:=by rfl):PA X (e::es) (bJ te t):=by
 intro pos pins s σ H Q I h;rw [hs];show RL _ _ (spliced ((false,TZ e X.env)::VI pos (Sq es X.env))) _ _ s;refine Tc (thn (ha pins s σ H _ I h) fun u s1 ⟨x,H1,I1,r1,q1⟩=>?_);exact thn (hr pos pins s1 σ H1 _ I1 q1) fun us s2 ⟨xs,H2,I2,r2,q2⟩=>⟨x::xs,H2,I2,.cons r1 r2,q2⟩
def zu (t:TA):TE:=fun σ H Q=>t σ H fun xs H1=>xs.length<=RS/\∀ p,H1 p=none->Q (.ref p) (upd H1 p (.tup xs))
def xc (t:TA):TE:=fun σ H Q=>t σ H fun xs H1=>xs.length<=RS/\∀ p,H1 p=none->Q (.ref p) (upd H1 p (.lst xs))
theorem ce {x1} (h:PA X es t):PE X (.Tuple es x1 pos) (zu t):=by
 intro pins s σ H Q I hq;refine wpAny_Tuple_spliced (thn (h pos pins s σ H _ I hq) fun us s1 ⟨xs,H1,I1,r,z,q⟩=>⟨by rw [<- r.length];exact z,?_⟩);have hf:H1 s1.heap.objs.size=none:=I1.hok.fresh (Rq _);refine ⟨.ref s1.heap.objs.size,upd H1 s1.heap.objs.size (.tup xs),I1.laid (t':=s1.toks) (fun b u e=>Ro _ e) (Rq _) ?_,rfl,q _ hf⟩;exact ⟨z,us,0,r,RD _ rfl⟩
theorem aW (h:PA X es t):PE X (.List es pos) (xc t):=by
 intro pins s σ H Q I hq;refine wpAny_List_spliced (thn (h pos pins s σ H _ I hq) fun us s1 ⟨xs,H1,I1,r,z,q⟩=>⟨by rw [<- r.length];exact z,?_⟩);have hf:H1 s1.heap.objs.size=none:=I1.hok.fresh (Rq _);refine ⟨.ref s1.heap.objs.size,upd H1 s1.heap.objs.size (.lst xs),I1.laid (t':=s1.toks) (fun b u e=>Ro _ e) (Rq _) ?_,rfl,q _ hf⟩;exact ⟨z,us,0,r,RD _ rfl⟩
end
abbrev Sp:=List V->Hp->VK->XK->Prop
abbrev CXT:=List WH->Hp->Rn->XK->Rl->Rn->Prop
structure Env0 (P:RY) (w:Sj) (K:Ri) (mg:Rz->Option Rl) (base:SR) (A:Sf) (outer:List WH) (s:Rn) (H:Hp):Prop where
 frames:A.frames=some outer
 mod:Mod K mg base
 bs:∀ b o,base.get? b=some o->s.heap.get? b=some o/\H b=none
 bsz:base.objs.size<=s.heap.objs.size
 funs:s.heap.FunFrames base outer
 frf:∀ b∈frs outer,H b=none
 hok:HOk P w H s.heap
 bare:W2 s.gens
def CE (outer:List WH) (P:RY) (w:Sj) (H:Hp) (s:Rn) (Q:VK) (u:Rl) (s':Rn):Prop :=
 ∃ v H',s'.os=s.os/\W2 s'.gens/\Un (frs outer) [] H H' s.heap s'.heap/\HOk P w H' s'.heap/\RelV v u/\Q v H'
def CR (CX:CXT) (outer:List WH) (P:RY) (w:Sj) (H:Hp) (s:Rn) (Q:VK) (E:XK) (r:WM) (s':Rn):Prop :=
 match r with
 | .ok (.ret u)=>CE outer P w H s Q u s'
 | .ok _=>False
 | .error e=>CX outer H s E e s'
structure FnOk (P:RY) (w:Sj) (K:Ri) (mg:Rz->Option Rl) (base:SR) (CX:CXT) (k:Nat) (f:Rk) (fd:Uk) (ps:List Rz) (sp:Sp):Prop where
 len:∀ vs H Q E,sp vs H Q E->vs.length=ps.length
 run:∀ (A:Sf) (outer:List WH) (s:Rn) (H:Hp) (args:Args) (us:List Rl) (vs:List V) (Q:VK) (E:XK),Room k A->Env0 P w K mg base A outer s H->BindsTo s fd args (ps.zip us)->Vals vs us->sp vs H Q E →
  Vn (RW P w) A (.call (.ref f) args) (CR CX outer P w H s Q E) s
theorem Env0.make {P:RY} {w:Sj} {K:Ri} {mg:Rz->Option Rl} {base:SR} {A:Sf} {outer:List WH} {s:Rn} {H:Hp} (e:Env0 P w K mg base A outer s H) (C:Rk) (us:List Rl) (kw:List (Rz×Rl)) :
 Env0 P w K mg base (A.under (.builtin "type.__call__" ⟨.ref C::us,kw⟩)) outer s H:=⟨by first | exact e.frames | (simpa [Around.under,Code.envs,Code.isFrame,pushEnvs] using e.frames),e.mod,e.bs,e.bsz,e.funs,e.frf,e.hok,e.bare⟩
section
variable {X:Cx} {pins:List (Rk×TU)} {σ:St} {H:Hp} {s s':Rn}
theorem Inv.env0 (I:Inv X pins σ H s):Env0 X.prog X.w X.K X.mg X.base X.A X.stack s H :=
 ⟨I.ok.frames,I.ok.mod,I.bs,SO I.ok.bsz I.sz,I.stack,I.stkFree,I.hok,I.bare⟩
theorem Inv.after {Q:VK} {u:Rl} (I:Inv X pins σ H s) (h:CE X.stack X.prog X.w H s Q u s'):EP X pins σ Q u s':=by
 obtain ⟨v,H',os,bare,un,hok,r,q⟩:=h;obtain ⟨hh,g,d,t,NV⟩:=s';obtain rfl:NV=s.os:=os;exact ⟨v,H',I.call (h':=hh) (g':=g) (d':=d) (t':=t) (ch:=[]) un hok bare (fun b z=>absurd z (by simp)),r,q⟩
end
def nu (sp:Sp) (Bw:List V) (E:XK) (t:TA):TE:=fun σ H Q=>t σ H fun vs H1=>sp (vs++Bw) H1 Q E
def yR (C:Rk) (m:Rz) (sp:Sp) (Bw:List V) (E:XK) (ta:TE) (t:TA):TE:=fun σ H Q=>ta σ H fun x H1=>∃ a dx fs,x=.ref a/\H1 a=some (.ins C dx fs)/\fs.lookup m=none ∧
 t σ H1 fun vs H2=>sp (x::(vs++Bw)) H2 Q E
def yX (C:Rk) (sp:Sp) (Bw:List V) (E:XK) (t:TA):TE:=fun σ H Q=>t σ H fun vs H1=>∀ x dx,H1 x=none->H1 dx=none->dx≠x →
 sp (.ref x::(vs++Bw)) (upd (upd H1 dx (.own x)) x (.ins C dx [])) (fun v H2=>v=.non/\Q (.ref x) H2) E
def Binds (K:Ri) (fd:Uk) (ps:List Rz) (ds:List Rl):Prop :=
 ∀ (s:Rn) (us:List Rl),K.In s.heap->(us++ds).length=ps.length->BindsTo s fd ⟨us,[]⟩ (ps.zip (us++ds))
theorem Binds.all {K:Ri} {fd:Uk} {ps:List Rz} (h:∀ us:List Rl,us.length=ps.length->Xa fd ⟨us,[]⟩=pure (ps.zip us)):Binds K fd ps []:=fun s us _ hl=>by
 rw [RP] at hl ⊢;exact .of_eq (h us hl)
def Passes (CX:CXT) (X:Cx) (E:XK):Prop:=∀ (pins:List (Rk×TU)) (σ:St) (H:Hp) (s:Rn) (e:Rl) (s':Rn),Inv X pins σ H s->CX X.stack H s E e s'->X.xe e s'
section
variable {X:Cx} {CX:CXT} {k:Nat} {f C:Rk} {fd:Uk} {ps:List Rz} {sp:Sp} {Bw:List V} {ds:List Rl} {E:XK} {x m:Rz} {p pos apos:Vw} {e o:SI} {es:List SI} {ta:TE} {t:TA}
theorem u5 {pins:List (Rk×TU)} {σ:St} {H:Hp} {s:Rn} {Q:VK} {us:List Rl} {vs:List V} (F:FnOk X.prog X.w X.K X.mg X.base CX k f fd ps sp) (hr:Room k X.A) (hb:Binds X.K fd ps ds) (hd:Vals Bw ds) (hx:Passes CX X E)
 (I:Inv X pins σ H s) (r:Vals vs us) (h:sp (vs++Bw) H Q E):RL (RW X.prog X.w) X.A (call (.ref f) us) (EP X pins σ Q) X.xe s:=by
 have r2:Vals (vs++Bw) (us++ds):=r.append hd;have hl:(us++ds).length=ps.length:=by rw [<- r2.length];exact F.len _ _ _ _ h
 refine wpAny_call (Vm (F.run X.A X.stack s H ⟨us,[]⟩ (us++ds) (vs++Bw) Q E hr I.env0 (hb s us I.kIn hl) r2 h) fun r s' hq=>?_);cases r with
 | error e=>exact hx pins σ H s e s' I hq
 | ok fl =>
   cases fl with
   | ret u=>exact I.after hq
   | next=>exact Tw hq
   | brk=>exact Tw hq
   | cont=>exact Tw hq
theorem bc (F:FnOk X.prog X.w X.K X.mg X.base CX k f fd ps sp) (hr:Room k X.A) (hg:Gl X x) (hm:X.mg x=some (.ref f)) (hk:T1 X.K (.ref f)=true) (hb:Binds X.K fd ps ds) (hd:Vals Bw ds) (hx:Passes CX X E)
 (ha:PA X (e::es) t) (Dx:(x == ("__debug__":Rz))=false:=by decide) (he:Sq (e::es) X.env=(false,TZ e X.env)::Sq es X.env:=by rfl) (A9:(VI pos (Sq es X.env)).any (·.1)=false:=by rfl) :
 PE X (.Call (.Name x p) (e::es) [] pos) (nu sp Bw E t):=by
 intro pins s σ H Q I h;refine T3 (iY I hg hm ?_ Dx);refine WW (h₀:=X.base) I.ok.mod.kin hk (thn (ha pos pins s σ H _ I h) fun us s1 ⟨vs,H1,I1,r,q⟩=>⟨I1.kIn,?_⟩) he A9;exact u5 F hr hb hd hx I1 r q
theorem wy {pl:Sem Bool} (he:PE X o ta) (c:Cls X.K C) (hm:Meth X.K C m f) (F:FnOk X.prog X.w X.K X.mg X.base CX k f fd ps sp) (hr:Room k X.A) (hb:Binds X.K fd ps ds) (hd:Vals Bw ds) (hx:Passes CX X E) (ha:PA X (e::es) t)
 (AE:Sq (e::es) X.env=(false,TZ e X.env)::Sq es X.env:=by rfl) (A9:(VI pos (Sq es X.env)).any (·.1)=false:=by rfl)
 (ht:TZ (.Call (.Attribute o m apos) (e::es) [] pos) X.env=(do
  let ov ← TZ o X.env
  standAt apos.atName
  let (f,first) ← holding [ov] (getMethod ov m pl)
  callWith pos f first (VI pos (Sq (e::es) X.env)) (backToKw pos (keywordEach [] X.env))):=by rfl) :
 PE X (.Call (.Attribute o m apos) (e::es) [] pos) (yR C m sp Bw E ta t):=by
 intro pins s σ H Q I h;refine PySem.W.methodCall_KW (pl:=pl) (thn (he pins s σ H _ I h) fun u s1 ⟨x,H1,I1,rx,a,dx,fs,ex,ea,l,q⟩=>?_) ht;subst ex;obtain rfl:u=SV a:=rx;refine qX I1 ea c hm l ?_;refine WW (first:=[.ref a]) (h₀:=X.base) I.ok.mod.kin hm.kp (thn (ha pos pins s1 σ H1 _ I1 q) fun us s2 ⟨vs,H2,I2,r,q2⟩=>⟨I2.kIn,?_⟩) AE A9;exact u5 (us:=.ref a::us) (vs:=.ref a::vs) F hr hb hd hx I2 (.cons rfl r) q2
structure Mk (K:Ri) (C f:Rk):Prop where
 makes:PySem.W.makesIn K C=true
 init:R1 K (.ref C) "__init__"=some (some (.ref f))
 fn:Wh K (.ref f)=true
 kp:T1 K (.ref C)=true
theorem uW {pins:List (Rk×TU)} {σ:St} {H:Hp} {s:Rn} {Q:VK} {us:List Rl} {vs:List V} (M:Mk X.K C f) (F:FnOk X.prog X.w X.K X.mg X.base CX k f fd ps sp) (hr:Room (k+1) X.A) (hb:Binds X.K fd ps ds) (hd:Vals Bw ds)
 (hx:Passes CX X E) (I:Inv X pins σ H s) (r:Vals vs us)
 (h:∀ x dx,H x=none->H dx=none->dx≠x->sp (.ref x::(vs++Bw)) (upd (upd H dx (.own x)) x (.ins C dx [])) (fun v H2=>v=.non/\Q (.ref x) H2) E) :
 RL (RW X.prog X.w) X.A (call (.ref C) us) (EP X pins σ Q) X.xe s:=by
 have hq:=h (s.heap.objs.size+1) s.heap.objs.size (I.hok.fresh (Nat.le_succ _)) (I.hok.fresh (Rq _)) (R7 (U4 _));have I2:=Inv.made (C:=C) I;have r2:Vals (V.ref (s.heap.objs.size+1)::(vs++Bw)) (SV (s.heap.objs.size+1)::(us++ds)):=.cons rfl (r.append hd)
 have hl:(SV (s.heap.objs.size+1)::us++ds).length=ps.length:=by
  have e:=r2.length;rw [F.len _ _ _ _ hq] at e;exact e.symm
 refine wpAny_call (uy (f:=f) I.kIn M.makes M.init (beq_iff_eq.mp M.fn) (Vm (F.run _ X.stack _ _ ⟨SV (s.heap.objs.size+1)::us,[]⟩ (SV (s.heap.objs.size+1)::(us++ds)) _ _ E (hr.make C us [])
  (I2.env0.make C us []) (hb _ (SV (s.heap.objs.size+1)::us) I2.kIn hl) r2 hq) fun r s' Gk=>?_))
 cases r with
 | error e=>exact hx pins σ _ _ e s' I2 Gk
 | ok fl =>
   cases fl with
   | ret u =>
     obtain ⟨v,H',I3,rv,ev,q3⟩:=I2.after Gk;subst ev;exact ⟨rv,⟨V.ref (s.heap.objs.size+1),H',I3,rfl,q3⟩⟩
   | next=>exact Tw Gk
   | brk=>exact Tw Gk
   | cont=>exact Tw Gk
theorem vF (M:Mk X.K C f) (F:FnOk X.prog X.w X.K X.mg X.base CX k f fd ps sp) (hr:Room (k+1) X.A) (hg:Gl X x) (hm:X.mg x=some (.ref C)) (hb:Binds X.K fd ps ds) (hd:Vals Bw ds) (hx:Passes CX X E)
 (Dx:(x == ("__debug__":Rz))=false:=by decide):PE X (.Call (.Name x p) [] [] pos) (yX C sp Bw E dP):=by
 intro pins s σ H Q I h;refine T3 (iY I hg hm ?_ Dx);exact PySem.W.callWith_K0 I.kIn M.kp (uW (us:=[]) M F hr hb hd hx I .nil h)
end
section
variable {X:Cx} {CX:CXT} {k:Nat} {f C:Rk} {fd:Uk} {ps ks:List Rz} {sp:Sp} {E:XK} {x m:Rz} {p pos apos NW:Vw} {e o:SI} {es:List SI} {QF:List Keyword} {te ta:TE} {t tk:TA} {nm:Option Rz}
variable {g:List Rl->List Rl->List Rl} {gV:List V->List V->List V}
end
structure az (N P:List Rz) (sc:UD):Prop where
 kind:sc.kind=.function
 co:sc.isCoroutine=false
 gen:sc.isGenerator=false
 nd:N.Nodup
 pre:N.take P.length=P
 par:∀ x∈P,sc.names.lookup x=some .local∨sc.names.lookup x=some .cell
 nofree:∀ y∈sc.names,y.2≠.free
theorem nn {kindOf:Rz->Option Ui} {x:Rz}:∀ {binds:List (Rz×Rl)} {m:Rz->Option Rl},(∀ v,(x,v)∉binds)->bindL kindOf binds m x=m x
 | [],_,_=>rfl
 | (n,v)::r,m,h=>by
   unfold bindL;rw [nn fun w hw=>h w (Rp _ hw)];split
   · have:x≠n:=by rintro rfl;exact h v Rr
     simp [this]
   · rfl
theorem m4 {kindOf:Rz->Option Ui} {x:Rz}:∀ {binds:List (Rz×Rl)} {m:Rz->Option Rl},(∀ v,(x,v)∉binds)->bindC kindOf binds m x=m x
 | [],_,_=>rfl
 | (n,v)::r,m,h=>by
   unfold bindC;rw [m4 fun w hw=>h w (Rp _ hw)];split
   · rfl
   · have:x≠n:=by rintro rfl;exact h v Rr
     simp [this]
theorem ng {kindOf:Rz->Option Ui} {x:Rz} {v:Rl}:∀ {P:List Rz} {vs:List Rl} {i:Nat} {m:Rz->Option Rl},P.Nodup->P[i]?=some x->vs[i]?=some v->kindOf x=some .local →
 bindL kindOf (P.zip vs) m x=some v
 | [],_,_,_,_,h,_,_=>by simp at h
 | _::_,[],_,_,_,_,h,_=>by simp at h
 | p::P,w::vs,0,m,nd,h1,h2,hk=>by
   simp at h1 h2;subst h1;subst h2;show bindL kindOf ((p,w)::P.zip vs) m p=_;unfold bindL;rw [nn fun v hv=>(Tv.mp nd).1 (List.of_mem_zip hv).1,if_pos hk];simp
 | p::P,w::vs,i+1,m,nd,h1,h2,hk=>by
   show bindL kindOf ((p,w)::P.zip vs) m x=_;unfold bindL;exact ng (i:=i) (Tv.mp nd).2 (by simpa using h1) (by simpa using h2) hk
theorem nI {kindOf:Rz->Option Ui} {x:Rz} {v:Rl}:∀ {P:List Rz} {vs:List Rl} {i:Nat} {m:Rz->Option Rl},P.Nodup->P[i]?=some x->vs[i]?=some v->kindOf x≠some .local →
 bindC kindOf (P.zip vs) m x=some v
 | [],_,_,_,_,h,_,_=>by simp at h
 | _::_,[],_,_,_,_,h,_=>by simp at h
 | p::P,w::vs,0,m,nd,h1,h2,hk=>by
   simp at h1 h2;subst h1;subst h2;show bindC kindOf ((p,w)::P.zip vs) m p=_;unfold bindC;rw [m4 fun v hv=>(Tv.mp nd).1 (List.of_mem_zip hv).1,if_neg hk];simp
 | p::P,w::vs,i+1,m,nd,h1,h2,hk=>by
   show bindC kindOf ((p,w)::P.zip vs) m x=_;unfold bindC;exact nI (i:=i) (Tv.mp nd).2 (by simpa using h1) (by simpa using h2) hk
def start (N:List Rz) (vs:List V):St:=vs.map some++Sy (N.length - vs.length) none
def cz (CX:CXT) (P:RY) (w:Sj) (K:Ri) (mg:Rz->Option Rl) (base:SR) (N:List Rz) (qual:Rz) (scope:UD) (f:Rk) (cd:Rl) (A:Sf) (outer:List WH) (s:Rn) (H:Hp) (E:XK):Cx where
 prog:=P
 w:=w
 K:=K
 mg:=mg
 base:=base
 A:=A.deeper (Up qual scope s.heap.objs.size f cd)
 N:=N
 s₀:=s
 H₀:=H
 env:=Up qual scope s.heap.objs.size f cd
 outer:=outer
 stack:=Up qual scope s.heap.objs.size f cd::outer
 ex:=[]
 calm:=true
 fn:=fun _=>true
 pn:=[]
 xe:=fun e s'=>RL (RW P w) (A.deeper (Up qual scope s.heap.objs.size f cd)) (leaving (Up qual scope s.heap.objs.size f cd) e) (fun _ Gm=>CX outer H s E e Gm) (fun e' Gm=>CX outer H s E e' Gm) s'
theorem qh {sc:UD} {n:Nat} {x:Rz} (h:sc.names.lookup x=some .cell):∃ c,(cellsFrom n sc.names []).lookup x=some c:=by
 have q:=PySem.W.cellsFrom_some sc.names n [] (.inl h);exact Option.isSome_iff_exists.mp q
theorem ug {CX:CXT} {P:RY} {w:Sj} {K:Ri} {mg:Rz->Option Rl} {base:SR} {N ps:List Rz} {qual:Rz} {scope:UD} {f:Rk} {cd:Rl} {A:Sf} {outer:List WH} {s s1:Rn} {H:Hp} {E:XK} {us:List Rl} {vs:List V}
 (S:az N ps scope) (hd:A.handled=none) (e0:Env0 P w K mg base A outer s H) (hl:vs.length=ps.length) (r:Vals vs us)
 (x:InCallC s s.heap.objs.size (bindL (Up qual scope s.heap.objs.size f cd).kindOf (ps.zip us) fun _=>none) (cellsFrom (s.heap.objs.size+1) scope.names []) (bindC (Up qual scope s.heap.objs.size f cd).kindOf (ps.zip us) fun _=>none) s1) :
 Inv (cz CX P w K mg base N qual scope f cd A outer s H E) [] (start N vs) H s1:=by
 have A9:ps.length<=N.length:=by have:=congrArg TB S.pre;rw [Rx] at this;omega
 obtain ⟨h1,tk,rfl,hk⟩:=x.done;have Gn:∀ b:Rk,b∉(cz CX P w K mg base N qual scope f cd A outer s H E).ex:=fun b z=>absurd (show b∈([]:List Rk) from z) (by simp)
 refine ⟨⟨e0.mod,S.kind,rfl,rfl,Rq _,fun y z c h1 h2=>?_,fun y hy=>?_,fun y c _ h=>?_,fun _=>hd,Around.frames_deeper e0.frames,.inr ⟨rfl,rfl⟩,fun b z=>absurd z (Gn b),e0.bs,e0.bsz,fun b _ _=>Gn b,fun b z=>absurd z (Gn b),e0.funs,e0.frf⟩,
  rfl,e0.bare,Un.kept hk,⟨_,x.toInCall.ns,fun i y v h1 h2 h3=>?_⟩,fun y c h=>⟨_,x.cell y c h⟩,e0.hok.fresh (Rq _),fun y c h=>?_,fun p hp=>absurd (show p∈([]:List (Rk×TU)) from hp) (by simp),e0.hok.kept hk,?_⟩
 · exact name_of_addr x.apart (U9 h1) (U9 h2)
 · have hy:scope.names.lookup y=some .cell∨scope.names.lookup y=some .free:=hy;rcases hy with hy | hy
   · exact qh hy
   · exact absurd rfl (S.nofree _ (U9 hy))
 · exact Vu (x.above y c (U9 h))
 · have hi:i<vs.length:=by
    unfold start at h2;by_cases hi:i<vs.length
    · exact hi
    · rw [SY (by simpa using hi)] at h2;rw [List.getElem?_replicate] at h2;split at h2 <;> cases h2
   have ha:vs[i]?=some v:=by
    unfold start at h2;rw [TQ (by simpa using hi),Rw] at h2;cases e:vs[i]? with
    | none=>rw [e] at h2;cases h2
    | some a=>rw [e] at h2;cases h2;rfl
   obtain ⟨u,hu,rv⟩:=r.get ha
   have hp:ps[i]?=some y:=by
    rw [<- S.pre,List.getElem?_take_of_lt (by omega)];exact h1
   have LW:ps.Nodup:=by rw [<- S.pre];exact S.nd.sublist (List.take_sublist _ _)
   refine ⟨u,rv,?_⟩;rcases S.par y (Ru hp) with k | k
   · exact .inl ⟨k,ng LW hp hu k⟩
   · obtain ⟨c,e⟩:=qh (n:=s.heap.objs.size+1) k;refine .inr ⟨.inl k,c,e,?_⟩;have q:=x.cell y c e;rw [nI LW hp hu (by show scope.names.lookup y≠_;rw [k];decide)] at q;exact q
 · exact e0.hok.fresh (Vu (x.above y c (U9 h)))
 · unfold start;show _=N.length;rw [Rm,Rf,List.length_replicate];omega
theorem xx {CX:CXT} {P:RY} {w:Sj} {K:Ri} {mg:Rz->Option Rl} {base:SR} {k:Nat} {f:Rk} {name qual:Rz} {params:Arguments} {body:List Tf} {scope:UD} {dV kV doc pm Al ct oc:Rl} {an od:Option Rk}
 {Eh:Array (Option Rl)} {N ps:List Rz} {sp:Sp} (lk:K.lookup f=some ⟨oc,od,.func (Ux name qual params body scope dV kV doc pm an Al ct),Eh⟩) (C4:Vq K Al qual=true) (S:az N ps scope)
 (len:∀ vs H Q E,sp vs H Q E->vs.length=ps.length)
 (BH:∀ (A:Sf) (outer:List WH) (s:Rn) (H:Hp) (vs:List V) (Q:VK) (E:XK),Room k (A.deeper (Up qual scope s.heap.objs.size f Al))->sp vs H Q E →
  ∃ t,PSs (cz CX P w K mg base N qual scope f Al A outer s H E) body t/\t { nx:=fun _ H'=>Q .non H',rt:=Q } (start N vs) H) :
 FnOk P w K mg base CX (k+1) f (Ux name qual params body scope dV kV doc pm an Al ct) ps sp:=by
 refine ⟨len,fun A outer s H args us vs Q E hr e0 hb r Ca=>?_⟩;have hl:=len _ _ _ _ Ca;have KX:K.In s.heap:=e0.mod.kin.keeps fun b o e=>(e0.bs b o e).1;have lim:s.heap.NoLimit:=e0.mod.nolimit.keeps fun b o e=>(e0.bs b o e).1
 have Gp:∀ y∈ps.zip us,scope.names.lookup y.1=some .local∨(scope.names.lookup y.1=some .cell/\((cellsFrom (s.heap.objs.size+1) scope.names []).lookup y.1).isSome=true):=fun ⟨n,v⟩ hy=>by
  rcases S.par n (List.of_mem_zip hy).1 with q | q
  · exact .inl q
  · exact .inr ⟨q,PySem.W.cellsFrom_some _ _ _ (.inl q)⟩
 refine codeAny_call_function hr.depth (KX _ _ lk) rfl S.co S.gen rfl (PySem.W.codeRec_of KX C4) (hb _ _ _ _ ?_);refine wpAny_newFunctionEnv_cells S.kind Gp fun env he s1 x=>?_;subst he;refine ⟨lim.keeps x.toInCall.keep,codeAny_func ?_⟩;obtain ⟨t,ht,hq⟩:=BH A outer s H vs Q E (hr.deeper _) Ca;have I:Inv (cz CX P w K mg base N qual scope f Al A outer s H E) [] (start N vs) H s1:=ug S hr.hd e0 hl r x;refine SA (ht [] s1 (start N vs) H _ I hq) (fun fl s' hs=>?_) fun e s' hs=>hs
 have fin:∀ {f':St} {H':Hp} {v:V} {u:Rl},Inv (cz CX P w K mg base N qual scope f Al A outer s H E) [] f' H' s'->RelV v u->Q v H'->CE outer P w H s Q u s' :=
  fun {f' H' v u} J rv q=>⟨v,H',J.os,J.bare,J.base,J.hok,rv,q⟩
 cases fl with
 | ret u =>
   obtain ⟨v,f',H',J,rv,q⟩:=hs;exact fin J rv q
 | next =>
   obtain ⟨f',H',J,q⟩:=hs;exact fin (v:=V.non) (u:=Te) J rfl q
 | brk =>
   obtain ⟨_,_,_,q⟩:=hs;exact Tw q
 | cont =>
   obtain ⟨_,_,_,q⟩:=hs;exact Tw q
end L2
namespace L2
open PySem PySem.Spec PyProof.Rows
section
variable {X:Cx} {x:Rz} {p pos:Vw} {e:SI} {es:List SI} {t:TA} {id T:String} {r:List V->Hp->VK->Prop}
def tCB (r:List V->Hp->VK->Prop) (t:TA):TE:=fun σ H Q=>t σ H fun vs H1=>r vs H1 Q
theorem aq (hc:ej X (.builtin id) r) (hg:Gl X x) (hm:X.mg x=none) (hv:V3 x=some (.builtin id)) (ha:PA X (e::es) t) (hn:x≠"__name__":=by decide) (Dx:(x == ("__debug__":Rz))=false:=by decide)
 (he:Sq (e::es) X.env=(false,TZ e X.env)::Sq es X.env:=by rfl) (A9:(VI pos (Sq es X.env)).any (·.1)=false:=by rfl):PE X (.Call (.Name x p) (e::es) [] pos) (tCB r t):=by
 intro pins s σ H Q I h;refine T3 (io I hg hm hv ?_ hn Dx);exact PyProof.Rows.callWith_builtin1 (thn (ha pos pins s σ H _ I h) fun us s1 ⟨vs,H1,I1,r1,q1⟩=>hc pins s1 σ H1 vs us Q I1 r1 q1) he A9
theorem bz (hc:ej X (.type T) r) (hg:Gl X x) (hm:X.mg x=none) (hv:V3 x=some (.type T)) (ha:PA X (e::es) t) (hn:x≠"__name__":=by decide) (Dx:(x == ("__debug__":Rz))=false:=by decide)
 (he:Sq (e::es) X.env=(false,TZ e X.env)::Sq es X.env:=by rfl) (A9:(VI pos (Sq es X.env)).any (·.1)=false:=by rfl):PE X (.Call (.Name x p) (e::es) [] pos) (tCB r t):=by
 intro pins s σ H Q I h;refine T3 (io I hg hm hv ?_ hn Dx);exact Ub (thn (ha pos pins s σ H _ I h) fun us s1 ⟨vs,H1,I1,r1,q1⟩=>hc pins s1 σ H1 vs us Q I1 r1 q1) he A9
end
end L2
namespace HT
open PySem PyProof.Rows
section
open PySem.SeqAt
open PySem.AutoSeq1 (wpAny_loadPart')
open PySem.MeetsSeq PySem.MeetsSeq2 PySem.MeetsSeq3
end
section
variable {prog:RY} {w:Sj} {A:Sf} {E:Rl->Rn->Prop} {s:Rn}
theorem cat_tup {t b:Rk} {vs ws:List Rl} {Q:Rl->Rn->Prop} (ht:IsTup s.heap t vs.toArray) (hb:IsTup s.heap b ws.toArray) (hv:vs≠[])
 (h1:ws=[]->Q (.ref t) s) (h2:ws≠[]->Q (.ref s.heap.objs.size) { s with heap:=s.heap.push { cls:=.type "tuple",data:=.seq (vs++ws).toArray } })
 (Az:vs.length+ws.length<=RS):RL (RW prog w) A (Ve .Add (.ref t) (.ref b)) Q E s:=by
 obtain ⟨⟨cls,dd,data,sl⟩,ho,hc,n,hd⟩:=id ht;obtain ⟨⟨Gq,FN,data2,FO⟩,E3,Dy,n2,hd2⟩:=id hb;simp only at hc hd Dy hd2;subst hc hd Dy hd2;have e:vs.toArray++ws.toArray=(vs++ws).toArray:=by simp
 by_cases hw:ws=[]
 · exact concat_meets ⟨_,ho,rfl⟩ ⟨_,E3,rfl⟩ noFill_tuple_add seq_tuple_add Wi Wc (V6 _ _)
    (tuple_addW1 t b vs.toArray ws.toArray n n2 dd FN sl FO (by simpa using hv) (by simp [hw])) ⟨ho,E3,h1 hw⟩
 · refine concat_meets ⟨_,ho,rfl⟩ ⟨_,E3,rfl⟩ noFill_tuple_add seq_tuple_add Wi Wc (V6 _ _)
    (tuple_addW2 t b vs.toArray ws.toArray n n2 dd FN sl FO (by simpa using hv) (by simpa using hw) (by rw [Rt,Rt];exact Az)) ⟨ho,E3,?_⟩
   rw [e];exact h2 hw
def sIx (n d:Nat):Option Int->Nat
 | none=>d
 | some v=>if v<0 then (v+(n:Int)).toNat else min v.toNat n
theorem sIx_none (n d:Nat):sIx n d none=d:=rfl
theorem sIx_nat (n d k:Nat):sIx n d (some (k:Int))=min k n:=by
 show (if (k:Int)<0 then ((k:Int)+(n:Int)).toNat else min (k:Int).toNat n)=min k n;rw [if_neg (by omega),Tq]
theorem sIx_le (n d:Nat) (hd:d<=n) (o:Option Int):sIx n d o<=n:=by
 cases o with
 | none=>exact hd
 | some v =>
   show (if v<0 then (v+(n:Int)).toNat else min v.toNat n)<=n;by_cases hv:v<0
   · rw [if_pos hv];omega
   · rw [if_neg hv];exact Nat.min_le_right _ _
theorem clip_eq (v:Int) (n d:Nat):(if v<0 then max (v+(n:Int)) 0 else min v (n:Int))=((sIx n d (some v):Nat):Int):=by
 show (if v<0 then max (v+(n:Int)) 0 else min v (n:Int))=(((if v<0 then (v+(n:Int)).toNat else min v.toNat n):Nat):Int);by_cases hv:v<0
 · simp only [if_pos hv];omega
 · simp only [if_neg hv];omega
theorem adjust_gen (lo hi:Option Int) (n:Nat):UE lo hi 1 (n:Int)=(((sIx n 0 lo:Nat):Int),((sIx n n hi:Nat):Int)):=by
 have h1:¬ ((1:Int)<0):=by omega
 unfold UE;simp only [h1,if_false];refine Prod.ext ?_ ?_
 · cases lo with
   | none=>rfl
   | some v=>exact clip_eq v n 0
 · cases hi with
   | none=>rfl
   | some v=>exact clip_eq v n n
theorem places_gen (i j:Nat):Tb (i:Int) (j:Int) 1=j - i:=by
 unfold Tb;have h1:(1:Int) > 0:=by omega
 simp only [h1,if_true,Xl];split <;> omega
theorem slicePart_ {v:Rl} {o:Option Int} {Q:Option Int->Rn->Prop} (p:IsPart v o) (h:Q o s):RL (RW prog w) A (Builtin.Slice.slicePartIndex v) Q E s:=by
 cases p with
 | none=>exact slicePart_none h
 | int i t=>exact slicePart_int h
theorem sliceApplied_gen {sl:Rk} {vl vu:Rl} {lo hi:Option Int} {n:Nat} {Q:Int×Int×Nat->Rn->Prop} (hs:s.heap.IsSliceOf sl vl vu .none) (pl:IsPart vl lo) (pu:IsPart vu hi)
 (h:Q (((sIx n 0 lo:Nat):Int),1,sIx n n hi - sIx n 0 lo) s):RL (RW prog w) A (Vh (.ref sl) (pure (n:Int))) Q E s:=by
 obtain ⟨os,Cg,Gr,Ci⟩:=id hs;unfold Vh Builtin.Slice.sliceFields;refine Rj (Rj (Sx Cg Ci (x:=vl) rfl (Rj (Sx Cg Ci (x:=vu) rfl (Rj (Sx Cg Ci (x:=.none) rfl (RF ?_)))))));refine Rj (slicePart_none ?_);show RL _ _ (if ((1:Int) == 0)=true then _ else _) _ _ s;rw [if_neg (by decide)];refine Rj (slicePart_ pl (Rj (slicePart_ pu (Rj (RF ?_)))));show RL _ _ (match UE lo hi 1 (n:Int) with | (lo,hi)=>pure (lo,(1:Int),Tb lo hi 1)) _ _ s;rw [adjust_gen lo hi n];show RL _ _ (pure (((sIx n 0 lo:Nat):Int),(1:Int),Tb ((sIx n 0 lo:Nat):Int) ((sIx n n hi:Nat):Int) 1)) _ _ s;rw [places_gen];exact RF h
theorem pick_gen (xs:Array Rl) (i k:Nat):((Sw k).filterMap fun (m:Nat)=>xs[((i:Int)+(m:Int) * 1).toNat]?).toArray=((xs.toList.drop i).take k).toArray:=by
 have e:(fun (m:Nat)=>xs[((i:Int)+(m:Int) * 1).toNat]?)=fun m=>xs[i+m]?:=by
  funext m;have:((i:Int)+(m:Int) * 1).toNat=i+m:=by omega
  rw [this]
 rw [e];have:=pick_run xs i k;rw [List.filterMap_map] at this;have e2:((fun x=>xs[x]?) ∘ fun x=>i+x)=fun m=>xs[i+m]?:=rfl;rw [e2] at this;rw [this]
theorem getItem_tuple_cut {t sl:Rk} {items:Array Rl} {vl vu:Rl} {lo hi:Option Int} {Q:Rl->Rn->Prop} (ht:IsTup s.heap t items) (hs:s.heap.IsSliceOf sl vl vu .none) (pl:IsPart vl lo) (pu:IsPart vu hi)
 (hw:¬ (sIx items.size 0 lo=0/\sIx items.size items.size hi=items.size))
 (h:Q (.ref s.heap.objs.size) { s with heap:=s.heap.push { cls:=.type "tuple",data:=.seq ((items.toList.drop (sIx items.size 0 lo)).take (sIx items.size items.size hi - sIx items.size 0 lo)).toArray } })
 (Az:items.size<=RS):RL (RW prog w) A (WL (.ref t) (.ref sl)) Q E s:=by
 have Bl:sizeOk (.seq ((items.toList.drop (sIx items.size 0 lo)).take (sIx items.size items.size hi - sIx items.size 0 lo)).toArray):=by
  show ((items.toList.drop (sIx items.size 0 lo)).take (sIx items.size items.size hi - sIx items.size 0 lo)).toArray.size<=RS;rw [Rt,Rx,RJ,RE];omega
 have hj:sIx items.size items.size hi<=items.size:=sIx_le _ _ (Rq _) hi;obtain ⟨os,Cg,Gr,Ci⟩:=id hs;have Js:s.TypeIs (.ref sl) "slice":=⟨os,Cg,Gr⟩;unfold WL
 try with_reducible refine Uo ?_
 first | refine Rj (RF ?_) | skip
 refine Rj (wpAny_sequenceKey ht.typeIs (by decide) ?_)
 refine Rj (Ug (name:=Rc "__getitem__") ht.typeIs Tg
  (Vl Tg ht.typeIs entry_tuple_getitem ?_ (args_tuple_getitem _ _)))
 show RL _ _ (Builtin.Tuple.tupleItemsOf (.ref t) >>= _) _ _ s;refine Rj (tupleItemsOf_ ht ?_);refine Rj (wpAny_typeOf Js ?_);rw [if_pos (by decide)];refine Rj (sliceApplied_gen hs pl pu ?_)
 have AF:¬ ((((sIx items.size 0 lo:Nat):Int) == 0 && (1:Int) == 1 && (sIx items.size items.size hi - sIx items.size 0 lo) == items.size)=true):=by
  intro q;rw [R5,R5] at q;have q1:((sIx items.size 0 lo:Nat):Int)=0:=eq_of_beq q.1.1;have q2:sIx items.size items.size hi - sIx items.size 0 lo=items.size:=eq_of_beq q.2;exact hw ⟨by omega,by omega⟩
 show RL _ _ (if (((sIx items.size 0 lo:Nat):Int) == 0 && (1:Int) == 1 && (sIx items.size items.size hi - sIx items.size 0 lo) == items.size)=true then _ else _) _ _ s;rw [if_neg AF,pick_gen]
 first
  | exact Rj (m:=Td _) (S8 (RF ⟨_,rfl,RF h⟩) Bl)
  | exact Rj (m:=Td _) (S8 (Rj (RF (RF ⟨_,rfl,RF h⟩))) Bl)
  | exact Rj (Rj (m:=Td _) (S8 (RF (RF ⟨_,rfl,RF h⟩)) Bl))
  | exact Rj (Rj (m:=Td _) (S8 (RF ⟨_,rfl,RF h⟩) Bl))
end
end HT
namespace L2
open PySem PySem.Spec PyProof.Rows
abbrev TO:=St->Hp->(Option Int->Hp->Prop)->Prop
def PO (X:Cx) (e:Option SI) (t:TO):Prop :=
 ∀ (pins:List (Rk×TU)) (s:Rn) (σ:St) (H:Hp) (Q:Option Int->Hp->Prop),Inv X pins σ H s->t σ H Q →
   RL (RW X.prog X.w) X.A (evalPart e X.env) (fun u s'=>∃ o H',Inv X pins σ H' s'/\IsPart u o/\Q o H') X.xe s
def wV:TO:=fun _ H Q=>Q none H
inductive xE (x:V) (Q:Option Int->Hp->Prop) (H1:Hp):Prop
 | mk (i:Int) (Aq:x=.int i) (Ar:Q (some i) H1):xE x Q H1
def xA (t:TE):TO:=fun σ H Q=>t σ H fun x H1=>xE x Q H1
section
variable {X:Cx} {e:SI} {te:TE} {lo hi:Option SI} {tl th:TO} {pos p2:Vw}
theorem bd:PO X none wV:=by
 intro pins s σ H Q I h;rw [evalPart_none];exact RF ⟨none,H,I,.none,h⟩
theorem aO (h:PE X e te):PO X (some e) (xA te):=by
 intro pins s σ H Q I hw;rw [evalPart_some];refine thn (h pins s σ H _ I hw) fun u s1 ⟨x,H1,I1,r1,q1⟩=>?_;obtain ⟨i,rfl,q⟩:=q1;obtain ⟨t,rfl⟩:=r1;exact ⟨some i,H1,I1,.int i t,q⟩
def SlR (X:Cx) (r:V->Option Int->Option Int->Hp->VK->Prop):Prop :=
 ∀ (pins:List (Rk×TU)) (s:Rn) (σ:St) (H:Hp) (x:V) (v vl vu:Rl) (lo hi:Option Int) (sl:Rk) (Q:VK),Inv X pins σ H s->RelV x v->s.heap.IsSliceOf sl vl vu .none->IsPart vl lo->IsPart vu hi->r x lo hi H Q →
   ∃ T id,typeLookup (.type T) "__getitem__"=pure (some (.builtin id))/\s.TypeIs v T/\RL (RW X.prog X.w) X.A (WL v (.ref sl)) (EP X pins σ Q) X.xe s
def tSl (r:V->Option Int->Option Int->Hp->VK->Prop) (te:TE) (tl th:TO):TE:=fun σ H Q=>te σ H fun x H1=>tl σ H1 fun l H2=>th σ H2 fun u H3=>r x l u H3 Q
theorem aK {r:V->Option Int->Option Int->Hp->VK->Prop} (hr:SlR X r) (he:PE X e te) (hl:PO X lo tl) (hu:PO X hi th):PE X (.Subscript e (.Slice lo hi none p2) pos) (tSl r te tl th):=by
 intro pins s σ H Q I h;refine Subscript_ (thn (he pins s σ H _ I h) fun v s1 ⟨x,H1,I1,r1,q1⟩=>?_);refine wpAny_Slice (thn (hl pins s1 σ H1 _ I1 q1) fun vl s2 ⟨l,H2,I2,pl,q2⟩=>thn (hu pins s2 σ H2 _ I2 q2) fun vu s3 ⟨u,H3,I3,pu,q3⟩=>?_);rw [evalPart_none];refine RF ?_;have I4:Inv X pins σ H3 { s3 with heap:=s3.heap.push { cls:=.type "slice",data:=.fields #[vl,vu,.none] } }:=I3.kept (t':=s3.toks) fun b ob q=>Ro _ q;obtain ⟨T,id,hT,ht,hg⟩:=hr pins { s3 with heap:=s3.heap.push { cls:=.type "slice",data:=.fields #[vl,vu,.none] } } σ H3 x v vl vu l u s3.heap.objs.size Q I4 r1 (Heap.IsSliceOf.new ..) pl pu q3;show RL (RW X.prog X.w) X.A (subscriptTail e (.Slice lo hi none p2) v (.ref s3.heap.objs.size)) (EP X pins σ Q) X.xe { s3 with heap:=s3.heap.push { cls:=.type "slice",data:=.fields #[vl,vu,.none] } };exact tail_any (ops:=[.ref s3.heap.objs.size,v]) ht hT hg (by with_unfolding_all rfl)
def cB (xs:List V) (lo hi:Option Int):List V:=(xs.drop (HT.sIx xs.length 0 lo)).take (HT.sIx xs.length xs.length hi - HT.sIx xs.length 0 lo)
theorem jZ (xs:List V) (lo hi:Option Int):(cB xs lo hi).length<=xs.length:=by
 unfold cB;rw [Rx,RJ];omega
inductive xJ (K:Ri) (x:V) (lo:Option Int) (hi:Option Int) (H:Hp) (Q:VK):Prop
 | mk (a:_) (xs:_) (Aq:x=.ref a) (Ar:SqT K H a xs) (AB:¬ (HT.sIx xs.length 0 lo=0/\HT.sIx xs.length xs.length hi=xs.length)) (AQ:∀ p,H p=none->Q (.ref p) (upd H p (.tup (cB xs lo hi)))):xJ K x lo hi H Q
def aaD (K:Ri):V->Option Int->Option Int->Hp->VK->Prop:=xJ K
theorem u6:SlR X (aaD X.K):=by
 intro pins s σ H x v vl vu lo hi sl Q I rx hs pl pu h;obtain ⟨a,xs,rfl,hx,hw,q⟩:=h;cases rx;obtain ⟨its,r,ht,hz⟩:=I.tuple hx;have hlen:its.toArray.size=xs.length:=by rw [Rt];exact r.length.symm
 refine ⟨"tuple",_,Tg.lookup,ht.typeIs,?_⟩;refine HT.getItem_tuple_cut ht hs pl pu (by rw [hlen];exact hw) ?_ (by rw [hlen];exact hz);rw [hlen];refine ⟨.ref s.heap.objs.size,_,I.laid (t':=s.toks) (o:=.tup (cB xs lo hi)) (fun b ob q=>Ro _ q) (Rq _) ?_,rfl,q _ (I.hok.fresh (Rq _))⟩;exact ⟨SO (jZ xs lo hi) hz,_,0,(r.drop (HT.sIx xs.length 0 lo)).take (HT.sIx xs.length xs.length hi - HT.sIx xs.length 0 lo),RD _ rfl⟩
def yT (K:Ri):R2:=fun x y H Q=>∃ a b xs ys,x=.ref a/\y=.ref b/\SqT K H a xs/\SqT K H b ys/\xs≠[]/\xs.length+ys.length<=RS ∧
 (ys=[]->Q (.ref a) H)/\(ys≠[]->∀ p,H p=none->Q (.ref p) (upd H p (.tup (xs++ys))))
theorem Vals.nil_iff {xs:List V} {us:List Rl} (r:Vals xs us):us=[]↔xs=[]:=by
 cases r with
 | nil=>simp
 | cons _ _=>simp
theorem wU:OpR X (Ve .Add) (yT X.K):=by
 intro pins s σ H x y v u Q I rx ry h;obtain ⟨a,b,xs,ys,rfl,rfl,ha,hb,hx,hz,q1,q2⟩:=h;cases rx;cases ry;obtain ⟨its,r1,p1,_⟩:=I.tuple ha;obtain ⟨Ah,r2,p2,_⟩:=I.tuple hb;refine HT.cat_tup p1 p2 (fun z=>hx (r1.nil_iff.mp z)) (fun z=>⟨.ref a,H,I,rfl,q1 (r2.nil_iff.mp z)⟩) (fun z=>?_) (by rw [<- r1.length,<- r2.length];exact hz);refine ⟨.ref s.heap.objs.size,_,I.laid (t':=s.toks) (o:=.tup (xs++ys)) (fun b ob q=>Ro _ q) (Rq _) ?_,rfl,q2 (fun w=>z (r2.nil_iff.mpr w)) _ (I.hok.fresh (Rq _))⟩;exact ⟨by rw [Rm];exact hz,_,0,r1.append r2,RD _ rfl⟩
end
end L2
namespace L2
open PySem PySem.Spec PyProof.Rows
def ixN (n:Nat) (i:Int):Option Nat:=if 0<=i then (if i<n then some i.toNat else none) else if -(n:Int)<=i then some (i+n).toNat else none
def atI {α:Type} (xs:List α) (i:Int):Option α:=(ixN xs.length i).bind fun j=>xs[j]?
theorem sq {n:Nat} {i:Int} {j:Nat} (h:ixN n i=some j):seqIndex? i n=some j/\j<n/\-(n:Int)<=i/\i<n:=by
 unfold ixN at h;by_cases h0:0<=i
 · rw [if_pos h0] at h;by_cases h1:i<n
   · rw [if_pos h1] at h;have e:i.toNat=j:=Ry h;exact ⟨by rw [seqIndex_of h0 h1,e],by omega,by omega,h1⟩
   · rw [if_neg h1] at h;cases h
 · rw [if_neg h0] at h;by_cases h1:-(n:Int)<=i
   · rw [if_pos h1] at h;have e:(i+n).toNat=j:=Ry h;exact ⟨by rw [seqIndex_neg (by omega) h1,e],by omega,h1,by omega⟩
   · rw [if_neg h1] at h;cases h
theorem kK {α:Type} {xs:List α} {i:Int} {v:α} (h:atI xs i=some v):∃ j,seqIndex? i xs.length=some j/\xs[j]?=some v/\j<xs.length/\-(xs.length:Int)<=i/\i<xs.length:=by
 unfold atI at h;cases e:ixN xs.length i with
 | none=>rw [e] at h;cases h
 | some j =>
   rw [e] at h;obtain ⟨h1,h2,h3,h4⟩:=sq e;exact ⟨j,h1,h,h2,h3,h4⟩
theorem fg {α:Type} {xs:List α} {j:Nat} {v:α} (h:xs[j]?=some v):atI xs (j:Int)=some v:=by
 have hj:j<xs.length:=(Rv.mp h).1
 have e:ixN xs.length (j:Int)=some j:=by
  unfold ixN;rw [if_pos (by omega),if_pos (by omega)];simp
 unfold atI;rw [e];exact h
theorem qa {α:Type} (xs:List α) (v:α):atI (xs++[v]) (-1)=some v:=by
 have hl:(xs++[v]).length=xs.length+1:=by simp
 have e:ixN (xs++[v]).length (-1)=some xs.length:=by
  unfold ixN;rw [hl,if_neg (by decide),if_pos (by omega)];congr 1;omega
 unfold atI;rw [e];show (xs++[v])[xs.length]?=some v;simp
def v9 (b:SI):Prop:=∀ o i,subscripted b false o i=operate [o,i] (WL o i)
def IxR (X:Cx) (r:R2):Prop :=
 ∀ (value slice:SI) (pins:List (Rk×TU)) (s:Rn) (σ:St) (H:Hp) (x y:V) (v u:Rl) (Q:VK),Inv X pins σ H s->RelV x v->RelV y u->r x y H Q →
   subscripted slice false v u=operate [v,u] (WL v u)->RL (RW X.prog X.w) X.A (subscriptTail value slice v u) (EP X pins σ Q) X.xe s
def MtR (X:Cx) (id:String) (r:V->List V->Hp->VK->Prop):Prop :=
 ∀ (pins:List (Rk×TU)) (s:Rn) (σ:St) (H:Hp) (x:V) (xs:List V) (v:Rl) (us:List Rl) (Q:VK),Inv X pins σ H s->RelV x v->Vals xs us->r x xs H Q →
   RL (RW X.prog X.w) X.A (call (.builtin id) (v::us)) (EP X pins σ Q) X.xe s
section
variable {X:Cx} {a b:SI} {ta tb:TE} {pos:Vw}
theorem aA {r:R2} (hr:IxR X r) (ha:PE X a ta) (hb:PE X b tb) (hs:v9 b):PE X (.Subscript a b pos) (tOp r ta tb):=by
 intro pins s σ H Q I h;exact Subscript_ (yu ha hb I h fun v u s2 x y H2 I2 rx ry q=>hr a b pins s2 σ H2 x y v u Q I2 rx ry q (hs _ _))
inductive xr (K:Ri) (x:V) (y:V) (H:Hp) (Q:VK):Prop
 | mk (p:_) (xs:_) (i:_) (v:_) (Aq:x=.ref p) (Ar:y=.int i) (AB:SqL K H p xs) (AQ:atI xs i=some v) (Bq:Q v H):xr K x y H Q
def zG (K:Ri):R2:=xr K
inductive xq (K:Ri) (x:V) (y:V) (H:Hp) (Q:VK):Prop
 | mk (p:_) (xs:_) (i:_) (v:_) (Aq:x=.ref p) (Ar:y=.int i) (AB:SqT K H p xs) (AQ:atI xs i=some v) (Bq:Q v H):xq K x y H Q
def ve (K:Ri):R2:=xq K
inductive xB (x:V) (y:V) (H:Hp) (Q:VK):Prop
 | mk (z:_) (i:_) (c:_) (Aq:x=.str z) (Ar:y=.int i) (AB:z.length<=RS) (AQ:atI z.cps.toList i=some c) (Bq:Q (.str ⟨#[c]⟩) H):xB  x y H Q
def aab:R2:=xB
theorem aJ:IxR X (zG X.K):=by
 intro value slice pins s σ H x y v u Q I rx ry h hs;obtain ⟨p,xs,i,z,rfl,rfl,hq,he,q⟩:=h;cases rx;obtain ⟨t,rfl⟩:=ry;obtain ⟨its,r,pl,hz⟩:=I.list hq;obtain ⟨j,h1,h2,h3,h4,h5⟩:=kK he;obtain ⟨w,ew,Cv⟩:=r.get h2;have hl:=r.length;have hn:=fT;have fin:EP X pins σ Q w s:=⟨z,H,I,Cv,q⟩;by_cases h0:0<=i
 · have hj:i.toNat=j:=by
    rw [seqIndex_of h0 h5] at h1;exact Ry h1
   exact item_listR pl.isList h0 (by omega) (by rw [hj];simpa using ew) fin hs
 · have hj:(i+(its.toArray.size:Int)).toNat=j:=by
    rw [seqIndex_neg (by omega) h4] at h1;rw [Rt,<- hl];exact Ry h1
   exact subscriptTail_builtinR (x:=w) pl.isList.typeIs slot_list_getitem.lookup
    (wpAny_getItem_list_neg (Q:=fun r s'=>r=w/\EP X pins σ Q r s') pl.isList (by omega) (by rw [Rt] <;> omega) (by omega) (by rw [hj];simpa using ew) ⟨rfl,fin⟩) hs
theorem aM:IxR X (ve X.K):=by
 intro value slice pins s σ H x y v u Q I rx ry h hs;obtain ⟨p,xs,i,z,rfl,rfl,hq,he,q⟩:=h;cases rx;obtain ⟨t,rfl⟩:=ry;obtain ⟨its,r,pl,hz⟩:=I.tuple hq;obtain ⟨j,h1,h2,h3,h4,h5⟩:=kK he;obtain ⟨w,ew,Cv⟩:=r.get h2;have hl:=r.length;have hn:=fT;have fin:EP X pins σ Q w s:=⟨z,H,I,Cv,q⟩
 exact subscriptTail_builtinR (x:=w) pl.typeIs slot_tuple_getitem.lookup
  (getItem_tuple (j:=j) (Q:=fun r s'=>r=w/\EP X pins σ Q r s') pl (by omega) (by omega) (by rw [Rt,<- hl];exact h1) (by simpa using ew) ⟨rfl,fin⟩) hs
theorem oE:IxR X aab:=by
 intro value slice pins s σ H x y v u Q I rx ry h hs;obtain ⟨z,i,c,rfl,rfl,hz,he,q⟩:=h;obtain ⟨t,rfl⟩:=rx;obtain ⟨t',rfl⟩:=ry;obtain ⟨j,h1,h2,h3,h4,h5⟩:=kK he;have hl:z.cps.toList.length=z.length:=by simp [Str.length]
 rw [hl] at h1 h4 h5;have hn:=fT
 exact tail_any (Uu s z t) slot_str_getitem.lookup (getItem_str (c:=c) (by
  have e1:decide (i < -(2 ^ 63:Int))=false:=decide_eq_false (by omega);have e2:decide (i ≥ 2 ^ 63)=false:=decide_eq_false (by omega);rw [e1,e2,Bool.or_false]) (by rw [h1];simpa using h2) ⟨.str ⟨#[c]⟩,H,I.tok _,⟨_,rfl⟩,q⟩) hs
theorem qP (its:List Rl) (n j:Nat) (u:Rl):WQ (·.setIfInBounds j u) { cls:=.type "list",data:=.seq its.toArray n }={ cls:=.type "list",data:=.seq (its.set j u).toArray n }:=by
 simp [WQ]
theorem Inv.lst {pins:List (Rk×TU)} {σ:St} {H:Hp} {s:Rn} {p:Rk} {xs:List V} (I:Inv X pins σ H s) (h:H p=some (.lst xs)) :
 ∃ (its:List Rl) (n:Nat),Vals xs its/\s.heap.get? p=some { cls:=.type "list",data:=.seq its.toArray n }/\xs.length<=RS:=by
 obtain ⟨z,its,n,r,e⟩:=I.hok p _ h;exact ⟨its,n,r,e,z⟩
theorem Inv.lstUpd {pins:List (Rk×TU)} {σ:St} {H:Hp} {s:Rn} {p:Rk} {xs ys:List V} {its its':List Rl} {n n':Nat} {f:TU->TU} (I:Inv X pins σ H s) (h:H p=some (.lst xs))
 (ho:s.heap.get? p=some { cls:=.type "list",data:=.seq its.toArray n }) (hf:f { cls:=.type "list",data:=.seq its.toArray n }={ cls:=.type "list",data:=.seq its'.toArray n' }) (r:Vals ys its') (hz:ys.length<=RS) (t:Nat) :
 Inv X pins σ (upd H p (.lst ys)) { s with heap:=s.heap.update p f,toks:=t }:=by
 have e:(s.heap.update p f).get? p=some { cls:=.type "list",data:=.seq its'.toArray n' }:=by
  rw [W0 f ho (by rw [hf] <;> rfl),hf]
 refine I.write (x:=p) (e:=p) (by rw [h];trivial) (.inl rfl) (fun b u hb q=>(VL _ _ (UG hb)).trans q) ⟨_,e⟩ ?_;exact ⟨hz,its',n',r,e⟩
def zM:V->V->V->Hp->(Hp->Prop)->Prop:=fun o i v H Q=>∃ p xs k j,o=.ref p/\i=.int k/\H p=some (.lst xs)/\ixN xs.length k=some j/\Q (upd H p (.lst (xs.set j v)))
theorem set_list:xW X zM:=by
 intro pins s σ H o i v ov iv u Q I ro ri rv h;obtain ⟨p,xs,k,j,rfl,rfl,hp,hj,q⟩:=h;cases ro;obtain ⟨t,rfl⟩:=ri;obtain ⟨its,n,r,ho,hz⟩:=I.lst hp;obtain ⟨h1,h2,h3,h4⟩:=sq hj;have hl:=r.length;have hn:=fT
 have I':Inv X pins σ (upd H p (.lst (xs.set j v))) { s with heap:=s.heap.update p (WQ (·.setIfInBounds j u)) } :=
  I.lstUpd hp ho (qP its n j u) (r.set rv j) (by rw [VN];exact hz) s.toks
 by_cases h0:0<=k
 · have hk:k.toNat=j:=by
    rw [seqIndex_of h0 h4] at h1;exact Ry h1
   exact PySem.W.ki_setAt ho h0 (by omega) (by rw [Rt,<- hl];exact h4) (by rw [hk];exact ⟨_,I',q⟩)
 · have hk:(k+(its.toArray.size:Int)).toNat=j:=by
    rw [seqIndex_neg (by omega) h3] at h1;rw [Rt,<- hl];exact Ry h1
   exact PySem.W.ki_setBack ho (by omega) (by rw [Rt,<- hl];exact h3) (by omega) (by rw [hk];exact ⟨_,I',q⟩)
theorem om (lo hi:Option Int) (n:Nat):(VU lo hi none n).1=((HT.sIx n 0 lo:Nat):Int)/\(VU lo hi none n).2.1=((HT.sIx n n hi:Nat):Int)/\(VU lo hi none n).2.2=1:=by
 refine ⟨?_,?_,rfl⟩
 · cases lo with
   | none=>simp [VU,HT.sIx]
   | some i =>
     simp only [VU,HT.sIx,Option.getD_none,show (1:Int) > 0 by decide,if_true];by_cases h:i<0
     · simp only [h,if_true] <;> omega
     · simp only [h,if_false] <;> omega
 · cases hi with
   | none=>simp [VU,HT.sIx]
   | some i =>
     simp only [VU,HT.sIx,Option.getD_none,show (1:Int) > 0 by decide,if_true];by_cases h:i<0
     · simp only [h,if_true] <;> omega
     · simp only [h,if_false] <;> omega
theorem mP (its:List Rl) (lo hi:Option Int):slicePick its.toArray lo hi none=((its.drop (HT.sIx its.length 0 lo)).take (HT.sIx its.length its.length hi - HT.sIx its.length 0 lo)).toArray:=by
 obtain ⟨h1,h2,h3⟩:=om lo hi its.toArray.size;unfold slicePick;rw [h1,h2,h3];simp only [sliceRange_one,pick_run,Rt] <;> rfl
inductive xu (K:Ri) (x:V) (lo:Option Int) (hi:Option Int) (H:Hp) (Q:VK):Prop
 | mk (a:_) (xs:_) (Aq:x=.ref a) (Ar:SqL K H a xs) (AB:∀ p,H p=none->Q (.ref p) (upd H p (.lst (cB xs lo hi)))):xu K x lo hi H Q
def aad (K:Ri):V->Option Int->Option Int->Hp->VK->Prop:=xu K
theorem bp:SlR X (aad X.K):=by
 intro pins s σ H x v vl vu lo hi sl Q I rx hs pl pu h;obtain ⟨a,xs,rfl,hx,q⟩:=h;cases rx;obtain ⟨its,r,ht,hz⟩:=I.list hx;have hlen:=r.length;refine ⟨"list",_,slot_list_getitem.lookup,ht.isList.typeIs,?_⟩;refine wpAny_getItem_list_slice ht.isList hs pl pu .none (by simp) ?_ (by rw [Rt] <;> omega);rw [mP,<- hlen];refine ⟨.ref s.heap.objs.size,_,I.laid (t':=s.toks) (o:=.lst (cB xs lo hi)) (fun b ob q=>Ro _ q) (Rq _) ?_,rfl,q _ (I.hok.fresh (Rq _))⟩;exact ⟨SO (jZ xs lo hi) hz,_,0,(r.drop (HT.sIx xs.length 0 lo)).take (HT.sIx xs.length xs.length hi - HT.sIx xs.length 0 lo),RD _ rfl⟩
def kg:V->Bool
 | .non=>true
 | .bl _=>true
 | .int _=>true
 | .str _=>true
 | _=>false
def eqV:V->V->Bool
 | .non,.non=>true
 | .bl a,.bl b=>a == b
 | .bl a,.int b=>(if a then 1 else 0) == b
 | .int a,.bl b=>a == (if b then 1 else 0)
 | .int a,.int b=>a == b
 | .str a,.str b=>a == b
 | _,_=>false
theorem yi {A:Sf} {s:Rn} {y x:V} {u v:Rl} (ry:RelV y u) (rx:RelV x v) (fy:kg y=true) (fx:kg x=true):SeqAt.EqAt A s u v (eqV y x):=by
 cases y with
 | non =>
   cases ry;cases x with
   | non=>cases rx;exact SeqAt.EqAt.same _
   | bl b=>cases rx;exact SeqAt.EqAt.none_bool b
   | int b=>obtain ⟨t,rfl⟩:=rx;exact SeqAt.EqAt.none_int b t
   | str b=>obtain ⟨t,rfl⟩:=rx;exact SeqAt.EqAt.none_str b t
   | _=>exact absurd (show false=true from fx) RK
 | bl a =>
   cases ry;cases x with
   | non=>cases rx;exact SeqAt.EqAt.bool_none a
   | bl b=>cases rx;exact SeqAt.EqAt.bool_bool a b
   | int b=>obtain ⟨t,rfl⟩:=rx;exact SeqAt.EqAt.bool_int a b t
   | str b=>obtain ⟨t,rfl⟩:=rx;exact SeqAt.EqAt.bool_str a b t
   | _=>exact absurd (show false=true from fx) RK
 | int a =>
   obtain ⟨t',rfl⟩:=ry;cases x with
   | non=>cases rx;exact SeqAt.EqAt.int_none a t'
   | bl b=>cases rx;exact SeqAt.EqAt.int_bool a t' b
   | int b=>obtain ⟨t,rfl⟩:=rx;exact SeqAt.EqAt.int_int a t' b t
   | str b=>obtain ⟨t,rfl⟩:=rx;exact SeqAt.EqAt.int_str a t' b t
   | _=>exact absurd (show false=true from fx) RK
 | str a =>
   obtain ⟨t',rfl⟩:=ry;cases x with
   | non=>cases rx;exact SeqAt.EqAt.str_none a t'
   | bl b=>cases rx;exact SeqAt.EqAt.str_bool a t' b
   | int b=>obtain ⟨t,rfl⟩:=rx;exact SeqAt.EqAt.str_int a t' b t
   | str b=>obtain ⟨t,rfl⟩:=rx;exact SeqAt.EqAt.str_str a t' b t
   | _=>exact absurd (show false=true from fx) RK
 | _=>exact absurd (show false=true from fy) RK
def eqU (x:V) (u:Rl):Bool:=match u with
 | .none=>eqV .non x
 | .bool b=>eqV (.bl b) x
 | .int i _=>eqV (.int i) x
 | .str z _=>eqV (.str z) x
 | _=>false
theorem vk {x y:V} {u:Rl} (r:RelV y u) (f:kg y=true):eqU x u=eqV y x:=by
 cases y with
 | non=>cases r;rfl
 | bl b=>cases r;rfl
 | int i=>obtain ⟨t,rfl⟩:=r;rfl
 | str z=>obtain ⟨t,rfl⟩:=r;rfl
 | _=>exact absurd (show false=true from f) RK
theorem oj {x:V}:∀ {xs:List V} {us:List Rl},Vals xs us->xs.all kg=true->us.any (eqU x)=xs.any fun y=>eqV y x
 | _,_,.nil,_=>rfl
 | y::xs,u::us,.cons r t,f=>by
   rw [VG,R5] at f;rw [List.any_cons,List.any_cons,vk r f.1,oj t f.2]
theorem l9 {A:Sf} {s:Rn} {x:V} {v:Rl} (rx:RelV x v) (fx:kg x=true):∀ {xs:List V} {us:List Rl},Vals xs us->xs.all kg=true->∀ u∈us,SeqAt.EqAt A s u v (eqU x u)
 | _,_,.nil,_=>fun u hu=>by cases hu
 | y::xs,u::us,.cons r t,f=>fun u' hu=>by
   rw [VG,R5] at f;rcases RA.mp hu with rfl | hu
   · rw [vk r f.1];exact yi r rx f.1 fx
   · exact l9 rx fx t f.2 u' hu
def inV (x:V) (xs:List V):Bool:=xs.any fun y=>eqV y x
def rIn (K:Ri) (neg:Bool):R2:=fun x y H Q=>∃ p xs,y=.ref p/\(SqL K H p xs∨SqT K H p xs)/\kg x=true/\xs.all kg=true/\Q (.bl (if neg then !inV x xs else inV x xs)) H
theorem nE:OpR X (TH .In) (rIn X.K false):=by
 intro pins s σ H x y v u Q I rx ry h;obtain ⟨p,xs,rfl,hq,fx,fs,q⟩:=h;cases ry;rcases hq with hq | hq
 · obtain ⟨its,r,pl,hz⟩:=I.list hq;refine SeqAt.in_listAt (eqU x) pl.isList (fun w hw=>l9 rx fx r fs w (by simpa using hw)) ⟨.bl _,H,I,rfl,?_⟩;rw [show its.toArray.any (eqU x)=its.any (eqU x) by simp,oj r fs];exact q
 · obtain ⟨its,r,pl,hz⟩:=I.tuple hq;refine SeqAt.in_tupleAt (eqU x) pl (fun w hw=>l9 rx fx r fs w (by simpa using hw)) ⟨.bl _,H,I,rfl,?_⟩;rw [show its.toArray.any (eqU x)=its.any (eqU x) by simp,oj r fs];exact q
inductive xH (K:Ri) (xs:List V) (H:Hp) (Q:VK):Prop
 | mk (p:Rk) (ys:List V) (Aq:xs=[.ref p]) (Ar:SqL K H p ys∨SqT K H p ys) (AB:Q (.int ys.length) H):xH K xs H Q
theorem am:ej X (.builtin "len") (xH X.K):=by
 intro pins s σ H xs us Q I r h;obtain ⟨p,ys,rfl,hq,q⟩:=h;obtain ⟨u,rfl,rx⟩:=vals1 r;cases rx;have hn:=fT;rcases hq with hq | hq
 · obtain ⟨its,r',pl,hz⟩:=I.list hq;have hlen:=r'.length;exact Calls.call_len_list pl.isList (by simp only [Rt] <;> omega) ⟨.int ys.length,H,I.tok _,⟨s.toks+1,by rw [Rt,hlen]⟩,q⟩
 · obtain ⟨its,r',pl,hz⟩:=I.tuple hq;have hlen:=r'.length;exact len_tuple pl (by simp only [Rt] <;> omega) ⟨.int ys.length,H,I.tok _,⟨s.toks+1,by rw [Rt,hlen]⟩,q⟩
theorem fo:ej X (.builtin "len") (fun xs H Q=>∃ z,xs=[.str z]/\z.length<=RS/\Q (.int z.length) H):=by
 intro pins s σ H xs us Q I r h;obtain ⟨z,rfl,hz,q⟩:=h;obtain ⟨u,rfl,t,rfl⟩:=vals1 r;have hn:=fT;exact len_str (by omega) ⟨.int z.length,H,I.tok _,⟨_,rfl⟩,q⟩
theorem bI:ej X (.type "tuple") (fun xs H Q=>∃ p ys,xs=[.ref p]/\((SqL X.K H p ys/\∀ l,H l=none->Q (.ref l) (upd H l (.tup ys)))∨(SqT X.K H p ys/\Q (.ref p) H))):=by
 intro pins s σ H xs us Q I r h;obtain ⟨p,ys,rfl,h⟩:=h;obtain ⟨u,rfl,rx⟩:=vals1 r;cases rx;rcases h with ⟨hq,q⟩ | ⟨hq,q⟩
 · obtain ⟨its,r',pl,hz⟩:=I.list hq;have hlen:=r'.length;refine call_tuple_list pl.isList (fun h' kp=>?_) (by simp only [Rt] <;> omega);have I1:Inv X pins σ H { s with heap:=h' }:=I.kept (t':=s.toks) kp
   have I2:Inv X pins σ (upd H h'.objs.size (.tup ys)) { s with heap:=h'.push { cls:=.type "tuple",data:=.seq its.toArray } } :=
    I1.laid (t':=s.toks) (fun b o e=>Ro _ e) (Rq _) (show ObjOk X.prog X.w _ _ _ (.tup ys) from ⟨hz,its,0,r',RD _ rfl⟩)
   exact ⟨.ref h'.objs.size,_,I2,rfl,q _ (I1.hok.fresh (Rq _))⟩
 · obtain ⟨its,r',pl,hz⟩:=I.tuple hq;exact call_tuple_same pl ⟨.ref p,H,I,rfl,q⟩
def tyV (K:Ri) (T:String) (x:V) (H:Hp):Prop:=match x with
 | .str _=>T="str"
 | .int _=>T="int"
 | .ref p=>(T="list"/\∃ xs,SqL K H p xs)∨(T="tuple"/\∃ o,K.lookup p=some o/\o.cls=.type "tuple"/\o.dict=none) ∨
  (T="dict"/\((∃ AO,H p=some (.dK AO))∨∃ AO,H p=some (.dT AO)))∨(T="set"/\∃ S n,H p=some (.set S n))
 | _=>False
theorem v4 {pins:List (Rk×TU)} {σ:St} {H:Hp} {s:Rn} {T:String} {x:V} {v:Rl} (I:Inv X pins σ H s) (r:RelV x v) (ty:tyV X.K T x H) :
 s.TypeIs v T/\∀ a,v=.ref a->∃ ob,s.heap.get? a=some ob/\ob.dict=none:=by
 cases x with
 | str z =>
   obtain ⟨t,rfl⟩:=r;cases (show T="str" from ty);exact ⟨Uu s z t,fun _ e=>nomatch e⟩
 | int i =>
   obtain ⟨t,rfl⟩:=r;cases (show T="int" from ty);exact ⟨typeIs_int s i t,fun _ e=>nomatch e⟩
 | ref p =>
   cases r;rcases ty with ⟨rfl,xs,hq⟩ | ⟨rfl,o,hk,hc,hd⟩ | ⟨rfl,hk⟩ | ⟨rfl,S,n,hk⟩
   · obtain ⟨its,_,pl,_⟩:=I.list hq;refine ⟨pl.isList.typeIs,fun a e=>?_⟩;cases e;obtain ⟨o,n,e,c,hd,_⟩:=pl;exact ⟨o,e,hd⟩
   · refine ⟨⟨o,I.kIn p o hk,hc⟩,fun a e=>?_⟩;cases e;exact ⟨o,I.kIn _ o hk,hd⟩
   · have z:∃ o,s.heap.get? p=some o/\o.ExactDict:=by
      rcases hk with ⟨AO,hk⟩ | ⟨AO,hk⟩
      · obtain ⟨_,_,_,_,o,_,_,e,ex,_⟩:=I.hok p _ hk;exact ⟨o,e,ex⟩
      · obtain ⟨_,_,_,_,o,_,_,e,ex,_⟩:=I.hok p _ hk;exact ⟨o,e,ex⟩
     obtain ⟨o,e,ex⟩:=z;refine ⟨⟨o,e,ex.1⟩,fun a e2=>?_⟩;cases e2;exact ⟨o,e,ex.2.1⟩
   · obtain ⟨o,_,_,_,e,ex,_⟩:=I.hok p _ hk;refine ⟨⟨o,e,ex.1⟩,fun a e2=>?_⟩;cases e2;exact ⟨o,e,ex.2.1⟩
 | _=>exact Tw ty
def zb (K:Ri) (T:String) (r:V->List V->Hp->VK->Prop) (to:TE):TE:=fun σ H Q=>to σ H fun x H1=>tyV K T x H1/\r x [] H1 Q
def tBM (K:Ri) (T:String) (r:V->List V->Hp->VK->Prop) (to:TE) (t:TA):TE:=fun σ H Q=>to σ H fun x H1=>tyV K T x H1/\t σ H1 fun xs H2=>r x xs H2 Q
variable {o e:SI} {es:List SI} {to:TE} {t:TA} {name:Rz} {apos A6:Vw} {T id:String} {r:V->List V->Hp->VK->Prop}
theorem nU (pa:PlainAttrs T) (slot:Slot T name id) (Jt:typeOf (.builtin id)=pure (.type "method_descriptor")) (hm:MtR X id r) (ho:PE X o to)
 (Dz:Wx o name X.env (TZ o X.env)=TZ o X.env:=by rfl) (BI:(apos.endLine == A6.line)=true:=by rfl):PE X (.Call (.Attribute o name apos) [] [] A6) (zb X.K T r to):=by
 intro pins s σ H Q I h;refine wpAny_Call_method0_late Dz BI (thn (ho pins s σ H _ I h) fun v s1 ⟨x,H1,I1,r1,ty,q1⟩=>?_);obtain ⟨h1,h2⟩:=v4 I1 r1 ty;exact ⟨T,id,pa,slot,Jt,h1,h2,Um rfl (PySem.evalArgs_none (hm pins s1 σ H1 x [] v [] Q I1 r1 .nil q1))⟩
theorem cb (pa:PlainAttrs T) (slot:Slot T name id) (Jt:typeOf (.builtin id)=pure (.type "method_descriptor")) (hm:MtR X id r) (ho:PE X o to) (ha:PA X (e::es) t)
 (Dz:Wx o name X.env (TZ o X.env)=TZ o X.env:=by rfl)
 (Ju:((VI A6 (Sq (e::es) X.env)).all (fun x=>!x.1) && (backToKw A6 (keywordEach [] X.env)).all (fun x=>x.1.isSome)
  && decide ((e::es).length+([]:List Keyword).length+(if ([]:List Keyword).isEmpty then 0 else 1)<30))=true:=by rfl)
 (BI:(apos.endLine == A6.line)=true:=by rfl) (hs:Sq (e::es) X.env=(false,TZ e X.env)::Sq es X.env:=by rfl) (E4:(VI A6 (Sq es X.env)).any (·.1)=false:=by rfl) :
 PE X (.Call (.Attribute o name apos) (e::es) [] A6) (tBM X.K T r to t):=by
 intro pins s σ H Q I h;refine UW Dz Ju BI rfl (thn (ho pins s σ H _ I h) fun v s1 ⟨x,H1,I1,r1,ty,q1⟩=>?_);obtain ⟨h1,h2⟩:=v4 I1 r1 ty;refine ⟨T,id,pa,slot,Jt,h1,h2,?_⟩;have hA:=ha A6 pins s1 σ H1 _ I1 q1;rw [hs] at hA ⊢;refine Um (by show (false || (VI A6 (Sq es X.env)).any (·.1))=false;rw [E4] <;> rfl) (UN ?_);exact thn hA fun us s2 ⟨vs,H2,I2,r2,q2⟩=>hm pins s2 σ H2 x vs v us Q I2 r1 r2 q2
end
end L2
namespace L2
open PySem PySem.Spec PyProof.Rows
def MtM (X:Cx) (id:String) (r:V->List V->Hp->VK->Prop):Prop :=
 ∀ (pins:List (Rk×TU)) (s:Rn) (σ:St) (H:Hp) (x:V) (xs:List V) (v:Rl) (us:List Rl) (Q:VK),Inv X pins σ H s->RelV x v->Vals xs us->r x xs H Q →
   RL (RW X.prog X.w) X.A (call (.builtin id) (v::us)) (EP X pins σ Q) X.xe s
theorem Vals.one:∀ {x:V} {us:List Rl},Vals [x] us->∃ u,us=[u]/\RelV x u
 | _,_,.cons r .nil=>⟨_,rfl,r⟩
theorem Vals.zero:∀ {us:List Rl},Vals [] us->us=[]
 | _,.nil=>rfl
theorem Vals.dropLast {xs:List V} {us:List Rl} (h:Vals xs us):Vals xs.dropLast us.dropLast:=by
 induction h with
 | nil=>exact .nil
 | cons r t ih =>
   cases t with
   | nil=>exact .nil
   | cons q t'=>exact .cons r ih
theorem Vals.rep {xs:List V} {us:List Rl} (h:Vals xs us):∀ k:Nat,Vals (Sy k xs).flatten (Sy k us).flatten
 | 0=>.nil
 | k+1=>by
   rw [T9,T9,R0,R0];exact Vals.append h (Vals.rep h k)
theorem rZ {α:Type} (l:List α):l.eraseIdx (l.length - 1)=l.dropLast:=by
 induction l with
 | nil=>rfl
 | cons a r ih =>
   cases r with
   | nil=>rfl
   | cons b r =>
     have e:(a::b::r).length - 1=((b::r).length - 1)+1:=by
      have h1:(a::b::r).length=r.length+2:=rfl;have h2:(b::r).length=r.length+1:=rfl;omega
     rw [e,List.eraseIdx_cons_succ,ih]
     all_goals rfl
theorem foldl_rep (its:List Rl):∀ (k:Nat) (acc:List Rl),
 List.foldl (fun x1 x2=>x1++x2) acc.toArray (Sy k its.toArray)=(acc++(Sy k its).flatten).toArray
 | 0,acc=>by simp
 | k+1,acc=>by
   have e:acc.toArray++its.toArray=(acc++its).toArray:=by simp
   have e2:(acc++its)++(Sy k its).flatten=acc++(Sy (k+1) its).flatten:=by
    rw [T9,R0,RM]
   rw [<- e2,<- foldl_rep its k (acc++its),<- e,T9,List.foldl_cons]
section
variable {X:Cx} {pins:List (Rk×TU)} {σ:St} {H:Hp} {s:Rn} {l b:Rk} {xs ys zs:List V}
theorem Inv.lset {its its':List Rl} {n:Nat} {f:Array Rl->Array Rl} {t':Nat} (I:Inv X pins σ H s) (hH:H l=some (.lst xs))
 (e:s.heap.get? l=some { cls:=.type "list",data:=.seq its.toArray n }) (hf:f its.toArray=its'.toArray) (hv:Vals ys its') (hz:ys.length<=RS) :
 Inv X pins σ (upd H l (.lst ys)) { s with heap:=s.heap.update l (WQ f),toks:=t' }:=by
 have q:=PySem.IsL.update e f;rw [hf] at q;refine I.write (x:=l) (e:=l) (by rw [hH];exact trivial) (.inl rfl) (fun b' u hb hu=>(VL s.heap (WQ f) (UG hb)).trans hu) ⟨_,q⟩ ?_;exact ⟨hz,its',_,hv,q⟩
theorem Inv.lnew {its:List Rl} {t':Nat} (I:Inv X pins σ H s) (hv:Vals ys its) (hz:ys.length<=RS) :
 Inv X pins σ (upd H s.heap.objs.size (.lst ys)) { s with heap:=s.heap.push { cls:=.type "list",data:=.seq its.toArray },toks:=t' } :=
 I.laid (fun _ _ q=>Ro _ q) (Rq _) ⟨hz,its,0,hv,RD _ rfl⟩
theorem Inv.fresh (I:Inv X pins σ H s):H s.heap.objs.size=none:=I.hok.fresh (Rq _)
theorem Inv.lstM (I:Inv X pins σ H s) (hH:H l=some (.lst xs)):xs.length<=RS/\∃ (its:List Rl) (n:Nat),Vals xs its/\xs.length=its.length/\s.heap.get? l=some { cls:=.type "list",data:=.seq its.toArray n }:=by
 obtain ⟨z,its,n,r,e⟩:=I.hok l _ hH;exact ⟨z,its,n,r,r.length,e⟩
theorem lG {n:Nat} (h:n<=RS):T6 n=false:=by
 unfold T6;exact decide_eq_false (by omega)
end
section
variable {X:Cx}
inductive pX (x:V) (vs:List V) (H:Hp) (Q:VK):Prop
 | mk (l:_) (xs:_) (y:_) (Aq:x=.ref l) (Ar:vs=[y]) (AB:H l=some (.lst xs)) (AQ:xs.length<RS) (Bq:Q .non (upd H l (.lst (xs++[y])))):pX  x vs H Q
def sO:V->List V->Hp->VK->Prop:=pX
theorem bh:MtM X "list.append" sO:=by
 intro pins s σ H x vs v us Q I rx rv h;obtain ⟨l,xs,y,rfl,rfl,hH,hz,q⟩:=h;cases rx;obtain ⟨u,rfl,ru⟩:=rv.one;obtain ⟨z,its,n,r,hl,e⟩:=I.lstM hH;refine UX F.slot_list_append ⟨_,e,rfl⟩ F.entry_list_append (F.args_list_append_2 _ _) (PySem.list_append l its.toArray n u (by rw [Rt];omega)) ⟨e,?_⟩;refine ⟨.non,_,I.lset (its':=its++[u]) hH e (by simp) (r.append (.cons ru .nil)) ?_,rfl,q⟩;rw [Rm,Sg];omega
inductive qA (x:V) (vs:List V) (H:Hp) (Q:VK):Prop
 | mk (l:_) (b:_) (xs:_) (zs:_) (Aq:x=.ref l) (Ar:vs=[.ref b]) (AB:H l=some (.lst xs)) (AQ:H b=some (.lst zs)) (Bq:xs.length+zs.length<=RS) (Cb:Q .non (upd H l (.lst (xs++zs)))):qA  x vs H Q
def wm:V->List V->Hp->VK->Prop:=qA
theorem t8:MtM X "list.extend" wm:=by
 intro pins s σ H x vs v us Q I rx rv h;obtain ⟨l,b,xs,zs,rfl,rfl,hH,hB,hz,q⟩:=h;cases rx;obtain ⟨u,rfl,ru⟩:=rv.one;cases ru;obtain ⟨z,its,n,r,hl,e⟩:=I.lstM hH;obtain ⟨z2,Ah,n2,r2,AG,e2⟩:=I.lstM hB;have Az:its.toArray.size+Ah.toArray.size<=RS:=by rw [Rt,Rt];omega
 have Cj:¬ (!its.toArray.isEmpty && T6 (its.toArray.size+Ah.toArray.size))=true:=by
  rw [lG Az,Bool.and_false];exact RK
 refine UX F.slot_list_extend ⟨_,e,rfl⟩ F.entry_list_extend (F.args_list_extend_2 _ _)
  (AutoSeq1.list_extend_list_list_0 l its.toArray n b Ah.toArray n2 Cj (by rw [Rt];omega) (by omega)) ⟨e,e2,?_⟩
 refine ⟨.non,_,I.lset (its':=its++Ah) hH e (by simp) (r.append r2) ?_,rfl,q⟩;rw [Rm];omega
inductive xv (x:V) (vs:List V) (H:Hp) (Q:VK):Prop
 | mk (l:_) (xs:_) (y:_) (Aq:x=.ref l) (Ar:vs=[]) (AB:H l=some (.lst xs)) (AQ:xs[xs.length - 1]?=some y) (Bq:Q y (upd H l (.lst xs.dropLast))):xv  x vs H Q
def zh:V->List V->Hp->VK->Prop:=xv
theorem oK:MtM X "list.pop" zh:=by
 intro pins s σ H x vs v us Q I rx rv h;obtain ⟨l,xs,y,rfl,rfl,hH,hy,q⟩:=h;cases rx;have NX:=rv.zero;subst NX;obtain ⟨z,its,n,r,hl,e⟩:=I.lstM hH;obtain ⟨u,hu,ru⟩:=r.get hy
 have Gs:its.toArray[its.toArray.size - 1]?=some u:=by
  show its.toArray[its.length - 1]?=some u;rw [<- UT,<- hl];exact hu
 refine UX F.slot_list_pop ⟨_,e,rfl⟩ F.entry_list_pop (F.args_list_pop_1 _) (MeetsSeq.list_pop_last l its.toArray n u Gs (by rw [Rt];omega)) ⟨e,?_⟩;refine ⟨y,_,I.lset (its':=its.dropLast) hH e ?_ r.dropLast ?_,ru,q⟩
 · show its.toArray.eraseIdxIfInBounds (its.toArray.size - 1)=its.dropLast.toArray;rw [Rt,List.eraseIdxIfInBounds_toArray,rZ]
 · rw [List.length_dropLast];omega
inductive xM (x:V) (y:V) (H:Hp) (Q:VK):Prop
 | mk (l:_) (b:_) (xs:_) (zs:_) (Aq:x=.ref l) (Ar:y=.ref b) (AB:H l=some (.lst xs)) (AQ:H b=some (.lst zs)) (Bq:xs.length+zs.length<=RS) (Cb:∀ p,H p=none->Q (.ref p) (upd H p (.lst (xs++zs)))):xM  x y H Q
def zk:R2:=xM
theorem bU:OpR X (Ve .Add) zk:=by
 intro pins s σ H x y v u Q I rx ry h;obtain ⟨l,b,xs,zs,rfl,rfl,hH,hB,hz,q⟩:=h;cases rx;cases ry;obtain ⟨z,its,n,r,hl,e⟩:=I.lstM hH;obtain ⟨z2,Ah,n2,r2,AG,e2⟩:=I.lstM hB;refine PySem.P.add_list e e2 ?_ (by rw [Rt,Rt];omega);have ea:its.toArray++Ah.toArray=(its++Ah).toArray:=by simp
 rw [ea];exact ⟨.ref _,_,I.lnew (t':=s.toks) (r.append r2) (by rw [Rm];omega),rfl,q _ I.fresh⟩
def zX:R2:=fun x y H Q=>∃ l k xs,x=.ref l/\y=.int k/\H l=some (.lst xs)/\-(2 ^ 63)<=k/\k<2 ^ 63/\xs.length * k.toNat<=RS ∧
 ∀ p,H p=none->Q (.ref p) (upd H p (.lst (Sy k.toNat xs).flatten))
theorem len_rep {α:Type} (xs:List α) (k:Nat):(Sy k xs).flatten.length=k * xs.length:=by
 induction k with
 | zero=>simp
 | succ k ih=>rw [T9,R0,Rm,ih,TV,Nat.add_comm]
theorem yC:OpR X (Ve .Mult) zX:=by
 intro pins s σ H x y v u Q I rx ry h;obtain ⟨l,k,xs,rfl,rfl,hH,h1,h2,hz,q⟩:=h;cases rx;obtain ⟨t,rfl⟩:=ry;obtain ⟨z,its,n,r,hl,e⟩:=I.lstM hH;have hlen:its.toArray.size * k.toNat<=RS:=by rw [Rt,<- hl];exact hz
 have Jv:¬ its.toArray.size * k.toNat > (2 ^ 63 - 1) / 8:=by
  have:(RS:Nat)<=(2 ^ 63 - 1) / 8:=by decide
  omega
 have AI:¬ (!Builtin.List.listFitsIndex k)=true:=by
  rw [fitsIndex_both h1 h2];exact RK
 have Cj:¬ T6 (its.toArray.size * k.toNat)=true:=by
  rw [lG hlen];exact RK
 have Jw:List.foldl (fun x1 x2=>x1++x2) #[] (Sy (if its.toArray.isEmpty=true then 0 else k.toNat) its.toArray)=(Sy k.toNat its).flatten.toArray:=by
  have f0:∀ m:Nat,List.foldl (fun x1 x2=>x1++x2) #[] (Sy m its.toArray)=(Sy m its).flatten.toArray:=fun m=>by
   have:=foldl_rep its m [];rw [Sn] at this;exact this
  rw [f0];cases its with
  | nil=>simp
  | cons a r'=>rw [if_neg (by simp)]
 refine wpAny_binaryOp_repeat_ref (T:="list") (U:="int") (by decide) ⟨_,e,rfl⟩ (fun s'=>typeIs_int s' k t) noFill_list_mul F.fills_int_mul F.slot_int_rmul repeat_list F.slot_int_index.lookup
  (UX F.slot_int_rmul (typeIs_int s k t) F.entry_int_rmul (F.args_int_rmul_2 _ _) (int___rmul___int_list k t l its.toArray n)
   ⟨e,rfl,⟨_,e,rfl⟩,UX F.slot_list_mul ⟨_,e,rfl⟩ F.entry_list_mul (F.args_list_mul_2 _ _) (AutoListH.list___mul___list_int_3 l its.toArray n k t AI Jv Cj) ⟨e,?_⟩⟩)
 rw [Jw];exact ⟨.ref _,_,I.lnew (t':=s.toks) (r.rep k.toNat) (by rw [len_rep,U3];exact hz),rfl,q _ I.fresh⟩
end
section
variable {prog:RY} {w:Sj} {A:Sf} {E:Rl->Rn->Prop} {s:Rn}
end
section
variable {X:Cx}
end
end L2
namespace Att
open PySem PySem.W PySem.Calls PyProof.Rows
theorem ints_of_wellAll {P:Params} {h:SR}:∀ (ns:List Int) (vs:List Rl),WellAll P h vs (ns.map WData.int)->IntsAre vs ns:=by
 intro ns;induction ns with
 | nil =>
   intro vs w;rw [TY] at w;cases w;exact .nil
 | cons n ns ih =>
   intro vs w;rw [RB] at w;cases w with
   | cons a b =>
     cases a;exact .cons _ _ (ih _ b)
theorem script_of {l:OpenLaw} {n:Nat} (hn:l.most=some n) {P:Params} {h:SR} {args:List WData} {vals:List Rl}
 (CA:l.row.toRowW.claim.pre args=true) (C5:WellAll P h vals args) :
 ∃ a vs ns,vals=[SV a]/\args=[WData.list (ns.map WData.int)]/\h.get? a=some { cls:=.type "list",data:=.seq vs.toArray }/\IntsAre vs ns/\ns.length<=n:=by
 have Ei:WShape.hasAll [] args [.list .int]=true:=(pre_splitW CA).1;have hc:l.pre.holds [] { args:=args }=true:=(pre_splitW CA).2;obtain ⟨d,r,rfl,h1,h2⟩:=hasAllW_cons Ei;obtain rfl:=hasAllW_nil h2;obtain ⟨xs,rfl,h3⟩:=hasW_list h1;obtain ⟨ns,rfl⟩:=items_int h3
 have hlen:ns.length<=n:=by
  unfold OpenLaw.pre at hc
  have h4:(WTm.not (.lt (.lit (.int (n:Int))) (.len (.arg 0)))).holds [] { args:=[.list (ns.map .int)] }=true:=by
   have h4:=(holds_andW hc).1;rw [hn] at h4;exact h4
  have h5:=condW_of h4 (w_not (w_lt w_lit (w_len_list (w_arg rfl))));rw [Rf] at h5;refine Nat.le_of_not_lt fun q=>?_;have q':(n:Int)<((ns.length:Nat):Int):=by omega
  first
   | (rw [decide_eq_true q'] at h5;exact absurd h5 (by decide))
   | (simp at h5;omega)
 cases C5 with
 | cons w1 w2 =>
   cases w2;cases w1 with
   | list ho Ai=>exact ⟨_,_,ns,rfl,rfl,ho,ints_of_wellAll ns _ Ai,hlen⟩
theorem post_true (l:OpenLaw) (args:List WData):l.row.toRowW.claim.post args (.bool true) args=true :=
 postW_of (r:=l.row.toRowW) (X:=(true == true))
  (show WShape.has [] (.bool true) .bool=true by first | rfl | decide | simp [WShape.has,WShape.arms,WShape.armsAll])
  (show (WTm.eq .res (.lit (.bool true))).value [] { args:=args,res:=some (.bool true),after:=args }=some (.bool (true == true)) from w_eq_bool (w_res rfl) w_lit) rfl
theorem attach_call {l:OpenLaw} {n:Nat} {q:RY} {loose:List Rz} {XP:(Rz->Option Rl)->SR->Prop} {YP:Sj->SR->Prop} {d:DefRec}
 (hn:l.most=some n) (Gu:d.params.defaults=[])
 (call:∀ (w:Sj) (s₀ Ab:Rn) (mg mb:Rz->Option Rl) (fa:Rk) (o:TU) (pm cd doc:Rl) (a:Rk) (vs:List Rl) (ns:List Int),
  Ground q loose [] XP w s₀ mg mb Ab.heap->YP w Ab.heap →
  Ab.heap.get? fa=some o->o.data=.func (docDef d.name d.params d.body d.scope pm cd doc)->Ab.heap.CodeRec cd d.name->mg d.name=some (.ref fa) →
  Ab.heap.get? a=some { cls:=.type "list",data:=.seq vs.toArray }->IntsAre vs ns->ns.length<=n->Ab.gens=#[] →
  Vn (RW l.prog w) callerA (.call (.ref fa) ⟨[.ref a],[]⟩) (fun r s'=>r=.ok (.ret (.bool true))/\OldK Ab.heap s'.heap/\s'.os=Ab.os/\W2 s'.gens) Ab) :
 WalkO q loose XP YP l.row.toRowW d [] (fun f vs=>PySem.call f vs):=by
 intro w s₀ Ab mg mb G Y fa o pm cd doc dV kV ho hd C4 hD Gv hg args vals as CA NY QG C5 QH;obtain rfl:dV=.none:=Dflts.none hD Gu;obtain rfl:kV=.none:=Dflts.noKw hD;obtain ⟨a,vs,ns,rfl,rfl,E5,hints,hlen⟩:=script_of hn CA C5;refine enter_call (Vm (call w s₀ Ab mg mb fa o pm cd doc a vs ns G Y ho (fd_plain hd) C4 Gv E5 hints hlen hg) fun r s' hq=>?_);obtain ⟨rfl,h2,h3,h4⟩:=hq;exact ⟨.inl ⟨.bool true,.bool true,[],rfl,fun _=>rfl,.bool true,post_true l _,fun _=>⟨List.Pairwise.nil,fun _ hm=>(nomatch hm)⟩⟩,h2,h3,h4⟩
section
variable {prog:RY} {w:Sj} {A:Sf} {E:Rl->Rn->Prop} {s:Rn} {K:Frag}
end
end Att
namespace L2
open PySem PySem.Spec PyProof.Rows
theorem ni:∀ {vs:List Rl} {ns:List Int},IntsAre vs ns->Vals (ns.map V.int) vs
 | _,_,.nil=>.nil
 | _,_,.cons n t h=>.cons ⟨t,rfl⟩ (ni h)
def yB (H:Hp):Prop:=∀ b,H b=none∨∃ o xs,H b=some (.frz o (.lst xs))
theorem vy {P:RY} {w:Sj} {K:Ri} {mg mb:Rz->Option Rl} {CX:CXT} {k:Nat} {fa a:Rk} {fd:Uk} {x:Rz} {sp:Sp} {Ab:Rn} {vs:List Rl} {ns:List Int}
 (KX:K.In Ab.heap) (Ej:Ab.heap.Ns RV mg) (hb:Ab.heap.Ns builtinsNs mb) (C6:∀ x:Rz,x≠"__name__"->mb x=V3 x) (Jx:Ab.heap.NoLimit) (hg:Ab.gens=#[])
 (ha:Ab.heap.get? a=some { cls:=.type "list",data:=.seq vs.toArray }) (hi:IntsAre vs ns) (hl:ns.length<=RS) (hr:Room k callerA)
 (F:∀ base:SR,K.In base->base.Ns RV mg->FnOk P w K mg base CX k fa fd [x] sp) (Gw:∀ (s:Rn) (u:Rl),BindsTo s fd ⟨[u],[]⟩ [(x,u)])
 (Ca:∀ H:Hp,yB H->SqL K H a (ns.map V.int)->sp [.ref a] H (fun v _=>v=.bl true) fun _ _ _=>False)
 (Jy:∀ H e s',CX [] H Ab (fun _ _ _=>False) e s'->False) :
 Vn (RW P w) callerA (.call (.ref fa) ⟨[.ref a],[]⟩) (fun r s'=>r=.ok (.ret (.bool true))/\OldK Ab.heap s'.heap/\s'.os=Ab.os/\W2 s'.gens) Ab:=by
 have rv:=ni hi;have Jz:=hi.length
 -- from an abstract heap in LX nothing but C3 script may be tracked
 have core:∀ H:Hp,yB H->SqL K H a (ns.map V.int)->HOk P w H Ab.heap->(∀ b,H b≠none->b=a)->(H a≠none->K.lookup a=none) →
  Vn (RW P w) callerA (.call (.ref fa) ⟨[.ref a],[]⟩) (fun r s'=>r=.ok (.ret (.bool true))/\OldK Ab.heap s'.heap/\s'.os=Ab.os/\W2 s'.gens) Ab:=by
  intro H hO hS hok hA hK;have CQ:∀ {b:Rk} {o:TU},Ab.heap.get? b=some o->H b=none->(nP Ab.heap H).get? b=some o:=fun e n=>vc e n
  have Gn:∀ {b:Rk} {o:TU} {es:Array DictEntry} {ep:Nat},Ab.heap.get? b=some o->o.data=.dict es ep->H b=none:=fun {b o es ep} e d=>by
   cases q:H b with
   | none=>rfl
   | some u =>
     have e':b=a:=hA b (by rw [q];simp);subst e';rw [ha] at e;cases e;have d':Data.seq vs.toArray _=Data.dict es ep:=d;cases d'
  have Ij:∀ {b:Rk} {m:Rz->Option Rl},Ab.heap.Ns b m->(nP Ab.heap H).Ns b m:=fun {b m} ⟨o,es,ep,e,d,r⟩=>⟨o,es,ep,CQ e (Gn e d),d,r⟩
  have LY:K.In (nP Ab.heap H):=fun b o e=>CQ (KX b o e) (by
   cases q:H b with
   | none=>rfl
   | some u =>
     have e':b=a:=hA b (by rw [q];simp);subst e';rw [hK (by rw [q];simp)] at e;cases e)
  have hM:Mod K mg (nP Ab.heap H):=⟨LY,Ij Ej,⟨mb,Ij hb,C6⟩,let ⟨mc,h1,h2⟩:=Jx;⟨mc,Ij h1,h2⟩⟩;have e0:Env0 P w K mg (nP Ab.heap H) callerA [] Ab H:=⟨rfl,hM,fun b o e=>wg e,Wj (tU _ _),trivial,fun b hb=>absurd (show b∈([]:List Rk) from hb) (by simp),hok,.of_eq hg⟩;refine Vm ((F _ LY (Ij Ej)).run callerA [] Ab H ⟨[.ref a],[]⟩ [.ref a] [.ref a] _ _ hr e0 (Gw Ab (.ref a)) (.cons rfl .nil) (Ca H hO hS)) fun r s' h=>?_;cases r with
  | error e=>exact (Jy H e s' h).elim
  | ok fl =>
    cases fl with
    | next=>exact Tw h
    | brk=>exact Tw h
    | cont=>exact Tw h
    | ret u =>
      obtain ⟨v,H',os,bare,un,JA,r',q⟩:=h;have q':v=.bl true:=q;subst q';obtain rfl:u=UO true:=r';refine ⟨rfl,OldK.of_keep fun b o e=>?_,os,bare⟩;cases q:H b with
      | none=>exact un.keep b o e q (by intro z;exact absurd (show b∈([]:List Rk) from z) (by simp)) (by simp)
      | some u =>
        rcases hO b with z | ⟨ob,xs,z⟩
        · rw [q] at z;cases z
        · have z2:=un.frzs b ob _ z;obtain ⟨e1,_⟩:=hok b _ z;obtain ⟨e2,_⟩:=JA b _ z2;rw [e] at e1;cases e1;exact e2
 cases hk:K.lookup a with
 | some o =>
   -- C3 script is one of C3 Gx own objects
   have e:=KX a o hk;rw [ha] at e;cases e;refine core (fun _=>none) (fun _=>.inl rfl) (.inr ⟨_,vs.toArray,_,hk,rfl,rfl,rfl,by rw [Rt,Jz];exact hl,by simpa using rv⟩) (fun b u z=>by have z':(none:Option HO)=some u:=z;cases z') (fun b z=>absurd rfl z) fun z=>absurd rfl z
 | none =>
   refine core (fun b=>if b=a then some (.frz { cls:=.type "list",data:=.seq vs.toArray } (.lst (ns.map V.int))) else none) (fun b=>?_) (.inl (.inr ⟨{ cls:=.type "list",data:=.seq vs.toArray },if_pos rfl⟩)) (fun b u z=>?_) (fun b z=>?_) fun _=>hk
   · by_cases hb:b=a
     · exact .inr ⟨_,_,if_pos hb⟩
     · exact .inl (if_neg hb)
   · by_cases hb:b=a
     · have z':=(if_pos hb).symm.trans z;cases z';subst hb;exact ⟨ha,by rw [Rf];exact hl,vs,_,rv,ha⟩
     · have z':=(if_neg hb).symm.trans z;cases z'
   · by_cases hb:b=a
     · exact hb
     · exact absurd (if_neg hb) z
end L2
namespace L2
open PySem PySem.Spec PyProof.Rows
theorem wW {l:PySem.W.OpenLaw} {n k:Nat} {q:RY} {loose:List Rz} {XP:(Rz->Option Rl)->SR->Prop} {YP:Sj->SR->Prop} {d:DefRec} {K:Params->Ri} {CX:Sj->CXT} {sp:Sj->Sp} {x:Rz}
 (hn:l.most=some n) (Ih:n<=RS) (Gu:d.params.defaults=[]) (hr:Room k callerA)
 (hY:∀ (w:Sj) (h:SR),YP w h->(K w.params).In h)
 (F:∀ (w:Sj) (mg:Rz->Option Rl) (fa:Rk) (h:SR),(K w.params).In h->h.Ns RV mg->mg d.name=some (.ref fa) →
  ∃ fd:Uk,(∀ (s:Rn) (u:Rl),BindsTo s fd ⟨[u],[]⟩ [(x,u)]) ∧
    ∀ base:SR,(K w.params).In base->base.Ns RV mg->FnOk l.prog w (K w.params) mg base (CX w) k fa fd [x] (sp w))
 (Ca:∀ (w:Sj) (H:Hp) (a:Rk) (ns:List Int),ns.length<=n->yB H->SqL (K w.params) H a (ns.map V.int)->sp w [.ref a] H (fun v _=>v=.bl true) fun _ _ _=>False)
 (Jy:∀ (w:Sj) (H:Hp) (s:Rn) (e:Rl) (s':Rn),CX w [] H s (fun _ _ _=>False) e s'->False) :
 PySem.W.WalkO q loose XP YP l.row.toRowW d [] (fun f vs=>PySem.call f vs):=by
 refine Att.attach_call hn Gu fun w s₀ Ab mg mb fa o pm cd doc a vs ns G Y ho hd C4 Gv E5 hints hlen hg=>?_;have KX:=hY w _ Y;obtain ⟨fd,hb,hF⟩:=F w mg fa _ KX G.T.g Gv;exact vy KX G.T.g G.T.b G.T.builtins G.T.nolimit hg E5 hints (SO hlen Ih) hr hF hb (fun H hO hS=>Ca w H a ns hlen hO hS) fun H e s'=>Jy w H Ab e s'
end L2
namespace L2
open PySem PySem.Spec PyProof.Rows
def inClass (s:Tf) (j:Nat):Tf:=match s with
 | .ClassDef _ _ _ body _ _ _ _ _ _ _=>body.getD j (.Pass ⟨0,0,0,0⟩)
 | _=>.Pass ⟨0,0,0,0⟩
def bN (s:Tf):Arguments:=match s with
 | .FunctionDef _ a _ _ _ _ _ _ _ _=>a
 | _=>{ posonlyargs:=[],args:=[],vararg:=none,kwonlyargs:=[],kw_defaults:=[],kwarg:=none,defaults:=[] }
def bA (s:Tf):List Tf:=match s with
 | .FunctionDef _ _ b _ _ _ _ _ _ _=>b
 | _=>[]
def al (s:Tf):UD:=match s with
 | .FunctionDef _ _ _ _ _ _ sc _ _ _=>sc
 | _=>{ kind:=.function,names:=[],isGenerator:=false,isCoroutine:=false }
abbrev CX0:CXT:=fun _ _ _ _ _ _=>False
abbrev E0:XK:=fun _ _ _=>False
theorem nv {X:Cx}:Passes CX0 X E0:=fun _ _ _ _ _ _ _ h=>h.elim
structure Fun (K:Ri) (x qual:Rz) (st:Tf) (f:Rk) (fd:Uk):Prop where
 ex:∃ (oc:Rl) (od:Option Rk) (kV doc pm:Rl) (an:Option Rk) (Al ct:Rl) (Eh:Array (Option Rl)),
  fd=Ux x qual (bN st) (bA st) (al st) .none kV doc pm an Al ct/\K.lookup f=some ⟨oc,od,.func fd,Eh⟩/\Vq K Al qual=true
 kp:T1 K (.ref f)=true
section
variable {P:RY} {w:Sj} {K:Ri} {mg:Rz->Option Rl} {base:SR}
theorem Fun.ok {x qual:Rz} {st:Tf} {f:Rk} {fd:Uk} {N ps:List Rz} {k:Nat} {sp:Sp} (F:Fun K x qual st f fd) (S:az N ps (al st)) (len:∀ vs H Q E,sp vs H Q E->vs.length=ps.length)
 (BH:∀ (Al:Rl) (A:Sf) (outer:List WH) (s:Rn) (H:Hp) (vs:List V) (Q:VK) (E:XK),Room k (A.deeper (Up qual (al st) s.heap.objs.size f Al))->sp vs H Q E →
  ∃ t,PSs (cz CX0 P w K mg base N qual (al st) f Al A outer s H E).nox (bA st) t/\t { nx:=fun _ H'=>Q .non H',rt:=Q } (start N vs) H):FnOk P w K mg base CX0 (k+1) f fd ps sp:=by
 obtain ⟨oc,od,kV,doc,pm,an,Al,ct,Eh,rfl,lk,C4⟩:=F.ex;refine xx lk C4 S len fun A outer s H vs Q E hr Ca=>?_;obtain ⟨t,h,q⟩:=BH Al A outer s H vs Q E hr Ca;exact ⟨t,h.nox,q⟩
theorem Fun.binds {x qual:Rz} {st:Tf} {f:Rk} {fd:Uk} {ps:List Rz} (F:Fun K x qual st f fd)
 (h:∀ (kV doc pm:Rl) (an:Option Rk) (Al ct:Rl) (us:List Rl),us.length=ps.length->Xa (Ux x qual (bN st) (bA st) (al st) .none kV doc pm an Al ct) ⟨us,[]⟩=pure (ps.zip us)):Binds K fd ps []:=by
 obtain ⟨oc,od,kV,doc,pm,an,Al,ct,Eh,rfl,lk,C4⟩:=F.ex;exact .all (h kV doc pm an Al ct)
theorem cX {x qual:Rz} {st:Tf} {f:Rk} {oc:Rl} {od an:Option Rk} {Eh:Array (Option Rl)} {kV doc pm Al ct:Rl} (l:K.lookup f=some ⟨oc,od,.func (Ux x qual (bN st) (bA st) (al st) .none kV doc pm an Al ct),Eh⟩)
 (c:Vq K Al qual=true) (k:T1 K (.ref f)=true):Fun K x qual st f (Ux x qual (bN st) (bA st) (al st) .none kV doc pm an Al ct):=⟨⟨oc,od,kV,doc,pm,an,Al,ct,Eh,rfl,l,c⟩,k⟩
end
section
variable {X:Cx}
theorem pv (i:Nat) {x:Rz} {pos:Vw} (hN:X.N[i]?=some x:=by rfl) (hv:Vis X.env.scope x:=by first | exact RH rfl | exact Or.inr (RH rfl) | exact Or.inr (Or.inr rfl)) (hd:(x == ("__debug__":Rz))=false:=by decide)
 (C4:(x == ("__classdict__":Rz))=false:=by decide):PE X (.Name x pos) (cj i):=yc hN hv hd C4
end
theorem bL {A B:Prop} (h:B):if false=true then A else B:=by
 rw [if_neg RK];exact h
theorem bC {A B:Prop} (h:A):if true=true then A else B:=by
 rw [if_pos rfl];exact h
theorem cr {c A B:Prop} [Decidable c] (h1:c->A) (h2:¬ c->B):if c then A else B:=by
 by_cases h:c
 · rw [if_pos h];exact h1 h
 · rw [if_neg h];exact h2 h
def Same (H H':Hp):Prop:=∀ b o,H b=some o->H' b=some o
theorem Same.refl (H:Hp):Same H H:=fun _ _ h=>h
theorem Same.trans {H H1 H2:Hp} (a:Same H H1) (b:Same H1 H2):Same H H2:=fun c o h=>b c o (a c o h)
theorem Same.free {H H':Hp} (e:Same H H') {l:Rk} (h:H' l=Option.none):H l=Option.none:=by
 cases q:H l with
 | none=>rfl
 | some o =>
   rw [e l o q] at h;cases h
theorem Same.seq {K:Ri} {H H':Hp} {a:Rk} {xs:List V} (e:Same H H') (h:SqL K H a xs):SqL K H' a xs:=by
 rcases h with (h | ⟨o,h⟩) | h
 · exact .inl (.inl (e _ _ h))
 · exact .inl (.inr ⟨o,e _ _ h⟩)
 · exact .inr h
end L2
namespace L2
open PySem PySem.Spec PyProof.Rows
theorem iF (env:WH):∀ (ns:List (Rz×Ui)) (acc:List (Rz×Rk)),(∀ n,(n,SM)∈ns->∃ c,env.cells.lookup n=some c) →
 (∀ x c,acc.lookup x=some c->env.cells.lookup x=some c) →
 ∃ cl,(forIn ns acc fun (x:Rz×Ui) (cs:List (Rz×Rk))=>(if (x.2 == SM)=true then (do let a ← cellOf env x.1;pure (TN ((x.1,a)::cs))) else pure (TN cs):Sem _))=pure cl ∧
   (∀ x c,cl.lookup x=some c->env.cells.lookup x=some c)/\(∀ n,(n,SM)∈ns->∃ c,cl.lookup n=some c)/\∀ n c,acc.lookup n=some c->cl.lookup n=some c
 | [],acc,_,ha=>⟨acc,rfl,ha,fun _ h=>by simp at h,fun _ _ h=>h⟩
 | (n,k)::r,acc,hf,ha=>by
   by_cases hk:k=SM
   · subst hk;obtain ⟨c,hc⟩:=hf n Rr
     have NZ:∀ x c',((n,c)::acc).lookup x=some c'->env.cells.lookup x=some c':=fun x c' e=>by
      rw [Uh] at e;cases hx:x == n with
      | true =>
        rw [hx] at e;have e1:x=n:=by simpa using hx
        cases e;rw [e1];exact hc
      | false=>rw [hx] at e;exact ha x c' e
     obtain ⟨cl,h1,h2,h3,h4⟩:=iF env r ((n,c)::acc) (fun m hm=>hf m (Rp _ hm)) NZ;have up:∀ m c',((n,c)::acc).lookup m=some c'->cl.lookup m=some c':=h4;refine ⟨cl,?_,h2,?_,?_⟩
     · rw [S9];have e0:cellOf env n=pure c:=by unfold cellOf;rw [hc]
       simp only [beq_self_eq_true,if_true,e0,pure_bind];exact h1
     · intro m hm;rcases RA.mp hm with e | e
       · have:m=n:=by simpa using (Prod.mk.inj e).1
         subst this;exact ⟨c,up m c (by rw [Uh];simp)⟩
       · exact h3 m e
     · intro m c' e;by_cases hm:m=n
       · subst hm;have:=ha m c' e;rw [hc] at this;cases this;exact up m c (by rw [Uh];simp)
       · have N0:(m == n)=false:=by simpa using hm
         exact up m c' (by rw [Uh,N0];exact e)
   · have hb:(k == SM)=false:=by simpa using hk
     obtain ⟨cl,h1,h2,h3,h4⟩:=iF env r acc (fun m hm=>hf m (Rp _ hm)) ha;refine ⟨cl,?_,h2,?_,h4⟩
     · rw [S9];simp only [hb,Bool.false_eq_true,if_false,pure_bind];exact h1
     · intro m hm;rcases RA.mp hm with e | e
       · exact absurd (Prod.mk.inj e).2.symm hk
       · exact h3 m e
theorem ii {env:WH} {sc:UD} (hf:∀ n,(n,SM)∈sc.names->∃ c,env.cells.lookup n=some c) :
 ∃ cl,closureFor sc env=pure cl/\(∀ x c,cl.lookup x=some c->env.cells.lookup x=some c)/\∀ n,(n,SM)∈sc.names->∃ c,cl.lookup n=some c:=by
 obtain ⟨cl,h1,h2,h3,_⟩:=iF env sc.names [] hf (fun x c e=>by simp at e);refine ⟨cl,?_,h2,h3⟩;unfold closureFor;have e:(forIn sc.names ([]:List (Rz×Rk)) fun (x:Rz×Ui) (cs:List (Rz×Rk))=>(do if (x.2 == SM)=true then (do let a ← cellOf env x.1;pure (TN ((x.1,a)::cs))) else pure (TN cs):Sem _))=pure cl:=h1
 first
  | (rw [show (forIn sc.names ([]:List (Rz×Rk)) _:Sem _)=pure cl from h1];rfl)
  | (simp only [h1,pure_bind])
theorem lg {f:Rz×Ui->Rz×Ui} (hf:∀ p,(f p).1=p.1):∀ {l:List (Rz×Ui)} {x:Rz} {k:Ui},l.lookup x=some k->(l.map f).lookup x=some (f (x,k)).2
 | [],_,_,h=>by simp at h
 | (n,k0)::r,x,k,h=>by
   have ih:=@lg f hf r x k;rw [RB];obtain ⟨a,b,e⟩:∃ a b,f (n,k0)=(a,b):=⟨_,_,rfl⟩;have ea:a=n:=by have:=hf (n,k0);rw [e] at this;exact this
   subst ea;rw [e,Uh];cases hx:x == a with
   | true =>
     rw [Uh,hx] at h;cases h;have:x=a:=by simpa using hx
     subst this;rw [e]
   | false=>rw [Uh,hx] at h;exact ih h
theorem eM {f:Rz×Ui->Rz×Ui} (hf:∀ p,(f p).1=p.1):∀ {l:List (Rz×Ui)} {x:Rz} {k:Ui},(l.map f).lookup x=some k->∃ k0,(x,k0)∈l/\(f (x,k0)).2=k
 | [],_,_,h=>by simp at h
 | (n,k0)::r,x,k,h=>by
   have ih:=@eM f hf r x k;rw [RB] at h;obtain ⟨a,b,e⟩:∃ a b,f (n,k0)=(a,b):=⟨_,_,rfl⟩;have ea:a=n:=by have:=hf (n,k0);rw [e] at this;exact this
   subst ea;rw [e,Uh] at h;cases hx:x == a with
   | true =>
     rw [hx] at h;cases h;have:x=a:=by simpa using hx
     subst this;exact ⟨k0,Rr,by rw [e]⟩
   | false =>
     rw [hx] at h;obtain ⟨k1,h1,h2⟩:=ih h;exact ⟨k1,Rp _ h1,h2⟩
def rlb (env:WH) (p:Rz×Ui):Rz×Ui:=if (p.2 == SM && env.scope.kind == .function && env.kindOf p.1 == some .cell) then (p.1,VT) else (p.1,p.2)
theorem oG (env:WH) (p:Rz×Ui):(rlb env p).1=p.1:=by unfold rlb;split <;> rfl
theorem g9 (sc:UD) (env:WH):(relabel sc env).names=sc.names.map (rlb env):=rfl
theorem i5 {sc:UD} {env:WH} {x:Rz} (h:sc.names.lookup x=some .free):(relabel sc env).names.lookup x=some .cell∨(relabel sc env).names.lookup x=some .free:=by
 rw [g9,lg (oG env) h];unfold rlb;split
 · exact .inl rfl
 · exact .inr rfl
theorem mx {sc:UD} {env:WH} {x:Rz} (hn:∀ y∈sc.names,y.2≠VT) (h:(relabel sc env).names.lookup x=some .cell∨(relabel sc env).names.lookup x=some .free):(x,SM)∈sc.names:=by
 rw [g9] at h
 have:∃ k0,(x,k0)∈sc.names/\((rlb env (x,k0)).2=.cell∨(rlb env (x,k0)).2=.free):=by
  rcases h with h | h
  · obtain ⟨k0,a,b⟩:=eM (oG env) h;exact ⟨k0,a,.inl b⟩
  · obtain ⟨k0,a,b⟩:=eM (oG env) h;exact ⟨k0,a,.inr b⟩
 obtain ⟨k0,hm,hk⟩:=this;have nc:=hn _ hm;cases k0 with
 | free=>exact hm
 | cell=>exact absurd rfl nc
 | _=>simp [rlb] at hk
def aX (X:Cx) (N:List Rz) (sc:UD) (cl:List (Rz×Rk)) (C:Rk) (s:Rn) (H:Hp) (fp:List Rk) (pins:List (Rk×TU)):Cx :=
 { X with N:=N,s₀:=s,H₀:=H,env:=compEnvC sc cl C X.env,outer:=X.stack,ex:=fp,fn:=fun _=>false,pn:=X.pn++pins,xe:=fun _ _=>False }
def cσ (js:List (Option Nat)) (σ:St):St:=js.map fun o=>o.bind fun j=>(σ[j]?).join
structure cZ (X:Cx) (sc:UD) (N:List Rz) (js:List (Option Nat)):Prop where
 kind:sc.kind=.function
 nocell:∀ y∈sc.names,y.2≠VT
 names:∀ y∈sc.names,y.2=NameKind.local->sc.names.lookup y.1=some .local
 frees:∀ y∈sc.names,y.2=SM->X.env.kindOf y.1=some .cell∨X.env.kindOf y.1=some .free
 len:js.length=N.length
 slots:∀ (i j:Nat) (x:Rz),js[i]?=some (some j)->N[i]?=some x->X.N[j]?=some x/\sc.names.lookup x=some .free/\(X.env.kindOf x=some .cell∨X.env.kindOf x=some .free)
theorem dz {X:Cx} {sc:UD} {N:List Rz} {js:List (Option Nat)} (k:sc.kind=.function) (nc:∀ y∈sc.names,y.2≠VT) (nm:∀ y∈sc.names,y.2=NameKind.local->sc.names.lookup y.1=some .local)
 (fr:(sc.names.all fun y=>y.2 != SM || X.env.kindOf y.1 == some VT || X.env.kindOf y.1 == some SM)=true) (ln:js.length=N.length)
 (sl:((js.zip N).all fun p=>match p.1 with | none=>true | some j=>X.N[j]? == some p.2 && sc.names.lookup p.2 == some SM && (X.env.kindOf p.2 == some VT || X.env.kindOf p.2 == some SM))=true):cZ X sc N js:=by
 refine ⟨k,nc,nm,fun y hy hf=>?_,ln,fun i j x e1 e2=>?_⟩
 · have h:=Sl.mp fr y hy;rw [hf] at h;simpa using h
 · have hm:(some j,x)∈js.zip N:=by
    have:(js.zip N)[i]?=some (some j,x):=by rw [U8];exact ⟨e1,e2⟩
    exact Ru this
   have h:=Sl.mp sl _ hm;simp at h;exact ⟨h.1.1,h.1.2,h.2⟩
def PTs (X:Cx) (ifs:List SI) (t:TT):Prop :=
 ∀ (pins:List (Rk×TU)) (s:Rn) (σ:St) (H:Hp) (Q:Bool->Hp->Prop),Inv X pins σ H s->t σ H Q →
   RL (RW X.prog X.w) X.A (forIn ifs true fun c r=>if r=true then do let ok ← isTrue c X.env (TZ c X.env);pure (TN ok) else pure (TN r)) (TP X pins σ Q) X.xe s
def bM:TT:=fun _ H Q=>Q true H
theorem cP {X:Cx}:PTs X [] bM:=fun _ _ _ H _ I h=>wpAny_tests_nil ⟨H,I,h⟩
theorem iM {X:Cx} {c:SI} {t:TT} (h:PT X c t):PTs X [c] t:=fun pins s σ H Q I q=>wpAny_tests_one (h pins s σ H Q I q)
def Keep (σ f':St):Prop:=σ.length=f'.length/\∀ (i:Nat) (v:V),σ[i]?=some (some v)->f'[i]?=some (some v)
def nb (js:List (Option Nat)) (g:TG):Prop:=∀ (σ AV:St) (x:V) (H:Hp) (Q:St->Hp->Prop),Keep (cσ js σ) AV->g x AV H Q->g x AV H fun Ay H2=>Keep (cσ js σ) Ay/\Q Ay H2
theorem Keep.refl (σ:St):Keep σ σ:=⟨rfl,fun _ _ h=>h⟩
theorem wM {js:List (Option Nat)} {σ:St} {i:Nat} (h:js[i]?=some none):(cσ js σ)[i]?=some none:=by
 unfold cσ;rw [Rw,h];rfl
theorem bX {js:List (Option Nat)} {i:Nat} (h:js[i]?=some none):nb js (aC i):=fun σ AV x H Q k q=>by
 refine ⟨⟨by rw [VN];exact k.1,fun j v e=>?_⟩,q⟩;by_cases hj:i=j
 · subst hj;rw [wM h] at e;cases e
 · rw [T2 hj];exact k.2 j v e
def du (js:List (Option Nat)) (g:TG) (tt:TT) (te:TE) (σ:St) (J:It) (D:Rk) (n:Nat) (W:Nat->Hp->Prop) (fin:Hp->Prop):Prop :=
 ∀ i H,W i H->(J.stop i H/\fin H)∨(i<n/\J.go i H/\∀ x H1,J.yld i H x H1->g x (cσ js σ) H1 fun Ay H2=>tt Ay H2 fun b H3 =>
   if b=true then te Ay H3 fun v H4=>∃ ys,H4 D=some (.lst ys)/\ys.length<RS/\W (i+1) (upd H4 D (.lst (ys++[v]))) else W (i+1) H3)
def uw (js:List (Option Nat)) (wi:TI) (g:TG) (tt:TT) (te:TE):TE:=fun σ H Q=>wi σ H fun J H1=>∀ D,H1 D=none →
 ∃ (n:Nat) (W:Nat->Hp->Prop),W 0 (upd H1 D (.lst []))/\du js g tt te σ J D n W fun H'=>Q (.ref D) H'
section
variable {X:Cx} {pins:List (Rk×TU)} {σ:St} {s:Rn} {H:Hp}
theorem qB {sc:UD} {N:List Rz} {js:List (Option Nat)} {cl:List (Rz×Rk)} {fp:List Rk} {h1:SR} {t':Nat} (S:cZ X sc N js) (I:Inv X pins σ H s)
 (Bo:∀ x c,cl.lookup x=some c->X.env.cells.lookup x=some c) (C7:∀ n,(n,SM)∈sc.names->∃ c,cl.lookup n=some c)
 (hf:∀ b∈fp,eQ X pins H b) (AH:∀ b∈fp,b<s.heap.objs.size) (Ej:h1.Ns s.heap.objs.size fun x=>Uz x ([]:List (Rz×Rl)))
 (CC:∀ b o,s.heap.get? b=some o->h1.get? b=some o) :
 Inv (aX X N sc cl s.heap.objs.size s H fp pins) [] (cσ js σ) H { s with heap:=h1,toks:=t' }:=by
 have hok:(aX X N sc cl s.heap.objs.size s H fp pins).Ok :=
  { mod:=I.ok.mod
    kind:=S.kind
    glob:=I.ok.glob
    blt:=I.ok.blt
    above:=Rq _
    inj:=fun x y c a b=>I.ok.inj x y c (Bo x c a) (Bo y c b)
    has:=fun x h=>C7 x (mx S.nocell h)
    cab:=fun x c h=>by cases h
    hd:=I.ok.hd
    frames:=I.ok.frames
    stk:=.inl rfl
    exf:=fun b hb=>⟨fun e=>absurd (AH b hb) (by rw [e];exact SE _),fun x c e z=>(hf b hb).2.2.2.2.1 x c (Bo x c e) z⟩
    bs:=I.bs
    bsz:=SO I.ok.bsz I.sz
    noex:=fun b o e hb=>by
     rcases (hf b hb).2.2.2.1 with h | h
     · exact I.ok.noex b o e h
     · exact absurd (R6 (R6 (RG e) I.ok.bsz) h) (SE _)
    exfs:=fun b hb hm=>by
     rcases RA.mp (I.stkSub b hm) with e | e
     · exact (hf b hb).2.1 e
     · exact (hf b hb).2.2.1 e
    funs:=I.stack
    frf:=I.stkFree }
 have hC:H s.heap.objs.size=none:=I.hok.fresh (Rq _);obtain ⟨m0,LZ,N1⟩:=I.loc
 exact
  { ok:=hok
    os:=rfl
    bare:=I.bare
    base:=Un.kept CC
    loc:=⟨_,Ej,fun i x v e1 e2 LV=>by
     have DA:∃ j,js[i]?=some (some j)/\σ[j]?=some (some v):=by
      unfold cσ at e2;rw [Rw] at e2;cases q:js[i]? with
      | none=>rw [q] at e2;cases e2
      | some o =>
        rw [q] at e2;cases o with
        | none=>cases e2
        | some j =>
          refine ⟨j,rfl,?_⟩;have e3:(σ[j]?).join=some v:=Ry e2;cases r:σ[j]? with
          | none=>rw [r] at e3;cases e3
          | some z=>rw [r] at e3;exact congrArg some e3
     obtain ⟨j,q1,q2⟩:=DA;obtain ⟨n1,n2,n3⟩:=S.slots i j x q1 e1;obtain ⟨u,ru,look⟩:=N1 j x v n1 q2 (by rcases n3 with z | z;exact .inr (.inl z);exact .inr (.inr z));refine ⟨u,ru,.inr ⟨i5 n2,?_⟩⟩;have hm:(x,SM)∈sc.names:=mx (env:=X.env) S.nocell (i5 n2);obtain ⟨c,hc⟩:=C7 x hm;refine ⟨c,hc,?_⟩;rcases look with ⟨k1,_⟩ | ⟨_,c',BQ,ic⟩
     · rcases n3 with z | z <;> (rw [k1] at z;cases z)
     · have:=Bo x c hc;rw [BQ] at this;cases this;exact ic.keeps CC⟩
    cell:=fun x c e=>by
     obtain ⟨v,q⟩:=I.cell x c (Bo x c e);exact ⟨v,q.keeps CC⟩
    free:=hC
    freeC:=fun x c e=>I.freeC x c (Bo x c e)
    pin:=fun p hp=>by
     have Dk:p∈X.pn++pins:=by simpa [aX] using hp
     obtain ⟨a1,a2,a3,a4,a5⟩:=I.pin p Dk;refine ⟨CC _ _ a1,a2,fun e=>?_,fun hm=>?_,a5⟩
     · have e':p.1=s.heap.objs.size:=e;exact absurd (RG a1) (by rw [e'];exact SE _)
     · rcases RA.mp (I.stkSub p.1 hm) with e | e
       · exact a3 e
       · exact a4 e
    hok:=I.hok.kept CC
    len:=by
     show (cσ js σ).length=N.length;unfold cσ;rw [Rf];exact S.len }
theorem uh {prog:RY} {w:Sj} {A:Sf} {R:WM->Rn->Prop} {elt target iter:SI} {ifs:List SI} {scope:UD} {pos:Vw} {it acc:Rl} {env:WH} (J:Nat->Rn->Prop)
 (turn:∀ n s,J n s->RL (RW prog w) A (W8 it) (fun r Ab=>(r=none/\R (.ok .next) Ab)∨∃ v,r=some v ∧
  RL (RW prog w) A (VZ target it v) (fun _ Bj=>RL (RW prog w) A (Xb target env v) (fun _ BG =>
   RL (RW prog w) A (forIn ifs true fun c r=>if r=true then do let ok ← isTrue c env (TZ c env);pure (TN ok) else pure (TN r)) (fun ok BJ =>
    (ok=false/\∃ m,m<n/\J m BJ)∨(ok=true/\RL (RW prog w) A (TZ elt env) (fun x DB=>RL (RW prog w) A (call (.builtin "list.append") [acc,x]) (fun _ DC=>∃ m,m<n/\J m DC) (fun _ _=>False) DB) (fun _ _=>False) BJ))
    (fun _ _=>False) BG) (fun _ _=>False) Bj) (fun _ _=>False) Ab) (fun _ _=>False) s)
 {s:Rn} (n:Nat) (h:J n s):Vn (RW prog w) A (.compLoop (.ListComp elt [⟨target,iter,ifs,0⟩] scope pos) 0 it acc env) R s:=by
 refine codeAny_loop rfl J (fun n s hJ=>?_) n h;show RL _ A ((compTurn (.ListComp elt [⟨target,iter,ifs,0⟩] scope pos) 0 it acc env).onRaise _) _ _ s;refine wpAny_noted ?_;rw [compTurn_list];have up:∀ {α:Type} {m:Sem α} {Q:α->Rn->Prop} {E:Rl->Rn->Prop} {s:Rn},RL (RW prog w) A m Q (fun _ _=>False) s->RL (RW prog w) A m Q E s:=fun q=>SA q (fun _ _ z=>z) fun _ _ z=>z.elim;refine Rj (Wu (Rj (SA (up (turn n s hJ)) (fun r Ab An=>?_) fun _ _ z=>z)));rcases An with ⟨rfl,An⟩ | ⟨v,rfl,An⟩
 · exact RF An
 · refine Rj (SA (up An) (fun _ Bj BA=>?_) fun _ _ z=>z);refine Rj (SA (up BA) (fun _ BG Ck=>?_) fun _ _ z=>z);refine Rj (SA (up Ck) (fun ok BJ Ba=>?_) fun _ _ z=>z);rcases Ba with ⟨rfl,Ba⟩ | ⟨rfl,Ba⟩
   · exact RF ⟨rfl,Ba⟩
   · exact Rj (Rj (SA (up Ba) (fun x DB AM=>Rj (SA (up AM) (fun _ DC E6=>RF (RF ⟨rfl,E6⟩)) fun _ _ z=>z)) fun _ _ z=>z))
theorem lE {elt tg iter:SI} {ifs:List SI} {sc:UD} {pos:Vw} {N:List Rz} {js:List (Option Nat)} {g:TG} {tt:TT} {te:TE} {cl:List (Rz×Rk)} {fp:List Rk} {it:Rk} {tn:Nat->SR->Prop} {J:It} {n:Nat} {W:Nat->Hp->Prop} {fin:Hp->Prop}
 {R:Rl->Rk->WM->Rn->Prop} (hc:X.calm=true) (S:cZ X sc N js) (I:Inv X pins σ H s) (T:Turn X.prog X.w X.K tg J fp it tn) (st:tn 0 s.heap) (hf:∀ b∈fp,eQ X pins H b)
 (Bo:∀ x c,cl.lookup x=some c->X.env.cells.lookup x=some c) (C7:∀ n,(n,SM)∈sc.names->∃ c,cl.lookup n=some c)
 (hg:∀ cl C s H fp pins,PG (aX X N sc cl C s H fp pins) tg g) (gk:nb js g) (ht:∀ cl C s H fp pins,PTs (aX X N sc cl C s H fp pins) ifs tt) (he:∀ cl C s H fp pins,PE (aX X N sc cl C s H fp pins) elt te)
 (w0:W 0 (upd H s.heap.objs.size (.lst []))) (turn:du js g tt te σ J s.heap.objs.size n W fin)
 (hR:∀ C H' s',C≠X.env.locals->s.heap.objs.size<C->(∃ m,s'.heap.Ns C m)->H' C=none->(∀ h' t',Ul C s'.heap h'->Inv X pins σ H' { s' with heap:=h',toks:=t' })->fin H'->R (.ref s.heap.objs.size) C (.ok .next) s') {E:Rl->Rn->Prop} :
 RL (RW X.prog X.w) X.A (newList []) (fun acc BG=>RL (RW X.prog X.w) X.A (newFunctionEnv sc X.env.globals cl [] X.env.qual none .none (some X.env)) (fun Br BJ =>
  Vn (RW X.prog X.w) X.A (.compStart (.ListComp elt [⟨tg,iter,ifs,0⟩] sc pos) 0 (.ref it) acc { Br with scope:=relabel sc X.env }) (R acc Br.locals) BJ) E BG) E s:=by
 refine S8 (wpAny_newFunctionEnv S.nocell (by intro y hy;simp at hy) (fun An Bh Bi=>?_) S.kind);dsimp only at Bh Bi ⊢;have I3:Inv X pins σ (upd H s.heap.objs.size (.lst [])) { s with heap:=s.heap.push { cls:=.type "list",dict:=none,data:=.seq ([]:List Rl).toArray } }:=I.lnew (t':=s.toks) (its:=[]) .nil (by decide)
 have AH:∀ b∈fp,b<s.heap.objs.size:=fun b hb=>by
  obtain ⟨o,ho,_⟩:=T.obj _ _ st b hb;exact RG ho
 have Cm:∀ b o,s.heap.get? b=some o->(s.heap.push { cls:=.type "list",dict:=none,data:=.seq ([]:List Rl).toArray }).get? b=some o:=fun b o e=>Ro _ e;have Az:(s.heap.push { cls:=.type "list",dict:=none,data:=.seq ([]:List Rl).toArray }).objs.size=s.heap.objs.size+1:=TC ..;generalize Gy:({ s with heap:=s.heap.push { cls:=.type "list",dict:=none,data:=.seq ([]:List Rl).toArray } }:Rn)=s3 at I3;have DD:s.heap.push { cls:=.type "list",dict:=none,data:=.seq ([]:List Rl).toArray }=s3.heap:=by rw [<- Gy]
 rw [DD] at Bh Bi Cm Az;rw [DD];have JB:∀ t',({ s with heap:=An,toks:=t' }:Rn)={ s3 with heap:=An,toks:=t' }:=fun t'=>by rw [<- Gy]
 rw [JB];have CC:∀ b o,s3.heap.get? b=some o->An.get? b=some o:=fun b o e=>Bi.extBut b o (R7 (RG e)) (Ro _ e);have D5:∀ b∈fp,eQ X pins (upd H s.heap.objs.size (.lst [])) b:=fun b hb=>⟨by rw [ar (R7 (AH b hb))];exact (hf b hb).1,(hf b hb).2⟩;have I4:=qB (t':=s.toks+([]:List (Rz×Rl)).length) S I3 Bo C7 D5 (fun b hb=>by rw [Az];exact Tp (AH b hb)) Bh CC;generalize N2:upd H s.heap.objs.size (.lst [])=H3 at I3 I4 D5 w0;have AE:tn 0 An:=T.keep _ _ _ st fun b hb o e=>CC _ _ (Cm _ _ e)
 have Bg:∀ {H':Hp},(∀ b∈fp,H' b=none)->∀ b∈fp,eQ (aX X N sc cl s3.heap.objs.size s3 H3 fp pins) [] H' b:=fun {H'} hn b hb=>by
  obtain ⟨f0,f1,f2,f3,f4,f5⟩:=hf b hb;refine ⟨hn b hb,fun e=>?_,fun hm=>?_,.inl hb,fun x c e=>f4 x c (Bo x c e),fun p hp=>f5 p (by simpa [aX] using hp)⟩
  · have e':b=s3.heap.objs.size:=e;have h9:b<s.heap.objs.size:=AH b hb;rw [e',Az] at h9;exact absurd h9 (Nat.not_lt.mpr (Nat.le_succ _))
  · rcases RA.mp (I.stkSub b hm) with e | e
    · exact f1 e
    · exact f2 e
 have loop:Vn (RW X.prog X.w) X.A (.compLoop (.ListComp elt [⟨tg,iter,ifs,0⟩] sc pos) 0 (.ref it) (.ref s.heap.objs.size) (compEnvC sc cl s3.heap.objs.size X.env)) (R (.ref s.heap.objs.size) s3.heap.objs.size)
  { s3 with heap:=An,toks:=s.toks+([]:List (Rz×Rl)).length }:=by
  refine uh (fun k s'=>∃ i H',Inv (aX X N sc cl s3.heap.objs.size s3 H3 fp pins) [] (cσ js σ) H' s'/\tn i s'.heap/\(∀ b∈fp,H' b=none)/\W i H'/\k=n - i) ?_ n ⟨0,H3,I4,AE,fun b hb=>(D5 b hb).1,w0,rfl⟩;rintro k s5 ⟨i,H5,I5,Dw,E1,w5,rfl⟩;rcases turn i H5 w5 with ⟨stop,qn⟩ | ⟨Gz,go,step⟩
  · refine thn (T.done (aX X N sc cl s3.heap.objs.size s3 H3 fp pins) rfl rfl rfl hc i [] s5 (cσ js σ) H5 _ I5 (Bg E1) Dw stop) fun r s6 ⟨hr,I6⟩=>.inl ⟨hr,?_⟩;have I7:Inv X pins σ H5 s6:=I3.call' (ch:=fp) (I6.os.trans rfl) I6.base I6.hok I6.bare fun b hb=>⟨(hf b hb).2.2.2.1,(hf b hb).2.1,(hf b hb).2.2.2.2.1,(hf b hb).2.2.2.2.2⟩;have GA:H5 s3.heap.objs.size=none:=I6.free;have GB:s3.heap.objs.size≠X.env.locals:=Uc I3.lt;obtain ⟨m6,JC,_⟩:=I6.loc;refine hR s3.heap.objs.size H5 s6 GB (by omega) ⟨m6,JC⟩ GA (fun h' t' sb=>?_) qn;refine I7.turned (it:=s3.heap.objs.size) (fun b o hb e=>sb.extBut b o hb e) GA GB (.inr I3.sz) (fun x c e z=>?_) fun p hp z=>?_
    · obtain ⟨v,q⟩:=I3.cell x c e;exact absurd q.lt (by rw [z];exact SE _)
    · exact absurd (RG (I3.pin p hp).1) (by rw [z];exact SE _)
  · refine thn (T.item (aX X N sc cl s3.heap.objs.size s3 H3 fp pins) rfl rfl rfl hc i [] s5 (cσ js σ) H5 _ I5 (Bg E1) Dw go) fun r s6 ⟨u,hr,h6⟩=>.inr ⟨u,hr,?_⟩;refine thn h6 fun _ s7 ⟨x,H7,I7,r7,y7,E7,JD⟩=>?_;have JE:=I7.pinned (Bg JD) (T.obj _ _ E7);refine thn (hg cl s3.heap.objs.size s3 H3 fp pins _ s7 (cσ js σ) H7 x u _ JE r7 (gk σ (cσ js σ) x H7 _ (.refl _) (step x H7 y7))) fun _ s8 ⟨CD,H8,I8,k8,q8⟩=>?_;refine thn (ht cl s3.heap.objs.size s3 H3 fp pins _ s8 CD H8 _ I8 q8) fun ok s9 ⟨H9,I9,q9⟩=>?_
    have again:∀ {s':Rn} {f':St} {H':Hp},Keep (cσ js σ) f'->Inv (aX X N sc cl s3.heap.objs.size s3 H3 fp pins) ([]++iJ fp s7.heap) f' H' s'->W (i+1) H'->∃ m,m<n - i/\∃ i H',Inv (aX X N sc cl s3.heap.objs.size s3 H3 fp pins) [] (cσ js σ) H' s'/\tn i s'.heap/\(∀ b∈fp,H' b=none)/\W i H'/\m=n - i:=fun {s' f' H'} kp I' w'=>by
     refine ⟨n - (i+1),by omega,i+1,H',(I'.unpinned).weak kp.1 kp.2,T.keep _ _ _ E7 fun b hb o e=>(I'.pin (b,o) (RI _ (RI _ (cw hb e)))).1,fun b hb=>?_,w',rfl⟩;obtain ⟨o,e,d⟩:=T.obj _ _ E7 b hb;exact (I'.pin (b,o) (RI _ (RI _ (cw hb e)))).2.1
    cases ok with
    | false =>
      refine .inl ⟨rfl,again k8 I9 ?_⟩;have GC:if false=true then _ else W (i+1) H9:=q9
      rw [if_neg RK] at GC;exact GC
    | true =>
      refine .inr ⟨rfl,?_⟩;rw [if_pos rfl] at q9;refine thn (he cl s3.heap.objs.size s3 H3 fp pins _ s9 CD H9 _ I9 q9) fun vv JF ⟨v,JG,JH,rv,ys,hD,GD,JI⟩=>?_;refine thn (bh _ JF CD JG (.ref s.heap.objs.size) [v] (.ref s.heap.objs.size) [vv] (fun _ H'=>W (i+1) H') JH rfl (.cons rv .nil) ⟨_,ys,v,rfl,rfl,hD,GD,JI⟩) fun _ N3 ⟨_,N4,JJ,_,JK⟩=>?_;exact again k8 JJ JK
 exact codeAny_compStart_list loop (T.self X.A 0 _ _ _ AE loop)
theorem cC {elt tg iter:SI} {ifs:List SI} {sc:UD} {pos:Vw} {N:List Rz} {js:List (Option Nat)} {wi:TI} {g:TG} {tt:TT} {te:TE} (hc:X.calm=true) (S:cZ X sc N js) (hi:PI X tg iter wi)
 (hg:∀ cl C s H fp pins,PG (aX X N sc cl C s H fp pins) tg g) (gk:nb js g) (ht:∀ cl C s H fp pins,PTs (aX X N sc cl C s H fp pins) ifs tt) (he:∀ cl C s H fp pins,PE (aX X N sc cl C s H fp pins) elt te)
 (hs:∀ x,VH iter X.env x=pure x:=by intro _;rfl):PE X (.ListComp elt [⟨tg,iter,ifs,0⟩] sc pos) (uw js wi g tt te):=by
 intro pins s σ H Q I h;obtain ⟨cl,e1,e2,e3⟩:=ii (env:=X.env) (sc:=sc) fun n hn=>I.ok.has n (S.frees _ hn rfl);rw [eval_ListComp];refine Ww (use:=none) rfl hs e1 S.kind S.names (thn (hi pins s σ H _ I h) fun v s1 h1=>thn h1 fun Gi s2 h2=>?_);obtain ⟨it,fp,tn,J,H2,rfl,I2,T,Eg,f2,R2⟩:=h2;obtain ⟨n,W,w0,turn⟩:=R2 s2.heap.objs.size I2.fresh;refine lE (R:=fun acc C=>compPost (RW X.prog X.w) X.A X.xe none (EP X pins σ Q) acc C) hc S I2 T Eg f2 e2 e3 hg gk ht he w0 turn fun C H' s' _ _ hn _ inv fi=>?_;obtain ⟨m,hm⟩:=hn;exact ⟨m,hm,fun h' sb=>⟨.ref s2.heap.objs.size,H',inv h' s'.toks sb,rfl,fi⟩⟩
theorem oV {i:Nat} {y:Rz} {elt tg iter:SI} {ifs:List SI} {sc:UD} {pos GF py:Vw} {N:List Rz} {js:List (Option Nat)} {wi:TI} {g:TG} {tt:TT} {te:TE} (hN:X.N.Nodup) (hy:X.N[i]?=some y) (GG:Loc X.env.scope y) (hc:X.calm=true) (S:cZ X sc N js) (hi:PI X tg iter wi)
 (hg:∀ cl C s H fp pins,PG (aX X N sc cl C s H fp pins) tg g) (gk:nb js g) (ht:∀ cl C s H fp pins,PTs (aX X N sc cl C s H fp pins) ifs tt) (he:∀ cl C s H fp pins,PE (aX X N sc cl C s H fp pins) elt te)
 (N5:Wa (.ListComp elt [⟨tg,iter,ifs,0⟩] sc pos) (some (.Name y py)) GF.line X.env=pure true:=by rfl)
 (hs:∀ x,VH iter X.env x=pure x:=by intro _;rfl) (hf:X.fn y=true∨X.env.scope.names.lookup y=some .local:=by first | exact .inl rfl | exact .inr rfl | assumption) :
 PS X (.Assign [.Name y py] (.ListComp elt [⟨tg,iter,ifs,0⟩] sc pos) GF) (qV (uw js wi g tt te) (aC i)):=by
 intro pins s σ H D I h;obtain ⟨cl,e1,e2,e3⟩:=ii (env:=X.env) (sc:=sc) fun n hn=>I.ok.has n (S.frees _ hn rfl);rw [exec_Assign_Name_used _ _ _ _ N5];refine Rj (Wu (Rj ?_));show RL _ X.A (do let _ ← comprehension (.ListComp elt [⟨tg,iter,ifs,0⟩] sc pos) sc X.env _ (newList []) false (TZ iter X.env) (some (Xb (.Name y py) X.env))) _ _ s;refine Rj (SA (Ww (use:=some (Xb (.Name y py) X.env)) (Q:=fun _ s'=>SP X pins D .next s') rfl hs e1 S.kind S.names (thn (hi pins s σ H _ I h) fun v s1 h1=>thn h1 fun Gi s2 h2=>?_)) (fun _ s' hq=>RF (RF hq)) fun _ _ z=>z);obtain ⟨it,fp,tn,J,H2,rfl,I2,T,Eg,f2,R2⟩:=h2;obtain ⟨n,W,w0,turn⟩:=R2 s2.heap.objs.size I2.fresh;refine lE (R:=fun acc C=>compPost (RW X.prog X.w) X.A X.xe (some (Xb (.Name y py) X.env)) (fun _ s'=>SP X pins D .next s') acc C) hc S I2 T Eg f2 e2 e3 hg gk ht he w0 turn fun C H' s' L3 hC hn JL inv fi=>?_;obtain ⟨m,hm⟩:=hn
 have I5:Inv X pins σ H' s':=by
  have q:=inv s'.heap s'.toks (.refl ..);exact q
 refine wpAny_assign_Name (na (v:=.ref s2.heap.objs.size) I5 hN hy GG rfl (fun s6 I6 ⟨a,sb,ha⟩=>?_) hf)
 have N6:C≠a:=by
  rcases ha with ha | ha
  · rw [ha];exact L3
  · intro z;obtain ⟨v,q⟩:=I2.cell y a ha;exact absurd (Nat.lt_trans q.lt hC) (by rw [z];exact SE _)
 refine ⟨m,hm.sameBut sb N6,fun h' N7=>⟨_,H',I6.turned (it:=C) (t':=s6.toks) (fun b o hb e=>N7.extBut b o hb e) JL L3 (.inr (SO I2.sz (Vu hC))) (fun x c e z=>?_) fun p hp z=>?_,fi⟩⟩
 · obtain ⟨v,q⟩:=I2.cell x c e;exact absurd (Nat.lt_trans q.lt hC) (by rw [z];exact SE _)
 · exact absurd (Nat.lt_trans (RG (I2.pin p hp).1) hC) (by rw [z];exact SE _)
end
end L2
namespace L2
open PySem PySem.Spec PyProof.Rows
def mQ {α:Type} (xs:List α) (lo hi:Option Int):List α:=(xs.drop (HT.sIx xs.length 0 lo)).take (HT.sIx xs.length xs.length hi - HT.sIx xs.length 0 lo)
def fm (z:Rz) (lo hi:Option Int):Rz:=⟨(mQ z.cps.toList lo hi).toArray⟩
theorem vq {α:Type} (xs:List α) (a n:Nat):((Sw n).map fun (k:Nat)=>a+k).filterMap (xs[·]?)=(xs.drop a).take n:=by
 induction n with
 | zero=>simp
 | succ n ih =>
   rw [List.range_succ,RC,List.filterMap_append,ih,UU];congr 1;rw [List.getElem?_drop];cases h:xs[a+n]? <;> simp [h]
theorem tT (n d:Nat) (i:Int):max 0 (min (if i<0 then i+(n:Int) else i) (n:Int))=((HT.sIx n d (some i):Nat):Int):=by
 show max 0 (min (if i<0 then i+(n:Int) else i) (n:Int))=(((if i<0 then (i+(n:Int)).toNat else min i.toNat n):Nat):Int);by_cases h:i<0
 · rw [if_pos h,if_pos h];omega
 · rw [if_neg h,if_neg h];omega
theorem uK (A B:Int) (a b:Nat) (hA:A=(a:Int)) (hB:B=(b:Int)):sliceRange A B 1=(Sw (b - a)).map fun (k:Nat)=>a+k:=by
 subst hA;subst hB;unfold sliceRange;simp only [show (1:Int) > 0 by decide,if_true]
 have c:(if (a:Int)<(b:Int) then ((b:Int) - a+1 - 1) / 1 else 0).toNat=b - a:=by
  split
  · rw [Xl];omega
  · omega
 rw [c];refine Vc fun k _=>?_;omega
theorem sY (lo hi:Option Int) (n:Nat):V9 lo hi 1 n=(Sw (HT.sIx n n hi - HT.sIx n 0 lo)).map fun (k:Nat)=>HT.sIx n 0 lo+k:=by
 unfold V9;simp only [show (1:Int) > 0 by decide,if_true];cases lo <;> cases hi <;> refine uK _ _ _ _ ?_ ?_ <;> first | rfl | exact tT _ _ _
theorem ee (z:Rz) (lo hi:Option Int):(fm z lo hi).length<=z.length:=by
 show (mQ z.cps.toList lo hi).toArray.size<=z.cps.size;unfold mQ;rw [Rt,Rx,RJ,RE];omega
theorem mO (x:Rz) (t:Tok) (l u:Option (Int×Tok)) {Q:Rl->Rn->Prop} {s:Rn} (hz:x.length<=RS) (h:∀ t' k,Q (.str (fm x (l.map (·.1)) (u.map (·.1))) t') { s with toks:=k }):(sliceMade x t l u none).post Q s:=by
 have e:(W7 x l u none).filterMap (x.cps[·]?)=mQ x.cps.toList (l.map (·.1)) (u.map (·.1)):=by
  unfold W7 mQ;show (V9 (l.map (·.1)) (u.map (·.1)) 1 x.length).filterMap (x.cps[·]?)=_;rw [sY,show (x.cps[·]?)=(x.cps.toList[·]?) from funext fun i=>(UT ..).symm,vq,RE];rfl
 unfold sliceMade;split
 · rename_i hc
   have hl:(W7 x l u none).length=x.length:=by
    have:=(R5 _ _ ▸ hc).2;simpa using this
   have hw:fm x (l.map (·.1)) (u.map (·.1))=x:=by
    have e2:(mQ x.cps.toList (l.map (·.1)) (u.map (·.1)))=x.cps.toList:=by
     have hp:W7 x l u none=(Sw (HT.sIx x.length x.length (u.map (·.1)) - HT.sIx x.length 0 (l.map (·.1)))).map fun (k:Nat)=>HT.sIx x.length 0 (l.map (·.1))+k:=sY _ _ _;rw [hp,Rf,UA] at hl;have b1:=HT.sIx_le x.length x.length (Rq _) (u.map (·.1));have hx:x.cps.toList.length=x.length:=RE;unfold mQ;rw [hx,hl];have JM:HT.sIx x.length 0 (l.map (·.1))=0∨x.length=0:=by omega
     rcases JM with h0 | h0
     · rw [h0,Tt,Sd (by rw [hx];exact Rq _)]
     · have:x.cps.toList=[]:=R4.mp (by rw [hx];exact h0);rw [this];simp
    unfold fm;rw [e2]
   have:=h t s.toks;rw [hw] at this;exact this
 · show (⟨((W7 x l u none).filterMap (x.cps[·]?)).toArray⟩:Rz).length<=RS/\Q _ _;rw [e];exact ⟨SO (ee x _ _) hz,h s.toks (s.toks+1)⟩
section
variable {X:Cx}
inductive xD (x:V) (lo:Option Int) (hi:Option Int) (H:Hp) (Q:VK):Prop
 | mk (z:_) (Aq:x=.str z) (Ar:z.length<=RS) (AB:Q (.str (fm z lo hi)) H):xD  x lo hi H Q
def aae:V->Option Int->Option Int->Hp->VK->Prop:=xD
theorem part_of {v:Rl} {o:Option Int} (h:IsPart v o):∃ l:Option (Int×Tok),v=partValue l/\l.map (·.1)=o:=by
 cases h with
 | none=>exact ⟨none,rfl,rfl⟩
 | int i t=>exact ⟨some (i,t),rfl,rfl⟩
theorem rS:SlR X aae:=by
 intro pins s σ H x v vl vu lo hi sl Q I rx hs pl pu h;obtain ⟨z,rfl,hz,q⟩:=h;obtain ⟨t,rfl⟩:=rx;obtain ⟨l,rfl,rfl⟩:=part_of pl;obtain ⟨u,rfl,rfl⟩:=part_of pu;refine ⟨"str",_,F.slot_str_getitem.lookup,Uu s z t,wpAny_getItem_str_slice (l:=l) (u:=u) (st:=none) ?_ rfl (mO z t l u hz fun t' k=>?_)⟩
 · obtain ⟨o,ho,hc,hd⟩:=hs;exact ⟨o,ho,hc,hd⟩
 · exact ⟨.str (fm z (l.map (·.1)) (u.map (·.1))),H,I.tok k,⟨_,rfl⟩,q⟩
def yG:V->List V->Hp->VK->Prop:=fun x vs H Q=>∃ z y i r,x=.str z/\vs=[.str y]/\Builtin.Str.occurrences z y 0 z.length 1=i::r/\Q (.int (i:Nat)) H
theorem va:MtR X "str.index" yG:=by
 intro pins s σ H x vs v us Q I rx rv h;obtain ⟨z,y,i,r,rfl,rfl,ho,q⟩:=h;obtain ⟨t,rfl⟩:=rx;obtain ⟨u,rfl,u',rfl⟩:=rv.one;exact SC.index ho ⟨.int (i:Nat),H,I.tok _,⟨_,rfl⟩,q⟩
theorem wx {ys:List Rz}:∀ {us:List Rl},Vals (ys.map V.str) us->StrsAre us ys:=by
 induction ys with
 | nil=>intro us r;cases r;exact .nil
 | cons y ys ih =>
   intro us r;cases r with
   | cons a b =>
     obtain ⟨t,rfl⟩:=a;exact .cons y t (ih b)
def rJoin (K:Ri):V->List V->Hp->VK->Prop:=fun x vs H Q=>∃ z p ys,x=.str z/\vs=[.ref p]/\SqL K H p (ys.map V.str)/\(ys.map (·.length)).sum+ys.length * z.length<=16777216/\Q (.str (SK z ys)) H
theorem kW:MtR X "str.join" (rJoin X.K):=by
 intro pins s σ H x vs v us Q I rx rv h;obtain ⟨z,p,ys,rfl,rfl,hl,hz,q⟩:=h;obtain ⟨t,rfl⟩:=rx;obtain ⟨u,rfl,u'⟩:=rv.one;cases u';obtain ⟨its,r,pl,_⟩:=I.list hl;exact join_list pl.isList (wx r) hz fun t' k=>⟨.str (SK z ys),H,I.tok k,⟨_,rfl⟩,q⟩
theorem u9 {T:String} {b:Bool} {t:Rl}:ej X (.builtin "isinstance") (fun xs H Q=>∃ x,xs=[x,.ty T]/\jf X.K H x t/\RU X.K t (.type T)=some b/\Q (.bl b) H):=by
 intro pins s σ H xs us Q I r h;obtain ⟨x,rfl,ty,k,q⟩:=h;obtain ⟨u,w',rfl,r1,r2⟩:=vals2 r;cases r2;exact tP I r1 ty k fun tk=>⟨.bl b,H,I.tok tk,rfl,q⟩
end
end L2
namespace PySem
namespace F
end F
end PySem
namespace PySem
open Sem (wp)
section
variable {prog:RY} {w:Sj} {A:Sf} {E:Rl->Rn->Prop} {s:Rn}
end
end PySem
namespace L2
open PySem PySem.Spec PyProof.Rows
section
variable {X:Cx} {e:SI} {te:TE} {p p2 pos BK:Vw}
def Itv (K:Ri) (a:Rk) (n:Nat):It:=⟨fun i H=>i<n/\∃ xs,SqL K H a xs/\xs.length=n,fun i H x H'=>H'=H/\∀ xs,SqL K H a xs->xs[n - 1 - i]?=some x,fun i _=>i=n⟩
theorem vo {P:RY} {w:Sj} {K:Ri} {tg:SI} (a it:Rk) (n:Nat):Turn P w K tg (Itv K a n) [it] it (fun i h=>h.IsRevIter it a ((n:Int) - 1 - (i:Nat))) where
 mem:=by simp
 obj:=fun i h st b hb=>by
  have e:b=it:=by simpa using hb
  subst e;obtain ⟨o,e,c,d⟩:=st;exact ⟨o,e,fun v z=>by rw [d] at z;cases z⟩
 keep:=fun i h h' st k=>st.at fun o e=>k it (by simp) o e
 item:=by
  intro X hP hw hK hc i pins s σ H E I hf st hg;subst hP hw hK;obtain ⟨hi,xs,hq,hx⟩:=hg;obtain ⟨its,rv,p,hz⟩:=I.list hq;have hl:=rv.length;obtain ⟨x,B1⟩:∃ x,xs[n - 1 - i]?=some x:=⟨_,Rg (by omega)⟩;obtain ⟨u,hu,ru⟩:=rv.get B1;obtain ⟨f0,f1,f2,f3,f4,f5⟩:=hf it (by simp);have e1:(n:Int) - 1 - (i:Nat)=((n - 1 - i:Nat):Int):=by omega
  rw [e1] at st;refine wpAny_pyNext_rev_item st p.isList (x:=u) (by simpa using hu) fun h' Bz sb=>?_;have I1:Inv X pins σ H { s with heap:=h' }:=I.turned (t':=s.toks) (fun b o hb e=>(sb.2 b hb).trans e) f0 f1 f3 f4 f5;have e2:((n - 1 - i:Nat):Int) - 1=(n:Int) - 1 - ((i+1:Nat):Int):=by omega
  rw [e2] at Bz;obtain ⟨o,e,c,d⟩:=id Bz;exact ⟨u,rfl,lm (s:={ s with heap:=h' }) e c d (by decide) ⟨x,H,I1,ru,⟨rfl,fun ys hy=>by rw [I.list_inj hy hq];exact B1⟩,Bz,fun b hb=>(hf b hb).1⟩⟩
 done:=by
  intro X hP hw hK hc i pins s σ H E I hf st hg;subst hP hw hK;have Ik:i=n:=hg;subst Ik;obtain ⟨f0,f1,f2,f3,f4,f5⟩:=hf it (by simp);rw [show (i:Int) - 1 - (i:Nat)=-1 by omega] at st;exact wpAny_pyNext_rev_end (I.ok.hd hc) st fun h' eb=>⟨rfl,I.turned (t':=s.toks) (fun b o hb e=>eb b o hb e) f0 f1 f3 f4 f5⟩
 self:=fun _ _ _ _ _ st h=>wpAny_pyIter_revIter st h
def zZ (K:Ri) (tl:TE):TI:=fun σ H R=>tl σ H fun x H1=>∃ a xs,x=.ref a/\SqL K H1 a xs/\R (Itv K a xs.length) H1
theorem ya {tg:SI} (g2:Gl X "reversed") (m2:X.mg "reversed"=none) (he:PE X e te) (h2:Sq [e] X.env=[(false,TZ e X.env)]:=by rfl):PI X tg (.Call (.Name "reversed" p2) [e] [] BK) (zZ X.K te):=by
 intro pins s σ H R I h;refine T3 (io I g2 m2 boot_reversed (Ub ?_ h2 rfl));rw [h2];show RL _ _ (spliced ((false,TZ e X.env)::[])) _ _ s;refine Tc (thn (he pins s σ H _ I h) fun u s1 ⟨x,H1,I1,r1,a,ys,ex,hq,q⟩=>UM ?_);subst ex;cases r1;obtain ⟨its,rv,p,hz⟩:=I1.list hq;have hl:=rv.length;refine call_reversed_list p.isList ?_
 have hit:(s1.heap.push (revObj a ((its.toArray.size:Int) - 1))).IsRevIter s1.heap.objs.size a ((ys.length:Int) - 1 - ((0:Nat):Int)):=by
  rw [hl,show (its.length:Int) - 1 - ((0:Nat):Int)=(its.toArray.size:Int) - 1 by rw [Rt];omega];exact ⟨_,RD _ rfl,rfl,rfl⟩
 refine wpAny_pyIter_revIter (s:={ s1 with heap:=s1.heap.push (revObj a ((its.toArray.size:Int) - 1)) }) hit ?_;refine ⟨s1.heap.objs.size,[s1.heap.objs.size],_,_,H1,rfl,I1.kept (t':=s1.toks) fun b o e=>Ro _ e,vo a _ ys.length,hit,fun b hb=>?_,q⟩;have e:b=s1.heap.objs.size:=by simpa using hb
 subst e;exact I1.fpOk (Rq _) (I1.hok.fresh (Rq _))
theorem w9 {K:Ri} {a:Rk} {xs:List V} {g:TG} {tb:TS} {D:Ends} {σ:St} {H:Hp} (Pv:Nat->St->Hp->Prop) (h0:Pv 0 σ H) (hl:∀ i σ H,i<=xs.length->Pv i σ H->SqL K H a xs)
 (hs:∀ i x σ H,i<xs.length->xs[xs.length - 1 - i]?=some x->Pv i σ H->g x σ H fun Ay H2=>tb { D with nx:=Pv (i+1),ct:=Pv (i+1),bk:=D.nx } Ay H2) (hd:∀ σ H,Pv xs.length σ H->D.nx σ H) :
 ∃ W:Nat->Nat->St->Hp->Prop,(∃ m,W 0 m σ H)/\∀ i m σ H,W i m σ H →
   ((Itv K a xs.length).stop i H/\D.nx σ H)∨((Itv K a xs.length).go i H/\∃ N:St->Hp->Prop,(∀ f' H',N f' H'->∃ m',m'<m/\W (i+1) m' f' H')/\∀ x H',(Itv K a xs.length).yld i H x H'->g x σ H' fun Ay H2=>tb { D with nx:=N,ct:=N,bk:=D.nx } Ay H2):=by
 refine ⟨fun i m σ H=>i<=xs.length/\m=xs.length - i/\Pv i σ H,⟨xs.length,Sk _,rfl,h0⟩,?_⟩;rintro i m σ H ⟨hi,rfl,p⟩;by_cases h:i=xs.length
 · left;exact ⟨h,hd σ H (by rw [<- h];exact p)⟩
 · right;have B2:i<xs.length:=by omega
   refine ⟨⟨B2,xs,hl i σ H hi p,rfl⟩,Pv (i+1),fun f' H' q=>⟨xs.length - (i+1),by omega,by omega,rfl,q⟩,?_⟩;rintro x H' ⟨rfl,hx⟩;exact hs i x σ H' B2 (hx xs (hl i σ H' hi p)) p
end
end L2
namespace BB
open PySem L2
inductive Th where
 | knot (n:Rz) (ks:List Th)
 | call (s k:Int)
def q:Rz:=Rc "?"
def Th.kids:Th->List Th
 | .knot _ ks=>ks
 | .call _ _=>[]
mutual
def Th.size:Th->Nat
 | .knot _ ks=>aF ks+1
 | .call _ _=>1
def aF:List Th->Nat
 | []=>0
 | t::ts=>t.size+aF ts
end
mutual
def Th.tall:Th->Nat
 | .knot _ ks=>aL ks+1
 | .call _ _=>1
def aL:List Th->Nat
 | []=>0
 | t::ts=>max t.tall (aL ts)
end
mutual
/-- by places FP -/
def Th.walk:Th->List Th
 | .knot n ks=>.knot n ks::walks ks
 | .call s k=>[.call s k]
def walks:List Th->List Th
 | []=>[]
 | t::ts=>t.walk++walks ts
end
theorem Th.walk_eq (t:Th):t.walk=t::walks t.kids:=by
 cases t with
 | knot n ks=>rw [Th.walk];rfl
 | call s k=>rw [Th.walk];simp [Th.kids,walks]
theorem Th.size_eq (t:Th):t.size=aF t.kids+1:=by
 cases t with
 | knot n ks=>rw [Th.size];rfl
 | call s k=>rw [Th.size];simp [Th.kids,aF]
theorem Th.tall_eq (t:Th):t.tall=aL t.kids+1:=by
 cases t with
 | knot n ks=>rw [Th.tall];rfl
 | call s k=>rw [Th.tall];simp [Th.kids,aL]
theorem ja:∀ a b:List Th,walks (a++b)=walks a++walks b
 | [],b=>by simp [walks]
 | t::a,b=>by rw [RZ,walks,walks,ja a b,RM]
theorem bR:∀ a b:List Th,aF (a++b)=aF a+aF b
 | [],b=>by simp [aF]
 | t::a,b=>by rw [RZ,aF,aF,bR a b,Nat.add_assoc]
mutual
theorem Th.walk_len:∀ t:Th,t.walk.length=t.size
 | .knot n ks=>by rw [Th.walk,Th.size,Rh,jI ks]
 | .call s k=>by rw [Th.walk,Th.size];rfl
theorem jI:∀ ts:List Th,(walks ts).length=aF ts
 | []=>rfl
 | t::ts=>by rw [walks,aF,Rm,t.walk_len,jI ts]
end
theorem Th.size_pos (t:Th):1<=t.size:=by rw [t.size_eq];omega
mutual
def At (H:Hp):Th->Rk->Prop
 | .knot n ks,a=>n≠q/\∃ as:List Rk,H a=some (.tup (.str n::as.map V.ref))/\Ats H ks as
 | .call s k,a=>H a=some (.tup [.str q,.int s,.int k])
def Ats (H:Hp):List Th->List Rk->Prop
 | [],as=>as=[]
 | t::ts,as=>∃ a r,as=a::r/\At H t a/\Ats H ts r
end
def KT (H H':Hp):Prop:=∀ b xs,H b=some (.tup xs)->H' b=some (.tup xs)
theorem KT.trans {H H1 H2:Hp} (a:KT H H1) (b:KT H1 H2):KT H H2:=fun c o h=>b c o (a c o h)
theorem Same.kt {H H':Hp} (h:L2.Same H H'):KT H H':=fun b xs e=>h b _ e
theorem im {H:Hp} {l:Rk} {o:HO} (h:H l=none):KT H (upd H l o):=fun b xs e=>by rw [ar (aR e h)];exact e
theorem bG {H:Hp} {l:Rk} {o:HO} {xs:List V} (h:H l=some (.lst xs)):KT H (upd H l o):=fun b ys e=>by rw [ar (sI e h (by intro z;cases z))];exact e
mutual
theorem At.mono {H H':Hp} (k:KT H H'):∀ {t:Th} {a:Rk},At H t a->At H' t a
 | .knot n ks,a,h=>by
   rw [At] at h ⊢;obtain ⟨h0,as,h1,h2⟩:=h;exact ⟨h0,as,k _ _ h1,Ats.mono k h2⟩
 | .call s c,a,h=>by
   rw [At] at h ⊢;exact k _ _ h
theorem Ats.mono {H H':Hp} (k:KT H H'):∀ {ts:List Th} {as:List Rk},Ats H ts as->Ats H' ts as
 | [],as,h=>by rw [Ats] at h ⊢;exact h
 | t::ts,as,h=>by
   rw [Ats] at h ⊢;obtain ⟨a,r,e,h1,h2⟩:=h;exact ⟨a,r,e,At.mono k h1,Ats.mono k h2⟩
end
theorem Ats.nil {H:Hp}:Ats H [] []:=by rw [Ats]
theorem Ats.cons {H:Hp} {t:Th} {ts:List Th} {a:Rk} {as:List Rk} (h1:At H t a) (h2:Ats H ts as):Ats H (t::ts) (a::as):=by rw [Ats];exact ⟨a,as,rfl,h1,h2⟩
theorem Ats.append {H:Hp}:∀ {ts us:List Th} {as bs:List Rk},Ats H ts as->Ats H us bs->Ats H (ts++us) (as++bs)
 | [],us,as,bs,h,g=>by rw [Ats] at h;subst h;exact g
 | t::ts,us,as,bs,h,g=>by
   rw [Ats] at h;obtain ⟨a,r,rfl,h1,h2⟩:=h;exact .cons h1 (h2.append g)
theorem Ats.length {H:Hp}:∀ {ts:List Th} {as:List Rk},Ats H ts as->as.length=ts.length
 | [],as,h=>by rw [Ats] at h;subst h;rfl
 | t::ts,as,h=>by
   rw [Ats] at h;obtain ⟨a,r,rfl,h1,h2⟩:=h;rw [Rh,Rh,h2.length]
theorem Ats.reverse {H:Hp}:∀ {ts:List Th} {as:List Rk},Ats H ts as->Ats H ts.reverse as.reverse
 | [],as,h=>by rw [Ats] at h;subst h;exact .nil
 | t::ts,as,h=>by
   rw [Ats] at h;obtain ⟨a,r,rfl,h1,h2⟩:=h;rw [S5,S5];exact h2.reverse.append (.cons h1 .nil)
theorem Ats.get {H:Hp}:∀ {ts:List Th} {as:List Rk} {i:Nat} {a:Rk},Ats H ts as->as[i]?=some a->∃ t,ts[i]?=some t/\At H t a
 | [],as,i,a,h,e=>by rw [Ats] at h;subst h;simp at e
 | t::ts,as,i,a,h,e=>by
   rw [Ats] at h;obtain ⟨b,r,rfl,h1,h2⟩:=h;cases i with
   | zero=>simp at e;subst e;exact ⟨t,rfl,h1⟩
   | succ i=>exact h2.get (i:=i) (by simpa using e)
theorem Ats.snoc_inv {H:Hp} {ts:List Th} {as:List Rk} {a:Rk} (h:Ats H ts (as++[a])):∃ us t,ts=us++[t]/\Ats H us as/\At H t a:=by
 have r:=h.reverse;rw [VP,List.reverse_singleton,List.singleton_append] at r;cases e:ts.reverse with
 | nil=>rw [e,Ats] at r;cases r
 | cons t us =>
   rw [e,Ats] at r;obtain ⟨b,z,e1,h1,h2⟩:=r;cases e1;refine ⟨us.reverse,t,?_,?_,h1⟩
   · rw [<- S5,<- e,U0]
   · have:=h2.reverse;rw [U0] at this;exact this
theorem At.tup {H:Hp} {t:Th} {a:Rk} (h:At H t a):∃ n r,H a=some (.tup (.str n::r)):=by
 cases t with
 | knot n ks=>rw [At] at h;obtain ⟨_,as,h1,_⟩:=h;exact ⟨n,_,h1⟩
 | call s k=>rw [At] at h;exact ⟨q,_,h⟩
end BB
namespace BB
open PySem L2
def comma:Rz:=Rc ","
def lpar:Rz:=Rc "("
def rpar:Rz:=Rc ")"
def pU (n:Rz) (ts:List Rz):Rz:=if ts.isEmpty=true then n else n++lpar++SK comma ts++rpar
mutual
def Th.show:Th->Rz
 | .knot n ks=>pU n (bV ks)
 | .call _ _=>q
def bV:List Th->List Rz
 | []=>[]
 | t::ts=>t.show::bV ts
end
mutual
def Th.Nm (L:Nat):Th->Prop
 | .knot n ks=>n.length<=L/\Nms L ks
 | .call _ _=>True
def Nms (L:Nat):List Th->Prop
 | []=>True
 | t::ts=>t.Nm L/\Nms L ts
end
theorem zN:q.length=1:=by decide +kernel
theorem uc:comma.length=1/\lpar.length=1/\rpar.length=1:=by decide +kernel
theorem join_le (ts:List Rz):(SK comma ts).length<=(ts.map (·.length)).sum+ts.length:=by
 have e:SK comma ts=Vf comma ts:=by simpa using PyProof.Rows.join_plain_closes comma ts
 have:=StrLaws.join_length_le comma ts;rw [uc.1] at this;rw [e];omega
mutual
theorem Th.show_le {L:Nat}:∀ t:Th,t.Nm L->t.show.length+1<=(L+3) * t.size
 | .knot n ks,h=>by
   rw [Th.Nm] at h;have hk:=my ks h.2;have hn:=h.1;rw [Th.show,Th.size,pU];have e1:(L+3) * (aF ks+1)=(L+3) * aF ks+(L+3):=Xi _ _;rw [e1];split
   · omega
   · have hj:=join_le (bV ks);have a1:=uc.2.1;have a2:=uc.2.2;rw [RT,RT,RT];omega
 | .call s k,h=>by
   rw [Th.show,Th.size,zN];omega
theorem my {L:Nat}:∀ ts:List Th,Nms L ts->((bV ts).map (·.length)).sum+(bV ts).length<=(L+3) * aF ts
 | [],_=>by simp [bV]
 | t::ts,h=>by
   rw [Nms] at h;have h1:=Th.show_le t h.1;have h2:=my ts h.2;rw [bV,aF,RB,Tj,Rh,Nat.mul_add];omega
end
end BB
namespace BB
open PySem L2
def dC:Rz:=Rc "abcdefghijklmnopqrstuvwxyz"
theorem qM:dC.cps.toList=(Sw 26).map (97+·):=by decide +kernel
theorem j6:dC.length=26:=by decide +kernel
theorem at_nonneg {α:Type} {xs:List α} {i:Int} {v:α} (h0:0<=i) (h:xs[i.toNat]?=some v):atI xs i=some v:=by
 have e:i=((i.toNat:Nat):Int):=by omega
 rw [e];exact fg h
theorem nF {i:Int} (h0:0<=i) (h1:i<26):atI dC.cps.toList i=some (97+i.toNat):=by
 refine at_nonneg h0 ?_;rw [qM,Rw,WS (by omega)];rfl
theorem ub:∀ i<26,Builtin.Str.occurrences dC ⟨#[97+i]⟩ 0 dC.length 1=[i]:=by decide +kernel
def fC (r:Int) (k:Nat):List Nat:=(Sw k).map fun j=>97+((r / 26 ^ j)%26).toNat
def cL (r:Int) (k:Nat):Rz:=⟨(fC r k).toArray⟩
theorem tS (r:Int) (k:Nat):(fC r k).length=k:=by unfold fC;rw [Rf,UA]
theorem cU (r:Int) (k:Nat):(cL r k).length=k:=by show (fC r k).toArray.size=k;rw [Rt,tS]
theorem rh (r:Int) (k:Nat):fC r (k+1)=fC r k++[97+((r / 26 ^ k)%26).toNat]:=by unfold fC;rw [List.range_succ,RC];rfl
theorem rL (r:Int) (k:Nat):cL r (k+1)=cL r k++⟨#[97+((r / 26 ^ k)%26).toNat]⟩:=by
 show (⟨(fC r (k+1)).toArray⟩:Rz)=⟨(fC r k).toArray++#[97+((r / 26 ^ k)%26).toNat]⟩;rw [rh];simp
def Low (x:Rz):Prop:=∀ c∈x.cps.toList,97<=c/\c<=122
theorem ue (r:Int) (k:Nat):∀ c∈fC r k,97<=c/\c<=122:=by
 intro c hc;obtain ⟨j,_,rfl⟩:=SQ.mp hc;have:=Se (r / 26 ^ j) (by decide:(26:Int)≠0);have:=Sa (r / 26 ^ j) (by decide:(0:Int)<26);omega
theorem oX {x:Rz} (h:Low x) (lo hi:Option Int):Low (fm x lo hi):=by
 intro c hc;have BQ:c∈mQ x.cps.toList lo hi:=by simpa [fm] using hc
 exact h c (Ti (SU BQ))
theorem sQ {x y:Rz} (hx:Low x) (hy:Low y):Low (x++y):=by
 intro c hc;have BQ:c∈(x.cps++y.cps).toList:=hc;rw [Ss,RN] at BQ;rcases BQ with h | h
 · exact hx c h
 · exact hy c h
theorem xj {c:Nat} (h1:97<=c) (h2:c<=122):Low ⟨#[c]⟩:=by
 intro d hd;have:d=c:=by simpa using hd
 omega
theorem xy {x:Rz} (h:Low x):x≠q:=by
 intro e;subst e;have:=h 63 (by decide +kernel);omega
def ef (base:Int):Int:=1+base / 2%8
def nAt (base:Int):Int:=base / 16%7%ef base
def jT (base n:Int):Nat:=97+(((((base / 112) / 26 ^ (nAt base).toNat)%26).toNat+n)%26).toNat
def nameOf (base n:Int):Rz :=
 if base%2=1 then fm (cL (base / 112) 8) none (some (n+1))
 else fm (cL (base / 112) 8) none (some (nAt base))++⟨#[jT base n]⟩++fm (cL (base / 112) 8) (some (nAt base+1)) (some (ef base))
theorem jo (base:Int):1<=ef base/\ef base<=8:=by
 have:=Se (base / 2) (by decide:(8:Int)≠0);have:=Sa (base / 2) (by decide:(0:Int)<8);unfold ef;omega
theorem v5 (base:Int):0<=nAt base/\nAt base<ef base:=by
 have:=jo base;unfold nAt;exact ⟨Se _ (by omega),Sa _ (by omega)⟩
theorem nA (base n:Int):97<=jT base n/\jT base n<=122:=by
 unfold jT;have h1:=Se (((((base / 112) / 26 ^ (nAt base).toNat)%26).toNat:Int)+n) (by decide:(26:Int)≠0);have h2:=Sa (((((base / 112) / 26 ^ (nAt base).toNat)%26).toNat:Int)+n) (by decide:(0:Int)<26);omega
theorem lC (base:Int):Low (cL (base / 112) 8):=by
 intro c hc;exact ue _ _ c (by simpa [cL] using hc)
theorem rf (base n:Int):Low (nameOf base n):=by
 unfold nameOf;split
 · exact oX (lC base) _ _
 · exact sQ (sQ (oX (lC base) _ _) (xj (nA base n).1 (nA base n).2)) (oX (lC base) _ _)
theorem iX (z:Rz) (lo hi:Option Int):(fm z lo hi).length=min (HT.sIx z.length z.length hi - HT.sIx z.length 0 lo) (z.length - HT.sIx z.length 0 lo):=by
 show (mQ z.cps.toList lo hi).toArray.size=_;unfold mQ;rw [Rt,Rx,RJ,RE];rfl
theorem qI (base n:Int):(nameOf base n).length<=8:=by
 unfold nameOf;split
 · have:=ee (cL (base / 112) 8) none (some (n+1));rw [cU] at this;exact this
 · have h1:=jo base;have h2:=v5 base;rw [RT,RT,iX,iX,cU]
   have e1:HT.sIx 8 8 (some (nAt base))=(nAt base).toNat:=by
    show (if nAt base<0 then _ else min (nAt base).toNat 8)=_;rw [if_neg (by omega)];omega
   have e2:HT.sIx 8 0 (some (nAt base+1))=(nAt base+1).toNat:=by
    show (if nAt base+1<0 then _ else min (nAt base+1).toNat 8)=_;rw [if_neg (by omega)];omega
   have e3:HT.sIx 8 8 (some (ef base))=(ef base).toNat:=by
    show (if ef base<0 then _ else min (ef base).toNat 8)=_;rw [if_neg (by omega)];omega
   have e4:HT.sIx 8 0 none=0:=rfl;have e5:(⟨#[jT base n]⟩:Rz).length=1:=rfl;rw [e1,e2,e3,e4,e5];omega
end BB
namespace L2
open PySem PySem.Spec PyProof.Rows
theorem Same.seqT {K:Ri} {H H':Hp} {a:Rk} {xs:List V} (e:Same H H') (h:SqT K H a xs):SqT K H' a xs:=by
 rcases h with (h | ⟨o,h⟩) | h
 · exact .inl (.inl (e _ _ h))
 · exact .inl (.inr ⟨o,e _ _ h⟩)
 · exact .inr h
theorem ad {H:Hp} {p:Rk} (h:H p=none) (o:HO):Same H (upd H p o):=fun b u q=>by rw [ar (aR q h)];exact q
theorem aH {H H1:Hp} {l:Rk} {o:HO} (h:Same H H1) (n:H l=none):Same H (upd H1 l o):=fun b u e=>by rw [ar (aR e n)];exact h b u e
theorem oP {α:Type} {js:List (Option Nat)} {tt:TT} {te:TE} {σ:St} {J:It} {H:Hp} {xs:List V} {fin:Rk->Hp->Prop} (zs:List α) (p:α->Bool) (f:α->V) (hz:zs.length=xs.length) (hn:xs.length<=1000000)
 (Dl:∀ i H2,Same H H2->i<xs.length->J.go i H2) (BL:∀ H2,Same H H2->J.stop xs.length H2) (DE:∀ (i:Nat) H2 x H3,Same H H2->i<xs.length->J.yld i H2 x H3->H3=H2/\xs[i]?=some x)
 (E8:∀ (i:Nat) x z H2 (R:Bool->Hp->Prop),xs[i]?=some x->zs[i]?=some z->Same H H2->R (p z) H2->tt ((cσ js σ).set 0 (some x)) H2 R)
 (E9:∀ (i:Nat) x z H2 (R:VK),xs[i]?=some x->zs[i]?=some z->p z=true->Same H H2->R (f z) H2->te ((cσ js σ).set 0 (some x)) H2 R)
 (q:∀ D,H D=none->fin D (upd H D (.lst ((zs.filter p).map f)))) :
 ∀ D,H D=none->∃ (n:Nat) (W:Nat->Hp->Prop),W 0 (upd H D (.lst []))/\du js (aC 0) tt te σ J D n W fun H'=>fin D H':=by
 intro D hD;refine ⟨xs.length,fun i H2=>i<=xs.length/\H2=upd H D (.lst (((zs.take i).filter p).map f)),⟨Sk _,by simp⟩,?_⟩;rintro i H2 ⟨hi,rfl⟩;have sm:∀ o,Same H (upd H D o):=fun o=>ad hD o;by_cases h:i=xs.length
 · left;subst h;refine ⟨BL _ (sm _),?_⟩;rw [<- hz,U6];exact q D hD
 · right;have B2:i<xs.length:=by omega
   refine ⟨B2,Dl i _ (sm _) B2,fun x H1 hy=>?_⟩;obtain ⟨rfl,hx⟩:=DE i _ x H1 (sm _) B2 hy;have N8:i<zs.length:=by omega
   have e1:zs[i]?=some zs[i]:=Rg N8
   have e2:(zs.take (i+1)).filter p=(zs.take i).filter p++(if p zs[i]=true then [zs[i]] else []):=by
    rw [UU,e1,List.filter_append];show _++List.filter p [zs[i]]=_;rw [U7,List.filter_nil]
   refine E8 i x zs[i] _ _ hx e1 (sm _) ?_
   have hlen:(((zs.take i).filter p).map f).length<=1000000:=by
    rw [Rf];have:=List.length_filter_le p (zs.take i);rw [Rx] at this;omega
   by_cases hp:p zs[i]=true
   · rw [if_pos hp];refine E9 i x zs[i] _ _ hx e1 hp (sm _) ⟨_,ac,WX hlen (by decide),B2,?_⟩;rw [wj,e2,if_pos hp,RC];rfl
   · rw [if_neg hp];refine ⟨B2,?_⟩;rw [e2,if_neg hp,RP]
theorem i3 {α:Type} {K:Ri} {a:Rk} {js:List (Option Nat)} {tt:TT} {te:TE} {σ:St} {H:Hp} {xs:List V} {fin:Rk->Hp->Prop} (zs:List α) (p:α->Bool) (f:α->V) (hS:SqL K H a xs) (hz:zs.length=xs.length) (hn:xs.length<=1000000)
 (E8:∀ (i:Nat) x z H2 (R:Bool->Hp->Prop),xs[i]?=some x->zs[i]?=some z->Same H H2->R (p z) H2->tt ((cσ js σ).set 0 (some x)) H2 R)
 (E9:∀ (i:Nat) x z H2 (R:VK),xs[i]?=some x->zs[i]?=some z->p z=true->Same H H2->R (f z) H2->te ((cσ js σ).set 0 (some x)) H2 R)
 (q:∀ D,H D=none->fin D (upd H D (.lst ((zs.filter p).map f)))) :
 ∀ D,H D=none->∃ (n:Nat) (W:Nat->Hp->Prop),W 0 (upd H D (.lst []))/\du js (aC 0) tt te σ (Itl K a) D n W fun H'=>fin D H' :=
 oP zs p f hz hn (fun i H2 s hi=>⟨xs,xs[i],s.seq hS,Rg hi⟩) (fun H2 s=>⟨xs,s.seq hS,Rq _⟩) (fun i H2 x H3 s hi hy=>⟨hy.1,hy.2 xs (s.seq hS)⟩) E8 E9 q
theorem pO {α:Type} {K:Ri} {a:Rk} {js:List (Option Nat)} {tt:TT} {te:TE} {σ:St} {H:Hp} {xs:List V} {fin:Rk->Hp->Prop} (zs:List α) (p:α->Bool) (f:α->V) (hS:SqT K H a xs) (hz:zs.length=xs.length) (hn:xs.length<=1000000)
 (E8:∀ (i:Nat) x z H2 (R:Bool->Hp->Prop),xs[i]?=some x->zs[i]?=some z->Same H H2->R (p z) H2->tt ((cσ js σ).set 0 (some x)) H2 R)
 (E9:∀ (i:Nat) x z H2 (R:VK),xs[i]?=some x->zs[i]?=some z->p z=true->Same H H2->R (f z) H2->te ((cσ js σ).set 0 (some x)) H2 R)
 (q:∀ D,H D=none->fin D (upd H D (.lst ((zs.filter p).map f)))) :
 ∀ D,H D=none->∃ (n:Nat) (W:Nat->Hp->Prop),W 0 (upd H D (.lst []))/\du js (aC 0) tt te σ (Itt K a) D n W fun H'=>fin D H' :=
 oP zs p f hz hn (fun i H2 s hi=>⟨xs,xs[i],s.seqT hS,Rg hi⟩) (fun H2 s=>⟨xs,s.seqT hS,Rq _⟩) (fun i H2 x H3 s hi hy=>⟨hy.1,hy.2 xs (s.seqT hS)⟩) E8 E9 q
end L2
namespace BB
open PySem L2
theorem at0 {α:Type} {x:α} {xs:List α}:atI (x::xs) 0=some x:=fg (j:=0) rfl
theorem at1 {α:Type} {x y:α} {xs:List α}:atI (x::y::xs) 1=some y:=fg (j:=1) rfl
theorem at2 {α:Type} {x y z:α} {xs:List α}:atI (x::y::z::xs) 2=some z:=fg (j:=2) rfl
theorem at3 {α:Type} {x y z u:α} {xs:List α}:atI (x::y::z::u::xs) 3=some u:=fg (j:=3) rfl
theorem ji (x:V) (xs:List V):cB (x::xs) (some 1) none=xs:=by
 unfold cB;simp [HT.sIx]
theorem dG:∀ ts:List Th,ts.length<=aF ts
 | []=>Sk _
 | t::ts=>by
   have:=t.size_pos;have:=dG ts;rw [Rh,aF];omega
theorem nh (ts:List Th):aF ts.reverse=aF ts:=by
 induction ts with
 | nil=>rfl
 | cons x xs ih=>rw [S5,bR,ih,aF,aF,aF];omega
theorem bn {n:Nat} (h:n<=1000000):n<RS:=WX h (by decide)
theorem aj {n:Nat} (h:n<=1000000):n<=RS:=Vu (bn h)
theorem int_at {ns:List Int} {k:Int} (h0:0<=k) (h:k<(ns.length:Int)):atI (ns.map V.int) k=some (.int (ns.getD k.toNat 0)):=by
 refine at_nonneg h0 ?_;have hk:k.toNat<ns.length:=by omega
 rw [Rw,Rg hk,List.getD_eq_getElem?_getD,Rg hk];rfl
def cellAt (ns:List Int) (k:Int):Int:=if k<(ns.length:Int) then ns.getD k.toNat 0%10 ^ 60 else 0
theorem gu (ns:List Int) (k:Int):0<=cellAt ns k:=by
 unfold cellAt;split
 · exact Se _ (by decide)
 · exact Int.le_refl _
end BB
namespace BB
open PySem L2
section
variable {α β:Type} {F G:α->β->Prop}
theorem P2.append:∀ {a c:List α} {b d:List β},So F a b->So F c d->So F (a++c) (b++d)
 | _,_,_,_,.nil,h=>h
 | _,_,_,_,.cons r t,h=>.cons r (P2.append t h)
theorem P2.get:∀ {a:List α} {b:List β} {i:Nat} {x:α},So F a b->a[i]?=some x->∃ y,b[i]?=some y/\F x y
 | _,_,_,_,.nil,e=>by simp at e
 | _,_,0,_,.cons r _,e=>by simp at e;subst e;exact ⟨_,rfl,r⟩
 | _,_,i+1,x,.cons _ t,e=>by
   obtain ⟨u,h1,h2⟩:=P2.get (i:=i) (x:=x) t (by simpa using e);exact ⟨u,by simpa using h1,h2⟩
theorem P2.get':∀ {a:List α} {b:List β} {i:Nat} {y:β},So F a b->b[i]?=some y->∃ x,a[i]?=some x/\F x y
 | _,_,_,_,.nil,e=>by simp at e
 | _,_,0,_,.cons r _,e=>by simp at e;subst e;exact ⟨_,rfl,r⟩
 | _,_,i+1,y,.cons _ t,e=>by
   obtain ⟨u,h1,h2⟩:=P2.get' (i:=i) (y:=y) t (by simpa using e);exact ⟨u,by simpa using h1,h2⟩
theorem P2.set {x:α} {y:β} (r:F x y):∀ {a:List α} {b:List β} (i:Nat),So F a b->So F (a.set i x) (b.set i y)
 | _,_,_,.nil=>.nil
 | _,_,0,.cons _ t=>.cons r t
 | _,_,i+1,.cons h t=>.cons h (P2.set r i t)
theorem P2.drop:∀ {a:List α} {b:List β} (n:Nat),So F a b->So F (a.drop n) (b.drop n)
 | _,_,0,r=>r
 | _,_,_+1,.nil=>.nil
 | _,_,n+1,.cons _ t=>P2.drop n t
theorem P2.mp (f:∀ x y,F x y->G x y):∀ {a:List α} {b:List β},So F a b->So G a b
 | _,_,.nil=>.nil
 | _,_,.cons r t=>.cons (f _ _ r) (P2.mp f t)
end
def KAt (H:Hp) (k:Rz×Int) (a:Rk):Prop:=H a=some (.tup [.str k.1,.int k.2])
def KsAt (H:Hp) (ks:List (Rz×Int)) (as:List Rk):Prop:=So (KAt H) ks as
theorem KsAt.mono {H H':Hp} (k:KT H H') {ks:List (Rz×Int)} {as:List Rk} (h:KsAt H ks as):KsAt H' ks as:=P2.mp (fun x y e=>k _ _ e) h
def rests (r:Int):Nat->Int
 | 0=>r
 | k+1=>rests r k / 4+(k:Int)
def dD (cell:Int):Int:=cell * 1000003+4421
def db (cell:Int):Int:=1+dD cell%6
def pL (cell:Int):List (Rz×Int):=(Sw (db cell).toNat).map fun (k:Nat)=>(nameOf (dD cell / 36) (k:Int),rests (dD cell / 7) k%4)
def kAt (cell:Int):Int:=dD cell / 6%db cell
def cm (cell:Int):List (Rz×Int):=(pL cell).set (kAt cell).toNat (nameOf (dD cell / 36) (kAt cell),0)
theorem iU (cell:Int):1<=db cell/\db cell<=6:=by
 have:=Se (dD cell) (by decide:(6:Int)≠0);have:=Sa (dD cell) (by decide:(0:Int)<6);unfold db;omega
theorem rq (cell:Int):0<=kAt cell/\kAt cell<db cell:=by
 have:=iU cell;unfold kAt;exact ⟨Se _ (by omega),Sa _ (by omega)⟩
theorem gr (cell:Int):(pL cell).length=(db cell).toNat:=by unfold pL;rw [Rf,UA]
theorem dk (cell:Int):(cm cell).length=(db cell).toNat:=by unfold cm;rw [VN,gr]
theorem mE {cell:Int} {i:Nat} (h:i<(db cell).toNat):(pL cell)[i]?=some (nameOf (dD cell / 36) (i:Int),rests (dD cell / 7) i%4):=by
 unfold pL;rw [Rw,WS h];rfl
theorem cM {cell:Int} {i:Nat} {k:Rz×Int} (h:(cm cell)[i]?=some k):k.1=nameOf (dD cell / 36) (i:Int)/\0<=k.2/\k.2<=3/\(i=(kAt cell).toNat->k.2=0):=by
 have hi:i<(db cell).toNat:=by
  have:=(Rv.mp h).1;rw [dk] at this;exact this
 have ha:=rq cell;unfold cm at h;by_cases e:(kAt cell).toNat=i
 · rw [e,TK (by rw [gr];exact hi)] at h;cases h;have:(i:Int)=kAt cell:=by omega
   exact ⟨by rw [this],by simp,by simp,fun _=>rfl⟩
 · rw [T2 e,mE hi] at h;cases h;have h1:=Se (rests (dD cell / 7) i) (by decide:(4:Int)≠0);have h2:=Sa (rests (dD cell / 7) i) (by decide:(0:Int)<4);exact ⟨rfl,h1,by show rests (dD cell / 7) i%4<=3;omega,fun z=>absurd z.symm e⟩
structure fA (ks:List (Rz×Int)):Prop where
 ne:1<=ks.length
 le:ks.length<=6
 low:∀ k∈ks,Low k.1/\k.1.length<=8
 num:∀ k∈ks,0<=k.2/\k.2<=3
 zero:∃ k∈ks,k.2=0
theorem fh (cell:Int):fA (cm cell):=by
 have hm:=iU cell;have ha:=rq cell;refine ⟨by rw [dk];omega,by rw [dk];omega,fun k hk=>?_,fun k hk=>?_,?_⟩
 · obtain ⟨i,hi⟩:=Sv.mp hk;obtain ⟨e,_⟩:=cM hi;rw [e];exact ⟨rf _ _,qI _ _⟩
 · obtain ⟨i,hi⟩:=Sv.mp hk;obtain ⟨_,e1,e2,_⟩:=cM hi;exact ⟨e1,e2⟩
 · have hl:(kAt cell).toNat<(cm cell).length:=by rw [dk];omega
   exact ⟨(cm cell)[(kAt cell).toNat],List.getElem_mem hl,(cM (Rg hl)).2.2.2 rfl⟩
theorem xi {cell:Int} (h:0<=cell):0<=dD cell:=by unfold dD;omega
end BB
namespace L2
open PySem
theorem aG {t u:TS} {D:Ends} {σ:St} {H:Hp} (R:St->Hp->Prop) (h1:∀ k:St->Hp->Prop,(∀ f' H',R f' H'->k f' H')->t { D with nx:=k } σ H) (h2:∀ f' H',R f' H'->u D f' H'):rN t u D σ H:=h1 _ h2
theorem cA {c:TT} {t u:TS} {D:Ends} {σ:St} {H:Hp} (R:Bool->Hp->Prop) (h1:∀ k:Bool->Hp->Prop,(∀ b H',R b H'->k b H')->c σ H k) (h2:∀ H',R true H'->t D σ H') (h3:∀ H',R false H'->u D σ H'):zn c t u D σ H :=
 h1 _ fun b H' r=>by
  cases b with
  | true=>rw [if_pos rfl];exact h2 H' r
  | false=>rw [if_neg RK];exact h3 H' r
end L2
namespace BB
open PySem L2
section
variable {ext:Th->List V} {H H':Hp} {t:Th} {a:Rk} {ts:List Th} {es:List Rk}
end
theorem mv:∀ {ts:List Th} {t:Th},t∈ts->t.tall<=aL ts
 | u::ts,t,h=>by
   rw [aL];rcases RA.mp h with rfl | h
   · omega
   · have:=mv h;omega
theorem jF {xs:List V} {n:Nat} (h:n<=xs.length):cB xs (some (n:Int)) none=xs.drop n:=by
 unfold cB;rw [HT.sIx_nat,HT.sIx_none,TL h];exact Sd (by rw [RJ];exact Rq _)
theorem take_snoc {α:Type} {xs:List α} {n:Nat} {x:α} (h:xs[n]?=some x):xs.take (n+1)=xs.take n++[x]:=by rw [UU,h];rfl
theorem bY {xs:List Rk} {i:Nat} {x:V} (h:(xs.map V.ref)[i]?=some x):∃ a,x=.ref a/\xs[i]?=some a:=by
 rw [Rw] at h;obtain ⟨a,h1,h2⟩:=Tn.mp h;exact ⟨a,h2.symm,h1⟩
end BB
namespace PySem
open Sem (wp)
section
variable {prog:RY} {w:Sj} {A:Sf} {E:Rl->Rn->Prop} {s:Rn}
theorem bb_tupNext {cur tp:Rk} {i:Nat} {items:Array Rl} {x:Rl} {Q:Rl->Rn->Prop} (g:s.heap.IsTupleIter cur tp i) (gt:s.heap.IsTuple tp items) (hx:items[i]?=some x)
 (fin:∀ h',h'.IsTupleIter cur tp (i+1)->Ul cur s.heap h'->Q x { s with heap:=h' }):RL (RW prog w) A (SJ (.ref cur)) Q E s:=by
 obtain ⟨ob,e1,e2,e3⟩:=id g;obtain ⟨ot,e4,_,nt,e5⟩:=gt;unfold SJ;refine Rj (Ug (name:=Rc "__next__") g.typeIs Vg (Vl Vg g.typeIs F.entry_tuple_iterator_next ?_ (F.args_tuple_iterator_next_1 _)));show RL _ _ (field (.ref cur) 0 >>= _) _ _ s;refine Rj (Sx e1 e3 (x:=.ref tp) rfl ?_);show RL _ _ (if (SV tp == Te)=true then _ else _) _ _ s;rw [if_neg (show ¬ ((SV tp == Te)=true) from RK)];show RL _ _ (field (.ref cur) 1 >>= _) _ _ s;refine Rj (Sx e1 e3 (x:=.int i 0) rfl ?_);show RL _ _ (seqItems? (.ref tp) >>= _) _ _ s;refine Rj (Ut e4 e5 ?_);simp only [Tq,hx];refine Rj (W5 e1 e3 (by simp) (RF ⟨x,rfl,RF (fin _ ?_ (Heap.SameBut.update ..))⟩));exact ⟨_,W0 _ e1 (Obj.isFreed_of_fields (We e3 _)),(Obj.cls_mapFields ..).trans e2,by rw [We e3];simp [VQ]⟩
theorem bb_tupEnd {cur tp:Rk} {i:Nat} {items:Array Rl} {Q:Rl->Rn->Prop} (calm:A.handled=none) (g:s.heap.IsTupleIter cur tp i) (gt:s.heap.IsTuple tp items) (hx:items[i]?=none)
 (fin:∀ h' e,Heap.ExtBut cur s.heap h'->(∃ o,h'.get? e=some o/\o.cls=.type "StopIteration")->E (.ref e) { s with heap:=h' }):RL (RW prog w) A (SJ (.ref cur)) Q E s:=by
 obtain ⟨ob,e1,e2,e3⟩:=id g;obtain ⟨ot,e4,_,nt,e5⟩:=gt;unfold SJ;refine Rj (Ug (name:=Rc "__next__") g.typeIs Vg (Vl Vg g.typeIs F.entry_tuple_iterator_next ?_ (F.args_tuple_iterator_next_1 _)));show RL _ _ (field (.ref cur) 0 >>= _) _ _ s;refine Rj (Sx e1 e3 (x:=.ref tp) rfl ?_);show RL _ _ (if (SV tp == Te)=true then _ else _) _ _ s;rw [if_neg (show ¬ ((SV tp == Te)=true) from RK)];show RL _ _ (field (.ref cur) 1 >>= _) _ _ s;refine Rj (Sx e1 e3 (x:=.int i 0) rfl ?_);show RL _ _ (seqItems? (.ref tp) >>= _) _ _ s;refine Rj (Ut e4 e5 ?_);simp only [Tq,hx];refine Rj (wpAny_rule (Rj (W5 e1 e3 (by simp) ?_)));show RL _ _ (newExc (.type "StopIteration") [] >>= _) _ _ _;refine Rj ?_;simp only [newExc,newTuple];refine Rj (S8 ?_ (by size_fits));refine Rj (m:=firstArgMember _ _) (wpAny_of_eq (a:=Te) (by first | rfl | (simp only [firstArgMember];rfl)) ?_);refine S8 ?_ (by size_fits);simp only [raiseNew];refine Rj (wpAny_handled ?_)
 first | rw [show A.in1.handled=none from calm] | rw [calm]
 refine Rj (RF (wpAny_throw ?_));exact fin _ _ (((Heap.SameBut.update ..).extBut.push _).push _) ⟨_,RD _ rfl,rfl⟩
end
section
variable {prog:RY} {w:Sj} {A:Sf} {E:Rl->Rn->Prop} {s:Rn}
end
end PySem
namespace L2
open PySem PySem.Spec PyProof.Rows
theorem Inv.turnedL {X:Cx} {pins:List (Rk×TU)} {σ:St} {H:Hp} {s:Rn} {h':SR} {t':Nat} {fp:List Rk} (I:Inv X pins σ H s) (k:∀ b o,b∉fp->s.heap.get? b=some o->h'.get? b=some o) (hf:∀ b∈fp,eQ X pins H b) :
 Inv X pins σ H { s with heap:=h',toks:=t' }:=by
 have Gh:∀ b u,H b=some u->b∉fp:=fun b u e z=>by rw [(hf b z).1] at e;cases e
 refine I.step (g':=s.gens) (d':=s.drawn) (ch:=fp) (fun b hb=>?_) (fun b o _ _ hc e _=>k b o hc e) (fun b o _ _ hc e _=>⟨o.slots,k b o hc e⟩) (fun _ _ _ _ n=>n)
  (fun b o hc e=>⟨o,k b o hc e⟩) (fun _ _ e=>e) (fun _ _ _ e=>e) (fun b ps e=>⟨#[],by rw [e];simp⟩) (fun m hm=>?_) (fun b u e=>?_) I.bare
 · obtain ⟨f0,f1,f2,f3,f4,f5⟩:=hf b hb;exact ⟨f3,f1,f4,f5⟩
 · obtain ⟨o,es,ep,ho,r⟩:=hm;exact ⟨o,es,ep,k _ o (fun z=>(hf _ z).2.1 rfl) ho,r⟩
 · refine (I.hok b u e).stay (fun c v hc q=>k c v ?_ q) (fun _ q=>q) fun _ _ q=>q;rcases hc with z | z
   · rw [z];exact Gh b u e
   · exact Gh c _ z
section
variable {X:Cx} {e:SI} {te:TE} {p2 BK:Vw}
inductive uI (K:Ri) (x:V) (y:V) (H:Hp) (Q:VK):Prop
 | mk (a:_) (b:_) (xs:_) (ys:_) (Aq:x=.ref a) (Ar:y=.ref b) (AB:SqT K H a xs) (AQ:SqT K H b ys) (Bq:xs.length+ys.length<=RS) (Cb:(xs=[]->Q (.ref b) H)) (DF:(xs≠[]->ys=[]->Q (.ref a) H)) (FQ:(xs≠[]->ys≠[]->∀ p,H p=none->Q (.ref p) (upd H p (.tup (xs++ys))))):uI K x y H Q
def xL (K:Ri):R2:=uI K
theorem iQ:OpR X (Ve .Add) (xL X.K):=by
 intro pins s σ H x y v u Q I rx ry h;obtain ⟨a,b,xs,ys,e1,e2,ha,hb,hz,q0,q1,q2⟩:=h;by_cases hx:xs=[]
 · subst e1 e2;cases rx;cases ry;obtain ⟨its,r1,p1,_⟩:=I.tuple ha;obtain ⟨Ah,r2,p2,_⟩:=I.tuple hb;have hi:its=[]:=r1.nil_iff.mpr hx;obtain ⟨⟨cls,dd,data,sl⟩,ho,hc,n,hd⟩:=p1;obtain ⟨⟨Gq,FN,data2,FO⟩,E3,Dy,n2,hd2⟩:=p2;simp only at hc hd Dy hd2;subst hc hd Dy hd2;exact concat_meets ⟨_,ho,rfl⟩ ⟨_,E3,rfl⟩ noFill_tuple_add seq_tuple_add Wi Wc (V6 _ _) (tuple_addW0 a b its.toArray Ah.toArray n n2 dd FN sl FO (by simp [hi])) ⟨ho,E3,⟨.ref b,H,I,rfl,q0 hx⟩⟩
 · exact wU pins s σ H x y v u Q I rx ry ⟨a,b,xs,ys,e1,e2,ha,hb,hx,hz,q1 hx,q2 hx⟩
end
end L2
namespace PySem
open Sem (wp)
abbrev tzH1 (h:SR) (l1:Rk):SR:=h.push { cls:=.type "tuple_iterator",data:=.fields #[.ref l1,.int 0 0] }
abbrev tzH2 (h:SR) (l1 l2:Rk):SR:=(tzH1 h l1).push { cls:=.type "tuple_iterator",data:=.fields #[.ref l2,.int 0 0] }
abbrev tzH3 (h:SR) (l1 l2:Rk):SR:=(tzH2 h l1 l2).push { cls:=.type "tuple",data:=.seq #[.ref h.objs.size,.ref (tzH1 h l1).objs.size] }
abbrev tzH4 (h:SR) (l1 l2:Rk):SR:=(tzH3 h l1 l2).push { cls:=.type "tuple",data:=.seq #[.none,.none] }
abbrev tzH5 (h:SR) (l1 l2:Rk):SR:=(tzH4 h l1 l2).push { cls:=.type "zip",data:=.fields #[.none,.bool false,.bool false,.ref (tzH2 h l1 l2).objs.size,.ref (tzH3 h l1 l2).objs.size] }
theorem IsTuple.push' {h:SR} {l:Rk} {xs:Array Rl} (x:h.IsTuple l xs) (o:TU):(h.push o).IsTuple l xs:=let ⟨ob,e,r⟩:=x;⟨ob,Ro _ e,r⟩
theorem bb_meets_zip (l1 l2:Rk) (xs ys:Array Rl) :
 Meets (Ws.«zip.__new__» ⟨[.type "zip",.ref l1,.ref l2],[]⟩) (fun _ R s=>s.heap.IsTuple l1 xs/\s.heap.IsTuple l2 ys ∧
  R (.ok (.ret (.ref (tzH4 s.heap l1 l2).objs.size))) { s with heap:=tzH5 s.heap l1 l2 }) :=
 .of_wp fun prog w A R s h=>by
  obtain ⟨hp,g,d,tk,os⟩:=s;obtain ⟨AA,AG,h⟩:=h;have Bs:=sub_zip;have N9:Heap.IsTuple (Shared.heap ⟨hp,g,d,tk,os⟩) l1 xs:=AA;have Oa:Heap.IsTuple (Shared.heap ⟨hp.push { cls:=.type "tuple_iterator",data:=.fields #[.ref l1,.int 0 0] },g,d,tk,os⟩) l2 ys:=IsTuple.push' AG _
  wp_walk using Wb N9,Wb Oa
  exact ⟨_,rfl,h⟩
section
variable {prog:RY} {w:Sj} {A:Sf} {E:Rl->Rn->Prop} {s:Rn}
theorem bb_call_zip {l1 l2:Rk} {xs ys:Array Rl} {Q:Rl->Rn->Prop} (AA:s.heap.IsTuple l1 xs) (AG:s.heap.IsTuple l2 ys)
 (h:∀ h',WG h' (s.heap.objs.size+4) (s.heap.objs.size+2) (s.heap.objs.size+3) .none->UP h' (s.heap.objs.size+2) (.ref s.heap.objs.size) (.ref (s.heap.objs.size+1)) →
  UP h' (s.heap.objs.size+3) .none .none->h'.IsTupleIter s.heap.objs.size l1 0->h'.IsTupleIter (s.heap.objs.size+1) l2 0->h'.objs.size=s.heap.objs.size+5 →
  (∀ c o,s.heap.get? c=some o->h'.get? c=some o)->Q (.ref (s.heap.objs.size+4)) { s with heap:=h' }) :
 RL (RW prog w) A (call (.type "zip") [.ref l1,.ref l2]) Q E s:=by
 refine callType_new F.called_zip (by decide) (F.typeCall_zip_2 _ _) (F.newCall_zip_2 _ _) (fun obj=>F.args_object_init_3 obj _ _) F.entry_zip_new
  (bb_meets_zip l1 l2 xs ys) ⟨AA,AG,?_⟩
 have z1:(tzH1 s.heap l1).objs.size=s.heap.objs.size+1:=TC ..;have z2:(tzH2 s.heap l1 l2).objs.size=s.heap.objs.size+2:=by rw [TC,z1]
 have z3:(tzH3 s.heap l1 l2).objs.size=s.heap.objs.size+3:=by rw [TC,z2]
 have z4:(tzH4 s.heap l1 l2).objs.size=s.heap.objs.size+4:=by rw [TC,z3]
 have z5:(tzH5 s.heap l1 l2).objs.size=s.heap.objs.size+5:=by rw [TC,z4]
 have g5:(tzH5 s.heap l1 l2).get? (tzH4 s.heap l1 l2).objs.size=some _:=RD _ rfl;have g4:(tzH5 s.heap l1 l2).get? (tzH3 s.heap l1 l2).objs.size=some _:=Ro _ (RD _ rfl);have g3:(tzH5 s.heap l1 l2).get? (tzH2 s.heap l1 l2).objs.size=some _:=Ro _ (Ro _ (RD _ rfl));have g2:(tzH5 s.heap l1 l2).get? (tzH1 s.heap l1).objs.size=some _:=Ro _ (Ro _ (Ro _ (RD _ rfl)));have g1:(tzH5 s.heap l1 l2).get? s.heap.objs.size=some _:=Ro _ (Ro _ (Ro _ (Ro _ (RD _ rfl))));show _/\_;rw [z2,z3,z4] at g5;rw [z1,z2] at g3;rw [z3] at g4;rw [z1] at g2;rw [z4]
 exact ⟨⟨_,g5,rfl⟩,h _ g5 g3 g4 ⟨_,g1,rfl,rfl⟩ ⟨_,g2,rfl,rfl⟩ z5 fun c o x =>
  Ro _ (Ro _ (Ro _ (Ro _ (Ro _ x))))⟩
structure ZSt (xs ys:Array Rl) (z TI TO i1 i2 l1 l2:Rk) (k:Nat) (h:SR):Prop where
 ap:ZipApart z TI TO i1 i2 l1 l2
 zip:WG h z TI TO .none∨∃ (T:Rk) (b:Bool) (x y:Rl),h.get? z=some { cls:=.type "zip",data:=.fields #[VQ T,.bool b,.bool false,.ref TI,.ref TO] }/\UP h T x y/\T≠TO
 hTI:UP h TI (.ref i1) (.ref i2)
 hTO:∃ a b,UP h TO a b
 h1:h.IsTupleIter i1 l1 k
 h2:h.IsTupleIter i2 l2 k
 t1:h.IsTuple l1 xs
 t2:h.IsTuple l2 ys
theorem ZSt.typeIs {xs ys:Array Rl} {z TI TO i1 i2 l1 l2:Rk} {k:Nat} (x:ZSt xs ys z TI TO i1 i2 l1 l2 k s.heap):s.TypeIs (.ref z) "zip":=by
 rcases x.zip with e | ⟨T,b,u,v,e,_⟩
 · exact ⟨_,e,rfl⟩
 · exact ⟨_,e,rfl⟩
theorem IsTuple.but {h h':SR} {c l:Rk} {xs:Array Rl} (x:h.IsTuple l xs) (e:Heap.ExtBut c h h') (n:l≠c):h'.IsTuple l xs:=let ⟨ob,q,r⟩:=x;⟨ob,e _ _ n q,r⟩
theorem IsTupleIter.but {h h':SR} {c i l:Rk} {k:Nat} (x:h.IsTupleIter i l k) (e:Heap.ExtBut c h h') (n:i≠c):h'.IsTupleIter i l k:=let ⟨ob,q,r⟩:=x;⟨ob,e _ _ n q,r⟩
end
end PySem
namespace PySem
open Sem (wp)
section
variable {prog:RY} {w:Sj} {A:Sf} {E:Rl->Rn->Prop} {s:Rn}
theorem bb_zip_itemA {z TI TO i1 i2 l1 l2:Rk} {k:Nat} {xs ys:Array Rl} {x y a b:Rl} {Q:Rl->Rn->Prop} (D:ZipApart z TI TO i1 i2 l1 l2)
 (hz:WG s.heap z TI TO .none) (hTI:UP s.heap TI (.ref i1) (.ref i2)) (hTO:UP s.heap TO a b)
 (h1:s.heap.IsTupleIter i1 l1 k) (h2:s.heap.IsTupleIter i2 l2 k) (AA:s.heap.IsTuple l1 xs) (AG:s.heap.IsTuple l2 ys) (hx:xs[k]?=some x) (hy:ys[k]?=some y)
 (hQ:∀ h',WG h' z TI TO (VQ s.heap.objs.size)->UP h' TO x y->h'.IsTupleIter i1 l1 (k+1)->h'.IsTupleIter i2 l2 (k+1)->UP h' s.heap.objs.size x y->h'.objs.size=s.heap.objs.size+1 →
  (∀ c o,c≠z->c≠TO->c≠i1->c≠i2->s.heap.get? c=some o->h'.get? c=some o)->Q (.ref s.heap.objs.size) { s with heap:=h' }) :
 RL (RW prog w) A (Ws.«zip.__next__» ⟨[.ref z],[]⟩) (fun fin s'=>∃ v,fin=.done (.ret v)/\Q v s') E s:=by
 show RL _ _ (field (.ref z) 2 >>= _) _ _ _;refine Rj (Sx hz rfl (x:=.bool false) rfl ?_);show RL _ _ (field (.ref z) 3 >>= _) _ _ _;refine Rj (Sx hz rfl (x:=.ref TI) rfl ?_);refine Rj (Ut hTI rfl ?_);show RL _ _ (SN (.ref z) >>= _) _ _ _;refine Rj ?_;unfold SN;refine Rj (Sx hz rfl (x:=.none) rfl (RF ?_));simp only [if_true];refine Rj (wpAny_rule ?_);refine Rj (Sx hz rfl (x:=.ref TO) rfl ?_);refine Rj (Ur hz (by simp) fun An Bb Ak=>?_);replace Bb:WG An z TI TO .ellipsis:=Bb;refine Rj ?_;simp only [List.zipIdx_cons,List.zipIdx_nil,S9,List.forIn_nil];refine Rj (Rj (Wv ?_));show RL _ _ (SJ (.ref i1) >>= _) _ _ _;refine Rj (bb_tupNext (IsTupleIter.but h1 Ak.extBut D.i1z) (IsTuple.but AA Ak.extBut D.l1z) hx fun BA DG Ao=>RF ?_);have BM:UP BA TO a b:=Ao.extBut _ _ D.TOi1 (Ak.extBut _ _ D.TOz hTO);refine Rj (Ut BM rfl ?_);refine Rj (W3 BM fun Ck B4 AL=>?_);replace B4:UP Ck TO x b:=B4;refine Rj (wpAny_letGo (RF ?_));refine Rj (Rj (Wv ?_));show RL _ _ (SJ (.ref i2) >>= _) _ _ _
 refine Rj (bb_tupNext (IsTupleIter.but (IsTupleIter.but (IsTupleIter.but h2 Ak.extBut D.i2z) Ao.extBut D.i12.symm) AL.extBut D.TOi2.symm)
  (IsTuple.but (IsTuple.but (IsTuple.but AG Ak.extBut D.l2z) Ao.extBut D.l2i1) AL.extBut D.l2TO) hy fun Ba GH Bf=>RF ?_)
 have DH:UP Ba TO x b:=Bf.extBut _ _ D.TOi2 B4;refine Rj (Ut DH rfl ?_);refine Rj (W3 DH fun AM B5 Bx=>?_);replace B5:UP AM TO x y:=B5;refine Rj (wpAny_letGo (RF (RF ?_)));refine Rj (Ut B5 rfl ?_);refine Rj (wpAny_newTuple ?_);have Az:AM.objs.size=s.heap.objs.size:=by rw [Bx.1,Bf.1,AL.1,Ao.1,Ak.1]
 have EB:WG AM z TI TO .ellipsis:=Bx.extBut _ _ D.TOz.symm (Bf.extBut _ _ D.i2z.symm (AL.extBut _ _ D.TOz.symm (Ao.extBut _ _ D.i1z.symm Bb)))
 have GI:∀ c o,c≠z->c≠TO->c≠i1->c≠i2->s.heap.get? c=some o->AM.get? c=some o:=fun c o c1 c2 c3 c4 e =>
  Bx.extBut _ _ c2 (Bf.extBut _ _ c4 (AL.extBut _ _ c2 (Ao.extBut _ _ c3 (Ak.extBut _ _ c1 e))))
 have GJ:AM.IsTupleIter i1 l1 (k+1):=IsTupleIter.but (IsTupleIter.but (IsTupleIter.but DG AL.extBut D.TOi1.symm) Bf.extBut D.i12) Bx.extBut D.TOi1.symm;have GL:AM.IsTupleIter i2 l2 (k+1):=IsTupleIter.but GH Bx.extBut D.TOi2.symm;have GN:z<AM.objs.size:=RG EB;show RL _ _ (Builtin.SmallTypes.ownedTupleHandOut (.ref z) (.ref AM.objs.size) >>= _) _ _ _;refine Rj ?_;unfold Builtin.SmallTypes.ownedTupleHandOut;have GO:WG (AM.push { cls:=.type "tuple",data:=.seq #[x,y] }) z TI TO .ellipsis:=Ro _ EB;refine Rj (Ur GO (by simp) fun JN DI DJ=>?_);replace DI:WG JN z TI TO (VQ AM.objs.size):=DI;refine Ur DI (by simp) fun DK CS DL=>?_;replace CS:WG DK z TI TO (VQ AM.objs.size):=CS;have up:∀ c o,c≠z->AM.get? c=some o->DK.get? c=some o:=fun c o c1 e=>DL.extBut _ _ c1 (DJ.extBut _ _ c1 (Ro _ e));have EC:UP DK AM.objs.size x y:=DL.extBut _ _ (Uc GN) (DJ.extBut _ _ (Uc GN) (RD _ rfl));have L4:DK.objs.size=AM.objs.size+1:=by rw [DL.1,DJ.1,TC]
 rw [Az] at CS EC L4;refine RF ⟨_,rfl,?_⟩;show Q (.ref AM.objs.size) _;rw [Az];refine hQ DK CS (up _ _ D.TOz B5) ?_ ?_ EC L4 fun c o c1 c2 c3 c4 e=>up c o c1 (GI c o c1 c2 c3 c4 e)
 · obtain ⟨o,e,r⟩:=GJ;exact ⟨o,up _ o D.i1z e,r⟩
 · obtain ⟨o,e,r⟩:=GL;exact ⟨o,up _ o D.i2z e,r⟩
theorem bb_loadIfAlive {a:Rk} {o:TU} {Q:Option TU->Rn->Prop} (hQ:∀ u,some o=some u->Q (some u) s) (h:s.heap.get? a=some o):RL (RW prog w) A (loadIfAlive a) Q E s:=by
 intro Γ p QI;show Sem.wp _ _ (.loadIfAlive a .pure) _ _ _ _;rw [Sem.wp_loadIfAlive,h];exact hQ o rfl
theorem bb_notfree {z T:Rk} {b:Bool} {f2 TI TO u v:Rl} (hz:s.heap.get? z=some { cls:=.type "zip",data:=.fields #[VQ T,.bool b,f2,TI,TO] }) (hT:UP s.heap T u v) :
 RL (RW prog w) A (SN (.ref z)) (fun a s1=>a=false/\∃ An,s1={ s with heap:=An }/\An.get? z=some { cls:=.type "zip",data:=.fields #[VQ T,.bool true,f2,TI,TO] }/\Ul z s.heap An) E s:=by
 unfold SN;refine Rj (Sx hz rfl (x:=VQ T) rfl ?_);show RL _ _ (loadIfAlive (T:Int).toNat >>= _) _ _ _;rw [Tq];refine Rj (bb_loadIfAlive (fun o (e:some _=some o)=>?_) hT);cases e;show RL _ _ (if (some _:Option TU).isNone=true then _ else _) _ _ _;rw [if_neg (show ¬ ((some _:Option TU).isNone=true) from RK)];refine Rj (Sx hz rfl (x:=.bool b) rfl ?_);cases b with
 | true=>exact RF ⟨rfl,s.heap,rfl,hz,rfl,fun _ _=>rfl⟩
 | false=>exact Rj (Ur hz (by simp) fun An Bb Ak=>RF ⟨rfl,An,rfl,Bb,Ak⟩)
theorem bb_zip_end {z TI TO i1 i2 l1 l2:Rk} {k:Nat} {xs ys:Array Rl} {Q:Fin->Rn->Prop} (hh:A.handled=none)
 (S:ZSt xs ys z TI TO i1 i2 l1 l2 k s.heap) (C8:xs[k]?=none∨ys[k]?=none)
 (hE:∀ h' e,(∀ c o,c≠z->c≠TO->c≠i1->c≠i2->s.heap.get? c=some o->h'.get? c=some o)->(∃ o,h'.get? e=some o/\o.cls=.type "StopIteration")->E (.ref e) { s with heap:=h' }) :
 RL (RW prog w) A (Ws.«zip.__next__» ⟨[.ref z],[]⟩) Q E s:=by
 obtain ⟨D,hz,hTI,⟨a,b,hTO⟩,h1,h2,AA,AG⟩:=S;rcases hz with hz | ⟨T,bb,u,v,hz,hT,QJ⟩
 · show RL _ _ (field (.ref z) 2 >>= _) _ _ _;refine Rj (Sx hz rfl (x:=.bool false) rfl ?_);show RL _ _ (field (.ref z) 3 >>= _) _ _ _;refine Rj (Sx hz rfl (x:=.ref TI) rfl ?_);refine Rj (Ut hTI rfl ?_);show RL _ _ (SN (.ref z) >>= _) _ _ _;refine Rj ?_;unfold SN;refine Rj (Sx hz rfl (x:=.none) rfl (RF ?_));simp only [if_true];refine Rj (wpAny_rule ?_);refine Rj (Sx hz rfl (x:=.ref TO) rfl ?_);refine Rj (Ur hz (by simp) fun An Bb Ak=>?_);replace Bb:WG An z TI TO .ellipsis:=Bb;refine Rj ?_;simp only [List.zipIdx_cons,List.zipIdx_nil,S9,List.forIn_nil];refine Rj (Rj (Wv ?_));show RL _ _ (SJ (.ref i1) >>= _) _ _ _;cases hx:xs[k]? with
   | none =>
     refine Rj (bb_tupEnd hh (IsTupleIter.but h1 Ak.extBut D.i1z) (IsTuple.but AA Ak.extBut D.l1z) hx fun BA e Ao he=>?_);obtain ⟨oe,D6,GP⟩:=he;have ED:WG BA z TI TO .ellipsis:=Ao _ _ D.i1z.symm Bb;have JO:e≠z:=fun x=>by subst x;rw [ED] at D6;cases D6;simp at GP
     refine Ur ED (by simp) fun Ck _ AL=>hE Ck e (fun c o c1 _ c3 _ x=>AL.extBut _ _ c1 (Ao _ _ c3 (Ak.extBut _ _ c1 x))) ⟨oe,AL.extBut _ _ JO D6,GP⟩
   | some x =>
     have hy:ys[k]?=none:=by rcases C8 with h | h;rw [hx] at h;cases h;exact h
     refine Rj (bb_tupNext (IsTupleIter.but h1 Ak.extBut D.i1z) (IsTuple.but AA Ak.extBut D.l1z) hx fun BA DG Ao=>RF ?_);have BM:UP BA TO a b:=Ao.extBut _ _ D.TOi1 (Ak.extBut _ _ D.TOz hTO);refine Rj (Ut BM rfl ?_);refine Rj (W3 BM fun Ck B4 AL=>?_);refine Rj (wpAny_letGo (RF ?_));refine Rj (Rj (Wv ?_));show RL _ _ (SJ (.ref i2) >>= _) _ _ _
     refine Rj (bb_tupEnd hh (IsTupleIter.but (IsTupleIter.but (IsTupleIter.but h2 Ak.extBut D.i2z) Ao.extBut D.i12.symm) AL.extBut D.TOi2.symm)
      (IsTuple.but (IsTuple.but (IsTuple.but AG Ak.extBut D.l2z) Ao.extBut D.l2i1) AL.extBut D.l2TO) hy fun Ba e Bf he=>?_)
     obtain ⟨oe,D6,GP⟩:=he;have EE:WG Ba z TI TO .ellipsis:=Bf _ _ D.i2z.symm (AL.extBut _ _ D.TOz.symm (Ao.extBut _ _ D.i1z.symm Bb));have JO:e≠z:=fun x=>by subst x;rw [EE] at D6;cases D6;simp at GP
     refine Ur EE (by simp) fun AM _ Bx=>hE AM e (fun c o c1 c2 c3 c4 x=>Bx.extBut _ _ c1 (Bf _ _ c4 (AL.extBut _ _ c2 (Ao.extBut _ _ c3 (Ak.extBut _ _ c1 x))))) ⟨oe,Bx.extBut _ _ JO D6,GP⟩
 · show RL _ _ (field (.ref z) 2 >>= _) _ _ _;refine Rj (Sx hz rfl (x:=.bool false) rfl ?_);show RL _ _ (field (.ref z) 3 >>= _) _ _ _;refine Rj (Sx hz rfl (x:=.ref TI) rfl ?_);refine Rj (Ut hTI rfl ?_);show RL _ _ (SN (.ref z) >>= _) _ _ _;refine Rj (SA (bb_notfree hz hT) (fun a s1 ⟨e1,An,e2,Bb,Ak⟩=>?_) fun _ _ x=>x);subst e1 e2;simp only [Bool.false_eq_true,if_false];rw [<- Array.forIn_toList];refine Rj ?_;simp only [S9,List.forIn_nil];refine Rj (Rj (Uo ?_));show RL _ _ (SJ (.ref i1) >>= _) _ _ _;cases hx:xs[k]? with
   | none =>
     refine Rj (bb_tupEnd hh (IsTupleIter.but h1 Ak.extBut D.i1z) (IsTuple.but AA Ak.extBut D.l1z) hx fun BA e Ao he=>?_);exact hE BA e (fun c o c1 _ c3 _ x=>Ao _ _ c3 (Ak.extBut _ _ c1 x)) he
   | some x =>
     have hy:ys[k]?=none:=by rcases C8 with h | h;rw [hx] at h;cases h;exact h
     refine Rj (bb_tupNext (IsTupleIter.but h1 Ak.extBut D.i1z) (IsTuple.but AA Ak.extBut D.l1z) hx fun BA DG Ao=>RF (RF ?_));refine Rj (Rj (Uo ?_));show RL _ _ (SJ (.ref i2) >>= _) _ _ _;refine Rj (bb_tupEnd hh (IsTupleIter.but (IsTupleIter.but h2 Ak.extBut D.i2z) Ao.extBut D.i12.symm) (IsTuple.but (IsTuple.but AG Ak.extBut D.l2z) Ao.extBut D.l2i1) hy fun Ba e Bf he=>?_);exact hE Ba e (fun c o c1 _ c3 c4 x=>Bf _ _ c4 (Ao.extBut _ _ c3 (Ak.extBut _ _ c1 x))) he
theorem bb_zip_done {z TI TO i1 i2 l1 l2:Rk} {k:Nat} {xs ys:Array Rl} {Q:Option Rl->Rn->Prop} (hh:A.handled=none) (S:ZSt xs ys z TI TO i1 i2 l1 l2 k s.heap) (C8:xs[k]?=none∨ys[k]?=none)
 (hQ:∀ h',(∀ c o,c∉[z,TO,i1,i2]->s.heap.get? c=some o->h'.get? c=some o)->Q none { s with heap:=h' }):RL (RW prog w) A (W8 (.ref z)) Q E s:=by
 have hT:=S.typeIs;unfold W8
 refine Rj (wpAny_attempt (Ug (name:=Rc "__next__") hT WV
  (Vl WV hT F.entry_zip_next (bb_zip_end hh S C8 fun h' e hk he=>?_) (F.args_zip_next_1 _))))
 obtain ⟨o,ho,hc⟩:=he;refine Rj (wpAny_isInstance (T:="StopIteration") (b:=true) ⟨o,ho,hc⟩ isSubtype_stop ?_);exact RF (hQ _ fun c o hc=>hk c o (fun q=>hc (by simp [q])) (fun q=>hc (by simp [q])) (fun q=>hc (by simp [q])) (fun q=>hc (by simp [q])))
end
end PySem
namespace PySem
open Sem (wp)
namespace F
end F
section
variable {prog:RY} {w:Sj} {A:Sf} {R:WM->Rn->Prop}
end
section
variable {prog:RY} {w:Sj} {A:Sf} {E:Rl->Rn->Prop} {s:Rn}
end
end PySem
namespace L2
open PySem PySem.Spec PyProof.Rows
section
variable {X:Cx} {e1 e2:SI} {t:TA} {p p2 pos BK:Vw}
end
end L2
namespace L2
open PySem PySem.Spec PyProof.Rows
section
variable {κ:Type} [DecidableEq κ]
end
section
variable {P:RY} {w:Sj} {H:Hp} {h:SR} {a:Rk}
end
section
variable {X:Cx} {pins:List (Rk×TU)} {σ:St} {H:Hp} {s:Rn} {a:Rk} {y v:V} {u r:Rl} {o:Option V} {A:Sf} {E:Rl->Rn->Prop}
end
section
variable {X:Cx} {pins:List (Rk×TU)} {σ:St} {H:Hp} {s:Rn} {a:Rk} {AO:List (Key×V)} {k:Key} {u:Rl} {A:Sf} {E:Rl->Rn->Prop}
end
section
variable {X:Cx} {o i e value:SI} {pos pos' Ef:Vw} {td ty tv:TE}
end
section
variable {X:Cx} {pos:Vw}
end
section
variable {X:Cx} {pins:List (Rk×TU)} {σ:St} {H:Hp} {s:Rn} {a:Rk} {y d:V} {u r:Rl} {o:Option V} {A:Sf} {E:Rl->Rn->Prop}
end
section
variable {X:Cx} {o e f:SI} {apos A6:Vw} {td ty tx:TE}
end
section
variable {X:Cx} {pins:List (Rk×TU)} {σ:St} {H:Hp} {s:Rn} {a:Rk} {AO:List (Key×V)} {A:Sf} {E:Rl->Rn->Prop}
end
section
variable {X:Cx} {pins:List (Rk×TU)} {σ:St} {H:Hp} {s:Rn} {a:Rk} {y:V} {u:Rl} {A:Sf} {E:Rl->Rn->Prop}
end
end L2
namespace L2
open PySem PySem.Spec PyProof.Rows
inductive xI (K:Ri) (T:String) (xs:List V) (H:Hp) (Q:VK):Prop
 | mk (x:_) (b:_) (t:_) (Aq:xs=[x,.ty T]) (Ar:jf K H x t) (AB:RU K t (.type T)=some b) (AQ:Q (.bl b) H):xI K T xs H Q
def aao (K:Ri) (T:String):List V->Hp->VK->Prop:=xI K T
theorem dF {X:Cx} {T:String}:ej X (.builtin "isinstance") (aao X.K T):=by
 intro pins s σ H xs us Q I r h;obtain ⟨x,b,t,e,ty,k,q⟩:=h;exact u9 (T:=T) (b:=b) (t:=t) pins s σ H xs us Q I r ⟨x,e,ty,k,q⟩
variable {K:Ri}
theorem rR:RU K (.type "tuple") (.type "tuple")=some true:=rfl
theorem yN:RU K (.type "str") (.type "str")=some true:=rfl
theorem xQ:RU K (.type "int") (.type "int")=some true:=rfl
theorem rb:RU K (.type "str") (.type "tuple")=some false:=by with_unfolding_all rfl
theorem yJ:RU K (.type "int") (.type "bool")=some false:=by with_unfolding_all rfl
end L2
namespace BB
open PySem L2
set_option genInjectivity true in
inductive Dv where
 | int (i:Int)
 | str (x:Rz)
 | tup (ds:List Dv)
mutual
def Dv.deep:Dv->Nat
 | .int _=>0
 | .str _=>0
 | .tup ds=>jj ds+1
def jj:List Dv->Nat
 | []=>0
 | d::ds=>max d.deep (jj ds)
end
mutual
def Dv.tot:Dv->Nat
 | .int _=>1
 | .str _=>1
 | .tup ds=>wZ ds+1
def wZ:List Dv->Nat
 | []=>0
 | d::ds=>d.tot+wZ ds
end
mutual
def DAt (H:Hp):Dv->V->Prop
 | .int i,v=>v=.int i
 | .str x,v=>v=.str x
 | .tup ds,v=>∃ a vs,v=.ref a/\H a=some (.tup vs)/\DAts H ds vs
def DAts (H:Hp):List Dv->List V->Prop
 | [],vs=>vs=[]
 | d::ds,vs=>∃ v r,vs=v::r/\DAt H d v/\DAts H ds r
end
theorem DAts.nil {H:Hp}:DAts H [] []:=by rw [DAts]
theorem DAts.cons {H:Hp} {d:Dv} {ds:List Dv} {v:V} {vs:List V} (h1:DAt H d v) (h2:DAts H ds vs):DAts H (d::ds) (v::vs):=by rw [DAts];exact ⟨v,vs,rfl,h1,h2⟩
theorem DAts.length {H:Hp}:∀ {ds:List Dv} {vs:List V},DAts H ds vs->vs.length=ds.length
 | [],vs,h=>by rw [DAts] at h;subst h;rfl
 | d::ds,vs,h=>by
   rw [DAts] at h;obtain ⟨v,r,rfl,h1,h2⟩:=h;rw [Rh,Rh,h2.length]
theorem DAts.at {H:Hp}:∀ {ds:List Dv} {vs:List V} {i:Nat} {d:Dv},DAts H ds vs->ds[i]?=some d->∃ v,vs[i]?=some v/\DAt H d v
 | [],vs,i,d,h,e=>by simp at e
 | d0::ds,vs,i,d,h,e=>by
   rw [DAts] at h;obtain ⟨v,r,rfl,h1,h2⟩:=h;cases i with
   | zero=>simp at e;subst e;exact ⟨v,rfl,h1⟩
   | succ i =>
     obtain ⟨u,g1,g2⟩:=h2.at (i:=i) (by simpa using e);exact ⟨u,by simpa using g1,g2⟩
theorem me:∀ {ds:List Dv} {i:Nat} {d:Dv},ds[i]?=some d->d.deep<=jj ds
 | [],i,d,e=>by simp at e
 | d0::ds,i,d,e=>by
   rw [jj];cases i with
   | zero=>simp at e;subst e;omega
   | succ i =>
     have:=me (ds:=ds) (i:=i) (by simpa using e);omega
theorem sP:∀ {ds:List Dv} {i:Nat} {d:Dv},ds[i]?=some d->d.tot<=wZ ds
 | [],i,d,e=>by simp at e
 | d0::ds,i,d,e=>by
   rw [wZ];cases i with
   | zero=>simp at e;subst e;omega
   | succ i =>
     have:=sP (ds:=ds) (i:=i) (by simpa using e);omega
theorem Dv.tot_pos (d:Dv):1<=d.tot:=by
 cases d with
 | int i=>rw [Dv.tot];omega
 | str x=>rw [Dv.tot];omega
 | tup ds=>rw [Dv.tot];omega
theorem vI {K:Ri} {H:Hp} {a b:Rk} {xs ys:List V} {Q:VK} (ha:H a=some (.tup xs)) (hb:H b=some (.tup ys)) (hz:xs.length+ys.length<=1000000) (q:∀ p H',L2.Same H H'->H' p=some (.tup (xs++ys))->Q (.ref p) H'):xL K (.ref a) (.ref b) H Q:=by
 refine ⟨a,b,xs,ys,rfl,rfl,SqT.of ha,SqT.of hb,aj hz,fun e=>?_,fun _ e=>?_,fun _ _ p hp=>?_⟩
 · exact q b H (.refl _) (by rw [e];exact hb)
 · exact q a H (.refl _) (by rw [e,RP];exact ha)
 · exact q p _ (ad hp _) ac
theorem P2.reverse {α β:Type} {F:α->β->Prop}:∀ {a:List α} {b:List β},So F a b->So F a.reverse b.reverse
 | _,_,.nil=>.nil
 | _,_,.cons r t=>by
   rw [S5,S5];exact P2.append (P2.reverse t) (.cons r .nil)
theorem P2.snoc_inv {α β:Type} {F:α->β->Prop} {a:List α} {b:List β} {y:β} (h:So F a (b++[y])):∃ us x,a=us++[x]/\So F us b/\F x y:=by
 have r:=P2.reverse h;rw [VP,List.reverse_singleton,List.singleton_append] at r;cases e:a.reverse with
 | nil=>rw [e] at r;cases r
 | cons x us =>
   rw [e] at r;cases r with
   | cons h1 h2 =>
     refine ⟨us.reverse,x,?_,?_,h1⟩
     · rw [<- S5,<- e,U0]
     · have:=P2.reverse h2;rw [U0] at this;exact this
end BB
namespace BB
open PySem L2
mutual
def Th.kn:Th->Nat
 | .knot _ ks=>kns ks+1
 | .call _ _=>0
def kns:List Th->Nat
 | []=>0
 | t::ts=>t.kn+kns ts
end
mutual
def Th.FitP (ks:List (Rz×Int)):Th->Prop
 | .knot n ts=>(n,(ts.length:Int))∈ks/\lK ks ts
 | .call s k=>0<=s/\s<20/\0<=k/\k<3
def lK (ks:List (Rz×Int)):List Th->Prop
 | []=>True
 | t::ts=>t.FitP ks/\lK ks ts
end
section
variable {ext:Th->List V} {H H':Hp} {t:Th} {a:Rk} {ts:List Th} {es:List Rk}
end
def Th.isCall:Th->Bool
 | .knot _ _=>false
 | .call _ _=>true
end BB
namespace BB
open PySem PySem.Spec PyProof.Rows L2
mutual
theorem DAt.inj {H:Hp}:∀ {d e:Dv} {v:V},DAt H d v->DAt H e v->d=e
 | .int i,.int j,v,h,g=>by rw [DAt] at h;rw [DAt] at g;rw [h] at g;cases g;rfl
 | .int i,.str y,v,h,g=>by rw [DAt] at h;rw [DAt] at g;rw [h] at g;cases g
 | .int i,.tup es,v,h,g=>by rw [DAt] at h;rw [DAt] at g;obtain ⟨a,vs,e,_⟩:=g;rw [h] at e;cases e
 | .str x,.int j,v,h,g=>by rw [DAt] at h;rw [DAt] at g;rw [h] at g;cases g
 | .str x,.str y,v,h,g=>by rw [DAt] at h;rw [DAt] at g;rw [h] at g;cases g;rfl
 | .str x,.tup es,v,h,g=>by rw [DAt] at h;rw [DAt] at g;obtain ⟨a,vs,e,_⟩:=g;rw [h] at e;cases e
 | .tup ds,.int j,v,h,g=>by rw [DAt] at h;rw [DAt] at g;obtain ⟨a,vs,e,_⟩:=h;rw [e] at g;cases g
 | .tup ds,.str y,v,h,g=>by rw [DAt] at h;rw [DAt] at g;obtain ⟨a,vs,e,_⟩:=h;rw [e] at g;cases g
 | .tup ds,.tup es,v,h,g=>by
   rw [DAt] at h;rw [DAt] at g;obtain ⟨a,vs,e1,h1,h2⟩:=h;obtain ⟨b,ws,e2,g1,g2⟩:=g;rw [e1] at e2;cases e2;rw [h1] at g1;cases g1;rw [DAts.inj h2 g2]
theorem DAts.inj {H:Hp}:∀ {ds es:List Dv} {vs:List V},DAts H ds vs->DAts H es vs->ds=es
 | [],[],vs,h,g=>rfl
 | [],e::es,vs,h,g=>by rw [DAts] at h;rw [DAts] at g;obtain ⟨v,r,z,_⟩:=g;rw [h] at z;cases z
 | d::ds,[],vs,h,g=>by rw [DAts] at h;rw [DAts] at g;obtain ⟨v,r,z,_⟩:=h;rw [g] at z;cases z
 | d::ds,e::es,vs,h,g=>by
   rw [DAts] at h;rw [DAts] at g;obtain ⟨v,r,z,h1,h2⟩:=h;obtain ⟨v',r',z',g1,g2⟩:=g;rw [z] at z';cases z';rw [DAt.inj h1 g1,DAts.inj h2 g2]
end
end BB
namespace L2
open PySem PySem.Spec PySem.SeqAt PyProof.Rows BB
open Classical in
theorem vQ {X:Cx} {pins:List (Rk×TU)} {σ:St} {H:Hp} {s:Rn} (I:Inv X pins σ H s) {ds es:List Dv} {a b:Rk} {vs ws:List V} {A:Sf} (ha:SqT X.K H a vs) (hb:SqT X.K H b ws) (D7:DAts H ds vs) (B6:DAts H es ws) (hu:A.units<WA)
 (ih:∀ (j:Nat) (d e:Dv) (x y:V) (u v:Rl),ds[j]?=some d->DAt H d x->DAt H e y->RelV x u->RelV y v->EqAt A.in1 s u v (decide (d=e))):RcAt A s (.ref a) (.ref b) (decide (Dv.tup ds=Dv.tup es)):=by
 obtain ⟨its,r1,p1,_⟩:=I.tuple ha;obtain ⟨Ah,r2,p2,_⟩:=I.tuple hb;have l1:its.length=ds.length:=by rw [<- r1.length,D7.length]
 have l2:Ah.length=es.length:=by rw [<- r2.length,B6.length]
 have JP:RcAt A s (.ref a) (.ref b) ((Sw (min its.toArray.size Ah.toArray.size)).all (fun j=>decide (ds[j]?=es[j]?)) && its.toArray.size == Ah.toArray.size):=by
  refine RcAt.tuples (show s.heap.IsTuple a its.toArray from p1) (show s.heap.IsTuple b Ah.toArray from p2) hu fun j h1 h2=>?_;have BX:j<ds.length:=by rw [<- l1];simpa using h1
  have BE:j<es.length:=by rw [<- l2];simpa using h2
  have e1:ds[j]?=some ds[j]:=Rg BX;have e2:es[j]?=some es[j]:=Rg BE;obtain ⟨x',B1,dx⟩:=D7.at e1;obtain ⟨y',Gs,dy⟩:=B6.at e2;obtain ⟨u',Dm,Fb⟩:=r1.get B1;obtain ⟨v',Cu,Fc⟩:=r2.get Gs;have e3:decide (ds[j]?=es[j]?)=decide (ds[j]=es[j]):=by rw [e1,e2];simp
  have e4:its.toArray[j]=u':=by
   rw [Rg (by rw [l1];exact BX)] at Dm;simpa using Dm
  have e5:Ah.toArray[j]=v':=by
   rw [Rg (by rw [l2];exact BE)] at Cu;simpa using Cu
  rw [e3,e4,e5];exact ih j ds[j] es[j] x' y' u' v' e1 dx dy Fb Fc
 have e:decide (Dv.tup ds=Dv.tup es)=((Sw (min its.toArray.size Ah.toArray.size)).all (fun j=>decide (ds[j]?=es[j]?)) && its.toArray.size == Ah.toArray.size):=by
  rw [Rt,Rt,l1,l2];by_cases h:ds=es
  · subst h;rw [decide_eq_true rfl];symm;simp
  · rw [decide_eq_false (fun z=>h (Dv.tup.inj z))];symm;by_cases hl:ds.length=es.length
    · rw [hl,Nat.min_self]
      have:¬ ((Sw es.length).all (fun j=>decide (ds[j]?=es[j]?)))=true:=by
       intro z;apply h;apply Vv;intro j;by_cases hj:j<es.length
       · have:=Sl.mp z j (UK.mpr hj);exact of_decide_eq_true this
       · rw [SW (by omega),SW (by omega)]
      rw [S6.mpr this];rfl
    · have:(ds.length == es.length)=false:=by simpa using hl
      rw [this,Bool.and_false]
 rw [e];exact JP
open Classical in
theorem ss {X:Cx} {pins:List (Rk×TU)} {σ:St} {H:Hp} {s:Rn} (I:Inv X pins σ H s):∀ (n:Nat) (d e:Dv),d.tot<=n->∀ (x y:V) (u v:Rl) (A:Sf),DAt H d x->DAt H e y->RelV x u->RelV y v->A.units+d.deep<WA->EqAt A s u v (decide (d=e))
 | 0,d,e,hn,x,y,u,v,A,hd,he,ru,rv,hu=>by have:=d.tot_pos;omega
 | n+1,.int i,.int j,hn,x,y,u,v,A,hd,he,ru,rv,hu=>by
   rw [DAt] at hd;rw [DAt] at he;subst hd he;obtain ⟨t,rfl⟩:=ru;obtain ⟨t',rfl⟩:=rv
   have e:decide (Dv.int i=Dv.int j)=(i == j):=by
    by_cases h:i=j
    · subst h;simp
    · rw [decide_eq_false (fun z=>h (Dv.int.inj z))];simp [h]
   rw [e];exact EqAt.int_int i t j t'
 | n+1,.int i,.str b,hn,x,y,u,v,A,hd,he,ru,rv,hu=>by
   rw [DAt] at hd;rw [DAt] at he;subst hd he;obtain ⟨t,rfl⟩:=ru;obtain ⟨t',rfl⟩:=rv;rw [decide_eq_false (fun z=>by cases z)];exact EqAt.int_str i t b t'
 | n+1,.int i,.tup es,hn,x,y,u,v,A,hd,he,ru,rv,hu=>by
   rw [DAt] at hd;rw [DAt] at he;obtain ⟨a,vs,rfl,ha,_⟩:=he;subst hd;obtain ⟨t,rfl⟩:=ru;cases rv;obtain ⟨its,_,p,_⟩:=I.tuple (SqT.of (K:=X.K) ha);rw [decide_eq_false (fun z=>by cases z)];exact EqAt.int_tuple i t (show s.heap.IsTuple a its.toArray from p) (by omega)
 | n+1,.str b,.int j,hn,x,y,u,v,A,hd,he,ru,rv,hu=>by
   rw [DAt] at hd;rw [DAt] at he;subst hd he;obtain ⟨t,rfl⟩:=ru;obtain ⟨t',rfl⟩:=rv;rw [decide_eq_false (fun z=>by cases z)];exact EqAt.str_int b t j t'
 | n+1,.str b,.str c,hn,x,y,u,v,A,hd,he,ru,rv,hu=>by
   rw [DAt] at hd;rw [DAt] at he;subst hd he;obtain ⟨t,rfl⟩:=ru;obtain ⟨t',rfl⟩:=rv
   have e:decide (Dv.str b=Dv.str c)=(b == c):=by
    by_cases h:b=c
    · subst h;simp
    · rw [decide_eq_false (fun z=>h (Dv.str.inj z))];simp [h]
   rw [e];exact EqAt.str_str b t c t'
 | n+1,.str b,.tup es,hn,x,y,u,v,A,hd,he,ru,rv,hu=>by
   rw [DAt] at hd;rw [DAt] at he;obtain ⟨a,vs,rfl,ha,_⟩:=he;subst hd;obtain ⟨t,rfl⟩:=ru;cases rv;obtain ⟨its,_,p,_⟩:=I.tuple (SqT.of (K:=X.K) ha);rw [decide_eq_false (fun z=>by cases z)];exact EqAt.str_tuple b t (show s.heap.IsTuple a its.toArray from p) (by omega)
 | n+1,.tup ds,.int j,hn,x,y,u,v,A,hd,he,ru,rv,hu=>by
   rw [DAt] at hd;rw [DAt] at he;obtain ⟨a,vs,rfl,ha,_⟩:=hd;subst he;cases ru;obtain ⟨t,rfl⟩:=rv;obtain ⟨its,_,p,_⟩:=I.tuple (SqT.of (K:=X.K) ha);rw [decide_eq_false (fun z=>by cases z)];exact EqAt.tuple_int j t (show s.heap.IsTuple a its.toArray from p) (by omega)
 | n+1,.tup ds,.str b,hn,x,y,u,v,A,hd,he,ru,rv,hu=>by
   rw [DAt] at hd;rw [DAt] at he;obtain ⟨a,vs,rfl,ha,_⟩:=hd;subst he;cases ru;obtain ⟨t,rfl⟩:=rv;obtain ⟨its,_,p,_⟩:=I.tuple (SqT.of (K:=X.K) ha);rw [decide_eq_false (fun z=>by cases z)];exact EqAt.tuple_str b t (show s.heap.IsTuple a its.toArray from p) (by omega)
 | n+1,.tup ds,.tup es,hn,x,y,u,v,A,hd,he,ru,rv,hu=>by
   have JQ:=hd;have Ob:=he;rw [DAt] at hd;rw [DAt] at he;obtain ⟨a,vs,rfl,ha,D7⟩:=hd;obtain ⟨b,ws,rfl,hb,B6⟩:=he;cases ru;cases rv;by_cases Fd:a=b
   · subst Fd;rw [decide_eq_true (DAt.inj JQ Ob)];exact EqAt.same _
   rw [Dv.tot] at hn;rw [Dv.deep] at hu;refine EqAt.of_refs Fd (vQ I (SqT.of ha) (SqT.of hb) D7 B6 (by omega) fun j d e x' y' u' v' e1 dx dy Fb Fc=>?_);have q1:=sP e1;have q2:=me e1;refine ss I n d e (by omega) x' y' u' v' A.in1 dx dy Fb Fc ?_;show A.units+1+_<WA;omega
end L2
namespace BB
open PySem L2
end BB
namespace PySem
theorem bb_extendT (l:Rk) (items:Array Rl) (n:Nat) (b:Rk) (BN:Array Rl) (n2:Nat) (dd:Option Rk) (sl:Array (Option Rl)) (g0:¬(!items.isEmpty && T6 (items.size+BN.size))=true) (g1:items.size<=RS) (g2:items.size+BN.size<=RS+1) :
 Meets (Ws.«list.extend» ⟨[.ref l,.ref b],[]⟩) (fun _ R s=>s.heap.get? l=some { cls:=.type "list",dict:=none,data:=.seq items n,slots:=#[] }/\s.heap.get? b=some { cls:=.type "tuple",dict:=dd,data:=.seq BN n2,slots:=sl }/\R (.ok (.ret Te)) { s with heap:=s.heap.update l (WQ fun x=>x++BN),toks:=s.toks }) :=
 .of_wp fun prog w A R s h=>by
  obtain ⟨hp,g,d,tk,os⟩:=s;obtain ⟨hl,hb,h⟩:=h;have f1:=AutoSeq1.idx_int;have f2:=AutoSeq1.sub_tuple_tuple;have f3:=AutoSeq1.sub_list_list;have f4:=AutoSeq1.sub_tuple_list;have f5:=AutoSeq1.sub_list_tuple;have z2:(items++BN).size<=RS+1:=by rw [Array.size_append];exact g2
  wp_walk using (wpAny_updateSeq hl rfl (hz:=g1) (_hz':=z2)),AutoSeq1.wpAny_loadPart' hl,AutoSeq1.wpAny_loadPart' hb
  exact ⟨_,rfl,h⟩
end PySem
namespace L2
open PySem PySem.Spec PyProof.Rows
section
variable {X:Cx}
def vL (K:Ri):V->List V->Hp->VK->Prop:=fun x vs H Q=>∃ l b xs zs,x=.ref l/\vs=[.ref b]/\H l=some (.lst xs)/\SqT K H b zs/\xs.length+zs.length<=RS/\Q .non (upd H l (.lst (xs++zs)))
theorem rE:MtM X "list.extend" (vL X.K):=by
 intro pins s σ H x vs v us Q I rx rv h;obtain ⟨l,b,xs,zs,rfl,rfl,hH,hB,hz,q⟩:=h;cases rx;obtain ⟨u,rfl,ru⟩:=rv.one;cases ru;obtain ⟨z,its,n,r,hl,e⟩:=I.lstM hH;obtain ⟨Ah,r2,p2,_⟩:=I.tuple hB;have AG:=r2.length;obtain ⟨⟨Gq,FN,data2,FO⟩,e2,Dy,n2,hd2⟩:=p2;simp only at Dy hd2;subst Dy hd2;have Az:its.toArray.size+Ah.toArray.size<=RS:=by rw [Rt,Rt];omega
 have Cj:¬ (!its.toArray.isEmpty && T6 (its.toArray.size+Ah.toArray.size))=true:=by
  rw [lG Az,Bool.and_false];exact RK
 refine UX F.slot_list_extend ⟨_,e,rfl⟩ F.entry_list_extend (F.args_list_extend_2 _ _)
  (bb_extendT l its.toArray n b Ah.toArray n2 FN FO Cj (by rw [Rt];omega) (by omega)) ⟨e,e2,?_⟩
 refine ⟨.non,_,I.lset (its':=its++Ah) hH e (by simp) (r.append r2) ?_,rfl,q⟩;rw [Rm];omega
theorem t6 {bs:List Bool} {its:List Rl} (r:Vals (bs.map V.bl) its) {i:Nat} {v:Rl} (h:its[i]?=some v):∃ b,bs[i]?=some b/\v=.bool b:=by
 have hl:=r.length;have hi:i<its.length:=(Rv.mp h).1;rw [Rf] at hl;obtain ⟨u,hu,ru⟩:=r.get (i:=i) (x:=.bl bs[i]) (by rw [Rw,Rg (by omega)];rfl);rw [h] at hu;cases hu;cases ru;exact ⟨_,Rg (by omega),rfl⟩
def aaj (K:Ri):List V->Hp->VK->Prop:=fun xs H Q=>∃ (p:Rk) (bs:List Bool),xs=[.ref p]/\SqL K H p (bs.map V.bl)/\Q (.bl (bs.all id)) H
theorem ql (hc:X.calm=true):ej X (.builtin "all") (aaj X.K):=by
 intro pins s σ H xs us Q I r h;obtain ⟨p,bs,rfl,hl,q⟩:=h;obtain ⟨u,rfl,rx⟩:=vals1 r;cases rx;obtain ⟨its,rv,pl,_⟩:=I.list hl;have hlen:=rv.length;rw [Rf] at hlen;have AH:p<s.heap.objs.size:=by obtain ⟨_,_,e,_⟩:=pl;exact RG e
 refine call_all_walk (Wl pl.isList ?_);refine ⟨s.heap.objs.size,[s.heap.objs.size,p],[s.heap.objs.size],its.toArray.size,_,_,fun i=>(bs[i]?).getD true,rfl,Walks.list (A:=X.A.in1) (I.ok.hd hc) _ p (R7 AH) its.toArray,⟨⟨_,RD _ rfl,rfl,rfl⟩,pl.isList.push _⟩,fun i v s' Q' E' hP hQ=>?_,fun h' tk hk=>?_⟩
 · obtain ⟨b,e,rfl⟩:=t6 rv (i:=i) (v:=v) (by simpa using hP);simp only [e,Option.getD_some] at hQ;exact TR hQ
 · have e:((Sw its.toArray.size).all fun i=>(bs[i]?).getD true)=bs.all id:=by
    rw [Rt,<- hlen];exact LSm.range_all bs
   rw [e];exact ⟨.bl (bs.all id),H,I.kept (LSm.kept_iter hk),rfl,q⟩
end
end L2
namespace BB
open PySem L2
def dr:List (Rz×Int)->Rz->Int
 | [],_=>-1
 | k::r,n=>if k.1=n then k.2 else dr r n
theorem lV {n:Rz} {m:Nat}:∀ {ks:List (Rz×Int)},(ks.map (·.1)).Nodup->(dr ks n=(m:Int)↔(n,(m:Int))∈ks)
 | [],_=>by
   rw [dr];constructor
   · intro h;omega
   · intro h;cases h
 | (a,b)::r,nd=>by
   rw [RB,Tv] at nd;rw [dr];by_cases h:a=n
   · rw [if_pos h];subst h;constructor
     · intro e;have e':b=(m:Int):=e;rw [e'];exact Rr ..
     · intro e;rcases RA.mp e with e | e
       · exact (Prod.mk.inj e).2.symm
       · exact absurd (SQ.mpr ⟨_,e,rfl⟩) nd.1
   · rw [if_neg h,lV nd.2];constructor
     · exact Rp _
     · intro e;rcases RA.mp e with e | e
       · exact absurd (Prod.mk.inj e).1.symm h
       · exact e
def okP (ks:List (Rz×Int)) (st kd:Int):Th->Bool
 | .knot n ts=>decide (dr ks n=((ts.length:Nat):Int))
 | .call s k=>decide (0<=s/\s<st) && decide (0<=k/\k<kd)
def fpb (ks:List (Rz×Int)) (st kd:Int) (t:Th):Bool:=t.walk.all (okP ks st kd)
def vh (ks:List (Rz×Int)) (st kd:Int) (ts:List Th):Bool:=(walks ts).all (okP ks st kd)
theorem ur (ks:List (Rz×Int)) (st kd:Int) (t:Th):fpb ks st kd t=(okP ks st kd t && vh ks st kd t.kids):=by
 unfold fpb vh;rw [t.walk_eq,VG]
theorem lx (ks:List (Rz×Int)) (st kd:Int):∀ ts:List Th,vh ks st kd ts=(ts.map (fpb ks st kd)).all id
 | []=>by rfl
 | t::ts=>by
   rw [RB,VG,<- lx ks st kd ts];unfold vh fpb;rw [walks,List.all_append];rfl
theorem nL {w:Rz} {n:Int} (h0:0<=n) (h:n+1<=(w.length:Int)):(fm w none (some (n+1))).length=n.toNat+1:=by
 rw [iX]
 have e1:HT.sIx w.length w.length (some (n+1))=n.toNat+1:=by
  show (if n+1<0 then _ else min (n+1).toNat w.length)=_;rw [if_neg (by omega)];omega
 have e2:HT.sIx w.length 0 none=0:=rfl;rw [e1,e2];omega
theorem wB {A B:Rz} {c d:Nat} (h:A++⟨#[c]⟩++B=A++⟨#[d]⟩++B):c=d:=by
 have h1:(A.cps++#[c]++B.cps)=(A.cps++#[d]++B.cps):=congrArg Str.cps h;have h2:=congrArg Wk h1;simp at h2;exact h2
theorem sh {base i j:Int} (hi:0<=i) (L5:i<8) (hj:0<=j) (QK:j<8) (h:nameOf base i=nameOf base j):i=j:=by
 unfold nameOf at h;split at h
 · have h1:=congrArg Str.length h;rw [nL hi (by rw [cU];omega),nL hj (by rw [cU];omega)] at h1;omega
 · have h1:=wB h;unfold jT at h1;have a1:=Se (((((base / 112) / 26 ^ (nAt base).toNat)%26).toNat:Int)+i) (by decide:(26:Int)≠0);have a2:=Se (((((base / 112) / 26 ^ (nAt base).toNat)%26).toNat:Int)+j) (by decide:(26:Int)≠0);generalize ((((base / 112) / 26 ^ (nAt base).toNat)%26).toNat:Int)=l at h1 a1 a2;omega
theorem gT (cell:Int):((cm cell).map (·.1)).Nodup:=by
 have hm:=iU cell;refine List.pairwise_iff_getElem.mpr fun i j hi hj Ek e=>?_;rw [Rf] at hi hj;rw [List.getElem_map,List.getElem_map] at e;have e1:=(cM (Rg hi)).1;have e2:=(cM (Rg hj)).1;rw [e1,e2] at e;rw [dk] at hi hj;have:=sh (by omega) (by omega) (by omega) (by omega) e;omega
theorem zc {p:Prop} [Decidable p] (h:(!decide p)=true):¬ p:=by
 intro z;rw [decide_eq_true z] at h;cases h
theorem xP {p:Prop} [Decidable p] (h:¬ (!decide p)=true):p:=by
 by_cases z:p
 · exact z
 · exfalso;apply h;rw [decide_eq_false z];rfl
end BB
namespace PySem
open Sem (wp)
namespace F
end F
section
variable {prog:RY} {w:Sj} {A:Sf} {E:Rl->Rn->Prop} {s:Rn} {a:Rk} {xs:Array Rl} {k:Nat}
end
end PySem
namespace L2
open PySem PySem.Spec PyProof.Rows BB
section
variable {X:Cx}
end
end L2
namespace BB
open PySem L2
end BB
namespace HT
open PySem PySem.Spec PyProof.Rows
section
variable {prog:RY} {w:Sj} {A:Sf} {E:Rl->Rn->Prop} {s:Rn}
end
end HT
namespace L2
open PySem PySem.Spec PyProof.Rows
end L2
namespace PySem
open Sem (wp)
section
variable {prog:RY} {w:Sj} {A:Sf} {E:Rl->Rn->Prop} {s:Rn} {it d:Rk} {i ep:Nat} {od:TU} {es:Array DictEntry}
end
end PySem
namespace L2
open PySem PySem.Spec PyProof.Rows
section
variable {X:Cx} {e:SI} {te:TE}
end
end L2
namespace BB
open PySem L2
inductive Top where
 | nm (n:Rz) (m:Nat)
 | th (t:Th)
def bl:List Top->List Th
 | []=>[]
 | .nm n m::S=>.knot n ((bl S).take m)::(bl S).drop m
 | .th t::S=>t::bl S
def TopsOk:List Top->Prop
 | []=>True
 | .nm _ m::S=>m<=(bl S).length/\TopsOk S
 | .th _::S=>TopsOk S
theorem TopsOk.drop:∀ {l:List Top} (i:Nat),TopsOk l->TopsOk (l.drop i)
 | l,0,h=>by rw [Tt];exact h
 | [],i+1,h=>by rw [List.drop_nil];exact h
 | .nm n m::S,i+1,h=>by
   rw [TopsOk] at h;rw [List.drop_succ_cons];exact TopsOk.drop i h.2
 | .th t::S,i+1,h=>by
   rw [TopsOk] at h;rw [List.drop_succ_cons];exact TopsOk.drop i h
theorem qZ:∀ l:List Top,(bl l).length<=l.length
 | []=>Rq _
 | .nm n m::S=>by
   have:=qZ S;rw [bl,Rh,Rh,RJ];omega
 | .th t::S=>by
   have:=qZ S;rw [bl,Rh,Rh];omega
theorem At.same {H:Hp} {t:Th} {a p:Rk} {xs:List V} (h:At H t a) (ha:H a=some (.tup xs)) (hp:H p=some (.tup xs)):At H t p:=by
 cases t with
 | knot n ks =>
   rw [At] at h ⊢;obtain ⟨h0,as,h1,h2⟩:=h;rw [ha] at h1;exact ⟨h0,as,by rw [hp,<- h1],h2⟩
 | call s k =>
   rw [At] at h ⊢;rw [hp,<- ha,h]
mutual
def Th.fill (f:Int->Int->Th):Th->Th
 | .knot n ks=>.knot n (fills f ks)
 | .call s k=>f s k
def fills (f:Int->Int->Th):List Th->List Th
 | []=>[]
 | t::ts=>t.fill f::fills f ts
end
theorem jO (f:Int->Int->Th):∀ ts:List Th,(fills f ts).length=ts.length
 | []=>by rw [fills]
 | t::ts=>by rw [fills,Rh,Rh,jO f ts]
mutual
theorem kH:∀ t:Th,t.fill Th.call=t
 | .knot n ks=>by rw [Th.fill,qt ks]
 | .call s k=>by rw [Th.fill]
theorem qt:∀ ts:List Th,fills Th.call ts=ts
 | []=>by rw [fills]
 | t::ts=>by rw [fills,kH t,qt ts]
end
def eg (f:Int->Int->Th):Th->Top
 | .knot n ks=>.nm n ks.length
 | .call s k=>.th (f s k)
theorem ml (f:Int->Int->Th):∀ (n:Nat) (ts:List Th),aF ts<=n->∀ S,bl ((walks ts).map (eg f)++S)=fills f ts++bl S/\(TopsOk S->TopsOk ((walks ts).map (eg f)++S))
 | _,[],_,S=>by rw [walks,fills];exact ⟨rfl,fun h=>h⟩
 | 0,t::ts,hn,S=>by
   have:=t.size_pos;rw [aF] at hn;omega
 | n+1,t::ts,hn,S=>by
   have hs:=t.size_eq;rw [aF] at hn;have h2:=ml f n ts (by omega) S;have e:(walks (t::ts)).map (eg f)++S=eg f t::((walks t.kids).map (eg f)++((walks ts).map (eg f)++S)):=by rw [walks,t.walk_eq];simp
   have h1:=ml f n t.kids (by omega) ((walks ts).map (eg f)++S);rw [e];cases t with
   | knot nm ks =>
     simp only [Th.kids] at h1 ⊢;refine ⟨?_,fun hS=>?_⟩
     · show bl (.nm nm ks.length::_)=_;rw [bl,h1.1,h2.1,<- jO f ks,List.take_left,List.drop_left,fills,Th.fill];rfl
     · show TopsOk (.nm nm ks.length::_);rw [TopsOk];refine ⟨?_,h1.2 (h2.2 hS)⟩;rw [h1.1,Rm,jO];exact VD _ _
   | call s k =>
     simp only [Th.kids,walks,TY,Sn] at h1 ⊢;refine ⟨?_,fun hS=>?_⟩
     · show bl (.th (f s k)::_)=_;rw [bl,h2.1,fills,Th.fill];rfl
     · show TopsOk (.th (f s k)::_);rw [TopsOk];exact h2.2 hS
theorem oB (f:Int->Int->Th) (t:Th):bl (t.walk.map (eg f))=[t.fill f]/\TopsOk (t.walk.map (eg f)):=by
 have h:=ml f _ [t] (Rq _) [];have e:walks [t]=t.walk:=by simp [walks]
 rw [e,RP] at h;refine ⟨?_,h.2 (by rw [TopsOk];trivial)⟩;rw [h.1,fills,fills,bl];rfl
theorem At.width {H:Hp} {t:Th} {a:Rk} {xs:List V} (h:At H t a) (ha:H a=some (.tup xs)):xs.length<=t.size+2:=by
 cases t with
 | knot n ks =>
   rw [At] at h;obtain ⟨_,as,h1,h2⟩:=h;rw [ha] at h1;cases h1;have:=h2.length;have:=dG ks;rw [Rh,Rf,Th.size];omega
 | call s k =>
   rw [At] at h;rw [ha] at h;cases h;rw [Th.size];exact Rq _
end BB
namespace PySem
open Sem (wp)
end PySem
namespace L2
open PySem PySem.Spec PyProof.Rows BB
end L2
namespace BB
open PySem L2
theorem v7 {k:Nat} {A:Sf} (hr:L2.Room k A):A.units+150+2<WA:=by
 have:=hr.un;omega
end BB
namespace BB
open PySem L2
end BB
namespace BB
open PySem L2
end BB
namespace L2
open PySem PySem.Spec PySem.SeqAt PyProof.Rows BB
open Classical in
theorem uq {X:Cx} {pins:List (Rk×TU)} {σ:St} {H:Hp} {s:Rn} (I:Inv X pins σ H s) {ds es:List Dv} {vs ws:List V} {its Ah:List Rl} {A:Sf} (r1:Vals vs its) (r2:Vals ws Ah) (D7:DAts H ds vs) (B6:DAts H es ws) (hu:A.units+jj ds+2<WA) :
 ∀ j (h1:j<its.toArray.size) (h2:j<Ah.toArray.size),EqAt A.in1 s its.toArray[j] Ah.toArray[j] (decide (ds[j]?=es[j]?)):=by
 intro j h1 h2;have l1:its.length=ds.length:=by rw [<- r1.length,D7.length]
 have l2:Ah.length=es.length:=by rw [<- r2.length,B6.length]
 have BX:j<ds.length:=by rw [<- l1];simpa using h1
 have BE:j<es.length:=by rw [<- l2];simpa using h2
 have e1:ds[j]?=some ds[j]:=Rg BX;have e2:es[j]?=some es[j]:=Rg BE;obtain ⟨x',B1,dx⟩:=D7.at e1;obtain ⟨y',Gs,dy⟩:=B6.at e2;obtain ⟨u',Dm,Fb⟩:=r1.get B1;obtain ⟨v',Cu,Fc⟩:=r2.get Gs;have e3:decide (ds[j]?=es[j]?)=decide (ds[j]=es[j]):=by rw [e1,e2];simp
 have e4:its.toArray[j]=u':=by
  rw [Rg (by rw [l1];exact BX)] at Dm;simpa using Dm
 have e5:Ah.toArray[j]=v':=by
  rw [Rg (by rw [l2];exact BE)] at Cu;simpa using Cu
 rw [e3,e4,e5];have q2:=me e1;refine ss I _ ds[j] es[j] (Rq _) x' y' u' v' A.in1 dx dy Fb Fc ?_;show A.units+1+_<WA;omega
open Classical in
theorem qH {ds es:List Dv} (hl:ds.length=es.length):(Sw ds.length).all (fun j=>decide (ds[j]?=es[j]?))=decide (ds=es):=by
 by_cases h:ds=es
 · subst h;rw [decide_eq_true rfl];simp
 · rw [decide_eq_false h];refine S6.mpr fun z=>h (Vv fun j=>?_);by_cases hj:j<ds.length
   · exact of_decide_eq_true (Sl.mp z j (UK.mpr hj))
   · rw [SW (by omega),SW (by omega)]
def aaa (K:Ri) (B:Nat):R2:=fun x y H Q=>∃ a b vs ws ds es,x=.ref a/\y=.ref b/\SqL K H a vs/\SqL K H b ws/\DAts H ds vs/\DAts H es ws/\jj ds<=B/\∀ b:Bool,(b=true↔ds≠es)->Q (.bl b) H
open Classical in
theorem yt {X:Cx} {B:Nat} (hu:X.A.units+B+2<WA):OpR X (TH .NotEq) (aaa X.K B):=by
 intro pins s σ H x y v u Q I rx ry h;obtain ⟨a,b,vs,ws,ds,es,rfl,rfl,ha,hb,D7,B6,hB,q⟩:=h;cases rx;cases ry;obtain ⟨its,r1,p1,_⟩:=I.list ha;obtain ⟨Ah,r2,p2,_⟩:=I.list hb;have l1:its.length=ds.length:=by rw [<- r1.length,D7.length]
 have l2:Ah.length=es.length:=by rw [<- r2.length,B6.length]
 by_cases hl:ds.length=es.length
 · have Az:its.toArray.size=Ah.toArray.size:=by rw [Rt,Rt];omega
   refine RcNeAt.lists p1.isList p2.isList Az (by omega) (uq I r1 r2 D7 B6 (by omega)) X.prog X.w X.xe _ ?_
   have e:(Sw its.toArray.size).all (fun j=>decide (ds[j]?=es[j]?))=decide (ds=es):=by
    rw [Rt,l1];exact qH hl
   refine ⟨.bl (!decide (ds=es)),H,I,by rw [e];rfl,q _ ?_⟩;simp
 · refine RcNeAt.lists_lengths p1.isList p2.isList (by rw [Rt,Rt,l1,l2];simpa using hl) (by omega) X.prog X.w X.xe _ ⟨.bl true,H,I,rfl,q _ ?_⟩;exact ⟨fun _ z=>hl (by rw [z]),fun _=>rfl⟩
end L2
namespace BB
open PySem L2
end BB
namespace BB
open PySem L2
end BB
namespace L2
open PySem PySem.Spec PySem.SeqAt PyProof.Rows BB
end L2
namespace BB
open PySem L2
end BB
namespace BB
open PySem L2
end BB
namespace L2
open PySem PySem.Spec PyProof.Rows BB
end L2
namespace BB
open PySem L2
end BB
namespace BB
open PySem L2
end BB
namespace L2
open PySem PySem.Spec PySem.Calls PyProof.Rows PySem.W
structure iH (K:Frag) (C:Rk):Prop where
 exc:excIn K C [.type "ValueError",.type "Exception",.type "BaseException",.type "object"] "ValueError.__new__"=true
 ga:findIn K (.ref C) "__getattribute__"=some (some (.builtin "BaseException.__getattribute__"))
 gt:findIn K (.ref C) "__getattr__"=some none
 cl:findIn K (.ref C) "__class__"=some (some (.builtin "object.__class__"))
 mo:mroIn K C (.type "object")=some true
 mb:mroIn K C (.type "BaseException")=some true
section
variable {prog:RY} {w:Sj} {A:Sf} {E:Rl->Rn->Prop} {h:SR} {g:Array GenState} {d:Drawn} {t:Nat} {os:V7} {a C:Rk} {o:TU} {K:Frag}
open Builtin Builtin.ObjectAttr Builtin.Getset_descriptor in
theorem vG {R:WM->Rn->Prop} {tp:Rl} (X:K.In h) (hx:h.get? a=some o) (hc:o.cls=.ref C) (F:iH K C) (hq:R (.ok (.ret (.ref C))) ⟨h,g,d,t,os⟩) :
 Vn (RW prog w) A (.call (.builtin "getset_descriptor.__get__") ⟨[.builtin "object.__class__",.ref a,tp],[]⟩) R ⟨h,g,d,t,os⟩:=by
 have L0:Looks (RW prog w) h (typeOf (.ref a)) (.ref C):=hc ▸ (Looks.ld hx).andThen .now;have L1:=looks_mroIn (M:=RW prog w) X F.mo;refine W9 KF.slot_gs.plain KF.entry_gs (KF.slot_gs.check _ _ _ _ _ _ _ _ KF.type_class (KF.args_gs _ _ _) ?_);unfold Ws.«getset_descriptor.__get__» descrGet;rw [dga_obj];refine Rj (RF ?_);unfold descrGetter descrCheckInstance descrNameAndClass isInstance;simp only [KF.owner_class]
 repeat lk
 refine ⟨Code.quiet_builtin _ (by decide +kernel),WU KF.entry_class ?_⟩;unfold Ws.«object.__class__» shownTypeOf
 repeat lk
 exact hq
theorem qN {tk:Tok} {Q:Fin->Rn->Prop} (X:K.In h) (hx:h.get? a=some o) (hc:o.cls=.ref C) (F:iH K C) (hq:Q (.done (.ret (.ref C))) ⟨h,g,d,t,os⟩) :
 RL (RW prog w) A (Ws.«object.__getattribute__» ⟨[.ref a,.str "__class__" tk],[]⟩) Q E ⟨h,g,d,t,os⟩:=by
 have f5:=PySem.F.typeOf_object_class;have f6:=PySem.F.slot_gs_get.lookup;have f7:=PySem.F.slot_gs_set.lookup;have L1:=looks_findIn (M:=RW prog w) X F.cl
 repeat (any_goals (first | assumption | (with_reducible refine wpAny_loadPart_at hx ?_;rw [hc]) | with_reducible refine L1.at ?_ | wp_step))
 refine vG X hx hc F ?_
 repeat (any_goals (first | assumption | wp_step))
theorem rD {M:Model} {EF:Rl} {Q:Unit->Rn->Prop} (X:K.In h) (hx:h.get? a=some o) (hc:o.cls=.ref C) (F:iH K C) (hq:Q () ⟨h,g,d,t,os⟩) :
 RL M A (checkBuiltinCall "BaseException.__getattribute__" ⟨[.ref a,EF],[]⟩) Q E ⟨h,g,d,t,os⟩:=by
 have hk:builtinKind "BaseException.__getattribute__"=some .slot:=by decide +kernel
 have Fe:splitId "BaseException.__getattribute__"=some ("BaseException","__getattribute__"):=by decide +kernel
 have ha:=PySem.F.args_bexc_ga (.ref a) EF;have L0:Looks M h (typeOf (.ref a)) (.ref C):=hc ▸ (Looks.ld hx).andThen .now;have L1:=looks_mroIn (M:=M) X F.mb;simp only [checkBuiltinCall,hk,Fe];refine Rj ?_
 · unfold isInstance
   repeat (first | with_reducible refine L0.at ?_ | with_reducible refine L1.at ?_ | wp_step)
   exact hq
theorem tZ {tk:Tok} {R:WM->Rn->Prop} (X:K.In h) (hx:h.get? a=some o) (hc:o.cls=.ref C) (F:iH K C) (hq:R (.ok (.ret (.ref C))) ⟨h,g,d,t,os⟩) :
 Vn (RW prog w) A (.call (.builtin "BaseException.__getattribute__") ⟨[.ref a,.str "__class__" tk],[]⟩) R ⟨h,g,d,t,os⟩ :=
 W9 PySem.F.attr_ValueError.ga.plain PySem.F.entry_bexc_ga (rD X hx hc F (qN X hx hc F hq))
theorem wq {tk:Tok} {fill expr:Bool} {Q:Rl->Rn->Prop} (X:K.In h) (hx:h.get? a=some o) (hc:o.cls=.ref C) (F:iH K C) (hq:Q (.ref C) ⟨h,g,d,t,os⟩) :
 RL (RW prog w) A (getAttrBy (.ref a) (.str "__class__" tk) fill expr) Q E ⟨h,g,d,t,os⟩:=by
 have f3:=PySem.F.attr_ValueError.ga.bind (.ref a);have QL:(expr && onTheHeap (Wy "BaseException.__getattribute__"))=false:=by cases expr <;> rfl
 have GQ:(Wy "BaseException.__getattribute__" == Wy "object.__getattribute__")=false:=by decide +kernel
 have L6:(onTheHeap (SV C) && Wy "BaseException.__getattribute__" == Wy "object.__getattribute__")=false:=by rw [GQ];rfl
 have L1:=looks_findIn (M:=RW prog w) X F.ga;have L2:=looks_findIn (M:=RW prog w) X F.gt
 repeat (any_goals (first | assumption | (with_reducible refine wpAny_loadPart_at hx ?_;rw [hc]) | with_reducible refine L1.at ?_ | with_reducible refine L2.at ?_ | wp_step))
 refine tZ X hx hc F ?_
 repeat (any_goals (first | assumption | wp_step))
theorem tK {Q:Option Rl->Rn->Prop} (X:K.In h) (hx:h.get? a=some o) (hc:o.cls=.ref C) (F:iH K C) (hq:Q (some (.ref C)) ⟨h,g,d,t+1,os⟩) :
 RL (RW prog w) A (getAttr? (.ref a) "__class__") Q E ⟨h,g,d,t,os⟩:=by
 unfold getAttr? getAttrBy?
 repeat (any_goals (first | assumption | with_reducible apply wq X hx hc F | wp_step))
theorem uF (F:iH K C):KitX K (.ref a) (.ref C) (fun h=>∃ o,h.get? a=some o/\o.cls=.ref C) where
 ty:=fun _ _ _ ⟨_,hx,hc⟩=>hc ▸ (Looks.ld hx).andThen .now
 it:=fun _ _ X _=>by
  have hb:=F.mb;unfold mroIn clsIn at hb;split at hb
  · rename_i c' d' Oc Jl ho
    intro A' Q' E' s' k q;unfold isType loadHead;exact Rj (wpAny_loadPart (k _ _ (X _ _ ho)) (RF q))
  · cases hb
 ne:=fun h tp dd its n sl X EG=>by
  refine S6.mpr fun q=>?_;have e:C=tp:=Value.ref.inj (beq_iff_eq.mp q);subst e;have hb:=F.mb;unfold mroIn clsIn at hb;split at hb
  · rename_i c' d' Oc Jl ho
    have z:=(X _ _ ho).symm.trans EG;cases z
  · cases hb
 ca:=fun {_ _ _ _ _ s} X ⟨_,hx,hc⟩ k=>by obtain ⟨h,g,d,t,os⟩:=s;exact tK X hx hc F k
end
def yW:V->Rl
 | .ref D=>.ref D
 | .ty n=>.type n
 | _=>.none
def tY (K:Frag) (ea C:Rk):List V->Hp->VK->Prop:=fun xs H Q=>∃ v b,xs=[.ref ea,v]/\kitOne K (.ref C) (yW v)=some b/\Q (.bl b) H
theorem gb {X:Cx} {K:Frag} {ea C:Rk} {oe:TU} (hp:(ea,oe)∈X.pn) (hc:oe.cls=.ref C) (F:iH K C) (hK:X.K=K:=by rfl):ej X (.builtin "isinstance") (tY K ea C):=by
 subst hK;intro pins s σ H xs us Q I r h;obtain ⟨v,b,rfl,k,q⟩:=h;obtain ⟨u,w',rfl,r1,r2⟩:=vals2 r;cases (show u=SV ea from r1)
 have hv:w'=yW v:=by
  cases v with
  | ref D=>exact r2
  | ty n=>exact r2
  | non=>exact absurd k (by intro z;cases z)
  | bl _=>exact absurd k (by intro z;cases z)
  | int _=>exact absurd k (by intro z;cases z)
  | str _=>exact absurd k (by intro z;cases z)
  | byt _=>exact absurd k (by intro z;cases z)
  | flt _=>exact absurd k (by intro z;cases z)
 subst hv;have hx:=(I.pin (ea,oe) (Su _ hp)).1;exact kia_one (uF F) I.kIn ⟨oe,hx,hc⟩ k (fun z=>nomatch z) fun tk=>⟨.bl b,H,I.tok tk,rfl,q⟩
end L2
namespace L2
open PySem PySem.Spec PySem.Calls PyProof.Rows PySem.W
theorem ObjOk.there {P:RY} {w:Sj} {H:Hp} {h:SR} {a:Rk} {o:HO} (x:ObjOk P w H h a o):∃ ob,h.get? a=some ob:=by
 cases o with
 | lst xs=>obtain ⟨_,_,_,_,e⟩:=x;exact ⟨_,e⟩
 | tup xs=>obtain ⟨_,_,_,_,e⟩:=x;exact ⟨_,e⟩
 | dK AO=>obtain ⟨_,_,_,_,o,_,_,e,_⟩:=x;exact ⟨_,e⟩
 | dT AO=>obtain ⟨_,_,_,_,o,_,_,e,_⟩:=x;exact ⟨_,e⟩
 | set S n=>obtain ⟨o,_,_,_,e,_⟩:=x;exact ⟨_,e⟩
 | ins C dx fs=>obtain ⟨_,_,_,e,_⟩:=x;exact ⟨_,e⟩
 | own y=>obtain ⟨_,e⟩:=x;exact ⟨_,e⟩
 | xd fs=>obtain ⟨_,⟨_,_,_,e,_⟩,_⟩:=x;exact ⟨_,e⟩
 | rng lo hi=>obtain ⟨_,_,_,e⟩:=x;exact ⟨_,e⟩
 | frz ob u=>obtain ⟨e,_⟩:=x;exact ⟨_,e⟩
 | tbl ps=>exact ⟨_,(show h.get? a=some _ from x)⟩
 | met f y=>exact ⟨_,(show h.get? a=some _ from x)⟩
 | ext φ=>obtain ⟨_,⟨_,e⟩,_⟩:=x;exact ⟨_,e⟩
def CX1 (P:RY) (w:Sj):CXT:=fun outer H s E e s'=>∃ (ea C:Rk) (a0:Rl) (B:SR) (H':Hp),
 e=.ref ea/\s'.os=s.os/\W2 s'.gens/\Un (frs outer) [] H H' s.heap s'.heap/\HOk P w H' s'.heap/\Heap.FlyingW B outer ea (.ref C) a0 s'.heap ∧
 (∀ b o,s.heap.get? b=some o->b∉frs outer->∃ o',B.get? b=some o'/\(H b=none->o'=o))/\(∀ b u,H' b=some u->∃ o',B.get? b=some o')/\E (.ref C) none H'
theorem kT {P:RY} {w:Sj} {H':Hp} {B h h':SR} (hok:HOk P w H' h) (k1:B.StaysIn h) (k2:B.StaysIn h') (b2:∀ b u,H' b=some u->∃ o',B.get? b=some o'):HOk P w H' h':=fun a o e =>
 (hok a o e).stay (fun b u hb q=>by
  have ht:∃ v,H' b=some v:=by
   rcases hb with rfl | hb
   · exact ⟨_,e⟩
   · exact ⟨_,hb⟩
  obtain ⟨v,hv⟩:=ht;obtain ⟨o',Cd⟩:=b2 b v hv;have:=k1 b o' Cd;rw [q] at this;cases this;exact k2 b _ Cd) (fun _ q=>q) fun _ _ q=>q
theorem rV {fs:List Rk} {H H1 H':Hp} {h h1 h2 h':SR} {l:List Rk} {B:SR} (u1:Un fs [] H H1 h h1) (u2:Un l [] H1 H' h1 h2) (hl:∀ b o,h.get? b=some o->b∈l->b∈fs)
 (b1:∀ b o,h1.get? b=some o->b∉l->∃ o',B.get? b=some o'/\(H1 b=none->o'=o)) (st:B.StaysIn h') (up:h2.UpToSlots h')
 (hf:∀ b∈fs,H b=none/\∃ o,h.get? b=some o/\∀ vs,o.data≠.fields vs) :
 Un fs [] H H' h h'/\∀ b o,h.get? b=some o->b∉fs->∃ o',B.get? b=some o'/\(H b=none->o'=o):=by
 have nx:∀ b:Rk,b∉([]:List Rk):=fun b=>by simp
 have bb:∀ b o,h.get? b=some o->b∉fs->∃ o',B.get? b=some o'/\(H b=none->o'=o):=fun b o q nf=>by
  obtain ⟨o1,e1⟩:=u1.there b o q (nx b);obtain ⟨o',e',g⟩:=b1 b o1 e1 fun z=>nf (hl b o q z);refine ⟨o',e',fun n=>?_⟩;have:=u1.keep b o q n nf (nx b);rw [e1] at this;cases this;exact g (u1.free b _ q n (nx b))
 have sl:∀ b o,h.get? b=some o->H b=none->b∈fs->∃ sl,h'.get? b=some { o with slots:=sl }:=fun b o q n m=>by
  obtain ⟨s1,e1⟩:=u1.slot b o q n m (nx b);obtain ⟨s2,e2⟩:=u2.any e1 (u1.free b o q n (nx b)) (nx b);obtain ⟨_,o0,q0,nf⟩:=hf b m;rw [q] at q0;cases q0;obtain ⟨s3,e3⟩:=up b _ e2 nf;exact ⟨s3,e3⟩
 refine ⟨⟨fun b o q n nf _=>?_,fun b o q n m _=>sl b o q n m,fun b o q n _=>?_,fun b o q _=>?_,fun b xs q=>u2.tups b xs (u1.tups b xs q),fun b o u q=>u2.frzs b o u (u1.frzs b o u q),fun b ps q=>?_⟩,bb⟩
 · obtain ⟨o',e',g⟩:=bb b o q nf;rw [<- g n];exact st b o' e'
 · obtain ⟨o1,e1⟩:=u1.there b o q (nx b);exact u2.free b o1 e1 (u1.free b o q n (nx b)) (nx b)
 · by_cases m:b∈fs
   · obtain ⟨n,_⟩:=hf b m;obtain ⟨s3,e3⟩:=sl b o q n m;exact ⟨_,e3⟩
   · obtain ⟨o',e',_⟩:=bb b o q m;exact ⟨o',st b o' e'⟩
 · obtain ⟨m1,e1⟩:=u1.tbls b ps q;obtain ⟨m2,e2⟩:=u2.tbls b _ e1;exact ⟨m1++m2,by rw [e2,VY]⟩
section
variable {P:RY} {w:Sj} {K:Ri} {mg:Rz->Option Rl} {base:SR} {N:List Rz} {qual:Rz} {scope:UD} {f:Rk} {cd:Rl} {A:Sf} {outer:List WH} {s:Rn} {H:Hp} {E:XK}
theorem oZ {l:List WH} {env:WH} {L:Rk} (hf:env.frame=some L):frs (env::l)=L::frs l:=by unfold frs;rw [UJ,hf]
theorem cI:Passes (CX1 P w) (cz (CX1 P w) P w K mg base N qual scope f cd A outer s H E) E:=by
 intro pins σ H1 s1 e s2 I h;obtain ⟨ea,C,a0,B,H',rfl,Cg,Cn,un,hok,C9,b1,b2,q⟩:=h;show RL _ _ (leaving _ _) _ _ s2;refine wpAny_leaves_onW (E:=fun e' Gm=>CX1 P w outer H s E e' Gm) I.ok.frames rfl C9 fun h' Ff up=>?_
 obtain ⟨U,GR⟩:=rV (fs:=frs outer) (H:=H) (h:=s.heap) (l:=frs (Up qual scope s.heap.objs.size f cd::outer)) (B:=B) (h':=h') I.base un (fun b o hb z=>by
  rw [oZ (L:=s.heap.objs.size) rfl] at z;rcases RA.mp z with rfl | z
  · exact absurd (RG hb) (SE _)
  · exact z) b1 Ff.1 up (fun b hb=>⟨I.ok.frf b hb,(I.ok.funs.mem hb).2⟩)
 exact ⟨ea,C,a0,B,H',rfl,Cg.trans I.os,Cn,U,kT hok C9.1 Ff.1 b2,Ff,GR,b2,q⟩
def yl (te:TE) (C:Rk) (E:XK):TS:=fun _ σ H=>te σ H fun _ H1=>E (.ref C) none H1
theorem wR {h:SR} {C:Rk} {x:Rz} (X:K.In h) (F:iH K C) (hm:mg x=some (.ref C)):OwnCls x C [.type "ValueError",.type "Exception",.type "BaseException",.type "object"] "ValueError.__new__" mg h:=by
 have q:=F.exc;refine ⟨hm,?_⟩;unfold excIn at q;split at q
 · rename_i dd cd sl ho
   split at q
   · rename_i C' bm k0 k1 k2 k3 n k5 hm hs
     simp only [R5,beq_iff_eq,V2] at q;obtain ⟨⟨⟨⟨⟨rfl,rfl⟩,GS⟩,ht⟩,hok⟩,GU⟩:=q;obtain ⟨nm,bs,mro,ns,qn,hd,sn,sub,ab,col,del⟩:=cd;dsimp only at hm GS hok GU;subst hm GS
     have Dn:sl=#[k0,k1,k2,k3,some (.builtin "ValueError.__new__"),k5]:=by
      obtain ⟨l⟩:=sl;simp only at hs;rw [hs]
     subst Dn;exact ⟨bm,ns,nm,qn,bs,hd,sn,sub,ab,col,dd,k0,k1,k2,k3,k5,_,X _ _ ho,.of_isNs (isNs_of_in X hok),nsMap_none_of_in X hok GU,tail_of_in X ht⟩
   · cases q
 · cases q
theorem bF {C:Rk} {x:Rz} {e0:SI} {te:TE} {np A6 pos:Vw} (F:iH K C) (hm:mg x=some (.ref C)) (he:PE (cz (CX1 P w) P w K mg base N qual scope f cd A outer s H E) e0 te)
 (hx:(Up qual scope s.heap.objs.size f cd).kindOf x=some .globalImplicit:=by rfl)
 (AE:Sq [e0] (Up qual scope s.heap.objs.size f cd)=[(false,TZ e0 (Up qual scope s.heap.objs.size f cd))]:=by rfl) (hd:(x == ("__debug__":Rz))=false:=by decide) :
 PS (cz (CX1 P w) P w K mg base N qual scope f cd A outer s H E) (.Raise (some (.Call (.Name x np) [e0] [] A6)) none pos) (yl te C E):=by
 intro pins s1 σ H1 D I h;obtain ⟨tl,N',nm,q,bs,hdct,sn,sub,ab,col,dd,k0,k1,k2,k3,k5,mN,hC,hN,GU,T⟩:=(wR I.mod.kin F hm).obj
 refine wpAny_Raise_call_subT (C:=C) (nm:=nm) (q:=q) (N:=N') (bs:=bs) (bm:=tl) (hdct:=hdct) (sn:=sn) (sub:=sub) (ab:=ab) (col:=col) (dd:=dd) (k0:=k0) (k1:=k1) (k2:=k2) (k3:=k3) (k5:=k5)
  PySem.F.excBase_ValueError (mN:=mN) (T.hasType PySem.F.excBase_ValueError.hasBase) (I.ok.hd rfl) (by show (VI A6 (Sq [e0] (Up qual scope s.heap.objs.size f cd))).any (·.1)=false;rw [AE];rfl) GU (iY I hx hm ⟨rfl,?_⟩ hd)
 show RL _ _ (evalArgs _ true (VI A6 (Sq [e0] (Up qual scope s.heap.objs.size f cd))) []) _ _ _;rw [AE];refine UN (Tc (thn (he pins s1 σ H1 _ I h) fun v s2 ⟨y,H2,I2,r2,q2⟩=>UM ⟨rfl,by show 1<=RS;decide,I2.bk _ _ hC,hN.keeps I2.bk,T.keeps I2.bk,fun h' e hx=>?_⟩));show RL _ _ (leaving _ _) _ _ _;have FF:=I2.stack;have hl:∀ env∈Up qual scope s.heap.objs.size f cd::outer,∀ a,env.frame=some a->a∈frs (Up qual scope s.heap.objs.size f cd::outer):=fun env he a ha=>VX.mpr ⟨env,he,ha⟩;refine wpAny_leaves_madeW (base:=Vx s2.heap (frs (Up qual scope s.heap.objs.size f cd::outer))) (h:=s2.heap) I.ok.frames rfl (fun b o z=>of_hideAll _ z) (funFrames_hide FF hl) hx fun h2 t C9 tup tn up=>?_;have nf:∀ b u,H2 b=some u->b∉frs (Up qual scope s.heap.objs.size f cd::outer):=fun b u e z=>by rw [I2.stkFree b z] at e;cases e
 obtain ⟨U,GR⟩:=rV (fs:=frs outer) (H:=H) (H1:=H2) (H':=H2) (h:=s.heap) (h1:=s2.heap) (h2:=h') (l:=frs (Up qual scope s.heap.objs.size f cd::outer)) (B:=Vx s2.heap (frs (Up qual scope s.heap.objs.size f cd::outer))) (h':=h2) I2.base (Un.kept hx.keeps) (fun b o hb z=>by
  rw [oZ (L:=s.heap.objs.size) rfl] at z;rcases RA.mp z with rfl | z
  · exact absurd (RG hb) (SE _)
  · exact z) (fun b o hb z=>⟨o,hideAll_get _ hb z,fun _=>rfl⟩) C9.1 up (fun b hb=>⟨I.ok.frf b hb,(I.ok.funs.mem hb).2⟩)
 have b2:∀ b u,H2 b=some u->∃ o',(Vx s2.heap (frs (Up qual scope s.heap.objs.size f cd::outer))).get? b=some o':=fun b u e=>by
  obtain ⟨o,ho⟩:=(I2.hok b u e).there;exact ⟨o,hideAll_get _ ho (nf b u e)⟩
 exact ⟨e,C,.ref t,_,H2,rfl,I2.os,I2.bare,U,kT I2.hok (fun b o z=>of_hideAll _ z) C9.1 b2,C9,GR,b2,q2⟩
end
end L2
namespace L2
open PySem PySem.Spec PySem.Calls PyProof.Rows PySem.W
section
variable {X:Cx} {pins:List (Rk×TU)} {σ:St} {H:Hp} {s:Rn}
def Cx.tryB (X:Cx) (pins:List (Rk×TU)) (R:St->Rl->Hp->Prop):Cx:={ X with
 pn:=X.pn++pins
 xe:=fun e s'=>∃ AV H1 s1,Inv X pins AV H1 s1/\CX1 X.prog X.w X.stack H1 s1 (fun c _ H'=>R AV c H') e s' }
def Cx.suite (X:Cx) (ea:Rk) (oe:TU):Cx:={ X with
 A:=X.A.mark (some (.ref ea))
 calm:=false
 pn:=X.pn++[(ea,oe)]
 xe:=fun _ _=>False }
theorem Inv.tryB (I:Inv X pins σ H s) (R:St->Rl->Hp->Prop):Inv (X.tryB pins R) [] σ H s :=
 ⟨⟨I.ok.mod,I.ok.kind,I.ok.glob,I.ok.blt,I.ok.above,I.ok.inj,I.ok.has,I.ok.cab,I.ok.hd,I.ok.frames,I.ok.stk,I.ok.exf,I.ok.bs,I.ok.bsz,I.ok.noex,I.ok.exfs,I.ok.funs,I.ok.frf⟩,
   I.os,I.bare,I.base,I.loc,I.cell,I.free,I.freeC,fun p hp=>I.pin p (by simpa [Cx.tryB] using hp),I.hok,I.len⟩
theorem Inv.untryB {R:St->Rl->Hp->Prop} {Ax:List (Rk×TU)} (I:Inv (X.tryB pins R) Ax σ H s):Inv X pins σ H s :=
 ⟨⟨I.ok.mod,I.ok.kind,I.ok.glob,I.ok.blt,I.ok.above,I.ok.inj,I.ok.has,I.ok.cab,I.ok.hd,I.ok.frames,I.ok.stk,I.ok.exf,I.ok.bs,I.ok.bsz,I.ok.noex,I.ok.exfs,I.ok.funs,I.ok.frf⟩,
   I.os,I.bare,I.base,I.loc,I.cell,I.free,I.freeC,fun p hp=>I.pin p (Su _ hp),I.hok,I.len⟩
theorem Inv.suite {ea:Rk} {oe:TU} (I:Inv X pins σ H s) (h:s.heap.get? ea=some oe/\H ea=none/\ea≠X.env.locals/\ea∉X.fs/\∀ v,oe.data≠.cell v):Inv (X.suite ea oe) pins σ H s :=
 ⟨⟨I.ok.mod,I.ok.kind,I.ok.glob,I.ok.blt,I.ok.above,I.ok.inj,I.ok.has,I.ok.cab,(fun z=>nomatch z),I.ok.frames,I.ok.stk,I.ok.exf,I.ok.bs,I.ok.bsz,I.ok.noex,I.ok.exfs,I.ok.funs,I.ok.frf⟩,
   I.os,I.bare,I.base,I.loc,I.cell,I.free,I.freeC,fun p hp=>by
    have hp:p∈(X.pn++[(ea,oe)])++pins:=hp;rcases RN.mp hp with hp | hp
    · rcases RN.mp hp with hp | hp
      · exact I.pin p (Su _ hp)
      · obtain rfl:=RO.mp hp;exact h
    · exact I.pin p (RI _ hp),I.hok,I.len⟩
theorem Inv.unsuite {ea:Rk} {oe:TU} (I:Inv (X.suite ea oe) pins σ H s) (hd:X.calm=true->X.A.handled=none):Inv X pins σ H s :=
 ⟨⟨I.ok.mod,I.ok.kind,I.ok.glob,I.ok.blt,I.ok.above,I.ok.inj,I.ok.has,I.ok.cab,hd,I.ok.frames,I.ok.stk,I.ok.exf,I.ok.bs,I.ok.bsz,I.ok.noex,I.ok.exfs,I.ok.funs,I.ok.frf⟩,
   I.os,I.bare,I.base,I.loc,I.cell,I.free,I.freeC,fun p hp=>I.pin p (by
    show p∈(X.pn++[(ea,oe)])++pins;rcases RN.mp hp with hp | hp
    · exact Su _ (Su _ hp)
    · exact RI _ hp),I.hok,I.len⟩
theorem name_goes {M:Model} {A:Sf} {E:Rl->Rn->Prop} {i:Nat} {x:Rz} {pos:Vw} {Q:Unit->Rn->Prop} (I:Inv X pins σ H s) (hN:X.N.Nodup) (hi:X.N[i]?=some x) (hx:X.env.scope.names.lookup x=some .local)
 (h:∀ s',Inv X pins (σ.set i none) H s'->Q () s'):RL M A (do bindName X.env x .none;W6 X.env x pos) Q E s:=by
 have BF:(X.env.scope.kind == .class || (X.env.scope.kind == .module && X.env.locals != X.env.globals))=false:=by rw [I.ok.kind];rfl
 refine Rj (wpAny_bindName (dX (v:=.non) I hN hi (.inl hx) rfl (fun s1 I1=>?_) (.inr hx)));unfold W6;refine Wv (SA (E:=fun _ _=>False) ?_ (fun _ _ z=>z) fun _ _ z=>z.elim);obtain ⟨m,hn,hl⟩:=id I1.loc;have Cz:i<σ.length:=by rw [I.len];exact (Rv.mp hi).1
 obtain ⟨u,ru,lu⟩:=hl i x .non hi (TK Cz) (.inl hx)
 have hv:m x=some Te:=by
  rcases lu with ⟨_,e⟩ | ⟨k,_⟩
  · cases (show u=Te from ru);exact e
  · have B1:X.env.kindOf x=some .local:=hx;rw [B1] at k;rcases k with k | k <;> cases k
 refine wpAny_unbindName_local hx hn hv BF fun h' u' D2 hs=>?_;obtain ⟨oL,_,_,Ib,_⟩:=id hn;have FK:∀ b o,X.s₀.heap.get? b=some o->b≠X.env.locals:=fun b o e=>R7 (R6 (RG e) I.ok.above);refine h _ ⟨I1.ok,I1.os,I1.bare,⟨fun b o e n hb hx=>(hs.2 b (FK b o e)).trans (I1.base.keep b o e n hb hx),fun b o e n hb hx=>?_,I1.base.free,fun b o e hx=>?_,I1.base.tups,I1.base.frzs,I1.base.tbls⟩,⟨_,D2,fun j y v' e1 e2 e3=>?_⟩,fun y c e=>?_,I1.free,I1.freeC,fun p hp=>?_,?_,by simpa using I.len⟩
 · obtain ⟨sl,e1⟩:=I1.base.slot b o e n hb hx;exact ⟨sl,(hs.2 b (FK b o e)).trans e1⟩
 · obtain ⟨o',e1⟩:=I1.base.there b o e hx;exact ⟨o',(hs.2 b (FK b o e)).trans e1⟩
 · by_cases hj:j=i
   · subst hj;rw [TK Cz] at e2;cases e2
   · rw [T2 (UG hj)] at e2;obtain ⟨u2,r2,q2⟩:=hl j y v' e1 (by rw [T2 (UG hj)];exact e2) e3;refine ⟨u2,r2,?_⟩;rcases q2 with ⟨k,e⟩ | ⟨k,c,e,z⟩
     · refine .inl ⟨k,?_⟩;have:y≠x:=fun e=>hj (e9 hN e1 (e ▸ hi));simp [this,e]
     · exact .inr ⟨k,c,e,z.sameBut hs (I1.cne y c e)⟩
 · obtain ⟨w',z⟩:=I1.cell y c e;exact ⟨w',z.sameBut hs (I1.cne y c e)⟩
 · obtain ⟨e,n,ne,nf,d⟩:=I1.pin p hp;exact ⟨(hs.2 p.1 ne).trans e,n,ne,nf,d⟩
 · intro b ob e;refine (I1.hok b ob e).stay (fun c w' hc q=>(hs.2 c ?_).trans q) (fun _ q=>q) fun _ _ q=>q;rintro rfl;rcases hc with rfl | hc
   · rw [I1.free] at e;cases e
   · rw [I1.free] at hc;cases hc
end
structure Hit (K:Frag) (C Ch:Rk):Prop where
 exc:iH K C
 hit:exmOne K (.ref C) (.ref Ch)=some true
def Ends.as (D:Ends) (i:Nat):Ends:={ nx:=fun σ H=>D.nx (σ.set i none) H,rt:=D.rt,bk:=fun σ H=>D.bk (σ.set i none) H,ct:=fun σ H=>D.ct (σ.set i none) H }
def yE (K:Frag) (Ch:Rk) (i:Nat) (ts:Rk->Rk->TS) (D:Ends):St->Rl->Hp->Prop:=fun AV c H'=>∃ C,c=.ref C/\Hit K C Ch/\∀ ea,H' ea=none->ts ea C (D.as i) (AV.set i (some (.ref ea))) H'
def zC (K:Frag) (Ch:Rk) (i:Nat) (tb:(St->Rl->Hp->Prop)->TS) (ts:Rk->Rk->TS):TS:=fun D σ H=>tb (yE K Ch i ts D) D σ H
theorem SP.untryB {X:Cx} {pins:List (Rk×TU)} {R:St->Rl->Hp->Prop} {D:Ends} {f:Flow} {s':Rn} (h:SP (X.tryB pins R) [] D f s'):SP X pins D f s':=by
 cases f with
 | next=>obtain ⟨f',H',I,q⟩:=h;exact ⟨f',H',I.untryB,q⟩
 | brk=>obtain ⟨f',H',I,q⟩:=h;exact ⟨f',H',I.untryB,q⟩
 | cont=>obtain ⟨f',H',I,q⟩:=h;exact ⟨f',H',I.untryB,q⟩
 | ret u=>obtain ⟨v,f',H',I,r,q⟩:=h;exact ⟨v,f',H',I.untryB,r,q⟩
theorem tN {X:Cx} {Ch:Rk} {cx n:Rz} {i:Nat} {np Co pos:Vw} {body suite:List Tf} {b0:Tf} {tb:(St->Rl->Hp->Prop)->TS} {ts:Rk->Rk->TS}
 (hb:∀ pins R,PSs (X.tryB pins R) body (tb R)) (hs:∀ ea oe C,oe.cls=.ref C->iH X.K C->PSs (X.suite ea oe) (b0::suite) (ts ea C))
 (hN:X.N.Nodup) (hi:X.N[i]?=some n) (hn:X.env.scope.names.lookup n=some .local) (AE:X.stack=X.env::X.outer) (Il:X.env.frame=some X.env.locals) (hg:Gl X cx) (hm:X.mg cx=some (.ref Ch))
 (hd:(cx == ("__debug__":Rz))=false:=by decide) :
 PS X (.Try body [.ExceptHandler (some (.Name cx np)) (some n) (b0::suite) Co] [] [] pos) (zC X.K Ch i tb ts):=by
 intro pins s σ H D I h;refine wpAny_Try_except ?_;have BH:=hb pins (yE X.K Ch i ts D) [] s σ H D (I.tryB _) h;refine SA BH (fun f s1 q=>?_) fun e s1 q=>?_
 · have q':=SP.untryB q;cases f with
   | next=>exact UY q'
   | brk=>exact q'
   | cont=>exact q'
   | ret u=>exact q'
 · obtain ⟨AV,H1,s0,I1,ea,C,a0,B,H',rfl,Cg,Cn,un,hok,C9,b1,b2,C',JL,hit,q⟩:=q;cases JL;rw [AE] at C9;have JR:X.A.frames=some (X.env::X.outer):=by rw [<- AE];exact I1.ok.frames
   have inv:∀ (h6:SR) (tk:Nat),Heap.FlyingW B (X.env::X.outer) ea (.ref C) a0 h6->s1.heap.UpToSlots h6->Inv X pins AV H' { s1 with heap:=h6 }:=fun h6 tk BO up=>by
    obtain ⟨U,_⟩:=rV (fs:=frs X.stack) (H:=H1) (H1:=H1) (h:=s0.heap) (h1:=s0.heap) (h':=h6) (l:=frs X.stack) (B:=B) Un.refl un (fun b o _ z=>z) b1 BO.1 up (fun b hb=>⟨I1.stkFree b hb,(I1.stack.mem hb).2⟩);exact I1.call' (s':={ s1 with heap:=h6 }) (ch:=[]) Cg U (kT hok C9.1 BO.1 b2) Cn fun _ z=>nomatch z
   refine wpAny_looks_onW JR Il C9 fun h4 GV Od=>?_;refine wpAny_landsW GV fun h5 Fg JS=>?_;have GW:=Od.trans JS;have I5:=inv h5 0 Fg GW;obtain ⟨o5,Oe,Of⟩:=Fg.there;refine wpAny_handleBy_cons (codeAny_handlers_test ?_) (by intro q;cases q);have QM:Inv (X.wish X.xe) pins AV H' { s1 with heap:=h5 }:=I5;refine Wg I5.ok.kind hg (Calls.loadGlobal_global (by rw [I5.ok.glob];exact I5.mod.glob.keeps I5.bk) hm ?_) hd;refine (exm_one (M:=RW X.prog X.w) (h:=h5) I5.kIn (Of ▸ (Looks.ld Oe).andThen .now) hit.hit).here ?_;refine codeAny_handlers_suite_as ?_;refine lands_againW (s:={ s1 with heap:=h5 }) Fg fun h6 BO JT=>?_;have I6:=inv h6 0 BO (GW.trans JT);obtain ⟨oe,vs,D6,D4,L7,_⟩:=BO.first
   have EH:H' ea=none:=by
    cases z:H' ea with
    | none=>rfl
    | some u =>
      obtain ⟨o',Cd⟩:=b2 ea u z;rw [BO.2.1] at Cd;cases Cd
   have Cw:ea∉frs (X.env::X.outer):=fun z=>by
    obtain ⟨_,o,ho,nf⟩:=BO.2.2.1.mem z;rw [D6] at ho;cases ho;exact nf vs L7
   rw [oZ Il] at Cw;have IS:Inv (X.suite ea oe) pins AV H' { s1 with heap:=h6 }:=I6.suite ⟨D6,EH,fun z=>Cw (z ▸ Rr),fun z=>Cw (Rp _ z),fun v z=>by rw [L7] at z;cases z⟩;refine dX (X:=X.suite ea oe) (v:=.ref ea) IS hN hi (.inl hn) rfl (fun s7 I7=>?_) (.inr hn);refine SA (hs ea oe C D4 hit.exc pins s7 _ H' (D.as i) I7 (q ea EH)) (fun f s8 q8=>?_) fun _ _ z=>Tw z
   have fin:∀ {CD:St} {H8:Hp} {Q:Unit->Rn->Prop},Inv (X.suite ea oe) pins CD H8 s8->(∀ s9,Inv X pins (CD.set i none) H8 s9->Q () s9)->RL (RW X.prog X.w) X.A (do bindName X.env n .none;W6 X.env n Co) Q X.xe s8:=fun {CD H8 Q} J k =>
    name_goes (J.unsuite I1.ok.hd) hN hi hn k
   cases f with
   | next=>obtain ⟨CD,H8,J,q⟩:=q8;exact fin J fun s9 J9=>⟨_,H8,J9,q⟩
   | brk=>obtain ⟨CD,H8,J,q⟩:=q8;exact fin J fun s9 J9=>⟨_,H8,J9,q⟩
   | cont=>obtain ⟨CD,H8,J,q⟩:=q8;exact fin J fun s9 J9=>⟨_,H8,J9,q⟩
   | ret u=>obtain ⟨v,CD,H8,J,r,q⟩:=q8;exact fin J fun s9 J9=>⟨v,_,H8,J9,r,q⟩
end L2
namespace L2
open PySem PySem.Spec PySem.Calls PyProof.Rows PySem.W
section
variable {P:RY} {w:Sj} {K:Ri} {mg:Rz->Option Rl} {base:SR}
theorem Fun.ok1 {x qual:Rz} {st:Tf} {f:Rk} {fd:Uk} {N ps:List Rz} {k:Nat} {sp:Sp} (F:Fun K x qual st f fd) (S:az N ps (al st)) (len:∀ vs H Q E,sp vs H Q E->vs.length=ps.length)
 (BH:∀ (Al:Rl) (A:Sf) (outer:List WH) (s:Rn) (H:Hp) (vs:List V) (Q:VK) (E:XK),Room k (A.deeper (Up qual (al st) s.heap.objs.size f Al))->sp vs H Q E →
  ∃ t,PSs (cz (CX1 P w) P w K mg base N qual (al st) f Al A outer s H E) (bA st) t/\t { nx:=fun _ H'=>Q .non H',rt:=Q } (start N vs) H):FnOk P w K mg base (CX1 P w) (k+1) f fd ps sp:=by
 obtain ⟨oc,od,kV,doc,pm,an,Al,ct,Eh,rfl,lk,C4⟩:=F.ex;exact xx lk C4 S len fun A outer s H vs Q E hr Ca=>BH Al A outer s H vs Q E hr Ca
end
def ux (sp:Sp) (Bw:List V) (R:St->Rl->Hp->Prop) (t:TA):TE:=fun σ H Q=>t σ H fun vs H1=>sp (vs++Bw) H1 Q fun c _ H'=>R σ c H'
theorem uQ {X:Cx} {pins:List (Rk×TU)} {R:St->Rl->Hp->Prop} {k:Nat} {f:Rk} {fd:Uk} {ps:List Rz} {sp:Sp} {Bw:List V} {ds:List Rl} {x:Rz} {p pos:Vw} {e:SI} {es:List SI} {t:TA}
 (F:FnOk X.prog X.w X.K X.mg X.base (CX1 X.prog X.w) k f fd ps sp) (hr:Room k X.A) (hg:Gl X x) (hm:X.mg x=some (.ref f)) (hk:T1 X.K (.ref f)=true) (hb:Binds X.K fd ps ds) (hd:Vals Bw ds)
 (ha:PA (X.tryB pins R) (e::es) t) (Dx:(x == ("__debug__":Rz))=false:=by decide) (he:Sq (e::es) X.env=(false,TZ e X.env)::Sq es X.env:=by rfl) (A9:(VI pos (Sq es X.env)).any (·.1)=false:=by rfl) :
 PE (X.tryB pins R) (.Call (.Name x p) (e::es) [] pos) (ux sp Bw R t):=by
 intro Ax s σ H Q I h;refine T3 (iY I hg hm ?_ Dx);refine WW (h₀:=X.base) I.ok.mod.kin hk (thn (ha pos Ax s σ H _ I h) fun us s1 ⟨vs,H1,I1,r,q⟩=>⟨I1.kIn,?_⟩) he A9;have r2:Vals (vs++Bw) (us++ds):=r.append hd;have hl:(us++ds).length=ps.length:=by rw [<- r2.length];exact F.len _ _ _ _ q
 refine wpAny_call (Vm (F.run X.A X.stack s1 H1 ⟨us,[]⟩ (us++ds) (vs++Bw) Q _ hr I1.env0 (hb s1 us I1.kIn hl) r2 q) fun r s' hq=>?_);cases r with
 | error e=>exact ⟨σ,H1,s1,I1.untryB,hq⟩
 | ok fl =>
   cases fl with
   | ret u=>exact I1.after hq
   | next=>exact Tw hq
   | brk=>exact Tw hq
   | cont=>exact Tw hq
theorem tR {K:Frag} {Ch:Rk} {i:Nat} {tb:(St->Rl->Hp->Prop)->TS} {ts:Rk->Rk->TS} {D:Ends} {σ:St} {H:Hp} (R:St->Rl->Hp->Prop) (h1:∀ R':St->Rl->Hp->Prop,(∀ AV c H',R AV c H'->R' AV c H')->tb R' D σ H)
 (h2:∀ AV c H',R AV c H'->yE K Ch i ts D AV c H'):zC K Ch i tb ts D σ H:=h1 _ h2
theorem eW {X:Cx} {ea:Rk} {oe:TU}:(ea,oe)∈(X.suite ea oe).pn:=RI _ (RO.mpr rfl)
end L2
namespace L2
open PySem PySem.Spec PySem.Calls PyProof.Rows PySem.SeqAt
theorem ir {k:Nat} {A:Sf} (hr:Room k A):A.units+2<WA:=by
 have:=hr.units;omega
def zK (K:Ri):R2:=fun x y H Q=>∃ (a b:Rk) (bs cs:List Bool),x=.ref a/\y=.ref b/\SqL K H a (bs.map V.bl)/\SqL K H b (cs.map V.bl)/\Q (.bl (bs == cs)) H
theorem sN {bs:List Bool} {us:List Rl} (r:Vals (bs.map V.bl) us):us=bs.map UO:=by
 induction bs generalizing us with
 | nil=>cases r;rfl
 | cons b bs ih =>
   cases r with
   | cons r1 r2 =>
     rw [ih r2];cases (show _=UO b from r1);rfl
theorem wN {bs cs:List Bool} (hl:bs.length=cs.length):(Sw bs.length).all (fun j=>(bs.getD j false == cs.getD j false))=(bs == cs):=by
 induction bs generalizing cs with
 | nil=>cases cs with
   | nil=>rfl
   | cons c cs=>cases hl
 | cons b bs ih=>cases cs with
   | nil=>cases hl
   | cons c cs =>
     rw [Rh,List.range_succ_eq_map,VG,Xk];show ((b == c) && _)=_;have:=ih (cs:=cs) (by simpa using hl);rw [List.cons_beq_cons,<- this];rfl
theorem wG {X:Cx} (hu:X.A.units+2<WA):OpR X (TH .Eq) (zK X.K):=by
 intro pins s σ H x y v u Q I rx ry h;obtain ⟨a,b,bs,cs,rfl,rfl,ha,hb,q⟩:=h;cases rx;cases ry;obtain ⟨its,r1,p1,_⟩:=I.list ha;obtain ⟨Ah,r2,p2,_⟩:=I.list hb;have e1:=sN r1;have e2:=sN r2;subst e1 e2;by_cases hl:bs.length=cs.length
 · have Az:(bs.map UO).toArray.size=(cs.map UO).toArray.size:=by simp [hl]
   refine RcAt.lists (e:=fun j=>(bs.getD j false == cs.getD j false)) p1.isList p2.isList Az (by omega) (fun j h1 h2=>?_) X.prog X.w X.xe _ ?_
   · have BX:j<bs.length:=by simpa using h1
     have BE:j<cs.length:=by simpa using h2
     have z1:bs.getD j false=bs[j]:=by simp [List.getD,BX]
     have z2:cs.getD j false=cs[j]:=by simp [List.getD,BE]
     have y1:(bs.map UO).toArray[j]=UO bs[j]:=by simp
     have y2:(cs.map UO).toArray[j]=UO cs[j]:=by simp
     rw [z1,z2,y1,y2];exact EqAt.bool_bool _ _
   · refine ⟨.bl (bs == cs),H,I,?_,q⟩;rw [<- wN hl];simp;rfl
 · refine RcAt.lists_lengths p1.isList p2.isList (by simpa using hl) (by omega) X.prog X.w X.xe _ ⟨.bl (bs == cs),H,I,?_,q⟩;have:(bs == cs)=false:=beq_eq_false_iff_ne.mpr fun z=>hl (by rw [z]);rw [this];rfl
end L2
namespace L2
open PySem PySem.Spec PySem.Calls PyProof.Rows
def Its (x:Rz):It:=⟨fun i _=>i<x.cps.size,fun i H v H'=>H'=H/\∃ c,x.cps[i]?=some c/\v=.str ⟨#[c]⟩,fun i _=>x.cps.size=i⟩
theorem mi {P:RY} {w:Sj} {K:Ri} {tg:SI} (x:Rz) (t:Tok) (it:Rk):Turn P w K tg (Its x) [it] it (fun i h=>h.IsStrIter it "str_ascii_iterator" x t i) where
 mem:=by simp
 obj:=fun i h st b hb=>by
  have e:b=it:=by simpa using hb
  subst e;obtain ⟨o,e,c,d⟩:=st;exact ⟨o,e,fun v z=>by rw [d] at z;cases z⟩
 keep:=fun i h h' st k=>let ⟨o,ho,r⟩:=st;⟨o,k it (by simp) o ho,r⟩
 item:=by
  intro X hP hw hK hc i pins s σ H E I hf st hg;subst hP hw hK;obtain ⟨f0,f1,f2,f3,f4,f5⟩:=hf it (by simp);have hg:i<x.cps.size:=hg;refine wpAny_pyNext_ascii_item st (c:=x.cps[i]) (by simp [hg]) fun h' Bz sb=>?_;have I1:Inv X pins σ H { s with heap:=h',toks:=s.toks+1 }:=I.turned (fun b o hb e=>(sb.2 b hb).trans e) f0 f1 f3 f4 f5;obtain ⟨o,e,c,d⟩:=id Bz;exact ⟨_,rfl,lm (s:={ s with heap:=h',toks:=s.toks+1 }) e c d (by decide) ⟨.str ⟨#[x.cps[i]]⟩,H,I1,⟨_,rfl⟩,⟨rfl,_,by simp [hg],rfl⟩,Bz,fun b hb=>(hf b hb).1⟩⟩
 done:=by
  intro X hP hw hK hc i pins s σ H E I hf st hg;subst hP hw hK;obtain ⟨f0,f1,f2,f3,f4,f5⟩:=hf it (by simp);have hg:x.cps.size=i:=hg;exact wpAny_pyNext_ascii_end (I.ok.hd hc) st (by simp [<- hg]) fun h' eb=>⟨rfl,I.turned (t':=s.toks) (fun b o hb e=>eb b o hb e) f0 f1 f3 f4 f5⟩
 self:=fun _ _ _ _ _ st h=>wpAny_pyIter_striter_ascii st h
theorem uf {P:RY} {w:Sj} {K:Ri} {tg:SI} (x:Rz) (t:Tok) (it:Rk):Turn P w K tg (Its x) [it] it (fun i h=>h.IsStrIter it "str_iterator" x t i) where
 mem:=by simp
 obj:=fun i h st b hb=>by
  have e:b=it:=by simpa using hb
  subst e;obtain ⟨o,e,c,d⟩:=st;exact ⟨o,e,fun v z=>by rw [d] at z;cases z⟩
 keep:=fun i h h' st k=>let ⟨o,ho,r⟩:=st;⟨o,k it (by simp) o ho,r⟩
 item:=by
  intro X hP hw hK hc i pins s σ H E I hf st hg;subst hP hw hK;obtain ⟨f0,f1,f2,f3,f4,f5⟩:=hf it (by simp);have hg:i<x.cps.size:=hg;refine wpAny_pyNext_wide_item st (c:=x.cps[i]) (by simp [hg]) fun h' Bz sb=>?_;have I1:Inv X pins σ H { s with heap:=h',toks:=s.toks+1 }:=I.turned (fun b o hb e=>(sb.2 b hb).trans e) f0 f1 f3 f4 f5;obtain ⟨o,e,c,d⟩:=id Bz;exact ⟨_,rfl,lm (s:={ s with heap:=h',toks:=s.toks+1 }) e c d (by decide) ⟨.str ⟨#[x.cps[i]]⟩,H,I1,⟨_,rfl⟩,⟨rfl,_,by simp [hg],rfl⟩,Bz,fun b hb=>(hf b hb).1⟩⟩
 done:=by
  intro X hP hw hK hc i pins s σ H E I hf st hg;subst hP hw hK;obtain ⟨f0,f1,f2,f3,f4,f5⟩:=hf it (by simp);have hg:x.cps.size=i:=hg;exact wpAny_pyNext_wide_end (I.ok.hd hc) st (by simp [<- hg]) fun h' eb=>⟨rfl,I.turned (t':=s.toks) (fun b o hb e=>eb b o hb e) f0 f1 f3 f4 f5⟩
 self:=fun _ _ _ _ _ st h=>wpAny_pyIter_striter_wide st h
def aai (tl:TE):TI:=fun σ H R=>tl σ H fun v H1=>∃ x,v=.str x/\R (Its x) H1
theorem v3 {X:Cx} {tg l:SI} {tl:TE} (hl:PE X l tl):PI X tg l (aai tl):=by
 intro pins s σ H R I h;refine thn (hl pins s σ H _ I h) fun v s1 ⟨y,H1,I1,r1,q1⟩=>?_;obtain ⟨x,rfl,q⟩:=q1;obtain ⟨t,rfl⟩:=r1
 have fp:∀ b∈[s1.heap.objs.size],eQ X pins H1 b:=fun b hb=>by
  have e:b=s1.heap.objs.size:=by simpa using hb
  subst e;exact I1.fpOk (Rq _) (I1.hok.fresh (Rq _))
 cases ha:x.cps.all (·<128)
 · refine wpAny_pyIter_wide ha ?_;exact ⟨s1.heap.objs.size,[s1.heap.objs.size],_,_,H1,rfl,I1.kept (t':=s1.toks) fun b o e=>Ro _ e,uf x t _,⟨_,RD _ rfl,rfl,rfl⟩,fp,q⟩
 · refine wpAny_pyIter_ascii ha ?_;exact ⟨s1.heap.objs.size,[s1.heap.objs.size],_,_,H1,rfl,I1.kept (t':=s1.toks) fun b o e=>Ro _ e,mi x t _,⟨_,RD _ rfl,rfl,rfl⟩,fp,q⟩
end L2
namespace BB
open PySem
def dn (zs:List Rz):Nat->Nat
 | 0=>0
 | i+1=>if zs.getD i default∈zs.take i then dn zs i else dn zs i+1
theorem uY (zs:List Rz):∀ i,dn zs i<=i
 | 0=>Rq _
 | i+1=>by
   have:=uY zs i;rw [dn];split <;> omega
theorem take_succ_get {zs:List Rz} {i:Nat} (h:i<zs.length):zs.take (i+1)=zs.take i++[zs.getD i default]:=by
 rw [List.take_succ_eq_append_getElem h];congr 2;simp [List.getD,h]
theorem pQ (zs:List Rz):∀ i,i<=zs.length->(dn zs i=i↔(zs.take i).Nodup)
 | 0,_=>by simp [dn]
 | i+1,h=>by
   have ih:=pQ zs i (by omega);have hle:=uY zs i;rw [take_succ_get (by omega),dn,Xj];by_cases hm:zs.getD i default∈zs.take i
   · rw [if_pos hm];constructor
     · intro z;omega
     · intro z;exact absurd rfl (z.2.2 _ hm _ (RO.mpr rfl))
   · rw [if_neg hm];constructor
     · intro z;refine ⟨ih.mp (by omega),Tv.mpr ⟨by simp,VW⟩,fun a ha b hb=>?_⟩;rw [RO.mp hb];rintro rfl;exact hm ha
     · intro z;have:=ih.mpr z.1;omega
end BB
namespace L2
open PySem PySem.Spec PySem.Calls PyProof.Rows BB
section
variable {prog:RY} {w:Sj} {A:Sf} {R:WM->Rn->Prop}
theorem oY {l I S:Rk} {items:Array Rl} {zs:List Rz} (hh:A.in1.handled=none) (Am:l≠I) (JU:S≠I) (JV:S≠l) (hi:∀ (i:Nat) (v:Rl),items[i]?=some v->∃ t,v=.str (zs.getD i default) t) (hlen:zs.length=items.size) (hb:items.size+1<scanBound) :
 ∀ (k i:Nat) (s:Rn),items.size - i=k->i<=items.size->s.heap.IsListIter I l i->s.heap.IsList l items->s.heap.SetOf (strKind prog w) S (fun x=>decide (x∈zs.take i)) (dn zs i) →
   (∀ h' tk,(∀ b o,b≠S->b≠I->s.heap.get? b=some o->h'.get? b=some o)->h'.SetOf (strKind prog w) S (fun x=>decide (x∈zs)) (dn zs zs.length)->R (.ok (.ret .none)) { s with heap:=h',toks:=tk }) →
   Vn (RW prog w) A (.builtin "set.update.loop" ⟨[.ref S,.ref I],[]⟩) R s:=by
 intro k;induction k with
 | zero =>
   intro i s hk JW AE hl hS hR;have Gz:i=items.size:=by omega
   subst Gz;refine WU WO ?_;rw [Around.under_plainId Va _];show RL _ A.in1 (W8 (.ref I) >>= _) _ _ s;refine Rj (wpAny_pyNext_list_end hh AE hl (by simp) fun h' eb=>?_);show RL _ A.in1 (ret Te) _ _ _;refine RF (hR h' s.toks (fun b o _ Im e=>eb b o Im e) ?_);obtain ⟨o,es,ep,t,ho,rest⟩:=hS;rw [<- hlen,U6] at rest;exact ⟨o,es,ep,t,eb S o JU ho,rest⟩
 | succ k ih =>
   intro i s hk JW AE hl hS hR;have AH:i<items.size:=by omega
   refine WU WO ?_;rw [Around.under_plainId Va _];show RL _ A.in1 (W8 (.ref I) >>= _) _ _ s;have B7:items[i]?=some items[i]:=by simp [AH]
   refine Rj (wpAny_pyNext_list_item AE hl B7 fun h' Bz sb=>?_);obtain ⟨t,ht⟩:=hi i _ B7;rw [ht];have CO:h'.IsList l items:=let ⟨o,e,r⟩:=hl;⟨o,(sb.2 l Am).trans e,r⟩
   have A7:h'.SetOf (strKind prog w) S (fun x=>decide (x∈zs.take i)) (dn zs i):=by
    obtain ⟨o,es,ep,tb,ho,rest⟩:=hS;exact ⟨o,es,ep,tb,(sb.2 S JU).trans ho,rest⟩
   show RL _ A.in1 (holding [Value.str (zs.getD i default) t] (setAdd S (.str (zs.getD i default) t)) >>= _) _ _ _;refine Rj (Uo ?_);unfold setAdd;refine Uo ?_;refine Rj ((strKind prog w).pyHash (k:=zs.getD i default) (strKind_is _ _ _ _) ?_);have GX:dn zs i+1<scanBound:=by have:=uY zs i;omega
   refine wpAny_setAddHashed_of (knd:=strKind prog w) (strKind_is _ _ _ _) rfl A7 GX fun h2 CC FR=>?_
   have D8:h2.SetOf (strKind prog w) S (fun x=>decide (x∈zs.take (i+1))) (dn zs (i+1)):=by
    refine PyProof.Rows.SetOf_congr FR (fun x=>?_) ?_
    · rw [take_succ_get (by omega)];simp
    · rw [dn];by_cases hm:zs.getD i default∈zs.take i
      · rw [if_pos hm,if_pos (by simpa using hm)]
      · rw [if_neg hm,if_neg (by simpa using hm)]
   have Eg:h2.IsListIter I l (i+1):=let ⟨o,e,r⟩:=Bz;⟨o,(CC.2 I (UG JU)).trans e,r⟩
   have AG:h2.IsList l items:=let ⟨o,e,r⟩:=CO;⟨o,(CC.2 l (UG JV)).trans e,r⟩
   refine RF ⟨plainId_quiet Va _,ih (i+1) _ (by omega) AH Eg AG D8 fun h4 tk k4 S4=>?_⟩;exact hR h4 tk (fun b o L8 Im e=>k4 b o L8 Im ((CC.2 b L8).trans ((sb.2 b Im).trans e))) S4
end
end L2
namespace PySem
section
variable {prog:RY} {w:Sj} {A:Sf} {E:Rl->Rn->Prop} {s:Rn}
set_option maxHeartbeats 3200000 in
theorem bb_set_strs {l:Rk} {items:Array Rl} {zs:List Rz} {Q:Rl->Rn->Prop} (hh:A.handled=none) (hl:s.heap.IsList l items) (hi:∀ (i:Nat) (v:Rl),items[i]?=some v->∃ t,v=.str (zs.getD i default) t) (hlen:zs.length=items.size) (hb:items.size+1<scanBound)
 (h:∀ (h':SR) (tk:Nat),h'.SetOf (strKind prog w) s.heap.objs.size (fun x=>decide (x∈zs)) (BB.dn zs zs.length)->(∀ b o,b<s.heap.objs.size->s.heap.get? b=some o->h'.get? b=some o)->Q (.ref s.heap.objs.size) { s with heap:=h',toks:=tk }) :
 RL (RW prog w) A (call (.type "set") [.ref l]) Q E s:=by
 obtain ⟨c,tl,Og⟩:=Vo.mro;have L9:=Vo.made;have Bs:=Vo.sub;have h1:=Vo.notType;have h2:=Vo.canCreate;have FT:=F.typeCall_set_1 (.ref l);refine wpAny_call (codeAny_of_tree ?_);show RL _ _ (callAny (.type "set") _) _ _ _;refine RF ⟨Code.quiet_builtin _ (by decide +kernel),WU F.entry_type_call ?_⟩;rw [Around.under_plain (weight_type_call_type "set" [.ref l] []) rfl]
 repeat (any_goals (first | assumption | wp_step))
 refine Vm (code_set_new_1 (.ref l) (E:=E) (Q₁:=fun obj Ab=>∃ led:Bool,obj=.ref s.heap.objs.size/\Ab={ s with heap:=s.heap.push { cls:=.type "set",dict:=none,data:=.set #[] 0 (.fresh 0 0 led) } }) fun led=>⟨led,rfl,rfl⟩) fun r Ab hr=>?_;cases r with
 | error e=>exact hr
 | ok fl =>
   cases fl with
   | next=>exact hr.elim
   | brk=>exact hr.elim
   | cont=>exact hr.elim
   | ret obj =>
     obtain ⟨led,rfl,rfl⟩:=hr;have hS:(s.heap.push { cls:=.type "set",dict:=none,data:=.set #[] 0 (.fresh 0 0 led) }).get? s.heap.objs.size=some { cls:=.type "set",dict:=none,data:=.set #[] 0 (.fresh 0 0 led) }:=RD _ rfl;have hT:Shared.TypeIs { s with heap:=s.heap.push { cls:=.type "set",dict:=none,data:=.set #[] 0 (.fresh 0 0 led) } } (.ref s.heap.objs.size) "set":=⟨_,hS,rfl⟩;have Oh:=Vo.init.lookup;have Io:=Vo.init.bind (.ref s.heap.objs.size)
     repeat (any_goals (first | assumption | wp_step))
     refine Vm (W9 (R:=wants (fun r Bj=>r=.none/\∃ h' tk,Bj={ s with heap:=h',toks:=tk }/\h'.SetOf (strKind prog w) s.heap.objs.size (fun x=>decide (x∈zs)) (BB.dn zs zs.length) ∧
      (∀ b o,b<s.heap.objs.size->s.heap.get? b=some o->h'.get? b=some o)) E) Vo.init.plain F.entry_set_init (check_set_init_1 hT ?_)) fun JX Bj Cp=>?_
     · obtain ⟨ol,D9,Bo,nl,GY⟩:=hl;obtain ⟨Oi,GZ,L',Fh⟩:=ol;simp only at Bo GY;subst Bo;subst GY;have Ma:l<s.heap.objs.size:=RG D9;have JY:(s.heap.push { cls:=.type "set",dict:=none,data:=.set #[] 0 (.fresh 0 0 led) }).get? l=some { cls:=.type "list",dict:=GZ,data:=.seq items nl,slots:=Fh }:=Ro _ D9;have Oj:=F.sub_list_set;have Ol:=F.sub_list_frozenset;have Om:(Value.type "list" == Value.type "dict")=false:=by decide
       have AA:(s.heap.push { cls:=.type "set",dict:=none,data:=.set #[] 0 (.fresh 0 0 led) }).IsList l items:=⟨_,JY,rfl,nl,rfl⟩;unfold Ws.«set.__init__» noKeywords Builtin.Frozenset.updateFrom;generalize Oo:pyIter=PI
       wp_walk
       subst Oo;refine Wl AA ?_;refine Rj (wpAny_runValue ?_);have Az:(s.heap.push { cls:=.type "set",dict:=none,data:=.set #[] 0 (.fresh 0 0 led) }).objs.size=s.heap.objs.size+1:=TC ..;refine L2.oY (l:=l) (zs:=zs) (items:=items) (by simp [hh]) (by rw [Az];exact R7 (Tp Ma)) (by rw [Az];exact R7 (U4 _)) (Uc Ma) hi hlen hb (items.size - 0) 0 _ (by omega) (Sk _) ⟨_,RD _ rfl,rfl,rfl⟩ (AA.push _) ?_ ?_
       · have B7:((s.heap.push { cls:=.type "set",dict:=none,data:=.set #[] 0 (.fresh 0 0 led) }).push { cls:=.type "list_iterator",data:=.fields #[.ref l,.int 0 0] }).get? s.heap.objs.size=some { cls:=.type "set",dict:=none,data:=.set #[] 0 (.fresh 0 0 led) }:=Ro _ hS;exact PyProof.Rows.SetOf_congr ((PyProof.Rows.setObjOf_fresh (knd:=strKind prog w) led).setOf B7 (by unfold scanBound;omega)) (fun x=>by simp) rfl
       · intro h' tk kk S';show RL _ _ _ _ _ _;refine RF ?_;show RL _ _ (ret Te) _ _ _;refine RF ⟨rfl,h',tk,rfl,S',fun b o BC e=>?_⟩;exact kk b o (R7 BC) (by rw [Az];exact R7 (Tp BC)) (Ro _ (Ro _ e))
     · cases JX with
       | error e=>exact Cp
       | ok G0 =>
         cases G0 with
         | ret r =>
           obtain ⟨rfl,h',tk,rfl,A7,BP⟩:=Cp
           repeat (any_goals (first | assumption | wp_step))
           exact h _ _ A7 BP
         | next=>exact Cp.elim
         | brk=>exact Cp.elim
         | cont=>exact Cp.elim
end
end PySem
namespace L2
open PySem PySem.Spec PySem.Calls PyProof.Rows BB
def wD (P:RY) (w:Sj) (a:Rk) (zs:List Rz) (h:SR):Prop:=h.SetOf (strKind P w) a (fun x=>decide (x∈zs)) (dn zs zs.length)
theorem tm {X:Cx} (hc:X.calm=true):ej X (.type "set") (fun xs H Q=>∃ p zs,xs=[.ref p]/\SqL X.K H p (zs.map V.str)/\zs.length<=4000/\∀ a,H a=none->Q (.ref a) (upd H a (.ext (wD X.prog X.w a zs)))):=by
 intro pins s σ H xs us Q I r h;obtain ⟨p,zs,rfl,hq,hz,q⟩:=h;obtain ⟨u,rfl,rx⟩:=vals1 r;cases rx;obtain ⟨its,r',pl,_⟩:=I.list hq;have hlen:=r'.length;rw [Rf] at hlen;refine bb_set_strs (I.ok.hd hc) pl.isList (zs:=zs) (fun i v hv=>?_) (by simpa using hlen) (by rw [Rt,<- hlen];show zs.length+1<4096;omega) fun h' tk hS kp=>?_
 · have Cu:its[i]?=some v:=by simpa using hv
   have BS:i<its.length:=(Rv.mp Cu).1
   have Cq:(zs.map V.str)[i]?=some (.str (zs.getD i default)):=by
    rw [Rw,List.getD,Rg (by omega)];rfl
   obtain ⟨u,hu,ru⟩:=r'.get Cq;rw [Cu] at hu;cases hu;exact ru
 · have hk:∀ b o,s.heap.get? b=some o->h'.get? b=some o:=fun b o e=>kp b o (RG e) e;refine ⟨.ref s.heap.objs.size,_,I.laid (t':=tk) (o:=.ext (wD X.prog X.w s.heap.objs.size zs)) hk (Rq _) ?_,rfl,q _ (I.hok.fresh (Rq _))⟩;refine ⟨hS,?_,fun g1 g2 gs gk=>?_⟩
   · obtain ⟨o,_,_,_,ho,_⟩:=hS;exact ⟨o,ho⟩
   · obtain ⟨o,es,ep,t,ho,rest⟩:=gs;exact ⟨o,es,ep,t,gk o ho,rest⟩
theorem tz {X:Cx}:ej X (.builtin "len") (fun xs H Q=>∃ a zs,xs=[.ref a]/\H a=some (.ext (wD X.prog X.w a zs))/\Q (.int (dn zs zs.length)) H):=by
 intro pins s σ H xs us Q I r h;obtain ⟨a,zs,rfl,ha,q⟩:=h;obtain ⟨u,rfl,rx⟩:=vals1 r;cases rx;obtain ⟨⟨o,es,ep,t,ho,hex,hd,_,_,hb,hf,hn⟩,_⟩:=(show ObjOk X.prog X.w H s.heap a (.ext (wD X.prog X.w a zs)) from I.hok a _ ha);have BC:es.size<4096:=hb;refine call_len_set ho hex hd hf (by omega) ?_;exact ⟨.int es.size,H,I.tok _,⟨_,rfl⟩,by rw [hn];exact q⟩
end L2
namespace L2
open PySem PySem.Spec PySem.Calls PyProof.Rows BB
section
variable {X:Cx}
def uE:R2:=fun x y H Q=>∃ i j,x=.str i/\y=.str j/\Q (.bl (!decide (j.cps.toList<i.cps.toList))) H
theorem gx:OpR X (TH .LtE) uE:=by
 intro pins s σ H x y v u Q I rx ry h;obtain ⟨i,j,rfl,rfl,q⟩:=h;obtain ⟨t,rfl⟩:=rx;obtain ⟨t',rfl⟩:=ry;exact PySem.P.le_str ⟨.bl _,H,I,rfl,q⟩
def aaq (K:Ri) (tl:TE):TI:=fun σ H R=>tl σ H fun x H1=>∃ a,x=.ref a/\(((∃ xs,SqL K H1 a xs)/\R (Itl K a) H1)∨((∃ xs,SqT K H1 a xs)/\R (Itt K a) H1))
theorem uv {tg l:SI} {tl:TE} (hl:PE X l tl):PI X tg l (aaq X.K tl):=by
 intro pins s σ H R I h;refine thn (hl pins s σ H _ I h) fun v s1 ⟨x,H1,I1,r1,q1⟩=>?_;obtain ⟨a,e,q⟩:=q1;subst e;cases r1
 have fp:∀ b∈[s1.heap.objs.size],eQ X pins H1 b:=fun b hb=>by
  have e:b=s1.heap.objs.size:=by simpa using hb
  subst e;exact I1.fpOk (Rq _) (I1.hok.fresh (Rq _))
 rcases q with ⟨⟨xs,hq⟩,q⟩ | ⟨⟨xs,hq⟩,q⟩
 · obtain ⟨its,rv,p,hz⟩:=I1.list hq;refine Wl p.isList ?_;exact ⟨s1.heap.objs.size,[s1.heap.objs.size],_,_,H1,rfl,I1.kept (t':=s1.toks) fun b o e=>Ro _ e,nN a _,⟨_,RD _ rfl,rfl,rfl⟩,fp,q⟩
 · obtain ⟨its,rv,p,hz⟩:=I1.tuple hq;refine Wb (show s1.heap.IsTuple a its.toArray from p) ?_;exact ⟨s1.heap.objs.size,[s1.heap.objs.size],_,_,H1,rfl,I1.kept (t':=s1.toks) fun b o e=>Ro _ e,lD a _,⟨_,RD _ rfl,rfl,rfl⟩,fp,q⟩
end
end L2
namespace BB
open PySem L2
theorem rO {js:List (Option Nat)} {g:TG} {tt:TT} {te:TE} {σ:St} {H:Hp} {x:Rz} {fin:Rk->Hp->Prop} (f:Nat->Bool) (hz:x.cps.size<=100000)
 (G1:∀ c H1 (Q:VK) (W':Hp->Prop),c∈x.cps.toList->Q (.bl (f c)) H1->g (.str ⟨#[c]⟩) (cσ js σ) H1 fun Ay H2=>tt Ay H2 fun b H3=>if b=true then te Ay H3 Q else W' H3)
 (AR:∀ D H',H D=none->L2.Same H H'->H' D=some (.lst ((x.cps.toList.map f).map V.bl))->fin D H') :
 ∀ D,H D=none->∃ (n:Nat) (W:Nat->Hp->Prop),W 0 (upd H D (.lst []))/\du js g tt te σ (Its x) D n W fun H'=>fin D H':=by
 intro D hD;refine ⟨x.cps.size,fun i H'=>i<=x.cps.size/\L2.Same H H'/\H' D=some (.lst (((x.cps.toList.take i).map f).map V.bl)),⟨Sk _,ad hD _,by rw [ac];rfl⟩,?_⟩;rintro i H' ⟨hi,s1,e1⟩;by_cases AH:i<x.cps.size
 · refine .inr ⟨AH,AH,fun v H1 hy=>?_⟩;obtain ⟨rfl,c,hc,rfl⟩:=hy;have BQ:x.cps.toList[i]?=some c:=by rw [UT];exact hc
   refine G1 c _ _ _ (Ru BQ) ⟨_,e1,?_,AH,?_,?_⟩
   · rw [Rf,Rf,Rx,RE];have:RS=16777216:=T7;omega
   · exact aH s1 hD
   · rw [ac,take_snoc BQ];simp
 · have B2:i=x.cps.size:=by omega
   subst B2;refine .inl ⟨rfl,AR D H' hD s1 ?_⟩;rw [e1,Sd (by rw [RE];exact Rq _)]
theorem sV {α:Type} {js:List (Option Nat)} {g:TG} {tt:TT} {te:TE} {σ:St} {J:It} {H:Hp} {xs:List V} {fin:Rk->Hp->Prop} (zs:List α) (f:α->V) (hz:zs.length=xs.length) (hn:xs.length<=1000000)
 (Dl:∀ i H2,L2.Same H H2->i<xs.length->J.go i H2) (BL:∀ H2,L2.Same H H2->J.stop xs.length H2) (DE:∀ (i:Nat) H2 x H3,L2.Same H H2->i<xs.length->J.yld i H2 x H3->H3=H2/\xs[i]?=some x)
 (hb:∀ (i:Nat) x z H2 (R:VK) (W':Hp->Prop),xs[i]?=some x->zs[i]?=some z->L2.Same H H2->(∀ H3,L2.Same H2 H3->R (f z) H3)->g x (cσ js σ) H2 fun Ay H3=>tt Ay H3 fun b H4=>if b=true then te Ay H4 R else W' H4)
 (AR:∀ D H',H D=none->L2.Same H H'->H' D=some (.lst (zs.map f))->fin D H') :
 ∀ D,H D=none->∃ (n:Nat) (W:Nat->Hp->Prop),W 0 (upd H D (.lst []))/\du js g tt te σ J D n W fun H'=>fin D H':=by
 intro D hD;refine ⟨xs.length,fun i H'=>i<=xs.length/\L2.Same H H'/\H' D=some (.lst ((zs.take i).map f)),⟨Sk _,ad hD _,by rw [ac];rfl⟩,?_⟩;rintro i H' ⟨hi,s1,e1⟩;by_cases AH:i<xs.length
 · refine .inr ⟨AH,Dl i H' s1 AH,fun v H1 hy=>?_⟩;obtain ⟨e,hx⟩:=DE i H' v H1 s1 AH hy;subst e;obtain ⟨z,Cq⟩:∃ z,zs[i]?=some z:=⟨_,Rg (by omega)⟩;refine hb i v z _ _ _ hx Cq s1 fun H3 s3=>⟨_,s3 _ _ e1,?_,AH,aH (s1.trans s3) hD,?_⟩
   · rw [Rf,Rx];have:RS=16777216:=T7;omega
   · rw [ac,take_snoc Cq,RC];rfl
 · have B2:i=xs.length:=by omega
   subst B2;refine .inl ⟨BL _ s1,AR D H' hD s1 ?_⟩;rw [e1,Sd (by omega)]
theorem df {α:Type} {K:Ri} {a:Rk} {js:List (Option Nat)} {g:TG} {tt:TT} {te:TE} {σ:St} {H:Hp} {xs:List V} {fin:Rk->Hp->Prop} (zs:List α) (f:α->V) (hS:SqT K H a xs) (hz:zs.length=xs.length) (hn:xs.length<=1000000)
 (hb:∀ (i:Nat) x z H2 (R:VK) (W':Hp->Prop),xs[i]?=some x->zs[i]?=some z->L2.Same H H2->(∀ H3,L2.Same H2 H3->R (f z) H3)->g x (cσ js σ) H2 fun Ay H3=>tt Ay H3 fun b H4=>if b=true then te Ay H4 R else W' H4)
 (AR:∀ D H',H D=none->L2.Same H H'->H' D=some (.lst (zs.map f))->fin D H') :
 ∀ D,H D=none->∃ (n:Nat) (W:Nat->Hp->Prop),W 0 (upd H D (.lst []))/\du js g tt te σ (Itt K a) D n W fun H'=>fin D H' :=
 sV zs f hz hn (fun i H2 s hi=>⟨xs,xs[i],s.seqT hS,Rg hi⟩) (fun H2 s=>⟨xs,s.seqT hS,Rq _⟩) (fun i H2 x H3 s hi hy=>⟨hy.1,hy.2 xs (s.seqT hS)⟩) hb AR
theorem ou {α:Type} {K:Ri} {a:Rk} {js:List (Option Nat)} {g:TG} {tt:TT} {te:TE} {σ:St} {H:Hp} {xs:List V} {fin:Rk->Hp->Prop} (zs:List α) (f:α->V) (hS:SqL K H a xs) (hz:zs.length=xs.length) (hn:xs.length<=1000000)
 (hb:∀ (i:Nat) x z H2 (R:VK) (W':Hp->Prop),xs[i]?=some x->zs[i]?=some z->L2.Same H H2->(∀ H3,L2.Same H2 H3->R (f z) H3)->g x (cσ js σ) H2 fun Ay H3=>tt Ay H3 fun b H4=>if b=true then te Ay H4 R else W' H4)
 (AR:∀ D H',H D=none->L2.Same H H'->H' D=some (.lst (zs.map f))->fin D H') :
 ∀ D,H D=none->∃ (n:Nat) (W:Nat->Hp->Prop),W 0 (upd H D (.lst []))/\du js g tt te σ (Itl K a) D n W fun H'=>fin D H' :=
 sV zs f hz hn (fun i H2 s hi=>⟨xs,xs[i],s.seq hS,Rg hi⟩) (fun H2 s=>⟨xs,s.seq hS,Rq _⟩) (fun i H2 x H3 s hi hy=>⟨hy.1,hy.2 xs (s.seq hS)⟩) hb AR
def low (z:Rz):Bool:=z.cps.toList.all fun c=>decide (97<=c/\c<=122)
def aS (z:Rz):Bool:=decide (1<=z.length/\z.length<=8) && low z
theorem n8 (c d:Nat):(!decide (([d]:List Nat)<[c]))=decide (c<=d):=by
 have h:(([d]:List Nat)<[c])↔d<c:=by
  constructor
  · intro h;cases h with
    | rel h=>exact h
    | cons h=>cases h
  · intro h;exact List.Lex.rel h
 by_cases hc:c<=d
 · rw [decide_eq_true hc,decide_eq_false (fun z=>by have:=h.mp z;omega)];rfl
 · rw [decide_eq_false hc,decide_eq_true (h.mpr (by omega))];rfl
end BB
namespace HT
open PySem PySem.Spec PyProof.Rows
section
variable {prog:RY} {w:Sj} {A:Sf} {E:Rl->Rn->Prop} {s:Rn}
theorem adjust_back (n:Nat):UE none none (-1) (n:Int)=((n:Int) - 1,-1):=rfl
theorem places_back (n:Nat):Tb ((n:Int) - 1) (-1) (-1)=n:=by
 unfold Tb;have h1:¬ ((-1:Int) > 0):=by omega
 simp only [h1,if_false];by_cases h:n=0
 · subst h;decide
 · have h2:((n:Int) - 1) > -1:=by omega
   simp only [h2,if_true];rw [show (- -1:Int)=1 by decide,Xl];omega
theorem pick_back (xs:Array Rl):((Sw xs.size).filterMap fun (m:Nat)=>xs[(((xs.size:Nat):Int) - 1+(m:Int) * (-1)).toNat]?).toArray=xs.toList.reverse.toArray:=by
 congr 1
 have e:∀ m∈Sw xs.size,xs[(((xs.size:Nat):Int) - 1+(m:Int) * (-1)).toNat]?=xs.toList.reverse[m]?:=by
  intro m hm;have Oq:=UK.mp hm;rw [List.getElem?_reverse (by rw [RE];exact Oq),UT,RE];congr 1;omega
 have f:∀ (l:List Nat) (f g:Nat->Option Rl),(∀ m∈l,f m=g m)->l.filterMap f=l.filterMap g:=by
  intro l f g;induction l with
  | nil=>intro _;rfl
  | cons y ys ih =>
    intro h;rw [UJ,UJ,h y (by simp),ih (fun m hm=>h m (by simp [hm]))]
 rw [f _ _ _ e]
 have gl:∀ (ys:List Rl),(Sw ys.length).filterMap (fun m=>ys[m]?)=ys:=by
  intro ys;have:=pick_run ys.toArray 0 ys.length;simp only [List.filterMap_map] at this
  have e3:((fun x=>ys.toArray[x]?) ∘ fun x=>0+x)=fun m=>ys[m]?:=by
   funext m;simp
  rw [e3] at this;rw [this];simp
 have:=gl xs.toList.reverse;rw [UH,RE] at this;exact this
theorem sliceApplied_back {sl:Rk} {n:Nat} {t:Tok} {Q:Int×Int×Nat->Rn->Prop} (hs:s.heap.IsSliceOf sl .none .none (.int (-1) t))
 (h:Q ((n:Int) - 1,-1,n) s):RL (RW prog w) A (Vh (.ref sl) (pure (n:Int))) Q E s:=by
 obtain ⟨os,Cg,Gr,Ci⟩:=id hs;unfold Vh Builtin.Slice.sliceFields;refine Rj (Rj (Sx Cg Ci (x:=.none) rfl (Rj (Sx Cg Ci (x:=.none) rfl (Rj (Sx Cg Ci (x:=.int (-1) t) rfl (RF ?_)))))));refine Rj (slicePart_int ?_);show RL _ _ (if ((-1:Int) == 0)=true then _ else _) _ _ s;rw [if_neg (by decide)];refine Rj (slicePart_none (Rj (slicePart_none (Rj (RF ?_)))));show RL _ _ (match UE none none (-1) (n:Int) with | (lo,hi)=>pure (lo,(-1:Int),Tb lo hi (-1))) _ _ s;rw [adjust_back n];show RL _ _ (pure ((n:Int) - 1,(-1:Int),Tb ((n:Int) - 1) (-1) (-1))) _ _ s;rw [places_back];exact RF h
theorem getItem_tuple_back {t sl:Rk} {items:Array Rl} {tk:Tok} {Q:Rl->Rn->Prop} (ht:IsTup s.heap t items) (hs:s.heap.IsSliceOf sl .none .none (.int (-1) tk))
 (h:Q (.ref s.heap.objs.size) { s with heap:=s.heap.push { cls:=.type "tuple",data:=.seq items.toList.reverse.toArray } })
 (Az:items.size<=RS):RL (RW prog w) A (WL (.ref t) (.ref sl)) Q E s:=by
 have Bl:sizeOk (.seq items.toList.reverse.toArray):=by
  show items.toList.reverse.toArray.size<=RS;rw [Rt,UH,RE];exact Az
 obtain ⟨os,Cg,Gr,Ci⟩:=id hs;have Js:s.TypeIs (.ref sl) "slice":=⟨os,Cg,Gr⟩;unfold WL
 try with_reducible refine Uo ?_
 first | refine Rj (RF ?_) | skip
 refine Rj (wpAny_sequenceKey ht.typeIs (by decide) ?_)
 refine Rj (Ug (name:=Rc "__getitem__") ht.typeIs Tg
  (Vl Tg ht.typeIs entry_tuple_getitem ?_ (args_tuple_getitem _ _)))
 show RL _ _ (Builtin.Tuple.tupleItemsOf (.ref t) >>= _) _ _ s;refine Rj (tupleItemsOf_ ht ?_);refine Rj (wpAny_typeOf Js ?_);rw [if_pos (by decide)];refine Rj (sliceApplied_back hs ?_)
 have AF:¬ ((((items.size:Nat):Int) - 1 == 0 && (-1:Int) == 1 && items.size == items.size)=true):=by
  simp
 show RL _ _ (if (((items.size:Nat):Int) - 1 == 0 && (-1:Int) == 1 && items.size == items.size)=true then _ else _) _ _ s;rw [if_neg AF,pick_back]
 first
  | exact Rj (m:=Td _) (S8 (RF ⟨_,rfl,RF h⟩) Bl)
  | exact Rj (m:=Td _) (S8 (Rj (RF (RF ⟨_,rfl,RF h⟩))) Bl)
  | exact Rj (Rj (m:=Td _) (S8 (RF (RF ⟨_,rfl,RF h⟩)) Bl))
  | exact Rj (Rj (m:=Td _) (S8 (RF ⟨_,rfl,RF h⟩) Bl))
end
end HT
namespace L2
open PySem PySem.Spec PyProof.Rows
section
variable {X:Cx} {e:SI} {te:TE} {pos p2 p3 p4:Vw}
def BkR (X:Cx) (r:V->Hp->VK->Prop):Prop :=
 ∀ (pins:List (Rk×TU)) (s:Rn) (σ:St) (H:Hp) (x:V) (v:Rl) (t:Tok) (sl:Rk) (Q:VK),Inv X pins σ H s->RelV x v->s.heap.IsSliceOf sl .none .none (.int (-1) t)->r x H Q →
   ∃ T id,typeLookup (.type T) "__getitem__"=pure (some (.builtin id))/\s.TypeIs v T/\RL (RW X.prog X.w) X.A (WL v (.ref sl)) (EP X pins σ Q) X.xe s
def tBk (r:V->Hp->VK->Prop) (te:TE):TE:=fun σ H Q=>te σ H fun x H1=>r x H1 Q
theorem wk {r:V->Hp->VK->Prop} (hr:BkR X r) (he:PE X e te):PE X (.Subscript e (.Slice none none (some (.UnaryOp .USub (.Constant (.int 1) 0 p3) p4)) p2) pos) (tBk r te):=by
 intro pins s σ H Q I h;refine Subscript_ (thn (he pins s σ H _ I h) fun v s1 ⟨x,H1,I1,r1,q1⟩=>?_);refine wpAny_Slice ?_;rw [evalPart_none];refine RF ?_;refine RF ?_;have Ot:PO X (some (.UnaryOp .USub (.Constant (.int 1) 0 p3) p4)) (xA (tUn (rU fun i=>.int (-i)) (tC (.int 1)))):=aO (pF mw ag);refine thn (Ot pins s1 σ H1 (fun o H'=>o=some (-1)/\r x H' Q) I1 ⟨1,rfl,_,rfl,rfl,q1⟩) fun vs s2 ⟨o,H2,I2,ps,ho,q2⟩=>?_;subst ho;cases ps with
 | int i t =>
   have I4:Inv X pins σ H2 { s2 with heap:=s2.heap.push { cls:=.type "slice",data:=.fields #[.none,.none,.int (-1) t] } }:=I2.kept (t':=s2.toks) fun b ob q=>Ro _ q;obtain ⟨T,id,hT,ht,hg⟩:=hr pins { s2 with heap:=s2.heap.push { cls:=.type "slice",data:=.fields #[.none,.none,.int (-1) t] } } σ H2 x v t s2.heap.objs.size Q I4 r1 (Heap.IsSliceOf.new ..) q2;show RL (RW X.prog X.w) X.A (subscriptTail e (.Slice none none (some (.UnaryOp .USub (.Constant (.int 1) 0 p3) p4)) p2) v (.ref s2.heap.objs.size)) (EP X pins σ Q) X.xe { s2 with heap:=s2.heap.push { cls:=.type "slice",data:=.fields #[.none,.none,.int (-1) t] } };exact tail_any (ops:=[v,.ref s2.heap.objs.size]) ht hT hg (by with_unfolding_all rfl)
def aax (K:Ri):V->Hp->VK->Prop:=fun x H Q=>∃ a xs,x=.ref a/\SqT K H a xs/\∀ p,H p=none->Q (.ref p) (upd H p (.tup xs.reverse))
theorem Vals.rev {xs:List V} {us:List Rl} (r:Vals xs us):Vals xs.reverse us.reverse:=by
 induction r with
 | nil=>exact .nil
 | cons r1 r2 ih=>rw [S5,S5];exact ih.append (.cons r1 .nil)
theorem yw:BkR X (aax X.K):=by
 intro pins s σ H x v t sl Q I rx hs h;obtain ⟨a,xs,rfl,hx,q⟩:=h;cases rx;obtain ⟨its,r,ht,hz⟩:=I.tuple hx;have hlen:its.toArray.size=xs.length:=by rw [Rt];exact r.length.symm
 refine ⟨"tuple",_,Tg.lookup,ht.typeIs,?_⟩;refine HT.getItem_tuple_back ht hs ?_ (by rw [hlen];exact hz);refine ⟨.ref s.heap.objs.size,_,I.laid (t':=s.toks) (o:=.tup xs.reverse) (fun b ob q=>Ro _ q) (Rq _) ?_,rfl,q _ (I.hok.fresh (Rq _))⟩;exact ⟨by rw [UH];exact hz,_,0,r.rev,RD _ rfl⟩
end
end L2
namespace L2
open PySem PySem.Spec PySem.Calls PyProof.Rows
section
variable {X:Cx}
end
end L2
namespace L2
open PySem PySem.Spec PySem.Calls PyProof.Rows
section
variable {X:Cx}
end
end L2
namespace BB
open PySem L2
mutual
/-- a pattern over kinds,its calls of so many states and kids -/
def Th.FitS (ks:List (Rz×Int)) (S C:Int):Th->Prop
 | .knot n ts=>(n,(ts.length:Int))∈ks/\FitSs ks S C ts
 | .call s k=>0<=s/\s<S/\0<=k/\k<C
def FitSs (ks:List (Rz×Int)) (S C:Int):List Th->Prop
 | []=>True
 | t::ts=>t.FitS ks S C/\FitSs ks S C ts
end
theorem FitSs.of {ks:List (Rz×Int)} {S C:Int}:∀ {ts:List Th},(∀ t∈ts,t.FitS ks S C)->FitSs ks S C ts
 | [],_=>by rw [FitSs];trivial
 | t::ts,h=>by
   rw [FitSs];exact ⟨h t (Rr ..),FitSs.of fun u hu=>h u (Rp _ hu)⟩
theorem nM {ts:List Th} {n:Nat} (h:∀ t∈ts,t.tall<=n):aL ts<=n:=by
 induction ts with
 | nil=>rw [aL];exact Sk _
 | cons t ts ih =>
   rw [aL];have h1:=h t (Rr ..);have h2:=ih fun u hu=>h u (Rp _ hu);omega
def SameB (l:Rk) (H H':Hp):Prop:=∀ b o,b≠l->H b=some o->H' b=some o
theorem SameB.trans {l:Rk} {A B C:Hp} (h:SameB l A B) (k:SameB l B C):SameB l A C:=fun b o hb e=>k b o hb (h b o hb e)
theorem SameB.of {l:Rk} {H H':Hp} (h:L2.Same H H'):SameB l H H':=fun b o _ e=>h b o e
theorem SameB.set {l:Rk} {H:Hp} {o:HO}:SameB l H (upd H l o):=fun b o hb e=>by rw [ar hb];exact e
theorem SameB.kt {l:Rk} {H H':Hp} {xs:List V} (h:SameB l H H') (e:H l=some (.lst xs)):KT H H':=fun b ys eb=>h b _ (sI eb e (by intro z;cases z)) eb
def RowAt (H:Hp) (row:List Th) (a:Rk):Prop:=∃ as:List Rk,H a=some (.tup (as.map V.ref))/\Ats H row as
theorem RowAt.mono {H H':Hp} (k:KT H H') {row:List Th} {a:Rk} (h:RowAt H row a):RowAt H' row a:=by
 obtain ⟨as,h1,h2⟩:=h;exact ⟨as,k _ _ h1,h2.mono k⟩
structure yH (H:Hp) (ins outs:List (Rz×Int)) (head:Th) (rows:List (List Th)) (r ia oa ha ra:Rk) (AD Ap Bt:List Rk):Prop where
 bk:H r=some (.tup [.ref ia,.ref oa,.ref ha,.ref ra])
 inE:H ia=some (.tup (AD.map V.ref))
 inK:KsAt H ins AD
 outE:H oa=some (.tup (Ap.map V.ref))
 outK:KsAt H outs Ap
 hd:At H head ha
 rl:H ra=some (.tup (Bt.map V.ref))
 rw:So (RowAt H) rows Bt
end BB
namespace BB
open PySem L2
def Bk (H:Hp) (ins outs:List (Rz×Int)) (head:Th) (rows:List (List Th)) (r:Rk):Prop:=∃ ia oa ha ra AD Ap Bt,yH H ins outs head rows r ia oa ha ra AD Ap Bt
end BB
namespace L2
open PySem PySem.Spec PySem.Calls PyProof.Rows PySem.SeqAt
end L2
namespace BB
open PySem L2
end BB
namespace L2
open PySem PySem.Spec PyProof.Rows
section
variable {X:Cx} {e:SI} {te:TE} {p p2 pos BK:Vw}
end
end L2
namespace BB
open PySem L2
theorem kJ {α:Type} {F:Hp->α->Rk->Prop} {js:List (Option Nat)} {g:TG} {tt:TT} {te:TE} {σ:St} {J:It} {H:Hp} {xs:List V} {fin:Rk->Hp->Prop} (zs:List α) (hF:∀ H1 H2 z p,KT H1 H2->F H1 z p->F H2 z p) (hz:zs.length=xs.length) (hn:xs.length<=1000000)
 (Dl:∀ i H2,L2.Same H H2->i<xs.length->J.go i H2) (BL:∀ H2,L2.Same H H2->J.stop xs.length H2) (DE:∀ (i:Nat) H2 x H3,L2.Same H H2->i<xs.length->J.yld i H2 x H3->H3=H2/\xs[i]?=some x)
 (hb:∀ (i:Nat) x z H2 (R:VK) (W':Hp->Prop),xs[i]?=some x->zs[i]?=some z->L2.Same H H2->(∀ H3 p,L2.Same H2 H3->F H3 z p->R (.ref p) H3)->g x (cσ js σ) H2 fun Ay H3=>tt Ay H3 fun b H4=>if b=true then te Ay H4 R else W' H4)
 (AR:∀ D H' as,H D=none->L2.Same H H'->H' D=some (.lst (as.map V.ref))->So (F H') zs as->fin D H') :
 ∀ D,H D=none->∃ (n:Nat) (W:Nat->Hp->Prop),W 0 (upd H D (.lst []))/\du js g tt te σ J D n W fun H'=>fin D H':=by
 intro D hD;refine ⟨xs.length,fun i H'=>i<=xs.length/\L2.Same H H'/\∃ as:List Rk,H' D=some (.lst (as.map V.ref))/\So (F H') (zs.take i) as,⟨Sk _,ad hD _,[],by rw [ac];rfl,.nil⟩,?_⟩;rintro i H' ⟨hi,s1,as,e1,hp⟩;by_cases AH:i<xs.length
 · refine .inr ⟨AH,Dl i H' s1 AH,fun v H1 hy=>?_⟩;obtain ⟨e,hx⟩:=DE i H' v H1 s1 AH hy;subst e;obtain ⟨z,Cq⟩:∃ z,zs[i]?=some z:=⟨_,Rg (by omega)⟩;have hl:(zs.take i).length=as.length:=R3 hp;rw [Rx] at hl;refine hb i v z _ _ _ hx Cq s1 fun H3 p s3 Ou=>⟨_,s3 _ _ e1,?_,AH,aH (s1.trans s3) hD,as++[p],?_,?_⟩
   · rw [Rf];have:RS=16777216:=T7;omega
   · rw [ac,RC];rfl
   · have kt:KT H3 (upd H3 D (.lst (as.map V.ref++[.ref p]))):=bG (s3 _ _ e1);rw [take_snoc Cq];exact P2.append (P2.mp (fun x y e=>hF _ _ _ _ ((Same.kt s3).trans kt) e) hp) (.cons (hF _ _ _ _ kt Ou) .nil)
 · have B2:i=xs.length:=by omega
   subst B2;refine .inl ⟨BL _ s1,AR D H' as hD s1 e1 ?_⟩;rw [Sd (by omega)] at hp;exact hp
end BB
namespace L2
open PySem PySem.Spec PyProof.Rows
theorem FnOk.x0 {P:RY} {w:Sj} {K:Ri} {mg:Rz->Option Rl} {base:SR} {k:Nat} {f:Rk} {fd:Uk} {ps:List Rz} {sp Mb:Sp} (F:FnOk P w K mg base (CX1 P w) k f fd ps Mb)
 (h:∀ vs H Q E,sp vs H Q E->Mb vs H Q fun _ _ _=>False):FnOk P w K mg base CX0 k f fd ps sp :=
 ⟨fun vs H Q E q=>F.len vs H Q _ (h _ _ _ _ q),fun A outer s H args us vs Q E hr he hb hv hs=>Vm (F.run A outer s H args us vs Q _ hr he hb hv (h _ _ _ _ hs)) fun r s' hc=>by
  cases r with
  | error e =>
    obtain ⟨_,_,_,_,_,_,_,_,_,_,_,_,_,hE⟩:=(show CX1 P w outer H s (fun _ _ _=>False) e s' from hc);exact hE.elim
  | ok v=>cases v <;> exact hc⟩
end L2
namespace L2
open PySem
theorem us1 {α:Type}:∀ {us:List α},us.length=1->∃ a,us=[a]
 | [a],_=>⟨a,rfl⟩
theorem us2 {α:Type}:∀ {us:List α},us.length=2->∃ a b,us=[a,b]
 | [a,b],_=>⟨a,b,rfl⟩
theorem us3 {α:Type}:∀ {us:List α},us.length=3->∃ a b c,us=[a,b,c]
 | [a,b,c],_=>⟨a,b,c,rfl⟩
theorem us4 {α:Type}:∀ {us:List α},us.length=4->∃ a b c d,us=[a,b,c,d]
 | [a,b,c,d],_=>⟨a,b,c,d,rfl⟩
theorem us5 {α:Type}:∀ {us:List α},us.length=5->∃ a b c d e,us=[a,b,c,d,e]
 | [a,b,c,d,e],_=>⟨a,b,c,d,e,rfl⟩
end L2
namespace PySem
open Sem (wp)
section
variable {prog:RY} {w:Sj} {K:Type} [DecidableEq K] {knd:HeapKind prog w K} {A:Sf} {E:Rl->Rn->Prop} {s:Rn}
end
end PySem
namespace L2
open PySem PySem.Spec PyProof.Rows BB
end L2
namespace BB
open PySem L2
end BB
namespace PySem
open Sem (wp)
section
variable {prog:RY} {w:Sj} {A:Sf} {E:Rl->Rn->Prop} {s:Rn} {I:Rk} {fp wr:List Rk} {G:Array GenState->Array GenState->Prop} {n:Nat} {P:Nat->Rl->Prop} {St:Nat->Rn->Prop}
end
end PySem
namespace L2
open PySem PySem.Spec PyProof.Rows
section
variable {X:Cx} {o e:SI} {to te:TE} {p2 BK apos A6:Vw}
def zH:List V->Hp->VK->Prop:=fun xs H Q=>∃ i:Int,xs=[.int i]/\i.natAbs.log2<1920/\Q (.str (Rc (toString i))) H
theorem gA:ej X (.type "str") zH:=by
 intro pins s σ H xs us Q I r h;obtain ⟨i,rfl,hi,q⟩:=h;obtain ⟨u,rfl,rx⟩:=vals1 r;obtain ⟨t,rfl⟩:=rx;exact P.str_of_int hi ⟨.str (Rc (toString i)),H,I.tok _,⟨_,rfl⟩,q⟩
end
end L2
namespace PySem
open Sem (wp)
namespace F
end F
section
variable {prog:RY} {w:Sj} {A:Sf} {E:Rl->Rn->Prop} {s:Rn} {a:Rk} {xs:Array Rl} {k:Nat}
end
end PySem
namespace L2
open PySem PySem.Spec PyProof.Rows
section
variable {X:Cx} {pins:List (Rk×TU)} {σ:St}
end
end L2
namespace BB
open PySem L2
def aU (i:Int):Rz:=Rc (toString i)
def dot:Rz:=Rc "."
def uT (s k:Int):Rz:=aU s++dot++aU k
def cu (s k:Int):Th:=.knot (uT s k) []
end BB
namespace PySem
section
variable {prog:RY} {w:Sj} {A:Sf} {E:Rl->Rn->Prop} {s:Rn}
theorem bb_zip_next0 {z TI TO i1 i2 l1 l2:Rk} {k:Nat} {xs ys:Array Rl} {x y a b:Rl} {Q:Option Rl->Rn->Prop} (D:ZipApart z TI TO i1 i2 l1 l2)
 (hz:WG s.heap z TI TO .none) (hTI:UP s.heap TI (.ref i1) (.ref i2)) (hTO:UP s.heap TO a b)
 (h1:s.heap.IsTupleIter i1 l1 k) (h2:s.heap.IsTupleIter i2 l2 k) (AA:s.heap.IsTuple l1 xs) (AG:s.heap.IsTuple l2 ys) (hx:xs[k]?=some x) (hy:ys[k]?=some y)
 (hQ:∀ h',WG h' z TI TO (VQ s.heap.objs.size)->UP h' TO x y->h'.IsTupleIter i1 l1 (k+1)->h'.IsTupleIter i2 l2 (k+1)->UP h' s.heap.objs.size x y->h'.objs.size=s.heap.objs.size+1 →
  (∀ c o,c≠z->c≠TO->c≠i1->c≠i2->s.heap.get? c=some o->h'.get? c=some o)->Q (some (.ref s.heap.objs.size)) { s with heap:=h' }) :
 RL (RW prog w) A (W8 (.ref z)) Q E s:=by
 have hT:s.TypeIs (.ref z) "zip":=⟨_,hz,rfl⟩;unfold W8;refine Rj (wpAny_attempt (Ug (name:=Rc "__next__") hT WV (Vl WV hT F.entry_zip_next ?_ (F.args_zip_next_1 _))));exact bb_zip_itemA D hz hTI hTO h1 h2 AA AG hx hy fun h' a1 a2 a3 a4 a5 a6 a7=>RF (hQ h' a1 a2 a3 a4 a5 a6 a7)
end
end PySem
namespace L2
open PySem PySem.Spec PyProof.Rows
def Itz (K:Ri) (a b:Rk):It:=⟨fun i H=>∃ xs ys x y,SqT K H a xs/\SqT K H b ys/\xs[i]?=some x/\ys[i]?=some y,fun i H v H'=>∃ p x y,H p=none/\v=.ref p/\H'=upd H p (.tup [x,y])/\(∀ xs,SqT K H a xs->xs[i]?=some x)/\(∀ ys,SqT K H b ys->ys[i]?=some y),fun i H=>∃ xs ys,SqT K H a xs/\SqT K H b ys/\(xs.length<=i∨ys.length<=i)⟩
structure ZTn (z TI TO i1 i2 a b:Rk) (i:Nat) (h:SR):Prop where
 ap:ZipApart z TI TO i1 i2 a b
 zip:WG h z TI TO .none
 hTI:UP h TI (.ref i1) (.ref i2)
 hTO:∃ u v,UP h TO u v
 h1:h.IsTupleIter i1 a i
 h2:h.IsTupleIter i2 b i
theorem uR {P:RY} {w:Sj} {K:Ri} {elts:List SI} {k1} {pos:Vw} (a b z TI TO i1 i2:Rk):Turn P w K (.Tuple elts k1 pos) (Itz K a b) [z,TI,TO,i1,i2] z (ZTn z TI TO i1 i2 a b) where
 mem:=by simp
 obj:=fun i h st c hc=>by
  obtain ⟨D,hz,hTI,⟨u,v,hTO⟩,⟨o1,a1,a2,a3⟩,⟨o2,b1,b2,b3⟩⟩:=st;simp only [RA,Tz,or_false] at hc;rcases hc with rfl | rfl | rfl | rfl | rfl
  · exact ⟨_,hz,fun v z=>by cases z⟩
  · exact ⟨_,hTI,fun v z=>by cases z⟩
  · exact ⟨_,hTO,fun v z=>by cases z⟩
  · exact ⟨o1,a1,fun v z=>by rw [a3] at z;cases z⟩
  · exact ⟨o2,b1,fun v z=>by rw [b3] at z;cases z⟩
 keep:=fun i h h' st k=>by
  obtain ⟨D,hz,hTI,⟨u,v,hTO⟩,⟨o1,a1,a2⟩,⟨o2,b1,b2⟩⟩:=st;exact ⟨D,k _ (by simp) _ hz,k _ (by simp) _ hTI,⟨u,v,k _ (by simp) _ hTO⟩,⟨o1,k _ (by simp) _ a1,a2⟩,⟨o2,k _ (by simp) _ b1,b2⟩⟩
 item:=by
  intro X hP hw hK hc i pins s σ H E I hf st hg;subst hP hw hK;obtain ⟨xs,ys,x,y,FU,FV,hx,hy⟩:=hg;obtain ⟨ia,Ip,pa,G2⟩:=I.tuple FU;obtain ⟨ib,Iq,pb,Mc⟩:=I.tuple FV;obtain ⟨u,hu,ru⟩:=Ip.get hx;obtain ⟨v,hv,rv⟩:=Iq.get hy;obtain ⟨D,hz,hTI,⟨ta,tb,hTO⟩,h1,h2⟩:=st
  have lt:∀ c∈[z,TI,TO,i1,i2],c<s.heap.objs.size:=fun c hc=>by
   simp only [RA,Tz,or_false] at hc;rcases hc with rfl | rfl | rfl | rfl | rfl
   · exact RG hz
   · exact RG hTI
   · exact RG hTO
   · obtain ⟨o,e,_⟩:=h1;exact RG e
   · obtain ⟨o,e,_⟩:=h2;exact RG e
  refine bb_zip_next0 D hz hTI hTO h1 h2 (show s.heap.IsTuple a ia.toArray from pa) (show s.heap.IsTuple b ib.toArray from pb) (by simpa using hu) (by simpa using hv) fun BX a1 a2 a3 a4 a5 a6 a7=>?_;refine ⟨_,rfl,wpAny_letOwnedTupleGo_zip a1 fun BE g1 sb=>?_⟩;replace sb:Ul z BX BE:=sb;have JZ:H s.heap.objs.size=none:=I.hok.fresh (Rq _)
  have IA:Inv X pins σ (upd H s.heap.objs.size (.tup [x,y])) { s with heap:=s.heap.push { cls:=.type "tuple",data:=.seq #[u,v] },toks:=s.toks } :=
   I.laid (o:=.tup [x,y]) (fun b ob q=>Ro _ q) (Rq _) ⟨by show 2<=RS;decide,[u,v],0,.cons ru (.cons rv .nil),RD _ rfl⟩
  have QN:s.heap.objs.size≠z:=Uc (lt z (by simp));refine ⟨.ref s.heap.objs.size,upd H s.heap.objs.size (.tup [x,y]),?_,rfl,⟨_,x,y,JZ,rfl,rfl,fun zs Ir=>by rw [I.tuple_inj Ir FU];exact hx,fun zs Ir=>by rw [I.tuple_inj Ir FV];exact hy⟩,?_,fun c hc=>?_⟩
  · have IB:Inv X pins σ (upd H s.heap.objs.size (.tup [x,y])) { s with heap:=BE,toks:=s.toks }:=by
     refine Inv.turnedL (s:={ s with heap:=s.heap.push { cls:=.type "tuple",data:=.seq #[u,v] },toks:=s.toks }) (h':=BE) (fp:=[z,TI,TO,i1,i2]) (t':=s.toks) IA (fun c o hc q=>?_) fun c hc=>?_
     · have n1:c≠z:=fun e=>hc (by simp [e]);have n2:c≠TO:=fun e=>hc (by simp [e]);have n3:c≠i1:=fun e=>hc (by simp [e]);have n4:c≠i2:=fun e=>hc (by simp [e]);rw [sb.2 c n1];by_cases Cr:c=s.heap.objs.size
       · subst Cr;have q':(s.heap.push { cls:=.type "tuple",data:=.seq #[u,v] }).get? s.heap.objs.size=some o:=q;rw [RD _ rfl] at q';rw [<- q'];exact a5
       · have q':(s.heap.push { cls:=.type "tuple",data:=.seq #[u,v] }).get? c=some o:=q;rw [Heap.get?_push_ne _ _ _ Cr] at q';exact a7 c o n1 n2 n3 n4 q'
     · obtain ⟨f0,f1⟩:=hf c hc;exact ⟨by rw [ar (R7 (lt c hc))];exact f0,f1⟩
    exact IB
  · have sT:∀ c o,c≠z->BX.get? c=some o->BE.get? c=some o:=fun c o hc e=>(sb.2 c hc).trans e;refine ⟨D,g1,sT _ _ D.TIz (a7 _ _ D.TIz D.TITO D.TIi1 D.TIi2 hTI),⟨_,_,sT _ _ D.TOz a2⟩,?_,?_⟩
    · obtain ⟨o,e,r⟩:=a3;exact ⟨o,sT _ _ D.i1z e,r⟩
    · obtain ⟨o,e,r⟩:=a4;exact ⟨o,sT _ _ D.i2z e,r⟩
  · rw [ar (R7 (lt c hc))];exact (hf c hc).1
 done:=by
  intro X hP hw hK hc i pins s σ H E I hf st hg;subst hP hw hK;obtain ⟨xs,ys,FU,FV,C8⟩:=hg;obtain ⟨ia,Ip,pa,G2⟩:=I.tuple FU;obtain ⟨ib,Iq,pb,Mc⟩:=I.tuple FV;have BD:=Ip.length;have J0:=Iq.length;obtain ⟨D,hz,hTI,hTO,h1,h2⟩:=st;refine bb_zip_done (show X.A.handled=none from I.ok.hd hc) ⟨D,.inl hz,hTI,hTO,h1,h2,pa,pb⟩ ?_ fun h' kp=>⟨rfl,?_⟩
  · rcases C8 with h | h
    · exact .inl (by simp;omega)
    · exact .inr (by simp;omega)
  exact I.turnedL (fp:=[z,TI,TO,i1,i2]) (t':=s.toks) (fun c o hc q=>kp c o (fun hm=>hc (by simp only [RA,Tz,or_false] at hm ⊢;rcases hm with h | h | h | h <;> simp [h])) q) hf
 self:=fun _ _ _ _ _ st h=>wpAny_pyIter_zip st.zip h
section
variable {X:Cx} {e1 e2:SI} {t:TA} {p2 BK:Vw}
def aaF (K:Ri) (t:TA):TI:=fun σ H R=>t σ H fun vs H1=>∃ a b,vs=[.ref a,.ref b]/\(∃ xs,SqT K H1 a xs)/\(∃ ys,SqT K H1 b ys)/\R (Itz K a b) H1
theorem yD {elts:List SI} {k1} {pos:Vw} (g2:Gl X "zip") (m2:X.mg "zip"=none) (ha:PA X [e1,e2] t)
 (h2:Sq [e1,e2] X.env=(false,TZ e1 X.env)::Sq [e2] X.env:=by rfl) (h3:(VI BK (Sq [e2] X.env)).any (·.1)=false:=by rfl):PI X (.Tuple elts k1 pos) (.Call (.Name "zip" p2) [e1,e2] [] BK) (aaF X.K t):=by
 intro pins s σ H R I h;refine T3 (io I g2 m2 boot_zip ?_);refine Ub (thn (ha BK pins s σ H _ I h) fun us s2 ⟨vs,H2,I2,r,a,b,ev,⟨xs,FU⟩,⟨ys,FV⟩,q⟩=>?_) h2 h3;subst ev;obtain ⟨u1,u2,rfl,r1,r2⟩:=vals2 r;cases r1;cases r2;obtain ⟨ia,Ip,pa,G2⟩:=I2.tuple FU;obtain ⟨ib,Iq,pb,Mc⟩:=I2.tuple FV;have FW:a<s2.heap.objs.size:=by obtain ⟨o,e,_⟩:=pa;exact RG e
 have B8:b<s2.heap.objs.size:=by obtain ⟨o,e,_⟩:=pb;exact RG e
 refine bb_call_zip (show s2.heap.IsTuple a ia.toArray from pa) (show s2.heap.IsTuple b ib.toArray from pb) fun h' z1 z2 z3 z4 z5 z6 z7=>?_;have D:ZipApart (s2.heap.objs.size+4) (s2.heap.objs.size+2) (s2.heap.objs.size+3) s2.heap.objs.size (s2.heap.objs.size+1) a b:=zipApart_new FW B8;refine wpAny_pyIter_zip (s:={ s2 with heap:=h' }) z1 ?_;refine ⟨s2.heap.objs.size+4,[s2.heap.objs.size+4,s2.heap.objs.size+2,s2.heap.objs.size+3,s2.heap.objs.size,s2.heap.objs.size+1],_,_,H2,rfl,I2.kept (t':=s2.toks) z7,uR a b _ _ _ _ _,⟨D,z1,z2,⟨_,_,z3⟩,z4,z5⟩,fun c hc=>?_,q⟩
 have BQ:s2.heap.objs.size<=c:=by
  simp only [RA,Tz,or_false] at hc;rcases hc with h | h | h | h | h <;> rw [h]
  · exact VD _ _
  · exact VD _ _
  · exact VD _ _
  · exact Rq _
  · exact VD _ _
 exact I2.fpOk BQ (I2.hok.fresh BQ)
end
end L2
namespace BB
open PySem L2
def blank:Rz:=Rc " "
def sZ:Rz:=Rc "/"
def eT:Rz:=Rc "\n"
def bj (k:Rz×Int):Rz:=k.1++sZ++aU k.2
def aI (w:Rz) (ks:List (Rz×Int)):Rz:=SK blank (w::ks.map bj)
def ruleT (st:Int) (n:Rz) (t:Th):Rz:=Rc "rule "++aU st++blank++n++blank++(t.fill cu).show
def mU (ins:List (Rz×Int)) (st:Int) (row:List Th):List Rz:=(ins.zip row).map fun z=>ruleT st z.1.1 z.2
def dt (ins:List (Rz×Int)) (rows:List (List Th)) (i:Nat):List Rz:=(((rows.zipIdx).take i).map fun z=>mU ins (z.2:Nat) z.1).flatten
theorem zipIdx_get {α:Type} {l:List α} {i:Nat} {x:α} (h:l[i]?=some x):l.zipIdx[i]?=some (x,i):=by
 rw [List.getElem?_zipIdx,h];simp
theorem jR {ins:List (Rz×Int)} {rows:List (List Th)} {i:Nat} {row:List Th} (h:rows[i]?=some row):dt ins rows (i+1)=dt ins rows i++mU ins (i:Nat) row:=by
 unfold dt;rw [take_snoc (zipIdx_get h),RC,Ua];simp
theorem j4 {ins:List (Rz×Int)} {rows:List (List Th)}:dt ins rows 0=[]:=by
 unfold dt;rw [Uj];rfl
def fU (t:Th):Rz:=Rc "head "++(t.fill cu).show
def bf (ins outs:List (Rz×Int)) (head:Th) (rows:List (List Th)):List Rz:=[aI (Rc "in") ins,aI (Rc "out") outs,fU head]++dt ins rows rows.length
theorem rQ (w:Rz):aI w []=w:=rfl
theorem rC (a b c:Rz):a++b++c=a++(b++c):=by
 have e:∀ x y:Rz,(x++y)=(⟨x.cps++y.cps⟩:Rz):=fun _ _=>rfl;simp only [e,VY]
theorem rm (sep a:Rz) {l:List Rz} (h:l≠[]):SK sep (l++[a])=SK sep l++sep++a:=by
 have e:∀ m:List Rz,SK sep m=Vf sep m:=fun m=>U2 sep m;rw [e,e,PyProof.Rows.FinIter.join_snoc,if_neg h]
theorem qp (w:Rz) (ks:List (Rz×Int)) (k:Rz×Int):aI w (ks++[k])=aI w ks++blank++k.1++sZ++aU k.2:=by
 unfold aI;rw [RC,<- RZ];show SK blank ((w::ks.map bj)++[bj k])=_;rw [rm blank (bj k) (by simp)];unfold bj;simp only [rC]
mutual
theorem ll {ks:List (Rz×Int)} (g:fA ks):∀ {t:Th},t.FitP ks->t.size<=4 ^ t.tall
 | .knot n ts,h=>by
   rw [Th.FitP] at h;have hn:=g.num _ h.1
   have hl:ts.length<=3:=by
    have h2:((ts.length:Nat):Int)<=3:=hn.2;omega
   have:=jW g h.2;rw [Th.size,Th.tall,Nat.pow_succ];have h1:1<=4 ^ aL ts:=Nat.pos_of_ne_zero (by intro z;have:=Nat.pow_eq_zero.mp z;omega);have h3:ts.length * 4 ^ aL ts<=3 * 4 ^ aL ts:=UZ _ hl;omega
 | .call s k,h=>by rw [Th.size,Th.tall];decide
theorem jW {ks:List (Rz×Int)} (g:fA ks):∀ {ts:List Th},lK ks ts->aF ts<=ts.length * 4 ^ aL ts
 | [],_=>by rw [aF];exact Sk _
 | t::ts,h=>by
   rw [lK] at h;have h1:=ll g h.1;have h2:=jW g h.2;rw [aF,aL,Rh,TV];have h3:4 ^ t.tall<=4 ^ max t.tall (aL ts):=S7 (by decide) (Nat.le_max_left ..);have h4:4 ^ aL ts<=4 ^ max t.tall (aL ts):=S7 (by decide) (Nat.le_max_right ..);have h5:=T8 ts.length h4;omega
end
theorem vU {B:Nat}:∀ {l:List Rz},(∀ x∈l,x.length<=B)->(l.map (·.length)).sum<=B * l.length
 | [],_=>by simp
 | x::l,h=>by
   have h1:=h x (Rr ..);have h2:=vU fun y hy=>h y (Rp _ hy);rw [RB,Tj,Rh,Xi];omega
theorem ye {J:It} {g:TG} {tb:TS} {D:Ends} {σ:St} {H:Hp} (n:Nat) (Pv:Nat->St->Hp->Prop) (h0:Pv 0 σ H) (Dl:∀ i σ H,i<n->Pv i σ H->J.go i H) (BL:∀ σ H,Pv n σ H->J.stop n H)
 (hs:∀ i x σ H H',i<n->Pv i σ H->J.yld i H x H'->g x σ H' fun Ay H2=>tb { D with nx:=Pv (i+1),ct:=Pv (i+1),bk:=D.nx } Ay H2) (hd:∀ σ H,Pv n σ H->D.nx σ H) :
 ∃ W:Nat->Nat->St->Hp->Prop,(∃ m,W 0 m σ H)/\∀ i m σ H,W i m σ H →
   (J.stop i H/\D.nx σ H)∨(J.go i H/\∃ N:St->Hp->Prop,(∀ f' H',N f' H'->∃ m',m'<m/\W (i+1) m' f' H')/\∀ x H',J.yld i H x H'->g x σ H' fun Ay H2=>tb { D with nx:=N,ct:=N,bk:=D.nx } Ay H2):=by
 refine ⟨fun i m σ H=>i<=n/\m=n - i/\Pv i σ H,⟨n,Sk _,rfl,h0⟩,?_⟩;rintro i m σ H ⟨hi,rfl,p⟩;by_cases h:i=n
 · left;subst h;exact ⟨BL σ H p,hd σ H p⟩
 · right;have B2:i<n:=by omega
   exact ⟨Dl i σ H B2 p,Pv (i+1),fun f' H' q=>⟨n - (i+1),by omega,by omega,rfl,q⟩,fun x H' y=>hs i x σ H H' B2 p y⟩
end BB
namespace BB
open PySem L2
noncomputable section
local instance:DecidableEq Th:=fun _ _=>Classical.propDecidable _
end
end BB
namespace PySem
open Sem (wp)
section
variable {prog:RY} {w:Sj} {K:Type} [DecidableEq K] {knd:HeapKind prog w K} {A:Sf} {E:Rl->Rn->Prop} {s:Rn}
end
end PySem
namespace L2
open PySem PySem.Spec PyProof.Rows
end L2
namespace PySem
open Sem (wp)
section
variable {prog:RY} {w:Sj} {A:Sf} {R:WM->Rn->Prop}
end
section
variable {prog:RY} {w:Sj} {A:Sf} {E:Rl->Rn->Prop} {s:Rn}
end
end PySem
namespace L2
open PySem PySem.Spec PyProof.Rows
end L2
namespace L2
open PySem PySem.Spec PyProof.Rows BB
end L2
namespace PySem
open Sem (wp)
section
variable {prog:RY} {w:Sj} {K:Type} [DecidableEq K] (knd:HeapKind prog w K) (d:Rk)
end
section
variable {prog:RY} {w:Sj} {K:Type} [DecidableEq K] {knd:HeapKind prog w K} {A:Sf} {E:Rl->Rn->Prop} {s:Rn}
end
end PySem
namespace L2
open PySem PySem.Spec PyProof.Rows
end L2
namespace BB
open PySem L2
end BB
namespace BB
open PySem L2
end BB
namespace BB
open PySem L2
end BB
namespace BB
open PySem L2
theorem qf {u:Th}:∀ {ts:List Th},u∈ts->u.size<=aF ts
 | [],h=>by cases h
 | t::ts,h=>by
   rw [aF];rcases RA.mp h with rfl | h
   · omega
   · have:=qf h;omega
end BB
namespace BB
open PySem L2 PySem.Builtin PySem.Builtin.Str
def ofL (l:List Nat):Rz:=⟨l.toArray⟩
theorem aB (l:List Nat):(ofL l).cps.toList=l:=by unfold ofL;simp
theorem cn {x y:Rz} (h:x.cps.toList=y.cps.toList):x=y:=by
 apply Str.ext';exact Array.toList_inj.mp h
theorem gn (x:Rz):ofL x.cps.toList=x:=cn (aB _)
def aw (c:Nat):List Nat->List (List Nat)
 | []=>[[]]
 | d::l=>if d=c then []::aw c l else match aw c l with
   | []=>[[d]]
   | p::r=>(d::p)::r
theorem bQ (c:Nat):∀ l,∃ p r,aw c l=p::r
 | []=>⟨[],[],rfl⟩
 | d::l=>by
   obtain ⟨p,r,e⟩:=bQ c l;rw [aw,e];split
   · exact ⟨_,_,rfl⟩
   · exact ⟨_,_,rfl⟩
def idxs (c:Nat):Nat->List Nat->List Nat
 | _,[]=>[]
 | off,d::l=>if d=c then off::idxs c (off+1) l else idxs c (off+1) l
theorem cE (c:Nat):(⟨#[c]⟩:Rz).length=1:=rfl
theorem subAt_one (x:Rz) (c i:Nat) (hi:i<x.length):subAt x ⟨#[c]⟩ i=decide (x.cps.toList[i]?=some c):=by
 rw [StrLaws.subAt_eq,cE];have hl:i<x.cps.toList.length:=by rw [RE];exact hi
 rw [SH hl,Rg hl];show ([x.cps.toList[i]] == [c])=_;by_cases h:x.cps.toList[i]=c
 · rw [h];simp
 · have:decide (some x.cps.toList[i]=some c)=false:=decide_eq_false fun z=>h (Ry z);rw [this];exact beq_false_of_ne fun z=>h (RR z).1
theorem vV (x:Rz) (c:Nat) (f:Array Nat) (free:Nat):(forIn [x.length] (f,free) (Si x ⟨#[c]⟩ x.length (x.length+1))).run.fst=f:=by
 rw [S9];unfold Si
 have h1:¬ (((f.size<x.length+1/\free<=x.length)/\x.length+(⟨#[c]⟩:Rz).length<=x.length)/\subAt x ⟨#[c]⟩ x.length=true):=fun h=>by
  have:=h.1.2;rw [cE] at this;omega
 rw [if_neg h1];rfl
theorem lj (x:Rz) (c:Nat):∀ (l pre:List Nat) (f:Array Nat) (free:Nat),x.cps.toList=pre++l->free<=pre.length->f.size<=pre.length →
 (forIn (V1 pre.length (l.length+1)) (f,free) (Si x ⟨#[c]⟩ x.length (x.length+1))).run.fst.toList=f.toList++idxs c pre.length l
 | [],pre,f,free,hx,_,_=>by
   have hlen:pre.length=x.length:=by
    have:=congrArg TB hx;rw [RE,RP] at this;exact this.symm
   rw [TM,hlen,idxs,RP];exact congrArg Wk (vV x c f free)
 | d::l,pre,f,free,hx,hf,hs=>by
   have hlen:x.length=pre.length+(l.length+1):=by
    have:=congrArg TB hx;rw [RE,Rm,Rh] at this;exact this
   rw [List.range'_succ,S9,Rh];have hg:x.cps.toList[pre.length]?=some d:=by rw [hx];simp
   have Bs:=subAt_one x c pre.length (by omega);rw [hg] at Bs;have B1:x.cps.toList=(pre++[d])++l:=by rw [hx];simp
   have A9:(pre++[d]).length=pre.length+1:=by simp
   unfold Si;rw [idxs];by_cases Be:d=c
   · have h1:((f.size<x.length+1/\free<=pre.length)/\pre.length+(⟨#[c]⟩:Rz).length<=x.length)/\subAt x ⟨#[c]⟩ pre.length=true:=by
      rw [cE,Bs,Be];exact ⟨⟨⟨by omega,hf⟩,by omega⟩,decide_eq_true rfl⟩
     rw [if_pos h1,if_pos Be];have ih:=lj x c l (pre++[d]) (f.push pre.length) (pre.length+1) B1 (by omega) (by rw [Array.size_push];omega);rw [A9] at ih;unfold Si at ih;exact Eq.trans ih (by rw [Array.toList_push,RM];rfl)
   · have h1:¬ (((f.size<x.length+1/\free<=pre.length)/\pre.length+(⟨#[c]⟩:Rz).length<=x.length)/\subAt x ⟨#[c]⟩ pre.length=true):=fun h=>by
      have h2:=h.2;rw [Bs] at h2;exact Be (Ry (of_decide_eq_true h2))
     rw [if_neg h1,if_neg Be];have ih:=lj x c l (pre++[d]) f free B1 (by omega) (by omega);rw [A9] at ih;unfold Si at ih;exact ih
theorem oS (x:Rz) (c:Nat):occurrences x ⟨#[c]⟩ 0 x.length (x.length+1)=idxs c 0 x.cps.toList:=by
 rw [Xf,VS];have h:=lj x c x.cps.toList [] #[] 0 (by simp) (Sk _) (Sk _);rw [RE] at h;exact h
theorem iq (x:Rz) (c:Nat):∀ (l pre:List Nat) (i:Nat),x.cps.toList=pre++l->i<=pre.length →
 (StrLaws.partsFrom x 1 i (idxs c pre.length l)).map (fun p=>p.cps.toList)=match aw c l with | []=>[] | p::r=>(pre.drop i++p)::r
 | [],pre,i,hx,hi=>by
   have hlen:x.length=pre.length:=by
    have:=congrArg TB hx;rw [RE,RP] at this;exact this
   rw [idxs,aw,StrLaws.partsFrom,RB,TY,VO,hx,RP,hlen,Sd (by rw [RJ];omega)];simp
 | d::l,pre,i,hx,hi=>by
   have B1:x.cps.toList=(pre++[d])++l:=by rw [hx];simp
   have A9:(pre++[d]).length=pre.length+1:=by simp
   rw [idxs,aw];obtain ⟨p,r,e⟩:=bQ c l;by_cases Be:d=c
   · rw [if_pos Be,if_pos Be,StrLaws.partsFrom,RB];have ih:=iq x c l (pre++[d]) (pre.length+1) B1 (by omega);rw [A9,e] at ih;rw [ih,VO,hx,e]
     have h1:((pre++d::l).drop i).take (pre.length - i)=pre.drop i:=by
      rw [List.drop_append_of_le_length hi,List.take_left' (by rw [RJ])]
     have h2:(pre++[d]).drop (pre.length+1)=[]:=List.drop_eq_nil_of_le (by rw [A9];omega);rw [h1,h2];simp
   · rw [if_neg Be,if_neg Be];have ih:=iq x c l (pre++[d]) i B1 (by omega);rw [A9,e] at ih;rw [ih,e,List.drop_append_of_le_length hi];simp
theorem mZ (x:Rz) (c:Nat):partsBetween x (occurrences x ⟨#[c]⟩ 0 x.length (x.length+1)) 1=(aw c x.cps.toList).map ofL:=by
 rw [StrLaws.partsBetween_eq,oS];have h:=iq x c x.cps.toList [] 0 (by simp) (Rq _);rw [TM] at h;obtain ⟨p,r,e⟩:=bQ c x.cps.toList;rw [e] at h ⊢;have h2:=congrArg (List.map ofL) h;rw [Ud] at h2;have h3:((ofL ∘ fun p:Rz=>p.cps.toList):Rz->Rz)=fun p=>p:=funext fun p=>gn p;rw [h3,List.map_id'] at h2;rw [h2];simp
theorem mD (c:Nat):∀ (l:List Nat) (off:Nat),idxs c off l=[]->aw c l=[l]
 | [],_,_=>rfl
 | d::l,off,h=>by
   rw [idxs] at h;by_cases Be:d=c
   · rw [if_pos Be] at h;cases h
   · rw [if_neg Be] at h;rw [aw,if_neg Be,mD c l _ h]
theorem pJ {x:Rz} {c:Nat} (hc:c<256):¬ SG x<SG ⟨#[c]⟩:=by
 have h1:SG ⟨#[c]⟩=1:=by
  unfold SG;have:(#[c]:Array Nat).all (·<256)=true:=by simp [hc]
  rw [if_pos this]
 have h2:1<=SG x:=by
  unfold SG;split
  · exact Rq _
  · split <;> decide
 omega
theorem gy (x:Rz) {c:Nat} (hc:c<256):Ta x ⟨#[c]⟩=(aw c x.cps.toList).map ofL:=by
 unfold Ta;by_cases h0:x.length=0
 · have hx:x.cps.toList=[]:=R4.mp (by rw [RE];exact h0)
   have h1:(decide (x.length<(⟨#[c]⟩:Rz).length) || decide (SG x<SG ⟨#[c]⟩))=true:=by
    rw [cE,h0];rfl
   rw [if_pos h1,hx];show [x]=[ofL []];rw [<- hx,gn]
 · have h1:¬ (decide (x.length<(⟨#[c]⟩:Rz).length) || decide (SG x<SG ⟨#[c]⟩))=true:=fun h=>by
    rcases Vj .. |>.mp h with h | h
    · have:=of_decide_eq_true h;rw [cE] at this;omega
    · exact pJ hc (of_decide_eq_true h)
   rw [if_neg h1];by_cases h2:(occurrences x ⟨#[c]⟩ 0 x.length (x.length+1)).isEmpty=true
   · rw [if_pos h2];rw [oS] at h2;have h3:=mD c _ 0 (List.isEmpty_iff.mp h2);rw [h3,RB,TY,gn]
   · rw [if_neg h2,cE];exact mZ x c
def dQ (c:Nat) (z:List Nat) (l:List Nat):List Nat:=l.flatMap fun d=>if d=c then z else [d]
theorem fq (c:Nat) (z:Rz):∀ l:List Nat,(Vf z ((aw c l).map ofL)).cps.toList=dQ c z.cps.toList l
 | []=>by
   show (ofL []).cps.toList=_;rw [aB];rfl
 | d::l=>by
   have ih:=fq c z l;obtain ⟨p,r,e⟩:=bQ c l;rw [aw];unfold dQ at ih ⊢;rw [T4,<- ih,e];by_cases Be:d=c
   · rw [if_pos Be,if_pos Be];show (ofL []++z++Vf z (ofL p::r.map ofL)).cps.toList=_;rw [Tx,Tx,Ss,Ss,aB,Sn];rfl
   · rw [if_neg Be,if_neg Be];cases r with
     | nil =>
       show (ofL (d::p)).cps.toList=[d]++(ofL p).cps.toList;rw [aB,aB];rfl
     | cons p2 r =>
       show (ofL (d::p)++z++Vf z (ofL p2::r.map ofL)).cps.toList=[d]++(ofL p++z++Vf z (ofL p2::r.map ofL)).cps.toList;rw [Tx,Tx,Tx,Tx,Ss,Ss,Ss,Ss,aB,aB];rfl
theorem replace_one (x z:Rz) (c:Nat) (hz:z.length≠0):Wn x ⟨#[c]⟩ z=ofL (dQ c z.cps.toList x.cps.toList):=by
 apply cn;rw [aB];unfold Wn;by_cases h2:(occurrences x ⟨#[c]⟩ 0 x.length (x.length+1)).isEmpty=true
 · rw [if_pos (by rw [h2];rfl)];rw [oS] at h2;have h3:=mD c _ 0 (List.isEmpty_iff.mp h2);have h4:=fq c z x.cps.toList;rw [h3] at h4;rw [<- h4];show _=(ofL x.cps.toList).cps.toList;rw [aB]
 · have h3:¬ ((occurrences x ⟨#[c]⟩ 0 x.length (x.length+1)).isEmpty || ((⟨#[c]⟩:Rz).length == 0 && z.length == 0))=true:=fun h=>by
    rcases Vj .. |>.mp h with h | h
    · exact h2 h
    · rw [cE] at h;simp at h
   rw [if_neg h3,cE,mZ,U2];exact fq c z _
end BB
namespace L2
open PySem PySem.Spec PySem.Calls PyProof.Rows BB
section
variable {X:Cx} {pins:List (Rk×TU)} {σ:List (Option V)} {H:Hp} {s:Rn}
theorem nB {M:Model} {A:Sf} {E:Rl->Rn->Prop} {i:Nat} {x:Rz} {v:V} {u:Rl} {Q:Unit->Rn->Prop} (I:Inv X pins σ H s) (hN:X.N.Nodup) (hi:X.N[i]?=some x) (hk:X.env.scope.names.lookup x=some .local) (r:RelV v u)
 (h:∀ h' m',Inv X pins (σ.set i (some v)) H { s with heap:=h',toks:=s.toks+1 }->h'.Ns X.env.locals m'->m' x=some u->(∀ (j:Nat) (y:Rz) (w:V),j≠i->X.N[j]?=some y->σ[j]?=some (some w)->X.env.scope.names.lookup y=some .local->∃ u',RelV w u'/\m' y=some u')->Q () { s with heap:=h',toks:=s.toks+1 }):RL M A (storeName X.env x u) Q E s:=by
 obtain ⟨m,hn,hl⟩:=id I.loc;have BF:(X.env.scope.kind == .class || (X.env.scope.kind == .module && X.env.locals != X.env.globals))=false:=by rw [I.ok.kind];rfl
 have Cz:i<σ.length:=by rw [I.len];exact (Rv.mp hi).1
 have cne:=I.cne
 have tracked:∀ {a:Rk} {h':SR},(∃ o,s.heap.get? a=some o/\H a=none)->Ul a s.heap h'->HOk X.prog X.w H h':=fun {a h'} ha hs b ob e=>by
  obtain ⟨_,_,Ce⟩:=ha;refine (I.hok b ob e).stay (fun c w' hc q=>(hs.2 c ?_).trans q) (fun _ q=>q) fun _ _ q=>q;rintro rfl;rcases hc with rfl | hc
  · rw [Ce] at e;cases e
  · rw [Ce] at hc;cases hc
 refine wpAny_storeName_local hk hn (fun h' D2 hs=>?_) BF;obtain ⟨oL,_,_,Ib,_⟩:=id hn;refine h h' _ ⟨I.ok,I.os,I.bare,⟨fun b o e n hb hx=>?_,fun b o e n hb hx=>?_,I.base.free,fun b o e hx=>?_,I.base.tups,I.base.frzs,I.base.tbls⟩,⟨_,D2,fun j y v' e1 e2 e3=>?_⟩,fun y c e=>?_,I.free,I.freeC,fun p hp=>?_,tracked ⟨oL,Ib,I.free⟩ hs,by simpa using I.len⟩ D2 (by simp) (fun j y w hj h1 h2 h3=>?_)
 · exact (hs.2 b (R7 (R6 (RG e) I.ok.above))).trans (I.base.keep b o e n hb hx)
 · obtain ⟨sl,e1⟩:=I.base.slot b o e n hb hx;exact ⟨sl,(hs.2 b (R7 (R6 (RG e) I.ok.above))).trans e1⟩
 · obtain ⟨o',e1⟩:=I.base.there b o e hx;exact ⟨o',(hs.2 b (R7 (R6 (RG e) I.ok.above))).trans e1⟩
 · by_cases hj:j=i
   · subst hj;rw [hi] at e1;cases e1;rw [TK Cz] at e2;cases e2;exact ⟨u,r,.inl ⟨hk,by simp⟩⟩
   · rw [T2 (UG hj)] at e2;obtain ⟨u',r',q⟩:=hl j y v' e1 e2 e3;refine ⟨u',r',?_⟩;rcases q with ⟨k,e⟩ | ⟨k,c,e,z⟩
     · refine .inl ⟨k,?_⟩;have:y≠x:=fun e=>hj (e9 hN e1 (e ▸ hi));simp [this,e]
     · exact .inr ⟨k,c,e,z.sameBut hs (cne y c e)⟩
 · obtain ⟨w',z⟩:=I.cell y c e;exact ⟨w',z.sameBut hs (cne y c e)⟩
 · obtain ⟨e,n,ne,nf,d⟩:=I.pin p hp;exact ⟨(hs.2 p.1 ne).trans e,n,ne,nf,d⟩
 · obtain ⟨u',r',q⟩:=hl j y w h1 h2 (.inl h3);refine ⟨u',r',?_⟩;have Ov:y≠x:=fun e=>hj (e9 hN h1 (e ▸ hi));rcases q with ⟨k,e⟩ | ⟨k,c,e,z⟩
   · simp [Ov,e]
   · have k':X.env.scope.names.lookup y=some .cell∨X.env.scope.names.lookup y=some .free:=k;rcases k' with k' | k' <;> (rw [h3] at k';cases k')
end
def BT (X:Cx) (tg:SI) (body:List Tf) (tb:Ends->V->St->Hp->Prop):Prop :=
 ∀ (pins:List (Rk×TU)) (s:Rn) (σ:St) (H:Hp) (c:Nat) (t:Tok) (D:Ends),Inv X pins σ H s->0<t->t<s.toks->tb D (.str ⟨#[c]⟩) σ H →
   RL (RW X.prog X.w) X.A (Xb tg X.env (.str ⟨#[c]⟩ t)) (fun _ s2=>RL (RW X.prog X.w) X.A (execs body X.env) (SP X pins D) X.xe s2) X.xe s
def zy (x:Rz) (tb:Ends->V->St->Hp->Prop):TS:=fun D σ H=>∃ W:Nat->St->Hp->Prop,W 0 σ H/\∀ i σ H,W i σ H->(x.cps.size=i/\D.nx σ H)∨∃ c,x.cps[i]?=some c/\tb { D with nx:=W (i+1),ct:=W (i+1),bk:=D.nx } (.str ⟨#[c]⟩) σ H
theorem wA {X:Cx} {tg:SI} {body:List Tf} {x:Rz} {k:Nat} {A6 pos:Vw} {tb:Ends->V->St->Hp->Prop} (hp:PassesOwn (RW X.prog X.w) X.A X.env X.xe) (hc:X.calm=true) (ha:x.cps.all (·<128)=true) (hb:BT X tg body tb)
 (hs:∀ y,VH (.Constant (.str x) k A6) X.env y=pure y:=by intro _;rfl):PS X (.For tg (.Constant (.str x) k A6) body [] pos) (zy x tb):=by
 intro pins s σ H D I h;obtain ⟨W,w0,turn⟩:=h;refine wpAny_For (TF ?_) hs;have I1:Inv X pins σ H { s with toks:=s.toks+1 }:=I.tok _;refine wpAny_pyIter_ascii ha ?_;have T:=mi (P:=X.prog) (w:=X.w) (K:=X.K) (tg:=tg) x s.toks s.heap.objs.size
 have f2:∀ b∈[s.heap.objs.size],eQ X pins H b:=fun b hb=>by
  have e:b=s.heap.objs.size:=by simpa using hb
  subst e;exact I.fpOk (Rq _) (I.hok.fresh (Rq _))
 have Bg:∀ {H':Hp},(∀ b∈[s.heap.objs.size],H' b=none)->∀ b∈[s.heap.objs.size],eQ X pins H' b:=fun hn b hb=>⟨hn b hb,(f2 b hb).2⟩;refine codeAny_forLoop_any (fun n s'=>∃ i f' H',Inv X pins f' H' s'/\s'.heap.IsStrIter s.heap.objs.size "str_ascii_iterator" x s.toks i/\(∀ b∈[s.heap.objs.size],H' b=none)/\W i f' H'/\n+i=x.cps.size+1/\i<=x.cps.size/\0<s'.toks) ?_ (x.cps.size+1) ⟨0,σ,H,I1.kept (t':=s.toks+1) fun b o e=>Ro _ e,⟨_,RD _ rfl,rfl,rfl⟩,fun b hb=>(f2 b hb).1,w0,rfl,Sk _,Nat.succ_pos _⟩;rintro n s3 ⟨i,Cf,H3,I3,Gj,FL,w3,GU,J1,Iu⟩;rcases turn i Cf H3 w3 with ⟨stop,qn⟩ | ⟨c,Md,step⟩
 · refine To hp (thn (T.done X rfl rfl rfl hc i pins s3 Cf H3 X.xe I3 (Bg FL) Gj stop) fun r s4 ⟨hr,I4⟩=>?_);subst hr;exact UY ⟨Cf,H3,I4,qn⟩
 · have BS:i<x.cps.size:=(U1.mp Md).1;obtain ⟨f0,f1,QO,f3,f4,f5⟩:=Bg FL s.heap.objs.size (by simp);refine To hp (wpAny_pyNext_ascii_item Gj (c:=c) Md fun h' Bz sb=>?_);have I5:Inv X pins Cf H3 { s3 with heap:=h',toks:=s3.toks+1 }:=I3.turned (fun b o hb e=>(sb.2 b hb).trans e) f0 f1 f3 f4 f5;obtain ⟨o5,e5,c5,d5⟩:=id Bz;refine To hp (lm (s:={ s3 with heap:=h',toks:=s3.toks+1 }) e5 c5 d5 (by decide) ?_);have Jp:=I5.pinned (Bg FL) (T.obj (i+1) h' Bz);have hB:=hb _ { s3 with heap:=h',toks:=s3.toks+1 } Cf H3 c s3.toks { D with nx:=W (i+1),ct:=W (i+1),bk:=D.nx } Jp Iu (U4 _) step;have Ow:=wpAny_toks_of (n:=1) (show 1<=s3.toks+1 by omega) hB;refine To hp (SA Ow (fun _ s6 ⟨Ox,h6⟩=>?_) fun e s' h=>h.2);have Oy:=wpAny_toks_of (n:=1) Ox h6;refine To hp (SA Oy (fun f s7 ⟨Oz,q7⟩=>?_) fun e s' h=>h.2)
   have again:∀ {BR:St} {H7:Hp},Inv X (pins++iJ [s.heap.objs.size] h') BR H7 s7->W (i+1) BR H7->∃ m,m<n/\∃ i f' H',Inv X pins f' H' s7/\s7.heap.IsStrIter s.heap.objs.size "str_ascii_iterator" x s.toks i/\(∀ b∈[s.heap.objs.size],H' b=none)/\W i f' H'/\m+i=x.cps.size+1/\i<=x.cps.size/\0<s7.toks:=fun {BR H7} I7 n7=>by
    refine ⟨n - 1,by omega,i+1,BR,H7,I7.unpinned,T.keep _ _ _ Bz fun b hb o e=>(I7.pin (b,o) (RI _ (RI _ (cw hb e)))).1,fun b hb=>?_,n7,by omega,by omega,Oz⟩;obtain ⟨o,e,d⟩:=T.obj _ _ Bz b hb;exact (I7.pin (b,o) (RI _ (RI _ (cw hb e)))).2.1
   cases f with
   | next=>obtain ⟨BR,H7,I7,n7⟩:=q7;exact again I7 n7
   | cont=>obtain ⟨BR,H7,I7,n7⟩:=q7;exact again I7 n7
   | brk=>obtain ⟨BR,H7,I7,q7⟩:=q7;exact ⟨BR,H7,I7.unpinned,q7⟩
   | ret v=>obtain ⟨x7,BR,H7,I7,r7,q7⟩:=q7;exact ⟨x7,BR,H7,I7.unpinned,r7,q7⟩
def zU (i j:Nat):Ends->V->St->Hp->Prop:=fun D v σ H=>∃ (z:Rz) (c:Nat),v=.str ⟨#[c]⟩/\σ[j]?=some (some (.str z))/\c≠32/\z.length<=1000000/\D.nx ((σ.set i (some v)).set j (some (.str (ofL (dQ c [32,c,32] z.cps.toList))))) H
theorem xR {c:Nat}:((⟨#[c]⟩:Rz) == (⟨#[32,c,32]⟩:Rz))=false:=by
 refine beq_false_of_ne fun z=>?_;have:=congrArg (fun w:Rz=>w.cps.size) z;cases this
theorem yg {X:Cx} {i j:Nat} {x y:Rz} {p0 p1 p2 p3 p4 p5 p6 p7 p8 p9 J2 J3:Vw} {k1 k2:Nat} (hN:X.N.Nodup) (hi:X.N[i]?=some x) (hj:X.N[j]?=some y) (Ek:i≠j) (hx:X.env.scope.names.lookup x=some .local) (hy:X.env.scope.names.lookup y=some .local)
 (Iv:(x == ("__debug__":Rz))=false:=by decide) (OA:(y == ("__debug__":Rz))=false:=by decide) (BI:(p4.endLine == J2.line)=true:=by rfl)
 (hs:Wa (.Call (.Attribute (.Name y p3) "replace" p4) [.Name x p5,.JoinedStr [.Constant (.str (Rc " ")) k1 p6,.FormattedValue (.Name x p7) (-1) none p8,.Constant (.str (Rc " ")) k2 p9] J3] [] J2) (some (.Name y p2)) p1.line X.env=pure false:=by rfl) :
 BT X (.Name x p0) [.Assign [.Name y p2] (.Call (.Attribute (.Name y p3) "replace" p4) [.Name x p5,.JoinedStr [.Constant (.str (Rc " ")) k1 p6,.FormattedValue (.Name x p7) (-1) none p8,.Constant (.str (Rc " ")) k2 p9] J3] [] J2) p1] (zU i j):=by
 intro pins s σ H c t D I OB ht h;obtain ⟨z,c',hv,OC,OD,hz,q⟩:=h
 have Ic:c=c':=by
  have h1:=V.str.inj hv;have h2:=congrArg (fun w:Rz=>w.cps) h1;simpa using h2
 subst Ic;refine wpAny_assign_Name (nB (v:=.str ⟨#[c]⟩) I hN hi hx ⟨t,rfl⟩ fun h' m' I2 hn Me hm=>?_);obtain ⟨u0,r0,OE⟩:=hm j y _ (UG Ek) hj OC hy;obtain ⟨t0,rfl⟩:=r0;refine Vk ?_;refine Wm (UW rfl rfl BI rfl (WK (Vd I2.ok.kind hy hn OE ?_) OA)) hs;refine ⟨"str","str.replace",Sr,V5,V4,Uu _ _ _,(fun _ e=>nomatch e),?_⟩;refine Um rfl (UN ?_);show RL _ _ (spliced [(false,TZ (.Name x p5) X.env),(false,TZ (.JoinedStr [.Constant (.str (Rc " ")) k1 p6,.FormattedValue (.Name x p7) (-1) none p8,.Constant (.str (Rc " ")) k2 p9] J3) X.env)]) _ _ _;refine Tc (WK (Vd I2.ok.kind hx hn Me ?_) Iv);refine Tc ?_
 have fin:∀ (t2 k:Nat),t<t2->RL (RW X.prog X.w) X.A (call (.builtin "str.replace") [.str z t0,.str ⟨#[c]⟩ t,.str ⟨#[32,c,32]⟩ t2]) (fun v Ab=>RL (RW X.prog X.w) X.A (storeName X.env y v) (fun _ s'=>RL (RW X.prog X.w) X.A (execs [] X.env) (SP X pins D) X.xe s') X.xe Ab) X.xe { s with heap:=h',toks:=k }:=fun t2 k hk=>by
  refine SC.replaceW (Uc OB) (Uc (WX (Sk _) hk)) (R7 hk) xR (by omega) (by show 3<=14;decide) fun t' k'=>?_;rw [replace_one z ⟨#[32,c,32]⟩ c (by show 3≠0;decide)];refine dX (v:=.str (ofL (dQ c [32,c,32] z.cps.toList))) (I2.tok k') hN hj (.inl hy) ⟨t',rfl⟩ (fun s2 I3=>UY ⟨_,H,I3,?_⟩) (.inr hy);exact q
 have e3:Tr++Rc " "++(⟨#[c]⟩:Rz)++Rc " "=⟨#[32,c,32]⟩:=rfl;have big:∀ n:Nat,n<=100->n<=RS:=fun n hn=>by rw [T7];omega
 refine wpAny_JoinedStr ?_;show RL _ _ (TZ (.Constant (.str (Rc " ")) k1 p6) X.env) _ _ _;refine TF ⟨_,_,rfl,big _ (by decide),?_⟩;show RL _ _ (TZ (.FormattedValue (.Name x p7) (-1) none p8) X.env) _ _ _;refine wpAny_FormattedValue_plain (WK (Vd I2.ok.kind hx hn Me ?_) Iv)
 have last:∀ k:Nat,t<k->RL (RW X.prog X.w) X.A (TZ (.Constant (.str (Rc " ")) k2 p9) X.env) (fun v Ab=>∃ y' t',v=.str y' t'/\(Tr++Rc " "++(⟨#[c]⟩:Rz)++y').length<=RS/\Joins (RW X.prog X.w) X.A X.xe (evalEach [] X.env) (Tr++Rc " "++(⟨#[c]⟩:Rz)++y') (fun out Ab=>out.length<=RS/\RL (RW X.prog X.w) X.A (spliced []) (fun vs Bj=>RL (RW X.prog X.w) X.A (call (.builtin "str.replace") ([.str z t0]++(.str ⟨#[c]⟩ t::.str out Ab.toks::vs))) (fun v Ab=>RL (RW X.prog X.w) X.A (storeName X.env y v) (fun _ s'=>RL (RW X.prog X.w) X.A (execs [] X.env) (SP X pins D) X.xe s') X.xe Ab) X.xe Bj) X.xe { Ab with toks:=Ab.toks+1 }) Ab) X.xe { s with heap:=h',toks:=k }:=fun k hk=>by
  refine TF ⟨_,_,rfl,big _ (by show 3<=100;decide),?_⟩;show _<=RS/\_;rw [e3];refine ⟨big _ (by show 3<=100;decide),?_⟩;exact UM (fin _ _ (Tp hk))
 refine wpAny_formatField_str ?_ ?_ (big _ (by show 1<=100;decide))
 · exact ⟨_,_,rfl,big _ (by show 2<=100;decide),last _ (Tp (Tp ht))⟩
 · exact ⟨_,_,rfl,big _ (by show 2<=100;decide),last _ (Tp (Tp (Tp ht)))⟩
end L2
namespace L2
open PySem PySem.Spec PySem.Calls PyProof.Rows PySem.Builtin PySem.Builtin.Str BB
variable {X:Cx}
def yz:V->List V->Hp->VK->Prop:=fun x vs H Q=>∃ z y,x=.str z/\vs=[.str y]/\(y.length == 0)=false/\z.length<=1000000/\∀ p,H p=none->Q (.ref p) (upd H p (.lst ((Ta z y).map V.str)))
theorem m9:∀ {l:List (Rz×Tok)} {zs:List Rz},l.map (·.1)=zs->Vals (zs.map V.str) (strValues l)
 | [],_,e=>by subst e;exact .nil
 | (z,t)::l,_,e=>by
   subst e;exact .cons ⟨t,rfl⟩ (m9 rfl)
theorem split_len (z y:Rz) (hz:z.length<=1000000):(partsBetween z (occurrences z y 0 z.length (z.length+1)) y.length).length<=RS/\(Ta z y).length<=RS:=by
 have h1:=StrLaws.occ_length_le z y 0 z.length (z.length+1);have h2:=PySem.length_partsBetween z (occurrences z y 0 z.length (z.length+1)) y.length;have h3:RS=16777216:=T7;refine ⟨by omega,?_⟩;unfold Ta;split
 · show 1<=RS;omega
 · split
   · show 1<=RS;omega
   · omega
theorem iW:MtR X "str.split" yz:=by
 intro pins s σ H x vs v us Q I rx rv h;obtain ⟨z,y,rfl,rfl,hy,hz,q⟩:=h;obtain ⟨t,rfl⟩:=rx;obtain ⟨u,rfl,t',rfl⟩:=rv.one;obtain ⟨AA,AG⟩:=split_len z y hz;have hf:H s.heap.objs.size=none:=I.hok.fresh (Rq _)
 have fin:∀ (l:List (Rz×Tok)) (k:Nat),l.map (·.1)=Ta z y->EP X pins σ Q (.ref s.heap.objs.size) { s with toks:=k,heap:=s.heap.push { cls:=.type "list",data:=.seq (strValues l).toArray } }:=fun l k hl=>by
  refine ⟨.ref s.heap.objs.size,upd H s.heap.objs.size (.lst ((Ta z y).map V.str)),I.laid (t':=k) (fun b u e=>Ro _ e) (Rq _) ?_,rfl,q _ hf⟩;exact ⟨by rw [Rf];exact AG,_,_,m9 hl,RD _ rfl⟩
 cases h1:(decide (z.length<y.length) || decide (strKind z<strKind y))
 · cases hf:(occurrences z y 0 z.length (z.length+1)).isEmpty
   · refine UX F.slot_str_split (Uu _ _ _) F.entry_str_split (F.args_str_split_2 _ _) (meets_str_split_sep z y t t' h1 hy hf (by rw [T7];omega) AA) ?_;show wants (EP X pins σ Q) X.xe _ { s with toks:=_,heap:=s.heap.push { cls:=.type "list",data:=.seq (strsFrom s.toks (partsBetween z (occurrences z y 0 z.length (z.length+1)) y.length)).toArray } };rw [strsFrom_eq];exact fin (numbered s.toks _) _ ((numbered_texts _ _).trans ((if_neg (ne_true_of_eq_false h1)).trans (if_neg (ne_true_of_eq_false hf))).symm)
   · exact UX F.slot_str_split (Uu _ _ _) F.entry_str_split (F.args_str_split_2 _ _) (meets_str_split_not_found z y t t' h1 hy hf) (fin [(z,t)] s.toks ((if_neg (ne_true_of_eq_false h1)).trans (if_pos hf)).symm)
 · exact UX F.slot_str_split (Uu _ _ _) F.entry_str_split (F.args_str_split_2 _ _) (meets_str_split_cannot_occur z y t t' h1) (fin [(z,t)] s.toks (if_pos h1).symm)
end L2
namespace BB
open PySem L2
def rep3 (l:List Nat):List Nat:=dQ 44 [32,44,32] (dQ 41 [32,41,32] (dQ 40 [32,40,32] l))
def spS (d:Nat):List Nat:=if d=40∨d=41∨d=44 then [32,d,32] else [d]
theorem wL (l:List Nat):rep3 l=l.flatMap spS:=by
 unfold rep3 dQ;rw [WY,WY];congr 1;funext d;unfold spS;by_cases h1:d=40
 · subst h1;rfl
 · rw [if_neg h1];by_cases h2:d=41
   · subst h2;rfl
   · by_cases h3:d=44
     · subst h3;rfl
     · rw [if_neg (by omega)];simp [h2,h3]
def wds (l:List Nat):List (List Nat):=(aw 32 l).filter fun p=>!p.isEmpty
theorem dL (c:Nat) (b:List Nat):∀ a:List Nat,aw c (a++c::b)=aw c a++aw c b
 | []=>by simp [aw]
 | d::a=>by
   rw [RZ,aw,dL c b a,aw];by_cases h:d=c
   · rw [if_pos h,if_pos h];rfl
   · rw [if_neg h,if_neg h];obtain ⟨p,r,e⟩:=bQ c a;rw [e];rfl
theorem gD (a b:List Nat):wds (a++32::b)=wds a++wds b:=by unfold wds;rw [dL,List.filter_append]
theorem b9 (c:Nat):∀ w:List Nat,(∀ d∈w,d≠c)->aw c w=[w]
 | [],_=>rfl
 | d::w,h=>by rw [aw,if_neg (h d (Rr ..)),b9 c w fun e he=>h e (Rp _ he)]
theorem pG {w:List Nat} (h:∀ d∈w,d≠32) (Am:w≠[]):wds w=[w]:=by
 unfold wds;rw [b9 32 w h,U7,List.filter_nil];cases w with
 | nil=>exact absurd rfl Am
 | cons d w=>rfl
def wordsOf (x:Rz):List Rz:=(wds (rep3 x.cps.toList)).map ofL
mutual
def Th.wT:Th->List Rz
 | .knot n ts=>n::(if ts=[] then [] else lpar::(wTs ts++[rpar]))
 | .call _ _=>[]
def wTs:List Th->List Rz
 | []=>[]
 | t::ts=>t.wT++(if ts=[] then [] else comma::wTs ts)
end
def sL (x:Rz):List Nat:=x.cps.toList
theorem lv:sL comma=[44]:=by decide +kernel
theorem oJ:sL lpar=[40]:=by decide +kernel
theorem oR:sL rpar=[41]:=by decide +kernel
def okW (x:Rz):Prop:=Low x/\x.length≠0
theorem join_cons (sep x:Rz) (xs:List Rz):Vf sep (x::xs)=if xs=[] then x else x++sep++Vf sep xs:=by
 cases xs with
 | nil=>rfl
 | cons y ys=>rfl
mutual
theorem sj:∀ t:Th,(∀ p∈t.walk,p.isCall=false)->sL t.show=(t.wT.map sL).flatten
 | .call _ _,h=>by
   have:=h _ (by rw [Th.walk];exact Rr ..);cases this
 | .knot n ts,h=>by
   rw [Th.show,Th.wT];have hs:=qg ts fun p hp=>h p (by rw [Th.walk];exact Rp _ hp);unfold pU;by_cases h0:ts=[]
   · subst h0;simp [bV]
   · have he:(bV ts).isEmpty=false:=by
      cases ts with
      | nil=>exact absurd rfl h0
      | cons x xs=>rw [bV];rfl
     rw [he,if_neg (by decide),if_neg h0];have hj:SK comma (bV ts)=Vf comma (bV ts):=U2 _ _;rw [hj];unfold sL at hs ⊢;rw [Tx,Tx,Tx,Ss,Ss,Ss,hs];simp
theorem qg:∀ ts:List Th,(∀ p∈walks ts,p.isCall=false)->sL (Vf comma (bV ts))=((wTs ts).map sL).flatten
 | [],_=>by rw [bV,wTs];rfl
 | t::ts,h=>by
   have h1:=sj t fun p hp=>h p (by rw [walks];exact Su _ hp);have h2:=qg ts fun p hp=>h p (by rw [walks];exact RI _ hp);rw [bV,wTs,join_cons];by_cases h0:ts=[]
   · subst h0;rw [bV,if_pos rfl,if_pos rfl,RP];exact h1
   · have he:bV ts≠[]:=by
      cases ts with
      | nil=>exact absurd rfl h0
      | cons x xs=>rw [bV];simp
     rw [if_neg he,if_neg h0];unfold sL at h1 h2 ⊢;rw [Tx,Tx,Ss,Ss,h1,h2];simp
end
end BB
namespace BB
open PySem L2
section
variable {H H':Hp} {t:Th} {a:Rk} {ts:List Th} {es:List Rk}
end
theorem t9 {base n:Int} (hn:0<=n):(nameOf base n).length≠0:=by
 unfold nameOf;split
 · rw [iX];have h8:=cU (base / 112) 8;rw [h8];have h1:HT.sIx 8 0 none=0:=rfl
   have h2:HT.sIx 8 8 (some (n+1))≠0:=by
    have e:n+1=((n.toNat+1:Nat):Int):=by omega
    rw [e,HT.sIx_nat];omega
   rw [h1];omega
 · rw [RT,RT];have:(⟨#[jT base n]⟩:Rz).length=1:=rfl;omega
theorem j3 (cell:Int):∀ k∈cm cell,okW k.1:=fun k hk=>by
 obtain ⟨i,hi⟩:=Sv.mp hk;obtain ⟨e,_⟩:=cM hi;refine ⟨((fh cell).low k hk).1,?_⟩;rw [e];exact t9 (by omega)
end BB
namespace L2
open PySem PySem.Spec PyProof.Rows BB
variable {X:Cx}
end L2
namespace L2
open PySem PySem.Spec PyProof.Rows PySem.W
end L2
namespace L2
open PySem PySem.Spec PyProof.Rows BB
variable {X:Cx}
end L2
namespace L2
open PySem PySem.Spec PySem.Calls PyProof.Rows PySem.W
end L2
namespace BB
open PySem L2 PySem.Builtin PySem.Builtin.Str
theorem dw (x y:Rz):sL (x++y)=sL x++sL y:=by unfold sL;rw [Tx,Ss]
theorem dW (x:Rz):(sL x).length=x.length:=RE
def blk:Rz:=Rc " "
theorem yM:sL blk=[32]:=by decide +kernel
def jn:List (List Nat)->List Nat
 | []=>[]
 | [x]=>x
 | x::y::r=>x++32::jn (y::r)
theorem dA:∀ ws:List Rz,sL (SK blk ws)=jn (ws.map sL):=by
 intro ws;have h1:SK blk ws=Vf blk ws:=U2 _ _;rw [h1];clear h1;induction ws with
 | nil=>rfl
 | cons x ws ih =>
   rw [join_cons];cases ws with
   | nil=>rw [if_pos rfl];rfl
   | cons y ws =>
     rw [if_neg (by simp),dw,dw,ih,yM,RM];rfl
theorem vH:∀ ls:List (List Nat),wds (jn ls)=(ls.map wds).flatten
 | []=>rfl
 | [x]=>by rw [jn,RB,TY,R0,List.flatten_nil,RP]
 | x::y::r=>by
   rw [jn,gD,vH (y::r)];rfl
theorem um {c:Nat}:∀ {ls:List (List Nat)},c∈jn ls->c=32∨∃ l∈ls,c∈l
 | [],h=>by rw [jn] at h;cases h
 | [x],h=>by rw [jn] at h;exact .inr ⟨x,Rr ..,h⟩
 | x::y::r,h=>by
   rw [jn] at h;rcases RN.mp h with h | h
   · exact .inr ⟨x,Rr ..,h⟩
   · rcases RA.mp h with h | h
     · exact .inl h
     · rcases um h with h | ⟨l,hl,hc⟩
       · exact .inl h
       · exact .inr ⟨l,Rp _ hl,hc⟩
theorem vx:∀ ls:List (List Nat),(jn ls).length<=(ls.map (·.length)).sum+ls.length
 | []=>Rq _
 | [x]=>by rw [jn];simp
 | x::y::r=>by
   have:=vx (y::r);rw [jn,Rm,Rh,RB,Tj,Rh];omega
end BB
namespace L2
open PySem PySem.Spec PySem.Calls PyProof.Rows PySem.Builtin PySem.Builtin.Str BB
variable {X:Cx}
end L2
namespace L2
open PySem PySem.Spec PyProof.Rows
theorem qQ {v:Const} {k:Nat} {p:Vw} {es:List SI} {env:WH}:Sq (.Constant v k p::es) env=(false,TZ (.Constant v k p) env)::Sq es env:=by
 rw [Sq];intro e q z;cases z
theorem rT {es:List SI} {p:Vw} {t:Option SI} {l:Nat} {env:WH}:Wa (.List es p) t l env=pure false:=rfl
def u7 (zs:List Rz):TA:=fun _ H Q=>Q (zs.map V.str) H
theorem eB {X:Cx}:∀ (zs:List (Rz×Nat×Vw)),PA X (zs.map fun z=>.Constant (.str z.1) z.2.1 z.2.2) (u7 (zs.map fun z=>z.1))
 | []=>ae
 | z::zs=>by
   have h:PA X (.Constant (.str z.1) z.2.1 z.2.2::zs.map fun z=>.Constant (.str z.1) z.2.1 z.2.2) (bJ (tC (.str z.1)) (u7 (zs.map fun z=>z.1))):=aa ax (eB zs) qQ;exact h
theorem sK {X:Cx} (zs:List (Rz×Nat×Vw)) {i:Nat} {x:Rz} {p0 p1 p2:Vw} (hN:X.N.Nodup) (hi:X.N[i]?=some x) (hx:Loc X.env.scope x) (hf:X.fn x=true∨X.env.scope.names.lookup x=some .local) :
 PS X (.Assign [.Name x p0] (.List (zs.map fun z=>.Constant (.str z.1) z.2.1 z.2.2) p1) p2) (qV (xc (u7 (zs.map fun z=>z.1))) (aC i)):=ao hN hi hx (aW (eB zs)) rT hf
end L2
namespace BB
open PySem L2
mutual
theorem pj {ks:List (Rz×Int)} {S C:Int} (hn:(ks.map (·.1)).Nodup):∀ {t:Th},t.FitS ks S C->fpb ks S C t=true
 | .knot n ts,h=>by
   rw [Th.FitS] at h;rw [ur,okP,decide_eq_true ((lV hn).mpr h.1),UC];exact mr hn h.2
 | .call s k,h=>by
   rw [Th.FitS] at h;rw [ur,okP,decide_eq_true ⟨h.1,h.2.1⟩,decide_eq_true ⟨h.2.2.1,h.2.2.2⟩];rfl
theorem mr {ks:List (Rz×Int)} {S C:Int} (hn:(ks.map (·.1)).Nodup):∀ {ts:List Th},FitSs ks S C ts->vh ks S C ts=true
 | [],_=>rfl
 | t::ts,h=>by
   rw [FitSs] at h;rw [lx,RB,VG,pj hn h.1,<- lx,mr hn h.2];rfl
end
end BB
namespace BB
open PySem L2 PySem.Builtin PySem.Builtin.Str
def oy (c:Nat):Nat->List Nat->List Nat
 | _,[]=>[]
 | off,d::l=>if d=c then [off] else oy c (off+1) l
theorem gd (x y:Rz) (n:Nat):∀ (l:List Nat) (st:Array Nat×Nat),st.1.size=1->(forIn l st (Si x y n 1)).run.fst=st.1
 | [],st,_=>rfl
 | a::l,st,h=>by
   rw [S9];unfold Si;rw [if_neg (fun z=>by have:=z.1.1.1;omega)];exact gd x y n l st h
theorem fj (x:Rz) (c:Nat):∀ (l pre:List Nat) (free:Nat),x.cps.toList=pre++l->free<=pre.length →
 (forIn (V1 pre.length (l.length+1)) (#[],free) (Si x ⟨#[c]⟩ x.length 1)).run.fst.toList=oy c pre.length l
 | [],pre,free,hx,_=>by
   have hlen:pre.length=x.length:=by
    have:=congrArg TB hx;rw [RE,RP] at this;exact this.symm
   rw [TM,hlen,oy];show ((forIn [x.length] (#[],free) (Si x ⟨#[c]⟩ x.length 1)).run.fst).toList=[];rw [S9];unfold Si;rw [if_neg (fun z=>by have:=z.1.2;rw [cE] at this;omega)];rfl
 | d::l,pre,free,hx,hf=>by
   have hlen:x.length=pre.length+(l.length+1):=by
    have:=congrArg TB hx;rw [RE,Rm,Rh] at this;exact this
   rw [List.range'_succ,S9,Rh];have hg:x.cps.toList[pre.length]?=some d:=by rw [hx];simp
   have Bs:=subAt_one x c pre.length (by omega);rw [hg] at Bs;have B1:x.cps.toList=(pre++[d])++l:=by rw [hx];simp
   have A9:(pre++[d]).length=pre.length+1:=by simp
   unfold Si;rw [oy];by_cases Be:d=c
   · have h1:(((#[]:Array Nat).size<1/\free<=pre.length)/\pre.length+(⟨#[c]⟩:Rz).length<=x.length)/\subAt x ⟨#[c]⟩ pre.length=true:=by
      rw [cE,Bs,Be];exact ⟨⟨⟨by decide,hf⟩,by omega⟩,decide_eq_true rfl⟩
     rw [if_pos h1,if_pos Be];show ((forIn (V1 (pre.length+1) (l.length+1)) ((#[]:Array Nat).push pre.length,pre.length+1) (Si x ⟨#[c]⟩ x.length 1)).run.fst).toList=_;rw [gd _ _ _ _ _ rfl];rfl
   · have h1:¬ ((((#[]:Array Nat).size<1/\free<=pre.length)/\pre.length+(⟨#[c]⟩:Rz).length<=x.length)/\subAt x ⟨#[c]⟩ pre.length=true):=fun z=>by
      have h2:=z.2;rw [Bs] at h2;exact Be (Ry (of_decide_eq_true h2))
     rw [if_neg h1,if_neg Be];have ih:=fj x c l (pre++[d]) free B1 (by omega);rw [A9] at ih;exact ih
theorem qr (c:Nat) (post:List Nat):∀ (pre:List Nat) (off:Nat),(∀ d∈pre,d≠c)->oy c off (pre++c::post)=[off+pre.length]
 | [],off,_=>by rw [Sn,oy,if_pos rfl];rfl
 | d::pre,off,h=>by
   rw [RZ,oy,if_neg (h d (Rr ..)),qr c post pre (off+1) fun e he=>h e (Rp _ he),Rh];congr 1;omega
theorem occ_first {x:Rz} {c:Nat} {pre post:List Nat} (hx:x.cps.toList=pre++c::post) (hp:∀ d∈pre,d≠c):occurrences x ⟨#[c]⟩ 0 x.length 1=[pre.length]:=by
 rw [Xf];have h:=fj x c (pre++c::post) [] 0 hx (Rq _)
 have hlen:x.length=(pre++c::post).length:=by
  rw [<- hx,RE];rfl
 rw [TM,<- hlen] at h;rw [show x.length+1 - 0=x.length+1 by omega,h,qr c post pre 0 hp,Uy]
end BB
namespace L2
open PySem PySem.Spec PySem.SeqAt PySem.Calls PyProof.Rows PySem.Builtin PySem.Builtin.Str BB
variable {X:Cx}
def zY (K:Ri) (n:Nat) (t:TGs):TG:=fun v σ H Q=>∃ a xs,v=.ref a/\SqL K H a xs/\xs.length=n/\t xs σ H Q
theorem xT {es:List SI} {k:Nat} {t:TGs} {n:Nat} {pos:Vw} (hc:X.calm=true) (h:PGs X es t)
 (hn:(VR es X.env).length=n:=by rfl) (AE:(VR es X.env).findIdx? (·.1)=none:=by rfl):PG X (.Tuple es k pos) (zY X.K n t):=by
 intro pins s σ H v u Q I r hw;obtain ⟨a,xs,e1,hq,hl,hw⟩:=hw;subst e1;cases r;obtain ⟨its,rv,ht,hz⟩:=I.list hq;rw [assign_Tuple];refine Rj (Wu ?_);unfold unpack;have Az:its.toArray.size=n:=by rw [Rt,<- rv.length,hl]
 rw [hn,AE,<- Az];refine Rj (Uo (PySem.W.kun_itemsOf (I.ok.hd hc) ht.isList fun h' hx=>?_));have I1:Inv X pins σ H { s with heap:=h' }:=I.kept (t':=s.toks) fun b o e=>hx b o (R7 (RG e)) e;exact h pins _ σ H xs _ Q I1 (by simpa using rv) hw
def yZ:List V->Hp->VK->Prop:=fun xs H Q=>∃ (x:Rz) (n:Int),xs=[.str x]/\WB x=some n/\x.length<=640/\Q (.int n) H
theorem t5:ej X (.type "int") yZ:=by
 intro pins s σ H xs us Q I r h;obtain ⟨x,n,rfl,hn,hl,q⟩:=h;obtain ⟨u,rfl,t,rfl⟩:=r.one;exact PySem.W.KIN.call_text hn hl ⟨.int n,H,I.tok _,⟨_,rfl⟩,q⟩
def aat (K:Ri):R2:=fun x y H Q=>∃ z,y=.str z/\((∃ w,x=.str w/\Q (.bl (decide (w=z))) H)∨∃ a vs,x=.ref a/\SqT K H a vs/\Q (.bl false) H)
theorem jN (hu:X.A.units+2<WA):OpR X (TH .Eq) (aat X.K):=by
 intro pins s σ H x y v u Q I rx ry h;obtain ⟨z,rfl,h⟩:=h;obtain ⟨t',rfl⟩:=ry;rcases h with ⟨w,rfl,q⟩ | ⟨a,vs,rfl,ha,q⟩
 · obtain ⟨t,rfl⟩:=rx
   have e:decide (w=z)=(w == z):=by
    by_cases h:w=z
    · subst h;simp
    · rw [decide_eq_false h];exact (beq_false_of_ne h).symm
   rw [e] at q;exact RcAt.str_str w t z t' X.prog X.w X.xe _ ⟨.bl (w == z),H,I,rfl,q⟩
 · cases rx;obtain ⟨its,rv,ht,hz⟩:=I.tuple ha;exact RcAt.tuple_str z t' (show s.heap.IsTuple a its.toArray from ht) (by omega) X.prog X.w X.xe _ ⟨.bl false,H,I,rfl,q⟩
def xC:V->List V->Hp->VK->Prop:=fun x vs H Q=>∃ (z:Rz) (c:Nat) (pre post:List Nat),x=.str z/\vs=[.str ⟨#[c]⟩]/\z.cps.toList=pre++c::post/\(∀ d∈pre,d≠c)/\z.length<=1000000/\∀ p,H p=none->Q (.ref p) (upd H p (.tup [.str (ofL pre),.str ⟨#[c]⟩,.str (ofL post)]))
theorem oU:MtR X "str.partition" xC:=by
 intro pins s σ H x vs v us Q I rx rv h;obtain ⟨z,c,pre,post,rfl,rfl,hx,hp,hz,q⟩:=h;obtain ⟨t,rfl⟩:=rx;obtain ⟨u,rfl,t',rfl⟩:=rv.one;have J4:=occ_first hx hp;have hf:H s.heap.objs.size=none:=I.hok.fresh (Rq _);have hm:=meets_str_partition z ⟨#[c]⟩ t t' rfl (by rw [T7];omega);rw [J4] at hm;refine UX F.slot_str_partition (Uu _ _ _) F.entry_str_partition (F.args_str_partition_2 _ _) hm ?_
 have e1:strSub z 0 pre.length=ofL pre:=cn (by
  rw [aB];show (z.cps.extract 0 pre.length).toList=pre;rw [Array.toList_extract,hx];simp)
 have e2:strSub z (pre.length+(⟨#[c]⟩:Rz).length) z.length=ofL post:=cn (by
  rw [aB];show (z.cps.extract (pre.length+1) z.cps.size).toList=post
  have Az:z.cps.size=pre.length+(post.length+1):=by
   rw [<- RE,hx,Rm,Rh]
  rw [Array.toList_extract,hx,Az];simp;exact Sd (by omega))
 show wants (EP X pins σ Q) X.xe _ { s with toks:=s.toks+1+1,heap:=s.heap.push { cls:=.type "tuple",data:=.seq [.str (strSub z 0 pre.length) s.toks,.str ⟨#[c]⟩ t',.str (strSub z (pre.length+(⟨#[c]⟩:Rz).length) z.length) (s.toks+1)].toArray } };rw [e1,e2];refine ⟨.ref s.heap.objs.size,upd H s.heap.objs.size (.tup [.str (ofL pre),.str ⟨#[c]⟩,.str (ofL post)]),I.laid (t':=s.toks+1+1) (fun b u e=>Ro _ e) (Rq _) ?_,rfl,q _ hf⟩;exact ⟨by show 3<=RS;decide,_,_,.cons ⟨_,rfl⟩ (.cons ⟨_,rfl⟩ (.cons ⟨_,rfl⟩ .nil)),RD _ rfl⟩
theorem u8:zI X (zG X.K):=by
 intro pins s σ H o i ov iv Q I r1 r2 h;obtain ⟨p,xs,k,z,rfl,rfl,hq,he,q⟩:=h;cases r1;obtain ⟨t,rfl⟩:=r2;obtain ⟨its,r,pl,hz⟩:=I.list hq;obtain ⟨j,h1,h2,h3,h4,h5⟩:=kK he;obtain ⟨w,ew,Cv⟩:=r.get h2;have hl:=r.length;have hn:=fT;have fin:EP X pins σ Q w s:=⟨z,H,I,Cv,q⟩;by_cases h0:0<=k
 · have hj:k.toNat=j:=by
    rw [seqIndex_of h0 h5] at h1;exact Ry h1
   exact wpAny_getItem_list pl.isList h0 (by omega) (by rw [hj];simpa using ew) fin
 · have hj:(k+(its.toArray.size:Int)).toNat=j:=by
    rw [seqIndex_neg (by omega) h4] at h1;rw [Rt,<- hl];exact Ry h1
   exact wpAny_getItem_list_neg pl.isList (by omega) (by rw [Rt,<- hl];omega) (by omega) (by rw [hj];simpa using ew) fin
def yQ (K:Ri) (sep y z:Rz) (te:TE):TE:=fun σ H Q=>te σ H fun v H1=>∃ p ys,v=.ref p/\SqL K H1 p (ys.map V.str)/\(ys.map (·.length)).sum+ys.length * sep.length<=1000000/\(SK sep ys).length<=1000000/\Q (.str (Wn (SK sep ys) y z)) H1
theorem wY {sep y z:Rz} {e:SI} {te:TE} {k0 k1 k2:Nat} {p0 p1 p2 p3 p4 p5 p6:Vw} (he:PE X e te) (J5:(y == z)=false) (hz:z.length<=14)
 (hs:Sq [e] X.env=[(false,TZ e X.env)]:=by rfl) (AA:(p1.endLine == p2.line)=true:=by rfl) (AG:(p3.endLine == p6.line)=true:=by rfl)
 (OF:((VI p2 (Sq [e] X.env)).all (fun x=>!x.1) && (backToKw p2 (keywordEach [] X.env)).all (fun x=>x.1.isSome) && decide (([e]:List SI).length+([]:List Keyword).length+(if ([]:List Keyword).isEmpty then 0 else 1)<30))=true:=by rfl) :
 PE X (.Call (.Attribute (.Call (.Attribute (.Constant (.str sep) k0 p0) "join" p1) [e] [] p2) "replace" p3) [.Constant (.str y) k1 p4,.Constant (.str z) k2 p5] [] p6) (yQ X.K sep y z te):=by
 intro pins s σ H Q I h;refine UW rfl rfl AG rfl ?_;refine UW rfl OF AA rfl (TF ?_);refine ⟨"str","str.join",Sr,VA,Vy,Uu _ _ _,(fun _ e=>nomatch e),?_⟩;have I1:Inv X pins σ H { s with toks:=s.toks+1 }:=I.tok _;refine wpAny_with_toks (n:=1) (show 1<=s.toks+1 by omega) ?_;refine SA (Q:=EP X pins σ fun x H1=>∃ ys,x=.str (SK sep ys)/\(SK sep ys).length<=1000000/\Q (.str (Wn (SK sep ys) y z)) H1) (E:=X.xe) ?_ (fun v s1 hv hk=>?_) fun e s' h _=>h
 · have hA:=(aa he (@ae X) hs) p2 pins _ σ H (fun vs H1=>match vs with | [v]=>∃ p ys,v=.ref p/\SqL X.K H1 p (ys.map V.str)/\(ys.map (·.length)).sum+ys.length * sep.length<=1000000/\(SK sep ys).length<=1000000/\Q (.str (Wn (SK sep ys) y z)) H1 | _=>False) I1 h;rw [hs] at hA ⊢;refine Um rfl (UN ?_);refine thn hA fun us s2 ⟨vs,H2,I2,r2,q2⟩=>kW pins s2 σ H2 (.str sep) vs (.str sep s.toks) us _ I2 ⟨_,rfl⟩ r2 ?_
   match vs,q2 with
   | [v],⟨p,ys,e1,hl,Iw,OG,q⟩=>exact ⟨sep,p,ys,rfl,by rw [e1],hl,by omega,ys,rfl,OG,q⟩
 · obtain ⟨x,H1,I2,rx,ys,rfl,hlen,q⟩:=hv;obtain ⟨t,rfl⟩:=rx;refine ⟨"str","str.replace",Sr,V5,V4,Uu _ _ _,(fun _ e=>nomatch e),?_⟩;refine Um rfl (UN ?_);show RL _ _ (spliced [(false,TZ (.Constant (.str y) k1 p4) X.env),(false,TZ (.Constant (.str z) k2 p5) X.env)]) _ _ _;refine Tc (TF (Tc (TF (UM ?_))));exact SC.replaceW (Uc hk) (Nat.succ_ne_zero _) (R7 (U4 _)) J5 (by omega) hz fun t' k'=>⟨.str _,H1,I2.tok k',⟨_,rfl⟩,q⟩
end L2
namespace BB
open PySem L2
set_option genInjectivity true in
inductive Stp where
 | sg (c:Rz)
 | th (t:Th)
mutual
def Th.stP:Th->List (List Rz×Stp)
 | .knot n ts=>([n],.th (.knot n []))::(if ts=[] then [] else ([lpar],.sg lpar)::(dZ ts++[([rpar],.sg rpar)]))
 | .call s k=>[([aU s,dot,aU k],.th (.call s k))]
def dZ:List Th->List (List Rz×Stp)
 | []=>[]
 | t::ts=>t.stP++(if ts=[] then [] else ([comma],.sg comma)::dZ ts)
end
def Th.wP (t:Th):List Rz:=(t.stP.map (·.1)).flatten
structure PSt where
 tops:List (Th×Int)
 win:List Nat
 bef:Stp
def ended:Stp->Bool
 | .th _=>true
 | .sg c=>decide (c=rpar)
def gH:Stp->Bool
 | .th (.knot _ _)=>true
 | _=>false
def qo (l:List (Th×Int)) (j:Nat) (f:Int->Int):List (Th×Int):=l.modify j fun p=>(p.1,f p.2)
def bt (S:PSt):Stp->Option PSt
 | .th t=>if ended S.bef=false then some ⟨S.tops++[(t,0)],S.win,.th t⟩ else none
 | .sg c=>if c=lpar then (if gH S.bef=true/\S.win.length<100/\S.tops≠[] then some ⟨qo S.tops (S.tops.length - 1) (fun _=>1),S.win++[S.tops.length - 1],.sg c⟩ else none)
   else if c=comma then (if ended S.bef=true/\S.win≠[] then some ⟨qo S.tops (S.win.getLastD 0) (·+1),S.win,.sg c⟩ else none)
   else if c=rpar then (if ended S.bef=true/\S.win≠[] then some ⟨S.tops,S.win.dropLast,.sg c⟩ else none)
   else none
def prun (S:PSt):List Stp->Option PSt
 | []=>some S
 | x::l=>(bt S x).bind fun S'=>prun S' l
def je:Th->Th×Int
 | .knot n ks=>(.knot n [],(ks.length:Nat))
 | .call s k=>(.call s k,0)
theorem pM (A B:List (Th×Int)) (x:Th×Int) (f:Int->Int):qo (A++x::B) A.length f=A++(x.1,f x.2)::B:=by
 unfold qo;induction A with
 | nil=>rfl
 | cons a A ih=>rw [RZ,Rh,List.modify_succ_cons,ih];rfl
theorem gJ (l:List Nat) (x d:Nat):(l++[x]).getLastD d=x:=by rw [List.getLastD_eq_getLast?,List.getLast?_concat];rfl
theorem cT {S S':PSt} {x:Stp} {l:List Stp} (h:bt S x=some S'):prun S (x::l)=prun S' l:=by rw [prun,h];rfl
theorem eN:comma≠lpar/\rpar≠lpar/\rpar≠comma/\comma≠rpar/\lpar≠rpar:=by decide +kernel
theorem mB:ended (.sg lpar)=false:=decide_eq_false eN.2.2.2.2
theorem de:ended (.sg comma)=false:=decide_eq_false eN.2.2.2.1
theorem iu:ended (.sg rpar)=true:=by
 show decide (rpar=rpar)=true;exact decide_eq_true rfl
theorem tF:∀ {ts:List Th},ts≠[]->1<=aL ts
 | [],h=>absurd rfl h
 | t::ts,_=>by
   rw [aL];cases t with
   | knot n ks=>rw [Th.tall];omega
   | call s k=>rw [Th.tall];omega
mutual
theorem rJ:∀ (t:Th) (S:PSt) (rest:List Stp),ended S.bef=false->t.tall+S.win.length<=101->∃ b,ended b=true/\prun S (t.stP.map (·.2)++rest)=prun ⟨S.tops++t.walk.map je,S.win,b⟩ rest
 | .call s k,S,rest,hb,_=>by
   refine ⟨.th (.call s k),rfl,?_⟩;rw [Th.stP,Th.walk];exact cT (by rw [bt,if_pos hb];rfl)
 | .knot n ts,S,rest,hb,ht=>by
   have h1:bt S (.th (.knot n []))=some ⟨S.tops++[(.knot n [],0)],S.win,.th (.knot n [])⟩:=by rw [bt,if_pos hb]
   rw [Th.stP,Th.walk];by_cases hz:ts=[]
   · subst hz;rw [if_pos rfl];refine ⟨.th (.knot n []),rfl,?_⟩;rw [RB,TY,RZ,Sn,cT h1];rfl
   · rw [if_neg hz];rw [Th.tall] at ht;have hl:(S.tops++[((Th.knot n []:Th),(0:Int))]).length - 1=S.tops.length:=by rw [Rm];rfl
     have h2:bt ⟨S.tops++[(.knot n [],0)],S.win,.th (.knot n [])⟩ (.sg lpar)=some ⟨S.tops++[(.knot n [],1)],S.win++[S.tops.length],.sg lpar⟩:=by
      rw [bt,if_pos rfl,if_pos ⟨rfl,(by show S.win.length<100;have:=tF hz;omega),(by simp)⟩];dsimp only;rw [hl,pM]
     obtain ⟨b,Cr,h3⟩:=sU ts hz S.tops n 1 [] S.win (.sg lpar) (.sg rpar::rest) mB (by omega);refine ⟨.sg rpar,iu,?_⟩;rw [RB,RB,RC,RB,TY,RZ,RZ,RM,RZ,Sn,cT h1,cT h2,h3]
     have h4:bt ⟨S.tops++(.knot n [],1+((ts.length:Nat):Int) - 1)::([]++(walks ts).map je),S.win++[S.tops.length],b⟩ (.sg rpar)=some ⟨S.tops++(.knot n [],1+((ts.length:Nat):Int) - 1)::([]++(walks ts).map je),S.win,.sg rpar⟩:=by
      rw [bt,if_neg eN.2.1,if_neg eN.2.2.1,if_pos rfl,if_pos ⟨Cr,by simp⟩];dsimp only;rw [WE]
     rw [cT h4,Sn,RB,je,show (1:Int)+((ts.length:Nat):Int) - 1=((ts.length:Nat):Int) by omega]
theorem sU:∀ (ts:List Th),ts≠[]->∀ (A:List (Th×Int)) (n:Rz) (m:Int) (B:List (Th×Int)) (W:List Nat) (bef:Stp) (rest:List Stp),ended bef=false->aL ts+(W.length+1)<=101 →
 ∃ b,ended b=true/\prun ⟨A++(.knot n [],m)::B,W++[A.length],bef⟩ ((dZ ts).map (·.2)++rest)=prun ⟨A++(.knot n [],m+((ts.length:Nat):Int) - 1)::(B++(walks ts).map je),W++[A.length],b⟩ rest
 | [],h,_,_,_,_,_,_,_,_,_=>absurd rfl h
 | t::ts,_,A,n,m,B,W,bef,rest,hb,ht=>by
   rw [aL] at ht;rw [dZ,walks];by_cases hz:ts=[]
   · subst hz;rw [if_pos rfl,RP];obtain ⟨b,D',h1⟩:=rJ t ⟨A++(.knot n [],m)::B,W++[A.length],bef⟩ rest hb (by show t.tall+(W++[A.length]).length<=101;rw [Rm,Sg];omega);refine ⟨b,D',?_⟩;rw [h1,walks,RP,RM,RZ];have:m+(([t].length:Nat):Int) - 1=m:=by show m+1 - 1=m;omega
     rw [this]
   · rw [if_neg hz];obtain ⟨b,D',h1⟩:=rJ t ⟨A++(.knot n [],m)::B,W++[A.length],bef⟩ (.sg comma::((dZ ts).map (·.2)++rest)) hb (by show t.tall+(W++[A.length]).length<=101;rw [Rm,Sg];omega)
     have h2:bt ⟨(A++(.knot n [],m)::B)++t.walk.map je,W++[A.length],b⟩ (.sg comma)=some ⟨A++(.knot n [],m+1)::(B++t.walk.map je),W++[A.length],.sg comma⟩:=by
      rw [bt,if_neg eN.1,if_pos rfl,if_pos ⟨D',by simp⟩];dsimp only;rw [gJ,RM,RZ,pM]
     obtain ⟨b2,Cr,h3⟩:=sU ts hz A n (m+1) (B++t.walk.map je) W (.sg comma) rest de (by omega);refine ⟨b2,Cr,?_⟩;rw [RC,RB,RM,RZ,h1,cT h2,h3];congr 2;rw [RC,RM,Rh];congr 3
     push_cast
     omega
end
theorem t4 {t:Th} (h:t.tall<=101):∃ b,ended b=true/\prun ⟨[],[],.sg comma⟩ (t.stP.map (·.2))=some ⟨t.walk.map je,[],b⟩:=by
 obtain ⟨b,hb,e⟩:=rJ t ⟨[],[],.sg comma⟩ [] de (by show t.tall+0<=101;omega);rw [RP,Sn] at e;exact ⟨b,hb,e⟩
def sp4 (d:Nat):List Nat:=if d=46 then [32,46,32] else spS d
theorem w8 (l:List Nat):rep3 (dQ 46 [32,46,32] l)=l.flatMap sp4:=by
 rw [wL];unfold dQ;rw [WY];congr 1;funext d;unfold sp4;split
 · rfl
 · rw [T4,List.flatMap_nil,RP]
def W4 (l:List Nat):List (List Nat):=wds (l.flatMap sp4)
theorem yy:sp4 32=[32]:=rfl
theorem yr (a b:List Nat):W4 (a++32::b)=W4 a++W4 b:=by
 unfold W4;rw [UI,T4,yy];exact gD _ _
theorem uo:∀ ls:List (List Nat),W4 (jn ls)=(ls.map W4).flatten
 | []=>rfl
 | [x]=>by rw [jn,RB,TY,R0,List.flatten_nil,RP]
 | x::y::r=>by
   rw [jn,yr,uo (y::r)];rfl
theorem pp:∀ l:List Nat,jn (aw 32 l)=l
 | []=>rfl
 | d::l=>by
   obtain ⟨p,r,e⟩:=bQ 32 l;have ih:=pp l;rw [aw];rw [e] at ih ⊢;split
   · rename_i h
     rw [jn,ih,h];rfl
   · cases r with
     | nil=>rw [jn] at ih ⊢;rw [ih]
     | cons y r=>rw [jn] at ih ⊢;rw [RZ,ih]
def em (cur:List Nat):List (List Nat):=if cur=[] then [] else [cur]
def scW:List Nat->List Nat->List (List Nat)
 | cur,[]=>em cur
 | cur,c::l=>if c=32 then em cur++scW [] l else scW (cur++[c]) l
theorem vX {cur:List Nat} (h:∀ c∈cur,c≠32):wds cur=em cur:=by
 unfold em;by_cases hz:cur=[]
 · rw [if_pos hz,hz];rfl
 · rw [if_neg hz];exact pG h hz
theorem l0:∀ (l cur:List Nat),(∀ c∈cur,c≠32)->wds (cur++l)=scW cur l
 | [],cur,h=>by rw [RP,scW];exact vX h
 | c::l,cur,h=>by
   rw [scW];by_cases hc:c=32
   · rw [if_pos hc,hc,gD,vX h];have:=l0 l [] (fun c h=>by cases h);rw [Sn] at this;rw [this]
   · rw [if_neg hc]
     have:=l0 l (cur++[c]) fun d hd=>by
      rcases RN.mp hd with hd | hd
      · exact h d hd
      · rw [RO.mp hd];exact hc
     rw [<- this,RM];rfl
theorem zw (l:List Nat):W4 l=scW [] (l.flatMap sp4):=l0 _ [] fun c h=>by cases h
theorem jk (l:List Nat):∀ (w cur:List Nat),(∀ c∈w,c≠32)->scW cur (w++l)=scW (cur++w) l
 | [],cur,_=>by rw [Sn,RP]
 | c::w,cur,h=>by
   rw [RZ,scW,if_neg (h c (Rr ..)),jk l w _ fun d hd=>h d (Rp _ hd),RM];rfl
theorem qC:sL dot=[46]:=by decide +kernel
mutual
/-- calls of one J6,names Gb are words -/
def Th.Rd:Th->Prop
 | .knot n ts=>okW n/\n.length<=8/\Rds ts
 | .call s k=>0<=s/\s<10/\0<=k/\k<10
def Rds:List Th->Prop
 | []=>True
 | t::ts=>t.Rd/\Rds ts
end
theorem gC {f:Int->Int->Th} {ts:List Th}:fills f ts=[]↔ts=[]:=by
 cases ts with
 | nil=>exact ⟨fun _=>rfl,fun _=>by rw [fills]⟩
 | cons t ts=>rw [fills];exact ⟨(fun z=>by cases z),(fun z=>by cases z)⟩
mutual
theorem pY:∀ (t:Th),∀ p∈(t.fill cu).walk,p.isCall=false
 | .call s k=>fun p hp=>by
   rw [Th.fill,cu,Th.walk,walks] at hp;rw [RO.mp hp];rfl
 | .knot n ts=>fun p hp=>by
   rw [Th.fill,Th.walk] at hp;rcases RA.mp hp with rfl | hp
   · rfl
   · exact m8 ts p hp
theorem m8:∀ (ts:List Th),∀ p∈walks (fills cu ts),p.isCall=false
 | []=>fun p hp=>by rw [fills,walks] at hp;cases hp
 | t::ts=>fun p hp=>by
   rw [fills,walks] at hp;rcases RN.mp hp with hp | hp
   · exact pY t p hp
   · exact m8 ts p hp
end
def Nx (l:List Nat):Prop:=l=[]∨∃ c r,l=c::r/\(c=40∨c=41∨c=44)
theorem qw {c:Nat} (h:c=40∨c=41∨c=44∨c=46):sp4 c=[32,c,32]:=by
 rcases h with rfl | rfl | rfl | rfl <;> rfl
theorem nj {c:Nat} (h:c≠40/\c≠41/\c≠44/\c≠46):sp4 c=[c]:=by
 unfold sp4 spS;rw [if_neg h.2.2.2,if_neg (fun z=>by omega)]
theorem i6 {w:List Nat} (h:∀ c∈w,47<=c):w.flatMap sp4=w:=by
 induction w with
 | nil=>rfl
 | cons c w ih =>
   have hc:=h c (Rr ..);rw [T4,nj ⟨by omega,by omega,by omega,by omega⟩,ih fun d hd=>h d (Rp _ hd)];rfl
theorem gB (cur l:List Nat) {c:Nat} (h:c=40∨c=41∨c=44∨c=46):scW cur ((c::l).flatMap sp4)=em cur++[c]::scW [] (l.flatMap sp4):=by
 rw [T4,qw h];show scW cur (32::c::32::l.flatMap sp4)=_;rw [scW,if_pos rfl,scW,if_neg (by omega),scW,if_pos rfl];rfl
theorem vT {w l:List Nat} (hw:w≠[]) (h:Nx l):scW w (l.flatMap sp4)=w::scW [] (l.flatMap sp4):=by
 have he:em w=[w]:=by unfold em;rw [if_neg hw]
 rcases h with rfl | ⟨c,r,rfl,hc⟩
 · show em w=w::em [];rw [he];rfl
 · have BQ:c=40∨c=41∨c=44∨c=46:=by omega
   rw [gB w r BQ,gB [] r BQ,he];rfl
theorem x6 (c:Nat):(c=40∨c=41∨c=44∨c=46)∨(c≠40/\c≠41/\c≠44/\c≠46):=by omega
end BB
namespace L2
open PySem PySem.Spec PyProof.Rows
def vZ (K:Ri) (a:Rk):It:=⟨fun i H=>∃ xs x,SqL K H a xs/\xs[i]?=some x,fun i H x H'=>∃ p y,H p=none/\x=.ref p/\H'=upd H p (.tup [.int (i:Nat),y])/\∀ xs,SqL K H a xs->xs[i]?=some y,fun i H=>∃ xs,SqL K H a xs/\xs.length=i⟩
theorem r6 {P:RY} {w:Sj} {K:Ri} {elts:List SI} {k1} {pos:Vw} (a e it:Rk):Turn P w K (.Tuple elts k1 pos) (vZ K a) [e,it] e (fun i h=>(∃ old,IsEnum h e it ((i:Nat):Int) old)/\h.IsListIter it a i) where
 mem:=by simp
 obj:=fun i h st b hb=>by
  obtain ⟨⟨old,he⟩,o,e1,e2,e3⟩:=st;rcases RA.mp hb with rfl | hb
  · exact ⟨_,he,fun v z=>by cases z⟩
  · have:b=it:=by simpa using hb
    subst this;exact ⟨o,e1,fun v z=>by rw [e3] at z;cases z⟩
 keep:=fun i h h' st k=>by
  obtain ⟨⟨old,he⟩,o,e1,e2⟩:=st;exact ⟨⟨old,k e (by simp) _ he⟩,o,k it (by simp) _ e1,e2⟩
 item:=by
  intro X hP hw hK hc i pins s σ H E I hf st hg;subst hP hw hK;obtain ⟨xs,x,hq,hx⟩:=hg;obtain ⟨its,rv,p,hz⟩:=I.list hq;obtain ⟨u,hu,ru⟩:=rv.get hx;obtain ⟨⟨old,he⟩,hi⟩:=st
  have J7:e≠it:=by
   rintro rfl;obtain ⟨o,e1,e2,_⟩:=hi;rw [he] at e1;cases e1;exact absurd (Xc e2) (by decide)
  have J8:a≠it:=by
   rintro rfl;obtain ⟨o,e1,e2,_⟩:=hi;obtain ⟨o',FY,DA,_⟩:=p.isList;rw [FY] at e1;cases e1;rw [DA] at e2;exact absurd (Xc e2) (by decide)
  have OH:a≠e:=by
   rintro rfl;obtain ⟨o',FY,DA,_⟩:=p.isList;rw [he] at FY;cases FY;exact absurd (Xc DA) (by decide)
  have AH:i<its.toArray.size:=by
   have:=(Rv.mp hu).1;simpa using this
  have OI:e<s.heap.objs.size:=RG he;have BS:it<s.heap.objs.size:=by obtain ⟨o,e1,_⟩:=hi;exact RG e1
  refine wpAny_pyNext_enum_itemD (Draws.list (A:=X.A.in1) (show X.A.in1.handled=none from I.ok.hd hc) it a J8 its.toArray) he ⟨hi,p.isList⟩ AH J7 (by simp [J7,OH.symm]) fun y h1 tk hy ho OJ hT Az hk=>?_
  have OK:y=u:=by
   have:its[i]?=some y:=by simpa using hy
   rw [hu] at this;exact (Ry this).symm
  subst OK;refine ⟨_,rfl,wpAny_letOwnedTupleGo_enum ho fun h2 OL Iy=>?_⟩;replace Iy:Ul e h1 h2:=Iy
  have Am:∀ b∈[e,it],b<s.heap.objs.size:=fun b hb=>by
   rcases RA.mp hb with rfl | hb
   · exact OI
   · have:b=it:=by simpa using hb
     subst this;exact BS
  have JZ:H s.heap.objs.size=none:=I.hok.fresh (Rq _)
  have IA:Inv X pins σ (upd H s.heap.objs.size (.tup [.int (i:Nat),x])) { s with heap:=s.heap.push { cls:=.type "tuple",data:=.seq #[.int (i:Nat) tk,y] },toks:=tk } :=
   I.laid (o:=.tup [.int (i:Nat),x]) (fun b ob q=>Ro _ q) (Rq _) ⟨by show 2<=RS;decide,[.int (i:Nat) tk,y],0,.cons ⟨tk,rfl⟩ (.cons ru .nil),RD _ rfl⟩
  refine ⟨.ref s.heap.objs.size,upd H s.heap.objs.size (.tup [.int (i:Nat),x]),?_,rfl,⟨_,x,JZ,rfl,rfl,fun ys GD=>by rw [I.list_inj GD hq];exact hx⟩,⟨⟨y,by simpa using OL⟩,?_⟩,fun b hb=>?_⟩
  · have IB:Inv X pins σ (upd H s.heap.objs.size (.tup [.int (i:Nat),x])) { s with heap:=h2,toks:=tk+1 }:=by
     refine Inv.turnedL (s:={ s with heap:=s.heap.push { cls:=.type "tuple",data:=.seq #[.int (i:Nat) tk,y] },toks:=tk }) (h':=h2) (fp:=[e,it]) (t':=tk+1) IA (fun b o hb q=>?_) fun b hb=>?_
     · have DZ:b≠e:=fun z=>hb (by simp [z]);have Io:b≠it:=fun z=>hb (by simp [z]);rw [Iy.2 b DZ];by_cases Cr:b=s.heap.objs.size
       · subst Cr;rw [hT];have q':(s.heap.push { cls:=.type "tuple",data:=.seq #[.int (i:Nat) tk,y] }).get? s.heap.objs.size=some o:=q;rw [RD _ rfl] at q';exact q'
       · have B8:b<(s.heap.push { cls:=.type "tuple",data:=.seq #[.int (i:Nat) tk,y] }).objs.size:=RG q;rw [TC] at B8;refine hk b o DZ Io ?_;have q':(s.heap.push { cls:=.type "tuple",data:=.seq #[.int (i:Nat) tk,y] }).get? b=some o:=q;rw [Heap.get?_push_ne _ _ _ Cr] at q';exact q'
     · obtain ⟨f0,f1⟩:=hf b hb;exact ⟨by rw [ar (R7 (Am b hb))];exact f0,f1⟩
    exact IB
  · obtain ⟨o,e1,r⟩:=OJ.1;exact ⟨o,(Iy.2 it (UG J7)).trans e1,r⟩
  · rw [ar (R7 (Am b hb))];exact (hf b hb).1
 done:=by
  intro X hP hw hK hc i pins s σ H E I hf st hg;subst hP hw hK;obtain ⟨xs,hq,hx⟩:=hg;obtain ⟨its,rv,p,hz⟩:=I.list hq;obtain ⟨⟨old,he⟩,hi⟩:=st
  have J8:a≠it:=by
   rintro rfl;obtain ⟨o,e1,e2,_⟩:=hi;obtain ⟨o',FY,DA,_⟩:=p.isList;rw [FY] at e1;cases e1;rw [DA] at e2;exact absurd (Xc e2) (by decide)
  have hn:its.toArray.size=i:=by
   have:=rv.length;rw [Rt];omega
  refine wpAny_pyNext_enum_endD (Draws.list (A:=X.A.in1) (show X.A.in1.handled=none from I.ok.hd hc) it a J8 its.toArray) he (by rw [hn];exact ⟨hi,p.isList⟩) fun h' eb=>⟨rfl,?_⟩;exact I.turnedL (fp:=[e,it]) (t':=s.toks) (fun b o hb q=>eb b o (fun z=>hb (by simp [z])) q) hf
 self:=fun _ _ _ _ _ st h=>by
  obtain ⟨⟨old,he⟩,_⟩:=st;exact wpAny_pyIter_enum he h
section
variable {X:Cx} {e:SI} {te:TE} {p2 BK:Vw}
def yx (K:Ri) (tl:TE):TI:=fun σ H R=>tl σ H fun x H1=>∃ a,x=.ref a/\(∃ xs,SqL K H1 a xs)/\R (vZ K a) H1
theorem v1 {elts:List SI} {k1} {pos:Vw} (g2:Gl X "enumerate") (m2:X.mg "enumerate"=none) (he:PE X e te) (h2:Sq [e] X.env=[(false,TZ e X.env)]:=by rfl):PI X (.Tuple elts k1 pos) (.Call (.Name "enumerate" p2) [e] [] BK) (yx X.K te):=by
 intro pins s σ H R I h;refine T3 (io I g2 m2 boot_enumerate (Ub ?_ h2 rfl));rw [h2];show RL _ _ (spliced ((false,TZ e X.env)::[])) _ _ s;refine Tc (thn (he pins s σ H _ I h) fun u s1 ⟨x,H1,I1,r1,a,ex,⟨xs,hq⟩,q⟩=>UM ?_);subst ex;cases r1;obtain ⟨its,rv,p,hz⟩:=I1.list hq;refine call_enumerate_list (show s1.heap.IsList a its.toArray from p.isList) fun h' g1 g2 g3 g4=>?_;refine wpAny_pyIter_enum (s:={ s1 with heap:=h' }) g1 ?_;refine ⟨s1.heap.objs.size+1,[s1.heap.objs.size+1,s1.heap.objs.size],_,_,H1,rfl,I1.kept (t':=s1.toks) g4,r6 a _ _,⟨⟨_,g1⟩,g2⟩,fun b hb=>?_,q⟩
 have BC:s1.heap.objs.size<=b:=by
  rcases RA.mp hb with rfl | hb
  · omega
  · have:b=s1.heap.objs.size:=by simpa using hb
    exact Wj this.symm
 exact I1.fpOk BC (I1.hok.fresh BC)
end
theorem tV {K:Ri} {a:Rk} {xs:List V} {g:TG} {tb:TS} {D:Ends} {σ:St} {H:Hp} (Pv:Nat->St->Hp->Prop) (h0:Pv 0 σ H) (hl:∀ i σ H,i<=xs.length->Pv i σ H->SqL K H a xs)
 (hs:∀ i x p σ H,xs[i]?=some x->H p=none->Pv i σ H->g (.ref p) σ (upd H p (.tup [.int (i:Nat),x])) fun Ay H2=>tb { D with nx:=Pv (i+1),ct:=Pv (i+1),bk:=D.nx } Ay H2) (hd:∀ σ H,Pv xs.length σ H->D.nx σ H) :
 ∃ W:Nat->Nat->St->Hp->Prop,(∃ m,W 0 m σ H)/\∀ i m σ H,W i m σ H →
   ((vZ K a).stop i H/\D.nx σ H)∨((vZ K a).go i H/\∃ N:St->Hp->Prop,(∀ f' H',N f' H'->∃ m',m'<m/\W (i+1) m' f' H')/\∀ x H',(vZ K a).yld i H x H'->g x σ H' fun Ay H2=>tb { D with nx:=N,ct:=N,bk:=D.nx } Ay H2):=by
 refine ⟨fun i m σ H=>m=xs.length - i/\i<=xs.length/\Pv i σ H,⟨xs.length,by simp,Sk _,h0⟩,?_⟩;rintro i m σ H ⟨rfl,hi,p⟩;have q:=hl i σ H hi p;by_cases AH:i<xs.length
 · refine .inr ⟨⟨xs,xs[i],q,by simp [AH]⟩,Pv (i+1),fun f' H' p'=>⟨xs.length - (i+1),by omega,rfl,AH,p'⟩,fun x H' y=>?_⟩;obtain ⟨pa,y,hp,rfl,rfl,hy⟩:=y;exact hs i y pa σ H (hy xs q) hp p
 · have e:i=xs.length:=by omega
   subst e;exact .inl ⟨⟨xs,q,rfl⟩,hd σ H p⟩
end L2
namespace BB
theorem hid {G:Prop} (k:∀ F:Prop,(G->F)->F):G:=k G id
inductive Ex1 {A0:Type} (p:A0->Prop):Prop
 | mk (x0:A0) (h:p x0):Ex1 p
inductive Ex2 {A0 A1:Type} (p:A0->A1->Prop):Prop
 | mk (x0:A0) (x1:A1) (h:p x0 x1):Ex2 p
inductive Ex3 {A0 A1 A2:Type} (p:A0->A1->A2->Prop):Prop
 | mk (x0:A0) (x1:A1) (x2:A2) (h:p x0 x1 x2):Ex3 p
inductive Ex4 {A0 A1 A2 A3:Type} (p:A0->A1->A2->A3->Prop):Prop
 | mk (x0:A0) (x1:A1) (x2:A2) (x3:A3) (h:p x0 x1 x2 x3):Ex4 p
inductive Ex5 {A0 A1 A2 A3 A4:Type} (p:A0->A1->A2->A3->A4->Prop):Prop
 | mk (x0:A0) (x1:A1) (x2:A2) (x3:A3) (x4:A4) (h:p x0 x1 x2 x3 x4):Ex5 p
inductive Ex6 {A0 A1 A2 A3 A4 A5:Type} (p:A0->A1->A2->A3->A4->A5->Prop):Prop
 | mk (x0:A0) (x1:A1) (x2:A2) (x3:A3) (x4:A4) (x5:A5) (h:p x0 x1 x2 x3 x4 x5):Ex6 p
inductive An2 (a0 a1:Prop):Prop
 | mk (h0:a0) (h1:a1):An2 a0 a1
inductive An3 (a0 a1 a2:Prop):Prop
 | mk (h0:a0) (h1:a1) (h2:a2):An3 a0 a1 a2
inductive An4 (a0 a1 a2 a3:Prop):Prop
 | mk (h0:a0) (h1:a1) (h2:a2) (h3:a3):An4 a0 a1 a2 a3
inductive An5 (a0 a1 a2 a3 a4:Prop):Prop
 | mk (h0:a0) (h1:a1) (h2:a2) (h3:a3) (h4:a4):An5 a0 a1 a2 a3 a4
inductive An6 (a0 a1 a2 a3 a4 a5:Prop):Prop
 | mk (h0:a0) (h1:a1) (h2:a2) (h3:a3) (h4:a4) (h5:a5):An6 a0 a1 a2 a3 a4 a5
inductive An7 (a0 a1 a2 a3 a4 a5 a6:Prop):Prop
 | mk (h0:a0) (h1:a1) (h2:a2) (h3:a3) (h4:a4) (h5:a5) (h6:a6):An7 a0 a1 a2 a3 a4 a5 a6
inductive An8 (a0 a1 a2 a3 a4 a5 a6 a7:Prop):Prop
 | mk (h0:a0) (h1:a1) (h2:a2) (h3:a3) (h4:a4) (h5:a5) (h6:a6) (h7:a7):An8 a0 a1 a2 a3 a4 a5 a6 a7
inductive yb (a0 a1 a2 a3 a4 a5 a6 a7 a8 a9 Mf Mg a12:Prop):Prop
 | mk (h0:a0) (h1:a1) (h2:a2) (h3:a3) (h4:a4) (h5:a5) (h6:a6) (h7:a7) (h8:a8) (h9:a9) (Mh:Mf) (QP:Mg) (QQ:a12):yb a0 a1 a2 a3 a4 a5 a6 a7 a8 a9 Mf Mg a12
end BB
namespace L2
open PySem PySem.Spec PyProof.Rows
end L2
namespace BB
open PySem L2
theorem xV:∀ c<10,sL (aU (c:Nat))=[48+c]:=by decide +kernel
theorem xY:∀ b<10,∀ c<10,b≠0->sL (aU (10 * b+c:Nat))=[48+b,48+c]:=by decide +kernel
theorem yv:(Sw 10).all (fun a=>(Sw 10).all fun b=>(Sw 10).all fun c=>decide (a=0) || decide (sL (aU (100 * a+10 * b+c:Nat))=[48+a,48+b,48+c]))=true:=by decide +kernel
theorem wo {a b c:Nat} (ha:a<10) (hb:b<10) (hc:c<10) (h0:a≠0):sL (aU (100 * a+10 * b+c:Nat))=[48+a,48+b,48+c]:=by
 have h:=Sl.mp (Sl.mp (Sl.mp yv a (UK.mpr ha)) b (UK.mpr hb)) c (UK.mpr hc);rw [decide_eq_false h0,Bool.false_or] at h;exact of_decide_eq_true h
theorem lM:∀ n<1000,WB (aU (n:Nat))=some ((n:Nat):Int):=by decide +kernel
def isNum (z:Rz):Bool:=decide (1<=z.length/\z.length<=3) && (sL z).all (fun c=>decide (48<=c/\c<=57)) && (decide ((sL z).head?≠some 48) || decide (sL z=[48]))
theorem r9 {z:Rz} (h:isNum z=true):∃ n:Nat,n<1000/\z=aU (n:Nat):=by
 unfold isNum at h;rw [R5,R5,Sl,Vj] at h;obtain ⟨⟨h1,h2⟩,h3⟩:=h;have h1:=of_decide_eq_true h1;rw [<- dW] at h1;have h2:∀ c∈sL z,48<=c/\c<=57:=fun c hc=>of_decide_eq_true (h2 c hc);have h3:(sL z).head?≠some 48∨sL z=[48]:=h3.imp of_decide_eq_true of_decide_eq_true
 match e:sL z,h1,h2,h3 with
 | [c],_,h2,_ =>
   have c1:=h2 c (by simp);have k:=xV (c - 48) (by omega);rw [show 48+(c - 48)=c by omega] at k;exact ⟨c - 48,by omega,cn (e.trans k.symm)⟩
 | [b,c],_,h2,h3 =>
   have c1:=h2 c (by simp);have b1:=h2 b (by simp);have b0:b≠48:=fun z=>by rcases h3 with h3 | h3 <;> simp_all
   have k:=xY (b - 48) (by omega) (c - 48) (by omega) (by omega);rw [show 48+(c - 48)=c by omega,show 48+(b - 48)=b by omega] at k;exact ⟨_,by omega,cn (e.trans k.symm)⟩
 | [a,b,c],_,h2,h3 =>
   have c1:=h2 c (by simp);have b1:=h2 b (by simp);have a1:=h2 a (by simp);have b0:a≠48:=fun z=>by rcases h3 with h3 | h3 <;> simp_all
   have k:=wo (a:=a - 48) (b:=b - 48) (c:=c - 48) (by omega) (by omega) (by omega) (by omega);rw [show 48+(c - 48)=c by omega,show 48+(b - 48)=b by omega,show 48+(a - 48)=a by omega] at k;exact ⟨_,by omega,cn (e.trans k.symm)⟩
theorem pe:∀ n<1000,isNum (aU (n:Nat))=true:=by decide +kernel
def jC (z:Rz):Option Int:=if isNum z=true then WB z else none
theorem bB {z:Rz} {n:Int}:jC z=some n↔z=aU n/\0<=n/\n<1000:=by
 unfold jC;constructor
 · intro h;split at h
   · rename_i c
     obtain ⟨m,hm,rfl⟩:=r9 c;rw [lM m hm] at h;cases h;exact ⟨rfl,by omega,by omega⟩
   · cases h
 · rintro ⟨rfl,h0,h1⟩;obtain ⟨m,rfl⟩:=UL h0;rw [if_pos (pe m (by omega)),lM m (by omega)]
theorem tq {z:Rz}:jC z=none↔isNum z=false:=by
 unfold jC;by_cases c:isNum z=true
 · rw [if_pos c];obtain ⟨m,hm,rfl⟩:=r9 c;rw [lM m hm];exact ⟨(fun h=>by cases h),fun h=>by rw [h] at c;cases c⟩
 · rw [if_neg c];exact ⟨fun _=>S6.mpr c,fun _=>rfl⟩
def SOk:Stp->Prop
 | .sg c=>c=lpar∨c=comma∨c=rpar
 | .th (.knot n ts)=>ts=[]/\aS n=true
 | .th (.call s k)=>(0<=s/\s<1000)/\0<=k/\k<1000
def stW:Stp->List Rz
 | .sg c=>[c]
 | .th (.knot n _)=>[n]
 | .th (.call s k)=>[aU s,dot,aU k]
def j7:List Rz->Option Stp
 | [x,d,y]=>if d=dot then (match jC x,jC y with
   | some a,some b=>some (.th (.call a b))
   | _,_=>none) else none
 | _=>none
theorem iC {ws:List Rz} {x:Stp}:j7 ws=some x↔(∃ a b:Int,x=.th (.call a b)/\SOk x/\ws=stW x):=by
 constructor
 · intro h
   match ws,h with
   | [u,d,v],h =>
     rw [j7] at h;by_cases c:d=dot
     · rw [if_pos c] at h;cases e1:jC u with
       | none=>rw [e1] at h;cases h
       | some a =>
         cases e2:jC v with
         | none=>rw [e1,e2] at h;cases h
         | some b =>
           rw [e1,e2] at h;have:=(Ry h).symm;subst this;obtain ⟨rfl,k1⟩:=bB.mp e1;obtain ⟨rfl,k2⟩:=bB.mp e2;exact ⟨a,b,rfl,⟨k1,k2⟩,by rw [c];rfl⟩
     · rw [if_neg c] at h;cases h
   | [],h=>cases h
   | [_],h=>cases h
   | [_,_],h=>cases h
   | _::_::_::_::_,h=>cases h
 · rintro ⟨a,b,rfl,⟨k1,k2⟩,rfl⟩;rw [stW,j7,if_pos rfl,bB.mpr ⟨rfl,k1⟩,bB.mpr ⟨rfl,k2⟩]
def pq (w:Rz):Prop:=w=lpar∨w=comma∨w=rpar
instance (w:Rz):Decidable (pq w):=inferInstanceAs (Decidable (_∨_))
def b7:Nat->List Rz->Option (List Stp)
 | _,[]=>some []
 | 0,_::_=>none
 | n+1,w::ws=>if pq w then (b7 n ws).map (.sg w::·)
   else if aS w=true then (b7 n ws).map (.th (.knot w [])::·)
   else (j7 ((w::ws).take 3)).bind fun x=>(b7 n (ws.drop 2)).map (x::·)
theorem d8:∀ {n:Nat} {ws:List Rz} {l:List Stp},b7 n ws=some l->(l.map stW).flatten=ws/\∀ x∈l,SOk x
 | n,[],l,h=>by
   have:b7 n []=some []:=by cases n <;> rfl
   rw [this] at h;cases h;exact ⟨rfl,fun x hx=>by cases hx⟩
 | 0,w::ws,l,h=>by cases h
 | n+1,w::ws,l,h=>by
   rw [b7] at h;by_cases c:pq w
   · rw [if_pos c] at h;obtain ⟨l',h1,rfl⟩:=Tn.mp h;obtain ⟨e,k⟩:=d8 h1;refine ⟨by rw [RB,R0,e];rfl,fun x hx=>?_⟩;rcases RA.mp hx with rfl | hx
     · exact c
     · exact k x hx
   · rw [if_neg c] at h;by_cases c2:aS w=true
     · rw [if_pos c2] at h;obtain ⟨l',h1,rfl⟩:=Tn.mp h;obtain ⟨e,k⟩:=d8 h1;refine ⟨by rw [RB,R0,e];rfl,fun x hx=>?_⟩;rcases RA.mp hx with rfl | hx
       · exact ⟨rfl,c2⟩
       · exact k x hx
     · rw [if_neg c2] at h;obtain ⟨x,h0,h⟩:=Wd.mp h;obtain ⟨l',h1,rfl⟩:=Tn.mp h;obtain ⟨e,k⟩:=d8 h1;obtain ⟨a,b,_,hx,hw⟩:=iC.mp h0;refine ⟨?_,fun y hy=>?_⟩
       · rw [RB,R0,e,<- hw];show (w::ws).take 3++(w::ws).drop 3=_;exact List.take_append_drop _ _
       · rcases RA.mp hy with rfl | hy
         · exact hx
         · exact k y hy
theorem tJ {w:Rz} (h:aS w=true):¬ pq w:=by
 rintro (rfl | rfl | rfl) <;> revert h <;> decide +kernel
theorem qG:∀ n<1000,aS (aU (n:Nat))=false/\¬ pq (aU (n:Nat)):=by decide +kernel
theorem gv:∀ {n:Nat} {l:List Stp},(∀ x∈l,SOk x)->((l.map stW).flatten).length<=n->b7 n (l.map stW).flatten=some l
 | n,[],_,_=>by cases n <;> rfl
 | n,.sg c::l,h,hn=>by
   rw [RB,R0,stW] at hn ⊢;obtain ⟨n,rfl⟩:∃ m,n=m+1:=⟨n - 1,by rw [Rm,Sg] at hn;omega⟩;show b7 (n+1) (c::(l.map stW).flatten)=_;rw [b7,if_pos (show pq c from h _ (Rr ..)),gv (fun x hx=>h x (Rp _ hx)) (by rw [Rm,Sg] at hn;omega)];rfl
 | n,.th (.knot m ts)::l,h,hn=>by
   rw [RB,R0,stW] at hn ⊢;obtain ⟨n,rfl⟩:∃ m,n=m+1:=⟨n - 1,by rw [Rm,Sg] at hn;omega⟩;obtain ⟨rfl,hm⟩:=h _ (Rr ..);show b7 (n+1) (m::(l.map stW).flatten)=_;rw [b7,if_neg (tJ hm),if_pos hm,gv (fun x hx=>h x (Rp _ hx)) (by rw [Rm,Sg] at hn;omega)];rfl
 | n,.th (.call s k)::l,h,hn=>by
   have hx:=h _ (Rr ..);have hc:=iC.mpr ⟨s,k,rfl,hx,rfl⟩;rw [RB,R0] at hn ⊢;obtain ⟨n,rfl⟩:∃ m,n=m+1:=⟨n - 1,by rw [stW,Rm] at hn;simp only [Rh] at hn;omega⟩;obtain ⟨⟨s0,s1⟩,_⟩:=hx;obtain ⟨s',rfl⟩:=UL s0;have hs:=qG s' (by omega);show b7 (n+1) (aU s'::([dot,aU k]++(l.map stW).flatten))=_;rw [b7,if_neg hs.2,if_neg (by rw [hs.1];decide)];have e1:(aU s'::([dot,aU k]++(l.map stW).flatten)).take 3=stW (.th (.call s' k)):=rfl;have e2:([dot,aU k]++(l.map stW).flatten).drop 2=(l.map stW).flatten:=rfl;rw [e1,hc,e2,gv (fun x hx=>h x (Rp _ hx)) (by rw [stW,Rm] at hn;simp only [Rh] at hn;omega)];rfl
def ip (ws:List Rz):Option (List Stp):=b7 ws.length ws
theorem gc {ws:List Rz} {l:List Stp}:ip ws=some l↔(l.map stW).flatten=ws/\∀ x∈l,SOk x:=by
 constructor
 · exact d8
 · rintro ⟨rfl,h⟩;exact gv h (Rq _)
end BB
namespace BB
open PySem L2
theorem dI {S F:PSt} {x:Stp} {l:List Stp} (h:prun S (x::l)=some F):∃ S',bt S x=some S'/\prun S' l=some F:=by
 rw [prun] at h;exact Wd.mp h
theorem iR {S S':PSt} {t:Th} (h:bt S (.th t)=some S'):ended S.bef=false/\S'=⟨S.tops++[(t,0)],S.win,.th t⟩:=by
 rw [bt] at h;by_cases c:ended S.bef=false
 · rw [if_pos c] at h;exact ⟨c,(Ry h).symm⟩
 · rw [if_neg c] at h;cases h
theorem iV {S S':PSt} (h:bt S (.sg lpar)=some S'):gH S.bef=true/\S.win.length<100/\∃ j,S'.win=S.win++[j]/\S'.bef=.sg lpar:=by
 rw [bt,if_pos rfl] at h;by_cases c:gH S.bef=true/\S.win.length<100/\S.tops≠[]
 · rw [if_pos c] at h;have:=(Ry h).symm;subst this;exact ⟨c.1,c.2.1,_,rfl,rfl⟩
 · rw [if_neg c] at h;cases h
theorem kP {S S':PSt} (h:bt S (.sg comma)=some S'):ended S.bef=true/\S.win≠[]/\S'.win=S.win/\S'.bef=.sg comma:=by
 rw [bt,if_neg eN.1,if_pos rfl] at h;by_cases c:ended S.bef=true/\S.win≠[]
 · rw [if_pos c] at h;have:=(Ry h).symm;subst this;exact ⟨c.1,c.2,rfl,rfl⟩
 · rw [if_neg c] at h;cases h
theorem kO {S S':PSt} (h:bt S (.sg rpar)=some S'):ended S.bef=true/\S.win≠[]/\S'.win=S.win.dropLast/\S'.bef=.sg rpar:=by
 rw [bt,if_neg eN.2.1,if_neg eN.2.2.1,if_pos rfl] at h;by_cases c:ended S.bef=true/\S.win≠[]
 · rw [if_pos c] at h;have:=(Ry h).symm;subst this;exact ⟨c.1,c.2,rfl,rfl⟩
 · rw [if_neg c] at h;cases h
theorem v8 {b:Stp} (h:gH b=true):ended b=true:=by
 cases b with
 | th t=>rfl
 | sg c=>cases h
def zf (l:List Stp) (S F:PSt):Prop:=∃ (t:Th) (rest:List Stp) (S1:PSt),l=t.stP.map (·.2)++rest/\S1.win=S.win/\ended S1.bef=true/\prun S1 rest=some F/\(∀ r,rest≠.sg lpar::r)/\rest.length<l.length/\t.tall+S.win.length<=101
def zd (l:List Stp) (S F:PSt):Prop:=∃ (ts:List Th) (rest:List Stp) (S1:PSt),ts≠[]/\l=(dZ ts).map (·.2)++.sg rpar::rest/\S1.win=S.win.dropLast/\S1.bef=.sg rpar/\prun S1 rest=some F/\rest.length<l.length/\aL ts+S.win.length<=101
theorem qj:∀ n:Nat,(∀ (l:List Stp) (S F:PSt),l.length<=n->(∀ x∈l,SOk x)->ended S.bef=false->S.win.length<=100->prun S l=some F->F.win=[]->ended F.bef=true->zf l S F) ∧
 (∀ (l:List Stp) (S F:PSt),l.length<=n->(∀ x∈l,SOk x)->ended S.bef=false->S.win≠[]->S.win.length<=100->prun S l=some F->F.win=[]->ended F.bef=true->zd l S F)
 | 0=>by
   constructor
   · intro l S F hn _ hb _ h _ hf;have:l=[]:=R4.mp (by omega);subst this;cases h;rw [hb] at hf;cases hf
   · intro l S F hn _ hb _ _ h _ hf;have:l=[]:=R4.mp (by omega);subst this;cases h;rw [hb] at hf;cases hf
 | n+1=>by
   obtain ⟨QR,Mi⟩:=qj n
   have hA:∀ (l:List Stp) (S F:PSt),l.length<=n+1->(∀ x∈l,SOk x)->ended S.bef=false->S.win.length<=100->prun S l=some F->F.win=[]->ended F.bef=true->zf l S F:=by
    intro l S F hn hok hb hw h hF hf;cases l with
    | nil=>cases h;rw [hb] at hf;cases hf
    | cons x l =>
      obtain ⟨S',h1,h2⟩:=dI h;have hx:=hok x (Rr ..);rw [Rh] at hn;cases x with
      | sg c =>
        exfalso;rcases hx with rfl | rfl | rfl
        · have:=v8 (iV h1).1;rw [hb] at this;cases this
        · have:=(kP h1).1;rw [hb] at this;cases this
        · have:=(kO h1).1;rw [hb] at this;cases this
      | th t =>
        obtain ⟨_,rfl⟩:=iR h1;cases t with
        | call s k =>
          refine ⟨.call s k,l,⟨S.tops++[(.call s k,0)],S.win,.th (.call s k)⟩,rfl,rfl,rfl,h2,fun r e=>?_,by rw [Rh];omega,by rw [Th.tall];omega⟩;subst e;obtain ⟨_,h3,_⟩:=dI h2;have:=(iV h3).1;cases this
        | knot m ts =>
          obtain ⟨rfl,hm⟩:=hx;by_cases hl:∃ r,l=.sg lpar::r
          · obtain ⟨r,rfl⟩:=hl;obtain ⟨S2,h3,h4⟩:=dI h2;obtain ⟨_,Ea,j,hj,Cr⟩:=iV h3;have Ea:S.win.length<100:=Ea;have hj:S2.win=S.win++[j]:=hj;rw [Rh] at hn;obtain ⟨ts,rest,S1,Am,e,EI,D',hr,hlen,Aw⟩:=Mi r S2 F (by omega) (fun y hy=>hok y (Rp _ (Rp _ hy))) (by rw [Cr];exact mB) (by rw [hj];simp) (by rw [hj,Rm,Sg];omega) h4 hF hf;rw [hj,Rm,Sg] at Aw;refine ⟨.knot m ts,rest,S1,?_,by rw [EI,hj,WE],by rw [D'];exact iu,hr,fun q eq=>?_,by rw [Rh,Rh];omega,by rw [Th.tall];omega⟩
            · rw [Th.stP,if_neg Am,e];simp
            · subst eq;obtain ⟨_,h5,_⟩:=dI hr;have:=(iV h5).1;rw [D'] at this;cases this
          · exact ⟨.knot m [],l,⟨S.tops++[(.knot m [],0)],S.win,.th (.knot m [])⟩,by rw [Th.stP,if_pos rfl];rfl,rfl,rfl,h2,fun r e=>hl ⟨r,e⟩,by rw [Rh];omega,by rw [Th.tall,aL];omega⟩
   refine ⟨hA,?_⟩;intro l S F hn hok hb Am hw h hF hf;obtain ⟨t,rest,S1,e,EI,D',hr,hl,hlen,Aw⟩:=hA l S F hn hok hb hw h hF hf;cases rest with
   | nil =>
     exfalso;cases hr;exact Am (by rw [<- EI,hF])
   | cons x rest =>
     obtain ⟨S2,h3,h4⟩:=dI hr;have Mj:∀ y∈x::rest,SOk y:=fun y hy=>hok y (by rw [e];exact RN.mpr (.inr hy));have hx:=Mj x (Rr ..);cases x with
     | th u=>exact absurd (iR h3).1 (by rw [D'];decide)
     | sg c =>
       rcases hx with rfl | rfl | rfl
       · exact absurd rfl (hl rest)
       · obtain ⟨_,_,Ea,Cr⟩:=kP h3;have J':S2.win=S.win:=Ea.trans EI;rw [Rh] at hlen;obtain ⟨ts,G3,S3,DM,e2,D8,OM,EJ,Ml,Fi⟩:=Mi rest S2 F (by omega) (fun y hy=>Mj y (Rp _ hy)) (by rw [Cr];exact de) (by rw [J'];exact Am) (by rw [J'];exact hw) h4 hF hf;rw [J'] at Fi D8;refine ⟨t::ts,G3,S3,by simp,?_,D8,OM,EJ,by omega,by rw [aL];omega⟩;rw [e,e2,dZ,if_neg DM];simp
       · obtain ⟨_,_,Ea,Cr⟩:=kO h3;refine ⟨[t],rest,S2,by simp,?_,by rw [Ea,EI],Cr,h4,by rw [Rh] at hlen;omega,by rw [aL,aL];omega⟩;rw [e,dZ,if_pos rfl];simp
def jd (l:List Stp):Option PSt:=(prun ⟨[],[],.sg comma⟩ l).bind fun F=>if F.win=[]/\ended F.bef=true then some F else none
theorem rW {l:List Stp} {F:PSt} (hok:∀ x∈l,SOk x) (h:jd l=some F):∃ t:Th,l=t.stP.map (·.2)/\t.tall<=101:=by
 unfold jd at h;obtain ⟨F',h1,h2⟩:=Wd.mp h;by_cases c:F'.win=[]/\ended F'.bef=true
 · rw [if_pos c] at h2;have:=Ry h2;subst this;obtain ⟨t,rest,S1,e,EI,D',hr,hl,_,ht⟩:=(qj l.length).1 l _ F' (Rq _) hok de (by show 0<=100;omega) h1 c.1 c.2;have ht:t.tall+0<=101:=ht;refine ⟨t,?_,by omega⟩;cases rest with
   | nil=>rw [e,RP]
   | cons x rest =>
     exfalso;obtain ⟨S2,h3,h4⟩:=dI hr;have hx:SOk x:=hok x (by rw [e];simp);cases x with
     | th u=>exact absurd (iR h3).1 (by rw [D'];decide)
     | sg c =>
       rcases hx with rfl | rfl | rfl
       · exact absurd rfl (hl rest)
       · exact (kP h3).2.1 EI
       · exact (kO h3).2.1 EI
 · rw [if_neg c] at h2;cases h2
theorem qF {S S':PSt} {x:Stp} (hx:SOk x) (h:bt S x=some S') (i:gH S.bef=true->S.tops≠[]):(gH S'.bef=true->S'.tops≠[])/\(S'.bef=.sg lpar->S'.win≠[])/\((∃ t,S'.bef=.th t)∨S'.bef=.sg lpar∨S'.bef=.sg comma∨S'.bef=.sg rpar):=by
 cases x with
 | th t =>
   obtain ⟨_,rfl⟩:=iR h;exact ⟨fun _=>(by simp),fun z=>(by cases z),.inl ⟨t,rfl⟩⟩
 | sg c =>
   rcases hx with rfl | rfl | rfl
   · obtain ⟨_,_,j,hj,hb⟩:=iV h;exact ⟨fun z=>(by rw [hb] at z;cases z),fun _=>(by rw [hj];simp),.inr (.inl hb)⟩
   · obtain ⟨_,_,_,hb⟩:=kP h;exact ⟨fun z=>(by rw [hb] at z;cases z),fun z=>(by rw [hb] at z;exact absurd (Stp.sg.inj z) eN.1),.inr (.inr (.inl hb))⟩
   · obtain ⟨_,_,_,hb⟩:=kO h;exact ⟨fun z=>(by rw [hb] at z;cases z),fun z=>(by rw [hb] at z;exact absurd (Stp.sg.inj z) eN.2.1),.inr (.inr (.inr hb))⟩
def i9 (ws:List Rz) (t:Th):Prop:=ip ws=some (t.stP.map (·.2))/\t.tall<=101
theorem gG {t:Th} (h:t.tall<=101):∃ F,jd (t.stP.map (·.2))=some F/\F.tops=t.walk.map je:=by
 obtain ⟨b,hb,e⟩:=t4 h;refine ⟨⟨t.walk.map je,[],b⟩,?_,rfl⟩;unfold jd;rw [e];exact if_pos ⟨rfl,hb⟩
mutual
theorem vp:∀ t:Th,t.size<=t.stP.length
 | .call s k=>by rw [Th.stP,Th.size];exact Rq _
 | .knot n ts=>by
   rw [Th.stP,Th.size];by_cases hz:ts=[]
   · subst hz;rw [if_pos rfl,aF];exact Rq _
   · rw [if_neg hz,Rh,Rh,Rm];have:=sE ts;omega
theorem sE:∀ ts:List Th,aF ts<=(dZ ts).length
 | []=>by rw [aF];exact Sk _
 | t::ts=>by
   rw [dZ,aF,Rm];have h1:=vp t;have h2:=sE ts;by_cases hz:ts=[]
   · subst hz;rw [if_pos rfl,aF];omega
   · rw [if_neg hz,Rh];omega
end
mutual
theorem jx:∀ t:Th,(t.stP.map (·.2)).map stW=t.stP.map (·.1)
 | .call s k=>rfl
 | .knot n ts=>by
   rw [Th.stP];by_cases hz:ts=[]
   · rw [if_pos hz];rfl
   · rw [if_neg hz];simp only [RB,RC,TY,lq ts];rfl
theorem lq:∀ ts:List Th,((dZ ts).map (·.2)).map stW=(dZ ts).map (·.1)
 | []=>rfl
 | t::ts=>by
   rw [dZ];by_cases hz:ts=[]
   · rw [if_pos hz,RP,jx t]
   · rw [if_neg hz];simp only [RB,RC,jx t,lq ts];rfl
end
theorem nw {ws:List Rz} {t:Th}:i9 ws t↔ws=t.wP/\(∀ x∈t.stP.map (·.2),SOk x)/\t.tall<=101:=by
 unfold i9;rw [gc,jx,and_assoc];exact and_congr_left fun _=>⟨fun h=>h.symm,fun h=>h.symm⟩
theorem yq (x:Stp):1<=(stW x).length:=by
 cases x with
 | sg c=>exact Rq _
 | th t=>cases t with
   | knot n ts=>exact Rq _
   | call s k=>exact (by decide:1<=3)
theorem rc {ws:List Rz} {l:List Stp} (h:ip ws=some l):l.length<=ws.length:=by
 rw [<- (gc.mp h).1];clear h;induction l with
 | nil=>exact Rq _
 | cons x l ih =>
   rw [RB,R0,Rm,Rh];have:=yq x;omega
theorem mq (c:Nat):∀ (l:List Nat) (p:List Nat),p∈aw c l->p.length<=l.length
 | [],p,h=>by
   rw [aw] at h;rw [RO.mp h];exact Rq _
 | d::l,p,h=>by
   rw [aw] at h;obtain ⟨p0,r,e⟩:=bQ c l;have ih:=mq c l;rw [e] at h ih;rw [Rh];split at h
   · rcases RA.mp h with rfl | h
     · exact Sk _
     · have:=ih p h;omega
   · rcases RA.mp h with rfl | h
     · have:=ih p0 (Rr ..);rw [Rh];omega
     · have:=ih p (Rp _ h);omega
theorem lL (c:Nat):∀ l:List Nat,(aw c l).length<=l.length+1
 | []=>Rq _
 | d::l=>by
   have ih:=lL c l;rw [aw];obtain ⟨p,r,e⟩:=bQ c l;rw [e] at ih ⊢;rw [Rh] at ih;split
   · rw [Rh,Rh,Rh];omega
   · rw [Rh,Rh];omega
theorem xl (l:List Nat):(wds l).length<=l.length+1:=SO (List.length_filter_le _ _) (lL 32 l)
theorem xb {l p:List Nat} (h:p∈wds l):p.length<=l.length:=mq 32 l p (Vi.mp h).1
def KdOf (w:Rz) (k:Rz×Int):Prop:=w=bj k/\aS k.1=true/\0<=k.2/\k.2<1000
end BB
namespace BB
open PySem L2 PySem.Builtin PySem.Builtin.Str
theorem m5 (c:Nat):∀ (l:List Nat) (off:Nat),(∀ d∈l,d≠c)->oy c off l=[]
 | [],_,_=>rfl
 | d::l,off,h=>by rw [oy,if_neg (h d (Rr ..)),m5 c l _ fun e he=>h e (Rp _ he)]
theorem occ_none {x:Rz} {c:Nat} (hp:∀ d∈x.cps.toList,d≠c):occurrences x ⟨#[c]⟩ 0 x.length 1=[]:=by
 rw [Xf];have h:=fj x c x.cps.toList [] 0 rfl (Rq _);rw [TM,RE,m5 c _ 0 hp] at h;exact h
end BB
namespace L2
open PySem PySem.Spec PySem.SeqAt PySem.Calls PyProof.Rows PySem.Builtin PySem.Builtin.Str BB
variable {X:Cx}
def yI:V->List V->Hp->VK->Prop:=fun x vs H Q=>xC x vs H Q∨∃ (z:Rz) (c:Nat),x=.str z/\vs=[.str ⟨#[c]⟩]/\(∀ d∈z.cps.toList,d≠c)/\z.length<=1000000/\∀ p,H p=none->Q (.ref p) (upd H p (.tup [.str z,.str Tr,.str Tr]))
theorem mJ:MtR X "str.partition" yI:=by
 intro pins s σ H x vs v us Q I rx rv h;rcases h with h | ⟨z,c,rfl,rfl,hp,hz,q⟩
 · exact oU pins s σ H x vs v us Q I rx rv h
 obtain ⟨t,rfl⟩:=rx;obtain ⟨u,rfl,t',rfl⟩:=rv.one;have hf:H s.heap.objs.size=none:=I.hok.fresh (Rq _);have hm:=meets_str_partition z ⟨#[c]⟩ t t' rfl (by rw [T7];omega);rw [occ_none hp] at hm;refine UX F.slot_str_partition (Uu _ _ _) F.entry_str_partition (F.args_str_partition_2 _ _) hm ?_;show wants (EP X pins σ Q) X.xe _ { s with toks:=s.toks+1,heap:=s.heap.push { cls:=.type "tuple",data:=.seq [.str z t,.str Tr s.toks,.str Tr s.toks].toArray } };refine ⟨.ref s.heap.objs.size,upd H s.heap.objs.size (.tup [.str z,.str Tr,.str Tr]),I.laid (t':=s.toks+1) (fun b u e=>Ro _ e) (Rq _) ?_,rfl,q _ hf⟩;exact ⟨by show 3<=RS;decide,_,_,.cons ⟨_,rfl⟩ (.cons ⟨_,rfl⟩ (.cons ⟨_,rfl⟩ .nil)),RD _ rfl⟩
end L2
namespace L2
open PySem PySem.Spec PyProof.Rows PySem.W
end L2
namespace L2
open PySem PySem.Spec PySem.Calls PyProof.Rows
variable {X:Cx}
end L2
namespace BB
open PySem L2
def Tells (oc:List Nat) (ow:List Rz):Prop:=∀ l,Nx l->scW [] ((oc++l).flatMap sp4)=ow.map sL++scW [] (l.flatMap sp4)
theorem r8 {w:Rz} (h:∀ c∈sL w,47<=c) (Am:sL w≠[]):Tells (sL w) [w]:=fun l hl=>by
 have Dc:∀ c∈sL w,c≠32:=fun c hc=>by have:=h c hc;omega
 rw [UI,i6 h,jk _ _ _ Dc,Sn,vT Am hl];rfl
theorem rj {a b:Rz} (ha:∀ c∈sL a,47<=c) (ON:sL a≠[]) (hb:∀ c∈sL b,47<=c) (OO:sL b≠[]):Tells (sL a++46::sL b) [a,dot,b]:=fun l hl=>by
 have Dc:∀ c∈sL a,c≠32:=fun c hc=>by have:=ha c hc;omega
 have he:em (sL a)=[sL a]:=by unfold em;rw [if_neg ON]
 rw [RM,RZ,UI,i6 ha,jk _ _ _ Dc,Sn,gB _ _ (.inr (.inr (.inr rfl))),he,r8 hb OO l hl];show _=[sL a,sL dot,sL b]++_;rw [qC];rfl
end BB
namespace L2
open PySem PySem.Spec PySem.Calls PyProof.Rows BB
end L2
namespace L2
open PySem PySem.Spec PySem.Calls PyProof.Rows PySem.W
theorem i4 {M:Model} {A:Sf} {E:Rl->Rn->Prop} {s:Rn} {base:SR} {env:WH} {outer:List WH} {L e:Rk} {cls a0 fl:Rl} {Q:Unit->Rn->Prop}
 (Il:A.frames=some (env::outer)) (hf:env.frame=some L) (Fj:base.StaysIn s.heap) (G4:base.get? e=none) (hl:s.heap.FunFrames base (env::outer)) (ht:s.heap.TracedAtW base e cls a0 fl)
 (hQ:∀ h',Heap.FlyingW base outer e cls a0 h'->s.heap.UpToSlots h'->Q () { s with heap:=h' }):RL M A (leaving env (.ref e)) Q E s:=by
 by_cases FZ:fl=VQ L
 · subst FZ;unfold leaving;refine Rj (wpAny_noteFrame_againW hf ht ?_);refine wpAny_landsW (base:=base) (l:=env::outer) (cls:=cls) (a0:=a0) (L:=L) ⟨Fj,G4,hl,ht⟩ fun h' FZ up=>?_;obtain ⟨k1,k2,⟨_,_,k3⟩,k4⟩:=FZ;exact hQ h' ⟨k1,k2,k3,k4⟩ up
 · obtain ⟨oe,vs,T,oT,ts,he,⟨BF,h0⟩,hd,h1,Fl,F0,hT,DN,h3⟩:=ht;subst BF;unfold leaving Wz;simp only [hf];refine Rj (Rj (Sx he hd h1 ?_));rw [if_pos (show (SV T != Te)=true from by simp)];refine Rj (Sx hT DN h3 ?_);rw [if_neg (show ¬ ((fl == VQ L)=true) from fun z=>FZ (beq_iff_eq.mp z))];refine Rj (W5 hT DN (U1.mp h3).1 ?_);have other:∀ b,b≠T->(s.heap.update T (Obj.mapFields (·.setIfInBounds 3 Te))).get? b=s.heap.get? b:=fun b hb=>VL _ _ (UG hb)
   have Bc:∀ b o,s.heap.get? b=some o->(∀ vs,o.data≠.fields vs)->b≠T:=fun b o hb Cw q=>by
    rw [q,hT] at hb;injection hb with hb;subst hb;exact Cw ts DN
   refine wpAny_newEntryW Il (hl.of_keeps fun b o hb Cw=>⟨o,(other b (Bc b o hb Cw)).trans hb,rfl⟩) hf ((other e (UG F0)).trans he)
    (fun b o Fm=>(other b fun q=>by rw [q,Fl] at Fm;cases Fm).trans (Fj b o Fm)) G4 hd (U1.mp h1).1 h0
    fun h' ⟨x1,⟨_,_,x2⟩,x3,x4⟩=>hQ h' ⟨x1,G4,x2,x3⟩ fun b o hb Cw=>x4 b o ((other b (Bc b o hb Cw)).trans hb) Cw
theorem mR {α:Type} {M:Model} {A:Sf} {E:Rl->Rn->Prop} {s:Rn} {EX:String} {Br:WH} {base:SR} {l:List WH} {e:Rk} {cls a0 fl:Rl} {Q:α->Rn->Prop}
 (Fj:base.StaysIn s.heap) (hl:s.heap.FunFrames base l) (ht:s.heap.TracedAtW base e cls a0 fl)
 (h:∀ h' Mm,base.StaysIn h'->h'.FunFrames base l->h'.TracedAtW base e cls a0 Mm->s.heap.UpToSlots h'->E (.ref e) { s with heap:=h' }):RL M A (PySem.passOn EX (.ref e) Br:Sem α) Q E s:=by
 obtain ⟨oe,vs,T,oT,ts,he,BF,hd,h1,Fl,F0,hT,DN,h3⟩:=ht;have G5:3<ts.size:=(U1.mp h3).1
 have other:∀ b,b≠T->(s.heap.update T (Obj.mapFields (·.setIfInBounds 3 (Br.frame.elim Te fun f=>VQ f)))).get? b=s.heap.get? b :=
  fun b hb=>VL _ _ (UG hb)
 have Bc:∀ b o,s.heap.get? b=some o->(∀ vs,o.data≠.fields vs)->b≠T:=fun b o hb Cw q=>by
  rw [q,hT] at hb;injection hb with hb;subst hb;exact Cw ts DN
 unfold PySem.passOn;refine Rj (Sx he hd h1 ?_);rw [if_neg (show ¬ ((SV T == Te)=true) from by simp)];refine Rj ?_;unfold setFlight;refine Rj (Sx he hd h1 ?_);rw [if_pos (show (SV T != Te)=true from by simp)]
 refine W5 hT DN G5 (wpAny_throw (h _ (Br.frame.elim Te fun f=>VQ f) (fun b o Fm=>(other b fun q=>by rw [q,Fl] at Fm;cases Fm).trans (Fj b o Fm))
  (hl.of_keeps fun b o hb Cw=>⟨o,(other b (Bc b o hb Cw)).trans hb,rfl⟩) ?_ fun b o hb Cw=>⟨o.slots,(other b (Bc b o hb Cw)).trans hb⟩))
 exact ⟨oe,vs,T,_,_,(other e (UG F0)).trans he,BF,hd,h1,Fl,F0,W0 _ hT (Obj.isFreed_of_fields (We DN _)),We DN _,by simp [G5]⟩
theorem funFrames_base {base CU h:SR} (k:∀ b o,CU.get? b=some o->base.get? b=some o):∀ {l:List WH},h.FunFrames base l->h.FunFrames CU l
 | [],_=>trivial
 | env::_,⟨hk,⟨L,o,hf,hn,ho,hd⟩,hr⟩ =>
   have D2:CU.get? L=none:=by
    cases z:CU.get? L with
    | none=>rfl
    | some o'=>rw [k L o' z] at hn;cases hn
   ⟨hk,⟨L,o,hf,D2,ho,hd⟩,funFrames_base k hr⟩
theorem wO {fs:List Rk} {H H1 H':Hp} {h h1 h2 h':SR} {l:List Rk} {B:SR} (u1:Un fs [] H H1 h h1) (u2:Un l [] H1 H' h1 h2) (hl:∀ b o,h.get? b=some o->b∈l->b∈fs)
 (b1:∀ b o o1,h.get? b=some o->h1.get? b=some o1->b∉l->∃ o',B.get? b=some o'/\(H1 b=none->o'=o1)) (st:B.StaysIn h') (up:∀ b o o2,h.get? b=some o->h2.get? b=some o2->(∀ vs,o2.data≠.fields vs)->∃ sl,h'.get? b=some { o2 with slots:=sl })
 (hf:∀ b∈fs,H b=none/\∃ o,h.get? b=some o/\∀ vs,o.data≠.fields vs) :
 Un fs [] H H' h h'/\∀ b o,h.get? b=some o->b∉fs->∃ o',B.get? b=some o'/\(H b=none->o'=o):=by
 have nx:∀ b:Rk,b∉([]:List Rk):=fun b=>by simp
 have bb:∀ b o,h.get? b=some o->b∉fs->∃ o',B.get? b=some o'/\(H b=none->o'=o):=fun b o q nf=>by
  obtain ⟨o1,e1⟩:=u1.there b o q (nx b);obtain ⟨o',e',g⟩:=b1 b o o1 q e1 fun z=>nf (hl b o q z);refine ⟨o',e',fun n=>?_⟩;have:=u1.keep b o q n nf (nx b);rw [e1] at this;cases this;exact g (u1.free b _ q n (nx b))
 have sl:∀ b o,h.get? b=some o->H b=none->b∈fs->∃ sl,h'.get? b=some { o with slots:=sl }:=fun b o q n m=>by
  obtain ⟨s1,e1⟩:=u1.slot b o q n m (nx b);obtain ⟨s2,e2⟩:=u2.any e1 (u1.free b o q n (nx b)) (nx b);obtain ⟨_,o0,q0,nf⟩:=hf b m;rw [q] at q0;cases q0;obtain ⟨s3,e3⟩:=up b o _ q e2 nf;exact ⟨s3,e3⟩
 refine ⟨⟨fun b o q n nf _=>?_,fun b o q n m _=>sl b o q n m,fun b o q n _=>?_,fun b o q _=>?_,fun b xs q=>u2.tups b xs (u1.tups b xs q),fun b o u q=>u2.frzs b o u (u1.frzs b o u q),fun b ps q=>?_⟩,bb⟩
 · obtain ⟨o',e',g⟩:=bb b o q nf;rw [<- g n];exact st b o' e'
 · obtain ⟨o1,e1⟩:=u1.there b o q (nx b);exact u2.free b o1 e1 (u1.free b o q n (nx b)) (nx b)
 · by_cases m:b∈fs
   · obtain ⟨n,_⟩:=hf b m;obtain ⟨s3,e3⟩:=sl b o q n m;exact ⟨_,e3⟩
   · obtain ⟨o',e',_⟩:=bb b o q m;exact ⟨o',st b o' e'⟩
 · obtain ⟨m1,e1⟩:=u1.tbls b ps q;obtain ⟨m2,e2⟩:=u2.tbls b _ e1;exact ⟨m1++m2,by rw [e2,VY]⟩
theorem wn {h:SR} {a:Rk} {m:Rz->Option Rl} (n:h.Ns a m):∃ o,h.get? a=some o/\∀ vs,o.data≠.fields vs:=by
 obtain ⟨o,es,ep,ho,hd,_⟩:=n;exact ⟨o,ho,fun vs z=>by rw [hd] at z;cases z⟩
theorem kG {e:Rl} {env G6:WH} (h:env.frame=G6.frame):Wz e env=Wz e G6:=by
 unfold Wz PySem.frameOf;rw [h]
section
variable {P:RY} {w:Sj} {K:Ri} {mg:Rz->Option Rl} {base:SR} {AJ:List Rz} {qual:Rz} {scope:UD} {f:Rk} {cd:Rl} {A:Sf} {outer:List WH} {s₀:Rn} {H₀:Hp} {E:XK}
def eC (X:Cx) (E:XK) (N:List Rz) (sc:UD) (cl:List (Rz×Rk)) (C:Rk) (s:Rn) (H:Hp) (fp:List Rk) (pins:List (Rk×TU)):Cx :=
 { aX X N sc cl C s H fp pins with xe:=fun e s'=>∃ Ax AV H1 s1,Inv (aX X N sc cl C s H fp pins) Ax AV H1 s1/\CX1 X.prog X.w X.stack H1 s1 E e s' }
theorem Inv.toX {X:Cx} {N:List Rz} {sc:UD} {cl:List (Rz×Rk)} {C:Rk} {s:Rn} {H:Hp} {fp:List Rk} {pins Ax:List (Rk×TU)} {AV:St} {H1:Hp} {s1:Rn} (I:Inv (aX X N sc cl C s H fp pins) Ax AV H1 s1):Inv (eC X E N sc cl C s H fp pins) Ax AV H1 s1 :=
 ⟨⟨I.ok.mod,I.ok.kind,I.ok.glob,I.ok.blt,I.ok.above,I.ok.inj,I.ok.has,I.ok.cab,I.ok.hd,I.ok.frames,I.ok.stk,I.ok.exf,I.ok.bs,I.ok.bsz,I.ok.noex,I.ok.exfs,I.ok.funs,I.ok.frf⟩,I.os,I.bare,I.base,I.loc,I.cell,I.free,I.freeC,I.pin,I.hok,I.len⟩
theorem Inv.ofX {X:Cx} {N:List Rz} {sc:UD} {cl:List (Rz×Rk)} {C:Rk} {s:Rn} {H:Hp} {fp:List Rk} {pins Ax:List (Rk×TU)} {AV:St} {H1:Hp} {s1:Rn} (I:Inv (eC X E N sc cl C s H fp pins) Ax AV H1 s1):Inv (aX X N sc cl C s H fp pins) Ax AV H1 s1 :=
 ⟨⟨I.ok.mod,I.ok.kind,I.ok.glob,I.ok.blt,I.ok.above,I.ok.inj,I.ok.has,I.ok.cab,I.ok.hd,I.ok.frames,I.ok.stk,I.ok.exf,I.ok.bs,I.ok.bsz,I.ok.noex,I.ok.exfs,I.ok.funs,I.ok.frf⟩,I.os,I.bare,I.base,I.loc,I.cell,I.free,I.freeC,I.pin,I.hok,I.len⟩
theorem zB {X:Cx} {N:List Rz} {sc:UD} {cl:List (Rz×Rk)} {C:Rk} {s:Rn} {H:Hp} {fp:List Rk} {pins:List (Rk×TU)}:Passes (CX1 X.prog X.w) (eC X E N sc cl C s H fp pins) E :=
 fun Ax AV H1 s1 e s2 I h=>⟨Ax,AV,H1,s1,I.ofX,h⟩
theorem tI {N:List Rz} {sc:UD} {cl:List (Rz×Rk)} {s3:Rn} {H3:Hp} {fp:List Rk} {pins:List (Rk×TU)} {σ:St} {e:Rl} {s2:Rn} {use:Option (Rl->Sem Unit)} {Q:Rl->Rn->Prop} {acc:Rl}
 (I3:Inv (cz (CX1 P w) P w K mg base AJ qual scope f cd A outer s₀ H₀ E) pins σ H3 s3)
 (hf:∀ b∈fp,eQ (cz (CX1 P w) P w K mg base AJ qual scope f cd A outer s₀ H₀ E) pins H3 b)
 (h:(eC (cz (CX1 P w) P w K mg base AJ qual scope f cd A outer s₀ H₀ E) E N sc cl s3.heap.objs.size s3 H3 fp pins).xe e s2) :
 notedBy (RW P w) (cz (CX1 P w) P w K mg base AJ qual scope f cd A outer s₀ H₀ E).A (compEnvC sc cl s3.heap.objs.size (cz (CX1 P w) P w K mg base AJ qual scope f cd A outer s₀ H₀ E).env)
  (fun e s'=>compPost (RW P w) (cz (CX1 P w) P w K mg base AJ qual scope f cd A outer s₀ H₀ E).A (cz (CX1 P w) P w K mg base AJ qual scope f cd A outer s₀ H₀ E).xe use Q acc s3.heap.objs.size (.error e) s') e s2:=by
 obtain ⟨Ax,AV,H1,s1,I1,ea,C0,a0,B,H',rfl,Cg,Cn,un,hok,C9,b1,b2,q⟩:=h;have I7:Inv (cz (CX1 P w) P w K mg base AJ qual scope f cd A outer s₀ H₀ E) pins σ H1 s1:=I3.call' (ch:=fp) (I1.os.trans rfl) I1.base I1.hok I1.bare fun b hb=>⟨(hf b hb).2.2.2.1,(hf b hb).2.1,(hf b hb).2.2.2.2.1,(hf b hb).2.2.2.2.2⟩;have Mn:H1 s3.heap.objs.size=none:=I1.free;obtain ⟨m1,Iz,_⟩:=I1.loc;have Iz:s1.heap.Ns s3.heap.objs.size m1:=Iz;obtain ⟨oC,Ka,Mo⟩:=wn Iz
 -- C3 IC names Mp in no frame
 have Mq:s3.heap.objs.size∉frs (Up qual scope s₀.heap.objs.size f cd::outer):=fun z=>by
  have:=(I3.stack.mem z).2;obtain ⟨o,ho,_⟩:=this;exact absurd (RG ho) (SE _)
 have OP:s2.heap.get? s3.heap.objs.size=some oC:=un.keep _ _ Ka Mn Mq (by simp);have OQ:H' s3.heap.objs.size=none:=un.free _ _ Ka Mn (by simp);show RL _ _ (Wz (.ref ea) _) _ _ s2;rw [show Wz (.ref ea) (compEnvC sc cl s3.heap.objs.size (cz (CX1 P w) P w K mg base AJ qual scope f cd A outer s₀ H₀ E).env)=Wz (.ref ea) (Up qual scope s₀.heap.objs.size f cd) from kG rfl];refine wpAny_looks_onW (outer:=outer) (L:=s₀.heap.objs.size) I3.ok.frames rfl C9 fun h3 held Mr=>?_;obtain ⟨OR,Mt⟩:=Mr _ _ OP Mo;obtain ⟨o0,es,ep,Mu,JQ,r0⟩:=Iz;have Kb:h3.Ns s3.heap.objs.size m1:=⟨{ oC with slots:=OR },es,ep,Mt,by rw [Ka] at Mu;cases Mu;exact JQ,r0⟩
 have post:∃ m,h3.Ns s3.heap.objs.size m/\∀ h',Ul s3.heap.objs.size h3 h'->∀ Br:WH,Br.locals=s3.heap.objs.size->RL (RW P w) (cz (CX1 P w) P w K mg base AJ qual scope f cd A outer s₀ H₀ E).A (PySem.passOn "comprehension.variables-let-go" (.ref ea) Br:Sem Rl) (fun _ _=>False) (cz (CX1 P w) P w K mg base AJ qual scope f cd A outer s₀ H₀ E).xe { s2 with heap:=h' }:=by
  refine ⟨m1,Kb,fun h4 sb Br Bo=>?_⟩;obtain ⟨k1,k2,k3,k4⟩:=held;have hB:∀ b o,(Vx B [s3.heap.objs.size]).get? b=some o->B.get? b=some o:=fun b o z=>of_hideAll _ z
  have OS:∀ b o,(Vx B [s3.heap.objs.size]).get? b=some o->b≠s3.heap.objs.size:=fun b o z e=>by
   rw [e,hideAll_none _ (RO.mpr rfl)] at z;cases z
  have G7:∀ b o,h3.get? b=some o->b≠s3.heap.objs.size->h4.get? b=some o:=fun b o e n=>(sb.2 b n).trans e;have OT:(Vx B [s3.heap.objs.size]).StaysIn h4:=fun b o z=>G7 b o (k1 b o (hB b o z)) (OS b o z)
  have EY:∀ b o vs,h3.get? b=some o->o.data=.fields vs->b≠s3.heap.objs.size:=fun b o vs e d z=>by
   rw [z,Mt] at e;cases e;exact Mo vs d
  have OU:h4.TracedAtW (Vx B [s3.heap.objs.size]) ea (.ref C0) a0 (VQ s₀.heap.objs.size):=by
   obtain ⟨oe,vs,T,oT,ts,he,BF,hd,h1,Fl,F0,hT,DN,OV⟩:=k4;refine ⟨oe,vs,T,oT,ts,G7 _ _ he (EY _ _ _ he hd),BF,hd,h1,?_,F0,G7 _ _ hT (EY _ _ _ hT DN),DN,OV⟩;cases z:(Vx B [s3.heap.objs.size]).get? T with
   | none=>rfl
   | some o'=>rw [hB _ _ z] at Fl;cases Fl
  have OW:h4.FunFrames (Vx B [s3.heap.objs.size]) (Up qual scope s₀.heap.objs.size f cd::outer):=by
   refine funFrames_base hB ?_
   have:∀ {l:List WH},(∀ env∈l,∀ a,env.frame=some a->a≠s3.heap.objs.size)->h3.FunFrames B l->h4.FunFrames B l:=fun {l} hl hh=>by
    induction l with
    | nil=>trivial
    | cons env l ih =>
      obtain ⟨hk,⟨L,o,hf,hn,ho,hd⟩,hr⟩:=hh;exact ⟨hk,⟨L,o,hf,hn,G7 _ _ ho (hl env (Rr ..) L hf),hd⟩,ih (fun e he=>hl e (Rp _ he)) hr⟩
   exact this (fun env he a ha z=>Mq (by rw [<- z];exact VX.mpr ⟨env,he,ha⟩)) k3
  refine mR (s:={ s2 with heap:=h4 }) OT OW OU fun h5 Mm Dw OX OY JS=>?_
  have G4:(Vx B [s3.heap.objs.size]).get? ea=none:=by
   cases z:(Vx B [s3.heap.objs.size]).get? ea with
   | none=>rfl
   | some o'=>rw [hB _ _ z] at k2;cases k2
  show RL _ _ (leaving _ _) _ _ _;refine i4 (s:={ s2 with heap:=h5 }) (outer:=outer) (L:=s₀.heap.objs.size) I3.ok.frames rfl Dw G4 OX OY fun h6 BO JT=>?_
  have hold:∀ b o,s₀.heap.get? b=some o->b≠s3.heap.objs.size:=fun b o e z=>by
   obtain ⟨o',e'⟩:=I3.base.there b o e (by simp [cz]);exact absurd (RG e') (by rw [z];exact SE _)
  obtain ⟨U,GR⟩:=wO (fs:=frs outer) (H:=H₀) (h:=s₀.heap) (l:=frs (Up qual scope s₀.heap.objs.size f cd::outer)) (B:=Vx B [s3.heap.objs.size]) (h':=h6) I7.base un (fun b o hb z=>by
   rw [oZ (L:=s₀.heap.objs.size) rfl] at z;rcases RA.mp z with rfl | z
   · exact absurd (RG hb) (SE _)
   · exact z) (fun b o o1 hb h1 nl=>by
     obtain ⟨o',e',g⟩:=b1 b o1 h1 nl;exact ⟨o',hideAll_get _ e' fun z=>hold b o hb (RO.mp z),g⟩) BO.1 (fun b o o2 hb h2 nf=>by
     obtain ⟨QS,e3⟩:=Mr b o2 h2 nf;obtain ⟨QT,e5⟩:=JS b _ (G7 _ _ e3 (hold b o hb)) nf;obtain ⟨OZ,e6⟩:=JT b _ e5 nf;exact ⟨OZ,e6⟩) (fun b hb=>⟨I3.ok.frf b hb,(I3.ok.funs.mem hb).2⟩)
  have Mv:∀ b u,H' b=some u->∃ o',(Vx B [s3.heap.objs.size]).get? b=some o':=fun b u e=>by
   obtain ⟨o',e'⟩:=b2 b u e;exact ⟨o',hideAll_get _ e' fun z=>by rw [RO.mp z,OQ] at e;cases e⟩
  exact ⟨ea,C0,a0,Vx B [s3.heap.objs.size],H',rfl,Cg.trans I7.os,Cn,U,kT hok (fun b o z=>C9.1 b o (hB b o z)) BO.1 Mv,BO,GR,Mv,q⟩
 cases use <;> exact post
end
section
variable {X:Cx} {pins:List (Rk×TU)} {σ:St} {s:Rn} {H:Hp}
theorem rn {XE:Rl->Rn->Prop} {prog:RY} {w:Sj} {A:Sf} {R:WM->Rn->Prop} {elt target iter:SI} {ifs:List SI} {scope:UD} {pos:Vw} {it acc:Rl} {env:WH} (J:Nat->Rn->Prop)
 (turn:∀ n s,J n s->RL (RW prog w) A (W8 it) (fun r Ab=>(r=none/\R (.ok .next) Ab)∨∃ v,r=some v ∧
  RL (RW prog w) A (VZ target it v) (fun _ Bj=>RL (RW prog w) A (Xb target env v) (fun _ BG =>
   RL (RW prog w) A (forIn ifs true fun c r=>if r=true then do let ok ← isTrue c env (TZ c env);pure (TN ok) else pure (TN r)) (fun ok BJ =>
    (ok=false/\∃ m,m<n/\J m BJ)∨(ok=true/\RL (RW prog w) A (TZ elt env) (fun x DB=>RL (RW prog w) A (call (.builtin "list.append") [acc,x]) (fun _ DC=>∃ m,m<n/\J m DC) (fun _ _=>False) DB) XE BJ))
    (fun _ _=>False) BG) (fun _ _=>False) Bj) (fun _ _=>False) Ab) (fun _ _=>False) s)
 (O0:∀ e s',XE e s'->notedBy (RW prog w) A env (fun e s'=>R (.error e) s') e s') {s:Rn} (n:Nat) (h:J n s):Vn (RW prog w) A (.compLoop (.ListComp elt [⟨target,iter,ifs,0⟩] scope pos) 0 it acc env) R s:=by
 refine codeAny_loop rfl J (fun n s hJ=>?_) n h;show RL _ A ((compTurn (.ListComp elt [⟨target,iter,ifs,0⟩] scope pos) 0 it acc env).onRaise _) _ _ s;refine wpAny_noted ?_;rw [compTurn_list];have up:∀ {α:Type} {m:Sem α} {Q:α->Rn->Prop} {E:Rl->Rn->Prop} {s:Rn},RL (RW prog w) A m Q (fun _ _=>False) s->RL (RW prog w) A m Q E s:=fun q=>SA q (fun _ _ z=>z) fun _ _ z=>z.elim;refine Rj (Wu (Rj (SA (up (turn n s hJ)) (fun r Ab An=>?_) fun _ _ z=>z)));rcases An with ⟨rfl,An⟩ | ⟨v,rfl,An⟩
 · exact RF An
 · refine Rj (SA (up An) (fun _ Bj BA=>?_) fun _ _ z=>z);refine Rj (SA (up BA) (fun _ BG Ck=>?_) fun _ _ z=>z);refine Rj (SA (up Ck) (fun ok BJ Ba=>?_) fun _ _ z=>z);rcases Ba with ⟨rfl,Ba⟩ | ⟨rfl,Ba⟩
   · exact RF ⟨rfl,Ba⟩
   · exact Rj (Rj (SA Ba (fun x DB AM=>Rj (SA (up AM) (fun _ DC E6=>RF (RF ⟨rfl,E6⟩)) fun _ _ z=>z)) fun e s' z=>O0 e s' z))
theorem pN {elt tg iter:SI} {ifs:List SI} {sc:UD} {pos:Vw} {N:List Rz} {js:List (Option Nat)} {g:TG} {tt:TT} {te:TE} {cl:List (Rz×Rk)} {fp:List Rk} {it:Rk} {tn:Nat->SR->Prop} {J:It} {n:Nat} {W:Nat->Hp->Prop} {fin:Hp->Prop}
 {E0:XK} {R:Rl->Rk->WM->Rn->Prop} (hc:X.calm=true) (S:cZ X sc N js) (I:Inv X pins σ H s) (T:Turn X.prog X.w X.K tg J fp it tn) (st:tn 0 s.heap) (hf:∀ b∈fp,eQ X pins H b)
 (Bo:∀ x c,cl.lookup x=some c->X.env.cells.lookup x=some c) (C7:∀ n,(n,SM)∈sc.names->∃ c,cl.lookup n=some c)
 (hg:∀ cl C s H fp pins,PG (aX X N sc cl C s H fp pins) tg g) (gk:nb js g) (ht:∀ cl C s H fp pins,PTs (aX X N sc cl C s H fp pins) ifs tt) (he:∀ cl C s H fp pins,PE (eC X E0 N sc cl C s H fp pins) elt te)
 (w0:W 0 (upd H s.heap.objs.size (.lst []))) (turn:du js g tt te σ J s.heap.objs.size n W fin)
 (hR:∀ C H' s',C≠X.env.locals->s.heap.objs.size<C->(∃ m,s'.heap.Ns C m)->H' C=none->(∀ h' t',Ul C s'.heap h'->Inv X pins σ H' { s' with heap:=h',toks:=t' })->fin H'->R (.ref s.heap.objs.size) C (.ok .next) s')
 (hX:∀ s3 H3,Inv X pins σ H3 s3->(∀ b∈fp,eQ X pins H3 b)->∀ e s',(eC X E0 N sc cl s3.heap.objs.size s3 H3 fp pins).xe e s'->notedBy (RW X.prog X.w) X.A (compEnvC sc cl s3.heap.objs.size X.env) (fun e s'=>R (.ref s.heap.objs.size) s3.heap.objs.size (.error e) s') e s') {E:Rl->Rn->Prop} :
 RL (RW X.prog X.w) X.A (newList []) (fun acc BG=>RL (RW X.prog X.w) X.A (newFunctionEnv sc X.env.globals cl [] X.env.qual none .none (some X.env)) (fun Br BJ =>
  Vn (RW X.prog X.w) X.A (.compStart (.ListComp elt [⟨tg,iter,ifs,0⟩] sc pos) 0 (.ref it) acc { Br with scope:=relabel sc X.env }) (R acc Br.locals) BJ) E BG) E s:=by
 refine S8 (wpAny_newFunctionEnv S.nocell (by intro y hy;simp at hy) (fun An Bh Bi=>?_) S.kind);dsimp only at Bh Bi ⊢;have I3:Inv X pins σ (upd H s.heap.objs.size (.lst [])) { s with heap:=s.heap.push { cls:=.type "list",dict:=none,data:=.seq ([]:List Rl).toArray } }:=I.lnew (t':=s.toks) (its:=[]) .nil (by decide)
 have AH:∀ b∈fp,b<s.heap.objs.size:=fun b hb=>by
  obtain ⟨o,ho,_⟩:=T.obj _ _ st b hb;exact RG ho
 have Cm:∀ b o,s.heap.get? b=some o->(s.heap.push { cls:=.type "list",dict:=none,data:=.seq ([]:List Rl).toArray }).get? b=some o:=fun b o e=>Ro _ e;have Az:(s.heap.push { cls:=.type "list",dict:=none,data:=.seq ([]:List Rl).toArray }).objs.size=s.heap.objs.size+1:=TC ..;generalize Gy:({ s with heap:=s.heap.push { cls:=.type "list",dict:=none,data:=.seq ([]:List Rl).toArray } }:Rn)=s3 at I3;have DD:s.heap.push { cls:=.type "list",dict:=none,data:=.seq ([]:List Rl).toArray }=s3.heap:=by rw [<- Gy]
 rw [DD] at Bh Bi Cm Az;rw [DD];have JB:∀ t',({ s with heap:=An,toks:=t' }:Rn)={ s3 with heap:=An,toks:=t' }:=fun t'=>by rw [<- Gy]
 rw [JB];have CC:∀ b o,s3.heap.get? b=some o->An.get? b=some o:=fun b o e=>Bi.extBut b o (R7 (RG e)) (Ro _ e);have D5:∀ b∈fp,eQ X pins (upd H s.heap.objs.size (.lst [])) b:=fun b hb=>⟨by rw [ar (R7 (AH b hb))];exact (hf b hb).1,(hf b hb).2⟩;have I4:=qB (t':=s.toks+([]:List (Rz×Rl)).length) S I3 Bo C7 D5 (fun b hb=>by rw [Az];exact Tp (AH b hb)) Bh CC;generalize N2:upd H s.heap.objs.size (.lst [])=H3 at I3 I4 D5 w0;have AE:tn 0 An:=T.keep _ _ _ st fun b hb o e=>CC _ _ (Cm _ _ e)
 have Bg:∀ {H':Hp},(∀ b∈fp,H' b=none)->∀ b∈fp,eQ (aX X N sc cl s3.heap.objs.size s3 H3 fp pins) [] H' b:=fun {H'} hn b hb=>by
  obtain ⟨f0,f1,f2,f3,f4,f5⟩:=hf b hb;refine ⟨hn b hb,fun e=>?_,fun hm=>?_,.inl hb,fun x c e=>f4 x c (Bo x c e),fun p hp=>f5 p (by simpa [aX] using hp)⟩
  · have e':b=s3.heap.objs.size:=e;have h9:b<s.heap.objs.size:=AH b hb;rw [e',Az] at h9;exact absurd h9 (Nat.not_lt.mpr (Nat.le_succ _))
  · rcases RA.mp (I.stkSub b hm) with e | e
    · exact f1 e
    · exact f2 e
 have loop:Vn (RW X.prog X.w) X.A (.compLoop (.ListComp elt [⟨tg,iter,ifs,0⟩] sc pos) 0 (.ref it) (.ref s.heap.objs.size) (compEnvC sc cl s3.heap.objs.size X.env)) (R (.ref s.heap.objs.size) s3.heap.objs.size)
  { s3 with heap:=An,toks:=s.toks+([]:List (Rz×Rl)).length }:=by
  refine rn (XE:=(eC X E0 N sc cl s3.heap.objs.size s3 H3 fp pins).xe) (fun k s'=>∃ i H',Inv (aX X N sc cl s3.heap.objs.size s3 H3 fp pins) [] (cσ js σ) H' s'/\tn i s'.heap/\(∀ b∈fp,H' b=none)/\W i H'/\k=n - i) ?_ (fun e s' z=>hX s3 H3 I3 D5 e s' z) n ⟨0,H3,I4,AE,fun b hb=>(D5 b hb).1,w0,rfl⟩;rintro k s5 ⟨i,H5,I5,Dw,E1,w5,rfl⟩;rcases turn i H5 w5 with ⟨stop,qn⟩ | ⟨Gz,go,step⟩
  · refine thn (T.done (aX X N sc cl s3.heap.objs.size s3 H3 fp pins) rfl rfl rfl hc i [] s5 (cσ js σ) H5 _ I5 (Bg E1) Dw stop) fun r s6 ⟨hr,I6⟩=>.inl ⟨hr,?_⟩;have I7:Inv X pins σ H5 s6:=I3.call' (ch:=fp) (I6.os.trans rfl) I6.base I6.hok I6.bare fun b hb=>⟨(hf b hb).2.2.2.1,(hf b hb).2.1,(hf b hb).2.2.2.2.1,(hf b hb).2.2.2.2.2⟩;have GA:H5 s3.heap.objs.size=none:=I6.free;have GB:s3.heap.objs.size≠X.env.locals:=Uc I3.lt;obtain ⟨m6,JC,_⟩:=I6.loc;refine hR s3.heap.objs.size H5 s6 GB (by omega) ⟨m6,JC⟩ GA (fun h' t' sb=>?_) qn;refine I7.turned (it:=s3.heap.objs.size) (fun b o hb e=>sb.extBut b o hb e) GA GB (.inr I3.sz) (fun x c e z=>?_) fun p hp z=>?_
    · obtain ⟨v,q⟩:=I3.cell x c e;exact absurd q.lt (by rw [z];exact SE _)
    · exact absurd (RG (I3.pin p hp).1) (by rw [z];exact SE _)
  · refine thn (T.item (aX X N sc cl s3.heap.objs.size s3 H3 fp pins) rfl rfl rfl hc i [] s5 (cσ js σ) H5 _ I5 (Bg E1) Dw go) fun r s6 ⟨u,hr,h6⟩=>.inr ⟨u,hr,?_⟩;refine thn h6 fun _ s7 ⟨x,H7,I7,r7,y7,E7,JD⟩=>?_;have JE:=I7.pinned (Bg JD) (T.obj _ _ E7);refine thn (hg cl s3.heap.objs.size s3 H3 fp pins _ s7 (cσ js σ) H7 x u _ JE r7 (gk σ (cσ js σ) x H7 _ (.refl _) (step x H7 y7))) fun _ s8 ⟨CD,H8,I8,k8,q8⟩=>?_;refine thn (ht cl s3.heap.objs.size s3 H3 fp pins _ s8 CD H8 _ I8 q8) fun ok s9 ⟨H9,I9,q9⟩=>?_
    have again:∀ {s':Rn} {f':St} {H':Hp},Keep (cσ js σ) f'->Inv (aX X N sc cl s3.heap.objs.size s3 H3 fp pins) ([]++iJ fp s7.heap) f' H' s'->W (i+1) H'->∃ m,m<n - i/\∃ i H',Inv (aX X N sc cl s3.heap.objs.size s3 H3 fp pins) [] (cσ js σ) H' s'/\tn i s'.heap/\(∀ b∈fp,H' b=none)/\W i H'/\m=n - i:=fun {s' f' H'} kp I' w'=>by
     refine ⟨n - (i+1),by omega,i+1,H',(I'.unpinned).weak kp.1 kp.2,T.keep _ _ _ E7 fun b hb o e=>(I'.pin (b,o) (RI _ (RI _ (cw hb e)))).1,fun b hb=>?_,w',rfl⟩;obtain ⟨o,e,d⟩:=T.obj _ _ E7 b hb;exact (I'.pin (b,o) (RI _ (RI _ (cw hb e)))).2.1
    cases ok with
    | false =>
      refine .inl ⟨rfl,again k8 I9 ?_⟩;have GC:if false=true then _ else W (i+1) H9:=q9
      rw [if_neg RK] at GC;exact GC
    | true =>
      refine .inr ⟨rfl,?_⟩;rw [if_pos rfl] at q9;refine SA (he cl s3.heap.objs.size s3 H3 fp pins _ s9 CD H9 _ I9.toX q9) (fun vv JF ⟨v,JG,Kc,rv,ys,hD,GD,JI⟩=>?_) fun _ _ z=>z;have JH:=Kc.ofX;refine thn (bh _ JF CD JG (.ref s.heap.objs.size) [v] (.ref s.heap.objs.size) [vv] (fun _ H'=>W (i+1) H') JH rfl (.cons rv .nil) ⟨_,ys,v,rfl,rfl,hD,GD,JI⟩) fun _ N3 ⟨_,N4,JJ,_,JK⟩=>?_;exact again k8 JJ JK
 exact codeAny_compStart_list loop (T.self X.A 0 _ _ _ AE loop)
end
section
variable {P:RY} {w:Sj} {K:Ri} {mg:Rz->Option Rl} {base:SR} {AJ:List Rz} {qual:Rz} {scope:UD} {f:Rk} {cd:Rl} {A:Sf} {outer:List WH} {s₀:Rn} {H₀:Hp} {E:XK}
theorem vi {elt tg iter:SI} {ifs:List SI} {sc:UD} {pos:Vw} {N:List Rz} {js:List (Option Nat)} {wi:TI} {g:TG} {tt:TT} {te:TE} (S:cZ (cz (CX1 P w) P w K mg base AJ qual scope f cd A outer s₀ H₀ E) sc N js) (hi:PI (cz (CX1 P w) P w K mg base AJ qual scope f cd A outer s₀ H₀ E) tg iter wi)
 (hg:∀ cl C s H fp pins,PG (aX (cz (CX1 P w) P w K mg base AJ qual scope f cd A outer s₀ H₀ E) N sc cl C s H fp pins) tg g) (gk:nb js g) (ht:∀ cl C s H fp pins,PTs (aX (cz (CX1 P w) P w K mg base AJ qual scope f cd A outer s₀ H₀ E) N sc cl C s H fp pins) ifs tt) (he:∀ cl C s H fp pins,PE (eC (cz (CX1 P w) P w K mg base AJ qual scope f cd A outer s₀ H₀ E) E N sc cl C s H fp pins) elt te)
 (hs:∀ x,VH iter (cz (CX1 P w) P w K mg base AJ qual scope f cd A outer s₀ H₀ E).env x=pure x:=by intro _;rfl):PE (cz (CX1 P w) P w K mg base AJ qual scope f cd A outer s₀ H₀ E) (.ListComp elt [⟨tg,iter,ifs,0⟩] sc pos) (uw js wi g tt te):=by
 intro pins s σ H Q I h;obtain ⟨cl,e1,e2,e3⟩:=ii (env:=(cz (CX1 P w) P w K mg base AJ qual scope f cd A outer s₀ H₀ E).env) (sc:=sc) fun n hn=>I.ok.has n (S.frees _ hn rfl);rw [eval_ListComp];refine Ww (use:=none) rfl hs e1 S.kind S.names (thn (hi pins s σ H _ I h) fun v s1 h1=>thn h1 fun Gi s2 h2=>?_);obtain ⟨it,fp,tn,J,H2,rfl,I2,T,Eg,f2,R2⟩:=h2;obtain ⟨n,W,w0,turn⟩:=R2 s2.heap.objs.size I2.fresh;refine pN (R:=fun acc C=>compPost (RW P w) (cz (CX1 P w) P w K mg base AJ qual scope f cd A outer s₀ H₀ E).A (cz (CX1 P w) P w K mg base AJ qual scope f cd A outer s₀ H₀ E).xe none (EP (cz (CX1 P w) P w K mg base AJ qual scope f cd A outer s₀ H₀ E) pins σ Q) acc C) rfl S I2 T Eg f2 e2 e3 hg gk ht he w0 turn (fun C H' s' _ _ hn _ inv fi=>?_) fun s3 H3 I3 D5 e s' z=>tI I3 D5 z;obtain ⟨m,hm⟩:=hn;exact ⟨m,hm,fun h' sb=>⟨.ref s2.heap.objs.size,H',inv h' s'.toks sb,rfl,fi⟩⟩
end
end L2
namespace BB
open PySem L2
theorem jJ {n:Rz} (h:aS n=true):(∀ c∈sL n,97<=c/\c<=122)/\n.length<=8/\n.length≠0:=by
 unfold aS low at h;obtain ⟨h1,h2⟩:=R5 _ _ |>.mp h;have h3:=of_decide_eq_true h1;exact ⟨fun c hc=>of_decide_eq_true (Sl.mp h2 c hc),h3.2,by omega⟩
mutual
/-- names Gb are names,ID of at most three figures -/
def Th.Wr:Th->Prop
 | .knot n ts=>aS n=true/\Wrs ts
 | .call s k=>(0<=s/\s<1000)/\0<=k/\k<1000
def Wrs:List Th->Prop
 | []=>True
 | t::ts=>t.Wr/\Wrs ts
end
theorem Wrs.mem:∀ {ts:List Th},Wrs ts->∀ t∈ts,t.Wr
 | [],_,t,ht=>by cases ht
 | u::us,h,t,ht=>by
   rw [Wrs] at h;rcases RA.mp ht with rfl | ht
   · exact h.1
   · exact Wrs.mem h.2 t ht
theorem cJ {n:Int} (h:0<=n/\n<1000):(aU n).length<=3:=by
 obtain ⟨m,rfl⟩:=UL h.1;have:=pe m (by omega);unfold isNum at this;rw [R5,R5] at this;exact (of_decide_eq_true this.1.1).2
theorem tj {n:Int} (h:0<=n/\n<1000):n.natAbs.log2<1920:=by
 have:n.natAbs.log2<=n.natAbs:=Nat.log2_le_self _;omega
mutual
theorem vO:∀ {t:Th},t.Wr->(t.fill cu).Nm 8
 | .knot n ts,h=>by
   rw [Th.Wr] at h;rw [Th.fill,Th.Nm];exact ⟨(jJ h.1).2.1,qK h.2⟩
 | .call s k,h=>by
   rw [Th.Wr] at h;rw [Th.fill,cu,Th.Nm,Nms];have h1:=cJ h.1;have h2:=cJ h.2;refine ⟨?_,trivial⟩;unfold uT;rw [RT,RT];show (aU s).length+1+(aU k).length<=8;omega
theorem qK:∀ {ts:List Th},Wrs ts->Nms 8 (fills cu ts)
 | [],_=>by rw [fills,Nms];trivial
 | t::ts,h=>by
   rw [Wrs] at h;rw [fills,Nms];exact ⟨vO h.1,qK h.2⟩
end
mutual
theorem jA:∀ t:Th,(t.fill cu).size=t.size
 | .knot n ts=>by rw [Th.fill,Th.size,Th.size,ik ts]
 | .call s k=>by rw [Th.fill,cu,Th.size,Th.size,aF]
theorem ik:∀ ts:List Th,aF (fills cu ts)=aF ts
 | []=>by rw [fills]
 | t::ts=>by rw [fills,aF,aF,jA t,ik ts]
end
theorem qU {t:Th} (h:t.Wr) (hz:t.size<=1000):(t.fill cu).show.length<=11000:=by
 have h1:=Th.show_le (t.fill cu) (vO h);rw [jA] at h1;have:=T8 (8+3) hz;omega
theorem qs:∀ ts:List Th,ts.length<=aF ts
 | []=>Sk _
 | t::ts=>by
   rw [Rh,aF];have h1:=qs ts;cases t with
   | knot n us=>rw [Th.size];omega
   | call s k=>rw [Th.size];omega
end BB
namespace L2
open PySem PySem.Spec PySem.Calls PyProof.Rows BB
end L2
namespace L2
open PySem PySem.Spec PySem.SeqAt PyProof.Rows BB
section
variable {X:Cx} {pins:List (Rk×TU)} {σ:St} {H:Hp} {s:Rn}
end
end L2
namespace BB
open PySem L2
mutual
def Th.tx:Th->List Nat
 | .knot n ts=>sL n++(if ts=[] then [] else 40::(txs ts++[41]))
 | .call s k=>sL (aU s)++46::sL (aU k)
def txs:List Th->List Nat
 | []=>[]
 | t::ts=>t.tx++(if ts=[] then [] else 44::txs ts)
end
theorem vd (s k:Int):sL (uT s k)=sL (aU s)++46::sL (aU k):=by
 unfold uT;rw [dw,dw,qC,RM];rfl
mutual
theorem xp:∀ t:Th,((t.fill cu).wT.map sL).flatten=t.tx
 | .call s k=>by
   rw [Th.fill,cu,Th.wT,if_pos rfl,Th.tx];show sL (uT s k)++[]=_;rw [RP,vd]
 | .knot n ts=>by
   rw [Th.fill,Th.wT,Th.tx,RB,R0];congr 1;by_cases hz:ts=[]
   · rw [if_pos hz,if_pos (gC.mpr hz)];rfl
   · rw [if_neg hz,if_neg (fun z=>hz (gC.mp z)),RB,R0,RC,Ua,vE ts,oJ];show [40]++(txs ts++(sL rpar++[]))=_;rw [oR];rfl
theorem vE:∀ ts:List Th,((wTs (fills cu ts)).map sL).flatten=txs ts
 | []=>by rw [fills,wTs,txs];rfl
 | t::ts=>by
   rw [fills,wTs,txs,RC,Ua,xp t];congr 1;by_cases hz:ts=[]
   · rw [if_pos hz,if_pos (gC.mpr hz)];rfl
   · rw [if_neg hz,if_neg (fun z=>hz (gC.mp z)),RB,R0,vE ts,lv];rfl
end
theorem sS (t:Th):sL (t.fill cu).show=t.tx:=by rw [sj _ (pY t),xp]
theorem cR {n:Int} (h:0<=n/\n<1000):(∀ c∈sL (aU n),48<=c/\c<=57)/\sL (aU n)≠[]:=by
 obtain ⟨m,rfl⟩:=UL h.1;have:=pe m (by omega);unfold isNum at this;rw [R5,R5,Sl] at this;obtain ⟨⟨h1,h2⟩,_⟩:=this;refine ⟨fun c hc=>of_decide_eq_true (h2 c hc),fun z=>?_⟩;have h1:=(of_decide_eq_true h1).1;rw [<- dW,z] at h1;exact absurd h1 (by decide)
theorem cQ {n:Rz} (h:aS n=true):(∀ c∈sL n,97<=c/\c<=122)/\sL n≠[]:=by
 obtain ⟨h1,_,h3⟩:=jJ h;exact ⟨h1,fun e=>h3 (by rw [<- dW,e];rfl)⟩
mutual
theorem vW:∀ {t:Th},t.Wr->∀ (l:List Nat),Nx l->scW [] ((t.tx++l).flatMap sp4)=t.wP.map sL++scW [] (l.flatMap sp4)
 | .call s k,h,l,hl=>by
   rw [Th.Wr] at h;obtain ⟨a1,a2⟩:=cR h.1;obtain ⟨b1,b2⟩:=cR h.2;rw [Th.tx,rj (fun c hc=>by have:=a1 c hc;omega) a2 (fun c hc=>by have:=b1 c hc;omega) b2 l hl,Th.wP,Th.stP];rfl
 | .knot n ts,h,l,hl=>by
   rw [Th.Wr] at h;obtain ⟨O1,Am⟩:=cQ h.1;have El:∀ c∈sL n,47<=c:=fun c hc=>by have:=O1 c hc;omega
   have Dc:∀ c∈sL n,c≠32:=fun c hc=>by have:=El c hc;omega
   rw [Th.tx,Th.wP,Th.stP];by_cases hz:ts=[]
   · rw [if_pos hz,if_pos hz,RP,UI,i6 El,jk _ _ _ Dc,Sn,vT Am hl];rfl
   · rw [if_neg hz,if_neg hz,RM,RZ,RM,UI,i6 El,jk _ _ _ Dc,Sn,gB _ _ (.inl rfl),vC h.2 hz ([41]++l) (.inr ⟨41,l,rfl,.inr (.inl rfl)⟩)];rw [RZ,Sn,gB _ _ (.inr (.inl rfl))];have he:em (sL n)=[sL n]:=by unfold em;rw [if_neg Am]
     rw [he];simp only [RB,R0,RC,Ua,TY,List.flatten_nil,RP,RZ,Sn,RM,oJ,oR];rfl
theorem vC:∀ {ts:List Th},Wrs ts->ts≠[]->∀ (l:List Nat),Nx l->scW [] ((txs ts++l).flatMap sp4)=(((dZ ts).map (·.1)).flatten).map sL++scW [] (l.flatMap sp4)
 | [],_,hn,_,_=>absurd rfl hn
 | t::ts,h,_,l,hl=>by
   rw [Wrs] at h;rw [txs,dZ];by_cases hz:ts=[]
   · rw [if_pos hz,if_pos hz,RP,RP,vW h.1 l hl];rfl
   · rw [if_neg hz,if_neg hz,RM,RZ,vW h.1 _ (.inr ⟨44,_,rfl,.inr (.inr rfl)⟩),gB _ _ (.inr (.inr (.inl rfl))),vC h.2 hz l hl];simp only [RB,R0,RC,Ua,RZ,Sn,RM,lv];rfl
end
theorem si {t:Th} (h:t.Wr):W4 t.tx=t.wP.map sL:=by
 have:=vW h [] (.inl rfl);rw [RP] at this;rw [zw,this];show _++em []=_;exact RP _
mutual
theorem sC:∀ {t:Th},t.Wr->∀ c∈t.tx,40<=c/\c<=122
 | .call s k,h,c,hc=>by
   rw [Th.Wr] at h;rw [Th.tx] at hc;rcases RN.mp hc with hc | hc
   · have:=(cR h.1).1 c hc;omega
   · rcases RA.mp hc with rfl | hc
     · omega
     · have:=(cR h.2).1 c hc;omega
 | .knot n ts,h,c,hc=>by
   rw [Th.Wr] at h;rw [Th.tx] at hc;rcases RN.mp hc with hc | hc
   · have:=(cQ h.1).1 c hc;omega
   · by_cases hz:ts=[]
     · rw [if_pos hz] at hc;cases hc
     · rw [if_neg hz] at hc;rcases RA.mp hc with rfl | hc
       · omega
       · rcases RN.mp hc with hc | hc
         · exact uN h.2 c hc
         · rw [RO.mp hc];omega
theorem uN:∀ {ts:List Th},Wrs ts->∀ c∈txs ts,40<=c/\c<=122
 | [],_,c,hc=>by rw [txs] at hc;cases hc
 | t::ts,h,c,hc=>by
   rw [Wrs] at h;rw [txs] at hc;rcases RN.mp hc with hc | hc
   · exact sC h.1 c hc
   · by_cases hz:ts=[]
     · rw [if_pos hz] at hc;cases hc
     · rw [if_neg hz] at hc;rcases RA.mp hc with rfl | hc
       · omega
       · exact uN h.2 c hc
end
def Uw (w:Rz):Prop:=(w=lpar∨w=rpar∨w=comma∨w=dot)∨((∀ c∈sL w,47<=c/\c<=122)/\sL w≠[])
theorem mh {w:Rz} (h:Uw w):(∀ c∈sL w,40<=c/\c<=122)/\sL w≠[]:=by
 rcases h with (rfl | rfl | rfl | rfl) | ⟨h1,h2⟩
 · decide +kernel
 · decide +kernel
 · decide +kernel
 · decide +kernel
 · exact ⟨fun c hc=>by have:=h1 c hc;omega,h2⟩
theorem sr {w:Rz} (h:Uw w):wds (sL w)=[sL w]:=by
 obtain ⟨h1,h2⟩:=mh h;exact pG (fun c hc=>by have:=h1 c hc;omega) h2
theorem wt {n:Rz} (h:aS n=true):Uw n:=by
 obtain ⟨h1,h2⟩:=cQ h;exact .inr ⟨fun c hc=>by have:=h1 c hc;omega,h2⟩
theorem yA {n:Int} (h:0<=n/\n<1000):Uw (aU n):=by
 obtain ⟨h1,h2⟩:=cR h;exact .inr ⟨fun c hc=>by have:=h1 c hc;omega,h2⟩
mutual
theorem xw:∀ {t:Th},(∀ x∈t.stP.map (·.2),SOk x)->t.Wr
 | .call s k,h=>by
   rw [Th.stP] at h;rw [Th.Wr];exact h (.th (.call s k)) (Rr ..)
 | .knot n ts,h=>by
   rw [Th.stP,RB] at h;rw [Th.Wr];refine ⟨(h _ (Rr ..)).2,?_⟩;by_cases hz:ts=[]
   · rw [hz,Wrs];trivial
   · rw [if_neg hz,RB,RC] at h;exact uk fun x hx=>h x (Rp _ (Rp _ (Su _ hx)))
theorem uk:∀ {ts:List Th},(∀ x∈(dZ ts).map (·.2),SOk x)->Wrs ts
 | [],_=>by rw [Wrs];trivial
 | t::ts,h=>by
   rw [dZ,RC] at h;rw [Wrs];refine ⟨xw fun x hx=>h x (Su _ hx),?_⟩;by_cases hz:ts=[]
   · rw [hz,Wrs];trivial
   · rw [if_neg hz,RB] at h;exact uk fun x hx=>h x (RI _ (Rp _ hx))
end
mutual
theorem xz:∀ {t:Th},t.Wr->∀ x∈t.stP.map (·.2),SOk x
 | .call s k,h,x,hx=>by
   rw [Th.Wr] at h;rw [Th.stP] at hx;rw [RO.mp hx];exact h
 | .knot n ts,h,x,hx=>by
   rw [Th.Wr] at h;rw [Th.stP,RB] at hx;rcases RA.mp hx with rfl | hx
   · exact ⟨rfl,h.1⟩
   · by_cases hz:ts=[]
     · rw [if_pos hz] at hx;cases hx
     · rw [if_neg hz,RB,RC] at hx;rcases RA.mp hx with rfl | hx
       · exact .inl rfl
       · rcases RN.mp hx with hx | hx
         · exact vn h.2 x hx
         · rw [RO.mp hx];exact .inr (.inr rfl)
theorem vn:∀ {ts:List Th},Wrs ts->∀ x∈(dZ ts).map (·.2),SOk x
 | [],_,x,hx=>by rw [dZ] at hx;cases hx
 | t::ts,h,x,hx=>by
   rw [Wrs] at h;rw [dZ,RC] at hx;rcases RN.mp hx with hx | hx
   · exact xz h.1 x hx
   · by_cases hz:ts=[]
     · rw [if_pos hz] at hx;cases hx
     · rw [if_neg hz,RB] at hx;rcases RA.mp hx with rfl | hx
       · exact .inr (.inl rfl)
       · exact vn h.2 x hx
end
def gY {α:Type} (f:Int->Rz->Th->α) (ins:List (Rz×Int)) (rows:List (List Th)):List α:=(rows.zipIdx.map fun z=>(ins.zip z.1).map fun y=>f (z.2:Nat) y.1.1 y.2).flatten
theorem ny {α:Type} {n:Nat}:∀ {L:List (List α)} {s j:Nat} {l:List α} {x:α},(∀ l∈L,l.length=n)->L[s]?=some l->l[j]?=some x->L.flatten[s * n+j]?=some x
 | [],s,j,l,x,_,h,_=>by cases h
 | m::L,0,j,l,x,hn,h,hx=>by
   cases h;rw [Nat.zero_mul,Uy,R0,TQ (Rv.mp hx).1];exact hx
 | m::L,s+1,j,l,x,hn,h,hx=>by
   have hm:=hn m (Rr ..);rw [R0,SY (by rw [hm,TV];omega),hm,show (s+1) * n+j - n=s * n+j by rw [TV];omega];exact ny (fun l hl=>hn l (Rp _ hl)) h hx
theorem nO {α:Type} {n:Nat}:∀ {L:List (List α)},(∀ l∈L,l.length=n)->L.flatten.length=L.length * n
 | [],_=>by rw [TM,Nat.zero_mul];rfl
 | m::L,hn=>by
   rw [R0,Rm,hn m (Rr ..),nO fun l hl=>hn l (Rp _ hl),Rh,TV];omega
section
variable {α β:Type} {f:Int->Rz->Th->α} {ins:List (Rz×Int)} {rows:List (List Th)}
theorem lZ (h:∀ row∈rows,row.length=ins.length):∀ l∈(rows.zipIdx.map fun z=>(ins.zip z.1).map fun y=>f (z.2:Nat) y.1.1 y.2),l.length=ins.length:=fun l hl=>by
 obtain ⟨z,hz,rfl⟩:=SQ.mp hl
 have hm:z.1∈rows:=by
  obtain ⟨a,b⟩:=z;exact (List.mem_zipIdx' hz).2 ▸ List.getElem_mem _
 rw [Rf,Wo,h z.1 hm,Nat.min_self]
theorem jv (h:∀ row∈rows,row.length=ins.length):(gY f ins rows).length=rows.length * ins.length:=by
 unfold gY;rw [nO (lZ h),Rf,List.length_zipIdx]
theorem nD (h:∀ row∈rows,row.length=ins.length) {s j:Nat} {row:List Th} {t:Th} {k:Rz×Int} (hr:rows[s]?=some row) (ht:row[j]?=some t) (hk:ins[j]?=some k):(gY f ins rows)[s * ins.length+j]?=some (f (s:Nat) k.1 t):=by
 unfold gY;refine ny (l:=(ins.zip row).map fun y=>f (s:Nat) y.1.1 y.2) (lZ h) ?_ ?_
 · rw [Rw,List.getElem?_zipIdx,hr];simp
 · rw [Rw,U8.mpr (show ins[j]?=some (k,t).1/\row[j]?=some (k,t).2 from ⟨hk,ht⟩)];rfl
theorem uO (h:∀ row∈rows,row.length=ins.length) (hn:0<ins.length) {i:Nat} {x:α} (hx:(gY f ins rows)[i]?=some x):∃ row t k,rows[i / ins.length]?=some row/\row[i%ins.length]?=some t/\ins[i%ins.length]?=some k/\x=f ((i / ins.length:Nat):Int) k.1 t:=by
 have BS:=(Rv.mp hx).1;rw [jv h] at BS;have hs:i / ins.length<rows.length:=WD (by rw [U3];exact BS);have hj:i%ins.length<ins.length:=Nat.mod_lt _ hn;obtain ⟨row,Ae⟩:∃ row,rows[i / ins.length]?=some row:=⟨_,Rg hs⟩;have Cs:=h row (Ru Ae);obtain ⟨t,ht⟩:∃ t,row[i%ins.length]?=some t:=⟨_,Rg (by omega)⟩;obtain ⟨k,hk⟩:∃ k,ins[i%ins.length]?=some k:=⟨_,Rg hj⟩;refine ⟨row,t,k,Ae,ht,hk,?_⟩;have hg:=nD (f:=f) h Ae ht hk;rw [U3,VM,hx] at hg;exact Ry hg
end
end BB
namespace BB
open PySem L2
def aut (s:Nat×Nat) (w:Rz):Option (Nat×Nat) :=
 if w=lpar then (if s.1=1 then some (0,s.2+1) else none)
 else if w=rpar then (if (s.1=1∨s.1=4)/\s.2≠0 then some (4,s.2 - 1) else none)
 else if w=comma then (if (s.1=1∨s.1=4)/\s.2≠0 then some (0,s.2) else none)
 else if w=dot then (if s.1=2 then some (3,s.2) else none)
 else if aS w=true then (if s.1=0 then some (1,s.2) else none)
 else if isNum w=true then (if s.1=0 then some (2,s.2) else if s.1=3 then some (4,s.2) else none)
 else none
def ck:Nat×Nat->List Rz->Option (Nat×Nat)
 | s,[]=>some s
 | s,w::ws=>(aut s w).bind fun s'=>ck s' ws
theorem iZ:∀ (a b:List Rz) (s:Nat×Nat),ck s (a++b)=(ck s a).bind fun s'=>ck s' b
 | [],b,s=>rfl
 | w::a,b,s=>by
   rw [RZ,ck,ck];cases aut s w with
   | none=>rfl
   | some s'=>exact iZ a b s'
theorem xo:sL lpar=[40]/\sL rpar=[41]/\sL comma=[44]/\sL dot=[46]:=⟨oJ,oR,lv,qC⟩
theorem xK {w:Rz} (h:∀ c∈sL w,47<=c) (Am:sL w≠[]):w≠lpar/\w≠rpar/\w≠comma/\w≠dot:=by
 obtain ⟨s1,s2,s3,s4⟩:=xo;refine ⟨fun z=>?_,fun z=>?_,fun z=>?_,fun z=>?_⟩
 · rw [z,s1] at h;exact absurd (h 40 (by simp)) (by decide)
 · rw [z,s2] at h;exact absurd (h 41 (by simp)) (by decide)
 · rw [z,s3] at h;exact absurd (h 44 (by simp)) (by decide)
 · rw [z,s4] at h;exact absurd (h 46 (by simp)) (by decide)
theorem vJ {n:Rz} (h:aS n=true) (d:Nat):aut (0,d) n=some (1,d):=by
 obtain ⟨h1,h2⟩:=cQ h;obtain ⟨n1,n2,n3,n4⟩:=xK (fun c hc=>by have:=h1 c hc;omega) h2;unfold aut;rw [if_neg n1,if_neg n2,if_neg n3,if_neg n4,if_pos h,if_pos rfl]
theorem mn {n:Int} (h:0<=n/\n<1000):aS (aU n)≠true/\isNum (aU n)=true:=by
 obtain ⟨h1,h2⟩:=cR h;refine ⟨fun z=>?_,?_⟩
 · cases e:sL (aU n) with
   | nil=>exact h2 e
   | cons c l =>
     have a:=h1 c (by rw [e];exact Rr ..);have b:=(cQ z).1 c (by rw [e];exact Rr ..);omega
 · obtain ⟨m,rfl⟩:=UL h.1;exact pe m (by omega)
theorem sG {n:Int} (h:0<=n/\n<1000) (d:Nat):aut (0,d) (aU n)=some (2,d)/\aut (3,d) (aU n)=some (4,d):=by
 obtain ⟨h1,h2⟩:=cR h;obtain ⟨n1,n2,n3,n4⟩:=xK (fun c hc=>by have:=h1 c hc;omega) h2;obtain ⟨n5,n6⟩:=mn h;unfold aut;rw [if_neg n1,if_neg n2,if_neg n3,if_neg n4,if_neg n5,if_pos n6,if_pos rfl,if_neg n1,if_neg n2,if_neg n3,if_neg n4,if_neg n5,if_pos n6,if_neg (show ¬ (3,d).1=0 from fun z=>absurd (show (3:Nat)=0 from z) (by decide)),if_pos rfl];exact ⟨rfl,rfl⟩
theorem wC:rpar≠lpar/\comma≠lpar/\comma≠rpar/\dot≠lpar/\dot≠rpar/\dot≠comma:=by decide +kernel
theorem wv (d:Nat):aut (2,d) dot=some (3,d):=by
 obtain ⟨_,_,_,a,b,c⟩:=wC;unfold aut;rw [if_neg a,if_neg b,if_neg c,if_pos rfl,if_pos rfl]
theorem ut (d:Nat):aut (1,d) lpar=some (0,d+1):=by
 unfold aut;rw [if_pos rfl,if_pos rfl]
theorem uC {q:Nat} (hq:q=1∨q=4) (d:Nat):aut (q,d+1) rpar=some (4,d):=by
 unfold aut;rw [if_neg wC.1,if_pos rfl,if_pos ⟨hq,by simp⟩];rfl
theorem tG {q:Nat} (hq:q=1∨q=4) (d:Nat):aut (q,d+1) comma=some (0,d+1):=by
 unfold aut;rw [if_neg wC.2.1,if_neg wC.2.2.1,if_pos rfl,if_pos ⟨hq,by simp⟩]
mutual
theorem oI:∀ {t:Th},t.Wr->∀ d,∃ q,(q=1∨q=4)/\ck (0,d) t.wP=some (q,d)
 | .call s k,h,d=>by
   rw [Th.Wr] at h;have e:(Th.call s k).wP=[aU s,dot,aU k]:=by rw [Th.wP,Th.stP];rfl
   refine ⟨4,.inr rfl,?_⟩;rw [e,ck,(sG h.1 d).1];show ck (2,d) [dot,aU k]=_;rw [ck,wv];show ck (3,d) [aU k]=_;rw [ck,(sG h.2 d).2];rfl
 | .knot n ts,h,d=>by
   rw [Th.Wr] at h;rw [Th.wP,Th.stP,RB,R0];show ∃ q,_/\ck (0,d) (n::_)=_;rw [ck,vJ h.1];show ∃ q,_/\ck (1,d) _=_;by_cases hz:ts=[]
   · rw [if_pos hz];exact ⟨1,.inl rfl,rfl⟩
   · rw [if_neg hz,RB,R0,RC,Ua];show ∃ q,_/\ck (1,d) (lpar::_)=_;rw [ck,ut];show ∃ q,_/\ck (0,d+1) (((dZ ts).map (·.1)).flatten++[rpar])=_;obtain ⟨q,hq,e⟩:=pP h.2 hz d;rw [iZ,e];refine ⟨4,.inr rfl,?_⟩;show ck (q,d+1) [rpar]=_;rw [ck,uC hq];rfl
theorem pP:∀ {ts:List Th},Wrs ts->ts≠[]->∀ d,∃ q,(q=1∨q=4)/\ck (0,d+1) ((dZ ts).map (·.1)).flatten=some (q,d+1)
 | [],_,hn,_=>absurd rfl hn
 | t::ts,h,_,d=>by
   rw [Wrs] at h;rw [dZ,RC,Ua];obtain ⟨q,hq,e⟩:=oI h.1 (d+1);rw [iZ];show ∃ q,_/\(ck (0,d+1) t.wP).bind _=_;rw [e];show ∃ q',_/\ck (q,d+1) _=_;by_cases hz:ts=[]
   · rw [if_pos hz];exact ⟨q,hq,rfl⟩
   · rw [if_neg hz,RB,R0];show ∃ q',_/\ck (q,d+1) (comma::_)=_;rw [ck,tG hq];exact pP h.2 hz d
end
def hZ (ws:List Rz):Bool:=ck (0,0) ws == some (1,0) || ck (0,0) ws == some (4,0)
theorem ly {t:Th} (h:t.Wr):hZ t.wP=true:=by
 obtain ⟨q,hq,e⟩:=oI h 0;unfold hZ;rw [e];rcases hq with rfl | rfl <;> rfl
def yF (x:List Rz):Bool:=!(ck (1,0) x == some (1,0) || ck (1,0) x == some (4,0)) && !(ck (4,0) x == some (1,0) || ck (4,0) x == some (4,0))
theorem tM {t:Th} (h:t.Wr) {x:List Rz} (hx:yF x=true):hZ (t.wP++x)=false:=by
 obtain ⟨q,hq,e⟩:=oI h 0;unfold yF at hx;obtain ⟨h1,h2⟩:=R5 _ _ |>.mp hx;rw [V2] at h1 h2;unfold hZ;rw [iZ,e];show (ck (q,0) x == _ || ck (q,0) x == _)=false;rcases hq with rfl | rfl
 · exact h1
 · exact h2
theorem rp {c:Nat} (hc:c≠32):∀ (l cur:List Nat),c∈cur∨c∈l->∃ w∈scW cur l,c∈w
 | [],cur,h=>by
   rcases h with h | h
   · refine ⟨cur,?_,h⟩;rw [scW,em,if_neg (fun z=>by rw [z] at h;cases h)];exact Rr ..
   · cases h
 | d::l,cur,h=>by
   rw [scW];by_cases hd:d=32
   · rw [if_pos hd];rcases h with h | h
     · refine ⟨cur,Su _ ?_,h⟩;rw [em,if_neg (fun z=>by rw [z] at h;cases h)];exact Rr ..
     · rcases RA.mp h with rfl | h
       · exact absurd hd hc
       · obtain ⟨w,hw,G8⟩:=rp hc l [] (.inr h);exact ⟨w,RI _ hw,G8⟩
   · rw [if_neg hd];refine rp hc l (cur++[d]) ?_;rcases h with h | h
     · exact .inl (Su _ h)
     · rcases RA.mp h with rfl | h
       · exact .inl (RI _ (Rr ..))
       · exact .inr h
theorem xF {c:Nat} (hc:c≠32) {l:List Nat} (h:c∈l):∃ w∈wds l,c∈w:=by
 have e:wds l=scW [] l:=l0 l [] fun c h=>by cases h
 rw [e];exact rp hc l [] (.inr h)
theorem yo {c:Nat} (hc:c≠32) {l:List Nat} (h:c∈l):∃ w∈W4 l,c∈w:=by
 refine xF hc (List.mem_flatMap.mpr ⟨c,h,?_⟩);unfold sp4 spS;split
 · rename_i e;rw [e];simp
 · split
   · simp
   · simp
end BB
namespace L2
open PySem PySem.Spec PySem.Calls PyProof.Rows BB
open PySem.Builtin PySem.Builtin.Str
def er1 (c:Nat):List Nat->List Nat
 | []=>[]
 | d::l=>if d=c then l else d::er1 c l
theorem gd (x y:Rz) (hi:Nat):∀ (l:List Nat) (f:Array Nat) (free:Nat),1<=f.size->(forIn l (f,free) (Si x y hi 1)).run.fst=f
 | [],f,free,_=>rfl
 | i::l,f,free,h=>by
   rw [S9];unfold Si;rw [if_neg (fun z=>absurd (show f.size<1 from z.1.1.1) (by omega))];have ih:=gd x y hi l f free h;unfold Si at ih;exact ih
theorem nq (x:Rz) (c:Nat):∀ (l pre:List Nat) (free:Nat),x.cps.toList=pre++l->free<=pre.length →
 (forIn (V1 pre.length (l.length+1)) ((#[]:Array Nat),free) (Si x ⟨#[c]⟩ x.length 1)).run.fst.toList=(idxs c pre.length l).take 1
 | [],pre,free,hx,_=>by
   have hlen:pre.length=x.length:=by
    have:=congrArg TB hx;rw [RE,RP] at this;exact this.symm
   rw [TM,hlen,idxs,V8]
   have h2:(forIn (V1 x.length (0+1)) ((#[]:Array Nat),free) (Si x ⟨#[c]⟩ x.length 1)).run.fst=#[]:=by
    show (forIn [x.length] ((#[]:Array Nat),free) (Si x ⟨#[c]⟩ x.length 1)).run.fst=#[];rw [S9];unfold Si
    rw [if_neg (fun h=>by
     have:=h.1.2;rw [cE] at this;omega)]
    rfl
   rw [h2]
 | d::l,pre,free,hx,hf=>by
   have hlen:x.length=pre.length+(l.length+1):=by
    have:=congrArg TB hx;rw [RE,Rm,Rh] at this;exact this
   rw [List.range'_succ,S9,Rh];have hg:x.cps.toList[pre.length]?=some d:=by rw [hx];simp
   have Bs:=subAt_one x c pre.length (by omega);rw [hg] at Bs;have B1:x.cps.toList=(pre++[d])++l:=by rw [hx];simp
   have A9:(pre++[d]).length=pre.length+1:=by simp
   unfold Si;rw [idxs];by_cases Be:d=c
   · have h1:(((#[]:Array Nat).size<1/\free<=pre.length)/\pre.length+(⟨#[c]⟩:Rz).length<=x.length)/\subAt x ⟨#[c]⟩ pre.length=true:=by
      rw [cE,Bs,Be];exact ⟨⟨⟨by decide,hf⟩,by omega⟩,decide_eq_true rfl⟩
     rw [if_pos h1,if_pos Be];have ih:=gd x ⟨#[c]⟩ x.length (V1 (pre.length+1) (l.length+1)) ((#[]:Array Nat).push pre.length) (pre.length+(⟨#[c]⟩:Rz).length) (by rw [Array.size_push];omega);unfold Si at ih;exact Eq.trans (congrArg Wk ih) rfl
   · have h1:¬ ((((#[]:Array Nat).size<1/\free<=pre.length)/\pre.length+(⟨#[c]⟩:Rz).length<=x.length)/\subAt x ⟨#[c]⟩ pre.length=true):=fun h=>by
      have h2:=h.2;rw [Bs] at h2;exact Be (Ry (of_decide_eq_true h2))
     rw [if_neg h1,if_neg Be];have ih:=nq x c l (pre++[d]) free B1 (by omega);rw [A9] at ih;unfold Si at ih;exact ih
theorem occ_first (x:Rz) (c:Nat):occurrences x ⟨#[c]⟩ 0 x.length 1=(idxs c 0 x.cps.toList).take 1:=by
 rw [Xf,VS];have h:=nq x c x.cps.toList [] 0 (by simp) (Sk _);rw [RE] at h;exact h
theorem sF (c:Nat):∀ (l:List Nat) (off:Nat),(idxs c off l=[]/\er1 c l=l)∨∃ p r,idxs c off l=(off+p)::r/\p<l.length/\er1 c l=l.take p++l.drop (p+1)
 | [],off=>.inl ⟨rfl,rfl⟩
 | d::l,off=>by
   rw [idxs,er1];by_cases Be:d=c
   · rw [if_pos Be,if_pos Be];exact .inr ⟨0,_,rfl,by simp,rfl⟩
   · rw [if_neg Be,if_neg Be];rcases sF c l (off+1) with ⟨h1,h2⟩ | ⟨p,r,h1,h2,h3⟩
     · exact .inl ⟨h1,by rw [h2]⟩
     · exact .inr ⟨p+1,r,by rw [h1];congr 1;omega,by rw [Rh];omega,by rw [h3];rfl⟩
theorem uA (x:Rz) (c:Nat) {p:Nat} (hp:p<x.length):glued (Rc "") (partsBetween x [p] 1)=ofL (x.cps.toList.take p++x.cps.toList.drop (p+1)):=by
 have h1:partsBetween x [p] 1=[strSub x 0 p,strSub x (p+1) x.length]:=rfl;rw [h1];refine cn ?_;show ((strSub x 0 p).cps++(Rc "").cps++(strSub x (p+1) x.length).cps).toList=_;rw [Ss,Ss,VO,VO,aB];have h2:(Rc "").cps.toList=[]:=by decide +kernel
 rw [h2,RP,Tt,VS];congr 1;rw [Sd (by rw [RJ,RE];exact Rq _)]
theorem pK (x y z:Rz) (t u v k:Tok)
 (hf:(u == 0 || v == 0)=false/\(u == v)=false/\(y == z)=false/\tooLong (x.length+(occurrences x y 0 x.length 1).length * z.length)=false) :
 Gives («str.replace» ⟨[.str x t,.str y u,.str z v,.int 1 k],[]⟩) (if ((occurrences x y 0 x.length 1).isEmpty || (y.length == 0 && z.length == 0))=true then .val (.str x t) else .str (glued z (partsBetween x (occurrences x y 0 x.length 1) y.length))):=by
 show Gives (do let limit ← countLimit "str.replace" (some (.int 1 k)) (x.length+1);_) _;rw [countLimit_int "str.replace" 1 k (x.length+1) (by decide)]
 show Gives (if ((occurrences x y 0 x.length 1).isEmpty || (y.length == 0 && z.length == 0))=true then (do rule "str.replace.nothing";ret (.str x t)) else
  (do let same ← isSame (.str y u) (.str z v)
      if same=true then (do rule "str.replace.old-is-new";ret (.str x t)) else
      if tooLong (x.length+(occurrences x y 0 x.length 1).length * z.length)=true then unsupported "str.replace:memory" else
      retStr (glued z (partsBetween x (occurrences x y 0 x.length 1) y.length)))) _
 obtain ⟨h0,Kd,J5,hl⟩:=hf;cases hc:((occurrences x y 0 x.length 1).isEmpty || (y.length == 0 && z.length == 0))
 · rw [isSame_str_other y z u v h0 Kd J5,hl];exact .of_eq rfl
 · exact .rule (.of_eq rfl)
theorem zQ {prog:RY} {w:Sj} {A:Sf} {E:Rl->Rn->Prop} {s:Rn} {x:Rz} {t u v k:Tok} {Q:Rl->Rn->Prop} (hu:u≠0) (hv:v≠0) (Kd:u≠v) (hx:x.length<=1000000)
 (hq:∀ t' k,Q (.str (ofL (er1 32 (sL x))) t') { s with toks:=k }):RL (RW prog w) A (call (.builtin "str.replace") [.str x t,.str (Rc " ") u,.str (Rc "") v,.int 1 k]) Q E s:=by
 have JM:(Rc "").length=0:=by decide +kernel
 have Ke:(Rc " ").length=1:=by decide +kernel
 have ey:Rc " "=⟨#[32]⟩:=by decide +kernel
 have hl:tooLong (x.length+(occurrences x (Rc " ") 0 x.length 1).length * (Rc "").length)=false:=by
  rw [JM];unfold tooLong RS;exact decide_eq_false (by omega)
 refine call_gives F.slot_str_replace (Uu _ _ _) F.entry_str_replace (F.args_str_replace_4 _ _ _ _)
  (pK x _ _ t u v k ⟨by simp [hu,hv],by simp [Kd],by decide +kernel,hl⟩) ?_
 rw [Ke];have hb:((1:Nat) == 0 && (Rc "").length == 0)=false:=rfl;rw [hb,Bool.or_false];have ho:=occ_first x 32;rw [<- ey] at ho;rw [ho];rcases sF 32 x.cps.toList 0 with ⟨h1,h2⟩ | ⟨p,r,h1,h2,h3⟩
 · rw [h1];show Made.post (.val (.str x t)) Q s
   have e:ofL (er1 32 (sL x))=x:=by
    show ofL (er1 32 x.cps.toList)=x;rw [h2];exact gn x
   have:=hq t s.toks;rw [e] at this;exact this
 · rw [h1,Uy];rw [RE] at h2;show Made.post (.str (glued (Rc "") (partsBetween x [p] 1))) Q s;rw [uA x 32 h2];have e:ofL (er1 32 (sL x))=ofL (x.cps.toList.take p++x.cps.toList.drop (p+1)):=congrArg ofL h3;rw [<- e];refine ⟨?_,hq _ _⟩;rw [e];show (ofL (x.cps.toList.take p++x.cps.toList.drop (p+1))).length<=RS;rw [show ∀ l:List Nat,(ofL l).length=l.length from fun l=>by unfold ofL;show l.toArray.size=l.length;simp,Rm,Rx,RJ,RE,T7];have BE:p<x.length:=h2;have:x.cps.size=x.length:=rfl;omega
section
variable {X:Cx} {st:Tf} {rest:List Tf} {t u:TS}
def PSt (X:Cx) (st:Tf) (t:TS):Prop :=
 ∀ (pins:List (Rk×TU)) (s:Rn) (σ:St) (H:Hp) (D:Ends),1<=s.toks->Inv X pins σ H s->t D σ H->RL (RW X.prog X.w) X.A (exec st X.env) (SP X pins D) X.xe s
def wF (X:Cx) (st:List Tf) (t:TS):Prop :=
 ∀ (pins:List (Rk×TU)) (s:Rn) (σ:St) (H:Hp) (D:Ends),1<=s.toks->Inv X pins σ H s->t D σ H->RL (RW X.prog X.w) X.A (execs st X.env) (SP X pins D) X.xe s
theorem bg (h1:PS X st t) (h2:wF X rest u):wF X (st::rest) (rN t u):=by
 intro pins s σ H D hk I h;refine Vk (wpAny_with_toks hk (SA (h1 pins s σ H { D with nx:=u D } I h) (fun f s1 q G9=>?_) fun e s' h _=>h));cases f with
 | next =>
   obtain ⟨f',H',I',q⟩:=q;exact h2 pins s1 f' H' D G9 I' q
 | ret v=>exact q
 | brk=>exact q
 | cont=>exact q
theorem uP (h1:PSt X st t) (h2:PSs X rest u):wF X (st::rest) (rN t u):=by
 intro pins s σ H D hk I h;refine Vk (thn (h1 pins s σ H { D with nx:=u D } hk I h) fun f s1 q=>?_);cases f with
 | next =>
   obtain ⟨f',H',I',q⟩:=q;exact h2 pins s1 f' H' D I' q
 | ret v=>exact q
 | brk=>exact q
 | cont=>exact q
theorem qJ {i:Nat} {x:Rz} {e:SI} {te:TE} {pos pos':Vw} (hN:X.N.Nodup) (hi:X.N[i]?=some x) (hk:X.env.scope.names.lookup x=some .local) (he:PE X e te) (h2:wF X rest u) (hs:Wa e (some (.Name x pos')) pos.line X.env=pure false:=by rfl) :
 PSs X (.Assign [.Name x pos'] e pos::rest) (rN (qV te (aC i)) u):=by
 intro pins s σ H D I h;refine Vk (Wm (thn (he pins s σ H _ I h) fun v s1 ⟨y,H1,I1,r1,q1⟩=>?_) hs);refine nB I1 hN hi hk r1 fun h' m' I2 _ _ _=>?_;exact h2 pins _ _ _ D (Nat.le_add_left ..) I2 q1
def zo (te:TE) (i:Nat):TS:=fun D σ H=>te σ H fun v H1=>∃ z:Rz,v=.str z/\z.length<=1000000/\D.nx (σ.set i (some (.str (ofL (er1 32 (sL z)))))) H1
theorem vR {i:Nat} {x:Rz} {e:SI} {te:TE} {k1 k2 k3:Nat} {p0 p1 p2 p3 p4 p5 p6:Vw} (hN:X.N.Nodup) (hi:X.N[i]?=some x) (hx:Loc X.env.scope x) (he:PE X e te)
 (hb:Wx e "replace" X.env (TZ e X.env)=TZ e X.env:=by rfl) (BI:(p1.endLine == p5.line)=true:=by rfl)
 (hs:Wa (.Call (.Attribute e "replace" p1) [.Constant (.str (Rc " ")) k1 p2,.Constant (.str (Rc "")) k2 p3,.Constant (.int 1) k3 p4] [] p5) (some (.Name x p0)) p6.line X.env=pure false:=by rfl) (hf:X.fn x=true∨X.env.scope.names.lookup x=some .local:=by first | exact .inl rfl | exact .inr rfl | assumption) :
 PSt X (.Assign [.Name x p0] (.Call (.Attribute e "replace" p1) [.Constant (.str (Rc " ")) k1 p2,.Constant (.str (Rc "")) k2 p3,.Constant (.int 1) k3 p4] [] p5) p6) (zo te i):=by
 intro pins s σ H D hk I h;refine Wm (UW hb rfl BI rfl (wpAny_with_toks hk (SA (he pins s σ H _ I h) (fun v s1 ⟨y,H1,I1,r1,q1⟩ G9=>?_) fun e s' h _=>h))) hs;obtain ⟨z,rfl,hz,q⟩:=q1;obtain ⟨t0,rfl⟩:=r1;refine ⟨"str","str.replace",Sr,V5,V4,Uu _ _ _,(fun _ e=>nomatch e),?_⟩;refine Um rfl (UN ?_);show RL _ _ (spliced [(false,TZ (.Constant (.str (Rc " ")) k1 p2) X.env),(false,TZ (.Constant (.str (Rc "")) k2 p3) X.env),(false,TZ (.Constant (.int 1) k3 p4) X.env)]) _ _ _;refine Tc (TF (Tc (TF (Tc ?_))));refine thn ((ag (X:=X) (i:=1) (j:=k3) (pos:=p4)) pins _ σ H1 (fun v H2=>v=.int 1/\H2=H1) ((I1.tok _).tok _) ⟨rfl,rfl⟩) fun v s2 ⟨y,H2,I2,r2,e1,e2⟩=>?_;subst e1;subst e2;obtain ⟨t3,rfl⟩:=r2;refine UM ?_;refine zQ (Uc G9) (Nat.succ_ne_zero _) (R7 (U4 _)) hz fun t' k'=>?_;exact dX (v:=.str (ofL (er1 32 (sL z)))) (I2.tok k') hN hi hx ⟨t',rfl⟩ (fun s3 I3=>⟨_,_,I3,q⟩) hf
end
end L2
namespace L2
open PySem PySem.Spec PySem.SeqAt PyProof.Rows BB
theorem pk {A:Sf} {s:Rn} {x y:List Rz} {its Ah:List Rl} (r1:Vals (x.map V.str) its) (r2:Vals (y.map V.str) Ah) :
 ∀ j (h1:j<its.toArray.size) (h2:j<Ah.toArray.size),EqAt A s its.toArray[j] Ah.toArray[j] (decide (x[j]?=y[j]?)):=fun j h1 h2=>by
 have l1:its.length=x.length:=by rw [<- r1.length,Rf]
 have l2:Ah.length=y.length:=by rw [<- r2.length,Rf]
 have BX:j<x.length:=by rw [<- l1];simpa using h1
 have BE:j<y.length:=by rw [<- l2];simpa using h2
 have e1:x[j]?=some x[j]:=Rg BX;have e2:y[j]?=some y[j]:=Rg BE;obtain ⟨u',Dm,Fb⟩:=r1.get (show (x.map V.str)[j]?=some (V.str x[j]) by rw [Rw,e1];rfl);obtain ⟨v',Cu,Fc⟩:=r2.get (show (y.map V.str)[j]?=some (V.str y[j]) by rw [Rw,e2];rfl)
 have e3:decide (x[j]?=y[j]?)=(x[j] == y[j]):=by
  rw [e1,e2];by_cases h:x[j]=y[j]
  · rw [h];simp
  · rw [decide_eq_false (fun z=>h (Ry z))];simp [h]
 have e4:its.toArray[j]=u':=by
  rw [Rg (by rw [l1];exact BX)] at Dm;simpa using Dm
 have e5:Ah.toArray[j]=v':=by
  rw [Rg (by rw [l2];exact BE)] at Cu;simpa using Cu
 rw [e3,e4,e5];obtain ⟨t,rfl⟩:=Fb;obtain ⟨t',rfl⟩:=Fc;exact EqAt.str_str _ t _ t'
theorem vS {x y:List Rz} (hl:x.length=y.length):(Sw x.length).all (fun j=>decide (x[j]?=y[j]?))=decide (x=y):=by
 by_cases h:x=y
 · subst h;rw [decide_eq_true rfl,Sl];exact fun j _=>decide_eq_true rfl
 · rw [decide_eq_false h];refine S6.mpr fun z=>h (Vv fun j=>?_);by_cases hj:j<x.length
   · exact of_decide_eq_true (Sl.mp z j (UK.mpr hj))
   · rw [SW (by omega),SW (by omega)]
def rLs (K:Ri) (ne:Bool):R2:=fun x y H Q=>∃ (a b:Rk) (u v:List Rz),x=.ref a/\y=.ref b/\SqL K H a (u.map V.str)/\SqL K H b (v.map V.str)/\Q (.bl (ne ^^ decide (u=v))) H
theorem wu {X:Cx} (hu:X.A.units+3<WA):OpR X (TH .NotEq) (rLs X.K true):=by
 intro pins s σ H x y v u Q I rx ry h;obtain ⟨a,b,p,q,rfl,rfl,ha,hb,k⟩:=h;cases rx;cases ry;obtain ⟨its,r1,p1,_⟩:=I.list ha;obtain ⟨Ah,r2,p2,_⟩:=I.list hb;have l1:its.length=p.length:=by rw [<- r1.length,Rf]
 have l2:Ah.length=q.length:=by rw [<- r2.length,Rf]
 by_cases hl:p.length=q.length
 · have Az:its.toArray.size=Ah.toArray.size:=by rw [Rt,Rt];omega
   refine RcNeAt.lists p1.isList p2.isList Az (by omega) (pk r1 r2) X.prog X.w X.xe _ ?_
   have e:(Sw its.toArray.size).all (fun j=>decide (p[j]?=q[j]?))=decide (p=q):=by
    rw [Rt,l1];exact vS hl
   refine ⟨.bl (true ^^ decide (p=q)),H,I,?_,k⟩;rw [e,Bool.true_xor];rfl
 · refine RcNeAt.lists_lengths p1.isList p2.isList (by rw [Rt,Rt,l1,l2];simpa using hl) (by omega) X.prog X.w X.xe _ ⟨.bl true,H,I,rfl,?_⟩;rw [decide_eq_false (fun z=>hl (by rw [z]))] at k;exact k
theorem wb {X:Cx} (hu:X.A.units+3<WA):OpR X (TH .Eq) (rLs X.K false):=by
 intro pins s σ H x y v u Q I rx ry h;obtain ⟨a,b,p,q,rfl,rfl,ha,hb,k⟩:=h;cases rx;cases ry;obtain ⟨its,r1,p1,_⟩:=I.list ha;obtain ⟨Ah,r2,p2,_⟩:=I.list hb;have l1:its.length=p.length:=by rw [<- r1.length,Rf]
 have l2:Ah.length=q.length:=by rw [<- r2.length,Rf]
 by_cases hl:p.length=q.length
 · have Az:its.toArray.size=Ah.toArray.size:=by rw [Rt,Rt];omega
   refine eq_listAt (e:=fun j=>decide (p[j]?=q[j]?)) p1.isList p2.isList Az (by omega) (pk r1 r2) ?_
   have e:(Sw its.toArray.size).all (fun j=>decide (p[j]?=q[j]?))=decide (p=q):=by
    rw [Rt,l1];exact vS hl
   refine ⟨.bl (false ^^ decide (p=q)),H,I,?_,k⟩;rw [e,Bool.false_xor];rfl
 · refine eq_list_lengthsAt p1.isList p2.isList (by rw [Rt,Rt,l1,l2];simpa using hl) (by omega) ⟨.bl false,H,I,rfl,?_⟩;rw [decide_eq_false (fun z=>hl (by rw [z]))] at k;exact k
end L2
namespace LAW
open PySem L2 BB
def top (i:Nat):Tf:=PySem.Challenge.pw_boughbook_k31_rows_that_are_none.main.body.getD i (.Pass ⟨0,0,0,0⟩)
theorem scm {N P:List Rz} {sc:UD} (a:sc.kind=.function:=by rfl) (b:sc.isCoroutine=false:=by rfl) (c:sc.isGenerator=false:=by rfl) (d:N.Nodup:=by decide +kernel) (e:N.take P.length=P:=by rfl) (f:∀ x∈P,sc.names.lookup x=some .local∨sc.names.lookup x=some .cell:=by decide +kernel) (g:∀ y∈sc.names,y.2≠.free:=by decide +kernel):az N P sc:=⟨a,b,c,d,e,f,g⟩
abbrev fS:Tf:=top 11
theorem pf:az ["thing"] ["thing"] (al fS):=scm
abbrev iG:Tf:=top 12
theorem pB:az ["number","bound"] ["number","bound"] (al iG):=scm
abbrev jH:Tf:=top 13
theorem sd:az ["thing"] ["thing"] (al jH):=scm
abbrev jE:Tf:=top 14
theorem qS:az ["pair"] ["pair"] (al jE):=scm
abbrev fH:Tf:=top 15
theorem iT:az ["kinds","names"] ["kinds"] (al fH):=scm
abbrev iA:Tf:=top 16
theorem j5:az ["pairs","kinds"] ["pairs"] (al iA):=scm
abbrev jD:Tf:=top 17
theorem iE:az ["kinds","name","kind","many"] ["kinds","name"] (al jD):=scm
abbrev jr:Tf:=top 18
theorem rP:az ["thing"] ["thing"] (al jr):=scm
abbrev lJ:Tf:=top 19
theorem gF:az ["thing","met","ahead","part"] ["thing"] (al lJ):=scm
abbrev nQ:Tf:=top 20
theorem iL:az ["tops","done","top","many"] ["tops"] (al nQ):=scm
abbrev jy:Tf:=top 22
theorem qR:az ["thing"] ["thing"] (al jy):=scm
abbrev dN:Tf:=top 23
theorem fE:az ["kinds","pattern","states","kids","part"] ["kinds","pattern","states","kids"] (al dN):=scm
abbrev bZ:Tf:=inClass (top 29) 0
theorem kC:az ["self"] ["self"] (al bZ):=scm
abbrev bP:Tf:=inClass (top 29) 1
theorem jl:az ["self","part","row"] ["self","part","row"] (al bP):=scm
abbrev il:Tf:=top 30
theorem di:az ["pattern","measure","ahead","part","row"] ["pattern"] (al il):=scm
abbrev dm:Tf:=top 31
theorem jM:az ["outs","pattern","states","kids"] ["outs","pattern","states","kids"] (al dm):=scm
abbrev eI:Tf:=top 32
theorem dM:az ["ins","outs","patterns","states","kind","pattern"] ["ins","outs","patterns","states"] (al eI):=scm
abbrev gh:Tf:=top 33
theorem cN:az ["ins","outs","head","rules","taken","given","rows","patterns"] ["ins","outs","head","rules"] (al gh):=scm
abbrev iz:Tf:=top 35
theorem gp:az ["text","spread","sign"] ["text"] (al iz):=scm
abbrev eF:Tf:=top 39
theorem gg:az ["word","figures"] ["word"] (al eF):=scm
abbrev gj:Tf:=top 40
theorem nR:az ["words"] ["words"] (al gj):=scm
abbrev iy:Tf:=top 41
theorem cK:az ["words","steps","at"] ["words"] (al iy):=scm
abbrev jt:Tf:=top 42
theorem mF:az ["before","step","depth","ended"] ["before","step","depth"] (al jt):=scm
abbrev jK:Tf:=top 43
theorem cV:az ["steps","tops","within","before","step"] ["steps"] (al jK):=scm
abbrev dS:Tf:=top 44
theorem fD:az ["words","text"] ["words"] (al dS):=scm
abbrev fO:Tf:=top 45
theorem dB:az ["word","name","slash","many"] ["word"] (al fO):=scm
abbrev fc:Tf:=top 46
theorem mL:az ["first","words"] ["first","words"] (al fc):=scm
abbrev f8:Tf:=top 47
theorem oN:az ["words"] ["words"] (al f8):=scm
abbrev fI:Tf:=top 48
theorem nZ:az ["state","name","words"] ["state","name","words"] (al fI):=scm
abbrev fv:Tf:=top 49
theorem ci:az ["ins","rows","rules","number","words","state","at"] ["ins","rows"] (al fv):=scm
abbrev iD:Tf:=top 50
theorem pW:az ["row"] ["row"] (al iD):=scm
abbrev fN:Tf:=top 51
theorem cO:az ["text","rows","ins","outs","head"] ["text"] (al fN):=scm
abbrev dY:Tf:=top 53
theorem ku:az ["script","k"] ["script","k"] (al dY):=scm
abbrev fV:Tf:=top 54
theorem bu:az ["base","n","letters","word","rest","k","size","at","step"] ["base","n"] (al fV):=scm
abbrev ft:Tf:=top 55
theorem bH:az ["cell","mixed","many","rest","kinds","k","at"] ["cell"] (al ft):=scm
abbrev eK:Tf:=top 56
theorem dJ:az ["script","many","cells","k"] ["script","many"] (al eK):=scm
abbrev d3:Tf:=top 57
theorem bD:az ["cell","outs","states","kids","deep","pair","parts","k","part"] ["cell","outs","states","kids","deep"] (al d3):=scm
abbrev eJ:Tf:=top 58
theorem bx:az ["own","outs","states","kids","deep","calls","pick","pair","parts","k"] ["own","outs","states","kids","deep"] (al eJ):=scm
abbrev fQ:Tf:=top 59
theorem aT:az ["script","most","deep","ins","outs","states","cells","digits","rules","state","row","k","cell","head"] ["script","most","deep"] (al fQ):=scm
abbrev fu:Tf:=top 60
theorem mM:az ["pattern"] ["pattern"] (al fu):=scm
abbrev fP:Tf:=top 61
theorem bS:az ["book","rows","at","pair","state","k","name","text"] ["book"] (al fP):=scm
abbrev iI:Tf:=top 62
theorem aP:az ["rows","cell","at","row","tails","heads","odd","way","ahead"] ["rows","cell"] (al iI):=scm
abbrev fW:Tf:=top 63
theorem ff:az ["rows","odd","kinds","many"] ["rows","odd"] (al fW):=scm
abbrev d4:Tf:=top 64
theorem cg:az ["text","signs","e"] ["text"] (al d4):=scm
abbrev iK:Tf:=top 65
theorem lT:az ["script","rows","k","cell","odd"] ["script"] (al iK):=scm
structure FX (K:Ri) (mg:Rz->Option Rl) (n:Rz) (s:Tf) (ps:List Rz) where
 f:Rk
 d:Uk
 F:Fun K n n s f d
 b:Binds K d ps []
 m:mg n=some (.ref f)
section
open PySem.W
variable {K:Frag} {mg:Rz->Option Rl} {h:SR} {n:Rz} {st:Tf} {f:Rk} {oc kV dc pm cd ct:Rl} {od an:Option Rk} {sl:Array (Option Rl)} (X:K.In h) (G:h.Ns RV mg)
noncomputable def fx1 {p0:Rz} (a:nsIn K RV n=some (some (.ref f)):=by k_is) (l:K.lookup f=some ⟨oc,od,.func (fnOf n n (bN st) (bA st) (al st) .none kV dc pm an cd ct),sl⟩:=by k_is) (c:codeIn K cd n=true:=by k_is) (k:keepIn K (.ref f)=true:=by k_is) (hb:∀ (kV dc pm:Rl) (an:Option Rk) (cd ct u0:Rl),Xa (fnOf n n (bN st) (bA st) (al st) .none kV dc pm an cd ct) ⟨[u0],[]⟩=pure [(p0,u0)]:=by intros;rfl):FX K mg n st [p0] :=
 ⟨f,_,cX l c k,(cX l c k).binds fun a b c d e f us hl=>by obtain ⟨u0,rfl⟩:=us1 hl;exact hb a b c d e f u0,mg_of X G a⟩
noncomputable def fx2 {p0 p1:Rz} (a:nsIn K RV n=some (some (.ref f)):=by k_is) (l:K.lookup f=some ⟨oc,od,.func (fnOf n n (bN st) (bA st) (al st) .none kV dc pm an cd ct),sl⟩:=by k_is) (c:codeIn K cd n=true:=by k_is) (k:keepIn K (.ref f)=true:=by k_is) (hb:∀ (kV dc pm:Rl) (an:Option Rk) (cd ct u0 u1:Rl),Xa (fnOf n n (bN st) (bA st) (al st) .none kV dc pm an cd ct) ⟨[u0,u1],[]⟩=pure [(p0,u0),(p1,u1)]:=by intros;rfl):FX K mg n st [p0,p1] :=
 ⟨f,_,cX l c k,(cX l c k).binds fun a b c d e f us hl=>by obtain ⟨u0,u1,rfl⟩:=us2 hl;exact hb a b c d e f u0 u1,mg_of X G a⟩
noncomputable def fx3 {p0 p1 p2:Rz} (a:nsIn K RV n=some (some (.ref f)):=by k_is) (l:K.lookup f=some ⟨oc,od,.func (fnOf n n (bN st) (bA st) (al st) .none kV dc pm an cd ct),sl⟩:=by k_is) (c:codeIn K cd n=true:=by k_is) (k:keepIn K (.ref f)=true:=by k_is) (hb:∀ (kV dc pm:Rl) (an:Option Rk) (cd ct u0 u1 u2:Rl),Xa (fnOf n n (bN st) (bA st) (al st) .none kV dc pm an cd ct) ⟨[u0,u1,u2],[]⟩=pure [(p0,u0),(p1,u1),(p2,u2)]:=by intros;rfl):FX K mg n st [p0,p1,p2] :=
 ⟨f,_,cX l c k,(cX l c k).binds fun a b c d e f us hl=>by obtain ⟨u0,u1,u2,rfl⟩:=us3 hl;exact hb a b c d e f u0 u1 u2,mg_of X G a⟩
noncomputable def fx4 {p0 p1 p2 p3:Rz} (a:nsIn K RV n=some (some (.ref f)):=by k_is) (l:K.lookup f=some ⟨oc,od,.func (fnOf n n (bN st) (bA st) (al st) .none kV dc pm an cd ct),sl⟩:=by k_is) (c:codeIn K cd n=true:=by k_is) (k:keepIn K (.ref f)=true:=by k_is) (hb:∀ (kV dc pm:Rl) (an:Option Rk) (cd ct u0 u1 u2 u3:Rl),Xa (fnOf n n (bN st) (bA st) (al st) .none kV dc pm an cd ct) ⟨[u0,u1,u2,u3],[]⟩=pure [(p0,u0),(p1,u1),(p2,u2),(p3,u3)]:=by intros;rfl):FX K mg n st [p0,p1,p2,p3] :=
 ⟨f,_,cX l c k,(cX l c k).binds fun a b c d e f us hl=>by obtain ⟨u0,u1,u2,u3,rfl⟩:=us4 hl;exact hb a b c d e f u0 u1 u2 u3,mg_of X G a⟩
noncomputable def fx5 {p0 p1 p2 p3 p4:Rz} (a:nsIn K RV n=some (some (.ref f)):=by k_is) (l:K.lookup f=some ⟨oc,od,.func (fnOf n n (bN st) (bA st) (al st) .none kV dc pm an cd ct),sl⟩:=by k_is) (c:codeIn K cd n=true:=by k_is) (k:keepIn K (.ref f)=true:=by k_is) (hb:∀ (kV dc pm:Rl) (an:Option Rk) (cd ct u0 u1 u2 u3 u4:Rl),Xa (fnOf n n (bN st) (bA st) (al st) .none kV dc pm an cd ct) ⟨[u0,u1,u2,u3,u4],[]⟩=pure [(p0,u0),(p1,u1),(p2,u2),(p3,u3),(p4,u4)]:=by intros;rfl):FX K mg n st [p0,p1,p2,p3,p4] :=
 ⟨f,_,cX l c k,(cX l c k).binds fun a b c d e f us hl=>by obtain ⟨u0,u1,u2,u3,u4,rfl⟩:=us5 hl;exact hb a b c d e f u0 u1 u2 u3 u4,mg_of X G a⟩
end
theorem pcF {X:Cx} {kk k:Nat} {sp:Sp} {n:Rz} {st:Tf} {ps:List Rz} {e:SI} {es:List SI} {t:TA} {p pos:Vw} (g:FX X.K X.mg n st ps) (F:FnOk X.prog X.w X.K X.mg X.base CX0 k g.f g.d ps sp) (hr:Room kk X.A) (ha:PA X (e::es) t) (hle:k<=kk:=by first | decide | omega) (hg:Gl X n:=by rfl) (Dx:(n == ("__debug__":Rz))=false:=by decide) (he:Sq (e::es) X.env=(false,TZ e X.env)::Sq es X.env:=by rfl) (A9:(VI pos (Sq es X.env)).any (·.1)=false:=by rfl):PE X (.Call (.Name n p) (e::es) [] pos) (nu sp [] E0 t) :=
 bc F (hr.mono hle) hg g.m g.F.kp g.b .nil nv ha Dx he A9
structure TX (K:Ri) (mg:Rz->Option Rl) where
 c_CALL_SIGN:∃ tk,mg "CALL_SIGN"=some (.str (Rc "?") tk)
 c_MOST_LETTERS:∃ tk,mg "MOST_LETTERS"=some (.int (8) tk)
 c_MOST_KINDS:∃ tk,mg "MOST_KINDS"=some (.int (8) tk)
 c_MOST_KIDS:∃ tk,mg "MOST_KIDS"=some (.int (3) tk)
 c_MOST_STATES:∃ tk,mg "MOST_STATES"=some (.int (20) tk)
 c_MOST_ROWS:∃ tk,mg "MOST_ROWS"=some (.int (20) tk)
 c_MOST_KNOTS:∃ tk,mg "MOST_KNOTS"=some (.int (400) tk)
 c_MOST_CALLS:∃ tk,mg "MOST_CALLS"=some (.int (200) tk)
 c_MOST_FIGURES:∃ tk,mg "MOST_FIGURES"=some (.int (3) tk)
 c_MOST_BRACKETS:∃ tk,mg "MOST_BRACKETS"=some (.int (100) tk)
 e_BookError:Rk
 x_BookError:mg "BookError"=some (.ref e_BookError)
 e_NoKinds:Rk
 x_NoKinds:mg "NoKinds"=some (.ref e_NoKinds)
 e_NoTree:Rk
 x_NoTree:mg "NoTree"=some (.ref e_NoTree)
 e_NoBook:Rk
 x_NoBook:mg "NoBook"=some (.ref e_NoBook)
 e_NoText:Rk
 x_NoText:mg "NoText"=some (.ref e_NoText)
 xe_NoKinds:VF K e_NoKinds [.type "ValueError",.type "Exception",.type "BaseException",.type "object"] "ValueError.__new__"=true
 xg_NoKinds:R1 K (.ref e_NoKinds) "__getattribute__"=some (some (.builtin "BaseException.__getattribute__"))
 xh_NoKinds:R1 K (.ref e_NoKinds) "__getattr__"=some none
 xc_NoKinds:R1 K (.ref e_NoKinds) "__class__"=some (some (.builtin "object.__class__"))
 xo_NoKinds:Ts K e_NoKinds (.type "object")=some true
 xb_NoKinds:Ts K e_NoKinds (.type "BaseException")=some true
 hit_NoKinds_BookError:Vp K (.ref e_NoKinds) (.ref e_BookError)=some true
 kit_NoKinds_NoText:RU K (.ref e_NoKinds) (.ref e_NoText)=some false
 kit_NoKinds_ValueError:RU K (.ref e_NoKinds) (.type "ValueError")=some true
 kit_NoKinds_NoKinds:RU K (.ref e_NoKinds) (.ref e_NoKinds)=some true
 kit_NoKinds_NoTree:RU K (.ref e_NoKinds) (.ref e_NoTree)=some false
 kit_NoKinds_NoBook:RU K (.ref e_NoKinds) (.ref e_NoBook)=some false
 xe_NoBook:VF K e_NoBook [.type "ValueError",.type "Exception",.type "BaseException",.type "object"] "ValueError.__new__"=true
 xg_NoBook:R1 K (.ref e_NoBook) "__getattribute__"=some (some (.builtin "BaseException.__getattribute__"))
 xh_NoBook:R1 K (.ref e_NoBook) "__getattr__"=some none
 xc_NoBook:R1 K (.ref e_NoBook) "__class__"=some (some (.builtin "object.__class__"))
 xo_NoBook:Ts K e_NoBook (.type "object")=some true
 xb_NoBook:Ts K e_NoBook (.type "BaseException")=some true
 hit_NoBook_BookError:Vp K (.ref e_NoBook) (.ref e_BookError)=some true
 kit_NoBook_NoText:RU K (.ref e_NoBook) (.ref e_NoText)=some false
 kit_NoBook_ValueError:RU K (.ref e_NoBook) (.type "ValueError")=some true
 kit_NoBook_NoKinds:RU K (.ref e_NoBook) (.ref e_NoKinds)=some false
 kit_NoBook_NoTree:RU K (.ref e_NoBook) (.ref e_NoTree)=some false
 kit_NoBook_NoBook:RU K (.ref e_NoBook) (.ref e_NoBook)=some true
 xe_NoText:VF K e_NoText [.type "ValueError",.type "Exception",.type "BaseException",.type "object"] "ValueError.__new__"=true
 xg_NoText:R1 K (.ref e_NoText) "__getattribute__"=some (some (.builtin "BaseException.__getattribute__"))
 xh_NoText:R1 K (.ref e_NoText) "__getattr__"=some none
 xc_NoText:R1 K (.ref e_NoText) "__class__"=some (some (.builtin "object.__class__"))
 xo_NoText:Ts K e_NoText (.type "object")=some true
 xb_NoText:Ts K e_NoText (.type "BaseException")=some true
 hit_NoText_BookError:Vp K (.ref e_NoText) (.ref e_BookError)=some true
 kit_NoText_NoText:RU K (.ref e_NoText) (.ref e_NoText)=some true
 kit_NoText_ValueError:RU K (.ref e_NoText) (.type "ValueError")=some true
 kit_NoText_NoKinds:RU K (.ref e_NoText) (.ref e_NoKinds)=some false
 kit_NoText_NoTree:RU K (.ref e_NoText) (.ref e_NoTree)=some false
 kit_NoText_NoBook:RU K (.ref e_NoText) (.ref e_NoBook)=some false
 g_is_number:FX K mg "is_number" fS ["thing"]
 g_is_below:FX K mg "is_below" iG ["number","bound"]
 g_is_name:FX K mg "is_name" jH ["thing"]
 g_is_kind:FX K mg "is_kind" jE ["pair"]
 g_are_kinds:FX K mg "are_kinds" fH ["kinds"]
 g_kinds_of:FX K mg "kinds_of" iA ["pairs"]
 g_many_of:FX K mg "many_of" jD ["kinds","name"]
 g_kids_of:FX K mg "kids_of" jr ["thing"]
 g_walked:FX K mg "walked" lJ ["thing"]
 g_built:FX K mg "built" nQ ["tops"]
 g_is_call:FX K mg "is_call" jy ["thing"]
 g_fits_pattern:FX K mg "fits_pattern" dN ["kinds","pattern","states","kids"]
 f_Measure_init:Rk
 d_Measure_init:Uk
 F_Measure_init:Fun K "__init__" "Measure.__init__" bZ f_Measure_init d_Measure_init
 b_Measure_init:Binds K d_Measure_init ["self"] []
 f_Measure_takes:Rk
 d_Measure_takes:Uk
 F_Measure_takes:Fun K "takes" "Measure.takes" bP f_Measure_takes d_Measure_takes
 b_Measure_takes:Binds K d_Measure_takes ["self","part","row"] []
 g_is_small:FX K mg "is_small" il ["pattern"]
 g_check_pattern:FX K mg "check_pattern" dm ["outs","pattern","states","kids"]
 g_check_state:FX K mg "check_state" eI ["ins","outs","patterns","states"]
 g_made_book:FX K mg "made_book" gh ["ins","outs","head","rules"]
 g_words_of:FX K mg "words_of" iz ["text"]
 g_read_number:FX K mg "read_number" eF ["word"]
 g_read_call:FX K mg "read_call" gj ["words"]
 g_steps_of:FX K mg "steps_of" iy ["words"]
 g_follows:FX K mg "follows" jt ["before","step","depth"]
 g_tops_of:FX K mg "tops_of" jK ["steps"]
 g_read_pattern:FX K mg "read_pattern" dS ["words"]
 g_read_kind:FX K mg "read_kind" fO ["word"]
 g_read_kinds:FX K mg "read_kinds" fc ["first","words"]
 g_read_head:FX K mg "read_head" f8 ["words"]
 g_read_rule:FX K mg "read_rule" fI ["state","name","words"]
 g_read_rules:FX K mg "read_rules" fv ["ins","rows"]
 g_words_in:FX K mg "words_in" iD ["row"]
 g_read_book:FX K mg "read_book" fN ["text"]
 g__law_cell_at:FX K mg "_law_cell_at" dY ["script","k"]
 g__law_name:FX K mg "_law_name" fV ["base","n"]
 g__law_kinds:FX K mg "_law_kinds" ft ["cell"]
 g__law_folded:FX K mg "_law_folded" eK ["script","many"]
 g__law_pattern:FX K mg "_law_pattern" d3 ["cell","outs","states","kids","deep"]
 g__law_digits:FX K mg "_law_digits" eJ ["own","outs","states","kids","deep"]
 g__law_book:FX K mg "_law_book" fQ ["script","most","deep"]
 g__law_shown:FX K mg "_law_shown" fu ["pattern"]
 g__law_rows:FX K mg "_law_rows" fP ["book"]
 g__law_odd:FX K mg "_law_odd" iI ["rows","cell"]
 g__law_good:FX K mg "_law_good" fW ["rows","odd"]
 g__law_refused:FX K mg "_law_refused" d4 ["text"]
 g_law:FX K mg "law" iK ["script"]
 e_Measure:Rk
 x_Measure:mg "Measure"=some (.ref e_Measure)
 cl_Measure:Cls K e_Measure
 mk_Measure:Mk K e_Measure f_Measure_init
 na_Measure_met_knots:NoAttr K e_Measure "met_knots"
 na_Measure_met_calls:NoAttr K e_Measure "met_calls"
 me_Measure_takes:Meth K e_Measure "takes" f_Measure_takes
 n_ValueError:mg "ValueError"=none
 n_all:mg "all"=none
 n_bool:mg "bool"=none
 n_divmod:mg "divmod"=none
 n_enumerate:mg "enumerate"=none
 n_int:mg "int"=none
 n_isinstance:mg "isinstance"=none
 n_len:mg "len"=none
 n_range:mg "range"=none
 n_reversed:mg "reversed"=none
 n_set:mg "set"=none
 n_str:mg "str"=none
 n_tuple:mg "tuple"=none
 n_zip:mg "zip"=none
theorem TX.X_NoKinds {K:Ri} {mg:Rz->Option Rl} (T:TX K mg):iH K T.e_NoKinds:=⟨T.xe_NoKinds,T.xg_NoKinds,T.xh_NoKinds,T.xc_NoKinds,T.xo_NoKinds,T.xb_NoKinds⟩
theorem TX.X_NoBook {K:Ri} {mg:Rz->Option Rl} (T:TX K mg):iH K T.e_NoBook:=⟨T.xe_NoBook,T.xg_NoBook,T.xh_NoBook,T.xc_NoBook,T.xo_NoBook,T.xb_NoBook⟩
theorem TX.X_NoText {K:Ri} {mg:Rz->Option Rl} (T:TX K mg):iH K T.e_NoText:=⟨T.xe_NoText,T.xg_NoText,T.xh_NoText,T.xc_NoText,T.xo_NoText,T.xb_NoText⟩
theorem aaE:([Rc "kid",Rc "row"]:List Rz).Nodup:=by decide +kernel
theorem zg:([Rc "sign"]:List Rz).Nodup:=by decide +kernel
theorem xf:([Rc "pair"]:List Rz).Nodup:=by decide +kernel
theorem aam:([Rc "patterns"]:List Rz).Nodup:=by decide +kernel
theorem xZ:([Rc "word"]:List Rz).Nodup:=by decide +kernel
theorem aaC:([Rc "number",Rc "done"]:List Rz).Nodup:=by decide +kernel
theorem aan:([Rc "row"]:List Rz).Nodup:=by decide +kernel
theorem yU:([Rc "one"]:List Rz).Nodup:=by decide +kernel
theorem aah:([Rc "part"]:List Rz).Nodup:=by decide +kernel
section
variable {P:RY} {w:Sj} {K:Ri} {mg:Rz->Option Rl} {base:SR} (T:TX K mg)
inductive j0 (vs:List V) (H:Hp) (Q:VK) (_E:XK):Prop
 | mk (a:Rk) (t:Th) (Aq:vs=[.ref a]) (Ar:At H t a) (AB:∀ (r:Rk) (as:List Rk) (H':Hp),L2.Same H H'->H' r=some (.tup (as.map V.ref))->Ats H' t.kids as->Q (.ref r) H'):j0  vs H Q _E
def qD:Sp:=j0
theorem lQ:FnOk P w K mg base CX0 1 T.g_kids_of.f T.g_kids_of.d ["thing"] qD:=by
 refine T.g_kids_of.F.ok rP (fun vs H Q E h=>?_) (fun Al A outer s H vs Q E hr h=>?_)
 · obtain ⟨a,t,rfl,_⟩:=h;rfl
 obtain ⟨a,t,rfl,hA,k⟩:=h
 refine ⟨_,(af (aN (au cq (aA aM (pv 0) ag (fun _ _=>rfl)) (bW (v:=.str (Rc "?")) rfl T.c_CALL_SIGN.choose_spec ⟨_,rfl⟩) (ay _)) (ai (av (ce ae))) aE)
  (ai (av (aK u6 (pv 0) (aO ag) bd)))),?_⟩
 try dsimp only [AN,Aj]
 cases t with
 | knot n ks =>
   rw [At] at hA;refine hid fun ZZ kZ=>?_;obtain ⟨hn,as,h1,h2⟩:=hA;refine kZ ?_;refine ⟨_,rfl,a,_,0,.str n,rfl,rfl,SqT.of h1,at0,rfl,_,rfl,?_⟩;refine cr (fun c=>absurd (of_decide_eq_true c) (fun z=>hn (V.str.inj z))) (fun _=>?_);refine ⟨_,rfl,1,rfl,a,_,rfl,SqT.of h1,?_,fun r hr=>?_⟩
   · intro z;have:=z.1;simp [HT.sIx] at this
   · rw [ji];exact k r as _ (ad hr _) ac (h2.mono (im hr))
 | call sn kn =>
   rw [At] at hA;refine ⟨_,rfl,a,_,0,.str q,rfl,rfl,SqT.of hA,at0,rfl,_,rfl,?_⟩;refine cr (fun _=>?_) (fun c=>absurd (decide_eq_true rfl) c);refine ⟨by show 0<=RS;decide,fun r hr=>?_⟩;exact k r [] _ (ad hr _) ac .nil
inductive lR (vs:List V) (H:Hp) (Q:VK) (_E:XK):Prop
 | mk (a:Rk) (t:Th) (Aq:vs=[.ref a]) (Ar:At H t a) (AB:t.size<=100000) (AQ:∀ (r:Rk) (as:List Rk) (H':Hp),L2.Same H H'->H r=none->H' r=some (.lst (as.map V.ref))->Ats H' t.walk as->Q (.ref r) H'):lR  vs H Q _E
def ui:Sp:=lR
theorem t7:FnOk P w K mg base CX0 2 T.g_walked.f T.g_walked.d ["thing"] ui:=by
 refine T.g_walked.F.ok gF (fun vs H Q E h=>?_) (fun Al A outer s H vs Q E hr h=>?_)
 · obtain ⟨a,t,rfl,_⟩:=h;rfl
 obtain ⟨a,t,rfl,hA,Az,k⟩:=h
 refine ⟨_,(af (ao (i:=1) gF.nd rfl (RH rfl) (aW ae))
  (af (ao (i:=2) gF.nd rfl (RH rfl) (aW (aa (pv 0) ae)))
  (af (lY Sz (ba (pv 2) (fun _=>rfl)) (af (ao (i:=3) gF.nd rfl (RH rfl) (nU RX VB Vz oK (pv 2)))
  (af (bq (cb RX R9 R8 bh (pv 1) (aa (pv 3) ae)))
  (ai (bq (cb RX PySem.F.slot_list_extend PySem.F.type_list_extend rE (pv 2) (aa (wk yw (pcF T.g_kids_of (lQ T) hr (aa (pv 3) ae))) ae)))))))
  (ai (av (pv 1)))))),?_⟩
 try dsimp only [AN,Aj]
 refine ⟨by show 0<=RS;decide,fun mt EK=>?_⟩;refine ⟨_,rfl,by show 1<=RS;decide,fun ah EL=>?_⟩;have IE:H ah=none:=(ad EK _).free EL;have Am:ah≠mt:=fun z=>by rw [z,ac] at EL;cases EL
 refine ⟨fun m σ H2=>Ex5 fun (ms as:List Rk) (Ms As:List Th) (p:Option V)=>An8 (σ=[some (.ref a),some (.ref mt),some (.ref ah),p]) (L2.Same H H2) (H2 mt=some (.lst (ms.map V.ref))) (H2 ah=some (.lst (as.map V.ref))) (Ats H2 Ms ms) (Ats H2 As as) (Ms++walks As.reverse=t.walk) (m=aF As),⟨_,[],[a],[],[t],none,rfl,?_,?_,?_,.nil,.cons (hA.mono ?_) .nil,?_,rfl⟩,?_⟩
 · exact aH (ad EK _) IE
 · rw [ar Am.symm,ac];rfl
 · rw [ac];rfl
 · exact Same.kt (aH (ad EK _) IE)
 · simp [walks]
 rintro m σ H2 ⟨ms,as,Ms,As,p,rfl,sm,e1,e2,a1,a2,hw,rfl⟩
 have hlen:ms.length+aF As<=100000:=by
  have h1:=congrArg TB hw;rw [Rm,jI,Th.walk_len,<- a1.length] at h1;have h2:=nh As;omega
 refine ⟨_,rfl,_,.inl ⟨_,SqL.of e2,rfl⟩,?_⟩;refine cr (fun c=>?_) (fun c=>?_)
 · -- a part is taken off
   refine ⟨fun f' H'=>∃ m',m'<aF As/\Ex5 fun (ms as:List Rk) (Ms As:List Th) (p:Option V)=>An8 (f'=[some (.ref a),some (.ref mt),some (.ref ah),p]) (L2.Same H H') (H' mt=some (.lst (ms.map V.ref))) (H' ah=some (.lst (as.map V.ref))) (Ats H' Ms ms) (Ats H' As as) (Ms++walks As.reverse=t.walk) (m'=aF As),fun f' H' h=>h,?_⟩;have B9:as≠[]:=by intro z;subst z;simp at c
   obtain ⟨DO,b,rfl⟩:∃ DO b,as=DO++[b]:=⟨as.dropLast,as.getLast B9,(T5 B9).symm⟩;obtain ⟨Us,x,rfl,a3,a4⟩:=a2.snoc_inv;have hs:aF (Us++[x])=aF Us+x.size:=by rw [bR,aF,aF];omega
   have IF:=x.size_eq;rw [hs] at hlen;refine ⟨_,rfl,.inl ⟨rfl,_,SqL.of e2⟩,ah,_,.ref b,rfl,rfl,e2,by simp,?_⟩;have d1:((DO++[b]).map V.ref).dropLast=DO.map V.ref:=by simp
   rw [d1];refine ⟨_,rfl,.inl ⟨rfl,_,SqL.of (by rw [ar Am.symm];exact e1)⟩,_,rfl,mt,_,.ref b,rfl,rfl,by rw [ar Am.symm];exact e1,bn (by rw [Rf];omega),?_⟩;have k1:KT H2 (upd (upd H2 ah (.lst (DO.map V.ref))) mt (.lst (ms.map V.ref++[.ref b]))):=(bG e2).trans (bG (xs:=ms.map V.ref) (by rw [ar Am.symm];exact e1));refine ⟨_,rfl,.inl ⟨rfl,_,SqL.of (by rw [ar Am,ac])⟩,_,rfl,b,x,rfl,a4.mono k1,fun r ks H3 s3 e3 a5=>?_⟩;refine ⟨r,_,rfl,SqT.of e3,fun l hl=>?_⟩;have l1:l≠ah:=fun z=>by rw [z,s3 ah _ (by rw [ar Am,ac])] at hl;cases hl
   have l2:l≠mt:=fun z=>by rw [z,s3 mt _ ac] at hl;cases hl
   refine ⟨ah,l,_,_,rfl,rfl,by rw [ar l1.symm];exact s3 ah _ (by rw [ar Am,ac]),SqT.of ac,Vu (bn ?_),?_⟩
   · have q1:=a3.length;have q2:=a5.length;have q3:=dG Us;have q4:=dG x.kids;rw [Rf,UH,Rf];omega
   · have k2:KT H2 (upd (upd H3 l (.tup (ks.map V.ref).reverse)) ah (.lst (DO.map V.ref++(ks.map V.ref).reverse))) :=
      k1.trans ((Same.kt s3).trans ((im hl).trans (bG (xs:=DO.map V.ref) (by rw [ar l1.symm];exact s3 ah _ (by rw [ar Am,ac])))))
     have k3:KT H3 (upd (upd H3 l (.tup (ks.map V.ref).reverse)) ah (.lst (DO.map V.ref++(ks.map V.ref).reverse))) :=
      (im hl).trans (bG (xs:=DO.map V.ref) (by rw [ar l1.symm];exact s3 ah _ (by rw [ar Am,ac])))
     refine ⟨aF (Us++x.kids.reverse),?_,ms++[b],DO++ks.reverse,Ms++[x],Us++x.kids.reverse,some (.ref b),rfl,?_,?_,?_,?_,?_,?_,rfl⟩
     · rw [bR,nh,hs];omega
     · have s4:L2.Same H (upd (upd H2 ah (.lst (DO.map V.ref))) mt (.lst (ms.map V.ref++[.ref b]))):=aH (aH sm IE) EK;have nl:H l=none:=s4.free (s3.free hl);exact aH (aH (s4.trans s3) nl) IE
     · rw [ar Am.symm,ar l2.symm,s3 mt _ ac,RC];rfl
     · rw [ac,RC,List.map_reverse]
     · exact (a1.mono k2).append (.cons (a4.mono k2) .nil)
     · exact (a3.mono k2).append (a5.mono k3).reverse
     · rw [<- hw,RM,VP,VP,U0,ja];show Ms++([x]++(walks x.kids++walks Us.reverse))=Ms++walks (x::Us.reverse);rw [walks,x.walk_eq];rfl
 · have hz:as=[]:=by
    cases as with
    | nil=>rfl
    | cons y ys=>simp at c
   subst hz;have Kf:As=[]:=R4.mp a2.length.symm;subst Kf;refine ⟨_,rfl,k mt ms H2 sm EK e1 ?_⟩;have O2:Ms=t.walk:=by simpa [walks] using hw
   rw [<- O2];exact a1
inductive jU (vs:List V) (H:Hp) (Q:VK) (_E:XK):Prop
 | mk (a:Rk) (t:Th) (Aq:vs=[.ref a]) (Ar:At H t a) (AB:Q (.bl t.isCall) H):jU  vs H Q _E
def qE:Sp:=jU
theorem ij:FnOk P w K mg base CX0 1 T.g_is_call.f T.g_is_call.d ["thing"] qE:=by
 refine T.g_is_call.F.ok qR (fun vs H Q E h=>?_) (fun Al A outer s H vs Q E hr h=>?_)
 · obtain ⟨a,t,rfl,_⟩:=h;rfl
 obtain ⟨a,t,rfl,hA,k⟩:=h;refine ⟨_,(ai (av (cy cq (aA aM (pv 0) ag (fun _ _=>rfl)) (bW (v:=.str (Rc "?")) rfl T.c_CALL_SIGN.choose_spec ⟨_,rfl⟩) (ay _)))),?_⟩
 try dsimp only [AN,Aj]
 cases t with
 | knot n ks =>
   rw [At] at hA;refine hid fun ZZ kZ=>?_;obtain ⟨hn,as,h1,h2⟩:=hA;refine kZ ?_;refine ⟨_,rfl,a,_,0,.str n,rfl,rfl,SqT.of h1,at0,rfl,?_⟩;have e:decide (V.str n=V.str (Rc "?"))=false:=decide_eq_false (fun z=>hn (V.str.inj z));rw [e];exact k
 | call sn kn =>
   rw [At] at hA;refine ⟨_,rfl,a,_,0,.str q,rfl,rfl,SqT.of hA,at0,rfl,?_⟩;have e:decide (V.str q=V.str (Rc "?"))=true:=decide_eq_true rfl;rw [e];exact k
def mf (k c:Int):List (Rz×V):=[("met_knots",.int k),("met_calls",.int c)]
theorem mkc:¬ (("met_knots":Rz)="met_calls"):=by decide +kernel
theorem aaI:¬ (("met_calls":Rz)="met_knots"):=by decide +kernel
theorem xm:dl "met_knots" (.int 0) []=[(("met_knots":Rz),V.int 0)]:=rfl
theorem we:dl "met_calls" (.int 0) [(("met_knots":Rz),V.int 0)]=mf 0 0:=by
 unfold mf;rw [dl,if_neg mkc,dl]
theorem wz (k c z:Int):dl "met_knots" (.int z) (mf k c)=mf z c:=by
 unfold mf;rw [dl,if_pos rfl]
theorem xh (k c z:Int):dl "met_calls" (.int z) (mf k c)=mf k z:=by
 unfold mf;rw [dl,if_neg mkc,dl,if_pos rfl]
theorem zS (k c:Int):(mf k c).lookup ("met_knots":Rz)=some (V.int k):=by
 unfold mf;have hb:(("met_knots":Rz) == "met_knots")=true:=beq_iff_eq.mpr rfl;simp only [Uz,hb]
theorem zL (k c:Int):(mf k c).lookup ("met_calls":Rz)=some (V.int c):=by
 unfold mf;have hb:(("met_calls":Rz) == "met_calls")=true:=beq_iff_eq.mpr rfl;have hc:(("met_calls":Rz) == "met_knots")=false:=beq_eq_false_iff_ne.mpr aaI;simp only [Uz,hb,hc]
theorem za {m:Rz} (k c:Int) (h1:(m == ("met_knots":Rz))=false) (h2:(m == ("met_calls":Rz))=false):(mf k c).lookup m=none:=by
 unfold mf;simp only [Uz,h1,h2]
theorem uX (k c:Int):(mf k c).length<1000:=by show 2<1000;decide
inductive eU (C:Rk) (vs:List V) (H:Hp) (Q:VK) (_E:XK):Prop
 | mk (x dx:Rk) (Aq:vs=[.ref x]) (Ar:H x=some (.ins C dx [])) (AB:∀ H':Hp,(∀ b o,b≠x->H b=some o->H' b=some o)->H' x=some (.ins C dx (mf 0 0))->Q .non H'):eU C vs H Q _E
def ky (C:Rk):Sp:=eU C
theorem kD:FnOk P w K mg base CX0 1 T.f_Measure_init T.d_Measure_init ["self"] (ky T.e_Measure):=by
 refine T.F_Measure_init.ok kC (fun vs H Q E h=>?_) (fun Al A outer s H vs Q E hr h=>?_)
 · obtain ⟨x,dx,rfl,_⟩:=h;rfl
 obtain ⟨x,dx,rfl,ex,q⟩:=h
 refine ⟨_,(af (vD (pv 0) ag rfl)
  (ai (vD (pv 0) ag rfl))),?_⟩
 try dsimp only [AN,Aj]
 refine ⟨_,rfl,x,T.e_Measure,dx,_,rfl,ex,T.cl_Measure,T.na_Measure_met_knots,(by show 0<1000;decide),?_⟩;refine ⟨_,rfl,x,T.e_Measure,dx,_,rfl,ac,T.cl_Measure,T.na_Measure_met_calls,(by show 1<1000;decide),?_⟩;refine q _ (fun b o hb e=>?_) ?_
 · rw [ar hb,ar hb];exact e
 · rw [ac,xm,we]
inductive eA (C:Rk) (vs:List V) (H:Hp) (Q:VK) (_E:XK):Prop
 | mk (x dx pa:Rk) (k c row:Int) (t:Th) (Aq:vs=[.ref x,.ref pa,.int row]) (Ar:H x=some (.ins C dx (mf k c))) (AB:At H t pa) (AQ:∀ (k' c':Int) (H':Hp),k'=(if t.isCall=true then k else k+1)->c'=(if t.isCall=true then c+1 else c)->(∀ b o,b≠x->H b=some o->H' b=some o)->H' x=some (.ins C dx (mf k' c'))->Q (.bl (decide (row<=20/\k'<=400/\c'<=200))) H'):eA C vs H Q _E
def jp (C:Rk):Sp:=eA C
theorem jP:FnOk P w K mg base CX0 2 T.f_Measure_takes T.d_Measure_takes ["self","part","row"] (jp T.e_Measure):=by
 refine T.F_Measure_takes.ok jl (fun vs H Q E h=>?_) (fun Al A outer s H vs Q E hr h=>?_)
 · obtain ⟨x,dx,pa,k,c,row,t,rfl,_⟩:=h;rfl
 obtain ⟨x,dx,pa,k,c,row,t,rfl,ex,hA,q⟩:=h
 refine ⟨_,(af (aN (ba (pcF T.g_is_call (ij T) hr (aa (pv 1) ae)) (fun _=>rfl)) (ai (nH (pv 0) ag uH)) (ai (nH (pv 0) ag uH)))
  (ai (av (eH (cy hV (pv 2) (bW (v:=.int (20)) rfl T.c_MOST_ROWS.choose_spec ⟨_,rfl⟩) (ay _)) (eH (cy hV (vN (pv 0) rfl) (bW (v:=.int (400)) rfl T.c_MOST_KNOTS.choose_spec ⟨_,rfl⟩) (ay _)) (fZ (cy hV (vN (pv 0) rfl) (bW (v:=.int (200)) rfl T.c_MOST_CALLS.choose_spec ⟨_,rfl⟩) (ay _)))))))),?_⟩
 try dsimp only [AN,Aj]
 refine aG (fun f' H'=>Ex2 fun (k' c':Int)=>An5 (k'=(if t.isCall=true then k else k+1)) (c'=(if t.isCall=true then c+1 else c)) ((∀ b o,b≠x->H b=some o->H' b=some o)) (H' x=some (.ins T.e_Measure dx (mf k' c'))) (f'=[some (.ref x),some (.ref pa),some (.int row)])) (fun kk hk=>?_) ?_
 · refine cA (fun b H'=>An2 (H=H') (b=t.isCall)) (fun k2 BU=>?_) (fun H' hb=>?_) (fun H' hb=>?_)
   · exact ⟨_,rfl,pa,t,rfl,hA,_,rfl,BU _ _ ⟨rfl,rfl⟩⟩
   · obtain ⟨rfl,hb⟩:=hb;refine ⟨_,rfl,x,T.e_Measure,dx,_,_,rfl,ex,T.cl_Measure,T.na_Measure_met_calls,zL k c,c,1,rfl,rfl,dx,_,ex,uX k c,?_⟩;exact hk _ _ ⟨k,c+1,by rw [if_pos hb.symm],by rw [if_pos hb.symm],fun b o hb e=>by rw [ar hb];exact e,by rw [ac,xh],rfl⟩
   · obtain ⟨rfl,hb⟩:=hb;have BC:¬ t.isCall=true:=fun z=>by rw [<- hb] at z;cases z
     refine ⟨_,rfl,x,T.e_Measure,dx,_,_,rfl,ex,T.cl_Measure,T.na_Measure_met_knots,zS k c,k,1,rfl,rfl,dx,_,ex,uX k c,?_⟩;exact hk _ _ ⟨k+1,c,by rw [if_neg BC],by rw [if_neg BC],fun b o hb e=>by rw [ar hb];exact e,by rw [ac,wz],rfl⟩
 rintro f' H' ⟨k',c',BP,BQ,hs,Ia,rfl⟩;have q':=q k' c' H' BP BQ hs Ia;clear q;refine ⟨_,rfl,_,_,rfl,rfl,?_⟩;refine ⟨_,rfl,?_⟩;by_cases c1:row<=20
 · rw [if_pos (decide_eq_true c1)];refine ⟨_,rfl,x,T.e_Measure,dx,_,_,rfl,Ia,T.cl_Measure,T.na_Measure_met_knots,zS k' c',_,_,rfl,rfl,_,rfl,?_⟩;by_cases c2:k'<=400
   · rw [if_pos (decide_eq_true c2)];refine ⟨_,rfl,x,T.e_Measure,dx,_,_,rfl,Ia,T.cl_Measure,T.na_Measure_met_calls,zL k' c',_,_,rfl,rfl,?_⟩;have e:decide (row<=20/\k'<=400/\c'<=200)=decide (c'<=200):=by simp [c1,c2]
     rw [e] at q';exact q'
   · rw [if_neg (fun z=>c2 (of_decide_eq_true z))];rw [decide_eq_false (fun z=>c2 z.2.1)] at q';exact q'
 · rw [if_neg (fun z=>c1 (of_decide_eq_true z))];rw [decide_eq_false (fun z=>c1 z.1)] at q';exact q'
mutual
/-- how many calls -/
def cnT:Th->Nat
 | .knot _ ks=>d6 ks
 | .call _ _=>1
def d6:List Th->Nat
 | []=>0
 | t::ts=>cnT t+d6 ts
end
def Small (t:Th):Prop:=t.tall<=20/\t.kn<=400/\cnT t<=200
instance (t:Th):Decidable (Small t):=inferInstanceAs (Decidable (_/\_/\_))
theorem zE (t:Th):t.kn=(if t.isCall=true then 0 else 1)+kns t.kids:=by
 cases t with
 | knot n ks=>rw [Th.kn,Th.isCall,Th.kids,if_neg RK];omega
 | call s k=>rw [Th.kn,Th.isCall,Th.kids,if_pos rfl,kns]
theorem yP (t:Th):cnT t=(if t.isCall=true then 1 else 0)+d6 t.kids:=by
 cases t with
 | knot n ks=>rw [cnT,Th.isCall,Th.kids,if_neg RK];omega
 | call s k=>rw [cnT,Th.isCall,Th.kids,if_pos rfl,d6]
theorem lF (a b:List Th):kns (a++b)=kns a+kns b:=by
 induction a with
 | nil=>rw [Sn,kns];omega
 | cons x a ih=>rw [RZ,kns,kns,ih];omega
theorem j1 (a b:List Th):d6 (a++b)=d6 a+d6 b:=by
 induction a with
 | nil=>rw [Sn,d6];omega
 | cons x a ih=>rw [RZ,d6,d6,ih];omega
theorem vm {ts:List Th} (h:ts≠[]):∃ t∈ts,aL ts=t.tall:=by
 induction ts with
 | nil=>exact absurd rfl h
 | cons x ts ih =>
   rw [aL];by_cases hz:ts=[]
   · subst hz;exact ⟨x,Rr ..,by rw [aL];omega⟩
   · obtain ⟨t,ht,e⟩:=ih hz;by_cases hc:aL ts<=x.tall
     · exact ⟨x,Rr ..,by omega⟩
     · exact ⟨t,Rp _ ht,by omega⟩
def RwAt (H:Hp) (e:Th×Int) (p:Rk):Prop:=∃ ta,H p=some (.tup [.ref ta,.int e.2])/\At H e.1 ta
theorem RwAt.mono {H H':Hp} (k:KT H H') {e:Th×Int} {p:Rk} (h:RwAt H e p):RwAt H' e p:=by
 obtain ⟨ta,h1,h2⟩:=h;exact ⟨ta,k _ _ h1,h2.mono k⟩
inductive i0 (vs:List V) (H:Hp) (Q:VK) (_E:XK):Prop
 | mk (a:Rk) (t:Th) (Aq:vs=[.ref a]) (Ar:At H t a) (AB:t.size<=100000) (AQ:∀ H',L2.Same H H'->Q (.bl (decide (Small t))) H'):i0  vs H Q _E
def pC:Sp:=i0
set_option maxHeartbeats 2000000 in
theorem pV:FnOk P w K mg base CX0 4 T.g_is_small.f T.g_is_small.d ["pattern"] pC:=by
 refine T.g_is_small.F.ok di (fun vs H Q E h=>?_) (fun Al A outer s H vs Q E hr h=>?_)
 · obtain ⟨a,t,rfl,_⟩:=h;rfl
 obtain ⟨a,t,rfl,hA,Az,q⟩:=h
 refine ⟨_,(af (ao (i:=1) di.nd rfl (RH rfl) (vF T.mk_Measure (kD T) (hr.mono (by first | decide | omega)) rfl T.x_Measure T.b_Measure_init .nil nv))
  (af (ao (i:=2) di.nd rfl (RH rfl) (aW (aa (ce (aa (pv 0) (aa ag ae))) ae)))
  (af (lY Sz (ba (pv 2) (fun _=>rfl)) (af (gf (nU RX VB Vz oK (pv 2)) (jm rfl (bK (aD (i:=3) di.nd rfl (RH rfl)) (bK (aD (i:=4) di.nd rfl (Or.inr rfl)) fk))))
  (af (aN (cG (ba (wy (pv 1) T.cl_Measure T.me_Measure_takes (jP T) (hr.mono (by first | decide | omega)) T.b_Measure_takes .nil nv (aa (pv 3) (aa (pv 4) ae))) (fun _=>rfl))) (ai (av dv)) aE)
  (ai (bq (cb RX PySem.F.slot_list_extend PySem.F.type_list_extend t8 (pv 2) (aa (cC (N:=[Rc "kid",Rc "row"]) (js:=[none,some 4]) (g:=(aC 0)) (tt:=bM) (te:=(zu (bJ (cj 0) (bJ (tOp (rI0 fun i j=>.int (i+j)) (cj 1) (tC (.int 1))) dP)))) rfl (dz rfl (by decide +kernel) (by decide +kernel) rfl rfl rfl) (eL (pcF T.g_kids_of (lQ T) hr (aa (pv 3) ae))) (fun _ _ _ _ _ _=>(aD (i:=0) aaE rfl (RH rfl))) (bX rfl) (fun _ _ _ _ _ _=>cP) (fun _ _ _ _ _ _=>(ce (aa (pv 0) (aa (ak aY (pv 1) ag) ae))))) ae)))))))
  (ai (av dv))))),?_⟩
 try dsimp only [AN,Aj]
 intro mo dx IG Iv Am;refine ⟨mo,dx,rfl,ac,fun H1 k1 Mw=>⟨rfl,?_⟩⟩
 have s0:L2.Same H (upd (upd H dx (.own mo)) mo (.ins T.e_Measure dx [])):=fun b o e=>by
  rw [ar (aR e IG),ar (aR e Iv)];exact e
 have s1:L2.Same H H1:=fun b o e=>k1 b o (aR e IG) (s0 b o e);refine ⟨_,rfl,aj (by show 2<=1000000;decide),fun p0 O3=>?_⟩;dsimp only [aC];have s2:L2.Same H1 (upd H1 p0 (.tup [.ref a,.int 1])):=ad O3 _;have e2:(upd H1 p0 (.tup [.ref a,.int 1])) p0=some (.tup [.ref a,.int 1]):=ac;generalize (upd H1 p0 (.tup [.ref a,.int 1]))=H2 at s2 e2 ⊢;refine ⟨aj (by show 1<=1000000;decide),fun ah EL=>?_⟩;have s3:L2.Same H2 (upd H2 ah (.lst [.ref p0])):=ad EL _;have e3:(upd H2 ah (.lst [.ref p0])) ah=some (.lst (([p0]:List Rk).map V.ref)):=ac;have G':H ah=none:=(s1.trans s2).free EL;have Kg:mo≠ah:=fun z=>by rw [<- z,s2 _ _ Mw] at EL;cases EL
 generalize (upd H2 ah (.lst [.ref p0]))=H3 at s3 e3 ⊢;have CF:=s2.trans s3;refine ⟨fun m σ H4=>Ex6 fun (ps:List Rk) (As:List (Th×Int)) (k c:Int) (pv rv:Option V)=>yb (σ=[some (.ref a),some (.ref mo),some (.ref ah),pv,rv]) (L2.Same H H4) (H4 ah=some (.lst (ps.map V.ref))) (So (RwAt H4) As ps) (H4 mo=some (.ins T.e_Measure dx (mf k c))) (k+(kns (As.map (·.1)):Int)=(t.kn:Int)) (c+(d6 (As.map (·.1)):Int)=(cnT t:Int)) (k<=400) (c<=200) ((∀ e∈As,e.2+(e.1.tall:Int)<=(t.tall:Int)+1)) (((t.tall:Int)<=20∨∃ e∈As,(t.tall:Int)+1<=e.2+(e.1.tall:Int))) (aF (As.map (·.1))<=100000) (m=aF (As.map (·.1))),⟨_,[p0],[(t,1)],0,0,none,none,rfl,s1.trans CF,e3,.cons ⟨a,s3 _ _ e2,hA.mono (Same.kt (s1.trans CF))⟩ .nil,CF _ _ Mw,?_,?_,by decide,by decide,?_,?_,?_,rfl⟩,?_⟩
 · show (0:Int)+((kns [t]:Nat):Int)=_;rw [kns,kns];omega
 · show (0:Int)+((d6 [t]:Nat):Int)=_;rw [d6,d6];omega
 · intro e he;rw [RO.mp he];show (1:Int)+(t.tall:Int)<=_;omega
 · exact .inr ⟨(t,1),Rr ..,by show _<=(1:Int)+(t.tall:Int);omega⟩
 · show aF [t]<=100000;rw [aF,aF];omega
 rintro m σ H4 ⟨ps,As,k,c,pv,rv,rfl,s4,e4,Mx,em,hk,hc,QU,Dy,hle,My,Mz,rfl⟩;refine ⟨_,rfl,_,.inl ⟨_,SqL.of e4,rfl⟩,?_⟩;refine cr (fun cc=>?_) (fun cc=>?_)
 · refine ⟨fun f' H'=>∃ m',m'<aF (As.map (·.1))/\Ex6 fun (ps:List Rk) (As:List (Th×Int)) (k c:Int) (pv rv:Option V)=>yb (f'=[some (.ref a),some (.ref mo),some (.ref ah),pv,rv]) (L2.Same H H') (H' ah=some (.lst (ps.map V.ref))) (So (RwAt H') As ps) (H' mo=some (.ins T.e_Measure dx (mf k c))) (k+(kns (As.map (·.1)):Int)=(t.kn:Int)) (c+(d6 (As.map (·.1)):Int)=(cnT t:Int)) (k<=400) (c<=200) ((∀ e∈As,e.2+(e.1.tall:Int)<=(t.tall:Int)+1)) (((t.tall:Int)<=20∨∃ e∈As,(t.tall:Int)+1<=e.2+(e.1.tall:Int))) (aF (As.map (·.1))<=100000) (m'=aF (As.map (·.1))),fun f' H' h=>h,?_⟩;have B9:ps≠[]:=by intro z;subst z;simp at cc
   refine hid fun ZZ kZ=>?_;obtain ⟨CG,b,rfl⟩:∃ CG b,ps=CG++[b]:=⟨ps.dropLast,ps.getLast B9,(T5 B9).symm⟩;obtain ⟨Us,⟨x,r⟩,rfl,MA,ta,eb,hx⟩:=P2.snoc_inv Mx;refine kZ ?_;have Ha:(Us++[(x,r)]).map (·.1)=Us.map (·.1)++[x]:=by rw [RC];rfl
   rw [Ha] at hk hc Mz;rw [lF,kns,kns,zE] at hk;rw [j1,d6,d6,yP] at hc;rw [bR,aF,aF,x.size_eq] at Mz;have O4:=hle (x,r) (RI _ (Rr ..));dsimp only at O4;have IH:=x.tall_eq;refine ⟨_,rfl,.inl ⟨rfl,_,SqL.of e4⟩,ah,_,.ref b,rfl,rfl,e4,by simp,?_⟩;have d1:((CG++[b]).map V.ref).dropLast=CG.map V.ref:=by simp
   rw [d1];have k5:KT H4 (upd H4 ah (.lst (CG.map V.ref))):=bG e4;have s5:L2.Same H (upd H4 ah (.lst (CG.map V.ref))):=aH s4 G';have e5:(upd H4 ah (.lst (CG.map V.ref))) ah=some (.lst (CG.map V.ref)):=ac;have II:(upd H4 ah (.lst (CG.map V.ref))) mo=some (.ins T.e_Measure dx (mf k c)):=by rw [ar Kg];exact em
   generalize (upd H4 ah (.lst (CG.map V.ref)))=H5 at k5 s5 e5 II ⊢;refine ⟨b,_,rfl,SqT.of (k5 _ _ eb),rfl,_,_,rfl,_,_,rfl,rfl,?_⟩;dsimp only [aC];refine aG (fun f' H6=>Ex2 fun (k' c':Int)=>An6 (k'=(if x.isCall=true then k else k+1)) (c'=(if x.isCall=true then c+1 else c)) ((∀ b o,b≠mo->H5 b=some o->H6 b=some o)) (H6 mo=some (.ins T.e_Measure dx (mf k' c'))) ((r<=20/\k'<=400/\c'<=200)) (f'=[some (.ref a),some (.ref mo),some (.ref ah),some (.ref ta),some (.int r)])) (fun kk Bd=>?_) ?_
   · refine cA (fun bb H6=>Ex2 fun (k' c':Int)=>An5 (k'=(if x.isCall=true then k else k+1)) (c'=(if x.isCall=true then c+1 else c)) ((∀ b o,b≠mo->H5 b=some o->H6 b=some o)) (H6 mo=some (.ins T.e_Measure dx (mf k' c'))) (bb=!decide (r<=20/\k'<=400/\c'<=200))) (fun k2 BU=>?_) (fun H6 hb=>?_) (fun H6 hb=>?_)
     · refine ⟨_,rfl,mo,dx,_,rfl,II,za k c (by decide +kernel) (by decide +kernel),_,rfl,_,rfl,mo,dx,ta,k,c,r,x,rfl,II,hx.mono k5,fun k' c' H6 h1 h2 h3 h4=>?_⟩;exact ⟨_,rfl,BU _ _ ⟨k',c',h1,h2,h3,h4,rfl⟩⟩
     · refine hid fun ZZ kZ=>?_;obtain ⟨k',c',h1,h2,h3,h4,h5⟩:=hb;refine kZ ?_;have AF:¬ (r<=20/\k'<=400/\c'<=200):=fun z=>by rw [decide_eq_true z] at h5;cases h5
       have Ej:decide (Small t)=false:=decide_eq_false fun z=>AF (by
        obtain ⟨z1,z2,z3⟩:=z;refine ⟨by omega,?_,?_⟩
        · rw [h1];split at hk <;> split <;> first | omega | contradiction
        · rw [h2];split at hc <;> split <;> first | omega | contradiction)
       have s6:L2.Same H H6:=fun b o e=>h3 b o (aR e IG) (s5 b o e);rw [Ej] at q;exact q H6 s6
     · refine hid fun ZZ kZ=>?_;obtain ⟨k',c',h1,h2,h3,h4,h5⟩:=hb;refine kZ ?_
       have Em:r<=20/\k'<=400/\c'<=200:=of_decide_eq_true (by
        cases hd:decide (r<=20/\k'<=400/\c'<=200) with
        | true=>rfl
        | false=>rw [hd] at h5;cases h5)
       exact Bd _ _ ⟨k',c',h1,h2,h3,h4,Em,rfl⟩
   rintro f' H6 ⟨k',c',h1,h2,h3,h4,⟨O5,Kh,Ki⟩,rfl⟩;have k6:KT H5 H6:=fun b xs e=>h3 b _ (fun z=>by rw [z,II] at e;cases e) e;have s6:L2.Same H H6:=fun b o e=>h3 b o (aR e IG) (s5 b o e);have e6:H6 ah=some (.lst (CG.map V.ref)):=h3 _ _ Kg.symm e5;have MB:=k5.trans k6;refine ⟨_,rfl,.inl ⟨rfl,_,SqL.of e6⟩,_,rfl,ta,x,rfl,hx.mono MB,fun ka Av H7 s7 ek A8=>?_⟩;have By:Av.length=x.kids.length:=A8.length;have QV:=dG x.kids;refine ⟨ka,rfl,⟨_,SqT.of ek⟩,kJ (F:=RwAt) (xs:=Av.map V.ref) (x.kids.map fun u=>(u,r+1)) (fun H1 H2 z p kt h=>h.mono kt) (by rw [Rf,Rf];omega) (by rw [Rf];omega) (fun i Hx sx hi=>⟨_,_,SqT.of (sx _ _ ek),Rg hi⟩) (fun Hx sx=>⟨_,SqT.of (sx _ _ ek),Rq _⟩) (fun i Hx x Hy sx hi hy=>⟨hy.1,hy.2 _ (SqT.of (sx _ _ ek))⟩) (fun i y z Hx R W' hy MC sx hR=>?_) (fun D H8 bs hD s8 eD En=>?_)⟩
   · obtain ⟨ua,rfl,Kj⟩:=bY hy;obtain ⟨u,hu,Kk⟩:=A8.get Kj;rw [Rw,hu] at MC;cases MC;refine ⟨_,rfl,_,rfl,_,_,rfl,rfl,aj (by show 2<=1000000;decide),fun p1 Eb=>?_⟩;exact hR _ p1 (ad Eb _) ⟨ua,ac,Kk.mono (Same.kt (sx.trans (ad Eb _)))⟩
   have QW:Us.length=CG.length:=R3 MA;have B8:(x.kids.map fun u=>(u,r+1)).length=bs.length:=R3 En;rw [Rf] at B8;have O6:=dG (Us.map (·.1));rw [Rf] at O6;have IJ:=s7.trans s8;have e8:=IJ _ _ e6;refine ⟨ah,D,_,_,rfl,rfl,e8,eD,Vu (bn (by rw [Rf,Rf];omega)),?_⟩;have k9:KT H8 (upd H8 ah (.lst (CG.map V.ref++bs.map V.ref))):=bG e8;have s9:L2.Same H (upd H8 ah (.lst (CG.map V.ref++bs.map V.ref))):=aH (s6.trans IJ) G'
   have hm2:(Us++x.kids.map fun u=>(u,r+1)).map (·.1)=Us.map (·.1)++x.kids:=by
    rw [RC,Ud];congr 1;exact List.map_id' _
   refine ⟨aF ((Us++x.kids.map fun u=>(u,r+1)).map (·.1)),?_,CG++bs,Us++(x.kids.map fun u=>(u,r+1)),k',c',_,_,rfl,s9,?_,?_,?_,?_,?_,Kh,Ki,?_,?_,?_,rfl⟩
   · rw [hm2,Ha,bR,bR,aF,aF,x.size_eq];omega
   · rw [ac,RC]
   · exact P2.append (P2.mp (fun _ _ e=>e.mono ((MB.trans (Same.kt IJ)).trans k9)) MA) (P2.mp (fun _ _ e=>e.mono k9) En)
   · rw [ar Kg];exact IJ _ _ h4
   · rw [hm2,lF,h1];split at hk <;> split <;> first | omega | contradiction
   · rw [hm2,j1,h2];split at hc <;> split <;> first | omega | contradiction
   · intro e he;rcases RN.mp he with he | he
     · exact hle e (Su _ he)
     · obtain ⟨u,hu,rfl⟩:=SQ.mp he;have:=mv hu;dsimp only;omega
   · rcases My with h | ⟨e,he,Kl⟩
     · exact .inl h
     · rcases RN.mp he with he | he
       · exact .inr ⟨e,Su _ he,Kl⟩
       · rw [RO.mp he] at Kl;dsimp only at Kl;by_cases hz:x.kids=[]
         · rw [hz,aL] at IH;exact .inl (by omega)
         · obtain ⟨u,hu,eu⟩:=vm hz;exact .inr ⟨(u,r+1),RI _ (SQ.mpr ⟨u,hu,rfl⟩),by dsimp only;omega⟩
   · rw [hm2,bR];omega
 · have hz:ps=[]:=by
    cases ps with
    | nil=>rfl
    | cons y ys=>simp at cc
   subst hz;have Kf:As=[]:=R4.mp (R3 Mx);subst Kf;have BP:k+((kns []:Nat):Int)=(t.kn:Int):=hk;have BQ:c+((d6 []:Nat):Int)=(cnT t:Int):=hc;rw [kns] at BP;rw [d6] at BQ
   have O7:(t.tall:Int)<=20:=by
    rcases My with h | ⟨e,he,_⟩
    · exact h
    · cases he
   have Km:decide (Small t)=true:=decide_eq_true ⟨by omega,by omega,by omega⟩;rw [Km] at q;exact q H4 s4
inductive g6 (vs:List V) (H:Hp) (Q:VK) (_E:XK):Prop
 | mk (i:Int) (Aq:vs=[.int i]) (Ar:Q (.bl true) H):g6  vs H Q _E
def o6:Sp:=g6
theorem o4:FnOk P w K mg base CX0 1 T.g_is_number.f T.g_is_number.d ["thing"] o6:=by
 refine T.g_is_number.F.ok pf (fun vs H Q E h=>?_) (fun Al A outer s H vs Q E hr h=>?_)
 · obtain ⟨i,rfl,_⟩:=h;rfl
 obtain ⟨i,rfl,k⟩:=h;refine ⟨_,(ai (av (eH (aq (dF (T:="int")) rfl T.n_isinstance Sm (aa (pv 0) (aa (fb (v:=.ty "int") rfl T.n_int PyProof.Rows.boot_int rfl) ae))) (fZ (rg (aq (dF (T:="bool")) rfl T.n_isinstance Sm (aa (pv 0) (aa (fb (v:=.ty "bool") rfl T.n_bool PyProof.Rows.boot_bool rfl) ae)))))))),?_⟩
 try dsimp only [AN,Aj]
 refine ⟨_,rfl,_,_,_,rfl,.int i,xQ,_,rfl,?_⟩;refine bC ?_;exact ⟨_,rfl,_,_,_,rfl,.int i,yJ,_,rfl,k⟩
inductive iN (vs:List V) (H:Hp) (Q:VK) (_E:XK):Prop
 | mk (i b:Int) (Aq:vs=[.int i,.int b]) (Ar:Q (.bl (decide (0<=i/\i<b))) H):iN  vs H Q _E
def pR:Sp:=iN
theorem fJ:FnOk P w K mg base CX0 2 T.g_is_below.f T.g_is_below.d ["number","bound"] pR:=by
 refine T.g_is_below.F.ok pB (fun vs H Q E h=>?_) (fun Al A outer s H vs Q E hr h=>?_)
 · obtain ⟨i,b,rfl,_⟩:=h;rfl
 obtain ⟨i,b,rfl,k⟩:=h;refine ⟨_,(ai (av (eH (pcF T.g_is_number (o4 T) hr (aa (pv 0) ae)) (fZ (pZ hV gq ag (pv 0) (pv 1)))))),?_⟩
 try dsimp only [AN,Aj]
 refine ⟨_,rfl,i,rfl,_,rfl,?_⟩;refine bC ?_;refine ⟨_,rfl,_,_,rfl,rfl,_,rfl,?_⟩;refine cr (fun c=>?_) (fun c=>?_)
 · have c':0<=i:=of_decide_eq_true c;refine ⟨_,rfl,_,_,rfl,rfl,?_⟩;have e:decide (0<=i/\i<b)=decide (i<b):=by simp [c']
   rw [e] at k;exact k
 · have c':¬ 0<=i:=fun z=>c (decide_eq_true z);have e:decide (0<=i/\i<b)=false:=by simp [c']
   rw [e] at k;exact k
inductive jX (vs:List V) (H:Hp) (Q:VK) (_E:XK):Prop
 | mk (z:Rz) (Aq:vs=[.str z]) (Ar:z.length<=100000) (AB:∀ H',L2.Same H H'->Q (.bl (aS z)) H'):jX  vs H Q _E
def rB:Sp:=jX
theorem iw:FnOk P w K mg base CX0 1 T.g_is_name.f T.g_is_name.d ["thing"] rB:=by
 refine T.g_is_name.F.ok sd (fun vs H Q E h=>?_) (fun Al A outer s H vs Q E hr h=>?_)
 · obtain ⟨z,rfl,_⟩:=h;rfl
 obtain ⟨z,rfl,hz,k⟩:=h
 refine ⟨_,(af (aN (PW.pt (eR (cG (ba (aq (dF (T:="str")) rfl T.n_isinstance Sm (aa (pv 0) (aa (fb (v:=.ty "str") rfl T.n_str UR rfl) ae))) (fun _=>rfl))) (eE (cG (i7 hV hV ag (aq fo rfl T.n_len RQ (aa (pv 0) ae)) (bW (v:=.int (8)) rfl T.c_MOST_LETTERS.choose_spec ⟨_,rfl⟩)))))) (ai (av dv)) aE)
  (ai (av (aq (ql rfl) rfl T.n_all PyProof.Rows.boot_all (aa (cC (N:=[Rc "sign"]) (js:=[none]) (g:=(aC 0)) (tt:=bM) (te:=(pd (uE) (uE) (tC (.str (Rc "a"))) (cj 0) (tC (.str (Rc "z"))))) rfl (dz rfl (by decide +kernel) (by decide +kernel) rfl rfl rfl) (v3 (pv 0)) (fun _ _ _ _ _ _=>(aD (i:=0) zg rfl (RH rfl))) (bX rfl) (fun _ _ _ _ _ _=>cP) (fun _ _ _ _ _ _=>(pZ gx gx ax (pv 0) ax))) ae))))),?_⟩
 try dsimp only [AN,Aj]
 refine ⟨_,rfl,_,_,_,rfl,.str z,yN,_,rfl,?_⟩;refine bL ?_;refine ⟨_,rfl,_,rfl,aj (by omega),_,_,rfl,rfl,_,rfl,?_⟩;refine cr (fun c1=>?_) (fun c1=>?_)
 · have Eo:1<=(z.length:Int):=of_decide_eq_true c1;refine ⟨_,_,rfl,rfl,_,rfl,?_⟩;refine cr (fun c2=>?_) (fun c2=>?_)
   · have kk:=k H (.refl _)
     have e:aS z=false:=by
      unfold aS;rw [decide_eq_false (fun h=>?_)]
      · rfl
      · rw [decide_eq_true (show (z.length:Int)<=8 by omega)] at c2;cases c2
     rw [e] at kk;exact kk
   · have Hb:z.length<=8:=by
      by_cases h:z.length<=8
      · exact h
      · rw [decide_eq_false (show ¬ (z.length:Int)<=8 by omega)] at c2;exact absurd rfl c2
     have e:aS z=low z:=by
      unfold aS;rw [decide_eq_true (show 1<=z.length/\z.length<=8 from ⟨by omega,Hb⟩)];rfl
     rw [e] at k;refine ⟨_,rfl,z,rfl,rO (fun c=>decide (97<=c/\c<=122)) (by show z.length<=100000;exact hz) (fun c H1 Q' W' _ hQ=>?_) (fun D H' hD s1 e1=>?_)⟩
     · refine ⟨_,rfl,_,_,rfl,rfl,_,rfl,?_⟩;rw [show (Rc "a").cps.toList=[97] by decide +kernel];rw [n8 97 c];refine cr (fun d1=>?_) (fun d1=>?_)
       · have Kn:97<=c:=of_decide_eq_true d1;refine ⟨_,_,rfl,rfl,?_⟩;rw [show (Rc "z").cps.toList=[122] by decide +kernel,n8 c 122];have e2:decide (97<=c/\c<=122)=decide (c<=122):=by simp [Kn]
         rw [e2] at hQ;exact hQ
       · have Kn:¬ 97<=c:=fun z=>d1 (decide_eq_true z);have e2:decide (97<=c/\c<=122)=false:=decide_eq_false fun z=>Kn z.1;rw [e2] at hQ;exact hQ
     · refine ⟨D,_,rfl,SqL.of e1,?_⟩;rw [show ((z.cps.toList.map fun c=>decide (97<=c/\c<=122)).all id)=low z by unfold low;rw [Xk];rfl];exact k H' s1
 · have kk:=k H (.refl _)
   have e:aS z=false:=by
    unfold aS;rw [decide_eq_false (fun h=>c1 (decide_eq_true (by omega)))];rfl
   rw [e] at kk;refine ⟨_,rfl,bC ?_⟩;exact kk
def cF (k:Rz×Int):Bool:=aS k.1 && decide (0<=k.2/\k.2<4)
inductive j9 (vs:List V) (H:Hp) (Q:VK) (_E:XK):Prop
 | mk (a:Rk) (k:Rz×Int) (Aq:vs=[.ref a]) (Ar:H a=some (.tup [.str k.1,.int k.2])) (AB:k.1.length<=100000) (AQ:∀ H',L2.Same H H'->Q (.bl (cF k)) H'):j9  vs H Q _E
def lw:Sp:=j9
theorem qT:FnOk P w K mg base CX0 3 T.g_is_kind.f T.g_is_kind.d ["pair"] lw:=by
 refine T.g_is_kind.F.ok qS (fun vs H Q E h=>?_) (fun Al A outer s H vs Q E hr h=>?_)
 · obtain ⟨a,z,rfl,_⟩:=h;rfl
 obtain ⟨a,⟨z,n⟩,rfl,ha,hz,k⟩:=h;refine ⟨_,(ai (av (eH (cy cq (aq am rfl T.n_len RQ (aa (pv 0) ae)) ag (ay _)) (eH (pcF T.g_is_name (iw T) hr (aa (aA aM (pv 0) ag (fun _ _=>rfl)) ae)) (fZ (pcF T.g_is_below (fJ T) hr (aa (aA aM (pv 0) ag (fun _ _=>rfl)) (aa (ak aY (bW (v:=.int (3)) rfl T.c_MOST_KIDS.choose_spec ⟨_,rfl⟩) ag) ae)))))))),?_⟩
 try dsimp only [AN,Aj]
 refine ⟨_,rfl,a,_,rfl,.inr (SqT.of ha),rfl,_,rfl,?_⟩;refine bC ?_;refine ⟨_,rfl,a,_,0,.str z,rfl,rfl,SqT.of ha,at0,z,rfl,hz,fun H1 s1=>?_⟩;refine ⟨_,rfl,?_⟩;refine cr (fun c=>?_) (fun c=>?_)
 · refine ⟨_,rfl,a,_,1,.int n,rfl,rfl,SqT.of (s1 _ _ ha),at1,_,_,rfl,rfl,n,_,rfl,?_⟩;have kk:=k H1 s1;unfold cF at kk;rw [show aS z=true from c,UC] at kk;exact kk
 · have kk:=k H1 s1;unfold cF at kk;have c':aS z=false:=S6.mpr c;rw [c',WI] at kk;exact kk
def aV (ks:List (Rz×Int)):Bool:=decide (1<=ks.length/\ks.length<=8) && (ks.all cF && (decide ((ks.map (·.1)).Nodup) && decide ((0:Int)∈ks.map (·.2))))
inductive gS (K:Ri) (vs:List V) (H:Hp) (Q:VK) (_E:XK):Prop
 | mk (kr:Rk) (Av:List Rk) (ks:List (Rz×Int)) (Aq:vs=[.ref kr]) (Ar:SqT K H kr (Av.map V.ref)) (AB:KsAt H ks Av) (AQ:ks.length<=1000) (Bq:(∀ k∈ks,k.1.length<=100000)) (Cb:∀ H',L2.Same H H'->Q (.bl (aV ks)) H'):gS K vs H Q _E
def n9 (K:Ri):Sp:=gS K
theorem nW:FnOk P w K mg base CX0 4 T.g_are_kinds.f T.g_are_kinds.d ["kinds"] (n9 K):=by
 refine T.g_are_kinds.F.ok iT (fun vs H Q E h=>?_) (fun Al A outer s H vs Q E hr h=>?_)
 · obtain ⟨kr,Av,ks,rfl,_⟩:=h;rfl
 obtain ⟨kr,Av,ks,rfl,hK,A8,hlen,Ko,k⟩:=h
 refine ⟨_,(af (aN (PW.pt (eR (cG (i7 hV hV ag (aq am rfl T.n_len RQ (aa (pv 0) ae)) (bW (v:=.int (8)) rfl T.c_MOST_KINDS.choose_spec ⟨_,rfl⟩))) (eE (cG (ba (aq (ql rfl) rfl T.n_all PyProof.Rows.boot_all (aa (cC (N:=[Rc "pair"]) (js:=[none]) (g:=(aC 0)) (tt:=bM) (te:=(nu lw [] E0 (bJ (cj 0) dP))) rfl (dz rfl (by decide +kernel) (by decide +kernel) rfl rfl rfl) (eL (pv 0)) (fun _ _ _ _ _ _=>(aD (i:=0) xf rfl (RH rfl))) (bX rfl) (fun _ _ _ _ _ _=>cP) (fun _ _ _ _ _ _=>(pcF T.g_is_kind (qT T) hr (aa (pv 0) ae)))) ae)) (fun _=>rfl)))))) (ai (av dv)) aE)
  (af (oV (i:=1) (N:=[Rc "pair"]) (js:=[none]) (g:=(aC 0)) (tt:=bM) (te:=(tOp (ve K) (cj 0) (tC (.int 0)))) iT.nd rfl (RH rfl) rfl (dz rfl (by decide +kernel) (by decide +kernel) rfl rfl rfl) (eL (pv 0)) (fun _ _ _ _ _ _=>(aD (i:=0) xf rfl (RH rfl))) (bX rfl) (fun _ _ _ _ _ _=>cP) (fun _ _ _ _ _ _=>(aA aM (pv 0) ag (fun _ _=>rfl))))
  (ai (av (eH (cy cq (aq tz rfl T.n_len RQ (aa (bz (tm rfl) rfl T.n_set PyProof.Rows.boot_set (aa (pv 1) ae)) ae)) (aq am rfl T.n_len RQ (aa (pv 1) ae)) (ay _)) (fZ (cy nE ag (cC (N:=[Rc "pair"]) (js:=[none]) (g:=(aC 0)) (tt:=bM) (te:=(tOp (ve K) (cj 0) (tC (.int 1)))) rfl (dz rfl (by decide +kernel) (by decide +kernel) rfl rfl rfl) (eL (pv 0)) (fun _ _ _ _ _ _=>(aD (i:=0) xf rfl (RH rfl))) (bX rfl) (fun _ _ _ _ _ _=>cP) (fun _ _ _ _ _ _=>(aA aM (pv 0) ag (fun _ _=>rfl)))) (by with_unfolding_all rfl)))))))),?_⟩
 try dsimp only [AN,Aj]
 have By:ks.length=Av.length:=R3 A8;refine ⟨_,rfl,kr,_,rfl,.inr hK,_,_,rfl,rfl,_,rfl,?_⟩;rw [Rf,<- By]
 have AF:∀ Hx,L2.Same H Hx->aV ks=false->Q (.bl false) Hx:=fun Hx sx e=>by
  have kk:=k Hx sx;rw [e] at kk;exact kk
 have bad:¬ (1<=ks.length/\ks.length<=8)->aV ks=false:=fun z=>by
  unfold aV;rw [decide_eq_false z];rfl
 refine cr (fun c1=>?_) (fun c1=>?_)
 · have Eo:(1:Int)<=(ks.length:Int):=of_decide_eq_true c1;refine ⟨_,_,rfl,rfl,_,rfl,?_⟩;refine cr (fun c2=>?_) (fun c2=>?_)
   · refine bC (AF H (.refl _) (bad fun z=>?_));rw [decide_eq_true (show (ks.length:Int)<=8 by omega)] at c2;cases c2
   · have Hb:ks.length<=8:=by
      by_cases h:ks.length<=8
      · exact h
      · rw [decide_eq_false (show ¬ (ks.length:Int)<=8 by omega)] at c2;exact absurd rfl c2
     have DP:aV ks=(ks.all cF && (decide ((ks.map (·.1)).Nodup) && decide ((0:Int)∈ks.map (·.2)))):=by
      unfold aV;rw [decide_eq_true (show 1<=ks.length/\ks.length<=8 from ⟨by omega,Hb⟩)];rfl
     refine ⟨_,rfl,kr,rfl,⟨_,hK⟩,df ks (fun k=>V.bl (cF k)) hK (by rw [Rf];exact By) (by rw [Rf];omega) (fun i x z H2 R W' hx hz s2 hR=>?_) (fun D H1 hD s1 e1=>?_)⟩
     · obtain ⟨ka,rfl,Bm⟩:=bY hx;obtain ⟨z',Cq,ez⟩:=P2.get' A8 Bm;rw [hz] at Cq;cases Cq;exact ⟨_,rfl,ka,z,rfl,s2 _ _ ez,Ko z (Ru hz),fun H3 s3=>hR H3 s3⟩
     · have Kp:ks.map (fun k=>V.bl (cF k))=(ks.map cF).map V.bl:=by rw [Ud];rfl
       rw [Kp] at e1;refine ⟨D,_,rfl,SqL.of e1,_,rfl,?_⟩;rw [show (ks.map cF).all id=ks.all cF by rw [Xk];rfl];refine cr (fun c3=>?_) (fun c3=>?_)
       · refine AF H1 s1 ?_;rw [DP]
         have:ks.all cF=false:=by
          cases h:ks.all cF with
          | false=>rfl
          | true=>rw [h] at c3;cases c3
         rw [this];rfl
       · have Ai:ks.all cF=true:=by
          cases h:ks.all cF with
          | true=>rfl
          | false=>rw [h] at c3;exact absurd rfl c3
         rw [Ai,UC] at DP;have DQ:=A8.mono (Same.kt s1);refine ⟨_,rfl,kr,rfl,⟨_,s1.seqT hK⟩,df ks (fun k=>V.str k.1) (s1.seqT hK) (by rw [Rf];exact By) (by rw [Rf];omega) (fun i x z H2 R W' hx hz s2 hR=>?_) (fun D1 H2 QX s2 e2=>?_)⟩
         · obtain ⟨ka,rfl,Bm⟩:=bY hx;obtain ⟨z',Cq,ez⟩:=P2.get' DQ Bm;rw [hz] at Cq;cases Cq;exact ⟨_,rfl,ka,_,0,.str z.1,rfl,rfl,SqT.of (s2 _ _ ez),at0,hR H2 (.refl _)⟩
         · have en:ks.map (fun k=>V.str k.1)=(ks.map (·.1)).map V.str:=by rw [Ud];rfl
           rw [en] at e2;have CH:=s1.trans s2;refine ⟨_,rfl,D1,ks.map (·.1),rfl,SqL.of e2,by rw [Rf];omega,fun sa Kq=>?_⟩;have s3:=fun o:HO=>ad Kq o;have CF:=fun o:HO=>CH.trans (s3 o);refine ⟨sa,ks.map (·.1),rfl,ac,_,rfl,D1,_,rfl,.inl (SqL.of (s3 _ _ _ e2)),rfl,_,rfl,?_⟩;have EM:=pQ (ks.map (·.1)) (ks.map (·.1)).length (Rq _);rw [U6] at EM;refine cr (fun c4=>?_) (fun c4=>?_)
           · have O8:((dn (ks.map (·.1)) (ks.map (·.1)).length:Nat):Int)=(((ks.map (·.1)).map V.str).length:Int):=V.int.inj (of_decide_eq_true c4);rw [Rf (f:=V.str)] at O8;have O9:=EM.mp (by omega);rw [decide_eq_true O9,UC] at DP;refine ⟨_,rfl,kr,rfl,⟨_,(CF _).seqT hK⟩,df ks (fun k=>V.int k.2) ((CF _).seqT hK) (by rw [Rf];exact By) (by rw [Rf];omega) (fun i x z H4 R W' hx hz s4 hR=>?_) (fun D3 H4 QY s4 e4=>?_)⟩
             · obtain ⟨ka,rfl,Bm⟩:=bY hx;obtain ⟨z',Cq,ez⟩:=P2.get' (A8.mono (Same.kt ((CF _).trans s4))) Bm;rw [hz] at Cq;cases Cq;exact ⟨_,rfl,ka,_,1,.int z.2,rfl,rfl,SqT.of ez,at1,hR H4 (.refl _)⟩
             · have Gz:inV (.int 0) (ks.map fun k=>V.int k.2)=decide ((0:Int)∈ks.map (·.2)):=by
                unfold inV;rw [List.any_map];by_cases h:(0:Int)∈ks.map (·.2)
                · rw [decide_eq_true h];obtain ⟨k',BP,e'⟩:=SQ.mp h;exact VE.mpr ⟨k',BP,by show eqV (.int k'.2) (.int 0)=true;rw [e'];rfl⟩
                · rw [decide_eq_false h];refine S6.mpr fun z=>h ?_;obtain ⟨k',BP,e'⟩:=VE.mp z;have DA:eqV (.int k'.2) (.int 0)=true:=e';exact SQ.mpr ⟨k',BP,by simpa [eqV] using DA⟩
               refine ⟨D3,_,rfl,.inl (SqL.of e4),rfl,?_,?_⟩
               · rw [Xk];exact Sl.mpr fun _ _=>rfl
               · have kk:=k H4 ((CF _).trans s4);rw [DP,<- Gz] at kk;exact kk
           · refine AF _ (CF _) ?_;rw [DP,decide_eq_false (fun z=>c4 (decide_eq_true ?_))]
             · rfl
             · show V.int ((dn (ks.map (·.1)) (ks.map (·.1)).length:Nat):Int)=V.int (((ks.map (·.1)).map V.str).length:Int);rw [EM.mpr z,Rf (f:=V.str)]
 · refine ⟨_,rfl,bC (AF H (.refl _) (bad fun z=>c1 (decide_eq_true (by omega))))⟩
def jG (K:Ri) (H:Hp) (ks:List (Rz×Int)) (a:Rk) (Av:List Rk):Prop:=(SqL K H a (Av.map V.ref)∨SqT K H a (Av.map V.ref))/\KsAt H ks Av/\ks.length<=1000/\∀ k∈ks,k.1.length<=100000
inductive gZ (K:Ri) (C:Rk) (vs:List V) (H:Hp) (Q:VK) (E:XK):Prop
 | mk (pr:Rk) (Av:List Rk) (ks:List (Rz×Int)) (Aq:vs=[.ref pr]) (Ar:jG K H ks pr Av) (AB:(aV ks=true->∀ (r:Rk) (H':Hp),L2.Same H H'->H' r=some (.tup (Av.map V.ref))->Q (.ref r) H')) (AQ:(aV ks=false->∀ H',L2.Same H H'->E (.ref C) none H')):gZ K C vs H Q E
def o7 (K:Ri) (C:Rk):Sp:=gZ K C
theorem oz {σ:St} {H:Hp} {ks:List (Rz×Int)} {pr:Rk} {Av:List Rk} {fin:Rk->Hp->Prop} (h:jG K H ks pr Av) (hq:∀ D H',L2.Same H H'->H' D=some (.lst (Av.map V.ref))->fin D H') :
 ((∃ xs,SqL K H pr xs)/\∀ D,H D=none->∃ (n:Nat) (W:Nat->Hp->Prop),W 0 (upd H D (.lst []))/\du [none] (aC 0) bM (tCB (fun xs H Q=>∃ p ys,xs=[.ref p]/\((SqL K H p ys/\∀ l,H l=none->Q (.ref l) (upd H l (.tup ys)))∨(SqT K H p ys/\Q (.ref p) H))) (bJ (cj 0) dP)) σ (Itl K pr) D n W fun H'=>fin D H') ∨
 ((∃ xs,SqT K H pr xs)/\∀ D,H D=none->∃ (n:Nat) (W:Nat->Hp->Prop),W 0 (upd H D (.lst []))/\du [none] (aC 0) bM (tCB (fun xs H Q=>∃ p ys,xs=[.ref p]/\((SqL K H p ys/\∀ l,H l=none->Q (.ref l) (upd H l (.tup ys)))∨(SqT K H p ys/\Q (.ref p) H))) (bJ (cj 0) dP)) σ (Itt K pr) D n W fun H'=>fin D H'):=by
 obtain ⟨hS,A8,hlen,_⟩:=h;have By:ks.length=Av.length:=R3 A8
 have step:∀ (i:Nat) (x:V) (z:Rk) (H2:Hp) (R:VK) (W':Hp->Prop),(Av.map V.ref)[i]?=some x->Av[i]?=some z->L2.Same H H2->(∀ H3,L2.Same H2 H3->R (.ref z) H3) →
  aC 0 x (cσ [none] σ) H2 fun Ay H3=>bM Ay H3 fun b H4=>if b=true then (tCB (fun xs H Q=>∃ p ys,xs=[.ref p]/\((SqL K H p ys/\∀ l,H l=none->Q (.ref l) (upd H l (.tup ys)))∨(SqT K H p ys/\Q (.ref p) H))) (bJ (cj 0) dP)) Ay H4 R else W' H4:=by
  intro i x z H2 R W' hx hz s2 hR;obtain ⟨ka,rfl,Bm⟩:=bY hx;rw [hz] at Bm;cases Bm;obtain ⟨z',Cq,ez⟩:=P2.get' A8 hz;exact ⟨_,rfl,z,_,rfl,.inr ⟨SqT.of (s2 _ _ ez),hR H2 (.refl _)⟩⟩
 rcases hS with hS | hS
 · exact .inl ⟨⟨_,hS⟩,ou Av V.ref hS (by rw [Rf]) (by rw [Rf];omega) step fun D H' hD s1 e1=>hq D H' s1 e1⟩
 · exact .inr ⟨⟨_,hS⟩,df Av V.ref hS (by rw [Rf]) (by rw [Rf];omega) step fun D H' hD s1 e1=>hq D H' s1 e1⟩
theorem jc:FnOk P w K mg base (CX1 P w) 5 T.g_kinds_of.f T.g_kinds_of.d ["pairs"] (o7 K T.e_NoKinds):=by
 refine T.g_kinds_of.F.ok1 j5 (fun vs H Q E h=>?_) (fun Al A outer s H vs Q E hr h=>?_)
 · obtain ⟨pr,Av,ks,rfl,_⟩:=h;rfl
 obtain ⟨pr,Av,ks,rfl,hp,k1,k2⟩:=h
 refine ⟨_,(af (ao (i:=1) j5.nd rfl (RH rfl) (bz bI rfl T.n_tuple SD (aa (cC (N:=[Rc "pair"]) (js:=[none]) (g:=(aC 0)) (tt:=bM) (te:=(tCB (fun xs H Q=>∃ p ys,xs=[.ref p]/\((SqL K H p ys/\∀ l,H l=none->Q (.ref l) (upd H l (.tup ys)))∨(SqT K H p ys/\Q (.ref p) H))) (bJ (cj 0) dP))) rfl (dz rfl (by decide +kernel) (by decide +kernel) rfl rfl rfl) (uv (pv 0)) (fun _ _ _ _ _ _=>(aD (i:=0) xf rfl (RH rfl))) (bX rfl) (fun _ _ _ _ _ _=>cP) (fun _ _ _ _ _ _=>(bz bI rfl T.n_tuple SD (aa (pv 0) ae)))) ae)))
  (af (aN (cG (ba (pcF T.g_are_kinds (nW T) hr (aa (pv 1) ae)) (fun _=>rfl))) (ai (bF T.X_NoKinds T.x_NoKinds ax)) aE)
  (ai (av (pv 1))))),?_⟩
 try dsimp only [AN,Aj]
 refine ⟨_,rfl,pr,rfl,oz hp fun D H1 s1 e1=>?_⟩;refine ⟨D,_,rfl,.inl ⟨SqL.of e1,fun r Bp=>?_⟩⟩;have s2:=s1.trans (ad Bp (.tup (Av.map V.ref)));refine hid fun ZZ kZ=>?_;obtain ⟨hS,A8,hlen,Ko⟩:=hp;refine kZ ?_;refine ⟨_,rfl,r,Av,ks,rfl,SqT.of ac,A8.mono (Same.kt s2),hlen,Ko,fun H3 s3=>?_⟩;refine ⟨_,rfl,?_⟩;cases hok:aV ks with
 | false=>exact bC (k2 hok H3 (s2.trans s3))
 | true=>exact bL ⟨_,rfl,k1 hok r H3 (s2.trans s3) (s3 _ _ ac)⟩
inductive jV (K:Ri) (vs:List V) (H:Hp) (Q:VK) (_E:XK):Prop
 | mk (kr:Rk) (Av:List Rk) (ks:List (Rz×Int)) (n:Rz) (Aq:vs=[.ref kr,.str n]) (Ar:SqT K H kr (Av.map V.ref)) (AB:KsAt H ks Av) (AQ:Q (.int (dr ks n)) H):jV K vs H Q _E
def rA (K:Ri):Sp:=jV K
theorem rF:FnOk P w K mg base CX0 1 T.g_many_of.f T.g_many_of.d ["kinds","name"] (rA K):=by
 refine T.g_many_of.F.ok iE (fun vs H Q E h=>?_) (fun Al A outer s H vs Q E hr h=>?_)
 · obtain ⟨kr,Av,ks,n,rfl,_⟩:=h;rfl
 obtain ⟨kr,Av,ks,n,rfl,hK,A8,k⟩:=h
 refine ⟨_,(af (cf Sz rfl (eL (pv 0)) (jm rfl (bK (aD (i:=2) iE.nd rfl (RH rfl)) (bK (aD (i:=3) iE.nd rfl (RH rfl)) fk))) (ai (aN (au cq (pv 2) (pv 1) (ay _)) (ai (av (pv 3))) aE)))
  (ai (av (pF mw ag)))),?_⟩
 try dsimp only [AN,Aj]
 refine ⟨_,rfl,kr,rfl,⟨_,hK⟩,?_⟩;have By:ks.length=Av.length:=R3 A8;refine oO (K:=K) (a:=kr) (xs:=Av.map V.ref) (fun i σ H2=>Ex2 fun c1 c2=>An3 (σ=[some (.ref kr),some (.str n),c1,c2]) (H2=H) (dr ks n=dr (ks.drop i) n)) ⟨none,none,rfl,rfl,by rw [Tt]⟩ (fun i σ H2 _ ⟨_,_,_,e,_⟩=>by rw [e];exact hK) ?_ ?_
 · rintro i x σ H2 hx ⟨c1,c2,rfl,rfl,hm⟩;obtain ⟨ka,rfl,Bm⟩:=bY hx;obtain ⟨kd,BY,Pa⟩:=P2.get' A8 Bm;have hi:i<ks.length:=(Rv.mp BY).1
   have hd:ks.drop i=kd::ks.drop (i+1):=by
    rw [SH hi];congr 1;rw [Rg hi] at BY;exact Ry BY
   rw [hd,dr] at hm;refine ⟨ka,_,rfl,SqT.of Pa,rfl,_,_,rfl,_,_,rfl,rfl,?_⟩;refine ⟨_,rfl,_,rfl,rfl,_,rfl,?_⟩;refine cr (fun c=>?_) (fun c=>?_)
   · have c':kd.1=n:=V.str.inj (of_decide_eq_true c);rw [if_pos c'] at hm;rw [hm] at k;exact ⟨_,rfl,k⟩
   · have c':¬ kd.1=n:=fun z=>c (decide_eq_true (congrArg V.str z));rw [if_neg c'] at hm;exact ⟨_,_,rfl,rfl,hm⟩
 · rintro σ H2 ⟨c1,c2,rfl,rfl,hm⟩;rw [Rf,<- By,Wf,dr] at hm;rw [hm] at k;exact ⟨_,rfl,k⟩
inductive eZ (K:Ri) (vs:List V) (H:Hp) (Q:VK) (_E:XK):Prop
 | mk (kr a:Rk) (Av:List Rk) (ks:List (Rz×Int)) (t:Th) (st kd:Int) (Aq:vs=[.ref kr,.ref a,.int st,.int kd]) (Ar:SqT K H kr (Av.map V.ref)) (AB:KsAt H ks Av) (AQ:At H t a) (Bq:t.size<=100000) (Cb:∀ H',L2.Same H H'->Q (.bl (fpb ks st kd t)) H'):eZ K vs H Q _E
def kE (K:Ri):Sp:=eZ K
theorem kj:FnOk P w K mg base CX0 3 T.g_fits_pattern.f T.g_fits_pattern.d ["kinds","pattern","states","kids"] (kE K):=by
 refine T.g_fits_pattern.F.ok fE (fun vs H Q E h=>?_) (fun Al A outer s H vs Q E hr h=>?_)
 · obtain ⟨kr,a,Av,ks,t,st,kd,rfl,_⟩:=h;rfl
 obtain ⟨kr,a,Av,ks,t,st,kd,rfl,hK,A8,hA,Az,k⟩:=h
 refine ⟨_,(af (cf Sz rfl (gE (pcF T.g_walked (t7 T) hr (aa (pv 1) ae))) (aD (i:=4) fE.nd rfl (RH rfl)) (ai (aN (ba (pcF T.g_is_call (ij T) hr (aa (pv 4) ae)) (fun _=>rfl)) (ai (aN (PW.pt (eR (cG (ba (pcF T.g_is_below (fJ T) hr (aa (aA aM (pv 4) ag (fun _ _=>rfl)) (aa (pv 2) ae))) (fun _=>rfl))) (eE (cG (ba (pcF T.g_is_below (fJ T) hr (aa (aA aM (pv 4) ag (fun _ _=>rfl)) (aa (pv 3) ae))) (fun _=>rfl)))))) (ai (av dv)) aE)) (ai (aN (au eV (pcF T.g_many_of (rF T) hr (aa (pv 0) (aa (aA aM (pv 4) ag (fun _ _=>rfl)) ae))) (ak jz (aq am rfl T.n_len RQ (aa (pv 4) ae)) ag) (ay _)) (ai (av dv)) aE)))))
  (ai (av dv))),?_⟩
 try dsimp only [AN,Aj]
 refine ⟨_,rfl,a,t,rfl,hA,Az,fun r as H1 s1 nr er hw=>⟨r,rfl,⟨_,SqL.of er⟩,?_⟩⟩;have C5:as.length=t.walk.length:=hw.length
 refine pD (K:=K) (a:=r) (xs:=as.map V.ref) (fun i σ H2=>Ex1 fun c=>An3 (σ=[some (.ref kr),some (.ref a),some (.int st),some (.int kd),c]) (L2.Same H1 H2) ((t.walk.take i).all (okP ks st kd)=true))
  ⟨none,rfl,.refl _,by rw [Uj];rfl⟩ (fun i σ H2 _ ⟨_,_,s2,_⟩=>SqL.of (s2 _ _ er)) ?_ ?_
 · rintro i x σ H2 hx ⟨c,rfl,s2,Ai⟩;obtain ⟨xa,rfl,Pb⟩:=bY hx;obtain ⟨tx,MD,Kr⟩:=hw.get Pb;have Ks:=Kr.mono (Same.kt s2);have CH:=s1.trans s2;have Ii:t.walk.take (i+1)=t.walk.take i++[tx]:=by rw [UU,MD];rfl
   have AF:okP ks st kd tx=false->fpb ks st kd t=false:=by
    intro z;unfold fpb;rw [S6];intro y;rw [Sl] at y;rw [y tx (Ru MD)] at z;cases z
   have Em:okP ks st kd tx=true->(t.walk.take (i+1)).all (okP ks st kd)=true:=by
    intro z;rw [Ii,List.all_append,Ai];simp [z]
   refine ⟨_,rfl,xa,tx,rfl,Ks,_,rfl,?_⟩;cases tx with
   | call sn kn =>
     refine bC ?_;have Dd:=Ks;rw [At] at Dd;refine ⟨_,rfl,xa,_,1,_,rfl,rfl,SqT.of Dd,at1,_,rfl,sn,st,rfl,_,rfl,?_⟩;refine cr (fun c1=>?_) (fun c1=>?_)
     · have e:fpb ks st kd t=false:=AF (by rw [okP];rw [V2] at c1;rw [c1];rfl);have:=k H2 CH;rw [e] at this;exact bC this
     · refine ⟨_,rfl,xa,_,2,_,rfl,rfl,SqT.of Dd,at2,_,rfl,kn,kd,rfl,_,rfl,?_⟩
       have Eo:decide (0<=sn/\sn<st)=true:=by
        cases h:decide (0<=sn/\sn<st) with
        | true=>rfl
        | false=>rw [h] at c1;exact absurd rfl c1
       refine cr (fun c2=>?_) (fun c2=>?_)
       · have e:fpb ks st kd t=false:=AF (by rw [okP];rw [V2] at c2;rw [Eo,c2];rfl);have:=k H2 CH;rw [e] at this;exact this
       · have Hb:decide (0<=kn/\kn<kd)=true:=by
          cases h:decide (0<=kn/\kn<kd) with
          | true=>rfl
          | false=>rw [h] at c2;exact absurd rfl c2
         exact ⟨_,rfl,s2,Em (by rw [okP,Eo,Hb];rfl)⟩
   | knot nm us =>
     refine bL ?_;have Dd:=Ks;rw [At] at Dd;refine hid fun ZZ kZ=>?_;obtain ⟨ME,ka,ek,Bm⟩:=Dd;refine kZ ?_;have By:ka.length=us.length:=Bm.length;refine ⟨_,rfl,_,rfl,xa,_,0,.str nm,rfl,rfl,SqT.of ek,at0,kr,Av,ks,nm,rfl,CH.seqT hK,A8.mono (Same.kt CH),_,rfl,xa,_,rfl,.inr (SqT.of ek),_,_,rfl,rfl,rfl,_,rfl,?_⟩;have hlen:((V.str nm::ka.map V.ref).length:Int) - 1=(us.length:Int):=by rw [Rh,Rf,By];omega
     refine cr (fun c=>?_) (fun c=>?_)
     · have hm:¬ dr ks nm=((us.length:Nat):Int):=fun z=>zc c (by rw [z,<- hlen]);have e:fpb ks st kd t=false:=AF (by rw [okP];exact decide_eq_false hm);have:=k H2 CH;rw [e] at this;exact this
     · have hm:dr ks nm=((us.length:Nat):Int):=by
        have:=V.int.inj (xP c);rw [this];exact hlen
       exact ⟨_,rfl,s2,Em (by rw [okP];exact decide_eq_true hm)⟩
 · rintro σ H2 ⟨c,rfl,s2,Ai⟩;rw [Rf,C5,U6] at Ai;have e:fpb ks st kd t=true:=Ai;have:=k H2 (s1.trans s2);rw [e] at this;exact this
def mz (outs:List (Rz×Int)) (st kd:Int) (t:Th):Prop:=Small t/\fpb outs st kd t=true
instance (outs:List (Rz×Int)) (st kd:Int) (t:Th):Decidable (mz outs st kd t):=inferInstanceAs (Decidable (_/\_))
inductive d2 (K:Ri) (C:Rk) (vs:List V) (H:Hp) (Q:VK) (E:XK):Prop
 | mk (oa pa:Rk) (Ap:List Rk) (outs:List (Rz×Int)) (t:Th) (st kd:Int) (Aq:vs=[.ref oa,.ref pa,.int st,.int kd]) (Ar:SqT K H oa (Ap.map V.ref)) (AB:KsAt H outs Ap) (AQ:At H t pa) (Bq:t.size<=100000) (Cb:(mz outs st kd t->∀ H',L2.Same H H'->Q .non H')) (DF:(¬ mz outs st kd t->∀ H',L2.Same H H'->E (.ref C) none H')):d2 K C vs H Q E
def jg (K:Ri) (C:Rk):Sp:=d2 K C
theorem d9:FnOk P w K mg base (CX1 P w) 5 T.g_check_pattern.f T.g_check_pattern.d ["outs","pattern","states","kids"] (jg K T.e_NoBook):=by
 refine T.g_check_pattern.F.ok1 jM (fun vs H Q E h=>?_) (fun Al A outer s H vs Q E hr h=>?_)
 · obtain ⟨oa,pa,Ap,outs,t,st,kd,rfl,_⟩:=h;rfl
 obtain ⟨oa,pa,Ap,outs,t,st,kd,rfl,hS,A8,hA,Az,q1,q2⟩:=h
 refine ⟨_,(af (aN (cG (ba (pcF T.g_is_small (pV T) hr (aa (pv 1) ae)) (fun _=>rfl))) (ai (bF T.X_NoBook T.x_NoBook ax)) aE)
  (ai (aN (cG (ba (pcF T.g_fits_pattern (kj T) hr (aa (pv 0) (aa (pv 1) (aa (pv 2) (aa (pv 3) ae))))) (fun _=>rfl))) (ai (bF T.X_NoBook T.x_NoBook ax)) aE))),?_⟩
 try dsimp only [AN,Aj]
 refine ⟨_,rfl,pa,t,rfl,hA,Az,fun H1 s1=>⟨_,rfl,?_⟩⟩;by_cases c1:Small t
 · rw [decide_eq_true c1];refine bL ?_;refine ⟨_,rfl,_,rfl,_,rfl,_,rfl,oa,pa,Ap,outs,t,st,kd,rfl,s1.seqT hS,A8.mono (Same.kt s1),hA.mono (Same.kt s1),Az,fun H2 s2=>⟨_,rfl,?_⟩⟩;cases c2:fpb outs st kd t with
   | true=>exact bL (q1 ⟨c1,c2⟩ H2 (s1.trans s2))
   | false=>exact bC (q2 (fun z=>by rw [z.2] at c2;cases c2) H2 (s1.trans s2))
 · rw [decide_eq_false c1];exact bC (q2 (fun z=>c1 z.1) H1 s1)
def kM (ins outs:List (Rz×Int)) (st:Int) (row:List Th):Prop:=row.length=ins.length/\∀ (j:Nat) (t:Th) (k:Rz×Int),row[j]?=some t->ins[j]?=some k->mz outs st k.2 t
inductive eX (K:Ri) (C:Rk) (vs:List V) (H:Hp) (Q:VK) (E:XK):Prop
 | mk (ia oa ra:Rk) (AD Ap Ag:List Rk) (ins outs:List (Rz×Int)) (row:List Th) (st:Int) (Aq:vs=[.ref ia,.ref oa,.ref ra,.int st]) (Ar:SqT K H ia (AD.map V.ref)) (AB:KsAt H ins AD) (AQ:SqT K H oa (Ap.map V.ref)) (Bq:KsAt H outs Ap) (Cb:H ra=some (.tup (Ag.map V.ref))) (DF:Ats H row Ag) (FQ:(∀ t∈row,t.size<=100000)) (IK:(kM ins outs st row->∀ H',L2.Same H H'->Q .non H')) (IL:(¬ kM ins outs st row->∀ H',L2.Same H H'->E (.ref C) none H')):eX K C vs H Q E
def kh (K:Ri) (C:Rk):Sp:=eX K C
theorem kz:FnOk P w K mg base (CX1 P w) 6 T.g_check_state.f T.g_check_state.d ["ins","outs","patterns","states"] (kh K T.e_NoBook):=by
 refine T.g_check_state.F.ok1 dM (fun vs H Q E h=>?_) (fun Al A outer s H vs Q E hr h=>?_)
 · obtain ⟨ia,oa,ra,AD,Ap,Ag,ins,outs,row,st,rfl,_⟩:=h;rfl
 obtain ⟨ia,oa,ra,AD,Ap,Ag,ins,outs,row,st,rfl,hI,B',hO,CV,er,Ae,Az,q1,q2⟩:=h
 refine ⟨_,(af (aN (au eV (aq am rfl T.n_len RQ (aa (pv 2) ae)) (aq am rfl T.n_len RQ (aa (pv 0) ae)) (ay _)) (ai (bF T.X_NoBook T.x_NoBook ax)) aE)
  (ai (cf VJ rfl (yD rfl T.n_zip (aa (pv 0) (aa (pv 2) ae))) (jm rfl (bK (aD (i:=4) dM.nd rfl (RH rfl)) (bK (aD (i:=5) dM.nd rfl (RH rfl)) fk))) (ai (bq (bc (d9 T) (hr.mono (by first | decide | omega)) rfl T.g_check_pattern.m T.g_check_pattern.F.kp T.g_check_pattern.b .nil cI (aa (pv 1) (aa (pv 5) (aa (pv 3) (aa (aA aM (pv 4) ag (fun _ _=>rfl)) ae)))))))))),?_⟩
 try dsimp only [AN,Aj]
 have BS:ins.length=AD.length:=R3 B';have BZ:Ag.length=row.length:=Ae.length;refine ⟨_,rfl,ra,_,rfl,.inr (SqT.of er),_,rfl,ia,_,rfl,.inr hI,rfl,_,rfl,?_⟩;refine cr (fun c=>?_) (fun c=>?_)
 · refine q2 (fun z=>?_) H (.refl _)
   have hz:((Ag.map V.ref).length:Int)=((AD.map V.ref).length:Int):=by
    rw [Rf,Rf];have:=z.1;omega
   rw [hz] at c;simp at c
 · have hlen:row.length=ins.length:=by
    by_cases z:V.int ((Ag.map V.ref).length:Int)=V.int ((AD.map V.ref).length:Int)
    · have z':=V.int.inj z;rw [Rf,Rf] at z';omega
    · exact absurd (by simpa using z) c
   refine ⟨_,rfl,_,rfl,ia,ra,rfl,⟨_,hI⟩,⟨_,SqT.of er⟩,?_⟩
   refine ye ins.length (fun j σ H7=>Ex2 fun c4 c5=>An3 (σ=[some (.ref ia),some (.ref oa),some (.ref ra),some (.int st),c4,c5]) (L2.Same H H7) (∀ (j':Nat) (t:Th) (k:Rz×Int),j'<j->row[j']?=some t->ins[j']?=some k->mz outs st k.2 t))
    ⟨none,none,rfl,.refl _,fun j' t k h=>absurd h (Nat.not_lt_zero _)⟩ (fun j σ H7 hj ⟨_,_,_,s7,_⟩=>⟨_,_,_,_,s7.seqT hI,SqT.of (s7 _ _ er),Rg (by rw [Rf];omega),Rg (by rw [Rf];omega)⟩) (fun σ H7 ⟨_,_,_,s7,_⟩=>⟨_,_,s7.seqT hI,SqT.of (s7 _ _ er),.inl (by rw [Rf];omega)⟩) ?_ ?_
   · rintro j x σ H7 H8 hj ⟨c4,c5,rfl,s7,Ai⟩ ⟨p2,x1,y1,Kt,rfl,rfl,L6,Ke⟩;refine hid fun ZZ kZ=>?_;obtain ⟨ka,rfl,Bm⟩:=bY (L6 _ (s7.seqT hI));obtain ⟨ta,rfl,Fo⟩:=bY (Ke _ (SqT.of (s7 _ _ er)));obtain ⟨k,hk,ek⟩:=P2.get' B' Bm;obtain ⟨t,ht,AW⟩:=Ae.get Fo;refine kZ ?_;have s8:L2.Same H7 (upd H7 p2 (.tup [.ref ka,.ref ta])):=ad Kt _;have e8:(upd H7 p2 (.tup [.ref ka,.ref ta])) p2=some (.tup [.ref ka,.ref ta]):=ac;generalize (upd H7 p2 (.tup [.ref ka,.ref ta]))=H8 at s8 e8 ⊢;have F1:=s7.trans s8;refine ⟨p2,_,rfl,SqT.of e8,rfl,_,_,rfl,_,_,rfl,rfl,?_⟩;refine ⟨_,rfl,_,rfl,_,rfl,_,rfl,ka,_,1,_,rfl,rfl,SqT.of (F1 _ _ ek),at1,oa,ta,Ap,outs,t,st,k.2,rfl,F1.seqT hO,CV.mono (Same.kt F1),AW.mono (Same.kt F1),Az t (Ru ht),fun hok H9 s9=>?_,fun AF H9 s9=>?_⟩
     · refine ⟨_,_,rfl,F1.trans s9,fun j' t' k' EN CW BP=>?_⟩;by_cases hz:j'<j
       · exact Ai j' t' k' hz CW BP
       · have:j'=j:=by omega
         subst this;rw [ht] at CW;cases CW;rw [hk] at BP;cases BP;exact hok
     · exact q2 (fun z=>AF (z.2 j t k ht hk)) H9 (F1.trans s9)
   · rintro σ H7 ⟨c4,c5,rfl,s7,Ai⟩;exact q1 ⟨hlen,fun j t k ht hk=>Ai j t k (Rv.mp hk).1 ht hk⟩ H7 s7
def SRow (H:Hp) (row:List Th) (a:Rk):Prop:=∃ Ag:List Rk,(H a=some (.lst (Ag.map V.ref))∨H a=some (.tup (Ag.map V.ref)))/\Ats H row Ag
theorem SRow.mono {H H':Hp} (s:L2.Same H H') {row:List Th} {a:Rk} (h:SRow H row a):SRow H' row a:=by
 obtain ⟨Ag,h1,h2⟩:=h;exact ⟨Ag,h1.imp (s _ _) (s _ _),h2.mono (Same.kt s)⟩
def SRows (H:Hp) (rows:List (List Th)) (a:Rk) (AS:List Rk):Prop:=(H a=some (.lst (AS.map V.ref))∨H a=some (.tup (AS.map V.ref)))/\So (SRow H) rows AS
theorem SRows.mono {H H':Hp} (s:L2.Same H H') {rows:List (List Th)} {a:Rk} {AS:List Rk} (h:SRows H rows a AS):SRows H' rows a AS:=⟨h.1.imp (s _ _) (s _ _),P2.mp (fun _ _ e=>e.mono s) h.2⟩
def ig (ins outs:List (Rz×Int)) (head:Th) (rows:List (List Th)):Prop:=rows.length<=20/\mz outs (rows.length:Nat) 1 head/\∀ row∈rows,kM ins outs (rows.length:Nat) row
inductive fY (K:Ri) (CN CB:Rk) (vs:List V) (H:Hp) (Q:VK) (E:XK):Prop
 | mk (ia oa ha ru:Rk) (AD Ap AS:List Rk) (ins outs:List (Rz×Int)) (head:Th) (rows:List (List Th)) (Aq:vs=[.ref ia,.ref oa,.ref ha,.ref ru]) (Ar:jG K H ins ia AD) (AB:jG K H outs oa Ap) (AQ:At H head ha) (Bq:head.size<=100000) (Cb:SRows H rows ru AS) (DF:rows.length<=1000) (FQ:(∀ row∈rows,∀ t∈row,t.size<=100000)) (IK:(aV ins=true->aV outs=true->ig ins outs head rows->∀ (r:Rk) (H':Hp),L2.Same H H'->Bk H' ins outs head rows r->Q (.ref r) H')) (IL:(¬ (aV ins=true/\aV outs=true)->∀ H',L2.Same H H'->E (.ref CN) none H')) (Fp:(aV ins=true->aV outs=true->¬ ig ins outs head rows->∀ H',L2.Same H H'->E (.ref CB) none H')):fY K CN CB vs H Q E
def mT (K:Ri) (CN CB:Rk):Sp:=fY K CN CB
theorem qv {σ:St} {H:Hp} {rows:List (List Th)} {ru:Rk} {AS:List Rk} {fin:Rk->Hp->Prop} (h:SRows H rows ru AS) (hn:rows.length<=1000) (hq:∀ D H' bs,L2.Same H H'->H' D=some (.lst (bs.map V.ref))->So (RowAt H') rows bs->fin D H') :
 ((∃ xs,SqL K H ru xs)/\∀ D,H D=none->∃ (n:Nat) (W:Nat->Hp->Prop),W 0 (upd H D (.lst []))/\du [none] (aC 0) bM (tCB (fun xs H Q=>∃ p ys,xs=[.ref p]/\((SqL K H p ys/\∀ l,H l=none->Q (.ref l) (upd H l (.tup ys)))∨(SqT K H p ys/\Q (.ref p) H))) (bJ (cj 0) dP)) σ (Itl K ru) D n W fun H'=>fin D H') ∨
 ((∃ xs,SqT K H ru xs)/\∀ D,H D=none->∃ (n:Nat) (W:Nat->Hp->Prop),W 0 (upd H D (.lst []))/\du [none] (aC 0) bM (tCB (fun xs H Q=>∃ p ys,xs=[.ref p]/\((SqL K H p ys/\∀ l,H l=none->Q (.ref l) (upd H l (.tup ys)))∨(SqT K H p ys/\Q (.ref p) H))) (bJ (cj 0) dP)) σ (Itt K ru) D n W fun H'=>fin D H'):=by
 obtain ⟨hS,AK⟩:=h;have Cs:rows.length=AS.length:=R3 AK
 have step:∀ (i:Nat) (x:V) (z:List Th) (H2:Hp) (R:VK) (W':Hp->Prop),(AS.map V.ref)[i]?=some x->rows[i]?=some z->L2.Same H H2->(∀ H3 p,L2.Same H2 H3->RowAt H3 z p->R (.ref p) H3) →
  aC 0 x (cσ [none] σ) H2 fun Ay H3=>bM Ay H3 fun b H4=>if b=true then (tCB (fun xs H Q=>∃ p ys,xs=[.ref p]/\((SqL K H p ys/\∀ l,H l=none->Q (.ref l) (upd H l (.tup ys)))∨(SqT K H p ys/\Q (.ref p) H))) (bJ (cj 0) dP)) Ay H4 R else W' H4:=by
  intro i x z H2 R W' hx hz s2 hR;obtain ⟨la,rfl,BD⟩:=bY hx;obtain ⟨Bu,Bn,hl⟩:=P2.get' AK BD;rw [hz] at Bn;cases Bn;obtain ⟨Ag,e1,h1⟩:=hl.mono s2;rcases e1 with e1 | e1
  · exact ⟨_,rfl,la,_,rfl,.inl ⟨SqL.of e1,fun l CO=>hR _ l (ad CO _) ⟨Ag,ac,h1.mono (Same.kt (ad CO _))⟩⟩⟩
  · exact ⟨_,rfl,la,_,rfl,.inr ⟨SqT.of e1,hR _ la (.refl _) ⟨Ag,e1,h1⟩⟩⟩
 rcases hS with hS | hS
 · exact .inl ⟨⟨_,SqL.of hS⟩,kJ (F:=RowAt) (xs:=AS.map V.ref) rows (fun H1 H2 z p kt h=>h.mono kt) (by rw [Rf];omega) (by rw [Rf];omega) (fun i Hx sx hi=>⟨_,_,SqL.of (sx _ _ hS),Rg hi⟩) (fun Hx sx=>⟨_,SqL.of (sx _ _ hS),Rq _⟩) (fun i Hx x Hy sx hi hy=>⟨hy.1,hy.2 _ (SqL.of (sx _ _ hS))⟩) step fun D H3 bs hD s3 eD En=>hq D H3 bs s3 eD En⟩
 · exact .inr ⟨⟨_,SqT.of hS⟩,kJ (F:=RowAt) (xs:=AS.map V.ref) rows (fun H1 H2 z p kt h=>h.mono kt) (by rw [Rf];omega) (by rw [Rf];omega) (fun i Hx sx hi=>⟨_,_,SqT.of (sx _ _ hS),Rg hi⟩) (fun Hx sx=>⟨_,SqT.of (sx _ _ hS),Rq _⟩) (fun i Hx x Hy sx hi hy=>⟨hy.1,hy.2 _ (SqT.of (sx _ _ hS))⟩) step fun D H3 bs hD s3 eD En=>hq D H3 bs s3 eD En⟩
set_option maxHeartbeats 2000000 in
theorem mV:FnOk P w K mg base (CX1 P w) 7 T.g_made_book.f T.g_made_book.d ["ins","outs","head","rules"] (mT K T.e_NoKinds T.e_NoBook):=by
 refine T.g_made_book.F.ok1 cN (fun vs H Q E h=>?_) (fun Al A outer s H vs Q E hr h=>?_)
 · obtain ⟨ia,oa,ha,ru,AD,Ap,AS,ins,outs,head,rows,rfl,_⟩:=h;rfl
 obtain ⟨ia,oa,ha,ru,AD,Ap,AS,ins,outs,head,rows,rfl,hI,hO,hd,Pd,AK,Fq,Ku,q1,qk,q2⟩:=h
 refine ⟨_,(af (ao (i:=4) cN.nd rfl (RH rfl) (bc (jc T) (hr.mono (by first | decide | omega)) rfl T.g_kinds_of.m T.g_kinds_of.F.kp T.g_kinds_of.b .nil cI (aa (pv 0) ae)))
  (af (ao (i:=5) cN.nd rfl (RH rfl) (bc (jc T) (hr.mono (by first | decide | omega)) rfl T.g_kinds_of.m T.g_kinds_of.F.kp T.g_kinds_of.b .nil cI (aa (pv 1) ae)))
  (af (ao (i:=6) cN.nd rfl (RH rfl) (bz bI rfl T.n_tuple SD (aa (cC (N:=[Rc "patterns"]) (js:=[none]) (g:=(aC 0)) (tt:=bM) (te:=(tCB (fun xs H Q=>∃ p ys,xs=[.ref p]/\((SqL K H p ys/\∀ l,H l=none->Q (.ref l) (upd H l (.tup ys)))∨(SqT K H p ys/\Q (.ref p) H))) (bJ (cj 0) dP))) rfl (dz rfl (by decide +kernel) (by decide +kernel) rfl rfl rfl) (uv (pv 3)) (fun _ _ _ _ _ _=>(aD (i:=0) aam rfl (RH rfl))) (bX rfl) (fun _ _ _ _ _ _=>cP) (fun _ _ _ _ _ _=>(bz bI rfl T.n_tuple SD (aa (pv 0) ae)))) ae)))
  (af (aN (au su (aq am rfl T.n_len RQ (aa (pv 6) ae)) (bW (v:=.int (20)) rfl T.c_MOST_STATES.choose_spec ⟨_,rfl⟩) (ay _)) (ai (bF T.X_NoBook T.x_NoBook ax)) aE)
  (af (bq (bc (d9 T) (hr.mono (by first | decide | omega)) rfl T.g_check_pattern.m T.g_check_pattern.F.kp T.g_check_pattern.b .nil cI (aa (pv 5) (aa (pv 2) (aa (aq am rfl T.n_len RQ (aa (pv 6) ae)) (aa ag ae))))))
  (af (cf VJ rfl (eL (pv 6)) (aD (i:=7) cN.nd rfl (RH rfl)) (ai (bq (bc (kz T) (hr.mono (by first | decide | omega)) rfl T.g_check_state.m T.g_check_state.F.kp T.g_check_state.b .nil cI (aa (pv 4) (aa (pv 5) (aa (pv 7) (aa (aq am rfl T.n_len RQ (aa (pv 6) ae)) ae))))))))
  (ai (av (ce (aa (pv 4) (aa (pv 5) (aa (pv 2) (aa (pv 6) ae))))))))))))),?_⟩
 try dsimp only [AN,Aj]
 refine hid fun ZZ kZ=>?_;obtain ⟨Pe,B',Pf,Pg⟩:=hI;obtain ⟨Ph,CV,Pj,Pk⟩:=hO;refine kZ ?_;refine ⟨_,rfl,ia,AD,ins,rfl,⟨Pe,B',Pf,Pg⟩,fun gi ti H1 s1 ei=>?_,fun gi H1 s1=>qk (fun z=>by rw [z.1] at gi;cases gi) H1 s1⟩;refine ⟨_,rfl,oa,Ap,outs,rfl,⟨?_,CV.mono (Same.kt s1),Pj,Pk⟩,fun go to H2 s2 eo=>?_,fun go H2 s2=>qk (fun z=>by rw [z.2] at go;cases go) H2 (s1.trans s2)⟩
 · rcases Ph with h | h
   · exact .inl (s1.seq h)
   · exact .inr (s1.seqT h)
 have B3:=s1.trans s2;replace q1:=q1 gi go;replace q2:=q2 gi go;refine ⟨_,rfl,ru,rfl,qv (AK.mono B3) Fq fun D H3 bs s3 eD En=>?_⟩;have B8:rows.length=bs.length:=R3 En;refine ⟨D,_,rfl,.inl ⟨SqL.of eD,fun rt Pl=>?_⟩⟩;have s4:L2.Same H3 (upd H3 rt (.tup (bs.map V.ref))):=ad Pl _;have e4:(upd H3 rt (.tup (bs.map V.ref))) rt=some (.tup (bs.map V.ref)):=ac;generalize (upd H3 rt (.tup (bs.map V.ref)))=H4 at s4 e4 ⊢;have Kv:=s3.trans s4;have Fs:=B3.trans Kv;have MF:So (RowAt H4) rows bs:=P2.mp (fun _ _ e=>e.mono (Same.kt s4)) En;have Hc:((bs.map V.ref).length:Int)=(rows.length:Nat):=by rw [Rf,B8]
 refine ⟨_,rfl,rt,_,rfl,.inr (SqT.of e4),_,_,rfl,rfl,_,rfl,?_⟩;rw [Hc];refine cr (fun c=>?_) (fun c=>?_)
 · refine q2 (fun z=>?_) H4 Fs;have:=of_decide_eq_true c;have:=z.1;omega
 have MG:rows.length<=20:=by
  by_cases z:((rows.length:Nat):Int) > 20
  · exact absurd (decide_eq_true z) c
  · omega
 have Kw:=Kv _ _ eo;have MH:=(s2.trans Kv) _ _ ei;refine ⟨_,rfl,_,rfl,_,rfl,rt,_,rfl,.inr (SqT.of e4),to,ha,Ap,outs,head,_,1,rfl,SqT.of Kw,CV.mono (Same.kt Fs),hd.mono (Same.kt Fs),Pd,?_,?_⟩
 · rw [Hc];intro hok H5 s5;dsimp only [uL];have QZ:=Fs.trans s5;refine ⟨_,rfl,rt,rfl,⟨_,SqT.of (s5 _ _ e4)⟩,?_⟩
   refine oO (K:=K) (a:=rt) (xs:=bs.map V.ref) (fun i σ H6=>Ex1 fun c7=>An3 (σ=[some (.ref ia),some (.ref oa),some (.ref ha),some (.ref ru),some (.ref ti),some (.ref to),some (.ref rt),c7]) (L2.Same H4 H6) (∀ row∈rows.take i,kM ins outs (rows.length:Nat) row))
    ⟨none,rfl,s5,fun row h=>by rw [Uj] at h;cases h⟩ (fun i σ H6 _ ⟨_,_,s6,_⟩=>SqT.of (s6 _ _ e4)) ?_ ?_
   · rintro i x σ H6 hx ⟨c7,rfl,s6,Ai⟩;refine hid fun ZZ kZ=>?_;obtain ⟨ra,rfl,F2⟩:=bY hx;obtain ⟨row,Ae,Ag,er,AW⟩:=P2.get' MF F2;refine kZ ?_;have IM:=Ru Ae;have Kx:=Fs.trans s6;refine ⟨_,rfl,_,rfl,_,rfl,_,rfl,rt,_,rfl,.inr (SqT.of (s6 _ _ e4)),ti,to,ra,AD,Ap,Ag,ins,outs,row,_,rfl,SqT.of (s6 _ _ MH),B'.mono (Same.kt Kx),SqT.of (s6 _ _ Kw),CV.mono (Same.kt Kx),s6 _ _ er,AW.mono (Same.kt s6),Ku row IM,?_,?_⟩
     · rw [Hc];intro AE H7 s7;refine ⟨_,rfl,s6.trans s7,fun r' Bp=>?_⟩;rw [take_snoc Ae] at Bp;rcases RN.mp Bp with Bp | Bp
       · exact Ai r' Bp
       · rw [RO.mp Bp];exact AE
     · rw [Hc];intro AE H7 s7;exact q2 (fun z=>AE (z.2.2 row IM)) H7 (Kx.trans s7)
   · rintro σ H6 ⟨c7,rfl,s6,Ai⟩;rw [Sd (by rw [Rf];omega)] at Ai;refine ⟨_,rfl,_,rfl,_,rfl,_,rfl,aj (by show 4<=1000000;decide),fun r Bp=>?_⟩;have s7:=s6.trans (ad Bp (.tup [.ref ti,.ref to,.ref ha,.ref rt]));have IP:=Fs.trans s7;exact q1 ⟨MG,hok,Ai⟩ r _ IP ⟨ti,to,ha,rt,AD,Ap,bs,ac,s7 _ _ MH,B'.mono (Same.kt IP),s7 _ _ Kw,CV.mono (Same.kt IP),hd.mono (Same.kt IP),s7 _ _ e4,P2.mp (fun _ _ e=>e.mono (Same.kt s7)) MF⟩
 · rw [Hc];intro hok H5 s5;exact q2 (fun z=>hok z.2.1) H5 (Fs.trans s5)
def pH:Sp:=fun vs H Q _=>∃ z:Rz,vs=[.str z]/\z.length<=20000/\∀ (r:Rk) (H':Hp),L2.Same H H'->H r=none->H' r=some (.lst ((BB.wordsOf z).map V.str))->Q (.ref r) H'
theorem iO (c:Nat) (z:List Nat) (hz:z.length=3) (l:List Nat):(dQ c z l).length<=3 * l.length:=by
 unfold dQ;induction l with
 | nil=>simp
 | cons d l ih =>
   rw [T4,Rm,Rh];split
   · omega
   · show 1+_<=_;omega
theorem dE (l:List Nat):(ofL l).length=l.length:=by unfold ofL;show l.toArray.size=l.length;simp
theorem qd (l:List (List Nat)):(l.map ofL).filter (fun x=>!decide (V.str x=V.str (Rc "")))=(l.filter fun p=>!p.isEmpty).map ofL:=by
 induction l with
 | nil=>rfl
 | cons p l ih =>
   rw [RB,U7,U7,ih];cases p with
   | nil=>rfl
   | cons d p =>
     have:decide (V.str (ofL (d::p))=V.str (Rc ""))=false:=decide_eq_false fun z=>by
      have h1:=congrArg (fun w:Rz=>w.cps.toList) (V.str.inj z);rw [show (ofL (d::p)).cps.toList=d::p from aB _] at h1;cases h1
     rw [this];rfl
set_option maxHeartbeats 1000000 in
theorem qi:FnOk P w K mg base CX0 1 T.g_words_of.f T.g_words_of.d ["text"] pH:=by
 refine T.g_words_of.F.ok gp (fun vs H Q E h=>?_) (fun Al A outer s H vs Q E hr h=>?_)
 · obtain ⟨z,rfl,_⟩:=h;rfl
 obtain ⟨z,rfl,hz,q⟩:=h
 refine ⟨_,(af (ao (i:=1) gp.nd rfl (RH rfl) (pv 0))
  (af (wA Sz rfl (by decide +kernel) (yg (i:=2) (j:=1) gp.nd rfl rfl (by decide) rfl rfl))
  (ai (av (cC (N:=[Rc "word"]) (js:=[none]) (g:=(aC 0)) (tt:=(lz (tOp (rNe) (cj 0) (tC (.str (Rc "")))))) (te:=(cj 0)) rfl (dz rfl (by decide +kernel) (by decide +kernel) rfl rfl rfl) (gE (cb Sr Vs Vr iW (pv 1) (aa ax ae))) (fun _ _ _ _ _ _=>(aD (i:=0) xZ rfl (RH rfl))) (bX rfl) (fun _ _ _ _ _ _=>iM (au eV (pv 0) ax (ay _))) (fun _ _ _ _ _ _=>(pv 0))))))),?_⟩
 try dsimp only [AN,Aj]
 refine ⟨_,rfl,?_⟩;dsimp only [aC];have Ky:z.cps.toList.length=z.length:=RE;have l1:=iO 40 [32,40,32] rfl z.cps.toList;have l2:=iO 41 [32,41,32] rfl (dQ 40 [32,40,32] z.cps.toList);have l3:=iO 44 [32,44,32] rfl (dQ 41 [32,41,32] (dQ 40 [32,40,32] z.cps.toList));refine ⟨fun i σ H'=>An2 (H'=H) (((i=0/\σ=[some (.str z),some (.str z),none])∨(∃ c,i=1/\σ=[some (.str z),some (.str (ofL (dQ 40 [32,40,32] z.cps.toList))),c])∨(∃ c,i=2/\σ=[some (.str z),some (.str (ofL (dQ 41 [32,41,32] (dQ 40 [32,40,32] z.cps.toList)))),c])∨(∃ c,i=3/\σ=[some (.str z),some (.str (ofL (rep3 z.cps.toList))),c]))),⟨rfl,.inl ⟨rfl,rfl⟩⟩,?_⟩;rintro i σ H' ⟨rfl,⟨rfl,rfl⟩ | ⟨c,rfl,rfl⟩ | ⟨c,rfl,rfl⟩ | ⟨c,rfl,rfl⟩⟩
 · refine .inr ⟨40,rfl,z,40,rfl,rfl,by decide,by omega,rfl,.inr (.inl ⟨_,rfl,rfl⟩)⟩
 · refine .inr ⟨41,rfl,_,41,rfl,rfl,by decide,by rw [dE];omega,rfl,.inr (.inr (.inl ⟨_,rfl,by rw [aB];rfl⟩))⟩
 · refine .inr ⟨44,rfl,_,44,rfl,rfl,by decide,by rw [dE];omega,rfl,.inr (.inr (.inr ⟨_,rfl,by rw [aB];rfl⟩))⟩
 · refine .inl ⟨rfl,?_⟩;refine ⟨_,rfl,rfl,ofL (rep3 z.cps.toList),Rc " ",rfl,rfl,rfl,by rw [dE];unfold rep3;omega,fun p hp=>?_⟩
   have Ca:Ta (ofL (rep3 z.cps.toList)) (Rc " ")=(aw 32 (rep3 z.cps.toList)).map ofL:=by
    have h1:Rc " "=⟨#[32]⟩:=rfl;rw [h1,gy _ (by decide),aB]
   have Ft:(aw 32 (rep3 z.cps.toList)).length<=1000000:=by
    have hle:∀ l:List Nat,(aw 32 l).length<=l.length+1:=by
     intro l;induction l with
     | nil=>exact Rq _
     | cons d l ih =>
       rw [aw];obtain ⟨p,r,e⟩:=bQ 32 l;rw [e] at ih ⊢;rw [Rh] at ih;split
       · rw [Rh,Rh,Rh];omega
       · rw [Rh,Rh];omega
    have:=hle (rep3 z.cps.toList);unfold rep3 at this ⊢;omega
   have s1:L2.Same H' (upd H' p (.lst ((Ta (ofL (rep3 z.cps.toList)) (Rc " ")).map V.str))):=ad hp _;have e1:(upd H' p (.lst ((Ta (ofL (rep3 z.cps.toList)) (Rc " ")).map V.str))) p=some (.lst (((aw 32 (rep3 z.cps.toList)).map ofL).map V.str)):=by rw [ac,Ca]
   generalize (upd H' p (.lst ((Ta (ofL (rep3 z.cps.toList)) (Rc " ")).map V.str)))=H1 at s1 e1 ⊢;refine ⟨p,rfl,⟨_,SqL.of e1⟩,i3 ((aw 32 (rep3 z.cps.toList)).map ofL) (fun x=>!decide (V.str x=V.str (Rc ""))) V.str (SqL.of e1) (by rw [Rf,Rf,Rf]) (by rw [Rf,Rf];exact Ft) (fun i x y H2 R hx hy sm r=>?_) (fun i x y H2 R hx hy _ sm r=>?_) (fun D hD=>?_)⟩
   · rw [Rw,hy] at hx;cases hx;exact ⟨_,rfl,rfl,_,rfl,r⟩
   · rw [Rw,hy] at hx;cases hx;exact ⟨_,rfl,r⟩
   · rw [qd];exact q D _ (s1.trans (ad hD _)) (s1.free hD) ac
def km (C:Rk):Sp:=fun vs H Q E=>∃ z:Rz,vs=[.str z]/\z.length<=100000/\(∀ n:Int,jC z=some n->∀ H',L2.Same H H'->Q (.int n) H')/\(jC z=none->∀ H',L2.Same H H'->E (.ref C) none H')
def jq (c:Nat):Bool:=decide (48<=c) && decide (c<=57)
theorem dH {z:Rz}:isNum z=true↔(1<=z.length/\z.length<=3)/\((sL z).filter jq).length=z.length/\((sL z).head?=some 48->z=Rc "0"):=by
 unfold isNum;rw [R5,R5,Vj,decide_eq_true_iff,decide_eq_true_iff,decide_eq_true_iff,<- dW z,List.length_filter_eq_length_iff,Sl];have h0:z=Rc "0"↔sL z=[48]:=⟨fun e=>by rw [e];decide +kernel,fun e=>cn (by show sL z=_;rw [e];decide +kernel)⟩;rw [h0]
 have h1:(∀ x∈sL z,decide (48<=x/\x<=57)=true)↔∀ x∈sL z,jq x=true:=by
  refine forall_congr' fun x=>forall_congr' fun _=>?_;unfold jq;rw [R5,decide_eq_true_iff,decide_eq_true_iff,decide_eq_true_iff]
 rw [h1,and_assoc];refine and_congr_right fun _=>and_congr_right fun _=>⟨fun h e=>h.elim (fun k=>absurd e k) id,fun h=>?_⟩;by_cases e:(sL z).head?=some 48
 · exact .inr (h e)
 · exact .inl e
set_option maxHeartbeats 1000000 in
theorem cD:FnOk P w K mg base (CX1 P w) 1 T.g_read_number.f T.g_read_number.d ["word"] (km T.e_NoText):=by
 refine T.g_read_number.F.ok1 gg (fun vs H Q E h=>?_) (fun Al A outer s H vs Q E hr h=>?_)
 · obtain ⟨z,rfl,_⟩:=h;rfl
 obtain ⟨z,rfl,Ky,q,qe⟩:=h
 refine ⟨_,(af (oV (i:=1) (N:=[Rc "sign"]) (js:=[none]) (g:=(aC 0)) (tt:=(lz (pd (uE) (uE) (tC (.str (Rc "0"))) (cj 0) (tC (.str (Rc "9")))))) (te:=(cj 0)) gg.nd rfl (RH rfl) rfl (dz rfl (by decide +kernel) (by decide +kernel) rfl rfl rfl) (v3 (pv 0)) (fun _ _ _ _ _ _=>(aD (i:=0) zg rfl (RH rfl))) (bX rfl) (fun _ _ _ _ _ _=>iM (i7 gx gx ax (pv 0) ax)) (fun _ _ _ _ _ _=>(pv 0)))
  (af (aN (PW.pt (eR (cG (i7 hV hV ag (aq fo rfl T.n_len RQ (aa (pv 0) ae)) (bW (v:=.int (3)) rfl T.c_MOST_FIGURES.choose_spec ⟨_,rfl⟩))) (eE (au eV (aq am rfl T.n_len RQ (aa (pv 1) ae)) (aq fo rfl T.n_len RQ (aa (pv 0) ae)) (ay _))))) (ai (bF T.X_NoText T.x_NoText ax)) aE)
  (af (aN (PW.pt (pc (au cq (aA oE (pv 0) ag (fun _ _=>rfl)) ax (ay _)) (kL (au eV (pv 0) ax (ay _))))) (ai (bF T.X_NoText T.x_NoText ax)) aE)
  (ai (av (bz t5 rfl T.n_int PyProof.Rows.boot_int (aa (pv 0) ae))))))),?_⟩
 try dsimp only [AN,Aj]
 have Az:z.cps.size=z.length:=rfl;have hb:¬ isNum z=true->∀ H',L2.Same H H'->E (.ref T.e_NoText) none H':=fun h=>qe (tq.mpr (S6.mpr h));refine ⟨_,rfl,z,rfl,oP (xs:=z.cps.toList.map fun c=>V.str ⟨#[c]⟩) z.cps.toList jq (fun c=>V.str ⟨#[c]⟩) (by rw [Rf]) (by rw [Rf,RE];omega) (fun i Hx sx hi=>by rw [Rf,RE] at hi;exact hi) (fun Hx sx=>by rw [Rf,RE];exact rfl) (fun i Hx x Hy sx hi hy=>?_) (fun i x c Hx R hx hc sx hR=>?_) (fun i x c Hx R hx hc _ sx hR=>?_) (fun D hD=>?_)⟩
 · obtain ⟨e,c,hc,rfl⟩:=hy;exact ⟨e,by rw [Rw,UT,hc];rfl⟩
 · rw [Rw,hc] at hx;cases hx;refine ⟨_,rfl,_,_,rfl,rfl,_,rfl,?_⟩;rw [show (Rc "0").cps.toList=[48] by decide +kernel,n8 48 c];unfold jq at hR;cases c1:decide (48<=c) with
   | false=>rw [c1] at hR;exact bL ⟨_,rfl,hR⟩
   | true =>
     rw [c1] at hR;refine bC ⟨_,_,rfl,rfl,?_⟩;rw [show (Rc "9").cps.toList=[57] by decide +kernel,n8 c 57];exact ⟨_,rfl,hR⟩
 · rw [Rw,hc] at hx;cases hx;exact ⟨_,rfl,hR⟩
 have s1:L2.Same H (upd H D (.lst ((z.cps.toList.filter jq).map fun c=>V.str ⟨#[c]⟩))):=ad hD _;have e1:(upd H D (.lst ((z.cps.toList.filter jq).map fun c=>V.str ⟨#[c]⟩))) D=some (.lst ((z.cps.toList.filter jq).map fun c=>V.str ⟨#[c]⟩)):=ac;generalize (upd H D (.lst ((z.cps.toList.filter jq).map fun c=>V.str ⟨#[c]⟩)))=H1 at s1 e1 ⊢;dsimp only [aC];have FZ:(((z.cps.toList.filter jq).map fun c=>V.str ⟨#[c]⟩).length:Int)=(((sL z).filter jq).length:Nat):=by rw [Rf];rfl
 refine ⟨_,rfl,z,rfl,aj (by omega),_,_,rfl,rfl,_,rfl,?_⟩;by_cases c1:1<=z.length
 case neg =>
  rw [decide_eq_false (show ¬ (1:Int)<=((z.length:Nat):Int) by omega)];exact bL ⟨_,rfl,bC (hb (fun h=>c1 (dH.mp h).1.1) H1 s1)⟩
 rw [decide_eq_true (show (1:Int)<=((z.length:Nat):Int) by omega)];refine bC ⟨_,_,rfl,rfl,_,rfl,?_⟩;by_cases c2:z.length<=3
 case neg =>
  rw [decide_eq_false (show ¬ ((z.length:Nat):Int)<=3 by omega)];exact bC (hb (fun h=>c2 (dH.mp h).1.2) H1 s1)
 rw [decide_eq_true (show ((z.length:Nat):Int)<=3 by omega)];refine bL ?_;refine ⟨_,rfl,D,_,rfl,.inl (SqL.of e1),_,rfl,z,rfl,aj (by omega),rfl,_,rfl,?_⟩;rw [FZ];by_cases c3:((sL z).filter jq).length=z.length
 case neg =>
  rw [decide_eq_false (show ¬ V.int (((sL z).filter jq).length:Nat)=V.int (z.length:Nat) from fun e=>c3 (by have:=V.int.inj e;omega))];exact bC (hb (fun h=>c3 (dH.mp h).2.1) H1 s1)
 rw [c3,decide_eq_true rfl];refine bL ?_;dsimp only [dR]
 obtain ⟨c,l,Bo⟩:∃ c l,sL z=c::l:=by
  cases e:sL z with
  | nil=>rw [<- dW,e] at c1;exact absurd c1 (by decide)
  | cons c l=>exact ⟨c,l,rfl⟩
 refine ⟨_,rfl,z,0,c,rfl,rfl,aj (by omega),by rw [show z.cps.toList=c::l from Bo];exact at_nonneg (by decide) rfl,rfl,_,rfl,?_⟩
 have AR:isNum z=true->∃ n,WB z=some n/\Q (.int n) H1:=fun h=>by
  obtain ⟨m,hm,e⟩:=r9 h;have k:jC z=some ((m:Nat):Int):=bB.mpr ⟨e,by omega,by omega⟩;refine ⟨_,?_,q _ k H1 s1⟩;unfold jC at k;rw [if_pos h] at k;exact k
 have MI:(sL z).head?=some c:=by rw [Bo];rfl
 refine cr (fun c4=>?_) (fun c4=>?_)
 · have c':(⟨#[c]⟩:Rz)=Rc "0":=V.str.inj (of_decide_eq_true c4)
   have Kz:c=48:=by
    have:=congrArg (fun x:Rz=>x.cps.toList) c';rw [show (Rc "0").cps.toList=[48] by decide +kernel] at this;exact List.head_eq_of_cons_eq this
   refine ⟨_,rfl,rfl,_,rfl,?_⟩;by_cases c5:z=Rc "0"
   · rw [decide_eq_true (show V.str z=V.str (Rc "0") by rw [c5])];refine bL ?_;obtain ⟨n,hi,hq⟩:=AR (dH.mpr ⟨⟨c1,c2⟩,c3,fun _=>c5⟩);exact ⟨_,rfl,z,n,rfl,hi,by omega,hq⟩
   · rw [decide_eq_false (show ¬ V.str z=V.str (Rc "0") from fun e=>c5 (V.str.inj e))];exact bC (hb (fun h=>c5 ((dH.mp h).2.2 (by rw [MI,Kz]))) H1 s1)
 · have Kz:c≠48:=fun z=>c4 (decide_eq_true (by rw [z];exact congrArg V.str (by decide +kernel)));obtain ⟨n,hi,hq⟩:=AR (dH.mpr ⟨⟨c1,c2⟩,c3,fun e=>by rw [MI] at e;exact absurd (Ry e) Kz⟩);exact ⟨_,rfl,z,n,rfl,hi,by omega,hq⟩
def StV (H:Hp):Stp->V->Prop
 | .sg c,v=>v=.str c
 | .th t,v=>∃ a,v=.ref a/\At H t a
theorem StV.mono {H H':Hp} (k:KT H H'):∀ {x:Stp} {v:V},StV H x v->StV H' x v
 | .sg c,v,h=>h
 | .th t,v,⟨a,e,h⟩=>⟨a,e,h.mono k⟩
inductive fL (C:Rk) (vs:List V) (H:Hp) (Q:VK) (E:XK):Prop
 | mk (wl:Rk) (ws:List Rz) (Aq:vs=[.ref wl]) (Ar:H wl=some (.lst (ws.map V.str))) (AB:(∀ x∈ws,x.length<=100000)) (AQ:(∀ a b:Int,j7 ws=some (.th (.call a b))->∀ (r:Rk) (H':Hp),L2.Same H H'->At H' (.call a b) r->Q (.ref r) H')) (Bq:(j7 ws=none->∀ H',L2.Same H H'->E (.ref C) none H')):fL C vs H Q E
def mI (C:Rk):Sp:=fL C
inductive g8 (C:Rk) (vs:List V) (H:Hp) (Q:VK) (E:XK):Prop
 | mk (wl:Rk) (ws:List Rz) (Aq:vs=[.ref wl]) (Ar:H wl=some (.lst (ws.map V.str))) (AB:ws.length<=100000) (AQ:(∀ x∈ws,x.length<=100000)) (Bq:(∀ l:List Stp,ip ws=some l->∀ (r:Rk) (xs:List V) (H':Hp),L2.Same H H'->H' r=some (.lst xs)->So (StV H') l xs->Q (.ref r) H')) (Cb:(ip ws=none->∀ H',L2.Same H H'->E (.ref C) none H')):g8 C vs H Q E
def oQ (C:Rk):Sp:=g8 C
theorem in3 (c:Rz):inV (.str c) [.str (Rc "("),.str (Rc ","),.str (Rc ")")]=decide (pq c):=by
 have e:∀ d:Rz,eqV (.str d) (.str c)=decide (c=d):=fun d=>by
  show (d == c)=_;by_cases h:c=d
  · subst h;simp
  · rw [decide_eq_false h];exact beq_false_of_ne fun z=>h z.symm
 unfold inV;simp only [List.any_cons,List.any_nil,Bool.or_false,e];rw [<- Bool.decide_or,<- Bool.decide_or];rfl
def StX (H:Hp) (ws:List Rz) (wl sl:Rk) (m:Nat) (σ:St) (H2:Hp):Prop:=∃ (i n:Nat) (l:List Stp) (xs:List V),σ=[some (.ref wl),some (.ref sl),some (.int (i:Nat))]/\L2.Same H H2/\H2 sl=some (.lst xs)/\So (StV H2) l xs/\i<=ws.length/\l.length<=i/\m=ws.length - i/\(ws.drop i).length<=n/\ip ws=(b7 n (ws.drop i)).map (l++·)
def StY (H:Hp) (ws:List Rz) (wl sl:Rk) (i:Nat) (σ:St) (H2:Hp):Prop:=∃ m',m'<ws.length - i/\StX H ws wl sl m' σ H2
set_option maxHeartbeats 1000000 in
theorem mH:FnOk P w K mg base (CX1 P w) 2 T.g_read_call.f T.g_read_call.d ["words"] (mI T.e_NoText):=by
 refine T.g_read_call.F.ok1 nR (fun vs H Q E h=>?_) (fun Al A outer s H vs Q E hr h=>?_)
 · obtain ⟨wl,ws,rfl,_⟩:=h;rfl
 obtain ⟨wl,ws,rfl,e,hle,q,qe⟩:=h
 refine ⟨_,(af (aN (PW.pt (eR (au eV (aq am rfl T.n_len RQ (aa (pv 0) ae)) ag (ay _)) (eE (au eV (aA aJ (pv 0) ag (fun _ _=>rfl)) ax (ay _))))) (ai (bF T.X_NoText T.x_NoText ax)) aE)
  (ai (av (ce (aa (bW (v:=.str (Rc "?")) rfl T.c_CALL_SIGN.choose_spec ⟨_,rfl⟩) (aa (bc (cD T) (hr.mono (by first | decide | omega)) rfl T.g_read_number.m T.g_read_number.F.kp T.g_read_number.b .nil cI (aa (aA aJ (pv 0) ag (fun _ _=>rfl)) ae)) (aa (bc (cD T) (hr.mono (by first | decide | omega)) rfl T.g_read_number.m T.g_read_number.F.kp T.g_read_number.b .nil cI (aa (aA aJ (pv 0) ag (fun _ _=>rfl)) ae)) ae))))))),?_⟩
 try dsimp only [AN,Aj]
 refine ⟨_,rfl,wl,_,rfl,.inl (SqL.of e),rfl,_,rfl,?_⟩;by_cases c1:∃ x d y,ws=[x,d,y]
 case neg =>
  have AX:ws.length≠3:=fun z=>c1 (by
   match ws,z with
   | [x,d,y],_=>exact ⟨x,d,y,rfl⟩)
  rw [Rf,decide_eq_false (show ¬ V.int ((ws.length:Nat):Int)=V.int 3 from fun z=>AX (by have:=V.int.inj z;omega))];refine bC (qe ?_ H (.refl _))
  match ws,AX with
  | [],_=>rfl
  | [_],_=>rfl
  | [_,_],_=>rfl
  | [_,_,_],z=>exact absurd rfl z
  | _::_::_::_::_,_=>rfl
 obtain ⟨x,d,y,rfl⟩:=c1;refine bL ?_;refine ⟨_,rfl,wl,_,1,.str d,rfl,rfl,SqL.of e,at1,rfl,_,rfl,?_⟩;by_cases c2:d=dot
 case neg =>
  rw [decide_eq_false (show ¬ V.str d=V.str (Rc ".") from fun z=>c2 (V.str.inj z))];exact bC (qe (by rw [j7,if_neg c2]) H (.refl _))
 subst c2;rw [decide_eq_true (show V.str dot=V.str (Rc ".") from rfl)];refine bL ?_;dsimp only [dR];rw [j7,if_pos rfl] at q qe;refine ⟨_,rfl,wl,_,0,.str x,rfl,rfl,SqL.of e,at0,x,rfl,hle x (by simp),fun a ha H1 s1=>?_,fun ha H1 s1=>qe (by rw [ha]) H1 s1⟩;rw [ha] at q qe;refine ⟨_,rfl,wl,_,2,.str y,rfl,rfl,SqL.of (s1 _ _ e),at2,y,rfl,hle y (by simp),fun b hb H2 s2=>?_,fun hb H2 s2=>qe (by rw [hb]) H2 (s1.trans s2)⟩;rw [hb] at q;refine ⟨aj (by show 3<=1000000;decide),fun r Bp=>q a b rfl r _ (s1.trans (s2.trans (ad Bp _))) ?_⟩;rw [At];exact ac
set_option maxHeartbeats 2000000 in
theorem nS:FnOk P w K mg base (CX1 P w) 3 T.g_steps_of.f T.g_steps_of.d ["words"] (oQ T.e_NoText):=by
 refine T.g_steps_of.F.ok1 cK (fun vs H Q E h=>?_) (fun Al A outer s H vs Q E hr h=>?_)
 · obtain ⟨wl,ws,rfl,_⟩:=h;rfl
 obtain ⟨wl,ws,rfl,ew,hlen,hle,kq,ke⟩:=h
 refine ⟨_,(af (ao (i:=1) cK.nd rfl (RH rfl) (aW ae))
  (af (ao (i:=2) cK.nd rfl (RH rfl) ag)
  (af (lY VJ (au gq (pv 2) (aq am rfl T.n_len RQ (aa (pv 0) ae)) (ay _)) (ai (aN (au nE (aA aJ (pv 0) (pv 2) (fun _ _=>rfl)) (ce (aa ax (aa ax (aa ax ae)))) (by with_unfolding_all rfl)) (af (bq (cb RX R9 R8 bh (pv 1) (aa (aA aJ (pv 0) (pv 2) (fun _ _=>rfl)) ae)))
  (ai (qY (i:=2) cK.nd rfl (RH rfl) ag og))) (ai (aN (ba (pcF T.g_is_name (iw T) hr (aa (aA aJ (pv 0) (pv 2) (fun _ _=>rfl)) ae)) (fun _=>rfl)) (af (bq (cb RX R9 R8 bh (pv 1) (aa (ce (aa (aA aJ (pv 0) (pv 2) (fun _ _=>rfl)) ae)) ae)))
  (ai (qY (i:=2) cK.nd rfl (RH rfl) ag og))) (af (bq (cb RX R9 R8 bh (pv 1) (aa (bc (mH T) (hr.mono (by first | decide | omega)) rfl T.g_read_call.m T.g_read_call.F.kp T.g_read_call.b .nil cI (aa (aK bp (pv 0) (aO (pv 2)) (aO (ak aY (pv 2) ag))) ae)) ae)))
  (ai (qY (i:=2) cK.nd rfl (RH rfl) ag og))))))))
  (ai (av (pv 1)))))),?_⟩
 try dsimp only [AN,Aj]
 refine ⟨aj (by show 0<=1000000;decide),fun sl Dn=>?_⟩;have s1:L2.Same H (upd H sl (.lst [])):=ad Dn _;have e1:(upd H sl (.lst [])) sl=some (.lst []):=ac;generalize (upd H sl (.lst []))=H1 at s1 e1 ⊢;dsimp only [aC];refine ⟨StX H ws wl sl,⟨_,0,ws.length,[],[],rfl,s1,e1,.nil,Sk _,Rq _,rfl,by rw [Tt];exact Rq _,by rw [Tt];show b7 _ _=_;cases b7 ws.length ws <;> rfl⟩,?_⟩;rintro m σ H2 ⟨i,n,l,xs,rfl,s2,e2,IF,hi,Oh,rfl,hn,AE⟩;have F3:=s2 _ _ ew;have MJ:l.length=xs.length:=R3 IF;refine ⟨_,rfl,_,rfl,wl,_,rfl,.inl (SqL.of F3),_,_,rfl,rfl,_,rfl,?_⟩;by_cases BS:i<ws.length
 case neg =>
  have KA:i=ws.length:=by omega
  subst KA;rw [Wf] at AE;have h0:b7 n []=some []:=by cases n <;> rfl
  rw [h0] at AE;rw [Rf,decide_eq_false (fun z=>by omega)];exact bL ⟨_,rfl,kq l (AE.trans (by rw [Option.map_some,RP])) sl xs H2 s2 e2 IF⟩
 rw [Rf,decide_eq_true (show ((i:Nat):Int)<((ws.length:Nat):Int) by omega)];refine bC ⟨StY H ws wl sl i,fun f' H' h=>h,?_⟩;obtain ⟨w0,IQ⟩:∃ w0,ws[i]?=some w0:=⟨_,Rg BS⟩
 have DR:ws.drop i=w0::ws.drop (i+1):=by
  rw [SH BS];rw [Rg BS] at IQ;rw [Ry IQ]
 have C5:=hle w0 (Ru IQ);rw [DR] at hn AE;rw [Rh,RJ] at hn;obtain ⟨n,rfl⟩:∃ n',n=n'+1:=⟨n - 1,by omega⟩;rw [b7] at AE;have AW:atI (ws.map V.str) ((i:Nat):Int)=some (.str w0):=at_nonneg (by omega) (by rw [Tq,Rw,IQ];rfl);have MK:xs.length<=200000:=by omega
 have fin:∀ (x:Stp) (k:Nat) (v:V) (H3:Hp),0<k->i+k<=ws.length->ip ws=((b7 n (ws.drop (i+k))).map (x::·)).map (l++·)->L2.Same H2 H3->StV H3 x v->StY H ws wl sl i [some (.ref wl),some (.ref sl),some (.int (((i:Nat):Int)+((k:Nat):Int)))] (upd H3 sl (.lst (xs++[v]))):=fun x k v H3 CI hk hs s3 hv=>by
  have e3:=s3 _ _ e2;have k4:KT H3 (upd H3 sl (.lst (xs++[v]))):=bG e3;refine ⟨_,by omega,i+k,n,l++[x],xs++[v],by push_cast;rfl,aH (s2.trans s3) Dn,ac,?_,hk,by rw [Rm,Sg];omega,rfl,by rw [RJ];omega,?_⟩
  · exact P2.append (P2.mp (fun _ _ e=>StV.mono ((Same.kt s3).trans k4) e) IF) (.cons (StV.mono k4 hv) .nil)
  · rw [hs,Option.map_map];congr 1;funext r;show l++(x::r)=(l++[x])++r;rw [RM];rfl
 refine ⟨_,rfl,_,rfl,wl,_,_,.str w0,rfl,rfl,SqL.of F3,AW,aj (by show 3<=1000000;decide),fun tp EG=>?_⟩;have s3:L2.Same H2 (upd H2 tp (.tup [.str (Rc "("),.str (Rc ","),.str (Rc ")")])):=ad EG _;have e3:(upd H2 tp (.tup [.str (Rc "("),.str (Rc ","),.str (Rc ")")])) tp=some (.tup [.str (Rc "("),.str (Rc ","),.str (Rc ")")]):=ac;generalize (upd H2 tp (.tup [.str (Rc "("),.str (Rc ","),.str (Rc ")")]))=H3 at s3 e3 ⊢;refine ⟨tp,_,rfl,.inr (SqT.of e3),rfl,rfl,_,rfl,?_⟩;rw [if_neg RK,in3];by_cases c1:pq w0
 · rw [decide_eq_true c1];rw [if_pos c1] at AE;refine bC ?_;have ML:=s3 _ _ e2;refine ⟨_,rfl,.inl ⟨rfl,_,SqL.of ML⟩,_,rfl,_,rfl,wl,_,_,.str w0,rfl,rfl,SqL.of (s3 _ _ F3),AW,sl,_,_,rfl,rfl,ML,bn (by omega),?_⟩;exact ⟨_,rfl,_,_,rfl,rfl,fin (.sg w0) 1 _ H3 (by decide) BS AE s3 rfl⟩
 rw [decide_eq_false c1];rw [if_neg c1] at AE;refine bL ?_;refine ⟨_,rfl,_,rfl,wl,_,_,.str w0,rfl,rfl,SqL.of (s3 _ _ F3),AW,w0,rfl,by omega,fun H4 s4=>?_⟩;have Cc:=s3.trans s4;have IT:=Cc _ _ e2;by_cases c2:aS w0=true
 · rw [c2];rw [if_pos c2] at AE;refine ⟨_,rfl,bC ?_⟩;have Pm:w0≠q:=by rintro rfl;exact absurd c2 (by decide +kernel)
   refine ⟨_,rfl,.inl ⟨rfl,_,SqL.of IT⟩,_,rfl,_,rfl,wl,_,_,.str w0,rfl,rfl,SqL.of (Cc _ _ F3),AW,aj (by show 1<=1000000;decide),fun np Ct=>?_⟩;have s5:L2.Same H4 (upd H4 np (.tup [.str w0])):=ad Ct _;have e5:(upd H4 np (.tup [.str w0])) np=some (.tup [.str w0]):=ac;generalize (upd H4 np (.tup [.str w0]))=H5 at s5 e5 ⊢;have Pn:=s5 _ _ IT;refine ⟨sl,_,_,rfl,rfl,Pn,bn (by omega),?_⟩;refine ⟨_,rfl,_,_,rfl,rfl,fin (.th (.knot w0 [])) 1 _ H5 (by decide) BS AE (Cc.trans s5) ⟨np,rfl,?_⟩⟩;rw [At];exact ⟨Pm,[],e5,.nil⟩
 · rw [S6.mpr c2];rw [if_neg c2] at AE;refine ⟨_,rfl,bL ?_⟩;refine ⟨_,rfl,.inl ⟨rfl,_,SqL.of IT⟩,_,rfl,_,rfl,_,rfl,_,rfl,_,_,rfl,rfl,_,rfl,wl,_,rfl,SqL.of (Cc _ _ F3),fun cp Po=>?_⟩
   have KC:cB (ws.map V.str) (some ((i:Nat):Int)) (some (((i:Nat):Int)+3))=((w0::ws.drop (i+1)).take 3).map V.str:=by
    rw [<- DR];unfold cB;rw [show ((i:Nat):Int)+3=(((i+3:Nat)):Int) by push_cast;rfl,HT.sIx_nat,HT.sIx_nat,Rf,TL (show i<=ws.length by omega),<- UQ,<- UB];congr 1;by_cases hm:i+3<=ws.length
    · rw [TL hm,show i+3 - i=3 by omega]
    · rw [Nat.min_eq_right (by omega),Sd (by rw [RJ];exact Rq _),Sd (by rw [RJ];omega)]
   rw [KC];have s5:L2.Same H4 (upd H4 cp (.lst (((w0::ws.drop (i+1)).take 3).map V.str))):=ad Po _;have e5:(upd H4 cp (.lst (((w0::ws.drop (i+1)).take 3).map V.str))) cp=some (.lst (((w0::ws.drop (i+1)).take 3).map V.str)):=ac;generalize (upd H4 cp (.lst (((w0::ws.drop (i+1)).take 3).map V.str)))=H5 at s5 e5 ⊢;refine ⟨cp,_,rfl,e5,fun x hx=>hle x (by have:=SU hx;rw [<- DR] at this;exact Ti this),fun a b Fd r H6 s6 Pp=>?_,fun Fd H6 s6=>?_⟩
   · have h3:i+3<=ws.length:=by
      obtain ⟨_,_,_,_,hw⟩:=iC.mp Fd;have:=congrArg TB hw;rw [Rx,Rh,RJ] at this;have h3:min 3 (ws.length - (i+1)+1)=3:=this;omega
     rw [Fd] at AE;have Pq:=(s5.trans s6) _ _ IT;refine ⟨sl,_,_,rfl,rfl,Pq,bn (by omega),?_⟩;refine ⟨_,rfl,_,_,rfl,rfl,fin (.th (.call a b)) 3 _ H6 (by decide) h3 ?_ (Cc.trans (s5.trans s6)) ⟨r,rfl,Pp⟩⟩;rw [AE,List.drop_drop];rfl
   · rw [Fd] at AE;exact ke AE H6 (s2.trans (Cc.trans (s5.trans s6)))
def fol (b s:Stp) (d:Int):Bool:=match s with
 | .th _=>!ended b
 | .sg c=>if c=lpar then gH b && decide (d<100) else ended b && decide (0<d)
inductive kf (vs:List V) (H:Hp) (Q:VK) (_E:XK):Prop
 | mk (bv sv:V) (b s:Stp) (d:Int) (Aq:vs=[bv,sv,.int d]) (Ar:StV H b bv) (AB:StV H s sv) (AQ:Q (.bl (fol b s d)) H):kf  vs H Q _E
def rK:Sp:=kf
set_option maxHeartbeats 1000000 in
theorem sf:FnOk P w K mg base CX0 2 T.g_follows.f T.g_follows.d ["before","step","depth"] rK:=by
 refine T.g_follows.F.ok mF (fun vs H Q E h=>?_) (fun Al A outer s H vs Q E hr h=>?_)
 · obtain ⟨bv,sv,b,s,d,rfl,_⟩:=h;rfl
 obtain ⟨bv,sv,b,st,d,rfl,hb,hs,kq⟩:=h
 refine ⟨_,(af (ao (i:=3) mF.nd rfl (RH rfl) (zj (aq (dF (T:="tuple")) rfl T.n_isinstance Sm (aa (pv 0) (aa (fb (v:=.ty "tuple") rfl T.n_tuple SD rfl) ae))) (fZ (cy (jN (ir hr)) (pv 0) ax (ay _)))))
  (af (aN (ba (aq (dF (T:="tuple")) rfl T.n_isinstance Sm (aa (pv 1) (aa (fb (v:=.ty "tuple") rfl T.n_tuple SD rfl) ae))) (fun _=>rfl)) (ai (av (rg (pv 3)))) aE)
  (af (aN (au (jN (ir hr)) (pv 1) ax (ay _)) (ai (av (eH (aq (dF (T:="tuple")) rfl T.n_isinstance Sm (aa (pv 0) (aa (fb (v:=.ty "tuple") rfl T.n_tuple SD rfl) ae))) (eH (rg (pcF T.g_is_call (ij T) hr (aa (pv 0) ae))) (fZ (cy gq (pv 2) (bW (v:=.int (100)) rfl T.c_MOST_BRACKETS.choose_spec ⟨_,rfl⟩) (ay _))))))) aE)
  (ai (av (eH (pv 3) (fZ (cy su (pv 2) ag (ay _))))))))),?_⟩
 try dsimp only [AN,Aj]
 refine aG (fun f' H'=>An2 (H=H') (f'=[some bv,some sv,some (.int d),some (.bl (ended b))])) (fun kk hk=>?_) ?_
 · cases b with
   | sg c =>
     have BC:bv=.str c:=hb;subst BC;refine ⟨_,rfl,_,_,_,rfl,.str c,rb,?_⟩;refine ⟨_,rfl,bL ?_⟩;refine ⟨_,rfl,_,rfl,.inl ⟨c,rfl,?_⟩⟩;exact hk _ _ ⟨rfl,rfl⟩
   | th t =>
     obtain ⟨a,rfl,hA⟩:=hb;obtain ⟨n',r',h3⟩:=hA.tup;refine ⟨_,rfl,_,_,_,rfl,.tup h3,rR,?_⟩;exact ⟨_,rfl,bC (hk _ _ ⟨rfl,rfl⟩)⟩
 rintro f' H' ⟨rfl,rfl⟩;cases st with
 | th t =>
   obtain ⟨a,rfl,hA⟩:=hs;obtain ⟨n',r',h3⟩:=hA.tup;refine ⟨_,rfl,_,_,_,rfl,.tup h3,rR,_,rfl,bC ?_⟩;exact ⟨_,rfl,_,rfl,kq⟩
 | sg c =>
   have KD:sv=.str c:=hs;subst KD;refine ⟨_,rfl,_,_,_,rfl,.str c,rb,_,rfl,bL ?_⟩;dsimp only [dR];refine ⟨_,rfl,_,rfl,.inl ⟨c,rfl,_,rfl,?_⟩⟩;refine cr (fun c1=>?_) (fun c1=>?_)
   · have hc:c=lpar:=of_decide_eq_true c1
     have EO:Q (.bl (gH b && decide (d<100))) H:=by
      have:fol b (.sg c) d=(gH b && decide (d<100)):=if_pos hc;rw [this] at kq;exact kq
     cases b with
     | sg c2 =>
       have BC:bv=.str c2:=hb;subst BC;refine ⟨_,rfl,_,_,_,rfl,.str c2,rb,_,rfl,bL EO⟩
     | th t =>
       obtain ⟨a,rfl,hA⟩:=hb;obtain ⟨n',r',h3⟩:=hA.tup;refine ⟨_,rfl,_,_,_,rfl,.tup h3,rR,_,rfl,bC ?_⟩;refine ⟨_,rfl,a,t,rfl,hA,_,rfl,?_⟩;cases t with
       | call x y=>exact ⟨_,rfl,bL EO⟩
       | knot n ks=>exact ⟨_,rfl,bC ⟨_,rfl,_,_,rfl,rfl,EO⟩⟩
   · have hc:¬ c=lpar:=fun z=>c1 (decide_eq_true z)
     have EO:Q (.bl (ended b && decide (0<d))) H:=by
      have:fol b (.sg c) d=(ended b && decide (0<d)):=if_neg hc;rw [this] at kq;exact kq
     dsimp only [dR];refine ⟨_,rfl,_,rfl,?_⟩;refine cr (fun c2=>?_) (fun c2=>?_)
     · rw [c2,UC] at EO;exact ⟨_,rfl,_,_,rfl,rfl,EO⟩
     · rw [S6.mpr c2,WI] at EO;exact EO
def TpL (H:Hp) (x:Th×Int) (a:Rk):Prop:=∃ ta,H a=some (.lst [.ref ta,.int x.2])/\At H x.1 ta
theorem TpL.keep {H:Hp} {x:Th×Int} {b a:Rk} {o:HO} {xs:List V} (h:TpL H x b) (Am:b≠a) (ea:H a=some (.lst xs)):TpL (upd H a o) x b:=by
 obtain ⟨ta,h1,h2⟩:=h;exact ⟨ta,by rw [ar Am];exact h1,h2.mono (bG ea)⟩
theorem TpL.same {H H':Hp} (s:L2.Same H H') {x:Th×Int} {b:Rk} (h:TpL H x b):TpL H' x b:=by
 obtain ⟨ta,h1,h2⟩:=h;exact ⟨ta,s _ _ h1,h2.mono (Same.kt s)⟩
theorem gm {H:Hp} {a:Rk} {o:HO} {xs:List V} (ea:H a=some (.lst xs)):∀ {tops:List (Th×Int)} {Ag:List Rk},So (TpL H) tops Ag->a∉Ag->So (TpL (upd H a o)) tops Ag
 | _,_,.nil,_=>.nil
 | _,_,.cons h t,hn=>.cons (h.keep (fun z=>hn (by rw [z];exact Rr ..)) ea) (gm ea t fun z=>hn (Rp _ z))
theorem sH {H:Hp} {f:Int->Int} {a ta:Rk} {m:Int} (ea:H a=some (.lst [.ref ta,.int m])):∀ {tops:List (Th×Int)} {Ag:List Rk} {j:Nat},So (TpL H) tops Ag->Ag.Nodup->Ag[j]?=some a->So (TpL (upd H a (.lst [.ref ta,.int (f m)]))) (qo tops j f) Ag
 | _,_,j,.nil,_,h=>by cases h
 | x::tops,b::Ag,0,.cons h t,nd,e=>by
   have hb:b=a:=Ry e;subst hb;obtain ⟨MM,h1,h2⟩:=h;rw [ea] at h1;have h3:[V.ref ta,V.int m]=[V.ref MM,V.int x.2]:=by cases h1;rfl
   have h4:ta=MM:=by injection h3 with z _;exact V.ref.inj z
   have h5:m=x.2:=by injection h3 with _ z;injection z with z _;exact V.int.inj z
   subst h4;rw [h5] at ea ⊢;exact .cons ⟨ta,ac,h2.mono (bG ea)⟩ (gm ea t (Tv.mp nd).1)
 | x::tops,b::Ag,j+1,.cons h t,nd,e=>by
   have hm:a∈Ag:=Ru (by simpa using e);have Am:b≠a:=fun z=>(Tv.mp nd).1 (by rw [z];exact hm);have ih:=sH (f:=f) ea t (Tv.mp nd).2 (j:=j) (by simpa using e);exact .cons (h.keep Am ea) ih
structure TpI (H0:Hp) (sl tl wl:Rk) (S:PSt) (bv:V) (ws Ag:List Rk) (H:Hp):Prop where
 sm:L2.Same H0 H
 tl0:H0 tl=none
 wl0:H0 wl=none
 tw:tl≠wl
 et:H tl=some (.lst (Ag.map V.ref))
 ew:H wl=some (.lst (ws.map V.ref))
 win:So (fun j a=>Ag[j]?=some a) S.win ws
 tops:So (TpL H) S.tops Ag
 nd:Ag.Nodup
 tas0:∀ a∈Ag,H0 a=none
 tln:tl∉Ag
 wln:wl∉Ag
 bef:StV H S.bef bv
inductive iP (K:Ri) (C:Rk) (vs:List V) (H:Hp) (Q:VK) (E:XK):Prop
 | mk (sl:Rk) (xs:List V) (steps:List Stp) (Aq:vs=[.ref sl]) (Ar:H sl=some (.lst xs)) (AB:So (StV H) steps xs) (AQ:steps.length<=100000) (Bq:(∀ x∈steps,SOk x)) (Cb:(∀ F,jd steps=some F->∀ (r:Rk) (Ag:List Rk) (H':Hp),L2.Same H H'->H' r=some (.lst (Ag.map V.ref))->So (TpL H') F.tops Ag->Q (.ref r) H')) (DF:(jd steps=none->∀ H',L2.Same H H'->E (.ref C) none H')):iP K C vs H Q E
def qu (K:Ri) (C:Rk):Sp:=iP K C
def Sh (S:PSt):Prop:=(gH S.bef=true->S.tops≠[])/\(S.bef=.sg lpar->S.win≠[])/\((∃ t,S.bef=.th t)∨S.bef=.sg lpar∨S.bef=.sg comma∨S.bef=.sg rpar)
theorem qO {S:PSt} {x:Stp} (hx:SOk x) (i:gH S.bef=true->S.tops≠[]) (h:bt S x=none):fol S.bef x (S.win.length:Nat)=false:=by
 cases x with
 | th t =>
   rw [bt] at h;by_cases c:ended S.bef=false
   · rw [if_pos c] at h;cases h
   · show (!ended S.bef)=false;cases k:ended S.bef with
     | false=>exact absurd k c
     | true=>rfl
 | sg c =>
   rw [bt] at h;unfold fol;dsimp only;by_cases c1:c=lpar
   · rw [if_pos c1] at h ⊢;by_cases c2:gH S.bef=true/\S.win.length<100/\S.tops≠[]
     · rw [if_pos c2] at h;cases h
     · cases k:gH S.bef with
       | false=>rfl
       | true=>rw [decide_eq_false (show ¬ ((S.win.length:Nat):Int)<100 from fun z=>c2 ⟨k,by omega,i k⟩)];rfl
   · rw [if_neg c1] at h ⊢
     have key:¬ (ended S.bef=true/\S.win≠[]):=fun z=>by
      rcases hx with e | e | e
      · exact c1 e
      · rw [if_pos e,if_pos z] at h;cases h
      · rw [if_neg (fun k=>eN.2.2.1 (e.symm.trans k)),if_pos e,if_pos z] at h;cases h
     cases k:ended S.bef with
     | false=>rfl
     | true =>
       rw [decide_eq_false (show ¬ (0:Int)<((S.win.length:Nat):Int) from fun z=>key ⟨k,fun e=>by rw [e] at z;exact absurd z (by decide)⟩)];rfl
theorem tu {S S':PSt} {x:Stp} (h:bt S x=some S'):fol S.bef x (S.win.length:Nat)=true:=by
 cases x with
 | th t =>
   rw [bt] at h;by_cases c:ended S.bef=false
   · show (!ended S.bef)=true;rw [c];rfl
   · rw [if_neg c] at h;cases h
 | sg c =>
   rw [bt] at h;unfold fol;dsimp only;by_cases c1:c=lpar
   · rw [if_pos c1] at h ⊢;by_cases c2:gH S.bef=true/\S.win.length<100/\S.tops≠[]
     · rw [c2.1,decide_eq_true (show ((S.win.length:Nat):Int)<100 by omega)];rfl
     · rw [if_neg c2] at h;cases h
   · rw [if_neg c1] at h ⊢
     have key:ended S.bef=true/\S.win≠[]:=by
      by_cases c2:c=comma
      · rw [if_pos c2] at h;by_cases c3:ended S.bef=true/\S.win≠[]
        · exact c3
        · rw [if_neg c3] at h;cases h
      · rw [if_neg c2] at h;by_cases c3:c=rpar
        · rw [if_pos c3] at h;by_cases c4:ended S.bef=true/\S.win≠[]
          · exact c4
          · rw [if_neg c4] at h;cases h
        · rw [if_neg c3] at h;cases h
     have:=SX.mpr key.2;rw [key.1,decide_eq_true (show (0:Int)<((S.win.length:Nat):Int) by omega)];rfl
theorem tE {S S':PSt} {x:Stp} (h:bt S x=some S'):S'.bef=x:=by
 cases x with
 | th t=>rw [bt] at h;split at h <;> cases h;rfl
 | sg c =>
   rw [bt] at h;split at h
   · split at h <;> cases h;rfl
   · split at h
     · split at h <;> cases h;rfl
     · split at h
       · split at h <;> cases h;rfl
       · cases h
def TpR (H:Hp) (sl tl wl:Rk) (S S':PSt) (st:Stp) (bv x:V) (i:Nat) (σ:St) (H':Hp):Prop:=∃ (ws Ag:List Rk),σ=[some (.ref sl),some (.ref tl),some (.ref wl),some bv,some x]/\TpI H sl tl wl ⟨S'.tops,S'.win,S.bef⟩ bv ws Ag H'/\Ag.length<=i+1/\ws.length<=i+1/\StV H' st x
set_option maxHeartbeats 2000000 in
theorem pT:FnOk P w K mg base (CX1 P w) 3 T.g_tops_of.f T.g_tops_of.d ["steps"] (qu K T.e_NoText):=by
 refine T.g_tops_of.F.ok1 cV (fun vs H Q E h=>?_) (fun Al A outer s H vs Q E hr h=>?_)
 · obtain ⟨sl,xs,steps,rfl,_⟩:=h;rfl
 obtain ⟨sl,xs,steps,rfl,es,AE,hlen,hok,kq,ke⟩:=h
 refine ⟨_,(af (ao (i:=1) cV.nd rfl (RH rfl) (aW ae))
  (af (ao (i:=2) cV.nd rfl (RH rfl) (aW ae))
  (af (ao (i:=3) cV.nd rfl (RH rfl) ax)
  (af (cf VJ rfl (gE (pv 0)) (aD (i:=4) cV.nd rfl (RH rfl)) (af (aN (cG (ba (pcF T.g_follows (sf T) hr (aa (pv 3) (aa (pv 4) (aa (aq am rfl T.n_len RQ (aa (pv 2) ae)) ae)))) (fun _=>rfl))) (ai (bF T.X_NoText T.x_NoText ax)) aE)
  (af (aN (au (jN (ir hr)) (pv 4) ax (ay _)) (af (gf ag (mC (aA aJ (pv 1) (pF mw ag) (fun _ _=>rfl)) ag set_list))
  (ai (bq (cb RX R9 R8 bh (pv 2) (aa (aA aJ (pv 1) (pF mw ag) (fun _ _=>rfl)) ae))))) (ai (aN (au (jN (ir hr)) (pv 4) ax (ay _)) (ai (xk (aA aJ (pv 2) (pF mw ag) (fun _ _=>rfl)) ag u8 ag og set_list)) (ai (aN (au (jN (ir hr)) (pv 4) ax (ay _)) (ai (bq (nU RX VB Vz oK (pv 2)))) (ai (bq (cb RX R9 R8 bh (pv 1) (aa (aW (aa (pv 4) (aa ag ae))) ae)))))))))
  (ai (ao (i:=3) cV.nd rfl (RH rfl) (pv 4))))))
  (af (aN (PW.pt (eR (ba (pv 2) (fun _=>rfl)) (eE (au (jN (ir hr)) (pv 3) ax (ay _))))) (ai (bF T.X_NoText T.x_NoText ax)) aE)
  (ai (av (pv 1)))))))),?_⟩
 try dsimp only [AN,Aj]
 have Dn:steps.length=xs.length:=R3 AE;refine ⟨aj (by show 0<=1000000;decide),fun tl BZ=>?_⟩;have s1:L2.Same H (upd H tl (.lst [])):=ad BZ _;have e1:(upd H tl (.lst [])) tl=some (.lst (([]:List Rk).map V.ref)):=ac;generalize (upd H tl (.lst []))=H1 at s1 e1 ⊢;refine ⟨aj (by show 0<=1000000;decide),fun wl C5=>?_⟩;have s2:L2.Same H1 (upd H1 wl (.lst [])):=ad C5 _;have e2:(upd H1 wl (.lst [])) wl=some (.lst (([]:List Rk).map V.ref)):=ac;generalize (upd H1 wl (.lst []))=H2 at s2 e2 ⊢;have Pr:tl≠wl:=fun z=>by rw [z,C5] at e1;cases e1
 dsimp only [aC];refine ⟨_,rfl,sl,rfl,⟨_,SqL.of ((s1.trans s2) _ _ es)⟩,?_⟩
 refine pD (K:=K) (a:=sl) (xs:=xs) (fun i σ H3=>Ex5 fun (sv:Option V) (S:PSt) (bv:V) (ws Ag:List Rk)=>An6 (σ=[some (.ref sl),some (.ref tl),some (.ref wl),some bv,sv]) (TpI H sl tl wl S bv ws Ag H3) (prun ⟨[],[],.sg comma⟩ steps=prun S (steps.drop i)) (Sh S) (Ag.length<=i) (ws.length<=i))
  ⟨none,⟨[],[],.sg comma⟩,.str comma,[],[],rfl,⟨s1.trans s2,BZ,s1.free C5,Pr,s2 _ _ e1,e2,.nil,.nil,VW,(fun a h=>by cases h),Tz,Tz,rfl⟩,rfl,⟨fun z=>(by cases z),fun z=>absurd (Stp.sg.inj z) eN.1,.inr (.inr (.inl rfl))⟩,Rq _,Rq _⟩ (fun i σ H3 _ ⟨_,_,_,_,_,_,I,_,_,_,_⟩=>SqL.of (I.sm _ _ es)) ?_ ?_
 · rintro i x σ H3 hx ⟨sv,S,bv,ws,Ag,rfl,I,EJ,Ei,AA,AG⟩;obtain ⟨st,Ep,KG⟩:=P2.get' AE hx;have BS:=(Rv.mp Ep).1
   have ER:steps.drop i=st::steps.drop (i+1):=by
    rw [SH BS];rw [Rg BS] at Ep;rw [Ry Ep]
   rw [ER] at EJ;have Hd:=hok st (Ru Ep);have Fu:S.win.length=ws.length:=R3 I.win;have IU:S.tops.length=Ag.length:=R3 I.tops;have DS:=KG.mono (Same.kt I.sm);dsimp only [aC];refine ⟨_,rfl,_,rfl,_,rfl,wl,_,rfl,.inl (SqL.of I.ew),bv,x,S.bef,st,_,rfl,I.bef,DS,?_⟩;rw [Rf,<- Fu];cases A7:bt S st with
   | none =>
     rw [qO Hd Ei.1 A7];refine ⟨_,rfl,bC (ke ?_ H3 I.sm)⟩;unfold jd;rw [EJ,prun,A7];rfl
   | some S' =>
   rw [tu A7];have KH:prun ⟨[],[],.sg comma⟩ steps=prun S' (steps.drop (i+1)):=EJ.trans (cT A7);have KI:=qF Hd A7 Ei.1;refine ⟨_,rfl,bL ?_⟩;dsimp only [dR];refine aG (TpR H sl tl wl S S' st bv x i) (fun kk hk=>?_) ?_
   rotate_left
   · rintro f' H4 ⟨De,Fv,rfl,I4,Pt,Pu,Pw⟩;refine ⟨_,rfl,_,S',x,De,Fv,rfl,⟨I4.sm,I4.tl0,I4.wl0,I4.tw,I4.et,I4.ew,I4.win,I4.tops,I4.nd,I4.tas0,I4.tln,I4.wln,by rw [tE A7];exact Pw⟩,KH,KI,Pt,Pu⟩
   cases st with
   | th t =>
     obtain ⟨a,rfl,hA⟩:=DS;obtain ⟨n',r',h3⟩:=hA.tup
     have FR:S'=⟨S.tops++[(t,0)],S.win,.th t⟩:=by
      rw [bt] at A7;split at A7
      · exact (Ry A7).symm
      · cases A7
     refine ⟨_,rfl,_,rfl,.inr ⟨a,_,rfl,SqT.of h3,_,rfl,bL ?_⟩⟩;refine ⟨_,rfl,_,rfl,.inr ⟨a,_,rfl,SqT.of h3,_,rfl,bL ?_⟩⟩;refine ⟨_,rfl,_,rfl,.inr ⟨a,_,rfl,SqT.of h3,_,rfl,bL ?_⟩⟩;refine ⟨_,rfl,.inl ⟨rfl,_,SqL.of I.et⟩,_,rfl,aj (by show 2<=1000000;decide),fun np Ct=>?_⟩;have s4:L2.Same H3 (upd H3 np (.lst [.ref a,.int 0])):=ad Ct _;have e4:(upd H3 np (.lst [.ref a,.int 0])) np=some (.lst [.ref a,.int 0]):=ac;generalize (upd H3 np (.lst [.ref a,.int 0]))=H4 at s4 e4 ⊢;have KJ:=s4 _ _ I.et;have KL:H np=none:=I.sm.free Ct;have MN:np≠tl:=fun z=>by rw [z,I.et] at Ct;cases Ct
     have Px:np≠wl:=fun z=>by rw [z,I.ew] at Ct;cases Ct
     have ME:np∉Ag:=fun z=>by
      obtain ⟨j,hj⟩:=Sv.mp z;obtain ⟨y,_,ta,e,_⟩:=P2.get' I.tops hj;rw [Ct] at e;cases e
     refine ⟨tl,_,_,rfl,rfl,KJ,bn (by rw [Rf];omega),?_⟩;have k5:KT H4 (upd H4 tl (.lst (Ag.map V.ref++[.ref np]))):=bG KJ;refine hk _ _ ⟨ws,Ag++[np],rfl,?_,by rw [Rm,Sg];omega,by omega,⟨a,rfl,(hA.mono (Same.kt s4)).mono k5⟩⟩;subst FR;refine ⟨aH (I.sm.trans s4) I.tl0,I.tl0,I.wl0,I.tw,by rw [ac,RC];rfl,by rw [ar I.tw.symm];exact s4 _ _ I.ew,P2.mp (fun j b e=>?_) I.win,?_,?_,fun b hb=>?_,fun z=>?_,fun z=>?_,(I.bef.mono (Same.kt s4)).mono k5⟩
     · rw [TQ (Rv.mp e).1];exact e
     · exact P2.append (gm KJ (P2.mp (fun _ _ e=>TpL.same s4 e) I.tops) I.tln) (.cons ⟨a,by rw [ar MN];exact e4,(hA.mono (Same.kt s4)).mono k5⟩ .nil)
     · exact Xj.mpr ⟨I.nd,Tv.mpr ⟨Tz,VW⟩,fun b hb c hc e=>ME (by rw [<- RO.mp hc,<- e];exact hb)⟩
     · rcases RN.mp hb with hb | hb
       · exact I.tas0 b hb
       · rw [RO.mp hb];exact KL
     · rcases RN.mp z with z | z
       · exact I.tln z
       · exact MN (RO.mp z).symm
     · rcases RN.mp z with z | z
       · exact I.wln z
       · exact Px (RO.mp z).symm
   | sg c =>
     have B1:x=.str c:=DS;subst B1
     have He:∀ (la ta:Rk) (m m':Int) (De:List Rk) (W':List Nat) (j:Nat) (f:Int->Int),Ag[j]?=some la->H3 la=some (.lst [.ref ta,.int m])->m'=f m->TpI H sl tl wl ⟨qo S.tops j f,S.win,S.bef⟩ bv ws Ag (upd H3 la (.lst [.ref ta,.int m'])):=fun la ta m m' De W' j f hj Dp em=>by
      have Df:=Ru hj;have AH:la≠tl:=fun z=>I.tln (by rw [<- z];exact Df);have Py:la≠wl:=fun z=>I.wln (by rw [<- z];exact Df);subst em;exact ⟨aH I.sm (I.tas0 la Df),I.tl0,I.wl0,I.tw,by rw [ar AH.symm];exact I.et,by rw [ar Py.symm];exact I.ew,I.win,sH Dp I.tops I.nd hj,I.nd,I.tas0,I.tln,I.wln,I.bef.mono (bG Dp)⟩
     by_cases c1:c=lpar
     · have FR:gH S.bef=true/\S.win.length<100/\S.tops≠[]:=by
        rw [bt,if_pos c1] at A7;by_cases z:gH S.bef=true/\S.win.length<100/\S.tops≠[]
        · exact z
        · rw [if_neg z] at A7;cases A7
       have D8:S'=⟨qo S.tops (S.tops.length - 1) (fun _=>1),S.win++[S.tops.length - 1],.sg c⟩:=by
        rw [bt,if_pos c1,if_pos FR] at A7;exact (Ry A7).symm
       refine ⟨_,rfl,_,rfl,.inl ⟨c,rfl,_,rfl,?_⟩⟩;rw [decide_eq_true (show c=Rc "(" from c1)];refine bC ?_;have B9:Ag≠[]:=fun z=>FR.2.2 (by rw [z] at IU;exact R4.mp IU);have EG:=SX.mpr B9;refine hid fun ZZ kZ=>?_;obtain ⟨la,BD⟩:∃ la,Ag[Ag.length - 1]?=some la:=⟨_,Rg (by omega)⟩
       have AY:∀ ys:List Rk,ys=Ag->atI (ys.map V.ref) (-1)=some (.ref la):=fun ys e=>by
        subst e;obtain ⟨MO,b,rfl⟩:∃ MO b,ys=MO++[b]:=⟨ys.dropLast,ys.getLast B9,(T5 B9).symm⟩;rw [Rm,Sg,Nat.add_sub_cancel,SY (Rq _),Vt] at BD;rw [RC,<- Ry BD];exact qa _ _
       obtain ⟨y,hy,ta,Dp,_⟩:=P2.get' I.tops BD;refine kZ ?_;refine ⟨_,rfl,_,rfl,tl,_,_,.ref la,rfl,rfl,SqL.of I.et,AY _ rfl,la,_,1,1,rfl,rfl,Dp,rfl,?_⟩;have I4:=He la ta y.2 1 ws S.win (Ag.length - 1) (fun _=>1) BD Dp rfl;dsimp only [List.set];generalize (upd H3 la (.lst [.ref ta,.int 1]))=H4 at I4 ⊢;refine ⟨_,rfl,.inl ⟨rfl,_,SqL.of I4.ew⟩,_,rfl,_,rfl,tl,_,_,.ref la,rfl,rfl,SqL.of I4.et,AY _ rfl,wl,_,_,rfl,rfl,I4.ew,bn (by rw [Rf];omega),?_⟩;have k5:KT H4 (upd H4 wl (.lst (ws.map V.ref++[.ref la]))):=bG I4.ew;refine hk _ _ ⟨ws++[la],Ag,rfl,?_,by omega,by rw [Rm,Sg];omega,rfl⟩;subst D8;exact ⟨aH I4.sm I4.wl0,I4.tl0,I4.wl0,I4.tw,by rw [ar I4.tw];exact I4.et,by rw [ac,RC];rfl,P2.append I4.win (.cons (by (try dsimp only);rw [IU];exact BD) .nil),by (try dsimp only);rw [IU];exact gm I4.ew I4.tops I4.wln,I4.nd,I4.tas0,I4.tln,I4.wln,I4.bef.mono k5⟩
     · refine ⟨_,rfl,_,rfl,.inl ⟨c,rfl,_,rfl,?_⟩⟩;rw [decide_eq_false (show ¬ c=Rc "(" from c1)];refine bL ?_
       have key:ended S.bef=true/\S.win≠[]:=by
        rw [bt,if_neg c1] at A7;by_cases c2:c=comma
        · rw [if_pos c2] at A7;by_cases c3:ended S.bef=true/\S.win≠[]
          · exact c3
          · rw [if_neg c3] at A7;cases A7
        · rw [if_neg c2] at A7;by_cases c3:c=rpar
          · rw [if_pos c3] at A7;by_cases c4:ended S.bef=true/\S.win≠[]
            · exact c4
            · rw [if_neg c4] at A7;cases A7
          · rw [if_neg c3] at A7;cases A7
       have Hf:ws≠[]:=fun z=>key.2 (by rw [z] at Fu;exact R4.mp Fu);refine hid fun ZZ kZ=>?_;obtain ⟨De,la,Hg⟩:∃ De b,ws=De++[b]:=⟨ws.dropLast,ws.getLast Hf,(T5 Hf).symm⟩;have Hh:=I.win;rw [Hg] at Hh;obtain ⟨W',j,MP,F4,hj⟩:=P2.snoc_inv Hh;refine kZ ?_;by_cases c2:c=comma
       · have D8:S'=⟨qo S.tops (S.win.getLastD 0) (·+1),S.win,.sg c⟩:=by
          rw [bt,if_neg c1,if_pos c2,if_pos key] at A7;exact (Ry A7).symm
         refine ⟨_,rfl,_,rfl,.inl ⟨c,rfl,_,rfl,?_⟩⟩;rw [decide_eq_true (show c=Rc "," from c2)];refine bC ?_;refine hid fun ZZ kZ=>?_;obtain ⟨y,hy,ta,Dp,_⟩:=P2.get' I.tops hj;refine kZ ?_;have AY:atI (ws.map V.ref) (-1)=some (.ref la):=by rw [Hg,RC];exact qa _ _
         refine ⟨_,rfl,_,rfl,wl,_,_,.ref la,rfl,rfl,SqL.of I.ew,AY,la,_,1,.int y.2,rfl,rfl,SqL.of Dp,at1,_,_,rfl,rfl,la,_,1,1,rfl,rfl,Dp,rfl,?_⟩;have I4:=He la ta y.2 (y.2+1) ws S.win j (·+1) hj Dp rfl;refine hk _ _ ⟨ws,Ag,rfl,?_,by omega,by omega,rfl⟩;subst D8;dsimp only;rw [show S.win.getLastD 0=j by rw [MP,gJ]];exact I4
       · have c3:c=rpar:=by
          rw [bt,if_neg c1,if_neg c2] at A7;by_cases c3:c=rpar
          · exact c3
          · rw [if_neg c3] at A7;cases A7
         have D8:S'=⟨S.tops,S.win.dropLast,.sg c⟩:=by
          rw [bt,if_neg c1,if_neg c2,if_pos c3,if_pos key] at A7;exact (Ry A7).symm
         refine ⟨_,rfl,_,rfl,.inl ⟨c,rfl,_,rfl,?_⟩⟩;rw [decide_eq_false (show ¬ c=Rc "," from c2)];refine bL ?_;refine ⟨_,rfl,_,rfl,.inl ⟨c,rfl,_,rfl,?_⟩⟩;rw [decide_eq_true (show c=Rc ")" from c3)];refine bC ?_;refine ⟨_,rfl,.inl ⟨rfl,_,SqL.of I.ew⟩,wl,_,.ref la,rfl,rfl,I.ew,by rw [Hg];simp,?_⟩;have d1:(ws.map V.ref).dropLast=De.map V.ref:=by rw [Hg];simp
         rw [d1];have k5:KT H3 (upd H3 wl (.lst (De.map V.ref))):=bG I.ew;refine hk _ _ ⟨De,Ag,rfl,?_,by omega,by rw [Hg,Rm,Sg] at AG;omega,rfl⟩;subst D8;exact ⟨aH I.sm I.wl0,I.tl0,I.wl0,I.tw,by rw [ar I.tw];exact I.et,ac,by (try dsimp only);rw [MP,WE];exact F4,gm I.ew I.tops I.wln,I.nd,I.tas0,I.tln,I.wln,I.bef.mono k5⟩
 · rintro σ H3 ⟨sv,S,bv,ws,Ag,rfl,I,EJ,Ei,AA,AG⟩;rw [Ue (by omega)] at EJ;have MQ:prun ⟨[],[],.sg comma⟩ steps=some S:=EJ;have Fu:S.win.length=ws.length:=R3 I.win;have AF:¬ (S.win=[]/\ended S.bef=true)->E (.ref T.e_NoText) none H3:=fun h=>ke (by unfold jd;rw [MQ];exact if_neg h) H3 I.sm;cases KN:ws with
   | cons a De =>
     refine ⟨_,rfl,_,.inl ⟨_,SqL.of I.ew,rfl⟩,?_⟩;rw [KN];exact bC (AF fun z=>by rw [z.1,KN] at Fu;cases Fu)
   | nil =>
   subst KN;have MR:S.win=[]:=R4.mp Fu;refine ⟨_,rfl,_,.inl ⟨_,SqL.of I.ew,rfl⟩,bL ?_⟩;have AR:ended S.bef=true->Q (.ref tl) H3:=fun h=>kq S (by unfold jd;rw [MQ];exact if_pos ⟨MR,h⟩) tl Ag H3 I.sm I.et I.tops;have Dg:=I.bef;rcases Ei.2.2 with ⟨t,C6⟩ | C6 | C6 | C6
   · rw [C6] at Dg AR;obtain ⟨a,rfl,hA⟩:=Dg;obtain ⟨n',r',h3⟩:=hA.tup;exact ⟨_,rfl,_,rfl,.inr ⟨a,_,rfl,SqT.of h3,_,rfl,bL ⟨_,rfl,AR rfl⟩⟩⟩
   · exact absurd MR (Ei.2.1 C6)
   · rw [C6] at Dg;have BC:bv=.str comma:=Dg;subst BC;refine ⟨_,rfl,_,rfl,.inl ⟨comma,rfl,_,rfl,?_⟩⟩;rw [decide_eq_true (show comma=Rc "," from rfl)];exact bC (AF fun z=>by have:=z.2;rw [C6,de] at this;cases this)
   · rw [C6] at Dg AR;have BC:bv=.str rpar:=Dg;subst BC;refine ⟨_,rfl,_,rfl,.inl ⟨rpar,rfl,_,rfl,?_⟩⟩;rw [decide_eq_false (show ¬ rpar=Rc "," from eN.2.2.1)];exact bL ⟨_,rfl,AR iu⟩
namespace LB
def TopAtL (H:Hp):Top->Rk->Prop
 | .nm n m,a=>∃ ta,H a=some (.lst [.ref ta,.int (m:Nat)])/\n≠q/\H ta=some (.tup [.str n])
 | .th t,a=>∃ ta,H a=some (.lst [.ref ta,.int 0])/\At H t ta
theorem TopAtL.same {H H':Hp} (s:L2.Same H H'):∀ {x:Top} {a:Rk},TopAtL H x a->TopAtL H' x a
 | .nm n m,a,h=>by
   obtain ⟨ta,h1,h2,h3⟩:=h;exact ⟨ta,s _ _ h1,h2,s _ _ h3⟩
 | .th t,a,h=>by
   obtain ⟨ta,h1,h2⟩:=h;exact ⟨ta,s _ _ h1,h2.mono (Same.kt s)⟩
inductive nC (vs:List V) (H:Hp) (Q:VK) (_E:XK):Prop
 | mk (l:Rk) (as:List Rk) (tops:List Top) (u:Th) (Aq:vs=[.ref l]) (Ar:H l=some (.lst (as.map V.ref))) (AB:So (TopAtL H) tops as) (AQ:tops.length<=100000) (Bq:TopsOk tops) (Cb:(∀ t,Top.th t∈tops->t.size<=100000)) (DF:bl tops=[u]) (FQ:∀ (r:Rk) (H':Hp),L2.Same H H'->At H' u r->Q (.ref r) H'):nC  vs H Q _E
def vj:Sp:=nC
theorem ok_built:FnOk P w K mg base CX0 1 T.g_built.f T.g_built.d ["tops"] vj:=by
 refine T.g_built.F.ok iL (fun vs H Q E h=>?_) (fun Al A outer s H vs Q E hr h=>?_)
 · obtain ⟨l,as,tops,u,rfl,_⟩:=h;rfl
 obtain ⟨l,as,tops,u,rfl,el,hT,hlen,hok,KO,hu,k⟩:=h
 refine ⟨_,(af (ao (i:=1) iL.nd rfl (Or.inr rfl) (aW ae))
  (af (cf Sz rfl (ya rfl T.n_reversed (pv 0)) (xT rfl (bK (aD (i:=2) iL.nd rfl (RH rfl)) (bK (aD (i:=3) iL.nd rfl (RH rfl)) fk))) (ai (aN (au su (pv 3) ag (ay _)) (ai (bq (cb RX R9 R8 bh (pv 1) (aa (ak iQ (pv 2) (bz bI rfl T.n_tuple SD (aa (cC (N:=[Rc "number",Rc "done"]) (js:=[none,some 1]) (g:=(aC 0)) (tt:=bM) (te:=(zb K "list" (zh) (cj 1))) rfl (dz rfl (by decide +kernel) (by decide +kernel) rfl rfl rfl) (bO rfl T.n_range (aa (pv 3) ae)) (fun _ _ _ _ _ _=>(aD (i:=0) aaC rfl (RH rfl))) (bX rfl) (fun _ _ _ _ _ _=>cP) (fun _ _ _ _ _ _=>(nU RX VB Vz oK (pv 1)))) ae))) ae)))) (ai (bq (cb RX R9 R8 bh (pv 1) (aa (pv 2) ae)))))))
  (ai (av (aA aJ (pv 1) ag (fun _ _=>rfl)))))),?_⟩
 have FW:tops.length=as.length:=R3 hT;refine ⟨aj (by show 0<=1000000;decide),fun dn EM=>?_⟩;refine ⟨_,rfl,l,_,rfl,SqL.of (ad EM _ _ _ el),?_⟩
 refine w9 (K:=K) (a:=l) (xs:=as.map V.ref) (fun i σ H2=>Ex3 fun c2 c3 ds=>An4 (σ=[some (.ref l),some (.ref dn),c2,c3]) (L2.Same H H2) (H2 dn=some (.lst (ds.map V.ref))) (Ats H2 (bl (tops.drop (tops.length - i))).reverse ds))
  ⟨none,none,[],rfl,ad EM _,ac,by rw [VS,Wf];exact .nil⟩ (fun i σ H2 _ ⟨_,_,_,_,s2,_,_⟩=>SqL.of (s2 _ _ el)) ?_ ?_
 · rintro i y σ H2 hi hy ⟨c2,c3,ds,rfl,s2,Er,Ci⟩;rw [Rf,<- FW] at hi hy;obtain ⟨pr,rfl,KP⟩:=bY hy;obtain ⟨x,hx,KQ⟩:=P2.get' hT KP;have IH:=KQ.same s2;have hn:tops.length - 1 - i<tops.length:=by omega
   have ER:tops.drop (tops.length - 1 - i)=x::tops.drop (tops.length - i):=by
    rw [SH hn,show tops.length - 1 - i+1=tops.length - i by omega];congr 1;rw [Rg hn] at hx;exact Ry hx
   have Es:=hok.drop (tops.length - 1 - i);rw [ER] at Es;have ES:tops.length - (i+1)=tops.length - 1 - i:=by omega
   have JV:(bl (tops.drop (tops.length - i))).length<=100000:=by
    have:=qZ (tops.drop (tops.length - i));rw [RJ] at this;omega
   generalize tops.drop (tops.length - i)=S at ER Ci Es JV;refine hid fun ZZ kZ=>?_
   obtain ⟨ta,m,xs,Pz,eta,hm,MJ,AR⟩:∃ (ta:Rk) (m:Nat) (xs:List V),H2 pr=some (.lst [.ref ta,.int (m:Nat)])/\H2 ta=some (.tup xs)/\m<=(bl S).length/\xs.length<=200000/\∀ (H':Hp) (p:Rk) (ks:List Rk),KT H2 H'->Ats H' ((bl S).take m) ks->H' p=some (.tup (xs++ks.map V.ref))->∃ u',bl (x::S)=u'::(bl S).drop m/\At H' u' p:=by
    cases x with
    | nm n m =>
      rw [TopsOk] at Es;obtain ⟨ta,h1,h2,h3⟩:=IH;refine ⟨ta,m,_,h1,h3,Es.1,(by show 1<=200000;decide),fun H' p ks kt hk hp=>⟨_,by rw [bl],?_⟩⟩;rw [At];exact ⟨h2,ks,hp,hk⟩
    | th t =>
      obtain ⟨ta,h1,h2⟩:=IH;obtain ⟨n',r',h3⟩:=h2.tup;have hw:=h2.width h3;have BC:=KO t (Ru hx);refine ⟨ta,0,_,h1,h3,Sk _,by omega,fun H' p ks kt hk hp=>⟨t,by rw [bl,Tt],?_⟩⟩;rw [Uj,Ats] at hk;subst hk;rw [TY,RP] at hp;exact (h2.mono kt).same (kt _ _ h3) hp
   refine kZ ?_;refine ⟨pr,_,rfl,SqL.of Pz,rfl,_,_,rfl,_,_,rfl,rfl,?_⟩;have KR:=Ci.length;rw [UH] at KR;refine cA (fun b H'=>An2 (H'=H2) (b=decide ((0:Int)<(m:Int)))) (fun kk Bd=>?_) (fun H' hb=>?_) (fun H' hb=>?_)
   · exact ⟨_,rfl,_,_,rfl,rfl,_,rfl,Bd _ _ ⟨rfl,rfl⟩⟩
   rotate_left
   · obtain ⟨rfl,hb⟩:=hb
     have PB:m=0:=by
      have:=of_decide_eq_false hb.symm;omega
     subst PB;obtain ⟨u',Dm,AW⟩:=AR H' ta [] (Same.kt (.refl _)) (by rw [Uj];exact .nil) (by rw [TY,RP];exact eta);refine ⟨_,rfl,.inl ⟨rfl,_,SqL.of Er⟩,_,rfl,dn,_,_,rfl,rfl,Er,bn (by rw [Rf];omega),?_⟩;have k6:KT H' (upd H' dn (.lst (ds.map V.ref++[.ref ta]))):=bG Er;refine ⟨_,_,ds++[ta],rfl,?_,by rw [ac,RC];rfl,?_⟩
     · intro b o e;rw [ar (aR e EM)];exact s2 b o e
     · rw [ES,ER,Dm,S5];rw [Tt];exact (Ci.mono k6).append (.cons (AW.mono k6) .nil)
   obtain ⟨rfl,hb⟩:=hb;refine ⟨_,rfl,.inl ⟨rfl,_,SqL.of Er⟩,_,rfl,?_⟩;refine ⟨_,rfl,(m:Int),rfl,by omega,by omega,fun D hD=>?_⟩;have KS:D≠dn:=fun z=>by rw [z,Er] at hD;cases hD
   have EK:((m:Nat):Int).toNat=m:=Tq m
   refine ⟨m,fun j H3=>An3 (j<=m) ((∀ b o,H' b=some o->b≠dn->H3 b=some o)) (Ex2 fun (Et ks:List Rk)=>An4 (H3 dn=some (.lst (Et.map V.ref))) (H3 D=some (.lst (ks.map V.ref))) (Ats H3 ((bl S).drop j).reverse Et) (Ats H3 ((bl S).take j) ks)),
    ⟨Sk _,fun b o e hb=>?_,ds,[],?_,?_,?_,?_⟩,?_⟩
   · rw [ar (aR e hD)];exact e
   · rw [ar KS.symm];exact Er
   · rw [ac];rfl
   · rw [Tt];exact Ci.mono (im hD)
   · rw [Uj];exact .nil
   rintro j H3 ⟨hj,kp,Et,ks,ed,eD,Fw,hd2⟩;by_cases MS:j=m
   · left;refine ⟨(by show ((m:Nat):Int).toNat<=j;rw [EK,MS];exact Rq _),?_⟩;subst MS;have Hi:KT H' H3:=fun b Q0 e=>kp b _ e (sI e Er (by intro z;cases z));refine ⟨D,_,rfl,.inl ⟨SqL.of eD,fun tp EG=>?_⟩⟩;have s4:L2.Same H3 (upd H3 tp (.tup (ks.map V.ref))):=ad EG _;have e4:(upd H3 tp (.tup (ks.map V.ref))) tp=some (.tup (ks.map V.ref)):=ac;generalize (upd H3 tp (.tup (ks.map V.ref)))=H4 at s4 e4 ⊢;have By:=hd2.length;refine vI (s4 _ _ (Hi _ _ eta)) e4 (by rw [Rf,By,Rx];omega) fun p H5 s5 e5=>?_;have ET:=s4.trans s5;have MT:=ET _ _ ed;have KU:=Hi.trans (Same.kt ET);obtain ⟨u',Dm,AW⟩:=AR H5 p ks KU (hd2.mono (Same.kt ET)) e5;have GY:=Fw.length;rw [UH,RJ] at GY;refine ⟨dn,_,_,rfl,rfl,MT,bn (by rw [Rf];omega),?_⟩;have k6:KT H5 (upd H5 dn (.lst (Et.map V.ref++[.ref p]))):=bG MT;refine ⟨_,_,Et++[p],rfl,?_,by rw [ac,RC];rfl,?_⟩
     · intro b o e;have hb:b≠dn:=aR e EM;rw [ar hb];exact ET _ _ (kp b o (s2 b o e) hb)
     · rw [ES,ER,Dm,S5];exact (Fw.mono ((Same.kt ET).trans k6)).append (.cons (AW.mono k6) .nil)
   · right;have EN:j<m:=by omega
     refine ⟨EN,(by show j<((m:Nat):Int).toNat;rw [EK];exact EN),?_⟩;rintro x' H4 ⟨e1,e2⟩;have DA:H4=H3:=e1;subst DA;have MU:j<(bl S).length:=by omega
     have PC:(bl S).drop j=(bl S)[j]::(bl S).drop (j+1):=SH MU;rw [PC,S5] at Fw
     have Am:Et≠[]:=by
      intro z;subst z;have:=Fw.length;rw [Rm] at this;simp at this
     refine hid fun ZZ kZ=>?_;obtain ⟨Fx,b,rfl⟩:∃ Fx b,Et=Fx++[b]:=⟨Et.dropLast,Et.getLast Am,(T5 Am).symm⟩;obtain ⟨Us,x2,e3,hU,Cr⟩:=Fw.snoc_inv;have e4:=List.append_inj' e3 rfl;obtain ⟨e5,e6⟩:=e4;refine kZ ?_;cases e6;subst e5;refine ⟨_,rfl,.inl ⟨rfl,_,SqL.of ed⟩,dn,_,.ref b,rfl,rfl,ed,by simp,?_⟩;have d1:((Fx++[b]).map V.ref).dropLast=Fx.map V.ref:=by simp
     rw [d1];have MV:(upd H4 dn (.lst (Fx.map V.ref))) D=some (.lst (ks.map V.ref)):=by rw [ar KS];exact eD
     have k5:KT H4 (upd (upd H4 dn (.lst (Fx.map V.ref))) D (.lst (ks.map V.ref++[.ref b]))):=(bG ed).trans (bG MV);refine ⟨_,MV,bn (by rw [Rf,hd2.length,Rx];omega),EN,fun b' o e BC=>?_,Fx,ks++[b],?_,?_,hU.mono k5,?_⟩
     · rw [ar (aR e hD),ar BC];exact kp b' o e BC
     · rw [ar KS.symm,ac]
     · rw [ac,RC];rfl
     · rw [UU,Rg MU];exact (hd2.mono k5).append (.cons (Cr.mono k5) .nil)
 · rintro σ H2 ⟨c2,c3,ds,rfl,s2,Er,Ci⟩;rw [Rf,<- FW,Vt,Tt,hu] at Ci;have Hj:Ats H2 [u] ds:=Ci;rw [Ats] at Hj;obtain ⟨b,r,rfl,hb,MW⟩:=Hj;exact ⟨_,rfl,dn,_,0,.ref b,rfl,rfl,SqL.of Er,at0,k b H2 s2 hb⟩
end LB
def vt (x:Th×Int):Top:=match x.1 with
 | .knot n _=>.nm n x.2.toNat
 | .call s k=>.th (.call s k)
theorem qL:∀ (t:Th),vt (je t)=eg Th.call t
 | .knot n ks=>by show Top.nm n (((ks.length:Nat):Int)).toNat=_;rw [Tq];rfl
 | .call s k=>rfl
theorem uV {H:Hp}:∀ {l:List Th} {Ag:List Rk},So (TpL H) (l.map je) Ag->So (LB.TopAtL H) (l.map (eg Th.call)) Ag
 | [],_,h=>by cases h;exact .nil
 | t::l,Ag,h=>by
   cases h with
   | cons h1 h2 =>
     refine .cons ?_ (uV h2);obtain ⟨ta,e,hA⟩:=h1;cases t with
     | knot n ks =>
       have Fy:At H (.knot n []) ta:=hA;rw [At] at Fy;refine hid fun ZZ kZ=>?_;obtain ⟨hq,as,e2,h3⟩:=Fy;refine kZ ?_;have:as=[]:=R4.mp (by have:=h3.length;exact this);subst this;exact ⟨ta,e,hq,e2⟩
     | call s k=>exact ⟨ta,e,hA⟩
theorem oH:∀ (t u:Th),Top.th u∈t.walk.map (eg Th.call)->u.size<=1:=fun t u h=>by
 obtain ⟨v,_,e⟩:=SQ.mp h;cases v with
 | knot n ks=>cases e
 | call s k=>cases e;rw [Th.size];exact Rq _
def pw (ws:List Rz):List Rz:=(W4 (jn (ws.map sL))).map ofL
inductive d7 (K:Ri) (C:Rk) (vs:List V) (H:Hp) (Q:VK) (E:XK):Prop
 | mk (wl:Rk) (ws:List Rz) (Aq:vs=[.ref wl]) (Ar:H wl=some (.lst (ws.map V.str))) (AB:(ws.map (·.length)).sum+ws.length<=6000) (AQ:(∀ t:Th,i9 (pw ws) t->t.size<=60000->∀ (r:Rk) (H':Hp),L2.Same H H'->At H' t r->Q (.ref r) H')) (Bq:((∀ t:Th,¬ i9 (pw ws) t)->∀ H',L2.Same H H'->E (.ref C) none H')):d7 K C vs H Q E
def jB (K:Ri) (C:Rk):Sp:=d7 K C
set_option maxHeartbeats 1000000 in
theorem eY:FnOk P w K mg base (CX1 P w) 4 T.g_read_pattern.f T.g_read_pattern.d ["words"] (jB K T.e_NoText):=by
 refine T.g_read_pattern.F.ok1 fD (fun vs H Q E h=>?_) (fun Al A outer s H vs Q E hr h=>?_)
 · obtain ⟨wl,ws,rfl,_⟩:=h;rfl
 obtain ⟨wl,ws,rfl,ew,hlen,kq,ke⟩:=h
 refine ⟨_,(af (ao (i:=1) fD.nd rfl (RH rfl) (wY (sep:=Rc " ") (y:=Rc ".") (z:=Rc " . ") (pv 0) (by decide +kernel) (by decide +kernel)))
  (ai (av (pcF T.g_built (LB.ok_built T) hr (aa (bc (pT T) (hr.mono (by first | decide | omega)) rfl T.g_tops_of.m T.g_tops_of.F.kp T.g_tops_of.b .nil cI (aa (bc (nS T) (hr.mono (by first | decide | omega)) rfl T.g_steps_of.m T.g_steps_of.F.kp T.g_steps_of.b .nil cI (aa (pcF T.g_words_of (qi T) hr (aa (pv 1) ae)) ae)) ae)) ae))))),?_⟩
 try dsimp only [AN,Aj]
 have Fz:(SK (Rc " ") ws).length<=6000:=by
  have h1:(SK (Rc " ") ws).length=(jn (ws.map sL)).length:=by rw [<- dW];exact congrArg TB (dA ws)
  rw [h1];have h2:=vx (ws.map sL);rw [Ud,Rf] at h2;have h3:(ws.map (TB ∘ sL))=ws.map (·.length):=Vc fun x _=>dW x;rw [h3] at h2;omega
 refine ⟨_,rfl,wl,ws,rfl,SqL.of ew,?_,by omega,?_⟩
 · show _+ws.length * 1<=1000000;omega
 dsimp only [aC]
 have KW:Wn (SK (Rc " ") ws) (Rc ".") (Rc " . ")=ofL (dQ 46 [32,46,32] (jn (ws.map sL))):=by
  have h1:Rc "."=⟨#[46]⟩:=by decide +kernel
  have h2:(Rc " . ").cps.toList=[32,46,32]:=by decide +kernel
  rw [h1,replace_one _ _ _ (by decide +kernel),h2];exact congrArg (fun l=>ofL (dQ 46 [32,46,32] l)) (dA ws)
 rw [KW]
 have Cs:(dQ 46 [32,46,32] (jn (ws.map sL))).length<=18000:=by
  have h1:=iO 46 [32,46,32] rfl (jn (ws.map sL))
  have h2:(jn (ws.map sL)).length<=6000:=by
   have h1:(SK (Rc " ") ws).length=(jn (ws.map sL)).length:=by rw [<- dW];exact congrArg TB (dA ws)
   omega
  omega
 have PD:BB.wordsOf (ofL (dQ 46 [32,46,32] (jn (ws.map sL))))=pw ws:=by
  unfold BB.wordsOf;rw [aB,w8];rfl
 have Ca:∀ l:List Nat,(l.flatMap sp4).length<=3 * l.length:=fun l=>by
  induction l with
  | nil=>exact Rq _
  | cons d l ih =>
    rw [T4,Rm,Rh]
    have:(sp4 d).length<=3:=by
     rcases x6 d with h | h
     · rw [qw (by omega)];exact Rq _
     · rw [nj h];exact (by decide:1<=3)
    omega
 have PF:(jn (ws.map sL)).length<=6000:=by
  have h1:(SK (Rc " ") ws).length=(jn (ws.map sL)).length:=by rw [<- dW];exact congrArg TB (dA ws)
  omega
 have Q1:=Ca (jn (ws.map sL))
 have A9:(pw ws).length<=18001:=by
  unfold pw W4;rw [Rf];have:=xl ((jn (ws.map sL)).flatMap sp4);omega
 have PH:∀ x∈pw ws,x.length<=100000:=fun x hx=>by
  unfold pw W4 at hx;obtain ⟨y,hy,rfl⟩:=SQ.mp hx;have:=xb hy;rw [dE];omega
 refine ⟨_,rfl,_,rfl,by rw [dE];omega,fun r1 H1 s1 _ e1=>?_⟩;rw [PD] at e1;refine ⟨r1,pw ws,rfl,e1,by omega,PH,fun l hl r2 xs H2 s2 e2 GQ=>?_,fun hl H2 s2=>ke (fun t ht=>by rw [ht.1] at hl;cases hl) H2 (s1.trans s2)⟩;have PJ:=rc hl;have hok:=(gc.mp hl).2;refine ⟨r2,xs,l,rfl,e2,GQ,by omega,hok,fun F hF r3 Ag H3 s3 e3 Iu=>?_,fun hF H3 s3=>ke (fun t ht=>?_) H3 (s1.trans (s2.trans s3))⟩
 · obtain ⟨t,rfl,ht⟩:=rW hok hF;obtain ⟨F',Hk,PK⟩:=gG ht;rw [hF] at Hk;have:=Ry Hk;subst this;rw [PK] at Iu;have Az:=vp t;rw [Rf] at PJ;obtain ⟨B8,KY⟩:=oB Th.call t;refine ⟨r3,Ag,t.walk.map (eg Th.call),t,rfl,e3,uV Iu,by rw [Rf,Th.walk_len];omega,KY,fun u hu=>SO (oH t u hu) (by decide),by rw [B8,BB.kH],fun r4 H4 s4 KH=>?_⟩;exact kq t ⟨hl,ht⟩ (by omega) r4 H4 (s1.trans (s2.trans (s3.trans s4))) KH
 · rw [ht.1] at hl;have:=Ry hl;subst this;obtain ⟨F',Hk,_⟩:=gG ht.2;rw [hF] at Hk;cases Hk
def jY:Sp:=fun vs H Q _=>∃ z:Rz,vs=[.str z]/\z.length<=30000/\∀ (r:Rk) (H':Hp),L2.Same H H'->H r=none->H' r=some (.lst (((wds (sL z)).map ofL).map V.str))->Q (.ref r) H'
theorem lr {c:Nat}:∀ {p p' q q':List Nat},p++c::q=p'++c::q'->(∀ d∈p,d≠c)->(∀ d∈p',d≠c)->p=p'/\q=q'
 | [],[],q,q',h,_,_=>⟨rfl,(RR h).2⟩
 | [],d::p',q,q',h,_,h2=>absurd (RR h).1.symm (h2 d (Rr ..))
 | d::p,[],q,q',h,h1,_=>absurd (RR h).1 (h1 d (Rr ..))
 | d::p,d'::p',q,q',h,h1,h2=>by
   obtain ⟨e1,e2⟩:=RR h;obtain ⟨e3,e4⟩:=lr e2 (fun x hx=>h1 x (Rp _ hx)) (fun x hx=>h2 x (Rp _ hx));exact ⟨by rw [e1,e3],e4⟩
theorem uZ (c:Nat):∀ l:List Nat,(∀ d∈l,d≠c)∨∃ p q,l=p++c::q/\∀ d∈p,d≠c
 | []=>.inl fun d h=>by cases h
 | x::l=>by
   by_cases hx:x=c
   · exact .inr ⟨[],l,by rw [hx];rfl,fun d h=>by cases h⟩
   · rcases uZ c l with h | ⟨p,q,e,h⟩
     · exact .inl fun d hd=>by
        rcases RA.mp hd with rfl | hd
        · exact hx
        · exact h d hd
     · refine .inr ⟨x::p,q,by rw [e];rfl,fun d hd=>?_⟩;rcases RA.mp hd with rfl | hd
       · exact hx
       · exact h d hd
def KindsOf (f:Rz) (ws:List Rz) (ks:List (Rz×Int)):Prop:=∃ rest,ws=f::rest/\rest≠[]/\So KdOf rest ks
def gN (K:Ri) (C:Rk):Sp:=fun vs H Q E=>∃ w:Rz,vs=[.str w]/\w.length<=100000/\(∀ k:Rz×Int,KdOf w k->∀ (r:Rk) (H':Hp),L2.Same H H'->KAt H' k r->Q (.ref r) H')/\((∀ k,¬ KdOf w k)->∀ H',L2.Same H H'->E (.ref C) none H')
inductive fB (K:Ri) (C:Rk) (vs:List V) (H:Hp) (Q:VK) (E:XK):Prop
 | mk (f:Rz) (wl:Rk) (ws:List Rz) (Aq:vs=[.str f,.ref wl]) (Ar:H wl=some (.lst (ws.map V.str))) (AB:ws.length<=100000) (AQ:(∀ x∈ws,x.length<=100000)) (Bq:(∀ ks,KindsOf f ws ks->∀ (r:Rk) (as:List Rk) (H':Hp),L2.Same H H'->H' r=some (.lst (as.map V.ref))->KsAt H' ks as->Q (.ref r) H')) (Cb:((∀ ks,¬ KindsOf f ws ks)->∀ H',L2.Same H H'->E (.ref C) none H')):fB K C vs H Q E
def lA (K:Ri) (C:Rk):Sp:=fB K C
theorem vf:sL sZ=[47]:=by decide +kernel
theorem cW {n:Rz} (h:aS n=true):(∀ c∈sL n,97<=c/\c<=122)/\n.length<=8/\n.length≠0:=by
 unfold aS low at h;obtain ⟨h1,h2⟩:=R5 _ _ |>.mp h;have h3:=of_decide_eq_true h1;exact ⟨fun c hc=>of_decide_eq_true (Sl.mp h2 c hc),h3.2,by omega⟩
theorem split_le (c:Nat):∀ l:List Nat,(aw c l).length<=l.length+1
 | []=>Rq _
 | d::l=>by
   have ih:=split_le c l;rw [aw];obtain ⟨p,r,e⟩:=bQ c l;rw [e] at ih ⊢;rw [Rh] at ih;split
   · rw [Rh,Rh,Rh];omega
   · rw [Rh,Rh];omega
theorem dh (k:Rz×Int):sL (bj k)=sL k.1++47::sL (aU k.2):=by
 unfold bj;rw [dw,dw,vf,RM];rfl
theorem kS {n:Rz} (h:aS n=true):∀ d∈sL n,d≠47:=fun d hd=>by
 have:=(cW h).1 d hd;omega
theorem KdOf.uniq {w:Rz} {k k':Rz×Int} (h:KdOf w k) (h':KdOf w k'):k=k':=by
 obtain ⟨e,h1,h2⟩:=h;refine hid fun ZZ kZ=>?_;obtain ⟨e',BX,BE⟩:=h';have:=congrArg sL (e.symm.trans e');rw [dh,dh] at this;obtain ⟨a,b⟩:=lr this (kS h1) (kS BX);refine kZ ?_;have a1:k.1=k'.1:=cn a;have b1:aU k.2=aU k'.2:=cn b;have n1:=bB.mpr ⟨rfl,h2⟩;have n2:=bB.mpr ⟨rfl,BE⟩;rw [b1,n2] at n1;exact Prod.ext a1 (Ry n1).symm
open Classical in
noncomputable def kd (w:Rz):Rz×Int:=if h:∃ k,KdOf w k then h.choose else (w,0)
theorem zF {w:Rz} {k:Rz×Int} (h:KdOf w k):kd w=k:=by
 unfold kd;have hx:∃ k,KdOf w k:=⟨k,h⟩;rw [dif_pos hx];exact KdOf.uniq hx.choose_spec h
set_option maxHeartbeats 1000000 in
theorem qx:FnOk P w K mg base CX0 1 T.g_words_in.f T.g_words_in.d ["row"] jY:=by
 refine T.g_words_in.F.ok pW (fun vs H Q E h=>?_) (fun Al A outer s H vs Q E hr h=>?_)
 · obtain ⟨z,rfl,_⟩:=h;rfl
 obtain ⟨z,rfl,hz,q⟩:=h;refine ⟨_,(ai (av (cC (N:=[Rc "word"]) (js:=[none]) (g:=(aC 0)) (tt:=(lz (tOp (rNe) (cj 0) (tC (.str (Rc "")))))) (te:=(cj 0)) rfl (dz rfl (by decide +kernel) (by decide +kernel) rfl rfl rfl) (gE (cb Sr Vs Vr iW (pv 0) (aa ax ae))) (fun _ _ _ _ _ _=>(aD (i:=0) xZ rfl (RH rfl))) (bX rfl) (fun _ _ _ _ _ _=>iM (au eV (pv 0) ax (ay _))) (fun _ _ _ _ _ _=>(pv 0))))),?_⟩
 try dsimp only [AN,Aj]
 refine ⟨_,rfl,rfl,z,Rc " ",rfl,rfl,rfl,by omega,fun p hp=>?_⟩
 have Ca:Ta z (Rc " ")=(aw 32 (sL z)).map ofL:=by
  have h1:Rc " "=⟨#[32]⟩:=rfl;rw [h1,gy _ (by decide)];rfl
 have Ft:=split_le 32 (sL z);rw [dW] at Ft;have s1:L2.Same H (upd H p (.lst ((Ta z (Rc " ")).map V.str))):=ad hp _;have e1:(upd H p (.lst ((Ta z (Rc " ")).map V.str))) p=some (.lst (((aw 32 (sL z)).map ofL).map V.str)):=by rw [ac,Ca]
 generalize (upd H p (.lst ((Ta z (Rc " ")).map V.str)))=H1 at s1 e1 ⊢;refine ⟨p,rfl,⟨_,SqL.of e1⟩,i3 ((aw 32 (sL z)).map ofL) (fun x=>!decide (V.str x=V.str (Rc ""))) V.str (SqL.of e1) (by rw [Rf,Rf,Rf]) (by rw [Rf,Rf];omega) (fun i x y H2 R hx hy sm r=>?_) (fun i x y H2 R hx hy _ sm r=>?_) (fun D hD=>?_)⟩
 · rw [Rw,hy] at hx;cases hx;exact ⟨_,rfl,rfl,_,rfl,r⟩
 · rw [Rw,hy] at hx;cases hx;exact ⟨_,rfl,r⟩
 · rw [qd];exact q D _ (s1.trans (ad hD _)) (s1.free hD) ac
set_option maxHeartbeats 1000000 in
theorem mX:FnOk P w K mg base (CX1 P w) 2 T.g_read_kind.f T.g_read_kind.d ["word"] (gN K T.e_NoText):=by
 refine T.g_read_kind.F.ok1 dB (fun vs H Q E h=>?_) (fun Al A outer s H vs Q E hr h=>?_)
 · obtain ⟨z,rfl,_⟩:=h;rfl
 obtain ⟨z,rfl,hl,kq,ke⟩:=h
 refine ⟨_,(af (gf (cb Sr PySem.F.slot_str_partition PySem.F.type_str_partition mJ (pv 0) (aa ax ae)) (jm rfl (bK (aD (i:=1) dB.nd rfl (RH rfl)) (bK (aD (i:=2) dB.nd rfl (RH rfl)) (bK (aD (i:=3) dB.nd rfl (RH rfl)) fk)))))
  (af (aN (cG (ba (pcF T.g_is_name (iw T) hr (aa (pv 1) ae)) (fun _=>rfl))) (ai (bF T.X_NoText T.x_NoText ax)) aE)
  (ai (av (ce (aa (pv 1) (aa (bc (cD T) (hr.mono (by first | decide | omega)) rfl T.g_read_number.m T.g_read_number.F.kp T.g_read_number.b .nil cI (aa (pv 3) ae)) ae))))))),?_⟩
 try dsimp only [AN,Aj]
 have Dn:(⟨#[47]⟩:Rz)=Rc "/":=by decide +kernel
 rcases uZ 47 (sL z) with El | ⟨pre,post,hs,El⟩
 · have AF:∀ H',L2.Same H H'->E (.ref T.e_NoText) none H':=ke fun k hk=>El 47 (by rw [hk.1,dh];simp) rfl;refine ⟨_,rfl,rfl,.inr ⟨z,47,rfl,by rw [Dn],El,by omega,fun p hp=>?_⟩⟩;have s1:L2.Same H (upd H p (.tup [.str z,.str Tr,.str Tr])):=ad hp _;have e1:(upd H p (.tup [.str z,.str Tr,.str Tr])) p=some (.tup [.str z,.str Tr,.str Tr]):=ac;generalize (upd H p (.tup [.str z,.str Tr,.str Tr]))=H1 at s1 e1 ⊢;refine ⟨p,_,rfl,SqT.of e1,rfl,_,_,rfl,_,_,rfl,_,_,rfl,rfl,?_⟩;dsimp only [aC];refine ⟨_,rfl,z,rfl,by omega,fun H2 s2=>?_⟩;cases aS z with
   | false=>exact ⟨_,rfl,bC (AF H2 (s1.trans s2))⟩
   | true =>
     refine ⟨_,rfl,bL ?_⟩;dsimp only [dR];exact ⟨_,rfl,_,rfl,Tr,rfl,by decide,fun n hn=>absurd (hn.symm.trans (show jC Tr=none by decide +kernel)) (by simp),fun _ H3 s3=>AF H3 (s1.trans (s2.trans s3))⟩
 · have A9:(ofL pre).length<=z.length/\(ofL post).length<=z.length:=by
    rw [dE,dE,<- dW z,hs,Rm,Rh];omega
   refine ⟨_,rfl,rfl,.inl ⟨z,47,pre,post,rfl,by rw [Dn],hs,El,by omega,fun p hp=>?_⟩⟩;have s1:L2.Same H (upd H p (.tup [.str (ofL pre),.str ⟨#[47]⟩,.str (ofL post)])):=ad hp _;have e1:(upd H p (.tup [.str (ofL pre),.str ⟨#[47]⟩,.str (ofL post)])) p=some (.tup [.str (ofL pre),.str ⟨#[47]⟩,.str (ofL post)]):=ac;generalize (upd H p (.tup [.str (ofL pre),.str ⟨#[47]⟩,.str (ofL post)]))=H1 at s1 e1 ⊢
   have BY:∀ k,KdOf z k->k.1=ofL pre/\aU k.2=ofL post:=fun k hk=>by
    have:=hs;rw [hk.1,dh] at this;obtain ⟨a,b⟩:=lr this (kS hk.2.1) El;exact ⟨cn (a.trans (aB pre).symm),cn (b.trans (aB post).symm)⟩
   refine ⟨p,_,rfl,SqT.of e1,rfl,_,_,rfl,_,_,rfl,_,_,rfl,rfl,?_⟩;dsimp only [aC];refine ⟨_,rfl,ofL pre,rfl,by omega,fun H2 s2=>?_⟩;cases hn:aS (ofL pre) with
   | false=>exact ⟨_,rfl,bC (ke (fun k hk=>by have:=hk.2.1;rw [(BY k hk).1,hn] at this;cases this) H2 (s1.trans s2))⟩
   | true =>
     refine ⟨_,rfl,bL ?_⟩;dsimp only [dR];refine ⟨_,rfl,_,rfl,ofL post,rfl,by omega,fun n KZ H3 s3=>⟨aj (by show 2<=1000000;decide),fun r Bp=>?_⟩,fun KZ H3 s3=>ke (fun k hk=>?_) H3 (s1.trans (s2.trans s3))⟩
     · obtain ⟨e2,e3⟩:=bB.mp KZ;refine kq (ofL pre,n) ⟨cn ?_,hn,e3⟩ r _ (s1.trans (s2.trans (s3.trans (ad Bp _)))) ac;show sL z=sL (bj (ofL pre,n));rw [dh,hs,<- e2];rw [show sL (ofL pre)=pre from aB pre,show sL (ofL post)=post from aB post]
     · have:=(bB.mpr ⟨(BY k hk).2.symm,hk.2.2⟩);rw [KZ] at this;cases this
set_option maxHeartbeats 1000000 in
theorem fG:FnOk P w K mg base (CX1 P w) 3 T.g_read_kinds.f T.g_read_kinds.d ["first","words"] (lA K T.e_NoText):=by
 refine T.g_read_kinds.F.ok1 mL (fun vs H Q E h=>?_) (fun Al A outer s H vs Q E hr h=>?_)
 · obtain ⟨f,wl,ws,rfl,_⟩:=h;rfl
 obtain ⟨f,wl,ws,rfl,ew,hlen,hle,kq,ke⟩:=h
 refine ⟨_,(af (aN (PW.pt (eR (au gq (aq am rfl T.n_len RQ (aa (pv 1) ae)) ag (ay _)) (eE (au eV (aA aJ (pv 1) ag (fun _ _=>rfl)) (pv 0) (ay _))))) (ai (bF T.X_NoText T.x_NoText ax)) aE)
  (ai (av (vi (N:=[Rc "word"]) (js:=[none]) (g:=(aC 0)) (tt:=bM) (te:=(nu (gN K T.e_NoText) [] E (bJ (cj 0) dP))) (dz rfl (by decide +kernel) (by decide +kernel) rfl rfl rfl) (gE (aK bp (pv 1) (aO ag) bd)) (fun _ _ _ _ _ _=>(aD (i:=0) xZ rfl (RH rfl))) (bX rfl) (fun _ _ _ _ _ _=>cP) (fun _ _ _ _ _ _=>(bc (mX T) (hr.mono (by first | decide | omega)) rfl T.g_read_kind.m T.g_read_kind.F.kp T.g_read_kind.b .nil zB (aa (pv 0) ae))))))),?_⟩
 try dsimp only [AN,Aj]
 refine ⟨_,rfl,wl,_,rfl,.inl (SqL.of ew),_,_,rfl,rfl,_,rfl,?_⟩;rw [Rf];by_cases c1:ws.length<2
 · rw [decide_eq_true (show ((ws.length:Nat):Int)<2 by omega)];refine bC (ke (fun ks hk=>?_) H (.refl _));refine hid fun ZZ kZ=>?_;obtain ⟨rest,e,Am,_⟩:=hk;refine kZ ?_;have:=SX.mpr Am;rw [e,Rh] at c1;omega
 rw [decide_eq_false (show ¬ ((ws.length:Nat):Int)<2 by omega)];refine bL ?_
 obtain ⟨w0,rest,rfl⟩:∃ w0 rest,ws=w0::rest:=by
  cases ws with
  | nil=>exact absurd (by decide) c1
  | cons w0 rest=>exact ⟨w0,rest,rfl⟩
 rw [Rh] at c1 hlen;refine ⟨_,rfl,wl,_,0,.str w0,rfl,rfl,SqL.of ew,at0,_,rfl,rfl,_,rfl,?_⟩;by_cases c2:w0=f
 case neg =>
  rw [decide_eq_false (show ¬ V.str w0=V.str f from fun z=>c2 (V.str.inj z))];refine bC (ke (fun ks hk=>?_) H (.refl _));obtain ⟨_,e,_⟩:=hk;exact c2 (RR e).1
 subst c2;rw [decide_eq_true rfl];refine bL ?_;dsimp only [dR];refine ⟨_,rfl,1,rfl,wl,_,rfl,SqL.of ew,fun l1 AA=>?_⟩;have FT:cB ((w0::rest).map V.str) (some 1) none=rest.map V.str:=ji _ _;rw [FT];have s1:L2.Same H (upd H l1 (.lst (rest.map V.str))):=ad AA _;have e1:(upd H l1 (.lst (rest.map V.str))) l1=some (.lst (rest.map V.str)):=ac;generalize (upd H l1 (.lst (rest.map V.str)))=H1 at s1 e1 ⊢;have K0:rest≠[]:=fun z=>by rw [z] at c1;exact c1 (by decide)
 refine ⟨l1,rfl,⟨_,SqL.of e1⟩,kJ (F:=fun H z p=>KAt H (kd z) p/\KdOf z (kd z)) (xs:=rest.map V.str) rest (fun H1 H2 z p kt h=>⟨kt _ _ h.1,h.2⟩) (by rw [Rf]) (by rw [Rf];omega) (fun i Hx sx hi=>⟨_,_,SqL.of (sx _ _ e1),Rg hi⟩) (fun Hx sx=>⟨_,SqL.of (sx _ _ e1),Rq _⟩) (fun i Hx x Hy sx hi hy=>⟨hy.1,hy.2 _ (SqL.of (sx _ _ e1))⟩) (fun i x z Hx R W' hx hk sx hR=>?_) (fun D H2 as hD s2 eD A8=>?_)⟩
 · rw [Rw,hk] at hx;cases hx;have hm:=Ru hk;refine ⟨_,rfl,z,rfl,hle z (Rp _ hm),fun k BY r H3 s3 h3=>hR H3 r s3 ?_,fun AF H3 s3=>ke (fun ks A8=>?_) H3 (s1.trans (sx.trans s3))⟩
   · rw [zF BY];exact ⟨h3,BY⟩
   · refine hid fun ZZ kZ=>?_;obtain ⟨CY,e,_,hp⟩:=A8;refine kZ ?_;obtain rfl:=(RR e).2;obtain ⟨k,_,Bd⟩:=P2.get hp hk;exact AF k Bd
 · refine kq (rest.map kd) ⟨rest,rfl,K0,?_⟩ D as H2 (s1.trans s2) eD ?_
   · have:∀ {l:List Rz} {as:List Rk},So (fun z p=>KAt H2 (kd z) p/\KdOf z (kd z)) l as->So KdOf l (l.map kd):=fun {l as} h=>by
      induction h with
      | nil=>exact .nil
      | cons h t ih=>exact .cons h.2 ih
     exact this A8
   · have:∀ {l:List Rz} {as:List Rk},So (fun z p=>KAt H2 (kd z) p/\KdOf z (kd z)) l as->KsAt H2 (l.map kd) as:=fun {l as} h=>by
      induction h with
      | nil=>exact .nil
      | cons h t ih=>exact .cons h.1 ih
     exact this A8
def HeadOf (ws:List Rz) (t:Th):Prop:=∃ rest,ws=Rc "head"::rest/\i9 (pw rest) t
def RuleOf (st:Int) (nm:Rz) (ws:List Rz) (t:Th):Prop:=∃ rest,ws=Rc "rule"::aU st::nm::rest/\rest≠[]/\(0<=st/\st<1000)/\i9 (pw rest) t
def WsOk (ws:List Rz):Prop:=(ws.map (·.length)).sum+ws.length<=6000
theorem WsOk.tail {x:Rz} {ws:List Rz} (h:WsOk (x::ws)):WsOk ws:=by
 unfold WsOk at h ⊢;rw [RB,Tj,Rh] at h;omega
theorem WsOk.mem:∀ {ws:List Rz},WsOk ws->∀ x∈ws,x.length<=6000
 | [],_,x,hx=>by cases hx
 | y::ws,h,x,hx=>by
   rcases RA.mp hx with rfl | hx
   · unfold WsOk at h;rw [RB,Tj] at h;omega
   · exact WsOk.mem h.tail x hx
inductive fK (K:Ri) (C:Rk) (vs:List V) (H:Hp) (Q:VK) (E:XK):Prop
 | mk (wl:Rk) (ws:List Rz) (Aq:vs=[.ref wl]) (Ar:H wl=some (.lst (ws.map V.str))) (AB:WsOk ws) (AQ:(∀ t:Th,HeadOf ws t->t.size<=60000->∀ (r:Rk) (H':Hp),L2.Same H H'->At H' t r->Q (.ref r) H')) (Bq:((∀ t,¬ HeadOf ws t)->∀ H',L2.Same H H'->E (.ref C) none H')):fK K C vs H Q E
def mG (K:Ri) (C:Rk):Sp:=fK K C
inductive fX (K:Ri) (C:Rk) (vs:List V) (H:Hp) (Q:VK) (E:XK):Prop
 | mk (st:Int) (nm:Rz) (wl:Rk) (ws:List Rz) (Aq:vs=[.int st,.str nm,.ref wl]) (Ar:H wl=some (.lst (ws.map V.str))) (AB:WsOk ws) (AQ:(∀ t:Th,RuleOf st nm ws t->t.size<=60000->∀ (r:Rk) (H':Hp),L2.Same H H'->At H' t r->Q (.ref r) H')) (Bq:((∀ t,¬ RuleOf st nm ws t)->∀ H',L2.Same H H'->E (.ref C) none H')):fX K C vs H Q E
def mS (K:Ri) (C:Rk):Sp:=fX K C
set_option maxHeartbeats 1000000 in
theorem mY:FnOk P w K mg base (CX1 P w) 5 T.g_read_head.f T.g_read_head.d ["words"] (mG K T.e_NoText):=by
 refine T.g_read_head.F.ok1 oN (fun vs H Q E h=>?_) (fun Al A outer s H vs Q E hr h=>?_)
 · obtain ⟨wl,ws,rfl,_⟩:=h;rfl
 obtain ⟨wl,ws,rfl,ew,hok,kq,ke⟩:=h
 refine ⟨_,(af (aN (au (yt (B:=150) (v7 hr)) (aK bp (pv 0) bd (aO ag)) (aW (aa ax ae)) (ay _)) (ai (bF T.X_NoText T.x_NoText ax)) aE)
  (ai (av (bc (eY T) (hr.mono (by first | decide | omega)) rfl T.g_read_pattern.m T.g_read_pattern.F.kp T.g_read_pattern.b .nil cI (aa (aK bp (pv 0) (aO ag) bd) ae))))),?_⟩
 try dsimp only [AN,Aj]
 refine ⟨_,rfl,1,rfl,wl,_,rfl,SqL.of ew,fun l1 AA=>?_⟩
 have FT:cB (ws.map V.str) none (some 1)=(ws.take 1).map V.str:=by
  unfold cB;rw [show (1:Int)=((1:Nat):Int) by rfl,HT.sIx_none,HT.sIx_nat,Rf,Tt,VS,<- UB];congr 1;cases ws with
  | nil=>rfl
  | cons x ws=>rw [Rh,TL (by omega)]
 rw [FT];have s1:L2.Same H (upd H l1 (.lst ((ws.take 1).map V.str))):=ad AA _;have e1:(upd H l1 (.lst ((ws.take 1).map V.str))) l1=some (.lst ((ws.take 1).map V.str)):=ac;generalize (upd H l1 (.lst ((ws.take 1).map V.str)))=H1 at s1 e1 ⊢;refine ⟨aj (by show 1<=1000000;decide),fun l2 AG=>?_⟩;have s2:L2.Same H1 (upd H1 l2 (.lst [.str (Rc "head")])):=ad AG _;have e2:(upd H1 l2 (.lst [.str (Rc "head")])) l2=some (.lst [.str (Rc "head")]):=ac;generalize (upd H1 l2 (.lst [.str (Rc "head")]))=H2 at s2 e2 ⊢;have CH:=s1.trans s2;refine ⟨l1,l2,_,_,(ws.take 1).map Dv.str,[.str (Rc "head")],rfl,rfl,SqL.of (s2 _ _ e1),SqL.of e2,?_,.cons (by rw [DAt]) .nil,?_,fun bb C6=>⟨_,rfl,?_⟩⟩
 · cases ws with
   | nil=>exact .nil
   | cons x ws=>exact .cons (by rw [DAt]) .nil
 · cases ws with
   | nil=>decide +kernel
   | cons x ws=>show jj [Dv.str x]<=150;rw [jj,jj,Dv.deep];decide
 by_cases c:ws.take 1=[Rc "head"]
 case neg =>
  have hb:bb=true:=C6.mpr fun z=>c (by
   cases ws with
   | nil=>cases z
   | cons x ws =>
     have:=(RR z).1;cases this;rfl)
  subst hb;refine bC (ke (fun t ht=>?_) H2 CH);obtain ⟨rest,e,_⟩:=ht;rw [e] at c;exact c rfl
 obtain ⟨rest,rfl⟩:∃ rest,ws=Rc "head"::rest:=by
  cases ws with
  | nil=>cases c
  | cons x ws=>exact ⟨ws,by have:=(RR c).1;rw [this]⟩
 have hb:bb=false:=by
  cases bb with
  | false=>rfl
  | true=>exact absurd rfl (C6.mp rfl)
 subst hb;refine bL ?_;dsimp only [dR];refine ⟨_,rfl,1,rfl,wl,_,rfl,SqL.of (CH _ _ ew),fun l3 AX=>?_⟩;have FA:cB ((Rc "head"::rest).map V.str) (some 1) none=rest.map V.str:=ji _ _;rw [FA];have s3:L2.Same H2 (upd H2 l3 (.lst (rest.map V.str))):=ad AX _;have e3:(upd H2 l3 (.lst (rest.map V.str))) l3=some (.lst (rest.map V.str)):=ac;generalize (upd H2 l3 (.lst (rest.map V.str)))=H3 at s3 e3 ⊢;have CF:=CH.trans s3
 exact ⟨l3,rest,rfl,e3,hok.tail,fun t ht hz r H4 s4 h4=>kq t ⟨rest,rfl,ht⟩ hz r H4 (CF.trans s4) h4,fun AF H4 s4=>ke (fun t ht=>by
  obtain ⟨r',e,h'⟩:=ht;rw [<- (RR e).2] at h';exact AF t h') H4 (CF.trans s4)⟩
set_option maxHeartbeats 1000000 in
theorem mW:FnOk P w K mg base (CX1 P w) 5 T.g_read_rule.f T.g_read_rule.d ["state","name","words"] (mS K T.e_NoText):=by
 refine T.g_read_rule.F.ok1 nZ (fun vs H Q E h=>?_) (fun Al A outer s H vs Q E hr h=>?_)
 · obtain ⟨st,nm,wl,ws,rfl,_⟩:=h;rfl
 obtain ⟨st,nm,wl,ws,rfl,ew,hok,kq,ke⟩:=h
 refine ⟨_,(af (aN (PW.pt (eR (au gq (aq am rfl T.n_len RQ (aa (pv 2) ae)) ag (ay _)) (eR (au eV (aA aJ (pv 2) ag (fun _ _=>rfl)) ax (ay _)) (eR (au eV (bc (cD T) (hr.mono (by first | decide | omega)) rfl T.g_read_number.m T.g_read_number.F.kp T.g_read_number.b .nil cI (aa (aA aJ (pv 2) ag (fun _ _=>rfl)) ae)) (pv 0) (ay _)) (eE (au eV (aA aJ (pv 2) ag (fun _ _=>rfl)) (pv 1) (ay _))))))) (ai (bF T.X_NoText T.x_NoText ax)) aE)
  (ai (av (bc (eY T) (hr.mono (by first | decide | omega)) rfl T.g_read_pattern.m T.g_read_pattern.F.kp T.g_read_pattern.b .nil cI (aa (aK bp (pv 2) (aO ag) bd) ae))))),?_⟩
 try dsimp only [AN,Aj]
 refine ⟨_,rfl,wl,_,rfl,.inl (SqL.of ew),_,_,rfl,rfl,_,rfl,?_⟩;rw [Rf];by_cases c0:ws.length<4
 · rw [decide_eq_true (show ((ws.length:Nat):Int)<4 by omega)];refine bC (ke (fun t ht=>?_) H (.refl _));obtain ⟨rest,rfl,Am,_⟩:=ht;have:=SX.mpr Am;simp only [Rh] at c0;omega
 rw [decide_eq_false (show ¬ ((ws.length:Nat):Int)<4 by omega)];refine bL ?_;refine hid fun ZZ kZ=>?_
 obtain ⟨x,y,n,rest,rfl,Am⟩:∃ x y n rest,ws=x::y::n::rest/\rest≠[]:=by
  match ws,c0 with
  | [],h=>exact absurd (by decide) h
  | [_],h=>exact absurd (show 1<4 by decide) h
  | [_,_],h=>exact absurd (show 2<4 by decide) h
  | [_,_,_],h=>exact absurd (show 3<4 by decide) h
  | x::y::n::u::v,_=>exact ⟨x,y,n,u::v,rfl,by simp⟩
 refine kZ ?_
 have hinv:∀ t,RuleOf st nm (x::y::n::rest) t->x=Rc "rule"/\y=aU st/\n=nm/\(0<=st/\st<1000)/\i9 (pw rest) t:=fun t ht=>by
  obtain ⟨r',e,_,h1,h2⟩:=ht;obtain ⟨e1,e⟩:=RR e;obtain ⟨e2,e⟩:=RR e;obtain ⟨e3,e⟩:=RR e;rw [<- e] at h2;exact ⟨e1,e2,e3,h1,h2⟩
 refine ⟨_,rfl,wl,_,0,.str x,rfl,rfl,SqL.of ew,at0,rfl,_,rfl,?_⟩;by_cases c1:x=Rc "rule"
 case neg =>
  rw [decide_eq_false (show ¬ V.str x=V.str (Rc "rule") from fun z=>c1 (V.str.inj z))];exact bC (ke (fun t ht=>c1 (hinv t ht).1) H (.refl _))
 subst c1;rw [decide_eq_true rfl];refine bL ?_;refine ⟨_,rfl,wl,_,1,.str y,rfl,rfl,SqL.of ew,at1,y,rfl,by have:=hok.mem y (by simp);omega,fun m hm H1 s1=>?_,fun hm H1 s1=>ke (fun t ht=>by rw [bB.mpr ⟨(hinv t ht).2.1,(hinv t ht).2.2.2.1⟩] at hm;cases hm) H1 s1⟩;refine ⟨_,rfl,rfl,_,rfl,?_⟩;by_cases c2:m=st
 case neg =>
  rw [decide_eq_false (show ¬ V.int m=V.int st from fun z=>c2 (V.int.inj z))];refine bC (ke (fun t ht=>c2 ?_) H1 s1);rw [bB.mpr ⟨(hinv t ht).2.1,(hinv t ht).2.2.2.1⟩] at hm;exact (Ry hm).symm
 subst c2;rw [decide_eq_true rfl];refine bL ?_;have MX:=s1 _ _ ew;refine ⟨_,rfl,wl,_,2,.str n,rfl,rfl,SqL.of MX,at2,_,rfl,rfl,_,rfl,?_⟩;by_cases c3:n=nm
 case neg =>
  rw [decide_eq_false (show ¬ V.str n=V.str nm from fun z=>c3 (V.str.inj z))];exact bC (ke (fun t ht=>c3 (hinv t ht).2.2.1) H1 s1)
 subst c3;rw [decide_eq_true rfl];refine bL ?_;dsimp only [dR];refine ⟨_,rfl,3,rfl,wl,_,rfl,SqL.of MX,fun l3 AX=>?_⟩
 have FA:cB ((Rc "rule"::y::n::rest).map V.str) (some 3) none=rest.map V.str:=by
  rw [show (3:Int)=((3:Nat):Int) by rfl,jF (by rw [Rf,Rh,Rh,Rh];omega)];rfl
 rw [FA];have s3:L2.Same H1 (upd H1 l3 (.lst (rest.map V.str))):=ad AX _;have e3:(upd H1 l3 (.lst (rest.map V.str))) l3=some (.lst (rest.map V.str)):=ac;generalize (upd H1 l3 (.lst (rest.map V.str)))=H3 at s3 e3 ⊢;have CF:=s1.trans s3;obtain ⟨hy,Hl⟩:=bB.mp hm;exact ⟨l3,rest,rfl,e3,hok.tail.tail.tail,fun t ht hz r H4 s4 h4=>kq t ⟨rest,by rw [hy],Am,Hl,ht⟩ hz r H4 (CF.trans s4) h4,fun AF H4 s4=>ke (fun t ht=>AF t (hinv t ht).2.2.2.2) H4 (CF.trans s4)⟩
theorem sR {t u:Th} (ht:t.tall<=101) (hu:u.tall<=101) (h:t.stP.map (·.2)=u.stP.map (·.2)):t=u:=by
 refine hid fun ZZ kZ=>?_;obtain ⟨F,h1,h2⟩:=gG ht;obtain ⟨G,h3,h4⟩:=gG hu;refine kZ ?_;rw [h,h3] at h1;have:=Ry h1;subst this;rw [h2] at h4;have h5:=congrArg (List.map vt) h4;rw [Ud,Ud,show (vt ∘ je)=eg Th.call from funext qL] at h5;obtain ⟨b1,_⟩:=oB Th.call t;obtain ⟨b2,_⟩:=oB Th.call u;rw [h5,b2,BB.kH,BB.kH] at b1;exact (RR b1).1.symm
theorem RuleOf.uniq {st:Int} {nm:Rz} {ws:List Rz} {t u:Th} (h:RuleOf st nm ws t) (h':RuleOf st nm ws u):t=u:=by
 obtain ⟨r,e,_,_,h1,h2⟩:=h;refine hid fun ZZ kZ=>?_;obtain ⟨r',e',_,_,h3,h4⟩:=h';refine kZ ?_;rw [e] at e';have:r=r':=(RR (RR (RR e').2).2).2;subst this;exact sR h2 h4 (Ry (h1.symm.trans h3))
structure fe (ins:List (Rz×Int)) (rows:List (List Th)) (WR:List (List Rz)):Prop where
 len:WR.length=rows.length * ins.length
 row:∀ row∈rows,row.length=ins.length
 w:∀ (s j:Nat) (row:List Th) (t:Th) (k:Rz×Int),rows[s]?=some row->row[j]?=some t->ins[j]?=some k->∃ ws,WR[s * ins.length+j]?=some ws/\RuleOf (s:Nat) k.1 ws t/\t.size<=60000
structure RlI (H0:Hp) (rl:Rk) (rows:List (List Th)) (n i L:Nat) (AS:List Rk) (H:Hp):Prop where
 sm:L2.Same H0 H
 rl0:H0 rl=none
 er:H rl=some (.lst (AS.map V.ref))
 len:AS.length=L
 nd:AS.Nodup
 fr:∀ a∈AS,H0 a=none
 rln:rl∉AS
 ent:∀ (s:Nat) (a:Rk) (row:List Th),AS[s]?=some a->rows[s]?=some row->∃ Ag:List Rk,H a=some (.lst (Ag.map V.ref))/\Ats H (row.take (i - s * n)) Ag
theorem RlI.same {H0 H H':Hp} {rl:Rk} {rows:List (List Th)} {n i L:Nat} {AS:List Rk} (h:RlI H0 rl rows n i L AS H) (s:L2.Same H H'):RlI H0 rl rows n i L AS H' :=
 ⟨h.sm.trans s,h.rl0,s _ _ h.er,h.len,h.nd,h.fr,h.rln,fun x a row h1 h2=>by
  obtain ⟨Ag,e,ht⟩:=h.ent x a row h1 h2;exact ⟨Ag,s _ _ e,ht.mono (Same.kt s)⟩⟩
def uU (ins:List (Rz×Int)) (WR:List (List Rz)) (i:Nat) (t:Th):Prop:=∃ (ws:List Rz) (k:Rz×Int),WR[i]?=some ws/\ins[i%ins.length]?=some k/\RuleOf ((i / ins.length:Nat):Int) k.1 ws t/\t.size<=60000
open Classical in
noncomputable def tO (ins:List (Rz×Int)) (WR:List (List Rz)) (i:Nat):Th:=if h:∃ t,uU ins WR i t then h.choose else .call 0 0
theorem wd {ins:List (Rz×Int)} {WR:List (List Rz)} {i:Nat} {t:Th} (h:uU ins WR i t):tO ins WR i=t:=by
 unfold tO;have hx:∃ t,uU ins WR i t:=⟨t,h⟩;rw [dif_pos hx];refine hid fun ZZ kZ=>?_;obtain ⟨ws,k,h1,h2,h3,_⟩:=hx.choose_spec;refine kZ ?_;obtain ⟨De,k',BX,BE,IV,_⟩:=h;rw [h1] at BX;rw [h2] at BE;cases BX;cases BE;exact h3.uniq IV
noncomputable def rowsOf (ins:List (Rz×Int)) (WR:List (List Rz)):List (List Th):=(Sw (WR.length / ins.length)).map fun s=>(Sw ins.length).map fun j=>tO ins WR (s * ins.length+j)
theorem iB {ins:List (Rz×Int)} {WR:List (List Rz)} {s:Nat} {row:List Th} (h:(rowsOf ins WR)[s]?=some row):s<WR.length / ins.length/\row=(Sw ins.length).map fun j=>tO ins WR (s * ins.length+j):=by
 unfold rowsOf at h;rw [Rw] at h;obtain ⟨y,hy,rfl⟩:=Tn.mp h;obtain ⟨hl,e⟩:=Rv.mp hy;rw [UA] at hl;rw [List.getElem_range] at e;subst e;exact ⟨hl,rfl⟩
theorem hG {α:Type} {f:Nat->α} {n j:Nat} {x:α} (h:((Sw n).map f)[j]?=some x):j<n/\x=f j:=by
 rw [Rw] at h;obtain ⟨y,hy,rfl⟩:=Tn.mp h;obtain ⟨hl,e⟩:=Rv.mp hy;rw [UA] at hl;rw [List.getElem_range] at e;subst e;exact ⟨hl,rfl⟩
inductive fw (K:Ri) (C:Rk) (vs:List V) (H:Hp) (Q:VK) (E:XK):Prop
 | mk (ia wr:Rk) (AD FC:List Rk) (ins:List (Rz×Int)) (WR:List (List Rz)) (Aq:vs=[.ref ia,.ref wr]) (Ar:H ia=some (.lst (AD.map V.ref))) (AB:KsAt H ins AD) (AQ:ins≠[]) (Bq:ins.length<=1000) (Cb:H wr=some (.lst (FC.map V.ref))) (DF:So (fun ws a=>H a=some (.lst ((ws:List Rz).map V.str))) WR FC) (FQ:WR.length<=1000) (IK:(∀ ws∈WR,WsOk ws)) (IL:(∀ rows,fe ins rows WR->∀ (r:Rk) (AS:List Rk) (H':Hp),L2.Same H H'->H' r=some (.lst (AS.map V.ref))->So (SRow H') rows AS->Q (.ref r) H')) (Fp:((∀ rows,¬ fe ins rows WR)->∀ H',L2.Same H H'->E (.ref C) none H')):fw K C vs H Q E
def lh (K:Ri) (C:Rk):Sp:=fw K C
theorem pi {α β:Type} {F:α->β->Prop}:∀ {a:List α} {b:List β},a.length=b.length->(∀ (i:Nat) (x:α) (y:β),a[i]?=some x->b[i]?=some y->F x y)->So F a b
 | [],[],_,_=>.nil
 | x::a,y::b,hl,h=>.cons (h 0 x y rfl rfl) (pi (by simpa using hl) fun i u v hu hv=>h (i+1) u v (by simpa using hu) (by simpa using hv))
 | [],y::b,hl,_=>by cases hl
 | x::a,[],hl,_=>by cases hl
set_option maxHeartbeats 2000000 in
theorem lS:FnOk P w K mg base (CX1 P w) 6 T.g_read_rules.f T.g_read_rules.d ["ins","rows"] (lh K T.e_NoText):=by
 refine T.g_read_rules.F.ok1 ci (fun vs H Q E h=>?_) (fun Al A outer s H vs Q E hr h=>?_)
 · obtain ⟨ia,wr,AD,FC,ins,WR,rfl,_⟩:=h;rfl
 obtain ⟨ia,wr,AD,FC,ins,WR,rfl,ei,B',Am,h8,K1,MY,PL,PM,kq,ke⟩:=h
 refine ⟨_,(af (aN (au eV (ak aZ (aq am rfl T.n_len RQ (aa (pv 1) ae)) (aq am rfl T.n_len RQ (aa (pv 0) ae))) ag (ay _)) (ai (bF T.X_NoText T.x_NoText ax)) aE)
  (af (ao (i:=2) ci.nd rfl (RH rfl) (aW ae))
  (af (cf VJ rfl (v1 rfl T.n_enumerate (pv 1)) (jm rfl (bK (aD (i:=3) ci.nd rfl (RH rfl)) (bK (aD (i:=4) ci.nd rfl (RH rfl)) fk))) (af (gf (aq qb rfl T.n_divmod PyProof.Rows.boot_divmod (aa (pv 3) (aa (aq am rfl T.n_len RQ (aa (pv 0) ae)) ae))) (jm rfl (bK (aD (i:=5) ci.nd rfl (RH rfl)) (bK (aD (i:=6) ci.nd rfl (RH rfl)) fk))))
  (af (aN (au cq (pv 6) ag (ay _)) (ai (bq (cb RX R9 R8 bh (pv 2) (aa (aW ae) ae)))) aE)
  (ai (bq (cb RX R9 R8 bh (aA aJ (pv 2) (pv 5) (fun _ _=>rfl)) (aa (bc (mW T) (hr.mono (by first | decide | omega)) rfl T.g_read_rule.m T.g_read_rule.F.kp T.g_read_rule.b .nil cI (aa (pv 5) (aa (aA aM (aA aJ (pv 0) (pv 6) (fun _ _=>rfl)) ag (fun _ _=>rfl)) (aa (pv 4) ae)))) ae)))))))
  (ai (av (pv 2)))))),?_⟩
 try dsimp only [AN,Aj]
 have LZ:=SX.mpr Am;have BS:ins.length=AD.length:=R3 B';have C5:WR.length=FC.length:=R3 MY;obtain ⟨n,hn⟩:∃ n,n=ins.length:=⟨_,rfl⟩;have hN:((AD.map V.ref).length:Int)=((n:Nat):Int):=by rw [Rf,hn,BS]
 have hW:((FC.map V.ref).length:Int)=((WR.length:Nat):Int):=by rw [Rf,<- C5]
 refine ⟨_,rfl,wr,_,rfl,.inl (SqL.of K1),_,rfl,ia,_,rfl,.inl (SqL.of ei),_,_,rfl,rfl,(by rw [hN];omega),rfl,_,rfl,?_⟩;rw [hN,hW];have hm:((WR.length:Nat):Int)%((n:Nat):Int)=((WR.length%n:Nat):Int):=rfl;rw [hm];by_cases Eu:WR.length%n=0
 case neg =>
  rw [decide_eq_false (show ¬ V.int ((WR.length%n:Nat):Int)=V.int 0 from fun z=>Eu (by have:=V.int.inj z;omega))];refine bC (ke (fun rows hR=>Eu ?_) H (.refl _));rw [hR.len,hn];exact Nat.mul_mod_left _ _
 rw [Eu,decide_eq_true (show V.int ((0:Nat):Int)=V.int 0 from rfl)];refine bL ?_;dsimp only [dR];obtain ⟨rows,AK⟩:∃ rows,rows=rowsOf ins WR:=⟨_,rfl⟩;have Hm:rows.length=WR.length / n:=by rw [AK,hn];unfold rowsOf;rw [Rf,UA]
 have PN:rows.length<=1000:=by rw [Hm];exact SO (Nat.div_le_self _ _) PL
 have Hn:WR.length=rows.length * n:=by rw [Hm,Nat.div_mul_cancel (Nat.dvd_of_mod_eq_zero Eu)]
 have CZ:∀ row∈rows,row.length=n:=fun row Ae=>by
  obtain ⟨s,hs⟩:=Sv.mp Ae;rw [AK] at hs;rw [(iB hs).2,Rf,UA,hn]
 refine ⟨aj (by show 0<=1000000;decide),fun rl Cs=>?_⟩;have s1:L2.Same H (upd H rl (.lst [])):=ad Cs _;have e1:(upd H rl (.lst [])) rl=some (.lst (([]:List Rk).map V.ref)):=ac;generalize (upd H rl (.lst []))=H1 at s1 e1 ⊢;dsimp only [aC];have Ct:0<n:=by omega
 refine ⟨_,rfl,wr,rfl,⟨_,SqL.of (s1 _ _ K1)⟩,?_⟩
 refine tV (K:=K) (a:=wr) (xs:=FC.map V.ref) (fun i σ H3=>Ex5 fun (c3 c4 c5 c6:Option V) (AS:List Rk)=>An3 (σ=[some (.ref ia),some (.ref wr),some (.ref rl),c3,c4,c5,c6]) (RlI H rl rows n i ((i+n - 1) / n) AS H3) (∀ i',i'<i->uU ins WR i' (tO ins WR i')))
  ⟨none,none,none,none,[],rfl,⟨s1,Cs,e1,by rw [Uy,U5 (by omega)];rfl,VW,(fun a h=>by cases h),Tz,fun s a row h=>by simp at h⟩,fun i' h=>absurd h (Nat.not_lt_zero _)⟩ (fun i σ H3 _ ⟨_,_,_,_,_,_,I,_⟩=>SqL.of (I.sm _ _ K1)) ?_ ?_
 · rintro i x pr σ H3 hx KP ⟨c3,c4,c5,c6,AS,rfl,I0,Ai⟩;obtain ⟨wa,rfl,IW⟩:=bY hx;have PQ:=(Rv.mp IW).1;have Ho:i<rows.length * n:=by rw [<- Hn];omega
   obtain ⟨s,hs⟩:∃ s,s=i / n:=⟨_,rfl⟩;obtain ⟨j,hj⟩:∃ j,j=i%n:=⟨_,rfl⟩;have Ek:i=s * n+j:=by rw [hs,hj,U3];exact (VM i n).symm
   have IX:j<n:=by rw [hj];exact Nat.mod_lt _ Ct
   have PR:s<rows.length:=by rw [hs];exact WD (by rw [U3];exact Ho)
   have s4:L2.Same H3 (upd H3 pr (.tup [.int ((i:Nat):Int),.ref wa])):=ad KP _;have e4:(upd H3 pr (.tup [.int ((i:Nat):Int),.ref wa])) pr=some (.tup [.int ((i:Nat):Int),.ref wa]):=ac;generalize (upd H3 pr (.tup [.int ((i:Nat):Int),.ref wa]))=H4 at s4 e4 ⊢;have I4:=I0.same s4;refine ⟨pr,_,rfl,SqT.of e4,rfl,_,_,rfl,_,_,rfl,rfl,?_⟩;dsimp only [aC];refine ⟨_,rfl,_,rfl,ia,_,rfl,.inl (SqL.of (I4.sm _ _ ei)),_,_,rfl,⟨by rw [hN];omega,by rw [hN];omega⟩,fun dp PU=>?_⟩;rw [hN];have Fw:((i:Nat):Int) / ((n:Nat):Int)=((s:Nat):Int):=by rw [hs];rfl
   have hd2:((i:Nat):Int)%((n:Nat):Int)=((j:Nat):Int):=by rw [hj];rfl
   rw [Fw,hd2];have s5:L2.Same H4 (upd H4 dp (.tup [.int ((s:Nat):Int),.int ((j:Nat):Int)])):=ad PU _;have e5:(upd H4 dp (.tup [.int ((s:Nat):Int),.int ((j:Nat):Int)])) dp=some (.tup [.int ((s:Nat):Int),.int ((j:Nat):Int)]):=ac;generalize (upd H4 dp (.tup [.int ((s:Nat):Int),.int ((j:Nat):Int)]))=H5 at s5 e5 ⊢;have I5:=I4.same s5;refine ⟨dp,_,rfl,SqT.of e5,rfl,_,_,rfl,_,_,rfl,rfl,?_⟩;dsimp only [aC]
   have DT:(i+n - 1) / n=if j=0 then s else s+1:=by
    split
    · rename_i h
      rw [Ek,h,Nat.add_zero,show s * n+n - 1=(n - 1)+s * n by omega,US _ _ Ct,U5 (by omega),Uy]
    · rw [Ek,show s * n+j+n - 1=(j - 1)+(s+1) * n by rw [TV];omega,US _ _ Ct,U5 (by omega),Uy]
   have Hq:(i+1+n - 1) / n=s+1:=by
    rw [Ek,show s * n+j+1+n - 1=j+(s+1) * n by rw [TV];omega,US _ _ Ct,U5 IX,Uy]
   refine aG (fun f' H'=>Ex1 fun (Ew:List Rk)=>An2 (f'=[some (.ref ia),some (.ref wr),some (.ref rl),some (.int ((i:Nat):Int)),some (.ref wa),some (.int ((s:Nat):Int)),some (.int ((j:Nat):Int))]) (RlI H rl rows n i (s+1) Ew H')) (fun kk hk=>?_) ?_
   · refine ⟨_,rfl,rfl,_,rfl,?_⟩;by_cases F5:j=0
     · rw [decide_eq_true (show V.int ((j:Nat):Int)=V.int 0 by rw [F5];rfl)];refine bC ?_;refine ⟨_,rfl,.inl ⟨rfl,_,SqL.of I5.er⟩,aj (by show 0<=1000000;decide),fun la BD=>?_⟩;have s6:L2.Same H5 (upd H5 la (.lst [])):=ad BD _;have e6:(upd H5 la (.lst [])) la=some (.lst (([]:List Rk).map V.ref)):=ac;generalize (upd H5 la (.lst []))=H6 at s6 e6 ⊢;have I6:=I5.same s6;have IY:la≠rl:=fun z=>by rw [z,I5.er] at BD;cases BD
       have PV:la∉AS:=fun z=>by
        obtain ⟨y,hy⟩:=Sv.mp z;have GG:=(Rv.mp hy).1;have hL:=I5.len;rw [DT,if_pos F5] at hL;obtain ⟨row,Ae⟩:∃ row,rows[y]?=some row:=⟨_,Rg (by omega)⟩;obtain ⟨Ag,e,_⟩:=I5.ent y la row hy Ae;rw [BD] at e;cases e
       have hL:=I6.len;rw [DT,if_pos F5] at hL;refine ⟨rl,_,_,rfl,rfl,I6.er,bn (by rw [Rf];omega),?_⟩;have k7:KT H6 (upd H6 rl (.lst (AS.map V.ref++[.ref la]))):=bG I6.er;refine hk _ _ ⟨AS++[la],rfl,aH I6.sm I6.rl0,I6.rl0,by rw [ac,RC];rfl,by rw [Rm,hL];rfl,Xj.mpr ⟨I6.nd,Tv.mpr ⟨Tz,VW⟩,fun b hb c hc e=>PV (by rw [<- RO.mp hc,<- e];exact hb)⟩,fun b hb=>?_,fun z=>?_,fun y a row h1 h2=>?_⟩
       · rcases RN.mp hb with hb | hb
         · exact I6.fr b hb
         · rw [RO.mp hb];exact I5.sm.free BD
       · rcases RN.mp z with z | z
         · exact I6.rln z
         · exact IY (RO.mp z).symm
       · by_cases hy:y<AS.length
         · rw [TQ hy] at h1;obtain ⟨Ag,e,ht⟩:=I6.ent y a row h1 h2;have DM:a≠rl:=fun z=>I6.rln (by rw [<- z];exact Ru h1);exact ⟨Ag,by rw [ar DM];exact e,ht.mono k7⟩
         · have PX:=(Rv.mp h1).1;rw [Rm,Sg] at PX;obtain rfl:y=s:=by omega
           rw [SY (by omega),hL,Vt] at h1;cases h1;refine ⟨[],by rw [ar IY];exact e6,?_⟩;rw [Ek,F5,Nat.add_zero,Vt,Uj];exact .nil
     · rw [decide_eq_false (show ¬ V.int ((j:Nat):Int)=V.int 0 from fun z=>F5 (by have:=V.int.inj z;omega))];refine bL ?_;dsimp only [dR];refine hk _ _ ⟨AS,rfl,?_⟩;rw [DT,if_neg F5] at I5;exact I5
   · rintro f' H6 ⟨Ew,rfl,I6⟩;refine hid fun ZZ kZ=>?_;obtain ⟨la,BD⟩:∃ la,Ew[s]?=some la:=⟨_,Rg (by rw [I6.len];omega)⟩;obtain ⟨row,Ae⟩:∃ row,rows[s]?=some row:=⟨_,Rg PR⟩;have PY:=CZ row (Ru Ae);obtain ⟨t,ht⟩:∃ t,row[j]?=some t:=⟨_,Rg (by omega)⟩;obtain ⟨k,hk⟩:∃ k,ins[j]?=some k:=⟨_,Rg (by omega)⟩;obtain ⟨ka,Bm,CJ⟩:=P2.get B' hk;obtain ⟨ws,B6,PZ⟩:=P2.get' MY IW
     have MZ:t=tO ins WR i:=by
      rw [AK] at Ae;have e:=(iB Ae).2;rw [e] at ht;rw [(hG ht).2,<- hn,<- Ek]
     have P0:ins[i%ins.length]?=some k:=by rw [<- hn,<- hj];exact hk
     obtain ⟨Ag,Dp,Dh⟩:=I6.ent s la row BD Ae;refine kZ ?_;have BZ:=Dh.length;rw [Rx] at BZ;refine ⟨_,rfl,_,rfl,rl,_,_,.ref la,rfl,rfl,SqL.of I6.er,at_nonneg (by omega) (by rw [Tq,Rw,BD];rfl),.inl ⟨rfl,_,SqL.of Dp⟩,?_⟩;refine ⟨_,rfl,_,rfl,_,rfl,ia,_,_,.ref ka,rfl,rfl,SqL.of (I6.sm _ _ ei),at_nonneg (by omega) (by rw [Tq,Rw,Bm];rfl),ka,_,0,.str k.1,rfl,rfl,SqT.of (I6.sm _ _ CJ),at0,_,rfl,?_⟩;refine ⟨((s:Nat):Int),k.1,wa,ws,rfl,I6.sm _ _ PZ,PM ws (Ru B6),fun u Hr P1 r H7 s7 P4=>?_,fun AF H7 s7=>ke (fun AZ K2=>?_) H7 (I6.sm.trans s7)⟩
     rotate_left
     · have CO:=K2.len;rw [<- hn] at CO;have Hs:AZ.length=rows.length:=Nat.eq_of_mul_eq_mul_right Ct (by rw [<- CO,<- Hn]);refine hid fun ZZ kZ=>?_;obtain ⟨Bu,Bn⟩:∃ Bu,AZ[s]?=some Bu:=⟨_,Rg (by omega)⟩;obtain ⟨t',CW⟩:∃ t',Bu[j]?=some t':=⟨_,Rg (by rw [K2.row Bu (Ru Bn)];omega)⟩;obtain ⟨De,Ht,P5,_⟩:=K2.w s j Bu t' k Bn CW hk;refine kZ ?_;rw [<- hn,<- Ek,B6] at Ht;cases Ht;exact AF t' P5
     have M0:uU ins WR i u:=⟨ws,k,B6,P0,by rw [<- hn,<- hs];exact Hr,P1⟩;have M1:u=t:=by rw [MZ];exact (wd M0).symm
     subst M1;have I7:=I6.same s7;have Hu:=s7 _ _ Dp;refine ⟨la,_,_,rfl,rfl,Hu,bn (by rw [Rf];omega),?_⟩;have Df:=Ru BD;have IY:la≠rl:=fun z=>I6.rln (by rw [<- z];exact Df);have k8:KT H7 (upd H7 la (.lst (Ag.map V.ref++[.ref r]))):=bG Hu;refine ⟨_,_,_,_,Ew,rfl,⟨aH I7.sm (I7.fr la Df),I7.rl0,by rw [ar IY.symm];exact I7.er,by rw [Hq];exact I7.len,I7.nd,I7.fr,I7.rln,fun y a Bu h1 h2=>?_⟩,fun i' B2=>?_⟩;by_cases M3:y=s
     · subst M3;rw [BD] at h1;cases h1;rw [Ae] at h2;cases h2;refine ⟨Ag++[r],by rw [ac,RC];rfl,?_⟩;have e1:i - y * n=j:=by omega
       have e2:i+1 - y * n=j+1:=by omega
       rw [e1] at Dh;rw [e2,take_snoc ht];exact Ats.append (Dh.mono ((Same.kt s7).trans k8)) (.cons (P4.mono k8) .nil)
     · obtain ⟨Fv,e,CW⟩:=I7.ent y a Bu h1 h2
       have DM:a≠la:=fun z=>by
        rw [z] at h1;exact M3 ((List.getElem?_inj (Rv.mp h1).1 I7.nd).mp (h1.trans BD.symm))
       refine ⟨Fv,by rw [ar DM];exact e,?_⟩;have GG:=(Rv.mp h1).1;rw [I7.len] at GG;have P6:=CZ Bu (Ru h2);have hmul:(y+1) * n<=s * n:=UZ _ (by omega);rw [TV] at hmul;rw [Sd (by omega)] at CW ⊢;exact CW.mono k8
     · by_cases Ec:i'=i
       · rw [Ec,<- MZ];exact M0
       · exact Ai i' (by omega)
 · rintro σ H3 ⟨c3,c4,c5,c6,AS,rfl,I,Ai⟩;rw [Rf,<- C5] at I Ai;rw [Hn] at I
   have P7:fe ins rows WR:=⟨by rw [<- hn];exact Hn,fun row Ae=>by rw [<- hn];exact CZ row Ae,fun s j row t k h1 h2 h3=>by
    have Dn:=(Rv.mp h1).1;have IX:j<n:=by rw [hn];exact (Rv.mp h3).1
    have AH:s * n+j<WR.length:=by
     rw [Hn];have:(s+1) * n<=rows.length * n:=UZ _ Dn;rw [TV] at this;omega
    rw [AK] at h1;rw [(iB h1).2] at h2;have e2:=(hG h2).2;rw [<- hn] at e2 ⊢;obtain ⟨ws,k',hw,BP,Hr,hz⟩:=Ai (s * n+j) AH;rw [<- hn,show (s * n+j)%n=j by rw [Nat.add_comm,Nat.add_mul_mod_self_right,Nat.mod_eq_of_lt IX],h3] at BP;rw [<- hn,show (s * n+j) / n=s by rw [Nat.add_comm,US _ _ Ct,U5 IX,Uy]] at Hr;cases BP;rw [<- e2] at Hr hz;exact ⟨ws,hw,Hr,hz⟩⟩
   refine ⟨_,rfl,kq rows P7 rl AS H3 I.sm I.er (pi ?_ fun y row a h1 h2=>?_)⟩
   · rw [I.len,show rows.length * n+n - 1=(n - 1)+rows.length * n by omega,US _ _ Ct,U5 (by omega),Uy]
   · obtain ⟨Ag,e,ht⟩:=I.ent y a row h2 h1;have GG:=(Rv.mp h1).1;have hmul:(y+1) * n<=rows.length * n:=UZ _ (by omega);rw [TV] at hmul;rw [Sd (by rw [CZ row (Ru h1)];omega)] at ht;exact ⟨Ag,.inl e,ht⟩
def bw (r:List Nat):List Rz:=(wds r).map ofL
theorem gw (c:Nat):∀ l:List Nat,((aw c l).map fun p=>p.length+1).sum=l.length+1
 | []=>rfl
 | d::l=>by
   have ih:=gw c l;rw [aw];obtain ⟨p,r,e⟩:=bQ c l;rw [e] at ih ⊢;rw [RB,Tj] at ih;split
   · simp only [RB,Tj,Rh,TM];omega
   · simp only [RB,Tj,Rh];omega
theorem lW (p:List Nat->Bool) (l:List (List Nat)):((l.filter p).map fun x=>x.length+1).sum<=(l.map fun x=>x.length+1).sum:=by
 induction l with
 | nil=>exact Rq _
 | cons x l ih =>
   rw [U7,RB,Tj];split
   · rw [RB,Tj];omega
   · omega
theorem uB {r:List Nat} (h:r.length<=5900):WsOk (bw r):=by
 have h1:=SO (lW (fun p=>!p.isEmpty) (aw 32 r)) (Wj (gw 32 r))
 have h2:∀ l:List (List Nat),((l.map ofL).map (·.length)).sum+(l.map ofL).length=(l.map fun x=>x.length+1).sum:=fun l=>by
  induction l with
  | nil=>rfl
  | cons x l ih =>
    simp only [RB,Tj,Rh] at ih ⊢;rw [dE];omega
 show ((((aw 32 r).filter fun p=>!p.isEmpty).map ofL).map (·.length)).sum+(((aw 32 r).filter fun p=>!p.isEmpty).map ofL).length<=6000;rw [h2];omega
theorem nz {α β:Type} {F:α->β->Prop}:∀ {a:List α} {b:List β},So F a b->So (fun y x=>F x y) b a
 | _,_,.nil=>.nil
 | _,_,.cons h t=>.cons h (nz t)
theorem yL {r:List Nat}:2 * (bw r).length<=r.length+1:=by
 have h1:=SO (lW (fun p=>!p.isEmpty) (aw 32 r)) (Wj (gw 32 r))
 have h2:∀ l:List (List Nat),(∀ p∈l,p≠[])->2 * l.length<=(l.map fun x=>x.length+1).sum:=fun l hl=>by
  induction l with
  | nil=>exact Rq _
  | cons x l ih =>
    have:=ih fun p hp=>hl p (Rp _ hp);have hx:=SX.mpr (hl x (Rr ..));rw [Rh,RB,Tj];omega
 have h3:=h2 ((aw 32 r).filter fun p=>!p.isEmpty) fun p hp e=>by
  have:=(Vi.mp hp).2;rw [e] at this;cases this
 unfold bw wds;rw [Rf];omega
structure ox (z:Rz):Prop where
 zl:z.length<=1000000
 rl:∀ r∈aw 10 (sL z),r.length<=5900
 r2:∀ r∈(aw 10 (sL z)).take 2,r.length<=1900
 n:(aw 10 (sL z)).length<=1000
structure cY (z:Rz) (ins outs:List (Rz×Int)) (head:Th) (rows:List (List Th)):Prop where
 ex:∃ r0 r1 r2 rest,aw 10 (sL z)=r0::r1::r2::rest/\KindsOf (Rc "in") (bw r0) ins/\KindsOf (Rc "out") (bw r1) outs/\HeadOf (bw r2) head/\fe ins rows (rest.map bw)
def gX (K:Ri) (CT CK CB:Rk):Sp:=fun vs H Q E=>∃ z:Rz,vs=[.str z]/\ox z/\(∀ ins outs head rows,cY z ins outs head rows->aV ins=true->aV outs=true->ig ins outs head rows->∀ (r:Rk) (H':Hp),L2.Same H H'->Bk H' ins outs head rows r->Q (.ref r) H')/\(∀ ins outs head rows,cY z ins outs head rows->¬ (aV ins=true/\aV outs=true)->∀ H',L2.Same H H'->E (.ref CK) none H')/\(∀ ins outs head rows,cY z ins outs head rows->aV ins=true->aV outs=true->¬ ig ins outs head rows->∀ H',L2.Same H H'->E (.ref CB) none H')/\((∀ ins outs head rows,¬ cY z ins outs head rows)->∀ H',L2.Same H H'->E (.ref CT) none H')
theorem pS:∀ {l:List Rz} {a b:List (Rz×Int)},So KdOf l a->So KdOf l b->a=b
 | _,_,_,.nil,.nil=>rfl
 | _,_,_,.cons h t,.cons h' t'=>by rw [KdOf.uniq h h',pS t t']
theorem KindsOf.uniq {f:Rz} {ws:List Rz} {ks M4:List (Rz×Int)}:KindsOf f ws ks->KindsOf f ws M4->ks=M4
 | ⟨r,e,_,hp⟩,⟨r',e',_,Dk⟩=>by
   rw [e] at e';have e2:=(RR e').2;subst e2;exact pS hp Dk
def tX (H:Hp) (ws:List Rz) (a:Rk):Prop:=H a=some (.lst (ws.map V.str))
theorem pA {α β:Type} {F G:α->β->Prop}:∀ {a:List α} {b:List β},(∀ x y,y∈b->F x y->G x y)->So F a b->So G a b
 | _,_,_,.nil=>.nil
 | _,_,f,.cons h t=>.cons (f _ _ (Rr ..) h) (pA (fun x y hy=>f x y (Rp _ hy)) t)
set_option maxHeartbeats 2000000 in
theorem g7:FnOk P w K mg base (CX1 P w) 8 T.g_read_book.f T.g_read_book.d ["text"] (gX K T.e_NoText T.e_NoKinds T.e_NoBook):=by
 refine T.g_read_book.F.ok1 cO (fun vs H Q E h=>?_) (fun Al A outer s H vs Q E hr h=>?_)
 · obtain ⟨z,rfl,_⟩:=h;rfl
 obtain ⟨z,rfl,B,kq,kk,kb,kt⟩:=h
 refine ⟨_,(af (oV (i:=1) (N:=[Rc "row"]) (js:=[none]) (g:=(aC 0)) (tt:=bM) (te:=(nu jY [] E0 (bJ (cj 0) dP))) cO.nd rfl (RH rfl) rfl (dz rfl (by decide +kernel) (by decide +kernel) rfl rfl rfl) (gE (cb Sr Vs Vr iW (pv 0) (aa ax ae))) (fun _ _ _ _ _ _=>(aD (i:=0) aan rfl (RH rfl))) (bX rfl) (fun _ _ _ _ _ _=>cP) (fun _ _ _ _ _ _=>(pcF T.g_words_in (qx T) hr (aa (pv 0) ae))))
  (af (aN (au gq (aq am rfl T.n_len RQ (aa (pv 1) ae)) ag (ay _)) (ai (bF T.X_NoText T.x_NoText ax)) aE)
  (af (ao (i:=2) cO.nd rfl (RH rfl) (bc (fG T) (hr.mono (by first | decide | omega)) rfl T.g_read_kinds.m T.g_read_kinds.F.kp T.g_read_kinds.b .nil cI (aa ax (aa (aA aJ (pv 1) ag (fun _ _=>rfl)) ae))))
  (af (ao (i:=3) cO.nd rfl (RH rfl) (bc (fG T) (hr.mono (by first | decide | omega)) rfl T.g_read_kinds.m T.g_read_kinds.F.kp T.g_read_kinds.b .nil cI (aa ax (aa (aA aJ (pv 1) ag (fun _ _=>rfl)) ae))))
  (af (ao (i:=4) cO.nd rfl (RH rfl) (bc (mY T) (hr.mono (by first | decide | omega)) rfl T.g_read_head.m T.g_read_head.F.kp T.g_read_head.b .nil cI (aa (aA aJ (pv 1) ag (fun _ _=>rfl)) ae)))
  (ai (av (bc (mV T) (hr.mono (by first | decide | omega)) rfl T.g_made_book.m T.g_made_book.F.kp T.g_made_book.b .nil cI (aa (pv 2) (aa (pv 3) (aa (pv 4) (aa (bc (lS T) (hr.mono (by first | decide | omega)) rfl T.g_read_rules.m T.g_read_rules.F.kp T.g_read_rules.b .nil cI (aa (pv 2) (aa (aK bp (pv 1) (aO ag) bd) ae))) ae)))))))))))),?_⟩
 try dsimp only [AN,Aj]
 have Q2:=B.zl;have K3:=B.n;refine ⟨_,rfl,rfl,z,Rc "\n",rfl,rfl,rfl,by omega,fun p hp=>?_⟩;obtain ⟨R,hR⟩:∃ R,R=aw 10 (sL z):=⟨_,rfl⟩;rw [<- hR] at K3
 have Ca:Ta z (Rc "\n")=R.map ofL:=by
  have h1:Rc "\n"=⟨#[10]⟩:=rfl;rw [h1,gy _ (by decide),hR];rfl
 have s1:L2.Same H (upd H p (.lst ((Ta z (Rc "\n")).map V.str))):=ad hp _;have e1:(upd H p (.lst ((Ta z (Rc "\n")).map V.str))) p=some (.lst ((R.map ofL).map V.str)):=by rw [ac,Ca]
 generalize (upd H p (.lst ((Ta z (Rc "\n")).map V.str)))=H1 at s1 e1 ⊢;refine ⟨p,rfl,⟨_,SqL.of e1⟩,fun D hD=>?_⟩;refine ⟨R.length,fun j H2=>Ex1 fun (as:List Rk)=>An5 (j<=R.length) (L2.Same H1 H2) (H2 D=some (.lst (as.map V.ref))) (D∉as) (So (tX H2) ((R.take j).map bw) as),⟨[],Sk _,ad hD _,ac,Tz,.nil⟩,?_⟩;rintro j H2 ⟨as,hj,s2,eD,M5,has⟩;have K4:=s2 _ _ e1;have FW:((R.take j).map bw).length=as.length:=R3 has;rw [Rf,Rx] at FW;by_cases M6:j=R.length
 · left;refine ⟨⟨_,SqL.of K4,by rw [Rf,Rf,M6];exact Rq _⟩,?_⟩;rw [M6,U6] at has;dsimp only [aC];have BD:as.length=R.length:=by omega
   refine ⟨_,rfl,D,_,rfl,.inl (SqL.of eD),_,_,rfl,rfl,_,rfl,?_⟩;have B3:=s1.trans s2;by_cases h3:R.length<3
   · rw [decide_eq_true (show (((as.map V.ref).length:Nat):Int)<3 by rw [Rf];omega)];refine bC (kt (fun ins outs head rows hb=>?_) H2 B3);refine hid fun ZZ kZ=>?_;obtain ⟨r0,r1,r2,rest,e,_⟩:=hb;refine kZ ?_;rw [<- hR] at e;rw [e] at h3;exact absurd h3 (by show ¬ rest.length+1+1+1<3;omega)
   rw [decide_eq_false (show ¬ (((as.map V.ref).length:Nat):Int)<3 by rw [Rf];omega)];refine hid fun ZZ kZ=>?_
   obtain ⟨r0,r1,r2,rest,F6⟩:∃ r0 r1 r2 rest,R=r0::r1::r2::rest:=by
    match R,h3 with
    | [],h=>exact absurd (by decide) h
    | [_],h=>exact absurd (show 1<3 by decide) h
    | [_,_],h=>exact absurd (show 2<3 by decide) h
    | r0::r1::r2::rest,_=>exact ⟨r0,r1,r2,rest,rfl⟩
   refine kZ ?_;have IZ:∀ r∈r0::r1::r2::rest,r.length<=5900:=fun r hr=>B.rl r (by rw [<- hR,F6];exact hr);have MW:∀ r∈[r0,r1],r.length<=1900:=fun r hr=>B.r2 r (by rw [<- hR,F6];exact hr);have Ex:aw 10 (sL z)=r0::r1::r2::rest:=by rw [<- hR,F6]
   rw [F6] at has;have BD:as.length=rest.length+3:=by rw [BD,F6];rfl
   have Hv:rest.length<=1000:=by rw [F6] at K3;have:rest.length+1+1+1<=1000:=K3;omega
   refine bL ?_;dsimp only [dR];refine hid fun ZZ kZ=>?_;obtain ⟨a0,h0,w0⟩:=P2.get has (i:=0) rfl;obtain ⟨a1,h1,w1⟩:=P2.get has (i:=1) rfl;obtain ⟨a2,h2,w2⟩:=P2.get has (i:=2) rfl;refine kZ ?_;have AW:∀ (i:Nat) (a:Rk),as[i]?=some a->atI (as.map V.ref) ((i:Nat):Int)=some (.ref a):=fun i a h=>fg (by rw [Rw,h];rfl);unfold tX at w0 w1 w2
   have M7:∀ r∈r0::r1::r2::rest,∀ x∈bw r,x.length<=100000:=fun r hr x hx=>by
    have h1:=(uB (IZ r hr)).mem x hx;omega
   have Ea:∀ r∈[r0,r1],(bw r).length<=960:=fun r hr=>by
    have h1:=yL (r:=r);have h2:=MW r hr;omega
   have Fj:∀ {f:Rz} {r:List Nat} {ks:List (Rz×Int)},r∈[r0,r1]->KindsOf f (bw r) ks->ks≠[]/\ks.length<=1000/\∀ k∈ks,k.1.length<=100000:=fun {f r ks} hr hk=>by
    obtain ⟨rs,e,Am,hp⟩:=hk;have h1:=Ea r hr;rw [e,Rh] at h1;have h2:=R3 hp;refine ⟨fun z=>Am (R4.mp (by rw [h2,z];rfl)),by omega,fun k hk=>?_⟩;obtain ⟨i,hi⟩:=Sv.mp hk;obtain ⟨x,_,hx⟩:=P2.get (show So (fun (k:Rz×Int) (x:Rz)=>KdOf x k) ks rs from nz hp) hi;have:=(cW hx.2.1).2.1;omega
   refine ⟨_,rfl,D,_,0,.ref a0,rfl,rfl,SqL.of eD,AW 0 a0 h0,_,a0,bw r0,rfl,w0,by have:=Ea r0 (by simp);omega,M7 r0 (by simp),fun ins Ey ia AD H3 s3 M8 M9=>?hm,fun AF H3 s3=>kt (fun i o hd Cv hb=>?hs) H3 (B3.trans s3)⟩
   case hs =>
    refine hid fun ZZ kZ=>?_;obtain ⟨K5,Du,K6,CY,e,h,_⟩:=hb;refine kZ ?_;rw [Ex] at e;rw [<- (RR e).1] at h;exact AF i h
   dsimp only [aC];refine ⟨_,rfl,D,_,1,.ref a1,rfl,rfl,SqL.of (s3 _ _ eD),AW 1 a1 h1,_,a1,bw r1,rfl,s3 _ _ w1,by have:=Ea r1 (by simp);omega,M7 r1 (by simp),fun outs DU oa Ap H4 s4 P8 P9=>?hm2,fun AF H4 s4=>kt (fun i o hd Cv hb=>?hs2) H4 (B3.trans (s3.trans s4))⟩
   case hs2 =>
    refine hid fun ZZ kZ=>?_;obtain ⟨K5,Du,K6,CY,e,_,h,_⟩:=hb;refine kZ ?_;rw [Ex] at e;rw [<- (RR (RR e).2).1] at h;exact AF o h
   refine hid fun ZZ kZ=>?_;obtain ⟨ine,i8,P'⟩:=Fj (by simp) Ey;obtain ⟨one,o8,K7⟩:=Fj (by simp) DU;refine kZ ?_
   have hinv:∀ i o hd Cv,cY z i o hd Cv->i=ins/\o=outs/\HeadOf (bw r2) hd/\fe ins Cv (rest.map bw):=fun i o hd Cv hb=>by
    obtain ⟨K5,Du,K6,CY,e,h1,h2,h3,h4⟩:=hb;rw [Ex] at e;obtain ⟨x0,e⟩:=RR e;obtain ⟨x1,e⟩:=RR e;obtain ⟨x2,x3⟩:=RR e;rw [<- x0] at h1;rw [<- x1] at h2;rw [<- x2] at h3;rw [<- x3,KindsOf.uniq h1 Ey] at h4;exact ⟨KindsOf.uniq h1 Ey,KindsOf.uniq h2 DU,h3,h4⟩
   dsimp only [aC];have Cc:=s3.trans s4;refine ⟨_,rfl,D,_,2,.ref a2,rfl,rfl,SqL.of (Cc _ _ eD),AW 2 a2 h2,a2,_,rfl,Cc _ _ w2,uB (IZ r2 (by simp)),fun head Qa Az ha H5 s5 Qb=>?_,fun AF H5 s5=>kt (fun i o hd Cv hb=>AF hd (hinv i o hd Cv hb).2.2.1) H5 (B3.trans (Cc.trans s5))⟩;dsimp only [aC];have ET:=Cc.trans s5;refine ⟨_,rfl,_,rfl,_,rfl,_,rfl,_,rfl,3,rfl,D,_,rfl,SqL.of (ET _ _ eD),fun l3 AX=>?_⟩
   have FT:cB (as.map V.ref) (some 3) none=(as.drop 3).map V.ref:=by
    rw [show (3:Int)=((3:Nat):Int) by rfl,jF (by rw [Rf];omega),UQ]
   rw [FT];have s6:L2.Same H5 (upd H5 l3 (.lst ((as.drop 3).map V.ref))):=ad AX _;have e6:(upd H5 l3 (.lst ((as.drop 3).map V.ref))) l3=some (.lst ((as.drop 3).map V.ref)):=ac;generalize (upd H5 l3 (.lst ((as.drop 3).map V.ref)))=H6 at s6 e6 ⊢;have K8:=ET.trans s6;have Hw:=s5.trans s6;have K9:=s4.trans Hw
   have ER:So (fun ws a=>H6 a=some (.lst ((ws:List Rz).map V.str))) (rest.map bw) (as.drop 3):=by
    have:=P2.drop 3 has;exact P2.mp (fun _ _ e=>K8 _ _ e) this
   refine ⟨ia,l3,AD,as.drop 3,ins,rest.map bw,rfl,K9 _ _ M8,M9.mono (Same.kt K9),ine,i8,e6,ER,by rw [Rf];exact Hv,fun ws B6=>?_,fun rows Ja ru AS H7 s7 Qc K'=>?_,fun AF H7 s7=>kt (fun i o hd Cv hb=>AF Cv (hinv i o hd Cv hb).2.2.2) H7 (B3.trans (K8.trans s7))⟩
   · obtain ⟨r,Bp,rfl⟩:=SQ.mp B6;exact uB (IZ r (Rp _ (Rp _ (Rp _ Bp))))
   have M':=K9.trans s7;have Na:=Hw.trans s7;have La:=K8.trans s7;have hI:jG K H7 ins ia AD:=⟨.inl (SqL.of (M' _ _ M8)),M9.mono (Same.kt M'),i8,P'⟩;have hO:jG K H7 outs oa Ap:=⟨.inl (SqL.of (Na _ _ P8)),P9.mono (Same.kt Na),o8,K7⟩
   have Fq:rows.length<=1000:=by
    have h1:=Ja.len;rw [Rf] at h1;have h2:rows.length * 1<=rows.length * ins.length:=T8 _ (SX.mpr ine);omega
   have Ku:∀ row∈rows,∀ t∈row,t.size<=100000:=fun row Ae t ht=>by
    obtain ⟨s,hs⟩:=Sv.mp Ae;obtain ⟨j,hj⟩:=Sv.mp ht;have Fz:=(Rv.mp hj).1;rw [Ja.row row Ae] at Fz;obtain ⟨_,_,_,hz⟩:=Ja.w s j row t _ hs hj (Rg Fz);omega
   have Lb:cY z ins outs head rows:=⟨r0,r1,r2,rest,Ex,Ey,DU,Qa,Ja⟩;exact ⟨ia,oa,ha,ru,AD,Ap,AS,ins,outs,head,rows,rfl,hI,hO,Qb.mono (Same.kt (s6.trans s7)),by omega,⟨.inl Qc,K'⟩,Fq,Ku,fun gi go hok r H8 s8 hB=>kq ins outs head rows Lb gi go hok r H8 (B3.trans (La.trans s8)) hB,fun hn H8 s8=>kk ins outs head rows Lb hn H8 (B3.trans (La.trans s8)),fun gi go Qd H8 s8=>kb ins outs head rows Lb gi go Qd H8 (B3.trans (La.trans s8))⟩
 · right;have EN:j<R.length:=by omega
   obtain ⟨r,Bp⟩:∃ r,R[j]?=some r:=⟨_,Rg EN⟩;refine ⟨EN,⟨_,.str (ofL r),SqL.of K4,by rw [Rw,Rw,Bp];rfl⟩,?_⟩;rintro y H3 ⟨q1,hv⟩;have Qe:H3=H2:=q1;subst Qe;have Cu:=hv _ (SqL.of K4);rw [Rw,Rw,Bp] at Cu;cases Cu;have Cs:=B.rl r (by rw [<- hR];exact Ru Bp);refine ⟨_,rfl,ofL r,rfl,by rw [dE];omega,fun ra H4 s4 F2 era=>?_⟩;have Qf:=s4 _ _ eD;have Hz:ra≠D:=fun z=>by rw [z,eD] at F2;cases F2
   have Qg:tX H4 (bw r) ra:=by
    unfold tX bw;rw [show sL (ofL r)=r from aB r] at era;exact era
   refine ⟨_,Qf,bn (by rw [Rf];omega),as++[ra],EN,aH (s2.trans s4) hD,by rw [ac,RC];rfl,fun zz=>?_,?_⟩
   · rcases RN.mp zz with zz | zz
     · exact M5 zz
     · exact Hz (RO.mp zz).symm
   · rw [take_snoc Bp,RC];refine P2.append (pA (fun ws a hm e=>?_) has) (.cons ?_ .nil)
     · unfold tX;rw [ar (fun z=>M5 (by rw [<- z];exact hm))];exact s4 _ _ e
     · unfold tX;rw [ar Hz];exact Qg
inductive eP (K:Ri) (vs:List V) (H:Hp) (Q:VK) (_E:XK):Prop
 | mk (a:Rk) (ns:List Int) (k:Int) (Aq:vs=[.ref a,.int k]) (Ar:SqL K H a (ns.map V.int)) (AB:0<=k) (AQ:Q (.int (cellAt ns k)) H):eP K vs H Q _E
def kF (K:Ri):Sp:=eP K
theorem bE:FnOk P w K mg base CX0 1 T.g__law_cell_at.f T.g__law_cell_at.d ["script","k"] (kF K):=by
 refine T.g__law_cell_at.F.ok ku (fun vs H Q E h=>?_) (fun Al A outer s H vs Q E hr h=>?_)
 · obtain ⟨a,ns,k,rfl,_⟩:=h;rfl
 obtain ⟨a,ns,k,rfl,hS,h0,q⟩:=h
 refine ⟨_,(af (aN (au gq (pv 1) (aq am rfl T.n_len RQ (aa (pv 0) ae)) (ay _)) (ai (av (ak aZ (aA aJ (pv 0) (pv 1) (fun _ _=>rfl)) (ak ul ag ag)))) aE)
  (ai (av ag))),?_⟩
 try dsimp only [AN,Aj]
 refine ⟨_,rfl,_,rfl,a,_,rfl,.inl hS,_,_,rfl,rfl,_,rfl,?_⟩;refine cr (fun c=>?_) (fun c=>?_)
 · have c':k<(((ns.map V.int).length:Nat):Int):=of_decide_eq_true c;rw [Rf] at c';refine ⟨_,rfl,_,rfl,a,_,k,_,rfl,rfl,hS,int_at h0 c',_,_,rfl,rfl,⟨by decide,by decide,by decide⟩,_,_,rfl,rfl,?_,?_⟩
   · show (0:Int)<10 ^ 60;decide
   · have e:cellAt ns k=ns.getD k.toNat 0%10 ^ 60:=by unfold cellAt;rw [if_pos c']
     rw [e] at q;exact q
 · have c':¬ k<(((ns.map V.int).length:Nat):Int):=of_decide_eq_false (S6.mpr c);rw [Rf] at c';have e:cellAt ns k=0:=by unfold cellAt;rw [if_neg c']
   rw [e] at q;exact q
inductive gU (vs:List V) (H:Hp) (Q:VK) (_E:XK):Prop
 | mk (base n:Int) (Aq:vs=[.int base,.int n]) (Ar:0<=base) (AB:0<=n) (AQ:Q (.str (nameOf base n)) H):gU  vs H Q _E
def oW:Sp:=gU
theorem nV:FnOk P w K mg base CX0 1 T.g__law_name.f T.g__law_name.d ["base","n"] oW:=by
 refine T.g__law_name.F.ok bu (fun vs H Q E h=>?_) (fun Al A outer s H vs Q E hr h=>?_)
 · obtain ⟨b,n,rfl,_⟩:=h;rfl
 obtain ⟨b,n,rfl,h0,hn,q⟩:=h
 refine ⟨_,(af (ao (i:=2) bu.nd rfl (RH rfl) ax)
  (af (ao (i:=3) bu.nd rfl (RH rfl) ax)
  (af (ao (i:=4) bu.nd rfl (RH rfl) (ak bo (pv 0) ag))
  (af (cf Sz rfl (bO rfl T.n_range (aa ag ae)) (aD (i:=5) bu.nd rfl (RH rfl)) (af (ao (i:=3) bu.nd rfl (RH rfl) (ak aQ (pv 3) (aA oE (pv 2) (ak aZ (pv 4) ag) (fun _ _=>rfl))))
  (ai (ao (i:=4) bu.nd rfl (RH rfl) (ak bo (pv 4) ag)))))
  (af (aN (au cq (ak aZ (pv 0) ag) ag (ay _)) (ai (av (aK rS (pv 3) bd (aO (ak aY (pv 1) ag))))) aE)
  (af (ao (i:=6) bu.nd rfl (RH rfl) (ak aY ag (ak aZ (ak bo (pv 0) ag) ag)))
  (af (ao (i:=7) bu.nd rfl (RH rfl) (ak aZ (ak aZ (ak bo (pv 0) ag) ag) (pv 6)))
  (af (ao (i:=8) bu.nd rfl (RH rfl) (aA oE (pv 2) (ak aZ (ak aY (cb Sr PySem.F.slot_str_index PySem.F.type_str_index va (pv 2) (aa (aA oE (pv 3) (pv 7) (fun _ _=>rfl)) ae)) (pv 1)) ag) (fun _ _=>rfl)))
  (ai (av (ak aQ (ak aQ (aK rS (pv 3) bd (aO (pv 7))) (pv 8)) (aK rS (pv 3) (aO (ak aY (pv 7) ag)) (aO (pv 6)))))))))))))),?_⟩
 try dsimp only [AN,Aj]
 refine ⟨_,rfl,_,_,rfl,rfl,⟨by decide,by decide⟩,?_⟩;refine ⟨8,rfl,by decide,by decide,?_⟩;refine b8 (n:=8) (fun i σ H2=>Ex1 fun kv=>An2 (H2=H) (σ=[some (.int b),some (.int n),some (.str dC),some (.str (cL (b / 112) i)),some (.int (b / 112 / 26 ^ i)),kv,none,none,none])) ⟨none,rfl,?_⟩ ?_ ?_
 · have e1:cL (b / 112) 0=Rc "":=by
    show (⟨([]:List Nat).toArray⟩:Rz)=Rc "";decide +kernel
   have e2:b / 112 / 26 ^ 0=b / 112:=by rw [Int.pow_zero,Xl]
   rw [e1,e2];rfl
 · rintro i σ H2 hi ⟨kv,rfl,rfl⟩;have h1:=Se (b / 112 / 26 ^ i) (by decide:(26:Int)≠0);have h2:=Sa (b / 112 / 26 ^ i) (by decide:(0:Int)<26);refine ⟨_,rfl,_,rfl,_,rfl,_,_,rfl,rfl,(by show (0:Int)<26;decide),dC,_,_,rfl,rfl,aj (by rw [j6];decide),nF h1 h2,_,_,rfl,rfl,aj ?_,?_⟩
   · rw [cU];show i+1<=1000000;omega
   · refine ⟨_,rfl,_,_,rfl,rfl,⟨by decide,by decide⟩,some (.int (0+i)),rfl,?_⟩
     have e1:b / 112 / 26 ^ (i+1)=b / 112 / 26 ^ i / 26:=by
      rw [Int.pow_succ,Int.ediv_ediv_of_nonneg (Int.le_of_lt (Int.pow_pos (by decide)))]
     rw [rL,e1];rfl
 · rintro σ H2 ⟨kv,rfl,rfl⟩;have hw:=cU (b / 112) 8;refine ⟨_,rfl,_,_,rfl,rfl,(by show (0:Int)<2;decide),rfl,_,rfl,?_⟩;refine cr (fun c=>?_) (fun c=>?_)
   · have c':b%2=1:=V.int.inj (of_decide_eq_true c);refine ⟨_,rfl,_,rfl,_,_,rfl,rfl,_,rfl,_,rfl,aj (by rw [hw];decide),?_⟩;have e:nameOf b n=fm (cL (b / 112) 8) none (some (n+1)):=by unfold nameOf;rw [if_pos c']
     rw [e] at q;exact q
   · have c':¬ b%2=1:=fun z=>c (decide_eq_true (congrArg V.int z));have hs:=jo b;have ha:=v5 b;refine ⟨_,rfl,_,_,rfl,rfl,⟨by decide,by decide⟩,_,_,rfl,rfl,(by show (0:Int)<8;decide),_,_,rfl,rfl,?_⟩;refine ⟨_,rfl,_,_,rfl,rfl,⟨by decide,by decide⟩,_,_,rfl,rfl,(by show (0:Int)<7;decide),_,rfl,_,_,rfl,rfl,(by show (0:Int)<ef b;omega),?_⟩;have hk:(nAt b).toNat<8:=by omega
     have IW:atI (cL (b / 112) 8).cps.toList (nAt b)=some (97+((b / 112 / 26 ^ (nAt b).toNat)%26).toNat):=by
      refine at_nonneg ha.1 ?_;show (fC (b / 112) 8)[(nAt b).toNat]?=_;unfold fC;rw [Rw,WS hk];rfl
     have h1:=Se (b / 112 / 26 ^ (nAt b).toNat) (by decide:(26:Int)≠0);have h2:=Sa (b / 112 / 26 ^ (nAt b).toNat) (by decide:(0:Int)<26);have h3:=Se ((((b / 112 / 26 ^ (nAt b).toNat)%26).toNat:Int)+n) (by decide:(26:Int)≠0);have h4:=Sa ((((b / 112 / 26 ^ (nAt b).toNat)%26).toNat:Int)+n) (by decide:(0:Int)<26);refine ⟨_,rfl,_,rfl,rfl,_,rfl,_,rfl,_,nAt b,_,rfl,rfl,aj (by rw [hw];decide),IW,dC,_,_,[],rfl,rfl,ub _ (by omega),_,rfl,_,_,rfl,rfl,_,_,rfl,rfl,(by show (0:Int)<26;decide),dC,_,_,rfl,rfl,aj (by rw [j6];decide),nF h3 h4,?_⟩;have l1:=ee (cL (b / 112) 8) none (some (nAt b));have l2:=ee (cL (b / 112) 8) (some (nAt b+1)) (some (ef b));rw [hw] at l1 l2;refine ⟨_,rfl,_,rfl,_,rfl,_,rfl,aj (by rw [hw];decide),_,rfl,_,_,rfl,rfl,aj ?_,_,rfl,_,rfl,_,_,rfl,rfl,_,rfl,_,rfl,_,rfl,_,rfl,aj (by rw [hw];decide),_,_,rfl,rfl,aj ?_,?_⟩
     · show (fm (cL (b / 112) 8) none (some (nAt b))).length+1<=1000000;omega
     · rw [RT];show (fm (cL (b / 112) 8) none (some (nAt b))).length+1+(fm (cL (b / 112) 8) (some (nAt b+1)) (some (ef b))).length<=1000000;omega
     · have e:nameOf b n=fm (cL (b / 112) 8) none (some (nAt b))++⟨#[jT b n]⟩++fm (cL (b / 112) 8) (some (nAt b+1)) (some (ef b)):=by unfold nameOf;rw [if_neg c']
       rw [e] at q;exact q
inductive fR (vs:List V) (H:Hp) (Q:VK) (_E:XK):Prop
 | mk (cell:Int) (Aq:vs=[.int cell]) (Ar:0<=cell) (AB:∀ (r:Rk) (as:List Rk) (H':Hp),L2.Same H H'->H' r=some (.tup (as.map V.ref))->KsAt H' (cm cell) as->Q (.ref r) H'):fR  vs H Q _E
def mK:Sp:=fR
theorem gL:FnOk P w K mg base CX0 2 T.g__law_kinds.f T.g__law_kinds.d ["cell"] mK:=by
 refine T.g__law_kinds.F.ok bH (fun vs H Q E h=>?_) (fun Al A outer s H vs Q E hr h=>?_)
 · obtain ⟨c,rfl,_⟩:=h;rfl
 obtain ⟨cell,rfl,h0,q⟩:=h
 refine ⟨_,(af (ao (i:=1) bH.nd rfl (RH rfl) (ak aY (ak fM (pv 0) ag) ag))
  (af (ao (i:=2) bH.nd rfl (RH rfl) (ak aY ag (ak aZ (pv 1) ag)))
  (af (ao (i:=3) bH.nd rfl (RH rfl) (ak bo (pv 1) ag))
  (af (ao (i:=4) bH.nd rfl (RH rfl) (aW ae))
  (af (cf Sz rfl (bO rfl T.n_range (aa (pv 2) ae)) (aD (i:=5) bH.nd rfl (RH rfl)) (af (bq (cb RX R9 R8 bh (pv 4) (aa (ce (aa (pcF T.g__law_name (nV T) hr (aa (ak bo (pv 1) ag) (aa (pv 5) ae))) (aa (ak aZ (pv 3) ag) ae))) ae)))
  (ai (ao (i:=3) bH.nd rfl (RH rfl) (ak aY (ak bo (pv 3) ag) (pv 5))))))
  (af (ao (i:=6) bH.nd rfl (RH rfl) (ak aZ (ak bo (pv 1) ag) (pv 2)))
  (af (gf (ce (aa (aA aM (aA aJ (pv 4) (pv 6) (fun _ _=>rfl)) ag (fun _ _=>rfl)) (aa ag ae))) (mC (pv 4) (pv 6) set_list))
  (ai (av (bz bI rfl T.n_tuple SD (aa (pv 4) ae))))))))))),?_⟩
 try dsimp only [AN,Aj]
 have hM:=xi h0;have hm:=iU cell;have ha:=rq cell;refine ⟨_,rfl,_,_,rfl,rfl,.inr ⟨by decide,by decide⟩,_,_,rfl,rfl,?_⟩;refine ⟨_,rfl,_,_,rfl,rfl,(by show (0:Int)<6;decide),_,_,rfl,rfl,?_⟩;refine ⟨_,rfl,_,_,rfl,rfl,⟨by decide,by decide⟩,?_⟩;refine ⟨aj (by show 0<=1000000;decide),fun kl By=>?_⟩;refine ⟨_,rfl,db cell,rfl,by omega,by omega,?_⟩
 refine b8 (n:=(db cell).toNat) (fun i σ H2=>Ex2 fun kv as=>An4 (σ=[some (.int cell),some (.int (dD cell)),some (.int (db cell)),some (.int (rests (dD cell / 7) i)),some (.ref kl),kv,none]) (L2.Same H H2) (H2 kl=some (.lst (as.map V.ref))) (KsAt H2 ((pL cell).take i) as))
  ⟨none,[],rfl,ad By _,ac,.nil⟩ ?_ ?_
 · rintro i σ H2 hi ⟨kv,as,rfl,sm,e,hp⟩;have hb:0<=dD cell / 36:=Wq hM (by decide)
   have hl:as.length=i:=by
    have:=R3 hp;rw [Rx,gr] at this;omega
   refine ⟨_,rfl,.inl ⟨rfl,_,SqL.of e⟩,_,rfl,_,_,rfl,rfl,⟨by decide,by decide⟩,_,rfl,dD cell / 36,0+(i:Int),rfl,hb,by omega,_,rfl,_,_,rfl,rfl,(by show (0:Int)<4;decide),aj (by show 2<=1000000;decide),fun p Dk=>?_⟩;have EU:kl≠p:=aR e Dk;refine ⟨kl,_,_,rfl,rfl,by rw [ar EU];exact e,bn (by rw [Rf];omega),?_⟩;refine ⟨_,rfl,_,_,rfl,rfl,⟨by decide,by decide⟩,_,rfl,_,_,rfl,rfl,some (.int (0+(i:Int))),as++[p],?_,aH (aH sm (sm.free Dk)) By,?_,?_⟩
   · have e1:rests (dD cell / 7) (i+1)=rests (dD cell / 7) i / 4+(0+(i:Int)):=by rw [rests];omega
     rw [e1];rfl
   · rw [ac,RC];rfl
   · have Lc:i<(db cell).toNat:=hi;rw [UU,mE Lc];have kt:KT H2 (upd (upd H2 p (.tup [.str (nameOf (dD cell / 36) (0+(i:Int))),.int (rests (dD cell / 7) i%4)])) kl (.lst (as.map V.ref++[.ref p]))):=(im Dk).trans (bG (xs:=as.map V.ref) (by rw [ar EU];exact e));refine P2.append (hp.mono kt) (.cons ?_ .nil);show (upd (upd H2 p _) kl _) p=_;rw [ar EU.symm,ac,Int.zero_add]
 · rintro σ H2 ⟨kv,as,rfl,sm,e,hp⟩;have hk:(pL cell).take (db cell).toNat=pL cell:=by rw [<- gr,U6]
   rw [hk] at hp
   have hl:as.length=(db cell).toNat:=by
    have:=R3 hp;rw [gr] at this;omega
   obtain ⟨pa,Qh,Nb⟩:=P2.get hp (mE (cell:=cell) (i:=(kAt cell).toNat) (by omega));have AW:atI (as.map V.ref) (kAt cell)=some (.ref pa):=at_nonneg ha.1 (by rw [Rw,Qh];rfl);have HA:(((kAt cell).toNat:Nat):Int)=kAt cell:=by omega
   rw [HA] at Nb;refine ⟨_,rfl,_,_,rfl,rfl,⟨by decide,by decide⟩,_,rfl,_,_,rfl,rfl,(by show (0:Int)<db cell;omega),?_⟩;refine ⟨_,rfl,_,rfl,kl,_,kAt cell,.ref pa,rfl,rfl,SqL.of e,AW,pa,_,0,_,rfl,rfl,SqT.of Nb,at0,aj (by show 2<=1000000;decide),fun p Dk=>?_⟩;have EU:kl≠p:=aR e Dk;refine ⟨_,rfl,_,rfl,kl,_,kAt cell,(kAt cell).toNat,rfl,rfl,by rw [ar EU];exact e,?_,?_⟩
   · unfold ixN;rw [if_pos ha.1,if_pos (by rw [Rf,hl];omega)]
   · refine ⟨_,rfl,kl,_,rfl,.inl ⟨SqL.of ac,fun l CO=>?_⟩⟩;have kt:KT H2 (upd (upd H2 p (.tup [.str (nameOf (dD cell / 36) (kAt cell)),.int 0])) kl (.lst ((as.map V.ref).set (kAt cell).toNat (.ref p)))):=(im Dk).trans (bG (xs:=as.map V.ref) (by rw [ar EU];exact e));refine q l (as.set (kAt cell).toNat p) _ (aH (aH (aH sm (sm.free Dk)) By) ?_) ?_ ?_
     · exact (aH (aH sm (sm.free Dk)) By).free CO
     · rw [ac,List.map_set]
     · have Qi:=kt.trans (im (o:=.tup ((as.map V.ref).set (kAt cell).toNat (.ref p))) CO);refine P2.set ?_ _ (hp.mono Qi)
       have Qj:p≠l:=by
        intro z;rw [<- z,ar EU.symm,ac] at CO;cases CO
       show (upd _ l _) p=_;rw [ar Qj,ar EU.symm,ac]
theorem ww (n:Nat) (z:Int):(Sy n [V.int z]).flatten=(Sy n z).map V.int:=by
 induction n with
 | zero=>rfl
 | succ n ih=>rw [T9,R0,ih,T9];rfl
inductive fF (K:Ri) (vs:List V) (H:Hp) (Q:VK) (_E:XK):Prop
 | mk (a:Rk) (xs:List V) (many:Int) (Aq:vs=[.ref a,.int many]) (Ar:H a=some (.lst xs)) (AB:(∀ v∈xs,∃ z,v=.int z)) (AQ:xs.length<=1000) (Bq:1<=many) (Cb:many<=1000) (DF:∀ (r:Rk) (cs:List Int) (H':Hp),L2.Same H H'->H' r=some (.lst (cs.map V.int))->cs.length=many.toNat->Q (.ref r) H'):fF K vs H Q _E
def lP (K:Ri):Sp:=fF K
theorem mj:FnOk P w K mg base CX0 1 T.g__law_folded.f T.g__law_folded.d ["script","many"] (lP K):=by
 refine T.g__law_folded.F.ok dJ (fun vs H Q E h=>?_) (fun Al A outer s H vs Q E hr h=>?_)
 · obtain ⟨a,xs,many,rfl,_⟩:=h;rfl
 obtain ⟨a,xs,many,rfl,ea,hint,MJ,m1,m2,q⟩:=h
 refine ⟨_,(af (ao (i:=2) dJ.nd rfl (RH rfl) (ak yC (aW (aa ag ae)) (pv 1)))
  (af (cf Sz rfl (bO rfl T.n_range (aa (aq am rfl T.n_len RQ (aa (pv 0) ae)) ae)) (aD (i:=3) dJ.nd rfl (RH rfl)) (ai (gf (ak aZ (ak aY (ak fM (aA aJ (pv 2) (ak aZ (pv 3) (pv 1)) (fun _ _=>rfl)) ag) (aA aJ (pv 0) (pv 3) (fun _ _=>rfl))) (ak ul ag ag)) (mC (pv 2) (ak aZ (pv 3) (pv 1)) set_list))))
  (ai (av (pv 2))))),?_⟩
 try dsimp only [AN,Aj]
 refine ⟨aj (by show 1<=1000000;decide),fun l1 AA=>?_⟩;have s1:L2.Same H (upd H l1 (.lst [.int 0])):=ad AA _;have e1:(upd H l1 (.lst [.int 0])) l1=some (.lst [.int 0]):=ac;generalize (upd H l1 (.lst [.int 0]))=H1 at s1 e1 ⊢;refine ⟨_,rfl,l1,_,_,rfl,rfl,e1,by omega,by omega,aj (by show 1 * many.toNat<=1000000;omega),fun kl By=>?_⟩;dsimp only;rw [ww];have s2:L2.Same H (upd H1 kl (.lst ((Sy many.toNat (0:Int)).map V.int))):=s1.trans (ad By _);have e2:(upd H1 kl (.lst ((Sy many.toNat (0:Int)).map V.int))) kl=some (.lst ((Sy many.toNat (0:Int)).map V.int)):=ac;have Qk:H kl=none:=s1.free By;generalize (upd H1 kl (.lst ((Sy many.toNat (0:Int)).map V.int)))=H2 at s2 e2 ⊢;refine ⟨_,rfl,a,_,rfl,.inl (SqL.of (s2 _ _ ea)),_,rfl,by omega,by omega,?_⟩
 refine b8 (n:=((xs.length:Nat):Int).toNat) (fun i σ H3=>Ex2 fun (kv:Option V) (cs:List Int)=>An4 (σ=[some (.ref a),some (.int many),some (.ref kl),kv]) (L2.Same H H3) (H3 kl=some (.lst (cs.map V.int))) (cs.length=many.toNat))
  ⟨none,_,rfl,s2,e2,List.length_replicate⟩ ?_ ?_
 · rintro i σ H3 hi ⟨kv,cs,rfl,s3,e3,Bo⟩
   have B2:i<xs.length:=by
    have:i<((xs.length:Nat):Int).toNat:=hi;omega
   have y0:=Se (0+(i:Int)) (show many≠0 by omega);have y1:=Sa (0+(i:Int)) (show 0<many by omega);obtain ⟨ix,J1⟩:∃ ix:Nat,(0+(i:Int))%many=(ix:Int):=⟨_,(Int.toNat_of_nonneg y0).symm⟩;obtain ⟨c,hc⟩:∃ c,cs[ix]?=some c:=⟨_,Rg (by omega)⟩;obtain ⟨x,hx⟩:∃ x,xs[i]?=some x:=⟨_,Rg B2⟩;obtain ⟨z,rfl⟩:=hint x (Ru hx);refine ⟨_,rfl,_,rfl,_,rfl,_,_,rfl,rfl,(by show 0<many;omega),kl,_,_,.int c,rfl,rfl,SqL.of e3,at_nonneg y0 (by rw [J1,Tq,Rw,hc];rfl),_,_,rfl,rfl,.inr ⟨by decide,by decide⟩,?_⟩;refine ⟨_,rfl,_,rfl,a,_,_,.int z,rfl,rfl,SqL.of (s3 _ _ ea),at_nonneg (by omega) (by rw [show (0+(i:Int)).toNat=i by omega];exact hx),_,_,rfl,rfl,_,_,rfl,rfl,⟨by decide,by decide,by decide⟩,_,_,rfl,rfl,(by show (0:Int)<10 ^ 60;decide),?_⟩;refine ⟨_,rfl,_,rfl,_,rfl,_,_,rfl,rfl,(by show 0<many;omega),kl,_,_,ix,rfl,rfl,e3,?_,?_⟩
   · rw [J1];unfold ixN;rw [if_pos (by omega),if_pos (by rw [Rf];omega)];simp
   · refine ⟨_,cs.set ix ((c * 31+z)%10 ^ 60),rfl,aH s3 Qk,?_,by rw [VN];exact Bo⟩;rw [ac,List.map_set];rfl
 · rintro σ H3 ⟨kv,cs,rfl,s3,e3,Bo⟩;exact ⟨_,rfl,q kl cs H3 s3 e3 Bo⟩
theorem ju {H:Hp}:∀ {ks:List (Rz×Int)} {as:List Rk},KsAt H ks as->∀ z∈ks.zip as,z.1∈ks/\KAt H z.1 z.2
 | _,_,.nil,z,hz=>by simp at hz
 | _,_,.cons (a:=k) (b:=a) r t,z,hz=>by
   rw [List.zip_cons_cons] at hz;rcases RA.mp hz with rfl | hz
   · exact ⟨Rr ..,r⟩
   · obtain ⟨h1,h2⟩:=ju t z hz;exact ⟨Rp _ h1,h2⟩
theorem md {K:Ri} {js:List (Option Nat)} {tt:TT} {te:TE} {σ:St} {H:Hp} {kr:Rk} {Av:List Rk} {ks:List (Rz×Int)} {fin:Rk->Hp->Prop} (e:H kr=some (.tup (Av.map V.ref))) (A8:KsAt H ks Av) (g:fA ks)
 (E8:∀ (z:Rz×Int) (ka:Rk) (H2:Hp) (R:Bool->Hp->Prop),L2.Same H H2->KAt H2 z ka->R (decide (V.int z.2=V.int 0)) H2->tt ((cσ js σ).set 0 (some (.ref ka))) H2 R)
 (E9:∀ (ka:Rk) (H2:Hp) (R:VK),R (.ref ka) H2->te ((cσ js σ).set 0 (some (.ref ka))) H2 R)
 (q:∀ (D:Rk) (k0:Rz×Int) (ka:Rk) (rs:List V) (H':Hp),H D=none->L2.Same H H'->H' D=some (.lst (.ref ka::rs))->k0∈ks->k0.2=0->KAt H' k0 ka->fin D H') :
 ∀ D,H D=none->∃ (n:Nat) (W:Nat->Hp->Prop),W 0 (upd H D (.lst []))/\du js (aC 0) tt te σ (Itt K kr) D n W fun H'=>fin D H':=by
 have By:ks.length=Av.length:=R3 A8;have Ld:=g.le;have Ky:(ks.zip Av).length=ks.length:=by rw [Wo];omega
 have G2:∀ (i:Nat) (x:V) (z:(Rz×Int)×Rk),(Av.map V.ref)[i]?=some x->(ks.zip Av)[i]?=some z->x=.ref z.2:=fun i x z hx hz=>by
  obtain ⟨ka,rfl,Bm⟩:=bY hx;obtain ⟨h1,h2⟩:=U8.mp hz;rw [Bm] at h2;cases h2;rfl
 refine pO (ks.zip Av) (fun z=>decide (V.int z.1.2=V.int 0)) (fun z=>.ref z.2) (SqT.of e) (by rw [Ky,Rf];exact By) (by rw [Rf];omega) (fun i x z H2 R hx hz sm r=>?_) (fun i x z H2 R hx hz _ sm r=>?_) (fun D hD=>?_)
 · rw [G2 i x z hx hz];have:=(ju A8 z (Ru hz)).2;exact E8 z.1 z.2 H2 R sm (sm _ _ this) r
 · rw [G2 i x z hx hz];exact E9 z.2 H2 R r
 · obtain ⟨k,hk,CI⟩:=g.zero;obtain ⟨i,hi,rfl⟩:=List.getElem_of_mem hk;have hz:(ks.zip Av)[i]'(by omega)∈(ks.zip Av).filter fun z=>decide (V.int z.1.2=V.int 0):=Vi.mpr ⟨List.getElem_mem _,by rw [List.getElem_zip];exact decide_eq_true (congrArg V.int CI)⟩
   have Ai:∀ z∈(ks.zip Av).filter fun z=>decide (V.int z.1.2=V.int 0),z.1∈ks/\z.1.2=0/\KAt H z.1 z.2:=fun z hz=>by
    obtain ⟨h1,h2⟩:=Vi.mp hz;obtain ⟨h3,h4⟩:=ju A8 z h1;exact ⟨h3,V.int.inj (of_decide_eq_true h2),h4⟩
   generalize ((ks.zip Av).filter fun z=>decide (V.int z.1.2=V.int 0))=bs at hz Ai ⊢;cases bs with
   | nil=>cases hz
   | cons z0 bs =>
     obtain ⟨h1,h2,h3⟩:=Ai z0 (Rr ..);exact q D z0.1 z0.2 _ _ hD (ad hD _) ac h1 h2 (ad hD _ _ _ h3)
inductive eS (n:Nat) (vs:List V) (H:Hp) (Q:VK) (_E:XK):Prop
 | mk (cell:Int) (oa:Rk) (Ap:List Rk) (outs:List (Rz×Int)) (S C deep:Int) (Aq:vs=[.int cell,.ref oa,.int S,.int C,.int deep]) (Ar:H oa=some (.tup (Ap.map V.ref))) (AB:KsAt H outs Ap) (AQ:fA outs) (Bq:0<=S) (Cb:S<=20) (DF:0<=C) (FQ:C<=3) (IK:0<=deep) (IL:deep<(n:Int)) (Fp:∀ (t:Th) (r:Rk) (H':Hp),L2.Same H H'->At H' t r->t.FitS outs S C->t.tall<=deep.toNat+1->Q (.ref r) H'):eS n vs H Q _E
def kB (n:Nat):Sp:=eS n
set_option maxHeartbeats 4000000 in
theorem dq:∀ n:Nat,FnOk P w K mg base CX0 (n+2) T.g__law_pattern.f T.g__law_pattern.d ["cell","outs","states","kids","deep"] (kB n)
 | 0=>⟨fun _ _ _ _ h=>by obtain ⟨_,_,_,_,_,_,_,_,_,_,_,_,_,_,_,h1,h2,_⟩:=h;omega,fun _ _ _ _ _ _ _ _ _ _ _ _ _ h=>by obtain ⟨_,_,_,_,_,_,_,_,_,_,_,_,_,_,_,h1,h2,_⟩:=h;omega⟩
 | n+1=>by
   have ih:=dq n;refine T.g__law_pattern.F.ok bD (fun vs H Q E h=>?_) (fun Al A outer s H vs Q E hr h=>?_)
   · obtain ⟨cell,oa,Ap,outs,S,C,deep,rfl,_⟩:=h;rfl
   obtain ⟨cell,oa,Ap,outs,S,C,deep,rfl,eo,A8,g,S0,S1,C0,C1,d0,d1,q⟩:=h
   refine ⟨_,(af (aN (PW.pt (pc (au su (ak fM (pv 2) (pv 3)) ag (ay _)) (kL (PW.pt (eR (au gq (ak aZ (pv 0) ag) ag (ay _)) (eE (PW.pt (pc (au cq (pv 4) ag (ay _)) (kL (au gq (ak aZ (pv 0) ag) ag (ay _))))))))))) (ai (av (ce (aa ax (aa (ak aZ (ak bo (pv 0) ag) (pv 2)) (aa (ak aZ (ak bo (ak bo (pv 0) ag) (pv 2)) (pv 3)) ae)))))) aE)
    (af (ao (i:=5) bD.nd rfl (RH rfl) (aA aM (pv 1) (ak aZ (ak bo (pv 0) ag) (aq am rfl T.n_len RQ (aa (pv 1) ae))) (fun _ _=>rfl)))
    (af (aN (au cq (pv 4) ag (ay _)) (ai (ao (i:=5) bD.nd rfl (RH rfl) (aA aJ (cC (N:=[Rc "one"]) (js:=[none]) (g:=(aC 0)) (tt:=(lz (tOp (rEq) (tOp (ve K) (cj 0) (tC (.int 1))) (tC (.int 0))))) (te:=(cj 0)) rfl (dz rfl (by decide +kernel) (by decide +kernel) rfl rfl rfl) (eL (pv 1)) (fun _ _ _ _ _ _=>(aD (i:=0) yU rfl (RH rfl))) (bX rfl) (fun _ _ _ _ _ _=>iM (au cq (aA aM (pv 0) ag (fun _ _=>rfl)) ag (ay _))) (fun _ _ _ _ _ _=>(pv 0))) ag (fun _ _=>rfl)))) aE)
    (af (ao (i:=6) bD.nd rfl (RH rfl) (ce ae))
    (af (cf Sz rfl (bO rfl T.n_range (aa (aA aM (pv 5) ag (fun _ _=>rfl)) ae)) (aD (i:=7) bD.nd rfl (RH rfl)) (af (ao (i:=8) bD.nd rfl (RH rfl) (bc (ih) (hr.mono (Rq _)) rfl T.g__law_pattern.m T.g__law_pattern.F.kp T.g__law_pattern.b .nil nv (aa (ak aZ (ak fM (ak aY (ak aY (ak bo (pv 0) ag) (pv 7)) ag) ag) ag) (aa (pv 1) (aa (pv 2) (aa (pv 3) (aa (ak jz (pv 4) ag) ae)))))))
    (ai (ao (i:=6) bD.nd rfl (RH rfl) (ak iQ (pv 6) (ce (aa (pv 8) ae)))))))
    (ai (av (ak iQ (ce (aa (aA aM (pv 5) ag (fun _ _=>rfl)) ae)) (pv 6))))))))),?_⟩
   try dsimp only [AN,Aj]
   have By:outs.length=Ap.length:=R3 A8;have Ld:=g.le;have G9:=g.ne;refine aG (fun f' H'=>An2 (H=H') (f'=[some (.int cell),some (.ref oa),some (.int S),some (.int C),some (.int deep),none,none,none,none])) (fun kk hk=>?_) ?_
   · refine cA (fun b H'=>An2 (H=H') ((b=true->0<S/\0<C))) (fun k2 BU=>?_) (fun H' hb=>?_) (fun H' hb=>?_)
     · refine ⟨_,rfl,_,rfl,_,_,rfl,rfl,.inl ⟨by omega,by omega⟩,_,_,rfl,rfl,_,rfl,?_⟩;refine cr (fun c1=>?_) (fun c1=>BU _ _ ⟨rfl,fun z=>absurd z RK⟩)
       have HB:0<S/\0<C:=by
        have Eo:0<S * C:=of_decide_eq_true c1;refine ⟨?_,?_⟩
        · rcases WZ S0 with h | h
          · exact h
          · rw [<- h] at Eo;simp at Eo
        · rcases WZ C0 with h | h
          · exact h
          · rw [<- h] at Eo;simp at Eo
       refine ⟨_,rfl,_,_,rfl,rfl,(by show (0:Int)<5;decide),_,_,rfl,rfl,_,rfl,?_⟩;refine cr (fun c2=>BU _ _ ⟨rfl,fun _=>HB⟩) (fun c2=>?_);refine ⟨_,rfl,rfl,_,rfl,?_⟩;refine cr (fun c3=>?_) (fun c3=>BU _ _ ⟨rfl,fun _=>HB⟩);exact ⟨_,rfl,_,_,rfl,rfl,(by show (0:Int)<5;decide),_,_,rfl,rfl,_,rfl,BU _ _ ⟨rfl,fun _=>HB⟩⟩
     · obtain ⟨rfl,hb⟩:=hb;obtain ⟨hS,hC⟩:=hb rfl;refine ⟨_,rfl,_,_,rfl,rfl,⟨by decide,by decide⟩,_,rfl,_,_,rfl,rfl,hS,_,rfl,_,_,rfl,rfl,⟨by decide,by decide⟩,_,rfl,_,_,rfl,rfl,⟨hS,by omega⟩,_,rfl,_,_,rfl,rfl,hC,aj (by show 3<=1000000;decide),fun ca HC=>?_⟩;have y0:=Se (cell / 5) (show S≠0 by omega);have y1:=Sa (cell / 5) hS;have y2:=Se (cell / 5 / S) (show C≠0 by omega);have y3:=Sa (cell / 5 / S) hC;refine q (.call (cell / 5%S) (cell / 5 / S%C)) ca _ (ad HC _) ?_ ?_ ?_
       · rw [At];exact ac
       · rw [Th.FitS];exact ⟨y0,by omega,y2,by omega⟩
       · rw [Th.tall];omega
     · obtain ⟨rfl,_⟩:=hb;exact hk _ _ ⟨rfl,rfl⟩
   rintro f' H' ⟨rfl,rfl⟩;have m0:=Se (cell / 5) (show ((Ap.map V.ref).length:Int)≠0 by rw [Rf];omega);have m1:=Sa (cell / 5) (show (0:Int)<((Ap.map V.ref).length:Int) by rw [Rf];omega);refine hid fun ZZ kZ=>?_;obtain ⟨k0,CI⟩:∃ k0,outs[(cell / 5%((Ap.map V.ref).length:Int)).toNat]?=some k0:=⟨_,Rg (by rw [Rf] at m0 m1 ⊢;omega)⟩;obtain ⟨ka,Bm,CJ⟩:=P2.get A8 CI;refine kZ ?_;refine ⟨_,rfl,_,rfl,_,_,rfl,rfl,⟨by decide,by decide⟩,_,rfl,oa,_,rfl,.inr (SqT.of eo),_,_,rfl,rfl,(by show (0:Int)<((Ap.map V.ref).length:Int);rw [Rf];omega),oa,_,_,.ref ka,rfl,rfl,SqT.of eo,at_nonneg m0 (by rw [Rw,Bm];rfl),?_⟩;dsimp only [aC];refine aG (fun f' H'=>Ex2 fun (k0:Rz×Int) (ka:Rk)=>An5 (k0∈outs) (KAt H' k0 ka) ((deep=0->k0.2=0)) (L2.Same H H') (f'=[some (.int cell),some (.ref oa),some (.int S),some (.int C),some (.int deep),some (.ref ka),none,none,none])) (fun kk hk=>?_) ?_
   · refine cA (fun b H'=>An2 (H=H') ((b=false->deep≠0))) (fun k2 BU=>?_) (fun H' hb=>?_) (fun H' hb=>?_)
     · exact ⟨_,rfl,rfl,_,rfl,BU _ _ ⟨rfl,fun z z2=>of_decide_eq_false z (congrArg V.int z2)⟩⟩
     · obtain ⟨rfl,_⟩:=hb;refine ⟨_,rfl,oa,rfl,⟨_,SqT.of eo⟩,md (K:=K) eo A8 g (fun z ka H2 R sm hz r=>⟨_,rfl,ka,_,1,_,rfl,rfl,SqT.of hz,at1,rfl,_,rfl,r⟩) (fun ka H2 R r=>⟨_,rfl,r⟩) (fun D k1 EV rs H1 hD s1 eD Hl Iw e1=>?_)⟩;exact ⟨D,_,0,.ref EV,rfl,rfl,SqL.of eD,at0,hk _ _ ⟨k1,EV,Hl,e1,fun _=>Iw,s1,rfl⟩⟩
     · obtain ⟨rfl,hb⟩:=hb;exact hk _ _ ⟨k0,ka,Ru CI,CJ,fun z=>absurd z (hb rfl),.refl _,rfl⟩
   rintro f' H1 ⟨k0,ka,CL,CJ,hz,s1,rfl⟩;have Di:=g.num k0 CL;refine ⟨aj (by show 0<=1000000;decide),fun pl A9=>?_⟩;have s2:L2.Same H1 (upd H1 pl (.tup [])):=ad A9 _;have e2:(upd H1 pl (.tup [])) pl=some (.tup (([]:List Rk).map V.ref)):=ac;generalize (upd H1 pl (.tup []))=H2 at s2 e2 ⊢;have CH:=s1.trans s2;refine ⟨_,rfl,ka,_,1,_,rfl,rfl,SqT.of (s2 _ _ CJ),at1,k0.2,rfl,by omega,by omega,?_⟩
   refine b8 (n:=k0.2.toNat) (fun i σ H3=>Ex5 fun (c7 c8:Option V) (pl:Rk) (bs:List Rk) (ts:List Th)=>An6 (σ=[some (.int cell),some (.ref oa),some (.int S),some (.int C),some (.int deep),some (.ref ka),some (.ref pl),c7,c8]) (L2.Same H1 H3) (H3 pl=some (.tup (bs.map V.ref))) (Ats H3 ts bs) (ts.length=i) (∀ t∈ts,t.FitS outs S C/\t.tall<=(deep - 1).toNat+1))
    ⟨none,none,pl,[],[],rfl,s2,e2,.nil,rfl,fun t ht=>by cases ht⟩ ?_ ?_
   · rintro i σ H3 hi ⟨c7,c8,pl,bs,ts,rfl,s3,e3,Cy,BZ,Ai⟩;have F7:i<k0.2.toNat:=hi;have sB:L2.Same H H3:=s1.trans s3
     have HE:1<=deep:=by
      by_cases z:deep=0
      · have:=hz z;omega
      · omega
     refine ⟨_,rfl,_,_,rfl,rfl,⟨by decide,by decide⟩,_,rfl,_,_,rfl,rfl,_,_,rfl,rfl,_,_,rfl,rfl,.inr ⟨by decide,by decide⟩,_,_,rfl,rfl,(by show (0:Int)<2147483647;decide),?_⟩;refine ⟨_,rfl,_,rfl,_,rfl,_,rfl,_,_,rfl,rfl,_,oa,Ap,outs,S,C,deep - 1,rfl,sB _ _ eo,A8.mono (Same.kt sB),g,S0,S1,C0,C1,by omega,by omega,fun t r H4 s4 AW AI Aw=>?_⟩;have B8:bs.length=ts.length:=Cy.length;refine ⟨_,rfl,_,rfl,aj (by show 1<=1000000;decide),fun p1 Eb=>?_⟩;dsimp only;have s5:L2.Same H4 (upd H4 p1 (.tup [.ref r])):=ad Eb _;have e5:(upd H4 p1 (.tup [.ref r])) p1=some (.tup [.ref r]):=ac;generalize (upd H4 p1 (.tup [.ref r]))=H5 at s5 e5 ⊢;refine vI (s5 _ _ (s4 _ _ e3)) e5 (by rw [Rf];show bs.length+1<=1000000;omega) fun p H6 s6 e6=>?_;have Hw:=s4.trans (s5.trans s6);refine ⟨_,_,p,bs++[r],ts++[t],rfl,s3.trans Hw,by rw [e6,RC];rfl,(Cy.mono (Same.kt Hw)).append (.cons (AW.mono (Same.kt (s5.trans s6))) .nil),by rw [Rm,BZ];rfl,fun u hu=>?_⟩;rcases RN.mp hu with hu | hu
     · exact Ai u hu
     · rw [RO.mp hu];exact ⟨AI,Aw⟩
   · rintro σ H3 ⟨c7,c8,pl,bs,ts,rfl,s3,e3,Cy,BZ,Ai⟩;have B8:bs.length=ts.length:=Cy.length;refine ⟨_,rfl,ka,_,0,.str k0.1,rfl,rfl,SqT.of (s3 _ _ CJ),at0,aj (by show 1<=1000000;decide),fun p1 Eb=>?_⟩;dsimp only;have s4:L2.Same H3 (upd H3 p1 (.tup [.str k0.1])):=ad Eb _;have e4:(upd H3 p1 (.tup [.str k0.1])) p1=some (.tup [.str k0.1]):=ac;generalize (upd H3 p1 (.tup [.str k0.1]))=H4 at s4 e4 ⊢;refine ⟨_,rfl,?_⟩;refine vI e4 (s4 _ _ e3) (by rw [Rf];show 1+bs.length<=1000000;omega) fun p H6 s6 e6=>?_;have FD:=(g.low k0 CL).1;refine q (.knot k0.1 ts) p H6 (s1.trans (s3.trans (s4.trans s6))) ?_ ?_ ?_
     · rw [At];exact ⟨xy FD,bs,e6,Cy.mono (Same.kt (s4.trans s6))⟩
     · rw [Th.FitS];refine ⟨?_,FitSs.of fun t ht=>(Ai t ht).1⟩
       have:(k0.1,(ts.length:Int))=k0:=by
        rw [BZ];exact Prod.ext rfl (by show ((k0.2.toNat:Nat):Int)=k0.2;omega)
       rw [this];exact CL
     · rw [Th.tall];by_cases z:deep=0
       · have BU:=hz z;have:ts=[]:=R4.mp (by omega);subst this;rw [aL];omega
       · have:=nM (n:=(deep - 1).toNat+1) fun t ht=>(Ai t ht).2;omega
inductive fz (n:Nat) (vs:List V) (H:Hp) (Q:VK) (_E:XK):Prop
 | mk (l:Rk) (x:Int) (oa:Rk) (Ap:List Rk) (outs:List (Rz×Int)) (S C deep:Int) (Aq:vs=[.ref l,.ref oa,.int S,.int C,.int deep]) (Ar:H l=some (.lst [.int x])) (AB:H oa=some (.tup (Ap.map V.ref))) (AQ:KsAt H outs Ap) (Bq:fA outs) (Cb:0<=S) (DF:S<=20) (FQ:0<=C) (IK:C<=3) (IL:0<=deep) (Fp:deep<(n:Int)) (Ql:∀ (t:Th) (r:Rk) (x':Int) (H':Hp),SameB l H H'->H' l=some (.lst [.int x'])->At H' t r->t.FitS outs S C->t.tall<=deep.toNat+1->Q (.ref r) H'):fz n vs H Q _E
def lp (n:Nat):Sp:=fz n
set_option maxHeartbeats 4000000 in
theorem dU:∀ n:Nat,FnOk P w K mg base CX0 (n+2) T.g__law_digits.f T.g__law_digits.d ["own","outs","states","kids","deep"] (lp n)
 | 0=>⟨fun _ _ _ _ h=>by obtain ⟨_,_,_,_,_,_,_,_,_,_,_,_,_,_,_,_,_,h1,h2,_⟩:=h;omega,fun _ _ _ _ _ _ _ _ _ _ _ _ _ h=>by obtain ⟨_,_,_,_,_,_,_,_,_,_,_,_,_,_,_,_,_,h1,h2,_⟩:=h;omega⟩
 | n+1=>by
   have ih:=dU n;refine T.g__law_digits.F.ok bx (fun vs H Q E h=>?_) (fun Al A outer s H vs Q E hr h=>?_)
   · obtain ⟨l,x,oa,Ap,outs,S,C,deep,rfl,_⟩:=h;rfl
   obtain ⟨l,x,oa,Ap,outs,S,C,deep,rfl,el,eo,A8,g,S0,S1,C0,C1,d0,d1,q⟩:=h
   refine ⟨_,(af (ao (i:=5) bx.nd rfl (RH rfl) (ak fM (pv 2) (pv 3)))
    (af (ao (i:=6) bx.nd rfl (RH rfl) (ak aZ (aA aJ (pv 0) ag (fun _ _=>rfl)) (ak aY (pv 5) (aq am rfl T.n_len RQ (aa (pv 1) ae)))))
    (af (gf (ak bo (aA aJ (pv 0) ag (fun _ _=>rfl)) (ak aY (pv 5) (aq am rfl T.n_len RQ (aa (pv 1) ae)))) (mC (pv 0) ag set_list))
    (af (aN (au gq (pv 6) (pv 5) (ay _)) (ai (av (ce (aa ax (aa (ak aZ (pv 6) (pv 2)) (aa (ak bo (pv 6) (pv 2)) ae)))))) aE)
    (af (ao (i:=7) bx.nd rfl (RH rfl) (aA aM (pv 1) (ak jz (pv 6) (pv 5)) (fun _ _=>rfl)))
    (af (aN (au cq (pv 4) ag (ay _)) (ai (ao (i:=7) bx.nd rfl (RH rfl) (aA aJ (cC (N:=[Rc "one"]) (js:=[none]) (g:=(aC 0)) (tt:=(lz (tOp (rEq) (tOp (ve K) (cj 0) (tC (.int 1))) (tC (.int 0))))) (te:=(cj 0)) rfl (dz rfl (by decide +kernel) (by decide +kernel) rfl rfl rfl) (eL (pv 1)) (fun _ _ _ _ _ _=>(aD (i:=0) yU rfl (RH rfl))) (bX rfl) (fun _ _ _ _ _ _=>iM (au cq (aA aM (pv 0) ag (fun _ _=>rfl)) ag (ay _))) (fun _ _ _ _ _ _=>(pv 0))) ag (fun _ _=>rfl)))) aE)
    (af (ao (i:=8) bx.nd rfl (RH rfl) (ce ae))
    (af (cf Sz rfl (bO rfl T.n_range (aa (aA aM (pv 7) ag (fun _ _=>rfl)) ae)) (aD (i:=9) bx.nd rfl (RH rfl)) (ai (ao (i:=8) bx.nd rfl (RH rfl) (ak iQ (pv 8) (ce (aa (bc (ih) (hr.mono (Rq _)) rfl T.g__law_digits.m T.g__law_digits.F.kp T.g__law_digits.b .nil nv (aa (pv 0) (aa (pv 1) (aa (pv 2) (aa (pv 3) (aa (ak jz (pv 4) ag) ae)))))) ae))))))
    (ai (av (ak iQ (ce (aa (aA aM (pv 7) ag (fun _ _=>rfl)) ae)) (pv 8)))))))))))),?_⟩
   try dsimp only [AN,Aj]
   have By:outs.length=Ap.length:=R3 A8;have Ld:=g.le;have G9:=g.ne;have Q3:((Ap.map V.ref).length:Int)=(outs.length:Int):=by rw [Rf,By]
   have HB:0<=S * C:=Int.mul_nonneg S0 C0
   have Le:S * C<=60:=by
    have:S * C<=20 * 3:=Int.mul_le_mul S1 C1 C0 (by decide);omega
   refine ⟨_,rfl,_,rfl,_,_,rfl,rfl,.inl ⟨by omega,by omega⟩,?_⟩;dsimp only [aC];have Co:0<S * C+((Ap.map V.ref).length:Int):=by omega
   refine ⟨_,rfl,l,_,0,.int x,rfl,rfl,SqL.of el,at0,_,rfl,_,rfl,oa,_,rfl,.inr (SqT.of eo),_,_,rfl,rfl,_,_,rfl,rfl,Co,?_⟩;refine ⟨_,rfl,l,_,0,.int x,rfl,rfl,SqL.of el,at0,_,rfl,_,rfl,oa,_,rfl,.inr (SqT.of eo),_,_,rfl,rfl,_,_,rfl,rfl,⟨Co,by show S * C+((Ap.map V.ref).length:Int)<1073741824;omega⟩,?_⟩;refine ⟨_,rfl,l,_,0,0,rfl,rfl,el,rfl,?_⟩;dsimp only;have p0:=Se x (show S * C+((Ap.map V.ref).length:Int)≠0 by omega);have p1:=Sa x Co;generalize x%(S * C+((Ap.map V.ref).length:Int))=pick at p0 p1 ⊢;generalize x / (S * C+((Ap.map V.ref).length:Int))=x1;have e1:(upd H l (.lst ([V.int x].set 0 (.int x1)))) l=some (.lst [.int x1]):=by rw [ac];rfl
   have s1:SameB l H (upd H l (.lst ([V.int x].set 0 (.int x1)))):=.set;generalize (upd H l (.lst ([V.int x].set 0 (.int x1))))=H1 at e1 s1 ⊢;have Jb:H1 oa=some (.tup (Ap.map V.ref)):=s1 _ _ (sI eo el (by intro z;cases z)) eo;have Qm:KT H H1:=s1.kt el;have DQ:=A8.mono Qm;generalize DV:S * C=calls at HB Le p1 Co ⊢;refine aG (fun f' H'=>An3 (H1=H') (¬ pick<calls) (f'=[some (.ref l),some (.ref oa),some (.int S),some (.int C),some (.int deep),some (.int calls),some (.int pick),none,none,none])) (fun kk hk=>?_) ?_
   · refine cA (fun b H'=>An2 (H1=H') (b=decide (pick<calls))) (fun k2 BU=>?_) (fun H' hb=>?_) (fun H' hb=>?_)
     · exact ⟨_,rfl,_,rfl,_,_,rfl,rfl,_,rfl,BU _ _ ⟨rfl,rfl⟩⟩
     · obtain ⟨rfl,hb⟩:=hb;have AH:=of_decide_eq_true hb.symm
       have hS:0<S:=by
        rcases WZ S0 with h | h
        · exact h
        · rw [<- h,Int.zero_mul] at DV;omega
       have y0:=Se pick (show S≠0 by omega);have y1:=Sa pick hS;have y2:0<=pick / S:=Wq p0 (by omega);have y3:pick / S<C:=Int.ediv_lt_of_lt_mul hS (by rw [Int.mul_comm,DV];exact AH);refine ⟨_,rfl,_,rfl,_,_,rfl,rfl,hS,_,rfl,_,rfl,_,_,rfl,rfl,⟨hS,by omega⟩,aj (by show 3<=1000000;decide),fun ca HC=>?_⟩;have Bo:l≠ca:=fun z=>by rw [<- z,e1] at HC;cases HC
       refine q (.call (pick%S) (pick / S)) ca x1 _ (s1.trans (.of (ad HC _))) (by rw [ar Bo];exact e1) ?_ ?_ ?_
       · rw [At];exact ac
       · rw [Th.FitS];exact ⟨y0,by omega,y2,by omega⟩
       · rw [Th.tall];omega
     · obtain ⟨rfl,hb⟩:=hb;exact hk _ _ ⟨rfl,of_decide_eq_false hb.symm,rfl⟩
   rintro f' H' ⟨rfl,Q4,rfl⟩;refine hid fun ZZ kZ=>?_;obtain ⟨k0,CI⟩:∃ k0,outs[(pick - calls).toNat]?=some k0:=⟨_,Rg (by omega)⟩;obtain ⟨ka,Bm,CJ⟩:=P2.get DQ CI;refine kZ ?_;refine ⟨_,rfl,_,rfl,_,rfl,_,_,rfl,rfl,oa,_,_,.ref ka,rfl,rfl,SqT.of Jb,at_nonneg (by omega) (by rw [Rw,Bm];rfl),?_⟩;dsimp only [aC];refine aG (fun f' H'=>Ex2 fun (k0:Rz×Int) (ka:Rk)=>An5 (k0∈outs) (KAt H' k0 ka) ((deep=0->k0.2=0)) (L2.Same H1 H') (f'=[some (.ref l),some (.ref oa),some (.int S),some (.int C),some (.int deep),some (.int calls),some (.int pick),some (.ref ka),none,none])) (fun kk hk=>?_) ?_
   · refine cA (fun b H'=>An2 (H1=H') ((b=false->deep≠0))) (fun k2 BU=>?_) (fun H' hb=>?_) (fun H' hb=>?_)
     · exact ⟨_,rfl,rfl,_,rfl,BU _ _ ⟨rfl,fun z z2=>of_decide_eq_false z (congrArg V.int z2)⟩⟩
     · obtain ⟨rfl,_⟩:=hb;refine ⟨_,rfl,oa,rfl,⟨_,SqT.of Jb⟩,md (K:=K) Jb DQ g (fun z ka H2 R sm hz r=>⟨_,rfl,ka,_,1,_,rfl,rfl,SqT.of hz,at1,rfl,_,rfl,r⟩) (fun ka H2 R r=>⟨_,rfl,r⟩) (fun D k1 EV rs H2 hD s2 eD Hl Iw e2=>?_)⟩;exact ⟨D,_,0,.ref EV,rfl,rfl,SqL.of eD,at0,hk _ _ ⟨k1,EV,Hl,e2,fun _=>Iw,s2,rfl⟩⟩
     · obtain ⟨rfl,hb⟩:=hb;exact hk _ _ ⟨k0,ka,Ru CI,CJ,fun z=>absurd z (hb rfl),.refl _,rfl⟩
   clear CI Bm CJ;rintro f' H2 ⟨k0,ka,CL,CJ,hz,s2,rfl⟩;have Di:=g.num k0 CL;have Lf:=s2 _ _ e1;refine ⟨aj (by show 0<=1000000;decide),fun pl A9=>?_⟩;have s3:L2.Same H2 (upd H2 pl (.tup [])):=ad A9 _;have e3:(upd H2 pl (.tup [])) pl=some (.tup (([]:List Rk).map V.ref)):=ac;generalize (upd H2 pl (.tup []))=H3 at s3 e3 ⊢;refine ⟨_,rfl,ka,_,1,_,rfl,rfl,SqT.of (s3 _ _ CJ),at1,k0.2,rfl,by omega,by omega,?_⟩
   refine b8 (n:=k0.2.toNat) (fun i σ H4=>Ex5 fun (c9:Option V) (pl:Rk) (bs:List Rk) (ts:List Th) (x':Int)=>An7 (σ=[some (.ref l),some (.ref oa),some (.int S),some (.int C),some (.int deep),some (.int calls),some (.int pick),some (.ref ka),some (.ref pl),c9]) (SameB l H2 H4) (H4 l=some (.lst [.int x'])) (H4 pl=some (.tup (bs.map V.ref))) (Ats H4 ts bs) (ts.length=i) (∀ t∈ts,t.FitS outs S C/\t.tall<=(deep - 1).toNat+1))
    ⟨none,pl,[],[],x1,rfl,.of s3,s3 _ _ Lf,e3,.nil,rfl,fun t ht=>by cases ht⟩ ?_ ?_
   · rintro i σ H4 hi ⟨c9,pl,bs,ts,x',rfl,s4,Jc,e4,Cy,BZ,Ai⟩;have F7:i<k0.2.toNat:=hi;have Jd:KT H2 H4:=s4.kt Lf
     have HE:1<=deep:=by
      by_cases z:deep=0
      · have:=hz z;omega
      · omega
     refine ⟨_,rfl,_,rfl,_,rfl,_,rfl,_,rfl,_,rfl,_,_,rfl,rfl,l,x',oa,Ap,outs,S,C,deep - 1,rfl,Jc,Jd _ _ (s2 _ _ Jb),DQ.mono ((Same.kt s2).trans Jd),g,S0,S1,C0,C1,by omega,by omega,fun t r x5 H5 s5 Qn AW AI Aw=>?_⟩;have B8:bs.length=ts.length:=Cy.length;have F8:KT H4 H5:=s5.kt Jc;refine ⟨aj (by show 1<=1000000;decide),fun Ez Eb=>?_⟩;dsimp only;have s6:L2.Same H5 (upd H5 Ez (.tup [.ref r])):=ad Eb _;have e6:(upd H5 Ez (.tup [.ref r])) Ez=some (.tup [.ref r]):=ac;generalize (upd H5 Ez (.tup [.ref r]))=H6 at s6 e6 ⊢;refine vI (s6 _ _ (F8 _ _ e4)) e6 (by rw [Rf];show bs.length+1<=1000000;omega) fun p H7 s7 e7=>?_;have Dq:=s6.trans s7;refine ⟨_,p,bs++[r],ts++[t],x5,rfl,s4.trans (s5.trans (.of Dq)),Dq _ _ Qn,by rw [e7,RC];rfl,(Cy.mono (F8.trans (Same.kt Dq))).append (.cons (AW.mono (Same.kt Dq)) .nil),by rw [Rm,BZ];rfl,fun u hu=>?_⟩;rcases RN.mp hu with hu | hu
     · exact Ai u hu
     · rw [RO.mp hu];exact ⟨AI,Aw⟩
   · rintro σ H4 ⟨c9,pl,bs,ts,x',rfl,s4,Jc,e4,Cy,BZ,Ai⟩;have B8:bs.length=ts.length:=Cy.length;have Jd:KT H2 H4:=s4.kt Lf;refine ⟨_,rfl,ka,_,0,.str k0.1,rfl,rfl,SqT.of (Jd _ _ CJ),at0,aj (by show 1<=1000000;decide),fun Ez Eb=>?_⟩;dsimp only;have s5:L2.Same H4 (upd H4 Ez (.tup [.str k0.1])):=ad Eb _;have e5:(upd H4 Ez (.tup [.str k0.1])) Ez=some (.tup [.str k0.1]):=ac;generalize (upd H4 Ez (.tup [.str k0.1]))=H5 at s5 e5 ⊢;refine ⟨_,rfl,?_⟩;refine vI e5 (s5 _ _ e4) (by rw [Rf];show 1+bs.length<=1000000;omega) fun p H6 s6 e6=>?_;have Lg:=s5.trans s6;have FD:=(g.low k0 CL).1;refine q (.knot k0.1 ts) p x' H6 (s1.trans ((SameB.of s2).trans (s4.trans (.of Lg)))) (Lg _ _ Jc) ?_ ?_ ?_
     · rw [At];exact ⟨xy FD,bs,e6,Cy.mono (Same.kt Lg)⟩
     · rw [Th.FitS];refine ⟨?_,FitSs.of fun t ht=>(Ai t ht).1⟩
       have:(k0.1,(ts.length:Int))=k0:=by
        rw [BZ];exact Prod.ext rfl (by show ((k0.2.toNat:Nat):Int)=k0.2;omega)
       rw [this];exact CL
     · rw [Th.tall];by_cases z:deep=0
       · have BU:=hz z;have:ts=[]:=R4.mp (by omega);subst this;rw [aL];omega
       · have:=nM (n:=(deep - 1).toNat+1) fun t ht=>(Ai t ht).2;omega
theorem wS {xs:List V} {lo hi:Option Int} {v:V} (h:v∈cB xs lo hi):v∈xs:=by
 unfold cB at h;exact Ti (SU h)
theorem yn (xs:List V) (lo hi:Option Int):(cB xs lo hi).length<=xs.length:=by
 unfold cB;rw [Rx,RJ];omega
theorem SameB.fresh {l:Rk} {H H1 H':Hp} (hl:H l=none) (s:L2.Same H H1) (b:SameB l H1 H'):L2.Same H H':=fun a o e=>b a o (fun z=>by rw [z,hl] at e;cases e) (s a o e)
def GK (ks:List (Rz×Int)):Prop:=fA ks/\(∀ k∈ks,okW k.1)/\(ks.map (·.1)).Nodup
def TsF (ins outs:List (Rz×Int)) (S:Int) (ts:List Th):Prop:=∀ (j:Nat) (t:Th) (k:Rz×Int),ts[j]?=some t->ins[j]?=some k->t.FitS outs S k.2/\t.tall<=4
def RwF (ins outs:List (Rz×Int)) (S:Int) (row:List Th):Prop:=row.length=ins.length/\TsF ins outs S row
theorem TsF.snoc {ins outs:List (Rz×Int)} {S:Int} {ts:List Th} {t:Th} {k:Rz×Int} (h:TsF ins outs S ts) (hk:ins[ts.length]?=some k) (hf:t.FitS outs S k.2) (ht:t.tall<=4):TsF ins outs S (ts++[t]):=fun j u k' hu BP=>by
 by_cases hj:j<ts.length
 · rw [TQ hj] at hu;exact h j u k' hu BP
 · have Qo:=(Rv.mp hu).1;rw [Rm,Sg] at Qo;obtain rfl:j=ts.length:=by omega
   rw [SY (Rq _),Vt] at hu;cases hu;rw [hk] at BP;cases BP;exact ⟨hf,ht⟩
structure yk (ins outs:List (Rz×Int)) (head:Th) (rows:List (List Th)):Prop where
 gi:GK ins
 go:GK outs
 few:rows.length<=4
 row:∀ row∈rows,RwF ins outs (rows.length:Nat) row
 hd:head.FitS outs (rows.length:Nat) 1/\head.tall<=4
inductive gM (K:Ri) (vs:List V) (H:Hp) (Q:VK) (_E:XK):Prop
 | mk (a:Rk) (ns:List Int) (Aq:vs=[.ref a,.int 4,.int 3]) (Ar:SqL K H a (ns.map V.int)) (AB:ns.length<=63) (AQ:∀ (r:Rk) (ins outs:List (Rz×Int)) (head:Th) (rows:List (List Th)) (H':Hp),L2.Same H H'->Bk H' ins outs head rows r->yk ins outs head rows->Q (.ref r) H'):gM K vs H Q _E
def ph (K:Ri):Sp:=gM K
set_option maxHeartbeats 4000000 in
theorem nT:FnOk P w K mg base CX0 9 T.g__law_book.f T.g__law_book.d ["script","most","deep"] (ph K):=by
 refine T.g__law_book.F.ok aT (fun vs H Q E h=>?_) (fun Al A outer s H vs Q E hr h=>?_)
 · obtain ⟨a,ns,rfl,_⟩:=h;rfl
 obtain ⟨a,ns,rfl,hS,Ej,q⟩:=h
 refine ⟨_,(af (ao (i:=3) aT.nd rfl (RH rfl) (pcF T.g__law_kinds (gL T) hr (aa (pcF T.g__law_cell_at (bE T) hr (aa (pv 0) (aa ag ae))) ae)))
  (af (ao (i:=4) aT.nd rfl (RH rfl) (pcF T.g__law_kinds (gL T) hr (aa (pcF T.g__law_cell_at (bE T) hr (aa (pv 0) (aa ag ae))) ae)))
  (af (aN (au cq (ak aZ (ak bo (pcF T.g__law_cell_at (bE T) hr (aa (pv 0) (aa ag ae))) ag) ag) ag (ay _)) (ai (ao (i:=4) aT.nd rfl (RH rfl) (pv 3))) aE)
  (af (ao (i:=5) aT.nd rfl (RH rfl) (ak aZ (pcF T.g__law_cell_at (bE T) hr (aa (pv 0) (aa ag ae))) (ak aY (pv 1) ag)))
  (af (ao (i:=6) aT.nd rfl (RH rfl) (pcF T.g__law_folded (mj T) hr (aa (aK bp (pv 0) (aO ag) bd) (aa (ak aY (ak fM (pv 5) (aq am rfl T.n_len RQ (aa (pv 3) ae))) ag) ae))))
  (af (ao (i:=7) aT.nd rfl (RH rfl) (cy cq (ak aZ (ak bo (pcF T.g__law_cell_at (bE T) hr (aa (pv 0) (aa ag ae))) ag) ag) ag (ay _)))
  (af (ao (i:=8) aT.nd rfl (RH rfl) (aW ae))
  (af (cf Sz rfl (bO rfl T.n_range (aa (pv 5) ae)) (aD (i:=9) aT.nd rfl (RH rfl)) (af (ao (i:=10) aT.nd rfl (RH rfl) (aW ae))
  (af (cf Sz rfl (bO rfl T.n_range (aa (aq am rfl T.n_len RQ (aa (pv 3) ae)) ae)) (aD (i:=11) aT.nd rfl (RH rfl)) (af (ao (i:=12) aT.nd rfl (RH rfl) (ak aY (ak aY (aA aJ (pv 6) (ak aY (ak aY ag (ak fM (pv 9) (aq am rfl T.n_len RQ (aa (pv 3) ae)))) (pv 11)) (fun _ _=>rfl)) (ak fM ag (pv 11))) (pv 9)))
  (ai (aN (ba (pv 7) (fun _=>rfl)) (ai (bq (cb RX R9 R8 bh (pv 10) (aa (pcF T.g__law_digits (dU T 5) hr (aa (aW (aa (pv 12) ae)) (aa (pv 4) (aa (pv 5) (aa (aA aM (aA aM (pv 3) (pv 11) (fun _ _=>rfl)) ag (fun _ _=>rfl)) (aa (pv 2) ae)))))) ae)))) (ai (bq (cb RX R9 R8 bh (pv 10) (aa (pcF T.g__law_pattern (dq T 5) hr (aa (pv 12) (aa (pv 4) (aa (pv 5) (aa (aA aM (aA aM (pv 3) (pv 11) (fun _ _=>rfl)) ag (fun _ _=>rfl)) (aa (ak aZ (ak bo (pv 12) ag) (ak aY (pv 2) ag)) ae)))))) ae))))))))
  (ai (bq (cb RX R9 R8 bh (pv 8) (aa (bz bI rfl T.n_tuple SD (aa (pv 10) ae)) ae)))))))
  (af (ao (i:=13) aT.nd rfl (RH rfl) (pcF T.g__law_pattern (dq T 5) hr (aa (aA aJ (pv 6) ag (fun _ _=>rfl)) (aa (pv 4) (aa (pv 5) (aa ag (aa (pv 2) ae)))))))
  (af (aN (ba (pv 7) (fun _=>rfl)) (ai (ao (i:=13) aT.nd rfl (RH rfl) (pcF T.g__law_digits (dU T 5) hr (aa (aW (aa (aA aJ (pv 6) ag (fun _ _=>rfl)) ae)) (aa (pv 4) (aa (pv 5) (aa ag (aa (pv 2) ae)))))))) aE)
  (ai (av (ce (aa (pv 3) (aa (pv 4) (aa (pv 13) (aa (bz bI rfl T.n_tuple SD (aa (pv 8) ae)) ae))))))))))))))))),?_⟩
 try dsimp only [AN,Aj]
 refine ⟨_,rfl,a,ns,0,rfl,hS,by decide,cellAt ns 0,rfl,gu ns 0,fun ia AD H1 s1 ei B'=>?_⟩;refine ⟨_,rfl,a,ns,1,rfl,s1.seq hS,by decide,cellAt ns 1,rfl,gu ns 1,fun Qp Lh H2 s2 Nc FE=>?_⟩;have gI:GK (cm (cellAt ns 0)):=⟨fh _,j3 _,gT _⟩;have Li:GK (cm (cellAt ns 1)):=⟨fh _,j3 _,gT _⟩;generalize cm (cellAt ns 0)=ins at B' gI;generalize cm (cellAt ns 1)=HF at FE Li;have gi:=gI.1;have B':=B'.mono (Same.kt s2);have ei:=s2 _ _ ei;have CH:=s1.trans s2;have hS:=CH.seq hS;dsimp only [aC];refine aG (fun f' H'=>Ex3 fun (oa:Rk) (Ap:List Rk) (outs:List (Rz×Int))=>An5 (H2=H') (H2 oa=some (.tup (Ap.map V.ref))) (KsAt H2 outs Ap) (GK outs) (f'=[some (.ref a),some (.int 4),some (.int 3),some (.ref ia),some (.ref oa),none,none,none,none,none,none,none,none,none])) (fun kk hk=>?_) ?_
 · refine cA (fun b H'=>H2=H') (fun k2 BU=>?_) (fun H' hb=>?_) (fun H' hb=>?_)
   · exact ⟨_,rfl,a,ns,1,rfl,hS,by decide,_,_,rfl,rfl,⟨by decide,by decide⟩,_,_,rfl,rfl,(by show (0:Int)<3;decide),rfl,_,rfl,BU _ _ rfl⟩
   · subst hb;exact ⟨_,rfl,hk _ _ ⟨ia,AD,ins,rfl,ei,B',gI,rfl⟩⟩
   · subst hb;exact hk _ _ ⟨Qp,Lh,HF,rfl,Nc,FE,Li,rfl⟩
 clear Nc FE Li;rintro f' H' ⟨oa,Ap,outs,rfl,eo,CV,gO,rfl⟩;have go:=gO.1;have BS:ins.length=AD.length:=R3 B';have L5:=gi.le;have Cs:((AD.map V.ref).length:Int)=(ins.length:Int):=by rw [Rf,BS]
 refine ⟨_,rfl,a,ns,2,rfl,hS,by decide,_,rfl,_,_,rfl,rfl,_,_,rfl,rfl,(by show (0:Int)<4+1;decide),?_⟩;have S0:=Se (cellAt ns 2) (show (4+1:Int)≠0 by decide);have S1:=Sa (cellAt ns 2) (show (0:Int)<4+1 by decide);dsimp only [aC];generalize cellAt ns 2%(4+1)=S at S0 S1 ⊢;have Qq:0<=S * (ins.length:Int):=Int.mul_nonneg S0 (by omega)
 have Lj:S * (ins.length:Int)<=24:=by
  have:S * (ins.length:Int)<=4 * 6:=Int.mul_le_mul (by omega) (by omega) (by omega) (by decide);omega
 rw [<- Cs] at Qq Lj;refine ⟨_,rfl,3,rfl,a,_,rfl,hS,fun p hp=>?_⟩;dsimp only [aC];have s3:L2.Same H2 (upd H2 p (.lst (cB (ns.map V.int) (some 3) none))):=ad hp _;have e3:(upd H2 p (.lst (cB (ns.map V.int) (some 3) none))) p=some (.lst (cB (ns.map V.int) (some 3) none)):=ac;generalize (upd H2 p (.lst (cB (ns.map V.int) (some 3) none)))=H3 at s3 e3 ⊢;have Lk:=yn (ns.map V.int) (some 3) none;rw [Rf] at Lk;refine ⟨_,rfl,_,rfl,ia,_,rfl,.inr (SqT.of (s3 _ _ ei)),_,_,rfl,rfl,.inl ⟨by omega,by omega⟩,_,_,rfl,rfl,p,_,_,rfl,e3,(fun v hv=>(SQ.mp (wS hv)).elim fun z hz=>⟨z,hz.2.symm⟩),by omega,by omega,by omega,fun ca cs H4 s4 ec Bo=>?_⟩;have Cc:=s3.trans s4;have hS:=Cc.seq hS;have Qr:=CH.trans Cc;have ei:=Cc _ _ ei;have B':=B'.mono (Same.kt Cc);have eo:=Cc _ _ eo;have CV:=CV.mono (Same.kt Cc);refine ⟨_,rfl,a,ns,2,rfl,hS,by decide,_,_,rfl,rfl,⟨by decide,by decide⟩,_,_,rfl,rfl,(by show (0:Int)<2;decide),rfl,?_⟩;dsimp only [aC];generalize decide (V.int (cellAt ns 2 / 7%2)=V.int 1)=dg;refine ⟨aj (by show 0<=1000000;decide),fun rl DW=>?_⟩;have Nd:L2.Same H4 (upd H4 rl (.lst [])):=ad DW _;have er1:(upd H4 rl (.lst [])) rl=some (.lst []):=ac;generalize (upd H4 rl (.lst []))=H5 at Nd er1 ⊢;refine ⟨_,rfl,S,rfl,by omega,by omega,?_⟩
 refine b8 (n:=S.toNat) (fun i σ H3=>Ex6 fun (sv rv kv cv:Option V) (Bt:List Rk) (rows:List (List Th))=>An6 (σ=[some (.ref a),some (.int 4),some (.int 3),some (.ref ia),some (.ref oa),some (.int S),some (.ref ca),some (.bl dg),some (.ref rl),sv,rv,kv,cv,none]) (L2.Same H4 H3) (H3 rl=some (.lst (Bt.map V.ref))) (So (RowAt H3) rows Bt) (rows.length=i) (∀ row∈rows,RwF ins outs S row))
  ⟨none,none,none,none,[],[],rfl,Nd,er1,.nil,rfl,fun t ht=>by cases ht⟩ ?_ ?_
 · rintro i σ H3 hi ⟨sv,rv,kv,cv,Bt,rows,rfl,s3,Je,AK,Fq,Ai⟩;have F7:i<S.toNat:=hi;have HG:rows.length=Bt.length:=R3 AK;refine ⟨aj (by show 0<=1000000;decide),fun rw Jf=>?_⟩;have Ll:H4 rw=none:=s3.free Jf;have Lm:rw≠rl:=fun z=>by rw [z,Je] at Jf;cases Jf
   have s6:L2.Same H3 (upd H3 rw (.lst [])):=ad Jf _;have Nf:(upd H3 rw (.lst [])) rw=some (.lst []):=ac;generalize (upd H3 rw (.lst []))=H6 at s6 Nf ⊢;refine ⟨_,rfl,ia,_,rfl,.inr (SqT.of (s6 _ _ (s3 _ _ ei))),_,rfl,by omega,by omega,?_⟩
   refine b8 (n:=((AD.map V.ref).length:Int).toNat) (fun j σ H5=>Ex4 fun (kv cv:Option V) (bs:List Rk) (ts:List Th)=>An8 (σ=[some (.ref a),some (.int 4),some (.int 3),some (.ref ia),some (.ref oa),some (.int S),some (.ref ca),some (.bl dg),some (.ref rl),some (.int (0+(i:Int))),some (.ref rw),kv,cv,none]) (L2.Same H4 H5) (H5 rl=some (.lst (Bt.map V.ref))) (KT H6 H5) (H5 rw=some (.lst (bs.map V.ref))) (Ats H5 ts bs) (ts.length=j) (TsF ins outs S ts))
    ⟨kv,cv,[],[],rfl,s3.trans s6,s6 _ _ Je,fun _ _ e=>e,Nf,.nil,rfl,fun j t k h=>by simp at h⟩ ?_ ?_
   · rintro j σ H5 hj ⟨kv,cv,bs,ts,rfl,s5,Jg,F8,HH,Cy,BZ,DX⟩
     have Ln:j<ins.length:=by
      have:j<((AD.map V.ref).length:Int).toNat:=hj;omega
     refine hid fun ZZ kZ=>?_;obtain ⟨k0,CI⟩:∃ k0,ins[j]?=some k0:=⟨_,Rg Ln⟩;obtain ⟨ka,Bm,CJ⟩:=P2.get B' CI;have Di:=gi.num k0 (Ru CI);have AW:atI (AD.map V.ref) (0+(j:Int))=some (.ref ka):=at_nonneg (by omega) (by rw [show (0+(j:Int)).toNat=j by omega,Rw,Bm];rfl);have hmul:0<=(0+(i:Int)) * ((AD.map V.ref).length:Int):=Int.mul_nonneg (by omega) (by omega)
     have Ng:(0+(i:Int)) * ((AD.map V.ref).length:Int)+((AD.map V.ref).length:Int)<=S * ((AD.map V.ref).length:Int):=by
      have h1:(0+(i:Int)+1) * ((AD.map V.ref).length:Int)<=S * ((AD.map V.ref).length:Int):=Int.mul_le_mul_of_nonneg_right (by omega) (by omega);rw [Int.add_mul (0+(i:Int)) 1,Int.one_mul] at h1;exact h1
     obtain ⟨c,hc⟩:∃ c,cs[(1+(0+(i:Int)) * ((AD.map V.ref).length:Int)+(0+(j:Int))).toNat]?=some c:=⟨_,Rg (by omega)⟩;refine kZ ?_;refine ⟨_,rfl,_,rfl,_,rfl,ia,_,rfl,.inr (SqT.of (s5 _ _ ei)),_,_,rfl,rfl,.inl ⟨by omega,by omega⟩,_,_,rfl,rfl,_,rfl,_,_,rfl,rfl,ca,_,_,.int c,rfl,rfl,SqL.of (s5 _ _ ec),at_nonneg (by omega) (by rw [Rw,hc];rfl),?_⟩;refine ⟨_,rfl,_,_,rfl,rfl,.inl ⟨by decide,by decide⟩,_,_,rfl,rfl,_,rfl,_,_,rfl,rfl,?_⟩;dsimp only [aC];generalize c+7 * (0+(j:Int))+(0+(i:Int))=cell
     have fin:∀ (t:Th) (r:Rk) (H7:Hp),L2.Same H5 H7->At H7 t r->t.FitS outs S k0.2->t.tall<=4->(sO (V.ref rw) [V.ref r] H7 fun _ H8=>Ex4 fun (kv cv:Option V) (bs:List Rk) (ts:List Th)=>An8 ([some (V.ref a),some (.int 4),some (.int 3),some (.ref ia),some (.ref oa),some (.int S),some (.ref ca),some (.bl dg),some (.ref rl),some (.int (0+(i:Int))),some (.ref rw),some (.int (0+(j:Int))),some (.int cell),none]=[some (.ref a),some (.int 4),some (.int 3),some (.ref ia),some (.ref oa),some (.int S),some (.ref ca),some (.bl dg),some (.ref rl),some (.int (0+(i:Int))),some (.ref rw),kv,cv,none]) (L2.Same H4 H8) (H8 rl=some (.lst (Bt.map V.ref))) (KT H6 H8) (H8 rw=some (.lst (bs.map V.ref))) (Ats H8 ts bs) (ts.length=j+1) (TsF ins outs S ts)):=by
      intro t r H7 s7 AW AI Aw;have Nh:=s7 _ _ HH;have F9:=s7 _ _ Jg;have B8:bs.length=ts.length:=Cy.length;refine ⟨rw,_,_,rfl,rfl,Nh,bn (by rw [Rf];omega),?_⟩;have kt:KT H7 (upd H7 rw (.lst (bs.map V.ref++[.ref r]))):=bG Nh;refine ⟨_,_,bs++[r],ts++[t],rfl,aH (s5.trans s7) Ll,by rw [ar Lm.symm];exact F9,F8.trans ((Same.kt s7).trans kt),?_,?_,?_,?_⟩
      · rw [ac,RC];rfl
      · exact (Cy.mono ((Same.kt s7).trans kt)).append (.cons (AW.mono kt) .nil)
      · rw [Rm,BZ];rfl
      · exact DX.snoc (by rw [BZ];exact CI) AI Aw
     refine cA (fun b H'=>H5=H') (fun k2 BU=>?_) (fun H' hb=>?_) (fun H' hb=>?_)
     · exact ⟨_,rfl,_,rfl,BU _ _ rfl⟩
     · subst hb;refine ⟨_,rfl,.inl ⟨rfl,_,SqL.of HH⟩,_,rfl,aj (by show 1<=1000000;decide),fun ol D9=>?_⟩;have s7:L2.Same H5 (upd H5 ol (.lst [.int cell])):=ad D9 _;have e7:(upd H5 ol (.lst [.int cell])) ol=some (.lst [.int cell]):=ac;dsimp only;generalize (upd H5 ol (.lst [.int cell]))=H7 at s7 e7 ⊢;have Dq:=s5.trans s7;refine ⟨_,rfl,_,rfl,_,rfl,_,rfl,ia,_,_,.ref ka,rfl,rfl,SqT.of (Dq _ _ ei),AW,ka,_,1,_,rfl,rfl,SqT.of (Dq _ _ CJ),at1,_,rfl,ol,cell,oa,Ap,outs,S,k0.2,3,rfl,e7,Dq _ _ eo,CV.mono (Same.kt Dq),go,S0,by omega,Di.1,Di.2,by decide,by decide,fun t r x' H8 s8 _ AW AI Aw=>?_⟩;exact fin t r H8 (SameB.fresh D9 s7 s8) AW AI Aw
     · subst hb;have y0:=Se (cell / 3) (show (3+1:Int)≠0 by decide);have y1:=Sa (cell / 3) (show (0:Int)<3+1 by decide);refine ⟨_,rfl,.inl ⟨rfl,_,SqL.of HH⟩,_,rfl,_,rfl,_,rfl,_,rfl,_,rfl,ia,_,_,.ref ka,rfl,rfl,SqT.of (s5 _ _ ei),AW,ka,_,1,_,rfl,rfl,SqT.of (s5 _ _ CJ),at1,_,rfl,_,_,rfl,rfl,⟨by decide,by decide⟩,_,rfl,_,_,rfl,rfl,_,_,rfl,rfl,(by show (0:Int)<3+1;decide),cell,oa,Ap,outs,S,k0.2,_,rfl,s5 _ _ eo,CV.mono (Same.kt s5),go,S0,by omega,Di.1,Di.2,y0,by show cell / 3%(3+1)<((5:Nat):Int);omega,fun t r H8 s8 AW AI Aw=>?_⟩;exact fin t r H8 s8 AW AI (by omega)
   · rintro σ H5 ⟨kv,cv,bs,ts,rfl,s5,Jg,F8,HH,Cy,BZ,DX⟩;refine ⟨_,rfl,.inl ⟨rfl,_,SqL.of Jg⟩,_,rfl,rw,_,rfl,.inl ⟨SqL.of HH,fun tp EG=>?_⟩⟩;have s7:L2.Same H5 (upd H5 tp (.tup (bs.map V.ref))):=ad EG _;have e7:(upd H5 tp (.tup (bs.map V.ref))) tp=some (.tup (bs.map V.ref)):=ac;generalize (upd H5 tp (.tup (bs.map V.ref)))=H7 at s7 e7 ⊢;have F9:=s7 _ _ Jg;refine ⟨rl,_,_,rfl,rfl,F9,bn (by rw [Rf];omega),?_⟩;have kt:KT H7 (upd H7 rl (.lst (Bt.map V.ref++[.ref tp]))):=bG F9;have Qs:KT H3 (upd H7 rl (.lst (Bt.map V.ref++[.ref tp]))):=(Same.kt s6).trans (F8.trans ((Same.kt s7).trans kt));refine ⟨_,_,_,_,Bt++[tp],rows++[ts],rfl,aH (s5.trans s7) DW,?_,?_,?_,?_⟩
     · rw [ac,RC];rfl
     · exact P2.append (P2.mp (fun _ _ e=>RowAt.mono Qs e) AK) (.cons ⟨bs,kt _ _ e7,Cy.mono ((Same.kt s7).trans kt)⟩ .nil)
     · rw [Rm,Fq];rfl
     · intro row Ae;rcases RN.mp Ae with Ae | Ae
       · exact Ai row Ae
       · rw [RO.mp Ae];exact ⟨by rw [BZ];omega,DX⟩
 · rintro σ H3 ⟨sv,rv,kv,cv,Bt,rows,rfl,s3,Je,AK,Fq,Ai⟩;have HG:rows.length=Bt.length:=R3 AK;obtain ⟨c,hc⟩:∃ c,cs[0]?=some c:=⟨_,Rg (by omega)⟩;have HI:atI (cs.map V.int) 0=some (.int c):=at_nonneg (by decide) (by rw [Rw];show (cs[0]?).map V.int=_;rw [hc];rfl);refine ⟨_,rfl,ca,_,0,.int c,rfl,rfl,SqL.of (s3 _ _ ec),HI,_,rfl,_,rfl,_,rfl,c,oa,Ap,outs,S,1,3,rfl,s3 _ _ eo,CV.mono (Same.kt s3),go,S0,by omega,by decide,by decide,by decide,by decide,fun t ha H6 s6 AW AI Aw=>?_⟩;dsimp only [aC];have Ni:L2.Same H4 H6:=s3.trans s6;refine aG (fun f' H7=>Ex2 fun (t:Th) (ha:Rk)=>An5 (L2.Same H6 H7) (At H7 t ha) (t.FitS outs S 1) (t.tall<=4) (f'=[some (.ref a),some (.int 4),some (.int 3),some (.ref ia),some (.ref oa),some (.int S),some (.ref ca),some (.bl dg),some (.ref rl),sv,rv,kv,cv,some (.ref ha)])) (fun kk hk=>?_) ?_
   · refine cA (fun b H'=>H6=H') (fun k2 BU=>?_) (fun H' hb=>?_) (fun H' hb=>?_)
     · exact ⟨_,rfl,_,rfl,BU _ _ rfl⟩
     · subst hb;refine ⟨_,rfl,ca,_,0,.int c,rfl,rfl,SqL.of (Ni _ _ ec),HI,aj (by show 1<=1000000;decide),fun ol D9=>?_⟩;have s7:L2.Same H6 (upd H6 ol (.lst [.int c])):=ad D9 _;have e7:(upd H6 ol (.lst [.int c])) ol=some (.lst [.int c]):=ac;dsimp only;generalize (upd H6 ol (.lst [.int c]))=H7 at s7 e7 ⊢;have Dq:=Ni.trans s7;exact ⟨_,rfl,_,rfl,_,rfl,ol,c,oa,Ap,outs,S,1,3,rfl,e7,Dq _ _ eo,CV.mono (Same.kt Dq),go,S0,by omega,by decide,by decide,by decide,by decide,fun t r x' H8 s8 _ AW AI Aw=>hk _ _ ⟨t,r,SameB.fresh D9 s7 s8,AW,AI,Aw,rfl⟩⟩
     · subst hb;exact hk _ _ ⟨t,ha,.refl _,AW,AI,Aw,rfl⟩
   clear AW AI Aw;rintro f' H7 ⟨t,ha,s7,AW,AI,Aw,rfl⟩;have F9:=s7 _ _ (s6 _ _ Je);refine ⟨_,rfl,_,rfl,_,rfl,_,rfl,rl,_,rfl,.inl ⟨SqL.of F9,fun ra F2=>?_⟩⟩;have s8:L2.Same H7 (upd H7 ra (.tup (Bt.map V.ref))):=ad F2 _;have e8:(upd H7 ra (.tup (Bt.map V.ref))) ra=some (.tup (Bt.map V.ref)):=ac;generalize (upd H7 ra (.tup (Bt.map V.ref)))=H8 at s8 e8 ⊢;refine ⟨aj (by show 4<=1000000;decide),fun r Bp=>?_⟩;have s9:L2.Same H8 (upd H8 r (.tup [.ref ia,.ref oa,.ref ha,.ref ra])):=ad Bp _;have sA:=s6.trans (s7.trans (s8.trans s9));have sB:=s3.trans sA;have Nj:((rows.length:Nat):Int)=S:=by rw [Fq];omega
   exact q r ins outs t rows _ (Qr.trans sB) ⟨ia,oa,ha,ra,AD,Ap,Bt,ac,sB _ _ ei,B'.mono (Same.kt sB),sB _ _ eo,CV.mono (Same.kt sB),AW.mono (Same.kt (s8.trans s9)),s9 _ _ e8,P2.mp (fun _ _ e=>RowAt.mono (Same.kt sA) e) AK⟩ ⟨gI,gO,by omega,by rw [Nj];exact Ai,by rw [Nj];exact AI,Aw⟩
def gR:Nat->Sp
 | 0=>fun _ _ _ _=>False
 | n+1=>fun vs H Q _=>∃ (a:Rk) (t:Th),vs=[.ref a]/\At H t a/\t.Wr/\t.tall<=n+1/\t.size<=1000/\∀ H',L2.Same H H'->Q (.str (t.fill cu).show) H'
set_option maxHeartbeats 2000000 in
theorem eG:∀ n:Nat,FnOk P w K mg base CX0 n T.g__law_shown.f T.g__law_shown.d ["pattern"] (gR n)
 | 0=>⟨fun _ _ _ _ h=>h.elim,fun _ _ _ _ _ _ _ _ _ _ _ _ _ h=>h.elim⟩
 | n+1=>by
   have ih:=eG n;refine T.g__law_shown.F.ok mM (fun vs H Q E h=>?_) (fun Al A outer s H vs Q E hr h=>?_)
   · obtain ⟨a,t,rfl,_⟩:=h;rfl
   obtain ⟨a,t,rfl,hA,hW,BZ,Az,q⟩:=h
   refine ⟨_,(af (aN (au cq (aA aM (pv 0) ag (fun _ _=>rfl)) ax (ay _)) (ai (av (ak aQ (ak aQ (bz gA rfl T.n_str UR (aa (aA aM (pv 0) ag (fun _ _=>rfl)) ae)) ax) (bz gA rfl T.n_str UR (aa (aA aM (pv 0) ag (fun _ _=>rfl)) ae))))) aE)
    (af (aN (au cq (aq am rfl T.n_len RQ (aa (pv 0) ae)) ag (ay _)) (ai (av (aA aM (pv 0) ag (fun _ _=>rfl)))) aE)
    (ai (av (ak aQ (ak aQ (ak aQ (aA aM (pv 0) ag (fun _ _=>rfl)) ax) (cb Sr VA Vy kW ax (aa (cC (N:=[Rc "part"]) (js:=[none]) (g:=(aC 0)) (tt:=bM) (te:=(nu (gR _) [] E0 (bJ (cj 0) dP))) rfl (dz rfl (by decide +kernel) (by decide +kernel) rfl rfl rfl) (eL (aK u6 (pv 0) (aO ag) bd)) (fun _ _ _ _ _ _=>(aD (i:=0) aah rfl (RH rfl))) (bX rfl) (fun _ _ _ _ _ _=>cP) (fun _ _ _ _ _ _=>(bc (ih) (hr.mono (Rq _)) rfl T.g__law_shown.m T.g__law_shown.F.kp T.g__law_shown.b .nil nv (aa (pv 0) ae)))) ae))) ax))))),?_⟩
   try dsimp only [AN,Aj]
   have hlen:=qU hW Az;cases t with
   | call sn kn =>
     have Fy:=hA;rw [At] at Fy;rw [Th.Wr] at hW;have l1:=cJ hW.1;have l2:=cJ hW.2;refine ⟨_,rfl,a,_,0,.str BB.q,rfl,rfl,SqT.of Fy,at0,rfl,_,rfl,?_⟩;refine cr (fun _=>?_) (fun c=>absurd (decide_eq_true rfl) c);refine ⟨_,rfl,a,_,1,_,rfl,rfl,SqT.of Fy,at1,sn,rfl,tj hW.1,aU sn,dot,rfl,rfl,aj (by show (aU sn).length+1<=1000000;omega),_,rfl,a,_,2,_,rfl,rfl,SqT.of Fy,at2,kn,rfl,tj hW.2,_,aU kn,rfl,rfl,aj (by rw [RT];show (aU sn).length+1+(aU kn).length<=1000000;omega),?_⟩;have:=q H (.refl _);rw [Th.fill,cu,Th.show,bV] at this;exact this
   | knot m ts =>
     rw [Th.fill,Th.show] at hlen q;have F4:=hW;rw [Th.Wr] at F4;rw [Th.tall] at BZ;rw [Th.size] at Az;rw [At] at hA;refine hid fun ZZ kZ=>?_;obtain ⟨Qt,Ag,ea,Fo⟩:=hA;refine kZ ?_;have Lo:Ag.length=ts.length:=Fo.length;have Q5:=(cW F4.1).2.1;have Dn:=qs ts;refine ⟨_,rfl,a,_,0,.str m,rfl,rfl,SqT.of ea,at0,rfl,_,rfl,?_⟩;refine cr (fun c=>absurd (of_decide_eq_true c) (fun z=>Qt (V.str.inj z))) (fun _=>?_);refine ⟨_,rfl,a,_,rfl,.inr (SqT.of ea),rfl,_,rfl,?_⟩;refine cr (fun c=>?_) (fun c=>?_)
     · have c':=V.int.inj (of_decide_eq_true c);rw [Rh,Rf] at c';have hz:ts=[]:=R4.mp (by omega);subst hz;have:=q H (.refl _);rw [fills,bV] at this;exact ⟨_,rfl,a,_,0,.str m,rfl,rfl,SqT.of ea,at0,this⟩
     · have Am:ts≠[]:=fun z=>by
        subst z;have hz:Ag=[]:=R4.mp (by rw [Lo];rfl);subst hz;exact c (decide_eq_true rfl)
       have l1:=uc.1;have l2:=uc.2.1;have l3:=uc.2.2
       have hx:(bV (fills cu ts)).isEmpty=false:=by
        cases ts with
        | nil=>exact absurd rfl Am
        | cons x xs=>rw [fills,bV];rfl
       have Ei:pU m (bV (fills cu ts))=m++lpar++SK comma (bV (fills cu ts))++rpar:=by
        unfold pU;rw [hx];rfl
       rw [Ei] at hlen q;rw [RT,RT,RT] at hlen;refine ⟨_,rfl,a,_,0,.str m,rfl,rfl,SqT.of ea,at0,m,lpar,rfl,rfl,aj (by omega),rfl,_,rfl,1,rfl,a,_,rfl,SqT.of ea,?_,fun p2 Kt=>?_⟩
       · rintro ⟨z,_⟩;rw [Rh,show (1:Int)=((1:Nat):Int) by rfl,HT.sIx_nat] at z;omega
       dsimp only;rw [ji];have s2:L2.Same H (upd H p2 (.tup (Ag.map V.ref))):=ad Kt _;have e2:(upd H p2 (.tup (Ag.map V.ref))) p2=some (.tup (Ag.map V.ref)):=ac;generalize (upd H p2 (.tup (Ag.map V.ref)))=H2 at s2 e2 ⊢;refine ⟨p2,rfl,⟨_,SqT.of e2⟩,df ts (fun t=>V.str (t.fill cu).show) (SqT.of e2) (by rw [Rf];omega) (by rw [Rf];omega) (fun i x z Hx R W' GQ hz sx hR=>?_) (fun D H3 hD sD eD=>?_)⟩
       · obtain ⟨ua,rfl,Kj⟩:=bY GQ;obtain ⟨u,hu,Kk⟩:=Fo.get Kj;rw [hz] at hu;cases hu;have Lp:z∈ts:=Ru hz;have Q6:=mv Lp;have M1:=z.tall_eq;have Ir:=qf Lp;cases n with
         | zero=>omega
         | succ n =>
         exact ⟨_,rfl,ua,z,rfl,Kk.mono (Same.kt (s2.trans sx)),F4.2.mem z Lp,by omega,by omega,fun H4 s4=>hR H4 s4⟩
       have Km:∀ us:List Th,(bV (fills cu us)).map V.str=us.map (fun t=>V.str (t.fill cu).show):=by
        intro us;induction us with
        | nil=>rw [fills,bV];rfl
        | cons u us ih=>rw [fills,bV,RB,ih];rfl
       have hs:=my (fills cu ts) (qK F4.2);rw [ik] at hs;have hmul:(8+3) * aF ts<=11 * 1000:=T8 _ (by omega);refine ⟨comma,D,bV (fills cu ts),rfl,rfl,SqL.of (by rw [Km];exact eD),by rw [l1];omega,m++lpar,_,rfl,rfl,aj (by rw [RT];omega),_,rpar,rfl,rfl,aj (by rw [RT,RT];omega),?_⟩;exact q _ (s2.trans sD)
def dO (k:Rz×Int):Prop:=aS k.1=true/\0<=k.2/\k.2<1000
theorem rG {k:Rz×Int} (h:dO k):(bj k).length<=12:=by
 have h1:=(cW h.1).2.1;have h2:=cJ h.2;unfold bj;rw [RT,RT];show k.1.length+1+(aU k.2).length<=12;omega
theorem f9 {w:Rz} {ks:List (Rz×Int)} (g:∀ k∈ks,dO k) (hw:w.length<=10) (hl:ks.length<=8):(aI w ks).length<=1000:=by
 have all:∀ x∈w::ks.map bj,x.length<=20:=fun x hx=>by
  rcases RA.mp hx with rfl | hx
  · omega
  · obtain ⟨k,hk,rfl⟩:=SQ.mp hx;have:=rG (g k hk);omega
 have h2:=vU all
 have h3:(SK blank (w::ks.map bj)).length<=((w::ks.map bj).map (·.length)).sum+(w::ks.map bj).length * blank.length:=by
  have e:SK blank (w::ks.map bj)=Vf blank (w::ks.map bj):=U2 _ _;rw [e];exact StrLaws.join_length_le _ _
 have h4:(w::ks.map bj).length=ks.length+1:=by rw [Rh,Rf]
 have h5:blank.length=1:=by decide +kernel
 unfold aI;rw [h4] at h2 h3;rw [h5] at h3;omega
structure qW (ins outs:List (Rz×Int)) (head:Th) (rows:List (List Th)):Prop where
 gi:∀ k∈ins,dO k
 go:∀ k∈outs,dO k
 i8:ins.length<=8
 o8:outs.length<=8
 few:rows.length<=20
 row:∀ row∈rows,row.length=ins.length/\∀ t∈row,t.Wr/\t.tall<=21/\t.size<=1000
 hd:head.Wr/\head.tall<=21/\head.size<=1000
theorem kY {ins outs:List (Rz×Int)} {head:Th} {rows:List (List Th)} (ok:qW ins outs head rows):∀ i,i<=rows.length->(dt ins rows i).length<=8 * i
 | 0,_=>by rw [j4];exact Sk _
 | i+1,hi=>by
   obtain ⟨row,Ae⟩:∃ row,rows[i]?=some row:=⟨_,Rg (by omega)⟩;have h1:=kY ok i (by omega);have h6:=ok.i8;rw [jR Ae,Rm]
   have:(mU ins ((i:Nat):Int) row).length<=8:=by
    unfold mU;rw [Rf,Wo];omega
   omega
theorem set_same {α:Type} {l:List α} {i:Nat} {x:α} (h:l[i]?=some x):l.set i x=l:=by
 obtain ⟨h1,rfl⟩:=Rv.mp h;exact List.set_getElem_self h1
def re (ins outs:List (Rz×Int)) (head:Th):Nat->List Rz
 | 0=>[Rc "in",Rc "out",fU head]
 | 1=>[aI (Rc "in") ins,Rc "out",fU head]
 | _=>[aI (Rc "in") ins,aI (Rc "out") outs,fU head]
inductive gW (vs:List V) (H:Hp) (Q:VK) (_E:XK):Prop
 | mk (b:Rk) (ins outs:List (Rz×Int)) (head:Th) (rows:List (List Th)) (Aq:vs=[.ref b]) (Ar:Bk H ins outs head rows b) (AB:qW ins outs head rows) (AQ:∀ (r:Rk) (H':Hp),L2.Same H H'->H' r=some (.lst ((bf ins outs head rows).map V.str))->Q (.ref r) H'):gW  vs H Q _E
def oq:Sp:=gW
set_option maxHeartbeats 4000000 in
theorem oA:FnOk P w K mg base CX0 24 T.g__law_rows.f T.g__law_rows.d ["book"] oq:=by
 refine T.g__law_rows.F.ok bS (fun vs H Q E h=>?_) (fun Al A outer s H vs Q E hr h=>?_)
 · obtain ⟨b,ins,outs,head,rows,rfl,_⟩:=h;rfl
 obtain ⟨b,ins,outs,head,rows,rfl,hb,ok,q⟩:=h
 refine ⟨_,(af (ao (i:=1) bS.nd rfl (RH rfl) (aW (aa ax (aa ax (aa (ak aQ ax (pcF T.g__law_shown (eG T 21) hr (aa (aA aM (pv 0) ag (fun _ _=>rfl)) ae))) ae)))))
  (af (cf Sz rfl (bO rfl T.n_range (aa ag ae)) (aD (i:=2) bS.nd rfl (RH rfl)) (ai (cf Sz rfl (eL (aA aM (pv 0) (pv 2) (fun _ _=>rfl))) (aD (i:=3) bS.nd rfl (RH rfl)) (ai (gf (ak aQ (ak aQ (ak aQ (ak aQ (aA aJ (pv 1) (pv 2) (fun _ _=>rfl)) ax) (aA aM (pv 3) ag (fun _ _=>rfl))) ax) (bz gA rfl T.n_str UR (aa (aA aM (pv 3) ag (fun _ _=>rfl)) ae))) (mC (pv 1) (pv 2) set_list))))))
  (af (cf Sz rfl (bO rfl T.n_range (aa (aq am rfl T.n_len RQ (aa (aA aM (pv 0) ag (fun _ _=>rfl)) ae)) ae)) (aD (i:=4) bS.nd rfl (RH rfl)) (ai (cf Sz rfl (bO rfl T.n_range (aa (aq am rfl T.n_len RQ (aa (aA aM (pv 0) ag (fun _ _=>rfl)) ae)) ae)) (aD (i:=5) bS.nd rfl (RH rfl)) (af (ao (i:=6) bS.nd rfl (RH rfl) (aA aM (aA aM (aA aM (pv 0) ag (fun _ _=>rfl)) (pv 5) (fun _ _=>rfl)) ag (fun _ _=>rfl)))
  (af (ao (i:=7) bS.nd rfl (RH rfl) (pcF T.g__law_shown (eG T 21) hr (aa (aA aM (aA aM (aA aM (pv 0) ag (fun _ _=>rfl)) (pv 4) (fun _ _=>rfl)) (pv 5) (fun _ _=>rfl)) ae)))
  (ai (bq (cb RX R9 R8 bh (pv 1) (aa (ak aQ (ak aQ (ak aQ (ak aQ (ak aQ ax (bz gA rfl T.n_str UR (aa (pv 4) ae))) ax) (pv 6)) ax) (pv 7)) ae)))))))))
  (ai (av (pv 1)))))),?_⟩
 try dsimp only [AN,Aj]
 refine hid fun ZZ kZ=>?_;obtain ⟨ia,oa,ha,ra,AD,Ap,Bt,bk⟩:=hb;refine kZ ?_;have GY:=qU ok.hd.1 ok.hd.2.2;refine ⟨_,rfl,b,_,2,.ref ha,rfl,rfl,SqT.of bk.bk,at2,ha,head,rfl,bk.hd,ok.hd.1,ok.hd.2.1,ok.hd.2.2,fun H1 s1=>⟨_,_,rfl,rfl,aj (by show 5+(head.fill cu).show.length<=1000000;omega),aj (by show 3<=1000000;decide),fun rl Cs=>?_⟩⟩;have s2:L2.Same H1 (upd H1 rl (.lst [.str (Rc "in"),.str (Rc "out"),.str (Rc "head "++(head.fill cu).show)])):=ad Cs _;have e2:(upd H1 rl (.lst [.str (Rc "in"),.str (Rc "out"),.str (Rc "head "++(head.fill cu).show)])) rl=some (.lst ((re ins outs head 0).map V.str)):=ac;have DW:H rl=none:=s1.free Cs;generalize (upd H1 rl (.lst [.str (Rc "in"),.str (Rc "out"),.str (Rc "head "++(head.fill cu).show)]))=H2 at s2 e2 ⊢;have B3:=s1.trans s2;dsimp only [aC];have L5:=ok.i8;have MG:=ok.few;have Ec:ins.length=AD.length:=R3 bk.inK;have IZ:rows.length=Bt.length:=R3 bk.rw;refine ⟨2,rfl,by decide,by decide,?_⟩
 refine b8 (n:=(2:Int).toNat) (fun i σ H3=>Ex2 fun c2 c3=>An3 (σ=[some (.ref b),some (.ref rl),c2,c3,none,none,none,none]) (L2.Same H H3) (H3 rl=some (.lst ((re ins outs head i).map V.str))))
  ⟨none,none,rfl,B3,e2⟩ ?_ ?_
 · rintro i σ H3 hi ⟨c2,c3,rfl,s3,e3⟩;have Lc:i<2:=hi;refine hid fun ZZ kZ=>?_
   obtain ⟨w,ks,ka,Av,Io,hw,Nk,Nl,g,CA,EW,hlen⟩:∃ (w:Rz) (ks:List (Rz×Int)) (ka:Rk) (Av:List Rk),atI [V.ref ia,.ref oa,.ref ha,.ref ra] (0+(i:Int))=some (.ref ka)/\w.length<=10/\H ka=some (.tup (Av.map V.ref))/\KsAt H ks Av/\((∀ k∈ks,dO k)/\ks.length<=8)/\(re ins outs head i)[i]?=some w/\re ins outs head (i+1)=(re ins outs head i).set i (aI w ks)/\(re ins outs head i).length=3:=by
    match i,Lc with
    | 0,_=>exact ⟨Rc "in",ins,ia,AD,at_nonneg (by decide) rfl,by decide +kernel,bk.inE,bk.inK,⟨ok.gi,ok.i8⟩,rfl,rfl,rfl⟩
    | 1,_=>exact ⟨Rc "out",outs,oa,Ap,at_nonneg (by decide) rfl,by decide +kernel,bk.outE,bk.outK,⟨ok.go,ok.o8⟩,rfl,rfl,rfl⟩
   refine kZ ?_;generalize re ins outs head i=pre at e3 CA EW hlen;have By:ks.length=Av.length:=R3 Nl;have Ld:=g.2;refine ⟨_,rfl,_,rfl,b,_,_,.ref ka,rfl,rfl,SqT.of (s3 _ _ bk.bk),Io,ka,rfl,⟨_,SqT.of (s3 _ _ Nk)⟩,?_⟩
   refine oO (K:=K) (a:=ka) (xs:=Av.map V.ref) (fun j σ H4=>Ex1 fun c3=>An3 (σ=[some (.ref b),some (.ref rl),some (.int (0+(i:Int))),c3,none,none,none,none]) (L2.Same H H4) (H4 rl=some (.lst ((pre.set i (aI w (ks.take j))).map V.str))))
    ⟨c3,rfl,s3,by rw [Uj,rQ,e3];congr 3;exact (set_same CA).symm⟩ (fun j σ H4 _ ⟨_,_,s4,_⟩=>SqT.of (s4 _ _ Nk)) ?_ ?_
   · rintro j x σ H4 hx ⟨c3,rfl,s4,e4⟩;obtain ⟨EV,rfl,Bm⟩:=bY hx;obtain ⟨k,hk,ek⟩:=P2.get' Nl Bm;have Ds:=Ru hk;have h1:=(cW (g.1 k Ds).1).2.1;have h2:=(g.1 k Ds).2;have h3:=cJ h2;have h4:=f9 (w:=w) (ks:=ks.take j) (fun k hk=>g.1 k (SU hk)) hw (by rw [Rx];omega);have Nn:=s4 _ _ ek
     have B7:(pre.set i (aI w (ks.take j)))[i]?=some (aI w (ks.take j)):=by
      rw [TK (by omega)]
     refine ⟨_,rfl,_,rfl,rl,_,_,.str (aI w (ks.take j)),rfl,rfl,SqL.of e4,at_nonneg (by omega) (by rw [show (0+(i:Int)).toNat=i by omega,Rw,B7];rfl),_,blank,rfl,rfl,aj (by show (aI w (ks.take j)).length+1<=1000000;omega),?_⟩;refine ⟨_,rfl,EV,_,0,.str k.1,rfl,rfl,SqT.of Nn,at0,_,_,rfl,rfl,aj (by rw [RT];show (aI w (ks.take j)).length+1+k.1.length<=1000000;omega),_,sZ,rfl,rfl,aj (by rw [RT,RT];show (aI w (ks.take j)).length+1+k.1.length+1<=1000000;omega),?_⟩;refine ⟨_,rfl,EV,_,1,.int k.2,rfl,rfl,SqT.of Nn,at1,k.2,rfl,tj h2,_,aU k.2,rfl,rfl,aj (by rw [RT,RT,RT];show (aI w (ks.take j)).length+1+k.1.length+1+(aU k.2).length<=1000000;omega),?_⟩;rw [<- qp,<- take_snoc hk];refine ⟨_,rfl,_,rfl,rl,_,_,i,rfl,rfl,e4,?_,?_⟩
     · unfold ixN;rw [if_pos (by omega),if_pos (by rw [Rf,VN];omega)];simp
     · refine ⟨_,rfl,aH s4 DW,?_⟩;rw [ac,<- List.map_set,List.set_set]
   · rintro σ H4 ⟨c3,rfl,s4,e4⟩;rw [Sd (by rw [Rf];omega),<- EW] at e4;exact ⟨_,_,rfl,s4,e4⟩
 rintro σ H3 ⟨c2,c3,rfl,s3,e3⟩
 have e3:H3 rl=some (.lst (([aI (Rc "in") ins,aI (Rc "out") outs,fU head]++dt ins rows 0).map V.str)):=by
  rw [j4,RP];exact e3
 refine ⟨_,rfl,b,_,3,.ref ra,rfl,rfl,SqT.of (s3 _ _ bk.bk),at3,ra,_,rfl,.inr (SqT.of (s3 _ _ bk.rl)),_,rfl,by omega,by rw [Rf];omega,?_⟩
 refine b8 (n:=((Bt.map V.ref).length:Int).toNat) (fun i σ H5=>Ex4 fun c4 c5 c6 c7=>An3 (σ=[some (.ref b),some (.ref rl),c2,c3,c4,c5,c6,c7]) (L2.Same H H5) (H5 rl=some (.lst (([aI (Rc "in") ins,aI (Rc "out") outs,fU head]++dt ins rows i).map V.str))))
  ⟨none,none,none,none,rfl,s3,e3⟩ ?_ ?_
 · rintro i σ H5 hi ⟨c4,c5,c6,c7,rfl,s5,e5⟩
   have F7:i<rows.length:=by
    have:i<((Bt.map V.ref).length:Int).toNat:=hi;rw [Rf] at this;omega
   refine hid fun ZZ kZ=>?_;obtain ⟨row,Ae⟩:∃ row,rows[i]?=some row:=⟨_,Rg F7⟩;obtain ⟨FG,HJ,Ag,Lq,Dh⟩:=P2.get bk.rw Ae;have IM:=Ru Ae;obtain ⟨Np,HK⟩:=ok.row row IM;refine kZ ?_;have BZ:=Dh.length
   have Q7:(mU ins ((i:Nat):Int) row).length=ins.length:=by
    unfold mU;rw [Rf,Wo];omega
   have r1:=kY ok i (by omega);have Lr:atI (Bt.map V.ref) (0+(i:Int))=some (.ref FG):=at_nonneg (by omega) (by rw [show (0+(i:Int)).toNat=i by omega,Rw,HJ];rfl);refine ⟨_,rfl,b,_,0,.ref ia,rfl,rfl,SqT.of (s5 _ _ bk.bk),at0,ia,_,rfl,.inr (SqT.of (s5 _ _ bk.inE)),_,rfl,by omega,by rw [Rf];omega,?_⟩
   refine b8 (n:=((AD.map V.ref).length:Int).toNat) (fun j σ H7=>Ex3 fun c5 c6 c7=>An3 (σ=[some (.ref b),some (.ref rl),c2,c3,some (.int (0+(i:Int))),c5,c6,c7]) (L2.Same H H7) (H7 rl=some (.lst (([aI (Rc "in") ins,aI (Rc "out") outs,fU head]++dt ins rows i++(mU ins ((i:Nat):Int) row).take j).map V.str))))
    ⟨c5,c6,c7,rfl,s5,by rw [Uj,RP];exact e5⟩ ?_ ?_
   · rintro j σ H7 hj ⟨c5,c6,c7,rfl,s7,e7⟩
     have Ln:j<ins.length:=by
      have:j<((AD.map V.ref).length:Int).toNat:=hj;rw [Rf] at this;omega
     refine hid fun ZZ kZ=>?_;obtain ⟨k,hk⟩:∃ k,ins[j]?=some k:=⟨_,Rg Ln⟩;obtain ⟨ka,Bm,ek⟩:=P2.get bk.inK hk;obtain ⟨t,ht⟩:∃ t,row[j]?=some t:=⟨_,Rg (by omega)⟩;obtain ⟨ta,Fo⟩:∃ ta,Ag[j]?=some ta:=⟨_,Rg (by omega)⟩;obtain ⟨t',CW,AW⟩:=Dh.get Fo;refine kZ ?_;rw [ht] at CW;cases CW;have AI:=HK t (Ru ht);have Ds:=Ru hk;have Q8:=(cW (ok.gi k Ds).1).2.1;have Ls:atI (AD.map V.ref) (0+(j:Int))=some (.ref ka):=at_nonneg (by omega) (by rw [show (0+(j:Int)).toNat=j by omega,Rw,Bm];rfl);have Lu:atI (Ag.map V.ref) (0+(j:Int))=some (.ref ta):=at_nonneg (by omega) (by rw [show (0+(j:Int)).toNat=j by omega,Rw,Fo];rfl);refine ⟨_,rfl,b,_,0,.ref ia,rfl,rfl,SqT.of (s7 _ _ bk.bk),at0,_,rfl,ia,_,_,.ref ka,rfl,rfl,SqT.of (s7 _ _ bk.inE),Ls,ka,_,0,.str k.1,rfl,rfl,SqT.of (s7 _ _ ek),at0,?_⟩;refine ⟨_,rfl,b,_,3,.ref ra,rfl,rfl,SqT.of (s7 _ _ bk.bk),at3,_,rfl,ra,_,_,.ref FG,rfl,rfl,SqT.of (s7 _ _ bk.rl),Lr,_,rfl,FG,_,_,.ref ta,rfl,rfl,SqT.of (s7 _ _ Lq),Lu,ta,t,rfl,AW.mono (Same.kt s7),AI.1,AI.2.1,AI.2.2,fun H8 s8=>?_⟩;dsimp only [aC];have e0:(0+(i:Int))=((i:Nat):Int):=Int.zero_add _;have l1:=qU AI.1 AI.2.2;have l2:=cJ (n:=((i:Nat):Int)) ⟨by omega,by omega⟩;have e8:=s8 _ _ e7;refine ⟨_,rfl,.inl ⟨rfl,_,SqL.of e8⟩,_,rfl,_,rfl,by rw [e0];exact tj ⟨by omega,by omega⟩,_,_,rfl,rfl,aj (by rw [e0];show 5+(aU (i:Nat)).length<=1000000;omega),?_⟩;rw [e0];refine ⟨_,blank,rfl,rfl,aj (by rw [RT];show 5+(aU (i:Nat)).length+1<=1000000;omega),_,rfl,_,k.1,rfl,rfl,aj (by rw [RT,RT];show 5+(aU (i:Nat)).length+1+k.1.length<=1000000;omega),_,blank,rfl,rfl,aj (by rw [RT,RT,RT];show 5+(aU (i:Nat)).length+1+k.1.length+1<=1000000;omega),?_⟩;refine ⟨_,rfl,_,(t.fill cu).show,rfl,rfl,aj (by rw [RT,RT,RT,RT];show 5+(aU (i:Nat)).length+1+k.1.length+1+(t.fill cu).show.length<=1000000;omega),?_⟩;refine ⟨rl,_,_,rfl,rfl,e8,bn (by rw [Rf,Rm,Rm,Rx];show 3+_+_<=1000000;omega),?_⟩;refine ⟨_,_,_,rfl,aH (s7.trans s8) DW,?_⟩
     have hz:(mU ins ((i:Nat):Int) row)[j]?=some (ruleT ((i:Nat):Int) k.1 t):=by
      unfold mU;rw [Rw,U8.mpr (show ins[j]?=some (k,t).1/\row[j]?=some (k,t).2 from ⟨hk,ht⟩)];rfl
     rw [ac,take_snoc hz,<- RM,RC (l₂:=[ruleT ((i:Nat):Int) k.1 t])];rfl
   · rintro σ H7 ⟨c5,c6,c7,rfl,s7,e7⟩;refine ⟨_,_,_,_,rfl,s7,?_⟩;rw [Sd (by rw [Rf];omega)] at e7;rw [jR Ae,<- RM];exact e7
 · rintro σ H5 ⟨c4,c5,c6,c7,rfl,s5,e5⟩;refine ⟨_,rfl,q rl H5 s5 ?_⟩;have:((Bt.map V.ref).length:Int).toNat=rows.length:=by rw [Rf];omega
   rw [this] at e5;exact e5
theorem lO (ins:List (Rz×Int)) (rows:List (List Th)):dt ins rows rows.length=gY ruleT ins rows:=by
 unfold dt gY mU;rw [Sd (by rw [List.length_zipIdx];exact Rq _)]
theorem cS:Uw (Rc "in")/\Uw (Rc "out")/\Uw (Rc "head")/\Uw (Rc "rule"):=by
 refine ⟨.inr ?_,.inr ?_,.inr ?_,.inr ?_⟩ <;> decide +kernel
theorem kQ {k:Rz×Int} (h:dO k):Uw (bj k):=by
 obtain ⟨h1,h2⟩:=cQ h.1;obtain ⟨h3,h4⟩:=cR h.2;refine .inr ⟨fun c hc=>?_,by rw [dh];simp⟩;rw [dh] at hc;rcases RN.mp hc with hc | hc
 · have:=h1 c hc;omega
 · rcases RA.mp hc with rfl | hc
   · omega
   · have:=h3 c hc;omega
theorem kI {ws:List Rz}:(ws.map sL).map ofL=ws:=by
 rw [Ud]
 conv=>rhs;rw [<- List.map_id ws]
 exact Vc fun x _=>gn x
theorem vB {α:Type} (l:List α):(l.map fun x=>[x]).flatten=l:=by
 induction l with
 | nil=>rfl
 | cons x l ih=>rw [RB,R0,ih];rfl
theorem xS {ws:List Rz} (h:∀ w∈ws,Uw w):wds (jn (ws.map sL))=ws.map sL:=by
 rw [vH,Ud]
 have:ws.map (wds ∘ sL)=(ws.map sL).map fun x=>[x]:=by
  rw [Ud];exact Vc fun x hx=>sr (h x hx)
 rw [this,vB]
theorem zW {ws:List Rz} (h:∀ w∈ws,Uw w):bw (jn (ws.map sL))=ws:=by
 unfold bw;rw [xS h,kI]
theorem iS (t:Th):sL (fU t)=sL (Rc "head")++32::t.tx:=by
 unfold fU;rw [dw,sS,show sL (Rc "head ")=sL (Rc "head")++[32] by decide +kernel,RM];rfl
theorem gz (st:Int) (n:Rz) (t:Th):sL (ruleT st n t)=sL (Rc "rule")++32::(sL (aU st)++32::(sL n++32::t.tx)):=by
 unfold ruleT;rw [dw,dw,dw,dw,dw,sS,show sL (Rc "rule ")=sL (Rc "rule")++[32] by decide +kernel,show sL blank=[32] by decide +kernel];simp
theorem m3 {n:Rz} (h:okW n) (h8:n.length<=8):aS n=true:=by
 have h0:=h.2;unfold aS low;rw [decide_eq_true (show 1<=n.length/\n.length<=8 from ⟨by omega,h8⟩),UC,Sl];exact fun c hc=>decide_eq_true (h.1 c hc)
mutual
theorem vK {outs:List (Rz×Int)} {S C:Int} (g:GK outs) (hS:S<=10) (hC:C<=10):∀ {t:Th},t.FitS outs S C->t.Rd
 | .call s k,h=>by rw [Th.FitS] at h;rw [Th.Rd];exact ⟨h.1,by omega,h.2.2.1,by omega⟩
 | .knot n ts,h=>by
   rw [Th.FitS] at h;rw [Th.Rd];exact ⟨g.2.1 _ h.1,(g.1.low _ h.1).2,uM g hS hC h.2⟩
theorem uM {outs:List (Rz×Int)} {S C:Int} (g:GK outs) (hS:S<=10) (hC:C<=10):∀ {ts:List Th},FitSs outs S C ts->Rds ts
 | [],_=>by rw [Rds];trivial
 | t::ts,h=>by
   rw [FitSs] at h;rw [Rds];exact ⟨vK g hS hC h.1,uM g hS hC h.2⟩
end
mutual
theorem sy {outs:List (Rz×Int)} {S C:Int} (hS:S<=20) (hC:C<=3):∀ {t:Th},t.FitS outs S C->t.FitP outs
 | .call s k,h=>by rw [Th.FitS] at h;rw [Th.FitP];exact ⟨h.1,by omega,h.2.2.1,by omega⟩
 | .knot n ts,h=>by
   rw [Th.FitS] at h;rw [Th.FitP];exact ⟨h.1,qc hS hC h.2⟩
theorem qc {outs:List (Rz×Int)} {S C:Int} (hS:S<=20) (hC:C<=3):∀ {ts:List Th},FitSs outs S C ts->lK outs ts
 | [],_=>by rw [lK];trivial
 | t::ts,h=>by
   rw [FitSs] at h;rw [lK];exact ⟨sy hS hC h.1,qc hS hC h.2⟩
end
mutual
theorem cn3 {outs:List (Rz×Int)} {S C:Int} (g:fA outs):∀ {t:Th},t.FitS outs S C->cnT t<=3 ^ t.tall/\t.kn<=t.size
 | .call s k,_=>by rw [cnT,Th.tall,Th.kn,Th.size];exact ⟨by decide,by omega⟩
 | .knot n ts,h=>by
   rw [Th.FitS] at h;obtain ⟨h1,h2⟩:=yO g h.2;have hn:=(g.num _ h.1).2;rw [cnT,Th.tall,Th.kn,Th.size];refine ⟨?_,by omega⟩;have h3:ts.length * 3 ^ aL ts<=3 * 3 ^ aL ts:=UZ _ (by omega);rw [Nat.pow_succ,U3];omega
theorem yO {outs:List (Rz×Int)} {S C:Int} (g:fA outs):∀ {ts:List Th},FitSs outs S C ts->d6 ts<=ts.length * 3 ^ aL ts/\kns ts<=aF ts
 | [],_=>by rw [d6,kns];exact ⟨Sk _,Sk _⟩
 | t::ts,h=>by
   rw [FitSs] at h;obtain ⟨h1,h2⟩:=cn3 g h.1;obtain ⟨h3,h4⟩:=yO g h.2;rw [d6,kns,aF,aL,Rh,TV];have h5:3 ^ t.tall<=3 ^ (max t.tall (aL ts)):=S7 (by decide) (Nat.le_max_left ..);have h6:3 ^ aL ts<=3 ^ (max t.tall (aL ts)):=S7 (by decide) (Nat.le_max_right ..);have h7:ts.length * 3 ^ aL ts<=ts.length * 3 ^ (max t.tall (aL ts)):=T8 _ h6;exact ⟨by omega,by omega⟩
end
theorem qq {outs:List (Rz×Int)} {S C:Int} (g:GK outs) (hS:S<=20) (hC:C<=3) {t:Th} (h:t.FitS outs S C) (ht:t.tall<=4):mz outs S C t/\t.size<=256:=by
 obtain ⟨h1,h2⟩:=cn3 g.1 h;have h3:=ll g.1 (sy hS hC h);have h4:4 ^ t.tall<=4 ^ 4:=S7 (by decide) ht;have h5:3 ^ t.tall<=3 ^ 4:=S7 (by decide) ht;have h6:(4:Nat) ^ 4=256:=by decide
 have h7:(3:Nat) ^ 4=81:=by decide
 exact ⟨⟨⟨by omega,by omega,by omega⟩,pj g.2.2 h⟩,by omega⟩
theorem px {ks:List (Rz×Int)} (g:GK ks):aV ks=true/\∀ k∈ks,dO k:=by
 have hk:∀ k∈ks,aS k.1=true/\0<=k.2/\k.2<=3:=fun k hk=>⟨m3 (g.2.1 k hk) (g.1.low k hk).2,(g.1.num k hk).1,(g.1.num k hk).2⟩;refine ⟨?_,fun k h=>⟨(hk k h).1,(hk k h).2.1,by have:=(hk k h).2.2;omega⟩⟩;unfold aV;have h1:=g.1.ne;have h2:=g.1.le;obtain ⟨k0,CI,hz⟩:=g.1.zero;rw [decide_eq_true (show 1<=ks.length/\ks.length<=8 from ⟨h1,by omega⟩),decide_eq_true g.2.2,decide_eq_true (SQ.mpr ⟨k0,CI,hz⟩),UC,Bool.and_true,Bool.and_true,Sl];intro k Ds;unfold cF;rw [(hk k Ds).1,decide_eq_true (show 0<=k.2/\k.2<4 from ⟨(hk k Ds).2.1,by have:=(hk k Ds).2.2;omega⟩)];rfl
theorem wf {ins outs:List (Rz×Int)} {head:Th} {rows:List (List Th)} (B:yk ins outs head rows):ig ins outs head rows:=by
 have hf:=B.few;refine ⟨by omega,(qq B.go (by omega) (by decide) B.hd.1 B.hd.2).1,fun row Ae=>?_⟩;obtain ⟨h1,h2⟩:=B.row row Ae;refine ⟨h1,fun j t k ht hk=>?_⟩;have h3:=h2 j t k ht hk;exact (qq B.go (by omega) (B.gi.1.num k (Ru hk)).2 h3.1 h3.2).1
mutual
theorem eO:∀ {t:Th},t.Rd->t.Wr
 | .call s k,h=>by rw [Th.Rd] at h;rw [Th.Wr];exact ⟨⟨h.1,by omega⟩,h.2.2.1,by omega⟩
 | .knot n ts,h=>by rw [Th.Rd] at h;rw [Th.Wr];exact ⟨m3 h.1 h.2.1,vY h.2.2⟩
theorem vY:∀ {ts:List Th},Rds ts->Wrs ts
 | [],_=>by rw [Wrs];trivial
 | t::ts,h=>by rw [Rds] at h;rw [Wrs];exact ⟨eO h.1,vY h.2⟩
end
mutual
theorem sz3 {outs:List (Rz×Int)} {S C:Int} (g:fA outs):∀ {t:Th},t.FitS outs S C->2 * t.size+1<=3 ^ (t.tall+1)
 | .call s k,_=>by
   have:3 ^ 1<=3 ^ ((Th.call s k).tall+1):=S7 (by decide) (by omega);rw [Th.size];omega
 | .knot n ts,h=>by
   rw [Th.FitS] at h;have h2:=ze g h.2;have hn:=(g.num _ h.1).2;have D2:ts.length<=3:=by omega
   rw [Th.tall,Th.size,Nat.pow_succ];have hp:0<3 ^ (aL ts+1):=Nat.pow_pos (by decide);generalize 3 ^ (aL ts+1)=M at h2 hp ⊢;generalize aF ts=z at h2 ⊢;generalize ts.length=l at h2 D2;rcases (by omega:l=0∨l=1∨l=2∨l=3) with rfl | rfl | rfl | rfl <;> omega
theorem ze {outs:List (Rz×Int)} {S C:Int} (g:fA outs):∀ {ts:List Th},FitSs outs S C ts->2 * aF ts+ts.length<=ts.length * 3 ^ (aL ts+1)
 | [],_=>by rw [aF];exact Sk _
 | t::ts,h=>by
   rw [FitSs] at h;have h1:=sz3 g h.1;have h3:=ze g h.2;rw [aF,aL,Rh];have h5:3 ^ (t.tall+1)<=3 ^ (max t.tall (aL ts)+1):=S7 (by decide) (by have:=Nat.le_max_left t.tall (aL ts);omega);have h6:3 ^ (aL ts+1)<=3 ^ (max t.tall (aL ts)+1):=S7 (by decide) (by have:=Nat.le_max_right t.tall (aL ts);omega);have h7:ts.length * 3 ^ (aL ts+1)<=ts.length * 3 ^ (max t.tall (aL ts)+1):=T8 _ h6;have h8:=TV ts.length (3 ^ (max t.tall (aL ts)+1));have h9:Nat.succ ts.length * 3 ^ (max t.tall (aL ts)+1)=(ts.length+1) * 3 ^ (max t.tall (aL ts)+1):=rfl;rw [h9] at h8;generalize 3 ^ (max t.tall (aL ts)+1)=M at *;generalize 3 ^ (t.tall+1)=X at *;omega
end
theorem sX {outs:List (Rz×Int)} {S C:Int} (g:fA outs) {t:Th} (h:t.FitS outs S C) (ht:t.tall<=4):t.size<=121:=by
 have h1:=sz3 g h;have h2:3 ^ (t.tall+1)<=3 ^ 5:=S7 (by decide) (by omega);have h3:(3:Nat) ^ 5=243:=by decide
 omega
structure Dr (ins outs:List (Rz×Int)) (head:Th) (rows:List (List Th)):Prop where
 gi:∀ k∈ins,dO k
 go:∀ k∈outs,dO k
 ine:ins≠[]
 one:outs≠[]
 i8:ins.length<=8
 o8:outs.length<=8
 ki:aV ins=true
 ko:aV outs=true
 ok:ig ins outs head rows
 few:rows.length<=4
 hd:head.Rd/\head.tall<=4/\head.size<=121
 row:∀ row∈rows,row.length=ins.length/\∀ t∈row,t.Rd/\t.tall<=4/\t.size<=121
theorem zP {ins outs:List (Rz×Int)} {head:Th} {rows:List (List Th)} (B:yk ins outs head rows):Dr ins outs head rows:=by
 have hf:=B.few;obtain ⟨a1,a2⟩:=px B.gi;obtain ⟨b1,b2⟩:=px B.go;have hle:∀ {ks:List (Rz×Int)},GK ks->ks.length<=8/\ks≠[]:=fun {ks} g=>⟨by have:=g.1.le;omega,fun z=>by have:=g.1.ne;rw [z] at this;exact absurd this (by decide)⟩;refine ⟨a2,b2,(hle B.gi).2,(hle B.go).2,(hle B.gi).1,(hle B.go).1,a1,b1,wf B,hf,⟨vK B.go (by omega) (by decide) B.hd.1,B.hd.2,sX B.go.1 B.hd.1 B.hd.2⟩,fun row hr=>?_⟩;obtain ⟨h1,h2⟩:=B.row row hr;refine ⟨h1,fun t ht=>?_⟩;obtain ⟨j,hj⟩:=Sv.mp ht;have Fz:=(Rv.mp hj).1;obtain ⟨k,hk⟩:∃ k,ins[j]?=some k:=⟨_,Rg (by omega)⟩;have h3:=h2 j t k hj hk;have hn:=(B.gi.1.num k (Ru hk)).2;exact ⟨vK B.go (by omega) (by omega) h3.1,h3.2,sX B.go.1 h3.1 h3.2⟩
theorem Dr.show {ins outs:List (Rz×Int)} {head:Th} {rows:List (List Th)} (D:Dr ins outs head rows):qW ins outs head rows :=
 ⟨D.gi,D.go,by have:=D.i8;omega,by have:=D.o8;omega,by have:=D.few;omega,fun row hr=>⟨(D.row row hr).1,fun t ht=>by have:=(D.row row hr).2 t ht;exact ⟨eO this.1,by omega,by omega⟩⟩,eO D.hd.1,by have:=D.hd.2;omega,by have:=D.hd.2;omega⟩
section
variable {ins outs:List (Rz×Int)} {head:Th} {rows:List (List Th)}
theorem Dr.rl (D:Dr ins outs head rows):∀ row∈rows,row.length=ins.length:=fun row hr=>(D.row row hr).1
theorem Dr.n0 (D:Dr ins outs head rows):0<ins.length:=SX.mpr D.ine
end
def jL:List (List Nat)->List Nat
 | []=>[]
 | [x]=>x
 | x::y::r=>x++10::jL (y::r)
theorem vM:sL eT=[10]:=by decide +kernel
theorem wX:∀ ws:List Rz,sL (SK eT ws)=jL (ws.map sL):=by
 intro ws;have h1:SK eT ws=Vf eT ws:=PySem.StrLaws.glued_eq_join _ _;rw [h1];clear h1;induction ws with
 | nil=>rfl
 | cons x ws ih =>
   rw [join_cons];cases ws with
   | nil=>rw [if_pos rfl];rfl
   | cons y ws =>
     rw [if_neg (by simp),dw,dw,ih,vM,RM];rfl
theorem pz:∀ {ls:List (List Nat)},ls≠[]->(∀ l∈ls,∀ c∈l,c≠10)->aw 10 (jL ls)=ls
 | [],h,_=>absurd rfl h
 | [x],_,h=>by rw [jL,b9 10 x (h x (Rr ..))]
 | x::y::r,_,h=>by
   rw [jL,dL,b9 10 x (h x (Rr ..)),pz (by simp) fun l hl=>h l (Rp _ hl)];rfl
theorem sW (l:List Nat):pw (bw l)=(W4 l).map ofL:=by
 unfold pw bw
 have e:((wds l).map ofL).map sL=wds l:=by
  rw [Ud]
  conv=>rhs;rw [<- List.map_id (wds l)]
  exact Vc fun x _=>aB x
 rw [e];congr 1
 have h:∀ L:List (List Nat),((L.filter fun p=>!p.isEmpty).map W4).flatten=(L.map W4).flatten:=fun L=>by
  induction L with
  | nil=>rfl
  | cons x L ih =>
    rw [U7];cases x with
    | nil =>
      rw [if_neg (by simp),ih];rfl
    | cons c x=>rw [if_pos (by simp),RB,R0,ih];rfl
 rw [uo];unfold wds;rw [h,<- uo,pp]
theorem lI (a b:List Nat):bw (a++32::b)=bw a++bw b:=by
 unfold bw;rw [gD,RC]
theorem lX {w:Rz} (h:Uw w):bw (sL w)=[w]:=by
 unfold bw;rw [sr h];show [ofL (sL w)]=[w];rw [show ofL (sL w)=w from gn w]
def kc (w:List Nat):Bool:=match aw 47 w with
 | [a,b]=>aS (ofL a) && isNum (ofL b)
 | _=>false
theorem zV {w:Rz} {k:Rz×Int} (h:KdOf w k):kc (sL w)=true:=by
 obtain ⟨rfl,h1,h2⟩:=h;unfold kc;have hn:=(cR h2).1;rw [dh,dL,b9 47 _ (kS h1),b9 47 _ (fun d hd=>by have:=hn d hd;omega)];show (aS (ofL (sL k.1)) && isNum (ofL (sL (aU k.2))))=true;rw [show ofL (sL k.1)=k.1 from gn _,show ofL (sL (aU k.2))=aU k.2 from gn _,h1,(mn h2).2];rfl
theorem lf {c d:Nat}:∀ {l:List Nat},d∈l->d=c∨∃ p∈aw c l,d∈p
 | [],h=>by cases h
 | x::l,h=>by
   rw [aw];obtain ⟨p,r,e⟩:=bQ c l;by_cases hx:x=c
   · rw [if_pos hx];rcases RA.mp h with rfl | h
     · exact .inl hx
     · rcases lf h with h | ⟨q,hq,hd⟩
       · exact .inl h
       · exact .inr ⟨q,Rp _ hq,hd⟩
   · rw [if_neg hx,e];rcases RA.mp h with rfl | h
     · exact .inr ⟨d::p,Rr ..,Rr ..⟩
     · rcases lf h with h | ⟨q,hq,hd⟩
       · exact .inl h
       · rw [e] at hq;rcases RA.mp hq with rfl | hq
         · exact .inr ⟨x::q,Rr ..,Rp _ hd⟩
         · exact .inr ⟨q,Rp _ hq,hd⟩
theorem m7 {z:Rz} (h:isNum z=true):∀ c∈sL z,48<=c/\c<=57:=by
 unfold isNum at h;rw [R5,R5,Sl] at h;exact fun c hc=>of_decide_eq_true (h.1.2 c hc)
theorem wI {w:List Nat} (h:kc w=true):∀ c∈w,(47<=c/\c<=57)∨(97<=c/\c<=122):=fun c hc=>by
 unfold kc at h;split at h
 · rename_i a b e
   rw [R5] at h;have ea:sL (ofL a)=a:=aB a;have eb:sL (ofL b)=b:=aB b;rcases lf (c:=47) hc with rfl | ⟨p,hp,hd⟩
   · omega
   · rw [e] at hp;rcases RA.mp hp with rfl | hp
     · have:=(cQ h.1).1 c (by rw [ea];exact hd);omega
     · rw [RO.mp hp] at hd;have:=m7 h.2 c (by rw [eb];exact hd);omega
 · cases h
def lB (r:List Nat):Bool:=match bw r with
 | []=>false
 | f::ws=>if f=Rc "in"∨f=Rc "out" then !ws.isEmpty && ws.all (fun w=>kc (sL w)) else if f=Rc "head" then hZ (pw ws) else if f=Rc "rule" then (match ws with | s::_::xs=>isNum s && hZ (pw xs) | _=>false) else false
def kw (p:Nat):Rz:=match p with
 | 0=>Rc "in"
 | 1=>Rc "out"
 | 2=>Rc "head"
 | _=>Rc "rule"
theorem v0:Rc "in"≠Rc "out"/\Rc "in"≠Rc "head"/\Rc "in"≠Rc "rule"/\Rc "out"≠Rc "head"/\Rc "out"≠Rc "rule"/\Rc "head"≠Rc "rule":=by decide +kernel
def RowAt (ins:List (Rz×Int)) (p:Nat) (r:List Nat):Prop:=match p with
 | 0=>∃ ks,KindsOf (Rc "in") (bw r) ks
 | 1=>∃ ks,KindsOf (Rc "out") (bw r) ks
 | 2=>∃ t,HeadOf (bw r) t
 | j+3=>∃ k t,ins[j%ins.length]?=some k/\RuleOf ((j / ins.length:Nat):Int) k.1 (bw r) t
theorem j8 {ins:List (Rz×Int)} {p:Nat} {r:List Nat} (h:RowAt ins p r):(bw r).head?=some (kw p):=by
 match p,h with
 | 0,⟨ks,rest,e,_⟩=>rw [e];rfl
 | 1,⟨ks,rest,e,_⟩=>rw [e];rfl
 | 2,⟨t,rest,e,_⟩=>rw [e];rfl
 | j+3,⟨k,t,_,rest,e,_⟩=>rw [e];rfl
theorem kU {ws:List Rz} {t:Th} (h:i9 ws t):hZ ws=true:=by
 obtain ⟨a,b,_⟩:=nw.mp h;rw [a];exact ly (xw b)
theorem jS {f:Rz} (hf:f=Rc "in"∨f=Rc "out") {r:List Nat} {ks:List (Rz×Int)} (h:KindsOf f (bw r) ks):lB r=true:=by
 obtain ⟨rest,e,Am,hp⟩:=h;unfold lB;rw [e];show (if f=_∨f=_ then _ else _)=true;rw [if_pos hf];cases rest with
 | nil=>exact absurd rfl Am
 | cons x rest =>
   show (true && _)=true;rw [UC,Sl];intro w hw;refine hid fun ZZ kZ=>?_;obtain ⟨j,hj⟩:=Sv.mp hw;obtain ⟨k,_,hk⟩:=P2.get hp hj;refine kZ ?_;exact zV hk
theorem qm {ins:List (Rz×Int)} {p:Nat} {r:List Nat} (h:RowAt ins p r):lB r=true:=by
 refine hid fun ZZ kZ=>?_;obtain ⟨k1,k2,k3,k4,k5,k6⟩:=v0;refine kZ ?_
 match p,h with
 | 0,⟨ks,h⟩=>exact jS (.inl rfl) h
 | 1,⟨ks,h⟩=>exact jS (.inr rfl) h
 | 2,⟨t,rest,e,hp⟩ =>
   unfold lB;rw [e];show (if Rc "head"=_∨Rc "head"=_ then _ else _)=true;rw [if_neg (fun z=>z.elim (fun z=>k2 z.symm) (fun z=>k4 z.symm)),if_pos rfl];exact kU hp
 | j+3,⟨k,t,_,rest,e,_,hs,hp⟩ =>
   unfold lB;rw [e];show (if Rc "rule"=_∨Rc "rule"=_ then _ else _)=true;rw [if_neg (fun z=>z.elim (fun z=>k3 z.symm) (fun z=>k5 z.symm)),if_neg (fun z=>k6 z.symm),if_pos rfl];show (isNum _ && hZ _)=true;rw [(mn hs).2,kU hp];rfl
theorem tW {z:Rz} {odd:List Rz} (hz:aw 10 (sL z)=odd.map sL) {ins outs:List (Rz×Int)} {head:Th} {rows:List (List Th)} (hb:cY z ins outs head rows):3<=odd.length/\ins≠[]/\(odd.length - 3)%ins.length=0/\(∀ (p:Nat) (r:Rz),odd[p]?=some r->RowAt ins p (sL r))/\∃ r0,odd[0]?=some r0/\KindsOf (Rc "in") (bw (sL r0)) ins:=by
 match hb with
 | ⟨r0,r1,r2,rest,e,h1,h2,h3,h4⟩ =>
   rw [e] at hz;have hlen:=congrArg TB hz;rw [Rf,Rh,Rh,Rh] at hlen
   have Am:ins≠[]:=by
    match h1 with
    | ⟨rs,_,Lv,hp⟩=>exact fun z=>Lv (R4.mp (by rw [R3 hp,z];rfl))
   have hn:0<ins.length:=SX.mpr Am;have BV:=h4.len;rw [Rf] at BV;have B7:∀ {p:Nat} {r:Rz},odd[p]?=some r->(r0::r1::r2::rest)[p]?=some (sL r):=fun {p r} hr=>by rw [hz,Rw,hr];rfl
   refine ⟨by omega,Am,by rw [<- hlen];show (rest.length+1+1+1 - 3)%_=0;rw [show rest.length+1+1+1 - 3=rest.length by omega,BV,Nat.mul_mod_left],fun p r hr=>?_,?_⟩
   · have hg:=B7 hr
     match p with
     | 0=>rw [<- Ry hg];exact ⟨ins,h1⟩
     | 1=>rw [<- Ry hg];exact ⟨outs,h2⟩
     | 2=>rw [<- Ry hg];exact ⟨head,h3⟩
     | j+3 =>
       have Ik:rest[j]?=some (sL r):=hg;have Fz:=(Rv.mp Ik).1;rw [BV] at Fz;have hs:j / ins.length<rows.length:=WD (by rw [U3];exact Fz);have hj:j%ins.length<ins.length:=Nat.mod_lt _ hn;refine hid fun ZZ kZ=>?_;obtain ⟨row,Ae⟩:∃ row,rows[j / ins.length]?=some row:=⟨_,Rg hs⟩;have Cs:=h4.row row (Ru Ae);obtain ⟨t,ht⟩:∃ t,row[j%ins.length]?=some t:=⟨_,Rg (by omega)⟩;obtain ⟨k,hk⟩:∃ k,ins[j%ins.length]?=some k:=⟨_,Rg hj⟩;obtain ⟨ws,B6,Nq,_⟩:=h4.w _ _ row t k Ae ht hk;refine kZ ?_;have KA:j / ins.length * ins.length+j%ins.length=j:=by rw [U3,VM]
       rw [KA,Rw,Ik] at B6;rw [<- Ry B6] at Nq;exact ⟨k,t,hk,Nq⟩
   · obtain ⟨a,ha⟩:∃ a,odd[0]?=some a:=⟨_,Rg (by omega)⟩;have hg:=B7 ha;refine ⟨a,ha,?_⟩;rw [<- Ry hg];exact h1
section
variable {ins outs:List (Rz×Int)} {head:Th} {rows:List (List Th)}
theorem Dr.kinds (D:Dr ins outs head rows) {f:Rz} (hf:Uw f) {ks:List (Rz×Int)} (hk:∀ k∈ks,dO k):bw (sL (aI f ks))=f::ks.map bj:=by
 rw [show sL (aI f ks)=jn ((f::ks.map bj).map sL) from dA _];refine zW fun w hw=>?_;rcases RA.mp hw with rfl | hw
 · exact hf
 · obtain ⟨k,Ds,rfl⟩:=SQ.mp hw;exact kQ (hk k Ds)
theorem oh (l:List Nat):bw (sL (Rc "head")++32::l)=Rc "head"::bw l:=by
 rw [lI,lX cS.2.2.1];rfl
theorem kN {st:Int} (hs:0<=st/\st<1000) {n:Rz} (hn:aS n=true) (l:List Nat):bw (sL (Rc "rule")++32::(sL (aU st)++32::(sL n++32::l)))=Rc "rule"::aU st::n::bw l:=by
 rw [lI,lI,lI,lX cS.2.2.2,lX (yA hs),lX (wt hn)];rfl
theorem Dr.ruleT (D:Dr ins outs head rows) {j:Nat} {r:Rz} (h:(bf ins outs head rows)[j+3]?=some r):∃ t k,ins[j%ins.length]?=some k/\r=BB.ruleT ((j / ins.length:Nat):Int) k.1 t/\t.Rd/\t.size<=121/\(0<=((j / ins.length:Nat):Int)/\((j / ins.length:Nat):Int)<10)/\dO k:=by
 have h':(gY BB.ruleT ins rows)[j]?=some r:=by rw [<- lO];exact h
 refine hid fun ZZ kZ=>?_;obtain ⟨row,t,k,h1,h2,h3,rfl⟩:=uO D.rl D.n0 h';have hs:=(Rv.mp h1).1;have hf:=D.few;obtain ⟨t1,t2,t3⟩:=(D.row row (Ru h1)).2 t (Ru h2);refine kZ ?_;exact ⟨t,k,h3,rfl,t1,t3,⟨Int.natCast_nonneg _,Int.ofNat_lt.mpr (R6 hs (SO hf (by decide)))⟩,D.gi k (Ru h3)⟩
theorem Dr.bl (D:Dr ins outs head rows):(bf ins outs head rows).length=rows.length * ins.length+3:=by
 unfold bf;rw [Rm,lO,jv D.rl];show 3+_=_;omega
theorem Dr.first (D:Dr ins outs head rows) {p:Nat} {r:Rz} (h:(bf ins outs head rows)[p]?=some r):(bw (sL r)).head?=some (kw p):=by
 match p with
 | 0=>cases h;rw [D.kinds cS.1 D.gi];rfl
 | 1=>cases h;rw [D.kinds cS.2.1 D.go];rfl
 | 2=>cases h;rw [iS,oh];rfl
 | j+3 =>
   refine hid fun ZZ kZ=>?_;obtain ⟨t,k,hk,rfl,_,_,hs,BY⟩:=D.ruleT h;refine kZ ?_;rw [gz,kN ⟨hs.1,by omega⟩ BY.1];rfl
theorem vg {a b:Int} (ha:0<=a/\a<1000) (hb:0<=b/\b<1000) (h:aU a=aU b):a=b:=by
 have n1:=bB.mpr ⟨rfl,ha⟩;have n2:=bB.mpr ⟨rfl,hb⟩;rw [h,n2] at n1;exact (Ry n1).symm
theorem Dr.nd (D:Dr ins outs head rows):(ins.map (·.1)).Nodup:=by
 have h:=D.ki;unfold aV at h;rw [R5,R5,R5] at h;exact of_decide_eq_true h.2.2.1
theorem Dr.pos (D:Dr ins outs head rows) {i j:Nat} {r:Rz} (h:(bf ins outs head rows)[j+3]?=some r) (ha:RowAt ins (i+3) (sL r)):i=j:=by
 refine hid fun ZZ kZ=>?_;obtain ⟨t,k,hk,rfl,_,_,hs,BY⟩:=D.ruleT h;obtain ⟨k',t',BP,rest,e,_,KD,_⟩:=ha;refine kZ ?_;rw [gz,kN ⟨hs.1,by omega⟩ BY.1] at e;have e1:=(RR (RR e).2).1;have e2:=(RR (RR (RR e).2).2).1;have q1:=vg ⟨hs.1,by omega⟩ KD e1;have q2:j / ins.length=i / ins.length:=Int.ofNat_inj.mp q1
 have q3:j%ins.length=i%ins.length:=by
  have hj:=(Rv.mp hk).1;have hi:=(Rv.mp BP).1;have a1:(ins.map (·.1))[j%ins.length]?=some k.1:=by rw [Rw,hk];rfl
  have a2:(ins.map (·.1))[i%ins.length]?=some k.1:=by rw [Rw,BP,e2];rfl
  exact e9 D.nd a1 a2
 have w1:=VM i ins.length;have w2:=VM j ins.length;rw [<- q2,<- q3] at w1;omega
def eh:List Rz:=[Rc " 0.",Rc " .0",Rc " 0.0.0",Rc "(",Rc ")",Rc ",",Rc " x",Rc " ,x",Rc " 00.0",Rc " 0.00"]++[Rc "()",Rc " A",Rc "-",Rc " 1000.0",Rc "_",Rc " /",Rc ".",Rc " b /0"]
def gK (c:Nat):Bool:=decide (c=32∨(47<=c/\c<=57)∨(97<=c/\c<=122))
def gP (c:Nat):Bool:=decide (c=32∨c=40∨c=41∨c=44∨c=46∨(48<=c/\c<=57)∨(97<=c/\c<=122))
def x8 (t:List Nat):Bool:=t.any (fun c=>!gK c) || (match t with | 32::t'=>(wds t').any (fun w=>!kc w) | _=>false)
def yp (t:List Nat):Bool:=t.any (fun c=>!gP c) || (match t with | c::_=>decide (c=32∨c=40∨c=41∨c=44∨c=46) && yF ((W4 t).map ofL) | []=>false)
theorem tD:∀ t∈eh,x8 (sL t)=true/\yp (sL t)=true:=by decide +kernel
theorem lU {f:Rz} (hf:Uw f) {l t:List Nat} (ht:x8 t=true):∀ ks,¬ KindsOf f (bw (sL f++32::(l++t))) ks:=fun ks ⟨rest,e,Am,hp⟩=>by
 rw [lI,lX hf] at e;have e2:bw (l++t)=rest:=(RR e).2
 have Ai:∀ w∈wds (l++t),kc w=true:=fun w hw=>by
  have hm:ofL w∈rest:=by rw [<- e2];exact List.mem_map_of_mem hw
  obtain ⟨j,hj⟩:=Sv.mp hm;obtain ⟨k,_,hk⟩:=P2.get hp hj;have:=zV hk;rw [show sL (ofL w)=w from aB w] at this;exact this
 unfold x8 at ht;rcases Vj _ _ |>.mp ht with h | h
 · refine hid fun ZZ kZ=>?_;obtain ⟨c,hc,hg⟩:=VE.mp h;have Dc:c≠32:=fun z=>by rw [z] at hg;exact absurd hg (by decide)
   obtain ⟨w,hw,G8⟩:=xF Dc (RI l hc);refine kZ ?_;have:=wI (Ai w hw) c G8;unfold gK at hg;rw [decide_eq_true (show c=32∨(47<=c/\c<=57)∨(97<=c/\c<=122) from .inr this)] at hg;cases hg
 · match t,h with
   | 32::t',h =>
     have h:(wds t').any (fun w=>!kc w)=true:=h;obtain ⟨w,hw,hg⟩:=VE.mp h;rw [gD] at Ai;rw [Ai w (RI _ hw)] at hg;cases hg
theorem x9 {c:Nat} (hc:c=32∨c=40∨c=41∨c=44∨c=46) (a t:List Nat):W4 (a++c::t)=W4 a++W4 (c::t):=by
 obtain ⟨m,hm⟩:∃ m,sp4 c=32::m:=by
  rcases hc with rfl | rfl | rfl | rfl | rfl
  · exact ⟨[],rfl⟩
  · exact ⟨[40,32],rfl⟩
  · exact ⟨[41,32],rfl⟩
  · exact ⟨[44,32],rfl⟩
  · exact ⟨[46,32],rfl⟩
 unfold W4;rw [UI,T4,hm,RZ,gD];congr 1
theorem nG:∀ {ws:List Rz} {s s':Nat×Nat},ck s ws=some s'->∀ w∈ws,∀ c∈sL w,gP c=true
 | [],_,_,_,w,hw=>by cases hw
 | x::ws,s,s',h,w,hw=>by
   rw [ck] at h;cases e:aut s x with
   | none=>rw [e] at h;cases h
   | some s1 =>
     rw [e] at h;rcases RA.mp hw with rfl | hw
     · intro c hc;refine hid fun ZZ kZ=>?_;obtain ⟨l1,l2,l3,l4⟩:=xo;refine kZ ?_;unfold gP;refine decide_eq_true ?_;unfold aut at e;by_cases c1:w=lpar
       · rw [c1,l1] at hc;have:=RO.mp hc;omega
       by_cases c2:w=rpar
       · rw [c2,l2] at hc;have:=RO.mp hc;omega
       by_cases c3:w=comma
       · rw [c3,l3] at hc;have:=RO.mp hc;omega
       by_cases c4:w=dot
       · rw [c4,l4] at hc;have:=RO.mp hc;omega
       rw [if_neg c1,if_neg c2,if_neg c3,if_neg c4] at e;by_cases c5:aS w=true
       · have:=(cQ c5).1 c hc;omega
       by_cases c6:isNum w=true
       · have:=m7 c6 c hc;omega
       rw [if_neg c5,if_neg c6] at e;cases e
     · exact nG (show ck s1 ws=some s' from h) w hw
theorem qz {t:Th} (h:t.Wr) {l:List Nat} (hl:yp l=true):hZ ((W4 (t.tx++l)).map ofL)=false:=by
 unfold yp at hl;rcases Vj _ _ |>.mp hl with hl | hl
 · refine hid fun ZZ kZ=>?_;obtain ⟨c,hc,hg⟩:=VE.mp hl;have Dc:c≠32:=fun z=>by rw [z] at hg;exact absurd hg (by decide)
   obtain ⟨w,hw,G8⟩:=yo Dc (RI t.tx hc);refine kZ ?_;cases e:ck (0,0) ((W4 (t.tx++l)).map ofL) with
   | none=>unfold hZ;rw [e];rfl
   | some s =>
     have:=nG e (ofL w) (List.mem_map_of_mem hw) c (by rw [show sL (ofL w)=w from aB w];exact G8);rw [this] at hg;cases hg
 · match l,hl with
   | c::l,hl =>
     obtain ⟨h1,h2⟩:=R5 _ _ |>.mp hl;rw [x9 (of_decide_eq_true h1),RC,si h,kI];exact tM h h2
theorem Dr.tail (D:Dr ins outs head rows) {Bv:List (Rz×Int)} {p:Nat} {r t:Rz} (h:(bf ins outs head rows)[p]?=some r) (ht:t∈eh):¬ RowAt Bv p (sL (r++t)):=by
 refine hid fun ZZ kZ=>?_;obtain ⟨b1,b2⟩:=tD t ht;obtain ⟨k1,k2,k3,k4,k5,k6⟩:=v0;refine kZ ?_;rw [dw]
 have kin:∀ {f:Rz} {ks:List (Rz×Int)},ks≠[]->∃ l,sL (aI f ks)=sL f++32::l:=fun {f ks} Am=>by
  cases ks with
  | nil=>exact absurd rfl Am
  | cons k ks=>exact ⟨jn ((bj k::ks.map bj).map sL),(dA (f::(k::ks).map bj)).trans rfl⟩
 intro ha
 match p with
 | 0 =>
   cases h;obtain ⟨l,hl⟩:=kin (f:=Rc "in") D.ine;obtain ⟨ks,hk⟩:=ha;rw [hl,RM,RZ] at hk;exact lU cS.1 b1 ks hk
 | 1 =>
   cases h;obtain ⟨l,hl⟩:=kin (f:=Rc "out") D.one;obtain ⟨ks,hk⟩:=ha;rw [hl,RM,RZ] at hk;exact lU cS.2.1 b1 ks hk
 | 2 =>
   cases h;refine hid fun ZZ kZ=>?_;obtain ⟨t',rest,e,hp⟩:=ha;refine kZ ?_;rw [iS,RM,RZ,oh] at e;rw [<- (RR e).2,sW] at hp;have:=kU hp;rw [qz (eO D.hd.1) b2] at this;cases this
 | j+3 =>
   refine hid fun ZZ kZ=>?_;obtain ⟨u,k,hk,er,t1,_,hs,BY⟩:=D.ruleT h;refine kZ ?_;subst er;refine hid fun ZZ kZ=>?_;obtain ⟨k',t',_,rest,e,_,_,hp⟩:=ha;refine kZ ?_;rw [gz] at e;simp only [RM,RZ] at e;rw [kN ⟨hs.1,by omega⟩ BY.1] at e;rw [<- (RR (RR (RR e).2).2).2,sW] at hp;have:=kU hp;rw [qz (eO t1) b2] at this;cases this
def da:List Rz:=[Rc "in",Rc "out",Rc "head",Rc "rule",Rc "rule 0",Rc "rule 0 a",Rc "inn a/0",Rc "in a",Rc "in a/"]++[Rc "in /0",Rc "in a/0/0",Rc "in a/x",Rc "out A/0",Rc "out abcdefghi/0",Rc "out a/00"]++[Rc "out a/1000",Rc "out a/-1",Rc "out a/1_0",Rc "out a/+1",Rc "head x(y",Rc "head x)",Rc "head x(y,)"]++[Rc "head x(,y)",Rc "head x()",Rc "head 0",Rc "head 0.1 0",Rc "head abcdefghi"]++[Rc "in a /0",Rc "in a/ 0",Rc "IN a/0",Rc "Head x",Rc "Rule 0 a b",Rc "out a / 0"]++[Rc "rule x a b",Rc "rule -1 a b",Rc "rule +0 a b",Rc "",Rc " "]
theorem tH:∀ h∈da,lB (sL h)=false:=by decide +kernel
theorem wH {w l:List Nat} (h:∀ c∈w,c≠32):L2.er1 32 (w++32::l)=w++l:=by
 induction w with
 | nil=>show (if 32=32 then l else _)=l;rw [if_pos rfl]
 | cons d w ih =>
   show (if d=32 then _ else d::L2.er1 32 (w++32::l))=_;rw [if_neg (h d (Rr ..)),ih fun c hc=>h c (Rp _ hc)];rfl
theorem jb {f:Rz} (hf:Uw f) {c:Nat} {l:List Nat} (hc:c≠32):(bw (L2.er1 32 (sL f++32::c::l))).head?≠some f:=by
 have Lw:=(mh hf).1;have Dc:∀ d∈sL f,d≠32:=fun d hd=>by have:=Lw d hd;omega
 rw [wH Dc]
 have e:wds (sL f++c::l)=scW (sL f++[c]) l:=by
  have h:=l0 l (sL f++[c]) (fun d hd=>by
   rcases RN.mp hd with hd | hd
   · exact Dc d hd
   · rw [RO.mp hd];exact hc)
  rw [<- h,RM];rfl
 unfold bw;rw [e]
 have Lx:∀ (l cur:List Nat),cur≠[]->∃ x r,scW cur l=(cur++x)::r:=fun l=>by
  induction l with
  | nil=>exact fun cur Am=>⟨[],[],by rw [scW,em,if_neg Am,RP]⟩
  | cons d l ih =>
    intro cur Am;rw [scW];by_cases hd:d=32
    · rw [if_pos hd,em,if_neg Am];exact ⟨[],_,by rw [RP];rfl⟩
    · rw [if_neg hd];obtain ⟨x,r,e⟩:=ih (cur++[d]) (by simp);exact ⟨d::x,r,by rw [e,RM];rfl⟩
 obtain ⟨x,r,e2⟩:=Lx l (sL f++[c]) (by simp);rw [e2];intro z;have z2:ofL (sL f++[c]++x)=f:=Ry z;have z3:=congrArg (fun w:Rz=>(sL w).length) z2;have e3:sL (ofL (sL f++[c]++x))=sL f++[c]++x:=aB _;simp only [e3,Rm,Rh,TM] at z3;omega
theorem Dr.erase (D:Dr ins outs head rows) {Bv:List (Rz×Int)} {p:Nat} {r r':Rz} (h:(bf ins outs head rows)[p]?=some r) (hr:sL r'=L2.er1 32 (sL r)):¬ RowAt Bv p (sL r'):=fun ha=>by
 have hf:=j8 ha;rw [hr] at hf
 have kin:∀ {f:Rz} {ks:List (Rz×Int)},ks≠[]->(∀ k∈ks,dO k)->∃ c l,sL (aI f ks)=sL f++32::c::l/\c≠32:=fun {f ks} Am hk=>by
  cases ks with
  | nil=>exact absurd rfl Am
  | cons k ks =>
    have e:sL (aI f (k::ks))=sL f++32::jn ((bj k::ks.map bj).map sL):=(dA (f::(k::ks).map bj)).trans rfl;obtain ⟨h1,h2⟩:=mh (kQ (hk k (Rr ..)));cases e2:sL (bj k) with
    | nil=>exact absurd e2 h2
    | cons c m =>
      have hc:=h1 c (by rw [e2];exact Rr ..)
      have e3:∃ l,jn ((bj k::ks.map bj).map sL)=c::l:=by
       cases ks with
       | nil=>exact ⟨m,by show sL (bj k)=_;exact e2⟩
       | cons k' ks=>exact ⟨_,by show sL (bj k)++32::_=_;rw [e2];rfl⟩
      obtain ⟨l,e3⟩:=e3;exact ⟨c,l,by rw [e,e3],by omega⟩
 have Qu:∀ {t:Th},t.Wr->∃ c l,t.tx=c::l/\c≠32:=fun {t} ht=>by
  have Lw:=sC ht;cases e:t.tx with
  | nil =>
    have hw:=si ht;rw [e] at hw;have h0:t.wP=[]:=Vb.mp hw.symm;have ha:=ly ht;rw [h0] at ha;cases ha
  | cons c l =>
    have:=Lw c (by rw [e];exact Rr ..);exact ⟨c,l,rfl,by omega⟩
 match p with
 | 0 =>
   cases h;refine hid fun ZZ kZ=>?_;obtain ⟨c,l,e,hc⟩:=kin (f:=Rc "in") D.ine D.gi;refine kZ ?_;rw [e] at hf;exact jb cS.1 hc hf
 | 1 =>
   cases h;refine hid fun ZZ kZ=>?_;obtain ⟨c,l,e,hc⟩:=kin (f:=Rc "out") D.one D.go;refine kZ ?_;rw [e] at hf;exact jb cS.2.1 hc hf
 | 2 =>
   cases h;refine hid fun ZZ kZ=>?_;obtain ⟨c,l,e,hc⟩:=Qu (eO D.hd.1);refine kZ ?_;rw [iS,e] at hf;exact jb cS.2.2.1 hc hf
 | j+3 =>
   refine hid fun ZZ kZ=>?_;obtain ⟨u,k,hk,rfl,t1,_,hs,BY⟩:=D.ruleT h;obtain ⟨h1,h2⟩:=cR (n:=((j / ins.length:Nat):Int)) ⟨hs.1,by omega⟩;refine kZ ?_;cases e:sL (aU ((j / ins.length:Nat):Int)) with
   | nil=>exact h2 e
   | cons c l =>
     have:=h1 c (by rw [e];exact Rr ..);rw [gz,e] at hf;exact jb cS.2.2.2 (by omega) hf
def wc (R odd:List Rz):Prop:=∃ p row,R[p]?=some row/\((∃ t∈eh,odd=R.take p++(row++t)::R.drop (p+1))∨(∃ h∈da,odd=R.take p++h::R.drop (p+1))∨odd=R.take p++R.drop (p+1)∨odd=R.take p++row::R.drop p∨odd=R.take p++((R.drop (p+1)).take 1++row::R.drop (p+2))∨odd=R.take (p+1)++Rc ""::R.drop (p+1)∨∃ r',sL r'=L2.er1 32 (sL row)/\odd=R.take p++r'::R.drop (p+1))
def ma (R:List Rz) (n:Nat) (odd:List Rz):Bool:=decide (odd=R) || (decide (3<=odd.length/\odd.length<R.length/\odd=R.take odd.length) && decide ((odd.length - 3)%n=0))
theorem kw_3 {p q:Nat} (h:kw p=kw q):p=q∨(3<=p/\3<=q):=by
 refine hid fun ZZ kZ=>?_;obtain ⟨k1,k2,k3,k4,k5,k6⟩:=v0;refine kZ ?_
 match p,q,h with
 | 0,0,_=>exact .inl rfl
 | 1,1,_=>exact .inl rfl
 | 2,2,_=>exact .inl rfl
 | i+3,j+3,_=>exact .inr ⟨by omega,by omega⟩
 | 0,1,h=>exact absurd h k1
 | 1,0,h=>exact absurd h.symm k1
 | 0,2,h=>exact absurd h k2
 | 2,0,h=>exact absurd h.symm k2
 | 0,j+3,h=>exact absurd h k3
 | j+3,0,h=>exact absurd h.symm k3
 | 1,2,h=>exact absurd h k4
 | 2,1,h=>exact absurd h.symm k4
 | 1,j+3,h=>exact absurd h k5
 | j+3,1,h=>exact absurd h.symm k5
 | 2,j+3,h=>exact absurd h k6
 | j+3,2,h=>exact absurd h.symm k6
theorem Dr.place (D:Dr ins outs head rows) {Bv:List (Rz×Int)} {p q:Nat} {r:Rz} (h:(bf ins outs head rows)[q]?=some r) (ha:RowAt Bv p (sL r)) (hi:3<=p->Bv=ins):p=q:=by
 have e:=j8 ha;rw [D.first h] at e;rcases kw_3 (Ry e).symm with e | ⟨h1,h2⟩
 · exact e
 · obtain ⟨i,rfl⟩:∃ i,p=i+3:=⟨p - 3,by omega⟩;obtain ⟨j,rfl⟩:∃ j,q=j+3:=⟨q - 3,by omega⟩;rw [hi h1] at ha;rw [D.pos h ha]
theorem Dr.odd (D:Dr ins outs head rows) {odd:List Rz} (ho:wc (bf ins outs head rows) odd) {z:Rz} (hz:aw 10 (sL z)=odd.map sL) {Bv C2:List (Rz×Int)} {head':Th} {AZ:List (List Th)} (hb:cY z Bv C2 head' AZ):ma (bf ins outs head rows) ins.length odd=true:=by
 refine hid fun ZZ kZ=>?_;obtain ⟨b1,b2,b3,b4,r0,b5,b6⟩:=tW hz hb;have hR:=D.bl;have CM:(bf ins outs head rows)[0]?=some (aI (Rc "in") ins):=rfl
 have Ec:∀ {p:Nat},1<=p->(∀ q,q<p->odd[q]?=(bf ins outs head rows)[q]?)->Bv=ins:=fun {p} hp hq=>by
  rw [hq 0 (by omega),CM] at b5;cases b5
  have g1:KindsOf (Rc "in") (Rc "in"::ins.map bj) ins:=by
   refine ⟨ins.map bj,rfl,fun z=>D.ine (Vb.mp z),?_⟩
   have:∀ ks:List (Rz×Int),(∀ k∈ks,dO k)->So KdOf (ks.map bj) ks:=fun ks=>by
    induction ks with
    | nil=>exact fun _=>.nil
    | cons k ks ih=>exact fun h=>.cons ⟨rfl,h k (Rr ..)⟩ (ih fun x hx=>h x (Rp _ hx))
   exact this ins D.gi
  rw [D.kinds cS.1 D.gi] at b6;exact KindsOf.uniq b6 g1
 obtain ⟨p,row,hp,ho⟩:=ho;refine kZ ?_;have A9:=(Rv.mp hp).1;generalize HL:bf ins outs head rows=R at *
 have tk:∀ {q:Nat} {X:List Rz},q<p->(R.take p++X)[q]?=R[q]?:=fun {q X} hq=>by
  rw [TQ (by rw [Rx];omega),List.getElem?_take,if_pos hq]
 have DY:∀ {x:Rz} {X:List Rz},(R.take p++x::X)[p]?=some x:=fun {x X}=>by
  rw [SY (by rw [Rx];omega),Rx,TL (by omega),Vt];rfl
 rcases ho with ⟨t,ht,rfl⟩ | ⟨h,hh,rfl⟩ | rfl | rfl | rfl | rfl | ⟨r',Bp,rfl⟩
 · subst HL;exact (D.tail hp ht (b4 p _ DY)).elim
 · have:=qm (b4 p _ DY);rw [tH h hh] at this;cases this
 · -- a row taken out
   by_cases AY:p+1<R.length
   · obtain ⟨r,hr⟩:∃ r,R[p+1]?=some r:=⟨_,Rg AY⟩;have hd:R.drop (p+1)=r::R.drop (p+2):=by rw [SH AY];congr 1;rw [Rg AY] at hr;exact Ry hr
     rw [hd] at b4 Ec;have ha:=b4 p r DY;subst HL;have:=D.place hr ha fun h3=>Ec (p:=p) (by omega) fun q hq=>tk hq;omega
   · have e:R.drop (p+1)=[]:=Ue (by omega);rw [e,RP] at b1 b3 Ec ⊢;have hlen:(R.take p).length=p:=by rw [Rx];omega
     have F7:Bv=ins:=Ec (p:=p) (by rw [hlen] at b1;omega) fun q hq=>by rw [List.getElem?_take,if_pos hq]
     rw [F7] at b3;unfold ma;rw [decide_eq_true (show 3<=(R.take p).length/\(R.take p).length<R.length/\R.take p=R.take (R.take p).length from ⟨b1,by omega,by rw [hlen]⟩),decide_eq_true b3,Bool.and_true,Bool.or_true]
 · -- twice
   have e:R.drop p=row::R.drop (p+1):=by rw [SH A9];congr 1;rw [Rg A9] at hp;exact Ry hp
   have h1:(R.take p++row::R.drop p)[p+1]?=some row:=by
    rw [SY (by rw [Rx];omega),Rx,TL (by omega),show p+1 - p=0+1 by omega,e];rfl
   have ha:=b4 (p+1) row h1;subst HL;have:=D.place hp ha fun h3=>Ec (p:=p) (by omega) fun q hq=>tk hq;omega
 · -- Dj
   by_cases AY:p+1<R.length
   · obtain ⟨r,hr⟩:∃ r,R[p+1]?=some r:=⟨_,Rg AY⟩;have hd:(R.drop (p+1)).take 1=[r]:=by rw [SH AY];rw [Rg AY] at hr;rw [Ry hr];rfl
     rw [hd] at b4 Ec;have ha:=b4 p r DY;subst HL;have:=D.place hr ha fun h3=>Ec (p:=p) (by omega) fun q hq=>tk hq;omega
   · have e1:R.drop (p+1)=[]:=Ue (by omega);have e2:R.drop (p+2)=[]:=Ue (by omega);have e:R.drop p=[row]:=by rw [SH A9,e1];congr 1;rw [Rg A9] at hp;exact Ry hp
     have e3:R.take p++((R.drop (p+1)).take 1++row::R.drop (p+2))=R:=by
      rw [e1,e2,V8,Sn,<- e,List.take_append_drop]
     unfold ma;rw [decide_eq_true e3,Bool.true_or]
 · -- an empty row
   have h1:(R.take (p+1)++Rc ""::R.drop (p+1))[p+1]?=some (Rc ""):=by
    rw [SY (by rw [Rx];omega),Rx,TL (by omega),Vt];rfl
   have:=qm (b4 (p+1) _ h1);rw [show lB (sL (Rc ""))=false by decide +kernel] at this;cases this
 · subst HL;exact (D.erase hp Bp (b4 p _ DY)).elim
end
theorem cH {xs:List V} {n:Nat}:cB xs (some (n:Int)) none=xs.drop n:=by
 by_cases h:n<=xs.length
 · exact jF h
 · unfold cB;rw [HT.sIx_nat,HT.sIx_none,Nat.min_eq_right (by omega),Wf,Ue (by omega),V8]
theorem dj {xs:List V} {n:Nat} (h:n<=xs.length):cB xs none (some (n:Int))=xs.take n:=by
 unfold cB;rw [HT.sIx_none,HT.sIx_nat,TL h,Tt,VS]
theorem uj {xs:List V} {n:Nat} (h:n<=xs.length):cB xs (some (n:Int)) (some ((n+1:Nat):Int))=(xs.drop n).take 1:=by
 unfold cB;rw [HT.sIx_nat,HT.sIx_nat,TL h];by_cases h1:n+1<=xs.length
 · rw [TL h1,show n+1 - n=1 by omega]
 · have e:xs.drop n=[]:=Ue (by omega);rw [e,V8,V8]
inductive jh (vs:List V) (H:Hp) (Q:VK) (_E:XK):Prop
 | mk (rl:Rk) (R:List Rz) (cell:Int) (Aq:vs=[.ref rl,.int cell]) (Ar:H rl=some (.lst (R.map V.str))) (AB:R≠[]) (AQ:R.length<=1000) (Bq:(∀ r∈R,r.length<=2000)) (Cb:0<=cell) (DF:∀ (r:Rk) (odd:List Rz) (H':Hp),L2.Same H H'->H' r=some (.lst (odd.map V.str))->wc R odd->Q (.ref r) H'):jh  vs H Q _E
def pE:Sp:=jh
theorem uG {l:List Rz} {c:Int} (hl:0<l.length):∃ o,atI (l.map V.str) (c%((l.map V.str).length:Int))=some (.str o)/\o∈l:=by
 have x0:=Se c (show (l.length:Int)≠0 by omega);have x1:=Sa c (show (0:Int)<(l.length:Int) by omega);obtain ⟨o,ho⟩:∃ o,l[(c%(l.length:Int)).toNat]?=some o:=⟨_,Rg (by omega)⟩;refine ⟨o,?_,Ru ho⟩;rw [Rf];exact at_nonneg x0 (by rw [Rw,ho];rfl)
set_option maxHeartbeats 4000000 in
theorem pI:FnOk P w K mg base CX0 1 T.g__law_odd.f T.g__law_odd.d ["rows","cell"] pE:=by
 refine T.g__law_odd.F.ok aP (fun vs H Q E h=>?_) (fun Al A outer s H vs Q E hr h=>?_)
 · obtain ⟨rl,R,cell,rfl,_⟩:=h;rfl
 obtain ⟨rl,R,cell,rfl,Jh,Am,hn,hb,hc,q⟩:=h
 refine ⟨_,(qJ (i:=2) aP.nd rfl rfl (ak aZ (pv 1) (aq am rfl T.n_len RQ (aa (pv 0) ae)))
  (bg (ao (i:=3) aP.nd rfl (RH rfl) (aA aJ (pv 0) (pv 2) (fun _ _=>rfl)))
  (bg (ao (i:=1) aP.nd rfl (RH rfl) (ak bo (pv 1) (aq am rfl T.n_len RQ (aa (pv 0) ae))))
  (@bg _ _ _ _ _ (@sK _ [(Rc " 0.",_,_),(Rc " .0",_,_),(Rc " 0.0.0",_,_),(Rc "(",_,_),(Rc ")",_,_),(Rc ",",_,_),(Rc " x",_,_),(Rc " ,x",_,_),(Rc " 00.0",_,_),(Rc " 0.00",_,_)] 4 _ _ _ _ aP.nd rfl (RH rfl) (RH rfl))
  (bg (ao (i:=4) aP.nd rfl (RH rfl) (ak bU (pv 4) (aW (eB [(Rc "()",_,_),(Rc " A",_,_),(Rc "-",_,_),(Rc " 1000.0",_,_),(Rc "_",_,_),(Rc " /",_,_),(Rc ".",_,_),(Rc " b /0",_,_)]))))
  (@bg _ _ _ _ _ (@sK _ [(Rc "in",_,_),(Rc "out",_,_),(Rc "head",_,_),(Rc "rule",_,_),(Rc "rule 0",_,_),(Rc "rule 0 a",_,_),(Rc "inn a/0",_,_),(Rc "in a",_,_),(Rc "in a/",_,_)] 5 _ _ _ _ aP.nd rfl (RH rfl) (RH rfl))
  (bg (ao (i:=5) aP.nd rfl (RH rfl) (ak bU (pv 5) (aW (eB [(Rc "in /0",_,_),(Rc "in a/0/0",_,_),(Rc "in a/x",_,_),(Rc "out A/0",_,_),(Rc "out abcdefghi/0",_,_),(Rc "out a/00",_,_)]))))
  (bg (ao (i:=5) aP.nd rfl (RH rfl) (ak bU (pv 5) (aW (eB [(Rc "out a/1000",_,_),(Rc "out a/-1",_,_),(Rc "out a/1_0",_,_),(Rc "out a/+1",_,_),(Rc "head x(y",_,_),(Rc "head x)",_,_),(Rc "head x(y,)",_,_)]))))
  (bg (ao (i:=5) aP.nd rfl (RH rfl) (ak bU (pv 5) (aW (eB [(Rc "head x(,y)",_,_),(Rc "head x()",_,_),(Rc "head 0",_,_),(Rc "head 0.1 0",_,_),(Rc "head abcdefghi",_,_)]))))
  (bg (ao (i:=5) aP.nd rfl (RH rfl) (ak bU (pv 5) (aW (eB [(Rc "in a /0",_,_),(Rc "in a/ 0",_,_),(Rc "IN a/0",_,_),(Rc "Head x",_,_),(Rc "Rule 0 a b",_,_),(Rc "out a / 0",_,_)]))))
  (bg (ao (i:=5) aP.nd rfl (RH rfl) (ak bU (pv 5) (aW (eB [(Rc "rule x a b",_,_),(Rc "rule -1 a b",_,_),(Rc "rule +0 a b",_,_),(Rc "",_,_),(Rc " ",_,_)]))))
  (bg (aN (au cq (ak aZ (pv 1) ag) ag (ay _)) (af (ao (i:=6) aP.nd rfl (RH rfl) (ak aQ (pv 3) (aA aJ (pv 4) (ak aZ (ak bo (pv 1) ag) (aq am rfl T.n_len RQ (aa (pv 4) ae))) (fun _ _=>rfl))))
  (ai (av (ak bU (ak bU (aK bp (pv 0) bd (aO (pv 2))) (aW (aa (pv 6) ae))) (aK bp (pv 0) (aO (ak aY (pv 2) ag)) bd))))) aE)
  (bg (aN (au cq (ak aZ (pv 1) ag) ag (ay _)) (af (ao (i:=6) aP.nd rfl (RH rfl) (aA aJ (pv 5) (ak aZ (ak bo (pv 1) ag) (aq am rfl T.n_len RQ (aa (pv 5) ae))) (fun _ _=>rfl)))
  (ai (av (ak bU (ak bU (aK bp (pv 0) bd (aO (pv 2))) (aW (aa (pv 6) ae))) (aK bp (pv 0) (aO (ak aY (pv 2) ag)) bd))))) aE)
  (bg (ao (i:=7) aP.nd rfl (RH rfl) (ak aZ (ak bo (pv 1) ag) ag))
  (bg (aN (au cq (pv 7) ag (ay _)) (ai (av (ak bU (aK bp (pv 0) bd (aO (pv 2))) (aK bp (pv 0) (aO (ak aY (pv 2) ag)) bd)))) aE)
  (bg (aN (au cq (pv 7) ag (ay _)) (ai (av (ak bU (ak bU (aK bp (pv 0) bd (aO (pv 2))) (aW (aa (pv 3) ae))) (aK bp (pv 0) (aO (pv 2)) bd)))) aE)
  (bg (aN (au cq (pv 7) ag (ay _)) (af (ao (i:=8) aP.nd rfl (RH rfl) (ak bU (aK bp (pv 0) bd (aO (pv 2))) (aK bp (pv 0) (aO (ak aY (pv 2) ag)) (aO (ak aY (pv 2) ag)))))
  (ai (av (ak bU (ak bU (pv 8) (aW (aa (pv 3) ae))) (aK bp (pv 0) (aO (ak aY (pv 2) ag)) bd))))) aE)
  (bg (aN (au cq (pv 7) ag (ay _)) (ai (av (ak bU (ak bU (aK bp (pv 0) bd (aO (ak aY (pv 2) ag))) (aW (aa ax ae))) (aK bp (pv 0) (aO (ak aY (pv 2) ag)) bd)))) aE)
  (uP (vR (i:=6) aP.nd rfl (RH rfl) (pv 3)) (ai (av (ak bU (ak bU (aK bp (pv 0) bd (aO (pv 2))) (aW (aa (pv 6) ae))) (aK bp (pv 0) (aO (ak aY (pv 2) ag)) bd))))))))))))))))))))))),?_⟩
 try dsimp only [AN,Aj]
 have Co:=SX.mpr Am;have hL:(((R.map V.str).length:Nat):Int)=(R.length:Int):=by rw [Rf]
 have BW:(R.map V.str).length=R.length:=Rf _;refine ⟨_,rfl,_,rfl,rl,_,rfl,.inl (SqL.of Jh),_,_,rfl,rfl,(by rw [hL];omega),?_⟩;rw [hL];have y0:=Se cell (show (R.length:Int)≠0 by omega);have y1:=Sa cell (show (0:Int)<(R.length:Int) by omega);obtain ⟨i,hi⟩:∃ i:Nat,cell%(R.length:Int)=(i:Int):=⟨_,(Int.toNat_of_nonneg y0).symm⟩;rw [hi];have BS:i<R.length:=by omega
 obtain ⟨row,Ae⟩:∃ row,R[i]?=some row:=⟨_,Rg BS⟩;have Cs:=hb row (Ru Ae);dsimp only [aC];refine ⟨_,rfl,_,rfl,rl,_,_,.str row,rfl,rfl,SqL.of Jh,fg (by rw [Rw,Ae];rfl),?_⟩;dsimp only [aC];refine ⟨_,rfl,_,rfl,rl,_,rfl,.inl (SqL.of Jh),_,_,rfl,rfl,⟨by rw [hL];omega,by rw [hL];omega⟩,?_⟩;rw [hL];have Dy:0<=cell / (R.length:Int):=Wq hc (by omega);generalize cell / (R.length:Int)=c2 at Dy ⊢;dsimp only [aC]
 -- tails
 refine aG (fun f' H'=>Ex1 fun (ta:Rk)=>An3 (L2.Same H H') (H' ta=some (.lst ((eh.take 10).map V.str))) (f'=[some (.ref rl),some (.int c2),some (.int (i:Nat)),some (.str row),some (.ref ta),none,none,none,none])) (fun kk Bd=>?_) ?_
 · exact ⟨aj (by show 10<=1000000;decide),fun so B0=>Bd _ _ ⟨so,ad B0 _,ac,rfl⟩⟩
 rintro σ H1 ⟨ta,s1,e1,rfl⟩;refine aG (fun f' H'=>Ex1 fun (ta:Rk)=>An3 (L2.Same H H') (H' ta=some (.lst (eh.map V.str))) (f'=[some (.ref rl),some (.int c2),some (.int (i:Nat)),some (.str row),some (.ref ta),none,none,none,none])) (fun kk Bd=>?_) ?_
 · refine ⟨_,rfl,aj (by show 8<=1000000;decide),fun so B0=>?_⟩;exact ⟨ta,so,_,_,rfl,rfl,(ad B0 _) _ _ e1,ac,aj (by show 18<=1000000;decide),fun l3 AX=>Bd _ _ ⟨l3,s1.trans ((ad B0 _).trans (ad AX _)),ac,rfl⟩⟩
 rintro σ H1 ⟨ta,s1,e1,rfl⟩
 -- heads
 refine aG (fun f' H'=>Ex1 fun (ha:Rk)=>An3 (L2.Same H1 H') (H' ha=some (.lst ((da.take 9).map V.str))) (f'=[some (.ref rl),some (.int c2),some (.int (i:Nat)),some (.str row),some (.ref ta),some (.ref ha),none,none,none])) (fun kk Bd=>?_) ?_
 · exact ⟨aj (by show 9<=1000000;decide),fun so B0=>Bd _ _ ⟨so,ad B0 _,ac,rfl⟩⟩
 rintro σ H2 ⟨ha,s2,e2,rfl⟩;refine aG (fun f' H'=>Ex1 fun (ha:Rk)=>An3 (L2.Same H1 H') (H' ha=some (.lst ((da.take 15).map V.str))) (f'=[some (.ref rl),some (.int c2),some (.int (i:Nat)),some (.str row),some (.ref ta),some (.ref ha),none,none,none])) (fun kk Bd=>?_) ?_
 · refine ⟨_,rfl,aj (by show 6<=1000000;decide),fun so B0=>?_⟩;exact ⟨ha,so,_,_,rfl,rfl,(ad B0 _) _ _ e2,ac,aj (by show 15<=1000000;decide),fun l3 AX=>Bd _ _ ⟨l3,s2.trans ((ad B0 _).trans (ad AX _)),ac,rfl⟩⟩
 rintro σ H2 ⟨ha,s2,e2,rfl⟩;refine aG (fun f' H'=>Ex1 fun (ha:Rk)=>An3 (L2.Same H1 H') (H' ha=some (.lst ((da.take 22).map V.str))) (f'=[some (.ref rl),some (.int c2),some (.int (i:Nat)),some (.str row),some (.ref ta),some (.ref ha),none,none,none])) (fun kk Bd=>?_) ?_
 · refine ⟨_,rfl,aj (by show 7<=1000000;decide),fun so B0=>?_⟩;exact ⟨ha,so,_,_,rfl,rfl,(ad B0 _) _ _ e2,ac,aj (by show 22<=1000000;decide),fun l3 AX=>Bd _ _ ⟨l3,s2.trans ((ad B0 _).trans (ad AX _)),ac,rfl⟩⟩
 rintro σ H2 ⟨ha,s2,e2,rfl⟩;refine aG (fun f' H'=>Ex1 fun (ha:Rk)=>An3 (L2.Same H1 H') (H' ha=some (.lst ((da.take 27).map V.str))) (f'=[some (.ref rl),some (.int c2),some (.int (i:Nat)),some (.str row),some (.ref ta),some (.ref ha),none,none,none])) (fun kk Bd=>?_) ?_
 · refine ⟨_,rfl,aj (by show 5<=1000000;decide),fun so B0=>?_⟩;exact ⟨ha,so,_,_,rfl,rfl,(ad B0 _) _ _ e2,ac,aj (by show 27<=1000000;decide),fun l3 AX=>Bd _ _ ⟨l3,s2.trans ((ad B0 _).trans (ad AX _)),ac,rfl⟩⟩
 rintro σ H2 ⟨ha,s2,e2,rfl⟩;refine aG (fun f' H'=>Ex1 fun (ha:Rk)=>An3 (L2.Same H1 H') (H' ha=some (.lst ((da.take 33).map V.str))) (f'=[some (.ref rl),some (.int c2),some (.int (i:Nat)),some (.str row),some (.ref ta),some (.ref ha),none,none,none])) (fun kk Bd=>?_) ?_
 · refine ⟨_,rfl,aj (by show 6<=1000000;decide),fun so B0=>?_⟩;exact ⟨ha,so,_,_,rfl,rfl,(ad B0 _) _ _ e2,ac,aj (by show 33<=1000000;decide),fun l3 AX=>Bd _ _ ⟨l3,s2.trans ((ad B0 _).trans (ad AX _)),ac,rfl⟩⟩
 rintro σ H2 ⟨ha,s2,e2,rfl⟩;refine aG (fun f' H'=>Ex1 fun (ha:Rk)=>An3 (L2.Same H1 H') (H' ha=some (.lst (da.map V.str))) (f'=[some (.ref rl),some (.int c2),some (.int (i:Nat)),some (.str row),some (.ref ta),some (.ref ha),none,none,none])) (fun kk Bd=>?_) ?_
 · refine ⟨_,rfl,aj (by show 5<=1000000;decide),fun so B0=>?_⟩;exact ⟨ha,so,_,_,rfl,rfl,(ad B0 _) _ _ e2,ac,aj (by show 38<=1000000;decide),fun l3 AX=>Bd _ _ ⟨l3,s2.trans ((ad B0 _).trans (ad AX _)),ac,rfl⟩⟩
 rintro σ H2 ⟨ha,s2,e2,rfl⟩;have B3:=s1.trans s2;have et:=s2 _ _ e1;have el:=B3 _ _ Jh
 -- rows[:at]+[x]+rows[at+1:]
 have fin:∀ {H3:Hp} {x:Rz},L2.Same H2 H3->wc R (R.take i++x::R.drop (i+1))->∀ l1,H3 l1=none->∀ l2,(upd H3 l1 (.lst ((R.map V.str).take i))) l2=none->∀ l3,(upd (upd H3 l1 (.lst ((R.map V.str).take i))) l2 (.lst [.str x])) l3=none->∀ l4,(upd (upd (upd H3 l1 (.lst ((R.map V.str).take i))) l2 (.lst [.str x])) l3 (.lst ((R.map V.str).take i++[.str x]))) l4=none->∀ l5,(upd (upd (upd (upd H3 l1 (.lst ((R.map V.str).take i))) l2 (.lst [.str x])) l3 (.lst ((R.map V.str).take i++[.str x]))) l4 (.lst ((R.map V.str).drop (i+1)))) l5=none->Q (.ref l5) (upd (upd (upd (upd (upd H3 l1 (.lst ((R.map V.str).take i))) l2 (.lst [.str x])) l3 (.lst ((R.map V.str).take i++[.str x]))) l4 (.lst ((R.map V.str).drop (i+1)))) l5 (.lst ((R.map V.str).take i++[.str x]++(R.map V.str).drop (i+1)))):=fun {H3 x} s3 ho l1 h1 l2 h2 l3 h3 l4 h4 l5 h5=>by
  refine q l5 _ _ (B3.trans (s3.trans ((ad h1 _).trans ((ad h2 _).trans ((ad h3 _).trans ((ad h4 _).trans (ad h5 _))))))) ?_ ho;rw [ac,RM,RC,UB,RB,UQ];rfl
 -- tails
 refine aG (fun f' H'=>An2 (H2=H') (f'=[some (.ref rl),some (.int c2),some (.int (i:Nat)),some (.str row),some (.ref ta),some (.ref ha),none,none,none])) (fun kk Bd=>?_) ?_
 · refine ⟨_,rfl,_,_,rfl,rfl,(by show (0:Int)<3;decide),rfl,_,rfl,?_⟩;refine cr (fun _=>?_) (fun _=>Bd _ _ ⟨rfl,rfl⟩);obtain ⟨o,ho,hm⟩:=uG (l:=eh) (c:=c2 / 3) (by decide);have D9:o.length<=10:=(show ∀ o∈eh,o.length<=10 by decide +kernel) o hm;refine ⟨_,rfl,_,rfl,_,rfl,_,_,rfl,rfl,⟨by decide,by decide⟩,_,rfl,ta,_,rfl,.inl (SqL.of et),_,_,rfl,rfl,(by show (0:Int)<18;decide),ta,_,_,.str o,rfl,rfl,SqL.of et,ho,_,_,rfl,rfl,aj (by omega),?_⟩;dsimp only [aC];refine ⟨_,rfl,_,rfl,_,rfl,rl,_,rfl,SqL.of el,fun l1 AA=>?_⟩;rw [dj (by rw [BW];omega)];refine ⟨_,rfl,aj (by show 1<=1000000;decide),fun l2 AG=>?_⟩;refine ⟨l1,l2,_,_,rfl,rfl,(ad AG _) _ _ ac,ac,aj (by rw [Rx,BW];show _+1<=1000000;omega),fun l3 AX=>?_⟩;refine ⟨_,rfl,_,rfl,_,_,rfl,rfl,_,rfl,rl,_,rfl,SqL.of ((ad AX _) _ _ ((ad AG _) _ _ ((ad AA _) _ _ el))),fun l4 BV=>?_⟩;rw [show ((i:Nat):Int)+1=((i+1:Nat):Int) by omega,cH];refine ⟨l3,l4,_,_,rfl,rfl,(ad BV _) _ _ ac,ac,aj (by rw [Rm,Rx,RJ,BW];show _+1+_<=1000000;omega),fun l5 Dt=>?_⟩;exact fin (.refl _) ⟨i,row,Ae,.inl ⟨o,hm,rfl⟩⟩ l1 AA l2 AG l3 AX l4 BV l5 Dt
 rintro σ _ ⟨rfl,rfl⟩
 -- heads
 refine aG (fun f' H'=>An2 (H2=H') (f'=[some (.ref rl),some (.int c2),some (.int (i:Nat)),some (.str row),some (.ref ta),some (.ref ha),none,none,none])) (fun kk Bd=>?_) ?_
 · refine ⟨_,rfl,_,_,rfl,rfl,(by show (0:Int)<3;decide),rfl,_,rfl,?_⟩;refine cr (fun _=>?_) (fun _=>Bd _ _ ⟨rfl,rfl⟩);obtain ⟨o,ho,hm⟩:=uG (l:=da) (c:=c2 / 3) (by decide);refine ⟨_,rfl,_,rfl,_,_,rfl,rfl,⟨by decide,by decide⟩,_,rfl,ha,_,rfl,.inl (SqL.of e2),_,_,rfl,rfl,(by show (0:Int)<38;decide),ha,_,_,.str o,rfl,rfl,SqL.of e2,ho,?_⟩;dsimp only [aC];refine ⟨_,rfl,_,rfl,_,rfl,rl,_,rfl,SqL.of el,fun l1 AA=>?_⟩;rw [dj (by rw [BW];omega)];refine ⟨_,rfl,aj (by show 1<=1000000;decide),fun l2 AG=>?_⟩;refine ⟨l1,l2,_,_,rfl,rfl,(ad AG _) _ _ ac,ac,aj (by rw [Rx,BW];show _+1<=1000000;omega),fun l3 AX=>?_⟩;refine ⟨_,rfl,_,rfl,_,_,rfl,rfl,_,rfl,rl,_,rfl,SqL.of ((ad AX _) _ _ ((ad AG _) _ _ ((ad AA _) _ _ el))),fun l4 BV=>?_⟩;rw [show ((i:Nat):Int)+1=((i+1:Nat):Int) by omega,cH];refine ⟨l3,l4,_,_,rfl,rfl,(ad BV _) _ _ ac,ac,aj (by rw [Rm,Rx,RJ,BW];show _+1+_<=1000000;omega),fun l5 Dt=>?_⟩;exact fin (.refl _) ⟨i,row,Ae,.inr (.inl ⟨o,hm,rfl⟩)⟩ l1 AA l2 AG l3 AX l4 BV l5 Dt
 rintro σ _ ⟨rfl,rfl⟩
 -- way
 refine ⟨_,rfl,_,_,rfl,rfl,⟨by decide,by decide⟩,_,_,rfl,rfl,(by show (0:Int)<5;decide),?_⟩;generalize c2 / 3%5=way;dsimp only [aC]
 -- taken out
 refine aG (fun f' H'=>An2 (H2=H') (f'=[some (.ref rl),some (.int c2),some (.int (i:Nat)),some (.str row),some (.ref ta),some (.ref ha),none,some (.int way),none])) (fun kk Bd=>?_) ?_
 · refine ⟨_,rfl,rfl,_,rfl,?_⟩;refine cr (fun _=>?_) (fun _=>Bd _ _ ⟨rfl,rfl⟩);refine ⟨_,rfl,_,rfl,_,rfl,rl,_,rfl,SqL.of el,fun l1 AA=>?_⟩;rw [dj (by rw [BW];omega)];refine ⟨_,rfl,_,rfl,_,_,rfl,rfl,_,rfl,rl,_,rfl,SqL.of ((ad AA _) _ _ el),fun l2 AG=>?_⟩;rw [show ((i:Nat):Int)+1=((i+1:Nat):Int) by omega,cH];refine ⟨l1,l2,_,_,rfl,rfl,(ad AG _) _ _ ac,ac,aj (by rw [Rx,RJ,BW];omega),fun l3 AX=>?_⟩;refine q l3 (R.take i++R.drop (i+1)) _ (B3.trans ((ad AA _).trans ((ad AG _).trans (ad AX _)))) ?_ ⟨i,row,Ae,.inr (.inr (.inl rfl))⟩;rw [ac,RC,UB,UQ]
 rintro σ _ ⟨rfl,rfl⟩
 -- twice
 refine aG (fun f' H'=>An2 (H2=H') (f'=[some (.ref rl),some (.int c2),some (.int (i:Nat)),some (.str row),some (.ref ta),some (.ref ha),none,some (.int way),none])) (fun kk Bd=>?_) ?_
 · refine ⟨_,rfl,rfl,_,rfl,?_⟩;refine cr (fun _=>?_) (fun _=>Bd _ _ ⟨rfl,rfl⟩);refine ⟨_,rfl,_,rfl,_,rfl,rl,_,rfl,SqL.of el,fun l1 AA=>?_⟩;rw [dj (by rw [BW];omega)];refine ⟨_,rfl,aj (by show 1<=1000000;decide),fun l2 AG=>?_⟩;refine ⟨l1,l2,_,_,rfl,rfl,(ad AG _) _ _ ac,ac,aj (by rw [Rx,BW];show _+1<=1000000;omega),fun l3 AX=>?_⟩;refine ⟨_,rfl,_,rfl,_,rfl,rl,_,rfl,SqL.of ((ad AX _) _ _ ((ad AG _) _ _ ((ad AA _) _ _ el))),fun l4 BV=>?_⟩;rw [cH];refine ⟨l3,l4,_,_,rfl,rfl,(ad BV _) _ _ ac,ac,aj (by rw [Rm,Rx,RJ,BW];show _+1+_<=1000000;omega),fun l5 Dt=>?_⟩;refine q l5 (R.take i++row::R.drop i) _ (B3.trans ((ad AA _).trans ((ad AG _).trans ((ad AX _).trans ((ad BV _).trans (ad Dt _)))))) ?_ ⟨i,row,Ae,.inr (.inr (.inr (.inl rfl)))⟩;rw [ac,RM,RC,UB,RB,UQ];rfl
 rintro σ _ ⟨rfl,rfl⟩
 -- Dj
 refine aG (fun f' H'=>An2 (H2=H') (f'=[some (.ref rl),some (.int c2),some (.int (i:Nat)),some (.str row),some (.ref ta),some (.ref ha),none,some (.int way),none])) (fun kk Bd=>?_) ?_
 · refine ⟨_,rfl,rfl,_,rfl,?_⟩;refine cr (fun _=>?_) (fun _=>Bd _ _ ⟨rfl,rfl⟩);refine ⟨_,rfl,_,rfl,_,rfl,rl,_,rfl,SqL.of el,fun l1 AA=>?_⟩;rw [dj (by rw [BW];omega)];refine ⟨_,rfl,_,rfl,_,_,rfl,rfl,_,rfl,_,rfl,_,_,rfl,rfl,_,rfl,rl,_,rfl,SqL.of ((ad AA _) _ _ el),fun l2 AG=>?_⟩;rw [show ((i:Nat):Int)+1=((i+1:Nat):Int) by omega,show ((i:Nat):Int)+2=((i+1+1:Nat):Int) by omega,uj (by rw [BW];omega)];refine ⟨l1,l2,_,_,rfl,rfl,(ad AG _) _ _ ac,ac,aj (by rw [Rx,Rx,RJ,BW];omega),fun l3 AX=>?_⟩;dsimp only [aC];have s3:=(ad AA (.lst ((R.map V.str).take i))).trans ((ad AG (.lst (((R.map V.str).drop (i+1)).take 1))).trans (ad AX (.lst ((R.map V.str).take i++((R.map V.str).drop (i+1)).take 1))));have e3:(upd (upd (upd H2 l1 (.lst ((R.map V.str).take i))) l2 (.lst (((R.map V.str).drop (i+1)).take 1))) l3 (.lst ((R.map V.str).take i++((R.map V.str).drop (i+1)).take 1))) l3=some (.lst ((R.map V.str).take i++((R.map V.str).drop (i+1)).take 1)):=ac;generalize (upd (upd (upd H2 l1 (.lst ((R.map V.str).take i))) l2 (.lst (((R.map V.str).drop (i+1)).take 1))) l3 (.lst ((R.map V.str).take i++((R.map V.str).drop (i+1)).take 1)))=H3 at s3 e3 ⊢;refine ⟨_,rfl,_,rfl,aj (by show 1<=1000000;decide),fun l4 BV=>?_⟩;refine ⟨l3,l4,_,_,rfl,rfl,(ad BV _) _ _ e3,ac,aj (by rw [Rm,Rx,Rx,RJ,BW];show _+_+1<=1000000;omega),fun l5 Dt=>?_⟩;refine ⟨_,rfl,_,rfl,_,_,rfl,rfl,_,rfl,rl,_,rfl,SqL.of ((ad Dt _) _ _ ((ad BV _) _ _ (s3 _ _ el))),fun l6 Nr=>?_⟩;rw [show ((i:Nat):Int)+2=((i+2:Nat):Int) by omega,cH];refine ⟨l5,l6,_,_,rfl,rfl,(ad Nr _) _ _ ac,ac,aj (by rw [Rm,Rm,Rx,Rx,RJ,RJ,BW];show _+_+1+_<=1000000;omega),fun l7 Qv=>?_⟩;refine q l7 (R.take i++((R.drop (i+1)).take 1++row::R.drop (i+2))) _ (B3.trans (s3.trans ((ad BV _).trans ((ad Dt _).trans ((ad Nr _).trans (ad Qv _)))))) ?_ ⟨i,row,Ae,.inr (.inr (.inr (.inr (.inl rfl))))⟩;rw [ac,RM,RM,RC,RC,UB,UB,UQ,RB,UQ];rfl
 rintro σ _ ⟨rfl,rfl⟩
 -- an empty row
 refine aG (fun f' H'=>An2 (H2=H') (f'=[some (.ref rl),some (.int c2),some (.int (i:Nat)),some (.str row),some (.ref ta),some (.ref ha),none,some (.int way),none])) (fun kk Bd=>?_) ?_
 · refine ⟨_,rfl,rfl,_,rfl,?_⟩;refine cr (fun _=>?_) (fun _=>Bd _ _ ⟨rfl,rfl⟩);refine ⟨_,rfl,_,rfl,_,_,rfl,rfl,_,rfl,rl,_,rfl,SqL.of el,fun l1 AA=>?_⟩;rw [show ((i:Nat):Int)+1=((i+1:Nat):Int) by omega,dj (by rw [BW];omega)];refine ⟨aj (by show 1<=1000000;decide),fun l2 AG=>?_⟩;refine ⟨l1,l2,_,_,rfl,rfl,(ad AG _) _ _ ac,ac,aj (by rw [Rx,BW];show _+1<=1000000;omega),fun l3 AX=>?_⟩;refine ⟨_,rfl,_,rfl,_,_,rfl,rfl,_,rfl,rl,_,rfl,SqL.of ((ad AX _) _ _ ((ad AG _) _ _ ((ad AA _) _ _ el))),fun l4 BV=>?_⟩;rw [show ((i:Nat):Int)+1=((i+1:Nat):Int) by omega,cH];refine ⟨l3,l4,_,_,rfl,rfl,(ad BV _) _ _ ac,ac,aj (by rw [Rm,Rx,RJ,BW];show _+1+_<=1000000;omega),fun l5 Dt=>?_⟩;refine q l5 (R.take (i+1)++Rc ""::R.drop (i+1)) _ (B3.trans ((ad AA _).trans ((ad AG _).trans ((ad AX _).trans ((ad BV _).trans (ad Dt _)))))) ?_ ⟨i,row,Ae,.inr (.inr (.inr (.inr (.inr (.inl rfl)))))⟩;rw [ac,RM,RC,UB,RB,UQ];rfl
 rintro σ _ ⟨rfl,rfl⟩
 -- C3 first blank
 refine ⟨_,rfl,row,rfl,by omega,?_⟩;dsimp only [aC,List.set];refine ⟨_,rfl,_,rfl,_,rfl,rl,_,rfl,SqL.of el,fun l1 AA=>?_⟩;rw [dj (by rw [BW];omega)];refine ⟨_,rfl,aj (by show 1<=1000000;decide),fun l2 AG=>?_⟩;refine ⟨l1,l2,_,_,rfl,rfl,(ad AG _) _ _ ac,ac,aj (by rw [Rx,BW];show _+1<=1000000;omega),fun l3 AX=>?_⟩;refine ⟨_,rfl,_,rfl,_,_,rfl,rfl,_,rfl,rl,_,rfl,SqL.of ((ad AX _) _ _ ((ad AG _) _ _ ((ad AA _) _ _ el))),fun l4 BV=>?_⟩;rw [show ((i:Nat):Int)+1=((i+1:Nat):Int) by omega,cH];refine ⟨l3,l4,_,_,rfl,rfl,(ad BV _) _ _ ac,ac,aj (by rw [Rm,Rx,RJ,BW];show _+1+_<=1000000;omega),fun l5 Dt=>?_⟩;exact fin (.refl _) ⟨i,row,Ae,.inr (.inr (.inr (.inr (.inr (.inr ⟨_,aB _,rfl⟩)))))⟩ l1 AA l2 AG l3 AX l4 BV l5 Dt
theorem uz {k:Nat} {A:Sf} (hr:L2.Room k A):A.units+3<WA:=by
 have:=hr.units;omega
theorem qy:∀ {ls:List (List Nat)},ls≠[]->(∀ l∈ls,∀ c∈l,c≠32)->aw 32 (jn ls)=ls
 | [],h,_=>absurd rfl h
 | [x],_,h=>by rw [jn,b9 32 x (h x (Rr ..))]
 | x::y::r,_,h=>by
   rw [jn,dL,b9 32 x (h x (Rr ..)),qy (by simp) fun l hl=>h l (Rp _ hl)];rfl
theorem Dr.many {ins outs:List (Rz×Int)} {head:Th} {rows:List (List Th)} (D:Dr ins outs head rows):(Ta (aI (Rc "in") ins) (Rc " ")).length=ins.length+1:=by
 rw [show Rc " "=⟨#[32]⟩ by decide +kernel,gy _ (by decide),Rf];show (aw 32 (sL (aI (Rc "in") ins))).length=_;rw [show sL (aI (Rc "in") ins)=jn ((Rc "in"::ins.map bj).map sL) from dA _,qy (by simp),Rf,Rh,Rf];intro l hl c hc;obtain ⟨w,hw,rfl⟩:=SQ.mp hl
 have hu:Uw w:=by
  rcases RA.mp hw with rfl | hw
  · exact cS.1
  · obtain ⟨k,hk,rfl⟩:=SQ.mp hw;exact kQ (D.gi k hk)
 have:=(mh hu).1 c hc;omega
inductive ie (vs:List V) (H:Hp) (Q:VK) (_E:XK):Prop
 | mk (rl ol:Rk) (ins outs:List (Rz×Int)) (head:Th) (rows:List (List Th)) (odd:List Rz) (Aq:vs=[.ref rl,.ref ol]) (Ar:H rl=some (.lst ((bf ins outs head rows).map V.str))) (AB:H ol=some (.lst (odd.map V.str))) (AQ:Dr ins outs head rows) (Bq:odd.length<=2000) (Cb:∀ H',L2.Same H H'->Q (.bl (ma (bf ins outs head rows) ins.length odd)) H'):ie  vs H Q _E
def oi:Sp:=ie
set_option maxHeartbeats 4000000 in
theorem oF:FnOk P w K mg base CX0 1 T.g__law_good.f T.g__law_good.d ["rows","odd"] oi:=by
 refine T.g__law_good.F.ok ff (fun vs H Q E h=>?_) (fun Al A outer s H vs Q E hr h=>?_)
 · obtain ⟨rl,ol,ins,outs,head,rows,odd,rfl,_⟩:=h;rfl
 obtain ⟨rl,ol,ins,outs,head,rows,odd,rfl,er,eo,D,D9,q⟩:=h
 refine ⟨_,(af (aN (au (wb (uz hr)) (pv 1) (pv 0) (ay _)) (ai (av dv)) aE)
  (af (ao (i:=2) ff.nd rfl (RH rfl) (ak jz (aq am rfl T.n_len RQ (aa (cb Sr Vs Vr iW (aA aJ (pv 0) ag (fun _ _=>rfl)) (aa ax ae)) ae)) ag))
  (af (ao (i:=3) ff.nd rfl (RH rfl) (aq am rfl T.n_len RQ (aa (pv 1) ae)))
  (af (aN (PW.pt (eR (au gq (pv 3) ag (ay _)) (eR (au yV (pv 3) (aq am rfl T.n_len RQ (aa (pv 0) ae)) (ay _)) (eE (au (wu (uz hr)) (pv 1) (aK bp (pv 0) bd (aO (pv 3))) (ay _)))))) (ai (av dv)) aE)
  (ai (av (cy cq (ak aZ (ak jz (pv 3) ag) (pv 2)) ag (ay _)))))))),?_⟩
 try dsimp only [AN,Aj]
 have B8:=D.bl;have hf:=D.few;have h8:=D.i8;have LZ:=D.n0;have hm:=Nat.mul_le_mul hf h8;have CM:(bf ins outs head rows)[0]?=some (aI (Rc "in") ins):=rfl;have Nt:(aI (Rc "in") ins).length<=1000:=f9 D.gi (by decide +kernel) h8;refine ⟨_,rfl,_,rfl,ol,rl,odd,bf ins outs head rows,rfl,rfl,SqL.of eo,SqL.of er,_,rfl,?_⟩;have Dl:ma (bf ins outs head rows) ins.length odd=(decide (odd=bf ins outs head rows) || (decide (3<=odd.length/\odd.length<(bf ins outs head rows).length/\odd=(bf ins outs head rows).take odd.length) && decide ((odd.length - 3)%ins.length=0))):=rfl;by_cases c1:odd=bf ins outs head rows
 · rw [decide_eq_true c1];refine bC ?_;have:=q H (.refl _);rw [Dl,decide_eq_true c1] at this;exact this
 rw [decide_eq_false c1];rw [decide_eq_false c1,Bool.false_or] at Dl;refine bL ?_;dsimp only [dR];refine ⟨_,rfl,rl,_,0,.str (aI (Rc "in") ins),rfl,rfl,SqL.of er,at_nonneg (by decide) (by show ((bf ins outs head rows).map V.str)[0]?=_;rw [Rw,CM];rfl),rfl,_,_,rfl,rfl,by decide +kernel,by omega,fun p hp=>?_⟩;have s1:L2.Same H (upd H p (.lst ((Ta (aI (Rc "in") ins) (Rc " ")).map V.str))):=ad hp _;have e1:(upd H p (.lst ((Ta (aI (Rc "in") ins) (Rc " ")).map V.str))) p=some (.lst ((Ta (aI (Rc "in") ins) (Rc " ")).map V.str)):=ac;generalize (upd H p (.lst ((Ta (aI (Rc "in") ins) (Rc " ")).map V.str)))=H1 at s1 e1 ⊢;refine ⟨p,_,rfl,.inl (SqL.of e1),_,_,rfl,rfl,?_⟩;rw [Rf,D.many,show (((ins.length+1:Nat):Int)) - 1=((ins.length:Nat):Int) by omega];dsimp only [aC];refine ⟨_,rfl,ol,_,rfl,.inl (SqL.of (s1 _ _ eo)),?_⟩;rw [Rf];dsimp only [aC]
 have no:∀ {Hx:Hp},L2.Same H1 Hx->(decide (3<=odd.length/\odd.length<(bf ins outs head rows).length/\odd=(bf ins outs head rows).take odd.length))=false->Q (.bl false) Hx:=fun {Hx} sx h=>by
  have:=q Hx (s1.trans sx);rw [Dl,h,WI] at this;exact this
 refine aG (fun f' H'=>An3 ((3<=odd.length/\odd.length<(bf ins outs head rows).length/\odd=(bf ins outs head rows).take odd.length)) (L2.Same H1 H') (f'=[some (.ref rl),some (.ref ol),some (.int (ins.length:Nat)),some (.int (odd.length:Nat))])) (fun kk Bd=>?_) ?_
 · refine ⟨_,rfl,_,_,rfl,rfl,_,rfl,?_⟩;by_cases c2:odd.length<3
   · rw [decide_eq_true (show ((odd.length:Nat):Int)<3 by omega)];refine bC (bC (no (.refl _) (decide_eq_false fun z=>by omega)))
   rw [decide_eq_false (show ¬ ((odd.length:Nat):Int)<3 by omega)];refine bL ?_;refine ⟨_,rfl,_,rfl,rl,_,rfl,.inl (SqL.of (s1 _ _ er)),_,_,rfl,rfl,_,rfl,?_⟩;rw [Rf];by_cases c3:(bf ins outs head rows).length<=odd.length
   · rw [decide_eq_true (show (((bf ins outs head rows).length:Nat):Int)<=((odd.length:Nat):Int) by omega)];refine bC (bC (no (.refl _) (decide_eq_false fun z=>by omega)))
   rw [decide_eq_false (show ¬ (((bf ins outs head rows).length:Nat):Int)<=((odd.length:Nat):Int) by omega)];refine bL ?_;refine ⟨_,rfl,_,rfl,_,rfl,_,rfl,rl,_,rfl,SqL.of (s1 _ _ er),fun l1 AA=>?_⟩;rw [dj (by rw [Rf];omega),<- UB];refine ⟨ol,l1,odd,(bf ins outs head rows).take odd.length,rfl,rfl,SqL.of ((ad AA _) _ _ (s1 _ _ eo)),SqL.of ac,_,rfl,?_⟩;by_cases c4:odd=(bf ins outs head rows).take odd.length
   · rw [decide_eq_true c4];exact bL (Bd _ _ ⟨⟨by omega,by omega,c4⟩,ad AA _,rfl⟩)
   · rw [decide_eq_false c4];exact bC (no (ad AA _) (decide_eq_false fun z=>c4 z.2.2))
 rintro σ H2 ⟨hg,s2,rfl⟩;refine ⟨_,rfl,_,_,rfl,rfl,_,rfl,_,_,rfl,rfl,(by show (0:Int)<((ins.length:Nat):Int);omega),rfl,?_⟩;have:=q H2 (s1.trans s2);rw [Dl,decide_eq_true hg,UC] at this
 have e:decide ((((odd.length:Nat):Int) - 3)%((ins.length:Nat):Int)=0)=decide ((odd.length - 3)%ins.length=0):=by
  have h3:=hg.1;rw [show ((odd.length:Nat):Int) - 3=((odd.length - 3:Nat):Int) by omega];refine decide_eq_decide.mpr ?_;rw [<- Int.natCast_emod];exact Int.natCast_eq_zero
 have e2:decide (V.int ((((odd.length:Nat):Int) - 3)%((ins.length:Nat):Int))=V.int 0)=decide ((odd.length - 3)%ins.length=0):=by
  rw [<- e];exact decide_eq_decide.mpr ⟨fun z=>V.int.inj z,fun z=>by rw [z]⟩
 rw [e2];exact this
theorem HeadOf.uniq {ws:List Rz} {t u:Th} (h:HeadOf ws t) (h':HeadOf ws u):t=u:=by
 obtain ⟨r,e,h1,h2⟩:=h;refine hid fun ZZ kZ=>?_;obtain ⟨r',e',h3,h4⟩:=h';refine kZ ?_;rw [e] at e';have:r=r':=(RR e').2;subst this;exact sR h2 h4 (Ry (h1.symm.trans h3))
theorem se {ins:List (Rz×Int)} {WR:List (List Rz)} (Am:ins≠[]) {rows AZ:List (List Th)} (h:fe ins rows WR) (h':fe ins AZ WR):rows=AZ:=by
 have hn:0<ins.length:=SX.mpr Am;have hl:rows.length=AZ.length:=Nat.eq_of_mul_eq_mul_right hn (h.len.symm.trans h'.len);refine Vv fun s=>?_;by_cases hs:s<rows.length
 · obtain ⟨row,Ae⟩:∃ row,rows[s]?=some row:=⟨_,Rg hs⟩;obtain ⟨Bu,Bn⟩:∃ row,AZ[s]?=some row:=⟨_,Rg (by omega)⟩;rw [Ae,Bn];have l1:=h.row row (Ru Ae);have l2:=h'.row Bu (Ru Bn);congr 1;refine Vv fun j=>?_;by_cases hj:j<ins.length
   · refine hid fun ZZ kZ=>?_;obtain ⟨t,ht⟩:∃ t,row[j]?=some t:=⟨_,Rg (by omega)⟩;obtain ⟨t',CW⟩:∃ t,Bu[j]?=some t:=⟨_,Rg (by omega)⟩;obtain ⟨k,hk⟩:∃ k,ins[j]?=some k:=⟨_,Rg hj⟩;obtain ⟨ws,e1,r1,_⟩:=h.w s j row t k Ae ht hk;obtain ⟨De,e2,r2,_⟩:=h'.w s j Bu t' k Bn CW hk;refine kZ ?_;rw [e1] at e2;cases e2;rw [ht,CW,r1.uniq r2]
   · rw [SW (by omega),SW (by omega)]
 · rw [SW (by omega),SW (by omega)]
theorem nk {z:Rz} {ins outs Bv C2:List (Rz×Int)} {head head':Th} {rows AZ:List (List Th)}:cY z ins outs head rows->cY z Bv C2 head' AZ->ins=Bv/\outs=C2/\head=head'/\rows=AZ
 | ⟨r0,r1,r2,rest,e,h1,h2,h3,h4⟩,⟨K5,Du,K6,CY,e',BX,BE,IV,Nu⟩=>by
   have e2:=e.symm.trans e';have x0:=(RR e2).1;have x1:=(RR (RR e2).2).1;have x2:=(RR (RR (RR e2).2).2).1;have x3:=(RR (RR (RR e2).2).2).2;rw [<- x0] at BX;rw [<- x1] at BE;rw [<- x2] at IV;have ei:=KindsOf.uniq h1 BX;rw [<- x3,<- ei] at Nu
   have Am:ins≠[]:=by
    match h1 with
    | ⟨rs,_,Lv,hp⟩=>exact fun z=>Lv (R4.mp (by rw [R3 hp,z];rfl))
   exact ⟨ei,KindsOf.uniq h2 BE,h3.uniq IV,se Am h4 Nu⟩
inductive gQ (K:Ri) (vs:List V) (H:Hp) (Q:VK) (_E:XK):Prop
 | mk (z:Rz) (ins outs:List (Rz×Int)) (head:Th) (rows:List (List Th)) (Aq:vs=[.str z]) (Ar:ox z) (AB:cY z ins outs head rows) (AQ:aV ins=true) (Bq:aV outs=true) (Cb:ig ins outs head rows) (DF:∀ (r:Rk) (H':Hp),L2.Same H H'->Q (.ref r) H'):gQ K vs H Q _E
def o9 (K:Ri):Sp:=gQ K
def kA (K:Ri):Sp:=fun vs H Q _=>∃ z:Rz,vs=[.str z]/\ox z/\(∀ ins outs head rows,¬ cY z ins outs head rows)/\∀ H',L2.Same H H'->Q (.bl true) H'
theorem nX:FnOk P w K mg base CX0 8 T.g_read_book.f T.g_read_book.d ["text"] (o9 K) :=
 (g7 T).x0 fun vs H Q E h=>by
  obtain ⟨z,ins,outs,head,rows,rfl,hz,hb,gi,go,ok,q⟩:=h;refine ⟨z,rfl,hz,fun i o hd rs _ _ _ _ r H' s _=>q r H' s,fun i o hd rs BC AF H' s=>?_,fun i o hd rs BC _ _ AF H' s=>?_,fun AF H' s=>AF _ _ _ _ hb⟩
  · refine hid fun ZZ kZ=>?_;obtain ⟨e1,e2,e3,e4⟩:=nk hb BC;refine kZ ?_;rw [<- e1,<- e2] at AF;exact AF ⟨gi,go⟩
  · refine hid fun ZZ kZ=>?_;obtain ⟨e1,e2,e3,e4⟩:=nk hb BC;refine kZ ?_;rw [<- e1,<- e2,<- e3,<- e4] at AF;exact AF ok
theorem kx:FnOk P w K mg base CX0 9 T.g__law_refused.f T.g__law_refused.d ["text"] (kA K):=by
 refine T.g__law_refused.F.ok cg (fun vs H Q E h=>?_) (fun Al A outer s H vs Q E hr h=>?_)
 · obtain ⟨z,rfl,_⟩:=h;rfl
 obtain ⟨z,rfl,hz,AF,k⟩:=h
 refine ⟨_,(af (ao (i:=1) cg.nd rfl (RH rfl) (aW ae))
  (af (tN (Ch:=T.e_BookError) (i:=2) (tb:=fun R=>(uL (ux (gX K T.e_NoText T.e_NoKinds T.e_NoBook) [] R (bJ (cj 0) dP)))) (ts:=fun ea C=>(rN (qV (xc (bJ (tCB (tY K ea C) (bJ (cj 2) (bJ (tC (.ref T.e_NoText)) dP))) (bJ (tCB (tY K ea C) (bJ (cj 2) (bJ (tC (.ty "ValueError")) dP))) (bJ (tCB (tY K ea C) (bJ (cj 2) (bJ (tC (.ref T.e_NoKinds)) dP))) dP)))) (aC 1)) (qV (tOp (zk) (cj 1) (xc (bJ (tCB (tY K ea C) (bJ (cj 2) (bJ (tC (.ref T.e_NoTree)) dP))) (bJ (tCB (tY K ea C) (bJ (cj 2) (bJ (tC (.ref T.e_NoBook)) dP))) dP)))) (aC 1)))) (fun pins R=>(ai (bq (uQ (g7 T) (hr.mono (by first | decide | omega)) rfl T.g_read_book.m T.g_read_book.F.kp T.g_read_book.b .nil (aa (pv 0) ae))))) (fun ea oe C D4 hX=>(af (ao (i:=1) cg.nd rfl (RH rfl) (aW (aa (aq (gb eW D4 hX) rfl T.n_isinstance Sm (aa (pv 2) (aa (bW (v:=.ref T.e_NoText) rfl T.x_NoText rfl) ae))) (aa (aq (gb eW D4 hX) rfl T.n_isinstance Sm (aa (pv 2) (aa (fb (v:=.ty "ValueError") rfl T.n_ValueError PyProof.Rows.Boot.«ValueError» rfl) ae))) (aa (aq (gb eW D4 hX) rfl T.n_isinstance Sm (aa (pv 2) (aa (bW (v:=.ref T.e_NoKinds) rfl T.x_NoKinds rfl) ae))) ae)))))
  (ai (ao (i:=1) cg.nd rfl (RH rfl) (ak bU (pv 1) (aW (aa (aq (gb eW D4 hX) rfl T.n_isinstance Sm (aa (pv 2) (aa (bW (v:=.ref T.e_NoTree) rfl T.x_NoTree rfl) ae))) (aa (aq (gb eW D4 hX) rfl T.n_isinstance Sm (aa (pv 2) (aa (bW (v:=.ref T.e_NoBook) rfl T.x_NoBook rfl) ae))) ae)))))))) cg.nd rfl rfl rfl rfl rfl T.x_BookError)
  (ai (av (cy (wG (ir hr)) (pv 1) (aW (aa dv (aa dv (aa dv (aa dv (aa dv ae)))))) (ay _)))))),?_⟩
 try dsimp only [AN,Aj]
 refine ⟨aj (by show 0<=1000000;decide),fun sa Kq=>?_⟩;have s1:=ad Kq (.lst []);generalize upd H sa (.lst [])=H1 at s1 ⊢;dsimp only [aC,rN];refine tR (fun AV c H2=>An3 (AV=[some (.str z),some (.ref sa),none]) (c=.ref T.e_NoText) (L2.Same H1 H2)) (fun R' hR=>?_) ?_
 · exact ⟨_,rfl,z,rfl,hz,fun ins outs head rows hb=>(AF _ _ _ _ hb).elim,fun ins outs head rows hb=>(AF _ _ _ _ hb).elim,fun ins outs head rows hb=>(AF _ _ _ _ hb).elim,fun _ H2 s2=>hR _ _ _ ⟨rfl,rfl,s2⟩⟩
 · rintro AV c H2 ⟨rfl,rfl,s2⟩;refine ⟨_,rfl,⟨T.X_NoText,T.hit_NoText_BookError⟩,fun ea Q9=>?_⟩;refine ⟨_,rfl,_,_,rfl,T.kit_NoText_NoText,_,rfl,_,_,rfl,T.kit_NoText_ValueError,_,rfl,_,_,rfl,T.kit_NoText_NoKinds,aj (by show 3<=1000000;decide),fun la BD=>?_⟩;dsimp only [aC];refine ⟨_,rfl,_,rfl,_,_,rfl,T.kit_NoText_NoTree,_,rfl,_,_,rfl,T.kit_NoText_NoBook,aj (by show 2<=1000000;decide),fun lc Nv=>?_⟩;refine ⟨la,lc,_,_,rfl,rfl,(ad Nv _) _ _ ac,ac,aj (by show 5<=1000000;decide),fun ld Qw=>?_⟩;dsimp only [aC];refine ⟨_,rfl,aj (by show 5<=1000000;decide),fun lb J0=>?_⟩;refine ⟨ld,lb,[true,true,false,false,false],[true,true,false,false,false],rfl,rfl,SqL.of (ad J0 _ _ _ ac),SqL.of ac,?_⟩;exact k _ (s1.trans (s2.trans ((ad BD _).trans ((ad Nv _).trans ((ad Qw _).trans (ad J0 _))))))
theorem v2 {c:Nat}:∀ {l:List Nat},c∈L2.er1 32 l->c∈l
 | [],h=>by cases h
 | d::l,h=>by
   have h:c∈(if d=32 then l else d::L2.er1 32 l):=h;split at h
   · exact Rp _ h
   · rcases RA.mp h with rfl | h
     · exact Rr ..
     · exact Rp _ (v2 h)
theorem uS:∀ l:List Nat,(L2.er1 32 l).length<=l.length
 | []=>Rq _
 | d::l=>by
   show (if d=32 then l else d::L2.er1 32 l).length<=_;split
   · rw [Rh];omega
   · rw [Rh,Rh];have:=uS l;omega
def Fn (m:Nat) (r:Rz):Prop:=r.length<=m/\∀ c∈sL r,c≠10
theorem vP:∀ t∈eh,Fn 10 t:=by unfold Fn;decide +kernel
theorem vz:∀ t∈da,Fn 20 t:=by unfold Fn;decide +kernel
theorem xU {R odd:List Rz} (h:∀ r∈R,Fn 1500 r) (ho:wc R odd):(∀ r∈odd,Fn 1600 r)/\odd.length<=R.length+1/\R.length<=odd.length+1:=by
 refine hid fun ZZ kZ=>?_;obtain ⟨p,row,hp,ho⟩:=ho;refine kZ ?_;have Ae:=h row (Ru hp);have A9:=(Rv.mp hp).1;have up:∀ r∈R,Fn 1600 r:=fun r hr=>⟨SO (h r hr).1 (by decide),(h r hr).2⟩
 have mid:∀ {x:Rz},Fn 1600 x->(∀ r∈R.take p++x::R.drop (p+1),Fn 1600 r)/\(R.take p++x::R.drop (p+1)).length<=R.length+1/\R.length<=(R.take p++x::R.drop (p+1)).length+1:=fun {x} hx=>by
  refine ⟨fun r hr=>?_,by simp only [Rm,Rx,Rh,RJ];omega,by simp only [Rm,Rx,Rh,RJ];omega⟩;rcases RN.mp hr with hr | hr
  · exact up r (SU hr)
  rcases RA.mp hr with rfl | hr
  · exact hx
  · exact up r (Ti hr)
 rcases ho with ⟨t,ht,rfl⟩ | ⟨x,hx,rfl⟩ | rfl | rfl | rfl | rfl | ⟨r',Bp,rfl⟩
 · obtain ⟨t1,t2⟩:=vP t ht;refine mid ⟨by rw [RT];have:=Ae.1;omega,fun c hc=>?_⟩;rw [dw] at hc;rcases RN.mp hc with hc | hc
   · exact Ae.2 c hc
   · exact t2 c hc
 · obtain ⟨t1,t2⟩:=vz x hx;exact mid ⟨by omega,t2⟩
 · refine ⟨fun r hr=>?_,by simp only [Rm,Rx,RJ];omega,by simp only [Rm,Rx,RJ];omega⟩;rcases RN.mp hr with hr | hr
   · exact up r (SU hr)
   · exact up r (Ti hr)
 · refine ⟨fun r hr=>?_,by simp only [Rm,Rx,Rh,RJ];omega,by simp only [Rm,Rx,Rh,RJ];omega⟩;rcases RN.mp hr with hr | hr
   · exact up r (SU hr)
   rcases RA.mp hr with rfl | hr
   · exact up r (Ru hp)
   · exact up r (Ti hr)
 · refine ⟨fun r hr=>?_,by simp only [Rm,Rm,Rx,Rx,Rh,RJ,RJ];omega,by simp only [Rm,Rm,Rx,Rx,Rh,RJ,RJ];omega⟩;rcases RN.mp hr with hr | hr
   · exact up r (SU hr)
   rcases RN.mp hr with hr | hr
   · exact up r (Ti (SU hr))
   rcases RA.mp hr with rfl | hr
   · exact up r (Ru hp)
   · exact up r (Ti hr)
 · refine ⟨fun r hr=>?_,by simp only [Rm,Rx,Rh,RJ];omega,by simp only [Rm,Rx,Rh,RJ];omega⟩;rcases RN.mp hr with hr | hr
   · exact up r (SU hr)
   rcases RA.mp hr with rfl | hr
   · exact ⟨by decide +kernel,by decide +kernel⟩
   · exact up r (Ti hr)
 · refine mid ⟨?_,fun c hc=>Ae.2 c (v2 (by rw [<- Bp];exact hc))⟩;rw [<- dW,Bp];have:=uS (sL row);rw [dW] at this;have:=Ae.1;omega
theorem nK {L:List Rz} (Am:L≠[]) (hn:L.length<=100) (h:∀ r∈L,Fn 1600 r):aw 10 (sL (SK eT L))=L.map sL/\ox (SK eT L)/\(L.map (·.length)).sum+L.length * eT.length<=16777216:=by
 have e:aw 10 (sL (SK eT L))=L.map sL:=by
  rw [wX];refine pz (fun z=>Am (Vb.mp z)) fun l hl c hc=>?_;obtain ⟨r,hr,rfl⟩:=SQ.mp hl;exact (h r hr).2 c hc
 have Cs:∀ r∈aw 10 (sL (SK eT L)),r.length<=1600:=fun r hr=>by
  rw [e] at hr;obtain ⟨x,hx,rfl⟩:=SQ.mp hr;rw [dW];exact (h x hx).1
 have hle:∀ L:List (List Nat),(∀ r∈L,r.length<=1600)->(L.map fun p=>p.length+1).sum<=1601 * L.length:=fun L=>by
  induction L with
  | nil=>exact fun _=>Rq _
  | cons l L ih =>
    intro h;have h3:=h l (Rr ..);have h4:=ih fun m hm=>h m (Rp _ hm);rw [RB,Tj,Rh,Xi];omega
 have h5:=hle _ Cs;have h6:(aw 10 (sL (SK eT L))).length=L.length:=by rw [e,Rf]
 rw [gw,dW,h6] at h5;refine ⟨e,⟨by omega,fun r hr=>by have:=Cs r hr;omega,fun r hr=>by have:=Cs r (SU hr);omega,by omega⟩,?_⟩
 have Hs:∀ L:List Rz,(∀ r∈L,Fn 1600 r)->(L.map (·.length)).sum<=1600 * L.length:=fun L=>by
  induction L with
  | nil=>exact fun _=>Rq _
  | cons l L ih =>
    intro h;have h3:=(h l (Rr ..)).1;have h4:=ih fun m hm=>h m (Rp _ hm);rw [RB,Tj,Rh,Xi];omega
 have h7:=Hs L h;have h8:eT.length=1:=by decide +kernel
 rw [h8];omega
section
variable {ins outs:List (Rz×Int)} {head:Th} {rows:List (List Th)}
theorem sM {t:Th} (h:t.Rd) (hz:t.size<=121):(t.fill cu).show.length<=1340:=by
 have h1:=Th.show_le (t.fill cu) (vO (eO h));rw [jA] at h1;have:=T8 (8+3) hz;omega
theorem Dr.fn (D:Dr ins outs head rows):∀ r∈bf ins outs head rows,Fn 1500 r:=fun r hr=>by
 have kn:∀ {f:Rz} {ks:List (Rz×Int)},Uw f->f.length<=10->(∀ k∈ks,dO k)->ks.length<=8->Fn 1500 (aI f ks):=fun {f ks} hf Mh hk h8=>by
  refine ⟨by have:=f9 hk Mh h8;omega,fun c hc=>?_⟩;rw [show sL (aI f ks)=jn ((f::ks.map bj).map sL) from dA _] at hc;rcases um hc with rfl | ⟨l,hl,Bo⟩
  · decide
  · obtain ⟨x,hx,rfl⟩:=SQ.mp hl
    have hu:Uw x:=by
     rcases RA.mp hx with rfl | hx
     · exact hf
     · obtain ⟨k,Ds,rfl⟩:=SQ.mp hx;exact kQ (hk k Ds)
    have:=(mh hu).1 c Bo;omega
 obtain ⟨p,hp⟩:=Sv.mp hr
 match p with
 | 0=>cases hp;exact kn cS.1 (by decide +kernel) D.gi D.i8
 | 1=>cases hp;exact kn cS.2.1 (by decide +kernel) D.go D.o8
 | 2 =>
   cases hp;refine ⟨?_,fun c hc=>?_⟩
   · have:=sM D.hd.1 D.hd.2.2;unfold fU;rw [RT];show 5+_<=1500;omega
   · rw [iS] at hc;rcases RN.mp hc with hc | hc
     · have:=(mh cS.2.2.1).1 c hc;omega
     rcases RA.mp hc with rfl | hc
     · decide
     · have:=sC (eO D.hd.1) c hc;omega
 | j+3 =>
   refine hid fun ZZ kZ=>?_;obtain ⟨t,k,hk,rfl,t1,t2,hs,BY⟩:=D.ruleT hp;refine kZ ?_;have AE:0<=((j / ins.length:Nat):Int)/\((j / ins.length:Nat):Int)<1000:=⟨hs.1,by omega⟩;refine ⟨?_,fun c hc=>?_⟩
   · have l1:=sM t1 t2;have l2:=cJ AE;have l3:=(jJ BY.1).2.1;unfold BB.ruleT;rw [RT,RT,RT,RT,RT];show 5+(aU ((j / ins.length:Nat):Int)).length+1+k.1.length+1+(t.fill cu).show.length<=1500;omega
   · rw [gz] at hc;rcases RN.mp hc with hc | hc
     · have:=(mh cS.2.2.2).1 c hc;omega
     rcases RA.mp hc with rfl | hc
     · decide
     rcases RN.mp hc with hc | hc
     · have:=(cR AE).1 c hc;omega
     rcases RA.mp hc with rfl | hc
     · decide
     rcases RN.mp hc with hc | hc
     · have:=(cQ BY.1).1 c hc;omega
     rcases RA.mp hc with rfl | hc
     · decide
     · have:=sC (eO t1) c hc;omega
theorem uJ {t:Th} (h:t.Rd) (ht:t.tall<=4):i9 (pw (bw t.tx)) t:=by
 rw [sW,si (eO h),kI];exact nw.mpr ⟨rfl,xz (eO h),by omega⟩
theorem zD {t:Th} (h:t.Rd):bw t.tx≠[]:=fun z=>by
 have h1:pw (bw t.tx)=t.wP:=by rw [sW,si (eO h),kI]
 have ha:=ly (eO h);rw [<- h1,z] at ha;exact absurd ha (by decide +kernel)
theorem li {ks:List (Rz×Int)} (h:∀ k∈ks,dO k):So KdOf (ks.map bj) ks:=by
 induction ks with
 | nil=>exact .nil
 | cons k ks ih=>exact .cons ⟨rfl,h k (Rr ..)⟩ (ih fun x hx=>h x (Rp _ hx))
theorem Dr.book (D:Dr ins outs head rows) {z:Rz} (hz:aw 10 (sL z)=(bf ins outs head rows).map sL):cY z ins outs head rows:=by
 have e:bf ins outs head rows=aI (Rc "in") ins::aI (Rc "out") outs::fU head::gY BB.ruleT ins rows:=by
  unfold bf;rw [lO];rfl
 refine ⟨_,_,_,(gY BB.ruleT ins rows).map sL,by rw [hz,e];rfl,⟨ins.map bj,D.kinds cS.1 D.gi,fun z=>D.ine (Vb.mp z),li D.gi⟩,⟨outs.map bj,D.kinds cS.2.1 D.go,fun z=>D.one (Vb.mp z),li D.go⟩,⟨bw head.tx,by rw [iS,oh],uJ D.hd.1 D.hd.2.1⟩,?_⟩;refine ⟨by rw [Rf,Rf,jv D.rl],D.rl,fun s j row t k hs hj hk=>?_⟩;have hg:=nD (f:=BB.ruleT) D.rl hs hj hk;have Dn:=(Rv.mp hs).1;have hf:=D.few;obtain ⟨t1,t2,t3⟩:=(D.row row (Ru hs)).2 t (Ru hj);have AE:0<=((s:Nat):Int)/\((s:Nat):Int)<1000:=⟨by omega,by omega⟩;have BY:=D.gi k (Ru hk);refine ⟨bw (sL (BB.ruleT ((s:Nat):Int) k.1 t)),by rw [Rw,Rw,hg];rfl,⟨bw t.tx,by rw [gz,kN AE BY.1],zD t1,AE,uJ t1 t2⟩,by omega⟩
end
inductive sw (K:Ri) (vs:List V) (H:Hp) (Q:VK) (_E:XK):Prop
 | mk (a:Rk) (ns:List Int) (Aq:vs=[.ref a]) (Ar:SqL K H a (ns.map V.int)) (AB:ns.length<=63) (AQ:∀ H',Q (.bl true) H'):sw K vs H Q _E
def nY (K:Ri):Sp:=sw K
set_option maxHeartbeats 4000000 in
theorem yf:FnOk P w K mg base CX0 60 T.g_law.f T.g_law.d ["script"] (nY K):=by
 refine T.g_law.F.ok lT (fun vs H Q E h=>?_) (fun Al A outer s H vs Q E hr h=>?_)
 · obtain ⟨a,ns,rfl,_⟩:=h;rfl
 obtain ⟨a,ns,rfl,hS,Ej,k⟩:=h
 refine ⟨_,(af (ao (i:=1) lT.nd rfl (RH rfl) (pcF T.g__law_rows (oA T) hr (aa (pcF T.g__law_book (nT T) hr (aa (pv 0) (aa ag (aa ag ae)))) ae)))
  (af (bq (pcF T.g_read_book (nX T) hr (aa (cb Sr VA Vy kW ax (aa (pv 1) ae)) ae)))
  (af (cf Sz rfl (bO rfl T.n_range (aa ag ae)) (aD (i:=2) lT.nd rfl (RH rfl)) (af (ao (i:=3) lT.nd rfl (RH rfl) (ak aY (ak bo (pcF T.g__law_cell_at (bE T) hr (aa (pv 0) (aa (pv 2) ae))) ag) (pcF T.g__law_cell_at (bE T) hr (aa (pv 0) (aa (ak aY ag (pv 2)) ae)))))
  (af (ao (i:=4) lT.nd rfl (RH rfl) (pcF T.g__law_odd (pI T) hr (aa (pv 1) (aa (ak aY (pv 3) (pv 2)) ae))))
  (ai (aN (PW.pt (pc (cG (ba (pcF T.g__law_good (oF T) hr (aa (pv 1) (aa (pv 4) ae))) (fun _=>rfl))) (kL (cG (ba (pcF T.g__law_refused (kx T) hr (aa (cb Sr VA Vy kW ax (aa (pv 4) ae)) ae)) (fun _=>rfl)))))) (ai (av dv)) aE)))))
  (ai (av dv))))),?_⟩
 try dsimp only [AN,Aj]
 refine ⟨_,rfl,a,ns,rfl,hS,Ej,fun b ins outs head rows H1 s1 bk B=>?_⟩;have D:=zP B;have B8:=D.bl;have hmul:=Nat.mul_le_mul D.few D.i8;refine ⟨b,ins,outs,head,rows,rfl,bk,D.show,fun rr H2 s2 e2=>?_⟩;dsimp only [aC];have EA:=D.fn;have Am:bf ins outs head rows≠[]:=fun z=>by rw [z] at B8;cases B8
 obtain ⟨t1,t2,t3⟩:=nK Am (by omega) fun r hr=>⟨SO (EA r hr).1 (by decide),(EA r hr).2⟩;refine ⟨rfl,_,rfl,eT,rr,bf ins outs head rows,rfl,rfl,SqL.of e2,t3,_,ins,outs,head,rows,rfl,t2,D.book t1,D.ki,D.ko,D.ok,fun br H3 s3=>?_⟩;have Qx:=s1.trans (s2.trans s3);have e3:=s3 _ _ e2;refine ⟨3,rfl,by decide,by decide,?_⟩;refine b8 (fun i σ Hx=>Ex3 fun c3 c4 c5=>An2 (σ=[some (.ref a),some (.ref rr),c3,c4,c5]) (L2.Same H3 Hx)) ⟨none,none,none,rfl,.refl _⟩ ?_ (fun σ Hx _=>k Hx);rintro i σ Hx hi ⟨c3,c4,c5,rfl,sx⟩;dsimp only [aC];have Nw:=Qx.trans sx
 -- cell
 refine aG (fun f' H'=>Ex1 fun (cell:Int)=>An3 (0<=cell) (Hx=H') (f'=[some (.ref a),some (.ref rr),some (.int (0+(i:Int))),some (.int cell),c5])) (fun kk hk=>?_) ?_
 · have c1:=gu ns (0+(i:Int));have c2:=gu ns (3+(0+(i:Int)));refine ⟨_,rfl,_,rfl,a,ns,0+(i:Int),rfl,Nw.seq hS,by omega,_,_,rfl,rfl,⟨by decide,by decide⟩,_,rfl,_,rfl,_,_,rfl,rfl,a,ns,3+(0+(i:Int)),rfl,Nw.seq hS,by omega,_,_,rfl,rfl,hk _ _ ⟨_,?_,rfl,rfl⟩⟩;have c3:0<=cellAt ns (0+(i:Int)) / 7:=Wq c1 (by decide);omega
 rintro σ Ra ⟨cell,Rb,rfl,rfl⟩
 -- odd
 refine ⟨_,rfl,_,rfl,_,rfl,_,_,rfl,rfl,rr,bf ins outs head rows,_,rfl,sx _ _ e3,Am,by omega,(fun r hr=>by have:=(EA r hr).1;omega),by omega,fun Ny odd H4 s4 eo HM=>?_⟩;dsimp only [aC];obtain ⟨o1,o2,o3⟩:=xU EA HM;refine ⟨_,rfl,_,rfl,rr,Ny,ins,outs,head,rows,odd,rfl,(sx.trans s4) _ _ e3,eo,D,by omega,fun H5 s5=>⟨_,rfl,?_⟩⟩;have Nz:=(sx.trans s4).trans s5;by_cases hg:ma (bf ins outs head rows) ins.length odd=true
 · rw [hg];exact bL (bL ⟨_,_,_,rfl,Nz⟩)
 · have Qy:ma (bf ins outs head rows) ins.length odd=false:=by simpa using hg
   rw [Qy];refine bC ?_;obtain ⟨z1,z2,z3⟩:=nK (L:=odd) (fun z=>by rw [z] at o3;rw [B8] at o3;simp at o3) (by omega) o1;refine ⟨rfl,_,rfl,eT,Ny,odd,rfl,rfl,SqL.of (s5 _ _ eo),z3,_,rfl,z2,fun i' o' h' r' hb=>hg (D.odd HM z1 hb),fun H6 s6=>⟨_,rfl,?_⟩⟩;exact bL ⟨_,_,_,rfl,Nz.trans s6⟩
end
set_option maxHeartbeats 8000000 in
theorem all_mk {l:PySem.W.OpenLaw} {w:Sj} {K:Ri} {h:SR} {mg:Rz->Option Rl} {fa:Rk} (X:K.In h) (G:h.Ns RV mg) (Qz:mg "law"=some (.ref fa))
 {Af:Rk} {HN:Rk} {Ly Lz:Option Rk} {LA:Array (Option Rl)} {LC LD LF LG HP LH:Rl} {HQ:Rk} {LI LJ:Option Rk} {LK:Array (Option Rl)} {LL LM LN LO HR LP:Rl} {HS:Rk} {LQ HU:Option Rk} {LR:Array (Option Rl)} {LS HV HW HX FH HY:Rl} {NA:Tok} {NB:Tok} {NC:Tok} {ND:Tok} {NF:Tok} {NG:Tok} {NH:Tok} {NI:Tok} {NJ:Tok} {NK:Tok} {Au:Rk} {Aa:Rk} {AU:Rk} {Ac:Rk} {Ad:Rk}
 (g_is_number:FX K mg "is_number" fS ["thing"])
 (g_is_below:FX K mg "is_below" iG ["number","bound"])
 (g_is_name:FX K mg "is_name" jH ["thing"])
 (g_is_kind:FX K mg "is_kind" jE ["pair"])
 (g_are_kinds:FX K mg "are_kinds" fH ["kinds"])
 (g_kinds_of:FX K mg "kinds_of" iA ["pairs"])
 (g_many_of:FX K mg "many_of" jD ["kinds","name"])
 (g_kids_of:FX K mg "kids_of" jr ["thing"])
 (g_walked:FX K mg "walked" lJ ["thing"])
 (g_built:FX K mg "built" nQ ["tops"])
 (g_is_call:FX K mg "is_call" jy ["thing"])
 (g_fits_pattern:FX K mg "fits_pattern" dN ["kinds","pattern","states","kids"])
 (g_is_small:FX K mg "is_small" il ["pattern"])
 (g_check_pattern:FX K mg "check_pattern" dm ["outs","pattern","states","kids"])
 (g_check_state:FX K mg "check_state" eI ["ins","outs","patterns","states"])
 (g_made_book:FX K mg "made_book" gh ["ins","outs","head","rules"])
 (g_words_of:FX K mg "words_of" iz ["text"])
 (g_read_number:FX K mg "read_number" eF ["word"])
 (g_read_call:FX K mg "read_call" gj ["words"])
 (g_steps_of:FX K mg "steps_of" iy ["words"])
 (g_follows:FX K mg "follows" jt ["before","step","depth"])
 (g_tops_of:FX K mg "tops_of" jK ["steps"])
 (g_read_pattern:FX K mg "read_pattern" dS ["words"])
 (g_read_kind:FX K mg "read_kind" fO ["word"])
 (g_read_kinds:FX K mg "read_kinds" fc ["first","words"])
 (g_read_head:FX K mg "read_head" f8 ["words"])
 (g_read_rule:FX K mg "read_rule" fI ["state","name","words"])
 (g_read_rules:FX K mg "read_rules" fv ["ins","rows"])
 (g_words_in:FX K mg "words_in" iD ["row"])
 (g_read_book:FX K mg "read_book" fN ["text"])
 (g__law_cell_at:FX K mg "_law_cell_at" dY ["script","k"])
 (g__law_name:FX K mg "_law_name" fV ["base","n"])
 (g__law_kinds:FX K mg "_law_kinds" ft ["cell"])
 (g__law_folded:FX K mg "_law_folded" eK ["script","many"])
 (g__law_pattern:FX K mg "_law_pattern" d3 ["cell","outs","states","kids","deep"])
 (g__law_digits:FX K mg "_law_digits" eJ ["own","outs","states","kids","deep"])
 (g__law_book:FX K mg "_law_book" fQ ["script","most","deep"])
 (g__law_shown:FX K mg "_law_shown" fu ["pattern"])
 (g__law_rows:FX K mg "_law_rows" fP ["book"])
 (g__law_odd:FX K mg "_law_odd" iI ["rows","cell"])
 (g__law_good:FX K mg "_law_good" fW ["rows","odd"])
 (g__law_refused:FX K mg "_law_refused" d4 ["text"])
 (on_Measure:Sb K RV "Measure"=some (some (.ref Af)))
 (pg_Measure:VC K Af Tr=true)
 (hd_Measure:V0 K Af=true)
 (po_Measure:Xg K Af=true)
 (sa_Measure:R1 K (.ref Af) "__setattr__"=some (some (.builtin "object.__setattr__")))
 (mk_Measure:PySem.W.makesIn K Af=true)
 (kc_Measure:T1 K (.ref Af)=true)
 (na_Measure_met_knots:R1 K (.ref Af) "met_knots"=some none)
 (na_Measure_met_calls:R1 K (.ref Af) "met_calls"=some none)
 (a12:R1 K (.ref Af) "__init__"=some (some (.ref HN))) (i12:Wh K (.ref HN)=true) (l12:K.lookup HN=some ⟨LC,Ly,.func (Ux "__init__" "Measure.__init__" (bN bZ) (bA bZ) (al bZ) .none LD LF LG Lz HP LH),LA⟩) (c12:Vq K HP "Measure.__init__"=true) (k12:T1 K (.ref HN)=true)
 (a13:R1 K (.ref Af) "takes"=some (some (.ref HQ))) (i13:Wh K (.ref HQ)=true) (l13:K.lookup HQ=some ⟨LL,LI,.func (Ux "takes" "Measure.takes" (bN bP) (bA bP) (al bP) .none LM LN LO LJ HR LP),LK⟩) (c13:Vq K HR "Measure.takes"=true) (k13:T1 K (.ref HQ)=true)
 (a44:Sb K RV "law"=some (some (.ref HS))) (l44:K.lookup HS=some ⟨LS,LQ,.func (Ux "law" "law" (bN iK) (bA iK) (al iK) .none HV HW HX HU FH HY),LR⟩) (c44:Vq K FH "law"=true) (k44:T1 K (.ref HS)=true)
 (z0:Sb K RV "ValueError"=some none)
 (z1:Sb K RV "all"=some none)
 (z2:Sb K RV "bool"=some none)
 (z3:Sb K RV "divmod"=some none)
 (z4:Sb K RV "enumerate"=some none)
 (z5:Sb K RV "int"=some none)
 (z6:Sb K RV "isinstance"=some none)
 (z7:Sb K RV "len"=some none)
 (z8:Sb K RV "range"=some none)
 (z9:Sb K RV "reversed"=some none)
 (z10:Sb K RV "set"=some none)
 (z11:Sb K RV "str"=some none)
 (z12:Sb K RV "tuple"=some none)
 (z13:Sb K RV "zip"=some none)
 (y0:Sb K RV "CALL_SIGN"=some (some (.str (Rc "?") NA)))
 (y1:Sb K RV "MOST_LETTERS"=some (some (.int (8) NB)))
 (y2:Sb K RV "MOST_KINDS"=some (some (.int (8) NC)))
 (y3:Sb K RV "MOST_KIDS"=some (some (.int (3) ND)))
 (y4:Sb K RV "MOST_STATES"=some (some (.int (20) NF)))
 (y5:Sb K RV "MOST_ROWS"=some (some (.int (20) NG)))
 (y6:Sb K RV "MOST_KNOTS"=some (some (.int (400) NH)))
 (y7:Sb K RV "MOST_CALLS"=some (some (.int (200) NI)))
 (y8:Sb K RV "MOST_FIGURES"=some (some (.int (3) NJ)))
 (y9:Sb K RV "MOST_BRACKETS"=some (some (.int (100) NK)))
 (xn_BookError:Sb K RV "BookError"=some (some (.ref Au)))
 (xn_NoKinds:Sb K RV "NoKinds"=some (some (.ref Aa)))
 (xn_NoTree:Sb K RV "NoTree"=some (some (.ref AU)))
 (xn_NoBook:Sb K RV "NoBook"=some (some (.ref Ac)))
 (xn_NoText:Sb K RV "NoText"=some (some (.ref Ad)))
 (xe_NoKinds:VF K Aa [.type "ValueError",.type "Exception",.type "BaseException",.type "object"] "ValueError.__new__"=true)
 (xg_NoKinds:R1 K (.ref Aa) "__getattribute__"=some (some (.builtin "BaseException.__getattribute__")))
 (xh_NoKinds:R1 K (.ref Aa) "__getattr__"=some none)
 (xc_NoKinds:R1 K (.ref Aa) "__class__"=some (some (.builtin "object.__class__")))
 (xo_NoKinds:Ts K Aa (.type "object")=some true)
 (xb_NoKinds:Ts K Aa (.type "BaseException")=some true)
 (hit_NoKinds_BookError:Vp K (.ref Aa) (.ref Au)=some true)
 (kit_NoKinds_NoText:RU K (.ref Aa) (.ref Ad)=some false)
 (kit_NoKinds_ValueError:RU K (.ref Aa) (.type "ValueError")=some true)
 (kit_NoKinds_NoKinds:RU K (.ref Aa) (.ref Aa)=some true)
 (kit_NoKinds_NoTree:RU K (.ref Aa) (.ref AU)=some false)
 (kit_NoKinds_NoBook:RU K (.ref Aa) (.ref Ac)=some false)
 (xe_NoBook:VF K Ac [.type "ValueError",.type "Exception",.type "BaseException",.type "object"] "ValueError.__new__"=true)
 (xg_NoBook:R1 K (.ref Ac) "__getattribute__"=some (some (.builtin "BaseException.__getattribute__")))
 (xh_NoBook:R1 K (.ref Ac) "__getattr__"=some none)
 (xc_NoBook:R1 K (.ref Ac) "__class__"=some (some (.builtin "object.__class__")))
 (xo_NoBook:Ts K Ac (.type "object")=some true)
 (xb_NoBook:Ts K Ac (.type "BaseException")=some true)
 (hit_NoBook_BookError:Vp K (.ref Ac) (.ref Au)=some true)
 (kit_NoBook_NoText:RU K (.ref Ac) (.ref Ad)=some false)
 (kit_NoBook_ValueError:RU K (.ref Ac) (.type "ValueError")=some true)
 (kit_NoBook_NoKinds:RU K (.ref Ac) (.ref Aa)=some false)
 (kit_NoBook_NoTree:RU K (.ref Ac) (.ref AU)=some false)
 (kit_NoBook_NoBook:RU K (.ref Ac) (.ref Ac)=some true)
 (xe_NoText:VF K Ad [.type "ValueError",.type "Exception",.type "BaseException",.type "object"] "ValueError.__new__"=true)
 (xg_NoText:R1 K (.ref Ad) "__getattribute__"=some (some (.builtin "BaseException.__getattribute__")))
 (xh_NoText:R1 K (.ref Ad) "__getattr__"=some none)
 (xc_NoText:R1 K (.ref Ad) "__class__"=some (some (.builtin "object.__class__")))
 (xo_NoText:Ts K Ad (.type "object")=some true)
 (xb_NoText:Ts K Ad (.type "BaseException")=some true)
 (hit_NoText_BookError:Vp K (.ref Ad) (.ref Au)=some true)
 (kit_NoText_NoText:RU K (.ref Ad) (.ref Ad)=some true)
 (kit_NoText_ValueError:RU K (.ref Ad) (.type "ValueError")=some true)
 (kit_NoText_NoKinds:RU K (.ref Ad) (.ref Aa)=some false)
 (kit_NoText_NoTree:RU K (.ref Ad) (.ref AU)=some false)
 (kit_NoText_NoBook:RU K (.ref Ad) (.ref Ac)=some false) :
 ∃ fd:Uk,(∀ (s:Rn) (v:Rl),BindsTo s fd ⟨[v],[]⟩ [("script",v)])/\∀ base:SR,K.In base->base.Ns RV mg->FnOk l.prog w K mg base CX0 60 fa fd ["script"] (nY K):=by
 have e0:=Qz.symm.trans (SS X G a44);have e:HS=fa:=(Value.ref.inj (Ry e0)).symm;subst e;have NL:=cX (st:=bZ) l12 c12 k12;have QA:=NL.binds (ps:=["self"]) fun _ _ _ _ _ _ us hl=>by obtain ⟨y0,rfl⟩:=us1 hl;rfl
 have NM:=cX (st:=bP) l13 c13 k13;have QB:=NM.binds (ps:=["self","part","row"]) fun _ _ _ _ _ _ us hl=>by obtain ⟨y0,y1,y2,rfl⟩:=us3 hl;rfl
 have NN:=cX (st:=iK) l44 c44 k44;have QC:=NN.binds (ps:=["script"]) fun _ _ _ _ _ _ us hl=>by obtain ⟨y0,rfl⟩:=us1 hl;rfl
 let T:TX K mg:=⟨⟨NA,SS X G y0⟩,⟨NB,SS X G y1⟩,⟨NC,SS X G y2⟩,⟨ND,SS X G y3⟩,⟨NF,SS X G y4⟩,⟨NG,SS X G y5⟩,⟨NH,SS X G y6⟩,⟨NI,SS X G y7⟩,⟨NJ,SS X G y8⟩,⟨NK,SS X G y9⟩,Au,SS X G xn_BookError,Aa,SS X G xn_NoKinds,AU,SS X G xn_NoTree,Ac,SS X G xn_NoBook,Ad,SS X G xn_NoText,xe_NoKinds,xg_NoKinds,xh_NoKinds,xc_NoKinds,xo_NoKinds,xb_NoKinds,hit_NoKinds_BookError,kit_NoKinds_NoText,kit_NoKinds_ValueError,kit_NoKinds_NoKinds,kit_NoKinds_NoTree,kit_NoKinds_NoBook,xe_NoBook,xg_NoBook,xh_NoBook,xc_NoBook,xo_NoBook,xb_NoBook,hit_NoBook_BookError,kit_NoBook_NoText,kit_NoBook_ValueError,kit_NoBook_NoKinds,kit_NoBook_NoTree,kit_NoBook_NoBook,xe_NoText,xg_NoText,xh_NoText,xc_NoText,xo_NoText,xb_NoText,hit_NoText_BookError,kit_NoText_NoText,kit_NoText_ValueError,kit_NoText_NoKinds,kit_NoText_NoTree,kit_NoText_NoBook,g_is_number,g_is_below,g_is_name,g_is_kind,g_are_kinds,g_kinds_of,g_many_of,g_kids_of,g_walked,g_built,g_is_call,g_fits_pattern,HN,_,NL,QA,HQ,_,NM,QB,g_is_small,g_check_pattern,g_check_state,g_made_book,g_words_of,g_read_number,g_read_call,g_steps_of,g_follows,g_tops_of,g_read_pattern,g_read_kind,g_read_kinds,g_read_head,g_read_rule,g_read_rules,g_words_in,g_read_book,g__law_cell_at,g__law_name,g__law_kinds,g__law_folded,g__law_pattern,g__law_digits,g__law_book,g__law_shown,g__law_rows,g__law_odd,g__law_good,g__law_refused,⟨HS,_,NN,QC,SS X G a44⟩,Af,SS X G on_Measure,⟨pg_Measure,hd_Measure,po_Measure,sa_Measure⟩,⟨mk_Measure,a12,i12,kc_Measure⟩,na_Measure_met_knots,na_Measure_met_calls,⟨a13,i13,k13⟩,SF X G z0,SF X G z1,SF X G z2,SF X G z3,SF X G z4,SF X G z5,SF X G z6,SF X G z7,SF X G z8,SF X G z9,SF X G z10,SF X G z11,SF X G z12,SF X G z13⟩
 refine ⟨Ux "law" "law" (bN iK) (bA iK) (al iK) .none HV HW HX HU FH HY,fun s v=>.of_eq rfl,fun base _ _=>?_⟩;exact yf T
theorem walk {l:PySem.W.OpenLaw} {q:RY} {loose:List Rz} {XP:(Rz->Option Rl)->SR->Prop} {YP:Sj->SR->Prop} {d:DefRec} {K:Params->Ri} (hn:l.most=some 63) (Gu:d.params.defaults=[])
 (hY:∀ (w:Sj) (h:SR),YP w h->(K w.params).In h)
 (F:∀ (w:Sj) (mg:Rz->Option Rl) (fa:Rk) (h:SR),(K w.params).In h->h.Ns RV mg->mg d.name=some (.ref fa) →
  ∃ fd:Uk,(∀ (s:Rn) (u:Rl),BindsTo s fd ⟨[u],[]⟩ [("script",u)])/\∀ base:SR,(K w.params).In base->base.Ns RV mg->FnOk l.prog w (K w.params) mg base CX0 60 fa fd ["script"] (nY (K w.params))) :
 PySem.W.WalkO q loose XP YP l.row.toRowW d [] (fun f vs=>PySem.call f vs) :=
 L2.wW (n:=63) (k:=60) (x:="script") (CX:=fun _=>CX0) (sp:=fun w=>nY (K w.params)) hn (by decide) Gu ⟨rfl,by decide,by decide⟩ hY F (fun _ _ a ns hl _ hS=>⟨a,ns,rfl,hS,hl,fun _=>rfl⟩) fun _ _ _ _ _ z=>z
end LAW
open PySem PySem.W PyProof.Rows
set_option maxRecDepth 100000 in
set_option maxHeartbeats 0 in
theorem PySem.Challenge.cw_boughbook_k31_rows_that_are_none_holds : PySem.Challenge.rw_boughbook_k31_rows_that_are_none.Holds := by
 w_on;o_law;(refine holds_open (q:=LAW.vw) (N:=90000) (loose:=[]) (XP:=XL LAW.vw []) (Yf:=Hook.obs (kHook LAW.d0.heap_1 LAW.ks LAW.ke)) (Ya:=Hook.val (kHook LAW.d0.heap_1 LAW.ks LAW.ke)) (YP:=Hook.says (kHook LAW.d0.heap_1 LAW.ks LAW.ke)) (Xt:=LAW.xt) (HD.tL (by kernel_rfl) (by kernel_rfl) (fun _=>by kernel_rfl) LAW.lk0 LAW.lk1 LAW.lk2 LAW.lk3 LAW.lk4 LAW.lk5 (HD.Pc.k LAW.kp)) (Hook.of (kHook LAW.d0.heap_1 LAW.ks LAW.ke)) (Hook.keeps (kHook LAW.d0.heap_1 LAW.ks LAW.ke)) (fun s e=>xl_of s (WJ.mp e).1) XL.keeps (by rfl) (by rfl) (by rfl) (fun s e=>recFacts_of (WJ.mp e).2) (by rfl) (by assumption) (by decide +kernel) ⟨rfl,rfl,rfl,rfl,rfl,by decide +kernel⟩ ?_ ?_);w_witness2
 k_fill
 refine LAW.walk (l:=PySem.Challenge.rw_boughbook_k31_rows_that_are_none) rfl rfl (fun w h Y=>PySem.W.kIn_of Y) ?F
 case F =>
  intro w mg fa h KX G Gv;refine' LAW.all_mk KX G Gv (LAW.fx1 KX G) (LAW.fx2 KX G) (LAW.fx1 KX G) (LAW.fx1 KX G) (LAW.fx1 KX G) (LAW.fx1 KX G) (LAW.fx2 KX G) (LAW.fx1 KX G) (LAW.fx1 KX G) (LAW.fx1 KX G) (LAW.fx1 KX G) (LAW.fx4 KX G) (LAW.fx1 KX G) (LAW.fx4 KX G) (LAW.fx4 KX G) (LAW.fx4 KX G) (LAW.fx1 KX G) (LAW.fx1 KX G) (LAW.fx1 KX G) (LAW.fx1 KX G) (LAW.fx3 KX G) (LAW.fx1 KX G) (LAW.fx1 KX G) (LAW.fx1 KX G) (LAW.fx2 KX G) (LAW.fx1 KX G) (LAW.fx3 KX G) (LAW.fx2 KX G) (LAW.fx1 KX G) (LAW.fx1 KX G) (LAW.fx2 KX G) (LAW.fx2 KX G) (LAW.fx1 KX G) (LAW.fx2 KX G) (LAW.fx5 KX G) (LAW.fx5 KX G) (LAW.fx3 KX G) (LAW.fx1 KX G) (LAW.fx1 KX G) (LAW.fx2 KX G) (LAW.fx2 KX G) (LAW.fx1 KX G) ?on_Measure ?pg_Measure ?hd_Measure ?po_Measure ?sa_Measure ?mk_Measure ?kc_Measure ?na_Measure_met_knots ?na_Measure_met_calls ?a12 ?i12 ?l12 ?c12 ?k12 ?a13 ?i13 ?l13 ?c13 ?k13 ?a44 ?l44 ?c44 ?k44 ?z0 ?z1 ?z2 ?z3 ?z4 ?z5 ?z6 ?z7 ?z8 ?z9 ?z10 ?z11 ?z12 ?z13 ?y0 ?y1 ?y2 ?y3 ?y4 ?y5 ?y6 ?y7 ?y8 ?y9 ?xn_BookError ?xn_NoKinds ?xn_NoTree ?xn_NoBook ?xn_NoText ?xe_NoKinds ?xg_NoKinds ?xh_NoKinds ?xc_NoKinds ?xo_NoKinds ?xb_NoKinds ?hit_NoKinds_BookError ?kit_NoKinds_NoText ?kit_NoKinds_ValueError ?kit_NoKinds_NoKinds ?kit_NoKinds_NoTree ?kit_NoKinds_NoBook ?xe_NoBook ?xg_NoBook ?xh_NoBook ?xc_NoBook ?xo_NoBook ?xb_NoBook ?hit_NoBook_BookError ?kit_NoBook_NoText ?kit_NoBook_ValueError ?kit_NoBook_NoKinds ?kit_NoBook_NoTree ?kit_NoBook_NoBook ?xe_NoText ?xg_NoText ?xh_NoText ?xc_NoText ?xo_NoText ?xb_NoText ?hit_NoText_BookError ?kit_NoText_NoText ?kit_NoText_ValueError ?kit_NoText_NoKinds ?kit_NoText_NoTree ?kit_NoText_NoBook
  (case on_Measure=>k_is)
  (case pg_Measure=>k_is)
  (case hd_Measure=>k_is)
  (case po_Measure=>k_is)
  (case sa_Measure=>k_is)
  (case mk_Measure=>k_is)
  (case kc_Measure=>k_is)
  (case na_Measure_met_knots=>k_is)
  (case na_Measure_met_calls=>k_is)
  (case a12=>k_is)
  (case i12=>k_is)
  (case l12=>k_is)
  (case c12=>k_is)
  (case k12=>k_is)
  (case a13=>k_is)
  (case i13=>k_is)
  (case l13=>k_is)
  (case c13=>k_is)
  (case k13=>k_is)
  (case a44=>k_is)
  (case l44=>k_is)
  (case c44=>k_is)
  (case k44=>k_is)
  (case z0=>k_is)
  (case z1=>k_is)
  (case z2=>k_is)
  (case z3=>k_is)
  (case z4=>k_is)
  (case z5=>k_is)
  (case z6=>k_is)
  (case z7=>k_is)
  (case z8=>k_is)
  (case z9=>k_is)
  (case z10=>k_is)
  (case z11=>k_is)
  (case z12=>k_is)
  (case z13=>k_is)
  (case y0=>k_is)
  (case y1=>k_is)
  (case y2=>k_is)
  (case y3=>k_is)
  (case y4=>k_is)
  (case y5=>k_is)
  (case y6=>k_is)
  (case y7=>k_is)
  (case y8=>k_is)
  (case y9=>k_is)
  (case xn_BookError=>k_is)
  (case xn_NoKinds=>k_is)
  (case xn_NoTree=>k_is)
  (case xn_NoBook=>k_is)
  (case xn_NoText=>k_is)
  (case xe_NoKinds=>k_exc)
  (case xg_NoKinds=>k_is)
  (case xh_NoKinds=>k_is)
  (case xc_NoKinds=>k_is)
  (case xo_NoKinds=>k_is)
  (case xb_NoKinds=>k_is)
  (case hit_NoKinds_BookError=>kts_exm)
  (case kit_NoKinds_NoText=>kit_is)
  (case kit_NoKinds_ValueError=>kit_is)
  (case kit_NoKinds_NoKinds=>kit_is)
  (case kit_NoKinds_NoTree=>kit_is)
  (case kit_NoKinds_NoBook=>kit_is)
  (case xe_NoBook=>k_exc)
  (case xg_NoBook=>k_is)
  (case xh_NoBook=>k_is)
  (case xc_NoBook=>k_is)
  (case xo_NoBook=>k_is)
  (case xb_NoBook=>k_is)
  (case hit_NoBook_BookError=>kts_exm)
  (case kit_NoBook_NoText=>kit_is)
  (case kit_NoBook_ValueError=>kit_is)
  (case kit_NoBook_NoKinds=>kit_is)
  (case kit_NoBook_NoTree=>kit_is)
  (case kit_NoBook_NoBook=>kit_is)
  (case xe_NoText=>k_exc)
  (case xg_NoText=>k_is)
  (case xh_NoText=>k_is)
  (case xc_NoText=>k_is)
  (case xo_NoText=>k_is)
  (case xb_NoText=>k_is)
  (case hit_NoText_BookError=>kts_exm)
  (case kit_NoText_NoText=>kit_is)
  (case kit_NoText_ValueError=>kit_is)
  (case kit_NoText_NoKinds=>kit_is)
  (case kit_NoText_NoTree=>kit_is)
  (case kit_NoText_NoBook=>kit_is)
