import PyProof.Rows.All
import Wide.All
import OpenK.AllK
import Wide.FinOn
import Lean
import PyProof.EqAt
import PyProof.EqKinds
import PyProof.TupleCall
import KE.KRevIter
import PyProof.ListNew
import PyProof.Draws
import PyProof.EnumMake
import PyProof.Rows.EnumRows
import PyProof.ZipIter
import PyProof.ConsumeWalk
import KE.LcSums
import PyProof.AttrMissHeap
import KE.KDictOf
import PyProof.DictWalks
import PyProof.ListMulRoad
import PyProof.FactsAll.tuple
import PyProof.NeKinds
import KE.RegKTryMore
import KE.RegKIsAll
import PyProof.StrWalks
import PyProof.Rows.SetFrom
import PyProof.FString5
import Wide.Txt
import PyProof.Rows.SeqMore
import PyProof.StrOps2
import KE.KEqDict
import PyProof.CollectIter
import PyProof.JoinWalk
import PyProof.CallStr
import PyProof.DictRoadsH
import PyProof.MeetsDictList
import PyProof.DictTruth
import PyProof.StrLawsChain
import PyProof.StrCalls6
import PyProof.ToksMono
import PyProof.StrCalls2
import KE.KWords
import PyProof.MeetsStr2
import KE.KUnpack
import KE.KIntText
import PyProof.MeetsStr
import PyProof.Rows.StrLawsPart
import PyProof.Rows.RuleDivmod
import PyProof.ListIndexNeg
import PySem.Challenge.RW_boughbook_k33_whole_no_other_book
set_option Elab.async false
set_option linter.all false
set_option maxRecDepth 100000
set_option genInjectivity false
set_option genSizeOf false
local macro_rules | `(tactic| omega) => `(tactic| lia)
open PySem.Str renaming ofString→R4,empty→Ua,cps_append→UD,join→V1
open List renaming length_map→R5,getElem?_eq_getElem→R6,length_cons→R7,mem_of_getElem?→Sd,size_toArray→Si,getElem?_eq_some_iff→Sj,mem_cons_of_mem→Sk,map_cons→Sl,length_append→Sm,mem_cons→Sn,getElem?_map→So,map_append→Sq,mem_cons_self→Sr,mem_append→Sv,mem_singleton→Sy,flatten_cons→SJ,append_nil→SM,append_assoc→SO,length_take→SR,mem_append_right→SU,mem_iff_getElem?→SV,length_eq_zero_iff→S6,take_of_length_le→S7,cons_append→S9,length_drop→Tf,length_singleton→Tn,nil_append→Ts,all_eq_true→Tv,range→Tw,getElem?_eq_none→Tx,mem_map→TC,replicate→TJ,mem_of_mem_take→TK,mem_of_mem_drop→TL,flatten_append→TQ,length_pos_iff→T3,mem_append_left→T7,map_map→T8,reverse_cons→Ub,getElem?_set_self→Ug,sum_cons→Uj,not_mem_nil→Up,map_congr_left→Ut,drop_zero→Uv,nodup_cons→Uz,length_set→UA,length_nil→UB,getElem?_set_ne→UE,map_nil→UN,getElem?_append_right→UO,flatMap_cons→UP,forIn_cons→UQ,drop_eq_getElem_cons→US,mem_range→UY,length→UZ,length_range→U1,dropLast_concat_getLast→U2,replicate_succ→U5,lookup_cons→U9,take_zero→Vb,getElem?_append_left→Vf,take_add_one→Vp,lookup→Vq,ext_getElem?→Vr,length_reverse→Vx,filterMap_cons→Vy,take_length→VA,reverse_reverse→VO,filter_cons→VS,mem_or_eq_of_mem_set→VT,getElem?_zip_eq_some→VU,getElem?_range→VY,flatMap_append→VZ,map_take→V2,mem_filter→V5,take_append_drop→Wn,map_drop→Wv,reverse_append→WD,nodup_nil→WM,mem_filterMap→WN,flatMap_assoc→WO,all_cons→W2,drop_length→W9,map_set→Xf,length_zip→Xk,dropLast_concat→Xz,map_eq_nil_iff→XJ,nodup_append→Yc
open PySem.W renaming Frag→R8,findIn→S5,nsIn→Tp,mg_none_of→TY,mg_of→T9,mroIn→Uu,kia_one→Uy,emptyDict→UM,keepIn→UX,instObj→Vh,boot_heap→Vm,fnOf→Vn,kitOne→Vz,exmOne→Wa,codeIn→Wb,hideAll→Wi,plainGet→Wo,excIn→Wu,hasDictIn→WU,isFn→Xb,lookIn→Xx,plainGet_of→XG,callWith_K→XT,plainOver→X7,methodObj→X8
open PySem renaming wpAny_bind→R9,Addr→Sa,Value→Sb,Shared→Sf,Str→Ss,boot_len→Sw,wpAny_pure→SA,wpAny→SI,strLen_append→SN,sizeLine→SQ,mainGlobals→SW,Program→SX,model→SY,Around→Tj,Paired→To,World→Tq,starEach→Tz,wpAny_field→TH,Expr→TV,Heap→T2,wpAny_mono→T4,wpAny_newObj_type→Uh,Stmt→Uo,wpAny_passesOwn→Ur,wpAny_loadName_local→UI,sizeLine_eq→UJ,compareOp→UK,wpAny_truthy_bool→UT,Obj→UU,wpAny_Call_Name_kw→U0,eval→U4,wpAny_callSpecial?_slot→U8,NameKind→Va,wpAny_holding→Ve,wpAny_setField_rec→Vj,wpAny_seqItems→Vk,typeIs_str→Vl,FuncData→Vs,Scope→Vu,wpAny_execs_nil→Vw,call_meets→VD,IsPair→VH,wpAny_Call_method_late→VM,mem_of_lookup→VV,binaryOp→V0,wpAny_call_entry→V7,wpAny_Name→Wh,Pos→Wq,foldedSetIterable→Ww,codeAny_mono→Wx,codeAny→Wy,backTo→Wz,cLine→WC,rawInt→WE,assignEach→WG,sliceBounds→WJ,letOwnedTupleGo→WT,bootBuiltins→WV,OsState→W0,wpAny_pyIter_tuple→W5,wpAny_pyIter_list→Xg,wpAny_assign_Name→Xh,wpAny_standAt→Xo,wpAny_comprehension_free→Xp,wpAny_execs_cons→Xr,swapsWith→Xs,storeName→Xu,noteFrame→Xv,intText?→Xw,IsZip→XA,Env→XC,getItem→XF,importedModules→XO,wpAny_updateSeq_pair→XY,wpAny_setField→XZ,slicePicked→X0,pyNext→X1,bindArgs→X2,assign→X3
open PySem.Heap renaming get?_push_of_some→Se,get?_push_size→Sx,lt_size→SD,size_push→UG,SameBut→Vc,get?_update_other→WB,get?_update_self→XW
open Nat renaming le_refl→Sg,lt_succ_of_lt→SF,lt_of_lt_of_le→S8,zero_le→Td,ne_of_lt→Ti,le_trans→TF,lt_irrefl→TM,ne_of_gt→UW,succ_mul→U7,min_eq_left→Vi,pow_le_pow_right→Vo,zero_add→VF,mul_comm→VG,add_mul_div_right→VJ,mul_le_mul_right→VN,div_eq_of_lt→VR,mul_le_mul_left→VX,le_of_lt→We,lt_succ_self→Ws,le_add_right→Wt,sub_self→WH,lt_of_le_of_lt→WL,sub_zero→Xd,le_of_eq→Xe,div_add_mod→Xj,div_lt_of_lt_mul→Xy,mul_succ→Yb
open Option.some renaming inj→Su
open Bool renaming false_ne_true→Sz,and_eq_true→Tr,eq_false_iff→Ud,true_and→Vt,not_eq_true'→Wf,false_and→Wg,or_eq_true→Xm,eq_iff_iff→Xn,and_eq_true_iff→XD
open Array renaming length_toList→SE,toList_append→TR,getElem?_toList→VL,getElem?_eq_some_iff→VP,append_assoc→WQ,toList→Yi
open Or renaming inl→SG
open List.cons renaming inj→SH
open PySem.Paired renaming length→SK
open PySem.F renaming plainAttrs_list→SS,type_list_append→Ta,slot_list_append→Tb,plainAttrs_str→TB,slot_tuple_iterator_next→V3,called_set→V8,type_str_split→Wc,slot_str_split→Wd,type_str_join→Wj,type_list_pop→Wk,slot_str_join→Wl,slot_list_pop→Wm,type_str_replace→WW,slot_str_replace→WY,args_tuple_add_2→WZ,entry_tuple_add→W6,slot_tuple_add→Xc,entry_str_split→Xl,slot_str_split→XB,slot_zip_next→XR
open Int renaming emod_lt_of_pos→Tc,emod_nonneg→Te,toNat_natCast→Uc,ediv_nonneg→V6,eq_ofNat_of_zero_le→V9,toNat_of_nonneg→XN,lt_or_eq_of_le→XU,zero_add→Yg,ediv_one→Yh
open PySem.Txt renaming join→Tg,split→UL,replace→Xi
open PySem.PassesOwn renaming never→Tt,leaving→WA
open PyProof.Rows renaming boot_tuple→Tu,boot_isinstance→T5,slot_tuple_getitem→Um,callWith_type1→U6,envOfC→Vg,boot_str→VI,boot_all→Xq,AllBare→XX
open PySem.Builtin.Str renaming strKind→TN,strSliceIndices→W3
open PySem.Builtin.SmallTypes renaming nextOf→TU,ownedTupleIsFree→T1
open PySem.NameKind renaming free→TZ,cell→WI
open Option renaming map_eq_some_iff→T6,bind_eq_some_iff→W7
open PySem.Value renaming ref→Ue,none→Ux
open PySem.Builtin.Slice renaming slicePlaces→Ui,sliceAdjust→Vv,sliceApplied→V4
open PySem.StrLaws renaming occBody→Uk,glued_eq_join→VQ,strSub_toList→XS
open PySem.Builtin.Tuple renaming tupleExact→Ul
open PySem.Calls renaming spliced_cons→Uq,Constant_str→UH,callWith_builtin→Vd,spliced_nil→VB,evalArgs_plain→VC,Name_function_global→Xa
open False renaming elim→UC
open ForInStep renaming yield→UR
open PySem.Builtin.List renaming listTooLong→U3
open Ne renaming symm→VE
open PyProof.Rows.F renaming plain_set_update_loop→VW,entry_set_update_loop→XH
open True renaming intro→WK
open PySem.Obj renaming data_mapFields→W8,mapSeq→XI
open PySem.KWd renaming fin→XM,step→Yd,scan→Ye
open PySem.Unicode renaming isSpace→XQ
open PySem.Value.type renaming inj→X4
open Sum renaming inr→X5,inl→X6
open Prod renaming ext→X9
namespace HD
open PySem PySem.W PySem.Calls PyProof.Rows
def kY (tb:String->Option Builtin) (p:SX) (w:Tq) (m:Nat) (ann:Option Sb):Nat->SharedT->Thread->Option SharedT
 | 0,_,_=>none
 | n+1,s,t=>match through t with
   | true=>some s
   | false=>match stepOk m ann t with
     | false=>none
     | true=>match stepT (denote tb) p w s t with
       | some (s',t')=>kY tb p w m ann n s' t'
       | none=>none
theorem lB {tb:String->Option Builtin} {p:SX} {w:Tq} {m:Nat} {ann:Option Sb}:∀ {n:Nat} {s s':SharedT} {t:Thread},kY tb p w m ann n s t=some s'->topRun tb p w m ann n s.abs t=some s'.abs
 | 0,_,_,_,h=>by cases h
 | n+1,s,s',t,h=>by
   unfold kY at h;unfold topRun;cases he:through t with
   | true=>rw [he] at h;cases h;rfl
   | false =>
     rw [he] at h;cases hk:stepOk m ann t with
     | false=>rw [hk] at h;cases h
     | true =>
       rw [hk] at h;cases hs:stepT (denote tb) p w s t with
       | none=>rw [hs] at h;cases h
       | some r =>
         obtain ⟨s2,t2⟩:=r;rw [hs] at h;rw [stepT_spec hs];exact lB h
def v2:List UU->Nat->BT->BT
 | [],_,t=>t
 | o::l,n,t=>v2 l (n+1) (t.ins n o)
def wq:List UU->Nat->BT->Bool
 | [],_,_=>true
 | o::l,n,t=>((t.ins n o).get n).isSome && wq l (n+1) (t.ins n o)
theorem nI:∀ (l:List UU) (n:Nat) (t:BT),wq l n t=true->(v2 l n t).list (n+l.length)=t.list n++l
 | [],n,t,_=>by rw [SM];rfl
 | o::l,n,t,h=>by
   obtain ⟨h1,h2⟩:=XD.mp h;have e:=absHeap_ins (life:=default) h1
   have e2:(t.ins n o).list (n+1)=t.list n++[o]:=by
    have:=congrArg (fun x:T2=>x.objs.toList) e;simpa [absHeap,Heap.push] using this
   have ih:=nI l (n+1) (t.ins n o) h2;rw [e2,SO] at ih;rw [R7,show n+(l.length+1)=n+1+l.length by omega];exact ih
theorem ye {h:T2} (ok:wq h.objs.toList 0 .nil=true):absHeap (v2 h.objs.toList 0 .nil) h.objs.size h.life=h:=by
 have e:=nI _ _ _ ok;rw [VF] at e;unfold absHeap;rw [<- SE,e];rfl
noncomputable abbrev oV (p:SX) (N:Nat) (w:Tq) (os:W0):Option SharedT :=
 kY treeTable p w 11 (some (.ref 6)) N ⟨v2 (Vm w.params).objs.toList 0 .nil,11,(Vm w.params).life,Array.mk [],boot_drawn,boot_toks,os⟩ (topStub p)
theorem w9 (P:Params):(wq (Vm P).objs.toList 0 .nil,(Vm P).isNs SW,(Vm P).objs.size,(Vm P).nsMap SW "__annotations__")=(true,true,11,some (.ref 6)):=by kernel_rfl
theorem map_some {α β:Type} {o:Option α} {a:α} {f:α->β} {b:β} (h:o=some a) (e:o.map f=some b):f a=b:=by rw [h] at e;exact Su e
abbrev Tr0 (p q:SX) (loose:List Ss) (Xt:Sf->Bool) (N:Nat) (g0:Bool):Prop:=∀ (w:Tq) (os:W0),((oV p N w os).map fun s=>(staticsOk (XO p.main.body) (Vm w.params) s.abs.heap && namesBound p s.abs.heap && gensDone s.abs && laidKept (Vm w.params) s.abs.heap,s.abs.heap.bltView,pinSeenD q (drecsOf q) s.abs,plainSeenD q loose s.abs,clsSeenW q loose s.abs,(s.abs.heap.accountedOkI (XO p.main.body),s.abs.heap.isNs SW,s.abs.heap.isNs builtinsNs,tablesOk q s.abs.heap,Xt s.abs,(if g0 then s.abs.gens.size == 0 else !leftWithCleanup s.abs.gens))))=some (true,bltViewBooted,pinGoodD (drecsOf q),plainGoodD q loose,clsGoodW q loose,(true,true,true,true,true,true))
abbrev Tr1 (p q:SX) (N:Nat):Prop:=∀ (w:Tq) (os:W0),((oV p N w os).map fun s=>seen ((recsOf q).map (·.name)) (ownsOf q) [] { s.abs with gens:=#[] })=some (expectedOf q)
abbrev Tr2 (p q:SX) (loose:List Ss) (N:Nat):Prop:=∀ (w:Tq) (os:W0),((oV p N w os).map fun s=>s.abs.heap.keysOk (looseW q loose) ((recsOf q).map (·.name)) ((litsOf q).map (·.1)) ((clssOf q (looseW q loose)).map (·.name)))=some true
abbrev Tr3 (p q:SX) (N:Nat):Prop:=∀ (w:Tq) (os:W0),((oV p N w os).map fun s=>tabsOk q s.abs)=some true
abbrev Tr4 (p q:SX) (loose:List Ss) (N:Nat):Prop:=∀ (w:Tq) (os:W0),((oV p N w os).map fun s=>plainSeenE q (looseW q loose) s.abs)=some (plainGoodE q (looseW q loose))
abbrev Tr5 (p q:SX) (N:Nat):Prop:=∀ (w:Tq) (os:W0),((oV p N w os).map fun s=>wideSeen q s.abs)=some (wideGood q)
theorem tJ {p q:SX} {loose:List Ss} {Xt:Sf->Bool} {α:Type} {Yf:Sf->α} {Ya:Tq->α} {N:Nat} {g0:Bool}
 (e:opening p=plainProg p.main.scope.names) (hN:Nat.ble 600 N=true) (f:∀ s,fenceModules? p s=some s)
 (r0:Tr0 p q loose Xt N g0)
 (r1:Tr1 p q N)
 (r2:Tr2 p q loose N)
 (r3:Tr3 p q N)
 (r4:Tr4 p q loose N)
 (r5:Tr5 p q N)
 (rY:∀ (w:Tq) (os:W0),((oV p N w os).map fun s=>Yf s.abs)=some (Ya w)) :
 LeftO p q loose Xt Yf Ya N g0:=fun w=>by
 obtain ⟨⟨h,gs,d,k,os⟩,e1,e'⟩:=T6.mp (boot_open e hN f w);obtain ⟨rfl,rfl,rfl,rfl⟩:h=Vm w.params/\gs=Array.mk []/\d=boot_drawn/\k=boot_toks:=by simpa using e'
 have IX:=w9 w.params;have z0:=congrArg Prod.fst IX;have z1:=congrArg (fun x=>x.2.1) IX;have z2:=congrArg (fun x=>x.2.2.1) IX;have z3:=congrArg (fun x=>x.2.2.2) IX;dsimp only at z0 z1 z2 z3;obtain ⟨s1,Dz,hY⟩:=T6.mp (rY w os);have q0:=map_some Dz (r0 w os);have q1:=map_some Dz (r1 w os);have q2:=map_some Dz (r2 w os);have q3:=map_some Dz (r3 w os);have q4:=map_some Dz (r4 w os);have q5:=map_some Dz (r5 w os);have rr:=lB Dz
 have JR:SharedT.abs ⟨v2 (Vm w.params).objs.toList 0 .nil,11,(Vm w.params).life,Array.mk [],boot_drawn,boot_toks,os⟩=⟨Vm w.params,Array.mk [],boot_drawn,boot_toks,os⟩:=by
  unfold SharedT.abs;dsimp only;rw [<- z2,ye z0]
 rw [JR] at rr;have a0:=congrArg Prod.fst q0;have a1:=congrArg (fun x=>x.2.1) q0;have a2:=congrArg (fun x=>x.2.2.1) q0;have a3:=congrArg (fun x=>x.2.2.2.1) q0;have a4:=congrArg (fun x=>x.2.2.2.2.1) q0;have b0:=congrArg (fun x=>x.2.2.2.2.2.1) q0;have b1:=congrArg (fun x=>x.2.2.2.2.2.2.1) q0;have b2:=congrArg (fun x=>x.2.2.2.2.2.2.2.1) q0;have b3:=congrArg (fun x=>x.2.2.2.2.2.2.2.2.1) q0;have b4:=congrArg (fun x=>x.2.2.2.2.2.2.2.2.2.1) q0;have b5:=congrArg (fun x=>x.2.2.2.2.2.2.2.2.2.2) q0;dsimp only at a0 a1 a2 a3 a4 b0 b1 b2 b3 b4 b5
 have l2:openSeen q loose (XO p.main.body) Xt g0 s1.abs=openGood q loose:=by
  unfold openSeen openGood;rw [q1,a1,q2,b0,b1,b2,b3,b4,b5,q3,a2,q4,a3,q5,a4];rfl
 have t:topFrom treeTable p w N ⟨Vm w.params,Array.mk [],boot_drawn,boot_toks,os⟩=some s1.abs:=by
  unfold topFrom;dsimp only;rw [z1,z2,z3,rr];show (match staticsOk (XO p.main.body) (Vm w.params) s1.abs.heap && namesBound p s1.abs.heap && gensDone s1.abs && laidKept (Vm w.params) s1.abs.heap with | true=>_ | false=>_)=_;rw [a0]
 unfold openEnds;rw [e1];show (topFrom treeTable p w N _).map _=_;rw [t];exact congrArg some (X9 l2 hY)
def p0:Params:={ strHash:=fun _=>0,shareClass:=fun _=>0,mergeTok:=fun t=>t,idOf:=fun _=>0,idOfShared:=fun _ _=>0,followText:=fun _=>false,idOfImm:=fun _=>0 }
structure Pc (p:SX) (N:Nat) (as:List Sa) (vs:Tq->List (Option UU)):Prop where
 out:∀ (w:Tq) (os:W0),((oV p N w os).map fun s=>as.map s.abs.heap.get?)=some (vs w)
theorem Pc.cut {p:SX} {N:Nat} {as:List Sa} {vs:Tq->List (Option UU)} (n:Nat) (h1:Pc p N (as.take n) fun w=>(vs w).take n) (h2:Pc p N (as.drop n) fun w=>(vs w).drop n):Pc p N as vs:=⟨fun w os=>by
 obtain ⟨s,e,a1⟩:=T6.mp (h1.out w os);have a2:=map_some e (h2.out w os);rw [e];refine congrArg some ?_;have:=congr (congrArg HAppend.hAppend a1) a2;rw [<- Sq,Wn,Wn] at this;exact this⟩
theorem Pc.k {p:SX} {N:Nat} {as:List Sa} {K:Params->Frag} {e:∀ P,as=(K P).map (·.1)} (h:Pc p N as fun w=>(K w.params).map fun p=>some p.2):∀ (w:Tq) (os:W0),((oV p N w os).map fun s=>(kHook K as e).obs s.abs)=some ((kHook K as e).val w):=h.out
end HD
section
open PySem PySem.W PyProof.Rows
def LAW.vw:SX:=PySem.W.view PySem.Challenge.pw_boughbook_k33_whole_no_other_book [1,2,3,4,6,7,8,9,10,11,12,13,14,15,16,17,18,19,21,22,24,25,26,27,28,29,30,31,32,34,36,37,38,39,40,41,42,43,44,45,46,47,48,49,50,52,53,54,55,56,57,58,59,60,61,62,63,64,65,66]
def LAW.xt (s:Sf):Bool:=xlAt LAW.vw [] s && recOk (RowW.records (OpenRow.toRowW (OpenLaw.row PySem.Challenge.rw_boughbook_k33_whole_no_other_book))) s
set_option maxHeartbeats 0 in
theorem LAW.lk0:HD.Tr0 PySem.Challenge.pw_boughbook_k33_whole_no_other_book LAW.vw [] LAW.xt 90000 true:=fun _ _=>by kernel_rfl
set_option maxHeartbeats 0 in
theorem LAW.lk1:HD.Tr1 PySem.Challenge.pw_boughbook_k33_whole_no_other_book LAW.vw 90000:=fun _ _=>by kernel_rfl
set_option maxHeartbeats 0 in
theorem LAW.lk2:HD.Tr2 PySem.Challenge.pw_boughbook_k33_whole_no_other_book LAW.vw [] 90000:=fun _ _=>by kernel_rfl
set_option maxHeartbeats 0 in
theorem LAW.lk3:HD.Tr3 PySem.Challenge.pw_boughbook_k33_whole_no_other_book LAW.vw 90000:=fun _ _=>by kernel_rfl
set_option maxHeartbeats 0 in
theorem LAW.lk4:HD.Tr4 PySem.Challenge.pw_boughbook_k33_whole_no_other_book LAW.vw [] 90000:=fun _ _=>by kernel_rfl
set_option maxHeartbeats 0 in
theorem LAW.lk5:HD.Tr5 PySem.Challenge.pw_boughbook_k33_whole_no_other_book LAW.vw 90000:=fun _ _=>by kernel_rfl
section
local macro_rules | `(tactic| o_head $_H) => `(tactic| assumption)
set_option maxHeartbeats 0 in
theorem LAW.d0 (h:OpenRow.Holds (OpenLaw.row PySem.Challenge.rw_boughbook_k33_whole_no_other_book)):OpenRow.Holds (OpenLaw.row PySem.Challenge.rw_boughbook_k33_whole_no_other_book):=by
 k_head
end
noncomputable def LAW.ks:List Sa:=(LAW.d0.heap_1 HD.p0).map (·.1)
theorem LAW.ke:∀ P,LAW.ks=(LAW.d0.heap_1 P).map (·.1):=fun _=>by kernel_rfl
set_option maxHeartbeats 0 in
theorem LAW.kp:HD.Pc PySem.Challenge.pw_boughbook_k33_whole_no_other_book 90000 LAW.ks fun w=>(LAW.d0.heap_1 w.params).map fun p=>some p.2:=⟨fun _ _=>by kernel_rfl⟩
end
namespace L2
open PySem PySem.Spec PyProof.Rows
abbrev Key:=Sum Int Ss
def xF:Key->Sb->Bool
 | .inl k,v=>Value.isInt k v
 | .inr x,v=>Value.isStrOf x v
def aak (w:Tq):Key->Int
 | .inl k=>hashInt k
 | .inr x=>hashStr w x
theorem bU:∀ {k:Key} {v:Sb},xF k v=true->(∃ i t,k=X6 i/\v=Value.int i t)∨(∃ x t,k=X5 x/\v=Value.str x t)
 | .inl i,v,h=>by
   obtain ⟨t,e⟩:=Value.isInt_shape (k:=i) (v:=v) h;exact .inl ⟨i,t,rfl,e⟩
 | .inr x,v,h=>by
   obtain ⟨t,e⟩:=Value.isStrOf_shape (x:=x) (v:=v) h;exact .inr ⟨x,t,rfl,e⟩
theorem yz (a b:Int):decide ((X6 a:Key)=X6 b)=(a == b):=by
 by_cases e:a=b
 · subst e;simp
 · have h:¬ (X6 a:Key)=X6 b:=fun q=>e (Sum.inl.inj q);rw [decide_eq_false h];exact (beq_eq_false_iff_ne.mpr e).symm
theorem yE (a b:Ss):decide ((X5 a:Key)=X5 b)=decide (a=b):=by
 by_cases e:a=b
 · subst e;simp
 · have h:¬ (X5 a:Key)=X5 b:=fun q=>e (Sum.inr.inj q);rw [decide_eq_false h,decide_eq_false e]
theorem yF (a:Int) (b:Ss):decide ((X6 a:Key)=X5 b)=false:=decide_eq_false (fun q=>nomatch q)
theorem xR (a:Ss) (b:Int):decide ((X5 a:Key)=X6 b)=false:=decide_eq_false (fun q=>nomatch q)
def oX (prog:SX) (w:Tq):PySem.KeyKind prog w Key where
 is:=xF
 hash:=aak w
 inj:=fun v a b ha hb=>by
  rcases bU ha with ⟨i,t,rfl,rfl⟩ | ⟨x,t,rfl,rfl⟩
  · rcases bU hb with ⟨j,u,rfl,e⟩ | ⟨y,u,rfl,e⟩
    · injection e with e1 _;rw [e1]
    · exact nomatch e
  · rcases bU hb with ⟨j,u,rfl,e⟩ | ⟨y,u,rfl,e⟩
    · exact nomatch e
    · injection e with e1 _;rw [e1]
 byValue:=fun k v h=>by
  rcases bU h with ⟨i,t,rfl,rfl⟩ | ⟨x,t,rfl,rfl⟩ <;> rfl
 pyHash:=fun hv h=>by
  rcases bU hv with ⟨i,t,rfl,rfl⟩ | ⟨x,t,rfl,rfl⟩
  · exact wpAny_pyHash_int h
  · exact wpAny_pyHash_str h
 eqBool:=fun hu hv h=>by
  rcases bU hu with ⟨i,t,rfl,rfl⟩ | ⟨x,t,rfl,rfl⟩
  · rcases bU hv with ⟨j,u,rfl,rfl⟩ | ⟨y,u,rfl,rfl⟩
    · rw [yz] at h;exact wpAny_eqBool_int h
    · rw [yF] at h;exact SeqAt.EqAt.int_str i t y u _ _ _ _ h
  · rcases bU hv with ⟨j,u,rfl,rfl⟩ | ⟨y,u,rfl,rfl⟩
    · rw [xR] at h;exact SeqAt.EqAt.str_int x t j u _ _ _ _ h
    · rw [yE] at h;exact wpAny_eqBool_str h
 «strs»:=fun k x t v h=>by
  rcases bU h with ⟨i,u,rfl,e⟩ | ⟨y,u,rfl,e⟩
  · exact nomatch e
  · injection e with e1 _;subst e1;cases v <;> rfl
end L2
namespace L2
open PySem PySem.Spec PyProof.Rows
set_option genInjectivity true in
inductive V where
 | non | bl (b:Bool) | int (i:Int) | str (x:Ss) | byt (b:Array UInt8) | flt (b:UInt64) | ref (a:Sa) | ty (n:String)
 deriving DecidableEq
def RelV:V->Sb->Prop
 | .non,u=>u=Ux
 | .bl b,u=>u=Value.bool b
 | .int i,u=>∃ t,u=Value.int i t
 | .str x,u=>∃ t,u=Value.str x t
 | .byt b,u=>∃ t,u=Value.bytes b t
 | .flt b,u=>∃ t,u=Value.float b t
 | .ref a,u=>u=Ue a
 | .ty n,u=>u=Value.type n
abbrev Vals:List V->List Sb->Prop:=To RelV
theorem Vals.length {xs:List V} {us:List Sb} (r:Vals xs us):xs.length=us.length:=SK r
theorem Vals.get:∀ {xs:List V} {us:List Sb} {i:Nat} {x:V},Vals xs us->xs[i]?=some x->∃ u,us[i]?=some u/\RelV x u
 | _,_,_,_,.nil,e=>by simp at e
 | _,_,0,_,.cons r _,e=>by simp at e;subst e;exact ⟨_,rfl,r⟩
 | _,_,i+1,x,.cons _ t,e=>by
   obtain ⟨u,h1,h2⟩:=Vals.get (i:=i) (x:=x) t (by simpa using e);exact ⟨u,by simpa using h1,h2⟩
theorem Vals.set {x:V} {u:Sb} (r:RelV x u):∀ {xs:List V} {us:List Sb} (i:Nat),Vals xs us->Vals (xs.set i x) (us.set i u)
 | _,_,_,.nil=>.nil
 | _,_,0,.cons _ t=>.cons r t
 | _,_,i+1,.cons q t=>.cons q (Vals.set r i t)
theorem Vals.append:∀ {xs ys:List V} {us ws:List Sb},Vals xs us->Vals ys ws->Vals (xs++ys) (us++ws)
 | _,_,_,_,.nil,s=>s
 | _,_,_,_,.cons r t,s=>.cons r (Vals.append t s)
theorem Vals.take:∀ {xs:List V} {us:List Sb} (n:Nat),Vals xs us->Vals (xs.take n) (us.take n)
 | _,_,0,_=>.nil
 | _,_,_+1,.nil=>.nil
 | _,_,n+1,.cons r t=>.cons r (Vals.take n t)
theorem Vals.drop:∀ {xs:List V} {us:List Sb} (n:Nat),Vals xs us->Vals (xs.drop n) (us.drop n)
 | _,_,0,r=>r
 | _,_,_+1,.nil=>.nil
 | _,_,n+1,.cons _ t=>Vals.drop n t
def RelO:Option V->Option Sb->Prop
 | some v,some u=>RelV v u
 | none,none=>True
 | _,_=>False
def KV {κ:Type}:List (κ×V)->List (κ×Sb)->Prop:=To fun (p:κ×V) (q:κ×Sb)=>p.1=q.1/\RelV p.2 q.2
def kV:Key->V
 | .inl i=>.int i
 | .inr x=>.str x
inductive HO where
 /-- a list -/
 | lst (xs:List V)
 /-- a tuple (never changes) -/
 | tup (xs:List V)
 /-- a dict Gz keys are ints and texts;one Gz keys are tuples of ints and texts (C5 empty one is both) -/
 | dK (AQ:List (Key×V)) | dT (AQ:List (List Key×V))
 /-- a set of ints: its members,its size -/
 | set (S:Int->Bool) (n:Nat)
 /-- an instance of C5 class at C,its dict at dx,its attributes -/
 | ins (C dx:Sa) (fs:List (Ss×V))
 /-- C5 dict of C5 instance at x -/
 | own (x:Sa)
 /-- C5 dict of an exception -/
 | xd (fs:List (Ss×V))
 /-- a bound method,f of x -/
 | met (f x:Sa)
 /-- a range object lo,lo+1,.. below hi -/
 | rng (lo hi:Int)
 /-- a thing GA is known to C5 object (C5 script;a dict while a loop walks it): read,never written while it is so -/
 | frz (o:UU) (u:HO)
 /-- a code GB table -/
 | tbl (ps:Array Sb)
 /-- any other thing,by E6 is true of its one object (a def of MD own: Om a S n:=HO.ext fun h=>..) -/
 | ext (φ:T2->Prop)
abbrev Hp:=Sa->Option HO
def upd (H:Hp) (a:Sa) (o:HO):Hp:=fun b=>if b=a then some o else H b
theorem ae {H:Hp} {a:Sa} {o:HO}:upd H a o a=some o:=by unfold upd;rw [if_pos rfl]
theorem aq {H:Hp} {a b:Sa} {o:HO} (h:b≠a):upd H a o b=H b:=by unfold upd;rw [if_neg h]
theorem wI {H:Hp} {a:Sa} {o u:HO}:upd (upd H a o) a u=upd H a u:=by
 funext b;unfold upd;split <;> rfl
theorem tm {H:Hp} {a b:Sa} {o u:HO} (h:H a=some o) (h':H b=some u) (d:o≠u):a≠b:=by
 intro e;subst e;rw [h] at h';exact d (Su h')
theorem aM {H:Hp} {a b:Sa} {o:HO} (h:H a=some o) (h':H b=none):a≠b:=by
 intro e;subst e;rw [h] at h';cases h'
section
variable (P:SX) (w:Tq)
def ObjOk (H:Hp) (h:T2) (a:Sa):HO->Prop
 | .lst xs=>xs.length<=SQ/\∃ (its:List Sb) (n:Nat),Vals xs its/\h.get? a=some { cls:=.type "list",data:=.seq its.toArray n }
 | .tup xs=>xs.length<=SQ/\∃ (its:List Sb) (n:Nat),Vals xs its/\h.get? a=some { cls:=.type "tuple",data:=.seq its.toArray n }
 | .dK AQ=>AQ.length<=SQ/\(a == sysModules)=false/\∃ vs,KV AQ vs/\h.DictOf (oX P w) a vs
 | .dT AQ=>AQ.length<=SQ/\(a == sysModules)=false/\∃ xs:List (List Key×Sa×Sb),
  To (fun (p:List Key×V) (q:List Key×Sa×Sb)=>p.1=q.1/\H q.2.1=some (.tup (p.1.map kV))/\RelV p.2 q.2.2) AQ xs ∧
  ∃ o es ep,h.get? a=some o/\o.ExactDict/\o.data=.dict es ep/\es.toList=xs.map (entryOfKey (tupleKind (oX P w)))/\(xs.map (·.1)).Nodup
 | .set S n=>h.SetOf (intKind P w) a S n
 | .ins C dx fs=>H dx=some (.own a)/\fs.length<=1000/\dx≠a/\h.get? a=some (Vh C dx) ∧
  ∃ mA,h.Ns1 dx mA/\(∀ f,RelO (fs.lookup f) (mA f))/\PySem.Within mA (fs.map (·.1))
 | .own _=>∃ o,h.get? a=some o
 | .xd fs=>∃ mA,h.Ns1 a mA/\∀ f,RelO (fs.lookup f) (mA f)
 | .rng lo hi=>∃ t u v,h.get? a=some { cls:=.type "range",data:=.fields #[.int lo t,.int hi u,.int 1 v] }
 | .frz o u=>h.get? a=some o/\ObjOk H h a u
 | .tbl ps=>h.get? a=some { cls:=.none,data:=.fields ps }
 | .met f x=>h.get? a=some (X8 (.ref f) (.ref x))
 | .ext φ=>φ h/\(∃ o,h.get? a=some o)/\∀ h1 h2:T2,φ h1->(∀ o,h1.get? a=some o->h2.get? a=some o)->φ h2
def HOk (H:Hp) (h:T2):Prop:=∀ a o,H a=some o->ObjOk P w H h a o
end
section
variable {P:SX} {w:Tq} {H H':Hp} {h h':T2} {a:Sa} {o:HO}
theorem ObjOk.lt (x:ObjOk P w H h a o):a<h.objs.size:=by
 cases o with
 | lst xs=>obtain ⟨_,_,_,_,e⟩:=x;exact SD e
 | tup xs=>obtain ⟨_,_,_,_,e⟩:=x;exact SD e
 | dK AQ=>obtain ⟨_,_,_,_,o,_,_,e,_⟩:=x;exact SD e
 | dT AQ=>obtain ⟨_,_,_,_,o,_,_,e,_⟩:=x;exact SD e
 | set S n=>obtain ⟨o,_,_,_,e,_⟩:=x;exact SD e
 | ins C dx fs=>obtain ⟨_,_,_,e,_⟩:=x;exact SD e
 | own y=>obtain ⟨_,e⟩:=x;exact SD e
 | xd fs=>obtain ⟨_,⟨_,_,_,e,_⟩,_⟩:=x;exact SD e
 | rng lo hi=>obtain ⟨_,_,_,e⟩:=x;exact SD e
 | frz ob u=>obtain ⟨e,_⟩:=x;exact SD e
 | tbl ps=>exact SD (show h.get? a=some _ from x)
 | met f y=>exact SD (show h.get? a=some _ from x)
 | ext φ=>obtain ⟨_,⟨_,e⟩,_⟩:=x;exact SD e
theorem To.mapP {α β:Type} {F G:α->β->Prop}:∀ {GC:List α} {l₂:List β},To F GC l₂->(∀ a b,F a b->G a b)->To G GC l₂
 | _,_,.nil,_=>.nil
 | _,_,.cons r t,f=>.cons (f _ _ r) (To.mapP t f)
theorem ObjOk.stay (x:ObjOk P w H h a o) (k:∀ b u,(b=a∨H b=some (.own a))->h.get? b=some u->h'.get? b=some u)
 (ho:∀ b,H b=some (.own a)->H' b=some (.own a)) (ht:∀ b xs,H b=some (.tup xs)->H' b=some (.tup xs)):ObjOk P w H' h' a o:=by
 induction o with
 | lst xs=>obtain ⟨z,its,n,r,e⟩:=x;exact ⟨z,its,n,r,k _ _ (.inl rfl) e⟩
 | tup xs=>obtain ⟨z,its,n,r,e⟩:=x;exact ⟨z,its,n,r,k _ _ (.inl rfl) e⟩
 | dK AQ=>obtain ⟨z,y,vs,r,ob,es,ep,e,c⟩:=x;exact ⟨z,y,vs,r,ob,es,ep,k _ _ (.inl rfl) e,c⟩
 | dT AQ =>
   obtain ⟨z,y,xs,r,ob,es,ep,e,c⟩:=x;exact ⟨z,y,xs,To.mapP r fun p q z=>⟨z.1,ht _ _ z.2.1,z.2.2⟩,ob,es,ep,k _ _ (.inl rfl) e,c⟩
 | set S n=>obtain ⟨ob,es,ep,t,e,c⟩:=x;exact ⟨ob,es,ep,t,k _ _ (.inl rfl) e,c⟩
 | ins C dx fs =>
   obtain ⟨d,z,ne,e,mA,⟨od,es,ep,e2,c⟩,r⟩:=x;exact ⟨ho _ d,z,ne,k _ _ (.inl rfl) e,mA,⟨od,es,ep,k _ _ (.inr d) e2,c⟩,r⟩
 | own y=>obtain ⟨ob,e⟩:=x;exact ⟨ob,k _ _ (.inl rfl) e⟩
 | xd fs=>obtain ⟨mA,⟨od,es,ep,e,c⟩,r⟩:=x;exact ⟨mA,⟨od,es,ep,k _ _ (.inl rfl) e,c⟩,r⟩
 | rng lo hi=>obtain ⟨t,u,v,e⟩:=x;exact ⟨t,u,v,k _ _ (.inl rfl) e⟩
 | frz ob u ih=>obtain ⟨e,q⟩:=x;exact ⟨k _ _ (.inl rfl) e,ih q⟩
 | tbl ps =>
   have e:h.get? a=some { cls:=.none,data:=.fields ps }:=x;show h'.get? a=some { cls:=.none,data:=.fields ps };exact k a _ (.inl rfl) e
 | met f y =>
   have e:h.get? a=some (X8 (.ref f) (.ref y)):=x;show h'.get? a=some (X8 (.ref f) (.ref y));exact k a _ (.inl rfl) e
 | ext φ=>obtain ⟨p,⟨o,e⟩,st⟩:=x;exact ⟨st _ _ p fun o q=>k _ _ (.inl rfl) q,⟨o,k _ _ (.inl rfl) e⟩,st⟩
theorem HOk.lt (x:HOk P w H h) (e:H a=some o):a<h.objs.size:=(x a o e).lt
theorem HOk.fresh (x:HOk P w H h) (e:h.objs.size<=a):H a=none:=by
 cases q:H a with
 | none=>rfl
 | some u=>exact absurd (S8 (x.lt q) e) (TM _)
theorem HOk.kept (x:HOk P w H h) (k:∀ b u,h.get? b=some u->h'.get? b=some u):HOk P w H h':=fun a o e =>
 (x a o e).stay (fun b u _ q=>k b u q) (fun _ q=>q) fun _ _ q=>q
theorem HOk.laid (x:HOk P w H h) (k:∀ b u,h.get? b=some u->h'.get? b=some u) (hp:h.objs.size<=a) (new:ObjOk P w (upd H a o) h' a o):HOk P w (upd H a o) h':=fun b u e=>by
 have hn:=x.fresh hp;by_cases hb:b=a
 · subst hb;rw [ae] at e;cases e;exact new
 · rw [aq hb] at e;exact (x b u e).stay (fun c v _ q=>k c v q) (fun c q=>by rw [aq (aM q hn)];exact q) fun c xs q=>by rw [aq (aM q hn)];exact q
end
def Rd (H:Hp) (a:Sa) (u:HO):Prop:=H a=some u∨∃ o,H a=some (.frz o u)
theorem Rd.ok {P:SX} {w:Tq} {H:Hp} {h:T2} {a:Sa} {u:HO} (r:Rd H a u) (x:HOk P w H h):ObjOk P w H h a u:=by
 rcases r with r | ⟨o,r⟩
 · exact x a u r
 · obtain ⟨_,q⟩:=x a _ r;exact q
def Mut:Option HO->Prop
 | some (.lst _)=>True
 | some (.dK _)=>True
 | some (.dT _)=>True
 | some (.set _ _)=>True
 | some (.ins _ _ _)=>True
 | some (.ext _)=>True
 | _=>False
section
variable {P:SX} {w:Tq} {H:Hp} {h h':T2} {x e:Sa} {o':HO}
theorem HOk.write (ok:HOk P w H h) (mu:Mut (H x)) (he:e=x∨H e=some (.own x)) (k:∀ b u,b≠e->h.get? b=some u->h'.get? b=some u) (FY:∃ u,h'.get? e=some u)
 (new:ObjOk P w (upd H x o') h' x o'):HOk P w (upd H x o') h':=fun b u q=>by
 have GD:∀ c y,H c=some (.own y)->c≠x:=fun c y r z=>by subst z;rw [r] at mu;exact mu
 have JS:∀ c xs,H c=some (.tup xs)->c≠x:=fun c xs r z=>by subst z;rw [r] at mu;exact mu
 by_cases hb:b=x
 · subst hb;rw [ae] at q;cases q;exact new
 · rw [aq hb] at q;by_cases D8:b=e
   · have q':H b=some (.own x):=by
      rcases he with z | z
      · exact absurd (D8.trans z) hb
      · rw [D8];exact z
     rw [q] at q';cases q';obtain ⟨v,hv⟩:=FY;exact ⟨v,by rw [D8];exact hv⟩
   · refine (ok b u q).stay (fun c v hc r=>k c v ?_ r) (fun c r=>by rw [aq (GD c b r)];exact r) fun c xs r=>by rw [aq (JS c xs r)];exact r
     rcases hc with rfl | hc
     · exact D8
     · rintro rfl;rcases he with z | z
       · exact GD c b hc z
       · rw [hc] at z;cases z;exact hb rfl
end
structure Un (fs ex:List Sa) (H H':Hp) (h h':T2):Prop where
 keep:∀ b o,h.get? b=some o->H b=none->b∉fs->b∉ex->h'.get? b=some o
 slot:∀ b o,h.get? b=some o->H b=none->b∈fs->b∉ex->∃ sl,h'.get? b=some { o with slots:=sl }
 free:∀ b o,h.get? b=some o->H b=none->b∉ex->H' b=none
 there:∀ b o,h.get? b=some o->b∉ex->∃ o',h'.get? b=some o'
 tups:∀ b xs,H b=some (.tup xs)->H' b=some (.tup xs)
 frzs:∀ b o u,H b=some (.frz o u)->H' b=some (.frz o u)
 tbls:∀ b ps,H b=some (.tbl ps)->∃ more,H' b=some (.tbl (ps++more))
section
variable {fs FZ ex IY:List Sa} {H H1 H2:Hp} {h h1 h2 h':T2} {a x e:Sa} {o:HO}
theorem Un.any (u:Un fs ex H H1 h h1) {b:Sa} {ob:UU} (q:h.get? b=some ob) (n:H b=none) (hx:b∉ex):∃ sl,h1.get? b=some { ob with slots:=sl }:=by
 by_cases hb:b∈fs
 · exact u.slot b ob q n hb hx
 · exact ⟨ob.slots,u.keep b ob q n hb hx⟩
theorem Un.kept (k:∀ b u,h.get? b=some u->h'.get? b=some u):Un fs ex H H h h' :=
 ⟨fun b ob q _ _ _=>k b ob q,fun b ob q _ _ _=>⟨ob.slots,k b ob q⟩,fun _ _ _ n _=>n,fun b ob q _=>⟨ob,k b ob q⟩,fun _ _ q=>q,fun _ _ _ q=>q,fun _ ps q=>⟨#[],by rw [q];simp⟩⟩
theorem Un.refl:Un fs ex H H h h:=Un.kept fun _ _ q=>q
theorem Un.laid (k:∀ b u,h.get? b=some u->h'.get? b=some u) (hp:h.objs.size<=a) (hn:H a=none):Un fs ex H (upd H a o) h h' where
 keep:=fun b u q _ _ _=>k b u q
 slot:=fun b u q _ _ _=>⟨u.slots,k b u q⟩
 free:=fun b u q n _=>by rw [aq (Ti (S8 (SD q) hp))];exact n
 there:=fun b u q _=>⟨u,k b u q⟩
 tups:=fun b xs q=>by rw [aq (aM q hn)];exact q
 frzs:=fun b u xs q=>by rw [aq (aM q hn)];exact q
 tbls:=fun b ps q=>⟨#[],by rw [aq (aM q hn),q];simp⟩
theorem Un.write (mu:Mut (H x)) (he:e=x∨H e=some (.own x)) (k:∀ b u,b≠e->h.get? b=some u->h'.get? b=some u) (FY:∃ u,h'.get? e=some u):Un fs ex H (upd H x o) h h':=by
 have hx:∀ b,H b=none->b≠x:=fun b n z=>by subst z;rw [n] at mu;exact mu
 have hb:∀ b,H b=none->b≠e:=fun b n z=>by
  subst z;rcases he with r | r
  · exact hx b n r
  · rw [n] at r;cases r
 have hm:∀ b u,H b=some u->¬ Mut (some u)->b≠x:=fun b u q nm z=>by subst z;rw [q] at mu;exact nm mu
 refine ⟨fun b u q n _ _=>k b u (hb b n) q,fun b u q n _ _=>⟨u.slots,k b u (hb b n) q⟩,fun b u q n _=>by rw [aq (hx b n)];exact n,fun b u q _=>?_,
  fun b xs q=>by rw [aq (hm b _ q fun z=>z)];exact q,fun b u xs q=>by rw [aq (hm b _ q fun z=>z)];exact q,fun b ps q=>⟨#[],by rw [aq (hm b _ q fun z=>z),q];simp⟩⟩
 by_cases D8:b=e
 · subst D8;exact FY
 · exact ⟨u,k b u D8 q⟩
end
def trk (h:T2) (H:Hp):List Sa:=(Tw h.objs.size).filter fun a=>(H a).isSome
def oq (h:T2) (H:Hp):T2:=PySem.W.hideAll h (trk h H)
theorem tQ (h:T2) (H:Hp):(oq h H).objs.size=h.objs.size:=PySem.W.hideAll_size _ _
theorem uN {h:T2} {H:Hp} {b:Sa} {o:UU} (e:h.get? b=some o) (n:H b=none):(oq h H).get? b=some o :=
 PySem.W.hideAll_get _ e fun hm=>by
  have q:(H b).isSome=true:=(V5.mp hm).2;rw [n] at q;simp at q
theorem wJ {h:T2} {H:Hp} {b:Sa} {o:UU} (e:(oq h H).get? b=some o):h.get? b=some o/\H b=none:=by
 have e':h.get? b=some o:=PySem.W.of_hideAll (trk h H) e;refine ⟨e',?_⟩;cases q:H b with
 | none=>rfl
 | some x =>
   have hm:b∈trk h H:=V5.mpr ⟨UY.mpr (SD e'),by simp [q]⟩;have z:(oq h H).get? b=none:=PySem.W.hideAll_none (trk h H) hm;rw [z] at e;cases e
end L2
namespace L2
open PySem PySem.Spec PyProof.Rows
structure Mod (K:R8) (mg:Ss->Option Sb) (base:T2):Prop where
 kin:K.In base
 glob:base.Ns SW mg
 blt:∃ mb,base.Ns builtinsNs mb/\∀ x:Ss,x≠"__name__"->mb x=WV x
 nolimit:base.NoLimit
set_option genInjectivity true in
structure Cx where
 prog:SX
 w:Tq
 K:R8
 mg:Ss->Option Sb
 base:T2
 A:Tj
 N:List Ss
 s₀:Sf
 H₀:Hp
 env:XC
 outer:List XC
 stack:List XC
 ex:List Sa
 fn:Ss->Bool
 calm:Bool
 pn:List (Sa×UU)
 xe:Sb->Sf->Prop
def frs (l:List XC):List Sa:=l.filterMap (·.frame)
abbrev Cx.fs (X:Cx):List Sa:=frs X.outer
def Vis (sc:Vu) (x:Ss):Prop:=sc.names.lookup x=some .local∨sc.names.lookup x=some .cell∨sc.names.lookup x=some .free
def Loc (sc:Vu) (x:Ss):Prop:=sc.names.lookup x=some .local∨sc.names.lookup x=some .cell
def Look (env:XC) (h:T2) (m:Ss->Option Sb) (x:Ss) (u:Sb):Prop :=
 (env.kindOf x=some .local/\m x=some u)∨((env.kindOf x=some .cell∨env.kindOf x=some .free)/\∃ c,env.cells.lookup x=some c/\h.IsCell c (some u))
structure Cx.Ok (X:Cx):Prop where
 mod:Mod X.K X.mg X.base
 kind:X.env.scope.kind=.function
 glob:X.env.globals=SW
 blt:X.env.builtins=builtinsNs
 above:X.s₀.heap.objs.size<=X.env.locals
 inj:∀ x y c,X.env.cells.lookup x=some c->X.env.cells.lookup y=some c->x=y
 has:∀ x,(X.env.kindOf x=some .cell∨X.env.kindOf x=some .free)->∃ c,X.env.cells.lookup x=some c
 cab:∀ x c,X.fn x=true->X.env.cells.lookup x=some c->X.s₀.heap.objs.size<=c
 hd:X.calm=true->X.A.handled=none
 frames:X.A.frames=some X.stack
 stk:X.stack=X.outer∨(X.stack=X.env::X.outer/\X.env.frame=some X.env.locals)
 exf:∀ b∈X.ex,b≠X.env.locals/\∀ x c,X.env.cells.lookup x=some c->c≠b
 bs:∀ b o,X.base.get? b=some o->X.s₀.heap.get? b=some o/\X.H₀ b=none
 bsz:X.base.objs.size<=X.s₀.heap.objs.size
 noex:∀ b o,X.base.get? b=some o->b∉X.ex
 exfs:∀ b∈X.ex,b∉X.fs
 funs:X.s₀.heap.FunFrames X.base X.outer
 frf:∀ b∈X.fs,X.H₀ b=none
structure Inv (X:Cx) (pins:List (Sa×UU)) (σ:List (Option V)) (H:Hp) (s:Sf):Prop where
 ok:X.Ok
 os:s.os=X.s₀.os
 bare:XX s.gens
 base:Un X.fs X.ex X.H₀ H X.s₀.heap s.heap
 loc:∃ m,s.heap.Ns X.env.locals m/\∀ (i:Nat) (x:Ss) (v:V),X.N[i]?=some x->σ[i]?=some (some v)->Vis X.env.scope x->∃ u,RelV v u/\Look X.env s.heap m x u
 cell:∀ x c,X.env.cells.lookup x=some c->∃ v,s.heap.IsCell c v
 free:H X.env.locals=none
 freeC:∀ x c,X.env.cells.lookup x=some c->H c=none
 pin:∀ p∈X.pn++pins,s.heap.get? p.1=some p.2/\H p.1=none/\p.1≠X.env.locals/\p.1∉X.fs/\∀ v,p.2.data≠.cell v
 hok:HOk X.prog X.w H s.heap
 len:σ.length=X.N.length
section
variable {X:Cx} {pins:List (Sa×UU)} {σ:List (Option V)} {H H':Hp} {s:Sf} {h':T2}
theorem Cx.Ok.nofr (ok:X.Ok) {b:Sa} {o:UU} (e:X.base.get? b=some o):b∉X.fs:=fun hb=>by
 have:=(ok.funs.mem hb).1;rw [e] at this;cases this
theorem Inv.bs (I:Inv X pins σ H s):∀ b o,X.base.get? b=some o->s.heap.get? b=some o/\H b=none:=fun b o e =>
 ⟨I.base.keep b o (I.ok.bs b o e).1 (I.ok.bs b o e).2 (I.ok.nofr e) (I.ok.noex b o e),I.base.free b o (I.ok.bs b o e).1 (I.ok.bs b o e).2 (I.ok.noex b o e)⟩
theorem Inv.bk (I:Inv X pins σ H s):∀ b o,X.base.get? b=some o->s.heap.get? b=some o:=fun b o e=>(I.bs b o e).1
theorem Inv.mod (I:Inv X pins σ H s):Mod X.K X.mg X.base:=I.ok.mod
theorem Inv.kIn (I:Inv X pins σ H s):X.K.In s.heap:=I.ok.mod.kin.keeps I.bk
theorem Inv.lt (I:Inv X pins σ H s):X.env.locals<s.heap.objs.size:=let ⟨_,hn,_⟩:=I.loc;hn.lt
theorem Inv.sz (I:Inv X pins σ H s):X.s₀.heap.objs.size<=s.heap.objs.size:=TF I.ok.above (We I.lt)
theorem Inv.nofs (I:Inv X pins σ H s) {a:Sa} (h:s.heap.objs.size<=a):a∉X.fs:=fun hb=>by
 obtain ⟨_,o,ho,_⟩:=I.ok.funs.mem hb;exact absurd (S8 (SD ho) (TF I.sz h)) (TM _)
theorem Inv.cne (I:Inv X pins σ H s):∀ x c,X.env.cells.lookup x=some c->c≠X.env.locals:=fun x c e z=>by
 obtain ⟨v,o,ho,hd⟩:=I.cell x c e;obtain ⟨m,⟨o',es,ep,Cc,GF,_⟩,_⟩:=I.loc;rw [z,Cc] at ho;cases ho;rw [GF] at hd;cases hd
theorem Inv.funs (I:Inv X pins σ H s):s.heap.FunFrames X.base X.outer:=by
 have all:∀ (l:List XC),(∀ b∈frs l,b∈X.fs)->X.s₀.heap.FunFrames X.base l->s.heap.FunFrames X.base l:=by
  intro l;induction l with
  | nil=>intro _ _;trivial
  | cons env r ih =>
    intro hs hl;obtain ⟨hk,⟨L,o,hf,hn,ho,hd⟩,hr⟩:=hl;have hL:L∈X.fs:=hs L (by unfold frs;rw [Vy,hf];exact Sr);obtain ⟨sl,e⟩:=I.base.slot L o ho (I.ok.frf L hL) hL fun z=>I.ok.exfs L z hL;exact ⟨hk,⟨L,_,hf,hn,e,hd⟩,ih (fun b hb=>hs b (by unfold frs;rw [Vy,hf];exact Sk _ hb)) hr⟩
 exact all X.outer (fun _ hb=>hb) I.ok.funs
theorem Inv.stack (I:Inv X pins σ H s):s.heap.FunFrames X.base X.stack:=by
 rcases I.ok.stk with e | ⟨e,hf⟩
 · rw [e];exact I.funs
 · rw [e];obtain ⟨m,hn,_⟩:=I.loc;refine .cons (by rw [I.ok.kind];decide) hf hn ?_ I.funs;exact Heap.get?_none_of_le (TF I.ok.bsz I.ok.above)
theorem Inv.stkSub (I:Inv X pins σ H s):∀ b∈frs X.stack,b∈X.env.locals::X.fs:=fun b hb=>by
 rcases I.ok.stk with e | ⟨e,hf⟩
 · rw [e] at hb;exact Sk _ hb
 · rw [e] at hb;unfold frs at hb;rw [Vy,hf] at hb;exact hb
theorem Inv.stkFree (I:Inv X pins σ H s):∀ b∈frs X.stack,H b=none:=fun b hb=>by
 rcases Sn.mp (I.stkSub b hb) with e | hb
 · rw [e];exact I.free
 · obtain ⟨_,o,ho,_⟩:=I.ok.funs.mem hb;exact I.base.free b o ho (I.ok.frf b hb) fun z=>I.ok.exfs b z hb
theorem Inv.step {g':Array GenState} {t':Nat} {d':Drawn} {ch:List Sa} (I:Inv X pins σ H s)
 (D9:∀ b∈ch,(b∈X.ex∨X.s₀.heap.objs.size<=b)/\b≠X.env.locals/\(∀ x c,X.env.cells.lookup x=some c->c≠b)/\∀ p∈X.pn++pins,p.1≠b)
 (keep:∀ b o,b≠X.env.locals->b∉X.fs->b∉ch->s.heap.get? b=some o->H b=none->h'.get? b=some o)
 (slot:∀ b o,b≠X.env.locals->b∈X.fs->b∉ch->s.heap.get? b=some o->H b=none->∃ sl,h'.get? b=some { o with slots:=sl }) (free:∀ b o,b∉ch->s.heap.get? b=some o->H b=none->H' b=none)
 (there:∀ b o,b∉ch->s.heap.get? b=some o->∃ o',h'.get? b=some o')
 (tups:∀ b xs,H b=some (.tup xs)->H' b=some (.tup xs)) (frzs:∀ b o u,H b=some (.frz o u)->H' b=some (.frz o u)) (tbls:∀ b ps,H b=some (.tbl ps)->∃ more,H' b=some (.tbl (ps++more)))
 (ns:∀ m,s.heap.Ns X.env.locals m->h'.Ns X.env.locals m) (hok:HOk X.prog X.w H' h') (hg:XX g') :
 Inv X pins σ H' { s with heap:=h',gens:=g',drawn:=d',toks:=t' }:=by
 have ME:∀ b o,X.s₀.heap.get? b=some o->b≠X.env.locals:=fun b o e=>Ti (S8 (SD e) I.ok.above)
 have E7:∀ b o,X.s₀.heap.get? b=some o->b∉X.ex->b∉ch:=fun b o e hx hb=>by
  rcases (D9 b hb).1 with z | z
  · exact hx z
  · exact absurd (S8 (SD e) z) (TM _)
 have cellK:∀ x c,X.env.cells.lookup x=some c->∀ v,s.heap.IsCell c v->h'.IsCell c v:=fun x c e v ⟨o,ho,hd⟩=>by
  have GG:c∉ch:=fun z=>(D9 c z).2.2.1 x c e rfl;by_cases hc:c∈X.fs
  · obtain ⟨sl,q⟩:=slot c o (I.cne x c e) hc GG ho (I.freeC x c e);exact ⟨_,q,hd⟩
  · exact ⟨o,keep c o (I.cne x c e) hc GG ho (I.freeC x c e),hd⟩
 refine ⟨I.ok,I.os,hg,⟨fun b o e n hb hx=>?_,fun b o e n hb hx=>?_,fun b o e n hx=>?_,fun b o e hx=>?_,fun b xs e=>tups b xs (I.base.tups b xs e),fun b o xs e=>frzs b o xs (I.base.frzs b o xs e),fun b ps e=>?_⟩,?_,fun x c e=>?_,?_,fun x c e=>?_,fun p hp=>?_,hok,I.len⟩
 · exact keep b o (ME b o e) hb (E7 b o e hx) (I.base.keep b o e n hb hx) (I.base.free b o e n hx)
 · obtain ⟨sl,e1⟩:=I.base.slot b o e n hb hx;obtain ⟨Oo,e2⟩:=slot b _ (ME b o e) hb (E7 b o e hx) e1 (I.base.free b o e n hx);exact ⟨Oo,e2⟩
 · obtain ⟨o',e1⟩:=I.base.there b o e hx;exact free b o' (E7 b o e hx) e1 (I.base.free b o e n hx)
 · obtain ⟨o',e1⟩:=I.base.there b o e hx;exact there b o' (E7 b o e hx) e1
 · obtain ⟨m1,e1⟩:=I.base.tbls b ps e;obtain ⟨m2,e2⟩:=tbls b _ e1;exact ⟨m1++m2,by rw [e2,WQ]⟩
 · obtain ⟨m,hn,hl⟩:=I.loc;refine ⟨m,ns m hn,fun i x v e1 e2 e3=>?_⟩;obtain ⟨u,r,l⟩:=hl i x v e1 e2 e3;refine ⟨u,r,?_⟩;rcases l with l | ⟨k,c,e,z⟩
   · exact .inl l
   · exact .inr ⟨k,c,e,cellK x c e _ z⟩
 · obtain ⟨v,z⟩:=I.cell x c e;exact ⟨v,cellK x c e v z⟩
 · obtain ⟨m,⟨o,_,_,ho,_⟩,_⟩:=I.loc;exact free _ o (fun z=>(D9 _ z).2.1 rfl) ho I.free
 · obtain ⟨v,o,ho,hd⟩:=I.cell x c e;exact free c o (fun z=>(D9 c z).2.2.1 x c e rfl) ho (I.freeC x c e)
 · obtain ⟨e,n,ne,nf,d⟩:=I.pin p hp;have GG:p.1∉ch:=fun z=>(D9 p.1 z).2.2.2 p hp rfl;exact ⟨keep p.1 p.2 ne nf GG e n,free p.1 p.2 GG e n,ne,nf,d⟩
theorem Inv.un {t':Nat} (I:Inv X pins σ H s) (u:Un X.fs [] H H' s.heap h') (hok:HOk X.prog X.w H' h'):Inv X pins σ H' { s with heap:=h',toks:=t' }:=by
 obtain ⟨m,⟨o,es,ep,ho,r⟩,_⟩:=id I.loc;obtain ⟨sl,hL⟩:=u.any ho I.free (by simp)
 exact I.step (g':=s.gens) (d':=s.drawn) (ch:=[]) (fun _ z=>nomatch z) (fun b o _ hb _ e n=>u.keep b o e n hb (by simp)) (fun b o _ hb _ e n=>u.slot b o e n hb (by simp)) (fun b o _ e n=>u.free b o e n (by simp)) (fun b o _ e=>u.there b o e (by simp)) u.tups u.frzs u.tbls (fun m' hm=>by
  obtain ⟨o',JT,JU,Cc,r'⟩:=hm;rw [ho] at Cc;cases Cc;exact ⟨_,JT,JU,hL,r'⟩) hok I.bare
theorem Inv.call {g':Array GenState} {t':Nat} {d':Drawn} {ch:List Sa} (I:Inv X pins σ H s) (u:Un (frs X.stack) ch H H' s.heap h') (hok:HOk X.prog X.w H' h') (hg:XX g')
 (D9:∀ b∈ch,(b∈X.ex∨X.s₀.heap.objs.size<=b)/\b≠X.env.locals/\(∀ x c,X.env.cells.lookup x=some c->c≠b)/\∀ p∈X.pn++pins,p.1≠b) :
 Inv X pins σ H' { s with heap:=h',gens:=g',drawn:=d',toks:=t' }:=by
 obtain ⟨m,⟨o,es,ep,ho,r⟩,_⟩:=id I.loc;obtain ⟨sl,hL⟩:=u.any ho I.free fun z=>(D9 _ z).2.1 rfl
 exact I.step (ch:=ch) D9 (fun b o hL hb hc e n=>u.keep b o e n (fun z=>(Sn.mp (I.stkSub b z)).elim hL hb) hc) (fun b o _ _ hc e n=>u.any e n hc) (fun b o hc e n=>u.free b o e n hc) (fun b o hc e=>u.there b o e hc) u.tups u.frzs u.tbls (fun m' hm=>by
  obtain ⟨o',JT,JU,Cc,r'⟩:=hm;rw [ho] at Cc;cases Cc;exact ⟨_,JT,JU,hL,r'⟩) hok hg
theorem Inv.turned {t':Nat} {it:Sa} (I:Inv X pins σ H s) (k:∀ b o,b≠it->s.heap.get? b=some o->h'.get? b=some o) (hn:H it=none) (hL:it≠X.env.locals)
 (h1:it∈X.ex∨X.s₀.heap.objs.size<=it) (h2:∀ x c,X.env.cells.lookup x=some c->c≠it) (h3:∀ p∈X.pn++pins,p.1≠it):Inv X pins σ H { s with heap:=h',toks:=t' }:=by
 have GH:∀ b u,H b=some u->b≠it:=fun b u e z=>by rw [z,hn] at e;cases e
 refine I.step (g':=s.gens) (d':=s.drawn) (ch:=[it]) (fun b hb=>?_) (fun b o _ _ hc e _=>k b o (fun z=>hc (by simp [z])) e) (fun b o _ _ hc e _=>⟨o.slots,k b o (fun z=>hc (by simp [z])) e⟩) (fun _ _ _ _ n=>n)
  (fun b o hc e=>⟨o,k b o (fun z=>hc (by simp [z])) e⟩) (fun _ _ e=>e) (fun _ _ _ e=>e) (fun b ps e=>⟨#[],by rw [e];simp⟩) (fun m hm=>?_) (fun b u e=>?_) I.bare
 · have e:b=it:=by simpa using hb
   subst e;exact ⟨h1,hL,h2,h3⟩
 · obtain ⟨o,es,ep,ho,r⟩:=hm;exact ⟨o,es,ep,k _ o (VE hL) ho,r⟩
 · refine (I.hok b u e).stay (fun c v hc q=>k c v ?_ q) (fun _ q=>q) fun _ _ q=>q;rcases hc with z | z
   · rw [z];exact GH b u e
   · exact GH c _ z
theorem Inv.tok (I:Inv X pins σ H s) (t:Nat):Inv X pins σ H { s with toks:=t }:=I.un (h':=s.heap) (t':=t) Un.refl I.hok
theorem Inv.kept {t':Nat} (I:Inv X pins σ H s) (k:∀ b u,s.heap.get? b=some u->h'.get? b=some u):Inv X pins σ H { s with heap:=h',toks:=t' }:=I.un (Un.kept k) (I.hok.kept k)
theorem Inv.laid {a:Sa} {o:HO} {t':Nat} (I:Inv X pins σ H s) (k:∀ b u,s.heap.get? b=some u->h'.get? b=some u) (hp:s.heap.objs.size<=a) (new:ObjOk X.prog X.w (upd H a o) h' a o) :
 Inv X pins σ (upd H a o) { s with heap:=h',toks:=t' }:=I.un (Un.laid k hp (I.hok.fresh hp)) (I.hok.laid k hp new)
theorem Inv.write {x e:Sa} {o:HO} {t':Nat} (I:Inv X pins σ H s) (mu:Mut (H x)) (he:e=x∨H e=some (.own x)) (k:∀ b u,b≠e->s.heap.get? b=some u->h'.get? b=some u) (FY:∃ u,h'.get? e=some u)
 (new:ObjOk X.prog X.w (upd H x o) h' x o):Inv X pins σ (upd H x o) { s with heap:=h',toks:=t' }:=I.un (Un.write mu he k FY) (I.hok.write mu he k FY new)
theorem Inv.weak {f':List (Option V)} (I:Inv X pins σ H s) (hl:f'.length=σ.length) (w:∀ (i:Nat) v,f'[i]?=some (some v)->σ[i]?=some (some v)):Inv X pins f' H s :=
 ⟨I.ok,I.os,I.bare,I.base,let ⟨m,hn,Cz⟩:=I.loc;⟨m,hn,fun i x v e1 e2 e3=>Cz i x v e1 (w i v e2) e3⟩,I.cell,I.free,I.freeC,I.pin,I.hok,hl.trans I.len⟩
theorem Inv.pins_of {AE:List (Sa×UU)} (I:Inv X pins σ H s) (h:∀ p∈AE,s.heap.get? p.1=some p.2/\H p.1=none/\p.1≠X.env.locals/\p.1∉X.fs/\∀ v,p.2.data≠.cell v):Inv X AE σ H s :=
 ⟨I.ok,I.os,I.bare,I.base,I.loc,I.cell,I.free,I.freeC,fun p hp=>(Sv.mp hp).elim (fun z=>I.pin p (T7 _ z)) (h p),I.hok,I.len⟩
theorem jd {N:List Ss} (hN:N.Nodup) {i j:Nat} {x:Ss} (a:N[i]?=some x) (b:N[j]?=some x):i=j:=by
 obtain ⟨h1,e1⟩:=Sj.mp a;obtain ⟨h2,e2⟩:=Sj.mp b;exact (List.getElem_inj hN).mp (e1.trans e2.symm)
theorem nQ {M:Model} {A:Tj} {E:Sb->Sf->Prop} {i:Nat} {x:Ss} {v:V} {u:Sb} {Q:Unit->Sf->Prop} (I:Inv X pins σ H s) (hN:X.N.Nodup) (hi:X.N[i]?=some x) (hx:Loc X.env.scope x) (r:RelV v u)
 (h:∀ s',Inv X pins (σ.set i (some v)) H s'->(∃ a,Vc a s.heap s'.heap/\(a=X.env.locals∨X.env.cells.lookup x=some a))->Q () s') (hf:X.fn x=true∨X.env.scope.names.lookup x=some .local:=by first | exact .inl rfl | exact .inr rfl | assumption):SI M A (Xu X.env x u) Q E s:=by
 obtain ⟨m,hn,hl⟩:=id I.loc;have BZ:(X.env.scope.kind == .class || (X.env.scope.kind == .module && X.env.locals != X.env.globals))=false:=by rw [I.ok.kind];rfl
 have Ek:i<σ.length:=by rw [I.len];exact (Sj.mp hi).1
 have cne:=I.cne
 have tracked:∀ {a:Sa} {h':T2},(∃ o,s.heap.get? a=some o/\H a=none)->Vc a s.heap h'->HOk X.prog X.w H h':=fun {a h'} ha hs b ob e=>by
  obtain ⟨_,_,Cd⟩:=ha;refine (I.hok b ob e).stay (fun c w' hc q=>(hs.2 c ?_).trans q) (fun _ q=>q) fun _ _ q=>q;rintro rfl;rcases hc with rfl | hc
  · rw [Cd] at e;cases e
  · rw [Cd] at hc;cases hc
 rcases hx with hk | hk
 · refine wpAny_storeName_local hk hn (fun h' F0 hs=>?_) BZ;obtain ⟨oL,_,_,JV,_⟩:=id hn;refine h _ ⟨I.ok,I.os,I.bare,⟨fun b o e n hb hx=>?_,fun b o e n hb hx=>?_,I.base.free,fun b o e hx=>?_,I.base.tups,I.base.frzs,I.base.tbls⟩,⟨_,F0,fun j y v' e1 e2 e3=>?_⟩,fun y c e=>?_,I.free,I.freeC,fun p hp=>?_,tracked ⟨oL,JV,I.free⟩ hs,by simpa using I.len⟩ ⟨_,hs,.inl rfl⟩
   · exact (hs.2 b (Ti (S8 (SD e) I.ok.above))).trans (I.base.keep b o e n hb hx)
   · obtain ⟨sl,e1⟩:=I.base.slot b o e n hb hx;exact ⟨sl,(hs.2 b (Ti (S8 (SD e) I.ok.above))).trans e1⟩
   · obtain ⟨o',e1⟩:=I.base.there b o e hx;exact ⟨o',(hs.2 b (Ti (S8 (SD e) I.ok.above))).trans e1⟩
   · by_cases hj:j=i
     · subst hj;rw [hi] at e1;cases e1;rw [Ug Ek] at e2;cases e2;exact ⟨u,r,.inl ⟨hk,by simp⟩⟩
     · rw [UE (VE hj)] at e2;obtain ⟨u',r',q⟩:=hl j y v' e1 e2 e3;refine ⟨u',r',?_⟩;rcases q with ⟨k,e⟩ | ⟨k,c,e,z⟩
       · refine .inl ⟨k,?_⟩;have:y≠x:=fun e=>hj (jd hN e1 (e ▸ hi));simp [this,e]
       · exact .inr ⟨k,c,e,z.sameBut hs (cne y c e)⟩
   · obtain ⟨w',z⟩:=I.cell y c e;exact ⟨w',z.sameBut hs (cne y c e)⟩
   · obtain ⟨e,n,ne,nf,d⟩:=I.pin p hp;exact ⟨(hs.2 p.1 ne).trans e,n,ne,nf,d⟩
 · have JW:X.fn x=true:=by
    rcases hf with z | z
    · exact z
    · rw [z] at hk;cases hk
   obtain ⟨c,hc⟩:=I.ok.has x (.inl hk);obtain ⟨w',z⟩:=I.cell x c hc;refine wpAny_storeName_cell I.ok.kind hk hc z (fun h' BQ hs=>?_);obtain ⟨oc,JX,JY⟩:=id z;refine h { s with heap:=h' } ⟨I.ok,I.os,I.bare,⟨fun b o e n hb hx=>?_,fun b o e n hb hx=>?_,I.base.free,fun b o e hx=>?_,I.base.tups,I.base.frzs,I.base.tbls⟩,⟨m,hn.sameBut hs (VE (cne x c hc)),fun j y v' e1 e2 e3=>?_⟩,fun y c' e=>?_,I.free,I.freeC,fun p hp=>?_,tracked ⟨oc,JX,I.freeC x c hc⟩ hs,by simpa using I.len⟩ ⟨c,hs,.inr hc⟩
   · exact (hs.2 b (Ti (S8 (SD e) (I.ok.cab x c JW hc)))).trans (I.base.keep b o e n hb hx)
   · obtain ⟨sl,e1⟩:=I.base.slot b o e n hb hx;exact ⟨sl,(hs.2 b (Ti (S8 (SD e) (I.ok.cab x c JW hc)))).trans e1⟩
   · obtain ⟨o',e1⟩:=I.base.there b o e hx;exact ⟨o',(hs.2 b (Ti (S8 (SD e) (I.ok.cab x c JW hc)))).trans e1⟩
   · by_cases hj:j=i
     · subst hj;rw [hi] at e1;cases e1;rw [Ug Ek] at e2;cases e2;exact ⟨u,r,.inr ⟨.inl hk,c,hc,BQ⟩⟩
     · rw [UE (VE hj)] at e2;obtain ⟨u',r',q⟩:=hl j y v' e1 e2 e3;refine ⟨u',r',?_⟩;rcases q with q | ⟨k,c',e,z'⟩
       · exact .inl q
       · refine .inr ⟨k,c',e,z'.sameBut hs ?_⟩;rintro rfl;exact hj (jd hN e1 (I.ok.inj _ _ _ e hc ▸ hi))
   · by_cases F1:c'=c
     · subst F1;exact ⟨_,BQ⟩
     · obtain ⟨w2,z2⟩:=I.cell y c' e;exact ⟨w2,z2.sameBut hs F1⟩
   · obtain ⟨e,n,ne,nf,d⟩:=I.pin p hp;refine ⟨(hs.2 p.1 ?_).trans e,n,ne,nf,d⟩;intro q;rw [q,JX] at e;have q':oc=p.2:=Su e;exact d w' (by rw [<- q'];exact JY)
theorem gc {M:Model} {A:Tj} {E:Sb->Sf->Prop} {i:Nat} {x:Ss} {v:V} {u:Sb} {Q:Unit->Sf->Prop} (I:Inv X pins σ H s) (hN:X.N.Nodup) (hi:X.N[i]?=some x) (hx:Loc X.env.scope x) (r:RelV v u)
 (h:∀ s',Inv X pins (σ.set i (some v)) H s'->Q () s') (hf:X.fn x=true∨X.env.scope.names.lookup x=some .local:=by first | exact .inl rfl | exact .inr rfl | assumption):SI M A (Xu X.env x u) Q E s :=
 nQ I hN hi hx r (fun s' I' _=>h s' I') hf
theorem Inv.call' {s':Sf} {ch:List Sa} (I:Inv X pins σ H s) (ho:s'.os=s.os) (u:Un (frs X.stack) ch H H' s.heap s'.heap) (hok:HOk X.prog X.w H' s'.heap) (hg:XX s'.gens)
 (D9:∀ b∈ch,(b∈X.ex∨X.s₀.heap.objs.size<=b)/\b≠X.env.locals/\(∀ x c,X.env.cells.lookup x=some c->c≠b)/\∀ p∈X.pn++pins,p.1≠b):Inv X pins σ H' s':=by
 obtain ⟨h',g',d',t',o'⟩:=s';have e:o'=s.os:=ho;subst e;exact I.call (g':=g') (t':=t') (d':=d') u hok hg D9
end
abbrev XK:=Sb->Option Sa->Hp->Prop
abbrev St:=List (Option V)
abbrev VK:=V->Hp->Prop
abbrev TE:=St->Hp->VK->Prop
abbrev TT:=St->Hp->(Bool->Hp->Prop)->Prop
abbrev TA:=St->Hp->(List V->Hp->Prop)->Prop
structure Ends where
 nx:St->Hp->Prop
 rt:VK
 bk:St->Hp->Prop:=fun _ _=>False
 ct:St->Hp->Prop:=fun _ _=>False
abbrev TS:=Ends->St->Hp->Prop
def EP (X:Cx) (pins:List (Sa×UU)) (σ:St) (Q:VK) (u:Sb) (s':Sf):Prop:=∃ v H',Inv X pins σ H' s'/\RelV v u/\Q v H'
def TP (X:Cx) (pins:List (Sa×UU)) (σ:St) (Q:Bool->Hp->Prop) (b:Bool) (s':Sf):Prop:=∃ H',Inv X pins σ H' s'/\Q b H'
def AP (X:Cx) (pins:List (Sa×UU)) (σ:St) (Q:List V->Hp->Prop) (us:List Sb) (s':Sf):Prop:=∃ vs H',Inv X pins σ H' s'/\Vals vs us/\Q vs H'
def SP (X:Cx) (pins:List (Sa×UU)) (D:Ends) (f:Flow) (s':Sf):Prop :=
 match f with
 | .next=>∃ f' H',Inv X pins f' H' s'/\D.nx f' H'
 | .brk=>∃ f' H',Inv X pins f' H' s'/\D.bk f' H'
 | .cont=>∃ f' H',Inv X pins f' H' s'/\D.ct f' H'
 | .ret u=>∃ v f' H',Inv X pins f' H' s'/\RelV v u/\D.rt v H'
def PE (X:Cx) (e:TV) (t:TE):Prop :=
 ∀ (pins:List (Sa×UU)) (s:Sf) (σ:St) (H:Hp) (Q:VK),Inv X pins σ H s->t σ H Q->SI (SY X.prog X.w) X.A (U4 e X.env) (EP X pins σ Q) X.xe s
def PT (X:Cx) (e:TV) (t:TT):Prop :=
 ∀ (pins:List (Sa×UU)) (s:Sf) (σ:St) (H:Hp) (Q:Bool->Hp->Prop),Inv X pins σ H s->t σ H Q->SI (SY X.prog X.w) X.A (isTrue e X.env (U4 e X.env)) (TP X pins σ Q) X.xe s
def PW (X:Cx) (e:TV) (t:TT):Prop :=
 ∀ (whole:Sem Sb) (pins:List (Sa×UU)) (s:Sf) (σ:St) (H:Hp) (Q:Bool->Hp->Prop),Inv X pins σ H s->t σ H Q->SI (SY X.prog X.w) X.A (isTrue e X.env whole) (TP X pins σ Q) X.xe s
theorem PW.pt {X:Cx} {e:TV} {t:TT} (h:PW X e t):PT X e t:=h _
def PA (X:Cx) (es:List TV) (t:TA):Prop :=
 ∀ (pos:Wq) (pins:List (Sa×UU)) (s:Sf) (σ:St) (H:Hp) (Q:List V->Hp->Prop),Inv X pins σ H s->t σ H Q->SI (SY X.prog X.w) X.A (spliced (Wz pos (Tz es X.env))) (AP X pins σ Q) X.xe s
def PS (X:Cx) (st:Uo) (t:TS):Prop :=
 ∀ (pins:List (Sa×UU)) (s:Sf) (σ:St) (H:Hp) (D:Ends),Inv X pins σ H s->t D σ H->SI (SY X.prog X.w) X.A (exec st X.env) (SP X pins D) X.xe s
def PSs (X:Cx) (st:List Uo) (t:TS):Prop :=
 ∀ (pins:List (Sa×UU)) (s:Sf) (σ:St) (H:Hp) (D:Ends),Inv X pins σ H s->t D σ H->SI (SY X.prog X.w) X.A (execs st X.env) (SP X pins D) X.xe s
theorem thn {α:Type} {t:Sem α} {Q Q':α->Sf->Prop} {M:Model} {A:Tj} {E:Sb->Sf->Prop} {s:Sf} (h:SI M A t Q E s) (hQ:∀ a s,Q a s->Q' a s):SI M A t Q' E s:=T4 h hQ fun _ _ x=>x
end L2
namespace L2
open PySem PySem.Spec PyProof.Rows
section
variable {X:Cx}
inductive xG (i:Nat) (σ:St) (H:Hp) (Q:VK):Prop
 | mk (v:_) (Au:σ[i]?=some (some v)) (Av:Q v H):xG i σ H Q
def bN (i:Nat):TE:=xG i
def tC (v:V):TE:=fun _ H Q=>Q v H
theorem x8 {i:Nat} {x:Ss} {pos:Wq} (hN:X.N[i]?=some x) (hv:Vis X.env.scope x) (hd:(x == ("__debug__":Ss))=false:=by decide) (C6:(x == ("__classdict__":Ss))=false:=by decide):PE X (.Name x pos) (bN i):=by
 intro pins s σ H Q I h;obtain ⟨v,e,h⟩:=h;obtain ⟨m,hn,hl⟩:=I.loc;obtain ⟨u,r,l⟩:=hl i x v hN e hv;have fin:EP X pins σ Q u s:=⟨v,H,I,r,h⟩;rcases l with ⟨hk,hm⟩ | ⟨hk,c,hc,CP⟩
 · exact Wh (UI I.ok.kind hk hn hm fin) hd
 · rcases hk with hk | hk
   · exact Wh (wpAny_loadName_cell I.ok.kind hk hc CP fin) hd
   · exact Wh (wpAny_loadName_free I.ok.kind hk hc CP fin C6) hd
theorem af {i j pos}:PE X (.Constant (.int i) j pos) (tC (.int i)):=fun _ _ _ H _ I h=>wpAny_Constant_int ⟨.int i,H,I.tok _,⟨_,rfl⟩,h⟩
theorem dq {b j pos}:PE X (.Constant (.bool b) j pos) (tC (.bl b)):=fun _ _ _ H _ I h=>Constant_bool ⟨.bl b,H,I,rfl,h⟩
theorem qG {j pos}:PE X (.Constant .none j pos) (tC .non):=fun _ _ _ H _ I h=>Constant_none ⟨.non,H,I,rfl,h⟩
theorem aA {x j pos}:PE X (.Constant (.str x) j pos) (tC (.str x)):=fun _ _ _ H _ I h=>UH ⟨.str x,H,I.tok _,⟨_,rfl⟩,h⟩
def Gl (X:Cx) (x:Ss):Prop:=X.env.kindOf x=some .globalImplicit
theorem iU {E:Sb->Sf->Prop} {pins:List (Sa×UU)} {s:Sf} {σ:St} {H:Hp} {x:Ss} {u:Sb} {pos:Wq} {Q:Sb->Sf->Prop} (I:Inv X pins σ H s) (hg:Gl X x) (hm:X.mg x=some u) (h:Q u s)
 (hd:(x == ("__debug__":Ss))=false:=by decide):SI (SY X.prog X.w) X.A (U4 (.Name x pos) X.env) Q E s :=
 Xa I.ok.kind hg (Calls.loadGlobal_global (by rw [I.ok.glob];exact I.mod.glob.keeps I.bk) hm h) hd
theorem iC {E:Sb->Sf->Prop} {pins:List (Sa×UU)} {s:Sf} {σ:St} {H:Hp} {x:Ss} {u:Sb} {pos:Wq} {Q:Sb->Sf->Prop} (I:Inv X pins σ H s) (hg:Gl X x) (hm:X.mg x=none) (hv:WV x=some u) (h:Q u s)
 (hn:x≠"__name__":=by decide) (hd:(x == ("__debug__":Ss))=false:=by decide):SI (SY X.prog X.w) X.A (U4 (.Name x pos) X.env) Q E s:=by
 obtain ⟨mb,h1,h2⟩:=I.mod.blt;exact Xa I.ok.kind hg (Calls.loadGlobal_builtin (by rw [I.ok.glob];exact I.mod.glob.keeps I.bk) hm (by rw [I.ok.blt];exact h1.keeps I.bk) ((h2 x hn).trans hv) h) hd
theorem cF {x:Ss} {v:V} {u:Sb} {pos:Wq} (hg:Gl X x) (hm:X.mg x=some u) (r:RelV v u) (hd:(x == ("__debug__":Ss))=false:=by decide):PE X (.Name x pos) (tC v) :=
 fun _ _ _ H _ I h=>iU I hg hm ⟨v,H,I,r,h⟩ hd
theorem eH {x:Ss} {v:V} {u:Sb} {pos:Wq} (hg:Gl X x) (hm:X.mg x=none) (hv:WV x=some u) (r:RelV v u) (hn:x≠"__name__":=by decide) (hd:(x == ("__debug__":Ss))=false:=by decide):PE X (.Name x pos) (tC v) :=
 fun _ _ _ H _ I h=>iC I hg hm hv ⟨v,H,I,r,h⟩ hn hd
variable {a b:TV} {ta tb:TE} {pos:Wq}
variable {tA IZ:TT} {rest:List TV}
def zW (t u:TT):TT:=fun σ H Q=>t σ H fun c H1=>if c=true then u σ H1 Q else Q false H1
def tOr (t u:TT):TT:=fun σ H Q=>t σ H fun c H1=>if c=true then Q true H1 else u σ H1 Q
def zZ (t:TT):TT:=fun σ H Q=>t σ H fun c H1=>Q (!c) H1
theorem ll (ha:PT X a tA):PW X (.BoolOp .And [a] pos) tA:=by
 intro wh pins s σ H Q I h;refine isTrue_and (thn (ha pins s σ H Q I h) fun c s1 e=>?_);cases c with
 | true=>exact isTrue_and_nil e
 | false=>exact e
theorem eg (ha:PT X a tA):PW X (.BoolOp .Or [a] pos) tA:=by
 intro wh pins s σ H Q I h;refine isTrue_or (thn (ha pins s σ H Q I h) fun c s1 e=>?_);cases c with
 | false=>exact isTrue_or_nil e
 | true=>exact e
theorem oH (ha:PT X a tA) (hb:PW X (.BoolOp .And (b::rest) pos) IZ):PW X (.BoolOp .And (a::b::rest) pos) (zW tA IZ):=by
 intro wh pins s σ H Q I h;refine isTrue_and (thn (ha pins s σ H _ I h) fun c s1 ⟨H1,I1,q1⟩=>?_);cases c with
 | true=>exact hb wh pins s1 σ H1 Q I1 q1
 | false=>exact ⟨H1,I1,q1⟩
theorem eG (ha:PT X a tA) (hb:PW X (.BoolOp .Or (b::rest) pos) IZ):PW X (.BoolOp .Or (a::b::rest) pos) (tOr tA IZ):=by
 intro wh pins s σ H Q I h;refine isTrue_or (thn (ha pins s σ H _ I h) fun c s1 ⟨H1,I1,q1⟩=>?_);cases c with
 | true=>exact ⟨H1,I1,q1⟩
 | false=>exact hb wh pins s1 σ H1 Q I1 q1
theorem ck (ha:PT X a tA):PT X (.UnaryOp .Not a pos) (zZ tA):=by
 intro pins s σ H Q I h;exact isTrue_not (ha pins s σ H (fun c H1=>Q (!c) H1) I h)
def zC (ta tb:TE):TE:=fun σ H Q=>ta σ H fun x H1=>∃ c,x=.bl c/\if c=true then tb σ H1 Q else Q (.bl false) H1
def aal (ta tb:TE):TE:=fun σ H Q=>ta σ H fun x H1=>∃ c,x=.bl c/\if c=true then Q (.bl true) H1 else tb σ H1 Q
def zj (ta:TE):TE:=fun σ H Q=>ta σ H fun x H1=>∃ c,x=.bl c/\Q (.bl (!c)) H1
theorem fC {op} {t:TE} (h:PE X a t):PE X (.BoolOp op [a] pos) t:=fun pins s σ H Q I hw=>BoolOp_one (h pins s σ H Q I hw)
theorem dI (ha:PE X a ta) (hb:PE X (.BoolOp .And (b::rest) pos) tb):PE X (.BoolOp .And (a::b::rest) pos) (zC ta tb):=by
 intro pins s σ H Q I h;refine BoolOp_and (thn (ha pins s σ H _ I h) fun v s1 ⟨x,H1,I1,r1,q1⟩=>?_);obtain ⟨c,rfl,q1⟩:=q1;cases r1;refine UT ?_;cases c with
 | true=>exact hb pins s1 σ H1 Q I1 q1
 | false=>exact ⟨.bl false,H1,I1,rfl,q1⟩
theorem zw (ha:PE X a ta) (hb:PE X (.BoolOp .Or (b::rest) pos) tb):PE X (.BoolOp .Or (a::b::rest) pos) (aal ta tb):=by
 intro pins s σ H Q I h;refine BoolOp_or (thn (ha pins s σ H _ I h) fun v s1 ⟨x,H1,I1,r1,q1⟩=>?_);obtain ⟨c,rfl,q1⟩:=q1;cases r1;refine UT ?_;cases c with
 | false=>exact hb pins s1 σ H1 Q I1 q1
 | true=>exact ⟨.bl true,H1,I1,rfl,q1⟩
theorem rW (ha:PE X a ta):PE X (.UnaryOp .Not a pos) (zj ta):=by
 intro pins s σ H Q I h;refine UnaryOp_ (thn (ha pins s σ H _ I h) fun v s1 ⟨x,H1,I1,r1,q1⟩=>?_);obtain ⟨c,rfl,q1⟩:=q1;cases r1;exact not_of (UT ⟨.bl (!c),H1,I1,rfl,q1⟩)
end
end L2
namespace L2
open PySem PySem.Spec PyProof.Rows
def SqL (K:R8) (H:Hp) (a:Sa) (xs:List V):Prop :=
 Rd H a (.lst xs) ∨
  ∃ (o:UU) (its:Array Sb) (n:Nat),K.lookup a=some o/\o.cls=.type "list"/\o.dict=none/\o.data=.seq its n/\its.size<=SQ/\Vals xs its.toList
def SqT (K:R8) (H:Hp) (a:Sa) (xs:List V):Prop :=
 Rd H a (.tup xs) ∨
  ∃ (o:UU) (its:Array Sb) (n:Nat),K.lookup a=some o/\o.cls=.type "tuple"/\o.data=.seq its n/\its.size<=SQ/\Vals xs its.toList
def aah:Sb->Option V
 | .none=>some .non
 | .bool b=>some (.bl b)
 | .int i _=>some (.int i)
 | .str x _=>some (.str x)
 | .bytes b _=>some (.byt b)
 | .float b _=>some (.flt b)
 | .ref a=>some (.ref a)
 | .type n=>some (.ty n)
 | _=>none
theorem RelV.abs {x:V} {u:Sb} (r:RelV x u):aah u=some x:=by
 cases x with
 | non=>cases r;rfl
 | bl _=>cases r;rfl
 | int _=>obtain ⟨t,rfl⟩:=r;rfl
 | str _=>obtain ⟨t,rfl⟩:=r;rfl
 | byt _=>obtain ⟨t,rfl⟩:=r;rfl
 | flt _=>obtain ⟨t,rfl⟩:=r;rfl
 | ref _=>cases r;rfl
 | ty _=>cases r;rfl
theorem RelV.inj {x y:V} {u:Sb} (r:RelV x u) (q:RelV y u):x=y:=Su (r.abs.symm.trans q.abs)
theorem Vals.inj:∀ {xs ys:List V} {us:List Sb},Vals xs us->Vals ys us->xs=ys
 | _,_,_,.nil,.nil=>rfl
 | _,_,_,.cons r t,.cons r' t'=>by rw [r.inj r',Vals.inj t t']
section
variable {X:Cx} {pins:List (Sa×UU)} {σ:St} {H:Hp} {s:Sf} {a:Sa} {xs ys:List V}
theorem SqL.of {K:R8} (h:H a=some (.lst xs)):SqL K H a xs:=.inl (.inl h)
theorem SqT.of {K:R8} (h:H a=some (.tup xs)):SqT K H a xs:=.inl (.inl h)
theorem Inv.list (I:Inv X pins σ H s) (h:SqL X.K H a xs):∃ its:List Sb,Vals xs its/\PlainL s.heap a its.toArray/\xs.length<=SQ:=by
 rcases h with h | ⟨o,its,n,hk,hc,hd,hs,hz,r⟩
 · obtain ⟨z,its,n,r,e⟩:=h.ok I.hok;exact ⟨its,r,⟨_,n,e,rfl,rfl,rfl⟩,z⟩
 · refine ⟨its.toList,r,⟨o,n,I.kIn a o hk,hc,hd,by simpa using hs⟩,?_⟩;have e:=r.length;simp only [SE] at e;omega
theorem Inv.tuple (I:Inv X pins σ H s) (h:SqT X.K H a xs):∃ its:List Sb,Vals xs its/\IsTup s.heap a its.toArray/\xs.length<=SQ:=by
 rcases h with h | ⟨o,its,n,hk,hc,hs,hz,r⟩
 · obtain ⟨z,its,n,r,p⟩:=h.ok I.hok;exact ⟨its,r,⟨_,p,rfl,n,rfl⟩,z⟩
 · refine ⟨its.toList,r,⟨o,I.kIn a o hk,hc,n,by simpa using hs⟩,?_⟩;have e:=r.length;simp only [SE] at e;omega
theorem Inv.list_inj (I:Inv X pins σ H s) (h:SqL X.K H a xs) (h':SqL X.K H a ys):xs=ys:=by
 obtain ⟨its,r,⟨o,n,e,_,_,d⟩,_⟩:=I.list h;obtain ⟨its',r',⟨o',n',e',_,_,d'⟩,_⟩:=I.list h';rw [e] at e';cases e';rw [d] at d';injection d' with d1 _;have:its=its':=by simpa using congrArg Yi d1
 subst this;exact r.inj r'
theorem Inv.tuple_inj (I:Inv X pins σ H s) (h:SqT X.K H a xs) (h':SqT X.K H a ys):xs=ys:=by
 obtain ⟨its,r,⟨o,e,_,n,d⟩,_⟩:=I.tuple h;obtain ⟨its',r',⟨o',e',_,n',d'⟩,_⟩:=I.tuple h';rw [e] at e';cases e';rw [d] at d';injection d' with d1 _;have:its=its':=by simpa using congrArg Yi d1
 subst this;exact r.inj r'
end
abbrev Cx.wish (X:Cx) (E:Sb->Sf->Prop):Cx:={ X with xe:=E }
abbrev Cx.nox (X:Cx):Cx:=X.wish fun _ _=>False
theorem Cx.Ok.wish {X:Cx} (ok:X.Ok) (E:Sb->Sf->Prop):(X.wish E).Ok :=
 ⟨ok.mod,ok.kind,ok.glob,ok.blt,ok.above,ok.inj,ok.has,ok.cab,ok.hd,ok.frames,ok.stk,ok.exf,ok.bs,ok.bsz,ok.noex,ok.exfs,ok.funs,ok.frf⟩
theorem Cx.Ok.unwish {X:Cx} {E:Sb->Sf->Prop} (ok:(X.wish E).Ok):X.Ok :=
 ⟨ok.mod,ok.kind,ok.glob,ok.blt,ok.above,ok.inj,ok.has,ok.cab,ok.hd,ok.frames,ok.stk,ok.exf,ok.bs,ok.bsz,ok.noex,ok.exfs,ok.funs,ok.frf⟩
section
variable {X:Cx} {pins:List (Sa×UU)} {σ:St} {H:Hp} {s:Sf} {E:Sb->Sf->Prop}
theorem Inv.wish (I:Inv X pins σ H s) (E:Sb->Sf->Prop):Inv (X.wish E) pins σ H s:=⟨I.ok.wish E,I.os,I.bare,I.base,I.loc,I.cell,I.free,I.freeC,I.pin,I.hok,I.len⟩
theorem Inv.unwish (I:Inv (X.wish E) pins σ H s):Inv X pins σ H s:=⟨I.ok.unwish,I.os,I.bare,I.base,I.loc,I.cell,I.free,I.freeC,I.pin,I.hok,I.len⟩
theorem SP.unwish {D:Ends} {f:Flow} {s':Sf} (h:SP (X.wish E) pins D f s'):SP X pins D f s':=by
 cases f with
 | next=>obtain ⟨f',H',I,q⟩:=h;exact ⟨f',H',I.unwish,q⟩
 | brk=>obtain ⟨f',H',I,q⟩:=h;exact ⟨f',H',I.unwish,q⟩
 | cont=>obtain ⟨f',H',I,q⟩:=h;exact ⟨f',H',I.unwish,q⟩
 | ret u=>obtain ⟨v,f',H',I,r,q⟩:=h;exact ⟨v,f',H',I.unwish,r,q⟩
theorem PSs.nox {st:List Uo} {t:TS} (h:PSs X.nox st t):PSs X st t:=fun pins s σ H D I hw =>
 T4 (h pins s σ H D (I.wish _) hw) (fun _ _ q=>q.unwish) fun _ _ z=>UC z
end
section
variable {X:Cx} {st:Uo} {rest:List Uo} {t u:TS} {e:TV} {te:TE} {pos:Wq}
def cX:TS:=fun D σ H=>D.nx σ H
def wx (t u:TS):TS:=fun D σ H=>t { D with nx:=u D } σ H
theorem aB:PSs X [] cX:=fun _ _ σ H _ I h=>Vw ⟨σ,H,I,h⟩
theorem ad (h1:PS X st t) (h2:PSs X rest u):PSs X (st::rest) (wx t u):=by
 intro pins s σ H D I h;refine Xr (thn (h1 pins s σ H { D with nx:=u D } I h) fun f s1 q=>?_);cases f with
 | next =>
   obtain ⟨f',H',I',q⟩:=q;exact h2 pins s1 f' H' D I' q
 | ret v=>exact q
 | brk=>exact q
 | cont=>exact q
theorem ag (h1:PS X st t):PSs X [st] t:=by
 intro pins s σ H D I h;refine Xr (thn (h1 pins s σ H D I h) fun f s1 q=>?_);cases f with
 | next=>exact Vw q
 | ret v=>exact q
 | brk=>exact q
 | cont=>exact q
theorem Inv.quiet {pins:List (Sa×UU)} {σ:St} {H:Hp} {s:Sf} (I:Inv X pins σ H s):interactive X.env=false:=by simp [interactive,I.ok.kind]
def xz (te:TE):TS:=fun D σ H=>te σ H fun _ H1=>D.nx σ H1
theorem bq (he:PE X e te) (hs:Xs e none pos.line X.env=pure false:=by rfl):PS X (.Expr e pos) (xz te):=by
 intro pins s σ H D I h;exact wpAny_Expr_any (thn (he pins s σ H _ I h) fun v s1 ⟨x,H1,I1,r1,q1⟩=>⟨σ,H1,I1,q1⟩) I.quiet hs
def aag (te:TE):TS:=fun D σ H=>te σ H D.rt
theorem ax (he:PE X e te):PS X (.Return (some e) pos) (aag te):=by
 intro pins s σ H D I h;exact wpAny_Return_some (thn (he pins s σ H _ I h) fun v s1 ⟨x,H1,I1,r1,q1⟩=>⟨x,σ,H1,I1,r1,q1⟩)
def zD (c:TT) (t u:TS):TS:=fun D σ H=>c σ H fun b H1=>if b=true then t D σ H1 else u D σ H1
theorem aJ {c:TV} {a b:List Uo} {tc:TT} (hc:PT X c tc) (ha:PSs X a t) (hb:PSs X b u):PS X (.If c a b pos) (zD tc t u):=by
 intro pins s σ H D I h;refine wpAny_If (thn (hc pins s σ H _ I h) fun d s1 ⟨H1,I1,q1⟩=>?_);cases d with
 | true=>exact ha pins s1 σ H1 D I1 q1
 | false=>exact hb pins s1 σ H1 D I1 q1
end
abbrev TG:=V->St->Hp->(St->Hp->Prop)->Prop
abbrev TGs:=List V->St->Hp->(St->Hp->Prop)->Prop
def PG (X:Cx) (target:TV) (t:TG):Prop :=
 ∀ (pins:List (Sa×UU)) (s:Sf) (σ:St) (H:Hp) (v:V) (u:Sb) (Q:St->Hp->Prop),Inv X pins σ H s->RelV v u->t v σ H Q →
   SI (SY X.prog X.w) X.A (X3 target X.env u) (fun _ s'=>∃ f' H',Inv X pins f' H' s'/\Q f' H') X.xe s
def PGs (X:Cx) (ts:List TV) (t:TGs):Prop :=
 ∀ (pins:List (Sa×UU)) (s:Sf) (σ:St) (H:Hp) (vs:List V) (us:List Sb) (Q:St->Hp->Prop),Inv X pins σ H s->Vals vs us->t vs σ H Q →
   SI (SY X.prog X.w) X.A (assignInOrder ((WG ts X.env).map (·.2)) us) (fun _ s'=>∃ f' H',Inv X pins f' H' s'/\Q f' H') X.xe s
abbrev uF:=V->V->V->Hp->(Hp->Prop)->Prop
def ym (X:Cx) (t:uF):Prop :=
 ∀ (pins:List (Sa×UU)) (s:Sf) (σ:St) (H:Hp) (o i v:V) (ov iv u:Sb) (Q:Hp->Prop),Inv X pins σ H s->RelV o ov->RelV i iv->RelV v u->t o i v H Q →
   SI (SY X.prog X.w) X.A (setItem ov iv u) (fun _ s'=>∃ H',Inv X pins σ H' s'/\Q H') X.xe s
abbrev TIp:=V->V->Hp->VK->Prop
def PIp (X:Cx) (op:Operator) (t:TIp):Prop :=
 ∀ (pins:List (Sa×UU)) (s:Sf) (σ:St) (H:Hp) (x y:V) (v u:Sb) (Q:VK),Inv X pins σ H s->RelV x v->RelV y u->t x y H Q →
   SI (SY X.prog X.w) X.A (inplaceOp op v u) (EP X pins σ Q) X.xe s
section
variable {X:Cx} {pos:Wq}
def aC (i:Nat):TG:=fun v σ H Q=>Q (σ.set i (some v)) H
theorem ay {i:Nat} {x:Ss} (hN:X.N.Nodup) (hi:X.N[i]?=some x) (hx:Loc X.env.scope x) (hf:X.fn x=true∨X.env.scope.names.lookup x=some .local:=by first | exact .inl rfl | exact .inr rfl | assumption):PG X (.Name x pos) (aC i):=by
 intro pins s σ H v u Q I r h;exact Xh (gc I hN hi hx r (fun s' I'=>⟨_,H,I',h⟩) hf)
def zL:TGs:=fun vs σ H Q=>vs=[]/\Q σ H
def yL (t:TG) (u:TGs):TGs:=fun vs σ H Q=>∃ v r,vs=v::r/\t v σ H fun f' H'=>u r f' H' Q
theorem fq:PGs X [] zL:=by
 intro pins s σ H vs us Q I r h;obtain ⟨e,h⟩:=h;subst e;cases r;exact assignInOrder_nil ⟨σ,H,I,h⟩
theorem bK {e:TV} {es:List TV} {t:TG} {u:TGs} (h1:PG X e t) (h2:PGs X es u)
 (hs:(WG (e::es) X.env).map (·.2)=X3 e X.env::(WG es X.env).map (·.2):=by rfl):PGs X (e::es) (yL t u):=by
 intro pins s σ H vs us Q I r h;obtain ⟨v,vr,e1,h⟩:=h;subst e1;cases r with
 | cons r rr =>
   rw [hs];refine assignInOrder_cons (thn (h1 pins s σ H _ _ _ I r h) fun _ s1 ⟨AV,H1,I1,q1⟩=>?_);exact h2 pins s1 AV H1 _ _ Q I1 rr q1
def aat (K:R8) (n:Nat) (t:TGs):TG:=fun v σ H Q=>∃ a xs,v=.ref a/\SqT K H a xs/\xs.length=n/\t xs σ H Q
theorem jO {es:List TV} {k:Nat} {t:TGs} {n:Nat} (hc:X.calm=true) (h:PGs X es t)
 (hn:(WG es X.env).length=n:=by rfl) (AI:(WG es X.env).findIdx? (·.1)=none:=by rfl):PG X (.Tuple es k pos) (aat X.K n t):=by
 intro pins s σ H v u Q I r hw;obtain ⟨a,xs,e1,hq,hl,hw⟩:=hw;subst e1;cases r;obtain ⟨its,rv,ht,hz⟩:=I.tuple hq;refine assign_Tuple_tuple (I.ok.hd hc) ht (by simp [hn,<- hl,rv.length]) AI fun h' hx=>?_;have I1:Inv X pins σ H { s with heap:=h' }:=I.kept (t':=s.toks) fun b o e=>hx b o (Ti (SD e)) e;exact h pins _ σ H xs _ Q I1 (by simpa using rv) hw
def aab (to ti:TE) (t:uF):TG:=fun v σ H Q=>to σ H fun o H1=>ti σ H1 fun i H2=>t o i v H2 fun H3=>Q σ H3
theorem l7 {o i:TV} {to ti:TE} {t:uF} (ho:PE X o to) (hi:PE X i ti) (hs:ym X t)
 (ha:∀ v,X3 (.Subscript o i pos) X.env v=(do
  let ov ← holding [v] (U4 o X.env)
  let iv ← holding [v,ov] (U4 i X.env)
  standAt pos
  holding [v,ov,iv] (setItem ov iv v)
  release [v,ov,iv] []):=by intro _;rfl):PG X (.Subscript o i pos) (aab to ti t):=by
 intro pins s σ H v u Q I r h;rw [ha];refine R9 (Ve (thn (ho pins s σ H _ I h) fun ov s1 ⟨x,H1,I1,r1,q1⟩=>?_));refine R9 (Ve (thn (hi pins s1 σ H1 _ I1 q1) fun iv s2 ⟨y,H2,I2,r2,q2⟩=>?_));refine R9 (Xo (R9 (Ve (thn (hs pins s2 σ H2 x y v ov iv u _ I2 r1 r2 r q2) fun _ s3 ⟨H3,I3,q3⟩=>?_))));exact wpAny_release ⟨σ,H3,I3,q3⟩
def sk (te:TE) (g:TG):TS:=fun D σ H=>te σ H fun x H1=>g x σ H1 D.nx
theorem fX {tg e:TV} {te:TE} {g:TG} (he:PE X e te) (hg:PG X tg g) (hs:swapsWithSole [tg] e pos.line X.env=pure false:=by rfl) (hw:swappedStores [tg] e X.env=pure none:=by rfl)
 (h1:(WG [tg] X.env).map (·.2)=[X3 tg X.env]:=by rfl):PS X (.Assign [tg] e pos) (sk te g):=by
 intro pins s σ H D I h;refine wpAny_Assign_stores (thn (he pins s σ H _ I h) fun v s1 ⟨x,H1,I1,r1,q1⟩=>?_) hs hw;rw [h1];exact thn (hg pins s1 σ H1 x v _ I1 r1 q1) fun _ s2 q=>q
theorem ar {i:Nat} {x:Ss} {e:TV} {te:TE} {pos':Wq} (hN:X.N.Nodup) (hi:X.N[i]?=some x) (hx:Loc X.env.scope x) (he:PE X e te) (hs:Xs e (some (.Name x pos')) pos.line X.env=pure false:=by rfl) (hf:X.fn x=true∨X.env.scope.names.lookup x=some .local:=by first | exact .inl rfl | exact .inr rfl | assumption) :
 PS X (.Assign [.Name x pos'] e pos) (sk te (aC i)):=by
 intro pins s σ H D I h;refine wpAny_Assign_Name (thn (he pins s σ H _ I h) fun v s1 ⟨y,H1,I1,r1,q1⟩=>?_) hs;exact gc I1 hN hi hx r1 (fun s2 I2=>⟨_,H1,I2,q1⟩) hf
def aas (i:Nat) (te:TE) (ti:TIp):TS:=fun D σ H=>∃ x,σ[i]?=some (some x)/\te σ H fun y H1=>ti x y H1 fun z H2=>D.nx (σ.set i (some z)) H2
theorem rC {i:Nat} {x:Ss} {e:TV} {te:TE} {op:Operator} {ti:TIp} {pos':Wq} (hN:X.N.Nodup) (hi:X.N[i]?=some x) (hx:Loc X.env.scope x) (he:PE X e te) (ho:PIp X op ti) (hf:X.fn x=true∨X.env.scope.names.lookup x=some .local:=by first | exact .inl rfl | exact .inr rfl | assumption) :
 PS X (.AugAssign (.Name x pos') op e pos) (aas i te ti):=by
 intro pins s σ H D I h;obtain ⟨v,e1,h⟩:=h;obtain ⟨m,hn,hl⟩:=I.loc;have MF:Vis X.env.scope x:=by rcases hx with k | k;exact .inl k;exact .inr (.inl k)
 obtain ⟨u,r,l⟩:=hl i x v hi e1 MF;refine wpAny_AugAssign_Name ?_
 have go:SI (SY X.prog X.w) X.A (U4 e X.env) (fun w Bi=>SI (SY X.prog X.w) X.A (inplaceOp op u w) (fun r BF=>SI (SY X.prog X.w) X.A (Xu X.env x r) (fun _=>SP X pins D .next) X.xe BF) X.xe Bi) X.xe s:=by
  refine thn (he pins s σ H _ I h) fun w s1 ⟨y,H1,I1,r1,q1⟩=>?_;refine thn (ho pins s1 σ H1 v y u w _ I1 r r1 q1) fun z s2 ⟨zv,H2,I2,r2,q2⟩=>?_;exact gc I2 hN hi hx r2 (fun s3 I3=>⟨_,H2,I3,q2⟩) hf
 rcases l with ⟨hk,hm⟩ | ⟨hk,c,hc,CP⟩
 · exact UI I.ok.kind hk hn hm go
 · rcases hk with hk | hk
   · exact wpAny_loadName_cell I.ok.kind hk hc CP go
   · rcases hx with k | k
     · have:X.env.scope.names.lookup x=some .free:=hk;rw [k] at this;cases this
     · have:X.env.scope.names.lookup x=some .free:=hk;rw [k] at this;cases this
def za (to ti te:TE) (El:V->V->Hp->VK->Prop) (Ja:TIp) (Em:uF):TS:=fun D σ H=>to σ H fun o H1=>ti σ H1 fun i H2=>El o i H2 fun x H3=>te σ H3 fun y H4=>Ja x y H4 fun z H5=>Em o i z H5 fun H6=>D.nx σ H6
def yU (X:Cx) (t:V->V->Hp->VK->Prop):Prop :=
 ∀ (pins:List (Sa×UU)) (s:Sf) (σ:St) (H:Hp) (o i:V) (ov iv:Sb) (Q:VK),Inv X pins σ H s->RelV o ov->RelV i iv->t o i H Q →
   SI (SY X.prog X.w) X.A (XF ov iv) (EP X pins σ Q) X.xe s
theorem w8 {o i e:TV} {to ti te:TE} {El:V->V->Hp->VK->Prop} {Ja:TIp} {Em:uF} {op:Operator} {En:Wq} (ho:PE X o to) (hi:PE X i ti) (hg:yU X El) (he:PE X e te) (hp:PIp X op Ja) (hs:ym X Em)
 (ha:∀ ov iv new,augStore i ov iv new=(do holding [new,ov,iv] (setItem ov iv new);release [new,ov,iv] [];pure .next):=by intros;rfl):PS X (.AugAssign (.Subscript o i En) op e pos) (za to ti te El Ja Em):=by
 intro pins s σ H D I h;refine wpAny_AugAssign_SubscriptAny (thn (ho pins s σ H _ I h) fun ov s1 ⟨x1,H1,I1,r1,q1⟩=>?_) ha;refine thn (hi pins s1 σ H1 _ I1 q1) fun iv s2 ⟨x2,H2,I2,r2,q2⟩=>?_;refine thn (hg pins s2 σ H2 x1 x2 ov iv _ I2 r1 r2 q2) fun old s3 ⟨x3,H3,I3,r3,q3⟩=>?_;refine thn (he pins s3 σ H3 _ I3 q3) fun v s4 ⟨x4,H4,I4,r4,q4⟩=>?_;refine thn (hp pins s4 σ H4 x3 x4 old v _ I4 r3 r4 q4) fun new s5 ⟨x5,H5,I5,r5,q5⟩=>?_;exact thn (hs pins s5 σ H5 x1 x2 x5 ov iv new _ I5 r1 r2 r5 q5) fun _ s6 ⟨H6,I6,q6⟩=>⟨σ,H6,I6,q6⟩
def ipI (f:Int->Int->Int):TIp:=fun x y H Q=>∃ i j,x=.int i/\y=.int j/\Q (.int (f i j)) H
theorem pi:PIp X .Add (ipI fun i j=>i+j):=by
 intro pins s σ H x y v u Q I r1 r2 h;obtain ⟨i,j,e1,e2,q⟩:=h;subst e1;subst e2;obtain ⟨t,rfl⟩:=r1;obtain ⟨t',rfl⟩:=r2;exact iadd_int ⟨.int _,H,I.tok _,⟨_,rfl⟩,q⟩
end
section
variable {X:Cx} {pos:Wq}
def yA (c:TT) (tb:TS):TS:=fun D σ H=>∃ W:Nat->St->Hp->Prop,(∃ m,W m σ H)/\∀ m σ H,W m σ H →
 c σ H fun b H1=>if b=true then ∃ N:St->Hp->Prop,(∀ f' H',N f' H'->∃ m',m'<m/\W m' f' H')/\tb { D with nx:=N,ct:=N,bk:=D.nx } σ H1 else D.nx σ H1
theorem lC {c:TV} {body:List Uo} {tc:TT} {tb:TS} (hp:PassesOwn (SY X.prog X.w) X.A X.env X.xe) (hc:PT X c tc) (hb:PSs X body tb):PS X (.While c body [] pos) (yA tc tb):=by
 intro pins s σ H D I h;obtain ⟨W,⟨m0,w0⟩,turn⟩:=h;refine wpAny_While (codeAny_whileLoop (fun n s'=>∃ f' H',Inv X pins f' H' s'/\W n f' H') ?_ m0 ⟨σ,H,I,w0⟩);rintro n s1 ⟨AV,H1,I1,w1⟩;refine Ur hp (thn (hc pins s1 AV H1 _ I1 (turn n AV H1 w1)) fun b s2 ⟨H2,I2,q2⟩=>?_);cases b with
 | true =>
   obtain ⟨N,hN,q2⟩:=q2;rw [if_pos rfl];refine Ur hp (thn (hb pins s2 AV H2 _ I2 q2) fun f s3 q3=>?_);cases f with
   | next =>
     obtain ⟨Ce,H3,I3,n3⟩:=q3;obtain ⟨m',hm,w3⟩:=hN Ce H3 n3;exact ⟨m',hm,Ce,H3,I3,w3⟩
   | cont =>
     obtain ⟨Ce,H3,I3,n3⟩:=q3;obtain ⟨m',hm,w3⟩:=hN Ce H3 n3;exact ⟨m',hm,Ce,H3,I3,w3⟩
   | brk=>exact q3
   | ret v=>exact q3
 | false =>
   rw [if_neg Sz];exact Vw ⟨AV,H2,I2,q2⟩
end
structure It where
 go:Nat->Hp->Prop
 yld:Nat->Hp->V->Hp->Prop
 stop:Nat->Hp->Prop
def eV (X:Cx) (pins:List (Sa×UU)) (H:Hp) (b:Sa):Prop :=
 H b=none/\b≠X.env.locals/\b∉X.fs/\(b∈X.ex∨X.s₀.heap.objs.size<=b)/\(∀ x c,X.env.cells.lookup x=some c->c≠b)/\∀ p∈X.pn++pins,p.1≠b
theorem Inv.fpOk {X:Cx} {pins:List (Sa×UU)} {σ:St} {H H':Hp} {s:Sf} {b:Sa} (I:Inv X pins σ H s) (hb:s.heap.objs.size<=b) (hn:H' b=none):eV X pins H' b:=by
 refine ⟨hn,UW (S8 I.lt hb),I.nofs hb,.inr (TF I.sz hb),fun x c e z=>?_,fun p hp z=>?_⟩
 · obtain ⟨v,q⟩:=I.cell x c e;exact absurd (S8 q.lt (by rw [z];exact hb)) (TM _)
 · exact absurd (S8 (SD (I.pin p hp).1) (by rw [z];exact hb)) (TM _)
structure Turn (P:SX) (w:Tq) (K:R8) (tg:TV) (J:It) (fp:List Sa) (it:Sa) (tn:Nat->T2->Prop):Prop where
 mem:it∈fp
 obj:∀ i h,tn i h->∀ b∈fp,∃ o,h.get? b=some o/\∀ v,o.data≠.cell v
 keep:∀ i h h',tn i h->(∀ b∈fp,∀ o,h.get? b=some o->h'.get? b=some o)->tn i h'
 item:∀ (X:Cx),X.prog=P->X.w=w->X.K=K->X.calm=true->∀ (i:Nat) (pins:List (Sa×UU)) (s:Sf) (σ:St) (H:Hp) (E:Sb->Sf->Prop),Inv X pins σ H s->(∀ b∈fp,eV X pins H b)->tn i s.heap->J.go i H →
  SI (SY P w) X.A (X1 (.ref it)) (fun r s1=>∃ u,r=some u ∧
   SI (SY P w) X.A (WT tg (.ref it) u) (fun _ s2=>∃ x H',Inv X pins σ H' s2/\RelV x u/\J.yld i H x H'/\tn (i+1) s2.heap/\∀ b∈fp,H' b=none) E s1) E s
 done:∀ (X:Cx),X.prog=P->X.w=w->X.K=K->X.calm=true->∀ (i:Nat) (pins:List (Sa×UU)) (s:Sf) (σ:St) (H:Hp) (E:Sb->Sf->Prop),Inv X pins σ H s->(∀ b∈fp,eV X pins H b)->tn i s.heap->J.stop i H →
  SI (SY P w) X.A (X1 (.ref it)) (fun r s1=>r=none/\Inv X pins σ H s1) E s
 self:∀ (A:Tj) (i:Nat) (s:Sf) (Q:Sb->Sf->Prop) (E:Sb->Sf->Prop),tn i s.heap->Q (.ref it) s->SI (SY P w) A (pyIter (.ref it)) Q E s
abbrev TI:=St->Hp->(It->Hp->Prop)->Prop
def PIE (X:Cx) (pins:List (Sa×UU)) (σ:St) (tg:TV) (R:It->Hp->Prop) (GI:Sb) (s2:Sf):Prop :=
 ∃ (it:Sa) (fp:List Sa) (tn:Nat->T2->Prop) (J:It) (H':Hp),GI=.ref it/\Inv X pins σ H' s2/\Turn X.prog X.w X.K tg J fp it tn/\tn 0 s2.heap/\(∀ b∈fp,eV X pins H' b)/\R J H'
def PI (X:Cx) (tg iter:TV) (wi:TI):Prop :=
 ∀ (pins:List (Sa×UU)) (s:Sf) (σ:St) (H:Hp) (R:It->Hp->Prop),Inv X pins σ H s->wi σ H R →
   SI (SY X.prog X.w) X.A (U4 iter X.env) (fun v s1=>SI (SY X.prog X.w) X.A (pyIter v) (PIE X pins σ tg R) X.xe s1) X.xe s
theorem lO {M:Model} {A:Tj} {E:Sb->Sf->Prop} {s:Sf} {tg:TV} {it:Sa} {u:Sb} {o:UU} {n:String} {vs:Array Sb} {Q:Unit->Sf->Prop} (ho:s.heap.get? it=some o) (hc:o.cls=.type n) (hd:o.data=.fields vs)
 (hn:["enumerate","zip","dict_itemiterator","dict_reverseitemiterator","odict_iterator","itertools.zip_longest","itertools.pairwise"].contains n=false) (hQ:Q () s):SI M A (WT tg (.ref it) u) Q E s:=by
 unfold WT
 cases tg <;> first
  | exact SA hQ
  | (cases u <;> first
   | exact SA hQ
   | (refine R9 (wpAny_load ho ?_)
      rw [hc,hd];show SI M A (if (["enumerate","zip","dict_itemiterator","dict_reverseitemiterator","odict_iterator","itertools.zip_longest","itertools.pairwise"].contains n && vs[0]? == some (WE _))=true then _ else _) Q E s;rw [if_neg (by intro h;rw [hn,Wg] at h;cases h)];exact SA hQ))
def Itl (K:R8) (a:Sa):It :=
 ⟨fun i H=>∃ xs x,SqL K H a xs/\xs[i]?=some x,fun i H x H'=>H'=H/\∀ xs,SqL K H a xs->xs[i]?=some x,fun i H=>∃ xs,SqL K H a xs/\xs.length<=i⟩
def Itt (K:R8) (a:Sa):It :=
 ⟨fun i H=>∃ xs x,SqT K H a xs/\xs[i]?=some x,fun i H x H'=>H'=H/\∀ xs,SqT K H a xs->xs[i]?=some x,fun i H=>∃ xs,SqT K H a xs/\xs.length<=i⟩
def Itr (lo:Int) (n:Nat):It:=⟨fun i _=>i<n,fun i H x H'=>H'=H/\x=.int (lo+i),fun i _=>n<=i⟩
theorem nP {P:SX} {w:Tq} {K:R8} {tg:TV} (a it:Sa):Turn P w K tg (Itl K a) [it] it (fun i h=>h.IsListIter it a i) where
 mem:=by simp
 obj:=fun i h st b hb=>by
  have e:b=it:=by simpa using hb
  subst e;obtain ⟨o,e,c,d⟩:=st;exact ⟨o,e,fun v z=>by rw [d] at z;cases z⟩
 keep:=fun i h h' st k=>st.at fun o e=>k it (by simp) o e
 item:=by
  intro X hP hw hK hc i pins s σ H E I hf st hg;subst hP hw hK;obtain ⟨xs,x,hq,hx⟩:=hg;obtain ⟨its,rv,p,hz⟩:=I.list hq;obtain ⟨u,hu,ru⟩:=rv.get hx;obtain ⟨f0,f1,f2,f3,f4,f5⟩:=hf it (by simp);refine wpAny_pyNext_list_item st p.isList (x:=u) (by simpa using hu) fun h' By sb=>?_;have I1:Inv X pins σ H { s with heap:=h' }:=I.turned (t':=s.toks) (fun b o hb e=>(sb.2 b hb).trans e) f0 f1 f3 f4 f5;obtain ⟨o,e,c,d⟩:=id By;exact ⟨u,rfl,lO (s:={ s with heap:=h' }) e c d (by decide) ⟨x,H,I1,ru,⟨rfl,fun ys hy=>by rw [I.list_inj hy hq];exact hx⟩,By,fun b hb=>(hf b hb).1⟩⟩
 done:=by
  intro X hP hw hK hc i pins s σ H E I hf st hg;subst hP hw hK;obtain ⟨xs,hq,hx⟩:=hg;obtain ⟨its,rv,p,hz⟩:=I.list hq;obtain ⟨f0,f1,f2,f3,f4,f5⟩:=hf it (by simp);have hl:=rv.length;exact wpAny_pyNext_list_end (I.ok.hd hc) st p.isList (by simp;omega) fun h' eb=>⟨rfl,I.turned (t':=s.toks) (fun b o hb e=>eb b o hb e) f0 f1 f3 f4 f5⟩
 self:=fun _ _ _ _ _ st h=>wpAny_pyIter_listiter st h
theorem lZ {P:SX} {w:Tq} {K:R8} {tg:TV} (a it:Sa):Turn P w K tg (Itt K a) [it] it (fun i h=>h.IsTupleIter it a i) where
 mem:=by simp
 obj:=fun i h st b hb=>by
  have e:b=it:=by simpa using hb
  subst e;obtain ⟨o,e,c,d⟩:=st;exact ⟨o,e,fun v z=>by rw [d] at z;cases z⟩
 keep:=fun i h h' st k=>st.at fun o e=>k it (by simp) o e
 item:=by
  intro X hP hw hK hc i pins s σ H E I hf st hg;subst hP hw hK;obtain ⟨xs,x,hq,hx⟩:=hg;obtain ⟨its,rv,p,hz⟩:=I.tuple hq;obtain ⟨u,hu,ru⟩:=rv.get hx;obtain ⟨f0,f1,f2,f3,f4,f5⟩:=hf it (by simp);refine wpAny_pyNext_tuple_item st (show s.heap.IsTuple a its.toArray from p) (x:=u) (by simpa using hu) fun h' By sb=>?_;have I1:Inv X pins σ H { s with heap:=h' }:=I.turned (t':=s.toks) (fun b o hb e=>(sb.2 b hb).trans e) f0 f1 f3 f4 f5;obtain ⟨o,e,c,d⟩:=id By;exact ⟨u,rfl,lO (s:={ s with heap:=h' }) e c d (by decide) ⟨x,H,I1,ru,⟨rfl,fun ys hy=>by rw [I.tuple_inj hy hq];exact hx⟩,By,fun b hb=>(hf b hb).1⟩⟩
 done:=by
  intro X hP hw hK hc i pins s σ H E I hf st hg;subst hP hw hK;obtain ⟨xs,hq,hx⟩:=hg;obtain ⟨its,rv,p,hz⟩:=I.tuple hq;obtain ⟨f0,f1,f2,f3,f4,f5⟩:=hf it (by simp);have hl:=rv.length;exact wpAny_pyNext_tuple_end (I.ok.hd hc) st (show s.heap.IsTuple a its.toArray from p) (by simp;omega) fun h' eb=>⟨rfl,I.turned (t':=s.toks) (fun b o hb e=>eb b o hb e) f0 f1 f3 f4 f5⟩
 self:=fun _ _ _ _ _ st h=>wpAny_pyIter_tupleiter st h
theorem rN {P:SX} {w:Tq} {K:R8} {tg:TV} (it:Sa) (lo:Int) (n:Nat):Turn P w K tg (Itr lo n) [it] it (fun i h=>IsRangeIter h it (lo+(i:Nat) * 1) ((n:Int) - (i:Nat)) 1) where
 mem:=by simp
 obj:=fun i h st b hb=>by
  have e:b=it:=by simpa using hb
  subst e
  exact ⟨_,st,fun v z=>by
   have z':Data.fields _=Data.cell v:=z;cases z'⟩
 keep:=fun i h h' st k=>k it (by simp) _ st
 item:=by
  intro X hP hw hK hc i pins s σ H E I hf st hg;subst hP hw hK;obtain ⟨f0,f1,f2,f3,f4,f5⟩:=hf it (by simp);have W:=Walks.range (prog:=X.prog) (w:=X.w) (I.ok.hd hc) it lo 1 n;refine W.item i s _ _ hg st fun v h' tk hv By kk=>?_;obtain ⟨t,rfl⟩:=hv;have I1:Inv X pins σ H { s with heap:=h',toks:=tk }:=I.turned (fun b o hb e=>kk b o (by simpa using hb) e) f0 f1 f3 f4 f5;refine ⟨_,rfl,lO (s:={ s with heap:=h',toks:=tk }) (n:="range_iterator") By rfl rfl (by decide) ⟨.int (lo+i),H,I1,⟨t,?_⟩,⟨rfl,rfl⟩,By,fun b hb=>(hf b hb).1⟩⟩;rw [Int.mul_one]
 done:=by
  intro X hP hw hK hc i pins s σ H E I hf st hg;subst hP hw hK;obtain ⟨f0,f1,f2,f3,f4,f5⟩:=hf it (by simp);exact wpAny_pyNext_range_end (I.ok.hd hc) st (by have:n<=i:=hg;omega) fun h' eb=>⟨rfl,I.turned (t':=s.toks) (fun b o hb e=>eb b o hb e) f0 f1 f3 f4 f5⟩
 self:=fun _ _ _ _ _ st h=>wpAny_pyIter_rangeiter st h
end L2
namespace L2
open PySem PySem.Spec PyProof.Rows
section
variable {X:Cx} {tg:TV}
def yZ (K:R8) (tl:TE):TI:=fun σ H R=>tl σ H fun x H1=>∃ a,x=.ref a/\(∃ xs,SqL K H1 a xs)/\R (Itl K a) H1
def aac (K:R8) (tl:TE):TI:=fun σ H R=>tl σ H fun x H1=>∃ a,x=.ref a/\(∃ xs,SqT K H1 a xs)/\R (Itt K a) H1
theorem fG {l:TV} {tl:TE} (hl:PE X l tl):PI X tg l (yZ X.K tl):=by
 intro pins s σ H R I h;refine thn (hl pins s σ H _ I h) fun v s1 ⟨x,H1,I1,r1,q1⟩=>?_;obtain ⟨a,e,⟨xs,hq⟩,q⟩:=q1;subst e;cases r1;obtain ⟨its,rv,p,hz⟩:=I1.list hq;refine Xg p.isList ?_;refine ⟨s1.heap.objs.size,[s1.heap.objs.size],_,_,H1,rfl,I1.kept (t':=s1.toks) fun b o e=>Se _ e,nP a _,⟨_,Sx _ rfl,rfl,rfl⟩,fun b hb=>?_,q⟩;have e:b=s1.heap.objs.size:=by simpa using hb
 subst e;exact I1.fpOk (Sg _) (I1.hok.fresh (Sg _))
theorem dD {l:TV} {tl:TE} (hl:PE X l tl):PI X tg l (aac X.K tl):=by
 intro pins s σ H R I h;refine thn (hl pins s σ H _ I h) fun v s1 ⟨x,H1,I1,r1,q1⟩=>?_;obtain ⟨a,e,⟨xs,hq⟩,q⟩:=q1;subst e;cases r1;obtain ⟨its,rv,p,hz⟩:=I1.tuple hq;refine W5 (show s1.heap.IsTuple a its.toArray from p) ?_;refine ⟨s1.heap.objs.size,[s1.heap.objs.size],_,_,H1,rfl,I1.kept (t':=s1.toks) fun b o e=>Se _ e,lZ a _,⟨_,Sx _ rfl,rfl,rfl⟩,fun b hb=>?_,q⟩;have e:b=s1.heap.objs.size:=by simpa using hb
 subst e;exact I1.fpOk (Sg _) (I1.hok.fresh (Sg _))
theorem vi {pins:List (Sa×UU)} {σ:St} {H:Hp} {s:Sf} {R:It->Hp->Prop} {E:Sb->Sf->Prop} {lo hi:Int} {t u v:Tok} {tk:Nat} (I:Inv X pins σ H s) (h1:-(2 ^ 62)<=lo) (h2:lo<2 ^ 62) (h3:-(2 ^ 62)<=hi) (h4:hi<2 ^ 62)
 (q:R (Itr lo (hi - lo).toNat) H):SI (SY X.prog X.w) X.A (pyIter (.ref s.heap.objs.size)) (PIE X pins σ tg R) E { s with heap:=s.heap.push { cls:=.type "range",data:=.fields #[.int lo t,.int hi u,.int 1 v] },toks:=tk }:=by
 refine wpAny_pyIter_range (IsRange.new ..) (small_one h1 h2 h3 h4) ?_;have I1:Inv X pins σ H { s with heap:=s.heap.push { cls:=.type "range",data:=.fields #[.int lo t,.int hi u,.int 1 v] },toks:=tk }:=I.kept fun b o e=>Se _ e
 refine ⟨(s.heap.push { cls:=.type "range",data:=.fields #[.int lo t,.int hi u,.int 1 v] }).objs.size,[(s.heap.push { cls:=.type "range",data:=.fields #[.int lo t,.int hi u,.int 1 v] }).objs.size],_,_,H,rfl,
  I1.kept (t':=tk) fun b o e=>Se _ e,rN _ lo (hi - lo).toNat,?_,fun b hb=>?_,q⟩
 · have e1:lo+((0:Nat):Int) * 1=lo:=by simp
   have e2:(((hi - lo).toNat:Nat):Int) - ((0:Nat):Int)=Builtin.Range.rangeSize lo hi 1:=by rw [rangeSize_one];split <;> omega
   show IsRangeIter _ _ (lo+((0:Nat):Int) * 1) ((((hi - lo).toNat:Nat):Int) - ((0:Nat):Int)) 1;rw [e1,e2];exact Sx _ rfl
 · have e:b=(s.heap.push { cls:=.type "range",data:=.fields #[.int lo t,.int hi u,.int 1 v] }).objs.size:=by simpa using hb
   subst e;exact I1.fpOk (Sg _) (I1.hok.fresh (Sg _))
def yS (ta:TA):TI:=fun σ H R=>ta σ H fun vs H1=>∃ j:Int,vs=[.int j]/\-(2 ^ 62)<=j/\j<2 ^ 62/\R (Itr 0 j.toNat) H1
theorem br {a:TV} {ta:TA} {p pos:Wq} (hg:Gl X "range") (hm:X.mg "range"=none) (ha:PA X [a] ta) (hs:Tz [a] X.env=[(false,U4 a X.env)]:=by rfl):PI X tg (.Call (.Name "range" p) [a] [] pos) (yS ta):=by
 intro pins s σ H R I h;refine Call_ (iC I hg hm boot_range (U6 (thn (ha pos pins s σ H _ I h) fun us s1 ⟨vs,H1,I1,r1,q1⟩=>?_) hs rfl));obtain ⟨j,e,q1,q2,q⟩:=q1;subst e;cases r1 with
 | cons r rr =>
   cases rr;obtain ⟨t,rfl⟩:=r;exact call_range_1 (vi I1 (by omega) (by omega) q1 q2 (by simpa using q))
def zR (wi:TI) (g:TG) (tb:TS):TS:=fun D σ H=>wi σ H fun J H1=>∃ W:Nat->Nat->St->Hp->Prop,(∃ m,W 0 m σ H1)/\∀ i m σ H,W i m σ H →
 (J.stop i H/\D.nx σ H)∨(J.go i H/\∃ N:St->Hp->Prop,(∀ f' H',N f' H'->∃ m',m'<m/\W (i+1) m' f' H')/\∀ x H',J.yld i H x H'->g x σ H' fun AB H2=>tb { D with nx:=N,ct:=N,bk:=D.nx } AB H2)
def iA (fp:List Sa) (h:T2):List (Sa×UU):=fp.filterMap fun b=>(h.get? b).map fun o=>(b,o)
theorem cu {fp:List Sa} {h:T2} {b:Sa} {o:UU} (hb:b∈fp) (e:h.get? b=some o):(b,o)∈iA fp h:=WN.mpr ⟨b,hb,by rw [e];rfl⟩
theorem tO {fp:List Sa} {h:T2} {p:Sa×UU} (hp:p∈iA fp h):p.1∈fp/\h.get? p.1=some p.2:=by
 obtain ⟨b,hb,e⟩:=WN.mp hp;cases q:h.get? b with
 | none=>rw [q] at e;cases e
 | some o =>
   rw [q] at e;have e':(b,o)=p:=Su e;subst e';exact ⟨hb,q⟩
theorem Inv.pinned {pins:List (Sa×UU)} {σ:St} {H:Hp} {s:Sf} {fp:List Sa} (I:Inv X pins σ H s) (hf:∀ b∈fp,eV X pins H b) (ho:∀ b∈fp,∃ o,s.heap.get? b=some o/\∀ v,o.data≠.cell v):Inv X (pins++iA fp s.heap) σ H s :=
 I.pins_of fun p hp=>(Sv.mp hp).elim (fun z=>I.pin p (SU _ z)) fun z=>by
  obtain ⟨hb,e⟩:=tO z;obtain ⟨f0,f1,f2,_⟩:=hf p.1 hb;obtain ⟨o,e',d⟩:=ho p.1 hb;rw [e] at e';cases e';exact ⟨e,f0,f1,f2,d⟩
theorem Inv.unpinned {pins pl:List (Sa×UU)} {σ:St} {H:Hp} {s:Sf} (I:Inv X (pins++pl) σ H s):Inv X pins σ H s:=I.pins_of fun p hp=>I.pin p (SU _ (T7 _ hp))
theorem bW {iter:TV} {body:List Uo} {wi:TI} {g:TG} {tb:TS} {pos:Wq} (hp:PassesOwn (SY X.prog X.w) X.A X.env X.xe) (hc:X.calm=true) (hi:PI X tg iter wi) (hg:PG X tg g) (hb:PSs X body tb)
 (hs:∀ x,Ww iter X.env x=pure x:=by intro _;rfl):PS X (.For tg iter body [] pos) (zR wi g tb):=by
 intro pins s σ H D I h;refine wpAny_For (thn (hi pins s σ H _ I h) fun v s1 h1=>thn h1 fun GI s2 h2=>?_) hs;obtain ⟨it,fp,tn,J,H2,e,I2,T,Eo,f2,W,⟨m0,w0⟩,turn⟩:=h2;subst e
 -- E6 stays true of C5 E8 objects through C5 loop
 have Be:∀ {H':Hp},(∀ b∈fp,H' b=none)->∀ b∈fp,eV X pins H' b:=fun hn b hb=>⟨hn b hb,(f2 b hb).2⟩;refine codeAny_forLoop_any (fun n s'=>∃ i f' H',Inv X pins f' H' s'/\tn i s'.heap/\(∀ b∈fp,H' b=none)/\W i n f' H') ?_ m0 ⟨0,σ,H2,I2,Eo,fun b hb=>(f2 b hb).1,w0⟩;rintro n s3 ⟨i,Ce,H3,I3,GJ,F2,w3⟩;rcases turn i n Ce H3 w3 with ⟨stop,qn⟩ | ⟨go,N,hN,step⟩
 · refine Ur hp (thn (T.done X rfl rfl rfl hc i pins s3 Ce H3 X.xe I3 (Be F2) GJ stop) fun r s4 ⟨hr,I4⟩=>?_);subst hr;exact Vw ⟨Ce,H3,I4,qn⟩
 · refine Ur hp (thn (T.item X rfl rfl rfl hc i pins s3 Ce H3 X.xe I3 (Be F2) GJ go) fun r s4 ⟨u,hr,h4⟩=>?_);subst hr;refine Ur hp (thn h4 fun _ s5 ⟨x,H5,I5,r5,y5,DA,E9⟩=>?_);have JZ:=I5.pinned (Be E9) (T.obj _ _ DA);refine Ur hp (thn (hg _ s5 Ce H5 x u _ JZ r5 (step x H5 y5)) fun _ s6 ⟨Oq,H6,I6,q6⟩=>?_);refine Ur hp (thn (hb _ s6 Oq H6 _ I6 q6) fun f s7 q7=>?_)
   have again:∀ {BR:St} {H7:Hp},Inv X (pins++iA fp s5.heap) BR H7 s7->N BR H7->∃ m,m<n/\∃ i f' H',Inv X pins f' H' s7/\tn i s7.heap/\(∀ b∈fp,H' b=none)/\W i m f' H':=fun {BR H7} I7 n7=>by
    obtain ⟨m',hm,w7⟩:=hN BR H7 n7;refine ⟨m',hm,i+1,BR,H7,I7.unpinned,T.keep _ _ _ DA fun b hb o e=>(I7.pin (b,o) (SU _ (SU _ (cu hb e)))).1,fun b hb=>?_,w7⟩;obtain ⟨o,e,d⟩:=T.obj _ _ DA b hb;exact (I7.pin (b,o) (SU _ (SU _ (cu hb e)))).2.1
   cases f with
   | next=>obtain ⟨BR,H7,I7,n7⟩:=q7;exact again I7 n7
   | cont=>obtain ⟨BR,H7,I7,n7⟩:=q7;exact again I7 n7
   | brk=>obtain ⟨BR,H7,I7,q7⟩:=q7;exact ⟨BR,H7,I7.unpinned,q7⟩
   | ret v=>obtain ⟨x7,BR,H7,I7,r7,q7⟩:=q7;exact ⟨x7,BR,H7,I7.unpinned,r7,q7⟩
end
theorem qD {K:R8} {a:Sa} {xs:List V} {g:TG} {tb:TS} {D:Ends} {σ:St} {H:Hp} (Pv:Nat->St->Hp->Prop) (h0:Pv 0 σ H) (hl:∀ i σ H,i<=xs.length->Pv i σ H->SqL K H a xs)
 (hs:∀ i x σ H,xs[i]?=some x->Pv i σ H->g x σ H fun AB H2=>tb { D with nx:=Pv (i+1),ct:=Pv (i+1),bk:=D.nx } AB H2) (hd:∀ σ H,Pv xs.length σ H->D.nx σ H) :
 ∃ W:Nat->Nat->St->Hp->Prop,(∃ m,W 0 m σ H)/\∀ i m σ H,W i m σ H →
   ((Itl K a).stop i H/\D.nx σ H)∨((Itl K a).go i H/\∃ N:St->Hp->Prop,(∀ f' H',N f' H'->∃ m',m'<m/\W (i+1) m' f' H')/\∀ x H',(Itl K a).yld i H x H'->g x σ H' fun AB H2=>tb { D with nx:=N,ct:=N,bk:=D.nx } AB H2):=by
 refine ⟨fun i m σ H=>m=xs.length - i/\i<=xs.length/\Pv i σ H,⟨xs.length,by simp,Td _,h0⟩,?_⟩;rintro i m σ H ⟨rfl,hi,p⟩;have q:=hl i σ H hi p;by_cases AD:i<xs.length
 · refine .inr ⟨⟨xs,xs[i],q,by simp [AD]⟩,Pv (i+1),fun f' H' p'=>⟨xs.length - (i+1),by omega,rfl,AD,p'⟩,fun x H' y=>?_⟩;obtain ⟨e,y⟩:=y;subst e;exact hs i x σ _ (y xs q) p
 · have e:i=xs.length:=by omega
   subst e;exact .inl ⟨⟨xs,q,Sg _⟩,hd σ H p⟩
theorem lg {K:R8} {a:Sa} {xs:List V} {g:TG} {tb:TS} {D:Ends} {σ:St} {H:Hp} (Pv:Nat->St->Hp->Prop) (h0:Pv 0 σ H) (hl:∀ i σ H,i<=xs.length->Pv i σ H->SqT K H a xs)
 (hs:∀ i x σ H,xs[i]?=some x->Pv i σ H->g x σ H fun AB H2=>tb { D with nx:=Pv (i+1),ct:=Pv (i+1),bk:=D.nx } AB H2) (hd:∀ σ H,Pv xs.length σ H->D.nx σ H) :
 ∃ W:Nat->Nat->St->Hp->Prop,(∃ m,W 0 m σ H)/\∀ i m σ H,W i m σ H →
   ((Itt K a).stop i H/\D.nx σ H)∨((Itt K a).go i H/\∃ N:St->Hp->Prop,(∀ f' H',N f' H'->∃ m',m'<m/\W (i+1) m' f' H')/\∀ x H',(Itt K a).yld i H x H'->g x σ H' fun AB H2=>tb { D with nx:=N,ct:=N,bk:=D.nx } AB H2):=by
 refine ⟨fun i m σ H=>m=xs.length - i/\i<=xs.length/\Pv i σ H,⟨xs.length,by simp,Td _,h0⟩,?_⟩;rintro i m σ H ⟨rfl,hi,p⟩;have q:=hl i σ H hi p;by_cases AD:i<xs.length
 · refine .inr ⟨⟨xs,xs[i],q,by simp [AD]⟩,Pv (i+1),fun f' H' p'=>⟨xs.length - (i+1),by omega,rfl,AD,p'⟩,fun x H' y=>?_⟩;obtain ⟨e,y⟩:=y;subst e;exact hs i x σ _ (y xs q) p
 · have e:i=xs.length:=by omega
   subst e;exact .inl ⟨⟨xs,q,Sg _⟩,hd σ H p⟩
theorem bP {lo:Int} {n:Nat} {g:TG} {tb:TS} {D:Ends} {σ:St} {H:Hp} (Pv:Nat->St->Hp->Prop) (h0:Pv 0 σ H)
 (hs:∀ i σ H,i<n->Pv i σ H->g (.int (lo+i)) σ H fun AB H2=>tb { D with nx:=Pv (i+1),ct:=Pv (i+1),bk:=D.nx } AB H2) (hd:∀ σ H,Pv n σ H->D.nx σ H) :
 ∃ W:Nat->Nat->St->Hp->Prop,(∃ m,W 0 m σ H)/\∀ i m σ H,W i m σ H →
   ((Itr lo n).stop i H/\D.nx σ H)∨((Itr lo n).go i H/\∃ N:St->Hp->Prop,(∀ f' H',N f' H'->∃ m',m'<m/\W (i+1) m' f' H')/\∀ x H',(Itr lo n).yld i H x H'->g x σ H' fun AB H2=>tb { D with nx:=N,ct:=N,bk:=D.nx } AB H2):=by
 refine ⟨fun i m σ H=>m=n - i/\i<=n/\Pv i σ H,⟨n,by simp,Td _,h0⟩,?_⟩;rintro i m σ H ⟨rfl,hi,p⟩;by_cases AD:i<n
 · refine .inr ⟨AD,Pv (i+1),fun f' H' p'=>⟨n - (i+1),by omega,rfl,AD,p'⟩,fun x H' y=>?_⟩;obtain ⟨e,y⟩:=y;subst e y;exact hs i σ _ AD p
 · have e:i=n:=by omega
   subst e;exact .inl ⟨Sg _,hd σ H p⟩
end L2
namespace L2
open PySem PySem.Spec PyProof.Rows
abbrev R2:=V->V->Hp->VK->Prop
def OpR (X:Cx) (f:Sb->Sb->Sem Sb) (r:R2):Prop :=
 ∀ (pins:List (Sa×UU)) (s:Sf) (σ:St) (H:Hp) (x y:V) (v u:Sb) (Q:VK),Inv X pins σ H s->RelV x v->RelV y u->r x y H Q →
   SI (SY X.prog X.w) X.A (f v u) (EP X pins σ Q) X.xe s
def UnR (X:Cx) (f:Sb->Sem Sb) (r:V->Hp->VK->Prop):Prop :=
 ∀ (pins:List (Sa×UU)) (s:Sf) (σ:St) (H:Hp) (x:V) (v:Sb) (Q:VK),Inv X pins σ H s->RelV x v->r x H Q →
   SI (SY X.prog X.w) X.A (f v) (EP X pins σ Q) X.xe s
def e9 (X:Cx) (f:Sb) (r:List V->Hp->VK->Prop):Prop :=
 ∀ (pins:List (Sa×UU)) (s:Sf) (σ:St) (H:Hp) (xs:List V) (us:List Sb) (Q:VK),Inv X pins σ H s->Vals xs us->r xs H Q →
   SI (SY X.prog X.w) X.A (call f us) (EP X pins σ Q) X.xe s
def zT (X:Cx) (r:V->Hp->(Bool->Hp->Prop)->Prop):Prop :=
 ∀ (pins:List (Sa×UU)) (s:Sf) (σ:St) (H:Hp) (x:V) (v:Sb) (Q:Bool->Hp->Prop),Inv X pins σ H s->RelV x v->r x H Q →
   SI (SY X.prog X.w) X.A (truthy v) (TP X pins σ Q) X.xe s
def tOp (r:R2) (ta tb:TE):TE:=fun σ H Q=>ta σ H fun x H1=>tb σ H1 fun y H2=>r x y H2 Q
def tUn (r:V->Hp->VK->Prop) (ta:TE):TE:=fun σ H Q=>ta σ H fun x H1=>r x H1 Q
inductive IrI (C:Int->Int->Prop) (g:Int->Int->V) (x:V) (y:V) (H:Hp) (Q:VK):Prop
 | mk (i:_) (j:_) (Au:x=.int i) (Av:y=.int j) (AF:C i j) (AR:Q (g i j) H):IrI C g x y H Q
def rI (C:Int->Int->Prop) (g:Int->Int->V):R2:=IrI C g
inductive yX (g:Int->Int->V) (x:V) (y:V) (H:Hp) (Q:VK):Prop
 | mk (i:_) (j:_) (Au:x=.int i) (Av:y=.int j) (AF:Q (g i j) H):yX g x y H Q
def rI0 (g:Int->Int->V):R2:=yX g
inductive IrU (g:Int->V) (x:V) (H:Hp) (Q:VK):Prop
 | mk (i:_) (Au:x=.int i) (Av:Q (g i) H):IrU g x H Q
def rU (g:Int->V):V->Hp->VK->Prop:=IrU g
section
variable {X:Cx} {a b c:TV} {ta tb tc:TE} {pos:Wq}
theorem xQ (ha:PE X a ta) (hb:PE X b tb) {pins:List (Sa×UU)} {s:Sf} {σ:St} {H:Hp} {R:V->V->Hp->Prop} (I:Inv X pins σ H s)
 (h:ta σ H fun x H1=>tb σ H1 fun y H2=>R x y H2) {Q:Sb->Sf->Prop} {f:Sb->Sb->Sem Sb}
 (hf:∀ v u s2 x y H2,Inv X pins σ H2 s2->RelV x v->RelV y u->R x y H2->SI (SY X.prog X.w) X.A (f v u) Q X.xe s2) :
 SI (SY X.prog X.w) X.A (U4 a X.env) (fun v Aa=>SI (SY X.prog X.w) X.A (U4 b X.env) (fun u Bi=>SI (SY X.prog X.w) X.A (f v u) Q X.xe Bi) X.xe Aa) X.xe s:=by
 refine thn (ha pins s σ H _ I h) fun v s1 ⟨x,H1,I1,r1,q1⟩=>?_;refine thn (hb pins s1 σ H1 _ I1 q1) fun u s2 ⟨y,H2,I2,r2,q2⟩=>?_;exact hf v u s2 x y H2 I2 r1 r2 q2
theorem al {op:Operator} {r:R2} (ho:OpR X (V0 op) r) (ha:PE X a ta) (hb:PE X b tb):PE X (.BinOp a op b pos) (tOp r ta tb):=by
 intro pins s σ H Q I h;exact wpAny_BinOp (xQ ha hb I h fun v u s2 x y H2 I2 rx ry q=>ho pins s2 σ H2 x y v u Q I2 rx ry q)
theorem qu {op:UnaryOp} {r:V->Hp->VK->Prop} (ho:UnR X (unaryOp op) r) (ha:PE X a ta):PE X (.UnaryOp op a pos) (tUn r ta):=by
 intro pins s σ H Q I h;exact UnaryOp_ (thn (ha pins s σ H _ I h) fun v s1 ⟨x,H1,I1,r1,q1⟩=>ho pins s1 σ H1 x v Q I1 r1 q1)
theorem opI {f:Sb->Sb->Sem Sb} {C:Int->Int->Prop} {g:Int->Int->Int}
 (rule:∀ (i j:Int) (t u:Tok) (s:Sf) (Q:Sb->Sf->Prop) (E:Sb->Sf->Prop),C i j->Q (.int (g i j) s.toks) { s with toks:=s.toks+1 }->SI (SY X.prog X.w) X.A (f (.int i t) (.int j u)) Q E s) :
 OpR X f (rI C fun i j=>.int (g i j)):=by
 intro pins s σ H x y v u Q I rx ry h;obtain ⟨i,j,rfl,rfl,hc,q⟩:=h;obtain ⟨t,rfl⟩:=rx;obtain ⟨t',rfl⟩:=ry;exact rule i j t t' s _ _ hc ⟨.int (g i j),H,I.tok _,⟨_,rfl⟩,q⟩
theorem zq {f:Sb->Sb->Sem Sb} {g:Int->Int->Int}
 (rule:∀ (i j:Int) (t u:Tok) (s:Sf) (Q:Sb->Sf->Prop) (E:Sb->Sf->Prop),Q (.int (g i j) s.toks) { s with toks:=s.toks+1 }->SI (SY X.prog X.w) X.A (f (.int i t) (.int j u)) Q E s) :
 OpR X f (rI0 fun i j=>.int (g i j)):=by
 intro pins s σ H x y v u Q I rx ry h;obtain ⟨i,j,rfl,rfl,q⟩:=h;obtain ⟨t,rfl⟩:=rx;obtain ⟨t',rfl⟩:=ry;exact rule i j t t' s _ _ ⟨.int (g i j),H,I.tok _,⟨_,rfl⟩,q⟩
theorem yc {f:Sb->Sb->Sem Sb} {g:Int->Int->Bool}
 (rule:∀ (i j:Int) (t u:Tok) (s:Sf) (Q:Sb->Sf->Prop) (E:Sb->Sf->Prop),Q (.bool (g i j)) s->SI (SY X.prog X.w) X.A (f (.int i t) (.int j u)) Q E s) :
 OpR X f (rI0 fun i j=>.bl (g i j)):=by
 intro pins s σ H x y v u Q I rx ry h;obtain ⟨i,j,rfl,rfl,q⟩:=h;obtain ⟨t,rfl⟩:=rx;obtain ⟨t',rfl⟩:=ry;exact rule i j t t' s _ _ ⟨.bl (g i j),H,I,rfl,q⟩
def ze (i j:Int):Prop:=0<j/\j<1073741824
def aaf (i j:Int):Prop:=0<=j/\j<=1000000/\i.natAbs<2 ^ 64
def CMul (i j:Int):Prop:=(-(2 ^ 64)<i/\i<2 ^ 64)∨(-(2 ^ 64)<j/\j<2 ^ 64)
theorem CMul.ok {i j:Int} (h:CMul i j):IntMulOk i j:=by
 rcases h with ⟨h1,h2⟩ | ⟨h1,h2⟩
 · exact .of_left (intBits_le_64 h1 h2)
 · exact .of_right (intBits_le_64 h1 h2)
theorem bc:OpR X (V0 .Add) (rI0 fun i j=>.int (i+j)):=zq fun _ _ _ _ _ _ _ q=>add_int q
theorem me:OpR X (V0 .Sub) (rI0 fun i j=>.int (i - j)):=zq fun _ _ _ _ _ _ _ q=>sub_int q
theorem fj:OpR X (V0 .Mult) (rI CMul fun i j=>.int (i * j)):=opI fun _ _ _ _ _ _ _ hc q=>mul_int q hc.ok
theorem aX:OpR X (V0 .FloorDiv) (rI ze fun i j=>.int (i / j)):=opI fun i j _ _ _ _ _ hc q=>by
 have h1:(0:Int)<j:=hc.1;have h2:j<1073741824:=hc.2;exact floordiv_int (by omega) (by rw [Int.fdiv_eq_ediv_of_nonneg i (by omega)];exact q) (.inl (PyProof.noPylong_small (by omega)))
theorem aV:OpR X (V0 .Mod) (rI (fun _ j=>0<j) fun i j=>.int (i%j)):=opI fun i j _ _ _ _ _ hc q=>by
 have h1:(0:Int)<j:=hc;exact mod_int' (by omega) (by rw [Int.fmod_eq_emod_of_nonneg i (by omega)];exact q)
theorem uQ:OpR X (V0 .Pow) (rI aaf fun i j=>.int (i ^ j.toNat)):=opI fun _ _ _ _ _ _ _ hc q=>pow_int_small hc.1 hc.2.1 hc.2.2 q
theorem unI {f:Sb->Sem Sb} {g:Int->Int}
 (rule:∀ (i:Int) (t:Tok) (s:Sf) (Q:Sb->Sf->Prop) (E:Sb->Sf->Prop),Q (.int (g i) s.toks) { s with toks:=s.toks+1 }->SI (SY X.prog X.w) X.A (f (.int i t)) Q E s) :
 UnR X f (rU fun i=>.int (g i)):=by
 intro pins s σ H x v Q I rx h;obtain ⟨i,rfl,q⟩:=h;obtain ⟨t,rfl⟩:=rx;exact rule i t s _ _ ⟨.int (g i),H,I.tok _,⟨_,rfl⟩,q⟩
theorem mU:UnR X (unaryOp .USub) (rU fun i=>.int (-i)):=unI fun _ _ _ _ _ q=>neg_int q
end
def zo:V->V->Bool
 | .non,.non=>true | .non,.int _=>true | .int _,.non=>true | .non,.bl _=>true | .bl _,.non=>true | .non,.str _=>true | .str _,.non=>true
 | .int _,.int _=>true | .bl _,.bl _=>true | .str _,.str _=>true | .byt _,.byt _=>true
 | .int _,.str _=>true | .str _,.int _=>true | .bl _,.str _=>true | .str _,.bl _=>true
 | _,_=>false
inductive zE (x:V) (y:V) (H:Hp) (Q:VK):Prop
 | mk  (Au:zo x y=true) (Av:Q (.bl (decide (x=y))) H):zE  x y H Q
def rEq:R2:=zE
inductive zA (x:V) (y:V) (H:Hp) (Q:VK):Prop
 | mk  (Au:zo x y=true) (Av:Q (.bl (!decide (x=y))) H):zA  x y H Q
def rNe:R2:=zA
theorem sC {i j:Int}:decide (V.int i=V.int j)=(i == j):=by
 rw [Xn];simp
theorem vR {i j:Bool}:decide (V.bl i=V.bl j)=(i == j):=by
 rw [Xn];simp
theorem sy {i j:Ss}:decide (V.str i=V.str j)=(i == j):=by
 rw [Xn];simp
theorem tz {i j:Array UInt8}:decide (V.byt i=V.byt j)=(i.toList == j.toList):=by
 rw [Xn];cases i;cases j;simp
section
variable {X:Cx} {a b c:TV} {ta tb tc:TE} {pos:Wq}
theorem bf {pins:List (Sa×UU)} {σ:St} {H:Hp} {s:Sf} {Q:VK} {k k':Bool} (I:Inv X pins σ H s) (q:Q (.bl k) H) (e:k=k'):EP X pins σ Q (.bool k') s:=by
 subst e;exact ⟨.bl k,H,I,rfl,q⟩
theorem cz:OpR X (UK .Eq) rEq:=by
 intro pins s σ H x y v u Q I rx ry h;obtain ⟨hs,q⟩:=h;cases x with
 | non =>
   cases rx;cases y with
   | non=>cases ry;exact PySem.EqNone.eq_none_none (bf I q (by simp))
   | bl j=>cases ry;exact PySem.EqNone.eq_none_bool (bf I q (by simp))
   | int j=>obtain ⟨t',rfl⟩:=ry;exact PySem.EqNone.eq_none_int (bf I q (by simp))
   | str j=>obtain ⟨t',rfl⟩:=ry;exact PySem.EqNone.eq_none_str (bf I q (by simp))
   | _=>exact absurd (show false=true from hs) Sz
 | bl i =>
   cases rx;cases y with
   | non=>cases ry;exact PySem.EqNone.eq_bool_none (bf I q (by simp))
   | bl j=>cases ry;exact eq_bool (bf I q vR)
   | str j=>obtain ⟨t',rfl⟩:=ry;exact PySem.EqMixed.eq_bool_str (bf I q (by simp))
   | _=>exact absurd (show false=true from hs) Sz
 | int i =>
   obtain ⟨t,rfl⟩:=rx;cases y with
   | non=>cases ry;exact PySem.EqNone.eq_int_none (bf I q (by simp))
   | int j=>obtain ⟨t',rfl⟩:=ry;exact eq_int (bf I q sC)
   | str j=>obtain ⟨t',rfl⟩:=ry;exact PySem.EqMixed.eq_int_str (bf I q (by simp))
   | _=>exact absurd (show false=true from hs) Sz
 | str i =>
   obtain ⟨t,rfl⟩:=rx;cases y with
   | non=>cases ry;exact PySem.EqNone.eq_str_none (bf I q (by simp))
   | bl j=>cases ry;exact PySem.EqMixed.eq_str_bool (bf I q (by simp))
   | int j=>obtain ⟨t',rfl⟩:=ry;exact PySem.EqMixed.eq_str_int (bf I q (by simp))
   | str j=>obtain ⟨t',rfl⟩:=ry;exact eq_str (bf I q sy)
   | _=>exact absurd (show false=true from hs) Sz
 | byt i =>
   obtain ⟨t,rfl⟩:=rx;cases y with
   | byt j=>obtain ⟨t',rfl⟩:=ry;exact PySem.W.eq_bytes (bf I q tz)
   | _=>exact absurd (show false=true from hs) Sz
 | _=>cases y <;> exact absurd (show false=true from hs) Sz
theorem d4:OpR X (UK .NotEq) rNe:=by
 intro pins s σ H x y v u Q I rx ry h;obtain ⟨hs,q⟩:=h;cases x with
 | non =>
   cases rx;cases y with
   | non=>cases ry;exact PySem.EqNone.ne_none_none (bf I q (by simp))
   | bl j=>cases ry;exact PySem.EqNone.ne_none_bool (bf I q (by simp))
   | int j=>obtain ⟨t',rfl⟩:=ry;exact PySem.EqNone.ne_none_int (bf I q (by simp))
   | str j=>obtain ⟨t',rfl⟩:=ry;exact PySem.EqNone.ne_none_str (bf I q (by simp))
   | _=>exact absurd (show false=true from hs) Sz
 | bl i =>
   cases rx;cases y with
   | non=>cases ry;exact PySem.EqNone.ne_bool_none (bf I q (by simp))
   | bl j=>cases ry;exact ne_bool (bf I q (congrArg not vR))
   | str j=>obtain ⟨t',rfl⟩:=ry;exact PySem.EqMixed.ne_bool_str (bf I q (by simp))
   | _=>exact absurd (show false=true from hs) Sz
 | int i =>
   obtain ⟨t,rfl⟩:=rx;cases y with
   | non=>cases ry;exact PySem.EqNone.ne_int_none (bf I q (by simp))
   | int j=>obtain ⟨t',rfl⟩:=ry;exact ne_int (bf I q (congrArg not sC))
   | str j=>obtain ⟨t',rfl⟩:=ry;exact PySem.EqMixed.ne_int_str (bf I q (by simp))
   | _=>exact absurd (show false=true from hs) Sz
 | str i =>
   obtain ⟨t,rfl⟩:=rx;cases y with
   | non=>cases ry;exact PySem.EqNone.ne_str_none (bf I q (by simp))
   | bl j=>cases ry;exact PySem.EqMixed.ne_str_bool (bf I q (by simp))
   | int j=>obtain ⟨t',rfl⟩:=ry;exact PySem.EqMixed.ne_str_int (bf I q (by simp))
   | str j=>obtain ⟨t',rfl⟩:=ry;exact ne_str (bf I q (congrArg not sy))
   | _=>exact absurd (show false=true from hs) Sz
 | byt i =>
   obtain ⟨t,rfl⟩:=rx;cases y with
   | byt j=>obtain ⟨t',rfl⟩:=ry;exact PySem.W.ne_bytes (bf I q (congrArg not tz))
   | _=>exact absurd (show false=true from hs) Sz
 | _=>cases y <;> exact absurd (show false=true from hs) Sz
theorem eK:OpR X (UK .Lt) (rI0 fun i j=>.bl (decide (i<j))):=yc fun _ _ _ _ _ _ _ q=>lt_int q
theorem fQ:OpR X (UK .LtE) (rI0 fun i j=>.bl (decide (i<=j))):=yc fun _ _ _ _ _ _ _ q=>le_int q
theorem mV:OpR X (UK .Gt) (rI0 fun i j=>.bl (decide (j<i))):=yc fun _ _ _ _ _ _ _ q=>gt_int q
theorem xP:OpR X (UK .Is) (fun x y H Q=>y=.non/\Q (.bl (decide (x=.non))) H):=by
 intro pins s σ H x y v u Q I rx ry h;obtain ⟨rfl,q⟩:=h;cases ry;refine is_none_gen (bf I q ?_)
 cases x <;> first
  | (cases rx;rfl)
  | (obtain ⟨t,rfl⟩:=rx;rfl)
theorem aw (b:TV) {op:CmpOp} (h:op≠.In:=by decide) (h2:op≠.NotIn:=by decide):behindInMarks op b=false:=by
 have e1:(op == CmpOp.In)=false:=by cases op <;> first | rfl | exact absurd rfl h
 have e2:(op == CmpOp.NotIn)=false:=by cases op <;> first | rfl | exact absurd rfl h2
 cases b <;> simp [behindInMarks,e1,e2]
theorem cn {op:CmpOp} {r:R2} (ho:OpR X (UK op) r) (ha:PE X a ta) (hb:PE X b tb) (hm:behindInMarks op b=false):PE X (.Compare a [op] [b] pos) (tOp r ta tb):=by
 intro pins s σ H Q I h;exact wpAny_Compare1 (xQ ha hb I h fun v u s2 x y H2 I2 rx ry q=>ho pins s2 σ H2 x y v u Q I2 rx ry q) hm
inductive xM (x:V) (Q:Bool->Hp->Prop) (H':Hp):Prop
 | mk (k:Bool) (Au:x=.bl k) (Av:Q k H'):xM x Q H'
def lX (t:TE):TT:=fun σ H Q=>t σ H fun x H'=>xM x Q H'
theorem av {op:CmpOp} {r:R2} (ho:OpR X (UK op) r) (ha:PE X a ta) (hb:PE X b tb) (hm:behindInMarks op b=false):PT X (.Compare a [op] [b] pos) (lX (tOp r ta tb)):=by
 intro pins s σ H Q I h
 refine wpAny_isTrue_Compare1 (thn (ha pins s σ H _ I h) fun v s1 ⟨x,H1,I1,r1,q1⟩=>thn (hb pins s1 σ H1 _ I1 q1) fun u s2 ⟨y,H2,I2,r2,q2⟩ =>
  thn (ho pins s2 σ H2 x y v u _ I2 r1 r2 q2) fun c s3 ⟨z,H3,I3,r3,k,e,q3⟩=>?_) hm
 subst e;cases r3;exact UT ⟨H3,I3,q3⟩
def oo (r r':R2) (ta tb tc:TE):TE:=fun σ H Q=>ta σ H fun x H1=>tb σ H1 fun y H2=>r x y H2 fun z H3=>∃ k,z=.bl k ∧
 (if k=true then tc σ H3 fun w' H4=>r' y w' H4 Q else Q (.bl false) H3)
theorem jh {op Fb:CmpOp} {r r':R2} (ho:OpR X (UK op) r) (Cc:OpR X (UK Fb) r') (ha:PE X a ta) (hb:PE X b tb) (hc:PE X c tc)
 (hm:lastMarks [op,Fb] [b,c]=false:=by with_unfolding_all rfl):PE X (.Compare a [op,Fb] [b,c] pos) (oo r r' ta tb tc):=by
 intro pins s σ H Q I h
 refine Compare_chain (thn (ha pins s σ H _ I h) fun v s1 ⟨x,H1,I1,r1,q1⟩=>chain_link (thn (hb pins s1 σ H1 _ I1 q1) fun u s2 ⟨y,H2,I2,r2,q2⟩ =>
  thn (ho pins s2 σ H2 x y v u _ I2 r1 r2 q2) fun d s3 ⟨z,H3,I3,r3,k,e,q3⟩=>?_)) hm
 subst e;cases r3;refine UT ?_;cases k with
 | false=>exact ite_ff ⟨.bl false,H3,I3,rfl,q3⟩
 | true=>exact ite_tt (chain_last (thn (hc pins s3 σ H3 _ I3 q3) fun w' s4 ⟨z',H4,I4,r4,q4⟩=>Cc pins s4 σ H4 y z' u w' Q I4 r2 r4 q4))
theorem jf {op Fb:CmpOp} {r r':R2} (ho:OpR X (UK op) r) (Cc:OpR X (UK Fb) r') (ha:PE X a ta) (hb:PE X b tb) (hc:PE X c tc)
 (hm:lastMarks [op,Fb] [b,c]=false:=by with_unfolding_all rfl):PT X (.Compare a [op,Fb] [b,c] pos) (lX (oo r r' ta tb tc)):=by
 intro pins s σ H Q I h
 refine isTrue_chain (thn (ha pins s σ H _ I h) fun v s1 ⟨x,H1,I1,r1,q1⟩=>test_link (thn (hb pins s1 σ H1 _ I1 q1) fun u s2 ⟨y,H2,I2,r2,q2⟩ =>
  thn (ho pins s2 σ H2 x y v u _ I2 r1 r2 q2) fun d s3 ⟨z,H3,I3,r3,k,e,q3⟩=>?_)) hm
 subst e;cases r3;refine UT ?_;cases k with
 | false =>
   obtain ⟨k',e',q'⟩:=q3;cases e';exact ite_ff ⟨H3,I3,q'⟩
 | true =>
   refine ite_tt (test_last (thn (hc pins s3 σ H3 _ I3 q3) fun w' s4 ⟨z',H4,I4,r4,q4⟩=>thn (Cc pins s4 σ H4 y z' u w' _ I4 r2 r4 q4) fun d' s5 ⟨z2,H5,I5,r5,k2,e2,q5⟩=>?_));subst e2;cases r5;exact UT ⟨H5,I5,q5⟩
def zc (K:R8) (x:V) (H:Hp) (k:Bool):Prop :=
 match x with
 | .non=>k=false
 | .bl b=>k=b
 | .int i=>k=(i != 0)
 | .str y=>y.length<=SQ/\k=((y.length:Int) != 0)
 | .byt y=>y.size<=SQ/\k=((y.size:Int) != 0)
 | .ref p=>(∃ xs,SqL K H p xs/\k=!xs.isEmpty)∨(∃ xs,SqT K H p xs/\k=!xs.isEmpty)∨∃ AQ,H p=some (.dK AQ)/\k=!AQ.isEmpty
 | _=>False
theorem sd {κ:Type} {AQ:List (κ×V)} {vs:List (κ×Sb)} (r:KV AQ vs):(!vs.isEmpty)=!AQ.isEmpty:=by
 cases r <;> rfl
theorem mS {xs:List V} {its:List Sb} (r:Vals xs its):(!its.toArray.isEmpty)=!xs.isEmpty:=by
 cases r <;> simp
theorem gv:(SQ:Nat)<2 ^ 63:=by rw [UJ];decide
theorem yd:zT X (fun x H Q=>∃ k,zc X.K x H k/\Q k H):=by
 intro pins s σ H x v Q I rx h;obtain ⟨k,e,q⟩:=h;have hl:=gv;have hs:SQ=16777216:=UJ;cases x with
 | non =>
   cases rx;have e':k=false:=e;subst e';exact truthy_none ⟨H,I,q⟩
 | bl b =>
   cases rx;have e':k=b:=e;subst e';exact UT ⟨H,I,q⟩
 | int i =>
   obtain ⟨t,rfl⟩:=rx;have e':k=(i != 0):=e;subst e';exact PySem.P.truthy_int ⟨H,I,q⟩
 | str y =>
   obtain ⟨t,rfl⟩:=rx;obtain ⟨hy,e'⟩:y.length<=SQ/\k=((y.length:Int) != 0):=e;subst e';exact PySem.P.truthy_str (by omega) ⟨H,I.tok _,q⟩
 | byt y =>
   obtain ⟨t,rfl⟩:=rx;obtain ⟨hy,e'⟩:y.size<=SQ/\k=((y.size:Int) != 0):=e;subst e';exact PySem.W.truthy_bytes (by omega) ⟨H,I.tok _,q⟩
 | ref p =>
   cases rx;have e':(∃ xs,SqL X.K H p xs/\k=!xs.isEmpty)∨(∃ xs,SqT X.K H p xs/\k=!xs.isEmpty)∨∃ AQ,H p=some (.dK AQ)/\k=!AQ.isEmpty:=e;rcases e' with ⟨xs,hx,e'⟩ | ⟨xs,hx,e'⟩ | ⟨AQ,hx,e'⟩
   · subst e';obtain ⟨its,r,pl,hz⟩:=I.list hx;have hlen:=r.length;exact wpAny_truthy_list pl.isList (by simp only [Si];omega) ⟨H,I.tok _,by rw [mS r];exact q⟩
   · subst e';obtain ⟨its,r,pl,hz⟩:=I.tuple hx;have hlen:=r.length;exact truthy_tuple pl (by simp only [Si];omega) ⟨H,I.tok _,by rw [mS r];exact q⟩
   · subst e';obtain ⟨hz,hS,vs,r,m⟩:AQ.length<=SQ/\(p == sysModules)=false/\∃ vs,KV AQ vs/\s.heap.DictOf (oX X.prog X.w) p vs:=I.hok p _ hx;have hlen:AQ.length=vs.length:=SK r;exact wpAny_truthy_dict hS m (by omega) ⟨H,I.tok _,by rw [sd r];exact q⟩
 | _=>exact (show False from e).elim
theorem aN (ha:PE X a ta) (he:∀ whole,isTrue a X.env whole=(do let v ← whole;standAt a.pos;holding [v] (truthy v))) :
 PT X a (fun σ H Q=>ta σ H fun x H'=>∃ k,zc X.K x H' k/\Q k H'):=by
 intro pins s σ H Q I h;exact isTrue_plain (thn (ha pins s σ H _ I h) fun v s1 ⟨x,H1,I1,r1,q1⟩=>yd pins s1 σ H1 x v Q I1 r1 q1) (he _)
theorem aL:OpR X (V0 .Add) (fun x y H Q=>∃ i j,x=.str i/\y=.str j/\i.length+j.length<=SQ/\Q (.str (i++j)) H):=by
 intro pins s σ H x y v u Q I rx ry h;obtain ⟨i,j,rfl,rfl,hz,q⟩:=h;obtain ⟨t,rfl⟩:=rx;obtain ⟨t',rfl⟩:=ry;exact add_str (fun t' tk=>⟨.str (i++j),H,I.tok _,⟨_,rfl⟩,q⟩) hz
theorem vals1 {x:V} {us:List Sb} (r:Vals [x] us):∃ u,us=[u]/\RelV x u:=by
 cases r with
 | cons r1 r2=>cases r2;exact ⟨_,rfl,r1⟩
theorem vals2 {x y:V} {us:List Sb} (r:Vals [x,y] us):∃ u w',us=[u,w']/\RelV x u/\RelV y w':=by
 cases r with
 | cons r1 r2 =>
   cases r2 with
   | cons r3 r4=>cases r4;exact ⟨_,_,rfl,r1,r3⟩
theorem pK:e9 X (.builtin "divmod") (fun xs H Q=>∃ i j,xs=[.int i,.int j]/\ze i j/\∀ p,H p=none->Q (.ref p) (upd H p (.tup [.int (i / j),.int (i%j)]))):=by
 intro pins s σ H xs us Q I r h;obtain ⟨i,j,rfl,⟨h1,h2⟩,q⟩:=h;obtain ⟨u,w',rfl,⟨t,rfl⟩,⟨t',rfl⟩⟩:=vals2 r;refine divmod_int (by omega) ?_ (.inl (PyProof.noPylong_small (by omega)));rw [Int.fdiv_eq_ediv_of_nonneg i (by omega),Int.fmod_eq_emod_of_nonneg i (by omega)];have hn:H s.heap.objs.size=none:=I.hok.fresh (Sg _);refine ⟨.ref s.heap.objs.size,_,?_,rfl,q _ hn⟩;refine I.laid (fun b o e=>Se _ e) (Sg _) ⟨by simp only [R7,UB];rw [UJ];decide,[.int (i / j) s.toks,.int (i%j) (s.toks+1)],0,.cons ⟨_,rfl⟩ (.cons ⟨_,rfl⟩ .nil),?_⟩;exact Sx s.heap rfl
end
end L2
namespace L2
open PySem PySem.Spec PyProof.Rows
structure ObjM (h:T2) (x dx C:Sa) (mA:Ss->Option Sb):Prop where
 obj:h.get? x=some (Vh C dx)
 ns:h.Ns1 dx mA
 ne:dx≠x
theorem tN {h:T2} {dx:Sa} {mA:Ss->Option Sb} (n:h.Ns1 dx mA):∃ od,h.get? dx=some od/\∀ name,Xx name od=some (mA name):=by
 obtain ⟨o,es,ep,ho,hd,hk,_,hm⟩:=n;refine ⟨o,ho,fun name=>?_⟩;have e:=hm name;unfold nsFind findBy at e;rw [<- Array.find?_toList] at e;unfold Xx;rw [hd];dsimp only;split
 · rename_i y q
   rw [q] at e;exact congrArg some e
 · rename_i q
   rw [q] at e
   have a:es.toList.any (·.refKey)=false:=by
    rw [List.any_eq_false];intro y hy;obtain ⟨z,t,J0⟩:=hk y (Array.mem_toList_iff.mp hy);simp [DictEntry.refKey,J0]
   have a':¬ es.toList.any (·.refKey)=true:=by rw [a];exact Sz
   rw [if_neg a'];exact congrArg some e
theorem ObjM.look {h:T2} {x dx C:Sa} {mA:Ss->Option Sb} (I:ObjM h x dx C mA):∃ od,PySem.W.InstAt h x (Vh C dx) C (some od)/\∀ name,Xx name od=some (mA name) :=
 let ⟨od,ho,hl⟩:=tN I.ns
 ⟨od,⟨I.obj,rfl,rfl,ho⟩,hl⟩
section
variable {prog:SX} {w:Tq} {A:Tj} {E:Sb->Sf->Prop} {s:Sf} {K:R8} {x dx C f:Sa} {mA:Ss->Option Sb} {name:Ss} {v:Sb}
theorem get_map {expr:Bool} {Q:Sb->Sf->Prop} (X:K.In s.heap) (I:ObjM s.heap x dx C mA) (hg:Wo K C name=true) (hh:WU K C=true)
 (ha:S5 K (.ref C) name=some none) (hv:mA name=some v) (Bq:PySem.W.handedIn v=true) (h:Q v { s with toks:=s.toks+1 }) :
 SI (SY prog w) A (getAttr (.ref x) name expr) Q E s:=by
 obtain ⟨od,J,hl⟩:=I.look;exact PySem.W.get_value X J (XG hg).1 (PySem.W.findObj_own hh ha rfl (by rw [hl,hv])) Bq h
theorem vk {pl:Sem Bool} {Q:Sb×List Sb->Sf->Prop} (X:K.In s.heap) (I:ObjM s.heap x dx C mA) (hg:Wo K C name=true)
 (hf:S5 K (.ref C) name=some (some (.ref f))) (ht:Xb K (.ref f)=true) (hv:mA name=none) (h:Q (.ref f,[.ref x]) s) :
 SI (SY prog w) A (getMethod (.ref x) name pl) Q E s:=by
 obtain ⟨od,J,hl⟩:=I.look;exact PySem.W.method_fn X J (XG hg).1 (XG hg).2 hf (beq_iff_eq.mp ht) (by show (Xx name od).map (·.isSome)=some false;rw [hl,hv];rfl) h
theorem wD {ns:List Ss} {Q:Unit->Sf->Prop} (X:K.In s.heap) (I:ObjM s.heap x dx C mA)
 (hs:S5 K (.ref C) "__setattr__"=some (some (.builtin "object.__setattr__"))) (hp:X7 K C=true) (ht:PySem.W.takerIn K C name=some none) (hh:WU K C=true)
 (hw:PySem.Within mA ns) (Az:ns.length<=SQ)
 (h:∀ h',ObjM h' x dx C (fun y=>if y=name then some v else mA y)->Vc dx s.heap h'->Q () { s with heap:=h',toks:=s.toks+2 }) :
 SI (SY prog w) A (setAttr (.ref x) name v) Q E s:=by
 obtain ⟨od,J,hl⟩:=I.look;refine PySem.W.set_plain X J hs (PySem.W.osa_open (s:={ s with toks:=s.toks+1 }) (r:=none) X J hp ht fun b=>?_);obtain ⟨cd,hc,GF⟩:=PySem.W.any_some hh;have hx:s.heap.get? x=some ⟨.ref C,some dx,.plain,#[]⟩:=I.obj;refine R9 (SA (R9 (R9 (wpAny_loadPart hx (R9 (PySem.W.Looks.here (s:={ s with toks:=s.toks+1 }) (PySem.W.looks_clsIn X hc) ?_))))));rw [GF];refine SA (a:=some dx) (R9 (SA (R9 ?_)));refine wpAny_nsSet1 (s:={ s with toks:=s.toks+1 }) I.ns fun h' Jb hs2=>?_;obtain ⟨oD,Rp,Rq,Ot,Ou,Ov⟩:=Jb.count (PySem.Within.cons name v hw);refine R9 (wpAny_lookBehind Ot (by rw [Ou];exact pastItsLine_dict (TF Ov (by rw [R7];omega))) ?_);exact SA (h _ ⟨(hs2.2 _ (VE I.ne)).trans I.obj,Jb,I.ne⟩ hs2)
theorem uB {R:Result->Sf->Prop} {vs:List Sb} {kw:List (Ss×Sb)} (X:K.In s.heap) (hm:PySem.W.makesIn K C=true)
 (hi:S5 K (.ref C) "__init__"=some (some (.ref f))) (hf:PySem.W.typeIn K (.ref f)=some (.type "function"))
 (h:Wy (SY prog w) (A.under (.builtin "type.__call__" ⟨.ref C::vs,kw⟩)) (.call (.ref f) ⟨.ref (s.heap.objs.size+1)::vs,kw⟩) (PySem.W.InitBack (s.heap.objs.size+1) R)
  { s with heap:=(s.heap.push UM).push (Vh C s.heap.objs.size) }) :
 Wy (SY prog w) A (.call (.ref C) ⟨vs,kw⟩) R s:=by
 obtain ⟨hh,g,d,t,os⟩:=s;exact PySem.W.make_core (PySem.W.makes_of X hm) (PySem.W.looks_findIn X hi) (fun self=>PySem.W.bind_fn X self hf) (.inl rfl) h
end
def dv (f:Ss) (v:V):List (Ss×V)->List (Ss×V)
 | []=>[(f,v)]
 | (g,x)::r=>if g=f then (g,v)::r else (g,x)::dv f v r
theorem kg (f g:Ss) (v:V):∀ fs:List (Ss×V),(dv f v fs).lookup g=if g=f then some v else fs.lookup g
 | []=>by
   show Vq g [(f,v)]=_;by_cases h:g=f
   · have hb:(g == f)=true:=beq_iff_eq.mpr h;simp only [Vq,hb,if_pos h]
   · have hb:(g == f)=false:=beq_eq_false_iff_ne.mpr h;simp only [Vq,hb,if_neg h]
 | (k,x)::r=>by
   have ih:=kg f g v r;rw [show dv f v ((k,x)::r)=(if k=f then (k,v)::r else (k,x)::dv f v r) from rfl];by_cases hk:k=f
   · rw [if_pos hk];by_cases h:g=k
     · have hb:(g == k)=true:=beq_iff_eq.mpr h;simp only [Vq,hb,if_pos (h.trans hk)]
     · have hb:(g == k)=false:=beq_eq_false_iff_ne.mpr h;simp only [Vq,hb,if_neg (fun e:g=f=>h (e.trans hk.symm))]
   · rw [if_neg hk];by_cases h:g=k
     · have hb:(g == k)=true:=beq_iff_eq.mpr h;simp only [Vq,hb,if_neg (fun e:g=f=>hk (h.symm.trans e))]
     · have hb:(g == k)=false:=beq_eq_false_iff_ne.mpr h;simp only [Vq,hb];exact ih
theorem jN (f:Ss) (v:V):∀ fs:List (Ss×V),f∈(dv f v fs).map (·.1)/\∀ g,g∈fs.map (·.1)->g∈(dv f v fs).map (·.1)
 | []=>⟨by simp [dv],fun g h=>by simp at h⟩
 | (k,x)::r=>by
   obtain ⟨i1,i2⟩:=jN f v r;rw [show dv f v ((k,x)::r)=(if k=f then (k,v)::r else (k,x)::dv f v r) from rfl];by_cases hk:k=f
   · rw [if_pos hk];subst hk;exact ⟨by simp,fun g h=>by simpa using h⟩
   · rw [if_neg hk];refine ⟨?_,fun g h=>?_⟩
     · rw [Sl];exact Sk _ i1
     · rw [Sl] at h ⊢;rcases Sn.mp h with e | e
       · exact Sn.mpr (.inl e)
       · exact Sk _ (i2 g e)
theorem kA (f:Ss) (v:V):∀ fs:List (Ss×V),(dv f v fs).length<=fs.length+1
 | []=>by simp [dv]
 | (k,x)::r=>by
   have ih:=kA f v r;rw [show dv f v ((k,x)::r)=(if k=f then (k,v)::r else (k,x)::dv f v r) from rfl];by_cases hk:k=f
   · rw [if_pos hk,R7,R7];omega
   · rw [if_neg hk,R7,R7];omega
theorem RelO.some_of {v:V} {o:Option Sb} (r:RelO (some v) o):∃ u,o=some u/\RelV v u:=by
 cases o with
 | none=>exact (show False from r).elim
 | some u=>exact ⟨u,rfl,r⟩
theorem RelO.none_of {o:Option Sb} (r:RelO none o):o=none:=by
 cases o with
 | none=>rfl
 | some u=>exact (show False from r).elim
theorem tR {v:V} {u:Sb} (r:RelV v u):PySem.W.handedIn u=true:=by
 cases v with
 | non=>cases (show u=Ux from r);rfl
 | bl b=>cases (show u=Value.bool b from r);rfl
 | int i=>obtain ⟨t,e⟩:=(show ∃ t,u=Value.int i t from r);cases e;rfl
 | str x=>obtain ⟨t,e⟩:=(show ∃ t,u=Value.str x t from r);cases e;rfl
 | byt b=>obtain ⟨t,e⟩:=(show ∃ t,u=Value.bytes b t from r);cases e;rfl
 | flt b=>obtain ⟨t,e⟩:=(show ∃ t,u=Value.float b t from r);cases e;rfl
 | ref a=>cases (show u=Ue a from r);rfl
 | ty n=>cases (show u=Value.type n from r);rfl
section
variable {P:SX} {w:Tq} {H H':Hp} {h h':T2} {a C dx:Sa} {fs FZ:List (Ss×V)}
theorem lu (hok:HOk P w H h) (e:H a=some (.ins C dx fs)):∃ mA,ObjM h a dx C mA/\(∀ f,RelO (fs.lookup f) (mA f))/\PySem.Within mA (fs.map (·.1))/\fs.length<=1000/\H dx=some (.own a):=by
 obtain ⟨d,z,ne,ob,mA,n,r,q⟩:=(show ObjOk P w H h a (.ins C dx fs) from hok a _ e);exact ⟨mA,⟨ob,n,ne⟩,r,q,z,d⟩
end
structure Cls (K:R8) (C:Sa):Prop where
 pg:Wo K C Ua=true
 hd:WU K C=true
 po:X7 K C=true
 sa:S5 K (.ref C) "__setattr__"=some (some (.builtin "object.__setattr__"))
theorem Cls.get {K:R8} {C:Sa} (c:Cls K C) (f:Ss):Wo K C f=true:=c.pg
def NoAttr (K:R8) (C:Sa) (f:Ss):Prop:=S5 K (.ref C) f=some none
theorem NoAttr.taker {K:R8} {C:Sa} {f:Ss} (n:NoAttr K C f):PySem.W.takerIn K C f=some none:=by
 unfold PySem.W.takerIn;rw [show S5 K (.ref C) f=some none from n];rfl
structure Meth (K:R8) (C:Sa) (m:Ss) (f:Sa):Prop where
 at_:S5 K (.ref C) m=some (some (.ref f))
 fn:Xb K (.ref f)=true
 kp:UX K (.ref f)=true
section
variable {X:Cx} {pins:List (Sa×UU)} {σ:St} {H:Hp} {s:Sf} {a C dx:Sa} {fs:List (Ss×V)} {f:Ss} {v:V} {A:Tj} {E:Sb->Sf->Prop}
theorem lQ {b:Bool} {Q:Sb->Sf->Prop} (I:Inv X pins σ H s) (e:H a=some (.ins C dx fs)) (c:Cls X.K C) (n:NoAttr X.K C f) (l:fs.lookup f=some v)
 (h:∀ u s',Inv X pins σ H s'->RelV v u->Q u s'):SI (SY X.prog X.w) A (getAttr (.ref a) f b) Q E s:=by
 obtain ⟨mA,O,r,_,_,_⟩:=lu I.hok e;obtain ⟨u,hu,ru⟩:=RelO.some_of (v:=v) (o:=mA f) (by rw [<- l];exact r f);exact get_map I.kIn O (c.get f) c.hd n hu (tR ru) (h u _ (I.tok _) ru)
theorem ss {m:Ss} {g:Sa} {pl:Sem Bool} {Q:Sb×List Sb->Sf->Prop} (I:Inv X pins σ H s) (e:H a=some (.ins C dx fs)) (c:Cls X.K C) (k:Meth X.K C m g) (l:fs.lookup m=none)
 (h:Q (.ref g,[.ref a]) s):SI (SY X.prog X.w) A (getMethod (.ref a) m pl) Q E s:=by
 obtain ⟨mA,O,r,_,_,_⟩:=lu I.hok e;have hn:mA m=none:=RelO.none_of (by rw [<- l];exact r m);exact vk I.kIn O (c.get m) k.at_ k.fn hn h
theorem lI {y:V} {u:Sb} {Q:Unit->Sf->Prop} (I:Inv X pins σ H s) (e:H a=some (.ins C dx fs)) (c:Cls X.K C) (n:NoAttr X.K C f) (hl:fs.length<1000) (ry:RelV y u)
 (h:∀ s',Inv X pins σ (upd H a (.ins C dx (dv f y fs))) s'->Q () s'):SI (SY X.prog X.w) A (setAttr (.ref a) f u) Q E s:=by
 obtain ⟨mA,O,r,wi,_,ho⟩:=lu I.hok e;have hz:(fs.map (·.1)).length<=SQ:=by rw [R5,UJ];omega
 refine wD I.kIn O c.sa c.po n.taker c.hd wi hz fun h' O' sb=>h _ ?_;have hd:∃ o,h'.get? dx=some o:=let ⟨o,_,_,e',_⟩:=O'.ns;⟨o,e'⟩
 refine I.write (x:=a) (e:=dx) (by rw [e];exact WK) (.inr ho) (fun b q hb z=>(sb.2 b hb).trans z) hd ?_;refine ⟨by rw [aq O.ne];exact ho,?_,O.ne,O'.obj,_,O'.ns,fun g=>?_,fun g hg=>?_⟩
 · have:=kA f y fs;omega
 · show RelO ((dv f y fs).lookup g) (if g=f then some u else mA g);rw [kg];by_cases q:g=f
   · rw [if_pos q,if_pos q];exact ry
   · rw [if_neg q,if_neg q];exact r g
 · by_cases q:g=f
   · rw [q];exact (jN f y fs).1
   · refine (jN f y fs).2 g (wi g fun z=>hg ?_);show (if g=f then some u else mA g)=none;rw [if_neg q];exact z
theorem Inv.made (I:Inv X pins σ H s):Inv X pins σ (upd (upd H s.heap.objs.size (.own (s.heap.objs.size+1))) (s.heap.objs.size+1) (.ins C s.heap.objs.size []))
 { s with heap:=(s.heap.push UM).push (Vh C s.heap.objs.size) }:=by
 have e1:(s.heap.push UM).get? s.heap.objs.size=some UM:=Sx s.heap rfl
 have e2:((s.heap.push UM).push (Vh C s.heap.objs.size)).get? (s.heap.objs.size+1)=some (Vh C s.heap.objs.size):=by
  have:=Sx (s.heap.push UM) (o:=Vh C s.heap.objs.size) rfl
  rwa [UG] at this
 have e3:(s.heap.push UM).Ns s.heap.objs.size (fun _=>none):=⟨UM,#[],_,e1,rfl,(fun e he=>absurd he (by simp)),fun _=>rfl⟩;have I1:=I.laid (a:=s.heap.objs.size) (o:=.own (s.heap.objs.size+1)) (h':=s.heap.push UM) (t':=s.toks) (fun b u q=>Se _ q) (Sg _) ⟨_,e1⟩;refine I1.laid (a:=s.heap.objs.size+1) (o:=.ins C s.heap.objs.size []) (t':=s.toks) (fun b u q=>Se _ q) (Xe (UG _ _)) ?_;have ne:s.heap.objs.size≠s.heap.objs.size+1:=Ti (Ws _);refine ⟨by rw [aq ne,ae],Td _,ne,e2,fun _=>none,(Heap.Ns1.of_empty e3).at fun o q=>Se _ q,fun _=>WK,fun y hy=>absurd rfl hy⟩
theorem w6 {prog:SX} {w:Tq} {env:XC} {e:TV} {f:Ss} {pos:Wq} {s:Sf} {Q:Sb->Sf->Prop} (hb:attributeBase e f env (U4 e env)=U4 e env)
 (h:SI (SY prog w) A (U4 e env) (fun o Aa=>SI (SY prog w) A (getAttr o f true) Q E Aa) E s):SI (SY prog w) A (U4 (.Attribute e f pos) env) Q E s :=
 Attribute_any_ h (by rw [arm_eval_Attribute,hb])
end
def zI (K:R8) (ta:TE) (f:Ss):TE:=fun σ H Q=>ta σ H fun x H1=>∃ a C dx fs v,x=.ref a/\H1 a=some (.ins C dx fs)/\Cls K C/\NoAttr K C f/\fs.lookup f=some v/\Q v H1
def zU (K:R8) (ta tv:TE) (f:Ss):TS:=fun D σ H=>tv σ H fun y H1=>ta σ H1 fun x H2=>∃ a C dx fs,x=.ref a/\H2 a=some (.ins C dx fs)/\Cls K C/\NoAttr K C f/\fs.length<1000 ∧
 D.nx σ (upd H2 a (.ins C dx (dv f y fs)))
def yW (X:Cx) (op:Operator) (rd:V->V->Hp->VK->Prop):Prop :=
 ∀ (pins:List (Sa×UU)) (s:Sf) (σ:St) (H:Hp) (x y:V) (u v:Sb) (Q:VK),Inv X pins σ H s->RelV x u->RelV y v->rd x y H Q->SI (SY X.prog X.w) X.A (inplaceOp op u v) (EP X pins σ Q) X.xe s
def wF (K:R8) (ta tv:TE) (rd:V->V->Hp->VK->Prop) (f:Ss):TS:=fun D σ H=>ta σ H fun x H1=>∃ a C dx fs v,x=.ref a/\H1 a=some (.ins C dx fs)/\Cls K C/\NoAttr K C f/\fs.lookup f=some v ∧
 tv σ H1 fun y H2=>rd v y H2 fun z H3=>∃ J1 FZ,H3 a=some (.ins C J1 FZ)/\FZ.length<1000/\D.nx σ (upd H3 a (.ins C J1 (dv f z FZ)))
section
variable {X:Cx} {o e value:TV} {f:Ss} {pos pos' En:Wq} {ta tv:TE}
theorem uK (he:PE X e ta) (hb:attributeBase e f X.env (U4 e X.env)=U4 e X.env):PE X (.Attribute e f pos) (zI X.K ta f):=by
 intro pins s σ H Q I h;refine w6 hb (thn (he pins s σ H _ I h) fun u s1 ⟨x,H1,I1,rx,a,C,dx,fs,v,ex,ea,c,n,l,q⟩=>?_);subst ex;obtain rfl:u=Ue a:=rx;exact lQ I1 ea c n l fun u' s2 I2 ru=>⟨v,H1,I2,ru,q⟩
theorem vp (ha:PE X o ta) (hv:PE X value tv) (hs:Xs value (some (.Attribute o f pos')) pos.line X.env=pure false):PS X (.Assign [.Attribute o f pos'] value pos) (zU X.K ta tv f):=by
 intro pins s σ H D I h;refine plainObj_wpAny_Assign_Attribute (thn (hv pins s σ H _ I h) fun u s1 ⟨y,H1,I1,ry,q⟩=>thn (ha pins s1 σ H1 _ I1 q) fun ov s2 ⟨x,H2,I2,rx,a,C,dx,fs,ex,ea,c,n,l,q2⟩=>?_) hs;subst ex;obtain rfl:ov=Ue a:=rx;exact lI I2 ea c n l ry fun s3 I3=>⟨σ,_,I3,q2⟩
theorem nV {op:Operator} {rd:V->V->Hp->VK->Prop} (ha:PE X o ta) (hv:PE X value tv) (Ow:yW X op rd):PS X (.AugAssign (.Attribute o f En) op value pos) (wF X.K ta tv rd f):=by
 intro pins s σ H D I h;refine wpAny_AugAssign_AttributeAny (thn (ha pins s σ H _ I h) fun ov s1 ⟨x,H1,I1,rx,a,C,dx,fs,v,ex,ea,c,n,l,q⟩=>?_);subst ex;obtain rfl:ov=Ue a:=rx;refine lQ I1 ea c n l fun u s2 I2 ru=>thn (hv pins s2 σ H1 _ I2 q) fun w3 s3 ⟨y,H2,I3,ry,q3⟩=>thn (Ow pins s3 σ H2 v y u w3 _ I3 ru ry q3) fun w4 s4 ⟨z,H3,I4,rz,J1,FZ,Ox,l',q4⟩=>?_;exact lI I4 Ox c n l' rz fun s5 I5=>⟨σ,_,I5,q4⟩
def aai:V->V->Hp->VK->Prop:=fun x y H Q=>∃ i j,x=.int i/\y=.int j/\Q (.int (i+j)) H
theorem u9:yW X .Add aai:=by
 rintro pins s σ H x y u v Q I rx ry ⟨i,j,rfl,rfl,q⟩;obtain ⟨t,rfl⟩:=(show ∃ t,u=Value.int i t from rx);obtain ⟨t',rfl⟩:=(show ∃ t',v=Value.int j t' from ry);exact PyProof.Rows.iadd_int ⟨.int (i+j),H,I.tok _,⟨_,rfl⟩,q⟩
end
section
variable {X:Cx} {pins:List (Sa×UU)} {σ:St} {H:Hp} {s:Sf} {A:Tj} {E:Sb->Sf->Prop} {Q:Sb->Sf->Prop} {c:Sb} {b:Bool}
inductive i3 (K:R8) (H:Hp):V->Sb->Prop where
 | non:i3 K H .non (.type "NoneType")
 | bl (x:Bool):i3 K H (.bl x) (.type "bool")
 | int (i:Int):i3 K H (.int i) (.type "int")
 | str (x:Ss):i3 K H (.str x) (.type "str")
 | flt (x:UInt64):i3 K H (.flt x) (.type "float")
 | lst {a:Sa} {xs:List V} (e:H a=some (.lst xs)):i3 K H (.ref a) (.type "list")
 | frz {a:Sa} {o:UU} {xs:List V} (e:H a=some (.frz o (.lst xs))):i3 K H (.ref a) (.type "list")
 | tup {a:Sa} {xs:List V} (e:H a=some (.tup xs)):i3 K H (.ref a) (.type "tuple")
 | dK {a:Sa} {AQ:List (Key×V)} (e:H a=some (.dK AQ)):i3 K H (.ref a) (.type "dict")
 | dT {a:Sa} {AQ:List (List Key×V)} (e:H a=some (.dT AQ)):i3 K H (.ref a) (.type "dict")
 | ins {a C dx:Sa} {fs:List (Ss×V)} (e:H a=some (.ins C dx fs)) (cl:Cls K C) (ha:S5 K (.ref C) "__class__"=some (some (.builtin "object.__class__")))
  (hn:PySem.W.specialIn K (.builtin "object.__class__") "__get__"=some (some (.builtin "getset_descriptor.__get__"))) (Jc:PySem.W.takesIn K (.builtin "object.__class__")=some true)
  (hm:Uu K C (.type "object")=some true):i3 K H (.ref a) (.ref C)
theorem tZ {x:V} {u t:Sb} (I:Inv X pins σ H s) (rx:RelV x u) (ty:i3 X.K H x t) (e:Vz X.K t c=some b) (h:∀ tk,Q (.bool b) { s with toks:=tk }) :
 SI (SY X.prog X.w) A (call (.builtin "isinstance") [u,c]) Q E s:=by
 cases ty with
 | non=>cases (show u=Ux from rx);exact Uy PySem.W.kitx_none I.kIn WK e (fun z=>nomatch z) h
 | bl y=>cases (show u=Value.bool y from rx);exact Uy PySem.W.kitx_bool I.kIn WK e (fun z=>nomatch z) h
 | int i=>obtain ⟨t,q⟩:=(show ∃ t,u=Value.int i t from rx);cases q;exact Uy PySem.W.kitx_int I.kIn WK e (fun z=>nomatch z) h
 | str y=>obtain ⟨t,q⟩:=(show ∃ t,u=Value.str y t from rx);cases q;exact Uy PySem.W.kitx_str I.kIn WK e (fun z=>nomatch z) h
 | flt y=>obtain ⟨t,q⟩:=(show ∃ t,u=Value.float y t from rx);cases q;exact Uy PySem.W.kitx_float I.kIn WK e (fun z=>nomatch z) h
 | @lst a xs ea =>
   cases (show u=Ue a from rx);obtain ⟨_,_,n,_,h1⟩:=(show ObjOk X.prog X.w H s.heap a (.lst xs) from I.hok a _ ea);exact Uy PySem.W.kitx_list I.kIn ⟨_,h1,rfl⟩ e (fun z=>nomatch z) h
 | @frz a ob xs ea =>
   cases (show u=Ue a from rx);obtain ⟨_,_,_,n,_,h1⟩:=(show ObjOk X.prog X.w H s.heap a (.frz ob (.lst xs)) from I.hok a _ ea);exact Uy PySem.W.kitx_list I.kIn ⟨_,h1,rfl⟩ e (fun z=>nomatch z) h
 | @tup a xs ea =>
   cases (show u=Ue a from rx);obtain ⟨_,_,_,_,h1⟩:=(show ObjOk X.prog X.w H s.heap a (.tup xs) from I.hok a _ ea);exact Uy PySem.W.kitx_tuple I.kIn ⟨_,h1,rfl⟩ e (fun z=>nomatch z) h
 | @dK a AQ ea =>
   cases (show u=Ue a from rx);obtain ⟨_,_,vs,_,p⟩:=(show ObjOk X.prog X.w H s.heap a (.dK AQ) from I.hok a _ ea);obtain ⟨o,es,ep,h1,h2,_⟩:=p;exact Uy PySem.W.kitx_dict I.kIn ⟨o,h1,h2.1⟩ e (fun z=>nomatch z) h
 | @dT a AQ ea =>
   cases (show u=Ue a from rx);obtain ⟨_,_,xs,_,o,es,ep,h1,h2,_⟩:=(show ObjOk X.prog X.w H s.heap a (.dT AQ) from I.hok a _ ea);exact Uy PySem.W.kitx_dict I.kIn ⟨o,h1,h2.1⟩ e (fun z=>nomatch z) h
 | @ins a C dx fs ea cl ha hn Jc hm =>
   cases (show u=Ue a from rx);obtain ⟨mA,O,_⟩:=lu I.hok ea;obtain ⟨od,J,_⟩:=O.look;exact Uy (PySem.W.kitx_own (cl.get _) cl.hd ha hn Jc hm) I.kIn J e (fun z=>nomatch z) h
end
end L2
namespace L2
open PySem PySem.Spec PyProof.Rows
structure Room (k:Nat) (A:Tj):Prop where
 hd:A.handled=none
 dp:A.depth+3 * k+5<recursionLimit
 un:A.units+16 * k+200<WC
theorem Room.mono {j k:Nat} {A:Tj} (r:Room k A) (h:j<=k):Room j A:=⟨r.hd,by have:=r.dp;omega,by have:=r.un;omega⟩
theorem Room.deeper {k:Nat} {A:Tj} (r:Room (k+1) A) (env:XC):Room k (A.deeper env) :=
 ⟨r.hd,by have:=r.dp;show A.depth+1+3 * k+5<_;omega,by have:=r.un;show A.units+3+16 * k+200<_;omega⟩
theorem rH {A:Tj} {C:Sa} {us:List Sb} {kw:List (Ss×Sb)}:(A.under (.builtin "type.__call__" ⟨.ref C::us,kw⟩)).depth=A.depth+1:=by
 first | rfl | simp [Around.under,Code.weight,Code.isCreation,Code.isGuard,Code.isCaller,Code.frames,Code.isFrame,guardIds]
theorem qT {A:Tj} {C:Sa} {us:List Sb} {kw:List (Ss×Sb)}:(A.under (.builtin "type.__call__" ⟨.ref C::us,kw⟩)).units=A.units+1:=by
 first | rfl | simp [Around.under,Code.cUnits,Code.frames,Code.isFrame]
theorem Room.make {k:Nat} {A:Tj} (r:Room (k+1) A) (C:Sa) (us:List Sb) (kw:List (Ss×Sb)):Room k (A.under (.builtin "type.__call__" ⟨.ref C::us,kw⟩)) :=
 ⟨r.hd,by have:=r.dp;rw [rH];omega,by have:=r.un;rw [qT];omega⟩
theorem Room.depth {k:Nat} {A:Tj} (r:Room k A):A.depth<recursionLimit:=by have:=r.dp;omega
theorem Room.units {k:Nat} {A:Tj} (r:Room k A):A.units+64<WC:=by have:=r.un;omega
def eN:TA:=fun _ H Q=>Q [] H
def bZ (ta:TE) (tr:TA):TA:=fun σ H Q=>ta σ H fun x H1=>tr σ H1 fun xs H2=>Q (x::xs) H2
section
variable {X:Cx} {e:TV} {es:List TV} {te:TE} {t:TA} {pos:Wq}
theorem ac:PA X [] eN:=fun _ _ _ _ H Q I h=>VB ⟨[],H,I,.nil,h⟩
theorem aa (ha:PE X e te) (hr:PA X es t) (hs:Tz (e::es) X.env=(false,U4 e X.env)::Tz es X.env:=by rfl):PA X (e::es) (bZ te t):=by
 intro pos pins s σ H Q I h;rw [hs];show SI _ _ (spliced ((false,U4 e X.env)::Wz pos (Tz es X.env))) _ _ s;refine Uq (thn (ha pins s σ H _ I h) fun u s1 ⟨x,H1,I1,r1,q1⟩=>?_);exact thn (hr pos pins s1 σ H1 _ I1 q1) fun us s2 ⟨xs,H2,I2,r2,q2⟩=>⟨x::xs,H2,I2,.cons r1 r2,q2⟩
def zf (t:TA):TE:=fun σ H Q=>t σ H fun xs H1=>xs.length<=SQ/\∀ p,H1 p=none->Q (.ref p) (upd H1 p (.tup xs))
def yN (t:TA):TE:=fun σ H Q=>t σ H fun xs H1=>xs.length<=SQ/\∀ p,H1 p=none->Q (.ref p) (upd H1 p (.lst xs))
theorem b8 {x1} (h:PA X es t):PE X (.Tuple es x1 pos) (zf t):=by
 intro pins s σ H Q I hq;refine wpAny_Tuple_spliced (thn (h pos pins s σ H _ I hq) fun us s1 ⟨xs,H1,I1,r,z,q⟩=>⟨by rw [<- r.length];exact z,?_⟩);have hf:H1 s1.heap.objs.size=none:=I1.hok.fresh (Sg _);refine ⟨.ref s1.heap.objs.size,upd H1 s1.heap.objs.size (.tup xs),I1.laid (t':=s1.toks) (fun b u e=>Se _ e) (Sg _) ?_,rfl,q _ hf⟩;exact ⟨z,us,0,r,Sx _ rfl⟩
theorem bM (h:PA X es t):PE X (.List es pos) (yN t):=by
 intro pins s σ H Q I hq;refine wpAny_List_spliced (thn (h pos pins s σ H _ I hq) fun us s1 ⟨xs,H1,I1,r,z,q⟩=>⟨by rw [<- r.length];exact z,?_⟩);have hf:H1 s1.heap.objs.size=none:=I1.hok.fresh (Sg _);refine ⟨.ref s1.heap.objs.size,upd H1 s1.heap.objs.size (.lst xs),I1.laid (t':=s1.toks) (fun b u e=>Se _ e) (Sg _) ?_,rfl,q _ hf⟩;exact ⟨z,us,0,r,Sx _ rfl⟩
end
abbrev Sp:=List V->Hp->VK->XK->Prop
abbrev CXT:=List XC->Hp->Sf->XK->Sb->Sf->Prop
structure Env0 (P:SX) (w:Tq) (K:R8) (mg:Ss->Option Sb) (base:T2) (A:Tj) (outer:List XC) (s:Sf) (H:Hp):Prop where
 frames:A.frames=some outer
 mod:Mod K mg base
 bs:∀ b o,base.get? b=some o->s.heap.get? b=some o/\H b=none
 bsz:base.objs.size<=s.heap.objs.size
 funs:s.heap.FunFrames base outer
 frf:∀ b∈frs outer,H b=none
 hok:HOk P w H s.heap
 bare:XX s.gens
def CE (outer:List XC) (P:SX) (w:Tq) (H:Hp) (s:Sf) (Q:VK) (u:Sb) (s':Sf):Prop :=
 ∃ v H',s'.os=s.os/\XX s'.gens/\Un (frs outer) [] H H' s.heap s'.heap/\HOk P w H' s'.heap/\RelV v u/\Q v H'
def CR (CX:CXT) (outer:List XC) (P:SX) (w:Tq) (H:Hp) (s:Sf) (Q:VK) (E:XK) (r:Result) (s':Sf):Prop :=
 match r with
 | .ok (.ret u)=>CE outer P w H s Q u s'
 | .ok _=>False
 | .error e=>CX outer H s E e s'
structure bj (P:SX) (w:Tq) (K:R8) (mg:Ss->Option Sb) (base:T2) (CX:CXT) (k:Nat) (f:Sa) (fd:Vs) (ps:List Ss) (sp:Sp):Prop where
 len:∀ vs H Q E,sp vs H Q E->vs.length=ps.length
 run:∀ (A:Tj) (outer:List XC) (s:Sf) (H:Hp) (args:Args) (us:List Sb) (vs:List V) (Q:VK) (E:XK),Room k A->Env0 P w K mg base A outer s H->BindsTo s fd args (ps.zip us)->Vals vs us->sp vs H Q E →
  Wy (SY P w) A (.call (.ref f) args) (CR CX outer P w H s Q E) s
theorem Env0.make {P:SX} {w:Tq} {K:R8} {mg:Ss->Option Sb} {base:T2} {A:Tj} {outer:List XC} {s:Sf} {H:Hp} (e:Env0 P w K mg base A outer s H) (C:Sa) (us:List Sb) (kw:List (Ss×Sb)) :
 Env0 P w K mg base (A.under (.builtin "type.__call__" ⟨.ref C::us,kw⟩)) outer s H:=⟨by first | exact e.frames | (simpa [Around.under,Code.envs,Code.isFrame,pushEnvs] using e.frames),e.mod,e.bs,e.bsz,e.funs,e.frf,e.hok,e.bare⟩
section
variable {X:Cx} {pins:List (Sa×UU)} {σ:St} {H:Hp} {s s':Sf}
theorem Inv.env0 (I:Inv X pins σ H s):Env0 X.prog X.w X.K X.mg X.base X.A X.stack s H :=
 ⟨I.ok.frames,I.ok.mod,I.bs,TF I.ok.bsz I.sz,I.stack,I.stkFree,I.hok,I.bare⟩
theorem Inv.after {Q:VK} {u:Sb} (I:Inv X pins σ H s) (h:CE X.stack X.prog X.w H s Q u s'):EP X pins σ Q u s':=by
 obtain ⟨v,H',os,bare,un,hok,r,q⟩:=h;obtain ⟨hh,g,d,t,Oy⟩:=s';obtain rfl:Oy=s.os:=os;exact ⟨v,H',I.call (h':=hh) (g':=g) (d':=d) (t':=t) (ch:=[]) un hok bare (fun b z=>absurd z (by simp)),r,q⟩
end
def hV (sp:Sp) (Br:List V) (E:XK) (t:TA):TE:=fun σ H Q=>t σ H fun vs H1=>sp (vs++Br) H1 Q E
def zG (C:Sa) (m:Ss) (sp:Sp) (Br:List V) (E:XK) (ta:TE) (t:TA):TE:=fun σ H Q=>ta σ H fun x H1=>∃ a dx fs,x=.ref a/\H1 a=some (.ins C dx fs)/\fs.lookup m=none ∧
 t σ H1 fun vs H2=>sp (x::(vs++Br)) H2 Q E
def zg (C:Sa) (sp:Sp) (Br:List V) (E:XK) (t:TA):TE:=fun σ H Q=>t σ H fun vs H1=>∀ x dx,H1 x=none->H1 dx=none->dx≠x →
 sp (.ref x::(vs++Br)) (upd (upd H1 dx (.own x)) x (.ins C dx [])) (fun v H2=>v=.non/\Q (.ref x) H2) E
def Binds (K:R8) (fd:Vs) (ps:List Ss) (ds:List Sb):Prop :=
 ∀ (s:Sf) (us:List Sb),K.In s.heap->(us++ds).length=ps.length->BindsTo s fd ⟨us,[]⟩ (ps.zip (us++ds))
theorem Binds.all {K:R8} {fd:Vs} {ps:List Ss} (h:∀ us:List Sb,us.length=ps.length->X2 fd ⟨us,[]⟩=pure (ps.zip us)):Binds K fd ps []:=fun s us _ hl=>by
 rw [SM] at hl ⊢;exact .of_eq (h us hl)
def Passes (CX:CXT) (X:Cx) (E:XK):Prop:=∀ (pins:List (Sa×UU)) (σ:St) (H:Hp) (s:Sf) (e:Sb) (s':Sf),Inv X pins σ H s->CX X.stack H s E e s'->X.xe e s'
section
variable {X:Cx} {CX:CXT} {k:Nat} {f C:Sa} {fd:Vs} {ps:List Ss} {sp:Sp} {Br:List V} {ds:List Sb} {E:XK} {x m:Ss} {p pos apos:Wq} {e o:TV} {es:List TV} {ta:TE} {t:TA}
theorem uY {pins:List (Sa×UU)} {σ:St} {H:Hp} {s:Sf} {Q:VK} {us:List Sb} {vs:List V} (F:bj X.prog X.w X.K X.mg X.base CX k f fd ps sp) (hr:Room k X.A) (hb:Binds X.K fd ps ds) (hd:Vals Br ds) (hx:Passes CX X E)
 (I:Inv X pins σ H s) (r:Vals vs us) (h:sp (vs++Br) H Q E):SI (SY X.prog X.w) X.A (call (.ref f) us) (EP X pins σ Q) X.xe s:=by
 have r2:Vals (vs++Br) (us++ds):=r.append hd;have hl:(us++ds).length=ps.length:=by rw [<- r2.length];exact F.len _ _ _ _ h
 refine wpAny_call (Wx (F.run X.A X.stack s H ⟨us,[]⟩ (us++ds) (vs++Br) Q E hr I.env0 (hb s us I.kIn hl) r2 h) fun r s' hq=>?_);cases r with
 | error e=>exact hx pins σ H s e s' I hq
 | ok fl =>
   cases fl with
   | ret u=>exact I.after hq
   | next=>exact UC hq
   | brk=>exact UC hq
   | cont=>exact UC hq
theorem aW (F:bj X.prog X.w X.K X.mg X.base CX k f fd ps sp) (hr:Room k X.A) (hg:Gl X x) (hm:X.mg x=some (.ref f)) (hk:UX X.K (.ref f)=true) (hb:Binds X.K fd ps ds) (hd:Vals Br ds) (hx:Passes CX X E)
 (ha:PA X (e::es) t) (DB:(x == ("__debug__":Ss))=false:=by decide) (he:Tz (e::es) X.env=(false,U4 e X.env)::Tz es X.env:=by rfl) (Bj:(Wz pos (Tz es X.env)).any (·.1)=false:=by rfl) :
 PE X (.Call (.Name x p) (e::es) [] pos) (hV sp Br E t):=by
 intro pins s σ H Q I h;refine U0 (iU I hg hm ?_ DB);refine XT (h₀:=X.base) I.ok.mod.kin hk (thn (ha pos pins s σ H _ I h) fun us s1 ⟨vs,H1,I1,r,q⟩=>⟨I1.kIn,?_⟩) he Bj;exact uY F hr hb hd hx I1 r q
theorem wS {pl:Sem Bool} (he:PE X o ta) (c:Cls X.K C) (hm:Meth X.K C m f) (F:bj X.prog X.w X.K X.mg X.base CX k f fd ps sp) (hr:Room k X.A) (hb:Binds X.K fd ps ds) (hd:Vals Br ds) (hx:Passes CX X E) (ha:PA X (e::es) t)
 (AI:Tz (e::es) X.env=(false,U4 e X.env)::Tz es X.env:=by rfl) (Bj:(Wz pos (Tz es X.env)).any (·.1)=false:=by rfl)
 (ht:U4 (.Call (.Attribute o m apos) (e::es) [] pos) X.env=(do
  let ov ← U4 o X.env
  standAt apos.atName
  let (f,first) ← holding [ov] (getMethod ov m pl)
  callWith pos f first (Wz pos (Tz (e::es) X.env)) (backToKw pos (keywordEach [] X.env))):=by rfl) :
 PE X (.Call (.Attribute o m apos) (e::es) [] pos) (zG C m sp Br E ta t):=by
 intro pins s σ H Q I h;refine PySem.W.methodCall_KW (pl:=pl) (thn (he pins s σ H _ I h) fun u s1 ⟨x,H1,I1,rx,a,dx,fs,ex,ea,l,q⟩=>?_) ht;subst ex;obtain rfl:u=Ue a:=rx;refine ss I1 ea c hm l ?_;refine XT (first:=[.ref a]) (h₀:=X.base) I.ok.mod.kin hm.kp (thn (ha pos pins s1 σ H1 _ I1 q) fun us s2 ⟨vs,H2,I2,r,q2⟩=>⟨I2.kIn,?_⟩) AI Bj;exact uY (us:=.ref a::us) (vs:=.ref a::vs) F hr hb hd hx I2 (.cons rfl r) q2
structure Mk (K:R8) (C f:Sa):Prop where
 makes:PySem.W.makesIn K C=true
 init:S5 K (.ref C) "__init__"=some (some (.ref f))
 fn:Xb K (.ref f)=true
 kp:UX K (.ref C)=true
theorem va {pins:List (Sa×UU)} {σ:St} {H:Hp} {s:Sf} {Q:VK} {us:List Sb} {vs:List V} (M:Mk X.K C f) (F:bj X.prog X.w X.K X.mg X.base CX k f fd ps sp) (hr:Room (k+1) X.A) (hb:Binds X.K fd ps ds) (hd:Vals Br ds)
 (hx:Passes CX X E) (I:Inv X pins σ H s) (r:Vals vs us)
 (h:∀ x dx,H x=none->H dx=none->dx≠x->sp (.ref x::(vs++Br)) (upd (upd H dx (.own x)) x (.ins C dx [])) (fun v H2=>v=.non/\Q (.ref x) H2) E) :
 SI (SY X.prog X.w) X.A (call (.ref C) us) (EP X pins σ Q) X.xe s:=by
 have hq:=h (s.heap.objs.size+1) s.heap.objs.size (I.hok.fresh (Nat.le_succ _)) (I.hok.fresh (Sg _)) (Ti (Ws _));have I2:=Inv.made (C:=C) I;have r2:Vals (V.ref (s.heap.objs.size+1)::(vs++Br)) (Ue (s.heap.objs.size+1)::(us++ds)):=.cons rfl (r.append hd)
 have hl:(Ue (s.heap.objs.size+1)::us++ds).length=ps.length:=by
  have e:=r2.length;rw [F.len _ _ _ _ hq] at e;exact e.symm
 refine wpAny_call (uB (f:=f) I.kIn M.makes M.init (beq_iff_eq.mp M.fn) (Wx (F.run _ X.stack _ _ ⟨Ue (s.heap.objs.size+1)::us,[]⟩ (Ue (s.heap.objs.size+1)::(us++ds)) _ _ E (hr.make C us [])
  (I2.env0.make C us []) (hb _ (Ue (s.heap.objs.size+1)::us) I2.kIn hl) r2 hq) fun r s' GL=>?_))
 cases r with
 | error e=>exact hx pins σ _ _ e s' I2 GL
 | ok fl =>
   cases fl with
   | ret u =>
     obtain ⟨v,H',I3,rv,ev,q3⟩:=I2.after GL;subst ev;exact ⟨rv,⟨V.ref (s.heap.objs.size+1),H',I3,rfl,q3⟩⟩
   | next=>exact UC GL
   | brk=>exact UC GL
   | cont=>exact UC GL
theorem uL (M:Mk X.K C f) (F:bj X.prog X.w X.K X.mg X.base CX k f fd ps sp) (hr:Room (k+1) X.A) (hg:Gl X x) (hm:X.mg x=some (.ref C)) (hb:Binds X.K fd ps ds) (hd:Vals Br ds) (hx:Passes CX X E)
 (DB:(x == ("__debug__":Ss))=false:=by decide):PE X (.Call (.Name x p) [] [] pos) (zg C sp Br E eN):=by
 intro pins s σ H Q I h;refine U0 (iU I hg hm ?_ DB);exact PySem.W.callWith_K0 I.kIn M.kp (va (us:=[]) M F hr hb hd hx I .nil h)
end
section
variable {X:Cx} {CX:CXT} {k:Nat} {f C:Sa} {fd:Vs} {ps ks:List Ss} {sp:Sp} {E:XK} {x m:Ss} {p pos apos Oz:Wq} {e o:TV} {es:List TV} {Rr:List Keyword} {te ta:TE} {t tk:TA} {nm:Option Ss}
variable {g:List Sb->List Sb->List Sb} {gV:List V->List V->List V}
end
structure az (N P:List Ss) (sc:Vu):Prop where
 kind:sc.kind=.function
 co:sc.isCoroutine=false
 gen:sc.isGenerator=false
 nd:N.Nodup
 pre:N.take P.length=P
 par:∀ x∈P,sc.names.lookup x=some .local∨sc.names.lookup x=some .cell
 nofree:∀ y∈sc.names,y.2≠.free
theorem nw {kindOf:Ss->Option Va} {x:Ss}:∀ {binds:List (Ss×Sb)} {m:Ss->Option Sb},(∀ v,(x,v)∉binds)->bindL kindOf binds m x=m x
 | [],_,_=>rfl
 | (n,v)::r,m,h=>by
   unfold bindL;rw [nw fun w hw=>h w (Sk _ hw)];split
   · have:x≠n:=by rintro rfl;exact h v Sr
     simp [this]
   · rfl
theorem nA {kindOf:Ss->Option Va} {x:Ss}:∀ {binds:List (Ss×Sb)} {m:Ss->Option Sb},(∀ v,(x,v)∉binds)->bindC kindOf binds m x=m x
 | [],_,_=>rfl
 | (n,v)::r,m,h=>by
   unfold bindC;rw [nA fun w hw=>h w (Sk _ hw)];split
   · rfl
   · have:x≠n:=by rintro rfl;exact h v Sr
     simp [this]
theorem ny {kindOf:Ss->Option Va} {x:Ss} {v:Sb}:∀ {P:List Ss} {vs:List Sb} {i:Nat} {m:Ss->Option Sb},P.Nodup->P[i]?=some x->vs[i]?=some v->kindOf x=some .local →
 bindL kindOf (P.zip vs) m x=some v
 | [],_,_,_,_,h,_,_=>by simp at h
 | _::_,[],_,_,_,_,h,_=>by simp at h
 | p::P,w::vs,0,m,nd,h1,h2,hk=>by
   simp at h1 h2;subst h1;subst h2;show bindL kindOf ((p,w)::P.zip vs) m p=_;unfold bindL;rw [nw fun v hv=>(Uz.mp nd).1 (List.of_mem_zip hv).1,if_pos hk];simp
 | p::P,w::vs,i+1,m,nd,h1,h2,hk=>by
   show bindL kindOf ((p,w)::P.zip vs) m x=_;unfold bindL;exact ny (i:=i) (Uz.mp nd).2 (by simpa using h1) (by simpa using h2) hk
theorem nz {kindOf:Ss->Option Va} {x:Ss} {v:Sb}:∀ {P:List Ss} {vs:List Sb} {i:Nat} {m:Ss->Option Sb},P.Nodup->P[i]?=some x->vs[i]?=some v->kindOf x≠some .local →
 bindC kindOf (P.zip vs) m x=some v
 | [],_,_,_,_,h,_,_=>by simp at h
 | _::_,[],_,_,_,_,h,_=>by simp at h
 | p::P,w::vs,0,m,nd,h1,h2,hk=>by
   simp at h1 h2;subst h1;subst h2;show bindC kindOf ((p,w)::P.zip vs) m p=_;unfold bindC;rw [nA fun v hv=>(Uz.mp nd).1 (List.of_mem_zip hv).1,if_neg hk];simp
 | p::P,w::vs,i+1,m,nd,h1,h2,hk=>by
   show bindC kindOf ((p,w)::P.zip vs) m x=_;unfold bindC;exact nz (i:=i) (Uz.mp nd).2 (by simpa using h1) (by simpa using h2) hk
def start (N:List Ss) (vs:List V):St:=vs.map some++TJ (N.length - vs.length) none
def cA (CX:CXT) (P:SX) (w:Tq) (K:R8) (mg:Ss->Option Sb) (base:T2) (N:List Ss) (qual:Ss) (scope:Vu) (f:Sa) (cd:Sb) (A:Tj) (outer:List XC) (s:Sf) (H:Hp) (E:XK):Cx where
 prog:=P
 w:=w
 K:=K
 mg:=mg
 base:=base
 A:=A.deeper (Vg qual scope s.heap.objs.size f cd)
 N:=N
 s₀:=s
 H₀:=H
 env:=Vg qual scope s.heap.objs.size f cd
 outer:=outer
 stack:=Vg qual scope s.heap.objs.size f cd::outer
 ex:=[]
 calm:=true
 fn:=fun _=>true
 pn:=[]
 xe:=fun e s'=>SI (SY P w) (A.deeper (Vg qual scope s.heap.objs.size f cd)) (leaving (Vg qual scope s.heap.objs.size f cd) e) (fun _ GN=>CX outer H s E e GN) (fun e' GN=>CX outer H s E e' GN) s'
theorem pU {sc:Vu} {n:Nat} {x:Ss} (h:sc.names.lookup x=some .cell):∃ c,(cellsFrom n sc.names []).lookup x=some c:=by
 have q:=PySem.W.cellsFrom_some sc.names n [] (.inl h);exact Option.isSome_iff_exists.mp q
theorem t5 {CX:CXT} {P:SX} {w:Tq} {K:R8} {mg:Ss->Option Sb} {base:T2} {N ps:List Ss} {qual:Ss} {scope:Vu} {f:Sa} {cd:Sb} {A:Tj} {outer:List XC} {s s1:Sf} {H:Hp} {E:XK} {us:List Sb} {vs:List V}
 (S:az N ps scope) (hd:A.handled=none) (e0:Env0 P w K mg base A outer s H) (hl:vs.length=ps.length) (r:Vals vs us)
 (x:InCallC s s.heap.objs.size (bindL (Vg qual scope s.heap.objs.size f cd).kindOf (ps.zip us) fun _=>none) (cellsFrom (s.heap.objs.size+1) scope.names []) (bindC (Vg qual scope s.heap.objs.size f cd).kindOf (ps.zip us) fun _=>none) s1) :
 Inv (cA CX P w K mg base N qual scope f cd A outer s H E) [] (start N vs) H s1:=by
 have Bj:ps.length<=N.length:=by have:=congrArg UZ S.pre;rw [SR] at this;omega
 obtain ⟨h1,tk,rfl,hk⟩:=x.done;have GO:∀ b:Sa,b∉(cA CX P w K mg base N qual scope f cd A outer s H E).ex:=fun b z=>absurd (show b∈([]:List Sa) from z) (by simp)
 refine ⟨⟨e0.mod,S.kind,rfl,rfl,Sg _,fun y z c h1 h2=>?_,fun y hy=>?_,fun y c _ h=>?_,fun _=>hd,Around.frames_deeper e0.frames,.inr ⟨rfl,rfl⟩,fun b z=>absurd z (GO b),e0.bs,e0.bsz,fun b _ _=>GO b,fun b z=>absurd z (GO b),e0.funs,e0.frf⟩,
  rfl,e0.bare,Un.kept hk,⟨_,x.toInCall.ns,fun i y v h1 h2 h3=>?_⟩,fun y c h=>⟨_,x.cell y c h⟩,e0.hok.fresh (Sg _),fun y c h=>?_,fun p hp=>absurd (show p∈([]:List (Sa×UU)) from hp) (by simp),e0.hok.kept hk,?_⟩
 · exact name_of_addr x.apart (VV h1) (VV h2)
 · have hy:scope.names.lookup y=some .cell∨scope.names.lookup y=some .free:=hy;rcases hy with hy | hy
   · exact pU hy
   · exact absurd rfl (S.nofree _ (VV hy))
 · exact We (x.above y c (VV h))
 · have hi:i<vs.length:=by
    unfold start at h2;by_cases hi:i<vs.length
    · exact hi
    · rw [UO (by simpa using hi)] at h2;rw [List.getElem?_replicate] at h2;split at h2 <;> cases h2
   have ha:vs[i]?=some v:=by
    unfold start at h2;rw [Vf (by simpa using hi),So] at h2;cases e:vs[i]? with
    | none=>rw [e] at h2;cases h2
    | some a=>rw [e] at h2;cases h2;rfl
   obtain ⟨u,hu,rv⟩:=r.get ha
   have hp:ps[i]?=some y:=by
    rw [<- S.pre,List.getElem?_take_of_lt (by omega)];exact h1
   have MG:ps.Nodup:=by rw [<- S.pre];exact S.nd.sublist (List.take_sublist _ _)
   refine ⟨u,rv,?_⟩;rcases S.par y (Sd hp) with k | k
   · exact .inl ⟨k,ny MG hp hu k⟩
   · obtain ⟨c,e⟩:=pU (n:=s.heap.objs.size+1) k;refine .inr ⟨.inl k,c,e,?_⟩;have q:=x.cell y c e;rw [nz MG hp hu (by show scope.names.lookup y≠_;rw [k];decide)] at q;exact q
 · exact e0.hok.fresh (We (x.above y c (VV h)))
 · unfold start;show _=N.length;rw [Sm,R5,List.length_replicate];omega
theorem xJ {CX:CXT} {P:SX} {w:Tq} {K:R8} {mg:Ss->Option Sb} {base:T2} {k:Nat} {f:Sa} {name qual:Ss} {params:Arguments} {body:List Uo} {scope:Vu} {dV kV doc pm Aj ct oc:Sb} {an od:Option Sa}
 {Ep:Array (Option Sb)} {N ps:List Ss} {sp:Sp} (lk:K.lookup f=some ⟨oc,od,.func (Vn name qual params body scope dV kV doc pm an Aj ct),Ep⟩) (C6:Wb K Aj qual=true) (S:az N ps scope)
 (len:∀ vs H Q E,sp vs H Q E->vs.length=ps.length)
 (BG:∀ (A:Tj) (outer:List XC) (s:Sf) (H:Hp) (vs:List V) (Q:VK) (E:XK),Room k (A.deeper (Vg qual scope s.heap.objs.size f Aj))->sp vs H Q E →
  ∃ t,PSs (cA CX P w K mg base N qual scope f Aj A outer s H E) body t/\t { nx:=fun _ H'=>Q .non H',rt:=Q } (start N vs) H) :
 bj P w K mg base CX (k+1) f (Vn name qual params body scope dV kV doc pm an Aj ct) ps sp:=by
 refine ⟨len,fun A outer s H args us vs Q E hr e0 hb r BV=>?_⟩;have hl:=len _ _ _ _ BV;have KX:K.In s.heap:=e0.mod.kin.keeps fun b o e=>(e0.bs b o e).1;have lim:s.heap.NoLimit:=e0.mod.nolimit.keeps fun b o e=>(e0.bs b o e).1
 have GP:∀ y∈ps.zip us,scope.names.lookup y.1=some .local∨(scope.names.lookup y.1=some .cell/\((cellsFrom (s.heap.objs.size+1) scope.names []).lookup y.1).isSome=true):=fun ⟨n,v⟩ hy=>by
  rcases S.par n (List.of_mem_zip hy).1 with q | q
  · exact .inl q
  · exact .inr ⟨q,PySem.W.cellsFrom_some _ _ _ (.inl q)⟩
 refine codeAny_call_function hr.depth (KX _ _ lk) rfl S.co S.gen rfl (PySem.W.codeRec_of KX C6) (hb _ _ _ _ ?_);refine wpAny_newFunctionEnv_cells S.kind GP fun env he s1 x=>?_;subst he;refine ⟨lim.keeps x.toInCall.keep,codeAny_func ?_⟩;obtain ⟨t,ht,hq⟩:=BG A outer s H vs Q E (hr.deeper _) BV;have I:Inv (cA CX P w K mg base N qual scope f Aj A outer s H E) [] (start N vs) H s1:=t5 S hr.hd e0 hl r x;refine T4 (ht [] s1 (start N vs) H _ I hq) (fun fl s' hs=>?_) fun e s' hs=>hs
 have fin:∀ {f':St} {H':Hp} {v:V} {u:Sb},Inv (cA CX P w K mg base N qual scope f Aj A outer s H E) [] f' H' s'->RelV v u->Q v H'->CE outer P w H s Q u s' :=
  fun {f' H' v u} J rv q=>⟨v,H',J.os,J.bare,J.base,J.hok,rv,q⟩
 cases fl with
 | ret u =>
   obtain ⟨v,f',H',J,rv,q⟩:=hs;exact fin J rv q
 | next =>
   obtain ⟨f',H',J,q⟩:=hs;exact fin (v:=V.non) (u:=Ux) J rfl q
 | brk =>
   obtain ⟨_,_,_,q⟩:=hs;exact UC q
 | cont =>
   obtain ⟨_,_,_,q⟩:=hs;exact UC q
end L2
namespace L2
open PySem PySem.Spec PyProof.Rows
section
variable {X:Cx} {x:Ss} {p pos:Wq} {e:TV} {es:List TV} {t:TA} {id T:String} {r:List V->Hp->VK->Prop}
def tCB (r:List V->Hp->VK->Prop) (t:TA):TE:=fun σ H Q=>t σ H fun vs H1=>r vs H1 Q
theorem ao (hc:e9 X (.builtin id) r) (hg:Gl X x) (hm:X.mg x=none) (hv:WV x=some (.builtin id)) (ha:PA X (e::es) t) (hn:x≠"__name__":=by decide) (DB:(x == ("__debug__":Ss))=false:=by decide)
 (he:Tz (e::es) X.env=(false,U4 e X.env)::Tz es X.env:=by rfl) (Bj:(Wz pos (Tz es X.env)).any (·.1)=false:=by rfl):PE X (.Call (.Name x p) (e::es) [] pos) (tCB r t):=by
 intro pins s σ H Q I h;refine U0 (iC I hg hm hv ?_ hn DB);exact PyProof.Rows.callWith_builtin1 (thn (ha pos pins s σ H _ I h) fun us s1 ⟨vs,H1,I1,r1,q1⟩=>hc pins s1 σ H1 vs us Q I1 r1 q1) he Bj
theorem bB (hc:e9 X (.type T) r) (hg:Gl X x) (hm:X.mg x=none) (hv:WV x=some (.type T)) (ha:PA X (e::es) t) (hn:x≠"__name__":=by decide) (DB:(x == ("__debug__":Ss))=false:=by decide)
 (he:Tz (e::es) X.env=(false,U4 e X.env)::Tz es X.env:=by rfl) (Bj:(Wz pos (Tz es X.env)).any (·.1)=false:=by rfl):PE X (.Call (.Name x p) (e::es) [] pos) (tCB r t):=by
 intro pins s σ H Q I h;refine U0 (iC I hg hm hv ?_ hn DB);exact U6 (thn (ha pos pins s σ H _ I h) fun us s1 ⟨vs,H1,I1,r1,q1⟩=>hc pins s1 σ H1 vs us Q I1 r1 q1) he Bj
end
end L2
namespace HT
open PySem PyProof.Rows
section
open PySem.SeqAt
open PySem.AutoSeq1 (wpAny_loadPart')
open PySem.MeetsSeq PySem.MeetsSeq2 PySem.MeetsSeq3
end
section
variable {prog:SX} {w:Tq} {A:Tj} {E:Sb->Sf->Prop} {s:Sf}
theorem cat_tup {t b:Sa} {vs ws:List Sb} {Q:Sb->Sf->Prop} (ht:IsTup s.heap t vs.toArray) (hb:IsTup s.heap b ws.toArray) (hv:vs≠[])
 (h1:ws=[]->Q (.ref t) s) (h2:ws≠[]->Q (.ref s.heap.objs.size) { s with heap:=s.heap.push { cls:=.type "tuple",data:=.seq (vs++ws).toArray } })
 (Az:vs.length+ws.length<=SQ):SI (SY prog w) A (V0 .Add (.ref t) (.ref b)) Q E s:=by
 obtain ⟨⟨cls,dd,data,sl⟩,ho,hc,n,hd⟩:=id ht;obtain ⟨⟨GQ,F3,data2,F4⟩,Fc,DC,n2,hd2⟩:=id hb;simp only at hc hd DC hd2;subst hc hd DC hd2;have e:vs.toArray++ws.toArray=(vs++ws).toArray:=by simp
 by_cases hw:ws=[]
 · exact concat_meets ⟨_,ho,rfl⟩ ⟨_,Fc,rfl⟩ noFill_tuple_add seq_tuple_add Xc W6 (WZ _ _)
    (tuple_addW1 t b vs.toArray ws.toArray n n2 dd F3 sl F4 (by simpa using hv) (by simp [hw])) ⟨ho,Fc,h1 hw⟩
 · refine concat_meets ⟨_,ho,rfl⟩ ⟨_,Fc,rfl⟩ noFill_tuple_add seq_tuple_add Xc W6 (WZ _ _)
    (tuple_addW2 t b vs.toArray ws.toArray n n2 dd F3 sl F4 (by simpa using hv) (by simpa using hw) (by rw [Si,Si];exact Az)) ⟨ho,Fc,?_⟩
   rw [e];exact h2 hw
def sIx (n d:Nat):Option Int->Nat
 | none=>d
 | some v=>if v<0 then (v+(n:Int)).toNat else min v.toNat n
theorem sIx_none (n d:Nat):sIx n d none=d:=rfl
theorem sIx_nat (n d k:Nat):sIx n d (some (k:Int))=min k n:=by
 show (if (k:Int)<0 then ((k:Int)+(n:Int)).toNat else min (k:Int).toNat n)=min k n;rw [if_neg (by omega),Uc]
theorem sIx_le (n d:Nat) (hd:d<=n) (o:Option Int):sIx n d o<=n:=by
 cases o with
 | none=>exact hd
 | some v =>
   show (if v<0 then (v+(n:Int)).toNat else min v.toNat n)<=n;by_cases hv:v<0
   · rw [if_pos hv];omega
   · rw [if_neg hv];exact Nat.min_le_right _ _
theorem clip_eq (v:Int) (n d:Nat):(if v<0 then max (v+(n:Int)) 0 else min v (n:Int))=((sIx n d (some v):Nat):Int):=by
 show (if v<0 then max (v+(n:Int)) 0 else min v (n:Int))=(((if v<0 then (v+(n:Int)).toNat else min v.toNat n):Nat):Int);by_cases hv:v<0
 · simp only [if_pos hv];omega
 · simp only [if_neg hv];omega
theorem adjust_gen (lo hi:Option Int) (n:Nat):Vv lo hi 1 (n:Int)=(((sIx n 0 lo:Nat):Int),((sIx n n hi:Nat):Int)):=by
 have h1:¬ ((1:Int)<0):=by omega
 unfold Vv;simp only [h1,if_false];refine X9 ?_ ?_
 · cases lo with
   | none=>rfl
   | some v=>exact clip_eq v n 0
 · cases hi with
   | none=>rfl
   | some v=>exact clip_eq v n n
theorem places_gen (i j:Nat):Ui (i:Int) (j:Int) 1=j - i:=by
 unfold Ui;have h1:(1:Int) > 0:=by omega
 simp only [h1,if_true,Yh];split <;> omega
theorem slicePart_ {v:Sb} {o:Option Int} {Q:Option Int->Sf->Prop} (p:IsPart v o) (h:Q o s):SI (SY prog w) A (Builtin.Slice.slicePartIndex v) Q E s:=by
 cases p with
 | none=>exact slicePart_none h
 | int i t=>exact slicePart_int h
theorem sliceApplied_gen {sl:Sa} {vl vu:Sb} {lo hi:Option Int} {n:Nat} {Q:Int×Int×Nat->Sf->Prop} (hs:s.heap.IsSliceOf sl vl vu .none) (pl:IsPart vl lo) (pu:IsPart vu hi)
 (h:Q (((sIx n 0 lo:Nat):Int),1,sIx n n hi - sIx n 0 lo) s):SI (SY prog w) A (V4 (.ref sl) (pure (n:Int))) Q E s:=by
 obtain ⟨os,Cf,GR,Cg⟩:=id hs;unfold V4 Builtin.Slice.sliceFields;refine R9 (R9 (TH Cf Cg (x:=vl) rfl (R9 (TH Cf Cg (x:=vu) rfl (R9 (TH Cf Cg (x:=.none) rfl (SA ?_)))))));refine R9 (slicePart_none ?_);show SI _ _ (if ((1:Int) == 0)=true then _ else _) _ _ s;rw [if_neg (by decide)];refine R9 (slicePart_ pl (R9 (slicePart_ pu (R9 (SA ?_)))));show SI _ _ (match Vv lo hi 1 (n:Int) with | (lo,hi)=>pure (lo,(1:Int),Ui lo hi 1)) _ _ s;rw [adjust_gen lo hi n];show SI _ _ (pure (((sIx n 0 lo:Nat):Int),(1:Int),Ui ((sIx n 0 lo:Nat):Int) ((sIx n n hi:Nat):Int) 1)) _ _ s;rw [places_gen];exact SA h
theorem pick_gen (xs:Array Sb) (i k:Nat):((Tw k).filterMap fun (m:Nat)=>xs[((i:Int)+(m:Int) * 1).toNat]?).toArray=((xs.toList.drop i).take k).toArray:=by
 have e:(fun (m:Nat)=>xs[((i:Int)+(m:Int) * 1).toNat]?)=fun m=>xs[i+m]?:=by
  funext m;have:((i:Int)+(m:Int) * 1).toNat=i+m:=by omega
  rw [this]
 rw [e];have:=pick_run xs i k;rw [List.filterMap_map] at this;have e2:((fun x=>xs[x]?) ∘ fun x=>i+x)=fun m=>xs[i+m]?:=rfl;rw [e2] at this;rw [this]
theorem getItem_tuple_cut {t sl:Sa} {items:Array Sb} {vl vu:Sb} {lo hi:Option Int} {Q:Sb->Sf->Prop} (ht:IsTup s.heap t items) (hs:s.heap.IsSliceOf sl vl vu .none) (pl:IsPart vl lo) (pu:IsPart vu hi)
 (hw:¬ (sIx items.size 0 lo=0/\sIx items.size items.size hi=items.size))
 (h:Q (.ref s.heap.objs.size) { s with heap:=s.heap.push { cls:=.type "tuple",data:=.seq ((items.toList.drop (sIx items.size 0 lo)).take (sIx items.size items.size hi - sIx items.size 0 lo)).toArray } })
 (Az:items.size<=SQ):SI (SY prog w) A (XF (.ref t) (.ref sl)) Q E s:=by
 have Bl:sizeOk (.seq ((items.toList.drop (sIx items.size 0 lo)).take (sIx items.size items.size hi - sIx items.size 0 lo)).toArray):=by
  show ((items.toList.drop (sIx items.size 0 lo)).take (sIx items.size items.size hi - sIx items.size 0 lo)).toArray.size<=SQ;rw [Si,SR,Tf,SE];omega
 have hj:sIx items.size items.size hi<=items.size:=sIx_le _ _ (Sg _) hi;obtain ⟨os,Cf,GR,Cg⟩:=id hs;have J2:s.TypeIs (.ref sl) "slice":=⟨os,Cf,GR⟩;unfold XF
 try with_reducible refine Ve ?_
 first | refine R9 (SA ?_) | skip
 refine R9 (wpAny_sequenceKey ht.typeIs (by decide) ?_)
 refine R9 (U8 (name:=R4 "__getitem__") ht.typeIs Um
  (V7 Um ht.typeIs entry_tuple_getitem ?_ (args_tuple_getitem _ _)))
 show SI _ _ (Builtin.Tuple.tupleItemsOf (.ref t) >>= _) _ _ s;refine R9 (tupleItemsOf_ ht ?_);refine R9 (wpAny_typeOf J2 ?_);rw [if_pos (by decide)];refine R9 (sliceApplied_gen hs pl pu ?_)
 have AJ:¬ ((((sIx items.size 0 lo:Nat):Int) == 0 && (1:Int) == 1 && (sIx items.size items.size hi - sIx items.size 0 lo) == items.size)=true):=by
  intro q;rw [Tr,Tr] at q;have q1:((sIx items.size 0 lo:Nat):Int)=0:=eq_of_beq q.1.1;have q2:sIx items.size items.size hi - sIx items.size 0 lo=items.size:=eq_of_beq q.2;exact hw ⟨by omega,by omega⟩
 show SI _ _ (if (((sIx items.size 0 lo:Nat):Int) == 0 && (1:Int) == 1 && (sIx items.size items.size hi - sIx items.size 0 lo) == items.size)=true then _ else _) _ _ s;rw [if_neg AJ,pick_gen]
 first
  | exact R9 (m:=Ul _) (Uh (SA ⟨_,rfl,SA h⟩) Bl)
  | exact R9 (m:=Ul _) (Uh (R9 (SA (SA ⟨_,rfl,SA h⟩))) Bl)
  | exact R9 (R9 (m:=Ul _) (Uh (SA (SA ⟨_,rfl,SA h⟩)) Bl))
  | exact R9 (R9 (m:=Ul _) (Uh (SA ⟨_,rfl,SA h⟩) Bl))
end
end HT
namespace L2
open PySem PySem.Spec PyProof.Rows
abbrev TO:=St->Hp->(Option Int->Hp->Prop)->Prop
def PO (X:Cx) (e:Option TV) (t:TO):Prop :=
 ∀ (pins:List (Sa×UU)) (s:Sf) (σ:St) (H:Hp) (Q:Option Int->Hp->Prop),Inv X pins σ H s->t σ H Q →
   SI (SY X.prog X.w) X.A (evalPart e X.env) (fun u s'=>∃ o H',Inv X pins σ H' s'/\IsPart u o/\Q o H') X.xe s
def v8:TO:=fun _ H Q=>Q none H
inductive xu (x:V) (Q:Option Int->Hp->Prop) (H1:Hp):Prop
 | mk (i:Int) (Au:x=.int i) (Av:Q (some i) H1):xu x Q H1
def xr (t:TE):TO:=fun σ H Q=>t σ H fun x H1=>xu x Q H1
section
variable {X:Cx} {e:TV} {te:TE} {lo hi:Option TV} {tl th:TO} {pos p2:Wq}
theorem bw:PO X none v8:=by
 intro pins s σ H Q I h;rw [evalPart_none];exact SA ⟨none,H,I,.none,h⟩
theorem aY (h:PE X e te):PO X (some e) (xr te):=by
 intro pins s σ H Q I hw;rw [evalPart_some];refine thn (h pins s σ H _ I hw) fun u s1 ⟨x,H1,I1,r1,q1⟩=>?_;obtain ⟨i,rfl,q⟩:=q1;obtain ⟨t,rfl⟩:=r1;exact ⟨some i,H1,I1,.int i t,q⟩
def SlR (X:Cx) (r:V->Option Int->Option Int->Hp->VK->Prop):Prop :=
 ∀ (pins:List (Sa×UU)) (s:Sf) (σ:St) (H:Hp) (x:V) (v vl vu:Sb) (lo hi:Option Int) (sl:Sa) (Q:VK),Inv X pins σ H s->RelV x v->s.heap.IsSliceOf sl vl vu .none->IsPart vl lo->IsPart vu hi->r x lo hi H Q →
   ∃ T id,typeLookup (.type T) "__getitem__"=pure (some (.builtin id))/\s.TypeIs v T/\SI (SY X.prog X.w) X.A (XF v (.ref sl)) (EP X pins σ Q) X.xe s
def tSl (r:V->Option Int->Option Int->Hp->VK->Prop) (te:TE) (tl th:TO):TE:=fun σ H Q=>te σ H fun x H1=>tl σ H1 fun l H2=>th σ H2 fun u H3=>r x l u H3 Q
theorem aQ {r:V->Option Int->Option Int->Hp->VK->Prop} (hr:SlR X r) (he:PE X e te) (hl:PO X lo tl) (hu:PO X hi th):PE X (.Subscript e (.Slice lo hi none p2) pos) (tSl r te tl th):=by
 intro pins s σ H Q I h;refine Subscript_ (thn (he pins s σ H _ I h) fun v s1 ⟨x,H1,I1,r1,q1⟩=>?_);refine wpAny_Slice (thn (hl pins s1 σ H1 _ I1 q1) fun vl s2 ⟨l,H2,I2,pl,q2⟩=>thn (hu pins s2 σ H2 _ I2 q2) fun vu s3 ⟨u,H3,I3,pu,q3⟩=>?_);rw [evalPart_none];refine SA ?_;have I4:Inv X pins σ H3 { s3 with heap:=s3.heap.push { cls:=.type "slice",data:=.fields #[vl,vu,.none] } }:=I3.kept (t':=s3.toks) fun b ob q=>Se _ q;obtain ⟨T,id,hT,ht,hg⟩:=hr pins { s3 with heap:=s3.heap.push { cls:=.type "slice",data:=.fields #[vl,vu,.none] } } σ H3 x v vl vu l u s3.heap.objs.size Q I4 r1 (Heap.IsSliceOf.new ..) pl pu q3;show SI (SY X.prog X.w) X.A (subscriptTail e (.Slice lo hi none p2) v (.ref s3.heap.objs.size)) (EP X pins σ Q) X.xe { s3 with heap:=s3.heap.push { cls:=.type "slice",data:=.fields #[vl,vu,.none] } };exact tail_any (ops:=[.ref s3.heap.objs.size,v]) ht hT hg (by with_unfolding_all rfl)
def cR (xs:List V) (lo hi:Option Int):List V:=(xs.drop (HT.sIx xs.length 0 lo)).take (HT.sIx xs.length xs.length hi - HT.sIx xs.length 0 lo)
theorem j3 (xs:List V) (lo hi:Option Int):(cR xs lo hi).length<=xs.length:=by
 unfold cR;rw [SR,Tf];omega
inductive xi (K:R8) (x:V) (lo:Option Int) (hi:Option Int) (H:Hp) (Q:VK):Prop
 | mk (a:_) (xs:_) (Au:x=.ref a) (Av:SqT K H a xs) (AF:¬ (HT.sIx xs.length 0 lo=0/\HT.sIx xs.length xs.length hi=xs.length)) (AR:∀ p,H p=none->Q (.ref p) (upd H p (.tup (cR xs lo hi)))):xi K x lo hi H Q
def zH (K:R8):V->Option Int->Option Int->Hp->VK->Prop:=xi K
theorem qS:SlR X (zH X.K):=by
 intro pins s σ H x v vl vu lo hi sl Q I rx hs pl pu h;obtain ⟨a,xs,rfl,hx,hw,q⟩:=h;cases rx;obtain ⟨its,r,ht,hz⟩:=I.tuple hx;have hlen:its.toArray.size=xs.length:=by rw [Si];exact r.length.symm
 refine ⟨"tuple",_,Um.lookup,ht.typeIs,?_⟩;refine HT.getItem_tuple_cut ht hs pl pu (by rw [hlen];exact hw) ?_ (by rw [hlen];exact hz);rw [hlen];refine ⟨.ref s.heap.objs.size,_,I.laid (t':=s.toks) (o:=.tup (cR xs lo hi)) (fun b ob q=>Se _ q) (Sg _) ?_,rfl,q _ (I.hok.fresh (Sg _))⟩;exact ⟨TF (j3 xs lo hi) hz,_,0,(r.drop (HT.sIx xs.length 0 lo)).take (HT.sIx xs.length xs.length hi - HT.sIx xs.length 0 lo),Sx _ rfl⟩
def zk (K:R8):R2:=fun x y H Q=>∃ a b xs ys,x=.ref a/\y=.ref b/\SqT K H a xs/\SqT K H b ys/\xs≠[]/\xs.length+ys.length<=SQ ∧
 (ys=[]->Q (.ref a) H)/\(ys≠[]->∀ p,H p=none->Q (.ref p) (upd H p (.tup (xs++ys))))
theorem Vals.nil_iff {xs:List V} {us:List Sb} (r:Vals xs us):us=[]↔xs=[]:=by
 cases r with
 | nil=>simp
 | cons _ _=>simp
theorem wQ:OpR X (V0 .Add) (zk X.K):=by
 intro pins s σ H x y v u Q I rx ry h;obtain ⟨a,b,xs,ys,rfl,rfl,ha,hb,hx,hz,q1,q2⟩:=h;cases rx;cases ry;obtain ⟨its,r1,p1,_⟩:=I.tuple ha;obtain ⟨Ad,r2,p2,_⟩:=I.tuple hb;refine HT.cat_tup p1 p2 (fun z=>hx (r1.nil_iff.mp z)) (fun z=>⟨.ref a,H,I,rfl,q1 (r2.nil_iff.mp z)⟩) (fun z=>?_) (by rw [<- r1.length,<- r2.length];exact hz);refine ⟨.ref s.heap.objs.size,_,I.laid (t':=s.toks) (o:=.tup (xs++ys)) (fun b ob q=>Se _ q) (Sg _) ?_,rfl,q2 (fun w=>z (r2.nil_iff.mpr w)) _ (I.hok.fresh (Sg _))⟩;exact ⟨by rw [Sm];exact hz,_,0,r1.append r2,Sx _ rfl⟩
end
end L2
namespace L2
open PySem PySem.Spec PyProof.Rows
def ixN (n:Nat) (i:Int):Option Nat:=if 0<=i then (if i<n then some i.toNat else none) else if -(n:Int)<=i then some (i+n).toNat else none
def atI {α:Type} (xs:List α) (i:Int):Option α:=(ixN xs.length i).bind fun j=>xs[j]?
theorem sI {n:Nat} {i:Int} {j:Nat} (h:ixN n i=some j):seqIndex? i n=some j/\j<n/\-(n:Int)<=i/\i<n:=by
 unfold ixN at h;by_cases h0:0<=i
 · rw [if_pos h0] at h;by_cases h1:i<n
   · rw [if_pos h1] at h;have e:i.toNat=j:=Su h;exact ⟨by rw [seqIndex_of h0 h1,e],by omega,by omega,h1⟩
   · rw [if_neg h1] at h;cases h
 · rw [if_neg h0] at h;by_cases h1:-(n:Int)<=i
   · rw [if_pos h1] at h;have e:(i+n).toNat=j:=Su h;exact ⟨by rw [seqIndex_neg (by omega) h1,e],by omega,h1,by omega⟩
   · rw [if_neg h1] at h;cases h
theorem lp {α:Type} {xs:List α} {i:Int} {v:α} (h:atI xs i=some v):∃ j,seqIndex? i xs.length=some j/\xs[j]?=some v/\j<xs.length/\-(xs.length:Int)<=i/\i<xs.length:=by
 unfold atI at h;cases e:ixN xs.length i with
 | none=>rw [e] at h;cases h
 | some j =>
   rw [e] at h;obtain ⟨h1,h2,h3,h4⟩:=sI e;exact ⟨j,h1,h,h2,h3,h4⟩
theorem cT {α:Type} {xs:List α} {j:Nat} {v:α} (h:xs[j]?=some v):atI xs (j:Int)=some v:=by
 have hj:j<xs.length:=(Sj.mp h).1
 have e:ixN xs.length (j:Int)=some j:=by
  unfold ixN;rw [if_pos (by omega),if_pos (by omega)];simp
 unfold atI;rw [e];exact h
theorem pD {α:Type} (xs:List α) (v:α):atI (xs++[v]) (-1)=some v:=by
 have hl:(xs++[v]).length=xs.length+1:=by simp
 have e:ixN (xs++[v]).length (-1)=some xs.length:=by
  unfold ixN;rw [hl,if_neg (by decide),if_pos (by omega)];congr 1;omega
 unfold atI;rw [e];show (xs++[v])[xs.length]?=some v;simp
def wo (b:TV):Prop:=∀ o i,subscripted b false o i=operate [o,i] (XF o i)
def IxR (X:Cx) (r:R2):Prop :=
 ∀ (value slice:TV) (pins:List (Sa×UU)) (s:Sf) (σ:St) (H:Hp) (x y:V) (v u:Sb) (Q:VK),Inv X pins σ H s->RelV x v->RelV y u->r x y H Q →
   subscripted slice false v u=operate [v,u] (XF v u)->SI (SY X.prog X.w) X.A (subscriptTail value slice v u) (EP X pins σ Q) X.xe s
def MtR (X:Cx) (id:String) (r:V->List V->Hp->VK->Prop):Prop :=
 ∀ (pins:List (Sa×UU)) (s:Sf) (σ:St) (H:Hp) (x:V) (xs:List V) (v:Sb) (us:List Sb) (Q:VK),Inv X pins σ H s->RelV x v->Vals xs us->r x xs H Q →
   SI (SY X.prog X.w) X.A (call (.builtin id) (v::us)) (EP X pins σ Q) X.xe s
section
variable {X:Cx} {a b:TV} {ta tb:TE} {pos:Wq}
theorem au {r:R2} (hr:IxR X r) (ha:PE X a ta) (hb:PE X b tb) (hs:wo b):PE X (.Subscript a b pos) (tOp r ta tb):=by
 intro pins s σ H Q I h;exact Subscript_ (xQ ha hb I h fun v u s2 x y H2 I2 rx ry q=>hr a b pins s2 σ H2 x y v u Q I2 rx ry q (hs _ _))
inductive xq (K:R8) (x:V) (y:V) (H:Hp) (Q:VK):Prop
 | mk (p:_) (xs:_) (i:_) (v:_) (Au:x=.ref p) (Av:y=.int i) (AF:SqL K H p xs) (AR:atI xs i=some v) (Bs:Q v H):xq K x y H Q
def vh (K:R8):R2:=xq K
inductive xC (K:R8) (x:V) (y:V) (H:Hp) (Q:VK):Prop
 | mk (p:_) (xs:_) (i:_) (v:_) (Au:x=.ref p) (Av:y=.int i) (AF:SqT K H p xs) (AR:atI xs i=some v) (Bs:Q v H):xC K x y H Q
def vD (K:R8):R2:=xC K
inductive xl (x:V) (y:V) (H:Hp) (Q:VK):Prop
 | mk (z:_) (i:_) (c:_) (Au:x=.str z) (Av:y=.int i) (AF:z.length<=SQ) (AR:atI z.cps.toList i=some c) (Bs:Q (.str ⟨#[c]⟩) H):xl  x y H Q
def aap:R2:=xl
theorem aI:IxR X (vh X.K):=by
 intro value slice pins s σ H x y v u Q I rx ry h hs;obtain ⟨p,xs,i,z,rfl,rfl,hq,he,q⟩:=h;cases rx;obtain ⟨t,rfl⟩:=ry;obtain ⟨its,r,pl,hz⟩:=I.list hq;obtain ⟨j,h1,h2,h3,h4,h5⟩:=lp he;obtain ⟨w,ew,B0⟩:=r.get h2;have hl:=r.length;have hn:=gv;have fin:EP X pins σ Q w s:=⟨z,H,I,B0,q⟩;by_cases h0:0<=i
 · have hj:i.toNat=j:=by
    rw [seqIndex_of h0 h5] at h1;exact Su h1
   exact item_listR pl.isList h0 (by omega) (by rw [hj];simpa using ew) fin hs
 · have hj:(i+(its.toArray.size:Int)).toNat=j:=by
    rw [seqIndex_neg (by omega) h4] at h1;rw [Si,<- hl];exact Su h1
   exact subscriptTail_builtinR (x:=w) pl.isList.typeIs slot_list_getitem.lookup
    (wpAny_getItem_list_neg (Q:=fun r s'=>r=w/\EP X pins σ Q r s') pl.isList (by omega) (by rw [Si] <;> omega) (by omega) (by rw [hj];simpa using ew) ⟨rfl,fin⟩) hs
theorem aD:IxR X (vD X.K):=by
 intro value slice pins s σ H x y v u Q I rx ry h hs;obtain ⟨p,xs,i,z,rfl,rfl,hq,he,q⟩:=h;cases rx;obtain ⟨t,rfl⟩:=ry;obtain ⟨its,r,pl,hz⟩:=I.tuple hq;obtain ⟨j,h1,h2,h3,h4,h5⟩:=lp he;obtain ⟨w,ew,B0⟩:=r.get h2;have hl:=r.length;have hn:=gv;have fin:EP X pins σ Q w s:=⟨z,H,I,B0,q⟩
 exact subscriptTail_builtinR (x:=w) pl.typeIs slot_tuple_getitem.lookup
  (getItem_tuple (j:=j) (Q:=fun r s'=>r=w/\EP X pins σ Q r s') pl (by omega) (by omega) (by rw [Si,<- hl];exact h1) (by simpa using ew) ⟨rfl,fin⟩) hs
theorem ou:IxR X aap:=by
 intro value slice pins s σ H x y v u Q I rx ry h hs;obtain ⟨z,i,c,rfl,rfl,hz,he,q⟩:=h;obtain ⟨t,rfl⟩:=rx;obtain ⟨t',rfl⟩:=ry;obtain ⟨j,h1,h2,h3,h4,h5⟩:=lp he;have hl:z.cps.toList.length=z.length:=by simp [Str.length]
 rw [hl] at h1 h4 h5;have hn:=gv
 exact tail_any (Vl s z t) slot_str_getitem.lookup (getItem_str (c:=c) (by
  have e1:decide (i < -(2 ^ 63:Int))=false:=decide_eq_false (by omega);have e2:decide (i ≥ 2 ^ 63)=false:=decide_eq_false (by omega);rw [e1,e2,Bool.or_false]) (by rw [h1];simpa using h2) ⟨.str ⟨#[c]⟩,H,I.tok _,⟨_,rfl⟩,q⟩) hs
theorem rk (its:List Sb) (n j:Nat) (u:Sb):XI (·.setIfInBounds j u) { cls:=.type "list",data:=.seq its.toArray n }={ cls:=.type "list",data:=.seq (its.set j u).toArray n }:=by
 simp [XI]
theorem Inv.lst {pins:List (Sa×UU)} {σ:St} {H:Hp} {s:Sf} {p:Sa} {xs:List V} (I:Inv X pins σ H s) (h:H p=some (.lst xs)) :
 ∃ (its:List Sb) (n:Nat),Vals xs its/\s.heap.get? p=some { cls:=.type "list",data:=.seq its.toArray n }/\xs.length<=SQ:=by
 obtain ⟨z,its,n,r,e⟩:=I.hok p _ h;exact ⟨its,n,r,e,z⟩
theorem Inv.lstUpd {pins:List (Sa×UU)} {σ:St} {H:Hp} {s:Sf} {p:Sa} {xs ys:List V} {its its':List Sb} {n n':Nat} {f:UU->UU} (I:Inv X pins σ H s) (h:H p=some (.lst xs))
 (ho:s.heap.get? p=some { cls:=.type "list",data:=.seq its.toArray n }) (hf:f { cls:=.type "list",data:=.seq its.toArray n }={ cls:=.type "list",data:=.seq its'.toArray n' }) (r:Vals ys its') (hz:ys.length<=SQ) (t:Nat) :
 Inv X pins σ (upd H p (.lst ys)) { s with heap:=s.heap.update p f,toks:=t }:=by
 have e:(s.heap.update p f).get? p=some { cls:=.type "list",data:=.seq its'.toArray n' }:=by
  rw [XW f ho (by rw [hf] <;> rfl),hf]
 refine I.write (x:=p) (e:=p) (by rw [h];trivial) (.inl rfl) (fun b u hb q=>(WB _ _ (VE hb)).trans q) ⟨_,e⟩ ?_;exact ⟨hz,its',n',r,e⟩
def zm:V->V->V->Hp->(Hp->Prop)->Prop:=fun o i v H Q=>∃ p xs k j,o=.ref p/\i=.int k/\H p=some (.lst xs)/\ixN xs.length k=some j/\Q (upd H p (.lst (xs.set j v)))
theorem set_list:ym X zm:=by
 intro pins s σ H o i v ov iv u Q I ro ri rv h;obtain ⟨p,xs,k,j,rfl,rfl,hp,hj,q⟩:=h;cases ro;obtain ⟨t,rfl⟩:=ri;obtain ⟨its,n,r,ho,hz⟩:=I.lst hp;obtain ⟨h1,h2,h3,h4⟩:=sI hj;have hl:=r.length;have hn:=gv
 have I':Inv X pins σ (upd H p (.lst (xs.set j v))) { s with heap:=s.heap.update p (XI (·.setIfInBounds j u)) } :=
  I.lstUpd hp ho (rk its n j u) (r.set rv j) (by rw [UA];exact hz) s.toks
 by_cases h0:0<=k
 · have hk:k.toNat=j:=by
    rw [seqIndex_of h0 h4] at h1;exact Su h1
   exact PySem.W.ki_setAt ho h0 (by omega) (by rw [Si,<- hl];exact h4) (by rw [hk];exact ⟨_,I',q⟩)
 · have hk:(k+(its.toArray.size:Int)).toNat=j:=by
    rw [seqIndex_neg (by omega) h3] at h1;rw [Si,<- hl];exact Su h1
   exact PySem.W.ki_setBack ho (by omega) (by rw [Si,<- hl];exact h3) (by omega) (by rw [hk];exact ⟨_,I',q⟩)
theorem oy (lo hi:Option Int) (n:Nat):(WJ lo hi none n).1=((HT.sIx n 0 lo:Nat):Int)/\(WJ lo hi none n).2.1=((HT.sIx n n hi:Nat):Int)/\(WJ lo hi none n).2.2=1:=by
 refine ⟨?_,?_,rfl⟩
 · cases lo with
   | none=>simp [WJ,HT.sIx]
   | some i =>
     simp only [WJ,HT.sIx,Option.getD_none,show (1:Int) > 0 by decide,if_true];by_cases h:i<0
     · simp only [h,if_true] <;> omega
     · simp only [h,if_false] <;> omega
 · cases hi with
   | none=>simp [WJ,HT.sIx]
   | some i =>
     simp only [WJ,HT.sIx,Option.getD_none,show (1:Int) > 0 by decide,if_true];by_cases h:i<0
     · simp only [h,if_true] <;> omega
     · simp only [h,if_false] <;> omega
theorem m5 (its:List Sb) (lo hi:Option Int):slicePick its.toArray lo hi none=((its.drop (HT.sIx its.length 0 lo)).take (HT.sIx its.length its.length hi - HT.sIx its.length 0 lo)).toArray:=by
 obtain ⟨h1,h2,h3⟩:=oy lo hi its.toArray.size;unfold slicePick;rw [h1,h2,h3];simp only [sliceRange_one,pick_run,Si] <;> rfl
inductive xA (K:R8) (x:V) (lo:Option Int) (hi:Option Int) (H:Hp) (Q:VK):Prop
 | mk (a:_) (xs:_) (Au:x=.ref a) (Av:SqL K H a xs) (AF:∀ p,H p=none->Q (.ref p) (upd H p (.lst (cR xs lo hi)))):xA K x lo hi H Q
def aad (K:R8):V->Option Int->Option Int->Hp->VK->Prop:=xA K
theorem ce:SlR X (aad X.K):=by
 intro pins s σ H x v vl vu lo hi sl Q I rx hs pl pu h;obtain ⟨a,xs,rfl,hx,q⟩:=h;cases rx;obtain ⟨its,r,ht,hz⟩:=I.list hx;have hlen:=r.length;refine ⟨"list",_,slot_list_getitem.lookup,ht.isList.typeIs,?_⟩;refine wpAny_getItem_list_slice ht.isList hs pl pu .none (by simp) ?_ (by rw [Si] <;> omega);rw [m5,<- hlen];refine ⟨.ref s.heap.objs.size,_,I.laid (t':=s.toks) (o:=.lst (cR xs lo hi)) (fun b ob q=>Se _ q) (Sg _) ?_,rfl,q _ (I.hok.fresh (Sg _))⟩;exact ⟨TF (j3 xs lo hi) hz,_,0,(r.drop (HT.sIx xs.length 0 lo)).take (HT.sIx xs.length xs.length hi - HT.sIx xs.length 0 lo),Sx _ rfl⟩
def kf:V->Bool
 | .non=>true
 | .bl _=>true
 | .int _=>true
 | .str _=>true
 | _=>false
def eqV:V->V->Bool
 | .non,.non=>true
 | .bl a,.bl b=>a == b
 | .bl a,.int b=>(if a then 1 else 0) == b
 | .int a,.bl b=>a == (if b then 1 else 0)
 | .int a,.int b=>a == b
 | .str a,.str b=>a == b
 | _,_=>false
theorem x9 {A:Tj} {s:Sf} {y x:V} {u v:Sb} (ry:RelV y u) (rx:RelV x v) (fy:kf y=true) (fx:kf x=true):SeqAt.EqAt A s u v (eqV y x):=by
 cases y with
 | non =>
   cases ry;cases x with
   | non=>cases rx;exact SeqAt.EqAt.same _
   | bl b=>cases rx;exact SeqAt.EqAt.none_bool b
   | int b=>obtain ⟨t,rfl⟩:=rx;exact SeqAt.EqAt.none_int b t
   | str b=>obtain ⟨t,rfl⟩:=rx;exact SeqAt.EqAt.none_str b t
   | _=>exact absurd (show false=true from fx) Sz
 | bl a =>
   cases ry;cases x with
   | non=>cases rx;exact SeqAt.EqAt.bool_none a
   | bl b=>cases rx;exact SeqAt.EqAt.bool_bool a b
   | int b=>obtain ⟨t,rfl⟩:=rx;exact SeqAt.EqAt.bool_int a b t
   | str b=>obtain ⟨t,rfl⟩:=rx;exact SeqAt.EqAt.bool_str a b t
   | _=>exact absurd (show false=true from fx) Sz
 | int a =>
   obtain ⟨t',rfl⟩:=ry;cases x with
   | non=>cases rx;exact SeqAt.EqAt.int_none a t'
   | bl b=>cases rx;exact SeqAt.EqAt.int_bool a t' b
   | int b=>obtain ⟨t,rfl⟩:=rx;exact SeqAt.EqAt.int_int a t' b t
   | str b=>obtain ⟨t,rfl⟩:=rx;exact SeqAt.EqAt.int_str a t' b t
   | _=>exact absurd (show false=true from fx) Sz
 | str a =>
   obtain ⟨t',rfl⟩:=ry;cases x with
   | non=>cases rx;exact SeqAt.EqAt.str_none a t'
   | bl b=>cases rx;exact SeqAt.EqAt.str_bool a t' b
   | int b=>obtain ⟨t,rfl⟩:=rx;exact SeqAt.EqAt.str_int a t' b t
   | str b=>obtain ⟨t,rfl⟩:=rx;exact SeqAt.EqAt.str_str a t' b t
   | _=>exact absurd (show false=true from fx) Sz
 | _=>exact absurd (show false=true from fy) Sz
def eqU (x:V) (u:Sb):Bool:=match u with
 | .none=>eqV .non x
 | .bool b=>eqV (.bl b) x
 | .int i _=>eqV (.int i) x
 | .str z _=>eqV (.str z) x
 | _=>false
theorem uZ {x y:V} {u:Sb} (r:RelV y u) (f:kf y=true):eqU x u=eqV y x:=by
 cases y with
 | non=>cases r;rfl
 | bl b=>cases r;rfl
 | int i=>obtain ⟨t,rfl⟩:=r;rfl
 | str z=>obtain ⟨t,rfl⟩:=r;rfl
 | _=>exact absurd (show false=true from f) Sz
theorem pd {x:V}:∀ {xs:List V} {us:List Sb},Vals xs us->xs.all kf=true->us.any (eqU x)=xs.any fun y=>eqV y x
 | _,_,.nil,_=>rfl
 | y::xs,u::us,.cons r t,f=>by
   rw [W2,Tr] at f;rw [List.any_cons,List.any_cons,uZ r f.1,pd t f.2]
theorem lH {A:Tj} {s:Sf} {x:V} {v:Sb} (rx:RelV x v) (fx:kf x=true):∀ {xs:List V} {us:List Sb},Vals xs us->xs.all kf=true->∀ u∈us,SeqAt.EqAt A s u v (eqU x u)
 | _,_,.nil,_=>fun u hu=>by cases hu
 | y::xs,u::us,.cons r t,f=>fun u' hu=>by
   rw [W2,Tr] at f;rcases Sn.mp hu with rfl | hu
   · rw [uZ r f.1];exact x9 r rx f.1 fx
   · exact lH rx fx t f.2 u' hu
def inV (x:V) (xs:List V):Bool:=xs.any fun y=>eqV y x
def rIn (K:R8) (neg:Bool):R2:=fun x y H Q=>∃ p xs,y=.ref p/\(SqL K H p xs∨SqT K H p xs)/\kf x=true/\xs.all kf=true/\Q (.bl (if neg then !inV x xs else inV x xs)) H
theorem nW:OpR X (UK .In) (rIn X.K false):=by
 intro pins s σ H x y v u Q I rx ry h;obtain ⟨p,xs,rfl,hq,fx,fs,q⟩:=h;cases ry;rcases hq with hq | hq
 · obtain ⟨its,r,pl,hz⟩:=I.list hq;refine SeqAt.in_listAt (eqU x) pl.isList (fun w hw=>lH rx fx r fs w (by simpa using hw)) ⟨.bl _,H,I,rfl,?_⟩;rw [show its.toArray.any (eqU x)=its.any (eqU x) by simp,pd r fs];exact q
 · obtain ⟨its,r,pl,hz⟩:=I.tuple hq;refine SeqAt.in_tupleAt (eqU x) pl (fun w hw=>lH rx fx r fs w (by simpa using hw)) ⟨.bl _,H,I,rfl,?_⟩;rw [show its.toArray.any (eqU x)=its.any (eqU x) by simp,pd r fs];exact q
inductive xD (K:R8) (xs:List V) (H:Hp) (Q:VK):Prop
 | mk (p:Sa) (ys:List V) (Au:xs=[.ref p]) (Av:SqL K H p ys∨SqT K H p ys) (AF:Q (.int ys.length) H):xD K xs H Q
theorem aj:e9 X (.builtin "len") (xD X.K):=by
 intro pins s σ H xs us Q I r h;obtain ⟨p,ys,rfl,hq,q⟩:=h;obtain ⟨u,rfl,rx⟩:=vals1 r;cases rx;have hn:=gv;rcases hq with hq | hq
 · obtain ⟨its,r',pl,hz⟩:=I.list hq;have hlen:=r'.length;exact Calls.call_len_list pl.isList (by simp only [Si] <;> omega) ⟨.int ys.length,H,I.tok _,⟨s.toks+1,by rw [Si,hlen]⟩,q⟩
 · obtain ⟨its,r',pl,hz⟩:=I.tuple hq;have hlen:=r'.length;exact len_tuple pl (by simp only [Si] <;> omega) ⟨.int ys.length,H,I.tok _,⟨s.toks+1,by rw [Si,hlen]⟩,q⟩
theorem dL:e9 X (.builtin "len") (fun xs H Q=>∃ z,xs=[.str z]/\z.length<=SQ/\Q (.int z.length) H):=by
 intro pins s σ H xs us Q I r h;obtain ⟨z,rfl,hz,q⟩:=h;obtain ⟨u,rfl,t,rfl⟩:=vals1 r;have hn:=gv;exact len_str (by omega) ⟨.int z.length,H,I.tok _,⟨_,rfl⟩,q⟩
theorem bJ:e9 X (.type "tuple") (fun xs H Q=>∃ p ys,xs=[.ref p]/\((SqL X.K H p ys/\∀ l,H l=none->Q (.ref l) (upd H l (.tup ys)))∨(SqT X.K H p ys/\Q (.ref p) H))):=by
 intro pins s σ H xs us Q I r h;obtain ⟨p,ys,rfl,h⟩:=h;obtain ⟨u,rfl,rx⟩:=vals1 r;cases rx;rcases h with ⟨hq,q⟩ | ⟨hq,q⟩
 · obtain ⟨its,r',pl,hz⟩:=I.list hq;have hlen:=r'.length;refine call_tuple_list pl.isList (fun h' kp=>?_) (by simp only [Si] <;> omega);have I1:Inv X pins σ H { s with heap:=h' }:=I.kept (t':=s.toks) kp
   have I2:Inv X pins σ (upd H h'.objs.size (.tup ys)) { s with heap:=h'.push { cls:=.type "tuple",data:=.seq its.toArray } } :=
    I1.laid (t':=s.toks) (fun b o e=>Se _ e) (Sg _) (show ObjOk X.prog X.w _ _ _ (.tup ys) from ⟨hz,its,0,r',Sx _ rfl⟩)
   exact ⟨.ref h'.objs.size,_,I2,rfl,q _ (I1.hok.fresh (Sg _))⟩
 · obtain ⟨its,r',pl,hz⟩:=I.tuple hq;exact call_tuple_same pl ⟨.ref p,H,I,rfl,q⟩
def tyV (K:R8) (T:String) (x:V) (H:Hp):Prop:=match x with
 | .str _=>T="str"
 | .int _=>T="int"
 | .ref p=>(T="list"/\∃ xs,SqL K H p xs)∨(T="tuple"/\∃ o,K.lookup p=some o/\o.cls=.type "tuple"/\o.dict=none) ∨
  (T="dict"/\((∃ AQ,H p=some (.dK AQ))∨∃ AQ,H p=some (.dT AQ)))∨(T="set"/\∃ S n,H p=some (.set S n))
 | _=>False
theorem vG {pins:List (Sa×UU)} {σ:St} {H:Hp} {s:Sf} {T:String} {x:V} {v:Sb} (I:Inv X pins σ H s) (r:RelV x v) (ty:tyV X.K T x H) :
 s.TypeIs v T/\∀ a,v=.ref a->∃ ob,s.heap.get? a=some ob/\ob.dict=none:=by
 cases x with
 | str z =>
   obtain ⟨t,rfl⟩:=r;cases (show T="str" from ty);exact ⟨Vl s z t,fun _ e=>nomatch e⟩
 | int i =>
   obtain ⟨t,rfl⟩:=r;cases (show T="int" from ty);exact ⟨typeIs_int s i t,fun _ e=>nomatch e⟩
 | ref p =>
   cases r;rcases ty with ⟨rfl,xs,hq⟩ | ⟨rfl,o,hk,hc,hd⟩ | ⟨rfl,hk⟩ | ⟨rfl,S,n,hk⟩
   · obtain ⟨its,_,pl,_⟩:=I.list hq;refine ⟨pl.isList.typeIs,fun a e=>?_⟩;cases e;obtain ⟨o,n,e,c,hd,_⟩:=pl;exact ⟨o,e,hd⟩
   · refine ⟨⟨o,I.kIn p o hk,hc⟩,fun a e=>?_⟩;cases e;exact ⟨o,I.kIn _ o hk,hd⟩
   · have z:∃ o,s.heap.get? p=some o/\o.ExactDict:=by
      rcases hk with ⟨AQ,hk⟩ | ⟨AQ,hk⟩
      · obtain ⟨_,_,_,_,o,_,_,e,ex,_⟩:=I.hok p _ hk;exact ⟨o,e,ex⟩
      · obtain ⟨_,_,_,_,o,_,_,e,ex,_⟩:=I.hok p _ hk;exact ⟨o,e,ex⟩
     obtain ⟨o,e,ex⟩:=z;refine ⟨⟨o,e,ex.1⟩,fun a e2=>?_⟩;cases e2;exact ⟨o,e,ex.2.1⟩
   · obtain ⟨o,_,_,_,e,ex,_⟩:=I.hok p _ hk;refine ⟨⟨o,e,ex.1⟩,fun a e2=>?_⟩;cases e2;exact ⟨o,e,ex.2.1⟩
 | _=>exact UC ty
def zx (K:R8) (T:String) (r:V->List V->Hp->VK->Prop) (to:TE):TE:=fun σ H Q=>to σ H fun x H1=>tyV K T x H1/\r x [] H1 Q
def tBM (K:R8) (T:String) (r:V->List V->Hp->VK->Prop) (to:TE) (t:TA):TE:=fun σ H Q=>to σ H fun x H1=>tyV K T x H1/\t σ H1 fun xs H2=>r x xs H2 Q
variable {o e:TV} {es:List TV} {to:TE} {t:TA} {name:Ss} {apos AZ:Wq} {T id:String} {r:V->List V->Hp->VK->Prop}
theorem mC (pa:PlainAttrs T) (slot:Slot T name id) (J3:typeOf (.builtin id)=pure (.type "method_descriptor")) (hm:MtR X id r) (ho:PE X o to)
 (BX:attributeBase o name X.env (U4 o X.env)=U4 o X.env:=by rfl) (BH:(apos.endLine == AZ.line)=true:=by rfl):PE X (.Call (.Attribute o name apos) [] [] AZ) (zx X.K T r to):=by
 intro pins s σ H Q I h;refine wpAny_Call_method0_late BX BH (thn (ho pins s σ H _ I h) fun v s1 ⟨x,H1,I1,r1,ty,q1⟩=>?_);obtain ⟨h1,h2⟩:=vG I1 r1 ty;exact ⟨T,id,pa,slot,J3,h1,h2,Vd rfl (PySem.evalArgs_none (hm pins s1 σ H1 x [] v [] Q I1 r1 .nil q1))⟩
theorem b9 (pa:PlainAttrs T) (slot:Slot T name id) (J3:typeOf (.builtin id)=pure (.type "method_descriptor")) (hm:MtR X id r) (ho:PE X o to) (ha:PA X (e::es) t)
 (BX:attributeBase o name X.env (U4 o X.env)=U4 o X.env:=by rfl)
 (Er:((Wz AZ (Tz (e::es) X.env)).all (fun x=>!x.1) && (backToKw AZ (keywordEach [] X.env)).all (fun x=>x.1.isSome)
  && decide ((e::es).length+([]:List Keyword).length+(if ([]:List Keyword).isEmpty then 0 else 1)<30))=true:=by rfl)
 (BH:(apos.endLine == AZ.line)=true:=by rfl) (hs:Tz (e::es) X.env=(false,U4 e X.env)::Tz es X.env:=by rfl) (Fd:(Wz AZ (Tz es X.env)).any (·.1)=false:=by rfl) :
 PE X (.Call (.Attribute o name apos) (e::es) [] AZ) (tBM X.K T r to t):=by
 intro pins s σ H Q I h;refine VM BX Er BH rfl (thn (ho pins s σ H _ I h) fun v s1 ⟨x,H1,I1,r1,ty,q1⟩=>?_);obtain ⟨h1,h2⟩:=vG I1 r1 ty;refine ⟨T,id,pa,slot,J3,h1,h2,?_⟩;have hA:=ha AZ pins s1 σ H1 _ I1 q1;rw [hs] at hA ⊢;refine Vd (by show (false || (Wz AZ (Tz es X.env)).any (·.1))=false;rw [Fd] <;> rfl) (VC ?_);exact thn hA fun us s2 ⟨vs,H2,I2,r2,q2⟩=>hm pins s2 σ H2 x vs v us Q I2 r1 r2 q2
end
end L2
namespace L2
open PySem PySem.Spec PyProof.Rows
def MtM (X:Cx) (id:String) (r:V->List V->Hp->VK->Prop):Prop :=
 ∀ (pins:List (Sa×UU)) (s:Sf) (σ:St) (H:Hp) (x:V) (xs:List V) (v:Sb) (us:List Sb) (Q:VK),Inv X pins σ H s->RelV x v->Vals xs us->r x xs H Q →
   SI (SY X.prog X.w) X.A (call (.builtin id) (v::us)) (EP X pins σ Q) X.xe s
theorem Vals.one:∀ {x:V} {us:List Sb},Vals [x] us->∃ u,us=[u]/\RelV x u
 | _,_,.cons r .nil=>⟨_,rfl,r⟩
theorem Vals.zero:∀ {us:List Sb},Vals [] us->us=[]
 | _,.nil=>rfl
theorem Vals.dropLast {xs:List V} {us:List Sb} (h:Vals xs us):Vals xs.dropLast us.dropLast:=by
 induction h with
 | nil=>exact .nil
 | cons r t ih =>
   cases t with
   | nil=>exact .nil
   | cons q t'=>exact .cons r ih
theorem Vals.rep {xs:List V} {us:List Sb} (h:Vals xs us):∀ k:Nat,Vals (TJ k xs).flatten (TJ k us).flatten
 | 0=>.nil
 | k+1=>by
   rw [U5,U5,SJ,SJ];exact Vals.append h (Vals.rep h k)
theorem rB {α:Type} (l:List α):l.eraseIdx (l.length - 1)=l.dropLast:=by
 induction l with
 | nil=>rfl
 | cons a r ih =>
   cases r with
   | nil=>rfl
   | cons b r =>
     have e:(a::b::r).length - 1=((b::r).length - 1)+1:=by
      have h1:(a::b::r).length=r.length+2:=rfl;have h2:(b::r).length=r.length+1:=rfl;omega
     rw [e,List.eraseIdx_cons_succ,ih]
     all_goals rfl
theorem foldl_rep (its:List Sb):∀ (k:Nat) (acc:List Sb),
 List.foldl (fun x1 x2=>x1++x2) acc.toArray (TJ k its.toArray)=(acc++(TJ k its).flatten).toArray
 | 0,acc=>by simp
 | k+1,acc=>by
   have e:acc.toArray++its.toArray=(acc++its).toArray:=by simp
   have e2:(acc++its)++(TJ k its).flatten=acc++(TJ (k+1) its).flatten:=by
    rw [U5,SJ,SO]
   rw [<- e2,<- foldl_rep its k (acc++its),<- e,U5,List.foldl_cons]
section
variable {X:Cx} {pins:List (Sa×UU)} {σ:St} {H:Hp} {s:Sf} {l b:Sa} {xs ys zs:List V}
theorem Inv.lset {its its':List Sb} {n:Nat} {f:Array Sb->Array Sb} {t':Nat} (I:Inv X pins σ H s) (hH:H l=some (.lst xs))
 (e:s.heap.get? l=some { cls:=.type "list",data:=.seq its.toArray n }) (hf:f its.toArray=its'.toArray) (hv:Vals ys its') (hz:ys.length<=SQ) :
 Inv X pins σ (upd H l (.lst ys)) { s with heap:=s.heap.update l (XI f),toks:=t' }:=by
 have q:=PySem.IsL.update e f;rw [hf] at q;refine I.write (x:=l) (e:=l) (by rw [hH];exact trivial) (.inl rfl) (fun b' u hb hu=>(WB s.heap (XI f) (VE hb)).trans hu) ⟨_,q⟩ ?_;exact ⟨hz,its',_,hv,q⟩
theorem Inv.lnew {its:List Sb} {t':Nat} (I:Inv X pins σ H s) (hv:Vals ys its) (hz:ys.length<=SQ) :
 Inv X pins σ (upd H s.heap.objs.size (.lst ys)) { s with heap:=s.heap.push { cls:=.type "list",data:=.seq its.toArray },toks:=t' } :=
 I.laid (fun _ _ q=>Se _ q) (Sg _) ⟨hz,its,0,hv,Sx _ rfl⟩
theorem Inv.fresh (I:Inv X pins σ H s):H s.heap.objs.size=none:=I.hok.fresh (Sg _)
theorem Inv.lstM (I:Inv X pins σ H s) (hH:H l=some (.lst xs)):xs.length<=SQ/\∃ (its:List Sb) (n:Nat),Vals xs its/\xs.length=its.length/\s.heap.get? l=some { cls:=.type "list",data:=.seq its.toArray n }:=by
 obtain ⟨z,its,n,r,e⟩:=I.hok l _ hH;exact ⟨z,its,n,r,r.length,e⟩
theorem mR {n:Nat} (h:n<=SQ):U3 n=false:=by
 unfold U3;exact decide_eq_false (by omega)
end
section
variable {X:Cx}
inductive qC (x:V) (vs:List V) (H:Hp) (Q:VK):Prop
 | mk (l:_) (xs:_) (y:_) (Au:x=.ref l) (Av:vs=[y]) (AF:H l=some (.lst xs)) (AR:xs.length<SQ) (Bs:Q .non (upd H l (.lst (xs++[y])))):qC  x vs H Q
def sR:V->List V->Hp->VK->Prop:=qC
theorem aZ:MtM X "list.append" sR:=by
 intro pins s σ H x vs v us Q I rx rv h;obtain ⟨l,xs,y,rfl,rfl,hH,hz,q⟩:=h;cases rx;obtain ⟨u,rfl,ru⟩:=rv.one;obtain ⟨z,its,n,r,hl,e⟩:=I.lstM hH;refine VD F.slot_list_append ⟨_,e,rfl⟩ F.entry_list_append (F.args_list_append_2 _ _) (PySem.list_append l its.toArray n u (by rw [Si];omega)) ⟨e,?_⟩;refine ⟨.non,_,I.lset (its':=its++[u]) hH e (by simp) (r.append (.cons ru .nil)) ?_,rfl,q⟩;rw [Sm,Tn];omega
inductive pP (x:V) (vs:List V) (H:Hp) (Q:VK):Prop
 | mk (l:_) (b:_) (xs:_) (zs:_) (Au:x=.ref l) (Av:vs=[.ref b]) (AF:H l=some (.lst xs)) (AR:H b=some (.lst zs)) (Bs:xs.length+zs.length<=SQ) (Ci:Q .non (upd H l (.lst (xs++zs)))):pP  x vs H Q
def wG:V->List V->Hp->VK->Prop:=pP
theorem uk:MtM X "list.extend" wG:=by
 intro pins s σ H x vs v us Q I rx rv h;obtain ⟨l,b,xs,zs,rfl,rfl,hH,hB,hz,q⟩:=h;cases rx;obtain ⟨u,rfl,ru⟩:=rv.one;cases ru;obtain ⟨z,its,n,r,hl,e⟩:=I.lstM hH;obtain ⟨z2,Ad,n2,r2,AW,e2⟩:=I.lstM hB;have Az:its.toArray.size+Ad.toArray.size<=SQ:=by rw [Si,Si];omega
 have Cj:¬ (!its.toArray.isEmpty && U3 (its.toArray.size+Ad.toArray.size))=true:=by
  rw [mR Az,Bool.and_false];exact Sz
 refine VD F.slot_list_extend ⟨_,e,rfl⟩ F.entry_list_extend (F.args_list_extend_2 _ _)
  (AutoSeq1.list_extend_list_list_0 l its.toArray n b Ad.toArray n2 Cj (by rw [Si];omega) (by omega)) ⟨e,e2,?_⟩
 refine ⟨.non,_,I.lset (its':=its++Ad) hH e (by simp) (r.append r2) ?_,rfl,q⟩;rw [Sm];omega
inductive xp (x:V) (vs:List V) (H:Hp) (Q:VK):Prop
 | mk (l:_) (xs:_) (y:_) (Au:x=.ref l) (Av:vs=[]) (AF:H l=some (.lst xs)) (AR:xs[xs.length - 1]?=some y) (Bs:Q y (upd H l (.lst xs.dropLast))):xp  x vs H Q
def zt:V->List V->Hp->VK->Prop:=xp
theorem oO:MtM X "list.pop" zt:=by
 intro pins s σ H x vs v us Q I rx rv h;obtain ⟨l,xs,y,rfl,rfl,hH,hy,q⟩:=h;cases rx;have OA:=rv.zero;subst OA;obtain ⟨z,its,n,r,hl,e⟩:=I.lstM hH;obtain ⟨u,hu,ru⟩:=r.get hy
 have Dn:its.toArray[its.toArray.size - 1]?=some u:=by
  show its.toArray[its.length - 1]?=some u;rw [<- VL,<- hl];exact hu
 refine VD F.slot_list_pop ⟨_,e,rfl⟩ F.entry_list_pop (F.args_list_pop_1 _) (MeetsSeq.list_pop_last l its.toArray n u Dn (by rw [Si];omega)) ⟨e,?_⟩;refine ⟨y,_,I.lset (its':=its.dropLast) hH e ?_ r.dropLast ?_,ru,q⟩
 · show its.toArray.eraseIdxIfInBounds (its.toArray.size - 1)=its.dropLast.toArray;rw [Si,List.eraseIdxIfInBounds_toArray,rB]
 · rw [List.length_dropLast];omega
inductive xm (x:V) (y:V) (H:Hp) (Q:VK):Prop
 | mk (l:_) (b:_) (xs:_) (zs:_) (Au:x=.ref l) (Av:y=.ref b) (AF:H l=some (.lst xs)) (AR:H b=some (.lst zs)) (Bs:xs.length+zs.length<=SQ) (Ci:∀ p,H p=none->Q (.ref p) (upd H p (.lst (xs++zs)))):xm  x y H Q
def aaj:R2:=xm
theorem ip:OpR X (V0 .Add) aaj:=by
 intro pins s σ H x y v u Q I rx ry h;obtain ⟨l,b,xs,zs,rfl,rfl,hH,hB,hz,q⟩:=h;cases rx;cases ry;obtain ⟨z,its,n,r,hl,e⟩:=I.lstM hH;obtain ⟨z2,Ad,n2,r2,AW,e2⟩:=I.lstM hB;refine PySem.P.add_list e e2 ?_ (by rw [Si,Si];omega);have ea:its.toArray++Ad.toArray=(its++Ad).toArray:=by simp
 rw [ea];exact ⟨.ref _,_,I.lnew (t':=s.toks) (r.append r2) (by rw [Sm];omega),rfl,q _ I.fresh⟩
def aar:R2:=fun x y H Q=>∃ l k xs,x=.ref l/\y=.int k/\H l=some (.lst xs)/\-(2 ^ 63)<=k/\k<2 ^ 63/\xs.length * k.toNat<=SQ ∧
 ∀ p,H p=none->Q (.ref p) (upd H p (.lst (TJ k.toNat xs).flatten))
theorem len_rep {α:Type} (xs:List α) (k:Nat):(TJ k xs).flatten.length=k * xs.length:=by
 induction k with
 | zero=>simp
 | succ k ih=>rw [U5,SJ,Sm,ih,U7,Nat.add_comm]
theorem xW:OpR X (V0 .Mult) aar:=by
 intro pins s σ H x y v u Q I rx ry h;obtain ⟨l,k,xs,rfl,rfl,hH,h1,h2,hz,q⟩:=h;cases rx;obtain ⟨t,rfl⟩:=ry;obtain ⟨z,its,n,r,hl,e⟩:=I.lstM hH;have hlen:its.toArray.size * k.toNat<=SQ:=by rw [Si,<- hl];exact hz
 have J4:¬ its.toArray.size * k.toNat > (2 ^ 63 - 1) / 8:=by
  have:(SQ:Nat)<=(2 ^ 63 - 1) / 8:=by decide
  omega
 have AG:¬ (!Builtin.List.listFitsIndex k)=true:=by
  rw [fitsIndex_both h1 h2];exact Sz
 have Cj:¬ U3 (its.toArray.size * k.toNat)=true:=by
  rw [mR hlen];exact Sz
 have J5:List.foldl (fun x1 x2=>x1++x2) #[] (TJ (if its.toArray.isEmpty=true then 0 else k.toNat) its.toArray)=(TJ k.toNat its).flatten.toArray:=by
  have f0:∀ m:Nat,List.foldl (fun x1 x2=>x1++x2) #[] (TJ m its.toArray)=(TJ m its).flatten.toArray:=fun m=>by
   have:=foldl_rep its m [];rw [Ts] at this;exact this
  rw [f0];cases its with
  | nil=>simp
  | cons a r'=>rw [if_neg (by simp)]
 refine wpAny_binaryOp_repeat_ref (T:="list") (U:="int") (by decide) ⟨_,e,rfl⟩ (fun s'=>typeIs_int s' k t) noFill_list_mul F.fills_int_mul F.slot_int_rmul repeat_list F.slot_int_index.lookup
  (VD F.slot_int_rmul (typeIs_int s k t) F.entry_int_rmul (F.args_int_rmul_2 _ _) (int___rmul___int_list k t l its.toArray n)
   ⟨e,rfl,⟨_,e,rfl⟩,VD F.slot_list_mul ⟨_,e,rfl⟩ F.entry_list_mul (F.args_list_mul_2 _ _) (AutoListH.list___mul___list_int_3 l its.toArray n k t AG J4 Cj) ⟨e,?_⟩⟩)
 rw [J5];exact ⟨.ref _,_,I.lnew (t':=s.toks) (r.rep k.toNat) (by rw [len_rep,VG];exact hz),rfl,q _ I.fresh⟩
end
section
variable {prog:SX} {w:Tq} {A:Tj} {E:Sb->Sf->Prop} {s:Sf}
end
section
variable {X:Cx}
end
end L2
namespace Att
open PySem PySem.W PySem.Calls PyProof.Rows
theorem ints_of_wellAll {P:Params} {h:T2}:∀ (ns:List Int) (vs:List Sb),WellAll P h vs (ns.map WData.int)->IntsAre vs ns:=by
 intro ns;induction ns with
 | nil =>
   intro vs w;rw [UN] at w;cases w;exact .nil
 | cons n ns ih =>
   intro vs w;rw [Sl] at w;cases w with
   | cons a b =>
     cases a;exact .cons _ _ (ih _ b)
theorem script_of {l:OpenLaw} {n:Nat} (hn:l.most=some n) {P:Params} {h:T2} {args:List WData} {vals:List Sb}
 (CA:l.row.toRowW.claim.pre args=true) (CQ:WellAll P h vals args) :
 ∃ a vs ns,vals=[Ue a]/\args=[WData.list (ns.map WData.int)]/\h.get? a=some { cls:=.type "list",data:=.seq vs.toArray }/\IntsAre vs ns/\ns.length<=n:=by
 have Es:WShape.hasAll [] args [.list .int]=true:=(pre_splitW CA).1;have hc:l.pre.holds [] { args:=args }=true:=(pre_splitW CA).2;obtain ⟨d,r,rfl,h1,h2⟩:=hasAllW_cons Es;obtain rfl:=hasAllW_nil h2;obtain ⟨xs,rfl,h3⟩:=hasW_list h1;obtain ⟨ns,rfl⟩:=items_int h3
 have hlen:ns.length<=n:=by
  unfold OpenLaw.pre at hc
  have h4:(WTm.not (.lt (.lit (.int (n:Int))) (.len (.arg 0)))).holds [] { args:=[.list (ns.map .int)] }=true:=by
   have h4:=(holds_andW hc).1;rw [hn] at h4;exact h4
  have h5:=condW_of h4 (w_not (w_lt w_lit (w_len_list (w_arg rfl))));rw [R5] at h5;refine Nat.le_of_not_lt fun q=>?_;have q':(n:Int)<((ns.length:Nat):Int):=by omega
  first
   | (rw [decide_eq_true q'] at h5;exact absurd h5 (by decide))
   | (simp at h5;omega)
 cases CQ with
 | cons w1 w2 =>
   cases w2;cases w1 with
   | list ho Ah=>exact ⟨_,_,ns,rfl,rfl,ho,ints_of_wellAll ns _ Ah,hlen⟩
theorem post_true (l:OpenLaw) (args:List WData):l.row.toRowW.claim.post args (.bool true) args=true :=
 postW_of (r:=l.row.toRowW) (X:=(true == true))
  (show WShape.has [] (.bool true) .bool=true by first | rfl | decide | simp [WShape.has,WShape.arms,WShape.armsAll])
  (show (WTm.eq .res (.lit (.bool true))).value [] { args:=args,res:=some (.bool true),after:=args }=some (.bool (true == true)) from w_eq_bool (w_res rfl) w_lit) rfl
theorem attach_call {l:OpenLaw} {n:Nat} {q:SX} {loose:List Ss} {XP:(Ss->Option Sb)->T2->Prop} {YP:Tq->T2->Prop} {d:DefRec}
 (hn:l.most=some n) (GS:d.params.defaults=[])
 (call:∀ (w:Tq) (s₀ Aa:Sf) (mg mb:Ss->Option Sb) (fa:Sa) (o:UU) (pm cd doc:Sb) (a:Sa) (vs:List Sb) (ns:List Int),
  Ground q loose [] XP w s₀ mg mb Aa.heap->YP w Aa.heap →
  Aa.heap.get? fa=some o->o.data=.func (docDef d.name d.params d.body d.scope pm cd doc)->Aa.heap.CodeRec cd d.name->mg d.name=some (.ref fa) →
  Aa.heap.get? a=some { cls:=.type "list",data:=.seq vs.toArray }->IntsAre vs ns->ns.length<=n->Aa.gens=#[] →
  Wy (SY l.prog w) callerA (.call (.ref fa) ⟨[.ref a],[]⟩) (fun r s'=>r=.ok (.ret (.bool true))/\OldK Aa.heap s'.heap/\s'.os=Aa.os/\XX s'.gens) Aa) :
 WalkO q loose XP YP l.row.toRowW d [] (fun f vs=>PySem.call f vs):=by
 intro w s₀ Aa mg mb G Y fa o pm cd doc dV kV ho hd C6 hD GU hg args vals as CA OB Rt CQ Ru;obtain rfl:dV=.none:=Dflts.none hD GS;obtain rfl:kV=.none:=Dflts.noKw hD;obtain ⟨a,vs,ns,rfl,rfl,Fe,hints,hlen⟩:=script_of hn CA CQ;refine enter_call (Wx (call w s₀ Aa mg mb fa o pm cd doc a vs ns G Y ho (fd_plain hd) C6 GU Fe hints hlen hg) fun r s' hq=>?_);obtain ⟨rfl,h2,h3,h4⟩:=hq;exact ⟨.inl ⟨.bool true,.bool true,[],rfl,fun _=>rfl,.bool true,post_true l _,fun _=>⟨List.Pairwise.nil,fun _ hm=>(nomatch hm)⟩⟩,h2,h3,h4⟩
section
variable {prog:SX} {w:Tq} {A:Tj} {E:Sb->Sf->Prop} {s:Sf} {K:Frag}
end
end Att
namespace L2
open PySem PySem.Spec PyProof.Rows
theorem nF:∀ {vs:List Sb} {ns:List Int},IntsAre vs ns->Vals (ns.map V.int) vs
 | _,_,.nil=>.nil
 | _,_,.cons n t h=>.cons ⟨t,rfl⟩ (nF h)
def ya (H:Hp):Prop:=∀ b,H b=none∨∃ o xs,H b=some (.frz o (.lst xs))
theorem vP {P:SX} {w:Tq} {K:R8} {mg mb:Ss->Option Sb} {CX:CXT} {k:Nat} {fa a:Sa} {fd:Vs} {x:Ss} {sp:Sp} {Aa:Sf} {vs:List Sb} {ns:List Int}
 (KX:K.In Aa.heap) (Et:Aa.heap.Ns SW mg) (hb:Aa.heap.Ns builtinsNs mb) (Cv:∀ x:Ss,x≠"__name__"->mb x=WV x) (J6:Aa.heap.NoLimit) (hg:Aa.gens=#[])
 (ha:Aa.heap.get? a=some { cls:=.type "list",data:=.seq vs.toArray }) (hi:IntsAre vs ns) (hl:ns.length<=SQ) (hr:Room k callerA)
 (F:∀ base:T2,K.In base->base.Ns SW mg->bj P w K mg base CX k fa fd [x] sp) (GV:∀ (s:Sf) (u:Sb),BindsTo s fd ⟨[u],[]⟩ [(x,u)])
 (BV:∀ H:Hp,ya H->SqL K H a (ns.map V.int)->sp [.ref a] H (fun v _=>v=.bl true) fun _ _ _=>False)
 (J7:∀ H e s',CX [] H Aa (fun _ _ _=>False) e s'->False) :
 Wy (SY P w) callerA (.call (.ref fa) ⟨[.ref a],[]⟩) (fun r s'=>r=.ok (.ret (.bool true))/\OldK Aa.heap s'.heap/\s'.os=Aa.os/\XX s'.gens) Aa:=by
 have rv:=nF hi;have J8:=hi.length
 -- from an abstract heap in MH nothing but C5 script may be tracked
 have core:∀ H:Hp,ya H->SqL K H a (ns.map V.int)->HOk P w H Aa.heap->(∀ b,H b≠none->b=a)->(H a≠none->K.lookup a=none) →
  Wy (SY P w) callerA (.call (.ref fa) ⟨[.ref a],[]⟩) (fun r s'=>r=.ok (.ret (.bool true))/\OldK Aa.heap s'.heap/\s'.os=Aa.os/\XX s'.gens) Aa:=by
  intro H hO hS hok hA hK;have CS:∀ {b:Sa} {o:UU},Aa.heap.get? b=some o->H b=none->(oq Aa.heap H).get? b=some o:=fun e n=>uN e n
  have GO:∀ {b:Sa} {o:UU} {es:Array DictEntry} {ep:Nat},Aa.heap.get? b=some o->o.data=.dict es ep->H b=none:=fun {b o es ep} e d=>by
   cases q:H b with
   | none=>rfl
   | some u =>
     have e':b=a:=hA b (by rw [q];simp);subst e';rw [ha] at e;cases e;have d':Data.seq vs.toArray _=Data.dict es ep:=d;cases d'
  have Jd:∀ {b:Sa} {m:Ss->Option Sb},Aa.heap.Ns b m->(oq Aa.heap H).Ns b m:=fun {b m} ⟨o,es,ep,e,d,r⟩=>⟨o,es,ep,CS e (GO e d),d,r⟩
  have MI:K.In (oq Aa.heap H):=fun b o e=>CS (KX b o e) (by
   cases q:H b with
   | none=>rfl
   | some u =>
     have e':b=a:=hA b (by rw [q];simp);subst e';rw [hK (by rw [q];simp)] at e;cases e)
  have hM:Mod K mg (oq Aa.heap H):=⟨MI,Jd Et,⟨mb,Jd hb,Cv⟩,let ⟨mc,h1,h2⟩:=J6;⟨mc,Jd h1,h2⟩⟩;have e0:Env0 P w K mg (oq Aa.heap H) callerA [] Aa H:=⟨rfl,hM,fun b o e=>wJ e,Xe (tQ _ _),trivial,fun b hb=>absurd (show b∈([]:List Sa) from hb) (by simp),hok,.of_eq hg⟩;refine Wx ((F _ MI (Jd Et)).run callerA [] Aa H ⟨[.ref a],[]⟩ [.ref a] [.ref a] _ _ hr e0 (GV Aa (.ref a)) (.cons rfl .nil) (BV H hO hS)) fun r s' h=>?_;cases r with
  | error e=>exact (J7 H e s' h).elim
  | ok fl =>
    cases fl with
    | next=>exact UC h
    | brk=>exact UC h
    | cont=>exact UC h
    | ret u =>
      obtain ⟨v,H',os,bare,un,J9,r',q⟩:=h;have q':v=.bl true:=q;subst q';obtain rfl:u=Value.bool true:=r';refine ⟨rfl,OldK.of_keep fun b o e=>?_,os,bare⟩;cases q:H b with
      | none=>exact un.keep b o e q (by intro z;exact absurd (show b∈([]:List Sa) from z) (by simp)) (by simp)
      | some u =>
        rcases hO b with z | ⟨ob,xs,z⟩
        · rw [q] at z;cases z
        · have z2:=un.frzs b ob _ z;obtain ⟨e1,_⟩:=hok b _ z;obtain ⟨e2,_⟩:=J9 b _ z2;rw [e] at e1;cases e1;exact e2
 cases hk:K.lookup a with
 | some o =>
   -- C5 script is one of C5 GW own objects
   have e:=KX a o hk;rw [ha] at e;cases e;refine core (fun _=>none) (fun _=>.inl rfl) (.inr ⟨_,vs.toArray,_,hk,rfl,rfl,rfl,by rw [Si,J8];exact hl,by simpa using rv⟩) (fun b u z=>by have z':(none:Option HO)=some u:=z;cases z') (fun b z=>absurd rfl z) fun z=>absurd rfl z
 | none =>
   refine core (fun b=>if b=a then some (.frz { cls:=.type "list",data:=.seq vs.toArray } (.lst (ns.map V.int))) else none) (fun b=>?_) (.inl (.inr ⟨{ cls:=.type "list",data:=.seq vs.toArray },if_pos rfl⟩)) (fun b u z=>?_) (fun b z=>?_) fun _=>hk
   · by_cases hb:b=a
     · exact .inr ⟨_,_,if_pos hb⟩
     · exact .inl (if_neg hb)
   · by_cases hb:b=a
     · have z':=(if_pos hb).symm.trans z;cases z';subst hb;exact ⟨ha,by rw [R5];exact hl,vs,_,rv,ha⟩
     · have z':=(if_neg hb).symm.trans z;cases z'
   · by_cases hb:b=a
     · exact hb
     · exact absurd (if_neg hb) z
end L2
namespace L2
open PySem PySem.Spec PyProof.Rows
theorem wL {l:PySem.W.OpenLaw} {n k:Nat} {q:SX} {loose:List Ss} {XP:(Ss->Option Sb)->T2->Prop} {YP:Tq->T2->Prop} {d:DefRec} {K:Params->R8} {CX:Tq->CXT} {sp:Tq->Sp} {x:Ss}
 (hn:l.most=some n) (Jb:n<=SQ) (GS:d.params.defaults=[]) (hr:Room k callerA)
 (hY:∀ (w:Tq) (h:T2),YP w h->(K w.params).In h)
 (F:∀ (w:Tq) (mg:Ss->Option Sb) (fa:Sa) (h:T2),(K w.params).In h->h.Ns SW mg->mg d.name=some (.ref fa) →
  ∃ fd:Vs,(∀ (s:Sf) (u:Sb),BindsTo s fd ⟨[u],[]⟩ [(x,u)]) ∧
    ∀ base:T2,(K w.params).In base->base.Ns SW mg->bj l.prog w (K w.params) mg base (CX w) k fa fd [x] (sp w))
 (BV:∀ (w:Tq) (H:Hp) (a:Sa) (ns:List Int),ns.length<=n->ya H->SqL (K w.params) H a (ns.map V.int)->sp w [.ref a] H (fun v _=>v=.bl true) fun _ _ _=>False)
 (J7:∀ (w:Tq) (H:Hp) (s:Sf) (e:Sb) (s':Sf),CX w [] H s (fun _ _ _=>False) e s'->False) :
 PySem.W.WalkO q loose XP YP l.row.toRowW d [] (fun f vs=>PySem.call f vs):=by
 refine Att.attach_call hn GS fun w s₀ Aa mg mb fa o pm cd doc a vs ns G Y ho hd C6 GU Fe hints hlen hg=>?_;have KX:=hY w _ Y;obtain ⟨fd,hb,hF⟩:=F w mg fa _ KX G.T.g GU;exact vP KX G.T.g G.T.b G.T.builtins G.T.nolimit hg Fe hints (TF hlen Jb) hr hF hb (fun H hO hS=>BV w H a ns hlen hO hS) fun H e s'=>J7 w H Aa e s'
end L2
namespace L2
open PySem PySem.Spec PyProof.Rows
def inClass (s:Uo) (j:Nat):Uo:=match s with
 | .ClassDef _ _ _ body _ _ _ _ _ _ _=>body.getD j (.Pass ⟨0,0,0,0⟩)
 | _=>.Pass ⟨0,0,0,0⟩
def bL (s:Uo):Arguments:=match s with
 | .FunctionDef _ a _ _ _ _ _ _ _ _=>a
 | _=>{ posonlyargs:=[],args:=[],vararg:=none,kwonlyargs:=[],kw_defaults:=[],kwarg:=none,defaults:=[] }
def bz (s:Uo):List Uo:=match s with
 | .FunctionDef _ _ b _ _ _ _ _ _ _=>b
 | _=>[]
def ak (s:Uo):Vu:=match s with
 | .FunctionDef _ _ _ _ _ _ sc _ _ _=>sc
 | _=>{ kind:=.function,names:=[],isGenerator:=false,isCoroutine:=false }
abbrev CX0:CXT:=fun _ _ _ _ _ _=>False
abbrev E0:XK:=fun _ _ _=>False
theorem md {X:Cx}:Passes CX0 X E0:=fun _ _ _ _ _ _ _ h=>h.elim
structure Fun (K:R8) (x qual:Ss) (st:Uo) (f:Sa) (fd:Vs):Prop where
 ex:∃ (oc:Sb) (od:Option Sa) (kV doc pm:Sb) (an:Option Sa) (Aj ct:Sb) (Ep:Array (Option Sb)),
  fd=Vn x qual (bL st) (bz st) (ak st) .none kV doc pm an Aj ct/\K.lookup f=some ⟨oc,od,.func fd,Ep⟩/\Wb K Aj qual=true
 kp:UX K (.ref f)=true
section
variable {P:SX} {w:Tq} {K:R8} {mg:Ss->Option Sb} {base:T2}
theorem Fun.ok {x qual:Ss} {st:Uo} {f:Sa} {fd:Vs} {N ps:List Ss} {k:Nat} {sp:Sp} (F:Fun K x qual st f fd) (S:az N ps (ak st)) (len:∀ vs H Q E,sp vs H Q E->vs.length=ps.length)
 (BG:∀ (Aj:Sb) (A:Tj) (outer:List XC) (s:Sf) (H:Hp) (vs:List V) (Q:VK) (E:XK),Room k (A.deeper (Vg qual (ak st) s.heap.objs.size f Aj))->sp vs H Q E →
  ∃ t,PSs (cA CX0 P w K mg base N qual (ak st) f Aj A outer s H E).nox (bz st) t/\t { nx:=fun _ H'=>Q .non H',rt:=Q } (start N vs) H):bj P w K mg base CX0 (k+1) f fd ps sp:=by
 obtain ⟨oc,od,kV,doc,pm,an,Aj,ct,Ep,rfl,lk,C6⟩:=F.ex;refine xJ lk C6 S len fun A outer s H vs Q E hr BV=>?_;obtain ⟨t,h,q⟩:=BG Aj A outer s H vs Q E hr BV;exact ⟨t,h.nox,q⟩
theorem Fun.binds {x qual:Ss} {st:Uo} {f:Sa} {fd:Vs} {ps:List Ss} (F:Fun K x qual st f fd)
 (h:∀ (kV doc pm:Sb) (an:Option Sa) (Aj ct:Sb) (us:List Sb),us.length=ps.length->X2 (Vn x qual (bL st) (bz st) (ak st) .none kV doc pm an Aj ct) ⟨us,[]⟩=pure (ps.zip us)):Binds K fd ps []:=by
 obtain ⟨oc,od,kV,doc,pm,an,Aj,ct,Ep,rfl,lk,C6⟩:=F.ex;exact .all (h kV doc pm an Aj ct)
theorem dj {x qual:Ss} {st:Uo} {f:Sa} {oc:Sb} {od an:Option Sa} {Ep:Array (Option Sb)} {kV doc pm Aj ct:Sb} (l:K.lookup f=some ⟨oc,od,.func (Vn x qual (bL st) (bz st) (ak st) .none kV doc pm an Aj ct),Ep⟩)
 (c:Wb K Aj qual=true) (k:UX K (.ref f)=true):Fun K x qual st f (Vn x qual (bL st) (bz st) (ak st) .none kV doc pm an Aj ct):=⟨⟨oc,od,kV,doc,pm,an,Aj,ct,Ep,rfl,l,c⟩,k⟩
end
section
variable {X:Cx}
theorem pv (i:Nat) {x:Ss} {pos:Wq} (hN:X.N[i]?=some x:=by rfl) (hv:Vis X.env.scope x:=by first | exact SG rfl | exact Or.inr (SG rfl) | exact Or.inr (Or.inr rfl)) (hd:(x == ("__debug__":Ss))=false:=by decide)
 (C6:(x == ("__classdict__":Ss))=false:=by decide):PE X (.Name x pos) (bN i):=x8 hN hv hd C6
end
theorem bo {A B:Prop} (h:B):if false=true then A else B:=by
 rw [if_neg Sz];exact h
theorem bG {A B:Prop} (h:A):if true=true then A else B:=by
 rw [if_pos rfl];exact h
theorem cg {c A B:Prop} [Decidable c] (h1:c->A) (h2:¬ c->B):if c then A else B:=by
 by_cases h:c
 · rw [if_pos h];exact h1 h
 · rw [if_neg h];exact h2 h
def Same (H H':Hp):Prop:=∀ b o,H b=some o->H' b=some o
theorem Same.refl (H:Hp):Same H H:=fun _ _ h=>h
theorem Same.trans {H H1 H2:Hp} (a:Same H H1) (b:Same H1 H2):Same H H2:=fun c o h=>b c o (a c o h)
theorem Same.free {H H':Hp} (e:Same H H') {l:Sa} (h:H' l=Option.none):H l=Option.none:=by
 cases q:H l with
 | none=>rfl
 | some o =>
   rw [e l o q] at h;cases h
theorem Same.seq {K:R8} {H H':Hp} {a:Sa} {xs:List V} (e:Same H H') (h:SqL K H a xs):SqL K H' a xs:=by
 rcases h with (h | ⟨o,h⟩) | h
 · exact .inl (.inl (e _ _ h))
 · exact .inl (.inr ⟨o,e _ _ h⟩)
 · exact .inr h
end L2
namespace L2
open PySem PySem.Spec PyProof.Rows
theorem iM (env:XC):∀ (ns:List (Ss×Va)) (acc:List (Ss×Sa)),(∀ n,(n,TZ)∈ns->∃ c,env.cells.lookup n=some c) →
 (∀ x c,acc.lookup x=some c->env.cells.lookup x=some c) →
 ∃ cl,(forIn ns acc fun (x:Ss×Va) (cs:List (Ss×Sa))=>(if (x.2 == TZ)=true then (do let a ← cellOf env x.1;pure (UR ((x.1,a)::cs))) else pure (UR cs):Sem _))=pure cl ∧
   (∀ x c,cl.lookup x=some c->env.cells.lookup x=some c)/\(∀ n,(n,TZ)∈ns->∃ c,cl.lookup n=some c)/\∀ n c,acc.lookup n=some c->cl.lookup n=some c
 | [],acc,_,ha=>⟨acc,rfl,ha,fun _ h=>by simp at h,fun _ _ h=>h⟩
 | (n,k)::r,acc,hf,ha=>by
   by_cases hk:k=TZ
   · subst hk;obtain ⟨c,hc⟩:=hf n Sr
     have OC:∀ x c',((n,c)::acc).lookup x=some c'->env.cells.lookup x=some c':=fun x c' e=>by
      rw [U9] at e;cases hx:x == n with
      | true =>
        rw [hx] at e;have e1:x=n:=by simpa using hx
        cases e;rw [e1];exact hc
      | false=>rw [hx] at e;exact ha x c' e
     obtain ⟨cl,h1,h2,h3,h4⟩:=iM env r ((n,c)::acc) (fun m hm=>hf m (Sk _ hm)) OC;have up:∀ m c',((n,c)::acc).lookup m=some c'->cl.lookup m=some c':=h4;refine ⟨cl,?_,h2,?_,?_⟩
     · rw [UQ];have e0:cellOf env n=pure c:=by unfold cellOf;rw [hc]
       simp only [beq_self_eq_true,if_true,e0,pure_bind];exact h1
     · intro m hm;rcases Sn.mp hm with e | e
       · have:m=n:=by simpa using (Prod.mk.inj e).1
         subst this;exact ⟨c,up m c (by rw [U9];simp)⟩
       · exact h3 m e
     · intro m c' e;by_cases hm:m=n
       · subst hm;have:=ha m c' e;rw [hc] at this;cases this;exact up m c (by rw [U9];simp)
       · have OD:(m == n)=false:=by simpa using hm
         exact up m c' (by rw [U9,OD];exact e)
   · have hb:(k == TZ)=false:=by simpa using hk
     obtain ⟨cl,h1,h2,h3,h4⟩:=iM env r acc (fun m hm=>hf m (Sk _ hm)) ha;refine ⟨cl,?_,h2,?_,h4⟩
     · rw [UQ];simp only [hb,Bool.false_eq_true,if_false,pure_bind];exact h1
     · intro m hm;rcases Sn.mp hm with e | e
       · exact absurd (Prod.mk.inj e).2.symm hk
       · exact h3 m e
theorem ir {env:XC} {sc:Vu} (hf:∀ n,(n,TZ)∈sc.names->∃ c,env.cells.lookup n=some c) :
 ∃ cl,closureFor sc env=pure cl/\(∀ x c,cl.lookup x=some c->env.cells.lookup x=some c)/\∀ n,(n,TZ)∈sc.names->∃ c,cl.lookup n=some c:=by
 obtain ⟨cl,h1,h2,h3,_⟩:=iM env sc.names [] hf (fun x c e=>by simp at e);refine ⟨cl,?_,h2,h3⟩;unfold closureFor;have e:(forIn sc.names ([]:List (Ss×Sa)) fun (x:Ss×Va) (cs:List (Ss×Sa))=>(do if (x.2 == TZ)=true then (do let a ← cellOf env x.1;pure (UR ((x.1,a)::cs))) else pure (UR cs):Sem _))=pure cl:=h1
 first
  | (rw [show (forIn sc.names ([]:List (Ss×Sa)) _:Sem _)=pure cl from h1];rfl)
  | (simp only [h1,pure_bind])
theorem mi {f:Ss×Va->Ss×Va} (hf:∀ p,(f p).1=p.1):∀ {l:List (Ss×Va)} {x:Ss} {k:Va},l.lookup x=some k->(l.map f).lookup x=some (f (x,k)).2
 | [],_,_,h=>by simp at h
 | (n,k0)::r,x,k,h=>by
   have ih:=@mi f hf r x k;rw [Sl];obtain ⟨a,b,e⟩:∃ a b,f (n,k0)=(a,b):=⟨_,_,rfl⟩;have ea:a=n:=by have:=hf (n,k0);rw [e] at this;exact this
   subst ea;rw [e,U9];cases hx:x == a with
   | true =>
     rw [U9,hx] at h;cases h;have:x=a:=by simpa using hx
     subst this;rw [e]
   | false=>rw [U9,hx] at h;exact ih h
theorem eQ {f:Ss×Va->Ss×Va} (hf:∀ p,(f p).1=p.1):∀ {l:List (Ss×Va)} {x:Ss} {k:Va},(l.map f).lookup x=some k->∃ k0,(x,k0)∈l/\(f (x,k0)).2=k
 | [],_,_,h=>by simp at h
 | (n,k0)::r,x,k,h=>by
   have ih:=@eQ f hf r x k;rw [Sl] at h;obtain ⟨a,b,e⟩:∃ a b,f (n,k0)=(a,b):=⟨_,_,rfl⟩;have ea:a=n:=by have:=hf (n,k0);rw [e] at this;exact this
   subst ea;rw [e,U9] at h;cases hx:x == a with
   | true =>
     rw [hx] at h;cases h;have:x=a:=by simpa using hx
     subst this;exact ⟨k0,Sr,by rw [e]⟩
   | false =>
     rw [hx] at h;obtain ⟨k1,h1,h2⟩:=ih h;exact ⟨k1,Sk _ h1,h2⟩
def rlb (env:XC) (p:Ss×Va):Ss×Va:=if (p.2 == TZ && env.scope.kind == .function && env.kindOf p.1 == some .cell) then (p.1,WI) else (p.1,p.2)
theorem oS (env:XC) (p:Ss×Va):(rlb env p).1=p.1:=by unfold rlb;split <;> rfl
theorem gT (sc:Vu) (env:XC):(relabel sc env).names=sc.names.map (rlb env):=rfl
theorem jb {sc:Vu} {env:XC} {x:Ss} (h:sc.names.lookup x=some .free):(relabel sc env).names.lookup x=some .cell∨(relabel sc env).names.lookup x=some .free:=by
 rw [gT,mi (oS env) h];unfold rlb;split
 · exact .inl rfl
 · exact .inr rfl
theorem lU {sc:Vu} {env:XC} {x:Ss} (hn:∀ y∈sc.names,y.2≠WI) (h:(relabel sc env).names.lookup x=some .cell∨(relabel sc env).names.lookup x=some .free):(x,TZ)∈sc.names:=by
 rw [gT] at h
 have:∃ k0,(x,k0)∈sc.names/\((rlb env (x,k0)).2=.cell∨(rlb env (x,k0)).2=.free):=by
  rcases h with h | h
  · obtain ⟨k0,a,b⟩:=eQ (oS env) h;exact ⟨k0,a,.inl b⟩
  · obtain ⟨k0,a,b⟩:=eQ (oS env) h;exact ⟨k0,a,.inr b⟩
 obtain ⟨k0,hm,hk⟩:=this;have nc:=hn _ hm;cases k0 with
 | free=>exact hm
 | cell=>exact absurd rfl nc
 | _=>simp [rlb] at hk
def aT (X:Cx) (N:List Ss) (sc:Vu) (cl:List (Ss×Sa)) (C:Sa) (s:Sf) (H:Hp) (fp:List Sa) (pins:List (Sa×UU)):Cx :=
 { X with N:=N,s₀:=s,H₀:=H,env:=compEnvC sc cl C X.env,outer:=X.stack,ex:=fp,fn:=fun _=>false,pn:=X.pn++pins,xe:=fun _ _=>False }
def cσ (js:List (Option Nat)) (σ:St):St:=js.map fun o=>o.bind fun j=>(σ[j]?).join
structure df (X:Cx) (sc:Vu) (N:List Ss) (js:List (Option Nat)):Prop where
 kind:sc.kind=.function
 nocell:∀ y∈sc.names,y.2≠WI
 names:∀ y∈sc.names,y.2=NameKind.local->sc.names.lookup y.1=some .local
 frees:∀ y∈sc.names,y.2=TZ->X.env.kindOf y.1=some .cell∨X.env.kindOf y.1=some .free
 len:js.length=N.length
 slots:∀ (i j:Nat) (x:Ss),js[i]?=some (some j)->N[i]?=some x->X.N[j]?=some x/\sc.names.lookup x=some .free/\(X.env.kindOf x=some .cell∨X.env.kindOf x=some .free)
theorem cL {X:Cx} {sc:Vu} {N:List Ss} {js:List (Option Nat)} (k:sc.kind=.function) (nc:∀ y∈sc.names,y.2≠WI) (nm:∀ y∈sc.names,y.2=NameKind.local->sc.names.lookup y.1=some .local)
 (fr:(sc.names.all fun y=>y.2 != TZ || X.env.kindOf y.1 == some WI || X.env.kindOf y.1 == some TZ)=true) (ln:js.length=N.length)
 (sl:((js.zip N).all fun p=>match p.1 with | none=>true | some j=>X.N[j]? == some p.2 && sc.names.lookup p.2 == some TZ && (X.env.kindOf p.2 == some WI || X.env.kindOf p.2 == some TZ))=true):df X sc N js:=by
 refine ⟨k,nc,nm,fun y hy hf=>?_,ln,fun i j x e1 e2=>?_⟩
 · have h:=Tv.mp fr y hy;rw [hf] at h;simpa using h
 · have hm:(some j,x)∈js.zip N:=by
    have:(js.zip N)[i]?=some (some j,x):=by rw [VU];exact ⟨e1,e2⟩
    exact Sd this
   have h:=Tv.mp sl _ hm;simp at h;exact ⟨h.1.1,h.1.2,h.2⟩
def PTs (X:Cx) (ifs:List TV) (t:TT):Prop :=
 ∀ (pins:List (Sa×UU)) (s:Sf) (σ:St) (H:Hp) (Q:Bool->Hp->Prop),Inv X pins σ H s->t σ H Q →
   SI (SY X.prog X.w) X.A (forIn ifs true fun c r=>if r=true then do let ok ← isTrue c X.env (U4 c X.env);pure (UR ok) else pure (UR r)) (TP X pins σ Q) X.xe s
def bn:TT:=fun _ H Q=>Q true H
theorem cb {X:Cx}:PTs X [] bn:=fun _ _ _ H _ I h=>wpAny_tests_nil ⟨H,I,h⟩
theorem jj {X:Cx} {c:TV} {t:TT} (h:PT X c t):PTs X [c] t:=fun pins s σ H Q I q=>wpAny_tests_one (h pins s σ H Q I q)
def Keep (σ f':St):Prop:=σ.length=f'.length/\∀ (i:Nat) (v:V),σ[i]?=some (some v)->f'[i]?=some (some v)
def nC (js:List (Option Nat)) (g:TG):Prop:=∀ (σ AV:St) (x:V) (H:Hp) (Q:St->Hp->Prop),Keep (cσ js σ) AV->g x AV H Q->g x AV H fun AB H2=>Keep (cσ js σ) AB/\Q AB H2
theorem Keep.refl (σ:St):Keep σ σ:=⟨rfl,fun _ _ h=>h⟩
theorem wA {js:List (Option Nat)} {σ:St} {i:Nat} (h:js[i]?=some none):(cσ js σ)[i]?=some none:=by
 unfold cσ;rw [So,h];rfl
theorem bA {js:List (Option Nat)} {i:Nat} (h:js[i]?=some none):nC js (aC i):=fun σ AV x H Q k q=>by
 refine ⟨⟨by rw [UA];exact k.1,fun j v e=>?_⟩,q⟩;by_cases hj:i=j
 · subst hj;rw [wA h] at e;cases e
 · rw [UE hj];exact k.2 j v e
def cZ (js:List (Option Nat)) (g:TG) (tt:TT) (te:TE) (σ:St) (J:It) (D:Sa) (n:Nat) (W:Nat->Hp->Prop) (fin:Hp->Prop):Prop :=
 ∀ i H,W i H->(J.stop i H/\fin H)∨(i<n/\J.go i H/\∀ x H1,J.yld i H x H1->g x (cσ js σ) H1 fun AB H2=>tt AB H2 fun b H3 =>
   if b=true then te AB H3 fun v H4=>∃ ys,H4 D=some (.lst ys)/\ys.length<SQ/\W (i+1) (upd H4 D (.lst (ys++[v]))) else W (i+1) H3)
def vV (js:List (Option Nat)) (wi:TI) (g:TG) (tt:TT) (te:TE):TE:=fun σ H Q=>wi σ H fun J H1=>∀ D,H1 D=none →
 ∃ (n:Nat) (W:Nat->Hp->Prop),W 0 (upd H1 D (.lst []))/\cZ js g tt te σ J D n W fun H'=>Q (.ref D) H'
section
variable {X:Cx} {pins:List (Sa×UU)} {σ:St} {s:Sf} {H:Hp}
theorem pQ {sc:Vu} {N:List Ss} {js:List (Option Nat)} {cl:List (Ss×Sa)} {fp:List Sa} {h1:T2} {t':Nat} (S:df X sc N js) (I:Inv X pins σ H s)
 (Bc:∀ x c,cl.lookup x=some c->X.env.cells.lookup x=some c) (C7:∀ n,(n,TZ)∈sc.names->∃ c,cl.lookup n=some c)
 (hf:∀ b∈fp,eV X pins H b) (AD:∀ b∈fp,b<s.heap.objs.size) (Et:h1.Ns s.heap.objs.size fun x=>Vq x ([]:List (Ss×Sb)))
 (CC:∀ b o,s.heap.get? b=some o->h1.get? b=some o) :
 Inv (aT X N sc cl s.heap.objs.size s H fp pins) [] (cσ js σ) H { s with heap:=h1,toks:=t' }:=by
 have hok:(aT X N sc cl s.heap.objs.size s H fp pins).Ok :=
  { mod:=I.ok.mod
    kind:=S.kind
    glob:=I.ok.glob
    blt:=I.ok.blt
    above:=Sg _
    inj:=fun x y c a b=>I.ok.inj x y c (Bc x c a) (Bc y c b)
    has:=fun x h=>C7 x (lU S.nocell h)
    cab:=fun x c h=>by cases h
    hd:=I.ok.hd
    frames:=I.ok.frames
    stk:=.inl rfl
    exf:=fun b hb=>⟨fun e=>absurd (AD b hb) (by rw [e];exact TM _),fun x c e z=>(hf b hb).2.2.2.2.1 x c (Bc x c e) z⟩
    bs:=I.bs
    bsz:=TF I.ok.bsz I.sz
    noex:=fun b o e hb=>by
     rcases (hf b hb).2.2.2.1 with h | h
     · exact I.ok.noex b o e h
     · exact absurd (S8 (S8 (SD e) I.ok.bsz) h) (TM _)
    exfs:=fun b hb hm=>by
     rcases Sn.mp (I.stkSub b hm) with e | e
     · exact (hf b hb).2.1 e
     · exact (hf b hb).2.2.1 e
    funs:=I.stack
    frf:=I.stkFree }
 have hC:H s.heap.objs.size=none:=I.hok.fresh (Sg _);obtain ⟨m0,OE,OF⟩:=I.loc
 exact
  { ok:=hok
    os:=rfl
    bare:=I.bare
    base:=Un.kept CC
    loc:=⟨_,Et,fun i x v e1 e2 MF=>by
     have DD:∃ j,js[i]?=some (some j)/\σ[j]?=some (some v):=by
      unfold cσ at e2;rw [So] at e2;cases q:js[i]? with
      | none=>rw [q] at e2;cases e2
      | some o =>
        rw [q] at e2;cases o with
        | none=>cases e2
        | some j =>
          refine ⟨j,rfl,?_⟩;have e3:(σ[j]?).join=some v:=Su e2;cases r:σ[j]? with
          | none=>rw [r] at e3;cases e3
          | some z=>rw [r] at e3;exact congrArg some e3
     obtain ⟨j,q1,q2⟩:=DD;obtain ⟨n1,n2,n3⟩:=S.slots i j x q1 e1;obtain ⟨u,ru,look⟩:=OF j x v n1 q2 (by rcases n3 with z | z;exact .inr (.inl z);exact .inr (.inr z));refine ⟨u,ru,.inr ⟨jb n2,?_⟩⟩;have hm:(x,TZ)∈sc.names:=lU (env:=X.env) S.nocell (jb n2);obtain ⟨c,hc⟩:=C7 x hm;refine ⟨c,hc,?_⟩;rcases look with ⟨k1,_⟩ | ⟨_,c',BQ,ic⟩
     · rcases n3 with z | z <;> (rw [k1] at z;cases z)
     · have:=Bc x c hc;rw [BQ] at this;cases this;exact ic.keeps CC⟩
    cell:=fun x c e=>by
     obtain ⟨v,q⟩:=I.cell x c (Bc x c e);exact ⟨v,q.keeps CC⟩
    free:=hC
    freeC:=fun x c e=>I.freeC x c (Bc x c e)
    pin:=fun p hp=>by
     have Ca:p∈X.pn++pins:=by simpa [aT] using hp
     obtain ⟨a1,a2,a3,a4,a5⟩:=I.pin p Ca;refine ⟨CC _ _ a1,a2,fun e=>?_,fun hm=>?_,a5⟩
     · have e':p.1=s.heap.objs.size:=e;exact absurd (SD a1) (by rw [e'];exact TM _)
     · rcases Sn.mp (I.stkSub p.1 hm) with e | e
       · exact a3 e
       · exact a4 e
    hok:=I.hok.kept CC
    len:=by
     show (cσ js σ).length=N.length;unfold cσ;rw [R5];exact S.len }
theorem ul {prog:SX} {w:Tq} {A:Tj} {R:Result->Sf->Prop} {elt target iter:TV} {ifs:List TV} {scope:Vu} {pos:Wq} {it acc:Sb} {env:XC} (J:Nat->Sf->Prop)
 (turn:∀ n s,J n s->SI (SY prog w) A (X1 it) (fun r Aa=>(r=none/\R (.ok .next) Aa)∨∃ v,r=some v ∧
  SI (SY prog w) A (WT target it v) (fun _ Bi=>SI (SY prog w) A (X3 target env v) (fun _ BF =>
   SI (SY prog w) A (forIn ifs true fun c r=>if r=true then do let ok ← isTrue c env (U4 c env);pure (UR ok) else pure (UR r)) (fun ok BI =>
    (ok=false/\∃ m,m<n/\J m BI)∨(ok=true/\SI (SY prog w) A (U4 elt env) (fun x DE=>SI (SY prog w) A (call (.builtin "list.append") [acc,x]) (fun _ DF=>∃ m,m<n/\J m DF) (fun _ _=>False) DE) (fun _ _=>False) BI))
    (fun _ _=>False) BF) (fun _ _=>False) Bi) (fun _ _=>False) Aa) (fun _ _=>False) s)
 {s:Sf} (n:Nat) (h:J n s):Wy (SY prog w) A (.compLoop (.ListComp elt [⟨target,iter,ifs,0⟩] scope pos) 0 it acc env) R s:=by
 refine codeAny_loop rfl J (fun n s hJ=>?_) n h;show SI _ A ((compTurn (.ListComp elt [⟨target,iter,ifs,0⟩] scope pos) 0 it acc env).onRaise _) _ _ s;refine wpAny_noted ?_;rw [compTurn_list];have up:∀ {α:Type} {m:Sem α} {Q:α->Sf->Prop} {E:Sb->Sf->Prop} {s:Sf},SI (SY prog w) A m Q (fun _ _=>False) s->SI (SY prog w) A m Q E s:=fun q=>T4 q (fun _ _ z=>z) fun _ _ z=>z.elim;refine R9 (Xo (R9 (T4 (up (turn n s hJ)) (fun r Aa Al=>?_) fun _ _ z=>z)));rcases Al with ⟨rfl,Al⟩ | ⟨v,rfl,Al⟩
 · exact SA Al
 · refine R9 (T4 (up Al) (fun _ Bi Bz=>?_) fun _ _ z=>z);refine R9 (T4 (up Bz) (fun _ BF Ck=>?_) fun _ _ z=>z);refine R9 (T4 (up Ck) (fun ok BI A9=>?_) fun _ _ z=>z);rcases A9 with ⟨rfl,A9⟩ | ⟨rfl,A9⟩
   · exact SA ⟨rfl,A9⟩
   · exact R9 (R9 (T4 (up A9) (fun x DE AO=>R9 (T4 (up AO) (fun _ DF Ff=>SA (SA ⟨rfl,Ff⟩)) fun _ _ z=>z)) fun _ _ z=>z))
theorem l8 {elt tg iter:TV} {ifs:List TV} {sc:Vu} {pos:Wq} {N:List Ss} {js:List (Option Nat)} {g:TG} {tt:TT} {te:TE} {cl:List (Ss×Sa)} {fp:List Sa} {it:Sa} {tn:Nat->T2->Prop} {J:It} {n:Nat} {W:Nat->Hp->Prop} {fin:Hp->Prop}
 {R:Sb->Sa->Result->Sf->Prop} (hc:X.calm=true) (S:df X sc N js) (I:Inv X pins σ H s) (T:Turn X.prog X.w X.K tg J fp it tn) (st:tn 0 s.heap) (hf:∀ b∈fp,eV X pins H b)
 (Bc:∀ x c,cl.lookup x=some c->X.env.cells.lookup x=some c) (C7:∀ n,(n,TZ)∈sc.names->∃ c,cl.lookup n=some c)
 (hg:∀ cl C s H fp pins,PG (aT X N sc cl C s H fp pins) tg g) (gk:nC js g) (ht:∀ cl C s H fp pins,PTs (aT X N sc cl C s H fp pins) ifs tt) (he:∀ cl C s H fp pins,PE (aT X N sc cl C s H fp pins) elt te)
 (w0:W 0 (upd H s.heap.objs.size (.lst []))) (turn:cZ js g tt te σ J s.heap.objs.size n W fin)
 (hR:∀ C H' s',C≠X.env.locals->s.heap.objs.size<C->(∃ m,s'.heap.Ns C m)->H' C=none->(∀ h' t',Vc C s'.heap h'->Inv X pins σ H' { s' with heap:=h',toks:=t' })->fin H'->R (.ref s.heap.objs.size) C (.ok .next) s') {E:Sb->Sf->Prop} :
 SI (SY X.prog X.w) X.A (newList []) (fun acc BF=>SI (SY X.prog X.w) X.A (newFunctionEnv sc X.env.globals cl [] X.env.qual none .none (some X.env)) (fun Bp BI =>
  Wy (SY X.prog X.w) X.A (.compStart (.ListComp elt [⟨tg,iter,ifs,0⟩] sc pos) 0 (.ref it) acc { Bp with scope:=relabel sc X.env }) (R acc Bp.locals) BI) E BF) E s:=by
 refine Uh (wpAny_newFunctionEnv S.nocell (by intro y hy;simp at hy) (fun Al Bf Bg=>?_) S.kind);dsimp only at Bf Bg ⊢;have I3:Inv X pins σ (upd H s.heap.objs.size (.lst [])) { s with heap:=s.heap.push { cls:=.type "list",dict:=none,data:=.seq ([]:List Sb).toArray } }:=I.lnew (t':=s.toks) (its:=[]) .nil (by decide)
 have AD:∀ b∈fp,b<s.heap.objs.size:=fun b hb=>by
  obtain ⟨o,ho,_⟩:=T.obj _ _ st b hb;exact SD ho
 have Cm:∀ b o,s.heap.get? b=some o->(s.heap.push { cls:=.type "list",dict:=none,data:=.seq ([]:List Sb).toArray }).get? b=some o:=fun b o e=>Se _ e;have Az:(s.heap.push { cls:=.type "list",dict:=none,data:=.seq ([]:List Sb).toArray }).objs.size=s.heap.objs.size+1:=UG ..;generalize GX:({ s with heap:=s.heap.push { cls:=.type "list",dict:=none,data:=.seq ([]:List Sb).toArray } }:Sf)=s3 at I3;have DG:s.heap.push { cls:=.type "list",dict:=none,data:=.seq ([]:List Sb).toArray }=s3.heap:=by rw [<- GX]
 rw [DG] at Bf Bg Cm Az;rw [DG];have J':∀ t',({ s with heap:=Al,toks:=t' }:Sf)={ s3 with heap:=Al,toks:=t' }:=fun t'=>by rw [<- GX]
 rw [J'];have CC:∀ b o,s3.heap.get? b=some o->Al.get? b=some o:=fun b o e=>Bg.extBut b o (Ti (SD e)) (Se _ e);have D':∀ b∈fp,eV X pins (upd H s.heap.objs.size (.lst [])) b:=fun b hb=>⟨by rw [aq (Ti (AD b hb))];exact (hf b hb).1,(hf b hb).2⟩;have I4:=pQ (t':=s.toks+([]:List (Ss×Sb)).length) S I3 Bc C7 D' (fun b hb=>by rw [Az];exact SF (AD b hb)) Bf CC;generalize OG:upd H s.heap.objs.size (.lst [])=H3 at I3 I4 D' w0;have AI:tn 0 Al:=T.keep _ _ _ st fun b hb o e=>CC _ _ (Cm _ _ e)
 have Be:∀ {H':Hp},(∀ b∈fp,H' b=none)->∀ b∈fp,eV (aT X N sc cl s3.heap.objs.size s3 H3 fp pins) [] H' b:=fun {H'} hn b hb=>by
  obtain ⟨f0,f1,f2,f3,f4,f5⟩:=hf b hb;refine ⟨hn b hb,fun e=>?_,fun hm=>?_,.inl hb,fun x c e=>f4 x c (Bc x c e),fun p hp=>f5 p (by simpa [aT] using hp)⟩
  · have e':b=s3.heap.objs.size:=e;have h9:b<s.heap.objs.size:=AD b hb;rw [e',Az] at h9;exact absurd h9 (Nat.not_lt.mpr (Nat.le_succ _))
  · rcases Sn.mp (I.stkSub b hm) with e | e
    · exact f1 e
    · exact f2 e
 have loop:Wy (SY X.prog X.w) X.A (.compLoop (.ListComp elt [⟨tg,iter,ifs,0⟩] sc pos) 0 (.ref it) (.ref s.heap.objs.size) (compEnvC sc cl s3.heap.objs.size X.env)) (R (.ref s.heap.objs.size) s3.heap.objs.size)
  { s3 with heap:=Al,toks:=s.toks+([]:List (Ss×Sb)).length }:=by
  refine ul (fun k s'=>∃ i H',Inv (aT X N sc cl s3.heap.objs.size s3 H3 fp pins) [] (cσ js σ) H' s'/\tn i s'.heap/\(∀ b∈fp,H' b=none)/\W i H'/\k=n - i) ?_ n ⟨0,H3,I4,AI,fun b hb=>(D' b hb).1,w0,rfl⟩;rintro k s5 ⟨i,H5,I5,DA,E9,w5,rfl⟩;rcases turn i H5 w5 with ⟨stop,qn⟩ | ⟨GY,go,step⟩
  · refine thn (T.done (aT X N sc cl s3.heap.objs.size s3 H3 fp pins) rfl rfl rfl hc i [] s5 (cσ js σ) H5 _ I5 (Be E9) DA stop) fun r s6 ⟨hr,I6⟩=>.inl ⟨hr,?_⟩;have I7:Inv X pins σ H5 s6:=I3.call' (ch:=fp) (I6.os.trans rfl) I6.base I6.hok I6.bare fun b hb=>⟨(hf b hb).2.2.2.1,(hf b hb).2.1,(hf b hb).2.2.2.2.1,(hf b hb).2.2.2.2.2⟩;have GZ:H5 s3.heap.objs.size=none:=I6.free;have G0:s3.heap.objs.size≠X.env.locals:=UW I3.lt;obtain ⟨m6,Ka,_⟩:=I6.loc;refine hR s3.heap.objs.size H5 s6 G0 (by omega) ⟨m6,Ka⟩ GZ (fun h' t' sb=>?_) qn;refine I7.turned (it:=s3.heap.objs.size) (fun b o hb e=>sb.extBut b o hb e) GZ G0 (.inr I3.sz) (fun x c e z=>?_) fun p hp z=>?_
    · obtain ⟨v,q⟩:=I3.cell x c e;exact absurd q.lt (by rw [z];exact TM _)
    · exact absurd (SD (I3.pin p hp).1) (by rw [z];exact TM _)
  · refine thn (T.item (aT X N sc cl s3.heap.objs.size s3 H3 fp pins) rfl rfl rfl hc i [] s5 (cσ js σ) H5 _ I5 (Be E9) DA go) fun r s6 ⟨u,hr,h6⟩=>.inr ⟨u,hr,?_⟩;refine thn h6 fun _ s7 ⟨x,H7,I7,r7,y7,Fg,Kb⟩=>?_;have Kc:=I7.pinned (Be Kb) (T.obj _ _ Fg);refine thn (hg cl s3.heap.objs.size s3 H3 fp pins _ s7 (cσ js σ) H7 x u _ Kc r7 (gk σ (cσ js σ) x H7 _ (.refl _) (step x H7 y7))) fun _ s8 ⟨DH,H8,I8,k8,q8⟩=>?_;refine thn (ht cl s3.heap.objs.size s3 H3 fp pins _ s8 DH H8 _ I8 q8) fun ok s9 ⟨H9,I9,q9⟩=>?_
    have again:∀ {s':Sf} {f':St} {H':Hp},Keep (cσ js σ) f'->Inv (aT X N sc cl s3.heap.objs.size s3 H3 fp pins) ([]++iA fp s7.heap) f' H' s'->W (i+1) H'->∃ m,m<n - i/\∃ i H',Inv (aT X N sc cl s3.heap.objs.size s3 H3 fp pins) [] (cσ js σ) H' s'/\tn i s'.heap/\(∀ b∈fp,H' b=none)/\W i H'/\m=n - i:=fun {s' f' H'} kp I' w'=>by
     refine ⟨n - (i+1),by omega,i+1,H',(I'.unpinned).weak kp.1 kp.2,T.keep _ _ _ Fg fun b hb o e=>(I'.pin (b,o) (SU _ (SU _ (cu hb e)))).1,fun b hb=>?_,w',rfl⟩;obtain ⟨o,e,d⟩:=T.obj _ _ Fg b hb;exact (I'.pin (b,o) (SU _ (SU _ (cu hb e)))).2.1
    cases ok with
    | false =>
      refine .inl ⟨rfl,again k8 I9 ?_⟩;have G1:if false=true then _ else W (i+1) H9:=q9
      rw [if_neg Sz] at G1;exact G1
    | true =>
      refine .inr ⟨rfl,?_⟩;rw [if_pos rfl] at q9;refine thn (he cl s3.heap.objs.size s3 H3 fp pins _ s9 DH H9 _ I9 q9) fun vv Kd ⟨v,Ke,Kf,rv,ys,hD,G2,Kg⟩=>?_;refine thn (aZ _ Kd DH Ke (.ref s.heap.objs.size) [v] (.ref s.heap.objs.size) [vv] (fun _ H'=>W (i+1) H') Kf rfl (.cons rv .nil) ⟨_,ys,v,rfl,rfl,hD,G2,Kg⟩) fun _ OH ⟨_,OI,Kh,_,Ki⟩=>?_;exact again k8 Kh Ki
 exact codeAny_compStart_list loop (T.self X.A 0 _ _ _ AI loop)
theorem cf {elt tg iter:TV} {ifs:List TV} {sc:Vu} {pos:Wq} {N:List Ss} {js:List (Option Nat)} {wi:TI} {g:TG} {tt:TT} {te:TE} (hc:X.calm=true) (S:df X sc N js) (hi:PI X tg iter wi)
 (hg:∀ cl C s H fp pins,PG (aT X N sc cl C s H fp pins) tg g) (gk:nC js g) (ht:∀ cl C s H fp pins,PTs (aT X N sc cl C s H fp pins) ifs tt) (he:∀ cl C s H fp pins,PE (aT X N sc cl C s H fp pins) elt te)
 (hs:∀ x,Ww iter X.env x=pure x:=by intro _;rfl):PE X (.ListComp elt [⟨tg,iter,ifs,0⟩] sc pos) (vV js wi g tt te):=by
 intro pins s σ H Q I h;obtain ⟨cl,e1,e2,e3⟩:=ir (env:=X.env) (sc:=sc) fun n hn=>I.ok.has n (S.frees _ hn rfl);rw [eval_ListComp];refine Xp (use:=none) rfl hs e1 S.kind S.names (thn (hi pins s σ H _ I h) fun v s1 h1=>thn h1 fun GI s2 h2=>?_);obtain ⟨it,fp,tn,J,H2,rfl,I2,T,Eo,f2,R2⟩:=h2;obtain ⟨n,W,w0,turn⟩:=R2 s2.heap.objs.size I2.fresh;refine l8 (R:=fun acc C=>compPost (SY X.prog X.w) X.A X.xe none (EP X pins σ Q) acc C) hc S I2 T Eo f2 e2 e3 hg gk ht he w0 turn fun C H' s' _ _ hn _ inv fi=>?_;obtain ⟨m,hm⟩:=hn;exact ⟨m,hm,fun h' sb=>⟨.ref s2.heap.objs.size,H',inv h' s'.toks sb,rfl,fi⟩⟩
theorem lm {i:Nat} {y:Ss} {elt tg iter:TV} {ifs:List TV} {sc:Vu} {pos G3 py:Wq} {N:List Ss} {js:List (Option Nat)} {wi:TI} {g:TG} {tt:TT} {te:TE} (hN:X.N.Nodup) (hy:X.N[i]?=some y) (G4:Loc X.env.scope y) (hc:X.calm=true) (S:df X sc N js) (hi:PI X tg iter wi)
 (hg:∀ cl C s H fp pins,PG (aT X N sc cl C s H fp pins) tg g) (gk:nC js g) (ht:∀ cl C s H fp pins,PTs (aT X N sc cl C s H fp pins) ifs tt) (he:∀ cl C s H fp pins,PE (aT X N sc cl C s H fp pins) elt te)
 (OJ:Xs (.ListComp elt [⟨tg,iter,ifs,0⟩] sc pos) (some (.Name y py)) G3.line X.env=pure true:=by rfl)
 (hs:∀ x,Ww iter X.env x=pure x:=by intro _;rfl) (hf:X.fn y=true∨X.env.scope.names.lookup y=some .local:=by first | exact .inl rfl | exact .inr rfl | assumption) :
 PS X (.Assign [.Name y py] (.ListComp elt [⟨tg,iter,ifs,0⟩] sc pos) G3) (sk (vV js wi g tt te) (aC i)):=by
 intro pins s σ H D I h;obtain ⟨cl,e1,e2,e3⟩:=ir (env:=X.env) (sc:=sc) fun n hn=>I.ok.has n (S.frees _ hn rfl);rw [exec_Assign_Name_used _ _ _ _ OJ];refine R9 (Xo (R9 ?_));show SI _ X.A (do let _ ← comprehension (.ListComp elt [⟨tg,iter,ifs,0⟩] sc pos) sc X.env _ (newList []) false (U4 iter X.env) (some (X3 (.Name y py) X.env))) _ _ s;refine R9 (T4 (Xp (use:=some (X3 (.Name y py) X.env)) (Q:=fun _ s'=>SP X pins D .next s') rfl hs e1 S.kind S.names (thn (hi pins s σ H _ I h) fun v s1 h1=>thn h1 fun GI s2 h2=>?_)) (fun _ s' hq=>SA (SA hq)) fun _ _ z=>z);obtain ⟨it,fp,tn,J,H2,rfl,I2,T,Eo,f2,R2⟩:=h2;obtain ⟨n,W,w0,turn⟩:=R2 s2.heap.objs.size I2.fresh;refine l8 (R:=fun acc C=>compPost (SY X.prog X.w) X.A X.xe (some (X3 (.Name y py) X.env)) (fun _ s'=>SP X pins D .next s') acc C) hc S I2 T Eo f2 e2 e3 hg gk ht he w0 turn fun C H' s' MJ hC hn Kj inv fi=>?_;obtain ⟨m,hm⟩:=hn
 have I5:Inv X pins σ H' s':=by
  have q:=inv s'.heap s'.toks (.refl ..);exact q
 refine Xh (nQ (v:=.ref s2.heap.objs.size) I5 hN hy G4 rfl (fun s6 I6 ⟨a,sb,ha⟩=>?_) hf)
 have OK:C≠a:=by
  rcases ha with ha | ha
  · rw [ha];exact MJ
  · intro z;obtain ⟨v,q⟩:=I2.cell y a ha;exact absurd (Nat.lt_trans q.lt hC) (by rw [z];exact TM _)
 refine ⟨m,hm.sameBut sb OK,fun h' OL=>⟨_,H',I6.turned (it:=C) (t':=s6.toks) (fun b o hb e=>OL.extBut b o hb e) Kj MJ (.inr (TF I2.sz (We hC))) (fun x c e z=>?_) fun p hp z=>?_,fi⟩⟩
 · obtain ⟨v,q⟩:=I2.cell x c e;exact absurd (Nat.lt_trans q.lt hC) (by rw [z];exact TM _)
 · exact absurd (Nat.lt_trans (SD (I2.pin p hp).1) hC) (by rw [z];exact TM _)
end
end L2
namespace L2
open PySem PySem.Spec PyProof.Rows
def jc {α:Type} (xs:List α) (lo hi:Option Int):List α:=(xs.drop (HT.sIx xs.length 0 lo)).take (HT.sIx xs.length xs.length hi - HT.sIx xs.length 0 lo)
def db (z:Ss) (lo hi:Option Int):Ss:=⟨(jc z.cps.toList lo hi).toArray⟩
theorem vK {α:Type} (xs:List α) (a n:Nat):((Tw n).map fun (k:Nat)=>a+k).filterMap (xs[·]?)=(xs.drop a).take n:=by
 induction n with
 | zero=>simp
 | succ n ih =>
   rw [List.range_succ,Sq,List.filterMap_append,ih,Vp];congr 1;rw [List.getElem?_drop];cases h:xs[a+n]? <;> simp [h]
theorem tL (n d:Nat) (i:Int):max 0 (min (if i<0 then i+(n:Int) else i) (n:Int))=((HT.sIx n d (some i):Nat):Int):=by
 show max 0 (min (if i<0 then i+(n:Int) else i) (n:Int))=(((if i<0 then (i+(n:Int)).toNat else min i.toNat n):Nat):Int);by_cases h:i<0
 · rw [if_pos h,if_pos h];omega
 · rw [if_neg h,if_neg h];omega
theorem vI (A B:Int) (a b:Nat) (hA:A=(a:Int)) (hB:B=(b:Int)):sliceRange A B 1=(Tw (b - a)).map fun (k:Nat)=>a+k:=by
 subst hA;subst hB;unfold sliceRange;simp only [show (1:Int) > 0 by decide,if_true]
 have c:(if (a:Int)<(b:Int) then ((b:Int) - a+1 - 1) / 1 else 0).toNat=b - a:=by
  split
  · rw [Yh];omega
  · omega
 rw [c];refine Ut fun k _=>?_;omega
theorem sM (lo hi:Option Int) (n:Nat):W3 lo hi 1 n=(Tw (HT.sIx n n hi - HT.sIx n 0 lo)).map fun (k:Nat)=>HT.sIx n 0 lo+k:=by
 unfold W3;simp only [show (1:Int) > 0 by decide,if_true];cases lo <;> cases hi <;> refine vI _ _ _ _ ?_ ?_ <;> first | rfl | exact tL _ _ _
theorem cN (z:Ss) (lo hi:Option Int):(db z lo hi).length<=z.length:=by
 show (jc z.cps.toList lo hi).toArray.size<=z.cps.size;unfold jc;rw [Si,SR,Tf,SE];omega
theorem m8 (x:Ss) (t:Tok) (l u:Option (Int×Tok)) {Q:Sb->Sf->Prop} {s:Sf} (hz:x.length<=SQ) (h:∀ t' k,Q (.str (db x (l.map (·.1)) (u.map (·.1))) t') { s with toks:=k }):(sliceMade x t l u none).post Q s:=by
 have e:(X0 x l u none).filterMap (x.cps[·]?)=jc x.cps.toList (l.map (·.1)) (u.map (·.1)):=by
  unfold X0 jc;show (W3 (l.map (·.1)) (u.map (·.1)) 1 x.length).filterMap (x.cps[·]?)=_;rw [sM,show (x.cps[·]?)=(x.cps.toList[·]?) from funext fun i=>(VL ..).symm,vK,SE];rfl
 unfold sliceMade;split
 · rename_i hc
   have hl:(X0 x l u none).length=x.length:=by
    have:=(Tr _ _ ▸ hc).2;simpa using this
   have hw:db x (l.map (·.1)) (u.map (·.1))=x:=by
    have e2:(jc x.cps.toList (l.map (·.1)) (u.map (·.1)))=x.cps.toList:=by
     have hp:X0 x l u none=(Tw (HT.sIx x.length x.length (u.map (·.1)) - HT.sIx x.length 0 (l.map (·.1)))).map fun (k:Nat)=>HT.sIx x.length 0 (l.map (·.1))+k:=sM _ _ _;rw [hp,R5,U1] at hl;have b1:=HT.sIx_le x.length x.length (Sg _) (u.map (·.1));have hx:x.cps.toList.length=x.length:=SE;unfold jc;rw [hx,hl];have OM:HT.sIx x.length 0 (l.map (·.1))=0∨x.length=0:=by omega
     rcases OM with h0 | h0
     · rw [h0,Uv,S7 (by rw [hx];exact Sg _)]
     · have:x.cps.toList=[]:=S6.mp (by rw [hx];exact h0);rw [this];simp
    unfold db;rw [e2]
   have:=h t s.toks;rw [hw] at this;exact this
 · show (⟨((X0 x l u none).filterMap (x.cps[·]?)).toArray⟩:Ss).length<=SQ/\Q _ _;rw [e];exact ⟨TF (cN x _ _) hz,h s.toks (s.toks+1)⟩
section
variable {X:Cx}
inductive xL (x:V) (lo:Option Int) (hi:Option Int) (H:Hp) (Q:VK):Prop
 | mk (z:_) (Au:x=.str z) (Av:z.length<=SQ) (AF:Q (.str (db z lo hi)) H):xL  x lo hi H Q
def zV:V->Option Int->Option Int->Hp->VK->Prop:=xL
theorem part_of {v:Sb} {o:Option Int} (h:IsPart v o):∃ l:Option (Int×Tok),v=partValue l/\l.map (·.1)=o:=by
 cases h with
 | none=>exact ⟨none,rfl,rfl⟩
 | int i t=>exact ⟨some (i,t),rfl,rfl⟩
theorem lz:SlR X zV:=by
 intro pins s σ H x v vl vu lo hi sl Q I rx hs pl pu h;obtain ⟨z,rfl,hz,q⟩:=h;obtain ⟨t,rfl⟩:=rx;obtain ⟨l,rfl,rfl⟩:=part_of pl;obtain ⟨u,rfl,rfl⟩:=part_of pu;refine ⟨"str",_,F.slot_str_getitem.lookup,Vl s z t,wpAny_getItem_str_slice (l:=l) (u:=u) (st:=none) ?_ rfl (m8 z t l u hz fun t' k=>?_)⟩
 · obtain ⟨o,ho,hc,hd⟩:=hs;exact ⟨o,ho,hc,hd⟩
 · exact ⟨.str (db z (l.map (·.1)) (u.map (·.1))),H,I.tok k,⟨_,rfl⟩,q⟩
def xT:V->List V->Hp->VK->Prop:=fun x vs H Q=>∃ z y i r,x=.str z/\vs=[.str y]/\Builtin.Str.occurrences z y 0 z.length 1=i::r/\Q (.int (i:Nat)) H
theorem u8:MtR X "str.index" xT:=by
 intro pins s σ H x vs v us Q I rx rv h;obtain ⟨z,y,i,r,rfl,rfl,ho,q⟩:=h;obtain ⟨t,rfl⟩:=rx;obtain ⟨u,rfl,u',rfl⟩:=rv.one;exact SC.index ho ⟨.int (i:Nat),H,I.tok _,⟨_,rfl⟩,q⟩
theorem wO {ys:List Ss}:∀ {us:List Sb},Vals (ys.map V.str) us->StrsAre us ys:=by
 induction ys with
 | nil=>intro us r;cases r;exact .nil
 | cons y ys ih =>
   intro us r;cases r with
   | cons a b =>
     obtain ⟨t,rfl⟩:=a;exact .cons y t (ih b)
def rJoin (K:R8):V->List V->Hp->VK->Prop:=fun x vs H Q=>∃ z p ys,x=.str z/\vs=[.ref p]/\SqL K H p (ys.map V.str)/\(ys.map (·.length)).sum+ys.length * z.length<=16777216/\Q (.str (Tg z ys)) H
theorem lr:MtR X "str.join" (rJoin X.K):=by
 intro pins s σ H x vs v us Q I rx rv h;obtain ⟨z,p,ys,rfl,rfl,hl,hz,q⟩:=h;obtain ⟨t,rfl⟩:=rx;obtain ⟨u,rfl,u'⟩:=rv.one;cases u';obtain ⟨its,r,pl,_⟩:=I.list hl;exact join_list pl.isList (wO r) hz fun t' k=>⟨.str (Tg z ys),H,I.tok k,⟨_,rfl⟩,q⟩
theorem uz {T:String} {b:Bool} {t:Sb}:e9 X (.builtin "isinstance") (fun xs H Q=>∃ x,xs=[x,.ty T]/\i3 X.K H x t/\Vz X.K t (.type T)=some b/\Q (.bl b) H):=by
 intro pins s σ H xs us Q I r h;obtain ⟨x,rfl,ty,k,q⟩:=h;obtain ⟨u,w',rfl,r1,r2⟩:=vals2 r;cases r2;exact tZ I r1 ty k fun tk=>⟨.bl b,H,I.tok tk,rfl,q⟩
end
end L2
namespace PySem
namespace F
end F
end PySem
namespace PySem
open Sem (wp)
section
variable {prog:SX} {w:Tq} {A:Tj} {E:Sb->Sf->Prop} {s:Sf}
end
end PySem
namespace L2
open PySem PySem.Spec PyProof.Rows
section
variable {X:Cx} {e:TV} {te:TE} {p p2 pos BJ:Wq}
def Itv (K:R8) (a:Sa) (n:Nat):It:=⟨fun i H=>i<n/\∃ xs,SqL K H a xs/\xs.length=n,fun i H x H'=>H'=H/\∀ xs,SqL K H a xs->xs[n - 1 - i]?=some x,fun i _=>i=n⟩
theorem uI {P:SX} {w:Tq} {K:R8} {tg:TV} (a it:Sa) (n:Nat):Turn P w K tg (Itv K a n) [it] it (fun i h=>h.IsRevIter it a ((n:Int) - 1 - (i:Nat))) where
 mem:=by simp
 obj:=fun i h st b hb=>by
  have e:b=it:=by simpa using hb
  subst e;obtain ⟨o,e,c,d⟩:=st;exact ⟨o,e,fun v z=>by rw [d] at z;cases z⟩
 keep:=fun i h h' st k=>st.at fun o e=>k it (by simp) o e
 item:=by
  intro X hP hw hK hc i pins s σ H E I hf st hg;subst hP hw hK;obtain ⟨hi,xs,hq,hx⟩:=hg;obtain ⟨its,rv,p,hz⟩:=I.list hq;have hl:=rv.length;obtain ⟨x,B1⟩:∃ x,xs[n - 1 - i]?=some x:=⟨_,R6 (by omega)⟩;obtain ⟨u,hu,ru⟩:=rv.get B1;obtain ⟨f0,f1,f2,f3,f4,f5⟩:=hf it (by simp);have e1:(n:Int) - 1 - (i:Nat)=((n - 1 - i:Nat):Int):=by omega
  rw [e1] at st;refine wpAny_pyNext_rev_item st p.isList (x:=u) (by simpa using hu) fun h' By sb=>?_;have I1:Inv X pins σ H { s with heap:=h' }:=I.turned (t':=s.toks) (fun b o hb e=>(sb.2 b hb).trans e) f0 f1 f3 f4 f5;have e2:((n - 1 - i:Nat):Int) - 1=(n:Int) - 1 - ((i+1:Nat):Int):=by omega
  rw [e2] at By;obtain ⟨o,e,c,d⟩:=id By;exact ⟨u,rfl,lO (s:={ s with heap:=h' }) e c d (by decide) ⟨x,H,I1,ru,⟨rfl,fun ys hy=>by rw [I.list_inj hy hq];exact B1⟩,By,fun b hb=>(hf b hb).1⟩⟩
 done:=by
  intro X hP hw hK hc i pins s σ H E I hf st hg;subst hP hw hK;have ON:i=n:=hg;subst ON;obtain ⟨f0,f1,f2,f3,f4,f5⟩:=hf it (by simp);rw [show (i:Int) - 1 - (i:Nat)=-1 by omega] at st;exact wpAny_pyNext_rev_end (I.ok.hd hc) st fun h' eb=>⟨rfl,I.turned (t':=s.toks) (fun b o hb e=>eb b o hb e) f0 f1 f3 f4 f5⟩
 self:=fun _ _ _ _ _ st h=>wpAny_pyIter_revIter st h
def zO (K:R8) (tl:TE):TI:=fun σ H R=>tl σ H fun x H1=>∃ a xs,x=.ref a/\SqL K H1 a xs/\R (Itv K a xs.length) H1
theorem yu {tg:TV} (g2:Gl X "reversed") (m2:X.mg "reversed"=none) (he:PE X e te) (h2:Tz [e] X.env=[(false,U4 e X.env)]:=by rfl):PI X tg (.Call (.Name "reversed" p2) [e] [] BJ) (zO X.K te):=by
 intro pins s σ H R I h;refine U0 (iC I g2 m2 boot_reversed (U6 ?_ h2 rfl));rw [h2];show SI _ _ (spliced ((false,U4 e X.env)::[])) _ _ s;refine Uq (thn (he pins s σ H _ I h) fun u s1 ⟨x,H1,I1,r1,a,ys,ex,hq,q⟩=>VB ?_);subst ex;cases r1;obtain ⟨its,rv,p,hz⟩:=I1.list hq;have hl:=rv.length;refine call_reversed_list p.isList ?_
 have hit:(s1.heap.push (revObj a ((its.toArray.size:Int) - 1))).IsRevIter s1.heap.objs.size a ((ys.length:Int) - 1 - ((0:Nat):Int)):=by
  rw [hl,show (its.length:Int) - 1 - ((0:Nat):Int)=(its.toArray.size:Int) - 1 by rw [Si];omega];exact ⟨_,Sx _ rfl,rfl,rfl⟩
 refine wpAny_pyIter_revIter (s:={ s1 with heap:=s1.heap.push (revObj a ((its.toArray.size:Int) - 1)) }) hit ?_;refine ⟨s1.heap.objs.size,[s1.heap.objs.size],_,_,H1,rfl,I1.kept (t':=s1.toks) fun b o e=>Se _ e,uI a _ ys.length,hit,fun b hb=>?_,q⟩;have e:b=s1.heap.objs.size:=by simpa using hb
 subst e;exact I1.fpOk (Sg _) (I1.hok.fresh (Sg _))
theorem v4 {K:R8} {a:Sa} {xs:List V} {g:TG} {tb:TS} {D:Ends} {σ:St} {H:Hp} (Pv:Nat->St->Hp->Prop) (h0:Pv 0 σ H) (hl:∀ i σ H,i<=xs.length->Pv i σ H->SqL K H a xs)
 (hs:∀ i x σ H,i<xs.length->xs[xs.length - 1 - i]?=some x->Pv i σ H->g x σ H fun AB H2=>tb { D with nx:=Pv (i+1),ct:=Pv (i+1),bk:=D.nx } AB H2) (hd:∀ σ H,Pv xs.length σ H->D.nx σ H) :
 ∃ W:Nat->Nat->St->Hp->Prop,(∃ m,W 0 m σ H)/\∀ i m σ H,W i m σ H →
   ((Itv K a xs.length).stop i H/\D.nx σ H)∨((Itv K a xs.length).go i H/\∃ N:St->Hp->Prop,(∀ f' H',N f' H'->∃ m',m'<m/\W (i+1) m' f' H')/\∀ x H',(Itv K a xs.length).yld i H x H'->g x σ H' fun AB H2=>tb { D with nx:=N,ct:=N,bk:=D.nx } AB H2):=by
 refine ⟨fun i m σ H=>i<=xs.length/\m=xs.length - i/\Pv i σ H,⟨xs.length,Td _,rfl,h0⟩,?_⟩;rintro i m σ H ⟨hi,rfl,p⟩;by_cases h:i=xs.length
 · left;exact ⟨h,hd σ H (by rw [<- h];exact p)⟩
 · right;have BS:i<xs.length:=by omega
   refine ⟨⟨BS,xs,hl i σ H hi p,rfl⟩,Pv (i+1),fun f' H' q=>⟨xs.length - (i+1),by omega,by omega,rfl,q⟩,?_⟩;rintro x H' ⟨rfl,hx⟩;exact hs i x σ H' BS (hx xs (hl i σ H' hi p)) p
end
end L2
namespace BB
open PySem L2
inductive Th where
 | knot (n:Ss) (ks:List Th)
 | call (s k:Int)
def q:Ss:=R4 "?"
def Th.kids:Th->List Th
 | .knot _ ks=>ks
 | .call _ _=>[]
mutual
def Th.size:Th->Nat
 | .knot _ ks=>aE ks+1
 | .call _ _=>1
def aE:List Th->Nat
 | []=>0
 | t::ts=>t.size+aE ts
end
mutual
def Th.tall:Th->Nat
 | .knot _ ks=>ba ks+1
 | .call _ _=>1
def ba:List Th->Nat
 | []=>0
 | t::ts=>max t.tall (ba ts)
end
mutual
/-- by places F5 -/
def Th.walk:Th->List Th
 | .knot n ks=>.knot n ks::walks ks
 | .call s k=>[.call s k]
def walks:List Th->List Th
 | []=>[]
 | t::ts=>t.walk++walks ts
end
theorem Th.walk_eq (t:Th):t.walk=t::walks t.kids:=by
 cases t with
 | knot n ks=>rw [Th.walk];rfl
 | call s k=>rw [Th.walk];simp [Th.kids,walks]
theorem Th.size_eq (t:Th):t.size=aE t.kids+1:=by
 cases t with
 | knot n ks=>rw [Th.size];rfl
 | call s k=>rw [Th.size];simp [Th.kids,aE]
theorem Th.tall_eq (t:Th):t.tall=ba t.kids+1:=by
 cases t with
 | knot n ks=>rw [Th.tall];rfl
 | call s k=>rw [Th.tall];simp [Th.kids,ba]
theorem iO:∀ a b:List Th,walks (a++b)=walks a++walks b
 | [],b=>by simp [walks]
 | t::a,b=>by rw [S9,walks,walks,iO a b,SO]
theorem bT:∀ a b:List Th,aE (a++b)=aE a+aE b
 | [],b=>by simp [aE]
 | t::a,b=>by rw [S9,aE,aE,bT a b,Nat.add_assoc]
mutual
theorem Th.walk_len:∀ t:Th,t.walk.length=t.size
 | .knot n ks=>by rw [Th.walk,Th.size,R7,jG ks]
 | .call s k=>by rw [Th.walk,Th.size];rfl
theorem jG:∀ ts:List Th,(walks ts).length=aE ts
 | []=>rfl
 | t::ts=>by rw [walks,aE,Sm,t.walk_len,jG ts]
end
theorem Th.size_pos (t:Th):1<=t.size:=by rw [t.size_eq];omega
mutual
def At (H:Hp):Th->Sa->Prop
 | .knot n ks,a=>n≠q/\∃ as:List Sa,H a=some (.tup (.str n::as.map V.ref))/\Ats H ks as
 | .call s k,a=>H a=some (.tup [.str q,.int s,.int k])
def Ats (H:Hp):List Th->List Sa->Prop
 | [],as=>as=[]
 | t::ts,as=>∃ a r,as=a::r/\At H t a/\Ats H ts r
end
def KT (H H':Hp):Prop:=∀ b xs,H b=some (.tup xs)->H' b=some (.tup xs)
theorem KT.trans {H H1 H2:Hp} (a:KT H H1) (b:KT H1 H2):KT H H2:=fun c o h=>b c o (a c o h)
theorem Same.kt {H H':Hp} (h:L2.Same H H'):KT H H':=fun b xs e=>h b _ e
theorem iu {H:Hp} {l:Sa} {o:HO} (h:H l=none):KT H (upd H l o):=fun b xs e=>by rw [aq (aM e h)];exact e
theorem bD {H:Hp} {l:Sa} {o:HO} {xs:List V} (h:H l=some (.lst xs)):KT H (upd H l o):=fun b ys e=>by rw [aq (tm e h (by intro z;cases z))];exact e
mutual
theorem At.mono {H H':Hp} (k:KT H H'):∀ {t:Th} {a:Sa},At H t a->At H' t a
 | .knot n ks,a,h=>by
   rw [At] at h ⊢;obtain ⟨h0,as,h1,h2⟩:=h;exact ⟨h0,as,k _ _ h1,Ats.mono k h2⟩
 | .call s c,a,h=>by
   rw [At] at h ⊢;exact k _ _ h
theorem Ats.mono {H H':Hp} (k:KT H H'):∀ {ts:List Th} {as:List Sa},Ats H ts as->Ats H' ts as
 | [],as,h=>by rw [Ats] at h ⊢;exact h
 | t::ts,as,h=>by
   rw [Ats] at h ⊢;obtain ⟨a,r,e,h1,h2⟩:=h;exact ⟨a,r,e,At.mono k h1,Ats.mono k h2⟩
end
theorem Ats.nil {H:Hp}:Ats H [] []:=by rw [Ats]
theorem Ats.cons {H:Hp} {t:Th} {ts:List Th} {a:Sa} {as:List Sa} (h1:At H t a) (h2:Ats H ts as):Ats H (t::ts) (a::as):=by rw [Ats];exact ⟨a,as,rfl,h1,h2⟩
theorem Ats.append {H:Hp}:∀ {ts us:List Th} {as bs:List Sa},Ats H ts as->Ats H us bs->Ats H (ts++us) (as++bs)
 | [],us,as,bs,h,g=>by rw [Ats] at h;subst h;exact g
 | t::ts,us,as,bs,h,g=>by
   rw [Ats] at h;obtain ⟨a,r,rfl,h1,h2⟩:=h;exact .cons h1 (h2.append g)
theorem Ats.length {H:Hp}:∀ {ts:List Th} {as:List Sa},Ats H ts as->as.length=ts.length
 | [],as,h=>by rw [Ats] at h;subst h;rfl
 | t::ts,as,h=>by
   rw [Ats] at h;obtain ⟨a,r,rfl,h1,h2⟩:=h;rw [R7,R7,h2.length]
theorem Ats.reverse {H:Hp}:∀ {ts:List Th} {as:List Sa},Ats H ts as->Ats H ts.reverse as.reverse
 | [],as,h=>by rw [Ats] at h;subst h;exact .nil
 | t::ts,as,h=>by
   rw [Ats] at h;obtain ⟨a,r,rfl,h1,h2⟩:=h;rw [Ub,Ub];exact h2.reverse.append (.cons h1 .nil)
theorem Ats.get {H:Hp}:∀ {ts:List Th} {as:List Sa} {i:Nat} {a:Sa},Ats H ts as->as[i]?=some a->∃ t,ts[i]?=some t/\At H t a
 | [],as,i,a,h,e=>by rw [Ats] at h;subst h;simp at e
 | t::ts,as,i,a,h,e=>by
   rw [Ats] at h;obtain ⟨b,r,rfl,h1,h2⟩:=h;cases i with
   | zero=>simp at e;subst e;exact ⟨t,rfl,h1⟩
   | succ i=>exact h2.get (i:=i) (by simpa using e)
theorem Ats.snoc_inv {H:Hp} {ts:List Th} {as:List Sa} {a:Sa} (h:Ats H ts (as++[a])):∃ us t,ts=us++[t]/\Ats H us as/\At H t a:=by
 have r:=h.reverse;rw [WD,List.reverse_singleton,List.singleton_append] at r;cases e:ts.reverse with
 | nil=>rw [e,Ats] at r;cases r
 | cons t us =>
   rw [e,Ats] at r;obtain ⟨b,z,e1,h1,h2⟩:=r;cases e1;refine ⟨us.reverse,t,?_,?_,h1⟩
   · rw [<- Ub,<- e,VO]
   · have:=h2.reverse;rw [VO] at this;exact this
theorem At.tup {H:Hp} {t:Th} {a:Sa} (h:At H t a):∃ n r,H a=some (.tup (.str n::r)):=by
 cases t with
 | knot n ks=>rw [At] at h;obtain ⟨_,as,h1,_⟩:=h;exact ⟨n,_,h1⟩
 | call s k=>rw [At] at h;exact ⟨q,_,h⟩
end BB
namespace BB
open PySem L2
def comma:Ss:=R4 ","
def lpar:Ss:=R4 "("
def rpar:Ss:=R4 ")"
def pT (n:Ss) (ts:List Ss):Ss:=if ts.isEmpty=true then n else n++lpar++Tg comma ts++rpar
mutual
def Th.show:Th->Ss
 | .knot n ks=>pT n (bX ks)
 | .call _ _=>q
def bX:List Th->List Ss
 | []=>[]
 | t::ts=>t.show::bX ts
end
mutual
def Th.Nm (L:Nat):Th->Prop
 | .knot n ks=>n.length<=L/\Nms L ks
 | .call _ _=>True
def Nms (L:Nat):List Th->Prop
 | []=>True
 | t::ts=>t.Nm L/\Nms L ts
end
theorem yP:q.length=1:=by decide +kernel
theorem tU:comma.length=1/\lpar.length=1/\rpar.length=1:=by decide +kernel
theorem join_le (ts:List Ss):(Tg comma ts).length<=(ts.map (·.length)).sum+ts.length:=by
 have e:Tg comma ts=V1 comma ts:=by simpa using PyProof.Rows.join_plain_closes comma ts
 have:=StrLaws.join_length_le comma ts;rw [tU.1] at this;rw [e];omega
mutual
theorem Th.show_le {L:Nat}:∀ t:Th,t.Nm L->t.show.length+1<=(L+3) * t.size
 | .knot n ks,h=>by
   rw [Th.Nm] at h;have hk:=ml ks h.2;have hn:=h.1;rw [Th.show,Th.size,pT];have e1:(L+3) * (aE ks+1)=(L+3) * aE ks+(L+3):=Yb _ _;rw [e1];split
   · omega
   · have hj:=join_le (bX ks);have a1:=tU.2.1;have a2:=tU.2.2;rw [SN,SN,SN];omega
 | .call s k,h=>by
   rw [Th.show,Th.size,yP];omega
theorem ml {L:Nat}:∀ ts:List Th,Nms L ts->((bX ts).map (·.length)).sum+(bX ts).length<=(L+3) * aE ts
 | [],_=>by simp [bX]
 | t::ts,h=>by
   rw [Nms] at h;have h1:=Th.show_le t h.1;have h2:=ml ts h.2;rw [bX,aE,Sl,Uj,R7,Nat.mul_add];omega
end
end BB
namespace BB
open PySem L2
def dN:Ss:=R4 "abcdefghijklmnopqrstuvwxyz"
theorem su:dN.cps.toList=(Tw 26).map (97+·):=by decide +kernel
theorem j8:dN.length=26:=by decide +kernel
theorem at_nonneg {α:Type} {xs:List α} {i:Int} {v:α} (h0:0<=i) (h:xs[i.toNat]?=some v):atI xs i=some v:=by
 have e:i=((i.toNat:Nat):Int):=by omega
 rw [e];exact cT h
theorem nE {i:Int} (h0:0<=i) (h1:i<26):atI dN.cps.toList i=some (97+i.toNat):=by
 refine at_nonneg h0 ?_;rw [su,So,VY (by omega)];rfl
theorem t8:∀ i<26,Builtin.Str.occurrences dN ⟨#[97+i]⟩ 0 dN.length 1=[i]:=by decide +kernel
def fK (r:Int) (k:Nat):List Nat:=(Tw k).map fun j=>97+((r / 26 ^ j)%26).toNat
def cQ (r:Int) (k:Nat):Ss:=⟨(fK r k).toArray⟩
theorem tX (r:Int) (k:Nat):(fK r k).length=k:=by unfold fK;rw [R5,U1]
theorem da (r:Int) (k:Nat):(cQ r k).length=k:=by show (fK r k).toArray.size=k;rw [Si,tX]
theorem r8 (r:Int) (k:Nat):fK r (k+1)=fK r k++[97+((r / 26 ^ k)%26).toNat]:=by unfold fK;rw [List.range_succ,Sq];rfl
theorem qP (r:Int) (k:Nat):cQ r (k+1)=cQ r k++⟨#[97+((r / 26 ^ k)%26).toNat]⟩:=by
 show (⟨(fK r (k+1)).toArray⟩:Ss)=⟨(fK r k).toArray++#[97+((r / 26 ^ k)%26).toNat]⟩;rw [r8];simp
def Low (x:Ss):Prop:=∀ c∈x.cps.toList,97<=c/\c<=122
theorem uf (r:Int) (k:Nat):∀ c∈fK r k,97<=c/\c<=122:=by
 intro c hc;obtain ⟨j,_,rfl⟩:=TC.mp hc;have:=Te (r / 26 ^ j) (by decide:(26:Int)≠0);have:=Tc (r / 26 ^ j) (by decide:(0:Int)<26);omega
theorem oG {x:Ss} (h:Low x) (lo hi:Option Int):Low (db x lo hi):=by
 intro c hc;have BQ:c∈jc x.cps.toList lo hi:=by simpa [db] using hc
 exact h c (TL (TK BQ))
theorem sH {x y:Ss} (hx:Low x) (hy:Low y):Low (x++y):=by
 intro c hc;have BQ:c∈(x.cps++y.cps).toList:=hc;rw [TR,Sv] at BQ;rcases BQ with h | h
 · exact hx c h
 · exact hy c h
theorem wj {c:Nat} (h1:97<=c) (h2:c<=122):Low ⟨#[c]⟩:=by
 intro d hd;have:d=c:=by simpa using hd
 omega
theorem xw {x:Ss} (h:Low x):x≠q:=by
 intro e;subst e;have:=h 63 (by decide +kernel);omega
def eC (base:Int):Int:=1+base / 2%8
def nAt (base:Int):Int:=base / 16%7%eC base
def kh (base n:Int):Nat:=97+(((((base / 112) / 26 ^ (nAt base).toNat)%26).toNat+n)%26).toNat
def nameOf (base n:Int):Ss :=
 if base%2=1 then db (cQ (base / 112) 8) none (some (n+1))
 else db (cQ (base / 112) 8) none (some (nAt base))++⟨#[kh base n]⟩++db (cQ (base / 112) 8) (some (nAt base+1)) (some (eC base))
theorem jJ (base:Int):1<=eC base/\eC base<=8:=by
 have:=Te (base / 2) (by decide:(8:Int)≠0);have:=Tc (base / 2) (by decide:(0:Int)<8);unfold eC;omega
theorem uy (base:Int):0<=nAt base/\nAt base<eC base:=by
 have:=jJ base;unfold nAt;exact ⟨Te _ (by omega),Tc _ (by omega)⟩
theorem nD (base n:Int):97<=kh base n/\kh base n<=122:=by
 unfold kh;have h1:=Te (((((base / 112) / 26 ^ (nAt base).toNat)%26).toNat:Int)+n) (by decide:(26:Int)≠0);have h2:=Tc (((((base / 112) / 26 ^ (nAt base).toNat)%26).toNat:Int)+n) (by decide:(0:Int)<26);omega
theorem my (base:Int):Low (cQ (base / 112) 8):=by
 intro c hc;exact uf _ _ c (by simpa [cQ] using hc)
theorem rO (base n:Int):Low (nameOf base n):=by
 unfold nameOf;split
 · exact oG (my base) _ _
 · exact sH (sH (oG (my base) _ _) (wj (nD base n).1 (nD base n).2)) (oG (my base) _ _)
theorem jo (z:Ss) (lo hi:Option Int):(db z lo hi).length=min (HT.sIx z.length z.length hi - HT.sIx z.length 0 lo) (z.length - HT.sIx z.length 0 lo):=by
 show (jc z.cps.toList lo hi).toArray.size=_;unfold jc;rw [Si,SR,Tf,SE];rfl
theorem qJ (base n:Int):(nameOf base n).length<=8:=by
 unfold nameOf;split
 · have:=cN (cQ (base / 112) 8) none (some (n+1));rw [da] at this;exact this
 · have h1:=jJ base;have h2:=uy base;rw [SN,SN,jo,jo,da]
   have e1:HT.sIx 8 8 (some (nAt base))=(nAt base).toNat:=by
    show (if nAt base<0 then _ else min (nAt base).toNat 8)=_;rw [if_neg (by omega)];omega
   have e2:HT.sIx 8 0 (some (nAt base+1))=(nAt base+1).toNat:=by
    show (if nAt base+1<0 then _ else min (nAt base+1).toNat 8)=_;rw [if_neg (by omega)];omega
   have e3:HT.sIx 8 8 (some (eC base))=(eC base).toNat:=by
    show (if eC base<0 then _ else min (eC base).toNat 8)=_;rw [if_neg (by omega)];omega
   have e4:HT.sIx 8 0 none=0:=rfl;have e5:(⟨#[kh base n]⟩:Ss).length=1:=rfl;rw [e1,e2,e3,e4,e5];omega
end BB
namespace L2
open PySem PySem.Spec PyProof.Rows
theorem Same.seqT {K:R8} {H H':Hp} {a:Sa} {xs:List V} (e:Same H H') (h:SqT K H a xs):SqT K H' a xs:=by
 rcases h with (h | ⟨o,h⟩) | h
 · exact .inl (.inl (e _ _ h))
 · exact .inl (.inr ⟨o,e _ _ h⟩)
 · exact .inr h
theorem ai {H:Hp} {p:Sa} (h:H p=none) (o:HO):Same H (upd H p o):=fun b u q=>by rw [aq (aM q h)];exact q
theorem aH {H H1:Hp} {l:Sa} {o:HO} (h:Same H H1) (n:H l=none):Same H (upd H1 l o):=fun b u e=>by rw [aq (aM e n)];exact h b u e
theorem oA {α:Type} {js:List (Option Nat)} {tt:TT} {te:TE} {σ:St} {J:It} {H:Hp} {xs:List V} {fin:Sa->Hp->Prop} (zs:List α) (p:α->Bool) (f:α->V) (hz:zs.length=xs.length) (hn:xs.length<=1000000)
 (Eu:∀ i H2,Same H H2->i<xs.length->J.go i H2) (Bm:∀ H2,Same H H2->J.stop xs.length H2) (CD:∀ (i:Nat) H2 x H3,Same H H2->i<xs.length->J.yld i H2 x H3->H3=H2/\xs[i]?=some x)
 (Fh:∀ (i:Nat) x z H2 (R:Bool->Hp->Prop),xs[i]?=some x->zs[i]?=some z->Same H H2->R (p z) H2->tt ((cσ js σ).set 0 (some x)) H2 R)
 (Fi:∀ (i:Nat) x z H2 (R:VK),xs[i]?=some x->zs[i]?=some z->p z=true->Same H H2->R (f z) H2->te ((cσ js σ).set 0 (some x)) H2 R)
 (q:∀ D,H D=none->fin D (upd H D (.lst ((zs.filter p).map f)))) :
 ∀ D,H D=none->∃ (n:Nat) (W:Nat->Hp->Prop),W 0 (upd H D (.lst []))/\cZ js (aC 0) tt te σ J D n W fun H'=>fin D H':=by
 intro D hD;refine ⟨xs.length,fun i H2=>i<=xs.length/\H2=upd H D (.lst (((zs.take i).filter p).map f)),⟨Td _,by simp⟩,?_⟩;rintro i H2 ⟨hi,rfl⟩;have sm:∀ o,Same H (upd H D o):=fun o=>ai hD o;by_cases h:i=xs.length
 · left;subst h;refine ⟨Bm _ (sm _),?_⟩;rw [<- hz,VA];exact q D hD
 · right;have BS:i<xs.length:=by omega
   refine ⟨BS,Eu i _ (sm _) BS,fun x H1 hy=>?_⟩;obtain ⟨rfl,hx⟩:=CD i _ x H1 (sm _) BS hy;have OO:i<zs.length:=by omega
   have e1:zs[i]?=some zs[i]:=R6 OO
   have e2:(zs.take (i+1)).filter p=(zs.take i).filter p++(if p zs[i]=true then [zs[i]] else []):=by
    rw [Vp,e1,List.filter_append];show _++List.filter p [zs[i]]=_;rw [VS,List.filter_nil]
   refine Fh i x zs[i] _ _ hx e1 (sm _) ?_
   have hlen:(((zs.take i).filter p).map f).length<=1000000:=by
    rw [R5];have:=List.length_filter_le p (zs.take i);rw [SR] at this;omega
   by_cases hp:p zs[i]=true
   · rw [if_pos hp];refine Fi i x zs[i] _ _ hx e1 hp (sm _) ⟨_,ae,WL hlen (by decide),BS,?_⟩;rw [wI,e2,if_pos hp,Sq];rfl
   · rw [if_neg hp];refine ⟨BS,?_⟩;rw [e2,if_neg hp,SM]
theorem fv {α:Type} {K:R8} {a:Sa} {js:List (Option Nat)} {tt:TT} {te:TE} {σ:St} {H:Hp} {xs:List V} {fin:Sa->Hp->Prop} (zs:List α) (p:α->Bool) (f:α->V) (hS:SqL K H a xs) (hz:zs.length=xs.length) (hn:xs.length<=1000000)
 (Fh:∀ (i:Nat) x z H2 (R:Bool->Hp->Prop),xs[i]?=some x->zs[i]?=some z->Same H H2->R (p z) H2->tt ((cσ js σ).set 0 (some x)) H2 R)
 (Fi:∀ (i:Nat) x z H2 (R:VK),xs[i]?=some x->zs[i]?=some z->p z=true->Same H H2->R (f z) H2->te ((cσ js σ).set 0 (some x)) H2 R)
 (q:∀ D,H D=none->fin D (upd H D (.lst ((zs.filter p).map f)))) :
 ∀ D,H D=none->∃ (n:Nat) (W:Nat->Hp->Prop),W 0 (upd H D (.lst []))/\cZ js (aC 0) tt te σ (Itl K a) D n W fun H'=>fin D H' :=
 oA zs p f hz hn (fun i H2 s hi=>⟨xs,xs[i],s.seq hS,R6 hi⟩) (fun H2 s=>⟨xs,s.seq hS,Sg _⟩) (fun i H2 x H3 s hi hy=>⟨hy.1,hy.2 xs (s.seq hS)⟩) Fh Fi q
theorem qy {α:Type} {K:R8} {a:Sa} {js:List (Option Nat)} {tt:TT} {te:TE} {σ:St} {H:Hp} {xs:List V} {fin:Sa->Hp->Prop} (zs:List α) (p:α->Bool) (f:α->V) (hS:SqT K H a xs) (hz:zs.length=xs.length) (hn:xs.length<=1000000)
 (Fh:∀ (i:Nat) x z H2 (R:Bool->Hp->Prop),xs[i]?=some x->zs[i]?=some z->Same H H2->R (p z) H2->tt ((cσ js σ).set 0 (some x)) H2 R)
 (Fi:∀ (i:Nat) x z H2 (R:VK),xs[i]?=some x->zs[i]?=some z->p z=true->Same H H2->R (f z) H2->te ((cσ js σ).set 0 (some x)) H2 R)
 (q:∀ D,H D=none->fin D (upd H D (.lst ((zs.filter p).map f)))) :
 ∀ D,H D=none->∃ (n:Nat) (W:Nat->Hp->Prop),W 0 (upd H D (.lst []))/\cZ js (aC 0) tt te σ (Itt K a) D n W fun H'=>fin D H' :=
 oA zs p f hz hn (fun i H2 s hi=>⟨xs,xs[i],s.seqT hS,R6 hi⟩) (fun H2 s=>⟨xs,s.seqT hS,Sg _⟩) (fun i H2 x H3 s hi hy=>⟨hy.1,hy.2 xs (s.seqT hS)⟩) Fh Fi q
end L2
namespace BB
open PySem L2
theorem at0 {α:Type} {x:α} {xs:List α}:atI (x::xs) 0=some x:=cT (j:=0) rfl
theorem at1 {α:Type} {x y:α} {xs:List α}:atI (x::y::xs) 1=some y:=cT (j:=1) rfl
theorem at2 {α:Type} {x y z:α} {xs:List α}:atI (x::y::z::xs) 2=some z:=cT (j:=2) rfl
theorem at3 {α:Type} {x y z u:α} {xs:List α}:atI (x::y::z::u::xs) 3=some u:=cT (j:=3) rfl
theorem fZ (x:V) (xs:List V):cR (x::xs) (some 1) none=xs:=by
 unfold cR;simp [HT.sIx]
theorem dk:∀ ts:List Th,ts.length<=aE ts
 | []=>Td _
 | t::ts=>by
   have:=t.size_pos;have:=dk ts;rw [R7,aE];omega
theorem nO (ts:List Th):aE ts.reverse=aE ts:=by
 induction ts with
 | nil=>rfl
 | cons x xs ih=>rw [Ub,bT,ih,aE,aE,aE];omega
theorem bi {n:Nat} (h:n<=1000000):n<SQ:=WL h (by decide)
theorem am {n:Nat} (h:n<=1000000):n<=SQ:=We (bi h)
theorem int_at {ns:List Int} {k:Int} (h0:0<=k) (h:k<(ns.length:Int)):atI (ns.map V.int) k=some (.int (ns.getD k.toNat 0)):=by
 refine at_nonneg h0 ?_;have hk:k.toNat<ns.length:=by omega
 rw [So,R6 hk,List.getD_eq_getElem?_getD,R6 hk];rfl
def cellAt (ns:List Int) (k:Int):Int:=if k<(ns.length:Int) then ns.getD k.toNat 0%10 ^ 60 else 0
theorem gL (ns:List Int) (k:Int):0<=cellAt ns k:=by
 unfold cellAt;split
 · exact Te _ (by decide)
 · exact Int.le_refl _
end BB
namespace BB
open PySem L2
section
variable {α β:Type} {F G:α->β->Prop}
theorem P2.append:∀ {a c:List α} {b d:List β},To F a b->To F c d->To F (a++c) (b++d)
 | _,_,_,_,.nil,h=>h
 | _,_,_,_,.cons r t,h=>.cons r (P2.append t h)
theorem P2.get:∀ {a:List α} {b:List β} {i:Nat} {x:α},To F a b->a[i]?=some x->∃ y,b[i]?=some y/\F x y
 | _,_,_,_,.nil,e=>by simp at e
 | _,_,0,_,.cons r _,e=>by simp at e;subst e;exact ⟨_,rfl,r⟩
 | _,_,i+1,x,.cons _ t,e=>by
   obtain ⟨u,h1,h2⟩:=P2.get (i:=i) (x:=x) t (by simpa using e);exact ⟨u,by simpa using h1,h2⟩
theorem P2.get':∀ {a:List α} {b:List β} {i:Nat} {y:β},To F a b->b[i]?=some y->∃ x,a[i]?=some x/\F x y
 | _,_,_,_,.nil,e=>by simp at e
 | _,_,0,_,.cons r _,e=>by simp at e;subst e;exact ⟨_,rfl,r⟩
 | _,_,i+1,y,.cons _ t,e=>by
   obtain ⟨u,h1,h2⟩:=P2.get' (i:=i) (y:=y) t (by simpa using e);exact ⟨u,by simpa using h1,h2⟩
theorem P2.set {x:α} {y:β} (r:F x y):∀ {a:List α} {b:List β} (i:Nat),To F a b->To F (a.set i x) (b.set i y)
 | _,_,_,.nil=>.nil
 | _,_,0,.cons _ t=>.cons r t
 | _,_,i+1,.cons h t=>.cons h (P2.set r i t)
theorem P2.drop:∀ {a:List α} {b:List β} (n:Nat),To F a b->To F (a.drop n) (b.drop n)
 | _,_,0,r=>r
 | _,_,_+1,.nil=>.nil
 | _,_,n+1,.cons _ t=>P2.drop n t
theorem P2.mp (f:∀ x y,F x y->G x y):∀ {a:List α} {b:List β},To F a b->To G a b
 | _,_,.nil=>.nil
 | _,_,.cons r t=>.cons (f _ _ r) (P2.mp f t)
end
def KAt (H:Hp) (k:Ss×Int) (a:Sa):Prop:=H a=some (.tup [.str k.1,.int k.2])
def KsAt (H:Hp) (ks:List (Ss×Int)) (as:List Sa):Prop:=To (KAt H) ks as
theorem KsAt.mono {H H':Hp} (k:KT H H') {ks:List (Ss×Int)} {as:List Sa} (h:KsAt H ks as):KsAt H' ks as:=P2.mp (fun x y e=>k _ _ e) h
def rests (r:Int):Nat->Int
 | 0=>r
 | k+1=>rests r k / 4+(k:Int)
def dP (cell:Int):Int:=cell * 1000003+4421
def dr (cell:Int):Int:=1+dP cell%6
def qf (cell:Int):List (Ss×Int):=(Tw (dr cell).toNat).map fun (k:Nat)=>(nameOf (dP cell / 36) (k:Int),rests (dP cell / 7) k%4)
def kAt (cell:Int):Int:=dP cell / 6%dr cell
def cm (cell:Int):List (Ss×Int):=(qf cell).set (kAt cell).toNat (nameOf (dP cell / 36) (kAt cell),0)
theorem i9 (cell:Int):1<=dr cell/\dr cell<=6:=by
 have:=Te (dP cell) (by decide:(6:Int)≠0);have:=Tc (dP cell) (by decide:(0:Int)<6);unfold dr;omega
theorem qN (cell:Int):0<=kAt cell/\kAt cell<dr cell:=by
 have:=i9 cell;unfold kAt;exact ⟨Te _ (by omega),Tc _ (by omega)⟩
theorem gw (cell:Int):(qf cell).length=(dr cell).toNat:=by unfold qf;rw [R5,U1]
theorem dt (cell:Int):(cm cell).length=(dr cell).toNat:=by unfold cm;rw [UA,gw]
theorem l0 {cell:Int} {i:Nat} (h:i<(dr cell).toNat):(qf cell)[i]?=some (nameOf (dP cell / 36) (i:Int),rests (dP cell / 7) i%4):=by
 unfold qf;rw [So,VY h];rfl
theorem cJ {cell:Int} {i:Nat} {k:Ss×Int} (h:(cm cell)[i]?=some k):k.1=nameOf (dP cell / 36) (i:Int)/\0<=k.2/\k.2<=3/\(i=(kAt cell).toNat->k.2=0):=by
 have hi:i<(dr cell).toNat:=by
  have:=(Sj.mp h).1;rw [dt] at this;exact this
 have ha:=qN cell;unfold cm at h;by_cases e:(kAt cell).toNat=i
 · rw [e,Ug (by rw [gw];exact hi)] at h;cases h;have:(i:Int)=kAt cell:=by omega
   exact ⟨by rw [this],by simp,by simp,fun _=>rfl⟩
 · rw [UE e,l0 hi] at h;cases h;have h1:=Te (rests (dP cell / 7) i) (by decide:(4:Int)≠0);have h2:=Tc (rests (dP cell / 7) i) (by decide:(0:Int)<4);exact ⟨rfl,h1,by show rests (dP cell / 7) i%4<=3;omega,fun z=>absurd z.symm e⟩
structure iZ (ks:List (Ss×Int)):Prop where
 ne:1<=ks.length
 le:ks.length<=6
 low:∀ k∈ks,Low k.1/\k.1.length<=8
 num:∀ k∈ks,0<=k.2/\k.2<=3
 zero:∃ k∈ks,k.2=0
theorem fo (cell:Int):iZ (cm cell):=by
 have hm:=i9 cell;have ha:=qN cell;refine ⟨by rw [dt];omega,by rw [dt];omega,fun k hk=>?_,fun k hk=>?_,?_⟩
 · obtain ⟨i,hi⟩:=SV.mp hk;obtain ⟨e,_⟩:=cJ hi;rw [e];exact ⟨rO _ _,qJ _ _⟩
 · obtain ⟨i,hi⟩:=SV.mp hk;obtain ⟨_,e1,e2,_⟩:=cJ hi;exact ⟨e1,e2⟩
 · have hl:(kAt cell).toNat<(cm cell).length:=by rw [dt];omega
   exact ⟨(cm cell)[(kAt cell).toNat],List.getElem_mem hl,(cJ (R6 hl)).2.2.2 rfl⟩
theorem wN {cell:Int} (h:0<=cell):0<=dP cell:=by unfold dP;omega
end BB
namespace L2
open PySem
theorem bh {t u:TS} {D:Ends} {σ:St} {H:Hp} (R:St->Hp->Prop) (h1:∀ k:St->Hp->Prop,(∀ f' H',R f' H'->k f' H')->t { D with nx:=k } σ H) (h2:∀ f' H',R f' H'->u D f' H'):wx t u D σ H:=h1 _ h2
theorem cB {c:TT} {t u:TS} {D:Ends} {σ:St} {H:Hp} (R:Bool->Hp->Prop) (h1:∀ k:Bool->Hp->Prop,(∀ b H',R b H'->k b H')->c σ H k) (h2:∀ H',R true H'->t D σ H') (h3:∀ H',R false H'->u D σ H'):zD c t u D σ H :=
 h1 _ fun b H' r=>by
  cases b with
  | true=>rw [if_pos rfl];exact h2 H' r
  | false=>rw [if_neg Sz];exact h3 H' r
end L2
namespace BB
open PySem L2
section
variable {ext:Th->List V} {H H':Hp} {t:Th} {a:Sa} {ts:List Th} {es:List Sa}
end
theorem filter_tt {α:Type} (xs:List α):xs.filter (fun _=>true)=xs:=by
 induction xs with
 | nil=>rfl
 | cons x xs ih=>rw [VS,if_pos rfl,ih]
theorem i5:∀ {ts:List Th} {t:Th},t∈ts->t.tall<=ba ts
 | u::ts,t,h=>by
   rw [ba];rcases Sn.mp h with rfl | h
   · omega
   · have:=i5 h;omega
theorem jC {xs:List V} {n:Nat} (h:n<=xs.length):cR xs (some (n:Int)) none=xs.drop n:=by
 unfold cR;rw [HT.sIx_nat,HT.sIx_none,Vi h];exact S7 (by rw [Tf];exact Sg _)
theorem take_snoc {α:Type} {xs:List α} {n:Nat} {x:α} (h:xs[n]?=some x):xs.take (n+1)=xs.take n++[x]:=by rw [Vp,h];rfl
theorem bH {xs:List Sa} {i:Nat} {x:V} (h:(xs.map V.ref)[i]?=some x):∃ a,x=.ref a/\xs[i]?=some a:=by
 rw [So] at h;obtain ⟨a,h1,h2⟩:=T6.mp h;exact ⟨a,h2.symm,h1⟩
end BB
namespace PySem
open Sem (wp)
section
variable {prog:SX} {w:Tq} {A:Tj} {E:Sb->Sf->Prop} {s:Sf}
theorem bb_tupNext {cur tp:Sa} {i:Nat} {items:Array Sb} {x:Sb} {Q:Sb->Sf->Prop} (g:s.heap.IsTupleIter cur tp i) (gt:s.heap.IsTuple tp items) (hx:items[i]?=some x)
 (fin:∀ h',h'.IsTupleIter cur tp (i+1)->Vc cur s.heap h'->Q x { s with heap:=h' }):SI (SY prog w) A (TU (.ref cur)) Q E s:=by
 obtain ⟨ob,e1,e2,e3⟩:=id g;obtain ⟨ot,e4,_,nt,e5⟩:=gt;unfold TU;refine R9 (U8 (name:=R4 "__next__") g.typeIs V3 (V7 V3 g.typeIs F.entry_tuple_iterator_next ?_ (F.args_tuple_iterator_next_1 _)));show SI _ _ (field (.ref cur) 0 >>= _) _ _ s;refine R9 (TH e1 e3 (x:=.ref tp) rfl ?_);show SI _ _ (if (Ue tp == Ux)=true then _ else _) _ _ s;rw [if_neg (show ¬ ((Ue tp == Ux)=true) from Sz)];show SI _ _ (field (.ref cur) 1 >>= _) _ _ s;refine R9 (TH e1 e3 (x:=.int i 0) rfl ?_);show SI _ _ (seqItems? (.ref tp) >>= _) _ _ s;refine R9 (Vk e4 e5 ?_);simp only [Uc,hx];refine R9 (XZ e1 e3 (by simp) (SA ⟨x,rfl,SA (fin _ ?_ (Heap.SameBut.update ..))⟩));exact ⟨_,XW _ e1 (Obj.isFreed_of_fields (W8 e3 _)),(Obj.cls_mapFields ..).trans e2,by rw [W8 e3];simp [WE]⟩
theorem bb_tupEnd {cur tp:Sa} {i:Nat} {items:Array Sb} {Q:Sb->Sf->Prop} (calm:A.handled=none) (g:s.heap.IsTupleIter cur tp i) (gt:s.heap.IsTuple tp items) (hx:items[i]?=none)
 (fin:∀ h' e,Heap.ExtBut cur s.heap h'->(∃ o,h'.get? e=some o/\o.cls=.type "StopIteration")->E (.ref e) { s with heap:=h' }):SI (SY prog w) A (TU (.ref cur)) Q E s:=by
 obtain ⟨ob,e1,e2,e3⟩:=id g;obtain ⟨ot,e4,_,nt,e5⟩:=gt;unfold TU;refine R9 (U8 (name:=R4 "__next__") g.typeIs V3 (V7 V3 g.typeIs F.entry_tuple_iterator_next ?_ (F.args_tuple_iterator_next_1 _)));show SI _ _ (field (.ref cur) 0 >>= _) _ _ s;refine R9 (TH e1 e3 (x:=.ref tp) rfl ?_);show SI _ _ (if (Ue tp == Ux)=true then _ else _) _ _ s;rw [if_neg (show ¬ ((Ue tp == Ux)=true) from Sz)];show SI _ _ (field (.ref cur) 1 >>= _) _ _ s;refine R9 (TH e1 e3 (x:=.int i 0) rfl ?_);show SI _ _ (seqItems? (.ref tp) >>= _) _ _ s;refine R9 (Vk e4 e5 ?_);simp only [Uc,hx];refine R9 (wpAny_rule (R9 (XZ e1 e3 (by simp) ?_)));show SI _ _ (newExc (.type "StopIteration") [] >>= _) _ _ _;refine R9 ?_;simp only [newExc,newTuple];refine R9 (Uh ?_ (by size_fits));refine R9 (m:=firstArgMember _ _) (wpAny_of_eq (a:=Ux) (by first | rfl | (simp only [firstArgMember];rfl)) ?_);refine Uh ?_ (by size_fits);simp only [raiseNew];refine R9 (wpAny_handled ?_)
 first | rw [show A.in1.handled=none from calm] | rw [calm]
 refine R9 (SA (wpAny_throw ?_));exact fin _ _ (((Heap.SameBut.update ..).extBut.push _).push _) ⟨_,Sx _ rfl,rfl⟩
end
section
variable {prog:SX} {w:Tq} {A:Tj} {E:Sb->Sf->Prop} {s:Sf}
end
end PySem
namespace L2
open PySem PySem.Spec PyProof.Rows
theorem Inv.turnedL {X:Cx} {pins:List (Sa×UU)} {σ:St} {H:Hp} {s:Sf} {h':T2} {t':Nat} {fp:List Sa} (I:Inv X pins σ H s) (k:∀ b o,b∉fp->s.heap.get? b=some o->h'.get? b=some o) (hf:∀ b∈fp,eV X pins H b) :
 Inv X pins σ H { s with heap:=h',toks:=t' }:=by
 have GH:∀ b u,H b=some u->b∉fp:=fun b u e z=>by rw [(hf b z).1] at e;cases e
 refine I.step (g':=s.gens) (d':=s.drawn) (ch:=fp) (fun b hb=>?_) (fun b o _ _ hc e _=>k b o hc e) (fun b o _ _ hc e _=>⟨o.slots,k b o hc e⟩) (fun _ _ _ _ n=>n)
  (fun b o hc e=>⟨o,k b o hc e⟩) (fun _ _ e=>e) (fun _ _ _ e=>e) (fun b ps e=>⟨#[],by rw [e];simp⟩) (fun m hm=>?_) (fun b u e=>?_) I.bare
 · obtain ⟨f0,f1,f2,f3,f4,f5⟩:=hf b hb;exact ⟨f3,f1,f4,f5⟩
 · obtain ⟨o,es,ep,ho,r⟩:=hm;exact ⟨o,es,ep,k _ o (fun z=>(hf _ z).2.1 rfl) ho,r⟩
 · refine (I.hok b u e).stay (fun c v hc q=>k c v ?_ q) (fun _ q=>q) fun _ _ q=>q;rcases hc with z | z
   · rw [z];exact GH b u e
   · exact GH c _ z
section
variable {X:Cx} {e:TV} {te:TE} {p2 BJ:Wq}
inductive uX (K:R8) (x:V) (y:V) (H:Hp) (Q:VK):Prop
 | mk (a:_) (b:_) (xs:_) (ys:_) (Au:x=.ref a) (Av:y=.ref b) (AF:SqT K H a xs) (AR:SqT K H b ys) (Bs:xs.length+ys.length<=SQ) (Ci:(xs=[]->Q (.ref b) H)) (Ea:(xs≠[]->ys=[]->Q (.ref a) H)) (Fj:(xs≠[]->ys≠[]->∀ p,H p=none->Q (.ref p) (upd H p (.tup (xs++ys))))):uX K x y H Q
def xy (K:R8):R2:=uX K
theorem ja:OpR X (V0 .Add) (xy X.K):=by
 intro pins s σ H x y v u Q I rx ry h;obtain ⟨a,b,xs,ys,e1,e2,ha,hb,hz,q0,q1,q2⟩:=h;by_cases hx:xs=[]
 · subst e1 e2;cases rx;cases ry;obtain ⟨its,r1,p1,_⟩:=I.tuple ha;obtain ⟨Ad,r2,p2,_⟩:=I.tuple hb;have hi:its=[]:=r1.nil_iff.mpr hx;obtain ⟨⟨cls,dd,data,sl⟩,ho,hc,n,hd⟩:=p1;obtain ⟨⟨GQ,F3,data2,F4⟩,Fc,DC,n2,hd2⟩:=p2;simp only at hc hd DC hd2;subst hc hd DC hd2;exact concat_meets ⟨_,ho,rfl⟩ ⟨_,Fc,rfl⟩ noFill_tuple_add seq_tuple_add Xc W6 (WZ _ _) (tuple_addW0 a b its.toArray Ad.toArray n n2 dd F3 sl F4 (by simp [hi])) ⟨ho,Fc,⟨.ref b,H,I,rfl,q0 hx⟩⟩
 · exact wQ pins s σ H x y v u Q I rx ry ⟨a,b,xs,ys,e1,e2,ha,hb,hx,hz,q1 hx,q2 hx⟩
end
end L2
namespace PySem
open Sem (wp)
abbrev tzH1 (h:T2) (l1:Sa):T2:=h.push { cls:=.type "tuple_iterator",data:=.fields #[.ref l1,.int 0 0] }
abbrev tzH2 (h:T2) (l1 l2:Sa):T2:=(tzH1 h l1).push { cls:=.type "tuple_iterator",data:=.fields #[.ref l2,.int 0 0] }
abbrev tzH3 (h:T2) (l1 l2:Sa):T2:=(tzH2 h l1 l2).push { cls:=.type "tuple",data:=.seq #[.ref h.objs.size,.ref (tzH1 h l1).objs.size] }
abbrev tzH4 (h:T2) (l1 l2:Sa):T2:=(tzH3 h l1 l2).push { cls:=.type "tuple",data:=.seq #[.none,.none] }
abbrev tzH5 (h:T2) (l1 l2:Sa):T2:=(tzH4 h l1 l2).push { cls:=.type "zip",data:=.fields #[.none,.bool false,.bool false,.ref (tzH2 h l1 l2).objs.size,.ref (tzH3 h l1 l2).objs.size] }
theorem IsTuple.push' {h:T2} {l:Sa} {xs:Array Sb} (x:h.IsTuple l xs) (o:UU):(h.push o).IsTuple l xs:=let ⟨ob,e,r⟩:=x;⟨ob,Se _ e,r⟩
theorem bb_meets_zip (l1 l2:Sa) (xs ys:Array Sb) :
 Meets (Builtin.«zip.__new__» ⟨[.type "zip",.ref l1,.ref l2],[]⟩) (fun _ R s=>s.heap.IsTuple l1 xs/\s.heap.IsTuple l2 ys ∧
  R (.ok (.ret (.ref (tzH4 s.heap l1 l2).objs.size))) { s with heap:=tzH5 s.heap l1 l2 }) :=
 .of_wp fun prog w A R s h=>by
  obtain ⟨hp,g,d,tk,os⟩:=s;obtain ⟨AX,AW,h⟩:=h;have B2:=sub_zip;have OP:Heap.IsTuple (Shared.heap ⟨hp,g,d,tk,os⟩) l1 xs:=AX;have EI:Heap.IsTuple (Shared.heap ⟨hp.push { cls:=.type "tuple_iterator",data:=.fields #[.ref l1,.int 0 0] },g,d,tk,os⟩) l2 ys:=IsTuple.push' AW _
  wp_walk using W5 OP,W5 EI
  exact ⟨_,rfl,h⟩
section
variable {prog:SX} {w:Tq} {A:Tj} {E:Sb->Sf->Prop} {s:Sf}
theorem bb_call_zip {l1 l2:Sa} {xs ys:Array Sb} {Q:Sb->Sf->Prop} (AX:s.heap.IsTuple l1 xs) (AW:s.heap.IsTuple l2 ys)
 (h:∀ h',XA h' (s.heap.objs.size+4) (s.heap.objs.size+2) (s.heap.objs.size+3) .none->VH h' (s.heap.objs.size+2) (.ref s.heap.objs.size) (.ref (s.heap.objs.size+1)) →
  VH h' (s.heap.objs.size+3) .none .none->h'.IsTupleIter s.heap.objs.size l1 0->h'.IsTupleIter (s.heap.objs.size+1) l2 0->h'.objs.size=s.heap.objs.size+5 →
  (∀ c o,s.heap.get? c=some o->h'.get? c=some o)->Q (.ref (s.heap.objs.size+4)) { s with heap:=h' }) :
 SI (SY prog w) A (call (.type "zip") [.ref l1,.ref l2]) Q E s:=by
 refine callType_new F.called_zip (by decide) (F.typeCall_zip_2 _ _) (F.newCall_zip_2 _ _) (fun obj=>F.args_object_init_3 obj _ _) F.entry_zip_new
  (bb_meets_zip l1 l2 xs ys) ⟨AX,AW,?_⟩
 have z1:(tzH1 s.heap l1).objs.size=s.heap.objs.size+1:=UG ..;have z2:(tzH2 s.heap l1 l2).objs.size=s.heap.objs.size+2:=by rw [UG,z1]
 have z3:(tzH3 s.heap l1 l2).objs.size=s.heap.objs.size+3:=by rw [UG,z2]
 have z4:(tzH4 s.heap l1 l2).objs.size=s.heap.objs.size+4:=by rw [UG,z3]
 have z5:(tzH5 s.heap l1 l2).objs.size=s.heap.objs.size+5:=by rw [UG,z4]
 have g5:(tzH5 s.heap l1 l2).get? (tzH4 s.heap l1 l2).objs.size=some _:=Sx _ rfl;have g4:(tzH5 s.heap l1 l2).get? (tzH3 s.heap l1 l2).objs.size=some _:=Se _ (Sx _ rfl);have g3:(tzH5 s.heap l1 l2).get? (tzH2 s.heap l1 l2).objs.size=some _:=Se _ (Se _ (Sx _ rfl));have g2:(tzH5 s.heap l1 l2).get? (tzH1 s.heap l1).objs.size=some _:=Se _ (Se _ (Se _ (Sx _ rfl)));have g1:(tzH5 s.heap l1 l2).get? s.heap.objs.size=some _:=Se _ (Se _ (Se _ (Se _ (Sx _ rfl))));show _/\_;rw [z2,z3,z4] at g5;rw [z1,z2] at g3;rw [z3] at g4;rw [z1] at g2;rw [z4]
 exact ⟨⟨_,g5,rfl⟩,h _ g5 g3 g4 ⟨_,g1,rfl,rfl⟩ ⟨_,g2,rfl,rfl⟩ z5 fun c o x =>
  Se _ (Se _ (Se _ (Se _ (Se _ x))))⟩
structure ZSt (xs ys:Array Sb) (z TI TO i1 i2 l1 l2:Sa) (k:Nat) (h:T2):Prop where
 ap:ZipApart z TI TO i1 i2 l1 l2
 zip:XA h z TI TO .none∨∃ (T:Sa) (b:Bool) (x y:Sb),h.get? z=some { cls:=.type "zip",data:=.fields #[WE T,.bool b,.bool false,.ref TI,.ref TO] }/\VH h T x y/\T≠TO
 hTI:VH h TI (.ref i1) (.ref i2)
 hTO:∃ a b,VH h TO a b
 h1:h.IsTupleIter i1 l1 k
 h2:h.IsTupleIter i2 l2 k
 t1:h.IsTuple l1 xs
 t2:h.IsTuple l2 ys
theorem ZSt.typeIs {xs ys:Array Sb} {z TI TO i1 i2 l1 l2:Sa} {k:Nat} (x:ZSt xs ys z TI TO i1 i2 l1 l2 k s.heap):s.TypeIs (.ref z) "zip":=by
 rcases x.zip with e | ⟨T,b,u,v,e,_⟩
 · exact ⟨_,e,rfl⟩
 · exact ⟨_,e,rfl⟩
theorem IsTuple.but {h h':T2} {c l:Sa} {xs:Array Sb} (x:h.IsTuple l xs) (e:Heap.ExtBut c h h') (n:l≠c):h'.IsTuple l xs:=let ⟨ob,q,r⟩:=x;⟨ob,e _ _ n q,r⟩
theorem IsTupleIter.but {h h':T2} {c i l:Sa} {k:Nat} (x:h.IsTupleIter i l k) (e:Heap.ExtBut c h h') (n:i≠c):h'.IsTupleIter i l k:=let ⟨ob,q,r⟩:=x;⟨ob,e _ _ n q,r⟩
end
end PySem
namespace PySem
open Sem (wp)
section
variable {prog:SX} {w:Tq} {A:Tj} {E:Sb->Sf->Prop} {s:Sf}
theorem bb_zip_itemA {z TI TO i1 i2 l1 l2:Sa} {k:Nat} {xs ys:Array Sb} {x y a b:Sb} {Q:Sb->Sf->Prop} (D:ZipApart z TI TO i1 i2 l1 l2)
 (hz:XA s.heap z TI TO .none) (hTI:VH s.heap TI (.ref i1) (.ref i2)) (hTO:VH s.heap TO a b)
 (h1:s.heap.IsTupleIter i1 l1 k) (h2:s.heap.IsTupleIter i2 l2 k) (AX:s.heap.IsTuple l1 xs) (AW:s.heap.IsTuple l2 ys) (hx:xs[k]?=some x) (hy:ys[k]?=some y)
 (hQ:∀ h',XA h' z TI TO (WE s.heap.objs.size)->VH h' TO x y->h'.IsTupleIter i1 l1 (k+1)->h'.IsTupleIter i2 l2 (k+1)->VH h' s.heap.objs.size x y->h'.objs.size=s.heap.objs.size+1 →
  (∀ c o,c≠z->c≠TO->c≠i1->c≠i2->s.heap.get? c=some o->h'.get? c=some o)->Q (.ref s.heap.objs.size) { s with heap:=h' }) :
 SI (SY prog w) A (Builtin.«zip.__next__» ⟨[.ref z],[]⟩) (fun fin s'=>∃ v,fin=.done (.ret v)/\Q v s') E s:=by
 show SI _ _ (field (.ref z) 2 >>= _) _ _ _;refine R9 (TH hz rfl (x:=.bool false) rfl ?_);show SI _ _ (field (.ref z) 3 >>= _) _ _ _;refine R9 (TH hz rfl (x:=.ref TI) rfl ?_);refine R9 (Vk hTI rfl ?_);show SI _ _ (T1 (.ref z) >>= _) _ _ _;refine R9 ?_;unfold T1;refine R9 (TH hz rfl (x:=.none) rfl (SA ?_));simp only [if_true];refine R9 (wpAny_rule ?_);refine R9 (TH hz rfl (x:=.ref TO) rfl ?_);refine R9 (Vj hz (by simp) fun Al A' Ag=>?_);replace A':XA Al z TI TO .ellipsis:=A';refine R9 ?_;simp only [List.zipIdx_cons,List.zipIdx_nil,UQ,List.forIn_nil];refine R9 (R9 (wpAny_onRaise ?_));show SI _ _ (TU (.ref i1) >>= _) _ _ _;refine R9 (bb_tupNext (IsTupleIter.but h1 Ag.extBut D.i1z) (IsTuple.but AX Ag.extBut D.l1z) hx fun Bz DI Ao=>SA ?_);have BK:VH Bz TO a b:=Ao.extBut _ _ D.TOi1 (Ag.extBut _ _ D.TOz hTO);refine R9 (Vk BK rfl ?_);refine R9 (XY BK fun Ck B3 AN=>?_);replace B3:VH Ck TO x b:=B3;refine R9 (wpAny_letGo (SA ?_));refine R9 (R9 (wpAny_onRaise ?_));show SI _ _ (TU (.ref i2) >>= _) _ _ _
 refine R9 (bb_tupNext (IsTupleIter.but (IsTupleIter.but (IsTupleIter.but h2 Ag.extBut D.i2z) Ao.extBut D.i12.symm) AN.extBut D.TOi2.symm)
  (IsTuple.but (IsTuple.but (IsTuple.but AW Ag.extBut D.l2z) Ao.extBut D.l2i1) AN.extBut D.l2TO) hy fun A9 G5 Bd=>SA ?_)
 have DJ:VH A9 TO x b:=Bd.extBut _ _ D.TOi2 B3;refine R9 (Vk DJ rfl ?_);refine R9 (XY DJ fun AO B4 Bt=>?_);replace B4:VH AO TO x y:=B4;refine R9 (wpAny_letGo (SA (SA ?_)));refine R9 (Vk B4 rfl ?_);refine R9 (wpAny_newTuple ?_);have Az:AO.objs.size=s.heap.objs.size:=by rw [Bt.1,Bd.1,AN.1,Ao.1,Ag.1]
 have EJ:XA AO z TI TO .ellipsis:=Bt.extBut _ _ D.TOz.symm (Bd.extBut _ _ D.i2z.symm (AN.extBut _ _ D.TOz.symm (Ao.extBut _ _ D.i1z.symm A')))
 have G6:∀ c o,c≠z->c≠TO->c≠i1->c≠i2->s.heap.get? c=some o->AO.get? c=some o:=fun c o c1 c2 c3 c4 e =>
  Bt.extBut _ _ c2 (Bd.extBut _ _ c4 (AN.extBut _ _ c2 (Ao.extBut _ _ c3 (Ag.extBut _ _ c1 e))))
 have G7:AO.IsTupleIter i1 l1 (k+1):=IsTupleIter.but (IsTupleIter.but (IsTupleIter.but DI AN.extBut D.TOi1.symm) Bd.extBut D.i12) Bt.extBut D.TOi1.symm;have G8:AO.IsTupleIter i2 l2 (k+1):=IsTupleIter.but G5 Bt.extBut D.TOi2.symm;have G9:z<AO.objs.size:=SD EJ;show SI _ _ (Builtin.SmallTypes.ownedTupleHandOut (.ref z) (.ref AO.objs.size) >>= _) _ _ _;refine R9 ?_;unfold Builtin.SmallTypes.ownedTupleHandOut;have G':XA (AO.push { cls:=.type "tuple",data:=.seq #[x,y] }) z TI TO .ellipsis:=Se _ EJ;refine R9 (Vj G' (by simp) fun Kk DK DL=>?_);replace DK:XA Kk z TI TO (WE AO.objs.size):=DK;refine Vj DK (by simp) fun DM CU DN=>?_;replace CU:XA DM z TI TO (WE AO.objs.size):=CU;have up:∀ c o,c≠z->AO.get? c=some o->DM.get? c=some o:=fun c o c1 e=>DN.extBut _ _ c1 (DL.extBut _ _ c1 (Se _ e));have EK:VH DM AO.objs.size x y:=DN.extBut _ _ (UW G9) (DL.extBut _ _ (UW G9) (Sx _ rfl));have MK:DM.objs.size=AO.objs.size+1:=by rw [DN.1,DL.1,UG]
 rw [Az] at CU EK MK;refine SA ⟨_,rfl,?_⟩;show Q (.ref AO.objs.size) _;rw [Az];refine hQ DM CU (up _ _ D.TOz B4) ?_ ?_ EK MK fun c o c1 c2 c3 c4 e=>up c o c1 (G6 c o c1 c2 c3 c4 e)
 · obtain ⟨o,e,r⟩:=G7;exact ⟨o,up _ o D.i1z e,r⟩
 · obtain ⟨o,e,r⟩:=G8;exact ⟨o,up _ o D.i2z e,r⟩
theorem bb_loadIfAlive {a:Sa} {o:UU} {Q:Option UU->Sf->Prop} (hQ:∀ u,some o=some u->Q (some u) s) (h:s.heap.get? a=some o):SI (SY prog w) A (loadIfAlive a) Q E s:=by
 intro Γ p Rv;show Sem.wp _ _ (.loadIfAlive a .pure) _ _ _ _;rw [Sem.wp_loadIfAlive,h];exact hQ o rfl
theorem bb_notfree {z T:Sa} {b:Bool} {f2 TI TO u v:Sb} (hz:s.heap.get? z=some { cls:=.type "zip",data:=.fields #[WE T,.bool b,f2,TI,TO] }) (hT:VH s.heap T u v) :
 SI (SY prog w) A (T1 (.ref z)) (fun a s1=>a=false/\∃ Al,s1={ s with heap:=Al }/\Al.get? z=some { cls:=.type "zip",data:=.fields #[WE T,.bool true,f2,TI,TO] }/\Vc z s.heap Al) E s:=by
 unfold T1;refine R9 (TH hz rfl (x:=WE T) rfl ?_);show SI _ _ (loadIfAlive (T:Int).toNat >>= _) _ _ _;rw [Uc];refine R9 (bb_loadIfAlive (fun o (e:some _=some o)=>?_) hT);cases e;show SI _ _ (if (some _:Option UU).isNone=true then _ else _) _ _ _;rw [if_neg (show ¬ ((some _:Option UU).isNone=true) from Sz)];refine R9 (TH hz rfl (x:=.bool b) rfl ?_);cases b with
 | true=>exact SA ⟨rfl,s.heap,rfl,hz,rfl,fun _ _=>rfl⟩
 | false=>exact R9 (Vj hz (by simp) fun Al A' Ag=>SA ⟨rfl,Al,rfl,A',Ag⟩)
theorem bb_zip_end {z TI TO i1 i2 l1 l2:Sa} {k:Nat} {xs ys:Array Sb} {Q:Fin->Sf->Prop} (hh:A.handled=none)
 (S:ZSt xs ys z TI TO i1 i2 l1 l2 k s.heap) (C8:xs[k]?=none∨ys[k]?=none)
 (hE:∀ h' e,(∀ c o,c≠z->c≠TO->c≠i1->c≠i2->s.heap.get? c=some o->h'.get? c=some o)->(∃ o,h'.get? e=some o/\o.cls=.type "StopIteration")->E (.ref e) { s with heap:=h' }) :
 SI (SY prog w) A (Builtin.«zip.__next__» ⟨[.ref z],[]⟩) Q E s:=by
 obtain ⟨D,hz,hTI,⟨a,b,hTO⟩,h1,h2,AX,AW⟩:=S;rcases hz with hz | ⟨T,bb,u,v,hz,hT,Rw⟩
 · show SI _ _ (field (.ref z) 2 >>= _) _ _ _;refine R9 (TH hz rfl (x:=.bool false) rfl ?_);show SI _ _ (field (.ref z) 3 >>= _) _ _ _;refine R9 (TH hz rfl (x:=.ref TI) rfl ?_);refine R9 (Vk hTI rfl ?_);show SI _ _ (T1 (.ref z) >>= _) _ _ _;refine R9 ?_;unfold T1;refine R9 (TH hz rfl (x:=.none) rfl (SA ?_));simp only [if_true];refine R9 (wpAny_rule ?_);refine R9 (TH hz rfl (x:=.ref TO) rfl ?_);refine R9 (Vj hz (by simp) fun Al A' Ag=>?_);replace A':XA Al z TI TO .ellipsis:=A';refine R9 ?_;simp only [List.zipIdx_cons,List.zipIdx_nil,UQ,List.forIn_nil];refine R9 (R9 (wpAny_onRaise ?_));show SI _ _ (TU (.ref i1) >>= _) _ _ _;cases hx:xs[k]? with
   | none =>
     refine R9 (bb_tupEnd hh (IsTupleIter.but h1 Ag.extBut D.i1z) (IsTuple.but AX Ag.extBut D.l1z) hx fun Bz e Ao he=>?_);obtain ⟨oe,Eb,Ha⟩:=he;have EL:XA Bz z TI TO .ellipsis:=Ao _ _ D.i1z.symm A';have Kl:e≠z:=fun x=>by subst x;rw [EL] at Eb;cases Eb;simp at Ha
     refine Vj EL (by simp) fun Ck _ AN=>hE Ck e (fun c o c1 _ c3 _ x=>AN.extBut _ _ c1 (Ao _ _ c3 (Ag.extBut _ _ c1 x))) ⟨oe,AN.extBut _ _ Kl Eb,Ha⟩
   | some x =>
     have hy:ys[k]?=none:=by rcases C8 with h | h;rw [hx] at h;cases h;exact h
     refine R9 (bb_tupNext (IsTupleIter.but h1 Ag.extBut D.i1z) (IsTuple.but AX Ag.extBut D.l1z) hx fun Bz DI Ao=>SA ?_);have BK:VH Bz TO a b:=Ao.extBut _ _ D.TOi1 (Ag.extBut _ _ D.TOz hTO);refine R9 (Vk BK rfl ?_);refine R9 (XY BK fun Ck B3 AN=>?_);refine R9 (wpAny_letGo (SA ?_));refine R9 (R9 (wpAny_onRaise ?_));show SI _ _ (TU (.ref i2) >>= _) _ _ _
     refine R9 (bb_tupEnd hh (IsTupleIter.but (IsTupleIter.but (IsTupleIter.but h2 Ag.extBut D.i2z) Ao.extBut D.i12.symm) AN.extBut D.TOi2.symm)
      (IsTuple.but (IsTuple.but (IsTuple.but AW Ag.extBut D.l2z) Ao.extBut D.l2i1) AN.extBut D.l2TO) hy fun A9 e Bd he=>?_)
     obtain ⟨oe,Eb,Ha⟩:=he;have EM:XA A9 z TI TO .ellipsis:=Bd _ _ D.i2z.symm (AN.extBut _ _ D.TOz.symm (Ao.extBut _ _ D.i1z.symm A'));have Kl:e≠z:=fun x=>by subst x;rw [EM] at Eb;cases Eb;simp at Ha
     refine Vj EM (by simp) fun AO _ Bt=>hE AO e (fun c o c1 c2 c3 c4 x=>Bt.extBut _ _ c1 (Bd _ _ c4 (AN.extBut _ _ c2 (Ao.extBut _ _ c3 (Ag.extBut _ _ c1 x))))) ⟨oe,Bt.extBut _ _ Kl Eb,Ha⟩
 · show SI _ _ (field (.ref z) 2 >>= _) _ _ _;refine R9 (TH hz rfl (x:=.bool false) rfl ?_);show SI _ _ (field (.ref z) 3 >>= _) _ _ _;refine R9 (TH hz rfl (x:=.ref TI) rfl ?_);refine R9 (Vk hTI rfl ?_);show SI _ _ (T1 (.ref z) >>= _) _ _ _;refine R9 (T4 (bb_notfree hz hT) (fun a s1 ⟨e1,Al,e2,A',Ag⟩=>?_) fun _ _ x=>x);subst e1 e2;simp only [Bool.false_eq_true,if_false];rw [<- Array.forIn_toList];refine R9 ?_;simp only [UQ,List.forIn_nil];refine R9 (R9 (Ve ?_));show SI _ _ (TU (.ref i1) >>= _) _ _ _;cases hx:xs[k]? with
   | none =>
     refine R9 (bb_tupEnd hh (IsTupleIter.but h1 Ag.extBut D.i1z) (IsTuple.but AX Ag.extBut D.l1z) hx fun Bz e Ao he=>?_);exact hE Bz e (fun c o c1 _ c3 _ x=>Ao _ _ c3 (Ag.extBut _ _ c1 x)) he
   | some x =>
     have hy:ys[k]?=none:=by rcases C8 with h | h;rw [hx] at h;cases h;exact h
     refine R9 (bb_tupNext (IsTupleIter.but h1 Ag.extBut D.i1z) (IsTuple.but AX Ag.extBut D.l1z) hx fun Bz DI Ao=>SA (SA ?_));refine R9 (R9 (Ve ?_));show SI _ _ (TU (.ref i2) >>= _) _ _ _;refine R9 (bb_tupEnd hh (IsTupleIter.but (IsTupleIter.but h2 Ag.extBut D.i2z) Ao.extBut D.i12.symm) (IsTuple.but (IsTuple.but AW Ag.extBut D.l2z) Ao.extBut D.l2i1) hy fun A9 e Bd he=>?_);exact hE A9 e (fun c o c1 _ c3 c4 x=>Bd _ _ c4 (Ao.extBut _ _ c3 (Ag.extBut _ _ c1 x))) he
theorem bb_zip_done {z TI TO i1 i2 l1 l2:Sa} {k:Nat} {xs ys:Array Sb} {Q:Option Sb->Sf->Prop} (hh:A.handled=none) (S:ZSt xs ys z TI TO i1 i2 l1 l2 k s.heap) (C8:xs[k]?=none∨ys[k]?=none)
 (hQ:∀ h',(∀ c o,c∉[z,TO,i1,i2]->s.heap.get? c=some o->h'.get? c=some o)->Q none { s with heap:=h' }):SI (SY prog w) A (X1 (.ref z)) Q E s:=by
 have hT:=S.typeIs;unfold X1
 refine R9 (wpAny_attempt (U8 (name:=R4 "__next__") hT XR
  (V7 XR hT F.entry_zip_next (bb_zip_end hh S C8 fun h' e hk he=>?_) (F.args_zip_next_1 _))))
 obtain ⟨o,ho,hc⟩:=he;refine R9 (wpAny_isInstance (T:="StopIteration") (b:=true) ⟨o,ho,hc⟩ isSubtype_stop ?_);exact SA (hQ _ fun c o hc=>hk c o (fun q=>hc (by simp [q])) (fun q=>hc (by simp [q])) (fun q=>hc (by simp [q])) (fun q=>hc (by simp [q])))
end
end PySem
namespace PySem
open Sem (wp)
namespace F
end F
section
variable {prog:SX} {w:Tq} {A:Tj} {R:Result->Sf->Prop}
end
section
variable {prog:SX} {w:Tq} {A:Tj} {E:Sb->Sf->Prop} {s:Sf}
end
end PySem
namespace L2
open PySem PySem.Spec PyProof.Rows
section
variable {X:Cx} {e1 e2:TV} {t:TA} {p p2 pos BJ:Wq}
end
end L2
namespace L2
open PySem PySem.Spec PyProof.Rows
section
variable {κ:Type} [DecidableEq κ]
end
section
variable {P:SX} {w:Tq} {H:Hp} {h:T2} {a:Sa}
end
section
variable {X:Cx} {pins:List (Sa×UU)} {σ:St} {H:Hp} {s:Sf} {a:Sa} {y v:V} {u r:Sb} {o:Option V} {A:Tj} {E:Sb->Sf->Prop}
end
section
variable {X:Cx} {pins:List (Sa×UU)} {σ:St} {H:Hp} {s:Sf} {a:Sa} {AQ:List (Key×V)} {k:Key} {u:Sb} {A:Tj} {E:Sb->Sf->Prop}
end
section
variable {X:Cx} {o i e value:TV} {pos pos' En:Wq} {td ty tv:TE}
end
section
variable {X:Cx} {pos:Wq}
end
section
variable {X:Cx} {pins:List (Sa×UU)} {σ:St} {H:Hp} {s:Sf} {a:Sa} {y d:V} {u r:Sb} {o:Option V} {A:Tj} {E:Sb->Sf->Prop}
end
section
variable {X:Cx} {o e f:TV} {apos AZ:Wq} {td ty tx:TE}
end
section
variable {X:Cx} {pins:List (Sa×UU)} {σ:St} {H:Hp} {s:Sf} {a:Sa} {AQ:List (Key×V)} {A:Tj} {E:Sb->Sf->Prop}
end
section
variable {X:Cx} {pins:List (Sa×UU)} {σ:St} {H:Hp} {s:Sf} {a:Sa} {y:V} {u:Sb} {A:Tj} {E:Sb->Sf->Prop}
end
end L2
namespace L2
open PySem PySem.Spec PyProof.Rows
inductive xh (K:R8) (T:String) (xs:List V) (H:Hp) (Q:VK):Prop
 | mk (x:_) (b:_) (t:_) (Au:xs=[x,.ty T]) (Av:i3 K H x t) (AF:Vz K t (.type T)=some b) (AR:Q (.bl b) H):xh K T xs H Q
def zQ (K:R8) (T:String):List V->Hp->VK->Prop:=xh K T
theorem cO {X:Cx} {T:String}:e9 X (.builtin "isinstance") (zQ X.K T):=by
 intro pins s σ H xs us Q I r h;obtain ⟨x,b,t,e,ty,k,q⟩:=h;exact uz (T:=T) (b:=b) (t:=t) pins s σ H xs us Q I r ⟨x,e,ty,k,q⟩
variable {K:R8}
theorem jy:Vz K (.type "tuple") (.type "tuple")=some true:=rfl
theorem yx:Vz K (.type "str") (.type "str")=some true:=rfl
theorem yw:Vz K (.type "int") (.type "int")=some true:=rfl
theorem rE:Vz K (.type "str") (.type "tuple")=some false:=by with_unfolding_all rfl
theorem x6:Vz K (.type "int") (.type "bool")=some false:=by with_unfolding_all rfl
end L2
namespace BB
open PySem L2
set_option genInjectivity true in
inductive Dv where
 | int (i:Int)
 | str (x:Ss)
 | tup (ds:List Dv)
mutual
def Dv.deep:Dv->Nat
 | .int _=>0
 | .str _=>0
 | .tup ds=>eF ds+1
def eF:List Dv->Nat
 | []=>0
 | d::ds=>max d.deep (eF ds)
end
mutual
def Dv.tot:Dv->Nat
 | .int _=>1
 | .str _=>1
 | .tup ds=>wY ds+1
def wY:List Dv->Nat
 | []=>0
 | d::ds=>d.tot+wY ds
end
mutual
def DAt (H:Hp):Dv->V->Prop
 | .int i,v=>v=.int i
 | .str x,v=>v=.str x
 | .tup ds,v=>∃ a vs,v=.ref a/\H a=some (.tup vs)/\DAts H ds vs
def DAts (H:Hp):List Dv->List V->Prop
 | [],vs=>vs=[]
 | d::ds,vs=>∃ v r,vs=v::r/\DAt H d v/\DAts H ds r
end
theorem DAts.nil {H:Hp}:DAts H [] []:=by rw [DAts]
theorem DAts.cons {H:Hp} {d:Dv} {ds:List Dv} {v:V} {vs:List V} (h1:DAt H d v) (h2:DAts H ds vs):DAts H (d::ds) (v::vs):=by rw [DAts];exact ⟨v,vs,rfl,h1,h2⟩
theorem DAts.length {H:Hp}:∀ {ds:List Dv} {vs:List V},DAts H ds vs->vs.length=ds.length
 | [],vs,h=>by rw [DAts] at h;subst h;rfl
 | d::ds,vs,h=>by
   rw [DAts] at h;obtain ⟨v,r,rfl,h1,h2⟩:=h;rw [R7,R7,h2.length]
theorem DAts.at {H:Hp}:∀ {ds:List Dv} {vs:List V} {i:Nat} {d:Dv},DAts H ds vs->ds[i]?=some d->∃ v,vs[i]?=some v/\DAt H d v
 | [],vs,i,d,h,e=>by simp at e
 | d0::ds,vs,i,d,h,e=>by
   rw [DAts] at h;obtain ⟨v,r,rfl,h1,h2⟩:=h;cases i with
   | zero=>simp at e;subst e;exact ⟨v,rfl,h1⟩
   | succ i =>
     obtain ⟨u,g1,g2⟩:=h2.at (i:=i) (by simpa using e);exact ⟨u,by simpa using g1,g2⟩
theorem iW:∀ {ds:List Dv} {i:Nat} {d:Dv},ds[i]?=some d->d.deep<=eF ds
 | [],i,d,e=>by simp at e
 | d0::ds,i,d,e=>by
   rw [eF];cases i with
   | zero=>simp at e;subst e;omega
   | succ i =>
     have:=iW (ds:=ds) (i:=i) (by simpa using e);omega
theorem tE:∀ {ds:List Dv} {i:Nat} {d:Dv},ds[i]?=some d->d.tot<=wY ds
 | [],i,d,e=>by simp at e
 | d0::ds,i,d,e=>by
   rw [wY];cases i with
   | zero=>simp at e;subst e;omega
   | succ i =>
     have:=tE (ds:=ds) (i:=i) (by simpa using e);omega
theorem Dv.tot_pos (d:Dv):1<=d.tot:=by
 cases d with
 | int i=>rw [Dv.tot];omega
 | str x=>rw [Dv.tot];omega
 | tup ds=>rw [Dv.tot];omega
theorem vz {K:R8} {H:Hp} {a b:Sa} {xs ys:List V} {Q:VK} (ha:H a=some (.tup xs)) (hb:H b=some (.tup ys)) (hz:xs.length+ys.length<=1000000) (q:∀ p H',L2.Same H H'->H' p=some (.tup (xs++ys))->Q (.ref p) H'):xy K (.ref a) (.ref b) H Q:=by
 refine ⟨a,b,xs,ys,rfl,rfl,SqT.of ha,SqT.of hb,am hz,fun e=>?_,fun _ e=>?_,fun _ _ p hp=>?_⟩
 · exact q b H (.refl _) (by rw [e];exact hb)
 · exact q a H (.refl _) (by rw [e,SM];exact ha)
 · exact q p _ (ai hp _) ae
theorem P2.reverse {α β:Type} {F:α->β->Prop}:∀ {a:List α} {b:List β},To F a b->To F a.reverse b.reverse
 | _,_,.nil=>.nil
 | _,_,.cons r t=>by
   rw [Ub,Ub];exact P2.append (P2.reverse t) (.cons r .nil)
theorem P2.snoc_inv {α β:Type} {F:α->β->Prop} {a:List α} {b:List β} {y:β} (h:To F a (b++[y])):∃ us x,a=us++[x]/\To F us b/\F x y:=by
 have r:=P2.reverse h;rw [WD,List.reverse_singleton,List.singleton_append] at r;cases e:a.reverse with
 | nil=>rw [e] at r;cases r
 | cons x us =>
   rw [e] at r;cases r with
   | cons h1 h2 =>
     refine ⟨us.reverse,x,?_,?_,h1⟩
     · rw [<- Ub,<- e,VO]
     · have:=P2.reverse h2;rw [VO] at this;exact this
theorem nU:∀ {ts:List Th} {t:Th},t∈ts->t.size<=aE ts
 | u::ts,t,h=>by
   rw [aE];rcases Sn.mp h with rfl | h
   · omega
   · have:=nU h;omega
end BB
namespace BB
open PySem L2
mutual
def Th.kn:Th->Nat
 | .knot _ ks=>kns ks+1
 | .call _ _=>0
def kns:List Th->Nat
 | []=>0
 | t::ts=>t.kn+kns ts
end
mutual
def Th.FitP (ks:List (Ss×Int)):Th->Prop
 | .knot n ts=>(n,(ts.length:Int))∈ks/\mW ks ts
 | .call s k=>0<=s/\s<20/\0<=k/\k<3
def mW (ks:List (Ss×Int)):List Th->Prop
 | []=>True
 | t::ts=>t.FitP ks/\mW ks ts
end
section
variable {ext:Th->List V} {H H':Hp} {t:Th} {a:Sa} {ts:List Th} {es:List Sa}
end
def Th.isCall:Th->Bool
 | .knot _ _=>false
 | .call _ _=>true
end BB
namespace BB
open PySem PySem.Spec PyProof.Rows L2
mutual
theorem DAt.inj {H:Hp}:∀ {d e:Dv} {v:V},DAt H d v->DAt H e v->d=e
 | .int i,.int j,v,h,g=>by rw [DAt] at h;rw [DAt] at g;rw [h] at g;cases g;rfl
 | .int i,.str y,v,h,g=>by rw [DAt] at h;rw [DAt] at g;rw [h] at g;cases g
 | .int i,.tup es,v,h,g=>by rw [DAt] at h;rw [DAt] at g;obtain ⟨a,vs,e,_⟩:=g;rw [h] at e;cases e
 | .str x,.int j,v,h,g=>by rw [DAt] at h;rw [DAt] at g;rw [h] at g;cases g
 | .str x,.str y,v,h,g=>by rw [DAt] at h;rw [DAt] at g;rw [h] at g;cases g;rfl
 | .str x,.tup es,v,h,g=>by rw [DAt] at h;rw [DAt] at g;obtain ⟨a,vs,e,_⟩:=g;rw [h] at e;cases e
 | .tup ds,.int j,v,h,g=>by rw [DAt] at h;rw [DAt] at g;obtain ⟨a,vs,e,_⟩:=h;rw [e] at g;cases g
 | .tup ds,.str y,v,h,g=>by rw [DAt] at h;rw [DAt] at g;obtain ⟨a,vs,e,_⟩:=h;rw [e] at g;cases g
 | .tup ds,.tup es,v,h,g=>by
   rw [DAt] at h;rw [DAt] at g;obtain ⟨a,vs,e1,h1,h2⟩:=h;obtain ⟨b,ws,e2,g1,g2⟩:=g;rw [e1] at e2;cases e2;rw [h1] at g1;cases g1;rw [DAts.inj h2 g2]
theorem DAts.inj {H:Hp}:∀ {ds es:List Dv} {vs:List V},DAts H ds vs->DAts H es vs->ds=es
 | [],[],vs,h,g=>rfl
 | [],e::es,vs,h,g=>by rw [DAts] at h;rw [DAts] at g;obtain ⟨v,r,z,_⟩:=g;rw [h] at z;cases z
 | d::ds,[],vs,h,g=>by rw [DAts] at h;rw [DAts] at g;obtain ⟨v,r,z,_⟩:=h;rw [g] at z;cases z
 | d::ds,e::es,vs,h,g=>by
   rw [DAts] at h;rw [DAts] at g;obtain ⟨v,r,z,h1,h2⟩:=h;obtain ⟨v',r',z',g1,g2⟩:=g;rw [z] at z';cases z';rw [DAt.inj h1 g1,DAts.inj h2 g2]
end
end BB
namespace L2
open PySem PySem.Spec PySem.SeqAt PyProof.Rows BB
open Classical in
theorem vj {X:Cx} {pins:List (Sa×UU)} {σ:St} {H:Hp} {s:Sf} (I:Inv X pins σ H s) {ds es:List Dv} {a b:Sa} {vs ws:List V} {A:Tj} (ha:SqT X.K H a vs) (hb:SqT X.K H b ws) (Ec:DAts H ds vs) (AH:DAts H es ws) (hu:A.units<WC)
 (ih:∀ (j:Nat) (d e:Dv) (x y:V) (u v:Sb),ds[j]?=some d->DAt H d x->DAt H e y->RelV x u->RelV y v->EqAt A.in1 s u v (decide (d=e))):RcAt A s (.ref a) (.ref b) (decide (Dv.tup ds=Dv.tup es)):=by
 obtain ⟨its,r1,p1,_⟩:=I.tuple ha;obtain ⟨Ad,r2,p2,_⟩:=I.tuple hb;have l1:its.length=ds.length:=by rw [<- r1.length,Ec.length]
 have l2:Ad.length=es.length:=by rw [<- r2.length,AH.length]
 have Km:RcAt A s (.ref a) (.ref b) ((Tw (min its.toArray.size Ad.toArray.size)).all (fun j=>decide (ds[j]?=es[j]?)) && its.toArray.size == Ad.toArray.size):=by
  refine RcAt.tuples (show s.heap.IsTuple a its.toArray from p1) (show s.heap.IsTuple b Ad.toArray from p2) hu fun j h1 h2=>?_;have Bu:j<ds.length:=by rw [<- l1];simpa using h1
  have BD:j<es.length:=by rw [<- l2];simpa using h2
  have e1:ds[j]?=some ds[j]:=R6 Bu;have e2:es[j]?=some es[j]:=R6 BD;obtain ⟨x',B1,dx⟩:=Ec.at e1;obtain ⟨y',Dn,dy⟩:=AH.at e2;obtain ⟨u',CF,Ew⟩:=r1.get B1;obtain ⟨v',Bq,C9⟩:=r2.get Dn;have e3:decide (ds[j]?=es[j]?)=decide (ds[j]=es[j]):=by rw [e1,e2];simp
  have e4:its.toArray[j]=u':=by
   rw [R6 (by rw [l1];exact Bu)] at CF;simpa using CF
  have e5:Ad.toArray[j]=v':=by
   rw [R6 (by rw [l2];exact BD)] at Bq;simpa using Bq
  rw [e3,e4,e5];exact ih j ds[j] es[j] x' y' u' v' e1 dx dy Ew C9
 have e:decide (Dv.tup ds=Dv.tup es)=((Tw (min its.toArray.size Ad.toArray.size)).all (fun j=>decide (ds[j]?=es[j]?)) && its.toArray.size == Ad.toArray.size):=by
  rw [Si,Si,l1,l2];by_cases h:ds=es
  · subst h;rw [decide_eq_true rfl];symm;simp
  · rw [decide_eq_false (fun z=>h (Dv.tup.inj z))];symm;by_cases hl:ds.length=es.length
    · rw [hl,Nat.min_self]
      have:¬ ((Tw es.length).all (fun j=>decide (ds[j]?=es[j]?)))=true:=by
       intro z;apply h;apply Vr;intro j;by_cases hj:j<es.length
       · have:=Tv.mp z j (UY.mpr hj);exact of_decide_eq_true this
       · rw [Tx (by omega),Tx (by omega)]
      rw [Ud.mpr this];rfl
    · have:(ds.length == es.length)=false:=by simpa using hl
      rw [this,Bool.and_false]
 rw [e];exact Km
open Classical in
theorem oh {X:Cx} {pins:List (Sa×UU)} {σ:St} {H:Hp} {s:Sf} (I:Inv X pins σ H s):∀ (n:Nat) (d e:Dv),d.tot<=n->∀ (x y:V) (u v:Sb) (A:Tj),DAt H d x->DAt H e y->RelV x u->RelV y v->A.units+d.deep<WC->EqAt A s u v (decide (d=e))
 | 0,d,e,hn,x,y,u,v,A,hd,he,ru,rv,hu=>by have:=d.tot_pos;omega
 | n+1,.int i,.int j,hn,x,y,u,v,A,hd,he,ru,rv,hu=>by
   rw [DAt] at hd;rw [DAt] at he;subst hd he;obtain ⟨t,rfl⟩:=ru;obtain ⟨t',rfl⟩:=rv
   have e:decide (Dv.int i=Dv.int j)=(i == j):=by
    by_cases h:i=j
    · subst h;simp
    · rw [decide_eq_false (fun z=>h (Dv.int.inj z))];simp [h]
   rw [e];exact EqAt.int_int i t j t'
 | n+1,.int i,.str b,hn,x,y,u,v,A,hd,he,ru,rv,hu=>by
   rw [DAt] at hd;rw [DAt] at he;subst hd he;obtain ⟨t,rfl⟩:=ru;obtain ⟨t',rfl⟩:=rv;rw [decide_eq_false (fun z=>by cases z)];exact EqAt.int_str i t b t'
 | n+1,.int i,.tup es,hn,x,y,u,v,A,hd,he,ru,rv,hu=>by
   rw [DAt] at hd;rw [DAt] at he;obtain ⟨a,vs,rfl,ha,_⟩:=he;subst hd;obtain ⟨t,rfl⟩:=ru;cases rv;obtain ⟨its,_,p,_⟩:=I.tuple (SqT.of (K:=X.K) ha);rw [decide_eq_false (fun z=>by cases z)];exact EqAt.int_tuple i t (show s.heap.IsTuple a its.toArray from p) (by omega)
 | n+1,.str b,.int j,hn,x,y,u,v,A,hd,he,ru,rv,hu=>by
   rw [DAt] at hd;rw [DAt] at he;subst hd he;obtain ⟨t,rfl⟩:=ru;obtain ⟨t',rfl⟩:=rv;rw [decide_eq_false (fun z=>by cases z)];exact EqAt.str_int b t j t'
 | n+1,.str b,.str c,hn,x,y,u,v,A,hd,he,ru,rv,hu=>by
   rw [DAt] at hd;rw [DAt] at he;subst hd he;obtain ⟨t,rfl⟩:=ru;obtain ⟨t',rfl⟩:=rv
   have e:decide (Dv.str b=Dv.str c)=(b == c):=by
    by_cases h:b=c
    · subst h;simp
    · rw [decide_eq_false (fun z=>h (Dv.str.inj z))];simp [h]
   rw [e];exact EqAt.str_str b t c t'
 | n+1,.str b,.tup es,hn,x,y,u,v,A,hd,he,ru,rv,hu=>by
   rw [DAt] at hd;rw [DAt] at he;obtain ⟨a,vs,rfl,ha,_⟩:=he;subst hd;obtain ⟨t,rfl⟩:=ru;cases rv;obtain ⟨its,_,p,_⟩:=I.tuple (SqT.of (K:=X.K) ha);rw [decide_eq_false (fun z=>by cases z)];exact EqAt.str_tuple b t (show s.heap.IsTuple a its.toArray from p) (by omega)
 | n+1,.tup ds,.int j,hn,x,y,u,v,A,hd,he,ru,rv,hu=>by
   rw [DAt] at hd;rw [DAt] at he;obtain ⟨a,vs,rfl,ha,_⟩:=hd;subst he;cases ru;obtain ⟨t,rfl⟩:=rv;obtain ⟨its,_,p,_⟩:=I.tuple (SqT.of (K:=X.K) ha);rw [decide_eq_false (fun z=>by cases z)];exact EqAt.tuple_int j t (show s.heap.IsTuple a its.toArray from p) (by omega)
 | n+1,.tup ds,.str b,hn,x,y,u,v,A,hd,he,ru,rv,hu=>by
   rw [DAt] at hd;rw [DAt] at he;obtain ⟨a,vs,rfl,ha,_⟩:=hd;subst he;cases ru;obtain ⟨t,rfl⟩:=rv;obtain ⟨its,_,p,_⟩:=I.tuple (SqT.of (K:=X.K) ha);rw [decide_eq_false (fun z=>by cases z)];exact EqAt.tuple_str b t (show s.heap.IsTuple a its.toArray from p) (by omega)
 | n+1,.tup ds,.tup es,hn,x,y,u,v,A,hd,he,ru,rv,hu=>by
   have Kn:=hd;have OQ:=he;rw [DAt] at hd;rw [DAt] at he;obtain ⟨a,vs,rfl,ha,Ec⟩:=hd;obtain ⟨b,ws,rfl,hb,AH⟩:=he;cases ru;cases rv;by_cases Ed:a=b
   · subst Ed;rw [decide_eq_true (DAt.inj Kn OQ)];exact EqAt.same _
   rw [Dv.tot] at hn;rw [Dv.deep] at hu;refine EqAt.of_refs Ed (vj I (SqT.of ha) (SqT.of hb) Ec AH (by omega) fun j d e x' y' u' v' e1 dx dy Ew C9=>?_);have q1:=tE e1;have q2:=iW e1;refine oh I n d e (by omega) x' y' u' v' A.in1 dx dy Ew C9 ?_;show A.units+1+_<WC;omega
def wf (K:R8) (B:Nat):R2:=fun x y H Q=>∃ b ws d es,y=.ref b/\SqT K H b ws/\DAt H d x/\DAts H es ws/\eF es<=B/\∀ r:Bool,(r=true↔d∉es)->Q (.bl r) H
open Classical in
theorem tY {X:Cx} {B:Nat} (hu:X.A.units+B+2<WC):OpR X (UK .NotIn) (wf X.K B):=by
 intro pins s σ H x y v u Q I rx ry h;obtain ⟨b,ws,d,es,rfl,hb,hd,AH,hB,q⟩:=h;cases ry;obtain ⟨its,r1,p1,_⟩:=I.tuple hb
 have key:∀ (j:Nat) (z:Sb),its[j]?=some z->∃ e y',es[j]?=some e/\DAt H e y'/\RelV y' z:=by
  intro j z hz;have hj:j<its.length:=(Sj.mp hz).1;have l1:=r1.length;have l2:=AH.length;have Je:j<es.length:=by omega
  obtain ⟨y',Dn,dy⟩:=AH.at (R6 Je);obtain ⟨v',Bq,C9⟩:=r1.get Dn;rw [hz] at Bq;cases Bq;exact ⟨_,y',R6 Je,dy,C9⟩
 have uniq:∀ (z:Sb) (e e':Dv) (y' Fl:V),DAt H e y'->RelV y' z->DAt H e' Fl->RelV Fl z->e=e':=by
  intro z e e' y' Fl h1 h2 h3 h4;have:=h2.inj h4;subst this;exact h1.inj h3
 refine notIn_tupleAt (fun z=>decide (∃ y',DAt H d y'/\RelV y' z)) (show s.heap.IsTuple b its.toArray from p1) (fun z hz=>?_) ⟨.bl _,H,I,rfl,q _ ?_⟩
 · obtain ⟨j,hj⟩:=SV.mp (show z∈its by simpa using hz);obtain ⟨e,y',he,dy,ry⟩:=key j z hj;have hq:=iW he
   have e3:decide (∃ y',DAt H d y'/\RelV y' z)=decide (e=d):=by
    by_cases h:e=d
    · rw [decide_eq_true h,decide_eq_true ⟨y',h ▸ dy,ry⟩]
    · rw [decide_eq_false h,decide_eq_false];rintro ⟨Fl,h1,h2⟩;exact h (uniq z e d y' Fl dy ry h1 h2)
   rw [e3];refine oh I _ e d (Sg _) y' x z v X.A.in1 dy hd ry rx ?_;show X.A.units+1+_<WC;omega
 · rw [Wf,<- Bool.not_eq_true];refine not_congr ?_;constructor
   · intro z;obtain ⟨v',h1,h2⟩:=Array.any_eq_true'.mp z;obtain ⟨j,hj⟩:=SV.mp (show v'∈its by simpa using h1);obtain ⟨e,y',he,dy,ry⟩:=key j v' hj;obtain ⟨Fl,h3,h4⟩:=of_decide_eq_true h2;rw [<- uniq v' e d y' Fl dy ry h3 h4];exact Sd he
   · intro z;obtain ⟨j,hj⟩:=SV.mp z;obtain ⟨y',Dn,dy⟩:=AH.at hj;obtain ⟨v',Bq,C9⟩:=r1.get Dn;refine Array.any_eq_true'.mpr ⟨v',?_,decide_eq_true ⟨y',dy,C9⟩⟩;have:=Sd Bq;simpa using this
end L2
namespace BB
open PySem L2
end BB
namespace PySem
theorem bb_extendT (l:Sa) (items:Array Sb) (n:Nat) (b:Sa) (BL:Array Sb) (n2:Nat) (dd:Option Sa) (sl:Array (Option Sb)) (g0:¬(!items.isEmpty && U3 (items.size+BL.size))=true) (g1:items.size<=SQ) (g2:items.size+BL.size<=SQ+1) :
 Meets (Builtin.«list.extend» ⟨[.ref l,.ref b],[]⟩) (fun _ R s=>s.heap.get? l=some { cls:=.type "list",dict:=none,data:=.seq items n,slots:=#[] }/\s.heap.get? b=some { cls:=.type "tuple",dict:=dd,data:=.seq BL n2,slots:=sl }/\R (.ok (.ret Ux)) { s with heap:=s.heap.update l (XI fun x=>x++BL),toks:=s.toks }) :=
 .of_wp fun prog w A R s h=>by
  obtain ⟨hp,g,d,tk,os⟩:=s;obtain ⟨hl,hb,h⟩:=h;have f1:=AutoSeq1.idx_int;have f2:=AutoSeq1.sub_tuple_tuple;have f3:=AutoSeq1.sub_list_list;have f4:=AutoSeq1.sub_tuple_list;have f5:=AutoSeq1.sub_list_tuple;have z2:(items++BL).size<=SQ+1:=by rw [Array.size_append];exact g2
  wp_walk using (wpAny_updateSeq hl rfl (hz:=g1) (_hz':=z2)),AutoSeq1.wpAny_loadPart' hl,AutoSeq1.wpAny_loadPart' hb
  exact ⟨_,rfl,h⟩
end PySem
namespace L2
open PySem PySem.Spec PyProof.Rows
section
variable {X:Cx}
def vE (K:R8):V->List V->Hp->VK->Prop:=fun x vs H Q=>∃ l b xs zs,x=.ref l/\vs=[.ref b]/\H l=some (.lst xs)/\SqT K H b zs/\xs.length+zs.length<=SQ/\Q .non (upd H l (.lst (xs++zs)))
theorem qR:MtM X "list.extend" (vE X.K):=by
 intro pins s σ H x vs v us Q I rx rv h;obtain ⟨l,b,xs,zs,rfl,rfl,hH,hB,hz,q⟩:=h;cases rx;obtain ⟨u,rfl,ru⟩:=rv.one;cases ru;obtain ⟨z,its,n,r,hl,e⟩:=I.lstM hH;obtain ⟨Ad,r2,p2,_⟩:=I.tuple hB;have AW:=r2.length;obtain ⟨⟨GQ,F3,data2,F4⟩,e2,DC,n2,hd2⟩:=p2;simp only at DC hd2;subst DC hd2;have Az:its.toArray.size+Ad.toArray.size<=SQ:=by rw [Si,Si];omega
 have Cj:¬ (!its.toArray.isEmpty && U3 (its.toArray.size+Ad.toArray.size))=true:=by
  rw [mR Az,Bool.and_false];exact Sz
 refine VD F.slot_list_extend ⟨_,e,rfl⟩ F.entry_list_extend (F.args_list_extend_2 _ _)
  (bb_extendT l its.toArray n b Ad.toArray n2 F3 F4 Cj (by rw [Si];omega) (by omega)) ⟨e,e2,?_⟩
 refine ⟨.non,_,I.lset (its':=its++Ad) hH e (by simp) (r.append r2) ?_,rfl,q⟩;rw [Sm];omega
theorem t7 {bs:List Bool} {its:List Sb} (r:Vals (bs.map V.bl) its) {i:Nat} {v:Sb} (h:its[i]?=some v):∃ b,bs[i]?=some b/\v=.bool b:=by
 have hl:=r.length;have hi:i<its.length:=(Sj.mp h).1;rw [R5] at hl;obtain ⟨u,hu,ru⟩:=r.get (i:=i) (x:=.bl bs[i]) (by rw [So,R6 (by omega)];rfl);rw [h] at hu;cases hu;cases ru;exact ⟨_,R6 (by omega),rfl⟩
def zY (K:R8):List V->Hp->VK->Prop:=fun xs H Q=>∃ (p:Sa) (bs:List Bool),xs=[.ref p]/\SqL K H p (bs.map V.bl)/\Q (.bl (bs.all id)) H
theorem mT (hc:X.calm=true):e9 X (.builtin "all") (zY X.K):=by
 intro pins s σ H xs us Q I r h;obtain ⟨p,bs,rfl,hl,q⟩:=h;obtain ⟨u,rfl,rx⟩:=vals1 r;cases rx;obtain ⟨its,rv,pl,_⟩:=I.list hl;have hlen:=rv.length;rw [R5] at hlen;have AD:p<s.heap.objs.size:=by obtain ⟨_,_,e,_⟩:=pl;exact SD e
 refine call_all_walk (Xg pl.isList ?_);refine ⟨s.heap.objs.size,[s.heap.objs.size,p],[s.heap.objs.size],its.toArray.size,_,_,fun i=>(bs[i]?).getD true,rfl,Walks.list (A:=X.A.in1) (I.ok.hd hc) _ p (Ti AD) its.toArray,⟨⟨_,Sx _ rfl,rfl,rfl⟩,pl.isList.push _⟩,fun i v s' Q' E' hP hQ=>?_,fun h' tk hk=>?_⟩
 · obtain ⟨b,e,rfl⟩:=t7 rv (i:=i) (v:=v) (by simpa using hP);simp only [e,Option.getD_some] at hQ;exact UT hQ
 · have e:((Tw its.toArray.size).all fun i=>(bs[i]?).getD true)=bs.all id:=by
    rw [Si,<- hlen];exact LSm.range_all bs
   rw [e];exact ⟨.bl (bs.all id),H,I.kept (LSm.kept_iter hk),rfl,q⟩
end
end L2
namespace BB
open PySem L2
def cH:List (Ss×Int)->Ss->Int
 | [],_=>-1
 | k::r,n=>if k.1=n then k.2 else cH r n
theorem iN {n:Ss} {m:Nat}:∀ {ks:List (Ss×Int)},(ks.map (·.1)).Nodup->(cH ks n=(m:Int)↔(n,(m:Int))∈ks)
 | [],_=>by
   rw [cH];constructor
   · intro h;omega
   · intro h;cases h
 | (a,b)::r,nd=>by
   rw [Sl,Uz] at nd;rw [cH];by_cases h:a=n
   · rw [if_pos h];subst h;constructor
     · intro e;have e':b=(m:Int):=e;rw [e'];exact Sr ..
     · intro e;rcases Sn.mp e with e | e
       · exact (Prod.mk.inj e).2.symm
       · exact absurd (TC.mpr ⟨_,e,rfl⟩) nd.1
   · rw [if_neg h,iN nd.2];constructor
     · exact Sk _
     · intro e;rcases Sn.mp e with e | e
       · exact absurd (Prod.mk.inj e).1.symm h
       · exact e
def okP (ks:List (Ss×Int)) (st kd:Int):Th->Bool
 | .knot n ts=>decide (cH ks n=((ts.length:Nat):Int))
 | .call s k=>decide (0<=s/\s<st) && decide (0<=k/\k<kd)
def fpb (ks:List (Ss×Int)) (st kd:Int) (t:Th):Bool:=t.walk.all (okP ks st kd)
def uc (ks:List (Ss×Int)) (st kd:Int) (ts:List Th):Bool:=(walks ts).all (okP ks st kd)
theorem qX (ks:List (Ss×Int)) (st kd:Int) (t:Th):fpb ks st kd t=(okP ks st kd t && uc ks st kd t.kids):=by
 unfold fpb uc;rw [t.walk_eq,W2]
theorem jr (ks:List (Ss×Int)) (st kd:Int):∀ ts:List Th,uc ks st kd ts=(ts.map (fpb ks st kd)).all id
 | []=>by rfl
 | t::ts=>by
   rw [Sl,W2,<- jr ks st kd ts];unfold uc fpb;rw [walks,List.all_append];rfl
theorem nN {w:Ss} {n:Int} (h0:0<=n) (h:n+1<=(w.length:Int)):(db w none (some (n+1))).length=n.toNat+1:=by
 rw [jo]
 have e1:HT.sIx w.length w.length (some (n+1))=n.toNat+1:=by
  show (if n+1<0 then _ else min (n+1).toNat w.length)=_;rw [if_neg (by omega)];omega
 have e2:HT.sIx w.length 0 none=0:=rfl;rw [e1,e2];omega
theorem wV {A B:Ss} {c d:Nat} (h:A++⟨#[c]⟩++B=A++⟨#[d]⟩++B):c=d:=by
 have h1:(A.cps++#[c]++B.cps)=(A.cps++#[d]++B.cps):=congrArg Str.cps h;have h2:=congrArg Yi h1;simp at h2;exact h2
theorem qH {base i j:Int} (hi:0<=i) (ML:i<8) (hj:0<=j) (Rx:j<8) (h:nameOf base i=nameOf base j):i=j:=by
 unfold nameOf at h;split at h
 · have h1:=congrArg Str.length h;rw [nN hi (by rw [da];omega),nN hj (by rw [da];omega)] at h1;omega
 · have h1:=wV h;unfold kh at h1;have a1:=Te (((((base / 112) / 26 ^ (nAt base).toNat)%26).toNat:Int)+i) (by decide:(26:Int)≠0);have a2:=Te (((((base / 112) / 26 ^ (nAt base).toNat)%26).toNat:Int)+j) (by decide:(26:Int)≠0);generalize ((((base / 112) / 26 ^ (nAt base).toNat)%26).toNat:Int)=l at h1 a1 a2;omega
theorem g6 (cell:Int):((cm cell).map (·.1)).Nodup:=by
 have hm:=i9 cell;refine List.pairwise_iff_getElem.mpr fun i j hi hj DO e=>?_;rw [R5] at hi hj;rw [List.getElem_map,List.getElem_map] at e;have e1:=(cJ (R6 hi)).1;have e2:=(cJ (R6 hj)).1;rw [e1,e2] at e;rw [dt] at hi hj;have:=qH (by omega) (by omega) (by omega) (by omega) e;omega
def kDv (k:Ss×Int):Dv:=.tup [.str k.1,.int k.2]
theorem we {a b:Ss×Int} (h:kDv a=kDv b):a=b:=by
 unfold kDv at h;have h1:=Dv.tup.inj h;simp at h1;exact X9 h1.1 h1.2
theorem xI {H:Hp}:∀ {ks:List (Ss×Int)} {as:List Sa},To (KAt H) ks as->DAts H (ks.map kDv) (as.map V.ref)
 | _,_,.nil=>.nil
 | _,_,.cons r h=>by
   rw [Sl,Sl];refine .cons ?_ (xI h);rw [kDv,DAt];exact ⟨_,_,rfl,r,.cons (by rw [DAt]) (.cons (by rw [DAt]) .nil)⟩
theorem qm:∀ ks:List (Ss×Int),eF (ks.map kDv)<=1
 | []=>by rw [UN,eF];exact Td _
 | k::ks=>by
   have:=qm ks;rw [Sl,eF,kDv];simp only [Dv.deep,eF];omega
theorem ww {k:Nat} {A:Tj} (hr:L2.Room k A):A.units+50+2<WC:=by
 have:=hr.units;omega
theorem yI {p:Prop} [Decidable p] (h:(!decide p)=true):¬ p:=by
 intro z;rw [decide_eq_true z] at h;cases h
theorem xY {p:Prop} [Decidable p] (h:¬ (!decide p)=true):p:=by
 by_cases z:p
 · exact z
 · exfalso;apply h;rw [decide_eq_false z];rfl
end BB
namespace PySem
open Sem (wp)
namespace F
end F
section
variable {prog:SX} {w:Tq} {A:Tj} {E:Sb->Sf->Prop} {s:Sf} {a:Sa} {xs:Array Sb} {k:Nat}
end
end PySem
namespace L2
open PySem PySem.Spec PyProof.Rows BB
section
variable {X:Cx}
end
end L2
namespace BB
open PySem L2
end BB
namespace HT
open PySem PySem.Spec PyProof.Rows
section
variable {prog:SX} {w:Tq} {A:Tj} {E:Sb->Sf->Prop} {s:Sf}
end
end HT
namespace L2
open PySem PySem.Spec PyProof.Rows
end L2
namespace PySem
open Sem (wp)
section
variable {prog:SX} {w:Tq} {A:Tj} {E:Sb->Sf->Prop} {s:Sf} {it d:Sa} {i ep:Nat} {od:UU} {es:Array DictEntry}
end
end PySem
namespace L2
open PySem PySem.Spec PyProof.Rows
section
variable {X:Cx} {e:TV} {te:TE}
end
end L2
namespace BB
open PySem L2
inductive Top where
 | nm (n:Ss) (m:Nat)
 | th (t:Th)
def bl:List Top->List Th
 | []=>[]
 | .nm n m::S=>.knot n ((bl S).take m)::(bl S).drop m
 | .th t::S=>t::bl S
def TopsOk:List Top->Prop
 | []=>True
 | .nm _ m::S=>m<=(bl S).length/\TopsOk S
 | .th _::S=>TopsOk S
theorem TopsOk.drop:∀ {l:List Top} (i:Nat),TopsOk l->TopsOk (l.drop i)
 | l,0,h=>by rw [Uv];exact h
 | [],i+1,h=>by rw [List.drop_nil];exact h
 | .nm n m::S,i+1,h=>by
   rw [TopsOk] at h;rw [List.drop_succ_cons];exact TopsOk.drop i h.2
 | .th t::S,i+1,h=>by
   rw [TopsOk] at h;rw [List.drop_succ_cons];exact TopsOk.drop i h
theorem qL:∀ l:List Top,(bl l).length<=l.length
 | []=>Sg _
 | .nm n m::S=>by
   have:=qL S;rw [bl,R7,R7,Tf];omega
 | .th t::S=>by
   have:=qL S;rw [bl,R7,R7];omega
theorem At.same {H:Hp} {t:Th} {a p:Sa} {xs:List V} (h:At H t a) (ha:H a=some (.tup xs)) (hp:H p=some (.tup xs)):At H t p:=by
 cases t with
 | knot n ks =>
   rw [At] at h ⊢;obtain ⟨h0,as,h1,h2⟩:=h;rw [ha] at h1;exact ⟨h0,as,by rw [hp,<- h1],h2⟩
 | call s k =>
   rw [At] at h ⊢;rw [hp,<- ha,h]
mutual
def Th.fill (f:Int->Int->Th):Th->Th
 | .knot n ks=>.knot n (fills f ks)
 | .call s k=>f s k
def fills (f:Int->Int->Th):List Th->List Th
 | []=>[]
 | t::ts=>t.fill f::fills f ts
end
theorem jW (f:Int->Int->Th):∀ ts:List Th,(fills f ts).length=ts.length
 | []=>by rw [fills]
 | t::ts=>by rw [fills,R7,R7,jW f ts]
mutual
theorem lh:∀ t:Th,t.fill Th.call=t
 | .knot n ks=>by rw [Th.fill,pW ks]
 | .call s k=>by rw [Th.fill]
theorem pW:∀ ts:List Th,fills Th.call ts=ts
 | []=>by rw [fills]
 | t::ts=>by rw [fills,lh t,pW ts]
end
def eh (f:Int->Int->Th):Th->Top
 | .knot n ks=>.nm n ks.length
 | .call s k=>.th (f s k)
theorem mm (f:Int->Int->Th):∀ (n:Nat) (ts:List Th),aE ts<=n->∀ S,bl ((walks ts).map (eh f)++S)=fills f ts++bl S/\(TopsOk S->TopsOk ((walks ts).map (eh f)++S))
 | _,[],_,S=>by rw [walks,fills];exact ⟨rfl,fun h=>h⟩
 | 0,t::ts,hn,S=>by
   have:=t.size_pos;rw [aE] at hn;omega
 | n+1,t::ts,hn,S=>by
   have hs:=t.size_eq;rw [aE] at hn;have h2:=mm f n ts (by omega) S;have e:(walks (t::ts)).map (eh f)++S=eh f t::((walks t.kids).map (eh f)++((walks ts).map (eh f)++S)):=by rw [walks,t.walk_eq];simp
   have h1:=mm f n t.kids (by omega) ((walks ts).map (eh f)++S);rw [e];cases t with
   | knot nm ks =>
     simp only [Th.kids] at h1 ⊢;refine ⟨?_,fun hS=>?_⟩
     · show bl (.nm nm ks.length::_)=_;rw [bl,h1.1,h2.1,<- jW f ks,List.take_left,List.drop_left,fills,Th.fill];rfl
     · show TopsOk (.nm nm ks.length::_);rw [TopsOk];refine ⟨?_,h1.2 (h2.2 hS)⟩;rw [h1.1,Sm,jW];exact Wt _ _
   | call s k =>
     simp only [Th.kids,walks,UN,Ts] at h1 ⊢;refine ⟨?_,fun hS=>?_⟩
     · show bl (.th (f s k)::_)=_;rw [bl,h2.1,fills,Th.fill];rfl
     · show TopsOk (.th (f s k)::_);rw [TopsOk];exact h2.2 hS
theorem oj (f:Int->Int->Th) (t:Th):bl (t.walk.map (eh f))=[t.fill f]/\TopsOk (t.walk.map (eh f)):=by
 have h:=mm f _ [t] (Sg _) [];have e:walks [t]=t.walk:=by simp [walks]
 rw [e,SM] at h;refine ⟨?_,h.2 (by rw [TopsOk];trivial)⟩;rw [h.1,fills,fills,bl];rfl
theorem At.width {H:Hp} {t:Th} {a:Sa} {xs:List V} (h:At H t a) (ha:H a=some (.tup xs)):xs.length<=t.size+2:=by
 cases t with
 | knot n ks =>
   rw [At] at h;obtain ⟨_,as,h1,h2⟩:=h;rw [ha] at h1;cases h1;have:=h2.length;have:=dk ks;rw [R7,R5,Th.size];omega
 | call s k =>
   rw [At] at h;rw [ha] at h;cases h;rw [Th.size];exact Sg _
end BB
namespace PySem
open Sem (wp)
end PySem
namespace L2
open PySem PySem.Spec PyProof.Rows BB
end L2
namespace BB
open PySem L2
theorem uJ {k:Nat} {A:Tj} (hr:L2.Room k A):A.units+150+2<WC:=by
 have:=hr.un;omega
end BB
namespace BB
open PySem L2
end BB
namespace BB
open PySem L2
end BB
namespace L2
open PySem PySem.Spec PySem.SeqAt PyProof.Rows BB
open Classical in
theorem vF {X:Cx} {pins:List (Sa×UU)} {σ:St} {H:Hp} {s:Sf} (I:Inv X pins σ H s) {ds es:List Dv} {vs ws:List V} {its Ad:List Sb} {A:Tj} (r1:Vals vs its) (r2:Vals ws Ad) (Ec:DAts H ds vs) (AH:DAts H es ws) (hu:A.units+eF ds+2<WC) :
 ∀ j (h1:j<its.toArray.size) (h2:j<Ad.toArray.size),EqAt A.in1 s its.toArray[j] Ad.toArray[j] (decide (ds[j]?=es[j]?)):=by
 intro j h1 h2;have l1:its.length=ds.length:=by rw [<- r1.length,Ec.length]
 have l2:Ad.length=es.length:=by rw [<- r2.length,AH.length]
 have Bu:j<ds.length:=by rw [<- l1];simpa using h1
 have BD:j<es.length:=by rw [<- l2];simpa using h2
 have e1:ds[j]?=some ds[j]:=R6 Bu;have e2:es[j]?=some es[j]:=R6 BD;obtain ⟨x',B1,dx⟩:=Ec.at e1;obtain ⟨y',Dn,dy⟩:=AH.at e2;obtain ⟨u',CF,Ew⟩:=r1.get B1;obtain ⟨v',Bq,C9⟩:=r2.get Dn;have e3:decide (ds[j]?=es[j]?)=decide (ds[j]=es[j]):=by rw [e1,e2];simp
 have e4:its.toArray[j]=u':=by
  rw [R6 (by rw [l1];exact Bu)] at CF;simpa using CF
 have e5:Ad.toArray[j]=v':=by
  rw [R6 (by rw [l2];exact BD)] at Bq;simpa using Bq
 rw [e3,e4,e5];have q2:=iW e1;refine oh I _ ds[j] es[j] (Sg _) x' y' u' v' A.in1 dx dy Ew C9 ?_;show A.units+1+_<WC;omega
open Classical in
theorem rc {ds es:List Dv} (hl:ds.length=es.length):(Tw ds.length).all (fun j=>decide (ds[j]?=es[j]?))=decide (ds=es):=by
 by_cases h:ds=es
 · subst h;rw [decide_eq_true rfl];simp
 · rw [decide_eq_false h];refine Ud.mpr fun z=>h (Vr fun j=>?_);by_cases hj:j<ds.length
   · exact of_decide_eq_true (Tv.mp z j (UY.mpr hj))
   · rw [Tx (by omega),Tx (by omega)]
def aae (K:R8) (B:Nat):R2:=fun x y H Q=>∃ a b vs ws ds es,x=.ref a/\y=.ref b/\SqL K H a vs/\SqL K H b ws/\DAts H ds vs/\DAts H es ws/\eF ds<=B/\∀ b:Bool,(b=true↔ds≠es)->Q (.bl b) H
open Classical in
theorem xU {X:Cx} {B:Nat} (hu:X.A.units+B+2<WC):OpR X (UK .NotEq) (aae X.K B):=by
 intro pins s σ H x y v u Q I rx ry h;obtain ⟨a,b,vs,ws,ds,es,rfl,rfl,ha,hb,Ec,AH,hB,q⟩:=h;cases rx;cases ry;obtain ⟨its,r1,p1,_⟩:=I.list ha;obtain ⟨Ad,r2,p2,_⟩:=I.list hb;have l1:its.length=ds.length:=by rw [<- r1.length,Ec.length]
 have l2:Ad.length=es.length:=by rw [<- r2.length,AH.length]
 by_cases hl:ds.length=es.length
 · have Az:its.toArray.size=Ad.toArray.size:=by rw [Si,Si];omega
   refine RcNeAt.lists p1.isList p2.isList Az (by omega) (vF I r1 r2 Ec AH (by omega)) X.prog X.w X.xe _ ?_
   have e:(Tw its.toArray.size).all (fun j=>decide (ds[j]?=es[j]?))=decide (ds=es):=by
    rw [Si,l1];exact rc hl
   refine ⟨.bl (!decide (ds=es)),H,I,by rw [e];rfl,q _ ?_⟩;simp
 · refine RcNeAt.lists_lengths p1.isList p2.isList (by rw [Si,Si,l1,l2];simpa using hl) (by omega) X.prog X.w X.xe _ ⟨.bl true,H,I,rfl,q _ ?_⟩;exact ⟨fun _ z=>hl (by rw [z]),fun _=>rfl⟩
end L2
namespace BB
open PySem L2
end BB
namespace BB
open PySem L2
end BB
namespace L2
open PySem PySem.Spec PySem.SeqAt PyProof.Rows BB
end L2
namespace BB
open PySem L2
end BB
namespace BB
open PySem L2
end BB
namespace L2
open PySem PySem.Spec PyProof.Rows BB
end L2
namespace BB
open PySem L2
end BB
namespace BB
open PySem L2
end BB
namespace L2
open PySem PySem.Spec PySem.Calls PyProof.Rows PySem.W
structure ui (K:Frag) (C:Sa):Prop where
 exc:excIn K C [.type "ValueError",.type "Exception",.type "BaseException",.type "object"] "ValueError.__new__"=true
 ga:findIn K (.ref C) "__getattribute__"=some (some (.builtin "BaseException.__getattribute__"))
 gt:findIn K (.ref C) "__getattr__"=some none
 cl:findIn K (.ref C) "__class__"=some (some (.builtin "object.__class__"))
 mo:mroIn K C (.type "object")=some true
 mb:mroIn K C (.type "BaseException")=some true
section
variable {prog:SX} {w:Tq} {A:Tj} {E:Sb->Sf->Prop} {h:T2} {g:Array GenState} {d:Drawn} {t:Nat} {os:W0} {a C:Sa} {o:UU} {K:Frag}
end
end L2
namespace L2
open PySem PySem.Spec PySem.Calls PyProof.Rows PySem.W
theorem ObjOk.there {P:SX} {w:Tq} {H:Hp} {h:T2} {a:Sa} {o:HO} (x:ObjOk P w H h a o):∃ ob,h.get? a=some ob:=by
 cases o with
 | lst xs=>obtain ⟨_,_,_,_,e⟩:=x;exact ⟨_,e⟩
 | tup xs=>obtain ⟨_,_,_,_,e⟩:=x;exact ⟨_,e⟩
 | dK AQ=>obtain ⟨_,_,_,_,o,_,_,e,_⟩:=x;exact ⟨_,e⟩
 | dT AQ=>obtain ⟨_,_,_,_,o,_,_,e,_⟩:=x;exact ⟨_,e⟩
 | set S n=>obtain ⟨o,_,_,_,e,_⟩:=x;exact ⟨_,e⟩
 | ins C dx fs=>obtain ⟨_,_,_,e,_⟩:=x;exact ⟨_,e⟩
 | own y=>obtain ⟨_,e⟩:=x;exact ⟨_,e⟩
 | xd fs=>obtain ⟨_,⟨_,_,_,e,_⟩,_⟩:=x;exact ⟨_,e⟩
 | rng lo hi=>obtain ⟨_,_,_,e⟩:=x;exact ⟨_,e⟩
 | frz ob u=>obtain ⟨e,_⟩:=x;exact ⟨_,e⟩
 | tbl ps=>exact ⟨_,(show h.get? a=some _ from x)⟩
 | met f y=>exact ⟨_,(show h.get? a=some _ from x)⟩
 | ext φ=>obtain ⟨_,⟨_,e⟩,_⟩:=x;exact ⟨_,e⟩
def CX1 (P:SX) (w:Tq):CXT:=fun outer H s E e s'=>∃ (ea C:Sa) (a0:Sb) (B:T2) (H':Hp),
 e=.ref ea/\s'.os=s.os/\XX s'.gens/\Un (frs outer) [] H H' s.heap s'.heap/\HOk P w H' s'.heap/\Heap.FlyingW B outer ea (.ref C) a0 s'.heap ∧
 (∀ b o,s.heap.get? b=some o->b∉frs outer->∃ o',B.get? b=some o'/\(H b=none->o'=o))/\(∀ b u,H' b=some u->∃ o',B.get? b=some o')/\E (.ref C) none H'
theorem lf {P:SX} {w:Tq} {H':Hp} {B h h':T2} (hok:HOk P w H' h) (k1:B.StaysIn h) (k2:B.StaysIn h') (b2:∀ b u,H' b=some u->∃ o',B.get? b=some o'):HOk P w H' h':=fun a o e =>
 (hok a o e).stay (fun b u hb q=>by
  have ht:∃ v,H' b=some v:=by
   rcases hb with rfl | hb
   · exact ⟨_,e⟩
   · exact ⟨_,hb⟩
  obtain ⟨v,hv⟩:=ht;obtain ⟨o',Cc⟩:=b2 b v hv;have:=k1 b o' Cc;rw [q] at this;cases this;exact k2 b _ Cc) (fun _ q=>q) fun _ _ q=>q
theorem rA {fs:List Sa} {H H1 H':Hp} {h h1 h2 h':T2} {l:List Sa} {B:T2} (u1:Un fs [] H H1 h h1) (u2:Un l [] H1 H' h1 h2) (hl:∀ b o,h.get? b=some o->b∈l->b∈fs)
 (b1:∀ b o,h1.get? b=some o->b∉l->∃ o',B.get? b=some o'/\(H1 b=none->o'=o)) (st:B.StaysIn h') (up:h2.UpToSlots h')
 (hf:∀ b∈fs,H b=none/\∃ o,h.get? b=some o/\∀ vs,o.data≠.fields vs) :
 Un fs [] H H' h h'/\∀ b o,h.get? b=some o->b∉fs->∃ o',B.get? b=some o'/\(H b=none->o'=o):=by
 have nx:∀ b:Sa,b∉([]:List Sa):=fun b=>by simp
 have bb:∀ b o,h.get? b=some o->b∉fs->∃ o',B.get? b=some o'/\(H b=none->o'=o):=fun b o q nf=>by
  obtain ⟨o1,e1⟩:=u1.there b o q (nx b);obtain ⟨o',e',g⟩:=b1 b o1 e1 fun z=>nf (hl b o q z);refine ⟨o',e',fun n=>?_⟩;have:=u1.keep b o q n nf (nx b);rw [e1] at this;cases this;exact g (u1.free b _ q n (nx b))
 have sl:∀ b o,h.get? b=some o->H b=none->b∈fs->∃ sl,h'.get? b=some { o with slots:=sl }:=fun b o q n m=>by
  obtain ⟨s1,e1⟩:=u1.slot b o q n m (nx b);obtain ⟨s2,e2⟩:=u2.any e1 (u1.free b o q n (nx b)) (nx b);obtain ⟨_,o0,q0,nf⟩:=hf b m;rw [q] at q0;cases q0;obtain ⟨s3,e3⟩:=up b _ e2 nf;exact ⟨s3,e3⟩
 refine ⟨⟨fun b o q n nf _=>?_,fun b o q n m _=>sl b o q n m,fun b o q n _=>?_,fun b o q _=>?_,fun b xs q=>u2.tups b xs (u1.tups b xs q),fun b o u q=>u2.frzs b o u (u1.frzs b o u q),fun b ps q=>?_⟩,bb⟩
 · obtain ⟨o',e',g⟩:=bb b o q nf;rw [<- g n];exact st b o' e'
 · obtain ⟨o1,e1⟩:=u1.there b o q (nx b);exact u2.free b o1 e1 (u1.free b o q n (nx b)) (nx b)
 · by_cases m:b∈fs
   · obtain ⟨n,_⟩:=hf b m;obtain ⟨s3,e3⟩:=sl b o q n m;exact ⟨_,e3⟩
   · obtain ⟨o',e',_⟩:=bb b o q m;exact ⟨o',st b o' e'⟩
 · obtain ⟨m1,e1⟩:=u1.tbls b ps q;obtain ⟨m2,e2⟩:=u2.tbls b _ e1;exact ⟨m1++m2,by rw [e2,WQ]⟩
section
variable {P:SX} {w:Tq} {K:R8} {mg:Ss->Option Sb} {base:T2} {N:List Ss} {qual:Ss} {scope:Vu} {f:Sa} {cd:Sb} {A:Tj} {outer:List XC} {s:Sf} {H:Hp} {E:XK}
theorem px {l:List XC} {env:XC} {L:Sa} (hf:env.frame=some L):frs (env::l)=L::frs l:=by unfold frs;rw [Vy,hf]
theorem cM:Passes (CX1 P w) (cA (CX1 P w) P w K mg base N qual scope f cd A outer s H E) E:=by
 intro pins σ H1 s1 e s2 I h;obtain ⟨ea,C,a0,B,H',rfl,Cf,Cn,un,hok,Dc,b1,b2,q⟩:=h;show SI _ _ (leaving _ _) _ _ s2;refine wpAny_leaves_onW (E:=fun e' GN=>CX1 P w outer H s E e' GN) I.ok.frames rfl Dc fun h' Fm up=>?_
 obtain ⟨U,Hb⟩:=rA (fs:=frs outer) (H:=H) (h:=s.heap) (l:=frs (Vg qual scope s.heap.objs.size f cd::outer)) (B:=B) (h':=h') I.base un (fun b o hb z=>by
  rw [px (L:=s.heap.objs.size) rfl] at z;rcases Sn.mp z with rfl | z
  · exact absurd (SD hb) (TM _)
  · exact z) b1 Fm.1 up (fun b hb=>⟨I.ok.frf b hb,(I.ok.funs.mem hb).2⟩)
 exact ⟨ea,C,a0,B,H',rfl,Cf.trans I.os,Cn,U,lf hok Dc.1 Fm.1 b2,Fm,Hb,b2,q⟩
def yg (te:TE) (C:Sa) (E:XK):TS:=fun _ σ H=>te σ H fun _ H1=>E (.ref C) none H1
theorem wu {h:T2} {C:Sa} {x:Ss} (X:K.In h) (F:ui K C) (hm:mg x=some (.ref C)):OwnCls x C [.type "ValueError",.type "Exception",.type "BaseException",.type "object"] "ValueError.__new__" mg h:=by
 have q:=F.exc;refine ⟨hm,?_⟩;unfold excIn at q;split at q
 · rename_i dd cd sl ho
   split at q
   · rename_i C' bm k0 k1 k2 k3 n k5 hm hs
     simp only [Tr,beq_iff_eq,Wf] at q;obtain ⟨⟨⟨⟨⟨rfl,rfl⟩,Hc⟩,ht⟩,hok⟩,Hd⟩:=q;obtain ⟨nm,bs,mro,ns,qn,hd,sn,sub,ab,col,del⟩:=cd;dsimp only at hm Hc hok Hd;subst hm Hc
     have CG:sl=#[k0,k1,k2,k3,some (.builtin "ValueError.__new__"),k5]:=by
      obtain ⟨l⟩:=sl;simp only at hs;rw [hs]
     subst CG;exact ⟨bm,ns,nm,qn,bs,hd,sn,sub,ab,col,dd,k0,k1,k2,k3,k5,_,X _ _ ho,.of_isNs (isNs_of_in X hok),nsMap_none_of_in X hok Hd,tail_of_in X ht⟩
   · cases q
 · cases q
theorem bF {C:Sa} {x:Ss} {e0:TV} {te:TE} {np AZ pos:Wq} (F:ui K C) (hm:mg x=some (.ref C)) (he:PE (cA (CX1 P w) P w K mg base N qual scope f cd A outer s H E) e0 te)
 (hx:(Vg qual scope s.heap.objs.size f cd).kindOf x=some .globalImplicit:=by rfl)
 (AI:Tz [e0] (Vg qual scope s.heap.objs.size f cd)=[(false,U4 e0 (Vg qual scope s.heap.objs.size f cd))]:=by rfl) (hd:(x == ("__debug__":Ss))=false:=by decide) :
 PS (cA (CX1 P w) P w K mg base N qual scope f cd A outer s H E) (.Raise (some (.Call (.Name x np) [e0] [] AZ)) none pos) (yg te C E):=by
 intro pins s1 σ H1 D I h;obtain ⟨tl,N',nm,q,bs,hdct,sn,sub,ab,col,dd,k0,k1,k2,k3,k5,mN,hC,hN,Hd,T⟩:=(wu I.mod.kin F hm).obj
 refine wpAny_Raise_call_subT (C:=C) (nm:=nm) (q:=q) (N:=N') (bs:=bs) (bm:=tl) (hdct:=hdct) (sn:=sn) (sub:=sub) (ab:=ab) (col:=col) (dd:=dd) (k0:=k0) (k1:=k1) (k2:=k2) (k3:=k3) (k5:=k5)
  PySem.F.excBase_ValueError (mN:=mN) (T.hasType PySem.F.excBase_ValueError.hasBase) (I.ok.hd rfl) (by show (Wz AZ (Tz [e0] (Vg qual scope s.heap.objs.size f cd))).any (·.1)=false;rw [AI];rfl) Hd (iU I hx hm ⟨rfl,?_⟩ hd)
 show SI _ _ (evalArgs _ true (Wz AZ (Tz [e0] (Vg qual scope s.heap.objs.size f cd))) []) _ _ _;rw [AI];refine VC (Uq (thn (he pins s1 σ H1 _ I h) fun v s2 ⟨y,H2,I2,r2,q2⟩=>VB ⟨rfl,by show 1<=SQ;decide,I2.bk _ _ hC,hN.keeps I2.bk,T.keeps I2.bk,fun h' e hx=>?_⟩));show SI _ _ (leaving _ _) _ _ _;have FF:=I2.stack;have hl:∀ env∈Vg qual scope s.heap.objs.size f cd::outer,∀ a,env.frame=some a->a∈frs (Vg qual scope s.heap.objs.size f cd::outer):=fun env he a ha=>WN.mpr ⟨env,he,ha⟩;refine wpAny_leaves_madeW (base:=Wi s2.heap (frs (Vg qual scope s.heap.objs.size f cd::outer))) (h:=s2.heap) I.ok.frames rfl (fun b o z=>of_hideAll _ z) (funFrames_hide FF hl) hx fun h2 t Dc tup tn up=>?_;have nf:∀ b u,H2 b=some u->b∉frs (Vg qual scope s.heap.objs.size f cd::outer):=fun b u e z=>by rw [I2.stkFree b z] at e;cases e
 obtain ⟨U,Hb⟩:=rA (fs:=frs outer) (H:=H) (H1:=H2) (H':=H2) (h:=s.heap) (h1:=s2.heap) (h2:=h') (l:=frs (Vg qual scope s.heap.objs.size f cd::outer)) (B:=Wi s2.heap (frs (Vg qual scope s.heap.objs.size f cd::outer))) (h':=h2) I2.base (Un.kept hx.keeps) (fun b o hb z=>by
  rw [px (L:=s.heap.objs.size) rfl] at z;rcases Sn.mp z with rfl | z
  · exact absurd (SD hb) (TM _)
  · exact z) (fun b o hb z=>⟨o,hideAll_get _ hb z,fun _=>rfl⟩) Dc.1 up (fun b hb=>⟨I.ok.frf b hb,(I.ok.funs.mem hb).2⟩)
 have b2:∀ b u,H2 b=some u->∃ o',(Wi s2.heap (frs (Vg qual scope s.heap.objs.size f cd::outer))).get? b=some o':=fun b u e=>by
  obtain ⟨o,ho⟩:=(I2.hok b u e).there;exact ⟨o,hideAll_get _ ho (nf b u e)⟩
 exact ⟨e,C,.ref t,_,H2,rfl,I2.os,I2.bare,U,lf I2.hok (fun b o z=>of_hideAll _ z) Dc.1 b2,Dc,Hb,b2,q2⟩
end
end L2
namespace L2
open PySem PySem.Spec PySem.Calls PyProof.Rows PySem.W
section
variable {X:Cx} {pins:List (Sa×UU)} {σ:St} {H:Hp} {s:Sf}
def Cx.tryB (X:Cx) (pins:List (Sa×UU)) (R:St->Sb->Hp->Prop):Cx:={ X with
 pn:=X.pn++pins
 xe:=fun e s'=>∃ AV H1 s1,Inv X pins AV H1 s1/\CX1 X.prog X.w X.stack H1 s1 (fun c _ H'=>R AV c H') e s' }
def Cx.suite (X:Cx) (ea:Sa) (oe:UU):Cx:={ X with
 A:=X.A.mark (some (.ref ea))
 calm:=false
 pn:=X.pn++[(ea,oe)]
 xe:=fun _ _=>False }
theorem Inv.tryB (I:Inv X pins σ H s) (R:St->Sb->Hp->Prop):Inv (X.tryB pins R) [] σ H s :=
 ⟨⟨I.ok.mod,I.ok.kind,I.ok.glob,I.ok.blt,I.ok.above,I.ok.inj,I.ok.has,I.ok.cab,I.ok.hd,I.ok.frames,I.ok.stk,I.ok.exf,I.ok.bs,I.ok.bsz,I.ok.noex,I.ok.exfs,I.ok.funs,I.ok.frf⟩,
   I.os,I.bare,I.base,I.loc,I.cell,I.free,I.freeC,fun p hp=>I.pin p (by simpa [Cx.tryB] using hp),I.hok,I.len⟩
theorem Inv.untryB {R:St->Sb->Hp->Prop} {AE:List (Sa×UU)} (I:Inv (X.tryB pins R) AE σ H s):Inv X pins σ H s :=
 ⟨⟨I.ok.mod,I.ok.kind,I.ok.glob,I.ok.blt,I.ok.above,I.ok.inj,I.ok.has,I.ok.cab,I.ok.hd,I.ok.frames,I.ok.stk,I.ok.exf,I.ok.bs,I.ok.bsz,I.ok.noex,I.ok.exfs,I.ok.funs,I.ok.frf⟩,
   I.os,I.bare,I.base,I.loc,I.cell,I.free,I.freeC,fun p hp=>I.pin p (T7 _ hp),I.hok,I.len⟩
theorem Inv.suite {ea:Sa} {oe:UU} (I:Inv X pins σ H s) (h:s.heap.get? ea=some oe/\H ea=none/\ea≠X.env.locals/\ea∉X.fs/\∀ v,oe.data≠.cell v):Inv (X.suite ea oe) pins σ H s :=
 ⟨⟨I.ok.mod,I.ok.kind,I.ok.glob,I.ok.blt,I.ok.above,I.ok.inj,I.ok.has,I.ok.cab,(fun z=>nomatch z),I.ok.frames,I.ok.stk,I.ok.exf,I.ok.bs,I.ok.bsz,I.ok.noex,I.ok.exfs,I.ok.funs,I.ok.frf⟩,
   I.os,I.bare,I.base,I.loc,I.cell,I.free,I.freeC,fun p hp=>by
    have hp:p∈(X.pn++[(ea,oe)])++pins:=hp;rcases Sv.mp hp with hp | hp
    · rcases Sv.mp hp with hp | hp
      · exact I.pin p (T7 _ hp)
      · obtain rfl:=Sy.mp hp;exact h
    · exact I.pin p (SU _ hp),I.hok,I.len⟩
theorem Inv.unsuite {ea:Sa} {oe:UU} (I:Inv (X.suite ea oe) pins σ H s) (hd:X.calm=true->X.A.handled=none):Inv X pins σ H s :=
 ⟨⟨I.ok.mod,I.ok.kind,I.ok.glob,I.ok.blt,I.ok.above,I.ok.inj,I.ok.has,I.ok.cab,hd,I.ok.frames,I.ok.stk,I.ok.exf,I.ok.bs,I.ok.bsz,I.ok.noex,I.ok.exfs,I.ok.funs,I.ok.frf⟩,
   I.os,I.bare,I.base,I.loc,I.cell,I.free,I.freeC,fun p hp=>I.pin p (by
    show p∈(X.pn++[(ea,oe)])++pins;rcases Sv.mp hp with hp | hp
    · exact T7 _ (T7 _ hp)
    · exact SU _ hp),I.hok,I.len⟩
end
structure Hit (K:Frag) (C Ch:Sa):Prop where
 exc:ui K C
 hit:exmOne K (.ref C) (.ref Ch)=some true
theorem SP.untryB {X:Cx} {pins:List (Sa×UU)} {R:St->Sb->Hp->Prop} {D:Ends} {f:Flow} {s':Sf} (h:SP (X.tryB pins R) [] D f s'):SP X pins D f s':=by
 cases f with
 | next=>obtain ⟨f',H',I,q⟩:=h;exact ⟨f',H',I.untryB,q⟩
 | brk=>obtain ⟨f',H',I,q⟩:=h;exact ⟨f',H',I.untryB,q⟩
 | cont=>obtain ⟨f',H',I,q⟩:=h;exact ⟨f',H',I.untryB,q⟩
 | ret u=>obtain ⟨v,f',H',I,r,q⟩:=h;exact ⟨v,f',H',I.untryB,r,q⟩
end L2
namespace L2
open PySem PySem.Spec PySem.Calls PyProof.Rows PySem.W
section
variable {P:SX} {w:Tq} {K:R8} {mg:Ss->Option Sb} {base:T2}
theorem Fun.ok1 {x qual:Ss} {st:Uo} {f:Sa} {fd:Vs} {N ps:List Ss} {k:Nat} {sp:Sp} (F:Fun K x qual st f fd) (S:az N ps (ak st)) (len:∀ vs H Q E,sp vs H Q E->vs.length=ps.length)
 (BG:∀ (Aj:Sb) (A:Tj) (outer:List XC) (s:Sf) (H:Hp) (vs:List V) (Q:VK) (E:XK),Room k (A.deeper (Vg qual (ak st) s.heap.objs.size f Aj))->sp vs H Q E →
  ∃ t,PSs (cA (CX1 P w) P w K mg base N qual (ak st) f Aj A outer s H E) (bz st) t/\t { nx:=fun _ H'=>Q .non H',rt:=Q } (start N vs) H):bj P w K mg base (CX1 P w) (k+1) f fd ps sp:=by
 obtain ⟨oc,od,kV,doc,pm,an,Aj,ct,Ep,rfl,lk,C6⟩:=F.ex;exact xJ lk C6 S len fun A outer s H vs Q E hr BV=>BG Aj A outer s H vs Q E hr BV
end
def uG (sp:Sp) (Br:List V) (R:St->Sb->Hp->Prop) (t:TA):TE:=fun σ H Q=>t σ H fun vs H1=>sp (vs++Br) H1 Q fun c _ H'=>R σ c H'
theorem vq {X:Cx} {pins:List (Sa×UU)} {R:St->Sb->Hp->Prop} {k:Nat} {f:Sa} {fd:Vs} {ps:List Ss} {sp:Sp} {Br:List V} {ds:List Sb} {x:Ss} {p pos:Wq} {e:TV} {es:List TV} {t:TA}
 (F:bj X.prog X.w X.K X.mg X.base (CX1 X.prog X.w) k f fd ps sp) (hr:Room k X.A) (hg:Gl X x) (hm:X.mg x=some (.ref f)) (hk:UX X.K (.ref f)=true) (hb:Binds X.K fd ps ds) (hd:Vals Br ds)
 (ha:PA (X.tryB pins R) (e::es) t) (DB:(x == ("__debug__":Ss))=false:=by decide) (he:Tz (e::es) X.env=(false,U4 e X.env)::Tz es X.env:=by rfl) (Bj:(Wz pos (Tz es X.env)).any (·.1)=false:=by rfl) :
 PE (X.tryB pins R) (.Call (.Name x p) (e::es) [] pos) (uG sp Br R t):=by
 intro AE s σ H Q I h;refine U0 (iU I hg hm ?_ DB);refine XT (h₀:=X.base) I.ok.mod.kin hk (thn (ha pos AE s σ H _ I h) fun us s1 ⟨vs,H1,I1,r,q⟩=>⟨I1.kIn,?_⟩) he Bj;have r2:Vals (vs++Br) (us++ds):=r.append hd;have hl:(us++ds).length=ps.length:=by rw [<- r2.length];exact F.len _ _ _ _ q
 refine wpAny_call (Wx (F.run X.A X.stack s1 H1 ⟨us,[]⟩ (us++ds) (vs++Br) Q _ hr I1.env0 (hb s1 us I1.kIn hl) r2 q) fun r s' hq=>?_);cases r with
 | error e=>exact ⟨σ,H1,s1,I1.untryB,hq⟩
 | ok fl =>
   cases fl with
   | ret u=>exact I1.after hq
   | next=>exact UC hq
   | brk=>exact UC hq
   | cont=>exact UC hq
end L2
namespace L2
open PySem PySem.Spec PySem.Calls PyProof.Rows PySem.SeqAt
theorem jA {k:Nat} {A:Tj} (hr:Room k A):A.units+2<WC:=by
 have:=hr.units;omega
end L2
namespace L2
open PySem PySem.Spec PySem.Calls PyProof.Rows
def Its (x:Ss):It:=⟨fun i _=>i<x.cps.size,fun i H v H'=>H'=H/\∃ c,x.cps[i]?=some c/\v=.str ⟨#[c]⟩,fun i _=>x.cps.size=i⟩
theorem mz {P:SX} {w:Tq} {K:R8} {tg:TV} (x:Ss) (t:Tok) (it:Sa):Turn P w K tg (Its x) [it] it (fun i h=>h.IsStrIter it "str_ascii_iterator" x t i) where
 mem:=by simp
 obj:=fun i h st b hb=>by
  have e:b=it:=by simpa using hb
  subst e;obtain ⟨o,e,c,d⟩:=st;exact ⟨o,e,fun v z=>by rw [d] at z;cases z⟩
 keep:=fun i h h' st k=>let ⟨o,ho,r⟩:=st;⟨o,k it (by simp) o ho,r⟩
 item:=by
  intro X hP hw hK hc i pins s σ H E I hf st hg;subst hP hw hK;obtain ⟨f0,f1,f2,f3,f4,f5⟩:=hf it (by simp);have hg:i<x.cps.size:=hg;refine wpAny_pyNext_ascii_item st (c:=x.cps[i]) (by simp [hg]) fun h' By sb=>?_;have I1:Inv X pins σ H { s with heap:=h',toks:=s.toks+1 }:=I.turned (fun b o hb e=>(sb.2 b hb).trans e) f0 f1 f3 f4 f5;obtain ⟨o,e,c,d⟩:=id By;exact ⟨_,rfl,lO (s:={ s with heap:=h',toks:=s.toks+1 }) e c d (by decide) ⟨.str ⟨#[x.cps[i]]⟩,H,I1,⟨_,rfl⟩,⟨rfl,_,by simp [hg],rfl⟩,By,fun b hb=>(hf b hb).1⟩⟩
 done:=by
  intro X hP hw hK hc i pins s σ H E I hf st hg;subst hP hw hK;obtain ⟨f0,f1,f2,f3,f4,f5⟩:=hf it (by simp);have hg:x.cps.size=i:=hg;exact wpAny_pyNext_ascii_end (I.ok.hd hc) st (by simp [<- hg]) fun h' eb=>⟨rfl,I.turned (t':=s.toks) (fun b o hb e=>eb b o hb e) f0 f1 f3 f4 f5⟩
 self:=fun _ _ _ _ _ st h=>wpAny_pyIter_striter_ascii st h
theorem ue {P:SX} {w:Tq} {K:R8} {tg:TV} (x:Ss) (t:Tok) (it:Sa):Turn P w K tg (Its x) [it] it (fun i h=>h.IsStrIter it "str_iterator" x t i) where
 mem:=by simp
 obj:=fun i h st b hb=>by
  have e:b=it:=by simpa using hb
  subst e;obtain ⟨o,e,c,d⟩:=st;exact ⟨o,e,fun v z=>by rw [d] at z;cases z⟩
 keep:=fun i h h' st k=>let ⟨o,ho,r⟩:=st;⟨o,k it (by simp) o ho,r⟩
 item:=by
  intro X hP hw hK hc i pins s σ H E I hf st hg;subst hP hw hK;obtain ⟨f0,f1,f2,f3,f4,f5⟩:=hf it (by simp);have hg:i<x.cps.size:=hg;refine wpAny_pyNext_wide_item st (c:=x.cps[i]) (by simp [hg]) fun h' By sb=>?_;have I1:Inv X pins σ H { s with heap:=h',toks:=s.toks+1 }:=I.turned (fun b o hb e=>(sb.2 b hb).trans e) f0 f1 f3 f4 f5;obtain ⟨o,e,c,d⟩:=id By;exact ⟨_,rfl,lO (s:={ s with heap:=h',toks:=s.toks+1 }) e c d (by decide) ⟨.str ⟨#[x.cps[i]]⟩,H,I1,⟨_,rfl⟩,⟨rfl,_,by simp [hg],rfl⟩,By,fun b hb=>(hf b hb).1⟩⟩
 done:=by
  intro X hP hw hK hc i pins s σ H E I hf st hg;subst hP hw hK;obtain ⟨f0,f1,f2,f3,f4,f5⟩:=hf it (by simp);have hg:x.cps.size=i:=hg;exact wpAny_pyNext_wide_end (I.ok.hd hc) st (by simp [<- hg]) fun h' eb=>⟨rfl,I.turned (t':=s.toks) (fun b o hb e=>eb b o hb e) f0 f1 f3 f4 f5⟩
 self:=fun _ _ _ _ _ st h=>wpAny_pyIter_striter_wide st h
def aaa (tl:TE):TI:=fun σ H R=>tl σ H fun v H1=>∃ x,v=.str x/\R (Its x) H1
theorem vX {X:Cx} {tg l:TV} {tl:TE} (hl:PE X l tl):PI X tg l (aaa tl):=by
 intro pins s σ H R I h;refine thn (hl pins s σ H _ I h) fun v s1 ⟨y,H1,I1,r1,q1⟩=>?_;obtain ⟨x,rfl,q⟩:=q1;obtain ⟨t,rfl⟩:=r1
 have fp:∀ b∈[s1.heap.objs.size],eV X pins H1 b:=fun b hb=>by
  have e:b=s1.heap.objs.size:=by simpa using hb
  subst e;exact I1.fpOk (Sg _) (I1.hok.fresh (Sg _))
 cases ha:x.cps.all (·<128)
 · refine wpAny_pyIter_wide ha ?_;exact ⟨s1.heap.objs.size,[s1.heap.objs.size],_,_,H1,rfl,I1.kept (t':=s1.toks) fun b o e=>Se _ e,ue x t _,⟨_,Sx _ rfl,rfl,rfl⟩,fp,q⟩
 · refine wpAny_pyIter_ascii ha ?_;exact ⟨s1.heap.objs.size,[s1.heap.objs.size],_,_,H1,rfl,I1.kept (t':=s1.toks) fun b o e=>Se _ e,mz x t _,⟨_,Sx _ rfl,rfl,rfl⟩,fp,q⟩
end L2
namespace BB
open PySem
def dn (zs:List Ss):Nat->Nat
 | 0=>0
 | i+1=>if zs.getD i default∈zs.take i then dn zs i else dn zs i+1
theorem vM (zs:List Ss):∀ i,dn zs i<=i
 | 0=>Sg _
 | i+1=>by
   have:=vM zs i;rw [dn];split <;> omega
theorem take_succ_get {zs:List Ss} {i:Nat} (h:i<zs.length):zs.take (i+1)=zs.take i++[zs.getD i default]:=by
 rw [List.take_succ_eq_append_getElem h];congr 2;simp [List.getD,h]
theorem qj (zs:List Ss):∀ i,i<=zs.length->(dn zs i=i↔(zs.take i).Nodup)
 | 0,_=>by simp [dn]
 | i+1,h=>by
   have ih:=qj zs i (by omega);have hle:=vM zs i;rw [take_succ_get (by omega),dn,Yc];by_cases hm:zs.getD i default∈zs.take i
   · rw [if_pos hm];constructor
     · intro z;omega
     · intro z;exact absurd rfl (z.2.2 _ hm _ (Sy.mpr rfl))
   · rw [if_neg hm];constructor
     · intro z;refine ⟨ih.mp (by omega),Uz.mpr ⟨by simp,WM⟩,fun a ha b hb=>?_⟩;rw [Sy.mp hb];rintro rfl;exact hm ha
     · intro z;have:=ih.mpr z.1;omega
end BB
namespace L2
open PySem PySem.Spec PySem.Calls PyProof.Rows BB
section
variable {prog:SX} {w:Tq} {A:Tj} {R:Result->Sf->Prop}
theorem oZ {l I S:Sa} {items:Array Sb} {zs:List Ss} (hh:A.in1.handled=none) (Ax:l≠I) (Ko:S≠I) (Kp:S≠l) (hi:∀ (i:Nat) (v:Sb),items[i]?=some v->∃ t,v=.str (zs.getD i default) t) (hlen:zs.length=items.size) (hb:items.size+1<scanBound) :
 ∀ (k i:Nat) (s:Sf),items.size - i=k->i<=items.size->s.heap.IsListIter I l i->s.heap.IsList l items->s.heap.SetOf (strKind prog w) S (fun x=>decide (x∈zs.take i)) (dn zs i) →
   (∀ h' tk,(∀ b o,b≠S->b≠I->s.heap.get? b=some o->h'.get? b=some o)->h'.SetOf (strKind prog w) S (fun x=>decide (x∈zs)) (dn zs zs.length)->R (.ok (.ret .none)) { s with heap:=h',toks:=tk }) →
   Wy (SY prog w) A (.builtin "set.update.loop" ⟨[.ref S,.ref I],[]⟩) R s:=by
 intro k;induction k with
 | zero =>
   intro i s hk Kq AI hl hS hR;have GY:i=items.size:=by omega
   subst GY;refine codeAny_builtin XH ?_;rw [Around.under_plainId VW _];show SI _ A.in1 (X1 (.ref I) >>= _) _ _ s;refine R9 (wpAny_pyNext_list_end hh AI hl (by simp) fun h' eb=>?_);show SI _ A.in1 (ret Ux) _ _ _;refine SA (hR h' s.toks (fun b o _ Jf e=>eb b o Jf e) ?_);obtain ⟨o,es,ep,t,ho,rest⟩:=hS;rw [<- hlen,VA] at rest;exact ⟨o,es,ep,t,eb S o Ko ho,rest⟩
 | succ k ih =>
   intro i s hk Kq AI hl hS hR;have AD:i<items.size:=by omega
   refine codeAny_builtin XH ?_;rw [Around.under_plainId VW _];show SI _ A.in1 (X1 (.ref I) >>= _) _ _ s;have Dd:items[i]?=some items[i]:=by simp [AD]
   refine R9 (wpAny_pyNext_list_item AI hl Dd fun h' By sb=>?_);obtain ⟨t,ht⟩:=hi i _ Dd;rw [ht];have Cz:h'.IsList l items:=let ⟨o,e,r⟩:=hl;⟨o,(sb.2 l Ax).trans e,r⟩
   have A7:h'.SetOf (strKind prog w) S (fun x=>decide (x∈zs.take i)) (dn zs i):=by
    obtain ⟨o,es,ep,tb,ho,rest⟩:=hS;exact ⟨o,es,ep,tb,(sb.2 S Ko).trans ho,rest⟩
   show SI _ A.in1 (holding [Value.str (zs.getD i default) t] (setAdd S (.str (zs.getD i default) t)) >>= _) _ _ _;refine R9 (Ve ?_);unfold setAdd;refine Ve ?_;refine R9 ((strKind prog w).pyHash (k:=zs.getD i default) (strKind_is _ _ _ _) ?_);have He:dn zs i+1<scanBound:=by have:=vM zs i;omega
   refine wpAny_setAddHashed_of (knd:=strKind prog w) (strKind_is _ _ _ _) rfl A7 He fun h2 CC F6=>?_
   have Ee:h2.SetOf (strKind prog w) S (fun x=>decide (x∈zs.take (i+1))) (dn zs (i+1)):=by
    refine PyProof.Rows.SetOf_congr F6 (fun x=>?_) ?_
    · rw [take_succ_get (by omega)];simp
    · rw [dn];by_cases hm:zs.getD i default∈zs.take i
      · rw [if_pos hm,if_pos (by simpa using hm)]
      · rw [if_neg hm,if_neg (by simpa using hm)]
   have Eo:h2.IsListIter I l (i+1):=let ⟨o,e,r⟩:=By;⟨o,(CC.2 I (VE Ko)).trans e,r⟩
   have AW:h2.IsList l items:=let ⟨o,e,r⟩:=Cz;⟨o,(CC.2 l (VE Kp)).trans e,r⟩
   refine SA ⟨plainId_quiet VW _,ih (i+1) _ (by omega) AD Eo AW Ee fun h4 tk k4 S4=>?_⟩;exact hR h4 tk (fun b o MM Jf e=>k4 b o MM Jf ((CC.2 b MM).trans ((sb.2 b Jf).trans e))) S4
end
end L2
namespace PySem
section
variable {prog:SX} {w:Tq} {A:Tj} {E:Sb->Sf->Prop} {s:Sf}
set_option maxHeartbeats 3200000 in
theorem bb_set_strs {l:Sa} {items:Array Sb} {zs:List Ss} {Q:Sb->Sf->Prop} (hh:A.handled=none) (hl:s.heap.IsList l items) (hi:∀ (i:Nat) (v:Sb),items[i]?=some v->∃ t,v=.str (zs.getD i default) t) (hlen:zs.length=items.size) (hb:items.size+1<scanBound)
 (h:∀ (h':T2) (tk:Nat),h'.SetOf (strKind prog w) s.heap.objs.size (fun x=>decide (x∈zs)) (BB.dn zs zs.length)->(∀ b o,b<s.heap.objs.size->s.heap.get? b=some o->h'.get? b=some o)->Q (.ref s.heap.objs.size) { s with heap:=h',toks:=tk }) :
 SI (SY prog w) A (call (.type "set") [.ref l]) Q E s:=by
 obtain ⟨c,tl,OR⟩:=V8.mro;have MN:=V8.made;have B2:=V8.sub;have h1:=V8.notType;have h2:=V8.canCreate;have F7:=F.typeCall_set_1 (.ref l);refine wpAny_call (codeAny_of_tree ?_);show SI _ _ (callAny (.type "set") _) _ _ _;refine SA ⟨Code.quiet_builtin _ (by decide +kernel),codeAny_builtin F.entry_type_call ?_⟩;rw [Around.under_plain (weight_type_call_type "set" [.ref l] []) rfl]
 repeat (any_goals (first | assumption | wp_step))
 refine Wx (code_set_new_1 (.ref l) (E:=E) (Q₁:=fun obj Aa=>∃ led:Bool,obj=.ref s.heap.objs.size/\Aa={ s with heap:=s.heap.push { cls:=.type "set",dict:=none,data:=.set #[] 0 (.fresh 0 0 led) } }) fun led=>⟨led,rfl,rfl⟩) fun r Aa hr=>?_;cases r with
 | error e=>exact hr
 | ok fl =>
   cases fl with
   | next=>exact hr.elim
   | brk=>exact hr.elim
   | cont=>exact hr.elim
   | ret obj =>
     obtain ⟨led,rfl,rfl⟩:=hr;have hS:(s.heap.push { cls:=.type "set",dict:=none,data:=.set #[] 0 (.fresh 0 0 led) }).get? s.heap.objs.size=some { cls:=.type "set",dict:=none,data:=.set #[] 0 (.fresh 0 0 led) }:=Sx _ rfl;have hT:Shared.TypeIs { s with heap:=s.heap.push { cls:=.type "set",dict:=none,data:=.set #[] 0 (.fresh 0 0 led) } } (.ref s.heap.objs.size) "set":=⟨_,hS,rfl⟩;have Kr:=V8.init.lookup;have Jg:=V8.init.bind (.ref s.heap.objs.size)
     repeat (any_goals (first | assumption | wp_step))
     refine Wx (codeAny_call_builtin (R:=wants (fun r Bi=>r=.none/\∃ h' tk,Bi={ s with heap:=h',toks:=tk }/\h'.SetOf (strKind prog w) s.heap.objs.size (fun x=>decide (x∈zs)) (BB.dn zs zs.length) ∧
      (∀ b o,b<s.heap.objs.size->s.heap.get? b=some o->h'.get? b=some o)) E) V8.init.plain F.entry_set_init (check_set_init_1 hT ?_)) fun Ks Bi Co=>?_
     · obtain ⟨ol,Ex,Bc,nl,Hf⟩:=hl;obtain ⟨OS,Hg,MO,Fn⟩:=ol;simp only at Bc Hf;subst Bc;subst Hf;have MP:l<s.heap.objs.size:=SD Ex;have Kt:(s.heap.push { cls:=.type "set",dict:=none,data:=.set #[] 0 (.fresh 0 0 led) }).get? l=some { cls:=.type "list",dict:=Hg,data:=.seq items nl,slots:=Fn }:=Se _ Ex;have OT:=F.sub_list_set;have OU:=F.sub_list_frozenset;have OV:(Value.type "list" == Value.type "dict")=false:=by decide
       have AX:(s.heap.push { cls:=.type "set",dict:=none,data:=.set #[] 0 (.fresh 0 0 led) }).IsList l items:=⟨_,Kt,rfl,nl,rfl⟩;unfold Builtin.«set.__init__» noKeywords Builtin.Frozenset.updateFrom;generalize OW:pyIter=PI
       wp_walk
       subst OW;refine Xg AX ?_;refine R9 (wpAny_runValue ?_);have Az:(s.heap.push { cls:=.type "set",dict:=none,data:=.set #[] 0 (.fresh 0 0 led) }).objs.size=s.heap.objs.size+1:=UG ..;refine L2.oZ (l:=l) (zs:=zs) (items:=items) (by simp [hh]) (by rw [Az];exact Ti (SF MP)) (by rw [Az];exact Ti (Ws _)) (UW MP) hi hlen hb (items.size - 0) 0 _ (by omega) (Td _) ⟨_,Sx _ rfl,rfl,rfl⟩ (AX.push _) ?_ ?_
       · have Dd:((s.heap.push { cls:=.type "set",dict:=none,data:=.set #[] 0 (.fresh 0 0 led) }).push { cls:=.type "list_iterator",data:=.fields #[.ref l,.int 0 0] }).get? s.heap.objs.size=some { cls:=.type "set",dict:=none,data:=.set #[] 0 (.fresh 0 0 led) }:=Se _ hS;exact PyProof.Rows.SetOf_congr ((PyProof.Rows.setObjOf_fresh (knd:=strKind prog w) led).setOf Dd (by unfold scanBound;omega)) (fun x=>by simp) rfl
       · intro h' tk kk S';show SI _ _ _ _ _ _;refine SA ?_;show SI _ _ (ret Ux) _ _ _;refine SA ⟨rfl,h',tk,rfl,S',fun b o BA e=>?_⟩;exact kk b o (Ti BA) (by rw [Az];exact Ti (SF BA)) (Se _ (Se _ e))
     · cases Ks with
       | error e=>exact Co
       | ok Hh =>
         cases Hh with
         | ret r =>
           obtain ⟨rfl,h',tk,rfl,A7,BY⟩:=Co
           repeat (any_goals (first | assumption | wp_step))
           exact h _ _ A7 BY
         | next=>exact Co.elim
         | brk=>exact Co.elim
         | cont=>exact Co.elim
end
end PySem
namespace L2
open PySem PySem.Spec PySem.Calls PyProof.Rows BB
def xf (P:SX) (w:Tq) (a:Sa) (zs:List Ss) (h:T2):Prop:=h.SetOf (strKind P w) a (fun x=>decide (x∈zs)) (dn zs zs.length)
theorem uq {X:Cx} (hc:X.calm=true):e9 X (.type "set") (fun xs H Q=>∃ p zs,xs=[.ref p]/\SqL X.K H p (zs.map V.str)/\zs.length<=4000/\∀ a,H a=none->Q (.ref a) (upd H a (.ext (xf X.prog X.w a zs)))):=by
 intro pins s σ H xs us Q I r h;obtain ⟨p,zs,rfl,hq,hz,q⟩:=h;obtain ⟨u,rfl,rx⟩:=vals1 r;cases rx;obtain ⟨its,r',pl,_⟩:=I.list hq;have hlen:=r'.length;rw [R5] at hlen;refine bb_set_strs (I.ok.hd hc) pl.isList (zs:=zs) (fun i v hv=>?_) (by simpa using hlen) (by rw [Si,<- hlen];show zs.length+1<4096;omega) fun h' tk hS kp=>?_
 · have Bq:its[i]?=some v:=by simpa using hv
   have Bo:i<its.length:=(Sj.mp Bq).1
   have Bv:(zs.map V.str)[i]?=some (.str (zs.getD i default)):=by
    rw [So,List.getD,R6 (by omega)];rfl
   obtain ⟨u,hu,ru⟩:=r'.get Bv;rw [Bq] at hu;cases hu;exact ru
 · have hk:∀ b o,s.heap.get? b=some o->h'.get? b=some o:=fun b o e=>kp b o (SD e) e;refine ⟨.ref s.heap.objs.size,_,I.laid (t':=tk) (o:=.ext (xf X.prog X.w s.heap.objs.size zs)) hk (Sg _) ?_,rfl,q _ (I.hok.fresh (Sg _))⟩;refine ⟨hS,?_,fun g1 g2 gs gk=>?_⟩
   · obtain ⟨o,_,_,_,ho,_⟩:=hS;exact ⟨o,ho⟩
   · obtain ⟨o,es,ep,t,ho,rest⟩:=gs;exact ⟨o,es,ep,t,gk o ho,rest⟩
theorem tT {X:Cx}:e9 X (.builtin "len") (fun xs H Q=>∃ a zs,xs=[.ref a]/\H a=some (.ext (xf X.prog X.w a zs))/\Q (.int (dn zs zs.length)) H):=by
 intro pins s σ H xs us Q I r h;obtain ⟨a,zs,rfl,ha,q⟩:=h;obtain ⟨u,rfl,rx⟩:=vals1 r;cases rx;obtain ⟨⟨o,es,ep,t,ho,hex,hd,_,_,hb,hf,hn⟩,_⟩:=(show ObjOk X.prog X.w H s.heap a (.ext (xf X.prog X.w a zs)) from I.hok a _ ha);have BA:es.size<4096:=hb;refine call_len_set ho hex hd hf (by omega) ?_;exact ⟨.int es.size,H,I.tok _,⟨_,rfl⟩,by rw [hn];exact q⟩
end L2
namespace L2
open PySem PySem.Spec PySem.Calls PyProof.Rows BB
section
variable {X:Cx}
def v0:R2:=fun x y H Q=>∃ i j,x=.str i/\y=.str j/\Q (.bl (!decide (j.cps.toList<i.cps.toList))) H
theorem gE:OpR X (UK .LtE) v0:=by
 intro pins s σ H x y v u Q I rx ry h;obtain ⟨i,j,rfl,rfl,q⟩:=h;obtain ⟨t,rfl⟩:=rx;obtain ⟨t',rfl⟩:=ry;exact PySem.P.le_str ⟨.bl _,H,I,rfl,q⟩
def aaq (K:R8) (tl:TE):TI:=fun σ H R=>tl σ H fun x H1=>∃ a,x=.ref a/\(((∃ xs,SqL K H1 a xs)/\R (Itl K a) H1)∨((∃ xs,SqT K H1 a xs)/\R (Itt K a) H1))
theorem uR {tg l:TV} {tl:TE} (hl:PE X l tl):PI X tg l (aaq X.K tl):=by
 intro pins s σ H R I h;refine thn (hl pins s σ H _ I h) fun v s1 ⟨x,H1,I1,r1,q1⟩=>?_;obtain ⟨a,e,q⟩:=q1;subst e;cases r1
 have fp:∀ b∈[s1.heap.objs.size],eV X pins H1 b:=fun b hb=>by
  have e:b=s1.heap.objs.size:=by simpa using hb
  subst e;exact I1.fpOk (Sg _) (I1.hok.fresh (Sg _))
 rcases q with ⟨⟨xs,hq⟩,q⟩ | ⟨⟨xs,hq⟩,q⟩
 · obtain ⟨its,rv,p,hz⟩:=I1.list hq;refine Xg p.isList ?_;exact ⟨s1.heap.objs.size,[s1.heap.objs.size],_,_,H1,rfl,I1.kept (t':=s1.toks) fun b o e=>Se _ e,nP a _,⟨_,Sx _ rfl,rfl,rfl⟩,fp,q⟩
 · obtain ⟨its,rv,p,hz⟩:=I1.tuple hq;refine W5 (show s1.heap.IsTuple a its.toArray from p) ?_;exact ⟨s1.heap.objs.size,[s1.heap.objs.size],_,_,H1,rfl,I1.kept (t':=s1.toks) fun b o e=>Se _ e,lZ a _,⟨_,Sx _ rfl,rfl,rfl⟩,fp,q⟩
end
end L2
namespace BB
open PySem L2
theorem qK {js:List (Option Nat)} {g:TG} {tt:TT} {te:TE} {σ:St} {H:Hp} {x:Ss} {fin:Sa->Hp->Prop} (f:Nat->Bool) (hz:x.cps.size<=100000)
 (Hi:∀ c H1 (Q:VK) (W':Hp->Prop),c∈x.cps.toList->Q (.bl (f c)) H1->g (.str ⟨#[c]⟩) (cσ js σ) H1 fun AB H2=>tt AB H2 fun b H3=>if b=true then te AB H3 Q else W' H3)
 (AL:∀ D H',H D=none->L2.Same H H'->H' D=some (.lst ((x.cps.toList.map f).map V.bl))->fin D H') :
 ∀ D,H D=none->∃ (n:Nat) (W:Nat->Hp->Prop),W 0 (upd H D (.lst []))/\cZ js g tt te σ (Its x) D n W fun H'=>fin D H':=by
 intro D hD;refine ⟨x.cps.size,fun i H'=>i<=x.cps.size/\L2.Same H H'/\H' D=some (.lst (((x.cps.toList.take i).map f).map V.bl)),⟨Td _,ai hD _,by rw [ae];rfl⟩,?_⟩;rintro i H' ⟨hi,s1,e1⟩;by_cases AD:i<x.cps.size
 · refine .inr ⟨AD,AD,fun v H1 hy=>?_⟩;obtain ⟨rfl,c,hc,rfl⟩:=hy;have BQ:x.cps.toList[i]?=some c:=by rw [VL];exact hc
   refine Hi c _ _ _ (Sd BQ) ⟨_,e1,?_,AD,?_,?_⟩
   · rw [R5,R5,SR,SE];have:SQ=16777216:=UJ;omega
   · exact aH s1 hD
   · rw [ae,take_snoc BQ];simp
 · have BS:i=x.cps.size:=by omega
   subst BS;refine .inl ⟨rfl,AL D H' hD s1 ?_⟩;rw [e1,S7 (by rw [SE];exact Sg _)]
theorem tj {α:Type} {js:List (Option Nat)} {g:TG} {tt:TT} {te:TE} {σ:St} {J:It} {H:Hp} {xs:List V} {fin:Sa->Hp->Prop} (zs:List α) (f:α->V) (hz:zs.length=xs.length) (hn:xs.length<=1000000)
 (Eu:∀ i H2,L2.Same H H2->i<xs.length->J.go i H2) (Bm:∀ H2,L2.Same H H2->J.stop xs.length H2) (CD:∀ (i:Nat) H2 x H3,L2.Same H H2->i<xs.length->J.yld i H2 x H3->H3=H2/\xs[i]?=some x)
 (hb:∀ (i:Nat) x z H2 (R:VK) (W':Hp->Prop),xs[i]?=some x->zs[i]?=some z->L2.Same H H2->(∀ H3,L2.Same H2 H3->R (f z) H3)->g x (cσ js σ) H2 fun AB H3=>tt AB H3 fun b H4=>if b=true then te AB H4 R else W' H4)
 (AL:∀ D H',H D=none->L2.Same H H'->H' D=some (.lst (zs.map f))->fin D H') :
 ∀ D,H D=none->∃ (n:Nat) (W:Nat->Hp->Prop),W 0 (upd H D (.lst []))/\cZ js g tt te σ J D n W fun H'=>fin D H':=by
 intro D hD;refine ⟨xs.length,fun i H'=>i<=xs.length/\L2.Same H H'/\H' D=some (.lst ((zs.take i).map f)),⟨Td _,ai hD _,by rw [ae];rfl⟩,?_⟩;rintro i H' ⟨hi,s1,e1⟩;by_cases AD:i<xs.length
 · refine .inr ⟨AD,Eu i H' s1 AD,fun v H1 hy=>?_⟩;obtain ⟨e,hx⟩:=CD i H' v H1 s1 AD hy;subst e;obtain ⟨z,Bv⟩:∃ z,zs[i]?=some z:=⟨_,R6 (by omega)⟩;refine hb i v z _ _ _ hx Bv s1 fun H3 s3=>⟨_,s3 _ _ e1,?_,AD,aH (s1.trans s3) hD,?_⟩
   · rw [R5,SR];have:SQ=16777216:=UJ;omega
   · rw [ae,take_snoc Bv,Sq];rfl
 · have BS:i=xs.length:=by omega
   subst BS;refine .inl ⟨Bm _ s1,AL D H' hD s1 ?_⟩;rw [e1,S7 (by omega)]
theorem du {α:Type} {K:R8} {a:Sa} {js:List (Option Nat)} {g:TG} {tt:TT} {te:TE} {σ:St} {H:Hp} {xs:List V} {fin:Sa->Hp->Prop} (zs:List α) (f:α->V) (hS:SqT K H a xs) (hz:zs.length=xs.length) (hn:xs.length<=1000000)
 (hb:∀ (i:Nat) x z H2 (R:VK) (W':Hp->Prop),xs[i]?=some x->zs[i]?=some z->L2.Same H H2->(∀ H3,L2.Same H2 H3->R (f z) H3)->g x (cσ js σ) H2 fun AB H3=>tt AB H3 fun b H4=>if b=true then te AB H4 R else W' H4)
 (AL:∀ D H',H D=none->L2.Same H H'->H' D=some (.lst (zs.map f))->fin D H') :
 ∀ D,H D=none->∃ (n:Nat) (W:Nat->Hp->Prop),W 0 (upd H D (.lst []))/\cZ js g tt te σ (Itt K a) D n W fun H'=>fin D H' :=
 tj zs f hz hn (fun i H2 s hi=>⟨xs,xs[i],s.seqT hS,R6 hi⟩) (fun H2 s=>⟨xs,s.seqT hS,Sg _⟩) (fun i H2 x H3 s hi hy=>⟨hy.1,hy.2 xs (s.seqT hS)⟩) hb AL
theorem ph {α:Type} {K:R8} {a:Sa} {js:List (Option Nat)} {g:TG} {tt:TT} {te:TE} {σ:St} {H:Hp} {xs:List V} {fin:Sa->Hp->Prop} (zs:List α) (f:α->V) (hS:SqL K H a xs) (hz:zs.length=xs.length) (hn:xs.length<=1000000)
 (hb:∀ (i:Nat) x z H2 (R:VK) (W':Hp->Prop),xs[i]?=some x->zs[i]?=some z->L2.Same H H2->(∀ H3,L2.Same H2 H3->R (f z) H3)->g x (cσ js σ) H2 fun AB H3=>tt AB H3 fun b H4=>if b=true then te AB H4 R else W' H4)
 (AL:∀ D H',H D=none->L2.Same H H'->H' D=some (.lst (zs.map f))->fin D H') :
 ∀ D,H D=none->∃ (n:Nat) (W:Nat->Hp->Prop),W 0 (upd H D (.lst []))/\cZ js g tt te σ (Itl K a) D n W fun H'=>fin D H' :=
 tj zs f hz hn (fun i H2 s hi=>⟨xs,xs[i],s.seq hS,R6 hi⟩) (fun H2 s=>⟨xs,s.seq hS,Sg _⟩) (fun i H2 x H3 s hi hy=>⟨hy.1,hy.2 xs (s.seq hS)⟩) hb AL
def low (z:Ss):Bool:=z.cps.toList.all fun c=>decide (97<=c/\c<=122)
def aP (z:Ss):Bool:=decide (1<=z.length/\z.length<=8) && low z
theorem oN (c d:Nat):(!decide (([d]:List Nat)<[c]))=decide (c<=d):=by
 have h:(([d]:List Nat)<[c])↔d<c:=by
  constructor
  · intro h;cases h with
    | rel h=>exact h
    | cons h=>cases h
  · intro h;exact List.Lex.rel h
 by_cases hc:c<=d
 · rw [decide_eq_true hc,decide_eq_false (fun z=>by have:=h.mp z;omega)];rfl
 · rw [decide_eq_false hc,decide_eq_true (h.mpr (by omega))];rfl
end BB
namespace HT
open PySem PySem.Spec PyProof.Rows
section
variable {prog:SX} {w:Tq} {A:Tj} {E:Sb->Sf->Prop} {s:Sf}
theorem adjust_back (n:Nat):Vv none none (-1) (n:Int)=((n:Int) - 1,-1):=rfl
theorem places_back (n:Nat):Ui ((n:Int) - 1) (-1) (-1)=n:=by
 unfold Ui;have h1:¬ ((-1:Int) > 0):=by omega
 simp only [h1,if_false];by_cases h:n=0
 · subst h;decide
 · have h2:((n:Int) - 1) > -1:=by omega
   simp only [h2,if_true];rw [show (- -1:Int)=1 by decide,Yh];omega
theorem pick_back (xs:Array Sb):((Tw xs.size).filterMap fun (m:Nat)=>xs[(((xs.size:Nat):Int) - 1+(m:Int) * (-1)).toNat]?).toArray=xs.toList.reverse.toArray:=by
 congr 1
 have e:∀ m∈Tw xs.size,xs[(((xs.size:Nat):Int) - 1+(m:Int) * (-1)).toNat]?=xs.toList.reverse[m]?:=by
  intro m hm;have OX:=UY.mp hm;rw [List.getElem?_reverse (by rw [SE];exact OX),VL,SE];congr 1;omega
 have f:∀ (l:List Nat) (f g:Nat->Option Sb),(∀ m∈l,f m=g m)->l.filterMap f=l.filterMap g:=by
  intro l f g;induction l with
  | nil=>intro _;rfl
  | cons y ys ih =>
    intro h;rw [Vy,Vy,h y (by simp),ih (fun m hm=>h m (by simp [hm]))]
 rw [f _ _ _ e]
 have gl:∀ (ys:List Sb),(Tw ys.length).filterMap (fun m=>ys[m]?)=ys:=by
  intro ys;have:=pick_run ys.toArray 0 ys.length;simp only [List.filterMap_map] at this
  have e3:((fun x=>ys.toArray[x]?) ∘ fun x=>0+x)=fun m=>ys[m]?:=by
   funext m;simp
  rw [e3] at this;rw [this];simp
 have:=gl xs.toList.reverse;rw [Vx,SE] at this;exact this
theorem sliceApplied_back {sl:Sa} {n:Nat} {t:Tok} {Q:Int×Int×Nat->Sf->Prop} (hs:s.heap.IsSliceOf sl .none .none (.int (-1) t))
 (h:Q ((n:Int) - 1,-1,n) s):SI (SY prog w) A (V4 (.ref sl) (pure (n:Int))) Q E s:=by
 obtain ⟨os,Cf,GR,Cg⟩:=id hs;unfold V4 Builtin.Slice.sliceFields;refine R9 (R9 (TH Cf Cg (x:=.none) rfl (R9 (TH Cf Cg (x:=.none) rfl (R9 (TH Cf Cg (x:=.int (-1) t) rfl (SA ?_)))))));refine R9 (slicePart_int ?_);show SI _ _ (if ((-1:Int) == 0)=true then _ else _) _ _ s;rw [if_neg (by decide)];refine R9 (slicePart_none (R9 (slicePart_none (R9 (SA ?_)))));show SI _ _ (match Vv none none (-1) (n:Int) with | (lo,hi)=>pure (lo,(-1:Int),Ui lo hi (-1))) _ _ s;rw [adjust_back n];show SI _ _ (pure ((n:Int) - 1,(-1:Int),Ui ((n:Int) - 1) (-1) (-1))) _ _ s;rw [places_back];exact SA h
theorem getItem_tuple_back {t sl:Sa} {items:Array Sb} {tk:Tok} {Q:Sb->Sf->Prop} (ht:IsTup s.heap t items) (hs:s.heap.IsSliceOf sl .none .none (.int (-1) tk))
 (h:Q (.ref s.heap.objs.size) { s with heap:=s.heap.push { cls:=.type "tuple",data:=.seq items.toList.reverse.toArray } })
 (Az:items.size<=SQ):SI (SY prog w) A (XF (.ref t) (.ref sl)) Q E s:=by
 have Bl:sizeOk (.seq items.toList.reverse.toArray):=by
  show items.toList.reverse.toArray.size<=SQ;rw [Si,Vx,SE];exact Az
 obtain ⟨os,Cf,GR,Cg⟩:=id hs;have J2:s.TypeIs (.ref sl) "slice":=⟨os,Cf,GR⟩;unfold XF
 try with_reducible refine Ve ?_
 first | refine R9 (SA ?_) | skip
 refine R9 (wpAny_sequenceKey ht.typeIs (by decide) ?_)
 refine R9 (U8 (name:=R4 "__getitem__") ht.typeIs Um
  (V7 Um ht.typeIs entry_tuple_getitem ?_ (args_tuple_getitem _ _)))
 show SI _ _ (Builtin.Tuple.tupleItemsOf (.ref t) >>= _) _ _ s;refine R9 (tupleItemsOf_ ht ?_);refine R9 (wpAny_typeOf J2 ?_);rw [if_pos (by decide)];refine R9 (sliceApplied_back hs ?_)
 have AJ:¬ ((((items.size:Nat):Int) - 1 == 0 && (-1:Int) == 1 && items.size == items.size)=true):=by
  simp
 show SI _ _ (if (((items.size:Nat):Int) - 1 == 0 && (-1:Int) == 1 && items.size == items.size)=true then _ else _) _ _ s;rw [if_neg AJ,pick_back]
 first
  | exact R9 (m:=Ul _) (Uh (SA ⟨_,rfl,SA h⟩) Bl)
  | exact R9 (m:=Ul _) (Uh (R9 (SA (SA ⟨_,rfl,SA h⟩))) Bl)
  | exact R9 (R9 (m:=Ul _) (Uh (SA (SA ⟨_,rfl,SA h⟩)) Bl))
  | exact R9 (R9 (m:=Ul _) (Uh (SA ⟨_,rfl,SA h⟩) Bl))
end
end HT
namespace L2
open PySem PySem.Spec PyProof.Rows
section
variable {X:Cx} {e:TV} {te:TE} {pos p2 p3 p4:Wq}
def BkR (X:Cx) (r:V->Hp->VK->Prop):Prop :=
 ∀ (pins:List (Sa×UU)) (s:Sf) (σ:St) (H:Hp) (x:V) (v:Sb) (t:Tok) (sl:Sa) (Q:VK),Inv X pins σ H s->RelV x v->s.heap.IsSliceOf sl .none .none (.int (-1) t)->r x H Q →
   ∃ T id,typeLookup (.type T) "__getitem__"=pure (some (.builtin id))/\s.TypeIs v T/\SI (SY X.prog X.w) X.A (XF v (.ref sl)) (EP X pins σ Q) X.xe s
def tBk (r:V->Hp->VK->Prop) (te:TE):TE:=fun σ H Q=>te σ H fun x H1=>r x H1 Q
theorem v9 {r:V->Hp->VK->Prop} (hr:BkR X r) (he:PE X e te):PE X (.Subscript e (.Slice none none (some (.UnaryOp .USub (.Constant (.int 1) 0 p3) p4)) p2) pos) (tBk r te):=by
 intro pins s σ H Q I h;refine Subscript_ (thn (he pins s σ H _ I h) fun v s1 ⟨x,H1,I1,r1,q1⟩=>?_);refine wpAny_Slice ?_;rw [evalPart_none];refine SA ?_;refine SA ?_;have OY:PO X (some (.UnaryOp .USub (.Constant (.int 1) 0 p3) p4)) (xr (tUn (rU fun i=>.int (-i)) (tC (.int 1)))):=aY (qu mU af);refine thn (OY pins s1 σ H1 (fun o H'=>o=some (-1)/\r x H' Q) I1 ⟨1,rfl,_,rfl,rfl,q1⟩) fun vs s2 ⟨o,H2,I2,ps,ho,q2⟩=>?_;subst ho;cases ps with
 | int i t =>
   have I4:Inv X pins σ H2 { s2 with heap:=s2.heap.push { cls:=.type "slice",data:=.fields #[.none,.none,.int (-1) t] } }:=I2.kept (t':=s2.toks) fun b ob q=>Se _ q;obtain ⟨T,id,hT,ht,hg⟩:=hr pins { s2 with heap:=s2.heap.push { cls:=.type "slice",data:=.fields #[.none,.none,.int (-1) t] } } σ H2 x v t s2.heap.objs.size Q I4 r1 (Heap.IsSliceOf.new ..) q2;show SI (SY X.prog X.w) X.A (subscriptTail e (.Slice none none (some (.UnaryOp .USub (.Constant (.int 1) 0 p3) p4)) p2) v (.ref s2.heap.objs.size)) (EP X pins σ Q) X.xe { s2 with heap:=s2.heap.push { cls:=.type "slice",data:=.fields #[.none,.none,.int (-1) t] } };exact tail_any (ops:=[v,.ref s2.heap.objs.size]) ht hT hg (by with_unfolding_all rfl)
def zX (K:R8):V->Hp->VK->Prop:=fun x H Q=>∃ a xs,x=.ref a/\SqT K H a xs/\∀ p,H p=none->Q (.ref p) (upd H p (.tup xs.reverse))
theorem Vals.rev {xs:List V} {us:List Sb} (r:Vals xs us):Vals xs.reverse us.reverse:=by
 induction r with
 | nil=>exact .nil
 | cons r1 r2 ih=>rw [Ub,Ub];exact ih.append (.cons r1 .nil)
theorem xS:BkR X (zX X.K):=by
 intro pins s σ H x v t sl Q I rx hs h;obtain ⟨a,xs,rfl,hx,q⟩:=h;cases rx;obtain ⟨its,r,ht,hz⟩:=I.tuple hx;have hlen:its.toArray.size=xs.length:=by rw [Si];exact r.length.symm
 refine ⟨"tuple",_,Um.lookup,ht.typeIs,?_⟩;refine HT.getItem_tuple_back ht hs ?_ (by rw [hlen];exact hz);refine ⟨.ref s.heap.objs.size,_,I.laid (t':=s.toks) (o:=.tup xs.reverse) (fun b ob q=>Se _ q) (Sg _) ?_,rfl,q _ (I.hok.fresh (Sg _))⟩;exact ⟨by rw [Vx];exact hz,_,0,r.rev,Sx _ rfl⟩
end
end L2
namespace L2
open PySem PySem.Spec PySem.Calls PyProof.Rows
section
variable {X:Cx}
end
end L2
namespace L2
open PySem PySem.Spec PySem.Calls PyProof.Rows
section
variable {X:Cx}
end
end L2
namespace BB
open PySem L2
mutual
/-- a pattern over kinds,its calls of so many states and kids -/
def Th.FitS (ks:List (Ss×Int)) (S C:Int):Th->Prop
 | .knot n ts=>(n,(ts.length:Int))∈ks/\FitSs ks S C ts
 | .call s k=>0<=s/\s<S/\0<=k/\k<C
def FitSs (ks:List (Ss×Int)) (S C:Int):List Th->Prop
 | []=>True
 | t::ts=>t.FitS ks S C/\FitSs ks S C ts
end
theorem FitSs.of {ks:List (Ss×Int)} {S C:Int}:∀ {ts:List Th},(∀ t∈ts,t.FitS ks S C)->FitSs ks S C ts
 | [],_=>by rw [FitSs];trivial
 | t::ts,h=>by
   rw [FitSs];exact ⟨h t (Sr ..),FitSs.of fun u hu=>h u (Sk _ hu)⟩
theorem nK {ts:List Th} {n:Nat} (h:∀ t∈ts,t.tall<=n):ba ts<=n:=by
 induction ts with
 | nil=>rw [ba];exact Td _
 | cons t ts ih =>
   rw [ba];have h1:=h t (Sr ..);have h2:=ih fun u hu=>h u (Sk _ hu);omega
def SameB (l:Sa) (H H':Hp):Prop:=∀ b o,b≠l->H b=some o->H' b=some o
theorem SameB.trans {l:Sa} {A B C:Hp} (h:SameB l A B) (k:SameB l B C):SameB l A C:=fun b o hb e=>k b o hb (h b o hb e)
theorem SameB.of {l:Sa} {H H':Hp} (h:L2.Same H H'):SameB l H H':=fun b o _ e=>h b o e
theorem SameB.set {l:Sa} {H:Hp} {o:HO}:SameB l H (upd H l o):=fun b o hb e=>by rw [aq hb];exact e
theorem SameB.kt {l:Sa} {H H':Hp} {xs:List V} (h:SameB l H H') (e:H l=some (.lst xs)):KT H H':=fun b ys eb=>h b _ (tm eb e (by intro z;cases z)) eb
def RowAt (H:Hp) (row:List Th) (a:Sa):Prop:=∃ as:List Sa,H a=some (.tup (as.map V.ref))/\Ats H row as
theorem RowAt.mono {H H':Hp} (k:KT H H') {row:List Th} {a:Sa} (h:RowAt H row a):RowAt H' row a:=by
 obtain ⟨as,h1,h2⟩:=h;exact ⟨as,k _ _ h1,h2.mono k⟩
structure BookAt (H:Hp) (ins outs:List (Ss×Int)) (head:Th) (rows:List (List Th)) (r ia oa ha ra:Sa) (Ar Ak A8:List Sa):Prop where
 bk:H r=some (.tup [.ref ia,.ref oa,.ref ha,.ref ra])
 inE:H ia=some (.tup (Ar.map V.ref))
 inK:KsAt H ins Ar
 outE:H oa=some (.tup (Ak.map V.ref))
 outK:KsAt H outs Ak
 hd:At H head ha
 rl:H ra=some (.tup (A8.map V.ref))
 rw:To (RowAt H) rows A8
theorem BookAt.mono {H H':Hp} (k:KT H H') {ins outs:List (Ss×Int)} {head:Th} {rows:List (List Th)} {r ia oa ha ra:Sa} {Ar Ak A8:List Sa} (b:BookAt H ins outs head rows r ia oa ha ra Ar Ak A8):BookAt H' ins outs head rows r ia oa ha ra Ar Ak A8 :=
 ⟨k _ _ b.bk,k _ _ b.inE,b.inK.mono k,k _ _ b.outE,b.outK.mono k,b.hd.mono k,k _ _ b.rl,P2.mp (fun _ _ e=>e.mono k) b.rw⟩
theorem tG {z:Ss} {n:Nat} (h:n<=z.length):(db z none (some (n:Int))).cps.toList=z.cps.toList.take n/\(db z none (some (n:Int))).length=n:=by
 have hz:z.cps.toList.length=z.length:=SE
 have e:(db z none (some (n:Int))).cps.toList=z.cps.toList.take n:=by
  show (jc z.cps.toList none (some (n:Int))).toArray.toList=_;rw [List.toList_toArray];unfold jc;rw [HT.sIx_nat,HT.sIx_none,hz,Vi h];simp
 refine ⟨e,?_⟩;show (db z none (some (n:Int))).cps.size=n;rw [<- SE,e,SR,hz];omega
end BB
namespace BB
open PySem L2
def Bk (H:Hp) (ins outs:List (Ss×Int)) (head:Th) (rows:List (List Th)) (r:Sa):Prop:=∃ ia oa ha ra Ar Ak A8,BookAt H ins outs head rows r ia oa ha ra Ar Ak A8
theorem Bk.mono {H H':Hp} (k:KT H H') {ins outs:List (Ss×Int)} {head:Th} {rows:List (List Th)} {r:Sa} (b:Bk H ins outs head rows r):Bk H' ins outs head rows r:=by
 obtain ⟨ia,oa,ha,ra,Ar,Ak,A8,b⟩:=b;exact ⟨ia,oa,ha,ra,Ar,Ak,A8,b.mono k⟩
end BB
namespace L2
open PySem PySem.Spec PySem.Calls PyProof.Rows PySem.SeqAt
end L2
namespace BB
open PySem L2
end BB
namespace L2
open PySem PySem.Spec PyProof.Rows
section
variable {X:Cx} {e:TV} {te:TE} {p p2 pos BJ:Wq}
end
end L2
namespace BB
open PySem L2
theorem lj {α:Type} {F:Hp->α->Sa->Prop} {js:List (Option Nat)} {g:TG} {tt:TT} {te:TE} {σ:St} {J:It} {H:Hp} {xs:List V} {fin:Sa->Hp->Prop} (zs:List α) (hF:∀ H1 H2 z p,KT H1 H2->F H1 z p->F H2 z p) (hz:zs.length=xs.length) (hn:xs.length<=1000000)
 (Eu:∀ i H2,L2.Same H H2->i<xs.length->J.go i H2) (Bm:∀ H2,L2.Same H H2->J.stop xs.length H2) (CD:∀ (i:Nat) H2 x H3,L2.Same H H2->i<xs.length->J.yld i H2 x H3->H3=H2/\xs[i]?=some x)
 (hb:∀ (i:Nat) x z H2 (R:VK) (W':Hp->Prop),xs[i]?=some x->zs[i]?=some z->L2.Same H H2->(∀ H3 p,L2.Same H2 H3->F H3 z p->R (.ref p) H3)->g x (cσ js σ) H2 fun AB H3=>tt AB H3 fun b H4=>if b=true then te AB H4 R else W' H4)
 (AL:∀ D H' as,H D=none->L2.Same H H'->H' D=some (.lst (as.map V.ref))->To (F H') zs as->fin D H') :
 ∀ D,H D=none->∃ (n:Nat) (W:Nat->Hp->Prop),W 0 (upd H D (.lst []))/\cZ js g tt te σ J D n W fun H'=>fin D H':=by
 intro D hD;refine ⟨xs.length,fun i H'=>i<=xs.length/\L2.Same H H'/\∃ as:List Sa,H' D=some (.lst (as.map V.ref))/\To (F H') (zs.take i) as,⟨Td _,ai hD _,[],by rw [ae];rfl,.nil⟩,?_⟩;rintro i H' ⟨hi,s1,as,e1,hp⟩;by_cases AD:i<xs.length
 · refine .inr ⟨AD,Eu i H' s1 AD,fun v H1 hy=>?_⟩;obtain ⟨e,hx⟩:=CD i H' v H1 s1 AD hy;subst e;obtain ⟨z,Bv⟩:∃ z,zs[i]?=some z:=⟨_,R6 (by omega)⟩;have hl:(zs.take i).length=as.length:=SK hp;rw [SR] at hl;refine hb i v z _ _ _ hx Bv s1 fun H3 p s3 Ku=>⟨_,s3 _ _ e1,?_,AD,aH (s1.trans s3) hD,as++[p],?_,?_⟩
   · rw [R5];have:SQ=16777216:=UJ;omega
   · rw [ae,Sq];rfl
   · have kt:KT H3 (upd H3 D (.lst (as.map V.ref++[.ref p]))):=bD (s3 _ _ e1);rw [take_snoc Bv];exact P2.append (P2.mp (fun x y e=>hF _ _ _ _ ((Same.kt s3).trans kt) e) hp) (.cons (hF _ _ _ _ kt Ku) .nil)
 · have BS:i=xs.length:=by omega
   subst BS;refine .inl ⟨Bm _ s1,AL D H' as hD s1 e1 ?_⟩;rw [S7 (by omega)] at hp;exact hp
theorem wc {α:Type} {F:Hp->α->Sa->Prop} {js:List (Option Nat)} {g:TG} {tt:TT} {te:TE} {σ:St} {J:It} {H:Hp} {xs:List V} {fin:Sa->Hp->Prop} (zs:List α) (hF:∀ H1 H2 z p,KT H1 H2->(∀ o,H1 p=some o->H2 p=some o)->F H1 z p->F H2 z p) (hz:zs.length=xs.length) (hn:xs.length<=1000000)
 (Eu:∀ i H2,L2.Same H H2->i<xs.length->J.go i H2) (Bm:∀ H2,L2.Same H H2->J.stop xs.length H2) (CD:∀ (i:Nat) H2 x H3,L2.Same H H2->i<xs.length->J.yld i H2 x H3->H3=H2/\xs[i]?=some x)
 (hb:∀ (i:Nat) x z H2 (R:VK) (W':Hp->Prop),xs[i]?=some x->zs[i]?=some z->L2.Same H H2->(∀ H3 p,L2.Same H2 H3->H2 p=none->F H3 z p->R (.ref p) H3)->g x (cσ js σ) H2 fun AB H3=>tt AB H3 fun b H4=>if b=true then te AB H4 R else W' H4)
 (AL:∀ D H' as,H D=none->L2.Same H H'->H' D=some (.lst (as.map V.ref))->To (F H') zs as->fin D H') :
 ∀ D,H D=none->∃ (n:Nat) (W:Nat->Hp->Prop),W 0 (upd H D (.lst []))/\cZ js g tt te σ J D n W fun H'=>fin D H':=by
 intro D hD;refine ⟨xs.length,fun i H'=>i<=xs.length/\L2.Same H H'/\∃ as:List Sa,H' D=some (.lst (as.map V.ref))/\To (fun z a=>F H' z a/\a≠D) (zs.take i) as,⟨Td _,ai hD _,[],by rw [ae];rfl,.nil⟩,?_⟩;rintro i H' ⟨hi,s1,as,e1,hp⟩;by_cases AD:i<xs.length
 · refine .inr ⟨AD,Eu i H' s1 AD,fun v H1 hy=>?_⟩;obtain ⟨e,hx⟩:=CD i H' v H1 s1 AD hy;subst e;obtain ⟨z,Bv⟩:∃ z,zs[i]?=some z:=⟨_,R6 (by omega)⟩;have hl:(zs.take i).length=as.length:=SK hp;rw [SR] at hl;refine hb i v z _ _ _ hx Bv s1 fun H3 p s3 np Ku=>⟨_,s3 _ _ e1,?_,AD,aH (s1.trans s3) hD,as++[p],?_,?_⟩
   · rw [R5];have:SQ=16777216:=UJ;omega
   · rw [ae,Sq];rfl
   · have kt:KT H3 (upd H3 D (.lst (as.map V.ref++[.ref p]))):=bD (s3 _ _ e1);have Dp:p≠D:=fun z=>by rw [z,e1] at np;cases np
     rw [take_snoc Bv];exact P2.append (P2.mp (fun x y e=>⟨hF _ _ _ _ ((Same.kt s3).trans kt) (fun o ho=>by rw [aq e.2];exact s3 _ _ ho) e.1,e.2⟩) hp) (.cons ⟨hF _ _ _ _ kt (fun o ho=>by rw [aq Dp];exact ho) Ku,Dp⟩ .nil)
 · have BS:i=xs.length:=by omega
   subst BS;refine .inl ⟨Bm _ s1,AL D H' as hD s1 e1 ?_⟩;rw [S7 (by omega)] at hp;exact P2.mp (fun _ _ e=>e.1) hp
end BB
namespace L2
open PySem PySem.Spec PyProof.Rows
end L2
namespace L2
open PySem
theorem us1 {α:Type}:∀ {us:List α},us.length=1->∃ a,us=[a]
 | [a],_=>⟨a,rfl⟩
theorem us2 {α:Type}:∀ {us:List α},us.length=2->∃ a b,us=[a,b]
 | [a,b],_=>⟨a,b,rfl⟩
theorem us3 {α:Type}:∀ {us:List α},us.length=3->∃ a b c,us=[a,b,c]
 | [a,b,c],_=>⟨a,b,c,rfl⟩
theorem us4 {α:Type}:∀ {us:List α},us.length=4->∃ a b c d,us=[a,b,c,d]
 | [a,b,c,d],_=>⟨a,b,c,d,rfl⟩
theorem us5 {α:Type}:∀ {us:List α},us.length=5->∃ a b c d e,us=[a,b,c,d,e]
 | [a,b,c,d,e],_=>⟨a,b,c,d,e,rfl⟩
end L2
namespace PySem
open Sem (wp)
section
variable {prog:SX} {w:Tq} {K:Type} [DecidableEq K] {knd:HeapKind prog w K} {A:Tj} {E:Sb->Sf->Prop} {s:Sf}
end
end PySem
namespace L2
open PySem PySem.Spec PyProof.Rows BB
end L2
namespace BB
open PySem L2
end BB
namespace PySem
open Sem (wp)
section
variable {prog:SX} {w:Tq} {A:Tj} {E:Sb->Sf->Prop} {s:Sf} {I:Sa} {fp wr:List Sa} {G:Array GenState->Array GenState->Prop} {n:Nat} {P:Nat->Sb->Prop} {St:Nat->Sf->Prop}
end
end PySem
namespace L2
open PySem PySem.Spec PyProof.Rows
section
variable {X:Cx} {o e:TV} {to te:TE} {p2 BJ apos AZ:Wq}
def yO:List V->Hp->VK->Prop:=fun xs H Q=>∃ i:Int,xs=[.int i]/\i.natAbs.log2<1920/\Q (.str (R4 (toString i))) H
theorem gF:e9 X (.type "str") yO:=by
 intro pins s σ H xs us Q I r h;obtain ⟨i,rfl,hi,q⟩:=h;obtain ⟨u,rfl,rx⟩:=vals1 r;obtain ⟨t,rfl⟩:=rx;exact P.str_of_int hi ⟨.str (R4 (toString i)),H,I.tok _,⟨_,rfl⟩,q⟩
end
end L2
namespace PySem
open Sem (wp)
namespace F
end F
section
variable {prog:SX} {w:Tq} {A:Tj} {E:Sb->Sf->Prop} {s:Sf} {a:Sa} {xs:Array Sb} {k:Nat}
end
end PySem
namespace L2
open PySem PySem.Spec PyProof.Rows
section
variable {X:Cx} {pins:List (Sa×UU)} {σ:St}
end
end L2
namespace BB
open PySem L2
def aS (i:Int):Ss:=R4 (toString i)
def dot:Ss:=R4 "."
def vN (s k:Int):Ss:=aS s++dot++aS k
def cr (s k:Int):Th:=.knot (vN s k) []
end BB
namespace PySem
section
variable {prog:SX} {w:Tq} {A:Tj} {E:Sb->Sf->Prop} {s:Sf}
theorem bb_zip_next0 {z TI TO i1 i2 l1 l2:Sa} {k:Nat} {xs ys:Array Sb} {x y a b:Sb} {Q:Option Sb->Sf->Prop} (D:ZipApart z TI TO i1 i2 l1 l2)
 (hz:XA s.heap z TI TO .none) (hTI:VH s.heap TI (.ref i1) (.ref i2)) (hTO:VH s.heap TO a b)
 (h1:s.heap.IsTupleIter i1 l1 k) (h2:s.heap.IsTupleIter i2 l2 k) (AX:s.heap.IsTuple l1 xs) (AW:s.heap.IsTuple l2 ys) (hx:xs[k]?=some x) (hy:ys[k]?=some y)
 (hQ:∀ h',XA h' z TI TO (WE s.heap.objs.size)->VH h' TO x y->h'.IsTupleIter i1 l1 (k+1)->h'.IsTupleIter i2 l2 (k+1)->VH h' s.heap.objs.size x y->h'.objs.size=s.heap.objs.size+1 →
  (∀ c o,c≠z->c≠TO->c≠i1->c≠i2->s.heap.get? c=some o->h'.get? c=some o)->Q (some (.ref s.heap.objs.size)) { s with heap:=h' }) :
 SI (SY prog w) A (X1 (.ref z)) Q E s:=by
 have hT:s.TypeIs (.ref z) "zip":=⟨_,hz,rfl⟩;unfold X1;refine R9 (wpAny_attempt (U8 (name:=R4 "__next__") hT XR (V7 XR hT F.entry_zip_next ?_ (F.args_zip_next_1 _))));exact bb_zip_itemA D hz hTI hTO h1 h2 AX AW hx hy fun h' a1 a2 a3 a4 a5 a6 a7=>SA (hQ h' a1 a2 a3 a4 a5 a6 a7)
end
end PySem
namespace L2
open PySem PySem.Spec PyProof.Rows
def Itz (K:R8) (a b:Sa):It:=⟨fun i H=>∃ xs ys x y,SqT K H a xs/\SqT K H b ys/\xs[i]?=some x/\ys[i]?=some y,fun i H v H'=>∃ p x y,H p=none/\v=.ref p/\H'=upd H p (.tup [x,y])/\(∀ xs,SqT K H a xs->xs[i]?=some x)/\(∀ ys,SqT K H b ys->ys[i]?=some y),fun i H=>∃ xs ys,SqT K H a xs/\SqT K H b ys/\(xs.length<=i∨ys.length<=i)⟩
structure ZTn (z TI TO i1 i2 a b:Sa) (i:Nat) (h:T2):Prop where
 ap:ZipApart z TI TO i1 i2 a b
 zip:XA h z TI TO .none
 hTI:VH h TI (.ref i1) (.ref i2)
 hTO:∃ u v,VH h TO u v
 h1:h.IsTupleIter i1 a i
 h2:h.IsTupleIter i2 b i
theorem uW {P:SX} {w:Tq} {K:R8} {elts:List TV} {k1} {pos:Wq} (a b z TI TO i1 i2:Sa):Turn P w K (.Tuple elts k1 pos) (Itz K a b) [z,TI,TO,i1,i2] z (ZTn z TI TO i1 i2 a b) where
 mem:=by simp
 obj:=fun i h st c hc=>by
  obtain ⟨D,hz,hTI,⟨u,v,hTO⟩,⟨o1,a1,a2,a3⟩,⟨o2,b1,b2,b3⟩⟩:=st;simp only [Sn,Up,or_false] at hc;rcases hc with rfl | rfl | rfl | rfl | rfl
  · exact ⟨_,hz,fun v z=>by cases z⟩
  · exact ⟨_,hTI,fun v z=>by cases z⟩
  · exact ⟨_,hTO,fun v z=>by cases z⟩
  · exact ⟨o1,a1,fun v z=>by rw [a3] at z;cases z⟩
  · exact ⟨o2,b1,fun v z=>by rw [b3] at z;cases z⟩
 keep:=fun i h h' st k=>by
  obtain ⟨D,hz,hTI,⟨u,v,hTO⟩,⟨o1,a1,a2⟩,⟨o2,b1,b2⟩⟩:=st;exact ⟨D,k _ (by simp) _ hz,k _ (by simp) _ hTI,⟨u,v,k _ (by simp) _ hTO⟩,⟨o1,k _ (by simp) _ a1,a2⟩,⟨o2,k _ (by simp) _ b1,b2⟩⟩
 item:=by
  intro X hP hw hK hc i pins s σ H E I hf st hg;subst hP hw hK;obtain ⟨xs,ys,x,y,F8,F9,hx,hy⟩:=hg;obtain ⟨ia,Jh,pa,Hj⟩:=I.tuple F8;obtain ⟨ib,Ji,pb,MQ⟩:=I.tuple F9;obtain ⟨u,hu,ru⟩:=Jh.get hx;obtain ⟨v,hv,rv⟩:=Ji.get hy;obtain ⟨D,hz,hTI,⟨ta,tb,hTO⟩,h1,h2⟩:=st
  have lt:∀ c∈[z,TI,TO,i1,i2],c<s.heap.objs.size:=fun c hc=>by
   simp only [Sn,Up,or_false] at hc;rcases hc with rfl | rfl | rfl | rfl | rfl
   · exact SD hz
   · exact SD hTI
   · exact SD hTO
   · obtain ⟨o,e,_⟩:=h1;exact SD e
   · obtain ⟨o,e,_⟩:=h2;exact SD e
  refine bb_zip_next0 D hz hTI hTO h1 h2 (show s.heap.IsTuple a ia.toArray from pa) (show s.heap.IsTuple b ib.toArray from pb) (by simpa using hu) (by simpa using hv) fun Bu a1 a2 a3 a4 a5 a6 a7=>?_;refine ⟨_,rfl,wpAny_letOwnedTupleGo_zip a1 fun BD g1 sb=>?_⟩;replace sb:Vc z Bu BD:=sb;have Kv:H s.heap.objs.size=none:=I.hok.fresh (Sg _)
  have IA:Inv X pins σ (upd H s.heap.objs.size (.tup [x,y])) { s with heap:=s.heap.push { cls:=.type "tuple",data:=.seq #[u,v] },toks:=s.toks } :=
   I.laid (o:=.tup [x,y]) (fun b ob q=>Se _ q) (Sg _) ⟨by show 2<=SQ;decide,[u,v],0,.cons ru (.cons rv .nil),Sx _ rfl⟩
  have Ry:s.heap.objs.size≠z:=UW (lt z (by simp));refine ⟨.ref s.heap.objs.size,upd H s.heap.objs.size (.tup [x,y]),?_,rfl,⟨_,x,y,Kv,rfl,rfl,fun zs Jj=>by rw [I.tuple_inj Jj F8];exact hx,fun zs Jj=>by rw [I.tuple_inj Jj F9];exact hy⟩,?_,fun c hc=>?_⟩
  · have IB:Inv X pins σ (upd H s.heap.objs.size (.tup [x,y])) { s with heap:=BD,toks:=s.toks }:=by
     refine Inv.turnedL (s:={ s with heap:=s.heap.push { cls:=.type "tuple",data:=.seq #[u,v] },toks:=s.toks }) (h':=BD) (fp:=[z,TI,TO,i1,i2]) (t':=s.toks) IA (fun c o hc q=>?_) fun c hc=>?_
     · have n1:c≠z:=fun e=>hc (by simp [e]);have n2:c≠TO:=fun e=>hc (by simp [e]);have n3:c≠i1:=fun e=>hc (by simp [e]);have n4:c≠i2:=fun e=>hc (by simp [e]);rw [sb.2 c n1];by_cases Cp:c=s.heap.objs.size
       · subst Cp;have q':(s.heap.push { cls:=.type "tuple",data:=.seq #[u,v] }).get? s.heap.objs.size=some o:=q;rw [Sx _ rfl] at q';rw [<- q'];exact a5
       · have q':(s.heap.push { cls:=.type "tuple",data:=.seq #[u,v] }).get? c=some o:=q;rw [Heap.get?_push_ne _ _ _ Cp] at q';exact a7 c o n1 n2 n3 n4 q'
     · obtain ⟨f0,f1⟩:=hf c hc;exact ⟨by rw [aq (Ti (lt c hc))];exact f0,f1⟩
    exact IB
  · have sT:∀ c o,c≠z->Bu.get? c=some o->BD.get? c=some o:=fun c o hc e=>(sb.2 c hc).trans e;refine ⟨D,g1,sT _ _ D.TIz (a7 _ _ D.TIz D.TITO D.TIi1 D.TIi2 hTI),⟨_,_,sT _ _ D.TOz a2⟩,?_,?_⟩
    · obtain ⟨o,e,r⟩:=a3;exact ⟨o,sT _ _ D.i1z e,r⟩
    · obtain ⟨o,e,r⟩:=a4;exact ⟨o,sT _ _ D.i2z e,r⟩
  · rw [aq (Ti (lt c hc))];exact (hf c hc).1
 done:=by
  intro X hP hw hK hc i pins s σ H E I hf st hg;subst hP hw hK;obtain ⟨xs,ys,F8,F9,C8⟩:=hg;obtain ⟨ia,Jh,pa,Hj⟩:=I.tuple F8;obtain ⟨ib,Ji,pb,MQ⟩:=I.tuple F9;have BM:=Jh.length;have Rz:=Ji.length;obtain ⟨D,hz,hTI,hTO,h1,h2⟩:=st;refine bb_zip_done (show X.A.handled=none from I.ok.hd hc) ⟨D,.inl hz,hTI,hTO,h1,h2,pa,pb⟩ ?_ fun h' kp=>⟨rfl,?_⟩
  · rcases C8 with h | h
    · exact .inl (by simp;omega)
    · exact .inr (by simp;omega)
  exact I.turnedL (fp:=[z,TI,TO,i1,i2]) (t':=s.toks) (fun c o hc q=>kp c o (fun hm=>hc (by simp only [Sn,Up,or_false] at hm ⊢;rcases hm with h | h | h | h <;> simp [h])) q) hf
 self:=fun _ _ _ _ _ st h=>wpAny_pyIter_zip st.zip h
section
variable {X:Cx} {e1 e2:TV} {t:TA} {p2 BJ:Wq}
def zK (K:R8) (t:TA):TI:=fun σ H R=>t σ H fun vs H1=>∃ a b,vs=[.ref a,.ref b]/\(∃ xs,SqT K H1 a xs)/\(∃ ys,SqT K H1 b ys)/\R (Itz K a b) H1
theorem yr {elts:List TV} {k1} {pos:Wq} (g2:Gl X "zip") (m2:X.mg "zip"=none) (ha:PA X [e1,e2] t)
 (h2:Tz [e1,e2] X.env=(false,U4 e1 X.env)::Tz [e2] X.env:=by rfl) (h3:(Wz BJ (Tz [e2] X.env)).any (·.1)=false:=by rfl):PI X (.Tuple elts k1 pos) (.Call (.Name "zip" p2) [e1,e2] [] BJ) (zK X.K t):=by
 intro pins s σ H R I h;refine U0 (iC I g2 m2 boot_zip ?_);refine U6 (thn (ha BJ pins s σ H _ I h) fun us s2 ⟨vs,H2,I2,r,a,b,ev,⟨xs,F8⟩,⟨ys,F9⟩,q⟩=>?_) h2 h3;subst ev;obtain ⟨u1,u2,rfl,r1,r2⟩:=vals2 r;cases r1;cases r2;obtain ⟨ia,Jh,pa,Hj⟩:=I2.tuple F8;obtain ⟨ib,Ji,pb,MQ⟩:=I2.tuple F9;have Ef:a<s2.heap.objs.size:=by obtain ⟨o,e,_⟩:=pa;exact SD e
 have Cq:b<s2.heap.objs.size:=by obtain ⟨o,e,_⟩:=pb;exact SD e
 refine bb_call_zip (show s2.heap.IsTuple a ia.toArray from pa) (show s2.heap.IsTuple b ib.toArray from pb) fun h' z1 z2 z3 z4 z5 z6 z7=>?_;have D:ZipApart (s2.heap.objs.size+4) (s2.heap.objs.size+2) (s2.heap.objs.size+3) s2.heap.objs.size (s2.heap.objs.size+1) a b:=zipApart_new Ef Cq;refine wpAny_pyIter_zip (s:={ s2 with heap:=h' }) z1 ?_;refine ⟨s2.heap.objs.size+4,[s2.heap.objs.size+4,s2.heap.objs.size+2,s2.heap.objs.size+3,s2.heap.objs.size,s2.heap.objs.size+1],_,_,H2,rfl,I2.kept (t':=s2.toks) z7,uW a b _ _ _ _ _,⟨D,z1,z2,⟨_,_,z3⟩,z4,z5⟩,fun c hc=>?_,q⟩
 have BQ:s2.heap.objs.size<=c:=by
  simp only [Sn,Up,or_false] at hc;rcases hc with h | h | h | h | h <;> rw [h]
  · exact Wt _ _
  · exact Wt _ _
  · exact Wt _ _
  · exact Sg _
  · exact Wt _ _
 exact I2.fpOk BQ (I2.hok.fresh BQ)
end
end L2
namespace BB
open PySem L2
def blank:Ss:=R4 " "
def sS:Ss:=R4 "/"
def fN:Ss:=R4 "\n"
def bg (k:Ss×Int):Ss:=k.1++sS++aS k.2
def bd (w:Ss) (ks:List (Ss×Int)):Ss:=Tg blank (w::ks.map bg)
def jv (st:Int) (n:Ss) (t:Th):Ss:=R4 "rule "++aS st++blank++n++blank++(t.fill cr).show
def nh (ins:List (Ss×Int)) (st:Int) (row:List Th):List Ss:=(ins.zip row).map fun z=>jv st z.1.1 z.2
def dB (ins:List (Ss×Int)) (rows:List (List Th)) (i:Nat):List Ss:=(((rows.zipIdx).take i).map fun z=>nh ins (z.2:Nat) z.1).flatten
theorem zipIdx_get {α:Type} {l:List α} {i:Nat} {x:α} (h:l[i]?=some x):l.zipIdx[i]?=some (x,i):=by
 rw [List.getElem?_zipIdx,h];simp
theorem kC {ins:List (Ss×Int)} {rows:List (List Th)} {i:Nat} {row:List Th} (h:rows[i]?=some row):dB ins rows (i+1)=dB ins rows i++nh ins (i:Nat) row:=by
 unfold dB;rw [take_snoc (zipIdx_get h),Sq,TQ];simp
theorem j6 {ins:List (Ss×Int)} {rows:List (List Th)}:dB ins rows 0=[]:=by
 unfold dB;rw [Vb];rfl
def gb (t:Th):Ss:=R4 "head "++(t.fill cr).show
def fR (ins outs:List (Ss×Int)) (head:Th) (rows:List (List Th)):List Ss:=[bd (R4 "in") ins,bd (R4 "out") outs,gb head]++dB ins rows rows.length
theorem qQ (w:Ss):bd w []=w:=rfl
theorem sf (a b c:Ss):a++b++c=a++(b++c):=by
 have e:∀ x y:Ss,(x++y)=(⟨x.cps++y.cps⟩:Ss):=fun _ _=>rfl;simp only [e,WQ]
theorem qI (sep a:Ss) {l:List Ss} (h:l≠[]):Tg sep (l++[a])=Tg sep l++sep++a:=by
 have e:∀ m:List Ss,Tg sep m=V1 sep m:=fun m=>VQ sep m;rw [e,e,PyProof.Rows.FinIter.join_snoc,if_neg h]
theorem pO (w:Ss) (ks:List (Ss×Int)) (k:Ss×Int):bd w (ks++[k])=bd w ks++blank++k.1++sS++aS k.2:=by
 unfold bd;rw [Sq,<- S9];show Tg blank ((w::ks.map bg)++[bg k])=_;rw [qI blank (bg k) (by simp)];unfold bg;simp only [sf]
mutual
theorem lw {ks:List (Ss×Int)} (g:iZ ks):∀ {t:Th},t.FitP ks->t.size<=4 ^ t.tall
 | .knot n ts,h=>by
   rw [Th.FitP] at h;have hn:=g.num _ h.1
   have hl:ts.length<=3:=by
    have h2:((ts.length:Nat):Int)<=3:=hn.2;omega
   have:=ku g h.2;rw [Th.size,Th.tall,Nat.pow_succ];have h1:1<=4 ^ ba ts:=Nat.pos_of_ne_zero (by intro z;have:=Nat.pow_eq_zero.mp z;omega);have h3:ts.length * 4 ^ ba ts<=3 * 4 ^ ba ts:=VN _ hl;omega
 | .call s k,h=>by rw [Th.size,Th.tall];decide
theorem ku {ks:List (Ss×Int)} (g:iZ ks):∀ {ts:List Th},mW ks ts->aE ts<=ts.length * 4 ^ ba ts
 | [],_=>by rw [aE];exact Td _
 | t::ts,h=>by
   rw [mW] at h;have h1:=lw g h.1;have h2:=ku g h.2;rw [aE,ba,R7,U7];have h3:4 ^ t.tall<=4 ^ max t.tall (ba ts):=Vo (by decide) (Nat.le_max_left ..);have h4:4 ^ ba ts<=4 ^ max t.tall (ba ts):=Vo (by decide) (Nat.le_max_right ..);have h5:=VX ts.length h4;omega
end
theorem u5 {B:Nat}:∀ {l:List Ss},(∀ x∈l,x.length<=B)->(l.map (·.length)).sum<=B * l.length
 | [],_=>by simp
 | x::l,h=>by
   have h1:=h x (Sr ..);have h2:=u5 fun y hy=>h y (Sk _ hy);rw [Sl,Uj,R7,Yb];omega
theorem yh {J:It} {g:TG} {tb:TS} {D:Ends} {σ:St} {H:Hp} (n:Nat) (Pv:Nat->St->Hp->Prop) (h0:Pv 0 σ H) (Eu:∀ i σ H,i<n->Pv i σ H->J.go i H) (Bm:∀ σ H,Pv n σ H->J.stop n H)
 (hs:∀ i x σ H H',i<n->Pv i σ H->J.yld i H x H'->g x σ H' fun AB H2=>tb { D with nx:=Pv (i+1),ct:=Pv (i+1),bk:=D.nx } AB H2) (hd:∀ σ H,Pv n σ H->D.nx σ H) :
 ∃ W:Nat->Nat->St->Hp->Prop,(∃ m,W 0 m σ H)/\∀ i m σ H,W i m σ H →
   (J.stop i H/\D.nx σ H)∨(J.go i H/\∃ N:St->Hp->Prop,(∀ f' H',N f' H'->∃ m',m'<m/\W (i+1) m' f' H')/\∀ x H',J.yld i H x H'->g x σ H' fun AB H2=>tb { D with nx:=N,ct:=N,bk:=D.nx } AB H2):=by
 refine ⟨fun i m σ H=>i<=n/\m=n - i/\Pv i σ H,⟨n,Td _,rfl,h0⟩,?_⟩;rintro i m σ H ⟨hi,rfl,p⟩;by_cases h:i=n
 · left;subst h;exact ⟨Bm σ H p,hd σ H p⟩
 · right;have BS:i<n:=by omega
   exact ⟨Eu i σ H BS p,Pv (i+1),fun f' H' q=>⟨n - (i+1),by omega,by omega,rfl,q⟩,fun x H' y=>hs i x σ H H' BS p y⟩
end BB
namespace BB
open PySem L2
noncomputable section
local instance:DecidableEq Th:=fun _ _=>Classical.propDecidable _
end
end BB
namespace PySem
open Sem (wp)
section
variable {prog:SX} {w:Tq} {K:Type} [DecidableEq K] {knd:HeapKind prog w K} {A:Tj} {E:Sb->Sf->Prop} {s:Sf}
end
end PySem
namespace L2
open PySem PySem.Spec PyProof.Rows
end L2
namespace PySem
open Sem (wp)
section
variable {prog:SX} {w:Tq} {A:Tj} {R:Result->Sf->Prop}
end
section
variable {prog:SX} {w:Tq} {A:Tj} {E:Sb->Sf->Prop} {s:Sf}
end
end PySem
namespace L2
open PySem PySem.Spec PyProof.Rows
end L2
namespace L2
open PySem PySem.Spec PyProof.Rows BB
end L2
namespace PySem
open Sem (wp)
section
variable {prog:SX} {w:Tq} {K:Type} [DecidableEq K] (knd:HeapKind prog w K) (d:Sa)
end
section
variable {prog:SX} {w:Tq} {K:Type} [DecidableEq K] {knd:HeapKind prog w K} {A:Tj} {E:Sb->Sf->Prop} {s:Sf}
end
end PySem
namespace L2
open PySem PySem.Spec PyProof.Rows
end L2
namespace BB
open PySem L2
end BB
namespace BB
open PySem L2
end BB
namespace BB
open PySem L2
end BB
namespace BB
open PySem L2
theorem qr {u:Th}:∀ {ts:List Th},u∈ts->u.size<=aE ts
 | [],h=>by cases h
 | t::ts,h=>by
   rw [aE];rcases Sn.mp h with rfl | h
   · omega
   · have:=qr h;omega
end BB
namespace BB
open PySem L2 PySem.Builtin PySem.Builtin.Str
def ofL (l:List Nat):Ss:=⟨l.toArray⟩
theorem aG (l:List Nat):(ofL l).cps.toList=l:=by unfold ofL;simp
theorem cq {x y:Ss} (h:x.cps.toList=y.cps.toList):x=y:=by
 apply Str.ext';exact Array.toList_inj.mp h
theorem pe (x:Ss):ofL x.cps.toList=x:=cq (aG _)
def aF (c:Nat):List Nat->List (List Nat)
 | []=>[[]]
 | d::l=>if d=c then []::aF c l else match aF c l with
   | []=>[[d]]
   | p::r=>(d::p)::r
theorem cj (c:Nat):∀ l,∃ p r,aF c l=p::r
 | []=>⟨[],[],rfl⟩
 | d::l=>by
   obtain ⟨p,r,e⟩:=cj c l;rw [aF,e];split
   · exact ⟨_,_,rfl⟩
   · exact ⟨_,_,rfl⟩
def idxs (c:Nat):Nat->List Nat->List Nat
 | _,[]=>[]
 | off,d::l=>if d=c then off::idxs c (off+1) l else idxs c (off+1) l
theorem dl (c:Nat):(⟨#[c]⟩:Ss).length=1:=rfl
theorem subAt_one (x:Ss) (c i:Nat) (hi:i<x.length):subAt x ⟨#[c]⟩ i=decide (x.cps.toList[i]?=some c):=by
 rw [StrLaws.subAt_eq,dl];have hl:i<x.cps.toList.length:=by rw [SE];exact hi
 rw [US hl,R6 hl];show ([x.cps.toList[i]] == [c])=_;by_cases h:x.cps.toList[i]=c
 · rw [h];simp
 · have:decide (some x.cps.toList[i]=some c)=false:=decide_eq_false fun z=>h (Su z);rw [this];exact beq_false_of_ne fun z=>h (SH z).1
theorem vQ (x:Ss) (c:Nat) (f:Array Nat) (free:Nat):(forIn [x.length] (f,free) (Uk x ⟨#[c]⟩ x.length (x.length+1))).run.fst=f:=by
 rw [UQ];unfold Uk
 have h1:¬ (((f.size<x.length+1/\free<=x.length)/\x.length+(⟨#[c]⟩:Ss).length<=x.length)/\subAt x ⟨#[c]⟩ x.length=true):=fun h=>by
  have:=h.1.2;rw [dl] at this;omega
 rw [if_neg h1];rfl
theorem mj (x:Ss) (c:Nat):∀ (l pre:List Nat) (f:Array Nat) (free:Nat),x.cps.toList=pre++l->free<=pre.length->f.size<=pre.length →
 (forIn (List.range' pre.length (l.length+1)) (f,free) (Uk x ⟨#[c]⟩ x.length (x.length+1))).run.fst.toList=f.toList++idxs c pre.length l
 | [],pre,f,free,hx,_,_=>by
   have hlen:pre.length=x.length:=by
    have:=congrArg UZ hx;rw [SE,SM] at this;exact this.symm
   rw [UB,hlen,idxs,SM];exact congrArg Yi (vQ x c f free)
 | d::l,pre,f,free,hx,hf,hs=>by
   have hlen:x.length=pre.length+(l.length+1):=by
    have:=congrArg UZ hx;rw [SE,Sm,R7] at this;exact this
   rw [List.range'_succ,UQ,R7];have hg:x.cps.toList[pre.length]?=some d:=by rw [hx];simp
   have B2:=subAt_one x c pre.length (by omega);rw [hg] at B2;have B1:x.cps.toList=(pre++[d])++l:=by rw [hx];simp
   have Bj:(pre++[d]).length=pre.length+1:=by simp
   unfold Uk;rw [idxs];by_cases BN:d=c
   · have h1:((f.size<x.length+1/\free<=pre.length)/\pre.length+(⟨#[c]⟩:Ss).length<=x.length)/\subAt x ⟨#[c]⟩ pre.length=true:=by
      rw [dl,B2,BN];exact ⟨⟨⟨by omega,hf⟩,by omega⟩,decide_eq_true rfl⟩
     rw [if_pos h1,if_pos BN];have ih:=mj x c l (pre++[d]) (f.push pre.length) (pre.length+1) B1 (by omega) (by rw [Array.size_push];omega);rw [Bj] at ih;unfold Uk at ih;exact Eq.trans ih (by rw [Array.toList_push,SO];rfl)
   · have h1:¬ (((f.size<x.length+1/\free<=pre.length)/\pre.length+(⟨#[c]⟩:Ss).length<=x.length)/\subAt x ⟨#[c]⟩ pre.length=true):=fun h=>by
      have h2:=h.2;rw [B2] at h2;exact BN (Su (of_decide_eq_true h2))
     rw [if_neg h1,if_neg BN];have ih:=mj x c l (pre++[d]) f free B1 (by omega) (by omega);rw [Bj] at ih;unfold Uk at ih;exact ih
theorem oi (x:Ss) (c:Nat):occurrences x ⟨#[c]⟩ 0 x.length (x.length+1)=idxs c 0 x.cps.toList:=by
 rw [StrLaws.occ_eq,Xd];have h:=mj x c x.cps.toList [] #[] 0 (by simp) (Td _) (Td _);rw [SE] at h;exact h
theorem im (x:Ss) (c:Nat):∀ (l pre:List Nat) (i:Nat),x.cps.toList=pre++l->i<=pre.length →
 (StrLaws.partsFrom x 1 i (idxs c pre.length l)).map (fun p=>p.cps.toList)=match aF c l with | []=>[] | p::r=>(pre.drop i++p)::r
 | [],pre,i,hx,hi=>by
   have hlen:x.length=pre.length:=by
    have:=congrArg UZ hx;rw [SE,SM] at this;exact this
   rw [idxs,aF,StrLaws.partsFrom,Sl,UN,XS,hx,SM,hlen,S7 (by rw [Tf];omega)];simp
 | d::l,pre,i,hx,hi=>by
   have B1:x.cps.toList=(pre++[d])++l:=by rw [hx];simp
   have Bj:(pre++[d]).length=pre.length+1:=by simp
   rw [idxs,aF];obtain ⟨p,r,e⟩:=cj c l;by_cases BN:d=c
   · rw [if_pos BN,if_pos BN,StrLaws.partsFrom,Sl];have ih:=im x c l (pre++[d]) (pre.length+1) B1 (by omega);rw [Bj,e] at ih;rw [ih,XS,hx,e]
     have h1:((pre++d::l).drop i).take (pre.length - i)=pre.drop i:=by
      rw [List.drop_append_of_le_length hi,List.take_left' (by rw [Tf])]
     have h2:(pre++[d]).drop (pre.length+1)=[]:=List.drop_eq_nil_of_le (by rw [Bj];omega);rw [h1,h2];simp
   · rw [if_neg BN,if_neg BN];have ih:=im x c l (pre++[d]) i B1 (by omega);rw [Bj,e] at ih;rw [ih,e,List.drop_append_of_le_length hi];simp
theorem nB (x:Ss) (c:Nat):partsBetween x (occurrences x ⟨#[c]⟩ 0 x.length (x.length+1)) 1=(aF c x.cps.toList).map ofL:=by
 rw [StrLaws.partsBetween_eq,oi];have h:=im x c x.cps.toList [] 0 (by simp) (Sg _);rw [UB] at h;obtain ⟨p,r,e⟩:=cj c x.cps.toList;rw [e] at h ⊢;have h2:=congrArg (List.map ofL) h;rw [T8] at h2;have h3:((ofL ∘ fun p:Ss=>p.cps.toList):Ss->Ss)=fun p=>p:=funext fun p=>pe p;rw [h3,List.map_id'] at h2;rw [h2];simp
theorem mL (c:Nat):∀ (l:List Nat) (off:Nat),idxs c off l=[]->aF c l=[l]
 | [],_,_=>rfl
 | d::l,off,h=>by
   rw [idxs] at h;by_cases BN:d=c
   · rw [if_pos BN] at h;cases h
   · rw [if_neg BN] at h;rw [aF,if_neg BN,mL c l _ h]
theorem qz {x:Ss} {c:Nat} (hc:c<256):¬ TN x<TN ⟨#[c]⟩:=by
 have h1:TN ⟨#[c]⟩=1:=by
  unfold TN;have:(#[c]:Array Nat).all (·<256)=true:=by simp [hc]
  rw [if_pos this]
 have h2:1<=TN x:=by
  unfold TN;split
  · exact Sg _
  · split <;> decide
 omega
theorem jK (x:Ss) {c:Nat} (hc:c<256):UL x ⟨#[c]⟩=(aF c x.cps.toList).map ofL:=by
 unfold UL;by_cases h0:x.length=0
 · have hx:x.cps.toList=[]:=S6.mp (by rw [SE];exact h0)
   have h1:(decide (x.length<(⟨#[c]⟩:Ss).length) || decide (TN x<TN ⟨#[c]⟩))=true:=by
    rw [dl,h0];rfl
   rw [if_pos h1,hx];show [x]=[ofL []];rw [<- hx,pe]
 · have h1:¬ (decide (x.length<(⟨#[c]⟩:Ss).length) || decide (TN x<TN ⟨#[c]⟩))=true:=fun h=>by
    rcases Xm .. |>.mp h with h | h
    · have:=of_decide_eq_true h;rw [dl] at this;omega
    · exact qz hc (of_decide_eq_true h)
   rw [if_neg h1];by_cases h2:(occurrences x ⟨#[c]⟩ 0 x.length (x.length+1)).isEmpty=true
   · rw [if_pos h2];rw [oi] at h2;have h3:=mL c _ 0 (List.isEmpty_iff.mp h2);rw [h3,Sl,UN,pe]
   · rw [if_neg h2,dl];exact nB x c
def cC (c:Nat) (z:List Nat) (l:List Nat):List Nat:=l.flatMap fun d=>if d=c then z else [d]
theorem fz (c:Nat) (z:Ss):∀ l:List Nat,(V1 z ((aF c l).map ofL)).cps.toList=cC c z.cps.toList l
 | []=>by
   show (ofL []).cps.toList=_;rw [aG];rfl
 | d::l=>by
   have ih:=fz c z l;obtain ⟨p,r,e⟩:=cj c l;rw [aF];unfold cC at ih ⊢;rw [UP,<- ih,e];by_cases BN:d=c
   · rw [if_pos BN,if_pos BN];show (ofL []++z++V1 z (ofL p::r.map ofL)).cps.toList=_;rw [UD,UD,TR,TR,aG,Ts];rfl
   · rw [if_neg BN,if_neg BN];cases r with
     | nil =>
       show (ofL (d::p)).cps.toList=[d]++(ofL p).cps.toList;rw [aG,aG];rfl
     | cons p2 r =>
       show (ofL (d::p)++z++V1 z (ofL p2::r.map ofL)).cps.toList=[d]++(ofL p++z++V1 z (ofL p2::r.map ofL)).cps.toList;rw [UD,UD,UD,UD,TR,TR,TR,TR,aG,aG];rfl
theorem replace_one (x z:Ss) (c:Nat) (hz:z.length≠0):Xi x ⟨#[c]⟩ z=ofL (cC c z.cps.toList x.cps.toList):=by
 apply cq;rw [aG];unfold Xi;by_cases h2:(occurrences x ⟨#[c]⟩ 0 x.length (x.length+1)).isEmpty=true
 · rw [if_pos (by rw [h2];rfl)];rw [oi] at h2;have h3:=mL c _ 0 (List.isEmpty_iff.mp h2);have h4:=fz c z x.cps.toList;rw [h3] at h4;rw [<- h4];show _=(ofL x.cps.toList).cps.toList;rw [aG]
 · have h3:¬ ((occurrences x ⟨#[c]⟩ 0 x.length (x.length+1)).isEmpty || ((⟨#[c]⟩:Ss).length == 0 && z.length == 0))=true:=fun h=>by
    rcases Xm .. |>.mp h with h | h
    · exact h2 h
    · rw [dl] at h;simp at h
   rw [if_neg h3,dl,nB,VQ];exact fz c z _
end BB
namespace L2
open PySem PySem.Spec PySem.Calls PyProof.Rows BB
section
variable {X:Cx} {pins:List (Sa×UU)} {σ:List (Option V)} {H:Hp} {s:Sf}
theorem nH {M:Model} {A:Tj} {E:Sb->Sf->Prop} {i:Nat} {x:Ss} {v:V} {u:Sb} {Q:Unit->Sf->Prop} (I:Inv X pins σ H s) (hN:X.N.Nodup) (hi:X.N[i]?=some x) (hk:X.env.scope.names.lookup x=some .local) (r:RelV v u)
 (h:∀ h' m',Inv X pins (σ.set i (some v)) H { s with heap:=h',toks:=s.toks+1 }->h'.Ns X.env.locals m'->m' x=some u->(∀ (j:Nat) (y:Ss) (w:V),j≠i->X.N[j]?=some y->σ[j]?=some (some w)->X.env.scope.names.lookup y=some .local->∃ u',RelV w u'/\m' y=some u')->Q () { s with heap:=h',toks:=s.toks+1 }):SI M A (Xu X.env x u) Q E s:=by
 obtain ⟨m,hn,hl⟩:=id I.loc;have BZ:(X.env.scope.kind == .class || (X.env.scope.kind == .module && X.env.locals != X.env.globals))=false:=by rw [I.ok.kind];rfl
 have Ek:i<σ.length:=by rw [I.len];exact (Sj.mp hi).1
 have cne:=I.cne
 have tracked:∀ {a:Sa} {h':T2},(∃ o,s.heap.get? a=some o/\H a=none)->Vc a s.heap h'->HOk X.prog X.w H h':=fun {a h'} ha hs b ob e=>by
  obtain ⟨_,_,Cd⟩:=ha;refine (I.hok b ob e).stay (fun c w' hc q=>(hs.2 c ?_).trans q) (fun _ q=>q) fun _ _ q=>q;rintro rfl;rcases hc with rfl | hc
  · rw [Cd] at e;cases e
  · rw [Cd] at hc;cases hc
 refine wpAny_storeName_local hk hn (fun h' F0 hs=>?_) BZ;obtain ⟨oL,_,_,JV,_⟩:=id hn;refine h h' _ ⟨I.ok,I.os,I.bare,⟨fun b o e n hb hx=>?_,fun b o e n hb hx=>?_,I.base.free,fun b o e hx=>?_,I.base.tups,I.base.frzs,I.base.tbls⟩,⟨_,F0,fun j y v' e1 e2 e3=>?_⟩,fun y c e=>?_,I.free,I.freeC,fun p hp=>?_,tracked ⟨oL,JV,I.free⟩ hs,by simpa using I.len⟩ F0 (by simp) (fun j y w hj h1 h2 h3=>?_)
 · exact (hs.2 b (Ti (S8 (SD e) I.ok.above))).trans (I.base.keep b o e n hb hx)
 · obtain ⟨sl,e1⟩:=I.base.slot b o e n hb hx;exact ⟨sl,(hs.2 b (Ti (S8 (SD e) I.ok.above))).trans e1⟩
 · obtain ⟨o',e1⟩:=I.base.there b o e hx;exact ⟨o',(hs.2 b (Ti (S8 (SD e) I.ok.above))).trans e1⟩
 · by_cases hj:j=i
   · subst hj;rw [hi] at e1;cases e1;rw [Ug Ek] at e2;cases e2;exact ⟨u,r,.inl ⟨hk,by simp⟩⟩
   · rw [UE (VE hj)] at e2;obtain ⟨u',r',q⟩:=hl j y v' e1 e2 e3;refine ⟨u',r',?_⟩;rcases q with ⟨k,e⟩ | ⟨k,c,e,z⟩
     · refine .inl ⟨k,?_⟩;have:y≠x:=fun e=>hj (jd hN e1 (e ▸ hi));simp [this,e]
     · exact .inr ⟨k,c,e,z.sameBut hs (cne y c e)⟩
 · obtain ⟨w',z⟩:=I.cell y c e;exact ⟨w',z.sameBut hs (cne y c e)⟩
 · obtain ⟨e,n,ne,nf,d⟩:=I.pin p hp;exact ⟨(hs.2 p.1 ne).trans e,n,ne,nf,d⟩
 · obtain ⟨u',r',q⟩:=hl j y w h1 h2 (.inl h3);refine ⟨u',r',?_⟩;have OZ:y≠x:=fun e=>hj (jd hN h1 (e ▸ hi));rcases q with ⟨k,e⟩ | ⟨k,c,e,z⟩
   · simp [OZ,e]
   · have k':X.env.scope.names.lookup y=some .cell∨X.env.scope.names.lookup y=some .free:=k;rcases k' with k' | k' <;> (rw [h3] at k';cases k')
end
def BT (X:Cx) (tg:TV) (body:List Uo) (tb:Ends->V->St->Hp->Prop):Prop :=
 ∀ (pins:List (Sa×UU)) (s:Sf) (σ:St) (H:Hp) (c:Nat) (t:Tok) (D:Ends),Inv X pins σ H s->0<t->t<s.toks->tb D (.str ⟨#[c]⟩) σ H →
   SI (SY X.prog X.w) X.A (X3 tg X.env (.str ⟨#[c]⟩ t)) (fun _ s2=>SI (SY X.prog X.w) X.A (execs body X.env) (SP X pins D) X.xe s2) X.xe s
def zn (x:Ss) (tb:Ends->V->St->Hp->Prop):TS:=fun D σ H=>∃ W:Nat->St->Hp->Prop,W 0 σ H/\∀ i σ H,W i σ H->(x.cps.size=i/\D.nx σ H)∨∃ c,x.cps[i]?=some c/\tb { D with nx:=W (i+1),ct:=W (i+1),bk:=D.nx } (.str ⟨#[c]⟩) σ H
theorem tu {X:Cx} {tg:TV} {body:List Uo} {x:Ss} {k:Nat} {AZ pos:Wq} {tb:Ends->V->St->Hp->Prop} (hp:PassesOwn (SY X.prog X.w) X.A X.env X.xe) (hc:X.calm=true) (ha:x.cps.all (·<128)=true) (hb:BT X tg body tb)
 (hs:∀ y,Ww (.Constant (.str x) k AZ) X.env y=pure y:=by intro _;rfl):PS X (.For tg (.Constant (.str x) k AZ) body [] pos) (zn x tb):=by
 intro pins s σ H D I h;obtain ⟨W,w0,turn⟩:=h;refine wpAny_For (UH ?_) hs;have I1:Inv X pins σ H { s with toks:=s.toks+1 }:=I.tok _;refine wpAny_pyIter_ascii ha ?_;have T:=mz (P:=X.prog) (w:=X.w) (K:=X.K) (tg:=tg) x s.toks s.heap.objs.size
 have f2:∀ b∈[s.heap.objs.size],eV X pins H b:=fun b hb=>by
  have e:b=s.heap.objs.size:=by simpa using hb
  subst e;exact I.fpOk (Sg _) (I.hok.fresh (Sg _))
 have Be:∀ {H':Hp},(∀ b∈[s.heap.objs.size],H' b=none)->∀ b∈[s.heap.objs.size],eV X pins H' b:=fun hn b hb=>⟨hn b hb,(f2 b hb).2⟩;refine codeAny_forLoop_any (fun n s'=>∃ i f' H',Inv X pins f' H' s'/\s'.heap.IsStrIter s.heap.objs.size "str_ascii_iterator" x s.toks i/\(∀ b∈[s.heap.objs.size],H' b=none)/\W i f' H'/\n+i=x.cps.size+1/\i<=x.cps.size/\0<s'.toks) ?_ (x.cps.size+1) ⟨0,σ,H,I1.kept (t':=s.toks+1) fun b o e=>Se _ e,⟨_,Sx _ rfl,rfl,rfl⟩,fun b hb=>(f2 b hb).1,w0,rfl,Td _,Nat.succ_pos _⟩;rintro n s3 ⟨i,Ce,H3,I3,GJ,F2,w3,Hd,Kw,Jk⟩;rcases turn i Ce H3 w3 with ⟨stop,qn⟩ | ⟨c,MR,step⟩
 · refine Ur hp (thn (T.done X rfl rfl rfl hc i pins s3 Ce H3 X.xe I3 (Be F2) GJ stop) fun r s4 ⟨hr,I4⟩=>?_);subst hr;exact Vw ⟨Ce,H3,I4,qn⟩
 · have Bo:i<x.cps.size:=(VP.mp MR).1;obtain ⟨f0,f1,RA,f3,f4,f5⟩:=Be F2 s.heap.objs.size (by simp);refine Ur hp (wpAny_pyNext_ascii_item GJ (c:=c) MR fun h' By sb=>?_);have I5:Inv X pins Ce H3 { s3 with heap:=h',toks:=s3.toks+1 }:=I3.turned (fun b o hb e=>(sb.2 b hb).trans e) f0 f1 f3 f4 f5;obtain ⟨o5,e5,c5,d5⟩:=id By;refine Ur hp (lO (s:={ s3 with heap:=h',toks:=s3.toks+1 }) e5 c5 d5 (by decide) ?_);have JZ:=I5.pinned (Be F2) (T.obj (i+1) h' By);have hB:=hb _ { s3 with heap:=h',toks:=s3.toks+1 } Ce H3 c s3.toks { D with nx:=W (i+1),ct:=W (i+1),bk:=D.nx } JZ Jk (Ws _) step;have O0:=wpAny_toks_of (n:=1) (show 1<=s3.toks+1 by omega) hB;refine Ur hp (T4 O0 (fun _ s6 ⟨O1,h6⟩=>?_) fun e s' h=>h.2);have O2:=wpAny_toks_of (n:=1) O1 h6;refine Ur hp (T4 O2 (fun f s7 ⟨O3,q7⟩=>?_) fun e s' h=>h.2)
   have again:∀ {BR:St} {H7:Hp},Inv X (pins++iA [s.heap.objs.size] h') BR H7 s7->W (i+1) BR H7->∃ m,m<n/\∃ i f' H',Inv X pins f' H' s7/\s7.heap.IsStrIter s.heap.objs.size "str_ascii_iterator" x s.toks i/\(∀ b∈[s.heap.objs.size],H' b=none)/\W i f' H'/\m+i=x.cps.size+1/\i<=x.cps.size/\0<s7.toks:=fun {BR H7} I7 n7=>by
    refine ⟨n - 1,by omega,i+1,BR,H7,I7.unpinned,T.keep _ _ _ By fun b hb o e=>(I7.pin (b,o) (SU _ (SU _ (cu hb e)))).1,fun b hb=>?_,n7,by omega,by omega,O3⟩;obtain ⟨o,e,d⟩:=T.obj _ _ By b hb;exact (I7.pin (b,o) (SU _ (SU _ (cu hb e)))).2.1
   cases f with
   | next=>obtain ⟨BR,H7,I7,n7⟩:=q7;exact again I7 n7
   | cont=>obtain ⟨BR,H7,I7,n7⟩:=q7;exact again I7 n7
   | brk=>obtain ⟨BR,H7,I7,q7⟩:=q7;exact ⟨BR,H7,I7.unpinned,q7⟩
   | ret v=>obtain ⟨x7,BR,H7,I7,r7,q7⟩:=q7;exact ⟨x7,BR,H7,I7.unpinned,r7,q7⟩
def xE (i j:Nat):Ends->V->St->Hp->Prop:=fun D v σ H=>∃ (z:Ss) (c:Nat),v=.str ⟨#[c]⟩/\σ[j]?=some (some (.str z))/\c≠32/\z.length<=1000000/\D.nx ((σ.set i (some v)).set j (some (.str (ofL (cC c [32,c,32] z.cps.toList))))) H
theorem uM {c:Nat}:((⟨#[c]⟩:Ss) == (⟨#[32,c,32]⟩:Ss))=false:=by
 refine beq_false_of_ne fun z=>?_;have:=congrArg (fun w:Ss=>w.cps.size) z;cases this
theorem yC {X:Cx} {i j:Nat} {x y:Ss} {p0 p1 p2 p3 p4 p5 p6 p7 p8 p9 Fo Fp:Wq} {k1 k2:Nat} (hN:X.N.Nodup) (hi:X.N[i]?=some x) (hj:X.N[j]?=some y) (DO:i≠j) (hx:X.env.scope.names.lookup x=some .local) (hy:X.env.scope.names.lookup y=some .local)
 (Fq:(x == ("__debug__":Ss))=false:=by decide) (Kx:(y == ("__debug__":Ss))=false:=by decide) (BH:(p4.endLine == Fo.line)=true:=by rfl)
 (hs:Xs (.Call (.Attribute (.Name y p3) "replace" p4) [.Name x p5,.JoinedStr [.Constant (.str (R4 " ")) k1 p6,.FormattedValue (.Name x p7) (-1) none p8,.Constant (.str (R4 " ")) k2 p9] Fp] [] Fo) (some (.Name y p2)) p1.line X.env=pure false:=by rfl) :
 BT X (.Name x p0) [.Assign [.Name y p2] (.Call (.Attribute (.Name y p3) "replace" p4) [.Name x p5,.JoinedStr [.Constant (.str (R4 " ")) k1 p6,.FormattedValue (.Name x p7) (-1) none p8,.Constant (.str (R4 " ")) k2 p9] Fp] [] Fo) p1] (xE i j):=by
 intro pins s σ H c t D I Ky ht h;obtain ⟨z,c',hv,Hk,Fs,hz,q⟩:=h
 have F1:c=c':=by
  have h1:=V.str.inj hv;have h2:=congrArg (fun w:Ss=>w.cps) h1;simpa using h2
 subst F1;refine Xh (nH (v:=.str ⟨#[c]⟩) I hN hi hx ⟨t,rfl⟩ fun h' m' I2 hn Hl hm=>?_);obtain ⟨u0,r0,Kz⟩:=hm j y _ (VE DO) hj Hk hy;obtain ⟨t0,rfl⟩:=r0;refine Xr ?_;refine wpAny_Assign_Name (VM rfl rfl BH rfl (Wh (UI I2.ok.kind hy hn Kz ?_) Kx)) hs;refine ⟨"str","str.replace",TB,WY,WW,Vl _ _ _,(fun _ e=>nomatch e),?_⟩;refine Vd rfl (VC ?_);show SI _ _ (spliced [(false,U4 (.Name x p5) X.env),(false,U4 (.JoinedStr [.Constant (.str (R4 " ")) k1 p6,.FormattedValue (.Name x p7) (-1) none p8,.Constant (.str (R4 " ")) k2 p9] Fp) X.env)]) _ _ _;refine Uq (Wh (UI I2.ok.kind hx hn Hl ?_) Fq);refine Uq ?_
 have fin:∀ (t2 k:Nat),t<t2->SI (SY X.prog X.w) X.A (call (.builtin "str.replace") [.str z t0,.str ⟨#[c]⟩ t,.str ⟨#[32,c,32]⟩ t2]) (fun v Aa=>SI (SY X.prog X.w) X.A (Xu X.env y v) (fun _ s'=>SI (SY X.prog X.w) X.A (execs [] X.env) (SP X pins D) X.xe s') X.xe Aa) X.xe { s with heap:=h',toks:=k }:=fun t2 k hk=>by
  refine SC.replaceW (UW Ky) (UW (WL (Td _) hk)) (Ti hk) uM (by omega) (by show 3<=14;decide) fun t' k'=>?_;rw [replace_one z ⟨#[32,c,32]⟩ c (by show 3≠0;decide)];refine gc (v:=.str (ofL (cC c [32,c,32] z.cps.toList))) (I2.tok k') hN hj (.inl hy) ⟨t',rfl⟩ (fun s2 I3=>Vw ⟨_,H,I3,?_⟩) (.inr hy);exact q
 have e3:Ua++R4 " "++(⟨#[c]⟩:Ss)++R4 " "=⟨#[32,c,32]⟩:=rfl;have big:∀ n:Nat,n<=100->n<=SQ:=fun n hn=>by rw [UJ];omega
 refine wpAny_JoinedStr ?_;show SI _ _ (U4 (.Constant (.str (R4 " ")) k1 p6) X.env) _ _ _;refine UH ⟨_,_,rfl,big _ (by decide),?_⟩;show SI _ _ (U4 (.FormattedValue (.Name x p7) (-1) none p8) X.env) _ _ _;refine wpAny_FormattedValue_plain (Wh (UI I2.ok.kind hx hn Hl ?_) Fq)
 have last:∀ k:Nat,t<k->SI (SY X.prog X.w) X.A (U4 (.Constant (.str (R4 " ")) k2 p9) X.env) (fun v Aa=>∃ y' t',v=.str y' t'/\(Ua++R4 " "++(⟨#[c]⟩:Ss)++y').length<=SQ/\Joins (SY X.prog X.w) X.A X.xe (evalEach [] X.env) (Ua++R4 " "++(⟨#[c]⟩:Ss)++y') (fun out Aa=>out.length<=SQ/\SI (SY X.prog X.w) X.A (spliced []) (fun vs Bi=>SI (SY X.prog X.w) X.A (call (.builtin "str.replace") ([.str z t0]++(.str ⟨#[c]⟩ t::.str out Aa.toks::vs))) (fun v Aa=>SI (SY X.prog X.w) X.A (Xu X.env y v) (fun _ s'=>SI (SY X.prog X.w) X.A (execs [] X.env) (SP X pins D) X.xe s') X.xe Aa) X.xe Bi) X.xe { Aa with toks:=Aa.toks+1 }) Aa) X.xe { s with heap:=h',toks:=k }:=fun k hk=>by
  refine UH ⟨_,_,rfl,big _ (by show 3<=100;decide),?_⟩;show _<=SQ/\_;rw [e3];refine ⟨big _ (by show 3<=100;decide),?_⟩;exact VB (fin _ _ (SF hk))
 refine wpAny_formatField_str ?_ ?_ (big _ (by show 1<=100;decide))
 · exact ⟨_,_,rfl,big _ (by show 2<=100;decide),last _ (SF (SF ht))⟩
 · exact ⟨_,_,rfl,big _ (by show 2<=100;decide),last _ (SF (SF (SF ht)))⟩
end L2
namespace L2
open PySem PySem.Spec PySem.Calls PyProof.Rows PySem.Builtin PySem.Builtin.Str BB
variable {X:Cx}
def yb:V->List V->Hp->VK->Prop:=fun x vs H Q=>∃ z y,x=.str z/\vs=[.str y]/\(y.length == 0)=false/\z.length<=1000000/\∀ p,H p=none->Q (.ref p) (upd H p (.lst ((UL z y).map V.str)))
theorem jZ:∀ {l:List (Ss×Tok)} {zs:List Ss},l.map (·.1)=zs->Vals (zs.map V.str) (strValues l)
 | [],_,e=>by subst e;exact .nil
 | (z,t)::l,_,e=>by
   subst e;exact .cons ⟨t,rfl⟩ (jZ rfl)
theorem split_len (z y:Ss) (hz:z.length<=1000000):(partsBetween z (occurrences z y 0 z.length (z.length+1)) y.length).length<=SQ/\(UL z y).length<=SQ:=by
 have h1:=StrLaws.occ_length_le z y 0 z.length (z.length+1);have h2:=PySem.length_partsBetween z (occurrences z y 0 z.length (z.length+1)) y.length;have h3:SQ=16777216:=UJ;refine ⟨by omega,?_⟩;unfold UL;split
 · show 1<=SQ;omega
 · split
   · show 1<=SQ;omega
   · omega
theorem mJ:MtR X "str.split" yb:=by
 intro pins s σ H x vs v us Q I rx rv h;obtain ⟨z,y,rfl,rfl,hy,hz,q⟩:=h;obtain ⟨t,rfl⟩:=rx;obtain ⟨u,rfl,t',rfl⟩:=rv.one;obtain ⟨AX,AW⟩:=split_len z y hz;have hf:H s.heap.objs.size=none:=I.hok.fresh (Sg _)
 have fin:∀ (l:List (Ss×Tok)) (k:Nat),l.map (·.1)=UL z y->EP X pins σ Q (.ref s.heap.objs.size) { s with toks:=k,heap:=s.heap.push { cls:=.type "list",data:=.seq (strValues l).toArray } }:=fun l k hl=>by
  refine ⟨.ref s.heap.objs.size,upd H s.heap.objs.size (.lst ((UL z y).map V.str)),I.laid (t':=k) (fun b u e=>Se _ e) (Sg _) ?_,rfl,q _ hf⟩;exact ⟨by rw [R5];exact AW,_,_,jZ hl,Sx _ rfl⟩
 cases h1:(decide (z.length<y.length) || decide (strKind z<strKind y))
 · cases hf:(occurrences z y 0 z.length (z.length+1)).isEmpty
   · refine VD XB (Vl _ _ _) Xl (F.args_str_split_2 _ _) (meets_str_split_sep z y t t' h1 hy hf (by rw [UJ];omega) AX) ?_;show wants (EP X pins σ Q) X.xe _ { s with toks:=_,heap:=s.heap.push { cls:=.type "list",data:=.seq (strsFrom s.toks (partsBetween z (occurrences z y 0 z.length (z.length+1)) y.length)).toArray } };rw [strsFrom_eq];exact fin (numbered s.toks _) _ ((numbered_texts _ _).trans ((if_neg (ne_true_of_eq_false h1)).trans (if_neg (ne_true_of_eq_false hf))).symm)
   · exact VD XB (Vl _ _ _) Xl (F.args_str_split_2 _ _) (meets_str_split_not_found z y t t' h1 hy hf) (fin [(z,t)] s.toks ((if_neg (ne_true_of_eq_false h1)).trans (if_pos hf)).symm)
 · exact VD XB (Vl _ _ _) Xl (F.args_str_split_2 _ _) (meets_str_split_cannot_occur z y t t' h1) (fin [(z,t)] s.toks (if_pos h1).symm)
end L2
namespace BB
open PySem L2
def rep3 (l:List Nat):List Nat:=cC 44 [32,44,32] (cC 41 [32,41,32] (cC 40 [32,40,32] l))
def spS (d:Nat):List Nat:=if d=40∨d=41∨d=44 then [32,d,32] else [d]
theorem sJ (l:List Nat):rep3 l=l.flatMap spS:=by
 unfold rep3 cC;rw [WO,WO];congr 1;funext d;unfold spS;by_cases h1:d=40
 · subst h1;rfl
 · rw [if_neg h1];by_cases h2:d=41
   · subst h2;rfl
   · by_cases h3:d=44
     · subst h3;rfl
     · rw [if_neg (by omega)];simp [h2,h3]
def wds (l:List Nat):List (List Nat):=(aF 32 l).filter fun p=>!p.isEmpty
theorem iz (c:Nat) (b:List Nat):∀ a:List Nat,aF c (a++c::b)=aF c a++aF c b
 | []=>by simp [aF]
 | d::a=>by
   rw [S9,aF,iz c b a,aF];by_cases h:d=c
   · rw [if_pos h,if_pos h];rfl
   · rw [if_neg h,if_neg h];obtain ⟨p,r,e⟩:=cj c a;rw [e];rfl
theorem kX (a b:List Nat):wds (a++32::b)=wds a++wds b:=by unfold wds;rw [iz,List.filter_append]
theorem sQ:wds []=[]:=rfl
theorem ey (c:Nat):∀ w:List Nat,(∀ d∈w,d≠c)->aF c w=[w]
 | [],_=>rfl
 | d::w,h=>by rw [aF,if_neg (h d (Sr ..)),ey c w fun e he=>h e (Sk _ he)]
theorem jk {w:List Nat} (h:∀ d∈w,d≠32) (Ax:w≠[]):wds w=[w]:=by
 unfold wds;rw [ey 32 w h,VS,List.filter_nil];cases w with
 | nil=>exact absurd rfl Ax
 | cons d w=>rfl
def wordsOf (x:Ss):List Ss:=(wds (rep3 x.cps.toList)).map ofL
mutual
def Th.wT:Th->List Ss
 | .knot n ts=>n::(if ts=[] then [] else lpar::(wTs ts++[rpar]))
 | .call _ _=>[]
def wTs:List Th->List Ss
 | []=>[]
 | t::ts=>t.wT++(if ts=[] then [] else comma::wTs ts)
end
def sL (x:Ss):List Nat:=x.cps.toList
theorem lM:sL comma=[44]:=by decide +kernel
theorem nY:sL lpar=[40]:=by decide +kernel
theorem oU:sL rpar=[41]:=by decide +kernel
def okW (x:Ss):Prop:=Low x/\x.length≠0
theorem join_cons (sep x:Ss) (xs:List Ss):V1 sep (x::xs)=if xs=[] then x else x++sep++V1 sep xs:=by
 cases xs with
 | nil=>rfl
 | cons y ys=>rfl
mutual
theorem sO:∀ t:Th,(∀ p∈t.walk,p.isCall=false)->sL t.show=(t.wT.map sL).flatten
 | .call _ _,h=>by
   have:=h _ (by rw [Th.walk];exact Sr ..);cases this
 | .knot n ts,h=>by
   rw [Th.show,Th.wT];have hs:=pV ts fun p hp=>h p (by rw [Th.walk];exact Sk _ hp);unfold pT;by_cases h0:ts=[]
   · subst h0;simp [bX]
   · have he:(bX ts).isEmpty=false:=by
      cases ts with
      | nil=>exact absurd rfl h0
      | cons x xs=>rw [bX];rfl
     rw [he,if_neg (by decide),if_neg h0];have hj:Tg comma (bX ts)=V1 comma (bX ts):=VQ _ _;rw [hj];unfold sL at hs ⊢;rw [UD,UD,UD,TR,TR,TR,hs];simp
theorem pV:∀ ts:List Th,(∀ p∈walks ts,p.isCall=false)->sL (V1 comma (bX ts))=((wTs ts).map sL).flatten
 | [],_=>by rw [bX,wTs];rfl
 | t::ts,h=>by
   have h1:=sO t fun p hp=>h p (by rw [walks];exact T7 _ hp);have h2:=pV ts fun p hp=>h p (by rw [walks];exact SU _ hp);rw [bX,wTs,join_cons];by_cases h0:ts=[]
   · subst h0;rw [bX,if_pos rfl,if_pos rfl,SM];exact h1
   · have he:bX ts≠[]:=by
      cases ts with
      | nil=>exact absurd rfl h0
      | cons x xs=>rw [bX];simp
     rw [if_neg he,if_neg h0];unfold sL at h1 h2 ⊢;rw [UD,UD,TR,TR,h1,h2];simp
end
end BB
namespace BB
open PySem L2
section
variable {H H':Hp} {t:Th} {a:Sa} {ts:List Th} {es:List Sa}
end
theorem t9 {base n:Int} (hn:0<=n):(nameOf base n).length≠0:=by
 unfold nameOf;split
 · rw [jo];have h8:=da (base / 112) 8;rw [h8];have h1:HT.sIx 8 0 none=0:=rfl
   have h2:HT.sIx 8 8 (some (n+1))≠0:=by
    have e:n+1=((n.toNat+1:Nat):Int):=by omega
    rw [e,HT.sIx_nat];omega
   rw [h1];omega
 · rw [SN,SN];have:(⟨#[kh base n]⟩:Ss).length=1:=rfl;omega
theorem kD (cell:Int):∀ k∈cm cell,okW k.1:=fun k hk=>by
 obtain ⟨i,hi⟩:=SV.mp hk;obtain ⟨e,_⟩:=cJ hi;refine ⟨((fo cell).low k hk).1,?_⟩;rw [e];exact t9 (by omega)
end BB
namespace L2
open PySem PySem.Spec PyProof.Rows BB
variable {X:Cx}
end L2
namespace L2
open PySem PySem.Spec PyProof.Rows PySem.W
def uV (K:Frag) (Ch:Sa) (ts:TS) (D:Ends):St->Sb->Hp->Prop:=fun AV c H'=>∃ C,c=.ref C/\Hit K C Ch/\ts D AV H'
def xN (K:Frag) (Ch:Sa) (tb:(St->Sb->Hp->Prop)->TS) (ts:TS):TS:=fun D σ H=>tb (uV K Ch ts D) D σ H
theorem qW {K:Frag} {Ch:Sa} {tb:(St->Sb->Hp->Prop)->TS} {ts:TS} {D:Ends} {σ:St} {H:Hp} (R:St->Sb->Hp->Prop) (h1:∀ R':St->Sb->Hp->Prop,(∀ AV c H',R AV c H'->R' AV c H')->tb R' D σ H)
 (h2:∀ AV c H',R AV c H'->uV K Ch ts D AV c H'):xN K Ch tb ts D σ H:=h1 _ h2
theorem wt {X:Cx} {Ch:Sa} {cx:Ss} {np CH pos:Wq} {body suite:List Uo} {b0:Uo} {tb:(St->Sb->Hp->Prop)->TS} {ts:TS}
 (hb:∀ pins R,PSs (X.tryB pins R) body (tb R)) (hs:∀ ea oe,PSs (X.suite ea oe) (b0::suite) ts)
 (AI:X.stack=X.env::X.outer) (Jl:X.env.frame=some X.env.locals) (hg:Gl X cx) (hm:X.mg cx=some (.ref Ch))
 (hd:(cx == ("__debug__":Ss))=false:=by decide) :
 PS X (.Try body [.ExceptHandler (some (.Name cx np)) none (b0::suite) CH] [] [] pos) (xN X.K Ch tb ts):=by
 intro pins s σ H D I h;refine wpAny_Try_except ?_;have BG:=hb pins (uV X.K Ch ts D) [] s σ H D (I.tryB _) h;refine T4 BG (fun f s1 q=>?_) fun e s1 q=>?_
 · have q':=SP.untryB q;cases f with
   | next=>exact Vw q'
   | brk=>exact q'
   | cont=>exact q'
   | ret u=>exact q'
 · obtain ⟨AV,H1,s0,I1,ea,C,a0,B,H',rfl,Cf,Cn,un,hok,Dc,b1,b2,C',Kj,hit,q⟩:=q;cases Kj;rw [AI] at Dc;have KA:X.A.frames=some (X.env::X.outer):=by rw [<- AI];exact I1.ok.frames
   have inv:∀ (h6:T2) (tk:Nat),Heap.FlyingW B (X.env::X.outer) ea (.ref C) a0 h6->s1.heap.UpToSlots h6->Inv X pins AV H' { s1 with heap:=h6 }:=fun h6 tk BO up=>by
    obtain ⟨U,_⟩:=rA (fs:=frs X.stack) (H:=H1) (H1:=H1) (h:=s0.heap) (h1:=s0.heap) (h':=h6) (l:=frs X.stack) (B:=B) Un.refl un (fun b o _ z=>z) b1 BO.1 up (fun b hb=>⟨I1.stkFree b hb,(I1.stack.mem hb).2⟩);exact I1.call' (s':={ s1 with heap:=h6 }) (ch:=[]) Cf U (lf hok Dc.1 BO.1 b2) Cn fun _ z=>nomatch z
   refine wpAny_looks_onW KA Jl Dc fun h4 Hm O4=>?_;refine wpAny_landsW Hm fun h5 Ft KC=>?_;have Hn:=O4.trans KC;have I5:=inv h5 0 Ft Hn;obtain ⟨o5,O5,O6⟩:=Ft.there;refine wpAny_handleBy_cons (codeAny_handlers_test ?_) (by intro q;cases q);have RB:Inv (X.wish X.xe) pins AV H' { s1 with heap:=h5 }:=I5;refine Xa I5.ok.kind hg (Calls.loadGlobal_global (by rw [I5.ok.glob];exact I5.mod.glob.keeps I5.bk) hm ?_) hd;refine (exm_one (M:=SY X.prog X.w) (h:=h5) I5.kIn (O6 ▸ (Looks.ld O5).andThen .now) hit.hit).here ?_;refine codeAny_handlers_suite ?_;refine lands_againW (s:={ s1 with heap:=h5 }) Ft fun h6 BO KD=>?_;have I6:=inv h6 0 BO (Hn.trans KD);obtain ⟨oe,vs,Eb,JX,MS,_⟩:=BO.first
   have Ho:H' ea=none:=by
    cases z:H' ea with
    | none=>rfl
    | some u =>
      obtain ⟨o',Cc⟩:=b2 ea u z;rw [BO.2.1] at Cc;cases Cc
   have Cw:ea∉frs (X.env::X.outer):=fun z=>by
    obtain ⟨_,o,ho,nf⟩:=BO.2.2.1.mem z;rw [Eb] at ho;cases ho;exact nf vs MS
   rw [px Jl] at Cw;have IS:Inv (X.suite ea oe) pins AV H' { s1 with heap:=h6 }:=I6.suite ⟨Eb,Ho,fun z=>Cw (z ▸ Sr),fun z=>Cw (Sk _ z),fun v z=>by rw [MS] at z;cases z⟩;refine T4 (hs ea oe pins _ _ H' D IS q) (fun f s8 q8=>?_) fun _ _ z=>UC z;cases f with
   | next=>obtain ⟨DH,H8,J,q⟩:=q8;exact ⟨_,H8,J.unsuite I1.ok.hd,q⟩
   | brk=>obtain ⟨DH,H8,J,q⟩:=q8;exact ⟨_,H8,J.unsuite I1.ok.hd,q⟩
   | cont=>obtain ⟨DH,H8,J,q⟩:=q8;exact ⟨_,H8,J.unsuite I1.ok.hd,q⟩
   | ret u=>obtain ⟨v,DH,H8,J,r,q⟩:=q8;exact ⟨v,_,H8,J.unsuite I1.ok.hd,r,q⟩
end L2
namespace L2
open PySem PySem.Spec PyProof.Rows BB
variable {X:Cx}
end L2
namespace L2
open PySem PySem.Spec PySem.Calls PyProof.Rows PySem.W
end L2
namespace BB
open PySem L2 PySem.Builtin PySem.Builtin.Str
theorem mB:XQ 32=true:=by decide +kernel
theorem cW (x y:Ss):sL (x++y)=sL x++sL y:=by unfold sL;rw [UD,TR]
theorem bV (x:Ss):(sL x).length=x.length:=SE
theorem jw:∀ (l:List Nat) (ws:List Ss) (cur:Ss),(∀ c∈l,c=32∨XQ c=false)->(∀ c∈sL cur,c≠32)->XM (l.foldl Yd (ws,cur))=ws++(wds (sL cur++l)).map ofL
 | [],ws,cur,_,h2=>by
   rw [List.foldl_nil,SM];unfold XM;by_cases h:cur.length=0
   · rw [if_pos h];have:sL cur=[]:=S6.mp (by rw [bV];exact h);rw [this,sQ];simp
   · rw [if_neg h,jk h2 fun z=>h (by rw [<- bV,z];rfl)];rfl
 | c::l,ws,cur,h1,h2=>by
   rw [List.foldl_cons];have Bu:∀ d∈l,d=32∨XQ d=false:=fun d hd=>h1 d (Sk _ hd);rcases h1 c (Sr ..) with rfl | hc
   · rw [kX];by_cases h:cur.length=0
     · have e:Yd (ws,cur) 32=(ws,cur):=by unfold Yd;rw [if_pos mB,if_pos h]
       rw [e,jw l ws cur Bu h2];have:sL cur=[]:=S6.mp (by rw [bV];exact h);rw [this,sQ];rfl
     · have e:Yd (ws,cur) 32=(ws++[cur],Ua):=by unfold Yd;rw [if_pos mB,if_neg h]
       rw [e,jw l (ws++[cur]) Ua Bu (fun d hd=>by cases hd),jk h2 fun z=>h (by rw [<- bV,z];rfl),SO];rfl
   · have Fs:c≠32:=fun z=>by rw [z,mB] at hc;cases hc
     have e:Yd (ws,cur) c=(ws,cur++⟨#[c]⟩):=by unfold Yd;rw [if_neg (by rw [hc];exact Sz)]
     rw [e,jw l ws (cur++⟨#[c]⟩) Bu (fun d hd=>?_),cW,SO]
     · rfl
     · rw [cW] at hd;rcases Sv.mp hd with hd | hd
       · exact h2 d hd
       · rw [Sy.mp hd];exact Fs
theorem rK {z:Ss} (h:∀ c∈sL z,c=32∨XQ c=false):XM (Ye z)=(wds (sL z)).map ofL:=jw (sL z) [] Ua h fun c hc=>by cases hc
def blk:Ss:=R4 " "
theorem xZ:sL blk=[32]:=by decide +kernel
def jn:List (List Nat)->List Nat
 | []=>[]
 | [x]=>x
 | x::y::r=>x++32::jn (y::r)
theorem eI:∀ ws:List Ss,sL (Tg blk ws)=jn (ws.map sL):=by
 intro ws;have h1:Tg blk ws=V1 blk ws:=VQ _ _;rw [h1];clear h1;induction ws with
 | nil=>rfl
 | cons x ws ih =>
   rw [join_cons];cases ws with
   | nil=>rw [if_pos rfl];rfl
   | cons y ws =>
     rw [if_neg (by simp),cW,cW,ih,xZ,SO];rfl
theorem vn:∀ ls:List (List Nat),wds (jn ls)=(ls.map wds).flatten
 | []=>rfl
 | [x]=>by rw [jn,Sl,UN,SJ,List.flatten_nil,SM]
 | x::y::r=>by
   rw [jn,kX,vn (y::r)];rfl
theorem rR {c:Nat}:∀ {ls:List (List Nat)},c∈jn ls->c=32∨∃ l∈ls,c∈l
 | [],h=>by rw [jn] at h;cases h
 | [x],h=>by rw [jn] at h;exact .inr ⟨x,Sr ..,h⟩
 | x::y::r,h=>by
   rw [jn] at h;rcases Sv.mp h with h | h
   · exact .inr ⟨x,Sr ..,h⟩
   · rcases Sn.mp h with h | h
     · exact .inl h
     · rcases rR h with h | ⟨l,hl,hc⟩
       · exact .inl h
       · exact .inr ⟨l,Sk _ hl,hc⟩
theorem rp:∀ ls:List (List Nat),(jn ls).length<=(ls.map (·.length)).sum+ls.length
 | []=>Sg _
 | [x]=>by rw [jn];simp
 | x::y::r=>by
   have:=rp (y::r);rw [jn,Sm,R7,Sl,Uj,R7];omega
end BB
namespace L2
open PySem PySem.Spec PySem.Calls PyProof.Rows PySem.Builtin PySem.Builtin.Str BB
variable {X:Cx}
def wU:V->List V->Hp->VK->Prop:=fun x vs H Q=>∃ z,x=.str z/\vs=[]/\z.length<=1000000/\∀ p,H p=none->Q (.ref p) (upd H p (.lst ((XM (Ye z)).map V.str)))
theorem ur:MtR X "str.split" wU:=by
 intro pins s σ H x vs v us Q I rx rv h;obtain ⟨z,rfl,rfl,hz,q⟩:=h;obtain ⟨t,rfl⟩:=rx;cases rv;have hf:H s.heap.objs.size=none:=I.hok.fresh (Sg _);have KG:((spaceWords z (z.length+1)).map fun (p:Nat×Nat)=>strSub z p.1 p.2)=XM (Ye z):=KWd.wordsOf_scan z;have hn:(spaceWords z (z.length+1)).length<=z.length+1:=TF (StrLaws.len_le_wsum _) (StrLaws.sw_weight z).1;have AW:(XM (Ye z)).length<=z.length+1:=by rw [<- KG,R5];exact hn
 have CG:=UJ
 have fin:∀ (l:List (Ss×Tok)) (k:Nat),l.map (·.1)=XM (Ye z)->EP X pins σ Q (.ref s.heap.objs.size) { s with toks:=k,heap:=s.heap.push { cls:=.type "list",data:=.seq (strValues l).toArray } }:=fun l k hl=>by
  refine ⟨.ref s.heap.objs.size,upd H s.heap.objs.size (.lst ((XM (Ye z)).map V.str)),I.laid (t':=k) (fun b u e=>Se _ e) (Sg _) ?_,rfl,q _ hf⟩;exact ⟨by rw [R5];omega,_,_,jZ hl,Sx _ rfl⟩
 refine VD XB (Vl _ _ _) Xl (F.args_str_split_1 _) (meets_str_split_space z t (by omega) (by omega)) ?_;by_cases hb:(spaceWords z (z.length+1) == [(0,z.length)])=true
 · rw [if_pos hb];refine fin [(z,t)] s.toks ?_;rw [<- KG,eq_of_beq hb];show [z]=[strSub z 0 z.length];congr 1;refine cq ?_;rw [XS,Uv];have:z.cps.toList.length=z.length:=SE;rw [Xd,S7 (by omega)]
 · rw [if_neg hb];show wants (EP X pins σ Q) X.xe _ { s with toks:=_,heap:=s.heap.push { cls:=.type "list",data:=.seq (strsFrom s.toks ((spaceWords z (z.length+1)).map fun (p:Nat×Nat)=>strSub z p.1 p.2)).toArray } };rw [strsFrom_eq];exact fin (numbered s.toks _) _ ((numbered_texts _ _).trans KG)
end L2
namespace L2
open PySem PySem.Spec PyProof.Rows
theorem sj {v:Const} {k:Nat} {p:Wq} {es:List TV} {env:XC}:Tz (.Constant v k p::es) env=(false,U4 (.Constant v k p) env)::Tz es env:=by
 rw [Tz];intro e q z;cases z
theorem qO {es:List TV} {p:Wq} {t:Option TV} {l:Nat} {env:XC}:Xs (.List es p) t l env=pure false:=rfl
def uA (zs:List Ss):TA:=fun _ H Q=>Q (zs.map V.str) H
theorem sW {X:Cx}:∀ (zs:List (Ss×Nat×Wq)),PA X (zs.map fun z=>.Constant (.str z.1) z.2.1 z.2.2) (uA (zs.map fun z=>z.1))
 | []=>ac
 | z::zs=>by
   have h:PA X (.Constant (.str z.1) z.2.1 z.2.2::zs.map fun z=>.Constant (.str z.1) z.2.1 z.2.2) (bZ (tC (.str z.1)) (uA (zs.map fun z=>z.1))):=aa aA (sW zs) sj;exact h
theorem wE {X:Cx} (zs:List (Ss×Nat×Wq)) {i:Nat} {x:Ss} {p0 p1 p2:Wq} (hN:X.N.Nodup) (hi:X.N[i]?=some x) (hx:Loc X.env.scope x) (hf:X.fn x=true∨X.env.scope.names.lookup x=some .local) :
 PS X (.Assign [.Name x p0] (.List (zs.map fun z=>.Constant (.str z.1) z.2.1 z.2.2) p1) p2) (sk (yN (uA (zs.map fun z=>z.1))) (aC i)):=ar hN hi hx (bM (sW zs)) qO hf
end L2
namespace BB
open PySem L2
mutual
theorem qc {ks:List (Ss×Int)} {S C:Int} (hn:(ks.map (·.1)).Nodup):∀ {t:Th},t.FitS ks S C->fpb ks S C t=true
 | .knot n ts,h=>by
   rw [Th.FitS] at h;rw [qX,okP,decide_eq_true ((iN hn).mpr h.1),Vt];exact mr hn h.2
 | .call s k,h=>by
   rw [Th.FitS] at h;rw [qX,okP,decide_eq_true ⟨h.1,h.2.1⟩,decide_eq_true ⟨h.2.2.1,h.2.2.2⟩];rfl
theorem mr {ks:List (Ss×Int)} {S C:Int} (hn:(ks.map (·.1)).Nodup):∀ {ts:List Th},FitSs ks S C ts->uc ks S C ts=true
 | [],_=>rfl
 | t::ts,h=>by
   rw [FitSs] at h;rw [jr,Sl,W2,qc hn h.1,<- jr,mr hn h.2];rfl
end
end BB
namespace BB
open PySem L2 PySem.Builtin PySem.Builtin.Str
def pp (c:Nat):Nat->List Nat->List Nat
 | _,[]=>[]
 | off,d::l=>if d=c then [off] else pp c (off+1) l
theorem pH (x y:Ss) (n:Nat):∀ (l:List Nat) (st:Array Nat×Nat),st.1.size=1->(forIn l st (Uk x y n 1)).run.fst=st.1
 | [],st,_=>rfl
 | a::l,st,h=>by
   rw [UQ];unfold Uk;rw [if_neg (fun z=>by have:=z.1.1.1;omega)];exact pH x y n l st h
theorem fw (x:Ss) (c:Nat):∀ (l pre:List Nat) (free:Nat),x.cps.toList=pre++l->free<=pre.length →
 (forIn (List.range' pre.length (l.length+1)) (#[],free) (Uk x ⟨#[c]⟩ x.length 1)).run.fst.toList=pp c pre.length l
 | [],pre,free,hx,_=>by
   have hlen:pre.length=x.length:=by
    have:=congrArg UZ hx;rw [SE,SM] at this;exact this.symm
   rw [UB,hlen,pp];show ((forIn [x.length] (#[],free) (Uk x ⟨#[c]⟩ x.length 1)).run.fst).toList=[];rw [UQ];unfold Uk;rw [if_neg (fun z=>by have:=z.1.2;rw [dl] at this;omega)];rfl
 | d::l,pre,free,hx,hf=>by
   have hlen:x.length=pre.length+(l.length+1):=by
    have:=congrArg UZ hx;rw [SE,Sm,R7] at this;exact this
   rw [List.range'_succ,UQ,R7];have hg:x.cps.toList[pre.length]?=some d:=by rw [hx];simp
   have B2:=subAt_one x c pre.length (by omega);rw [hg] at B2;have B1:x.cps.toList=(pre++[d])++l:=by rw [hx];simp
   have Bj:(pre++[d]).length=pre.length+1:=by simp
   unfold Uk;rw [pp];by_cases BN:d=c
   · have h1:(((#[]:Array Nat).size<1/\free<=pre.length)/\pre.length+(⟨#[c]⟩:Ss).length<=x.length)/\subAt x ⟨#[c]⟩ pre.length=true:=by
      rw [dl,B2,BN];exact ⟨⟨⟨by decide,hf⟩,by omega⟩,decide_eq_true rfl⟩
     rw [if_pos h1,if_pos BN];show ((forIn (List.range' (pre.length+1) (l.length+1)) ((#[]:Array Nat).push pre.length,pre.length+1) (Uk x ⟨#[c]⟩ x.length 1)).run.fst).toList=_;rw [pH _ _ _ _ _ rfl];rfl
   · have h1:¬ ((((#[]:Array Nat).size<1/\free<=pre.length)/\pre.length+(⟨#[c]⟩:Ss).length<=x.length)/\subAt x ⟨#[c]⟩ pre.length=true):=fun z=>by
      have h2:=z.2;rw [B2] at h2;exact BN (Su (of_decide_eq_true h2))
     rw [if_neg h1,if_neg BN];have ih:=fw x c l (pre++[d]) free B1 (by omega);rw [Bj] at ih;exact ih
theorem qp (c:Nat) (post:List Nat):∀ (pre:List Nat) (off:Nat),(∀ d∈pre,d≠c)->pp c off (pre++c::post)=[off+pre.length]
 | [],off,_=>by rw [Ts,pp,if_pos rfl];rfl
 | d::pre,off,h=>by
   rw [S9,pp,if_neg (h d (Sr ..)),qp c post pre (off+1) fun e he=>h e (Sk _ he),R7];congr 1;omega
theorem occ_first {x:Ss} {c:Nat} {pre post:List Nat} (hx:x.cps.toList=pre++c::post) (hp:∀ d∈pre,d≠c):occurrences x ⟨#[c]⟩ 0 x.length 1=[pre.length]:=by
 rw [StrLaws.occ_eq];have h:=fw x c (pre++c::post) [] 0 hx (Sg _)
 have hlen:x.length=(pre++c::post).length:=by
  rw [<- hx,SE];rfl
 rw [UB,<- hlen] at h;rw [show x.length+1 - 0=x.length+1 by omega,h,qp c post pre 0 hp,VF]
end BB
namespace L2
open PySem PySem.Spec PySem.SeqAt PySem.Calls PyProof.Rows PySem.Builtin PySem.Builtin.Str BB
variable {X:Cx}
def zJ (K:R8) (n:Nat) (t:TGs):TG:=fun v σ H Q=>∃ a xs,v=.ref a/\SqL K H a xs/\xs.length=n/\t xs σ H Q
theorem yp {es:List TV} {k:Nat} {t:TGs} {n:Nat} {pos:Wq} (hc:X.calm=true) (h:PGs X es t)
 (hn:(WG es X.env).length=n:=by rfl) (AI:(WG es X.env).findIdx? (·.1)=none:=by rfl):PG X (.Tuple es k pos) (zJ X.K n t):=by
 intro pins s σ H v u Q I r hw;obtain ⟨a,xs,e1,hq,hl,hw⟩:=hw;subst e1;cases r;obtain ⟨its,rv,ht,hz⟩:=I.list hq;rw [assign_Tuple];refine R9 (Xo ?_);unfold unpack;have Az:its.toArray.size=n:=by rw [Si,<- rv.length,hl]
 rw [hn,AI,<- Az];refine R9 (Ve (PySem.W.kun_itemsOf (I.ok.hd hc) ht.isList fun h' hx=>?_));have I1:Inv X pins σ H { s with heap:=h' }:=I.kept (t':=s.toks) fun b o e=>hx b o (Ti (SD e)) e;exact h pins _ σ H xs _ Q I1 (by simpa using rv) hw
def yH:List V->Hp->VK->Prop:=fun xs H Q=>∃ (x:Ss) (n:Int),xs=[.str x]/\Xw x=some n/\x.length<=640/\Q (.int n) H
theorem tI:e9 X (.type "int") yH:=by
 intro pins s σ H xs us Q I r h;obtain ⟨x,n,rfl,hn,hl,q⟩:=h;obtain ⟨u,rfl,t,rfl⟩:=r.one;exact PySem.W.KIN.call_text hn hl ⟨.int n,H,I.tok _,⟨_,rfl⟩,q⟩
def zN (K:R8):R2:=fun x y H Q=>∃ z,y=.str z/\((∃ w,x=.str w/\Q (.bl (decide (w=z))) H)∨∃ a vs,x=.ref a/\SqT K H a vs/\Q (.bl false) H)
theorem jR (hu:X.A.units+2<WC):OpR X (UK .Eq) (zN X.K):=by
 intro pins s σ H x y v u Q I rx ry h;obtain ⟨z,rfl,h⟩:=h;obtain ⟨t',rfl⟩:=ry;rcases h with ⟨w,rfl,q⟩ | ⟨a,vs,rfl,ha,q⟩
 · obtain ⟨t,rfl⟩:=rx
   have e:decide (w=z)=(w == z):=by
    by_cases h:w=z
    · subst h;simp
    · rw [decide_eq_false h];exact (beq_false_of_ne h).symm
   rw [e] at q;exact RcAt.str_str w t z t' X.prog X.w X.xe _ ⟨.bl (w == z),H,I,rfl,q⟩
 · cases rx;obtain ⟨its,rv,ht,hz⟩:=I.tuple ha;exact RcAt.tuple_str z t' (show s.heap.IsTuple a its.toArray from ht) (by omega) X.prog X.w X.xe _ ⟨.bl false,H,I,rfl,q⟩
def xK:V->List V->Hp->VK->Prop:=fun x vs H Q=>∃ (z:Ss) (c:Nat) (pre post:List Nat),x=.str z/\vs=[.str ⟨#[c]⟩]/\z.cps.toList=pre++c::post/\(∀ d∈pre,d≠c)/\z.length<=1000000/\∀ p,H p=none->Q (.ref p) (upd H p (.tup [.str (ofL pre),.str ⟨#[c]⟩,.str (ofL post)]))
theorem n8:MtR X "str.partition" xK:=by
 intro pins s σ H x vs v us Q I rx rv h;obtain ⟨z,c,pre,post,rfl,rfl,hx,hp,hz,q⟩:=h;obtain ⟨t,rfl⟩:=rx;obtain ⟨u,rfl,t',rfl⟩:=rv.one;have KH:=occ_first hx hp;have hf:H s.heap.objs.size=none:=I.hok.fresh (Sg _);have hm:=meets_str_partition z ⟨#[c]⟩ t t' rfl (by rw [UJ];omega);rw [KH] at hm;refine VD F.slot_str_partition (Vl _ _ _) F.entry_str_partition (F.args_str_partition_2 _ _) hm ?_
 have e1:strSub z 0 pre.length=ofL pre:=cq (by
  rw [aG];show (z.cps.extract 0 pre.length).toList=pre;rw [Array.toList_extract,hx];simp)
 have e2:strSub z (pre.length+(⟨#[c]⟩:Ss).length) z.length=ofL post:=cq (by
  rw [aG];show (z.cps.extract (pre.length+1) z.cps.size).toList=post
  have Az:z.cps.size=pre.length+(post.length+1):=by
   rw [<- SE,hx,Sm,R7]
  rw [Array.toList_extract,hx,Az];simp;exact S7 (by omega))
 show wants (EP X pins σ Q) X.xe _ { s with toks:=s.toks+1+1,heap:=s.heap.push { cls:=.type "tuple",data:=.seq [.str (strSub z 0 pre.length) s.toks,.str ⟨#[c]⟩ t',.str (strSub z (pre.length+(⟨#[c]⟩:Ss).length) z.length) (s.toks+1)].toArray } };rw [e1,e2];refine ⟨.ref s.heap.objs.size,upd H s.heap.objs.size (.tup [.str (ofL pre),.str ⟨#[c]⟩,.str (ofL post)]),I.laid (t':=s.toks+1+1) (fun b u e=>Se _ e) (Sg _) ?_,rfl,q _ hf⟩;exact ⟨by show 3<=SQ;decide,_,_,.cons ⟨_,rfl⟩ (.cons ⟨_,rfl⟩ (.cons ⟨_,rfl⟩ .nil)),Sx _ rfl⟩
theorem vH:yU X (vh X.K):=by
 intro pins s σ H o i ov iv Q I r1 r2 h;obtain ⟨p,xs,k,z,rfl,rfl,hq,he,q⟩:=h;cases r1;obtain ⟨t,rfl⟩:=r2;obtain ⟨its,r,pl,hz⟩:=I.list hq;obtain ⟨j,h1,h2,h3,h4,h5⟩:=lp he;obtain ⟨w,ew,B0⟩:=r.get h2;have hl:=r.length;have hn:=gv;have fin:EP X pins σ Q w s:=⟨z,H,I,B0,q⟩;by_cases h0:0<=k
 · have hj:k.toNat=j:=by
    rw [seqIndex_of h0 h5] at h1;exact Su h1
   exact wpAny_getItem_list pl.isList h0 (by omega) (by rw [hj];simpa using ew) fin
 · have hj:(k+(its.toArray.size:Int)).toNat=j:=by
    rw [seqIndex_neg (by omega) h4] at h1;rw [Si,<- hl];exact Su h1
   exact wpAny_getItem_list_neg pl.isList (by omega) (by rw [Si,<- hl];omega) (by omega) (by rw [hj];simpa using ew) fin
def zi (K:R8) (sep y z:Ss) (te:TE):TE:=fun σ H Q=>te σ H fun v H1=>∃ p ys,v=.ref p/\SqL K H1 p (ys.map V.str)/\(ys.map (·.length)).sum+ys.length * sep.length<=1000000/\(Tg sep ys).length<=1000000/\Q (.str (Xi (Tg sep ys) y z)) H1
theorem wB {sep y z:Ss} {e:TV} {te:TE} {k0 k1 k2:Nat} {p0 p1 p2 p3 p4 p5 p6:Wq} (he:PE X e te) (O7:(y == z)=false) (hz:z.length<=14)
 (hs:Tz [e] X.env=[(false,U4 e X.env)]:=by rfl) (AX:(p1.endLine == p2.line)=true:=by rfl) (AW:(p3.endLine == p6.line)=true:=by rfl)
 (O8:((Wz p2 (Tz [e] X.env)).all (fun x=>!x.1) && (backToKw p2 (keywordEach [] X.env)).all (fun x=>x.1.isSome) && decide (([e]:List TV).length+([]:List Keyword).length+(if ([]:List Keyword).isEmpty then 0 else 1)<30))=true:=by rfl) :
 PE X (.Call (.Attribute (.Call (.Attribute (.Constant (.str sep) k0 p0) "join" p1) [e] [] p2) "replace" p3) [.Constant (.str y) k1 p4,.Constant (.str z) k2 p5] [] p6) (zi X.K sep y z te):=by
 intro pins s σ H Q I h;refine VM rfl rfl AW rfl ?_;refine VM rfl O8 AX rfl (UH ?_);refine ⟨"str","str.join",TB,Wl,Wj,Vl _ _ _,(fun _ e=>nomatch e),?_⟩;have I1:Inv X pins σ H { s with toks:=s.toks+1 }:=I.tok _;refine wpAny_with_toks (n:=1) (show 1<=s.toks+1 by omega) ?_;refine T4 (Q:=EP X pins σ fun x H1=>∃ ys,x=.str (Tg sep ys)/\(Tg sep ys).length<=1000000/\Q (.str (Xi (Tg sep ys) y z)) H1) (E:=X.xe) ?_ (fun v s1 hv hk=>?_) fun e s' h _=>h
 · have hA:=(aa he (@ac X) hs) p2 pins _ σ H (fun vs H1=>match vs with | [v]=>∃ p ys,v=.ref p/\SqL X.K H1 p (ys.map V.str)/\(ys.map (·.length)).sum+ys.length * sep.length<=1000000/\(Tg sep ys).length<=1000000/\Q (.str (Xi (Tg sep ys) y z)) H1 | _=>False) I1 h;rw [hs] at hA ⊢;refine Vd rfl (VC ?_);refine thn hA fun us s2 ⟨vs,H2,I2,r2,q2⟩=>lr pins s2 σ H2 (.str sep) vs (.str sep s.toks) us _ I2 ⟨_,rfl⟩ r2 ?_
   match vs,q2 with
   | [v],⟨p,ys,e1,hl,Jm,KI,q⟩=>exact ⟨sep,p,ys,rfl,by rw [e1],hl,by omega,ys,rfl,KI,q⟩
 · obtain ⟨x,H1,I2,rx,ys,rfl,hlen,q⟩:=hv;obtain ⟨t,rfl⟩:=rx;refine ⟨"str","str.replace",TB,WY,WW,Vl _ _ _,(fun _ e=>nomatch e),?_⟩;refine Vd rfl (VC ?_);show SI _ _ (spliced [(false,U4 (.Constant (.str y) k1 p4) X.env),(false,U4 (.Constant (.str z) k2 p5) X.env)]) _ _ _;refine Uq (UH (Uq (UH (VB ?_))));exact SC.replaceW (UW hk) (Nat.succ_ne_zero _) (Ti (Ws _)) O7 (by omega) hz fun t' k'=>⟨.str _,H1,I2.tok k',⟨_,rfl⟩,q⟩
end L2
namespace BB
open PySem L2
set_option genInjectivity true in
inductive Stp where
 | sg (c:Ss)
 | th (t:Th)
mutual
def Th.stP:Th->List (List Ss×Stp)
 | .knot n ts=>([n],.th (.knot n []))::(if ts=[] then [] else ([lpar],.sg lpar)::(cw ts++[([rpar],.sg rpar)]))
 | .call s k=>[([aS s,dot,aS k],.th (.call s k))]
def cw:List Th->List (List Ss×Stp)
 | []=>[]
 | t::ts=>t.stP++(if ts=[] then [] else ([comma],.sg comma)::cw ts)
end
def Th.wP (t:Th):List Ss:=(t.stP.map (·.1)).flatten
structure PSt where
 tops:List (Th×Int)
 win:List Nat
 bef:Stp
def ended:Stp->Bool
 | .th _=>true
 | .sg c=>decide (c=rpar)
def gP:Stp->Bool
 | .th (.knot _ _)=>true
 | _=>false
def pZ (l:List (Th×Int)) (j:Nat) (f:Int->Int):List (Th×Int):=l.modify j fun p=>(p.1,f p.2)
def bp (S:PSt):Stp->Option PSt
 | .th t=>if ended S.bef=false then some ⟨S.tops++[(t,0)],S.win,.th t⟩ else none
 | .sg c=>if c=lpar then (if gP S.bef=true/\S.win.length<100/\S.tops≠[] then some ⟨pZ S.tops (S.tops.length - 1) (fun _=>1),S.win++[S.tops.length - 1],.sg c⟩ else none)
   else if c=comma then (if ended S.bef=true/\S.win≠[] then some ⟨pZ S.tops (S.win.getLastD 0) (·+1),S.win,.sg c⟩ else none)
   else if c=rpar then (if ended S.bef=true/\S.win≠[] then some ⟨S.tops,S.win.dropLast,.sg c⟩ else none)
   else none
def prun (S:PSt):List Stp->Option PSt
 | []=>some S
 | x::l=>(bp S x).bind fun S'=>prun S' l
def i6:Th->Th×Int
 | .knot n ks=>(.knot n [],(ks.length:Nat))
 | .call s k=>(.call s k,0)
theorem qt (A B:List (Th×Int)) (x:Th×Int) (f:Int->Int):pZ (A++x::B) A.length f=A++(x.1,f x.2)::B:=by
 unfold pZ;induction A with
 | nil=>rfl
 | cons a A ih=>rw [S9,R7,List.modify_succ_cons,ih];rfl
theorem gY (l:List Nat) (x d:Nat):(l++[x]).getLastD d=x:=by rw [List.getLastD_eq_getLast?,List.getLast?_concat];rfl
theorem dh {S S':PSt} {x:Stp} {l:List Stp} (h:bp S x=some S'):prun S (x::l)=prun S' l:=by rw [prun,h];rfl
theorem fg:comma≠lpar/\rpar≠lpar/\rpar≠comma/\comma≠rpar/\lpar≠rpar:=by decide +kernel
theorem mI:ended (.sg lpar)=false:=decide_eq_false fg.2.2.2.2
theorem dz:ended (.sg comma)=false:=decide_eq_false fg.2.2.2.1
theorem iE:ended (.sg rpar)=true:=by
 show decide (rpar=rpar)=true;exact decide_eq_true rfl
theorem uo:∀ {ts:List Th},ts≠[]->1<=ba ts
 | [],h=>absurd rfl h
 | t::ts,_=>by
   rw [ba];cases t with
   | knot n ks=>rw [Th.tall];omega
   | call s k=>rw [Th.tall];omega
mutual
theorem qU:∀ (t:Th) (S:PSt) (rest:List Stp),ended S.bef=false->t.tall+S.win.length<=101->∃ b,ended b=true/\prun S (t.stP.map (·.2)++rest)=prun ⟨S.tops++t.walk.map i6,S.win,b⟩ rest
 | .call s k,S,rest,hb,_=>by
   refine ⟨.th (.call s k),rfl,?_⟩;rw [Th.stP,Th.walk];exact dh (by rw [bp,if_pos hb];rfl)
 | .knot n ts,S,rest,hb,ht=>by
   have h1:bp S (.th (.knot n []))=some ⟨S.tops++[(.knot n [],0)],S.win,.th (.knot n [])⟩:=by rw [bp,if_pos hb]
   rw [Th.stP,Th.walk];by_cases hz:ts=[]
   · subst hz;rw [if_pos rfl];refine ⟨.th (.knot n []),rfl,?_⟩;rw [Sl,UN,S9,Ts,dh h1];rfl
   · rw [if_neg hz];rw [Th.tall] at ht;have hl:(S.tops++[((Th.knot n []:Th),(0:Int))]).length - 1=S.tops.length:=by rw [Sm];rfl
     have h2:bp ⟨S.tops++[(.knot n [],0)],S.win,.th (.knot n [])⟩ (.sg lpar)=some ⟨S.tops++[(.knot n [],1)],S.win++[S.tops.length],.sg lpar⟩:=by
      rw [bp,if_pos rfl,if_pos ⟨rfl,(by show S.win.length<100;have:=uo hz;omega),(by simp)⟩];dsimp only;rw [hl,qt]
     obtain ⟨b,Cp,h3⟩:=sZ ts hz S.tops n 1 [] S.win (.sg lpar) (.sg rpar::rest) mI (by omega);refine ⟨.sg rpar,iE,?_⟩;rw [Sl,Sl,Sq,Sl,UN,S9,S9,SO,S9,Ts,dh h1,dh h2,h3]
     have h4:bp ⟨S.tops++(.knot n [],1+((ts.length:Nat):Int) - 1)::([]++(walks ts).map i6),S.win++[S.tops.length],b⟩ (.sg rpar)=some ⟨S.tops++(.knot n [],1+((ts.length:Nat):Int) - 1)::([]++(walks ts).map i6),S.win,.sg rpar⟩:=by
      rw [bp,if_neg fg.2.1,if_neg fg.2.2.1,if_pos rfl,if_pos ⟨Cp,by simp⟩];dsimp only;rw [Xz]
     rw [dh h4,Ts,Sl,i6,show (1:Int)+((ts.length:Nat):Int) - 1=((ts.length:Nat):Int) by omega]
theorem sZ:∀ (ts:List Th),ts≠[]->∀ (A:List (Th×Int)) (n:Ss) (m:Int) (B:List (Th×Int)) (W:List Nat) (bef:Stp) (rest:List Stp),ended bef=false->ba ts+(W.length+1)<=101 →
 ∃ b,ended b=true/\prun ⟨A++(.knot n [],m)::B,W++[A.length],bef⟩ ((cw ts).map (·.2)++rest)=prun ⟨A++(.knot n [],m+((ts.length:Nat):Int) - 1)::(B++(walks ts).map i6),W++[A.length],b⟩ rest
 | [],h,_,_,_,_,_,_,_,_,_=>absurd rfl h
 | t::ts,_,A,n,m,B,W,bef,rest,hb,ht=>by
   rw [ba] at ht;rw [cw,walks];by_cases hz:ts=[]
   · subst hz;rw [if_pos rfl,SM];obtain ⟨b,Dq,h1⟩:=qU t ⟨A++(.knot n [],m)::B,W++[A.length],bef⟩ rest hb (by show t.tall+(W++[A.length]).length<=101;rw [Sm,Tn];omega);refine ⟨b,Dq,?_⟩;rw [h1,walks,SM,SO,S9];have:m+(([t].length:Nat):Int) - 1=m:=by show m+1 - 1=m;omega
     rw [this]
   · rw [if_neg hz];obtain ⟨b,Dq,h1⟩:=qU t ⟨A++(.knot n [],m)::B,W++[A.length],bef⟩ (.sg comma::((cw ts).map (·.2)++rest)) hb (by show t.tall+(W++[A.length]).length<=101;rw [Sm,Tn];omega)
     have h2:bp ⟨(A++(.knot n [],m)::B)++t.walk.map i6,W++[A.length],b⟩ (.sg comma)=some ⟨A++(.knot n [],m+1)::(B++t.walk.map i6),W++[A.length],.sg comma⟩:=by
      rw [bp,if_neg fg.1,if_pos rfl,if_pos ⟨Dq,by simp⟩];dsimp only;rw [gY,SO,S9,qt]
     obtain ⟨b2,Cp,h3⟩:=sZ ts hz A n (m+1) (B++t.walk.map i6) W (.sg comma) rest dz (by omega);refine ⟨b2,Cp,?_⟩;rw [Sq,Sl,SO,S9,h1,dh h2,h3];congr 2;rw [Sq,SO,R7];congr 3
     push_cast
     omega
end
theorem ud {t:Th} (h:t.tall<=101):∃ b,ended b=true/\prun ⟨[],[],.sg comma⟩ (t.stP.map (·.2))=some ⟨t.walk.map i6,[],b⟩:=by
 obtain ⟨b,hb,e⟩:=qU t ⟨[],[],.sg comma⟩ [] dz (by show t.tall+0<=101;omega);rw [SM,Ts] at e;exact ⟨b,hb,e⟩
def sp4 (d:Nat):List Nat:=if d=46 then [32,46,32] else spS d
theorem v6 (l:List Nat):rep3 (cC 46 [32,46,32] l)=l.flatMap sp4:=by
 rw [sJ];unfold cC;rw [WO];congr 1;funext d;unfold sp4;split
 · rfl
 · rw [UP,List.flatMap_nil,SM]
def W4 (l:List Nat):List (List Nat):=wds (l.flatMap sp4)
theorem yl:sp4 32=[32]:=rfl
theorem mw (a b:List Nat):W4 (a++32::b)=W4 a++W4 b:=by
 unfold W4;rw [VZ,UP,yl];exact kX _ _
theorem xo:∀ ls:List (List Nat),W4 (jn ls)=(ls.map W4).flatten
 | []=>rfl
 | [x]=>by rw [jn,Sl,UN,SJ,List.flatten_nil,SM]
 | x::y::r=>by
   rw [jn,mw,xo (y::r)];rfl
def em (cur:List Nat):List (List Nat):=if cur=[] then [] else [cur]
def scW:List Nat->List Nat->List (List Nat)
 | cur,[]=>em cur
 | cur,c::l=>if c=32 then em cur++scW [] l else scW (cur++[c]) l
theorem vx {cur:List Nat} (h:∀ c∈cur,c≠32):wds cur=em cur:=by
 unfold em;by_cases hz:cur=[]
 · rw [if_pos hz,hz];rfl
 · rw [if_neg hz];exact jk h hz
theorem rG:∀ (l cur:List Nat),(∀ c∈cur,c≠32)->wds (cur++l)=scW cur l
 | [],cur,h=>by rw [SM,scW];exact vx h
 | c::l,cur,h=>by
   rw [scW];by_cases hc:c=32
   · rw [if_pos hc,hc,kX,vx h];have:=rG l [] (fun c h=>by cases h);rw [Ts] at this;rw [this]
   · rw [if_neg hc]
     have:=rG l (cur++[c]) fun d hd=>by
      rcases Sv.mp hd with hd | hd
      · exact h d hd
      · rw [Sy.mp hd];exact hc
     rw [<- this,SO];rfl
theorem xv (l:List Nat):W4 l=scW [] (l.flatMap sp4):=rG _ [] fun c h=>by cases h
theorem jm (l:List Nat):∀ (w cur:List Nat),(∀ c∈w,c≠32)->scW cur (w++l)=scW (cur++w) l
 | [],cur,_=>by rw [Ts,SM]
 | c::w,cur,h=>by
   rw [S9,scW,if_neg (h c (Sr ..)),jm l w _ fun d hd=>h d (Sk _ hd),SO];rfl
theorem mG {n:Int} (h0:0<=n) (h1:n<10):sL (aS n)=[48+n.toNat]:=by
 rcases (by omega:n=0∨n=1∨n=2∨n=3∨n=4∨n=5∨n=6∨n=7∨n=8∨n=9) with rfl | rfl | rfl | rfl | rfl | rfl | rfl | rfl | rfl | rfl <;> decide +kernel
theorem rM:sL dot=[46]:=by decide +kernel
mutual
/-- calls of one KJ,names GA are words -/
def Th.Rd:Th->Prop
 | .knot n ts=>okW n/\n.length<=8/\Rds ts
 | .call s k=>0<=s/\s<10/\0<=k/\k<10
def Rds:List Th->Prop
 | []=>True
 | t::ts=>t.Rd/\Rds ts
end
theorem gD {f:Int->Int->Th} {ts:List Th}:fills f ts=[]↔ts=[]:=by
 cases ts with
 | nil=>exact ⟨fun _=>rfl,fun _=>by rw [fills]⟩
 | cons t ts=>rw [fills];exact ⟨(fun z=>by cases z),(fun z=>by cases z)⟩
mutual
theorem pS:∀ (t:Th),∀ p∈(t.fill cr).walk,p.isCall=false
 | .call s k=>fun p hp=>by
   rw [Th.fill,cr,Th.walk,walks] at hp;rw [Sy.mp hp];rfl
 | .knot n ts=>fun p hp=>by
   rw [Th.fill,Th.walk] at hp;rcases Sn.mp hp with rfl | hp
   · rfl
   · exact nX ts p hp
theorem nX:∀ (ts:List Th),∀ p∈walks (fills cr ts),p.isCall=false
 | []=>fun p hp=>by rw [fills,walks] at hp;cases hp
 | t::ts=>fun p hp=>by
   rw [fills,walks] at hp;rcases Sv.mp hp with hp | hp
   · exact pS t p hp
   · exact nX ts p hp
end
def Nx (l:List Nat):Prop:=l=[]∨∃ c r,l=c::r/\(c=40∨c=41∨c=44)
theorem i4 {c:Nat} (h:c=40∨c=41∨c=44∨c=46):sp4 c=[32,c,32]:=by
 rcases h with rfl | rfl | rfl | rfl <;> rfl
theorem gH {c:Nat} (h:c≠40/\c≠41/\c≠44/\c≠46):sp4 c=[c]:=by
 unfold sp4 spS;rw [if_neg h.2.2.2,if_neg (fun z=>by omega)]
theorem ju {w:List Nat} (h:∀ c∈w,47<=c):w.flatMap sp4=w:=by
 induction w with
 | nil=>rfl
 | cons c w ih =>
   have hc:=h c (Sr ..);rw [UP,gH ⟨by omega,by omega,by omega,by omega⟩,ih fun d hd=>h d (Sk _ hd)];rfl
theorem gG (cur l:List Nat) {c:Nat} (h:c=40∨c=41∨c=44∨c=46):scW cur ((c::l).flatMap sp4)=em cur++[c]::scW [] (l.flatMap sp4):=by
 rw [UP,i4 h];show scW cur (32::c::32::l.flatMap sp4)=_;rw [scW,if_pos rfl,scW,if_neg (by omega),scW,if_pos rfl];rfl
theorem vY {w l:List Nat} (hw:w≠[]) (h:Nx l):scW w (l.flatMap sp4)=w::scW [] (l.flatMap sp4):=by
 have he:em w=[w]:=by unfold em;rw [if_neg hw]
 rcases h with rfl | ⟨c,r,rfl,hc⟩
 · show em w=w::em [];rw [he];rfl
 · have BQ:c=40∨c=41∨c=44∨c=46:=by omega
   rw [gG w r BQ,gG [] r BQ,he];rfl
theorem rb (c:Nat):(c=40∨c=41∨c=44∨c=46)∨(c≠40/\c≠41/\c≠44/\c≠46):=by omega
end BB
namespace L2
open PySem PySem.Spec PyProof.Rows
def vd (K:R8) (a:Sa):It:=⟨fun i H=>∃ xs x,SqL K H a xs/\xs[i]?=some x,fun i H x H'=>∃ p y,H p=none/\x=.ref p/\H'=upd H p (.tup [.int (i:Nat),y])/\∀ xs,SqL K H a xs->xs[i]?=some y,fun i H=>∃ xs,SqL K H a xs/\xs.length=i⟩
theorem rP {P:SX} {w:Tq} {K:R8} {elts:List TV} {k1} {pos:Wq} (a e it:Sa):Turn P w K (.Tuple elts k1 pos) (vd K a) [e,it] e (fun i h=>(∃ old,IsEnum h e it ((i:Nat):Int) old)/\h.IsListIter it a i) where
 mem:=by simp
 obj:=fun i h st b hb=>by
  obtain ⟨⟨old,he⟩,o,e1,e2,e3⟩:=st;rcases Sn.mp hb with rfl | hb
  · exact ⟨_,he,fun v z=>by cases z⟩
  · have:b=it:=by simpa using hb
    subst this;exact ⟨o,e1,fun v z=>by rw [e3] at z;cases z⟩
 keep:=fun i h h' st k=>by
  obtain ⟨⟨old,he⟩,o,e1,e2⟩:=st;exact ⟨⟨old,k e (by simp) _ he⟩,o,k it (by simp) _ e1,e2⟩
 item:=by
  intro X hP hw hK hc i pins s σ H E I hf st hg;subst hP hw hK;obtain ⟨xs,x,hq,hx⟩:=hg;obtain ⟨its,rv,p,hz⟩:=I.list hq;obtain ⟨u,hu,ru⟩:=rv.get hx;obtain ⟨⟨old,he⟩,hi⟩:=st
  have KL:e≠it:=by
   rintro rfl;obtain ⟨o,e1,e2,_⟩:=hi;rw [he] at e1;cases e1;exact absurd (X4 e2) (by decide)
  have KN:a≠it:=by
   rintro rfl;obtain ⟨o,e1,e2,_⟩:=hi;obtain ⟨o',Ga,DD,_⟩:=p.isList;rw [Ga] at e1;cases e1;rw [DD] at e2;exact absurd (X4 e2) (by decide)
  have O9:a≠e:=by
   rintro rfl;obtain ⟨o',Ga,DD,_⟩:=p.isList;rw [he] at Ga;cases Ga;exact absurd (X4 DD) (by decide)
  have AD:i<its.toArray.size:=by
   have:=(Sj.mp hu).1;simpa using this
  have Pa:e<s.heap.objs.size:=SD he;have Bo:it<s.heap.objs.size:=by obtain ⟨o,e1,_⟩:=hi;exact SD e1
  refine wpAny_pyNext_enum_itemD (Draws.list (A:=X.A.in1) (show X.A.in1.handled=none from I.ok.hd hc) it a KN its.toArray) he ⟨hi,p.isList⟩ AD KL (by simp [KL,O9.symm]) fun y h1 tk hy ho Pb hT Az hk=>?_
  have Pd:y=u:=by
   have:its[i]?=some y:=by simpa using hy
   rw [hu] at this;exact (Su this).symm
  subst Pd;refine ⟨_,rfl,wpAny_letOwnedTupleGo_enum ho fun h2 Pe Jn=>?_⟩;replace Jn:Vc e h1 h2:=Jn
  have Ax:∀ b∈[e,it],b<s.heap.objs.size:=fun b hb=>by
   rcases Sn.mp hb with rfl | hb
   · exact Pa
   · have:b=it:=by simpa using hb
     subst this;exact Bo
  have Kv:H s.heap.objs.size=none:=I.hok.fresh (Sg _)
  have IA:Inv X pins σ (upd H s.heap.objs.size (.tup [.int (i:Nat),x])) { s with heap:=s.heap.push { cls:=.type "tuple",data:=.seq #[.int (i:Nat) tk,y] },toks:=tk } :=
   I.laid (o:=.tup [.int (i:Nat),x]) (fun b ob q=>Se _ q) (Sg _) ⟨by show 2<=SQ;decide,[.int (i:Nat) tk,y],0,.cons ⟨tk,rfl⟩ (.cons ru .nil),Sx _ rfl⟩
  refine ⟨.ref s.heap.objs.size,upd H s.heap.objs.size (.tup [.int (i:Nat),x]),?_,rfl,⟨_,x,Kv,rfl,rfl,fun ys G2=>by rw [I.list_inj G2 hq];exact hx⟩,⟨⟨y,by simpa using Pe⟩,?_⟩,fun b hb=>?_⟩
  · have IB:Inv X pins σ (upd H s.heap.objs.size (.tup [.int (i:Nat),x])) { s with heap:=h2,toks:=tk+1 }:=by
     refine Inv.turnedL (s:={ s with heap:=s.heap.push { cls:=.type "tuple",data:=.seq #[.int (i:Nat) tk,y] },toks:=tk }) (h':=h2) (fp:=[e,it]) (t':=tk+1) IA (fun b o hb q=>?_) fun b hb=>?_
     · have D8:b≠e:=fun z=>hb (by simp [z]);have Jg:b≠it:=fun z=>hb (by simp [z]);rw [Jn.2 b D8];by_cases Cp:b=s.heap.objs.size
       · subst Cp;rw [hT];have q':(s.heap.push { cls:=.type "tuple",data:=.seq #[.int (i:Nat) tk,y] }).get? s.heap.objs.size=some o:=q;rw [Sx _ rfl] at q';exact q'
       · have Cq:b<(s.heap.push { cls:=.type "tuple",data:=.seq #[.int (i:Nat) tk,y] }).objs.size:=SD q;rw [UG] at Cq;refine hk b o D8 Jg ?_;have q':(s.heap.push { cls:=.type "tuple",data:=.seq #[.int (i:Nat) tk,y] }).get? b=some o:=q;rw [Heap.get?_push_ne _ _ _ Cp] at q';exact q'
     · obtain ⟨f0,f1⟩:=hf b hb;exact ⟨by rw [aq (Ti (Ax b hb))];exact f0,f1⟩
    exact IB
  · obtain ⟨o,e1,r⟩:=Pb.1;exact ⟨o,(Jn.2 it (VE KL)).trans e1,r⟩
  · rw [aq (Ti (Ax b hb))];exact (hf b hb).1
 done:=by
  intro X hP hw hK hc i pins s σ H E I hf st hg;subst hP hw hK;obtain ⟨xs,hq,hx⟩:=hg;obtain ⟨its,rv,p,hz⟩:=I.list hq;obtain ⟨⟨old,he⟩,hi⟩:=st
  have KN:a≠it:=by
   rintro rfl;obtain ⟨o,e1,e2,_⟩:=hi;obtain ⟨o',Ga,DD,_⟩:=p.isList;rw [Ga] at e1;cases e1;rw [DD] at e2;exact absurd (X4 e2) (by decide)
  have hn:its.toArray.size=i:=by
   have:=rv.length;rw [Si];omega
  refine wpAny_pyNext_enum_endD (Draws.list (A:=X.A.in1) (show X.A.in1.handled=none from I.ok.hd hc) it a KN its.toArray) he (by rw [hn];exact ⟨hi,p.isList⟩) fun h' eb=>⟨rfl,?_⟩;exact I.turnedL (fp:=[e,it]) (t':=s.toks) (fun b o hb q=>eb b o (fun z=>hb (by simp [z])) q) hf
 self:=fun _ _ _ _ _ st h=>by
  obtain ⟨⟨old,he⟩,_⟩:=st;exact wpAny_pyIter_enum he h
section
variable {X:Cx} {e:TV} {te:TE} {p2 BJ:Wq}
def yv (K:R8) (tl:TE):TI:=fun σ H R=>tl σ H fun x H1=>∃ a,x=.ref a/\(∃ xs,SqL K H1 a xs)/\R (vd K a) H1
theorem ve {elts:List TV} {k1} {pos:Wq} (g2:Gl X "enumerate") (m2:X.mg "enumerate"=none) (he:PE X e te) (h2:Tz [e] X.env=[(false,U4 e X.env)]:=by rfl):PI X (.Tuple elts k1 pos) (.Call (.Name "enumerate" p2) [e] [] BJ) (yv X.K te):=by
 intro pins s σ H R I h;refine U0 (iC I g2 m2 boot_enumerate (U6 ?_ h2 rfl));rw [h2];show SI _ _ (spliced ((false,U4 e X.env)::[])) _ _ s;refine Uq (thn (he pins s σ H _ I h) fun u s1 ⟨x,H1,I1,r1,a,ex,⟨xs,hq⟩,q⟩=>VB ?_);subst ex;cases r1;obtain ⟨its,rv,p,hz⟩:=I1.list hq;refine call_enumerate_list (show s1.heap.IsList a its.toArray from p.isList) fun h' g1 g2 g3 g4=>?_;refine wpAny_pyIter_enum (s:={ s1 with heap:=h' }) g1 ?_;refine ⟨s1.heap.objs.size+1,[s1.heap.objs.size+1,s1.heap.objs.size],_,_,H1,rfl,I1.kept (t':=s1.toks) g4,rP a _ _,⟨⟨_,g1⟩,g2⟩,fun b hb=>?_,q⟩
 have BA:s1.heap.objs.size<=b:=by
  rcases Sn.mp hb with rfl | hb
  · omega
  · have:b=s1.heap.objs.size:=by simpa using hb
    exact Xe this.symm
 exact I1.fpOk BA (I1.hok.fresh BA)
end
theorem t6 {K:R8} {a:Sa} {xs:List V} {g:TG} {tb:TS} {D:Ends} {σ:St} {H:Hp} (Pv:Nat->St->Hp->Prop) (h0:Pv 0 σ H) (hl:∀ i σ H,i<=xs.length->Pv i σ H->SqL K H a xs)
 (hs:∀ i x p σ H,xs[i]?=some x->H p=none->Pv i σ H->g (.ref p) σ (upd H p (.tup [.int (i:Nat),x])) fun AB H2=>tb { D with nx:=Pv (i+1),ct:=Pv (i+1),bk:=D.nx } AB H2) (hd:∀ σ H,Pv xs.length σ H->D.nx σ H) :
 ∃ W:Nat->Nat->St->Hp->Prop,(∃ m,W 0 m σ H)/\∀ i m σ H,W i m σ H →
   ((vd K a).stop i H/\D.nx σ H)∨((vd K a).go i H/\∃ N:St->Hp->Prop,(∀ f' H',N f' H'->∃ m',m'<m/\W (i+1) m' f' H')/\∀ x H',(vd K a).yld i H x H'->g x σ H' fun AB H2=>tb { D with nx:=N,ct:=N,bk:=D.nx } AB H2):=by
 refine ⟨fun i m σ H=>m=xs.length - i/\i<=xs.length/\Pv i σ H,⟨xs.length,by simp,Td _,h0⟩,?_⟩;rintro i m σ H ⟨rfl,hi,p⟩;have q:=hl i σ H hi p;by_cases AD:i<xs.length
 · refine .inr ⟨⟨xs,xs[i],q,by simp [AD]⟩,Pv (i+1),fun f' H' p'=>⟨xs.length - (i+1),by omega,rfl,AD,p'⟩,fun x H' y=>?_⟩;obtain ⟨pa,y,hp,rfl,rfl,hy⟩:=y;exact hs i y pa σ H (hy xs q) hp p
 · have e:i=xs.length:=by omega
   subst e;exact .inl ⟨⟨xs,q,rfl⟩,hd σ H p⟩
end L2
namespace BB
theorem hid {G:Prop} (k:∀ F:Prop,(G->F)->F):G:=k G id
inductive Ex1 {A0:Type} (p:A0->Prop):Prop
 | mk (x0:A0) (h:p x0):Ex1 p
inductive Ex2 {A0 A1:Type} (p:A0->A1->Prop):Prop
 | mk (x0:A0) (x1:A1) (h:p x0 x1):Ex2 p
inductive Ex3 {A0 A1 A2:Type} (p:A0->A1->A2->Prop):Prop
 | mk (x0:A0) (x1:A1) (x2:A2) (h:p x0 x1 x2):Ex3 p
inductive Ex4 {A0 A1 A2 A3:Type} (p:A0->A1->A2->A3->Prop):Prop
 | mk (x0:A0) (x1:A1) (x2:A2) (x3:A3) (h:p x0 x1 x2 x3):Ex4 p
inductive Ex5 {A0 A1 A2 A3 A4:Type} (p:A0->A1->A2->A3->A4->Prop):Prop
 | mk (x0:A0) (x1:A1) (x2:A2) (x3:A3) (x4:A4) (h:p x0 x1 x2 x3 x4):Ex5 p
inductive Ex6 {A0 A1 A2 A3 A4 A5:Type} (p:A0->A1->A2->A3->A4->A5->Prop):Prop
 | mk (x0:A0) (x1:A1) (x2:A2) (x3:A3) (x4:A4) (x5:A5) (h:p x0 x1 x2 x3 x4 x5):Ex6 p
inductive An2 (a0 a1:Prop):Prop
 | mk (h0:a0) (h1:a1):An2 a0 a1
inductive An3 (a0 a1 a2:Prop):Prop
 | mk (h0:a0) (h1:a1) (h2:a2):An3 a0 a1 a2
inductive An4 (a0 a1 a2 a3:Prop):Prop
 | mk (h0:a0) (h1:a1) (h2:a2) (h3:a3):An4 a0 a1 a2 a3
inductive An5 (a0 a1 a2 a3 a4:Prop):Prop
 | mk (h0:a0) (h1:a1) (h2:a2) (h3:a3) (h4:a4):An5 a0 a1 a2 a3 a4
inductive An6 (a0 a1 a2 a3 a4 a5:Prop):Prop
 | mk (h0:a0) (h1:a1) (h2:a2) (h3:a3) (h4:a4) (h5:a5):An6 a0 a1 a2 a3 a4 a5
inductive An7 (a0 a1 a2 a3 a4 a5 a6:Prop):Prop
 | mk (h0:a0) (h1:a1) (h2:a2) (h3:a3) (h4:a4) (h5:a5) (h6:a6):An7 a0 a1 a2 a3 a4 a5 a6
inductive An8 (a0 a1 a2 a3 a4 a5 a6 a7:Prop):Prop
 | mk (h0:a0) (h1:a1) (h2:a2) (h3:a3) (h4:a4) (h5:a5) (h6:a6) (h7:a7):An8 a0 a1 a2 a3 a4 a5 a6 a7
inductive yB (a0 a1 a2 a3 a4 a5 a6 a7 a8 a9 MT MU a12:Prop):Prop
 | mk (h0:a0) (h1:a1) (h2:a2) (h3:a3) (h4:a4) (h5:a5) (h6:a6) (h7:a7) (h8:a8) (h9:a9) (RC:MT) (RD:MU) (RE:a12):yB a0 a1 a2 a3 a4 a5 a6 a7 a8 a9 MT MU a12
end BB
namespace L2
open PySem PySem.Spec PyProof.Rows
end L2
namespace BB
open PySem L2
theorem yq:∀ c<10,sL (aS (c:Nat))=[48+c]:=by decide +kernel
theorem yy:∀ b<10,∀ c<10,b≠0->sL (aS (10 * b+c:Nat))=[48+b,48+c]:=by decide +kernel
theorem yi:(Tw 10).all (fun a=>(Tw 10).all fun b=>(Tw 10).all fun c=>decide (a=0) || decide (sL (aS (100 * a+10 * b+c:Nat))=[48+a,48+b,48+c]))=true:=by decide +kernel
theorem v7 {a b c:Nat} (ha:a<10) (hb:b<10) (hc:c<10) (h0:a≠0):sL (aS (100 * a+10 * b+c:Nat))=[48+a,48+b,48+c]:=by
 have h:=Tv.mp (Tv.mp (Tv.mp yi a (UY.mpr ha)) b (UY.mpr hb)) c (UY.mpr hc);rw [decide_eq_false h0,Bool.false_or] at h;exact of_decide_eq_true h
theorem mq:∀ n<1000,Xw (aS (n:Nat))=some ((n:Nat):Int):=by decide +kernel
def isNum (z:Ss):Bool:=decide (1<=z.length/\z.length<=3) && (sL z).all (fun c=>decide (48<=c/\c<=57)) && (decide ((sL z).head?≠some 48) || decide (sL z=[48]))
theorem rT {z:Ss} (h:isNum z=true):∃ n:Nat,n<1000/\z=aS (n:Nat):=by
 unfold isNum at h;rw [Tr,Tr,Tv,Xm] at h;obtain ⟨⟨h1,h2⟩,h3⟩:=h;have h1:=of_decide_eq_true h1;rw [<- bV] at h1;have h2:∀ c∈sL z,48<=c/\c<=57:=fun c hc=>of_decide_eq_true (h2 c hc);have h3:(sL z).head?≠some 48∨sL z=[48]:=h3.imp of_decide_eq_true of_decide_eq_true
 match e:sL z,h1,h2,h3 with
 | [c],_,h2,_ =>
   have c1:=h2 c (by simp);have k:=yq (c - 48) (by omega);rw [show 48+(c - 48)=c by omega] at k;exact ⟨c - 48,by omega,cq (e.trans k.symm)⟩
 | [b,c],_,h2,h3 =>
   have c1:=h2 c (by simp);have b1:=h2 b (by simp);have b0:b≠48:=fun z=>by rcases h3 with h3 | h3 <;> simp_all
   have k:=yy (b - 48) (by omega) (c - 48) (by omega) (by omega);rw [show 48+(c - 48)=c by omega,show 48+(b - 48)=b by omega] at k;exact ⟨_,by omega,cq (e.trans k.symm)⟩
 | [a,b,c],_,h2,h3 =>
   have c1:=h2 c (by simp);have b1:=h2 b (by simp);have a1:=h2 a (by simp);have b0:a≠48:=fun z=>by rcases h3 with h3 | h3 <;> simp_all
   have k:=v7 (a:=a - 48) (b:=b - 48) (c:=c - 48) (by omega) (by omega) (by omega) (by omega);rw [show 48+(c - 48)=c by omega,show 48+(b - 48)=b by omega,show 48+(a - 48)=a by omega] at k;exact ⟨_,by omega,cq (e.trans k.symm)⟩
theorem qZ:∀ n<1000,isNum (aS (n:Nat))=true:=by decide +kernel
def jP (z:Ss):Option Int:=if isNum z=true then Xw z else none
theorem bQ {z:Ss} {n:Int}:jP z=some n↔z=aS n/\0<=n/\n<1000:=by
 unfold jP;constructor
 · intro h;split at h
   · rename_i c
     obtain ⟨m,hm,rfl⟩:=rT c;rw [mq m hm] at h;cases h;exact ⟨rfl,by omega,by omega⟩
   · cases h
 · rintro ⟨rfl,h0,h1⟩;obtain ⟨m,rfl⟩:=V9 h0;rw [if_pos (qZ m (by omega)),mq m (by omega)]
theorem tK {z:Ss}:jP z=none↔isNum z=false:=by
 unfold jP;by_cases c:isNum z=true
 · rw [if_pos c];obtain ⟨m,hm,rfl⟩:=rT c;rw [mq m hm];exact ⟨(fun h=>by cases h),fun h=>by rw [h] at c;cases c⟩
 · rw [if_neg c];exact ⟨fun _=>Ud.mpr c,fun _=>rfl⟩
def SOk:Stp->Prop
 | .sg c=>c=lpar∨c=comma∨c=rpar
 | .th (.knot n ts)=>ts=[]/\aP n=true
 | .th (.call s k)=>(0<=s/\s<1000)/\0<=k/\k<1000
def stW:Stp->List Ss
 | .sg c=>[c]
 | .th (.knot n _)=>[n]
 | .th (.call s k)=>[aS s,dot,aS k]
def kj:List Ss->Option Stp
 | [x,d,y]=>if d=dot then (match jP x,jP y with
   | some a,some b=>some (.th (.call a b))
   | _,_=>none) else none
 | _=>none
theorem io {ws:List Ss} {x:Stp}:kj ws=some x↔(∃ a b:Int,x=.th (.call a b)/\SOk x/\ws=stW x):=by
 constructor
 · intro h
   match ws,h with
   | [u,d,v],h =>
     rw [kj] at h;by_cases c:d=dot
     · rw [if_pos c] at h;cases e1:jP u with
       | none=>rw [e1] at h;cases h
       | some a =>
         cases e2:jP v with
         | none=>rw [e1,e2] at h;cases h
         | some b =>
           rw [e1,e2] at h;have:=(Su h).symm;subst this;obtain ⟨rfl,k1⟩:=bQ.mp e1;obtain ⟨rfl,k2⟩:=bQ.mp e2;exact ⟨a,b,rfl,⟨k1,k2⟩,by rw [c];rfl⟩
     · rw [if_neg c] at h;cases h
   | [],h=>cases h
   | [_],h=>cases h
   | [_,_],h=>cases h
   | _::_::_::_::_,h=>cases h
 · rintro ⟨a,b,rfl,⟨k1,k2⟩,rfl⟩;rw [stW,kj,if_pos rfl,bQ.mpr ⟨rfl,k1⟩,bQ.mpr ⟨rfl,k2⟩]
def pN (w:Ss):Prop:=w=lpar∨w=comma∨w=rpar
instance (w:Ss):Decidable (pN w):=inferInstanceAs (Decidable (_∨_))
def b6:Nat->List Ss->Option (List Stp)
 | _,[]=>some []
 | 0,_::_=>none
 | n+1,w::ws=>if pN w then (b6 n ws).map (.sg w::·)
   else if aP w=true then (b6 n ws).map (.th (.knot w [])::·)
   else (kj ((w::ws).take 3)).bind fun x=>(b6 n (ws.drop 2)).map (x::·)
theorem eL:∀ {n:Nat} {ws:List Ss} {l:List Stp},b6 n ws=some l->(l.map stW).flatten=ws/\∀ x∈l,SOk x
 | n,[],l,h=>by
   have:b6 n []=some []:=by cases n <;> rfl
   rw [this] at h;cases h;exact ⟨rfl,fun x hx=>by cases hx⟩
 | 0,w::ws,l,h=>by cases h
 | n+1,w::ws,l,h=>by
   rw [b6] at h;by_cases c:pN w
   · rw [if_pos c] at h;obtain ⟨l',h1,rfl⟩:=T6.mp h;obtain ⟨e,k⟩:=eL h1;refine ⟨by rw [Sl,SJ,e];rfl,fun x hx=>?_⟩;rcases Sn.mp hx with rfl | hx
     · exact c
     · exact k x hx
   · rw [if_neg c] at h;by_cases c2:aP w=true
     · rw [if_pos c2] at h;obtain ⟨l',h1,rfl⟩:=T6.mp h;obtain ⟨e,k⟩:=eL h1;refine ⟨by rw [Sl,SJ,e];rfl,fun x hx=>?_⟩;rcases Sn.mp hx with rfl | hx
       · exact ⟨rfl,c2⟩
       · exact k x hx
     · rw [if_neg c2] at h;obtain ⟨x,h0,h⟩:=W7.mp h;obtain ⟨l',h1,rfl⟩:=T6.mp h;obtain ⟨e,k⟩:=eL h1;obtain ⟨a,b,_,hx,hw⟩:=io.mp h0;refine ⟨?_,fun y hy=>?_⟩
       · rw [Sl,SJ,e,<- hw];show (w::ws).take 3++(w::ws).drop 3=_;exact Wn _ _
       · rcases Sn.mp hy with rfl | hy
         · exact hx
         · exact k y hy
theorem uj {w:Ss} (h:aP w=true):¬ pN w:=by
 rintro (rfl | rfl | rfl) <;> revert h <;> decide +kernel
theorem rf:∀ n<1000,aP (aS (n:Nat))=false/\¬ pN (aS (n:Nat)):=by decide +kernel
theorem gJ:∀ {n:Nat} {l:List Stp},(∀ x∈l,SOk x)->((l.map stW).flatten).length<=n->b6 n (l.map stW).flatten=some l
 | n,[],_,_=>by cases n <;> rfl
 | n,.sg c::l,h,hn=>by
   rw [Sl,SJ,stW] at hn ⊢;obtain ⟨n,rfl⟩:∃ m,n=m+1:=⟨n - 1,by rw [Sm,Tn] at hn;omega⟩;show b6 (n+1) (c::(l.map stW).flatten)=_;rw [b6,if_pos (show pN c from h _ (Sr ..)),gJ (fun x hx=>h x (Sk _ hx)) (by rw [Sm,Tn] at hn;omega)];rfl
 | n,.th (.knot m ts)::l,h,hn=>by
   rw [Sl,SJ,stW] at hn ⊢;obtain ⟨n,rfl⟩:∃ m,n=m+1:=⟨n - 1,by rw [Sm,Tn] at hn;omega⟩;obtain ⟨rfl,hm⟩:=h _ (Sr ..);show b6 (n+1) (m::(l.map stW).flatten)=_;rw [b6,if_neg (uj hm),if_pos hm,gJ (fun x hx=>h x (Sk _ hx)) (by rw [Sm,Tn] at hn;omega)];rfl
 | n,.th (.call s k)::l,h,hn=>by
   have hx:=h _ (Sr ..);have hc:=io.mpr ⟨s,k,rfl,hx,rfl⟩;rw [Sl,SJ] at hn ⊢;obtain ⟨n,rfl⟩:∃ m,n=m+1:=⟨n - 1,by rw [stW,Sm] at hn;simp only [R7] at hn;omega⟩;obtain ⟨⟨s0,s1⟩,_⟩:=hx;obtain ⟨s',rfl⟩:=V9 s0;have hs:=rf s' (by omega);show b6 (n+1) (aS s'::([dot,aS k]++(l.map stW).flatten))=_;rw [b6,if_neg hs.2,if_neg (by rw [hs.1];decide)];have e1:(aS s'::([dot,aS k]++(l.map stW).flatten)).take 3=stW (.th (.call s' k)):=rfl;have e2:([dot,aS k]++(l.map stW).flatten).drop 2=(l.map stW).flatten:=rfl;rw [e1,hc,e2,gJ (fun x hx=>h x (Sk _ hx)) (by rw [stW,Sm] at hn;simp only [R7] at hn;omega)];rfl
def iF (ws:List Ss):Option (List Stp):=b6 ws.length ws
theorem gn {ws:List Ss} {l:List Stp}:iF ws=some l↔(l.map stW).flatten=ws/\∀ x∈l,SOk x:=by
 constructor
 · exact eL
 · rintro ⟨rfl,h⟩;exact gJ h (Sg _)
end BB
namespace BB
open PySem L2
theorem dQ {S F:PSt} {x:Stp} {l:List Stp} (h:prun S (x::l)=some F):∃ S',bp S x=some S'/\prun S' l=some F:=by
 rw [prun] at h;exact W7.mp h
theorem ji {S S':PSt} {t:Th} (h:bp S (.th t)=some S'):ended S.bef=false/\S'=⟨S.tops++[(t,0)],S.win,.th t⟩:=by
 rw [bp] at h;by_cases c:ended S.bef=false
 · rw [if_pos c] at h;exact ⟨c,(Su h).symm⟩
 · rw [if_neg c] at h;cases h
theorem jx {S S':PSt} (h:bp S (.sg lpar)=some S'):gP S.bef=true/\S.win.length<100/\∃ j,S'.win=S.win++[j]/\S'.bef=.sg lpar:=by
 rw [bp,if_pos rfl] at h;by_cases c:gP S.bef=true/\S.win.length<100/\S.tops≠[]
 · rw [if_pos c] at h;have:=(Su h).symm;subst this;exact ⟨c.1,c.2.1,_,rfl,rfl⟩
 · rw [if_neg c] at h;cases h
theorem lv {S S':PSt} (h:bp S (.sg comma)=some S'):ended S.bef=true/\S.win≠[]/\S'.win=S.win/\S'.bef=.sg comma:=by
 rw [bp,if_neg fg.1,if_pos rfl] at h;by_cases c:ended S.bef=true/\S.win≠[]
 · rw [if_pos c] at h;have:=(Su h).symm;subst this;exact ⟨c.1,c.2,rfl,rfl⟩
 · rw [if_neg c] at h;cases h
theorem lc {S S':PSt} (h:bp S (.sg rpar)=some S'):ended S.bef=true/\S.win≠[]/\S'.win=S.win.dropLast/\S'.bef=.sg rpar:=by
 rw [bp,if_neg fg.2.1,if_neg fg.2.2.1,if_pos rfl] at h;by_cases c:ended S.bef=true/\S.win≠[]
 · rw [if_pos c] at h;have:=(Su h).symm;subst this;exact ⟨c.1,c.2,rfl,rfl⟩
 · rw [if_neg c] at h;cases h
theorem vU {b:Stp} (h:gP b=true):ended b=true:=by
 cases b with
 | th t=>rfl
 | sg c=>cases h
def zu (l:List Stp) (S F:PSt):Prop:=∃ (t:Th) (rest:List Stp) (S1:PSt),l=t.stP.map (·.2)++rest/\S1.win=S.win/\ended S1.bef=true/\prun S1 rest=some F/\(∀ r,rest≠.sg lpar::r)/\rest.length<l.length/\t.tall+S.win.length<=101
def yQ (l:List Stp) (S F:PSt):Prop:=∃ (ts:List Th) (rest:List Stp) (S1:PSt),ts≠[]/\l=(cw ts).map (·.2)++.sg rpar::rest/\S1.win=S.win.dropLast/\S1.bef=.sg rpar/\prun S1 rest=some F/\rest.length<l.length/\ba ts+S.win.length<=101
theorem qA:∀ n:Nat,(∀ (l:List Stp) (S F:PSt),l.length<=n->(∀ x∈l,SOk x)->ended S.bef=false->S.win.length<=100->prun S l=some F->F.win=[]->ended F.bef=true->zu l S F) ∧
 (∀ (l:List Stp) (S F:PSt),l.length<=n->(∀ x∈l,SOk x)->ended S.bef=false->S.win≠[]->S.win.length<=100->prun S l=some F->F.win=[]->ended F.bef=true->yQ l S F)
 | 0=>by
   constructor
   · intro l S F hn _ hb _ h _ hf;have:l=[]:=S6.mp (by omega);subst this;cases h;rw [hb] at hf;cases hf
   · intro l S F hn _ hb _ _ h _ hf;have:l=[]:=S6.mp (by omega);subst this;cases h;rw [hb] at hf;cases hf
 | n+1=>by
   obtain ⟨RF,MV⟩:=qA n
   have hA:∀ (l:List Stp) (S F:PSt),l.length<=n+1->(∀ x∈l,SOk x)->ended S.bef=false->S.win.length<=100->prun S l=some F->F.win=[]->ended F.bef=true->zu l S F:=by
    intro l S F hn hok hb hw h hF hf;cases l with
    | nil=>cases h;rw [hb] at hf;cases hf
    | cons x l =>
      obtain ⟨S',h1,h2⟩:=dQ h;have hx:=hok x (Sr ..);rw [R7] at hn;cases x with
      | sg c =>
        exfalso;rcases hx with rfl | rfl | rfl
        · have:=vU (jx h1).1;rw [hb] at this;cases this
        · have:=(lv h1).1;rw [hb] at this;cases this
        · have:=(lc h1).1;rw [hb] at this;cases this
      | th t =>
        obtain ⟨_,rfl⟩:=ji h1;cases t with
        | call s k =>
          refine ⟨.call s k,l,⟨S.tops++[(.call s k,0)],S.win,.th (.call s k)⟩,rfl,rfl,rfl,h2,fun r e=>?_,by rw [R7];omega,by rw [Th.tall];omega⟩;subst e;obtain ⟨_,h3,_⟩:=dQ h2;have:=(jx h3).1;cases this
        | knot m ts =>
          obtain ⟨rfl,hm⟩:=hx;by_cases hl:∃ r,l=.sg lpar::r
          · obtain ⟨r,rfl⟩:=hl;obtain ⟨S2,h3,h4⟩:=dQ h2;obtain ⟨_,CV,j,hj,Cp⟩:=jx h3;have CV:S.win.length<100:=CV;have hj:S2.win=S.win++[j]:=hj;rw [R7] at hn;obtain ⟨ts,rest,S1,Ax,e,EN,Dq,hr,hlen,AA⟩:=MV r S2 F (by omega) (fun y hy=>hok y (Sk _ (Sk _ hy))) (by rw [Cp];exact mI) (by rw [hj];simp) (by rw [hj,Sm,Tn];omega) h4 hF hf;rw [hj,Sm,Tn] at AA;refine ⟨.knot m ts,rest,S1,?_,by rw [EN,hj,Xz],by rw [Dq];exact iE,hr,fun q eq=>?_,by rw [R7,R7];omega,by rw [Th.tall];omega⟩
            · rw [Th.stP,if_neg Ax,e];simp
            · subst eq;obtain ⟨_,h5,_⟩:=dQ hr;have:=(jx h5).1;rw [Dq] at this;cases this
          · exact ⟨.knot m [],l,⟨S.tops++[(.knot m [],0)],S.win,.th (.knot m [])⟩,by rw [Th.stP,if_pos rfl];rfl,rfl,rfl,h2,fun r e=>hl ⟨r,e⟩,by rw [R7];omega,by rw [Th.tall,ba];omega⟩
   refine ⟨hA,?_⟩;intro l S F hn hok hb Ax hw h hF hf;obtain ⟨t,rest,S1,e,EN,Dq,hr,hl,hlen,AA⟩:=hA l S F hn hok hb hw h hF hf;cases rest with
   | nil =>
     exfalso;cases hr;exact Ax (by rw [<- EN,hF])
   | cons x rest =>
     obtain ⟨S2,h3,h4⟩:=dQ hr;have MW:∀ y∈x::rest,SOk y:=fun y hy=>hok y (by rw [e];exact Sv.mpr (.inr hy));have hx:=MW x (Sr ..);cases x with
     | th u=>exact absurd (ji h3).1 (by rw [Dq];decide)
     | sg c =>
       rcases hx with rfl | rfl | rfl
       · exact absurd rfl (hl rest)
       · obtain ⟨_,_,CV,Cp⟩:=lv h3;have KO:S2.win=S.win:=CV.trans EN;rw [R7] at hlen;obtain ⟨ts,Hq,S3,DP,e2,Ee,Pf,EO,MX,Fu⟩:=MV rest S2 F (by omega) (fun y hy=>MW y (Sk _ hy)) (by rw [Cp];exact dz) (by rw [KO];exact Ax) (by rw [KO];exact hw) h4 hF hf;rw [KO] at Fu Ee;refine ⟨t::ts,Hq,S3,by simp,?_,Ee,Pf,EO,by omega,by rw [ba];omega⟩;rw [e,e2,cw,if_neg DP];simp
       · obtain ⟨_,_,CV,Cp⟩:=lc h3;refine ⟨[t],rest,S2,by simp,?_,by rw [CV,EN],Cp,h4,by rw [R7] at hlen;omega,by rw [ba,ba];omega⟩;rw [e,cw,if_pos rfl];simp
def jt (l:List Stp):Option PSt:=(prun ⟨[],[],.sg comma⟩ l).bind fun F=>if F.win=[]/\ended F.bef=true then some F else none
theorem sw {l:List Stp} {F:PSt} (hok:∀ x∈l,SOk x) (h:jt l=some F):∃ t:Th,l=t.stP.map (·.2)/\t.tall<=101:=by
 unfold jt at h;obtain ⟨F',h1,h2⟩:=W7.mp h;by_cases c:F'.win=[]/\ended F'.bef=true
 · rw [if_pos c] at h2;have:=Su h2;subst this;obtain ⟨t,rest,S1,e,EN,Dq,hr,hl,_,ht⟩:=(qA l.length).1 l _ F' (Sg _) hok dz (by show 0<=100;omega) h1 c.1 c.2;have ht:t.tall+0<=101:=ht;refine ⟨t,?_,by omega⟩;cases rest with
   | nil=>rw [e,SM]
   | cons x rest =>
     exfalso;obtain ⟨S2,h3,h4⟩:=dQ hr;have hx:SOk x:=hok x (by rw [e];simp);cases x with
     | th u=>exact absurd (ji h3).1 (by rw [Dq];decide)
     | sg c =>
       rcases hx with rfl | rfl | rfl
       · exact absurd rfl (hl rest)
       · exact (lv h3).2.1 EN
       · exact (lc h3).2.1 EN
 · rw [if_neg c] at h2;cases h2
theorem qM {S S':PSt} {x:Stp} (hx:SOk x) (h:bp S x=some S') (i:gP S.bef=true->S.tops≠[]):(gP S'.bef=true->S'.tops≠[])/\(S'.bef=.sg lpar->S'.win≠[])/\((∃ t,S'.bef=.th t)∨S'.bef=.sg lpar∨S'.bef=.sg comma∨S'.bef=.sg rpar):=by
 cases x with
 | th t =>
   obtain ⟨_,rfl⟩:=ji h;exact ⟨fun _=>(by simp),fun z=>(by cases z),.inl ⟨t,rfl⟩⟩
 | sg c =>
   rcases hx with rfl | rfl | rfl
   · obtain ⟨_,_,j,hj,hb⟩:=jx h;exact ⟨fun z=>(by rw [hb] at z;cases z),fun _=>(by rw [hj];simp),.inr (.inl hb)⟩
   · obtain ⟨_,_,_,hb⟩:=lv h;exact ⟨fun z=>(by rw [hb] at z;cases z),fun z=>(by rw [hb] at z;exact absurd (Stp.sg.inj z) fg.1),.inr (.inr (.inl hb))⟩
   · obtain ⟨_,_,_,hb⟩:=lc h;exact ⟨fun z=>(by rw [hb] at z;cases z),fun z=>(by rw [hb] at z;exact absurd (Stp.sg.inj z) fg.2.1),.inr (.inr (.inr hb))⟩
def iR (ws:List Ss) (t:Th):Prop:=iF ws=some (t.stP.map (·.2))/\t.tall<=101
theorem gK {t:Th} (h:t.tall<=101):∃ F,jt (t.stP.map (·.2))=some F/\F.tops=t.walk.map i6:=by
 obtain ⟨b,hb,e⟩:=ud h;refine ⟨⟨t.walk.map i6,[],b⟩,?_,rfl⟩;unfold jt;rw [e];exact if_pos ⟨rfl,hb⟩
mutual
theorem vZ:∀ t:Th,t.size<=t.stP.length
 | .call s k=>by rw [Th.stP,Th.size];exact Sg _
 | .knot n ts=>by
   rw [Th.stP,Th.size];by_cases hz:ts=[]
   · subst hz;rw [if_pos rfl,aE];exact Sg _
   · rw [if_neg hz,R7,R7,Sm];have:=tB ts;omega
theorem tB:∀ ts:List Th,aE ts<=(cw ts).length
 | []=>by rw [aE];exact Td _
 | t::ts=>by
   rw [cw,aE,Sm];have h1:=vZ t;have h2:=tB ts;by_cases hz:ts=[]
   · subst hz;rw [if_pos rfl,aE];omega
   · rw [if_neg hz,R7];omega
end
mutual
theorem jX:∀ t:Th,(t.stP.map (·.2)).map stW=t.stP.map (·.1)
 | .call s k=>rfl
 | .knot n ts=>by
   rw [Th.stP];by_cases hz:ts=[]
   · rw [if_pos hz];rfl
   · rw [if_neg hz];simp only [Sl,Sq,UN,mn ts];rfl
theorem mn:∀ ts:List Th,((cw ts).map (·.2)).map stW=(cw ts).map (·.1)
 | []=>rfl
 | t::ts=>by
   rw [cw];by_cases hz:ts=[]
   · rw [if_pos hz,SM,jX t]
   · rw [if_neg hz];simp only [Sl,Sq,jX t,mn ts];rfl
end
theorem nJ {ws:List Ss} {t:Th}:iR ws t↔ws=t.wP/\(∀ x∈t.stP.map (·.2),SOk x)/\t.tall<=101:=by
 unfold iR;rw [gn,jX,and_assoc];exact and_congr_left fun _=>⟨fun h=>h.symm,fun h=>h.symm⟩
theorem yf (x:Stp):1<=(stW x).length:=by
 cases x with
 | sg c=>exact Sg _
 | th t=>cases t with
   | knot n ts=>exact Sg _
   | call s k=>exact (by decide:1<=3)
theorem rJ {ws:List Ss} {l:List Stp} (h:iF ws=some l):l.length<=ws.length:=by
 rw [<- (gn.mp h).1];clear h;induction l with
 | nil=>exact Sg _
 | cons x l ih =>
   rw [Sl,SJ,Sm,R7];have:=yf x;omega
theorem mE (c:Nat):∀ (l:List Nat) (p:List Nat),p∈aF c l->p.length<=l.length
 | [],p,h=>by
   rw [aF] at h;rw [Sy.mp h];exact Sg _
 | d::l,p,h=>by
   rw [aF] at h;obtain ⟨p0,r,e⟩:=cj c l;have ih:=mE c l;rw [e] at h ih;rw [R7];split at h
   · rcases Sn.mp h with rfl | h
     · exact Td _
     · have:=ih p h;omega
   · rcases Sn.mp h with rfl | h
     · have:=ih p0 (Sr ..);rw [R7];omega
     · have:=ih p (Sk _ h);omega
theorem mv (c:Nat):∀ l:List Nat,(aF c l).length<=l.length+1
 | []=>Sg _
 | d::l=>by
   have ih:=mv c l;rw [aF];obtain ⟨p,r,e⟩:=cj c l;rw [e] at ih ⊢;rw [R7] at ih;split
   · rw [R7,R7,R7];omega
   · rw [R7,R7];omega
theorem wX (l:List Nat):(wds l).length<=l.length+1:=TF (List.length_filter_le _ _) (mv 32 l)
theorem wM {l p:List Nat} (h:p∈wds l):p.length<=l.length:=mE 32 l p (V5.mp h).1
def KdOf (w:Ss) (k:Ss×Int):Prop:=w=bg k/\aP k.1=true/\0<=k.2/\k.2<1000
end BB
namespace BB
open PySem L2 PySem.Builtin PySem.Builtin.Str
theorem nS (c:Nat):∀ (l:List Nat) (off:Nat),(∀ d∈l,d≠c)->pp c off l=[]
 | [],_,_=>rfl
 | d::l,off,h=>by rw [pp,if_neg (h d (Sr ..)),nS c l _ fun e he=>h e (Sk _ he)]
theorem occ_none {x:Ss} {c:Nat} (hp:∀ d∈x.cps.toList,d≠c):occurrences x ⟨#[c]⟩ 0 x.length 1=[]:=by
 rw [StrLaws.occ_eq];have h:=fw x c x.cps.toList [] 0 rfl (Sg _);rw [UB,SE,nS c _ 0 hp] at h;exact h
end BB
namespace L2
open PySem PySem.Spec PySem.SeqAt PySem.Calls PyProof.Rows PySem.Builtin PySem.Builtin.Str BB
variable {X:Cx}
def yo:V->List V->Hp->VK->Prop:=fun x vs H Q=>xK x vs H Q∨∃ (z:Ss) (c:Nat),x=.str z/\vs=[.str ⟨#[c]⟩]/\(∀ d∈z.cps.toList,d≠c)/\z.length<=1000000/\∀ p,H p=none->Q (.ref p) (upd H p (.tup [.str z,.str Ua,.str Ua]))
theorem na:MtR X "str.partition" yo:=by
 intro pins s σ H x vs v us Q I rx rv h;rcases h with h | ⟨z,c,rfl,rfl,hp,hz,q⟩
 · exact n8 pins s σ H x vs v us Q I rx rv h
 obtain ⟨t,rfl⟩:=rx;obtain ⟨u,rfl,t',rfl⟩:=rv.one;have hf:H s.heap.objs.size=none:=I.hok.fresh (Sg _);have hm:=meets_str_partition z ⟨#[c]⟩ t t' rfl (by rw [UJ];omega);rw [occ_none hp] at hm;refine VD F.slot_str_partition (Vl _ _ _) F.entry_str_partition (F.args_str_partition_2 _ _) hm ?_;show wants (EP X pins σ Q) X.xe _ { s with toks:=s.toks+1,heap:=s.heap.push { cls:=.type "tuple",data:=.seq [.str z t,.str Ua s.toks,.str Ua s.toks].toArray } };refine ⟨.ref s.heap.objs.size,upd H s.heap.objs.size (.tup [.str z,.str Ua,.str Ua]),I.laid (t':=s.toks+1) (fun b u e=>Se _ e) (Sg _) ?_,rfl,q _ hf⟩;exact ⟨by show 3<=SQ;decide,_,_,.cons ⟨_,rfl⟩ (.cons ⟨_,rfl⟩ (.cons ⟨_,rfl⟩ .nil)),Sx _ rfl⟩
end L2
namespace L2
open PySem PySem.Spec PyProof.Rows PySem.W
end L2
namespace L2
open PySem PySem.Spec PySem.Calls PyProof.Rows
variable {X:Cx}
end L2
namespace BB
open PySem L2
def Tells (oc:List Nat) (ow:List Ss):Prop:=∀ l,Nx l->scW [] ((oc++l).flatMap sp4)=ow.map sL++scW [] (l.flatMap sp4)
theorem lD {w:Ss} (h:∀ c∈sL w,47<=c) (Ax:sL w≠[]):Tells (sL w) [w]:=fun l hl=>by
 have Gb:∀ c∈sL w,c≠32:=fun c hc=>by have:=h c hc;omega
 rw [VZ,ju h,jm _ _ _ Gb,Ts,vY Ax hl];rfl
theorem rQ {a b:Ss} (ha:∀ c∈sL a,47<=c) (Pg:sL a≠[]) (hb:∀ c∈sL b,47<=c) (Ph:sL b≠[]):Tells (sL a++46::sL b) [a,dot,b]:=fun l hl=>by
 have Gb:∀ c∈sL a,c≠32:=fun c hc=>by have:=ha c hc;omega
 have he:em (sL a)=[sL a]:=by unfold em;rw [if_neg Pg]
 rw [SO,S9,VZ,ju ha,jm _ _ _ Gb,Ts,gG _ _ (.inr (.inr (.inr rfl))),he,lD hb Ph l hl];show _=[sL a,sL dot,sL b]++_;rw [rM];rfl
end BB
namespace L2
open PySem PySem.Spec PySem.Calls PyProof.Rows BB
end L2
namespace L2
open PySem PySem.Spec PySem.Calls PyProof.Rows PySem.W
theorem jg {M:Model} {A:Tj} {E:Sb->Sf->Prop} {s:Sf} {base:T2} {env:XC} {outer:List XC} {L e:Sa} {cls a0 fl:Sb} {Q:Unit->Sf->Prop}
 (Jl:A.frames=some (env::outer)) (hf:env.frame=some L) (Fv:base.StaysIn s.heap) (Hr:base.get? e=none) (hl:s.heap.FunFrames base (env::outer)) (ht:s.heap.TracedAtW base e cls a0 fl)
 (hQ:∀ h',Heap.FlyingW base outer e cls a0 h'->s.heap.UpToSlots h'->Q () { s with heap:=h' }):SI M A (leaving env (.ref e)) Q E s:=by
 by_cases Gd:fl=WE L
 · subst Gd;unfold leaving;refine R9 (wpAny_noteFrame_againW hf ht ?_);refine wpAny_landsW (base:=base) (l:=env::outer) (cls:=cls) (a0:=a0) (L:=L) ⟨Fv,Hr,hl,ht⟩ fun h' Gd up=>?_;obtain ⟨k1,k2,⟨_,_,k3⟩,k4⟩:=Gd;exact hQ h' ⟨k1,k2,k3,k4⟩ up
 · obtain ⟨oe,vs,T,oT,ts,he,⟨BZ,h0⟩,hd,h1,Fw,Ge,hT,DQ,h3⟩:=ht;subst BZ;unfold leaving Xv;simp only [hf];refine R9 (R9 (TH he hd h1 ?_));rw [if_pos (show (Ue T != Ux)=true from by simp)];refine R9 (TH hT DQ h3 ?_);rw [if_neg (show ¬ ((fl == WE L)=true) from fun z=>Gd (beq_iff_eq.mp z))];refine R9 (XZ hT DQ (VP.mp h3).1 ?_);have other:∀ b,b≠T->(s.heap.update T (Obj.mapFields (·.setIfInBounds 3 Ux))).get? b=s.heap.get? b:=fun b hb=>WB _ _ (VE hb)
   have Ba:∀ b o,s.heap.get? b=some o->(∀ vs,o.data≠.fields vs)->b≠T:=fun b o hb Cw q=>by
    rw [q,hT] at hb;injection hb with hb;subst hb;exact Cw ts DQ
   refine wpAny_newEntryW Jl (hl.of_keeps fun b o hb Cw=>⟨o,(other b (Ba b o hb Cw)).trans hb,rfl⟩) hf ((other e (VE Ge)).trans he)
    (fun b o Fx=>(other b fun q=>by rw [q,Fw] at Fx;cases Fx).trans (Fv b o Fx)) Hr hd (VP.mp h1).1 h0
    fun h' ⟨x1,⟨_,_,x2⟩,x3,x4⟩=>hQ h' ⟨x1,Hr,x2,x3⟩ fun b o hb Cw=>x4 b o ((other b (Ba b o hb Cw)).trans hb) Cw
theorem mY {α:Type} {M:Model} {A:Tj} {E:Sb->Sf->Prop} {s:Sf} {E6:String} {Bp:XC} {base:T2} {l:List XC} {e:Sa} {cls a0 fl:Sb} {Q:α->Sf->Prop}
 (Fv:base.StaysIn s.heap) (hl:s.heap.FunFrames base l) (ht:s.heap.TracedAtW base e cls a0 fl)
 (h:∀ h' MY,base.StaysIn h'->h'.FunFrames base l->h'.TracedAtW base e cls a0 MY->s.heap.UpToSlots h'->E (.ref e) { s with heap:=h' }):SI M A (PySem.passOn E6 (.ref e) Bp:Sem α) Q E s:=by
 obtain ⟨oe,vs,T,oT,ts,he,BZ,hd,h1,Fw,Ge,hT,DQ,h3⟩:=ht;have Hs:3<ts.size:=(VP.mp h3).1
 have other:∀ b,b≠T->(s.heap.update T (Obj.mapFields (·.setIfInBounds 3 (Bp.frame.elim Ux fun f=>WE f)))).get? b=s.heap.get? b :=
  fun b hb=>WB _ _ (VE hb)
 have Ba:∀ b o,s.heap.get? b=some o->(∀ vs,o.data≠.fields vs)->b≠T:=fun b o hb Cw q=>by
  rw [q,hT] at hb;injection hb with hb;subst hb;exact Cw ts DQ
 unfold PySem.passOn;refine R9 (TH he hd h1 ?_);rw [if_neg (show ¬ ((Ue T == Ux)=true) from by simp)];refine R9 ?_;unfold setFlight;refine R9 (TH he hd h1 ?_);rw [if_pos (show (Ue T != Ux)=true from by simp)]
 refine XZ hT DQ Hs (wpAny_throw (h _ (Bp.frame.elim Ux fun f=>WE f) (fun b o Fx=>(other b fun q=>by rw [q,Fw] at Fx;cases Fx).trans (Fv b o Fx))
  (hl.of_keeps fun b o hb Cw=>⟨o,(other b (Ba b o hb Cw)).trans hb,rfl⟩) ?_ fun b o hb Cw=>⟨o.slots,(other b (Ba b o hb Cw)).trans hb⟩))
 exact ⟨oe,vs,T,_,_,(other e (VE Ge)).trans he,BZ,hd,h1,Fw,Ge,XW _ hT (Obj.isFreed_of_fields (W8 DQ _)),W8 DQ _,by simp [Hs]⟩
theorem funFrames_base {base CW h:T2} (k:∀ b o,CW.get? b=some o->base.get? b=some o):∀ {l:List XC},h.FunFrames base l->h.FunFrames CW l
 | [],_=>trivial
 | env::_,⟨hk,⟨L,o,hf,hn,ho,hd⟩,hr⟩ =>
   have F0:CW.get? L=none:=by
    cases z:CW.get? L with
    | none=>rfl
    | some o'=>rw [k L o' z] at hn;cases hn
   ⟨hk,⟨L,o,hf,F0,ho,hd⟩,funFrames_base k hr⟩
theorem wv {fs:List Sa} {H H1 H':Hp} {h h1 h2 h':T2} {l:List Sa} {B:T2} (u1:Un fs [] H H1 h h1) (u2:Un l [] H1 H' h1 h2) (hl:∀ b o,h.get? b=some o->b∈l->b∈fs)
 (b1:∀ b o o1,h.get? b=some o->h1.get? b=some o1->b∉l->∃ o',B.get? b=some o'/\(H1 b=none->o'=o1)) (st:B.StaysIn h') (up:∀ b o o2,h.get? b=some o->h2.get? b=some o2->(∀ vs,o2.data≠.fields vs)->∃ sl,h'.get? b=some { o2 with slots:=sl })
 (hf:∀ b∈fs,H b=none/\∃ o,h.get? b=some o/\∀ vs,o.data≠.fields vs) :
 Un fs [] H H' h h'/\∀ b o,h.get? b=some o->b∉fs->∃ o',B.get? b=some o'/\(H b=none->o'=o):=by
 have nx:∀ b:Sa,b∉([]:List Sa):=fun b=>by simp
 have bb:∀ b o,h.get? b=some o->b∉fs->∃ o',B.get? b=some o'/\(H b=none->o'=o):=fun b o q nf=>by
  obtain ⟨o1,e1⟩:=u1.there b o q (nx b);obtain ⟨o',e',g⟩:=b1 b o o1 q e1 fun z=>nf (hl b o q z);refine ⟨o',e',fun n=>?_⟩;have:=u1.keep b o q n nf (nx b);rw [e1] at this;cases this;exact g (u1.free b _ q n (nx b))
 have sl:∀ b o,h.get? b=some o->H b=none->b∈fs->∃ sl,h'.get? b=some { o with slots:=sl }:=fun b o q n m=>by
  obtain ⟨s1,e1⟩:=u1.slot b o q n m (nx b);obtain ⟨s2,e2⟩:=u2.any e1 (u1.free b o q n (nx b)) (nx b);obtain ⟨_,o0,q0,nf⟩:=hf b m;rw [q] at q0;cases q0;obtain ⟨s3,e3⟩:=up b o _ q e2 nf;exact ⟨s3,e3⟩
 refine ⟨⟨fun b o q n nf _=>?_,fun b o q n m _=>sl b o q n m,fun b o q n _=>?_,fun b o q _=>?_,fun b xs q=>u2.tups b xs (u1.tups b xs q),fun b o u q=>u2.frzs b o u (u1.frzs b o u q),fun b ps q=>?_⟩,bb⟩
 · obtain ⟨o',e',g⟩:=bb b o q nf;rw [<- g n];exact st b o' e'
 · obtain ⟨o1,e1⟩:=u1.there b o q (nx b);exact u2.free b o1 e1 (u1.free b o q n (nx b)) (nx b)
 · by_cases m:b∈fs
   · obtain ⟨n,_⟩:=hf b m;obtain ⟨s3,e3⟩:=sl b o q n m;exact ⟨_,e3⟩
   · obtain ⟨o',e',_⟩:=bb b o q m;exact ⟨o',st b o' e'⟩
 · obtain ⟨m1,e1⟩:=u1.tbls b ps q;obtain ⟨m2,e2⟩:=u2.tbls b _ e1;exact ⟨m1++m2,by rw [e2,WQ]⟩
theorem v3 {h:T2} {a:Sa} {m:Ss->Option Sb} (n:h.Ns a m):∃ o,h.get? a=some o/\∀ vs,o.data≠.fields vs:=by
 obtain ⟨o,es,ep,ho,hd,_⟩:=n;exact ⟨o,ho,fun vs z=>by rw [hd] at z;cases z⟩
theorem kI {e:Sb} {env Ht:XC} (h:env.frame=Ht.frame):Xv e env=Xv e Ht:=by
 unfold Xv PySem.frameOf;rw [h]
section
variable {P:SX} {w:Tq} {K:R8} {mg:Ss->Option Sb} {base:T2} {AK:List Ss} {qual:Ss} {scope:Vu} {f:Sa} {cd:Sb} {A:Tj} {outer:List XC} {s₀:Sf} {H₀:Hp} {E:XK}
def eE (X:Cx) (E:XK) (N:List Ss) (sc:Vu) (cl:List (Ss×Sa)) (C:Sa) (s:Sf) (H:Hp) (fp:List Sa) (pins:List (Sa×UU)):Cx :=
 { aT X N sc cl C s H fp pins with xe:=fun e s'=>∃ AE AV H1 s1,Inv (aT X N sc cl C s H fp pins) AE AV H1 s1/\CX1 X.prog X.w X.stack H1 s1 E e s' }
theorem Inv.toX {X:Cx} {N:List Ss} {sc:Vu} {cl:List (Ss×Sa)} {C:Sa} {s:Sf} {H:Hp} {fp:List Sa} {pins AE:List (Sa×UU)} {AV:St} {H1:Hp} {s1:Sf} (I:Inv (aT X N sc cl C s H fp pins) AE AV H1 s1):Inv (eE X E N sc cl C s H fp pins) AE AV H1 s1 :=
 ⟨⟨I.ok.mod,I.ok.kind,I.ok.glob,I.ok.blt,I.ok.above,I.ok.inj,I.ok.has,I.ok.cab,I.ok.hd,I.ok.frames,I.ok.stk,I.ok.exf,I.ok.bs,I.ok.bsz,I.ok.noex,I.ok.exfs,I.ok.funs,I.ok.frf⟩,I.os,I.bare,I.base,I.loc,I.cell,I.free,I.freeC,I.pin,I.hok,I.len⟩
theorem Inv.ofX {X:Cx} {N:List Ss} {sc:Vu} {cl:List (Ss×Sa)} {C:Sa} {s:Sf} {H:Hp} {fp:List Sa} {pins AE:List (Sa×UU)} {AV:St} {H1:Hp} {s1:Sf} (I:Inv (eE X E N sc cl C s H fp pins) AE AV H1 s1):Inv (aT X N sc cl C s H fp pins) AE AV H1 s1 :=
 ⟨⟨I.ok.mod,I.ok.kind,I.ok.glob,I.ok.blt,I.ok.above,I.ok.inj,I.ok.has,I.ok.cab,I.ok.hd,I.ok.frames,I.ok.stk,I.ok.exf,I.ok.bs,I.ok.bsz,I.ok.noex,I.ok.exfs,I.ok.funs,I.ok.frf⟩,I.os,I.bare,I.base,I.loc,I.cell,I.free,I.freeC,I.pin,I.hok,I.len⟩
theorem zF {X:Cx} {N:List Ss} {sc:Vu} {cl:List (Ss×Sa)} {C:Sa} {s:Sf} {H:Hp} {fp:List Sa} {pins:List (Sa×UU)}:Passes (CX1 X.prog X.w) (eE X E N sc cl C s H fp pins) E :=
 fun AE AV H1 s1 e s2 I h=>⟨AE,AV,H1,s1,I.ofX,h⟩
theorem tM {N:List Ss} {sc:Vu} {cl:List (Ss×Sa)} {s3:Sf} {H3:Hp} {fp:List Sa} {pins:List (Sa×UU)} {σ:St} {e:Sb} {s2:Sf} {use:Option (Sb->Sem Unit)} {Q:Sb->Sf->Prop} {acc:Sb}
 (I3:Inv (cA (CX1 P w) P w K mg base AK qual scope f cd A outer s₀ H₀ E) pins σ H3 s3)
 (hf:∀ b∈fp,eV (cA (CX1 P w) P w K mg base AK qual scope f cd A outer s₀ H₀ E) pins H3 b)
 (h:(eE (cA (CX1 P w) P w K mg base AK qual scope f cd A outer s₀ H₀ E) E N sc cl s3.heap.objs.size s3 H3 fp pins).xe e s2) :
 notedBy (SY P w) (cA (CX1 P w) P w K mg base AK qual scope f cd A outer s₀ H₀ E).A (compEnvC sc cl s3.heap.objs.size (cA (CX1 P w) P w K mg base AK qual scope f cd A outer s₀ H₀ E).env)
  (fun e s'=>compPost (SY P w) (cA (CX1 P w) P w K mg base AK qual scope f cd A outer s₀ H₀ E).A (cA (CX1 P w) P w K mg base AK qual scope f cd A outer s₀ H₀ E).xe use Q acc s3.heap.objs.size (.error e) s') e s2:=by
 obtain ⟨AE,AV,H1,s1,I1,ea,C0,a0,B,H',rfl,Cf,Cn,un,hok,Dc,b1,b2,q⟩:=h;have I7:Inv (cA (CX1 P w) P w K mg base AK qual scope f cd A outer s₀ H₀ E) pins σ H1 s1:=I3.call' (ch:=fp) (I1.os.trans rfl) I1.base I1.hok I1.bare fun b hb=>⟨(hf b hb).2.2.2.1,(hf b hb).2.1,(hf b hb).2.2.2.2.1,(hf b hb).2.2.2.2.2⟩;have MZ:H1 s3.heap.objs.size=none:=I1.free;obtain ⟨m1,Gf,_⟩:=I1.loc;have Gf:s1.heap.Ns s3.heap.objs.size m1:=Gf;obtain ⟨oC,KP,M0⟩:=v3 Gf
 -- C5 Jo names M1 in no frame
 have M3:s3.heap.objs.size∉frs (Vg qual scope s₀.heap.objs.size f cd::outer):=fun z=>by
  have:=(I3.stack.mem z).2;obtain ⟨o,ho,_⟩:=this;exact absurd (SD ho) (TM _)
 have Pj:s2.heap.get? s3.heap.objs.size=some oC:=un.keep _ _ KP MZ M3 (by simp);have Pk:H' s3.heap.objs.size=none:=un.free _ _ KP MZ (by simp);show SI _ _ (Xv (.ref ea) _) _ _ s2;rw [show Xv (.ref ea) (compEnvC sc cl s3.heap.objs.size (cA (CX1 P w) P w K mg base AK qual scope f cd A outer s₀ H₀ E).env)=Xv (.ref ea) (Vg qual scope s₀.heap.objs.size f cd) from kI rfl];refine wpAny_looks_onW (outer:=outer) (L:=s₀.heap.objs.size) I3.ok.frames rfl Dc fun h3 held M4=>?_;obtain ⟨Pm,M5⟩:=M4 _ _ Pj M0;obtain ⟨o0,es,ep,M6,Kn,r0⟩:=Gf;have KQ:h3.Ns s3.heap.objs.size m1:=⟨{ oC with slots:=Pm },es,ep,M5,by rw [KP] at M6;cases M6;exact Kn,r0⟩
 have post:∃ m,h3.Ns s3.heap.objs.size m/\∀ h',Vc s3.heap.objs.size h3 h'->∀ Bp:XC,Bp.locals=s3.heap.objs.size->SI (SY P w) (cA (CX1 P w) P w K mg base AK qual scope f cd A outer s₀ H₀ E).A (PySem.passOn "comprehension.variables-let-go" (.ref ea) Bp:Sem Sb) (fun _ _=>False) (cA (CX1 P w) P w K mg base AK qual scope f cd A outer s₀ H₀ E).xe { s2 with heap:=h' }:=by
  refine ⟨m1,KQ,fun h4 sb Bp Bc=>?_⟩;obtain ⟨k1,k2,k3,k4⟩:=held;have hB:∀ b o,(Wi B [s3.heap.objs.size]).get? b=some o->B.get? b=some o:=fun b o z=>of_hideAll _ z
  have Pn:∀ b o,(Wi B [s3.heap.objs.size]).get? b=some o->b≠s3.heap.objs.size:=fun b o z e=>by
   rw [e,hideAll_none _ (Sy.mpr rfl)] at z;cases z
  have Hu:∀ b o,h3.get? b=some o->b≠s3.heap.objs.size->h4.get? b=some o:=fun b o e n=>(sb.2 b n).trans e;have Po:(Wi B [s3.heap.objs.size]).StaysIn h4:=fun b o z=>Hu b o (k1 b o (hB b o z)) (Pn b o z)
  have E7:∀ b o vs,h3.get? b=some o->o.data=.fields vs->b≠s3.heap.objs.size:=fun b o vs e d z=>by
   rw [z,M5] at e;cases e;exact M0 vs d
  have Pp:h4.TracedAtW (Wi B [s3.heap.objs.size]) ea (.ref C0) a0 (WE s₀.heap.objs.size):=by
   obtain ⟨oe,vs,T,oT,ts,he,BZ,hd,h1,Fw,Ge,hT,DQ,Pq⟩:=k4;refine ⟨oe,vs,T,oT,ts,Hu _ _ he (E7 _ _ _ he hd),BZ,hd,h1,?_,Ge,Hu _ _ hT (E7 _ _ _ hT DQ),DQ,Pq⟩;cases z:(Wi B [s3.heap.objs.size]).get? T with
   | none=>rfl
   | some o'=>rw [hB _ _ z] at Fw;cases Fw
  have Pr:h4.FunFrames (Wi B [s3.heap.objs.size]) (Vg qual scope s₀.heap.objs.size f cd::outer):=by
   refine funFrames_base hB ?_
   have:∀ {l:List XC},(∀ env∈l,∀ a,env.frame=some a->a≠s3.heap.objs.size)->h3.FunFrames B l->h4.FunFrames B l:=fun {l} hl hh=>by
    induction l with
    | nil=>trivial
    | cons env l ih =>
      obtain ⟨hk,⟨L,o,hf,hn,ho,hd⟩,hr⟩:=hh;exact ⟨hk,⟨L,o,hf,hn,Hu _ _ ho (hl env (Sr ..) L hf),hd⟩,ih (fun e he=>hl e (Sk _ he)) hr⟩
   exact this (fun env he a ha z=>M3 (by rw [<- z];exact WN.mpr ⟨env,he,ha⟩)) k3
  refine mY (s:={ s2 with heap:=h4 }) Po Pr Pp fun h5 MY DA Pt Pu KC=>?_
  have Hr:(Wi B [s3.heap.objs.size]).get? ea=none:=by
   cases z:(Wi B [s3.heap.objs.size]).get? ea with
   | none=>rfl
   | some o'=>rw [hB _ _ z] at k2;cases k2
  show SI _ _ (leaving _ _) _ _ _;refine jg (s:={ s2 with heap:=h5 }) (outer:=outer) (L:=s₀.heap.objs.size) I3.ok.frames rfl DA Hr Pt Pu fun h6 BO KD=>?_
  have hold:∀ b o,s₀.heap.get? b=some o->b≠s3.heap.objs.size:=fun b o e z=>by
   obtain ⟨o',e'⟩:=I3.base.there b o e (by simp [cA]);exact absurd (SD e') (by rw [z];exact TM _)
  obtain ⟨U,Hb⟩:=wv (fs:=frs outer) (H:=H₀) (h:=s₀.heap) (l:=frs (Vg qual scope s₀.heap.objs.size f cd::outer)) (B:=Wi B [s3.heap.objs.size]) (h':=h6) I7.base un (fun b o hb z=>by
   rw [px (L:=s₀.heap.objs.size) rfl] at z;rcases Sn.mp z with rfl | z
   · exact absurd (SD hb) (TM _)
   · exact z) (fun b o o1 hb h1 nl=>by
     obtain ⟨o',e',g⟩:=b1 b o1 h1 nl;exact ⟨o',hideAll_get _ e' fun z=>hold b o hb (Sy.mp z),g⟩) BO.1 (fun b o o2 hb h2 nf=>by
     obtain ⟨RG,e3⟩:=M4 b o2 h2 nf;obtain ⟨RH,e5⟩:=KC b _ (Hu _ _ e3 (hold b o hb)) nf;obtain ⟨Pw,e6⟩:=KD b _ e5 nf;exact ⟨Pw,e6⟩) (fun b hb=>⟨I3.ok.frf b hb,(I3.ok.funs.mem hb).2⟩)
  have M7:∀ b u,H' b=some u->∃ o',(Wi B [s3.heap.objs.size]).get? b=some o':=fun b u e=>by
   obtain ⟨o',e'⟩:=b2 b u e;exact ⟨o',hideAll_get _ e' fun z=>by rw [Sy.mp z,Pk] at e;cases e⟩
  exact ⟨ea,C0,a0,Wi B [s3.heap.objs.size],H',rfl,Cf.trans I7.os,Cn,U,lf hok (fun b o z=>Dc.1 b o (hB b o z)) BO.1 M7,BO,Hb,M7,q⟩
 cases use <;> exact post
end
section
variable {X:Cx} {pins:List (Sa×UU)} {σ:St} {s:Sf} {H:Hp}
theorem r6 {XE:Sb->Sf->Prop} {prog:SX} {w:Tq} {A:Tj} {R:Result->Sf->Prop} {elt target iter:TV} {ifs:List TV} {scope:Vu} {pos:Wq} {it acc:Sb} {env:XC} (J:Nat->Sf->Prop)
 (turn:∀ n s,J n s->SI (SY prog w) A (X1 it) (fun r Aa=>(r=none/\R (.ok .next) Aa)∨∃ v,r=some v ∧
  SI (SY prog w) A (WT target it v) (fun _ Bi=>SI (SY prog w) A (X3 target env v) (fun _ BF =>
   SI (SY prog w) A (forIn ifs true fun c r=>if r=true then do let ok ← isTrue c env (U4 c env);pure (UR ok) else pure (UR r)) (fun ok BI =>
    (ok=false/\∃ m,m<n/\J m BI)∨(ok=true/\SI (SY prog w) A (U4 elt env) (fun x DE=>SI (SY prog w) A (call (.builtin "list.append") [acc,x]) (fun _ DF=>∃ m,m<n/\J m DF) (fun _ _=>False) DE) XE BI))
    (fun _ _=>False) BF) (fun _ _=>False) Bi) (fun _ _=>False) Aa) (fun _ _=>False) s)
 (Px:∀ e s',XE e s'->notedBy (SY prog w) A env (fun e s'=>R (.error e) s') e s') {s:Sf} (n:Nat) (h:J n s):Wy (SY prog w) A (.compLoop (.ListComp elt [⟨target,iter,ifs,0⟩] scope pos) 0 it acc env) R s:=by
 refine codeAny_loop rfl J (fun n s hJ=>?_) n h;show SI _ A ((compTurn (.ListComp elt [⟨target,iter,ifs,0⟩] scope pos) 0 it acc env).onRaise _) _ _ s;refine wpAny_noted ?_;rw [compTurn_list];have up:∀ {α:Type} {m:Sem α} {Q:α->Sf->Prop} {E:Sb->Sf->Prop} {s:Sf},SI (SY prog w) A m Q (fun _ _=>False) s->SI (SY prog w) A m Q E s:=fun q=>T4 q (fun _ _ z=>z) fun _ _ z=>z.elim;refine R9 (Xo (R9 (T4 (up (turn n s hJ)) (fun r Aa Al=>?_) fun _ _ z=>z)));rcases Al with ⟨rfl,Al⟩ | ⟨v,rfl,Al⟩
 · exact SA Al
 · refine R9 (T4 (up Al) (fun _ Bi Bz=>?_) fun _ _ z=>z);refine R9 (T4 (up Bz) (fun _ BF Ck=>?_) fun _ _ z=>z);refine R9 (T4 (up Ck) (fun ok BI A9=>?_) fun _ _ z=>z);rcases A9 with ⟨rfl,A9⟩ | ⟨rfl,A9⟩
   · exact SA ⟨rfl,A9⟩
   · exact R9 (R9 (T4 A9 (fun x DE AO=>R9 (T4 (up AO) (fun _ DF Ff=>SA (SA ⟨rfl,Ff⟩)) fun _ _ z=>z)) fun e s' z=>Px e s' z))
theorem pI {elt tg iter:TV} {ifs:List TV} {sc:Vu} {pos:Wq} {N:List Ss} {js:List (Option Nat)} {g:TG} {tt:TT} {te:TE} {cl:List (Ss×Sa)} {fp:List Sa} {it:Sa} {tn:Nat->T2->Prop} {J:It} {n:Nat} {W:Nat->Hp->Prop} {fin:Hp->Prop}
 {E0:XK} {R:Sb->Sa->Result->Sf->Prop} (hc:X.calm=true) (S:df X sc N js) (I:Inv X pins σ H s) (T:Turn X.prog X.w X.K tg J fp it tn) (st:tn 0 s.heap) (hf:∀ b∈fp,eV X pins H b)
 (Bc:∀ x c,cl.lookup x=some c->X.env.cells.lookup x=some c) (C7:∀ n,(n,TZ)∈sc.names->∃ c,cl.lookup n=some c)
 (hg:∀ cl C s H fp pins,PG (aT X N sc cl C s H fp pins) tg g) (gk:nC js g) (ht:∀ cl C s H fp pins,PTs (aT X N sc cl C s H fp pins) ifs tt) (he:∀ cl C s H fp pins,PE (eE X E0 N sc cl C s H fp pins) elt te)
 (w0:W 0 (upd H s.heap.objs.size (.lst []))) (turn:cZ js g tt te σ J s.heap.objs.size n W fin)
 (hR:∀ C H' s',C≠X.env.locals->s.heap.objs.size<C->(∃ m,s'.heap.Ns C m)->H' C=none->(∀ h' t',Vc C s'.heap h'->Inv X pins σ H' { s' with heap:=h',toks:=t' })->fin H'->R (.ref s.heap.objs.size) C (.ok .next) s')
 (hX:∀ s3 H3,Inv X pins σ H3 s3->(∀ b∈fp,eV X pins H3 b)->∀ e s',(eE X E0 N sc cl s3.heap.objs.size s3 H3 fp pins).xe e s'->notedBy (SY X.prog X.w) X.A (compEnvC sc cl s3.heap.objs.size X.env) (fun e s'=>R (.ref s.heap.objs.size) s3.heap.objs.size (.error e) s') e s') {E:Sb->Sf->Prop} :
 SI (SY X.prog X.w) X.A (newList []) (fun acc BF=>SI (SY X.prog X.w) X.A (newFunctionEnv sc X.env.globals cl [] X.env.qual none .none (some X.env)) (fun Bp BI =>
  Wy (SY X.prog X.w) X.A (.compStart (.ListComp elt [⟨tg,iter,ifs,0⟩] sc pos) 0 (.ref it) acc { Bp with scope:=relabel sc X.env }) (R acc Bp.locals) BI) E BF) E s:=by
 refine Uh (wpAny_newFunctionEnv S.nocell (by intro y hy;simp at hy) (fun Al Bf Bg=>?_) S.kind);dsimp only at Bf Bg ⊢;have I3:Inv X pins σ (upd H s.heap.objs.size (.lst [])) { s with heap:=s.heap.push { cls:=.type "list",dict:=none,data:=.seq ([]:List Sb).toArray } }:=I.lnew (t':=s.toks) (its:=[]) .nil (by decide)
 have AD:∀ b∈fp,b<s.heap.objs.size:=fun b hb=>by
  obtain ⟨o,ho,_⟩:=T.obj _ _ st b hb;exact SD ho
 have Cm:∀ b o,s.heap.get? b=some o->(s.heap.push { cls:=.type "list",dict:=none,data:=.seq ([]:List Sb).toArray }).get? b=some o:=fun b o e=>Se _ e;have Az:(s.heap.push { cls:=.type "list",dict:=none,data:=.seq ([]:List Sb).toArray }).objs.size=s.heap.objs.size+1:=UG ..;generalize GX:({ s with heap:=s.heap.push { cls:=.type "list",dict:=none,data:=.seq ([]:List Sb).toArray } }:Sf)=s3 at I3;have DG:s.heap.push { cls:=.type "list",dict:=none,data:=.seq ([]:List Sb).toArray }=s3.heap:=by rw [<- GX]
 rw [DG] at Bf Bg Cm Az;rw [DG];have J':∀ t',({ s with heap:=Al,toks:=t' }:Sf)={ s3 with heap:=Al,toks:=t' }:=fun t'=>by rw [<- GX]
 rw [J'];have CC:∀ b o,s3.heap.get? b=some o->Al.get? b=some o:=fun b o e=>Bg.extBut b o (Ti (SD e)) (Se _ e);have D':∀ b∈fp,eV X pins (upd H s.heap.objs.size (.lst [])) b:=fun b hb=>⟨by rw [aq (Ti (AD b hb))];exact (hf b hb).1,(hf b hb).2⟩;have I4:=pQ (t':=s.toks+([]:List (Ss×Sb)).length) S I3 Bc C7 D' (fun b hb=>by rw [Az];exact SF (AD b hb)) Bf CC;generalize OG:upd H s.heap.objs.size (.lst [])=H3 at I3 I4 D' w0;have AI:tn 0 Al:=T.keep _ _ _ st fun b hb o e=>CC _ _ (Cm _ _ e)
 have Be:∀ {H':Hp},(∀ b∈fp,H' b=none)->∀ b∈fp,eV (aT X N sc cl s3.heap.objs.size s3 H3 fp pins) [] H' b:=fun {H'} hn b hb=>by
  obtain ⟨f0,f1,f2,f3,f4,f5⟩:=hf b hb;refine ⟨hn b hb,fun e=>?_,fun hm=>?_,.inl hb,fun x c e=>f4 x c (Bc x c e),fun p hp=>f5 p (by simpa [aT] using hp)⟩
  · have e':b=s3.heap.objs.size:=e;have h9:b<s.heap.objs.size:=AD b hb;rw [e',Az] at h9;exact absurd h9 (Nat.not_lt.mpr (Nat.le_succ _))
  · rcases Sn.mp (I.stkSub b hm) with e | e
    · exact f1 e
    · exact f2 e
 have loop:Wy (SY X.prog X.w) X.A (.compLoop (.ListComp elt [⟨tg,iter,ifs,0⟩] sc pos) 0 (.ref it) (.ref s.heap.objs.size) (compEnvC sc cl s3.heap.objs.size X.env)) (R (.ref s.heap.objs.size) s3.heap.objs.size)
  { s3 with heap:=Al,toks:=s.toks+([]:List (Ss×Sb)).length }:=by
  refine r6 (XE:=(eE X E0 N sc cl s3.heap.objs.size s3 H3 fp pins).xe) (fun k s'=>∃ i H',Inv (aT X N sc cl s3.heap.objs.size s3 H3 fp pins) [] (cσ js σ) H' s'/\tn i s'.heap/\(∀ b∈fp,H' b=none)/\W i H'/\k=n - i) ?_ (fun e s' z=>hX s3 H3 I3 D' e s' z) n ⟨0,H3,I4,AI,fun b hb=>(D' b hb).1,w0,rfl⟩;rintro k s5 ⟨i,H5,I5,DA,E9,w5,rfl⟩;rcases turn i H5 w5 with ⟨stop,qn⟩ | ⟨GY,go,step⟩
  · refine thn (T.done (aT X N sc cl s3.heap.objs.size s3 H3 fp pins) rfl rfl rfl hc i [] s5 (cσ js σ) H5 _ I5 (Be E9) DA stop) fun r s6 ⟨hr,I6⟩=>.inl ⟨hr,?_⟩;have I7:Inv X pins σ H5 s6:=I3.call' (ch:=fp) (I6.os.trans rfl) I6.base I6.hok I6.bare fun b hb=>⟨(hf b hb).2.2.2.1,(hf b hb).2.1,(hf b hb).2.2.2.2.1,(hf b hb).2.2.2.2.2⟩;have GZ:H5 s3.heap.objs.size=none:=I6.free;have G0:s3.heap.objs.size≠X.env.locals:=UW I3.lt;obtain ⟨m6,Ka,_⟩:=I6.loc;refine hR s3.heap.objs.size H5 s6 G0 (by omega) ⟨m6,Ka⟩ GZ (fun h' t' sb=>?_) qn;refine I7.turned (it:=s3.heap.objs.size) (fun b o hb e=>sb.extBut b o hb e) GZ G0 (.inr I3.sz) (fun x c e z=>?_) fun p hp z=>?_
    · obtain ⟨v,q⟩:=I3.cell x c e;exact absurd q.lt (by rw [z];exact TM _)
    · exact absurd (SD (I3.pin p hp).1) (by rw [z];exact TM _)
  · refine thn (T.item (aT X N sc cl s3.heap.objs.size s3 H3 fp pins) rfl rfl rfl hc i [] s5 (cσ js σ) H5 _ I5 (Be E9) DA go) fun r s6 ⟨u,hr,h6⟩=>.inr ⟨u,hr,?_⟩;refine thn h6 fun _ s7 ⟨x,H7,I7,r7,y7,Fg,Kb⟩=>?_;have Kc:=I7.pinned (Be Kb) (T.obj _ _ Fg);refine thn (hg cl s3.heap.objs.size s3 H3 fp pins _ s7 (cσ js σ) H7 x u _ Kc r7 (gk σ (cσ js σ) x H7 _ (.refl _) (step x H7 y7))) fun _ s8 ⟨DH,H8,I8,k8,q8⟩=>?_;refine thn (ht cl s3.heap.objs.size s3 H3 fp pins _ s8 DH H8 _ I8 q8) fun ok s9 ⟨H9,I9,q9⟩=>?_
    have again:∀ {s':Sf} {f':St} {H':Hp},Keep (cσ js σ) f'->Inv (aT X N sc cl s3.heap.objs.size s3 H3 fp pins) ([]++iA fp s7.heap) f' H' s'->W (i+1) H'->∃ m,m<n - i/\∃ i H',Inv (aT X N sc cl s3.heap.objs.size s3 H3 fp pins) [] (cσ js σ) H' s'/\tn i s'.heap/\(∀ b∈fp,H' b=none)/\W i H'/\m=n - i:=fun {s' f' H'} kp I' w'=>by
     refine ⟨n - (i+1),by omega,i+1,H',(I'.unpinned).weak kp.1 kp.2,T.keep _ _ _ Fg fun b hb o e=>(I'.pin (b,o) (SU _ (SU _ (cu hb e)))).1,fun b hb=>?_,w',rfl⟩;obtain ⟨o,e,d⟩:=T.obj _ _ Fg b hb;exact (I'.pin (b,o) (SU _ (SU _ (cu hb e)))).2.1
    cases ok with
    | false =>
      refine .inl ⟨rfl,again k8 I9 ?_⟩;have G1:if false=true then _ else W (i+1) H9:=q9
      rw [if_neg Sz] at G1;exact G1
    | true =>
      refine .inr ⟨rfl,?_⟩;rw [if_pos rfl] at q9;refine T4 (he cl s3.heap.objs.size s3 H3 fp pins _ s9 DH H9 _ I9.toX q9) (fun vv Kd ⟨v,Ke,KR,rv,ys,hD,G2,Kg⟩=>?_) fun _ _ z=>z;have Kf:=KR.ofX;refine thn (aZ _ Kd DH Ke (.ref s.heap.objs.size) [v] (.ref s.heap.objs.size) [vv] (fun _ H'=>W (i+1) H') Kf rfl (.cons rv .nil) ⟨_,ys,v,rfl,rfl,hD,G2,Kg⟩) fun _ OH ⟨_,OI,Kh,_,Ki⟩=>?_;exact again k8 Kh Ki
 exact codeAny_compStart_list loop (T.self X.A 0 _ _ _ AI loop)
end
section
variable {P:SX} {w:Tq} {K:R8} {mg:Ss->Option Sb} {base:T2} {AK:List Ss} {qual:Ss} {scope:Vu} {f:Sa} {cd:Sb} {A:Tj} {outer:List XC} {s₀:Sf} {H₀:Hp} {E:XK}
theorem vB {elt tg iter:TV} {ifs:List TV} {sc:Vu} {pos:Wq} {N:List Ss} {js:List (Option Nat)} {wi:TI} {g:TG} {tt:TT} {te:TE} (S:df (cA (CX1 P w) P w K mg base AK qual scope f cd A outer s₀ H₀ E) sc N js) (hi:PI (cA (CX1 P w) P w K mg base AK qual scope f cd A outer s₀ H₀ E) tg iter wi)
 (hg:∀ cl C s H fp pins,PG (aT (cA (CX1 P w) P w K mg base AK qual scope f cd A outer s₀ H₀ E) N sc cl C s H fp pins) tg g) (gk:nC js g) (ht:∀ cl C s H fp pins,PTs (aT (cA (CX1 P w) P w K mg base AK qual scope f cd A outer s₀ H₀ E) N sc cl C s H fp pins) ifs tt) (he:∀ cl C s H fp pins,PE (eE (cA (CX1 P w) P w K mg base AK qual scope f cd A outer s₀ H₀ E) E N sc cl C s H fp pins) elt te)
 (hs:∀ x,Ww iter (cA (CX1 P w) P w K mg base AK qual scope f cd A outer s₀ H₀ E).env x=pure x:=by intro _;rfl):PE (cA (CX1 P w) P w K mg base AK qual scope f cd A outer s₀ H₀ E) (.ListComp elt [⟨tg,iter,ifs,0⟩] sc pos) (vV js wi g tt te):=by
 intro pins s σ H Q I h;obtain ⟨cl,e1,e2,e3⟩:=ir (env:=(cA (CX1 P w) P w K mg base AK qual scope f cd A outer s₀ H₀ E).env) (sc:=sc) fun n hn=>I.ok.has n (S.frees _ hn rfl);rw [eval_ListComp];refine Xp (use:=none) rfl hs e1 S.kind S.names (thn (hi pins s σ H _ I h) fun v s1 h1=>thn h1 fun GI s2 h2=>?_);obtain ⟨it,fp,tn,J,H2,rfl,I2,T,Eo,f2,R2⟩:=h2;obtain ⟨n,W,w0,turn⟩:=R2 s2.heap.objs.size I2.fresh;refine pI (R:=fun acc C=>compPost (SY P w) (cA (CX1 P w) P w K mg base AK qual scope f cd A outer s₀ H₀ E).A (cA (CX1 P w) P w K mg base AK qual scope f cd A outer s₀ H₀ E).xe none (EP (cA (CX1 P w) P w K mg base AK qual scope f cd A outer s₀ H₀ E) pins σ Q) acc C) rfl S I2 T Eo f2 e2 e3 hg gk ht he w0 turn (fun C H' s' _ _ hn _ inv fi=>?_) fun s3 H3 I3 D' e s' z=>tM I3 D' z;obtain ⟨m,hm⟩:=hn;exact ⟨m,hm,fun h' sb=>⟨.ref s2.heap.objs.size,H',inv h' s'.toks sb,rfl,fi⟩⟩
end
end L2
namespace BB
open PySem L2
theorem cK {n:Ss} (h:aP n=true):(∀ c∈sL n,97<=c/\c<=122)/\n.length<=8/\n.length≠0:=by
 unfold aP low at h;obtain ⟨h1,h2⟩:=Tr _ _ |>.mp h;have h3:=of_decide_eq_true h1;exact ⟨fun c hc=>of_decide_eq_true (Tv.mp h2 c hc),h3.2,by omega⟩
mutual
/-- names GA are names,Jp of at most three figures -/
def Th.Wr:Th->Prop
 | .knot n ts=>aP n=true/\Wrs ts
 | .call s k=>(0<=s/\s<1000)/\0<=k/\k<1000
def Wrs:List Th->Prop
 | []=>True
 | t::ts=>t.Wr/\Wrs ts
end
theorem Wrs.mem:∀ {ts:List Th},Wrs ts->∀ t∈ts,t.Wr
 | [],_,t,ht=>by cases ht
 | u::us,h,t,ht=>by
   rw [Wrs] at h;rcases Sn.mp ht with rfl | ht
   · exact h.1
   · exact Wrs.mem h.2 t ht
theorem bO {n:Int} (h:0<=n/\n<1000):(aS n).length<=3:=by
 obtain ⟨m,rfl⟩:=V9 h.1;have:=qZ m (by omega);unfold isNum at this;rw [Tr,Tr] at this;exact (of_decide_eq_true this.1.1).2
theorem tF {n:Int} (h:0<=n/\n<1000):n.natAbs.log2<1920:=by
 have:n.natAbs.log2<=n.natAbs:=Nat.log2_le_self _;omega
mutual
theorem xB:∀ {t:Th},t.Wr->(t.fill cr).Nm 8
 | .knot n ts,h=>by
   rw [Th.Wr] at h;rw [Th.fill,Th.Nm];exact ⟨(cK h.1).2.1,rX h.2⟩
 | .call s k,h=>by
   rw [Th.Wr] at h;rw [Th.fill,cr,Th.Nm,Nms];have h1:=bO h.1;have h2:=bO h.2;refine ⟨?_,trivial⟩;unfold vN;rw [SN,SN];show (aS s).length+1+(aS k).length<=8;omega
theorem rX:∀ {ts:List Th},Wrs ts->Nms 8 (fills cr ts)
 | [],_=>by rw [fills,Nms];trivial
 | t::ts,h=>by
   rw [Wrs] at h;rw [fills,Nms];exact ⟨xB h.1,rX h.2⟩
end
mutual
theorem nR:∀ t:Th,(t.fill cr).size=t.size
 | .knot n ts=>by rw [Th.fill,Th.size,Th.size,iH ts]
 | .call s k=>by rw [Th.fill,cr,Th.size,Th.size,aE]
theorem iH:∀ ts:List Th,aE (fills cr ts)=aE ts
 | []=>by rw [fills]
 | t::ts=>by rw [fills,aE,aE,nR t,iH ts]
end
theorem lL {t:Th} (h:t.Wr) (hz:t.size<=1000):(t.fill cr).show.length<=11000:=by
 have h1:=Th.show_le (t.fill cr) (xB h);rw [nR] at h1;have:=VX (8+3) hz;omega
theorem qg:∀ ts:List Th,ts.length<=aE ts
 | []=>Td _
 | t::ts=>by
   rw [R7,aE];have h1:=qg ts;cases t with
   | knot n us=>rw [Th.size];omega
   | call s k=>rw [Th.size];omega
end BB
namespace L2
open PySem PySem.Spec PySem.Calls PyProof.Rows BB
theorem wy {X:Cx} {i j:Nat} {x y:Ss} {p0 p1 p2 p3 p4 p5 p6 p7 p8 p9 Fo Fp:Wq} {k1 k2:Nat} (hN:X.N.Nodup) (hi:X.N[i]?=some x) (hj:X.N[j]?=some y) (DO:i≠j) (hx:X.env.scope.names.lookup x=some .local) (hy:X.env.scope.names.lookup y=some .local)
 (Fq:(x == ("__debug__":Ss))=false:=by decide) (Kx:(y == ("__debug__":Ss))=false:=by decide) (BH:(p4.endLine == Fo.line)=true:=by rfl)
 (hs:Xs (.Call (.Attribute (.Name y p3) "replace" p4) [.Name x p5,.BinOp (.BinOp (.Constant (.str (R4 " ")) k1 p6) .Add (.Name x p7) p8) .Add (.Constant (.str (R4 " ")) k2 p9) Fp] [] Fo) (some (.Name y p2)) p1.line X.env=pure false:=by rfl) :
 BT X (.Name x p0) [.Assign [.Name y p2] (.Call (.Attribute (.Name y p3) "replace" p4) [.Name x p5,.BinOp (.BinOp (.Constant (.str (R4 " ")) k1 p6) .Add (.Name x p7) p8) .Add (.Constant (.str (R4 " ")) k2 p9) Fp] [] Fo) p1] (xE i j):=by
 intro pins s σ H c t D I Ky ht h;obtain ⟨z,c',hv,Hk,Fs,hz,q⟩:=h
 have F1:c=c':=by
  have h1:=V.str.inj hv;have h2:=congrArg (fun w:Ss=>w.cps) h1;simpa using h2
 subst F1;refine Xh (nH (v:=.str ⟨#[c]⟩) I hN hi hx ⟨t,rfl⟩ fun h' m' I2 hn Hl hm=>?_);obtain ⟨u0,r0,Kz⟩:=hm j y _ (VE DO) hj Hk hy;obtain ⟨t0,rfl⟩:=r0;refine Xr ?_;refine wpAny_Assign_Name (VM rfl rfl BH rfl (Wh (UI I2.ok.kind hy hn Kz ?_) Kx)) hs;refine ⟨"str","str.replace",TB,WY,WW,Vl _ _ _,(fun _ e=>nomatch e),?_⟩;refine Vd rfl (VC ?_);show SI _ _ (spliced [(false,U4 (.Name x p5) X.env),(false,U4 (.BinOp (.BinOp (.Constant (.str (R4 " ")) k1 p6) .Add (.Name x p7) p8) .Add (.Constant (.str (R4 " ")) k2 p9) Fp) X.env)]) _ _ _;refine Uq (Wh (UI I2.ok.kind hx hn Hl ?_) Fq);refine Uq ?_
 have fin:∀ (t2 k:Nat),t<t2->SI (SY X.prog X.w) X.A (call (.builtin "str.replace") [.str z t0,.str ⟨#[c]⟩ t,.str ⟨#[32,c,32]⟩ t2]) (fun v Aa=>SI (SY X.prog X.w) X.A (Xu X.env y v) (fun _ s'=>SI (SY X.prog X.w) X.A (execs [] X.env) (SP X pins D) X.xe s') X.xe Aa) X.xe { s with heap:=h',toks:=k }:=fun t2 k hk=>by
  refine SC.replaceW (UW Ky) (UW (WL (Td _) hk)) (Ti hk) uM (by omega) (by show 3<=14;decide) fun t' k'=>?_;rw [replace_one z ⟨#[32,c,32]⟩ c (by show 3≠0;decide)];refine gc (v:=.str (ofL (cC c [32,c,32] z.cps.toList))) (I2.tok k') hN hj (.inl hy) ⟨t',rfl⟩ (fun s2 I3=>Vw ⟨_,H,I3,?_⟩) (.inr hy);exact q
 have e2:R4 " "++(⟨#[c]⟩:Ss)=⟨#[32,c]⟩:=rfl;have e3:(⟨#[32,c]⟩:Ss)++R4 " "=⟨#[32,c,32]⟩:=rfl;have big:∀ n:Nat,n<=100->n<=SQ:=fun n hn=>by rw [UJ];omega
 refine wpAny_BinOp (wpAny_BinOp (UH (Wh (UI I2.ok.kind hx hn Hl ?_) Fq)));refine PySem.P.add_str ?_;rw [if_neg (by decide),if_neg (show ¬ ((⟨#[c]⟩:Ss).length == 0)=true from fun z=>absurd (show (1 == 0)=true from z) (by decide))];refine ⟨by rw [e2];exact big _ (by show 2<=100;decide),?_⟩;rw [e2];refine UH (PySem.P.add_str ?_);rw [if_neg (show ¬ ((⟨#[32,c]⟩:Ss).length == 0)=true from fun z=>absurd (show (2 == 0)=true from z) (by decide)),if_neg (by decide)];refine ⟨by rw [e3];exact big _ (by show 3<=100;decide),?_⟩;rw [e3];refine VB (fin _ _ ?_)
 first | exact SF ht | exact SF (SF ht) | exact SF (SF (SF ht)) | exact SF (SF (SF (SF ht))) | exact SF (SF (SF (SF (SF ht)))) | exact SF (SF (SF (SF (SF (SF ht))))) | exact SF (SF (SF (SF (SF (SF (SF ht))))))
end L2
namespace L2
open PySem PySem.Spec PySem.SeqAt PyProof.Rows BB
def rD (H:Hp) (ws:List Ss) (a:Sa):Prop:=H a=some (.lst (ws.map V.str))
theorem tV {X:Cx} {pins:List (Sa×UU)} {σ:St} {H:Hp} {s:Sf} (I:Inv X pins σ H s) {A:Tj} {a b:Sa} {x y:List Ss} (ha:rD H x a) (hb:rD H y b) (hu:A.units+2<WC):EqAt A s (.ref a) (.ref b) (decide (x=y)):=by
 by_cases Ed:a=b
 · subst Ed
   have e:x=y:=by
    unfold rD at ha hb;rw [ha] at hb
    have h1:x.map V.str=y.map V.str:=by
     have:=Su hb;injection this
    have h2:=congrArg (List.map fun v:V=>match v with | .str z=>z | _=>Ua) h1;rw [T8,T8] at h2
    have h3:∀ l:List Ss,l.map ((fun v:V=>match v with | .str z=>z | _=>Ua) ∘ V.str)=l:=fun l=>by
     conv=>rhs;rw [<- List.map_id l]
     rfl
    rw [h3,h3] at h2;exact h2
   rw [decide_eq_true e];exact EqAt.same _
 · obtain ⟨its,r1,p1,_⟩:=I.list (SqL.of (K:=X.K) ha);obtain ⟨Ad,r2,p2,_⟩:=I.list (SqL.of (K:=X.K) hb);have l1:its.length=x.length:=by rw [<- r1.length,R5]
   have l2:Ad.length=y.length:=by rw [<- r2.length,R5]
   refine EqAt.of_refs Ed ?_;by_cases hl:x.length=y.length
   · have Az:its.toArray.size=Ad.toArray.size:=by rw [Si,Si];omega
     have hp:∀ j (h1:j<its.toArray.size) (h2:j<Ad.toArray.size),EqAt A.in1 s its.toArray[j] Ad.toArray[j] (decide (x[j]?=y[j]?)):=fun j h1 h2=>by
      have Bu:j<x.length:=by rw [<- l1];simpa using h1
      have BD:j<y.length:=by rw [<- l2];simpa using h2
      have e1:x[j]?=some x[j]:=R6 Bu;have e2:y[j]?=some y[j]:=R6 BD;obtain ⟨u',CF,Ew⟩:=r1.get (show (x.map V.str)[j]?=some (V.str x[j]) by rw [So,e1];rfl);obtain ⟨v',Bq,C9⟩:=r2.get (show (y.map V.str)[j]?=some (V.str y[j]) by rw [So,e2];rfl)
      have e3:decide (x[j]?=y[j]?)=(x[j] == y[j]):=by
       rw [e1,e2];by_cases h:x[j]=y[j]
       · rw [h];simp
       · rw [decide_eq_false (fun z=>h (Su z))];simp [h]
      have e4:its.toArray[j]=u':=by
       rw [R6 (by rw [l1];exact Bu)] at CF;simpa using CF
      have e5:Ad.toArray[j]=v':=by
       rw [R6 (by rw [l2];exact BD)] at Bq;simpa using Bq
      rw [e3,e4,e5];obtain ⟨t,rfl⟩:=Ew;obtain ⟨t',rfl⟩:=C9;exact EqAt.str_str _ t _ t'
     have h:=RcAt.lists (A:=A) (e:=fun j=>decide (x[j]?=y[j]?)) p1.isList p2.isList Az (by omega) hp
     have e:(Tw its.toArray.size).all (fun j=>decide (x[j]?=y[j]?))=decide (x=y):=by
      rw [Si,l1];by_cases h:x=y
      · subst h;rw [decide_eq_true rfl];simp
      · rw [decide_eq_false h];refine Ud.mpr fun z=>h (Vr fun j=>?_);by_cases hj:j<x.length
        · exact of_decide_eq_true (Tv.mp z j (UY.mpr hj))
        · rw [Tx (by omega),Tx (by omega)]
     rw [e] at h;exact h
   · rw [decide_eq_false (fun z=>hl (by rw [z]))];exact RcAt.lists_lengths p1.isList p2.isList (by rw [Si,Si,l1,l2];simpa using hl) (by omega)
section
variable {X:Cx} {pins:List (Sa×UU)} {σ:St} {H:Hp} {s:Sf}
theorem pC (I:Inv X pins σ H s) {A:Tj} {x y:List (List Ss)} {as bs:List Sa} {its Ad:List Sb} (r1:Vals (as.map V.ref) its) (r2:Vals (bs.map V.ref) Ad) (hx:To (rD H) x as) (hy:To (rD H) y bs) (hu:A.units+3<WC) :
 ∀ j (h1:j<its.toArray.size) (h2:j<Ad.toArray.size),EqAt A.in1 s its.toArray[j] Ad.toArray[j] (decide (x[j]?=y[j]?)):=fun j h1 h2=>by
 have l1:its.length=x.length:=by rw [<- r1.length,R5,SK hx]
 have l2:Ad.length=y.length:=by rw [<- r2.length,R5,SK hy]
 have Bu:j<x.length:=by rw [<- l1];simpa using h1
 have BD:j<y.length:=by rw [<- l2];simpa using h2
 have e1:x[j]?=some x[j]:=R6 Bu;have e2:y[j]?=some y[j]:=R6 BD;obtain ⟨a,ha,la⟩:=P2.get hx e1;obtain ⟨b,hb,lb⟩:=P2.get hy e2;obtain ⟨u',CF,Ew⟩:=r1.get (show (as.map V.ref)[j]?=some (V.ref a) by rw [So,ha];rfl);obtain ⟨v',Bq,C9⟩:=r2.get (show (bs.map V.ref)[j]?=some (V.ref b) by rw [So,hb];rfl);have e3:decide (x[j]?=y[j]?)=decide (x[j]=y[j]):=by rw [e1,e2];simp
 have e4:its.toArray[j]=u':=by
  rw [R6 (by rw [l1];exact Bu)] at CF;simpa using CF
 have e5:Ad.toArray[j]=v':=by
  rw [R6 (by rw [l2];exact BD)] at Bq;simpa using Bq
 rw [e3,e4,e5];cases Ew;cases C9;exact tV I la lb (by show A.units+1+2<WC;omega)
theorem vb {x y:List (List Ss)} (hl:x.length=y.length):(Tw x.length).all (fun j=>decide (x[j]?=y[j]?))=decide (x=y):=by
 by_cases h:x=y
 · subst h;rw [decide_eq_true rfl];simp
 · rw [decide_eq_false h];refine Ud.mpr fun z=>h (Vr fun j=>?_);by_cases hj:j<x.length
   · exact of_decide_eq_true (Tv.mp z j (UY.mpr hj))
   · rw [Tx (by omega),Tx (by omega)]
end
def rLL (K:R8) (ne:Bool):R2:=fun x y H Q=>∃ (a b:Sa) (as bs:List Sa) (u v:List (List Ss)),x=.ref a/\y=.ref b/\SqL K H a (as.map V.ref)/\SqL K H b (bs.map V.ref)/\To (rD H) u as/\To (rD H) v bs/\Q (.bl (ne ^^ decide (u=v))) H
theorem wH {X:Cx} (hu:X.A.units+3<WC):OpR X (UK .NotEq) (rLL X.K true):=by
 intro pins s σ H x y v u Q I rx ry h;obtain ⟨a,b,as,bs,p,q,rfl,rfl,ha,hb,hp,hq,k⟩:=h;cases rx;cases ry;obtain ⟨its,r1,p1,_⟩:=I.list ha;obtain ⟨Ad,r2,p2,_⟩:=I.list hb;have l1:its.length=p.length:=by rw [<- r1.length,R5,SK hp]
 have l2:Ad.length=q.length:=by rw [<- r2.length,R5,SK hq]
 by_cases hl:p.length=q.length
 · have Az:its.toArray.size=Ad.toArray.size:=by rw [Si,Si];omega
   refine RcNeAt.lists p1.isList p2.isList Az (by omega) (pC I r1 r2 hp hq hu) X.prog X.w X.xe _ ?_
   have e:(Tw its.toArray.size).all (fun j=>decide (p[j]?=q[j]?))=decide (p=q):=by
    rw [Si,l1];exact vb hl
   refine ⟨.bl (true ^^ decide (p=q)),H,I,?_,k⟩;rw [e,Bool.true_xor];rfl
 · refine RcNeAt.lists_lengths p1.isList p2.isList (by rw [Si,Si,l1,l2];simpa using hl) (by omega) X.prog X.w X.xe _ ⟨.bl true,H,I,rfl,?_⟩;rw [decide_eq_false (fun z=>hl (by rw [z]))] at k;exact k
theorem xc {X:Cx} (hu:X.A.units+3<WC):OpR X (UK .Eq) (rLL X.K false):=by
 intro pins s σ H x y v u Q I rx ry h;obtain ⟨a,b,as,bs,p,q,rfl,rfl,ha,hb,hp,hq,k⟩:=h;cases rx;cases ry;obtain ⟨its,r1,p1,_⟩:=I.list ha;obtain ⟨Ad,r2,p2,_⟩:=I.list hb;have l1:its.length=p.length:=by rw [<- r1.length,R5,SK hp]
 have l2:Ad.length=q.length:=by rw [<- r2.length,R5,SK hq]
 by_cases hl:p.length=q.length
 · have Az:its.toArray.size=Ad.toArray.size:=by rw [Si,Si];omega
   refine eq_listAt (e:=fun j=>decide (p[j]?=q[j]?)) p1.isList p2.isList Az (by omega) (pC I r1 r2 hp hq hu) ?_
   have e:(Tw its.toArray.size).all (fun j=>decide (p[j]?=q[j]?))=decide (p=q):=by
    rw [Si,l1];exact vb hl
   refine ⟨.bl (false ^^ decide (p=q)),H,I,?_,k⟩;rw [e,Bool.false_xor];rfl
 · refine eq_list_lengthsAt p1.isList p2.isList (by rw [Si,Si,l1,l2];simpa using hl) (by omega) ⟨.bl false,H,I,rfl,?_⟩;rw [decide_eq_false (fun z=>hl (by rw [z]))] at k;exact k
end L2
namespace BB
open PySem L2
mutual
def Th.tx:Th->List Nat
 | .knot n ts=>sL n++(if ts=[] then [] else 40::(txs ts++[41]))
 | .call s k=>sL (aS s)++46::sL (aS k)
def txs:List Th->List Nat
 | []=>[]
 | t::ts=>t.tx++(if ts=[] then [] else 44::txs ts)
end
theorem vy (s k:Int):sL (vN s k)=sL (aS s)++46::sL (aS k):=by
 unfold vN;rw [cW,cW,rM,SO];rfl
mutual
theorem xx:∀ t:Th,((t.fill cr).wT.map sL).flatten=t.tx
 | .call s k=>by
   rw [Th.fill,cr,Th.wT,if_pos rfl,Th.tx];show sL (vN s k)++[]=_;rw [SM,vy]
 | .knot n ts=>by
   rw [Th.fill,Th.wT,Th.tx,Sl,SJ];congr 1;by_cases hz:ts=[]
   · rw [if_pos hz,if_pos (gD.mpr hz)];rfl
   · rw [if_neg hz,if_neg (fun z=>hz (gD.mp z)),Sl,SJ,Sq,TQ,vo ts,nY];show [40]++(txs ts++(sL rpar++[]))=_;rw [oU];rfl
theorem vo:∀ ts:List Th,((wTs (fills cr ts)).map sL).flatten=txs ts
 | []=>by rw [fills,wTs,txs];rfl
 | t::ts=>by
   rw [fills,wTs,txs,Sq,TQ,xx t];congr 1;by_cases hz:ts=[]
   · rw [if_pos hz,if_pos (gD.mpr hz)];rfl
   · rw [if_neg hz,if_neg (fun z=>hz (gD.mp z)),Sl,SJ,vo ts,lM];rfl
end
theorem sV (t:Th):sL (t.fill cr).show=t.tx:=by rw [sO _ (pS t),xx]
theorem eB {n:Int} (h:0<=n/\n<1000):(∀ c∈sL (aS n),48<=c/\c<=57)/\sL (aS n)≠[]:=by
 obtain ⟨m,rfl⟩:=V9 h.1;have:=qZ m (by omega);unfold isNum at this;rw [Tr,Tr,Tv] at this;obtain ⟨⟨h1,h2⟩,_⟩:=this;refine ⟨fun c hc=>of_decide_eq_true (h2 c hc),fun z=>?_⟩;have h1:=(of_decide_eq_true h1).1;rw [<- bV,z] at h1;exact absurd h1 (by decide)
theorem fh {n:Ss} (h:aP n=true):(∀ c∈sL n,97<=c/\c<=122)/\sL n≠[]:=by
 obtain ⟨h1,_,h3⟩:=cK h;exact ⟨h1,fun e=>h3 (by rw [<- bV,e];rfl)⟩
mutual
theorem uH:∀ {t:Th},t.Wr->∀ (l:List Nat),Nx l->scW [] ((t.tx++l).flatMap sp4)=t.wP.map sL++scW [] (l.flatMap sp4)
 | .call s k,h,l,hl=>by
   rw [Th.Wr] at h;obtain ⟨a1,a2⟩:=eB h.1;obtain ⟨b1,b2⟩:=eB h.2;rw [Th.tx,rQ (fun c hc=>by have:=a1 c hc;omega) a2 (fun c hc=>by have:=b1 c hc;omega) b2 l hl,Th.wP,Th.stP];rfl
 | .knot n ts,h,l,hl=>by
   rw [Th.Wr] at h;obtain ⟨Py,Ax⟩:=fh h.1;have Ey:∀ c∈sL n,47<=c:=fun c hc=>by have:=Py c hc;omega
   have Gb:∀ c∈sL n,c≠32:=fun c hc=>by have:=Ey c hc;omega
   rw [Th.tx,Th.wP,Th.stP];by_cases hz:ts=[]
   · rw [if_pos hz,if_pos hz,SM,VZ,ju Ey,jm _ _ _ Gb,Ts,vY Ax hl];rfl
   · rw [if_neg hz,if_neg hz,SO,S9,SO,VZ,ju Ey,jm _ _ _ Gb,Ts,gG _ _ (.inl rfl),vA h.2 hz ([41]++l) (.inr ⟨41,l,rfl,.inr (.inl rfl)⟩)];rw [S9,Ts,gG _ _ (.inr (.inl rfl))];have he:em (sL n)=[sL n]:=by unfold em;rw [if_neg Ax]
     rw [he];simp only [Sl,SJ,Sq,TQ,UN,List.flatten_nil,SM,S9,Ts,SO,nY,oU];rfl
theorem vA:∀ {ts:List Th},Wrs ts->ts≠[]->∀ (l:List Nat),Nx l->scW [] ((txs ts++l).flatMap sp4)=(((cw ts).map (·.1)).flatten).map sL++scW [] (l.flatMap sp4)
 | [],_,hn,_,_=>absurd rfl hn
 | t::ts,h,_,l,hl=>by
   rw [Wrs] at h;rw [txs,cw];by_cases hz:ts=[]
   · rw [if_pos hz,if_pos hz,SM,SM,uH h.1 l hl];rfl
   · rw [if_neg hz,if_neg hz,SO,S9,uH h.1 _ (.inr ⟨44,_,rfl,.inr (.inr rfl)⟩),gG _ _ (.inr (.inr (.inl rfl))),vA h.2 hz l hl];simp only [Sl,SJ,Sq,TQ,S9,Ts,SO,lM];rfl
end
theorem xj {t:Th} (h:t.Wr):W4 t.tx=t.wP.map sL:=by
 have:=uH h [] (.inl rfl);rw [SM] at this;rw [xv,this];show _++em []=_;exact SM _
mutual
theorem vJ:∀ {t:Th},t.Wr->∀ c∈t.tx,40<=c/\c<=122
 | .call s k,h,c,hc=>by
   rw [Th.Wr] at h;rw [Th.tx] at hc;rcases Sv.mp hc with hc | hc
   · have:=(eB h.1).1 c hc;omega
   · rcases Sn.mp hc with rfl | hc
     · omega
     · have:=(eB h.2).1 c hc;omega
 | .knot n ts,h,c,hc=>by
   rw [Th.Wr] at h;rw [Th.tx] at hc;rcases Sv.mp hc with hc | hc
   · have:=(fh h.1).1 c hc;omega
   · by_cases hz:ts=[]
     · rw [if_pos hz] at hc;cases hc
     · rw [if_neg hz] at hc;rcases Sn.mp hc with rfl | hc
       · omega
       · rcases Sv.mp hc with hc | hc
         · exact vm h.2 c hc
         · rw [Sy.mp hc];omega
theorem vm:∀ {ts:List Th},Wrs ts->∀ c∈txs ts,40<=c/\c<=122
 | [],_,c,hc=>by rw [txs] at hc;cases hc
 | t::ts,h,c,hc=>by
   rw [Wrs] at h;rw [txs] at hc;rcases Sv.mp hc with hc | hc
   · exact vJ h.1 c hc
   · by_cases hz:ts=[]
     · rw [if_pos hz] at hc;cases hc
     · rw [if_neg hz] at hc;rcases Sn.mp hc with rfl | hc
       · omega
       · exact vm h.2 c hc
end
def Uw (w:Ss):Prop:=(w=lpar∨w=rpar∨w=comma∨w=dot)∨((∀ c∈sL w,47<=c/\c<=122)/\sL w≠[])
theorem ly {w:Ss} (h:Uw w):W4 (sL w)=[sL w]:=by
 rcases h with (rfl | rfl | rfl | rfl) | ⟨h1,h2⟩
 · decide +kernel
 · decide +kernel
 · decide +kernel
 · decide +kernel
 · have:=lD (w:=w) (fun c hc=>(h1 c hc).1) h2 [] (.inl rfl);rw [SM] at this;rw [xv,this];rfl
theorem lG {w:Ss} (h:Uw w):(∀ c∈sL w,40<=c/\c<=122)/\sL w≠[]:=by
 rcases h with (rfl | rfl | rfl | rfl) | ⟨h1,h2⟩
 · decide +kernel
 · decide +kernel
 · decide +kernel
 · decide +kernel
 · exact ⟨fun c hc=>by have:=h1 c hc;omega,h2⟩
theorem wR {w:Ss} (h:Uw w):wds (sL w)=[sL w]:=by
 obtain ⟨h1,h2⟩:=lG h;exact jk (fun c hc=>by have:=h1 c hc;omega) h2
theorem o6 {n:Ss} (h:aP n=true):Uw n:=by
 obtain ⟨h1,h2⟩:=fh h;exact .inr ⟨fun c hc=>by have:=h1 c hc;omega,h2⟩
theorem oF {n:Int} (h:0<=n/\n<1000):Uw (aS n):=by
 obtain ⟨h1,h2⟩:=eB h;exact .inr ⟨fun c hc=>by have:=h1 c hc;omega,h2⟩
mutual
theorem sU:∀ {t:Th},t.Wr->∀ w∈t.wP,Uw w
 | .call s k,h,w,hw=>by
   rw [Th.Wr] at h;have hw:w∈[aS s,dot,aS k]:=by rw [Th.wP,Th.stP] at hw;exact hw
   rcases Sn.mp hw with rfl | hw
   · exact oF h.1
   rcases Sn.mp hw with rfl | hw
   · exact .inl (.inr (.inr (.inr rfl)))
   · rw [Sy.mp hw];exact oF h.2
 | .knot n ts,h,w,hw=>by
   rw [Th.Wr] at h;rw [Th.wP,Th.stP] at hw;rw [Sl,SJ] at hw;rcases Sv.mp hw with hw | hw
   · rw [Sy.mp hw];exact o6 h.1
   · by_cases hz:ts=[]
     · rw [if_pos hz] at hw;cases hw
     · rw [if_neg hz,Sl,SJ,Sq,TQ] at hw;rcases Sv.mp hw with hw | hw
       · rw [Sy.mp hw];exact .inl (.inl rfl)
       · rcases Sv.mp hw with hw | hw
         · exact vC h.2 w hw
         · have hw:w∈[rpar]:=hw;rw [Sy.mp hw];exact .inl (.inr (.inl rfl))
theorem vC:∀ {ts:List Th},Wrs ts->∀ w∈((cw ts).map (·.1)).flatten,Uw w
 | [],_,w,hw=>by rw [cw] at hw;cases hw
 | t::ts,h,w,hw=>by
   rw [Wrs] at h;rw [cw,Sq,TQ] at hw;rcases Sv.mp hw with hw | hw
   · exact sU h.1 w hw
   · by_cases hz:ts=[]
     · rw [if_pos hz] at hw;cases hw
     · rw [if_neg hz,Sl,SJ] at hw;rcases Sv.mp hw with hw | hw
       · rw [Sy.mp hw];exact .inl (.inr (.inr (.inl rfl)))
       · exact vC h.2 w hw
end
def Lw (w:Ss):Prop:=∃ c l,sL w=c::l/\97<=c
def Adj:List Ss->Prop
 | []=>True
 | [_]=>True
 | x::y::r=>¬ (Lw x/\Lw y)/\Adj (y::r)
theorem Adj.sign:∀ {A B:List Ss} {s:Ss},Adj A->Adj B->¬ Lw s->Adj (A++s::B)
 | [],[],s,_,_,_=>trivial
 | [],y::B,s,_,hB,hs=>⟨fun z=>hs z.1,hB⟩
 | [x],[],s,_,_,hs=>⟨fun z=>hs z.2,trivial⟩
 | [x],y::B,s,_,hB,hs=>⟨fun z=>hs z.2,fun z=>hs z.1,hB⟩
 | x::y::A,B,s,hA,hB,hs=>⟨hA.1,Adj.sign (A:=y::A) hA.2 hB hs⟩
theorem Adj.mid:∀ {A B:List Ss} {x y:Ss},Adj (A++x::y::B)->¬ (Lw x/\Lw y)
 | [],B,x,y,h=>h.1
 | [a],B,x,y,h=>h.2.1
 | a::b::A,B,x,y,h=>Adj.mid (A:=b::A) h.2
theorem qd {w:Ss} {c:Nat} {l:List Nat} (h:sL w=c::l) (hc:c<97):¬ Lw w:=fun ⟨d,m,e,hd⟩=>by
 rw [h] at e;have:=(SH e).1;omega
theorem iQ:¬ Lw lpar/\¬ Lw rpar/\¬ Lw comma/\¬ Lw dot:=⟨qd nY (by decide),qd oU (by decide),qd lM (by decide),qd rM (by decide)⟩
theorem yj {n:Int} (h:0<=n/\n<1000):¬ Lw (aS n):=by
 obtain ⟨h1,h2⟩:=eB h;cases e:sL (aS n) with
 | nil=>exact absurd e h2
 | cons c l =>
   have:=h1 c (by rw [e];exact Sr ..);exact qd e (by omega)
mutual
theorem rF:∀ {t:Th},t.Wr->Adj t.wP
 | .call s k,h=>by
   rw [Th.Wr] at h;show Adj [aS s,dot,aS k];exact ⟨fun z=>yj h.1 z.1,fun z=>iQ.2.2.2 z.1,trivial⟩
 | .knot n ts,h=>by
   rw [Th.Wr] at h;rw [Th.wP,Th.stP,Sl,SJ];by_cases hz:ts=[]
   · rw [if_pos hz];trivial
   · rw [if_neg hz,Sl,SJ,Sq,TQ];have h2:Adj (((cw ts).map (·.1)).flatten++rpar::[]):=Adj.sign (sN h.2) trivial iQ.2.1;exact Adj.sign (A:=[n]) (s:=lpar) trivial h2 iQ.1
theorem sN:∀ {ts:List Th},Wrs ts->Adj ((cw ts).map (·.1)).flatten
 | [],_=>by rw [cw];trivial
 | t::ts,h=>by
   rw [Wrs] at h;rw [cw,Sq,TQ];by_cases hz:ts=[]
   · rw [if_pos hz];show Adj (t.wP++[]);rw [SM];exact rF h.1
   · rw [if_neg hz,Sl,SJ];exact Adj.sign (A:=t.wP) (s:=comma) (rF h.1) (sN h.2) iQ.2.2.1
end
mutual
theorem xH:∀ {t:Th},(∀ x∈t.stP.map (·.2),SOk x)->t.Wr
 | .call s k,h=>by
   rw [Th.stP] at h;rw [Th.Wr];exact h (.th (.call s k)) (Sr ..)
 | .knot n ts,h=>by
   rw [Th.stP,Sl] at h;rw [Th.Wr];refine ⟨(h _ (Sr ..)).2,?_⟩;by_cases hz:ts=[]
   · rw [hz,Wrs];trivial
   · rw [if_neg hz,Sl,Sq] at h;exact uP fun x hx=>h x (Sk _ (Sk _ (T7 _ hx)))
theorem uP:∀ {ts:List Th},(∀ x∈(cw ts).map (·.2),SOk x)->Wrs ts
 | [],_=>by rw [Wrs];trivial
 | t::ts,h=>by
   rw [cw,Sq] at h;rw [Wrs];refine ⟨xH fun x hx=>h x (T7 _ hx),?_⟩;by_cases hz:ts=[]
   · rw [hz,Wrs];trivial
   · rw [if_neg hz,Sl] at h;exact uP fun x hx=>h x (SU _ (Sk _ hx))
end
mutual
theorem xO:∀ {t:Th},t.Wr->∀ x∈t.stP.map (·.2),SOk x
 | .call s k,h,x,hx=>by
   rw [Th.Wr] at h;rw [Th.stP] at hx;rw [Sy.mp hx];exact h
 | .knot n ts,h,x,hx=>by
   rw [Th.Wr] at h;rw [Th.stP,Sl] at hx;rcases Sn.mp hx with rfl | hx
   · exact ⟨rfl,h.1⟩
   · by_cases hz:ts=[]
     · rw [if_pos hz] at hx;cases hx
     · rw [if_neg hz,Sl,Sq] at hx;rcases Sn.mp hx with rfl | hx
       · exact .inl rfl
       · rcases Sv.mp hx with hx | hx
         · exact uu h.2 x hx
         · rw [Sy.mp hx];exact .inr (.inr rfl)
theorem uu:∀ {ts:List Th},Wrs ts->∀ x∈(cw ts).map (·.2),SOk x
 | [],_,x,hx=>by rw [cw] at hx;cases hx
 | t::ts,h,x,hx=>by
   rw [Wrs] at h;rw [cw,Sq] at hx;rcases Sv.mp hx with hx | hx
   · exact xO h.1 x hx
   · by_cases hz:ts=[]
     · rw [if_pos hz] at hx;cases hx
     · rw [if_neg hz,Sl] at hx;rcases Sn.mp hx with rfl | hx
       · exact .inr (.inl rfl)
       · exact uu h.2 x hx
end
def dJ {α:Type} (f:Int->Ss->Th->α) (ins:List (Ss×Int)) (rows:List (List Th)):List α:=(rows.zipIdx.map fun z=>(ins.zip z.1).map fun y=>f (z.2:Nat) y.1.1 y.2).flatten
theorem nT {α:Type} {n:Nat}:∀ {L:List (List α)} {s j:Nat} {l:List α} {x:α},(∀ l∈L,l.length=n)->L[s]?=some l->l[j]?=some x->L.flatten[s * n+j]?=some x
 | [],s,j,l,x,_,h,_=>by cases h
 | m::L,0,j,l,x,hn,h,hx=>by
   cases h;rw [Nat.zero_mul,VF,SJ,Vf (Sj.mp hx).1];exact hx
 | m::L,s+1,j,l,x,hn,h,hx=>by
   have hm:=hn m (Sr ..);rw [SJ,UO (by rw [hm,U7];omega),hm,show (s+1) * n+j - n=s * n+j by rw [U7];omega];exact nT (fun l hl=>hn l (Sk _ hl)) h hx
theorem nL {α:Type} {n:Nat}:∀ {L:List (List α)},(∀ l∈L,l.length=n)->L.flatten.length=L.length * n
 | [],_=>by rw [UB,Nat.zero_mul];rfl
 | m::L,hn=>by
   rw [SJ,Sm,hn m (Sr ..),nL fun l hl=>hn l (Sk _ hl),R7,U7];omega
section
variable {α β:Type} {f:Int->Ss->Th->α} {ins:List (Ss×Int)} {rows:List (List Th)}
theorem mx (h:∀ row∈rows,row.length=ins.length):∀ l∈(rows.zipIdx.map fun z=>(ins.zip z.1).map fun y=>f (z.2:Nat) y.1.1 y.2),l.length=ins.length:=fun l hl=>by
 obtain ⟨z,hz,rfl⟩:=TC.mp hl
 have hm:z.1∈rows:=by
  obtain ⟨a,b⟩:=z;exact (List.mem_zipIdx' hz).2 ▸ List.getElem_mem _
 rw [R5,Xk,h z.1 hm,Nat.min_self]
theorem dS (h:∀ row∈rows,row.length=ins.length):(dJ f ins rows).length=rows.length * ins.length:=by
 unfold dJ;rw [nL (mx h),R5,List.length_zipIdx]
theorem gM (h:∀ row∈rows,row.length=ins.length) {s j:Nat} {row:List Th} {t:Th} {k:Ss×Int} (hr:rows[s]?=some row) (ht:row[j]?=some t) (hk:ins[j]?=some k):(dJ f ins rows)[s * ins.length+j]?=some (f (s:Nat) k.1 t):=by
 unfold dJ;refine nT (l:=(ins.zip row).map fun y=>f (s:Nat) y.1.1 y.2) (mx h) ?_ ?_
 · rw [So,List.getElem?_zipIdx,hr];simp
 · rw [So,VU.mpr (show ins[j]?=some (k,t).1/\row[j]?=some (k,t).2 from ⟨hk,ht⟩)];rfl
theorem l9 (h:∀ row∈rows,row.length=ins.length) (hn:0<ins.length) {i:Nat} {x:α} (hx:(dJ f ins rows)[i]?=some x):∃ row t k,rows[i / ins.length]?=some row/\row[i%ins.length]?=some t/\ins[i%ins.length]?=some k/\x=f ((i / ins.length:Nat):Int) k.1 t:=by
 have Bo:=(Sj.mp hx).1;rw [dS h] at Bo;have hs:i / ins.length<rows.length:=Xy (by rw [VG];exact Bo);have hj:i%ins.length<ins.length:=Nat.mod_lt _ hn;obtain ⟨row,Ac⟩:∃ row,rows[i / ins.length]?=some row:=⟨_,R6 hs⟩;have BC:=h row (Sd Ac);obtain ⟨t,ht⟩:∃ t,row[i%ins.length]?=some t:=⟨_,R6 (by omega)⟩;obtain ⟨k,hk⟩:∃ k,ins[i%ins.length]?=some k:=⟨_,R6 hj⟩;refine ⟨row,t,k,Ac,ht,hk,?_⟩;have hg:=gM (f:=f) h Ac ht hk;rw [VG,Xj,hx] at hg;exact Su hg
end
end BB
namespace LAW
open PySem L2 BB
def top (i:Nat):Uo:=PySem.Challenge.pw_boughbook_k33_whole_no_other_book.main.body.getD i (.Pass ⟨0,0,0,0⟩)
theorem scm {N P:List Ss} {sc:Vu} (a:sc.kind=.function:=by rfl) (b:sc.isCoroutine=false:=by rfl) (c:sc.isGenerator=false:=by rfl) (d:N.Nodup:=by decide +kernel) (e:N.take P.length=P:=by rfl) (f:∀ x∈P,sc.names.lookup x=some .local∨sc.names.lookup x=some .cell:=by decide +kernel) (g:∀ y∈sc.names,y.2≠.free:=by decide +kernel):az N P sc:=⟨a,b,c,d,e,f,g⟩
abbrev gd:Uo:=top 10
theorem o7:az ["thing"] ["thing"] (ak gd):=scm
abbrev iy:Uo:=top 11
theorem pB:az ["number","bound"] ["number","bound"] (ak iy):=scm
abbrev jB:Uo:=top 12
theorem qY:az ["thing"] ["thing"] (ak jB):=scm
abbrev jQ:Uo:=top 13
theorem se:az ["pair"] ["pair"] (ak jQ):=scm
abbrev gy:Uo:=top 14
theorem jq:az ["kinds","names"] ["kinds"] (ak gy):=scm
abbrev iG:Uo:=top 15
theorem km:az ["pairs","kinds"] ["pairs"] (ak iG):=scm
abbrev jz:Uo:=top 16
theorem iK:az ["kinds","name","kind","many"] ["kinds","name"] (ak jz):=scm
abbrev jF:Uo:=top 17
theorem rq:az ["thing"] ["thing"] (ak jF):=scm
abbrev lT:Uo:=top 18
theorem gN:az ["thing","met","ahead","part"] ["thing"] (ak lT):=scm
abbrev oz:Uo:=top 19
theorem iP:az ["tops","done","top","many"] ["tops"] (ak oz):=scm
abbrev jV:Uo:=top 21
theorem si:az ["thing"] ["thing"] (ak jV):=scm
abbrev ef:Uo:=top 22
theorem fM:az ["kinds","pattern","states","kids","part"] ["kinds","pattern","states","kids"] (ak ef):=scm
abbrev b7:Uo:=inClass (top 28) 0
theorem kH:az ["self"] ["self"] (ak b7):=scm
abbrev bR:Uo:=inClass (top 28) 1
theorem jU:az ["self","part","row"] ["self","part","row"] (ak bR):=scm
abbrev iw:Uo:=top 29
theorem dA:az ["pattern","measure","ahead","part","row"] ["pattern"] (ak iw):=scm
abbrev dE:Uo:=top 30
theorem jH:az ["outs","pattern","states","kids"] ["outs","pattern","states","kids"] (ak dE):=scm
abbrev eS:Uo:=top 31
theorem dX:az ["ins","outs","patterns","states","kind","pattern"] ["ins","outs","patterns","states"] (ak eS):=scm
abbrev f6:Uo:=top 32
theorem cV:az ["ins","outs","head","rules","taken","given","rows","patterns"] ["ins","outs","head","rules"] (ak f6):=scm
abbrev il:Uo:=top 34
theorem gq:az ["text","spread","sign"] ["text"] (ak il):=scm
abbrev eP:Uo:=top 38
theorem gp:az ["word","figures"] ["word"] (ak eP):=scm
abbrev gg:Uo:=top 39
theorem pj:az ["words"] ["words"] (ak gg):=scm
abbrev iJ:Uo:=top 40
theorem cP:az ["words","steps","at"] ["words"] (ak iJ):=scm
abbrev j2:Uo:=top 41
theorem mF:az ["before","step","depth","ended"] ["before","step","depth"] (ak j2):=scm
abbrev jS:Uo:=top 42
theorem di:az ["steps","tops","within","before","step"] ["steps"] (ak jS):=scm
abbrev dW:Uo:=top 43
theorem fL:az ["words","text"] ["words"] (ak dW):=scm
abbrev fU:Uo:=top 44
theorem dO:az ["word","name","slash","many"] ["word"] (ak fU):=scm
abbrev fF:Uo:=top 45
theorem nv:az ["first","words"] ["first","words"] (ak fF):=scm
abbrev gj:Uo:=top 46
theorem n9:az ["words"] ["words"] (ak gj):=scm
abbrev fS:Uo:=top 47
theorem oR:az ["state","name","words"] ["state","name","words"] (ak fS):=scm
abbrev fm:Uo:=top 48
theorem ci:az ["ins","rows","rules","number","words","state","at"] ["ins","rows"] (ak fm):=scm
abbrev iB:Uo:=top 49
theorem qx:az ["row"] ["row"] (ak iB):=scm
abbrev f7:Uo:=top 50
theorem cS:az ["text","rows","ins","outs","head"] ["text"] (ak f7):=scm
abbrev d9:Uo:=top 52
theorem kR:az ["script","k"] ["script","k"] (ak d9):=scm
abbrev gB:Uo:=top 53
theorem bu:az ["base","n","letters","word","rest","k","size","at","step"] ["base","n"] (ak gB):=scm
abbrev fu:Uo:=top 54
theorem bI:az ["cell","mixed","many","rest","kinds","k","at"] ["cell"] (ak fu):=scm
abbrev eT:Uo:=top 55
theorem d6:az ["script","many","cells","k"] ["script","many"] (ak eT):=scm
abbrev d8:Uo:=top 56
theorem bC:az ["cell","outs","states","kids","deep","pair","parts","k","part"] ["cell","outs","states","kids","deep"] (ak d8):=scm
abbrev eO:Uo:=top 57
theorem bx:az ["own","outs","states","kids","deep","calls","pick","pair","parts","k"] ["own","outs","states","kids","deep"] (ak eO):=scm
abbrev gu:Uo:=top 58
theorem aO:az ["script","most","deep","ins","outs","states","cells","digits","rules","state","row","k","cell","head"] ["script","most","deep"] (ak gu):=scm
abbrev fE:Uo:=top 59
theorem mZ:az ["pattern"] ["pattern"] (ak fE):=scm
abbrev fT:Uo:=top 60
theorem bS:az ["book","rows","at","pair","state","k","name","text"] ["book"] (ak fT):=scm
abbrev ft:Uo:=top 61
theorem gX:az ["row","wide","sign"] ["row","wide"] (ak ft):=scm
abbrev d3:Uo:=top 62
theorem aR:az ["rows","cell","at","words","k","some","odd"] ["rows","cell"] (ak d3):=scm
abbrev fB:Uo:=top 63
theorem m4:az ["pattern","outs","states","kids"] ["pattern","outs","states","kids"] (ak fB):=scm
abbrev dZ:Uo:=top 64
theorem dC:az ["book","row","k"] ["book"] (ak dZ):=scm
abbrev gx:Uo:=top 65
theorem dM:az ["text","found"] ["text"] (ak gx):=scm
abbrev iX:Uo:=top 66
theorem gz:az ["script","rows","words","k","cell","spoiled","found","told"] ["script"] (ak iX):=scm
structure FX (K:R8) (mg:Ss->Option Sb) (n:Ss) (s:Uo) (ps:List Ss) where
 f:Sa
 d:Vs
 F:Fun K n n s f d
 b:Binds K d ps []
 m:mg n=some (.ref f)
section
open PySem.W
variable {K:Frag} {mg:Ss->Option Sb} {h:T2} {n:Ss} {st:Uo} {f:Sa} {oc kV dc pm cd ct:Sb} {od an:Option Sa} {sl:Array (Option Sb)} (X:K.In h) (G:h.Ns SW mg)
noncomputable def fx1 {p0:Ss} (a:nsIn K SW n=some (some (.ref f)):=by k_is) (l:K.lookup f=some ⟨oc,od,.func (fnOf n n (bL st) (bz st) (ak st) .none kV dc pm an cd ct),sl⟩:=by k_is) (c:codeIn K cd n=true:=by k_is) (k:keepIn K (.ref f)=true:=by k_is) (hb:∀ (kV dc pm:Sb) (an:Option Sa) (cd ct u0:Sb),X2 (fnOf n n (bL st) (bz st) (ak st) .none kV dc pm an cd ct) ⟨[u0],[]⟩=pure [(p0,u0)]:=by intros;rfl):FX K mg n st [p0] :=
 ⟨f,_,dj l c k,(dj l c k).binds fun a b c d e f us hl=>by obtain ⟨u0,rfl⟩:=us1 hl;exact hb a b c d e f u0,mg_of X G a⟩
noncomputable def fx2 {p0 p1:Ss} (a:nsIn K SW n=some (some (.ref f)):=by k_is) (l:K.lookup f=some ⟨oc,od,.func (fnOf n n (bL st) (bz st) (ak st) .none kV dc pm an cd ct),sl⟩:=by k_is) (c:codeIn K cd n=true:=by k_is) (k:keepIn K (.ref f)=true:=by k_is) (hb:∀ (kV dc pm:Sb) (an:Option Sa) (cd ct u0 u1:Sb),X2 (fnOf n n (bL st) (bz st) (ak st) .none kV dc pm an cd ct) ⟨[u0,u1],[]⟩=pure [(p0,u0),(p1,u1)]:=by intros;rfl):FX K mg n st [p0,p1] :=
 ⟨f,_,dj l c k,(dj l c k).binds fun a b c d e f us hl=>by obtain ⟨u0,u1,rfl⟩:=us2 hl;exact hb a b c d e f u0 u1,mg_of X G a⟩
noncomputable def fx3 {p0 p1 p2:Ss} (a:nsIn K SW n=some (some (.ref f)):=by k_is) (l:K.lookup f=some ⟨oc,od,.func (fnOf n n (bL st) (bz st) (ak st) .none kV dc pm an cd ct),sl⟩:=by k_is) (c:codeIn K cd n=true:=by k_is) (k:keepIn K (.ref f)=true:=by k_is) (hb:∀ (kV dc pm:Sb) (an:Option Sa) (cd ct u0 u1 u2:Sb),X2 (fnOf n n (bL st) (bz st) (ak st) .none kV dc pm an cd ct) ⟨[u0,u1,u2],[]⟩=pure [(p0,u0),(p1,u1),(p2,u2)]:=by intros;rfl):FX K mg n st [p0,p1,p2] :=
 ⟨f,_,dj l c k,(dj l c k).binds fun a b c d e f us hl=>by obtain ⟨u0,u1,u2,rfl⟩:=us3 hl;exact hb a b c d e f u0 u1 u2,mg_of X G a⟩
noncomputable def fx4 {p0 p1 p2 p3:Ss} (a:nsIn K SW n=some (some (.ref f)):=by k_is) (l:K.lookup f=some ⟨oc,od,.func (fnOf n n (bL st) (bz st) (ak st) .none kV dc pm an cd ct),sl⟩:=by k_is) (c:codeIn K cd n=true:=by k_is) (k:keepIn K (.ref f)=true:=by k_is) (hb:∀ (kV dc pm:Sb) (an:Option Sa) (cd ct u0 u1 u2 u3:Sb),X2 (fnOf n n (bL st) (bz st) (ak st) .none kV dc pm an cd ct) ⟨[u0,u1,u2,u3],[]⟩=pure [(p0,u0),(p1,u1),(p2,u2),(p3,u3)]:=by intros;rfl):FX K mg n st [p0,p1,p2,p3] :=
 ⟨f,_,dj l c k,(dj l c k).binds fun a b c d e f us hl=>by obtain ⟨u0,u1,u2,u3,rfl⟩:=us4 hl;exact hb a b c d e f u0 u1 u2 u3,mg_of X G a⟩
noncomputable def fx5 {p0 p1 p2 p3 p4:Ss} (a:nsIn K SW n=some (some (.ref f)):=by k_is) (l:K.lookup f=some ⟨oc,od,.func (fnOf n n (bL st) (bz st) (ak st) .none kV dc pm an cd ct),sl⟩:=by k_is) (c:codeIn K cd n=true:=by k_is) (k:keepIn K (.ref f)=true:=by k_is) (hb:∀ (kV dc pm:Sb) (an:Option Sa) (cd ct u0 u1 u2 u3 u4:Sb),X2 (fnOf n n (bL st) (bz st) (ak st) .none kV dc pm an cd ct) ⟨[u0,u1,u2,u3,u4],[]⟩=pure [(p0,u0),(p1,u1),(p2,u2),(p3,u3),(p4,u4)]:=by intros;rfl):FX K mg n st [p0,p1,p2,p3,p4] :=
 ⟨f,_,dj l c k,(dj l c k).binds fun a b c d e f us hl=>by obtain ⟨u0,u1,u2,u3,u4,rfl⟩:=us5 hl;exact hb a b c d e f u0 u1 u2 u3 u4,mg_of X G a⟩
end
theorem pcF {X:Cx} {kk k:Nat} {sp:Sp} {n:Ss} {st:Uo} {ps:List Ss} {e:TV} {es:List TV} {t:TA} {p pos:Wq} (g:FX X.K X.mg n st ps) (F:bj X.prog X.w X.K X.mg X.base CX0 k g.f g.d ps sp) (hr:Room kk X.A) (ha:PA X (e::es) t) (hle:k<=kk:=by first | decide | omega) (hg:Gl X n:=by rfl) (DB:(n == ("__debug__":Ss))=false:=by decide) (he:Tz (e::es) X.env=(false,U4 e X.env)::Tz es X.env:=by rfl) (Bj:(Wz pos (Tz es X.env)).any (·.1)=false:=by rfl):PE X (.Call (.Name n p) (e::es) [] pos) (hV sp [] E0 t) :=
 aW F (hr.mono hle) hg g.m g.F.kp g.b .nil md ha DB he Bj
structure TX (K:R8) (mg:Ss->Option Sb) where
 c_CALL_SIGN:∃ tk,mg "CALL_SIGN"=some (.str (R4 "?") tk)
 c_MOST_LETTERS:∃ tk,mg "MOST_LETTERS"=some (.int (8) tk)
 c_MOST_KINDS:∃ tk,mg "MOST_KINDS"=some (.int (8) tk)
 c_MOST_KIDS:∃ tk,mg "MOST_KIDS"=some (.int (3) tk)
 c_MOST_STATES:∃ tk,mg "MOST_STATES"=some (.int (20) tk)
 c_MOST_ROWS:∃ tk,mg "MOST_ROWS"=some (.int (20) tk)
 c_MOST_KNOTS:∃ tk,mg "MOST_KNOTS"=some (.int (400) tk)
 c_MOST_CALLS:∃ tk,mg "MOST_CALLS"=some (.int (200) tk)
 c_MOST_FIGURES:∃ tk,mg "MOST_FIGURES"=some (.int (3) tk)
 c_MOST_BRACKETS:∃ tk,mg "MOST_BRACKETS"=some (.int (100) tk)
 e_BookError:Sa
 x_BookError:mg "BookError"=some (.ref e_BookError)
 e_NoKinds:Sa
 x_NoKinds:mg "NoKinds"=some (.ref e_NoKinds)
 e_NoBook:Sa
 x_NoBook:mg "NoBook"=some (.ref e_NoBook)
 e_NoText:Sa
 x_NoText:mg "NoText"=some (.ref e_NoText)
 xe_NoKinds:Wu K e_NoKinds [.type "ValueError",.type "Exception",.type "BaseException",.type "object"] "ValueError.__new__"=true
 xg_NoKinds:S5 K (.ref e_NoKinds) "__getattribute__"=some (some (.builtin "BaseException.__getattribute__"))
 xh_NoKinds:S5 K (.ref e_NoKinds) "__getattr__"=some none
 xc_NoKinds:S5 K (.ref e_NoKinds) "__class__"=some (some (.builtin "object.__class__"))
 xo_NoKinds:Uu K e_NoKinds (.type "object")=some true
 xb_NoKinds:Uu K e_NoKinds (.type "BaseException")=some true
 hit_NoKinds_BookError:Wa K (.ref e_NoKinds) (.ref e_BookError)=some true
 xe_NoBook:Wu K e_NoBook [.type "ValueError",.type "Exception",.type "BaseException",.type "object"] "ValueError.__new__"=true
 xg_NoBook:S5 K (.ref e_NoBook) "__getattribute__"=some (some (.builtin "BaseException.__getattribute__"))
 xh_NoBook:S5 K (.ref e_NoBook) "__getattr__"=some none
 xc_NoBook:S5 K (.ref e_NoBook) "__class__"=some (some (.builtin "object.__class__"))
 xo_NoBook:Uu K e_NoBook (.type "object")=some true
 xb_NoBook:Uu K e_NoBook (.type "BaseException")=some true
 hit_NoBook_BookError:Wa K (.ref e_NoBook) (.ref e_BookError)=some true
 xe_NoText:Wu K e_NoText [.type "ValueError",.type "Exception",.type "BaseException",.type "object"] "ValueError.__new__"=true
 xg_NoText:S5 K (.ref e_NoText) "__getattribute__"=some (some (.builtin "BaseException.__getattribute__"))
 xh_NoText:S5 K (.ref e_NoText) "__getattr__"=some none
 xc_NoText:S5 K (.ref e_NoText) "__class__"=some (some (.builtin "object.__class__"))
 xo_NoText:Uu K e_NoText (.type "object")=some true
 xb_NoText:Uu K e_NoText (.type "BaseException")=some true
 hit_NoText_BookError:Wa K (.ref e_NoText) (.ref e_BookError)=some true
 g_is_number:FX K mg "is_number" gd ["thing"]
 g_is_below:FX K mg "is_below" iy ["number","bound"]
 g_is_name:FX K mg "is_name" jB ["thing"]
 g_is_kind:FX K mg "is_kind" jQ ["pair"]
 g_are_kinds:FX K mg "are_kinds" gy ["kinds"]
 g_kinds_of:FX K mg "kinds_of" iG ["pairs"]
 g_many_of:FX K mg "many_of" jz ["kinds","name"]
 g_kids_of:FX K mg "kids_of" jF ["thing"]
 g_walked:FX K mg "walked" lT ["thing"]
 g_built:FX K mg "built" oz ["tops"]
 g_is_call:FX K mg "is_call" jV ["thing"]
 g_fits_pattern:FX K mg "fits_pattern" ef ["kinds","pattern","states","kids"]
 f_Measure_init:Sa
 d_Measure_init:Vs
 F_Measure_init:Fun K "__init__" "Measure.__init__" b7 f_Measure_init d_Measure_init
 b_Measure_init:Binds K d_Measure_init ["self"] []
 f_Measure_takes:Sa
 d_Measure_takes:Vs
 F_Measure_takes:Fun K "takes" "Measure.takes" bR f_Measure_takes d_Measure_takes
 b_Measure_takes:Binds K d_Measure_takes ["self","part","row"] []
 g_is_small:FX K mg "is_small" iw ["pattern"]
 g_check_pattern:FX K mg "check_pattern" dE ["outs","pattern","states","kids"]
 g_check_state:FX K mg "check_state" eS ["ins","outs","patterns","states"]
 g_made_book:FX K mg "made_book" f6 ["ins","outs","head","rules"]
 g_words_of:FX K mg "words_of" il ["text"]
 g_read_number:FX K mg "read_number" eP ["word"]
 g_read_call:FX K mg "read_call" gg ["words"]
 g_steps_of:FX K mg "steps_of" iJ ["words"]
 g_follows:FX K mg "follows" j2 ["before","step","depth"]
 g_tops_of:FX K mg "tops_of" jS ["steps"]
 g_read_pattern:FX K mg "read_pattern" dW ["words"]
 g_read_kind:FX K mg "read_kind" fU ["word"]
 g_read_kinds:FX K mg "read_kinds" fF ["first","words"]
 g_read_head:FX K mg "read_head" gj ["words"]
 g_read_rule:FX K mg "read_rule" fS ["state","name","words"]
 g_read_rules:FX K mg "read_rules" fm ["ins","rows"]
 g_words_in:FX K mg "words_in" iB ["row"]
 g_read_book:FX K mg "read_book" f7 ["text"]
 g__law_cell_at:FX K mg "_law_cell_at" d9 ["script","k"]
 g__law_name:FX K mg "_law_name" gB ["base","n"]
 g__law_kinds:FX K mg "_law_kinds" fu ["cell"]
 g__law_folded:FX K mg "_law_folded" eT ["script","many"]
 g__law_pattern:FX K mg "_law_pattern" d8 ["cell","outs","states","kids","deep"]
 g__law_digits:FX K mg "_law_digits" eO ["own","outs","states","kids","deep"]
 g__law_book:FX K mg "_law_book" gu ["script","most","deep"]
 g__law_shown:FX K mg "_law_shown" fE ["pattern"]
 g__law_rows:FX K mg "_law_rows" fT ["book"]
 g__law_words:FX K mg "_law_words" ft ["row","wide"]
 g__law_spoiled:FX K mg "_law_spoiled" d3 ["rows","cell"]
 g__law_sound:FX K mg "_law_sound" fB ["pattern","outs","states","kids"]
 g__law_is_book:FX K mg "_law_is_book" dZ ["book"]
 g__law_told:FX K mg "_law_told" gx ["text"]
 g_law:FX K mg "law" iX ["script"]
 e_Measure:Sa
 x_Measure:mg "Measure"=some (.ref e_Measure)
 cl_Measure:Cls K e_Measure
 mk_Measure:Mk K e_Measure f_Measure_init
 na_Measure_met_knots:NoAttr K e_Measure "met_knots"
 na_Measure_met_calls:NoAttr K e_Measure "met_calls"
 me_Measure_takes:Meth K e_Measure "takes" f_Measure_takes
 n_all:mg "all"=none
 n_bool:mg "bool"=none
 n_divmod:mg "divmod"=none
 n_enumerate:mg "enumerate"=none
 n_int:mg "int"=none
 n_isinstance:mg "isinstance"=none
 n_len:mg "len"=none
 n_range:mg "range"=none
 n_reversed:mg "reversed"=none
 n_set:mg "set"=none
 n_str:mg "str"=none
 n_tuple:mg "tuple"=none
 n_zip:mg "zip"=none
theorem TX.X_NoKinds {K:R8} {mg:Ss->Option Sb} (T:TX K mg):ui K T.e_NoKinds:=⟨T.xe_NoKinds,T.xg_NoKinds,T.xh_NoKinds,T.xc_NoKinds,T.xo_NoKinds,T.xb_NoKinds⟩
theorem TX.X_NoBook {K:R8} {mg:Ss->Option Sb} (T:TX K mg):ui K T.e_NoBook:=⟨T.xe_NoBook,T.xg_NoBook,T.xh_NoBook,T.xc_NoBook,T.xo_NoBook,T.xb_NoBook⟩
theorem TX.X_NoText {K:R8} {mg:Ss->Option Sb} (T:TX K mg):ui K T.e_NoText:=⟨T.xe_NoText,T.xg_NoText,T.xh_NoText,T.xc_NoText,T.xo_NoText,T.xb_NoText⟩
theorem aam:([R4 "kid",R4 "row"]:List Ss).Nodup:=by decide +kernel
theorem yV:([R4 "sign"]:List Ss).Nodup:=by decide +kernel
theorem wW:([R4 "pair"]:List Ss).Nodup:=by decide +kernel
theorem zM:([R4 "patterns"]:List Ss).Nodup:=by decide +kernel
theorem yD:([R4 "word"]:List Ss).Nodup:=by decide +kernel
theorem zP:([R4 "number",R4 "done"]:List Ss).Nodup:=by decide +kernel
theorem yM:([R4 "row"]:List Ss).Nodup:=by decide +kernel
theorem yJ:([R4 "one"]:List Ss).Nodup:=by decide +kernel
theorem zS:([R4 "part"]:List Ss).Nodup:=by decide +kernel
theorem aan:([R4 "part",R4 "outs",R4 "states",R4 "kids"]:List Ss).Nodup:=by decide +kernel
theorem zB:([R4 "k",R4 "rows"]:List Ss).Nodup:=by decide +kernel
theorem yY:([R4 "j",R4 "told"]:List Ss).Nodup:=by decide +kernel
section
variable {P:SX} {w:Tq} {K:R8} {mg:Ss->Option Sb} {base:T2} (T:TX K mg)
inductive j9 (vs:List V) (H:Hp) (Q:VK) (_E:XK):Prop
 | mk (a:Sa) (t:Th) (Au:vs=[.ref a]) (Av:At H t a) (AF:∀ (r:Sa) (as:List Sa) (H':Hp),L2.Same H H'->H' r=some (.tup (as.map V.ref))->Ats H' t.kids as->Q (.ref r) H'):j9  vs H Q _E
def qV:Sp:=j9
theorem mM:bj P w K mg base CX0 1 T.g_kids_of.f T.g_kids_of.d ["thing"] qV:=by
 refine T.g_kids_of.F.ok rq (fun vs H Q E h=>?_) (fun Aj A outer s H vs Q E hr h=>?_)
 · obtain ⟨a,t,rfl,_⟩:=h;rfl
 obtain ⟨a,t,rfl,hA,k⟩:=h
 refine ⟨_,(ad (aJ (av cz (au aD (pv 0) af (fun _ _=>rfl)) (cF (v:=.str (R4 "?")) rfl T.c_CALL_SIGN.choose_spec ⟨_,rfl⟩) (aw _)) (ag (ax (b8 ac))) aB)
  (ag (ax (aQ qS (pv 0) (aY af) bw)))),?_⟩
 try dsimp only [AM,Af]
 cases t with
 | knot n ks =>
   rw [At] at hA;refine hid fun ZZ kZ=>?_;obtain ⟨hn,as,h1,h2⟩:=hA;refine kZ ?_;refine ⟨_,rfl,a,_,0,.str n,rfl,rfl,SqT.of h1,at0,rfl,_,rfl,?_⟩;refine cg (fun c=>absurd (of_decide_eq_true c) (fun z=>hn (V.str.inj z))) (fun _=>?_);refine ⟨_,rfl,1,rfl,a,_,rfl,SqT.of h1,?_,fun r hr=>?_⟩
   · intro z;have:=z.1;simp [HT.sIx] at this
   · rw [fZ];exact k r as _ (ai hr _) ae (h2.mono (iu hr))
 | call sn kn =>
   rw [At] at hA;refine ⟨_,rfl,a,_,0,.str q,rfl,rfl,SqT.of hA,at0,rfl,_,rfl,?_⟩;refine cg (fun _=>?_) (fun c=>absurd (decide_eq_true rfl) c);refine ⟨by show 0<=SQ;decide,fun r hr=>?_⟩;exact k r [] _ (ai hr _) ae .nil
inductive mQ (vs:List V) (H:Hp) (Q:VK) (_E:XK):Prop
 | mk (a:Sa) (t:Th) (Au:vs=[.ref a]) (Av:At H t a) (AF:t.size<=100000) (AR:∀ (r:Sa) (as:List Sa) (H':Hp),L2.Same H H'->H r=none->H' r=some (.lst (as.map V.ref))->Ats H' t.walk as->Q (.ref r) H'):mQ  vs H Q _E
def tW:Sp:=mQ
theorem tS:bj P w K mg base CX0 2 T.g_walked.f T.g_walked.d ["thing"] tW:=by
 refine T.g_walked.F.ok gN (fun vs H Q E h=>?_) (fun Aj A outer s H vs Q E hr h=>?_)
 · obtain ⟨a,t,rfl,_⟩:=h;rfl
 obtain ⟨a,t,rfl,hA,Az,k⟩:=h
 refine ⟨_,(ad (ar (i:=1) gN.nd rfl (SG rfl) (bM ac))
  (ad (ar (i:=2) gN.nd rfl (SG rfl) (bM (aa (pv 0) ac)))
  (ad (lC Tt (aN (pv 2) (fun _=>rfl)) (ad (ar (i:=3) gN.nd rfl (SG rfl) (mC SS Wm Wk oO (pv 2)))
  (ad (bq (b9 SS Tb Ta aZ (pv 1) (aa (pv 3) ac)))
  (ag (bq (b9 SS PySem.F.slot_list_extend PySem.F.type_list_extend qR (pv 2) (aa (v9 xS (pcF T.g_kids_of (mM T) hr (aa (pv 3) ac))) ac)))))))
  (ag (ax (pv 1)))))),?_⟩
 try dsimp only [AM,Af]
 refine ⟨by show 0<=SQ;decide,fun mt Ez=>?_⟩;refine ⟨_,rfl,by show 1<=SQ;decide,fun ah ER=>?_⟩;have Jq:H ah=none:=(ai Ez _).free ER;have Ax:ah≠mt:=fun z=>by rw [z,ae] at ER;cases ER
 refine ⟨fun m σ H2=>Ex5 fun (ms as:List Sa) (Ms As:List Th) (p:Option V)=>An8 (σ=[some (.ref a),some (.ref mt),some (.ref ah),p]) (L2.Same H H2) (H2 mt=some (.lst (ms.map V.ref))) (H2 ah=some (.lst (as.map V.ref))) (Ats H2 Ms ms) (Ats H2 As as) (Ms++walks As.reverse=t.walk) (m=aE As),⟨_,[],[a],[],[t],none,rfl,?_,?_,?_,.nil,.cons (hA.mono ?_) .nil,?_,rfl⟩,?_⟩
 · exact aH (ai Ez _) Jq
 · rw [aq Ax.symm,ae];rfl
 · rw [ae];rfl
 · exact Same.kt (aH (ai Ez _) Jq)
 · simp [walks]
 rintro m σ H2 ⟨ms,as,Ms,As,p,rfl,sm,e1,e2,a1,a2,hw,rfl⟩
 have hlen:ms.length+aE As<=100000:=by
  have h1:=congrArg UZ hw;rw [Sm,jG,Th.walk_len,<- a1.length] at h1;have h2:=nO As;omega
 refine ⟨_,rfl,_,.inl ⟨_,SqL.of e2,rfl⟩,?_⟩;refine cg (fun c=>?_) (fun c=>?_)
 · -- a part is taken off
   refine ⟨fun f' H'=>∃ m',m'<aE As/\Ex5 fun (ms as:List Sa) (Ms As:List Th) (p:Option V)=>An8 (f'=[some (.ref a),some (.ref mt),some (.ref ah),p]) (L2.Same H H') (H' mt=some (.lst (ms.map V.ref))) (H' ah=some (.lst (as.map V.ref))) (Ats H' Ms ms) (Ats H' As as) (Ms++walks As.reverse=t.walk) (m'=aE As),fun f' H' h=>h,?_⟩;have B5:as≠[]:=by intro z;subst z;simp at c
   obtain ⟨CY,b,rfl⟩:∃ CY b,as=CY++[b]:=⟨as.dropLast,as.getLast B5,(U2 B5).symm⟩;obtain ⟨Us,x,rfl,a3,a4⟩:=a2.snoc_inv;have hs:aE (Us++[x])=aE Us+x.size:=by rw [bT,aE,aE];omega
   have Jr:=x.size_eq;rw [hs] at hlen;refine ⟨_,rfl,.inl ⟨rfl,_,SqL.of e2⟩,ah,_,.ref b,rfl,rfl,e2,by simp,?_⟩;have d1:((CY++[b]).map V.ref).dropLast=CY.map V.ref:=by simp
   rw [d1];refine ⟨_,rfl,.inl ⟨rfl,_,SqL.of (by rw [aq Ax.symm];exact e1)⟩,_,rfl,mt,_,.ref b,rfl,rfl,by rw [aq Ax.symm];exact e1,bi (by rw [R5];omega),?_⟩;have k1:KT H2 (upd (upd H2 ah (.lst (CY.map V.ref))) mt (.lst (ms.map V.ref++[.ref b]))):=(bD e2).trans (bD (xs:=ms.map V.ref) (by rw [aq Ax.symm];exact e1));refine ⟨_,rfl,.inl ⟨rfl,_,SqL.of (by rw [aq Ax,ae])⟩,_,rfl,b,x,rfl,a4.mono k1,fun r ks H3 s3 e3 a5=>?_⟩;refine ⟨r,_,rfl,SqT.of e3,fun l hl=>?_⟩;have l1:l≠ah:=fun z=>by rw [z,s3 ah _ (by rw [aq Ax,ae])] at hl;cases hl
   have l2:l≠mt:=fun z=>by rw [z,s3 mt _ ae] at hl;cases hl
   refine ⟨ah,l,_,_,rfl,rfl,by rw [aq l1.symm];exact s3 ah _ (by rw [aq Ax,ae]),SqT.of ae,We (bi ?_),?_⟩
   · have q1:=a3.length;have q2:=a5.length;have q3:=dk Us;have q4:=dk x.kids;rw [R5,Vx,R5];omega
   · have k2:KT H2 (upd (upd H3 l (.tup (ks.map V.ref).reverse)) ah (.lst (CY.map V.ref++(ks.map V.ref).reverse))) :=
      k1.trans ((Same.kt s3).trans ((iu hl).trans (bD (xs:=CY.map V.ref) (by rw [aq l1.symm];exact s3 ah _ (by rw [aq Ax,ae])))))
     have k3:KT H3 (upd (upd H3 l (.tup (ks.map V.ref).reverse)) ah (.lst (CY.map V.ref++(ks.map V.ref).reverse))) :=
      (iu hl).trans (bD (xs:=CY.map V.ref) (by rw [aq l1.symm];exact s3 ah _ (by rw [aq Ax,ae])))
     refine ⟨aE (Us++x.kids.reverse),?_,ms++[b],CY++ks.reverse,Ms++[x],Us++x.kids.reverse,some (.ref b),rfl,?_,?_,?_,?_,?_,?_,rfl⟩
     · rw [bT,nO,hs];omega
     · have s4:L2.Same H (upd (upd H2 ah (.lst (CY.map V.ref))) mt (.lst (ms.map V.ref++[.ref b]))):=aH (aH sm Jq) Ez;have nl:H l=none:=s4.free (s3.free hl);exact aH (aH (s4.trans s3) nl) Jq
     · rw [aq Ax.symm,aq l2.symm,s3 mt _ ae,Sq];rfl
     · rw [ae,Sq,List.map_reverse]
     · exact (a1.mono k2).append (.cons (a4.mono k2) .nil)
     · exact (a3.mono k2).append (a5.mono k3).reverse
     · rw [<- hw,SO,WD,WD,VO,iO];show Ms++([x]++(walks x.kids++walks Us.reverse))=Ms++walks (x::Us.reverse);rw [walks,x.walk_eq];rfl
 · have hz:as=[]:=by
    cases as with
    | nil=>rfl
    | cons y ys=>simp at c
   subst hz;have KS:As=[]:=S6.mp a2.length.symm;subst KS;refine ⟨_,rfl,k mt ms H2 sm Ez e1 ?_⟩;have Hv:Ms=t.walk:=by simpa [walks] using hw
   rw [<- Hv];exact a1
inductive kE (vs:List V) (H:Hp) (Q:VK) (_E:XK):Prop
 | mk (a:Sa) (t:Th) (Au:vs=[.ref a]) (Av:At H t a) (AF:Q (.bl t.isCall) H):kE  vs H Q _E
def rj:Sp:=kE
theorem iI:bj P w K mg base CX0 1 T.g_is_call.f T.g_is_call.d ["thing"] rj:=by
 refine T.g_is_call.F.ok si (fun vs H Q E h=>?_) (fun Aj A outer s H vs Q E hr h=>?_)
 · obtain ⟨a,t,rfl,_⟩:=h;rfl
 obtain ⟨a,t,rfl,hA,k⟩:=h;refine ⟨_,(ag (ax (cn cz (au aD (pv 0) af (fun _ _=>rfl)) (cF (v:=.str (R4 "?")) rfl T.c_CALL_SIGN.choose_spec ⟨_,rfl⟩) (aw _)))),?_⟩
 try dsimp only [AM,Af]
 cases t with
 | knot n ks =>
   rw [At] at hA;refine hid fun ZZ kZ=>?_;obtain ⟨hn,as,h1,h2⟩:=hA;refine kZ ?_;refine ⟨_,rfl,a,_,0,.str n,rfl,rfl,SqT.of h1,at0,rfl,?_⟩;have e:decide (V.str n=V.str (R4 "?"))=false:=decide_eq_false (fun z=>hn (V.str.inj z));rw [e];exact k
 | call sn kn =>
   rw [At] at hA;refine ⟨_,rfl,a,_,0,.str q,rfl,rfl,SqT.of hA,at0,rfl,?_⟩;have e:decide (V.str q=V.str (R4 "?"))=true:=decide_eq_true rfl;rw [e];exact k
def mf (k c:Int):List (Ss×V):=[("met_knots",.int k),("met_calls",.int c)]
theorem mkc:¬ (("met_knots":Ss)="met_calls"):=by decide +kernel
theorem aao:¬ (("met_calls":Ss)="met_knots"):=by decide +kernel
theorem wz:dv "met_knots" (.int 0) []=[(("met_knots":Ss),V.int 0)]:=rfl
theorem wn:dv "met_calls" (.int 0) [(("met_knots":Ss),V.int 0)]=mf 0 0:=by
 unfold mf;rw [dv,if_neg mkc,dv]
theorem wK (k c z:Int):dv "met_knots" (.int z) (mf k c)=mf z c:=by
 unfold mf;rw [dv,if_pos rfl]
theorem v5 (k c z:Int):dv "met_calls" (.int z) (mf k c)=mf k z:=by
 unfold mf;rw [dv,if_neg mkc,dv,if_pos rfl]
theorem zh (k c:Int):(mf k c).lookup ("met_knots":Ss)=some (V.int k):=by
 unfold mf;have hb:(("met_knots":Ss) == "met_knots")=true:=beq_iff_eq.mpr rfl;simp only [Vq,hb]
theorem zd (k c:Int):(mf k c).lookup ("met_calls":Ss)=some (V.int c):=by
 unfold mf;have hb:(("met_calls":Ss) == "met_calls")=true:=beq_iff_eq.mpr rfl;have hc:(("met_calls":Ss) == "met_knots")=false:=beq_eq_false_iff_ne.mpr aao;simp only [Vq,hb,hc]
theorem zp {m:Ss} (k c:Int) (h1:(m == ("met_knots":Ss))=false) (h2:(m == ("met_calls":Ss))=false):(mf k c).lookup m=none:=by
 unfold mf;simp only [Vq,h1,h2]
theorem uv (k c:Int):(mf k c).length<1000:=by show 2<1000;decide
inductive eU (C:Sa) (vs:List V) (H:Hp) (Q:VK) (_E:XK):Prop
 | mk (x dx:Sa) (Au:vs=[.ref x]) (Av:H x=some (.ins C dx [])) (AF:∀ H':Hp,(∀ b o,b≠x->H b=some o->H' b=some o)->H' x=some (.ins C dx (mf 0 0))->Q .non H'):eU C vs H Q _E
def kG (C:Sa):Sp:=eU C
theorem kK:bj P w K mg base CX0 1 T.f_Measure_init T.d_Measure_init ["self"] (kG T.e_Measure):=by
 refine T.F_Measure_init.ok kH (fun vs H Q E h=>?_) (fun Aj A outer s H vs Q E hr h=>?_)
 · obtain ⟨x,dx,rfl,_⟩:=h;rfl
 obtain ⟨x,dx,rfl,ex,q⟩:=h
 refine ⟨_,(ad (vp (pv 0) af rfl)
  (ag (vp (pv 0) af rfl))),?_⟩
 try dsimp only [AM,Af]
 refine ⟨_,rfl,x,T.e_Measure,dx,_,rfl,ex,T.cl_Measure,T.na_Measure_met_knots,(by show 0<1000;decide),?_⟩;refine ⟨_,rfl,x,T.e_Measure,dx,_,rfl,ae,T.cl_Measure,T.na_Measure_met_calls,(by show 1<1000;decide),?_⟩;refine q _ (fun b o hb e=>?_) ?_
 · rw [aq hb,aq hb];exact e
 · rw [ae,wz,wn]
inductive eJ (C:Sa) (vs:List V) (H:Hp) (Q:VK) (_E:XK):Prop
 | mk (x dx pa:Sa) (k c row:Int) (t:Th) (Au:vs=[.ref x,.ref pa,.int row]) (Av:H x=some (.ins C dx (mf k c))) (AF:At H t pa) (AR:∀ (k' c':Int) (H':Hp),k'=(if t.isCall=true then k else k+1)->c'=(if t.isCall=true then c+1 else c)->(∀ b o,b≠x->H b=some o->H' b=some o)->H' x=some (.ins C dx (mf k' c'))->Q (.bl (decide (row<=20/\k'<=400/\c'<=200))) H'):eJ C vs H Q _E
def j1 (C:Sa):Sp:=eJ C
theorem jI:bj P w K mg base CX0 2 T.f_Measure_takes T.d_Measure_takes ["self","part","row"] (j1 T.e_Measure):=by
 refine T.F_Measure_takes.ok jU (fun vs H Q E h=>?_) (fun Aj A outer s H vs Q E hr h=>?_)
 · obtain ⟨x,dx,pa,k,c,row,t,rfl,_⟩:=h;rfl
 obtain ⟨x,dx,pa,k,c,row,t,rfl,ex,hA,q⟩:=h
 refine ⟨_,(ad (aJ (aN (pcF T.g_is_call (iI T) hr (aa (pv 1) ac)) (fun _=>rfl)) (ag (nV (pv 0) af u9)) (ag (nV (pv 0) af u9)))
  (ag (ax (dI (cn fQ (pv 2) (cF (v:=.int (20)) rfl T.c_MOST_ROWS.choose_spec ⟨_,rfl⟩) (aw _)) (dI (cn fQ (uK (pv 0) rfl) (cF (v:=.int (400)) rfl T.c_MOST_KNOTS.choose_spec ⟨_,rfl⟩) (aw _)) (fC (cn fQ (uK (pv 0) rfl) (cF (v:=.int (200)) rfl T.c_MOST_CALLS.choose_spec ⟨_,rfl⟩) (aw _)))))))),?_⟩
 try dsimp only [AM,Af]
 refine bh (fun f' H'=>Ex2 fun (k' c':Int)=>An5 (k'=(if t.isCall=true then k else k+1)) (c'=(if t.isCall=true then c+1 else c)) ((∀ b o,b≠x->H b=some o->H' b=some o)) (H' x=some (.ins T.e_Measure dx (mf k' c'))) (f'=[some (.ref x),some (.ref pa),some (.int row)])) (fun kk hk=>?_) ?_
 · refine cB (fun b H'=>An2 (H=H') (b=t.isCall)) (fun k2 BU=>?_) (fun H' hb=>?_) (fun H' hb=>?_)
   · exact ⟨_,rfl,pa,t,rfl,hA,_,rfl,BU _ _ ⟨rfl,rfl⟩⟩
   · obtain ⟨rfl,hb⟩:=hb;refine ⟨_,rfl,x,T.e_Measure,dx,_,_,rfl,ex,T.cl_Measure,T.na_Measure_met_calls,zd k c,c,1,rfl,rfl,dx,_,ex,uv k c,?_⟩;exact hk _ _ ⟨k,c+1,by rw [if_pos hb.symm],by rw [if_pos hb.symm],fun b o hb e=>by rw [aq hb];exact e,by rw [ae,v5],rfl⟩
   · obtain ⟨rfl,hb⟩:=hb;have BA:¬ t.isCall=true:=fun z=>by rw [<- hb] at z;cases z
     refine ⟨_,rfl,x,T.e_Measure,dx,_,_,rfl,ex,T.cl_Measure,T.na_Measure_met_knots,zh k c,k,1,rfl,rfl,dx,_,ex,uv k c,?_⟩;exact hk _ _ ⟨k+1,c,by rw [if_neg BA],by rw [if_neg BA],fun b o hb e=>by rw [aq hb];exact e,by rw [ae,wK],rfl⟩
 rintro f' H' ⟨k',c',BY,BQ,hs,IY,rfl⟩;have q':=q k' c' H' BY BQ hs IY;clear q;refine ⟨_,rfl,_,_,rfl,rfl,?_⟩;refine ⟨_,rfl,?_⟩;by_cases c1:row<=20
 · rw [if_pos (decide_eq_true c1)];refine ⟨_,rfl,x,T.e_Measure,dx,_,_,rfl,IY,T.cl_Measure,T.na_Measure_met_knots,zh k' c',_,_,rfl,rfl,_,rfl,?_⟩;by_cases c2:k'<=400
   · rw [if_pos (decide_eq_true c2)];refine ⟨_,rfl,x,T.e_Measure,dx,_,_,rfl,IY,T.cl_Measure,T.na_Measure_met_calls,zd k' c',_,_,rfl,rfl,?_⟩;have e:decide (row<=20/\k'<=400/\c'<=200)=decide (c'<=200):=by simp [c1,c2]
     rw [e] at q';exact q'
   · rw [if_neg (fun z=>c2 (of_decide_eq_true z))];rw [decide_eq_false (fun z=>c2 z.2.1)] at q';exact q'
 · rw [if_neg (fun z=>c1 (of_decide_eq_true z))];rw [decide_eq_false (fun z=>c1 z.1)] at q';exact q'
mutual
/-- how many calls -/
def cnT:Th->Nat
 | .knot _ ks=>dG ks
 | .call _ _=>1
def dG:List Th->Nat
 | []=>0
 | t::ts=>cnT t+dG ts
end
def Small (t:Th):Prop:=t.tall<=20/\t.kn<=400/\cnT t<=200
instance (t:Th):Decidable (Small t):=inferInstanceAs (Decidable (_/\_/\_))
theorem yR (t:Th):t.kn=(if t.isCall=true then 0 else 1)+kns t.kids:=by
 cases t with
 | knot n ks=>rw [Th.kn,Th.isCall,Th.kids,if_neg Sz];omega
 | call s k=>rw [Th.kn,Th.isCall,Th.kids,if_pos rfl,kns]
theorem zr (t:Th):cnT t=(if t.isCall=true then 1 else 0)+dG t.kids:=by
 cases t with
 | knot n ks=>rw [cnT,Th.isCall,Th.kids,if_neg Sz];omega
 | call s k=>rw [cnT,Th.isCall,Th.kids,if_pos rfl,dG]
theorem lW (a b:List Th):kns (a++b)=kns a+kns b:=by
 induction a with
 | nil=>rw [Ts,kns];omega
 | cons x a ih=>rw [S9,kns,kns,ih];omega
theorem kx (a b:List Th):dG (a++b)=dG a+dG b:=by
 induction a with
 | nil=>rw [Ts,dG];omega
 | cons x a ih=>rw [S9,dG,dG,ih];omega
theorem uD {ts:List Th} (h:ts≠[]):∃ t∈ts,ba ts=t.tall:=by
 induction ts with
 | nil=>exact absurd rfl h
 | cons x ts ih =>
   rw [ba];by_cases hz:ts=[]
   · subst hz;exact ⟨x,Sr ..,by rw [ba];omega⟩
   · obtain ⟨t,ht,e⟩:=ih hz;by_cases hc:ba ts<=x.tall
     · exact ⟨x,Sr ..,by omega⟩
     · exact ⟨t,Sk _ ht,by omega⟩
def RwAt (H:Hp) (e:Th×Int) (p:Sa):Prop:=∃ ta,H p=some (.tup [.ref ta,.int e.2])/\At H e.1 ta
theorem RwAt.mono {H H':Hp} (k:KT H H') {e:Th×Int} {p:Sa} (h:RwAt H e p):RwAt H' e p:=by
 obtain ⟨ta,h1,h2⟩:=h;exact ⟨ta,k _ _ h1,h2.mono k⟩
inductive i0 (vs:List V) (H:Hp) (Q:VK) (_E:XK):Prop
 | mk (a:Sa) (t:Th) (Au:vs=[.ref a]) (Av:At H t a) (AF:t.size<=100000) (AR:∀ H',L2.Same H H'->Q (.bl (decide (Small t))) H'):i0  vs H Q _E
def qB:Sp:=i0
set_option maxHeartbeats 2000000 in
theorem qh:bj P w K mg base CX0 4 T.g_is_small.f T.g_is_small.d ["pattern"] qB:=by
 refine T.g_is_small.F.ok dA (fun vs H Q E h=>?_) (fun Aj A outer s H vs Q E hr h=>?_)
 · obtain ⟨a,t,rfl,_⟩:=h;rfl
 obtain ⟨a,t,rfl,hA,Az,q⟩:=h
 refine ⟨_,(ad (ar (i:=1) dA.nd rfl (SG rfl) (uL T.mk_Measure (kK T) (hr.mono (by first | decide | omega)) rfl T.x_Measure T.b_Measure_init .nil md))
  (ad (ar (i:=2) dA.nd rfl (SG rfl) (bM (aa (b8 (aa (pv 0) (aa af ac))) ac)))
  (ad (lC Tt (aN (pv 2) (fun _=>rfl)) (ad (fX (mC SS Wm Wk oO (pv 2)) (jO rfl (bK (ay (i:=3) dA.nd rfl (SG rfl)) (bK (ay (i:=4) dA.nd rfl (Or.inr rfl)) fq))))
  (ad (aJ (ck (aN (wS (pv 1) T.cl_Measure T.me_Measure_takes (jI T) (hr.mono (by first | decide | omega)) T.b_Measure_takes .nil md (aa (pv 3) (aa (pv 4) ac))) (fun _=>rfl))) (ag (ax dq)) aB)
  (ag (bq (b9 SS PySem.F.slot_list_extend PySem.F.type_list_extend uk (pv 2) (aa (cf (N:=[R4 "kid",R4 "row"]) (js:=[none,some 4]) (g:=(aC 0)) (tt:=bn) (te:=(zf (bZ (bN 0) (bZ (tOp (rI0 fun i j=>.int (i+j)) (bN 1) (tC (.int 1))) eN)))) rfl (cL rfl (by decide +kernel) (by decide +kernel) rfl rfl rfl) (dD (pcF T.g_kids_of (mM T) hr (aa (pv 3) ac))) (fun _ _ _ _ _ _=>(ay (i:=0) aam rfl (SG rfl))) (bA rfl) (fun _ _ _ _ _ _=>cb) (fun _ _ _ _ _ _=>(b8 (aa (pv 0) (aa (al bc (pv 1) af) ac))))) ac)))))))
  (ag (ax dq))))),?_⟩
 try dsimp only [AM,Af]
 intro mo dx Js Fq Ax;refine ⟨mo,dx,rfl,ae,fun H1 k1 M8=>⟨rfl,?_⟩⟩
 have s0:L2.Same H (upd (upd H dx (.own mo)) mo (.ins T.e_Measure dx [])):=fun b o e=>by
  rw [aq (aM e Js),aq (aM e Fq)];exact e
 have s1:L2.Same H H1:=fun b o e=>k1 b o (aM e Js) (s0 b o e);refine ⟨_,rfl,am (by show 2<=1000000;decide),fun p0 Pz=>?_⟩;dsimp only [aC];have s2:L2.Same H1 (upd H1 p0 (.tup [.ref a,.int 1])):=ai Pz _;have e2:(upd H1 p0 (.tup [.ref a,.int 1])) p0=some (.tup [.ref a,.int 1]):=ae;generalize (upd H1 p0 (.tup [.ref a,.int 1]))=H2 at s2 e2 ⊢;refine ⟨am (by show 1<=1000000;decide),fun ah ER=>?_⟩;have s3:L2.Same H2 (upd H2 ah (.lst [.ref p0])):=ai ER _;have e3:(upd H2 ah (.lst [.ref p0])) ah=some (.lst (([p0]:List Sa).map V.ref)):=ae;have Hw:H ah=none:=(s1.trans s2).free ER;have KU:mo≠ah:=fun z=>by rw [<- z,s2 _ _ M8] at ER;cases ER
 generalize (upd H2 ah (.lst [.ref p0]))=H3 at s3 e3 ⊢;have B6:=s2.trans s3;refine ⟨fun m σ H4=>Ex6 fun (ps:List Sa) (As:List (Th×Int)) (k c:Int) (pv rv:Option V)=>yB (σ=[some (.ref a),some (.ref mo),some (.ref ah),pv,rv]) (L2.Same H H4) (H4 ah=some (.lst (ps.map V.ref))) (To (RwAt H4) As ps) (H4 mo=some (.ins T.e_Measure dx (mf k c))) (k+(kns (As.map (·.1)):Int)=(t.kn:Int)) (c+(dG (As.map (·.1)):Int)=(cnT t:Int)) (k<=400) (c<=200) ((∀ e∈As,e.2+(e.1.tall:Int)<=(t.tall:Int)+1)) (((t.tall:Int)<=20∨∃ e∈As,(t.tall:Int)+1<=e.2+(e.1.tall:Int))) (aE (As.map (·.1))<=100000) (m=aE (As.map (·.1))),⟨_,[p0],[(t,1)],0,0,none,none,rfl,s1.trans B6,e3,.cons ⟨a,s3 _ _ e2,hA.mono (Same.kt (s1.trans B6))⟩ .nil,B6 _ _ M8,?_,?_,by decide,by decide,?_,?_,?_,rfl⟩,?_⟩
 · show (0:Int)+((kns [t]:Nat):Int)=_;rw [kns,kns];omega
 · show (0:Int)+((dG [t]:Nat):Int)=_;rw [dG,dG];omega
 · intro e he;rw [Sy.mp he];show (1:Int)+(t.tall:Int)<=_;omega
 · exact .inr ⟨(t,1),Sr ..,by show _<=(1:Int)+(t.tall:Int);omega⟩
 · show aE [t]<=100000;rw [aE,aE];omega
 rintro m σ H4 ⟨ps,As,k,c,pv,rv,rfl,s4,e4,M9,em,hk,hc,RI,DC,hle,M',Na,rfl⟩;refine ⟨_,rfl,_,.inl ⟨_,SqL.of e4,rfl⟩,?_⟩;refine cg (fun cc=>?_) (fun cc=>?_)
 · refine ⟨fun f' H'=>∃ m',m'<aE (As.map (·.1))/\Ex6 fun (ps:List Sa) (As:List (Th×Int)) (k c:Int) (pv rv:Option V)=>yB (f'=[some (.ref a),some (.ref mo),some (.ref ah),pv,rv]) (L2.Same H H') (H' ah=some (.lst (ps.map V.ref))) (To (RwAt H') As ps) (H' mo=some (.ins T.e_Measure dx (mf k c))) (k+(kns (As.map (·.1)):Int)=(t.kn:Int)) (c+(dG (As.map (·.1)):Int)=(cnT t:Int)) (k<=400) (c<=200) ((∀ e∈As,e.2+(e.1.tall:Int)<=(t.tall:Int)+1)) (((t.tall:Int)<=20∨∃ e∈As,(t.tall:Int)+1<=e.2+(e.1.tall:Int))) (aE (As.map (·.1))<=100000) (m'=aE (As.map (·.1))),fun f' H' h=>h,?_⟩;have B5:ps≠[]:=by intro z;subst z;simp at cc
   refine hid fun ZZ kZ=>?_;obtain ⟨CI,b,rfl⟩:∃ CI b,ps=CI++[b]:=⟨ps.dropLast,ps.getLast B5,(U2 B5).symm⟩;obtain ⟨Us,⟨x,r⟩,rfl,Nb,ta,eb,hx⟩:=P2.snoc_inv M9;refine kZ ?_;have Hz:(Us++[(x,r)]).map (·.1)=Us.map (·.1)++[x]:=by rw [Sq];rfl
   rw [Hz] at hk hc Na;rw [lW,kns,kns,yR] at hk;rw [kx,dG,dG,zr] at hc;rw [bT,aE,aE,x.size_eq] at Na;have PB:=hle (x,r) (SU _ (Sr ..));dsimp only at PB;have Jt:=x.tall_eq;refine ⟨_,rfl,.inl ⟨rfl,_,SqL.of e4⟩,ah,_,.ref b,rfl,rfl,e4,by simp,?_⟩;have d1:((CI++[b]).map V.ref).dropLast=CI.map V.ref:=by simp
   rw [d1];have k5:KT H4 (upd H4 ah (.lst (CI.map V.ref))):=bD e4;have s5:L2.Same H (upd H4 ah (.lst (CI.map V.ref))):=aH s4 Hw;have e5:(upd H4 ah (.lst (CI.map V.ref))) ah=some (.lst (CI.map V.ref)):=ae;have Ju:(upd H4 ah (.lst (CI.map V.ref))) mo=some (.ins T.e_Measure dx (mf k c)):=by rw [aq KU];exact em
   generalize (upd H4 ah (.lst (CI.map V.ref)))=H5 at k5 s5 e5 Ju ⊢;refine ⟨b,_,rfl,SqT.of (k5 _ _ eb),rfl,_,_,rfl,_,_,rfl,rfl,?_⟩;dsimp only [aC];refine bh (fun f' H6=>Ex2 fun (k' c':Int)=>An6 (k'=(if x.isCall=true then k else k+1)) (c'=(if x.isCall=true then c+1 else c)) ((∀ b o,b≠mo->H5 b=some o->H6 b=some o)) (H6 mo=some (.ins T.e_Measure dx (mf k' c'))) ((r<=20/\k'<=400/\c'<=200)) (f'=[some (.ref a),some (.ref mo),some (.ref ah),some (.ref ta),some (.int r)])) (fun kk Cr=>?_) ?_
   · refine cB (fun bb H6=>Ex2 fun (k' c':Int)=>An5 (k'=(if x.isCall=true then k else k+1)) (c'=(if x.isCall=true then c+1 else c)) ((∀ b o,b≠mo->H5 b=some o->H6 b=some o)) (H6 mo=some (.ins T.e_Measure dx (mf k' c'))) (bb=!decide (r<=20/\k'<=400/\c'<=200))) (fun k2 BU=>?_) (fun H6 hb=>?_) (fun H6 hb=>?_)
     · refine ⟨_,rfl,mo,dx,_,rfl,Ju,zp k c (by decide +kernel) (by decide +kernel),_,rfl,_,rfl,mo,dx,ta,k,c,r,x,rfl,Ju,hx.mono k5,fun k' c' H6 h1 h2 h3 h4=>?_⟩;exact ⟨_,rfl,BU _ _ ⟨k',c',h1,h2,h3,h4,rfl⟩⟩
     · refine hid fun ZZ kZ=>?_;obtain ⟨k',c',h1,h2,h3,h4,h5⟩:=hb;refine kZ ?_;have AJ:¬ (r<=20/\k'<=400/\c'<=200):=fun z=>by rw [decide_eq_true z] at h5;cases h5
       have Et:decide (Small t)=false:=decide_eq_false fun z=>AJ (by
        obtain ⟨z1,z2,z3⟩:=z;refine ⟨by omega,?_,?_⟩
        · rw [h1];split at hk <;> split <;> first | omega | contradiction
        · rw [h2];split at hc <;> split <;> first | omega | contradiction)
       have s6:L2.Same H H6:=fun b o e=>h3 b o (aM e Js) (s5 b o e);rw [Et] at q;exact q H6 s6
     · refine hid fun ZZ kZ=>?_;obtain ⟨k',c',h1,h2,h3,h4,h5⟩:=hb;refine kZ ?_
       have De:r<=20/\k'<=400/\c'<=200:=of_decide_eq_true (by
        cases hd:decide (r<=20/\k'<=400/\c'<=200) with
        | true=>rfl
        | false=>rw [hd] at h5;cases h5)
       exact Cr _ _ ⟨k',c',h1,h2,h3,h4,De,rfl⟩
   rintro f' H6 ⟨k',c',h1,h2,h3,h4,⟨PC,KW,KY⟩,rfl⟩;have k6:KT H5 H6:=fun b xs e=>h3 b _ (fun z=>by rw [z,Ju] at e;cases e) e;have s6:L2.Same H H6:=fun b o e=>h3 b o (aM e Js) (s5 b o e);have e6:H6 ah=some (.lst (CI.map V.ref)):=h3 _ _ KU.symm e5;have k46:=k5.trans k6;refine ⟨_,rfl,.inl ⟨rfl,_,SqL.of e6⟩,_,rfl,ta,x,rfl,hx.mono k46,fun ka Ap H7 s7 ek AY=>?_⟩;have A6:Ap.length=x.kids.length:=AY.length;have RJ:=dk x.kids;refine ⟨ka,rfl,⟨_,SqT.of ek⟩,lj (F:=RwAt) (xs:=Ap.map V.ref) (x.kids.map fun u=>(u,r+1)) (fun H1 H2 z p kt h=>h.mono kt) (by rw [R5,R5];omega) (by rw [R5];omega) (fun i Hx sx hi=>⟨_,_,SqT.of (sx _ _ ek),R6 hi⟩) (fun Hx sx=>⟨_,SqT.of (sx _ _ ek),Sg _⟩) (fun i Hx x Hy sx hi hy=>⟨hy.1,hy.2 _ (SqT.of (sx _ _ ek))⟩) (fun i y z Hx R W' hy HA sx hR=>?_) (fun D H8 bs hD s8 eD Dp=>?_)⟩
   · obtain ⟨ua,rfl,KZ⟩:=bH hy;obtain ⟨u,hu,K0⟩:=AY.get KZ;rw [So,hu] at HA;cases HA;refine ⟨_,rfl,_,rfl,_,_,rfl,rfl,am (by show 2<=1000000;decide),fun p1 Ds=>?_⟩;exact hR _ p1 (ai Ds _) ⟨ua,ae,K0.mono (Same.kt (sx.trans (ai Ds _)))⟩
   have RK:Us.length=CI.length:=SK Nb;have Cq:(x.kids.map fun u=>(u,r+1)).length=bs.length:=SK Dp;rw [R5] at Cq;have PD:=dk (Us.map (·.1));rw [R5] at PD;have Jv:=s7.trans s8;have e8:=Jv _ _ e6;refine ⟨ah,D,_,_,rfl,rfl,e8,eD,We (bi (by rw [R5,R5];omega)),?_⟩;have k9:KT H8 (upd H8 ah (.lst (CI.map V.ref++bs.map V.ref))):=bD e8;have s9:L2.Same H (upd H8 ah (.lst (CI.map V.ref++bs.map V.ref))):=aH (s6.trans Jv) Hw
   have hm2:(Us++x.kids.map fun u=>(u,r+1)).map (·.1)=Us.map (·.1)++x.kids:=by
    rw [Sq,T8];congr 1;exact List.map_id' _
   refine ⟨aE ((Us++x.kids.map fun u=>(u,r+1)).map (·.1)),?_,CI++bs,Us++(x.kids.map fun u=>(u,r+1)),k',c',_,_,rfl,s9,?_,?_,?_,?_,?_,KW,KY,?_,?_,?_,rfl⟩
   · rw [hm2,Hz,bT,bT,aE,aE,x.size_eq];omega
   · rw [ae,Sq]
   · exact P2.append (P2.mp (fun _ _ e=>e.mono ((k46.trans (Same.kt Jv)).trans k9)) Nb) (P2.mp (fun _ _ e=>e.mono k9) Dp)
   · rw [aq KU];exact Jv _ _ h4
   · rw [hm2,lW,h1];split at hk <;> split <;> first | omega | contradiction
   · rw [hm2,kx,h2];split at hc <;> split <;> first | omega | contradiction
   · intro e he;rcases Sv.mp he with he | he
     · exact hle e (T7 _ he)
     · obtain ⟨u,hu,rfl⟩:=TC.mp he;have:=i5 hu;dsimp only;omega
   · rcases M' with h | ⟨e,he,K1⟩
     · exact .inl h
     · rcases Sv.mp he with he | he
       · exact .inr ⟨e,T7 _ he,K1⟩
       · rw [Sy.mp he] at K1;dsimp only at K1;by_cases hz:x.kids=[]
         · rw [hz,ba] at Jt;exact .inl (by omega)
         · obtain ⟨u,hu,eu⟩:=uD hz;exact .inr ⟨(u,r+1),SU _ (TC.mpr ⟨u,hu,rfl⟩),by dsimp only;omega⟩
   · rw [hm2,bT];omega
 · have hz:ps=[]:=by
    cases ps with
    | nil=>rfl
    | cons y ys=>simp at cc
   subst hz;have KS:As=[]:=S6.mp (SK M9);subst KS;have BY:k+((kns []:Nat):Int)=(t.kn:Int):=hk;have BQ:c+((dG []:Nat):Int)=(cnT t:Int):=hc;rw [kns] at BY;rw [dG] at BQ
   have PF:(t.tall:Int)<=20:=by
    rcases M' with h | ⟨e,he,_⟩
    · exact h
    · cases he
   have K2:decide (Small t)=true:=decide_eq_true ⟨by omega,by omega,by omega⟩;rw [K2] at q;exact q H4 s4
inductive g9 (vs:List V) (H:Hp) (Q:VK) (_E:XK):Prop
 | mk (i:Int) (Au:vs=[.int i]) (Av:Q (.bl true) H):g9  vs H Q _E
def oB:Sp:=g9
theorem pc:bj P w K mg base CX0 1 T.g_is_number.f T.g_is_number.d ["thing"] oB:=by
 refine T.g_is_number.F.ok o7 (fun vs H Q E h=>?_) (fun Aj A outer s H vs Q E hr h=>?_)
 · obtain ⟨i,rfl,_⟩:=h;rfl
 obtain ⟨i,rfl,k⟩:=h;refine ⟨_,(ag (ax (dI (ao (cO (T:="int")) rfl T.n_isinstance T5 (aa (pv 0) (aa (eH (v:=.ty "int") rfl T.n_int PyProof.Rows.boot_int rfl) ac))) (fC (rW (ao (cO (T:="bool")) rfl T.n_isinstance T5 (aa (pv 0) (aa (eH (v:=.ty "bool") rfl T.n_bool PyProof.Rows.boot_bool rfl) ac)))))))),?_⟩
 try dsimp only [AM,Af]
 refine ⟨_,rfl,_,_,_,rfl,.int i,yw,_,rfl,?_⟩;refine bG ?_;exact ⟨_,rfl,_,_,_,rfl,.int i,x6,_,rfl,k⟩
inductive iV (vs:List V) (H:Hp) (Q:VK) (_E:XK):Prop
 | mk (i b:Int) (Au:vs=[.int i,.int b]) (Av:Q (.bl (decide (0<=i/\i<b))) H):iV  vs H Q _E
def pX:Sp:=iV
theorem gm:bj P w K mg base CX0 2 T.g_is_below.f T.g_is_below.d ["number","bound"] pX:=by
 refine T.g_is_below.F.ok pB (fun vs H Q E h=>?_) (fun Aj A outer s H vs Q E hr h=>?_)
 · obtain ⟨i,b,rfl,_⟩:=h;rfl
 obtain ⟨i,b,rfl,k⟩:=h;refine ⟨_,(ag (ax (dI (pcF T.g_is_number (pc T) hr (aa (pv 0) ac)) (fC (jh fQ eK af (pv 0) (pv 1)))))),?_⟩
 try dsimp only [AM,Af]
 refine ⟨_,rfl,i,rfl,_,rfl,?_⟩;refine bG ?_;refine ⟨_,rfl,_,_,rfl,rfl,_,rfl,?_⟩;refine cg (fun c=>?_) (fun c=>?_)
 · have c':0<=i:=of_decide_eq_true c;refine ⟨_,rfl,_,_,rfl,rfl,?_⟩;have e:decide (0<=i/\i<b)=decide (i<b):=by simp [c']
   rw [e] at k;exact k
 · have c':¬ 0<=i:=fun z=>c (decide_eq_true z);have e:decide (0<=i/\i<b)=false:=by simp [c']
   rw [e] at k;exact k
inductive kB (vs:List V) (H:Hp) (Q:VK) (_E:XK):Prop
 | mk (z:Ss) (Au:vs=[.str z]) (Av:z.length<=100000) (AF:∀ H',L2.Same H H'->Q (.bl (aP z)) H'):kB  vs H Q _E
def rZ:Sp:=kB
theorem iq:bj P w K mg base CX0 1 T.g_is_name.f T.g_is_name.d ["thing"] rZ:=by
 refine T.g_is_name.F.ok qY (fun vs H Q E h=>?_) (fun Aj A outer s H vs Q E hr h=>?_)
 · obtain ⟨z,rfl,_⟩:=h;rfl
 obtain ⟨z,rfl,hz,k⟩:=h
 refine ⟨_,(ad (aJ (PW.pt (eG (ck (aN (ao (cO (T:="str")) rfl T.n_isinstance T5 (aa (pv 0) (aa (eH (v:=.ty "str") rfl T.n_str VI rfl) ac))) (fun _=>rfl))) (eg (ck (jf fQ fQ af (ao dL rfl T.n_len Sw (aa (pv 0) ac)) (cF (v:=.int (8)) rfl T.c_MOST_LETTERS.choose_spec ⟨_,rfl⟩)))))) (ag (ax dq)) aB)
  (ag (ax (ao (mT rfl) rfl T.n_all Xq (aa (cf (N:=[R4 "sign"]) (js:=[none]) (g:=(aC 0)) (tt:=bn) (te:=(oo (v0) (v0) (tC (.str (R4 "a"))) (bN 0) (tC (.str (R4 "z"))))) rfl (cL rfl (by decide +kernel) (by decide +kernel) rfl rfl rfl) (vX (pv 0)) (fun _ _ _ _ _ _=>(ay (i:=0) yV rfl (SG rfl))) (bA rfl) (fun _ _ _ _ _ _=>cb) (fun _ _ _ _ _ _=>(jh gE gE aA (pv 0) aA))) ac))))),?_⟩
 try dsimp only [AM,Af]
 refine ⟨_,rfl,_,_,_,rfl,.str z,yx,_,rfl,?_⟩;refine bo ?_;refine ⟨_,rfl,_,rfl,am (by omega),_,_,rfl,rfl,_,rfl,?_⟩;refine cg (fun c1=>?_) (fun c1=>?_)
 · have DR:1<=(z.length:Int):=of_decide_eq_true c1;refine ⟨_,_,rfl,rfl,_,rfl,?_⟩;refine cg (fun c2=>?_) (fun c2=>?_)
   · have kk:=k H (.refl _)
     have e:aP z=false:=by
      unfold aP;rw [decide_eq_false (fun h=>?_)]
      · rfl
      · rw [decide_eq_true (show (z.length:Int)<=8 by omega)] at c2;cases c2
     rw [e] at kk;exact kk
   · have Fy:z.length<=8:=by
      by_cases h:z.length<=8
      · exact h
      · rw [decide_eq_false (show ¬ (z.length:Int)<=8 by omega)] at c2;exact absurd rfl c2
     have e:aP z=low z:=by
      unfold aP;rw [decide_eq_true (show 1<=z.length/\z.length<=8 from ⟨by omega,Fy⟩)];rfl
     rw [e] at k;refine ⟨_,rfl,z,rfl,qK (fun c=>decide (97<=c/\c<=122)) (by show z.length<=100000;exact hz) (fun c H1 Q' W' _ hQ=>?_) (fun D H' hD s1 e1=>?_)⟩
     · refine ⟨_,rfl,_,_,rfl,rfl,_,rfl,?_⟩;rw [show (R4 "a").cps.toList=[97] by decide +kernel];rw [oN 97 c];refine cg (fun d1=>?_) (fun d1=>?_)
       · have K3:97<=c:=of_decide_eq_true d1;refine ⟨_,_,rfl,rfl,?_⟩;rw [show (R4 "z").cps.toList=[122] by decide +kernel,oN c 122];have e2:decide (97<=c/\c<=122)=decide (c<=122):=by simp [K3]
         rw [e2] at hQ;exact hQ
       · have K3:¬ 97<=c:=fun z=>d1 (decide_eq_true z);have e2:decide (97<=c/\c<=122)=false:=decide_eq_false fun z=>K3 z.1;rw [e2] at hQ;exact hQ
     · refine ⟨D,_,rfl,SqL.of e1,?_⟩;rw [show ((z.cps.toList.map fun c=>decide (97<=c/\c<=122)).all id)=low z by unfold low;rw [List.all_map];rfl];exact k H' s1
 · have kk:=k H (.refl _)
   have e:aP z=false:=by
    unfold aP;rw [decide_eq_false (fun h=>c1 (decide_eq_true (by omega)))];rfl
   rw [e] at kk;refine ⟨_,rfl,bG ?_⟩;exact kk
def cG (k:Ss×Int):Bool:=aP k.1 && decide (0<=k.2/\k.2<4)
inductive j7 (vs:List V) (H:Hp) (Q:VK) (_E:XK):Prop
 | mk (a:Sa) (k:Ss×Int) (Au:vs=[.ref a]) (Av:H a=some (.tup [.str k.1,.int k.2])) (AF:k.1.length<=100000) (AR:∀ H',L2.Same H H'->Q (.bl (cG k)) H'):j7  vs H Q _E
def mK:Sp:=j7
theorem rm:bj P w K mg base CX0 3 T.g_is_kind.f T.g_is_kind.d ["pair"] mK:=by
 refine T.g_is_kind.F.ok se (fun vs H Q E h=>?_) (fun Aj A outer s H vs Q E hr h=>?_)
 · obtain ⟨a,z,rfl,_⟩:=h;rfl
 obtain ⟨a,⟨z,n⟩,rfl,ha,hz,k⟩:=h;refine ⟨_,(ag (ax (dI (cn cz (ao aj rfl T.n_len Sw (aa (pv 0) ac)) af (aw _)) (dI (pcF T.g_is_name (iq T) hr (aa (au aD (pv 0) af (fun _ _=>rfl)) ac)) (fC (pcF T.g_is_below (gm T) hr (aa (au aD (pv 0) af (fun _ _=>rfl)) (aa (al bc (cF (v:=.int (3)) rfl T.c_MOST_KIDS.choose_spec ⟨_,rfl⟩) af) ac)))))))),?_⟩
 try dsimp only [AM,Af]
 refine ⟨_,rfl,a,_,rfl,.inr (SqT.of ha),rfl,_,rfl,?_⟩;refine bG ?_;refine ⟨_,rfl,a,_,0,.str z,rfl,rfl,SqT.of ha,at0,z,rfl,hz,fun H1 s1=>?_⟩;refine ⟨_,rfl,?_⟩;refine cg (fun c=>?_) (fun c=>?_)
 · refine ⟨_,rfl,a,_,1,.int n,rfl,rfl,SqT.of (s1 _ _ ha),at1,_,_,rfl,rfl,n,_,rfl,?_⟩;have kk:=k H1 s1;unfold cG at kk;rw [show aP z=true from c,Vt] at kk;exact kk
 · have kk:=k H1 s1;unfold cG at kk;have c':aP z=false:=Ud.mpr c;rw [c',Wg] at kk;exact kk
def aK (ks:List (Ss×Int)):Bool:=decide (1<=ks.length/\ks.length<=8) && (ks.all cG && (decide ((ks.map (·.1)).Nodup) && decide ((0:Int)∈ks.map (·.2))))
inductive g7 (K:R8) (vs:List V) (H:Hp) (Q:VK) (_E:XK):Prop
 | mk (kr:Sa) (Ap:List Sa) (ks:List (Ss×Int)) (Au:vs=[.ref kr]) (Av:SqT K H kr (Ap.map V.ref)) (AF:KsAt H ks Ap) (AR:ks.length<=1000) (Bs:(∀ k∈ks,k.1.length<=100000)) (Ci:∀ H',L2.Same H H'->Q (.bl (aK ks)) H'):g7 K vs H Q _E
def n6 (K:R8):Sp:=g7 K
theorem oY:bj P w K mg base CX0 4 T.g_are_kinds.f T.g_are_kinds.d ["kinds"] (n6 K):=by
 refine T.g_are_kinds.F.ok jq (fun vs H Q E h=>?_) (fun Aj A outer s H vs Q E hr h=>?_)
 · obtain ⟨kr,Ap,ks,rfl,_⟩:=h;rfl
 obtain ⟨kr,Ap,ks,rfl,hK,AY,hlen,K4,k⟩:=h
 refine ⟨_,(ad (aJ (PW.pt (eG (ck (jf fQ fQ af (ao aj rfl T.n_len Sw (aa (pv 0) ac)) (cF (v:=.int (8)) rfl T.c_MOST_KINDS.choose_spec ⟨_,rfl⟩))) (eg (ck (aN (ao (mT rfl) rfl T.n_all Xq (aa (cf (N:=[R4 "pair"]) (js:=[none]) (g:=(aC 0)) (tt:=bn) (te:=(hV mK [] E0 (bZ (bN 0) eN))) rfl (cL rfl (by decide +kernel) (by decide +kernel) rfl rfl rfl) (dD (pv 0)) (fun _ _ _ _ _ _=>(ay (i:=0) wW rfl (SG rfl))) (bA rfl) (fun _ _ _ _ _ _=>cb) (fun _ _ _ _ _ _=>(pcF T.g_is_kind (rm T) hr (aa (pv 0) ac)))) ac)) (fun _=>rfl)))))) (ag (ax dq)) aB)
  (ad (lm (i:=1) (N:=[R4 "pair"]) (js:=[none]) (g:=(aC 0)) (tt:=bn) (te:=(tOp (vD K) (bN 0) (tC (.int 0)))) jq.nd rfl (SG rfl) rfl (cL rfl (by decide +kernel) (by decide +kernel) rfl rfl rfl) (dD (pv 0)) (fun _ _ _ _ _ _=>(ay (i:=0) wW rfl (SG rfl))) (bA rfl) (fun _ _ _ _ _ _=>cb) (fun _ _ _ _ _ _=>(au aD (pv 0) af (fun _ _=>rfl))))
  (ag (ax (dI (cn cz (ao tT rfl T.n_len Sw (aa (bB (uq rfl) rfl T.n_set PyProof.Rows.boot_set (aa (pv 1) ac)) ac)) (ao aj rfl T.n_len Sw (aa (pv 1) ac)) (aw _)) (fC (cn nW af (cf (N:=[R4 "pair"]) (js:=[none]) (g:=(aC 0)) (tt:=bn) (te:=(tOp (vD K) (bN 0) (tC (.int 1)))) rfl (cL rfl (by decide +kernel) (by decide +kernel) rfl rfl rfl) (dD (pv 0)) (fun _ _ _ _ _ _=>(ay (i:=0) wW rfl (SG rfl))) (bA rfl) (fun _ _ _ _ _ _=>cb) (fun _ _ _ _ _ _=>(au aD (pv 0) af (fun _ _=>rfl)))) (by with_unfolding_all rfl)))))))),?_⟩
 try dsimp only [AM,Af]
 have A6:ks.length=Ap.length:=SK AY;refine ⟨_,rfl,kr,_,rfl,.inr hK,_,_,rfl,rfl,_,rfl,?_⟩;rw [R5,<- A6]
 have AJ:∀ Hx,L2.Same H Hx->aK ks=false->Q (.bl false) Hx:=fun Hx sx e=>by
  have kk:=k Hx sx;rw [e] at kk;exact kk
 have bad:¬ (1<=ks.length/\ks.length<=8)->aK ks=false:=fun z=>by
  unfold aK;rw [decide_eq_false z];rfl
 refine cg (fun c1=>?_) (fun c1=>?_)
 · have DR:(1:Int)<=(ks.length:Int):=of_decide_eq_true c1;refine ⟨_,_,rfl,rfl,_,rfl,?_⟩;refine cg (fun c2=>?_) (fun c2=>?_)
   · refine bG (AJ H (.refl _) (bad fun z=>?_));rw [decide_eq_true (show (ks.length:Int)<=8 by omega)] at c2;cases c2
   · have Fy:ks.length<=8:=by
      by_cases h:ks.length<=8
      · exact h
      · rw [decide_eq_false (show ¬ (ks.length:Int)<=8 by omega)] at c2;exact absurd rfl c2
     have DS:aK ks=(ks.all cG && (decide ((ks.map (·.1)).Nodup) && decide ((0:Int)∈ks.map (·.2)))):=by
      unfold aK;rw [decide_eq_true (show 1<=ks.length/\ks.length<=8 from ⟨by omega,Fy⟩)];rfl
     refine ⟨_,rfl,kr,rfl,⟨_,hK⟩,du ks (fun k=>V.bl (cG k)) hK (by rw [R5];exact A6) (by rw [R5];omega) (fun i x z H2 R W' hx hz s2 hR=>?_) (fun D H1 hD s1 e1=>?_)⟩
     · obtain ⟨ka,rfl,Bb⟩:=bH hx;obtain ⟨z',Bv,ez⟩:=P2.get' AY Bb;rw [hz] at Bv;cases Bv;exact ⟨_,rfl,ka,z,rfl,s2 _ _ ez,K4 z (Sd hz),fun H3 s3=>hR H3 s3⟩
     · have K5:ks.map (fun k=>V.bl (cG k))=(ks.map cG).map V.bl:=by rw [T8];rfl
       rw [K5] at e1;refine ⟨D,_,rfl,SqL.of e1,_,rfl,?_⟩;rw [show (ks.map cG).all id=ks.all cG by rw [List.all_map];rfl];refine cg (fun c3=>?_) (fun c3=>?_)
       · refine AJ H1 s1 ?_;rw [DS]
         have:ks.all cG=false:=by
          cases h:ks.all cG with
          | false=>rfl
          | true=>rw [h] at c3;cases c3
         rw [this];rfl
       · have Ah:ks.all cG=true:=by
          cases h:ks.all cG with
          | true=>rfl
          | false=>rw [h] at c3;exact absurd rfl c3
         rw [Ah,Vt] at DS;have DT:=AY.mono (Same.kt s1);refine ⟨_,rfl,kr,rfl,⟨_,s1.seqT hK⟩,du ks (fun k=>V.str k.1) (s1.seqT hK) (by rw [R5];exact A6) (by rw [R5];omega) (fun i x z H2 R W' hx hz s2 hR=>?_) (fun D1 H2 RL s2 e2=>?_)⟩
         · obtain ⟨ka,rfl,Bb⟩:=bH hx;obtain ⟨z',Bv,ez⟩:=P2.get' DT Bb;rw [hz] at Bv;cases Bv;exact ⟨_,rfl,ka,_,0,.str z.1,rfl,rfl,SqT.of (s2 _ _ ez),at0,hR H2 (.refl _)⟩
         · have en:ks.map (fun k=>V.str k.1)=(ks.map (·.1)).map V.str:=by rw [T8];rfl
           rw [en] at e2;have Cb:=s1.trans s2;refine ⟨_,rfl,D1,ks.map (·.1),rfl,SqL.of e2,by rw [R5];omega,fun sa PH=>?_⟩;have s3:=fun o:HO=>ai PH o;have B6:=fun o:HO=>Cb.trans (s3 o);refine ⟨sa,ks.map (·.1),rfl,ae,_,rfl,D1,_,rfl,.inl (SqL.of (s3 _ _ _ e2)),rfl,_,rfl,?_⟩;have ES:=qj (ks.map (·.1)) (ks.map (·.1)).length (Sg _);rw [VA] at ES;refine cg (fun c4=>?_) (fun c4=>?_)
           · have PJ:((dn (ks.map (·.1)) (ks.map (·.1)).length:Nat):Int)=(((ks.map (·.1)).map V.str).length:Int):=V.int.inj (of_decide_eq_true c4);rw [R5 (f:=V.str)] at PJ;have Fz:=ES.mp (by omega);rw [decide_eq_true Fz,Vt] at DS;refine ⟨_,rfl,kr,rfl,⟨_,(B6 _).seqT hK⟩,du ks (fun k=>V.int k.2) ((B6 _).seqT hK) (by rw [R5];exact A6) (by rw [R5];omega) (fun i x z H4 R W' hx hz s4 hR=>?_) (fun D3 H4 RM s4 e4=>?_)⟩
             · obtain ⟨ka,rfl,Bb⟩:=bH hx;obtain ⟨z',Bv,ez⟩:=P2.get' (AY.mono (Same.kt ((B6 _).trans s4))) Bb;rw [hz] at Bv;cases Bv;exact ⟨_,rfl,ka,_,1,.int z.2,rfl,rfl,SqT.of ez,at1,hR H4 (.refl _)⟩
             · have GY:inV (.int 0) (ks.map fun k=>V.int k.2)=decide ((0:Int)∈ks.map (·.2)):=by
                unfold inV;rw [List.any_map];by_cases h:(0:Int)∈ks.map (·.2)
                · rw [decide_eq_true h];obtain ⟨k',BY,e'⟩:=TC.mp h;exact List.any_eq_true.mpr ⟨k',BY,by show eqV (.int k'.2) (.int 0)=true;rw [e'];rfl⟩
                · rw [decide_eq_false h];refine Ud.mpr fun z=>h ?_;obtain ⟨k',BY,e'⟩:=List.any_eq_true.mp z;have DD:eqV (.int k'.2) (.int 0)=true:=e';exact TC.mpr ⟨k',BY,by simpa [eqV] using DD⟩
               refine ⟨D3,_,rfl,.inl (SqL.of e4),rfl,?_,?_⟩
               · rw [List.all_map];exact Tv.mpr fun _ _=>rfl
               · have kk:=k H4 ((B6 _).trans s4);rw [DS,<- GY] at kk;exact kk
           · refine AJ _ (B6 _) ?_;rw [DS,decide_eq_false (fun z=>c4 (decide_eq_true ?_))]
             · rfl
             · show V.int ((dn (ks.map (·.1)) (ks.map (·.1)).length:Nat):Int)=V.int (((ks.map (·.1)).map V.str).length:Int);rw [ES.mpr z,R5 (f:=V.str)]
 · refine ⟨_,rfl,bG (AJ H (.refl _) (bad fun z=>c1 (decide_eq_true (by omega))))⟩
def jE (K:R8) (H:Hp) (ks:List (Ss×Int)) (a:Sa) (Ap:List Sa):Prop:=(SqL K H a (Ap.map V.ref)∨SqT K H a (Ap.map V.ref))/\KsAt H ks Ap/\ks.length<=1000/\∀ k∈ks,k.1.length<=100000
inductive hG (K:R8) (C:Sa) (vs:List V) (H:Hp) (Q:VK) (E:XK):Prop
 | mk (pr:Sa) (Ap:List Sa) (ks:List (Ss×Int)) (Au:vs=[.ref pr]) (Av:jE K H ks pr Ap) (AF:(aK ks=true->∀ (r:Sa) (H':Hp),L2.Same H H'->H' r=some (.tup (Ap.map V.ref))->Q (.ref r) H')) (AR:(aK ks=false->∀ H',L2.Same H H'->E (.ref C) none H')):hG K C vs H Q E
def oM (K:R8) (C:Sa):Sp:=hG K C
theorem oP {σ:St} {H:Hp} {ks:List (Ss×Int)} {pr:Sa} {Ap:List Sa} {fin:Sa->Hp->Prop} (h:jE K H ks pr Ap) (hq:∀ D H',L2.Same H H'->H' D=some (.lst (Ap.map V.ref))->fin D H') :
 ((∃ xs,SqL K H pr xs)/\∀ D,H D=none->∃ (n:Nat) (W:Nat->Hp->Prop),W 0 (upd H D (.lst []))/\cZ [none] (aC 0) bn (tCB (fun xs H Q=>∃ p ys,xs=[.ref p]/\((SqL K H p ys/\∀ l,H l=none->Q (.ref l) (upd H l (.tup ys)))∨(SqT K H p ys/\Q (.ref p) H))) (bZ (bN 0) eN)) σ (Itl K pr) D n W fun H'=>fin D H') ∨
 ((∃ xs,SqT K H pr xs)/\∀ D,H D=none->∃ (n:Nat) (W:Nat->Hp->Prop),W 0 (upd H D (.lst []))/\cZ [none] (aC 0) bn (tCB (fun xs H Q=>∃ p ys,xs=[.ref p]/\((SqL K H p ys/\∀ l,H l=none->Q (.ref l) (upd H l (.tup ys)))∨(SqT K H p ys/\Q (.ref p) H))) (bZ (bN 0) eN)) σ (Itt K pr) D n W fun H'=>fin D H'):=by
 obtain ⟨hS,AY,hlen,_⟩:=h;have A6:ks.length=Ap.length:=SK AY
 have step:∀ (i:Nat) (x:V) (z:Sa) (H2:Hp) (R:VK) (W':Hp->Prop),(Ap.map V.ref)[i]?=some x->Ap[i]?=some z->L2.Same H H2->(∀ H3,L2.Same H2 H3->R (.ref z) H3) →
  aC 0 x (cσ [none] σ) H2 fun AB H3=>bn AB H3 fun b H4=>if b=true then (tCB (fun xs H Q=>∃ p ys,xs=[.ref p]/\((SqL K H p ys/\∀ l,H l=none->Q (.ref l) (upd H l (.tup ys)))∨(SqT K H p ys/\Q (.ref p) H))) (bZ (bN 0) eN)) AB H4 R else W' H4:=by
  intro i x z H2 R W' hx hz s2 hR;obtain ⟨ka,rfl,Bb⟩:=bH hx;rw [hz] at Bb;cases Bb;obtain ⟨z',Bv,ez⟩:=P2.get' AY hz;exact ⟨_,rfl,z,_,rfl,.inr ⟨SqT.of (s2 _ _ ez),hR H2 (.refl _)⟩⟩
 rcases hS with hS | hS
 · exact .inl ⟨⟨_,hS⟩,ph Ap V.ref hS (by rw [R5]) (by rw [R5];omega) step fun D H' hD s1 e1=>hq D H' s1 e1⟩
 · exact .inr ⟨⟨_,hS⟩,du Ap V.ref hS (by rw [R5]) (by rw [R5];omega) step fun D H' hD s1 e1=>hq D H' s1 e1⟩
theorem iT:bj P w K mg base (CX1 P w) 5 T.g_kinds_of.f T.g_kinds_of.d ["pairs"] (oM K T.e_NoKinds):=by
 refine T.g_kinds_of.F.ok1 km (fun vs H Q E h=>?_) (fun Aj A outer s H vs Q E hr h=>?_)
 · obtain ⟨pr,Ap,ks,rfl,_⟩:=h;rfl
 obtain ⟨pr,Ap,ks,rfl,hp,k1,k2⟩:=h
 refine ⟨_,(ad (ar (i:=1) km.nd rfl (SG rfl) (bB bJ rfl T.n_tuple Tu (aa (cf (N:=[R4 "pair"]) (js:=[none]) (g:=(aC 0)) (tt:=bn) (te:=(tCB (fun xs H Q=>∃ p ys,xs=[.ref p]/\((SqL K H p ys/\∀ l,H l=none->Q (.ref l) (upd H l (.tup ys)))∨(SqT K H p ys/\Q (.ref p) H))) (bZ (bN 0) eN))) rfl (cL rfl (by decide +kernel) (by decide +kernel) rfl rfl rfl) (uR (pv 0)) (fun _ _ _ _ _ _=>(ay (i:=0) wW rfl (SG rfl))) (bA rfl) (fun _ _ _ _ _ _=>cb) (fun _ _ _ _ _ _=>(bB bJ rfl T.n_tuple Tu (aa (pv 0) ac)))) ac)))
  (ad (aJ (ck (aN (pcF T.g_are_kinds (oY T) hr (aa (pv 1) ac)) (fun _=>rfl))) (ag (bF T.X_NoKinds T.x_NoKinds aA)) aB)
  (ag (ax (pv 1))))),?_⟩
 try dsimp only [AM,Af]
 refine ⟨_,rfl,pr,rfl,oP hp fun D H1 s1 e1=>?_⟩;refine ⟨D,_,rfl,.inl ⟨SqL.of e1,fun r BP=>?_⟩⟩;have s2:=s1.trans (ai BP (.tup (Ap.map V.ref)));refine hid fun ZZ kZ=>?_;obtain ⟨hS,AY,hlen,K4⟩:=hp;refine kZ ?_;refine ⟨_,rfl,r,Ap,ks,rfl,SqT.of ae,AY.mono (Same.kt s2),hlen,K4,fun H3 s3=>?_⟩;refine ⟨_,rfl,?_⟩;cases hok:aK ks with
 | false=>exact bG (k2 hok H3 (s2.trans s3))
 | true=>exact bo ⟨_,rfl,k1 hok r H3 (s2.trans s3) (s3 _ _ ae)⟩
inductive kz (K:R8) (vs:List V) (H:Hp) (Q:VK) (_E:XK):Prop
 | mk (kr:Sa) (Ap:List Sa) (ks:List (Ss×Int)) (n:Ss) (Au:vs=[.ref kr,.str n]) (Av:SqT K H kr (Ap.map V.ref)) (AF:KsAt H ks Ap) (AR:Q (.int (cH ks n)) H):kz K vs H Q _E
def rL (K:R8):Sp:=kz K
theorem rV:bj P w K mg base CX0 1 T.g_many_of.f T.g_many_of.d ["kinds","name"] (rL K):=by
 refine T.g_many_of.F.ok iK (fun vs H Q E h=>?_) (fun Aj A outer s H vs Q E hr h=>?_)
 · obtain ⟨kr,Ap,ks,n,rfl,_⟩:=h;rfl
 obtain ⟨kr,Ap,ks,n,rfl,hK,AY,k⟩:=h
 refine ⟨_,(ad (bW Tt rfl (dD (pv 0)) (jO rfl (bK (ay (i:=2) iK.nd rfl (SG rfl)) (bK (ay (i:=3) iK.nd rfl (SG rfl)) fq))) (ag (aJ (av cz (pv 2) (pv 1) (aw _)) (ag (ax (pv 3))) aB)))
  (ag (ax (qu mU af)))),?_⟩
 try dsimp only [AM,Af]
 refine ⟨_,rfl,kr,rfl,⟨_,hK⟩,?_⟩;have A6:ks.length=Ap.length:=SK AY;refine lg (K:=K) (a:=kr) (xs:=Ap.map V.ref) (fun i σ H2=>Ex2 fun c1 c2=>An3 (σ=[some (.ref kr),some (.str n),c1,c2]) (H2=H) (cH ks n=cH (ks.drop i) n)) ⟨none,none,rfl,rfl,by rw [Uv]⟩ (fun i σ H2 _ ⟨_,_,_,e,_⟩=>by rw [e];exact hK) ?_ ?_
 · rintro i x σ H2 hx ⟨c1,c2,rfl,rfl,hm⟩;obtain ⟨ka,rfl,Bb⟩:=bH hx;obtain ⟨kd,CJ,PK⟩:=P2.get' AY Bb;have hi:i<ks.length:=(Sj.mp CJ).1
   have hd:ks.drop i=kd::ks.drop (i+1):=by
    rw [US hi];congr 1;rw [R6 hi] at CJ;exact Su CJ
   rw [hd,cH] at hm;refine ⟨ka,_,rfl,SqT.of PK,rfl,_,_,rfl,_,_,rfl,rfl,?_⟩;refine ⟨_,rfl,_,rfl,rfl,_,rfl,?_⟩;refine cg (fun c=>?_) (fun c=>?_)
   · have c':kd.1=n:=V.str.inj (of_decide_eq_true c);rw [if_pos c'] at hm;rw [hm] at k;exact ⟨_,rfl,k⟩
   · have c':¬ kd.1=n:=fun z=>c (decide_eq_true (congrArg V.str z));rw [if_neg c'] at hm;exact ⟨_,_,rfl,rfl,hm⟩
 · rintro σ H2 ⟨c1,c2,rfl,rfl,hm⟩;rw [R5,<- A6,W9,cH] at hm;rw [hm] at k;exact ⟨_,rfl,k⟩
inductive eZ (K:R8) (vs:List V) (H:Hp) (Q:VK) (_E:XK):Prop
 | mk (kr a:Sa) (Ap:List Sa) (ks:List (Ss×Int)) (t:Th) (st kd:Int) (Au:vs=[.ref kr,.ref a,.int st,.int kd]) (Av:SqT K H kr (Ap.map V.ref)) (AF:KsAt H ks Ap) (AR:At H t a) (Bs:t.size<=100000) (Ci:∀ H',L2.Same H H'->Q (.bl (fpb ks st kd t)) H'):eZ K vs H Q _E
def kS (K:R8):Sp:=eZ K
theorem kP:bj P w K mg base CX0 3 T.g_fits_pattern.f T.g_fits_pattern.d ["kinds","pattern","states","kids"] (kS K):=by
 refine T.g_fits_pattern.F.ok fM (fun vs H Q E h=>?_) (fun Aj A outer s H vs Q E hr h=>?_)
 · obtain ⟨kr,a,Ap,ks,t,st,kd,rfl,_⟩:=h;rfl
 obtain ⟨kr,a,Ap,ks,t,st,kd,rfl,hK,AY,hA,Az,k⟩:=h
 refine ⟨_,(ad (bW Tt rfl (fG (pcF T.g_walked (tS T) hr (aa (pv 1) ac))) (ay (i:=4) fM.nd rfl (SG rfl)) (ag (aJ (aN (pcF T.g_is_call (iI T) hr (aa (pv 4) ac)) (fun _=>rfl)) (ag (aJ (PW.pt (eG (ck (aN (pcF T.g_is_below (gm T) hr (aa (au aD (pv 4) af (fun _ _=>rfl)) (aa (pv 2) ac))) (fun _=>rfl))) (eg (ck (aN (pcF T.g_is_below (gm T) hr (aa (au aD (pv 4) af (fun _ _=>rfl)) (aa (pv 3) ac))) (fun _=>rfl)))))) (ag (ax dq)) aB)) (ag (aJ (av d4 (pcF T.g_many_of (rV T) hr (aa (pv 0) (aa (au aD (pv 4) af (fun _ _=>rfl)) ac))) (al me (ao aj rfl T.n_len Sw (aa (pv 4) ac)) af) (aw _)) (ag (ax dq)) aB)))))
  (ag (ax dq))),?_⟩
 try dsimp only [AM,Af]
 refine ⟨_,rfl,a,t,rfl,hA,Az,fun r as H1 s1 nr er hw=>⟨r,rfl,⟨_,SqL.of er⟩,?_⟩⟩;have CQ:as.length=t.walk.length:=hw.length
 refine qD (K:=K) (a:=r) (xs:=as.map V.ref) (fun i σ H2=>Ex1 fun c=>An3 (σ=[some (.ref kr),some (.ref a),some (.int st),some (.int kd),c]) (L2.Same H1 H2) ((t.walk.take i).all (okP ks st kd)=true))
  ⟨none,rfl,.refl _,by rw [Vb];rfl⟩ (fun i σ H2 _ ⟨_,_,s2,_⟩=>SqL.of (s2 _ _ er)) ?_ ?_
 · rintro i x σ H2 hx ⟨c,rfl,s2,Ah⟩;obtain ⟨xa,rfl,K6⟩:=bH hx;obtain ⟨tx,ET,K7⟩:=hw.get K6;have HB:=K7.mono (Same.kt s2);have Cb:=s1.trans s2;have Jc:t.walk.take (i+1)=t.walk.take i++[tx]:=by rw [Vp,ET];rfl
   have AJ:okP ks st kd tx=false->fpb ks st kd t=false:=by
    intro z;unfold fpb;rw [Ud];intro y;rw [Tv] at y;rw [y tx (Sd ET)] at z;cases z
   have De:okP ks st kd tx=true->(t.walk.take (i+1)).all (okP ks st kd)=true:=by
    intro z;rw [Jc,List.all_append,Ah];simp [z]
   refine ⟨_,rfl,xa,tx,rfl,HB,_,rfl,?_⟩;cases tx with
   | call sn kn =>
     refine bG ?_;have Df:=HB;rw [At] at Df;refine ⟨_,rfl,xa,_,1,_,rfl,rfl,SqT.of Df,at1,_,rfl,sn,st,rfl,_,rfl,?_⟩;refine cg (fun c1=>?_) (fun c1=>?_)
     · have e:fpb ks st kd t=false:=AJ (by rw [okP];rw [Wf] at c1;rw [c1];rfl);have:=k H2 Cb;rw [e] at this;exact bG this
     · refine ⟨_,rfl,xa,_,2,_,rfl,rfl,SqT.of Df,at2,_,rfl,kn,kd,rfl,_,rfl,?_⟩
       have DR:decide (0<=sn/\sn<st)=true:=by
        cases h:decide (0<=sn/\sn<st) with
        | true=>rfl
        | false=>rw [h] at c1;exact absurd rfl c1
       refine cg (fun c2=>?_) (fun c2=>?_)
       · have e:fpb ks st kd t=false:=AJ (by rw [okP];rw [Wf] at c2;rw [DR,c2];rfl);have:=k H2 Cb;rw [e] at this;exact this
       · have Fy:decide (0<=kn/\kn<kd)=true:=by
          cases h:decide (0<=kn/\kn<kd) with
          | true=>rfl
          | false=>rw [h] at c2;exact absurd rfl c2
         exact ⟨_,rfl,s2,De (by rw [okP,DR,Fy];rfl)⟩
   | knot nm us =>
     refine bo ?_;have Df:=HB;rw [At] at Df;refine hid fun ZZ kZ=>?_;obtain ⟨Jw,ka,ek,Bb⟩:=Df;refine kZ ?_;have A6:ka.length=us.length:=Bb.length;refine ⟨_,rfl,_,rfl,xa,_,0,.str nm,rfl,rfl,SqT.of ek,at0,kr,Ap,ks,nm,rfl,Cb.seqT hK,AY.mono (Same.kt Cb),_,rfl,xa,_,rfl,.inr (SqT.of ek),_,_,rfl,rfl,rfl,_,rfl,?_⟩;have hlen:((V.str nm::ka.map V.ref).length:Int) - 1=(us.length:Int):=by rw [R7,R5,A6];omega
     refine cg (fun c=>?_) (fun c=>?_)
     · have hm:¬ cH ks nm=((us.length:Nat):Int):=fun z=>yI c (by rw [z,<- hlen]);have e:fpb ks st kd t=false:=AJ (by rw [okP];exact decide_eq_false hm);have:=k H2 Cb;rw [e] at this;exact this
     · have hm:cH ks nm=((us.length:Nat):Int):=by
        have:=V.int.inj (xY c);rw [this];exact hlen
       exact ⟨_,rfl,s2,De (by rw [okP];exact decide_eq_true hm)⟩
 · rintro σ H2 ⟨c,rfl,s2,Ah⟩;rw [R5,CQ,VA] at Ah;have e:fpb ks st kd t=true:=Ah;have:=k H2 (s1.trans s2);rw [e] at this;exact this
def j4 (outs:List (Ss×Int)) (st kd:Int) (t:Th):Prop:=Small t/\fpb outs st kd t=true
instance (outs:List (Ss×Int)) (st kd:Int) (t:Th):Decidable (j4 outs st kd t):=inferInstanceAs (Decidable (_/\_))
inductive dU (K:R8) (C:Sa) (vs:List V) (H:Hp) (Q:VK) (E:XK):Prop
 | mk (oa pa:Sa) (Ak:List Sa) (outs:List (Ss×Int)) (t:Th) (st kd:Int) (Au:vs=[.ref oa,.ref pa,.int st,.int kd]) (Av:SqT K H oa (Ak.map V.ref)) (AF:KsAt H outs Ak) (AR:At H t pa) (Bs:t.size<=100000) (Ci:(j4 outs st kd t->∀ H',L2.Same H H'->Q .non H')) (Ea:(¬ j4 outs st kd t->∀ H',L2.Same H H'->E (.ref C) none H')):dU K C vs H Q E
def i7 (K:R8) (C:Sa):Sp:=dU K C
theorem eA:bj P w K mg base (CX1 P w) 5 T.g_check_pattern.f T.g_check_pattern.d ["outs","pattern","states","kids"] (i7 K T.e_NoBook):=by
 refine T.g_check_pattern.F.ok1 jH (fun vs H Q E h=>?_) (fun Aj A outer s H vs Q E hr h=>?_)
 · obtain ⟨oa,pa,Ak,outs,t,st,kd,rfl,_⟩:=h;rfl
 obtain ⟨oa,pa,Ak,outs,t,st,kd,rfl,hS,AY,hA,Az,q1,q2⟩:=h
 refine ⟨_,(ad (aJ (ck (aN (pcF T.g_is_small (qh T) hr (aa (pv 1) ac)) (fun _=>rfl))) (ag (bF T.X_NoBook T.x_NoBook aA)) aB)
  (ag (aJ (ck (aN (pcF T.g_fits_pattern (kP T) hr (aa (pv 0) (aa (pv 1) (aa (pv 2) (aa (pv 3) ac))))) (fun _=>rfl))) (ag (bF T.X_NoBook T.x_NoBook aA)) aB))),?_⟩
 try dsimp only [AM,Af]
 refine ⟨_,rfl,pa,t,rfl,hA,Az,fun H1 s1=>⟨_,rfl,?_⟩⟩;by_cases c1:Small t
 · rw [decide_eq_true c1];refine bo ?_;refine ⟨_,rfl,_,rfl,_,rfl,_,rfl,oa,pa,Ak,outs,t,st,kd,rfl,s1.seqT hS,AY.mono (Same.kt s1),hA.mono (Same.kt s1),Az,fun H2 s2=>⟨_,rfl,?_⟩⟩;cases c2:fpb outs st kd t with
   | true=>exact bo (q1 ⟨c1,c2⟩ H2 (s1.trans s2))
   | false=>exact bG (q2 (fun z=>by rw [z.2] at c2;cases c2) H2 (s1.trans s2))
 · rw [decide_eq_false c1];exact bG (q2 (fun z=>c1 z.1) H1 s1)
def lq (ins outs:List (Ss×Int)) (st:Int) (row:List Th):Prop:=row.length=ins.length/\∀ (j:Nat) (t:Th) (k:Ss×Int),row[j]?=some t->ins[j]?=some k->j4 outs st k.2 t
inductive eY (K:R8) (C:Sa) (vs:List V) (H:Hp) (Q:VK) (E:XK):Prop
 | mk (ia oa ra:Sa) (Ar Ak Ae:List Sa) (ins outs:List (Ss×Int)) (row:List Th) (st:Int) (Au:vs=[.ref ia,.ref oa,.ref ra,.int st]) (Av:SqT K H ia (Ar.map V.ref)) (AF:KsAt H ins Ar) (AR:SqT K H oa (Ak.map V.ref)) (Bs:KsAt H outs Ak) (Ci:H ra=some (.tup (Ae.map V.ref))) (Ea:Ats H row Ae) (Fj:(∀ t∈row,t.size<=100000)) (Jx:(lq ins outs st row->∀ H',L2.Same H H'->Q .non H')) (Jy:(¬ lq ins outs st row->∀ H',L2.Same H H'->E (.ref C) none H')):eY K C vs H Q E
def kN (K:R8) (C:Sa):Sp:=eY K C
theorem kO:bj P w K mg base (CX1 P w) 6 T.g_check_state.f T.g_check_state.d ["ins","outs","patterns","states"] (kN K T.e_NoBook):=by
 refine T.g_check_state.F.ok1 dX (fun vs H Q E h=>?_) (fun Aj A outer s H vs Q E hr h=>?_)
 · obtain ⟨ia,oa,ra,Ar,Ak,Ae,ins,outs,row,st,rfl,_⟩:=h;rfl
 obtain ⟨ia,oa,ra,Ar,Ak,Ae,ins,outs,row,st,rfl,hI,B7,hO,CZ,er,Ac,Az,q1,q2⟩:=h
 refine ⟨_,(ad (aJ (av d4 (ao aj rfl T.n_len Sw (aa (pv 2) ac)) (ao aj rfl T.n_len Sw (aa (pv 0) ac)) (aw _)) (ag (bF T.X_NoBook T.x_NoBook aA)) aB)
  (ag (bW WA rfl (yr rfl T.n_zip (aa (pv 0) (aa (pv 2) ac))) (jO rfl (bK (ay (i:=4) dX.nd rfl (SG rfl)) (bK (ay (i:=5) dX.nd rfl (SG rfl)) fq))) (ag (bq (aW (eA T) (hr.mono (by first | decide | omega)) rfl T.g_check_pattern.m T.g_check_pattern.F.kp T.g_check_pattern.b .nil cM (aa (pv 1) (aa (pv 5) (aa (pv 3) (aa (au aD (pv 4) af (fun _ _=>rfl)) ac)))))))))),?_⟩
 try dsimp only [AM,Af]
 have Bo:ins.length=Ar.length:=SK B7;have Bw:Ae.length=row.length:=Ac.length;refine ⟨_,rfl,ra,_,rfl,.inr (SqT.of er),_,rfl,ia,_,rfl,.inr hI,rfl,_,rfl,?_⟩;refine cg (fun c=>?_) (fun c=>?_)
 · refine q2 (fun z=>?_) H (.refl _)
   have hz:((Ae.map V.ref).length:Int)=((Ar.map V.ref).length:Int):=by
    rw [R5,R5];have:=z.1;omega
   rw [hz] at c;simp at c
 · have hlen:row.length=ins.length:=by
    by_cases z:V.int ((Ae.map V.ref).length:Int)=V.int ((Ar.map V.ref).length:Int)
    · have z':=V.int.inj z;rw [R5,R5] at z';omega
    · exact absurd (by simpa using z) c
   refine ⟨_,rfl,_,rfl,ia,ra,rfl,⟨_,hI⟩,⟨_,SqT.of er⟩,?_⟩
   refine yh ins.length (fun j σ H7=>Ex2 fun c4 c5=>An3 (σ=[some (.ref ia),some (.ref oa),some (.ref ra),some (.int st),c4,c5]) (L2.Same H H7) (∀ (j':Nat) (t:Th) (k:Ss×Int),j'<j->row[j']?=some t->ins[j']?=some k->j4 outs st k.2 t))
    ⟨none,none,rfl,.refl _,fun j' t k h=>absurd h (Nat.not_lt_zero _)⟩ (fun j σ H7 hj ⟨_,_,_,s7,_⟩=>⟨_,_,_,_,s7.seqT hI,SqT.of (s7 _ _ er),R6 (by rw [R5];omega),R6 (by rw [R5];omega)⟩) (fun σ H7 ⟨_,_,_,s7,_⟩=>⟨_,_,s7.seqT hI,SqT.of (s7 _ _ er),.inl (by rw [R5];omega)⟩) ?_ ?_
   · rintro j x σ H7 H8 hj ⟨c4,c5,rfl,s7,Ah⟩ ⟨p2,x1,y1,HC,rfl,rfl,PL,PM⟩;refine hid fun ZZ kZ=>?_;obtain ⟨ka,rfl,Bb⟩:=bH (PL _ (s7.seqT hI));obtain ⟨ta,rfl,Eg⟩:=bH (PM _ (SqT.of (s7 _ _ er)));obtain ⟨k,hk,ek⟩:=P2.get' B7 Bb;obtain ⟨t,ht,AS⟩:=Ac.get Eg;refine kZ ?_;have s8:L2.Same H7 (upd H7 p2 (.tup [.ref ka,.ref ta])):=ai HC _;have e8:(upd H7 p2 (.tup [.ref ka,.ref ta])) p2=some (.tup [.ref ka,.ref ta]):=ae;generalize (upd H7 p2 (.tup [.ref ka,.ref ta]))=H8 at s8 e8 ⊢;have Gg:=s7.trans s8;refine ⟨p2,_,rfl,SqT.of e8,rfl,_,_,rfl,_,_,rfl,rfl,?_⟩;refine ⟨_,rfl,_,rfl,_,rfl,_,rfl,ka,_,1,_,rfl,rfl,SqT.of (Gg _ _ ek),at1,oa,ta,Ak,outs,t,st,k.2,rfl,Gg.seqT hO,CZ.mono (Same.kt Gg),AS.mono (Same.kt Gg),Az t (Sd ht),fun hok H9 s9=>?_,fun AJ H9 s9=>?_⟩
     · refine ⟨_,_,rfl,Gg.trans s9,fun j' t' k' Dt Cs BY=>?_⟩;by_cases hz:j'<j
       · exact Ah j' t' k' hz Cs BY
       · have:j'=j:=by omega
         subst this;rw [ht] at Cs;cases Cs;rw [hk] at BY;cases BY;exact hok
     · exact q2 (fun z=>AJ (z.2 j t k ht hk)) H9 (Gg.trans s9)
   · rintro σ H7 ⟨c4,c5,rfl,s7,Ah⟩;exact q1 ⟨hlen,fun j t k ht hk=>Ah j t k (Sj.mp hk).1 ht hk⟩ H7 s7
def SRow (H:Hp) (row:List Th) (a:Sa):Prop:=∃ Ae:List Sa,(H a=some (.lst (Ae.map V.ref))∨H a=some (.tup (Ae.map V.ref)))/\Ats H row Ae
theorem SRow.mono {H H':Hp} (s:L2.Same H H') {row:List Th} {a:Sa} (h:SRow H row a):SRow H' row a:=by
 obtain ⟨Ae,h1,h2⟩:=h;exact ⟨Ae,h1.imp (s _ _) (s _ _),h2.mono (Same.kt s)⟩
def SRows (H:Hp) (rows:List (List Th)) (a:Sa) (AU:List Sa):Prop:=(H a=some (.lst (AU.map V.ref))∨H a=some (.tup (AU.map V.ref)))/\To (SRow H) rows AU
theorem SRows.mono {H H':Hp} (s:L2.Same H H') {rows:List (List Th)} {a:Sa} {AU:List Sa} (h:SRows H rows a AU):SRows H' rows a AU:=⟨h.1.imp (s _ _) (s _ _),P2.mp (fun _ _ e=>e.mono s) h.2⟩
def dY (ins outs:List (Ss×Int)) (head:Th) (rows:List (List Th)):Prop:=rows.length<=20/\j4 outs (rows.length:Nat) 1 head/\∀ row∈rows,lq ins outs (rows.length:Nat) row
inductive fV (K:R8) (CN CB:Sa) (vs:List V) (H:Hp) (Q:VK) (E:XK):Prop
 | mk (ia oa ha ru:Sa) (Ar Ak AU:List Sa) (ins outs:List (Ss×Int)) (head:Th) (rows:List (List Th)) (Au:vs=[.ref ia,.ref oa,.ref ha,.ref ru]) (Av:jE K H ins ia Ar) (AF:jE K H outs oa Ak) (AR:At H head ha) (Bs:head.size<=100000) (Ci:SRows H rows ru AU) (Ea:rows.length<=1000) (Fj:(∀ row∈rows,∀ t∈row,t.size<=100000)) (Jx:(aK ins=true->aK outs=true->dY ins outs head rows->∀ (r:Sa) (H':Hp),L2.Same H H'->Bk H' ins outs head rows r->Q (.ref r) H')) (Jy:(¬ (aK ins=true/\aK outs=true)->∀ H',L2.Same H H'->E (.ref CN) none H')) (FA:(aK ins=true->aK outs=true->¬ dY ins outs head rows->∀ H',L2.Same H H'->E (.ref CB) none H')):fV K CN CB vs H Q E
def nk (K:R8) (CN CB:Sa):Sp:=fV K CN CB
theorem pY {σ:St} {H:Hp} {rows:List (List Th)} {ru:Sa} {AU:List Sa} {fin:Sa->Hp->Prop} (h:SRows H rows ru AU) (hn:rows.length<=1000) (hq:∀ D H' bs,L2.Same H H'->H' D=some (.lst (bs.map V.ref))->To (RowAt H') rows bs->fin D H') :
 ((∃ xs,SqL K H ru xs)/\∀ D,H D=none->∃ (n:Nat) (W:Nat->Hp->Prop),W 0 (upd H D (.lst []))/\cZ [none] (aC 0) bn (tCB (fun xs H Q=>∃ p ys,xs=[.ref p]/\((SqL K H p ys/\∀ l,H l=none->Q (.ref l) (upd H l (.tup ys)))∨(SqT K H p ys/\Q (.ref p) H))) (bZ (bN 0) eN)) σ (Itl K ru) D n W fun H'=>fin D H') ∨
 ((∃ xs,SqT K H ru xs)/\∀ D,H D=none->∃ (n:Nat) (W:Nat->Hp->Prop),W 0 (upd H D (.lst []))/\cZ [none] (aC 0) bn (tCB (fun xs H Q=>∃ p ys,xs=[.ref p]/\((SqL K H p ys/\∀ l,H l=none->Q (.ref l) (upd H l (.tup ys)))∨(SqT K H p ys/\Q (.ref p) H))) (bZ (bN 0) eN)) σ (Itt K ru) D n W fun H'=>fin D H'):=by
 obtain ⟨hS,Aq⟩:=h;have BC:rows.length=AU.length:=SK Aq
 have step:∀ (i:Nat) (x:V) (z:List Th) (H2:Hp) (R:VK) (W':Hp->Prop),(AU.map V.ref)[i]?=some x->rows[i]?=some z->L2.Same H H2->(∀ H3 p,L2.Same H2 H3->RowAt H3 z p->R (.ref p) H3) →
  aC 0 x (cσ [none] σ) H2 fun AB H3=>bn AB H3 fun b H4=>if b=true then (tCB (fun xs H Q=>∃ p ys,xs=[.ref p]/\((SqL K H p ys/\∀ l,H l=none->Q (.ref l) (upd H l (.tup ys)))∨(SqT K H p ys/\Q (.ref p) H))) (bZ (bN 0) eN)) AB H4 R else W' H4:=by
  intro i x z H2 R W' hx hz s2 hR;obtain ⟨la,rfl,BM⟩:=bH hx;obtain ⟨Bh,Bn,hl⟩:=P2.get' Aq BM;rw [hz] at Bn;cases Bn;obtain ⟨Ae,e1,h1⟩:=hl.mono s2;rcases e1 with e1 | e1
  · exact ⟨_,rfl,la,_,rfl,.inl ⟨SqL.of e1,fun l Cz=>hR _ l (ai Cz _) ⟨Ae,ae,h1.mono (Same.kt (ai Cz _))⟩⟩⟩
  · exact ⟨_,rfl,la,_,rfl,.inr ⟨SqT.of e1,hR _ la (.refl _) ⟨Ae,e1,h1⟩⟩⟩
 rcases hS with hS | hS
 · exact .inl ⟨⟨_,SqL.of hS⟩,lj (F:=RowAt) (xs:=AU.map V.ref) rows (fun H1 H2 z p kt h=>h.mono kt) (by rw [R5];omega) (by rw [R5];omega) (fun i Hx sx hi=>⟨_,_,SqL.of (sx _ _ hS),R6 hi⟩) (fun Hx sx=>⟨_,SqL.of (sx _ _ hS),Sg _⟩) (fun i Hx x Hy sx hi hy=>⟨hy.1,hy.2 _ (SqL.of (sx _ _ hS))⟩) step fun D H3 bs hD s3 eD Dp=>hq D H3 bs s3 eD Dp⟩
 · exact .inr ⟨⟨_,SqT.of hS⟩,lj (F:=RowAt) (xs:=AU.map V.ref) rows (fun H1 H2 z p kt h=>h.mono kt) (by rw [R5];omega) (by rw [R5];omega) (fun i Hx sx hi=>⟨_,_,SqT.of (sx _ _ hS),R6 hi⟩) (fun Hx sx=>⟨_,SqT.of (sx _ _ hS),Sg _⟩) (fun i Hx x Hy sx hi hy=>⟨hy.1,hy.2 _ (SqT.of (sx _ _ hS))⟩) step fun D H3 bs hD s3 eD Dp=>hq D H3 bs s3 eD Dp⟩
set_option maxHeartbeats 2000000 in
theorem m9:bj P w K mg base (CX1 P w) 7 T.g_made_book.f T.g_made_book.d ["ins","outs","head","rules"] (nk K T.e_NoKinds T.e_NoBook):=by
 refine T.g_made_book.F.ok1 cV (fun vs H Q E h=>?_) (fun Aj A outer s H vs Q E hr h=>?_)
 · obtain ⟨ia,oa,ha,ru,Ar,Ak,AU,ins,outs,head,rows,rfl,_⟩:=h;rfl
 obtain ⟨ia,oa,ha,ru,Ar,Ak,AU,ins,outs,head,rows,rfl,hI,hO,hd,PN,Aq,FC,K8,q1,qk,q2⟩:=h
 refine ⟨_,(ad (ar (i:=4) cV.nd rfl (SG rfl) (aW (iT T) (hr.mono (by first | decide | omega)) rfl T.g_kinds_of.m T.g_kinds_of.F.kp T.g_kinds_of.b .nil cM (aa (pv 0) ac)))
  (ad (ar (i:=5) cV.nd rfl (SG rfl) (aW (iT T) (hr.mono (by first | decide | omega)) rfl T.g_kinds_of.m T.g_kinds_of.F.kp T.g_kinds_of.b .nil cM (aa (pv 1) ac)))
  (ad (ar (i:=6) cV.nd rfl (SG rfl) (bB bJ rfl T.n_tuple Tu (aa (cf (N:=[R4 "patterns"]) (js:=[none]) (g:=(aC 0)) (tt:=bn) (te:=(tCB (fun xs H Q=>∃ p ys,xs=[.ref p]/\((SqL K H p ys/\∀ l,H l=none->Q (.ref l) (upd H l (.tup ys)))∨(SqT K H p ys/\Q (.ref p) H))) (bZ (bN 0) eN))) rfl (cL rfl (by decide +kernel) (by decide +kernel) rfl rfl rfl) (uR (pv 3)) (fun _ _ _ _ _ _=>(ay (i:=0) zM rfl (SG rfl))) (bA rfl) (fun _ _ _ _ _ _=>cb) (fun _ _ _ _ _ _=>(bB bJ rfl T.n_tuple Tu (aa (pv 0) ac)))) ac)))
  (ad (aJ (av mV (ao aj rfl T.n_len Sw (aa (pv 6) ac)) (cF (v:=.int (20)) rfl T.c_MOST_STATES.choose_spec ⟨_,rfl⟩) (aw _)) (ag (bF T.X_NoBook T.x_NoBook aA)) aB)
  (ad (bq (aW (eA T) (hr.mono (by first | decide | omega)) rfl T.g_check_pattern.m T.g_check_pattern.F.kp T.g_check_pattern.b .nil cM (aa (pv 5) (aa (pv 2) (aa (ao aj rfl T.n_len Sw (aa (pv 6) ac)) (aa af ac))))))
  (ad (bW WA rfl (dD (pv 6)) (ay (i:=7) cV.nd rfl (SG rfl)) (ag (bq (aW (kO T) (hr.mono (by first | decide | omega)) rfl T.g_check_state.m T.g_check_state.F.kp T.g_check_state.b .nil cM (aa (pv 4) (aa (pv 5) (aa (pv 7) (aa (ao aj rfl T.n_len Sw (aa (pv 6) ac)) ac))))))))
  (ag (ax (b8 (aa (pv 4) (aa (pv 5) (aa (pv 2) (aa (pv 6) ac))))))))))))),?_⟩
 try dsimp only [AM,Af]
 refine hid fun ZZ kZ=>?_;obtain ⟨PQ,B7,PR,PU⟩:=hI;obtain ⟨PV,CZ,PX,PY⟩:=hO;refine kZ ?_;refine ⟨_,rfl,ia,Ar,ins,rfl,⟨PQ,B7,PR,PU⟩,fun gi ti H1 s1 ei=>?_,fun gi H1 s1=>qk (fun z=>by rw [z.1] at gi;cases gi) H1 s1⟩;refine ⟨_,rfl,oa,Ak,outs,rfl,⟨?_,CZ.mono (Same.kt s1),PX,PY⟩,fun go to H2 s2 eo=>?_,fun go H2 s2=>qk (fun z=>by rw [z.2] at go;cases go) H2 (s1.trans s2)⟩
 · rcases PV with h | h
   · exact .inl (s1.seq h)
   · exact .inr (s1.seqT h)
 have Dg:=s1.trans s2;replace q1:=q1 gi go;replace q2:=q2 gi go;refine ⟨_,rfl,ru,rfl,pY (Aq.mono Dg) FC fun D H3 bs s3 eD Dp=>?_⟩;have Cq:rows.length=bs.length:=SK Dp;refine ⟨D,_,rfl,.inl ⟨SqL.of eD,fun rt PZ=>?_⟩⟩;have s4:L2.Same H3 (upd H3 rt (.tup (bs.map V.ref))):=ai PZ _;have e4:(upd H3 rt (.tup (bs.map V.ref))) rt=some (.tup (bs.map V.ref)):=ae;generalize (upd H3 rt (.tup (bs.map V.ref)))=H4 at s4 e4 ⊢;have K9:=s3.trans s4;have EU:=Dg.trans K9;have Nc:To (RowAt H4) rows bs:=P2.mp (fun _ _ e=>e.mono (Same.kt s4)) Dp;have HE:((bs.map V.ref).length:Int)=(rows.length:Nat):=by rw [R5,Cq]
 refine ⟨_,rfl,rt,_,rfl,.inr (SqT.of e4),_,_,rfl,rfl,_,rfl,?_⟩;rw [HE];refine cg (fun c=>?_) (fun c=>?_)
 · refine q2 (fun z=>?_) H4 EU;have:=of_decide_eq_true c;have:=z.1;omega
 have Nd:rows.length<=20:=by
  by_cases z:((rows.length:Nat):Int) > 20
  · exact absurd (decide_eq_true z) c
  · omega
 have K':=K9 _ _ eo;have Nf:=(s2.trans K9) _ _ ei;refine ⟨_,rfl,_,rfl,_,rfl,rt,_,rfl,.inr (SqT.of e4),to,ha,Ak,outs,head,_,1,rfl,SqT.of K',CZ.mono (Same.kt EU),hd.mono (Same.kt EU),PN,?_,?_⟩
 · rw [HE];intro hok H5 s5;dsimp only [xz];have RN:=EU.trans s5;refine ⟨_,rfl,rt,rfl,⟨_,SqT.of (s5 _ _ e4)⟩,?_⟩
   refine lg (K:=K) (a:=rt) (xs:=bs.map V.ref) (fun i σ H6=>Ex1 fun c7=>An3 (σ=[some (.ref ia),some (.ref oa),some (.ref ha),some (.ref ru),some (.ref ti),some (.ref to),some (.ref rt),c7]) (L2.Same H4 H6) (∀ row∈rows.take i,lq ins outs (rows.length:Nat) row))
    ⟨none,rfl,s5,fun row h=>by rw [Vb] at h;cases h⟩ (fun i σ H6 _ ⟨_,_,s6,_⟩=>SqT.of (s6 _ _ e4)) ?_ ?_
   · rintro i x σ H6 hx ⟨c7,rfl,s6,Ah⟩;refine hid fun ZZ kZ=>?_;obtain ⟨ra,rfl,Dh⟩:=bH hx;obtain ⟨row,Ac,Ae,er,AS⟩:=P2.get' Nc Dh;refine kZ ?_;have Jz:=Sd Ac;have La:=EU.trans s6;refine ⟨_,rfl,_,rfl,_,rfl,_,rfl,rt,_,rfl,.inr (SqT.of (s6 _ _ e4)),ti,to,ra,Ar,Ak,Ae,ins,outs,row,_,rfl,SqT.of (s6 _ _ Nf),B7.mono (Same.kt La),SqT.of (s6 _ _ K'),CZ.mono (Same.kt La),s6 _ _ er,AS.mono (Same.kt s6),K8 row Jz,?_,?_⟩
     · rw [HE];intro AI H7 s7;refine ⟨_,rfl,s6.trans s7,fun r' BP=>?_⟩;rw [take_snoc Ac] at BP;rcases Sv.mp BP with BP | BP
       · exact Ah r' BP
       · rw [Sy.mp BP];exact AI
     · rw [HE];intro AI H7 s7;exact q2 (fun z=>AI (z.2.2 row Jz)) H7 (La.trans s7)
   · rintro σ H6 ⟨c7,rfl,s6,Ah⟩;rw [S7 (by rw [R5];omega)] at Ah;refine ⟨_,rfl,_,rfl,_,rfl,_,rfl,am (by show 4<=1000000;decide),fun r BP=>?_⟩;have s7:=s6.trans (ai BP (.tup [.ref ti,.ref to,.ref ha,.ref rt]));have JA:=EU.trans s7;exact q1 ⟨Nd,hok,Ah⟩ r _ JA ⟨ti,to,ha,rt,Ar,Ak,bs,ae,s7 _ _ Nf,B7.mono (Same.kt JA),s7 _ _ K',CZ.mono (Same.kt JA),hd.mono (Same.kt JA),s7 _ _ e4,P2.mp (fun _ _ e=>e.mono (Same.kt s7)) Nc⟩
 · rw [HE];intro hok H5 s5;exact q2 (fun z=>hok z.2.1) H5 (EU.trans s5)
def qa:Sp:=fun vs H Q _=>∃ z:Ss,vs=[.str z]/\z.length<=20000/\∀ (r:Sa) (H':Hp),L2.Same H H'->H r=none->H' r=some (.lst ((BB.wordsOf z).map V.str))->Q (.ref r) H'
theorem ee (c:Nat) (z:List Nat) (hz:z.length=3) (l:List Nat):(cC c z l).length<=3 * l.length:=by
 unfold cC;induction l with
 | nil=>simp
 | cons d l ih =>
   rw [UP,Sm,R7];split
   · omega
   · show 1+_<=_;omega
theorem cy (l:List Nat):(ofL l).length=l.length:=by unfold ofL;show l.toArray.size=l.length;simp
theorem pA (l:List (List Nat)):(l.map ofL).filter (fun x=>!decide (V.str x=V.str (R4 "")))=(l.filter fun p=>!p.isEmpty).map ofL:=by
 induction l with
 | nil=>rfl
 | cons p l ih =>
   rw [Sl,VS,VS,ih];cases p with
   | nil=>rfl
   | cons d p =>
     have:decide (V.str (ofL (d::p))=V.str (R4 ""))=false:=decide_eq_false fun z=>by
      have h1:=congrArg (fun w:Ss=>w.cps.toList) (V.str.inj z);rw [show (ofL (d::p)).cps.toList=d::p from aG _] at h1;cases h1
     rw [this];rfl
set_option maxHeartbeats 1000000 in
theorem qq:bj P w K mg base CX0 1 T.g_words_of.f T.g_words_of.d ["text"] qa:=by
 refine T.g_words_of.F.ok gq (fun vs H Q E h=>?_) (fun Aj A outer s H vs Q E hr h=>?_)
 · obtain ⟨z,rfl,_⟩:=h;rfl
 obtain ⟨z,rfl,hz,q⟩:=h
 refine ⟨_,(ad (ar (i:=1) gq.nd rfl (SG rfl) (pv 0))
  (ad (tu Tt rfl (by decide +kernel) (yC (i:=2) (j:=1) gq.nd rfl rfl (by decide) rfl rfl))
  (ag (ax (cf (N:=[R4 "word"]) (js:=[none]) (g:=(aC 0)) (tt:=(lX (tOp (rNe) (bN 0) (tC (.str (R4 "")))))) (te:=(bN 0)) rfl (cL rfl (by decide +kernel) (by decide +kernel) rfl rfl rfl) (fG (b9 TB Wd Wc mJ (pv 1) (aa aA ac))) (fun _ _ _ _ _ _=>(ay (i:=0) yD rfl (SG rfl))) (bA rfl) (fun _ _ _ _ _ _=>jj (av d4 (pv 0) aA (aw _))) (fun _ _ _ _ _ _=>(pv 0))))))),?_⟩
 try dsimp only [AM,Af]
 refine ⟨_,rfl,?_⟩;dsimp only [aC];have HF:z.cps.toList.length=z.length:=SE;have l1:=ee 40 [32,40,32] rfl z.cps.toList;have l2:=ee 41 [32,41,32] rfl (cC 40 [32,40,32] z.cps.toList);have l3:=ee 44 [32,44,32] rfl (cC 41 [32,41,32] (cC 40 [32,40,32] z.cps.toList));refine ⟨fun i σ H'=>An2 (H'=H) (((i=0/\σ=[some (.str z),some (.str z),none])∨(∃ c,i=1/\σ=[some (.str z),some (.str (ofL (cC 40 [32,40,32] z.cps.toList))),c])∨(∃ c,i=2/\σ=[some (.str z),some (.str (ofL (cC 41 [32,41,32] (cC 40 [32,40,32] z.cps.toList)))),c])∨(∃ c,i=3/\σ=[some (.str z),some (.str (ofL (rep3 z.cps.toList))),c]))),⟨rfl,.inl ⟨rfl,rfl⟩⟩,?_⟩;rintro i σ H' ⟨rfl,⟨rfl,rfl⟩ | ⟨c,rfl,rfl⟩ | ⟨c,rfl,rfl⟩ | ⟨c,rfl,rfl⟩⟩
 · refine .inr ⟨40,rfl,z,40,rfl,rfl,by decide,by omega,rfl,.inr (.inl ⟨_,rfl,rfl⟩)⟩
 · refine .inr ⟨41,rfl,_,41,rfl,rfl,by decide,by rw [cy];omega,rfl,.inr (.inr (.inl ⟨_,rfl,by rw [aG];rfl⟩))⟩
 · refine .inr ⟨44,rfl,_,44,rfl,rfl,by decide,by rw [cy];omega,rfl,.inr (.inr (.inr ⟨_,rfl,by rw [aG];rfl⟩))⟩
 · refine .inl ⟨rfl,?_⟩;refine ⟨_,rfl,rfl,ofL (rep3 z.cps.toList),R4 " ",rfl,rfl,rfl,by rw [cy];unfold rep3;omega,fun p hp=>?_⟩
   have BV:UL (ofL (rep3 z.cps.toList)) (R4 " ")=(aF 32 (rep3 z.cps.toList)).map ofL:=by
    have h1:R4 " "=⟨#[32]⟩:=rfl;rw [h1,jK _ (by decide),aG]
   have FD:(aF 32 (rep3 z.cps.toList)).length<=1000000:=by
    have hle:∀ l:List Nat,(aF 32 l).length<=l.length+1:=by
     intro l;induction l with
     | nil=>exact Sg _
     | cons d l ih =>
       rw [aF];obtain ⟨p,r,e⟩:=cj 32 l;rw [e] at ih ⊢;rw [R7] at ih;split
       · rw [R7,R7,R7];omega
       · rw [R7,R7];omega
    have:=hle (rep3 z.cps.toList);unfold rep3 at this ⊢;omega
   have s1:L2.Same H' (upd H' p (.lst ((UL (ofL (rep3 z.cps.toList)) (R4 " ")).map V.str))):=ai hp _;have e1:(upd H' p (.lst ((UL (ofL (rep3 z.cps.toList)) (R4 " ")).map V.str))) p=some (.lst (((aF 32 (rep3 z.cps.toList)).map ofL).map V.str)):=by rw [ae,BV]
   generalize (upd H' p (.lst ((UL (ofL (rep3 z.cps.toList)) (R4 " ")).map V.str)))=H1 at s1 e1 ⊢;refine ⟨p,rfl,⟨_,SqL.of e1⟩,fv ((aF 32 (rep3 z.cps.toList)).map ofL) (fun x=>!decide (V.str x=V.str (R4 ""))) V.str (SqL.of e1) (by rw [R5,R5,R5]) (by rw [R5,R5];exact FD) (fun i x y H2 R hx hy sm r=>?_) (fun i x y H2 R hx hy _ sm r=>?_) (fun D hD=>?_)⟩
   · rw [So,hy] at hx;cases hx;exact ⟨_,rfl,rfl,_,rfl,r⟩
   · rw [So,hy] at hx;cases hx;exact ⟨_,rfl,r⟩
   · rw [pA];exact q D _ (s1.trans (ai hD _)) (s1.free hD) ae
def kU (C:Sa):Sp:=fun vs H Q E=>∃ z:Ss,vs=[.str z]/\z.length<=100000/\(∀ n:Int,jP z=some n->∀ H',L2.Same H H'->Q (.int n) H')/\(jP z=none->∀ H',L2.Same H H'->E (.ref C) none H')
def jD (c:Nat):Bool:=decide (48<=c) && decide (c<=57)
theorem dR {z:Ss}:isNum z=true↔(1<=z.length/\z.length<=3)/\((sL z).filter jD).length=z.length/\((sL z).head?=some 48->z=R4 "0"):=by
 unfold isNum;rw [Tr,Tr,Xm,decide_eq_true_iff,decide_eq_true_iff,decide_eq_true_iff,<- bV z,List.length_filter_eq_length_iff,Tv];have h0:z=R4 "0"↔sL z=[48]:=⟨fun e=>by rw [e];decide +kernel,fun e=>cq (by show sL z=_;rw [e];decide +kernel)⟩;rw [h0]
 have h1:(∀ x∈sL z,decide (48<=x/\x<=57)=true)↔∀ x∈sL z,jD x=true:=by
  refine forall_congr' fun x=>forall_congr' fun _=>?_;unfold jD;rw [Tr,decide_eq_true_iff,decide_eq_true_iff,decide_eq_true_iff]
 rw [h1,and_assoc];refine and_congr_right fun _=>and_congr_right fun _=>⟨fun h e=>h.elim (fun k=>absurd e k) id,fun h=>?_⟩;by_cases e:(sL z).head?=some 48
 · exact .inr (h e)
 · exact .inl e
set_option maxHeartbeats 1000000 in
theorem cD:bj P w K mg base (CX1 P w) 1 T.g_read_number.f T.g_read_number.d ["word"] (kU T.e_NoText):=by
 refine T.g_read_number.F.ok1 gp (fun vs H Q E h=>?_) (fun Aj A outer s H vs Q E hr h=>?_)
 · obtain ⟨z,rfl,_⟩:=h;rfl
 obtain ⟨z,rfl,HF,q,qe⟩:=h
 refine ⟨_,(ad (lm (i:=1) (N:=[R4 "sign"]) (js:=[none]) (g:=(aC 0)) (tt:=(lX (oo (v0) (v0) (tC (.str (R4 "0"))) (bN 0) (tC (.str (R4 "9")))))) (te:=(bN 0)) gp.nd rfl (SG rfl) rfl (cL rfl (by decide +kernel) (by decide +kernel) rfl rfl rfl) (vX (pv 0)) (fun _ _ _ _ _ _=>(ay (i:=0) yV rfl (SG rfl))) (bA rfl) (fun _ _ _ _ _ _=>jj (jf gE gE aA (pv 0) aA)) (fun _ _ _ _ _ _=>(pv 0)))
  (ad (aJ (PW.pt (eG (ck (jf fQ fQ af (ao dL rfl T.n_len Sw (aa (pv 0) ac)) (cF (v:=.int (3)) rfl T.c_MOST_FIGURES.choose_spec ⟨_,rfl⟩))) (eg (av d4 (ao aj rfl T.n_len Sw (aa (pv 1) ac)) (ao dL rfl T.n_len Sw (aa (pv 0) ac)) (aw _))))) (ag (bF T.X_NoText T.x_NoText aA)) aB)
  (ad (aJ (PW.pt (oH (av cz (au ou (pv 0) af (fun _ _=>rfl)) aA (aw _)) (ll (av d4 (pv 0) aA (aw _))))) (ag (bF T.X_NoText T.x_NoText aA)) aB)
  (ag (ax (bB tI rfl T.n_int PyProof.Rows.boot_int (aa (pv 0) ac))))))),?_⟩
 try dsimp only [AM,Af]
 have Az:z.cps.size=z.length:=rfl;have hb:¬ isNum z=true->∀ H',L2.Same H H'->E (.ref T.e_NoText) none H':=fun h=>qe (tK.mpr (Ud.mpr h));refine ⟨_,rfl,z,rfl,oA (xs:=z.cps.toList.map fun c=>V.str ⟨#[c]⟩) z.cps.toList jD (fun c=>V.str ⟨#[c]⟩) (by rw [R5]) (by rw [R5,SE];omega) (fun i Hx sx hi=>by rw [R5,SE] at hi;exact hi) (fun Hx sx=>by rw [R5,SE];exact rfl) (fun i Hx x Hy sx hi hy=>?_) (fun i x c Hx R hx hc sx hR=>?_) (fun i x c Hx R hx hc _ sx hR=>?_) (fun D hD=>?_)⟩
 · obtain ⟨e,c,hc,rfl⟩:=hy;exact ⟨e,by rw [So,VL,hc];rfl⟩
 · rw [So,hc] at hx;cases hx;refine ⟨_,rfl,_,_,rfl,rfl,_,rfl,?_⟩;rw [show (R4 "0").cps.toList=[48] by decide +kernel,oN 48 c];unfold jD at hR;cases c1:decide (48<=c) with
   | false=>rw [c1] at hR;exact bo ⟨_,rfl,hR⟩
   | true =>
     rw [c1] at hR;refine bG ⟨_,_,rfl,rfl,?_⟩;rw [show (R4 "9").cps.toList=[57] by decide +kernel,oN c 57];exact ⟨_,rfl,hR⟩
 · rw [So,hc] at hx;cases hx;exact ⟨_,rfl,hR⟩
 have s1:L2.Same H (upd H D (.lst ((z.cps.toList.filter jD).map fun c=>V.str ⟨#[c]⟩))):=ai hD _;have e1:(upd H D (.lst ((z.cps.toList.filter jD).map fun c=>V.str ⟨#[c]⟩))) D=some (.lst ((z.cps.toList.filter jD).map fun c=>V.str ⟨#[c]⟩)):=ae;generalize (upd H D (.lst ((z.cps.toList.filter jD).map fun c=>V.str ⟨#[c]⟩)))=H1 at s1 e1 ⊢;dsimp only [aC];have Gd:(((z.cps.toList.filter jD).map fun c=>V.str ⟨#[c]⟩).length:Int)=(((sL z).filter jD).length:Nat):=by rw [R5];rfl
 refine ⟨_,rfl,z,rfl,am (by omega),_,_,rfl,rfl,_,rfl,?_⟩;by_cases c1:1<=z.length
 case neg =>
  rw [decide_eq_false (show ¬ (1:Int)<=((z.length:Nat):Int) by omega)];exact bo ⟨_,rfl,bG (hb (fun h=>c1 (dR.mp h).1.1) H1 s1)⟩
 rw [decide_eq_true (show (1:Int)<=((z.length:Nat):Int) by omega)];refine bG ⟨_,_,rfl,rfl,_,rfl,?_⟩;by_cases c2:z.length<=3
 case neg =>
  rw [decide_eq_false (show ¬ ((z.length:Nat):Int)<=3 by omega)];exact bG (hb (fun h=>c2 (dR.mp h).1.2) H1 s1)
 rw [decide_eq_true (show ((z.length:Nat):Int)<=3 by omega)];refine bo ?_;refine ⟨_,rfl,D,_,rfl,.inl (SqL.of e1),_,rfl,z,rfl,am (by omega),rfl,_,rfl,?_⟩;rw [Gd];by_cases c3:((sL z).filter jD).length=z.length
 case neg =>
  rw [decide_eq_false (show ¬ V.int (((sL z).filter jD).length:Nat)=V.int (z.length:Nat) from fun e=>c3 (by have:=V.int.inj e;omega))];exact bG (hb (fun h=>c3 (dR.mp h).2.1) H1 s1)
 rw [c3,decide_eq_true rfl];refine bo ?_;dsimp only [cX]
 obtain ⟨c,l,Bc⟩:∃ c l,sL z=c::l:=by
  cases e:sL z with
  | nil=>rw [<- bV,e] at c1;exact absurd c1 (by decide)
  | cons c l=>exact ⟨c,l,rfl⟩
 refine ⟨_,rfl,z,0,c,rfl,rfl,am (by omega),by rw [show z.cps.toList=c::l from Bc];exact at_nonneg (by decide) rfl,rfl,_,rfl,?_⟩
 have AL:isNum z=true->∃ n,Xw z=some n/\Q (.int n) H1:=fun h=>by
  obtain ⟨m,hm,e⟩:=rT h;have k:jP z=some ((m:Nat):Int):=bQ.mpr ⟨e,by omega,by omega⟩;refine ⟨_,?_,q _ k H1 s1⟩;unfold jP at k;rw [if_pos h] at k;exact k
 have JB:(sL z).head?=some c:=by rw [Bc];rfl
 refine cg (fun c4=>?_) (fun c4=>?_)
 · have c':(⟨#[c]⟩:Ss)=R4 "0":=V.str.inj (of_decide_eq_true c4)
   have Lb:c=48:=by
    have:=congrArg (fun x:Ss=>x.cps.toList) c';rw [show (R4 "0").cps.toList=[48] by decide +kernel] at this;exact List.head_eq_of_cons_eq this
   refine ⟨_,rfl,rfl,_,rfl,?_⟩;by_cases c5:z=R4 "0"
   · rw [decide_eq_true (show V.str z=V.str (R4 "0") by rw [c5])];refine bo ?_;obtain ⟨n,hi,hq⟩:=AL (dR.mpr ⟨⟨c1,c2⟩,c3,fun _=>c5⟩);exact ⟨_,rfl,z,n,rfl,hi,by omega,hq⟩
   · rw [decide_eq_false (show ¬ V.str z=V.str (R4 "0") from fun e=>c5 (V.str.inj e))];exact bG (hb (fun h=>c5 ((dR.mp h).2.2 (by rw [JB,Lb]))) H1 s1)
 · have Lb:c≠48:=fun z=>c4 (decide_eq_true (by rw [z];exact congrArg V.str (by decide +kernel)));obtain ⟨n,hi,hq⟩:=AL (dR.mpr ⟨⟨c1,c2⟩,c3,fun e=>by rw [JB] at e;exact absurd (Su e) Lb⟩);exact ⟨_,rfl,z,n,rfl,hi,by omega,hq⟩
def StV (H:Hp):Stp->V->Prop
 | .sg c,v=>v=.str c
 | .th t,v=>∃ a,v=.ref a/\At H t a
theorem StV.mono {H H':Hp} (k:KT H H'):∀ {x:Stp} {v:V},StV H x v->StV H' x v
 | .sg c,v,h=>h
 | .th t,v,⟨a,e,h⟩=>⟨a,e,h.mono k⟩
inductive fY (C:Sa) (vs:List V) (H:Hp) (Q:VK) (E:XK):Prop
 | mk (wl:Sa) (ws:List Ss) (Au:vs=[.ref wl]) (Av:H wl=some (.lst (ws.map V.str))) (AF:(∀ x∈ws,x.length<=100000)) (AR:(∀ a b:Int,kj ws=some (.th (.call a b))->∀ (r:Sa) (H':Hp),L2.Same H H'->At H' (.call a b) r->Q (.ref r) H')) (Bs:(kj ws=none->∀ H',L2.Same H H'->E (.ref C) none H')):fY C vs H Q E
def m7 (C:Sa):Sp:=fY C
inductive ij (C:Sa) (vs:List V) (H:Hp) (Q:VK) (E:XK):Prop
 | mk (wl:Sa) (ws:List Ss) (Au:vs=[.ref wl]) (Av:H wl=some (.lst (ws.map V.str))) (AF:ws.length<=100000) (AR:(∀ x∈ws,x.length<=100000)) (Bs:(∀ l:List Stp,iF ws=some l->∀ (r:Sa) (xs:List V) (H':Hp),L2.Same H H'->H' r=some (.lst xs)->To (StV H') l xs->Q (.ref r) H')) (Ci:(iF ws=none->∀ H',L2.Same H H'->E (.ref C) none H')):ij C vs H Q E
def oK (C:Sa):Sp:=ij C
theorem in3 (c:Ss):inV (.str c) [.str (R4 "("),.str (R4 ","),.str (R4 ")")]=decide (pN c):=by
 have e:∀ d:Ss,eqV (.str d) (.str c)=decide (c=d):=fun d=>by
  show (d == c)=_;by_cases h:c=d
  · subst h;simp
  · rw [decide_eq_false h];exact beq_false_of_ne fun z=>h z.symm
 unfold inV;simp only [List.any_cons,List.any_nil,Bool.or_false,e];rw [<- Bool.decide_or,<- Bool.decide_or];rfl
def StX (H:Hp) (ws:List Ss) (wl sl:Sa) (m:Nat) (σ:St) (H2:Hp):Prop:=∃ (i n:Nat) (l:List Stp) (xs:List V),σ=[some (.ref wl),some (.ref sl),some (.int (i:Nat))]/\L2.Same H H2/\H2 sl=some (.lst xs)/\To (StV H2) l xs/\i<=ws.length/\l.length<=i/\m=ws.length - i/\(ws.drop i).length<=n/\iF ws=(b6 n (ws.drop i)).map (l++·)
def StY (H:Hp) (ws:List Ss) (wl sl:Sa) (i:Nat) (σ:St) (H2:Hp):Prop:=∃ m',m'<ws.length - i/\StX H ws wl sl m' σ H2
set_option maxHeartbeats 1000000 in
theorem nn:bj P w K mg base (CX1 P w) 2 T.g_read_call.f T.g_read_call.d ["words"] (m7 T.e_NoText):=by
 refine T.g_read_call.F.ok1 pj (fun vs H Q E h=>?_) (fun Aj A outer s H vs Q E hr h=>?_)
 · obtain ⟨wl,ws,rfl,_⟩:=h;rfl
 obtain ⟨wl,ws,rfl,e,hle,q,qe⟩:=h
 refine ⟨_,(ad (aJ (PW.pt (eG (av d4 (ao aj rfl T.n_len Sw (aa (pv 0) ac)) af (aw _)) (eg (av d4 (au aI (pv 0) af (fun _ _=>rfl)) aA (aw _))))) (ag (bF T.X_NoText T.x_NoText aA)) aB)
  (ag (ax (b8 (aa (cF (v:=.str (R4 "?")) rfl T.c_CALL_SIGN.choose_spec ⟨_,rfl⟩) (aa (aW (cD T) (hr.mono (by first | decide | omega)) rfl T.g_read_number.m T.g_read_number.F.kp T.g_read_number.b .nil cM (aa (au aI (pv 0) af (fun _ _=>rfl)) ac)) (aa (aW (cD T) (hr.mono (by first | decide | omega)) rfl T.g_read_number.m T.g_read_number.F.kp T.g_read_number.b .nil cM (aa (au aI (pv 0) af (fun _ _=>rfl)) ac)) ac))))))),?_⟩
 try dsimp only [AM,Af]
 refine ⟨_,rfl,wl,_,rfl,.inl (SqL.of e),rfl,_,rfl,?_⟩;by_cases c1:∃ x d y,ws=[x,d,y]
 case neg =>
  have B8:ws.length≠3:=fun z=>c1 (by
   match ws,z with
   | [x,d,y],_=>exact ⟨x,d,y,rfl⟩)
  rw [R5,decide_eq_false (show ¬ V.int ((ws.length:Nat):Int)=V.int 3 from fun z=>B8 (by have:=V.int.inj z;omega))];refine bG (qe ?_ H (.refl _))
  match ws,B8 with
  | [],_=>rfl
  | [_],_=>rfl
  | [_,_],_=>rfl
  | [_,_,_],z=>exact absurd rfl z
  | _::_::_::_::_,_=>rfl
 obtain ⟨x,d,y,rfl⟩:=c1;refine bo ?_;refine ⟨_,rfl,wl,_,1,.str d,rfl,rfl,SqL.of e,at1,rfl,_,rfl,?_⟩;by_cases c2:d=dot
 case neg =>
  rw [decide_eq_false (show ¬ V.str d=V.str (R4 ".") from fun z=>c2 (V.str.inj z))];exact bG (qe (by rw [kj,if_neg c2]) H (.refl _))
 subst c2;rw [decide_eq_true (show V.str dot=V.str (R4 ".") from rfl)];refine bo ?_;dsimp only [cX];rw [kj,if_pos rfl] at q qe;refine ⟨_,rfl,wl,_,0,.str x,rfl,rfl,SqL.of e,at0,x,rfl,hle x (by simp),fun a ha H1 s1=>?_,fun ha H1 s1=>qe (by rw [ha]) H1 s1⟩;rw [ha] at q qe;refine ⟨_,rfl,wl,_,2,.str y,rfl,rfl,SqL.of (s1 _ _ e),at2,y,rfl,hle y (by simp),fun b hb H2 s2=>?_,fun hb H2 s2=>qe (by rw [hb]) H2 (s1.trans s2)⟩;rw [hb] at q;refine ⟨am (by show 3<=1000000;decide),fun r BP=>q a b rfl r _ (s1.trans (s2.trans (ai BP _))) ?_⟩;rw [At];exact ae
set_option maxHeartbeats 2000000 in
theorem o4:bj P w K mg base (CX1 P w) 3 T.g_steps_of.f T.g_steps_of.d ["words"] (oK T.e_NoText):=by
 refine T.g_steps_of.F.ok1 cP (fun vs H Q E h=>?_) (fun Aj A outer s H vs Q E hr h=>?_)
 · obtain ⟨wl,ws,rfl,_⟩:=h;rfl
 obtain ⟨wl,ws,rfl,ew,hlen,hle,kq,ke⟩:=h
 refine ⟨_,(ad (ar (i:=1) cP.nd rfl (SG rfl) (bM ac))
  (ad (ar (i:=2) cP.nd rfl (SG rfl) af)
  (ad (lC WA (av eK (pv 2) (ao aj rfl T.n_len Sw (aa (pv 0) ac)) (aw _)) (ag (aJ (av nW (au aI (pv 0) (pv 2) (fun _ _=>rfl)) (b8 (aa aA (aa aA (aa aA ac)))) (by with_unfolding_all rfl)) (ad (bq (b9 SS Tb Ta aZ (pv 1) (aa (au aI (pv 0) (pv 2) (fun _ _=>rfl)) ac)))
  (ag (rC (i:=2) cP.nd rfl (SG rfl) af pi))) (ag (aJ (aN (pcF T.g_is_name (iq T) hr (aa (au aI (pv 0) (pv 2) (fun _ _=>rfl)) ac)) (fun _=>rfl)) (ad (bq (b9 SS Tb Ta aZ (pv 1) (aa (b8 (aa (au aI (pv 0) (pv 2) (fun _ _=>rfl)) ac)) ac)))
  (ag (rC (i:=2) cP.nd rfl (SG rfl) af pi))) (ad (bq (b9 SS Tb Ta aZ (pv 1) (aa (aW (nn T) (hr.mono (by first | decide | omega)) rfl T.g_read_call.m T.g_read_call.F.kp T.g_read_call.b .nil cM (aa (aQ ce (pv 0) (aY (pv 2)) (aY (al bc (pv 2) af))) ac)) ac)))
  (ag (rC (i:=2) cP.nd rfl (SG rfl) af pi))))))))
  (ag (ax (pv 1)))))),?_⟩
 try dsimp only [AM,Af]
 refine ⟨am (by show 0<=1000000;decide),fun sl CG=>?_⟩;have s1:L2.Same H (upd H sl (.lst [])):=ai CG _;have e1:(upd H sl (.lst [])) sl=some (.lst []):=ae;generalize (upd H sl (.lst []))=H1 at s1 e1 ⊢;dsimp only [aC];refine ⟨StX H ws wl sl,⟨_,0,ws.length,[],[],rfl,s1,e1,.nil,Td _,Sg _,rfl,by rw [Uv];exact Sg _,by rw [Uv];show b6 _ _=_;cases b6 ws.length ws <;> rfl⟩,?_⟩;rintro m σ H2 ⟨i,n,l,xs,rfl,s2,e2,Jr,hi,Kr,rfl,hn,AI⟩;have Gh:=s2 _ _ ew;have Ng:l.length=xs.length:=SK Jr;refine ⟨_,rfl,_,rfl,wl,_,rfl,.inl (SqL.of Gh),_,_,rfl,rfl,_,rfl,?_⟩;by_cases Bo:i<ws.length
 case neg =>
  have Lc:i=ws.length:=by omega
  subst Lc;rw [W9] at AI;have h0:b6 n []=some []:=by cases n <;> rfl
  rw [h0] at AI;rw [R5,decide_eq_false (fun z=>by omega)];exact bo ⟨_,rfl,kq l (AI.trans (by rw [Option.map_some,SM])) sl xs H2 s2 e2 Jr⟩
 rw [R5,decide_eq_true (show ((i:Nat):Int)<((ws.length:Nat):Int) by omega)];refine bG ⟨StY H ws wl sl i,fun f' H' h=>h,?_⟩;obtain ⟨w0,JC⟩:∃ w0,ws[i]?=some w0:=⟨_,R6 Bo⟩
 have DU:ws.drop i=w0::ws.drop (i+1):=by
  rw [US Bo];rw [R6 Bo] at JC;rw [Su JC]
 have CQ:=hle w0 (Sd JC);rw [DU] at hn AI;rw [R7,Tf] at hn;obtain ⟨n,rfl⟩:∃ n',n=n'+1:=⟨n - 1,by omega⟩;rw [b6] at AI;have AS:atI (ws.map V.str) ((i:Nat):Int)=some (.str w0):=at_nonneg (by omega) (by rw [Uc,So,JC];rfl);have Nh:xs.length<=200000:=by omega
 have fin:∀ (x:Stp) (k:Nat) (v:V) (H3:Hp),0<k->i+k<=ws.length->iF ws=((b6 n (ws.drop (i+k))).map (x::·)).map (l++·)->L2.Same H2 H3->StV H3 x v->StY H ws wl sl i [some (.ref wl),some (.ref sl),some (.int (((i:Nat):Int)+((k:Nat):Int)))] (upd H3 sl (.lst (xs++[v]))):=fun x k v H3 CL hk hs s3 hv=>by
  have e3:=s3 _ _ e2;have k4:KT H3 (upd H3 sl (.lst (xs++[v]))):=bD e3;refine ⟨_,by omega,i+k,n,l++[x],xs++[v],by push_cast;rfl,aH (s2.trans s3) CG,ae,?_,hk,by rw [Sm,Tn];omega,rfl,by rw [Tf];omega,?_⟩
  · exact P2.append (P2.mp (fun _ _ e=>StV.mono ((Same.kt s3).trans k4) e) Jr) (.cons (StV.mono k4 hv) .nil)
  · rw [hs,Option.map_map];congr 1;funext r;show l++(x::r)=(l++[x])++r;rw [SO];rfl
 refine ⟨_,rfl,_,rfl,wl,_,_,.str w0,rfl,rfl,SqL.of Gh,AS,am (by show 3<=1000000;decide),fun tp Gi=>?_⟩;have s3:L2.Same H2 (upd H2 tp (.tup [.str (R4 "("),.str (R4 ","),.str (R4 ")")])):=ai Gi _;have e3:(upd H2 tp (.tup [.str (R4 "("),.str (R4 ","),.str (R4 ")")])) tp=some (.tup [.str (R4 "("),.str (R4 ","),.str (R4 ")")]):=ae;generalize (upd H2 tp (.tup [.str (R4 "("),.str (R4 ","),.str (R4 ")")]))=H3 at s3 e3 ⊢;refine ⟨tp,_,rfl,.inr (SqT.of e3),rfl,rfl,_,rfl,?_⟩;rw [if_neg Sz,in3];by_cases c1:pN w0
 · rw [decide_eq_true c1];rw [if_pos c1] at AI;refine bG ?_;have Ni:=s3 _ _ e2;refine ⟨_,rfl,.inl ⟨rfl,_,SqL.of Ni⟩,_,rfl,_,rfl,wl,_,_,.str w0,rfl,rfl,SqL.of (s3 _ _ Gh),AS,sl,_,_,rfl,rfl,Ni,bi (by omega),?_⟩;exact ⟨_,rfl,_,_,rfl,rfl,fin (.sg w0) 1 _ H3 (by decide) Bo AI s3 rfl⟩
 rw [decide_eq_false c1];rw [if_neg c1] at AI;refine bo ?_;refine ⟨_,rfl,_,rfl,wl,_,_,.str w0,rfl,rfl,SqL.of (s3 _ _ Gh),AS,w0,rfl,by omega,fun H4 s4=>?_⟩;have BE:=s3.trans s4;have JD:=BE _ _ e2;by_cases c2:aP w0=true
 · rw [c2];rw [if_pos c2] at AI;refine ⟨_,rfl,bG ?_⟩;have P0:w0≠q:=by rintro rfl;exact absurd c2 (by decide +kernel)
   refine ⟨_,rfl,.inl ⟨rfl,_,SqL.of JD⟩,_,rfl,_,rfl,wl,_,_,.str w0,rfl,rfl,SqL.of (BE _ _ Gh),AS,am (by show 1<=1000000;decide),fun np Ct=>?_⟩;have s5:L2.Same H4 (upd H4 np (.tup [.str w0])):=ai Ct _;have e5:(upd H4 np (.tup [.str w0])) np=some (.tup [.str w0]):=ae;generalize (upd H4 np (.tup [.str w0]))=H5 at s5 e5 ⊢;have P1:=s5 _ _ JD;refine ⟨sl,_,_,rfl,rfl,P1,bi (by omega),?_⟩;refine ⟨_,rfl,_,_,rfl,rfl,fin (.th (.knot w0 [])) 1 _ H5 (by decide) Bo AI (BE.trans s5) ⟨np,rfl,?_⟩⟩;rw [At];exact ⟨P0,[],e5,.nil⟩
 · rw [Ud.mpr c2];rw [if_neg c2] at AI;refine ⟨_,rfl,bo ?_⟩;refine ⟨_,rfl,.inl ⟨rfl,_,SqL.of JD⟩,_,rfl,_,rfl,_,rfl,_,rfl,_,_,rfl,rfl,_,rfl,wl,_,rfl,SqL.of (BE _ _ Gh),fun cp P4=>?_⟩
   have Ld:cR (ws.map V.str) (some ((i:Nat):Int)) (some (((i:Nat):Int)+3))=((w0::ws.drop (i+1)).take 3).map V.str:=by
    rw [<- DU];unfold cR;rw [show ((i:Nat):Int)+3=(((i+3:Nat)):Int) by push_cast;rfl,HT.sIx_nat,HT.sIx_nat,R5,Vi (show i<=ws.length by omega),<- Wv,<- V2];congr 1;by_cases hm:i+3<=ws.length
    · rw [Vi hm,show i+3 - i=3 by omega]
    · rw [Nat.min_eq_right (by omega),S7 (by rw [Tf];exact Sg _),S7 (by rw [Tf];omega)]
   rw [Ld];have s5:L2.Same H4 (upd H4 cp (.lst (((w0::ws.drop (i+1)).take 3).map V.str))):=ai P4 _;have e5:(upd H4 cp (.lst (((w0::ws.drop (i+1)).take 3).map V.str))) cp=some (.lst (((w0::ws.drop (i+1)).take 3).map V.str)):=ae;generalize (upd H4 cp (.lst (((w0::ws.drop (i+1)).take 3).map V.str)))=H5 at s5 e5 ⊢;refine ⟨cp,_,rfl,e5,fun x hx=>hle x (by have:=TK hx;rw [<- DU] at this;exact TL this),fun a b Ed r H6 s6 P5=>?_,fun Ed H6 s6=>?_⟩
   · have h3:i+3<=ws.length:=by
      obtain ⟨_,_,_,_,hw⟩:=io.mp Ed;have:=congrArg UZ hw;rw [SR,R7,Tf] at this;have h3:min 3 (ws.length - (i+1)+1)=3:=this;omega
     rw [Ed] at AI;have P6:=(s5.trans s6) _ _ JD;refine ⟨sl,_,_,rfl,rfl,P6,bi (by omega),?_⟩;refine ⟨_,rfl,_,_,rfl,rfl,fin (.th (.call a b)) 3 _ H6 (by decide) h3 ?_ (BE.trans (s5.trans s6)) ⟨r,rfl,P5⟩⟩;rw [AI,List.drop_drop];rfl
   · rw [Ed] at AI;exact ke AI H6 (s2.trans (BE.trans (s5.trans s6)))
def fol (b s:Stp) (d:Int):Bool:=match s with
 | .th _=>!ended b
 | .sg c=>if c=lpar then gP b && decide (d<100) else ended b && decide (0<d)
inductive j5 (vs:List V) (H:Hp) (Q:VK) (_E:XK):Prop
 | mk (bv sv:V) (b s:Stp) (d:Int) (Au:vs=[bv,sv,.int d]) (Av:StV H b bv) (AF:StV H s sv) (AR:Q (.bl (fol b s d)) H):j5  vs H Q _E
def r9:Sp:=j5
set_option maxHeartbeats 1000000 in
theorem re:bj P w K mg base CX0 2 T.g_follows.f T.g_follows.d ["before","step","depth"] r9:=by
 refine T.g_follows.F.ok mF (fun vs H Q E h=>?_) (fun Aj A outer s H vs Q E hr h=>?_)
 · obtain ⟨bv,sv,b,s,d,rfl,_⟩:=h;rfl
 obtain ⟨bv,sv,b,st,d,rfl,hb,hs,kq⟩:=h
 refine ⟨_,(ad (ar (i:=3) mF.nd rfl (SG rfl) (zw (ao (cO (T:="tuple")) rfl T.n_isinstance T5 (aa (pv 0) (aa (eH (v:=.ty "tuple") rfl T.n_tuple Tu rfl) ac))) (fC (cn (jR (jA hr)) (pv 0) aA (aw _)))))
  (ad (aJ (aN (ao (cO (T:="tuple")) rfl T.n_isinstance T5 (aa (pv 1) (aa (eH (v:=.ty "tuple") rfl T.n_tuple Tu rfl) ac))) (fun _=>rfl)) (ag (ax (rW (pv 3)))) aB)
  (ad (aJ (av (jR (jA hr)) (pv 1) aA (aw _)) (ag (ax (dI (ao (cO (T:="tuple")) rfl T.n_isinstance T5 (aa (pv 0) (aa (eH (v:=.ty "tuple") rfl T.n_tuple Tu rfl) ac))) (dI (rW (pcF T.g_is_call (iI T) hr (aa (pv 0) ac))) (fC (cn eK (pv 2) (cF (v:=.int (100)) rfl T.c_MOST_BRACKETS.choose_spec ⟨_,rfl⟩) (aw _))))))) aB)
  (ag (ax (dI (pv 3) (fC (cn mV (pv 2) af (aw _))))))))),?_⟩
 try dsimp only [AM,Af]
 refine bh (fun f' H'=>An2 (H=H') (f'=[some bv,some sv,some (.int d),some (.bl (ended b))])) (fun kk hk=>?_) ?_
 · cases b with
   | sg c =>
     have BA:bv=.str c:=hb;subst BA;refine ⟨_,rfl,_,_,_,rfl,.str c,rE,?_⟩;refine ⟨_,rfl,bo ?_⟩;refine ⟨_,rfl,_,rfl,.inl ⟨c,rfl,?_⟩⟩;exact hk _ _ ⟨rfl,rfl⟩
   | th t =>
     obtain ⟨a,rfl,hA⟩:=hb;obtain ⟨n',r',h3⟩:=hA.tup;refine ⟨_,rfl,_,_,_,rfl,.tup h3,jy,?_⟩;exact ⟨_,rfl,bG (hk _ _ ⟨rfl,rfl⟩)⟩
 rintro f' H' ⟨rfl,rfl⟩;cases st with
 | th t =>
   obtain ⟨a,rfl,hA⟩:=hs;obtain ⟨n',r',h3⟩:=hA.tup;refine ⟨_,rfl,_,_,_,rfl,.tup h3,jy,_,rfl,bG ?_⟩;exact ⟨_,rfl,_,rfl,kq⟩
 | sg c =>
   have P7:sv=.str c:=hs;subst P7;refine ⟨_,rfl,_,_,_,rfl,.str c,rE,_,rfl,bo ?_⟩;dsimp only [cX];refine ⟨_,rfl,_,rfl,.inl ⟨c,rfl,_,rfl,?_⟩⟩;refine cg (fun c1=>?_) (fun c1=>?_)
   · have hc:c=lpar:=of_decide_eq_true c1
     have EV:Q (.bl (gP b && decide (d<100))) H:=by
      have:fol b (.sg c) d=(gP b && decide (d<100)):=if_pos hc;rw [this] at kq;exact kq
     cases b with
     | sg c2 =>
       have BA:bv=.str c2:=hb;subst BA;refine ⟨_,rfl,_,_,_,rfl,.str c2,rE,_,rfl,bo EV⟩
     | th t =>
       obtain ⟨a,rfl,hA⟩:=hb;obtain ⟨n',r',h3⟩:=hA.tup;refine ⟨_,rfl,_,_,_,rfl,.tup h3,jy,_,rfl,bG ?_⟩;refine ⟨_,rfl,a,t,rfl,hA,_,rfl,?_⟩;cases t with
       | call x y=>exact ⟨_,rfl,bo EV⟩
       | knot n ks=>exact ⟨_,rfl,bG ⟨_,rfl,_,_,rfl,rfl,EV⟩⟩
   · have hc:¬ c=lpar:=fun z=>c1 (decide_eq_true z)
     have EV:Q (.bl (ended b && decide (0<d))) H:=by
      have:fol b (.sg c) d=(ended b && decide (0<d)):=if_neg hc;rw [this] at kq;exact kq
     dsimp only [cX];refine ⟨_,rfl,_,rfl,?_⟩;refine cg (fun c2=>?_) (fun c2=>?_)
     · rw [c2,Vt] at EV;exact ⟨_,rfl,_,_,rfl,rfl,EV⟩
     · rw [Ud.mpr c2,Wg] at EV;exact EV
def TpL (H:Hp) (x:Th×Int) (a:Sa):Prop:=∃ ta,H a=some (.lst [.ref ta,.int x.2])/\At H x.1 ta
theorem TpL.keep {H:Hp} {x:Th×Int} {b a:Sa} {o:HO} {xs:List V} (h:TpL H x b) (Ax:b≠a) (ea:H a=some (.lst xs)):TpL (upd H a o) x b:=by
 obtain ⟨ta,h1,h2⟩:=h;exact ⟨ta,by rw [aq Ax];exact h1,h2.mono (bD ea)⟩
theorem TpL.same {H H':Hp} (s:L2.Same H H') {x:Th×Int} {b:Sa} (h:TpL H x b):TpL H' x b:=by
 obtain ⟨ta,h1,h2⟩:=h;exact ⟨ta,s _ _ h1,h2.mono (Same.kt s)⟩
theorem f9 {H:Hp} {a:Sa} {o:HO} {xs:List V} (ea:H a=some (.lst xs)):∀ {tops:List (Th×Int)} {Ae:List Sa},To (TpL H) tops Ae->a∉Ae->To (TpL (upd H a o)) tops Ae
 | _,_,.nil,_=>.nil
 | _,_,.cons h t,hn=>.cons (h.keep (fun z=>hn (by rw [z];exact Sr ..)) ea) (f9 ea t fun z=>hn (Sk _ z))
theorem sX {H:Hp} {f:Int->Int} {a ta:Sa} {m:Int} (ea:H a=some (.lst [.ref ta,.int m])):∀ {tops:List (Th×Int)} {Ae:List Sa} {j:Nat},To (TpL H) tops Ae->Ae.Nodup->Ae[j]?=some a->To (TpL (upd H a (.lst [.ref ta,.int (f m)]))) (pZ tops j f) Ae
 | _,_,j,.nil,_,h=>by cases h
 | x::tops,b::Ae,0,.cons h t,nd,e=>by
   have hb:b=a:=Su e;subst hb;obtain ⟨Nj,h1,h2⟩:=h;rw [ea] at h1;have h3:[V.ref ta,V.int m]=[V.ref Nj,V.int x.2]:=by cases h1;rfl
   have h4:ta=Nj:=by injection h3 with z _;exact V.ref.inj z
   have h5:m=x.2:=by injection h3 with _ z;injection z with z _;exact V.int.inj z
   subst h4;rw [h5] at ea ⊢;exact .cons ⟨ta,ae,h2.mono (bD ea)⟩ (f9 ea t (Uz.mp nd).1)
 | x::tops,b::Ae,j+1,.cons h t,nd,e=>by
   have hm:a∈Ae:=Sd (by simpa using e);have Ax:b≠a:=fun z=>(Uz.mp nd).1 (by rw [z];exact hm);have ih:=sX (f:=f) ea t (Uz.mp nd).2 (j:=j) (by simpa using e);exact .cons (h.keep Ax ea) ih
structure TpI (H0:Hp) (sl tl wl:Sa) (S:PSt) (bv:V) (ws Ae:List Sa) (H:Hp):Prop where
 sm:L2.Same H0 H
 tl0:H0 tl=none
 wl0:H0 wl=none
 tw:tl≠wl
 et:H tl=some (.lst (Ae.map V.ref))
 ew:H wl=some (.lst (ws.map V.ref))
 win:To (fun j a=>Ae[j]?=some a) S.win ws
 tops:To (TpL H) S.tops Ae
 nd:Ae.Nodup
 tas0:∀ a∈Ae,H0 a=none
 tln:tl∉Ae
 wln:wl∉Ae
 bef:StV H S.bef bv
inductive je (K:R8) (C:Sa) (vs:List V) (H:Hp) (Q:VK) (E:XK):Prop
 | mk (sl:Sa) (xs:List V) (steps:List Stp) (Au:vs=[.ref sl]) (Av:H sl=some (.lst xs)) (AF:To (StV H) steps xs) (AR:steps.length<=100000) (Bs:(∀ x∈steps,SOk x)) (Ci:(∀ F,jt steps=some F->∀ (r:Sa) (Ae:List Sa) (H':Hp),L2.Same H H'->H' r=some (.lst (Ae.map V.ref))->To (TpL H') F.tops Ae->Q (.ref r) H')) (Ea:(jt steps=none->∀ H',L2.Same H H'->E (.ref C) none H')):je K C vs H Q E
def pL (K:R8) (C:Sa):Sp:=je K C
def Sh (S:PSt):Prop:=(gP S.bef=true->S.tops≠[])/\(S.bef=.sg lpar->S.win≠[])/\((∃ t,S.bef=.th t)∨S.bef=.sg lpar∨S.bef=.sg comma∨S.bef=.sg rpar)
theorem sq {S:PSt} {x:Stp} (hx:SOk x) (i:gP S.bef=true->S.tops≠[]) (h:bp S x=none):fol S.bef x (S.win.length:Nat)=false:=by
 cases x with
 | th t =>
   rw [bp] at h;by_cases c:ended S.bef=false
   · rw [if_pos c] at h;cases h
   · show (!ended S.bef)=false;cases k:ended S.bef with
     | false=>exact absurd k c
     | true=>rfl
 | sg c =>
   rw [bp] at h;unfold fol;dsimp only;by_cases c1:c=lpar
   · rw [if_pos c1] at h ⊢;by_cases c2:gP S.bef=true/\S.win.length<100/\S.tops≠[]
     · rw [if_pos c2] at h;cases h
     · cases k:gP S.bef with
       | false=>rfl
       | true=>rw [decide_eq_false (show ¬ ((S.win.length:Nat):Int)<100 from fun z=>c2 ⟨k,by omega,i k⟩)];rfl
   · rw [if_neg c1] at h ⊢
     have key:¬ (ended S.bef=true/\S.win≠[]):=fun z=>by
      rcases hx with e | e | e
      · exact c1 e
      · rw [if_pos e,if_pos z] at h;cases h
      · rw [if_neg (fun k=>fg.2.2.1 (e.symm.trans k)),if_pos e,if_pos z] at h;cases h
     cases k:ended S.bef with
     | false=>rfl
     | true =>
       rw [decide_eq_false (show ¬ (0:Int)<((S.win.length:Nat):Int) from fun z=>key ⟨k,fun e=>by rw [e] at z;exact absurd z (by decide)⟩)];rfl
theorem ug {S S':PSt} {x:Stp} (h:bp S x=some S'):fol S.bef x (S.win.length:Nat)=true:=by
 cases x with
 | th t =>
   rw [bp] at h;by_cases c:ended S.bef=false
   · show (!ended S.bef)=true;rw [c];rfl
   · rw [if_neg c] at h;cases h
 | sg c =>
   rw [bp] at h;unfold fol;dsimp only;by_cases c1:c=lpar
   · rw [if_pos c1] at h ⊢;by_cases c2:gP S.bef=true/\S.win.length<100/\S.tops≠[]
     · rw [c2.1,decide_eq_true (show ((S.win.length:Nat):Int)<100 by omega)];rfl
     · rw [if_neg c2] at h;cases h
   · rw [if_neg c1] at h ⊢
     have key:ended S.bef=true/\S.win≠[]:=by
      by_cases c2:c=comma
      · rw [if_pos c2] at h;by_cases c3:ended S.bef=true/\S.win≠[]
        · exact c3
        · rw [if_neg c3] at h;cases h
      · rw [if_neg c2] at h;by_cases c3:c=rpar
        · rw [if_pos c3] at h;by_cases c4:ended S.bef=true/\S.win≠[]
          · exact c4
          · rw [if_neg c4] at h;cases h
        · rw [if_neg c3] at h;cases h
     have:=T3.mpr key.2;rw [key.1,decide_eq_true (show (0:Int)<((S.win.length:Nat):Int) by omega)];rfl
theorem tP {S S':PSt} {x:Stp} (h:bp S x=some S'):S'.bef=x:=by
 cases x with
 | th t=>rw [bp] at h;split at h <;> cases h;rfl
 | sg c =>
   rw [bp] at h;split at h
   · split at h <;> cases h;rfl
   · split at h
     · split at h <;> cases h;rfl
     · split at h
       · split at h <;> cases h;rfl
       · cases h
def TpR (H:Hp) (sl tl wl:Sa) (S S':PSt) (st:Stp) (bv x:V) (i:Nat) (σ:St) (H':Hp):Prop:=∃ (ws Ae:List Sa),σ=[some (.ref sl),some (.ref tl),some (.ref wl),some bv,some x]/\TpI H sl tl wl ⟨S'.tops,S'.win,S.bef⟩ bv ws Ae H'/\Ae.length<=i+1/\ws.length<=i+1/\StV H' st x
set_option maxHeartbeats 2000000 in
theorem qs:bj P w K mg base (CX1 P w) 3 T.g_tops_of.f T.g_tops_of.d ["steps"] (pL K T.e_NoText):=by
 refine T.g_tops_of.F.ok1 di (fun vs H Q E h=>?_) (fun Aj A outer s H vs Q E hr h=>?_)
 · obtain ⟨sl,xs,steps,rfl,_⟩:=h;rfl
 obtain ⟨sl,xs,steps,rfl,es,AI,hlen,hok,kq,ke⟩:=h
 refine ⟨_,(ad (ar (i:=1) di.nd rfl (SG rfl) (bM ac))
  (ad (ar (i:=2) di.nd rfl (SG rfl) (bM ac))
  (ad (ar (i:=3) di.nd rfl (SG rfl) aA)
  (ad (bW WA rfl (fG (pv 0)) (ay (i:=4) di.nd rfl (SG rfl)) (ad (aJ (ck (aN (pcF T.g_follows (re T) hr (aa (pv 3) (aa (pv 4) (aa (ao aj rfl T.n_len Sw (aa (pv 2) ac)) ac)))) (fun _=>rfl))) (ag (bF T.X_NoText T.x_NoText aA)) aB)
  (ad (aJ (av (jR (jA hr)) (pv 4) aA (aw _)) (ad (fX af (l7 (au aI (pv 1) (qu mU af) (fun _ _=>rfl)) af set_list))
  (ag (bq (b9 SS Tb Ta aZ (pv 2) (aa (au aI (pv 1) (qu mU af) (fun _ _=>rfl)) ac))))) (ag (aJ (av (jR (jA hr)) (pv 4) aA (aw _)) (ag (w8 (au aI (pv 2) (qu mU af) (fun _ _=>rfl)) af vH af pi set_list)) (ag (aJ (av (jR (jA hr)) (pv 4) aA (aw _)) (ag (bq (mC SS Wm Wk oO (pv 2)))) (ag (bq (b9 SS Tb Ta aZ (pv 1) (aa (bM (aa (pv 4) (aa af ac))) ac)))))))))
  (ag (ar (i:=3) di.nd rfl (SG rfl) (pv 4))))))
  (ad (aJ (PW.pt (eG (aN (pv 2) (fun _=>rfl)) (eg (av (jR (jA hr)) (pv 3) aA (aw _))))) (ag (bF T.X_NoText T.x_NoText aA)) aB)
  (ag (ax (pv 1)))))))),?_⟩
 try dsimp only [AM,Af]
 have CG:steps.length=xs.length:=SK AI;refine ⟨am (by show 0<=1000000;decide),fun tl Bw=>?_⟩;have s1:L2.Same H (upd H tl (.lst [])):=ai Bw _;have e1:(upd H tl (.lst [])) tl=some (.lst (([]:List Sa).map V.ref)):=ae;generalize (upd H tl (.lst []))=H1 at s1 e1 ⊢;refine ⟨am (by show 0<=1000000;decide),fun wl CQ=>?_⟩;have s2:L2.Same H1 (upd H1 wl (.lst [])):=ai CQ _;have e2:(upd H1 wl (.lst [])) wl=some (.lst (([]:List Sa).map V.ref)):=ae;generalize (upd H1 wl (.lst []))=H2 at s2 e2 ⊢;have P8:tl≠wl:=fun z=>by rw [z,CQ] at e1;cases e1
 dsimp only [aC];refine ⟨_,rfl,sl,rfl,⟨_,SqL.of ((s1.trans s2) _ _ es)⟩,?_⟩
 refine qD (K:=K) (a:=sl) (xs:=xs) (fun i σ H3=>Ex5 fun (sv:Option V) (S:PSt) (bv:V) (ws Ae:List Sa)=>An6 (σ=[some (.ref sl),some (.ref tl),some (.ref wl),some bv,sv]) (TpI H sl tl wl S bv ws Ae H3) (prun ⟨[],[],.sg comma⟩ steps=prun S (steps.drop i)) (Sh S) (Ae.length<=i) (ws.length<=i))
  ⟨none,⟨[],[],.sg comma⟩,.str comma,[],[],rfl,⟨s1.trans s2,Bw,s1.free CQ,P8,s2 _ _ e1,e2,.nil,.nil,WM,(fun a h=>by cases h),Up,Up,rfl⟩,rfl,⟨fun z=>(by cases z),fun z=>absurd (Stp.sg.inj z) fg.1,.inr (.inr (.inl rfl))⟩,Sg _,Sg _⟩ (fun i σ H3 _ ⟨_,_,_,_,_,_,I,_,_,_,_⟩=>SqL.of (I.sm _ _ es)) ?_ ?_
 · rintro i x σ H3 hx ⟨sv,S,bv,ws,Ae,rfl,I,EO,Es,AX,AW⟩;obtain ⟨st,EA,Le⟩:=P2.get' AI hx;have Bo:=(Sj.mp EA).1
   have EW:steps.drop i=st::steps.drop (i+1):=by
    rw [US Bo];rw [R6 Bo] at EA;rw [Su EA]
   rw [EW] at EO;have HG:=hok st (Sd EA);have FE:S.win.length=ws.length:=SK I.win;have JE:S.tops.length=Ae.length:=SK I.tops;have DV:=Le.mono (Same.kt I.sm);dsimp only [aC];refine ⟨_,rfl,_,rfl,_,rfl,wl,_,rfl,.inl (SqL.of I.ew),bv,x,S.bef,st,_,rfl,I.bef,DV,?_⟩;rw [R5,<- FE];cases A7:bp S st with
   | none =>
     rw [sq HG Es.1 A7];refine ⟨_,rfl,bG (ke ?_ H3 I.sm)⟩;unfold jt;rw [EO,prun,A7];rfl
   | some S' =>
   rw [ug A7];have Lf:prun ⟨[],[],.sg comma⟩ steps=prun S' (steps.drop (i+1)):=EO.trans (dh A7);have Lg:=qM HG A7 Es.1;refine ⟨_,rfl,bo ?_⟩;dsimp only [cX];refine bh (TpR H sl tl wl S S' st bv x i) (fun kk hk=>?_) ?_
   rotate_left
   · rintro f' H4 ⟨Ay,FG,rfl,I4,P9,P',Qa⟩;refine ⟨_,rfl,_,S',x,Ay,FG,rfl,⟨I4.sm,I4.tl0,I4.wl0,I4.tw,I4.et,I4.ew,I4.win,I4.tops,I4.nd,I4.tas0,I4.tln,I4.wln,by rw [tP A7];exact Qa⟩,Lf,Lg,P9,P'⟩
   cases st with
   | th t =>
     obtain ⟨a,rfl,hA⟩:=DV;obtain ⟨n',r',h3⟩:=hA.tup
     have F6:S'=⟨S.tops++[(t,0)],S.win,.th t⟩:=by
      rw [bp] at A7;split at A7
      · exact (Su A7).symm
      · cases A7
     refine ⟨_,rfl,_,rfl,.inr ⟨a,_,rfl,SqT.of h3,_,rfl,bo ?_⟩⟩;refine ⟨_,rfl,_,rfl,.inr ⟨a,_,rfl,SqT.of h3,_,rfl,bo ?_⟩⟩;refine ⟨_,rfl,_,rfl,.inr ⟨a,_,rfl,SqT.of h3,_,rfl,bo ?_⟩⟩;refine ⟨_,rfl,.inl ⟨rfl,_,SqL.of I.et⟩,_,rfl,am (by show 2<=1000000;decide),fun np Ct=>?_⟩;have s4:L2.Same H3 (upd H3 np (.lst [.ref a,.int 0])):=ai Ct _;have e4:(upd H3 np (.lst [.ref a,.int 0])) np=some (.lst [.ref a,.int 0]):=ae;generalize (upd H3 np (.lst [.ref a,.int 0]))=H4 at s4 e4 ⊢;have Lh:=s4 _ _ I.et;have Li:H np=none:=I.sm.free Ct;have Nk:np≠tl:=fun z=>by rw [z,I.et] at Ct;cases Ct
     have Qb:np≠wl:=fun z=>by rw [z,I.ew] at Ct;cases Ct
     have Jw:np∉Ae:=fun z=>by
      obtain ⟨j,hj⟩:=SV.mp z;obtain ⟨y,_,ta,e,_⟩:=P2.get' I.tops hj;rw [Ct] at e;cases e
     refine ⟨tl,_,_,rfl,rfl,Lh,bi (by rw [R5];omega),?_⟩;have k5:KT H4 (upd H4 tl (.lst (Ae.map V.ref++[.ref np]))):=bD Lh;refine hk _ _ ⟨ws,Ae++[np],rfl,?_,by rw [Sm,Tn];omega,by omega,⟨a,rfl,(hA.mono (Same.kt s4)).mono k5⟩⟩;subst F6;refine ⟨aH (I.sm.trans s4) I.tl0,I.tl0,I.wl0,I.tw,by rw [ae,Sq];rfl,by rw [aq I.tw.symm];exact s4 _ _ I.ew,P2.mp (fun j b e=>?_) I.win,?_,?_,fun b hb=>?_,fun z=>?_,fun z=>?_,(I.bef.mono (Same.kt s4)).mono k5⟩
     · rw [Vf (Sj.mp e).1];exact e
     · exact P2.append (f9 Lh (P2.mp (fun _ _ e=>TpL.same s4 e) I.tops) I.tln) (.cons ⟨a,by rw [aq Nk];exact e4,(hA.mono (Same.kt s4)).mono k5⟩ .nil)
     · exact Yc.mpr ⟨I.nd,Uz.mpr ⟨Up,WM⟩,fun b hb c hc e=>Jw (by rw [<- Sy.mp hc,<- e];exact hb)⟩
     · rcases Sv.mp hb with hb | hb
       · exact I.tas0 b hb
       · rw [Sy.mp hb];exact Li
     · rcases Sv.mp z with z | z
       · exact I.tln z
       · exact Nk (Sy.mp z).symm
     · rcases Sv.mp z with z | z
       · exact I.wln z
       · exact Qb (Sy.mp z).symm
   | sg c =>
     have B1:x=.str c:=DV;subst B1
     have HH:∀ (la ta:Sa) (m m':Int) (Ay:List Sa) (W':List Nat) (j:Nat) (f:Int->Int),Ae[j]?=some la->H3 la=some (.lst [.ref ta,.int m])->m'=f m->TpI H sl tl wl ⟨pZ S.tops j f,S.win,S.bef⟩ bv ws Ae (upd H3 la (.lst [.ref ta,.int m'])):=fun la ta m m' Ay W' j f hj Du em=>by
      have Di:=Sd hj;have AD:la≠tl:=fun z=>I.tln (by rw [<- z];exact Di);have Qc:la≠wl:=fun z=>I.wln (by rw [<- z];exact Di);subst em;exact ⟨aH I.sm (I.tas0 la Di),I.tl0,I.wl0,I.tw,by rw [aq AD.symm];exact I.et,by rw [aq Qc.symm];exact I.ew,I.win,sX Du I.tops I.nd hj,I.nd,I.tas0,I.tln,I.wln,I.bef.mono (bD Du)⟩
     by_cases c1:c=lpar
     · have F6:gP S.bef=true/\S.win.length<100/\S.tops≠[]:=by
        rw [bp,if_pos c1] at A7;by_cases z:gP S.bef=true/\S.win.length<100/\S.tops≠[]
        · exact z
        · rw [if_neg z] at A7;cases A7
       have Ee:S'=⟨pZ S.tops (S.tops.length - 1) (fun _=>1),S.win++[S.tops.length - 1],.sg c⟩:=by
        rw [bp,if_pos c1,if_pos F6] at A7;exact (Su A7).symm
       refine ⟨_,rfl,_,rfl,.inl ⟨c,rfl,_,rfl,?_⟩⟩;rw [decide_eq_true (show c=R4 "(" from c1)];refine bG ?_;have B5:Ae≠[]:=fun z=>F6.2.2 (by rw [z] at JE;exact S6.mp JE);have Gi:=T3.mpr B5;refine hid fun ZZ kZ=>?_;obtain ⟨la,BM⟩:∃ la,Ae[Ae.length - 1]?=some la:=⟨_,R6 (by omega)⟩
       have C2:∀ ys:List Sa,ys=Ae->atI (ys.map V.ref) (-1)=some (.ref la):=fun ys e=>by
        subst e;obtain ⟨Nl,b,rfl⟩:∃ Nl b,ys=Nl++[b]:=⟨ys.dropLast,ys.getLast B5,(U2 B5).symm⟩;rw [Sm,Tn,Nat.add_sub_cancel,UO (Sg _),WH] at BM;rw [Sq,<- Su BM];exact pD _ _
       obtain ⟨y,hy,ta,Du,_⟩:=P2.get' I.tops BM;refine kZ ?_;refine ⟨_,rfl,_,rfl,tl,_,_,.ref la,rfl,rfl,SqL.of I.et,C2 _ rfl,la,_,1,1,rfl,rfl,Du,rfl,?_⟩;have I4:=HH la ta y.2 1 ws S.win (Ae.length - 1) (fun _=>1) BM Du rfl;dsimp only [List.set];generalize (upd H3 la (.lst [.ref ta,.int 1]))=H4 at I4 ⊢;refine ⟨_,rfl,.inl ⟨rfl,_,SqL.of I4.ew⟩,_,rfl,_,rfl,tl,_,_,.ref la,rfl,rfl,SqL.of I4.et,C2 _ rfl,wl,_,_,rfl,rfl,I4.ew,bi (by rw [R5];omega),?_⟩;have k5:KT H4 (upd H4 wl (.lst (ws.map V.ref++[.ref la]))):=bD I4.ew;refine hk _ _ ⟨ws++[la],Ae,rfl,?_,by omega,by rw [Sm,Tn];omega,rfl⟩;subst Ee;exact ⟨aH I4.sm I4.wl0,I4.tl0,I4.wl0,I4.tw,by rw [aq I4.tw];exact I4.et,by rw [ae,Sq];rfl,P2.append I4.win (.cons (by (try dsimp only);rw [JE];exact BM) .nil),by (try dsimp only);rw [JE];exact f9 I4.ew I4.tops I4.wln,I4.nd,I4.tas0,I4.tln,I4.wln,I4.bef.mono k5⟩
     · refine ⟨_,rfl,_,rfl,.inl ⟨c,rfl,_,rfl,?_⟩⟩;rw [decide_eq_false (show ¬ c=R4 "(" from c1)];refine bo ?_
       have key:ended S.bef=true/\S.win≠[]:=by
        rw [bp,if_neg c1] at A7;by_cases c2:c=comma
        · rw [if_pos c2] at A7;by_cases c3:ended S.bef=true/\S.win≠[]
          · exact c3
          · rw [if_neg c3] at A7;cases A7
        · rw [if_neg c2] at A7;by_cases c3:c=rpar
          · rw [if_pos c3] at A7;by_cases c4:ended S.bef=true/\S.win≠[]
            · exact c4
            · rw [if_neg c4] at A7;cases A7
          · rw [if_neg c3] at A7;cases A7
       have HI:ws≠[]:=fun z=>key.2 (by rw [z] at FE;exact S6.mp FE);refine hid fun ZZ kZ=>?_;obtain ⟨Ay,la,HJ⟩:∃ Ay b,ws=Ay++[b]:=⟨ws.dropLast,ws.getLast HI,(U2 HI).symm⟩;have HK:=I.win;rw [HJ] at HK;obtain ⟨W',j,Nn,Gj,hj⟩:=P2.snoc_inv HK;refine kZ ?_;by_cases c2:c=comma
       · have Ee:S'=⟨pZ S.tops (S.win.getLastD 0) (·+1),S.win,.sg c⟩:=by
          rw [bp,if_neg c1,if_pos c2,if_pos key] at A7;exact (Su A7).symm
         refine ⟨_,rfl,_,rfl,.inl ⟨c,rfl,_,rfl,?_⟩⟩;rw [decide_eq_true (show c=R4 "," from c2)];refine bG ?_;refine hid fun ZZ kZ=>?_;obtain ⟨y,hy,ta,Du,_⟩:=P2.get' I.tops hj;refine kZ ?_;have C2:atI (ws.map V.ref) (-1)=some (.ref la):=by rw [HJ,Sq];exact pD _ _
         refine ⟨_,rfl,_,rfl,wl,_,_,.ref la,rfl,rfl,SqL.of I.ew,C2,la,_,1,.int y.2,rfl,rfl,SqL.of Du,at1,_,_,rfl,rfl,la,_,1,1,rfl,rfl,Du,rfl,?_⟩;have I4:=HH la ta y.2 (y.2+1) ws S.win j (·+1) hj Du rfl;refine hk _ _ ⟨ws,Ae,rfl,?_,by omega,by omega,rfl⟩;subst Ee;dsimp only;rw [show S.win.getLastD 0=j by rw [Nn,gY]];exact I4
       · have c3:c=rpar:=by
          rw [bp,if_neg c1,if_neg c2] at A7;by_cases c3:c=rpar
          · exact c3
          · rw [if_neg c3] at A7;cases A7
         have Ee:S'=⟨S.tops,S.win.dropLast,.sg c⟩:=by
          rw [bp,if_neg c1,if_neg c2,if_pos c3,if_pos key] at A7;exact (Su A7).symm
         refine ⟨_,rfl,_,rfl,.inl ⟨c,rfl,_,rfl,?_⟩⟩;rw [decide_eq_false (show ¬ c=R4 "," from c2)];refine bo ?_;refine ⟨_,rfl,_,rfl,.inl ⟨c,rfl,_,rfl,?_⟩⟩;rw [decide_eq_true (show c=R4 ")" from c3)];refine bG ?_;refine ⟨_,rfl,.inl ⟨rfl,_,SqL.of I.ew⟩,wl,_,.ref la,rfl,rfl,I.ew,by rw [HJ];simp,?_⟩;have d1:(ws.map V.ref).dropLast=Ay.map V.ref:=by rw [HJ];simp
         rw [d1];have k5:KT H3 (upd H3 wl (.lst (Ay.map V.ref))):=bD I.ew;refine hk _ _ ⟨Ay,Ae,rfl,?_,by omega,by rw [HJ,Sm,Tn] at AW;omega,rfl⟩;subst Ee;exact ⟨aH I.sm I.wl0,I.tl0,I.wl0,I.tw,by rw [aq I.tw];exact I.et,ae,by (try dsimp only);rw [Nn,Xz];exact Gj,f9 I.ew I.tops I.wln,I.nd,I.tas0,I.tln,I.wln,I.bef.mono k5⟩
 · rintro σ H3 ⟨sv,S,bv,ws,Ae,rfl,I,EO,Es,AX,AW⟩;rw [List.drop_of_length_le (by omega)] at EO;have Np:prun ⟨[],[],.sg comma⟩ steps=some S:=EO;have FE:S.win.length=ws.length:=SK I.win;have AJ:¬ (S.win=[]/\ended S.bef=true)->E (.ref T.e_NoText) none H3:=fun h=>ke (by unfold jt;rw [Np];exact if_neg h) H3 I.sm;cases Lj:ws with
   | cons a Ay =>
     refine ⟨_,rfl,_,.inl ⟨_,SqL.of I.ew,rfl⟩,?_⟩;rw [Lj];exact bG (AJ fun z=>by rw [z.1,Lj] at FE;cases FE)
   | nil =>
   subst Lj;have Nq:S.win=[]:=S6.mp FE;refine ⟨_,rfl,_,.inl ⟨_,SqL.of I.ew,rfl⟩,bo ?_⟩;have AL:ended S.bef=true->Q (.ref tl) H3:=fun h=>kq S (by unfold jt;rw [Np];exact if_pos ⟨Nq,h⟩) tl Ae H3 I.sm I.et I.tops;have Dj:=I.bef;rcases Es.2.2 with ⟨t,Cv⟩ | Cv | Cv | Cv
   · rw [Cv] at Dj AL;obtain ⟨a,rfl,hA⟩:=Dj;obtain ⟨n',r',h3⟩:=hA.tup;exact ⟨_,rfl,_,rfl,.inr ⟨a,_,rfl,SqT.of h3,_,rfl,bo ⟨_,rfl,AL rfl⟩⟩⟩
   · exact absurd Nq (Es.2.1 Cv)
   · rw [Cv] at Dj;have BA:bv=.str comma:=Dj;subst BA;refine ⟨_,rfl,_,rfl,.inl ⟨comma,rfl,_,rfl,?_⟩⟩;rw [decide_eq_true (show comma=R4 "," from rfl)];exact bG (AJ fun z=>by have:=z.2;rw [Cv,dz] at this;cases this)
   · rw [Cv] at Dj AL;have BA:bv=.str rpar:=Dj;subst BA;refine ⟨_,rfl,_,rfl,.inl ⟨rpar,rfl,_,rfl,?_⟩⟩;rw [decide_eq_false (show ¬ rpar=R4 "," from fg.2.2.1)];exact bo ⟨_,rfl,AL iE⟩
namespace LB
def TopAtL (H:Hp):Top->Sa->Prop
 | .nm n m,a=>∃ ta,H a=some (.lst [.ref ta,.int (m:Nat)])/\n≠q/\H ta=some (.tup [.str n])
 | .th t,a=>∃ ta,H a=some (.lst [.ref ta,.int 0])/\At H t ta
theorem TopAtL.same {H H':Hp} (s:L2.Same H H'):∀ {x:Top} {a:Sa},TopAtL H x a->TopAtL H' x a
 | .nm n m,a,h=>by
   obtain ⟨ta,h1,h2,h3⟩:=h;exact ⟨ta,s _ _ h1,h2,s _ _ h3⟩
 | .th t,a,h=>by
   obtain ⟨ta,h1,h2⟩:=h;exact ⟨ta,s _ _ h1,h2.mono (Same.kt s)⟩
inductive nM (vs:List V) (H:Hp) (Q:VK) (_E:XK):Prop
 | mk (l:Sa) (as:List Sa) (tops:List Top) (u:Th) (Au:vs=[.ref l]) (Av:H l=some (.lst (as.map V.ref))) (AF:To (TopAtL H) tops as) (AR:tops.length<=100000) (Bs:TopsOk tops) (Ci:(∀ t,Top.th t∈tops->t.size<=100000)) (Ea:bl tops=[u]) (Fj:∀ (r:Sa) (H':Hp),L2.Same H H'->At H' u r->Q (.ref r) H'):nM  vs H Q _E
def vO:Sp:=nM
theorem ok_built:bj P w K mg base CX0 1 T.g_built.f T.g_built.d ["tops"] vO:=by
 refine T.g_built.F.ok iP (fun vs H Q E h=>?_) (fun Aj A outer s H vs Q E hr h=>?_)
 · obtain ⟨l,as,tops,u,rfl,_⟩:=h;rfl
 obtain ⟨l,as,tops,u,rfl,el,hT,hlen,hok,Lk,hu,k⟩:=h
 refine ⟨_,(ad (ar (i:=1) iP.nd rfl (Or.inr rfl) (bM ac))
  (ad (bW Tt rfl (yu rfl T.n_reversed (pv 0)) (yp rfl (bK (ay (i:=2) iP.nd rfl (SG rfl)) (bK (ay (i:=3) iP.nd rfl (SG rfl)) fq))) (ag (aJ (av mV (pv 3) af (aw _)) (ag (bq (b9 SS Tb Ta aZ (pv 1) (aa (al ja (pv 2) (bB bJ rfl T.n_tuple Tu (aa (cf (N:=[R4 "number",R4 "done"]) (js:=[none,some 1]) (g:=(aC 0)) (tt:=bn) (te:=(zx K "list" (zt) (bN 1))) rfl (cL rfl (by decide +kernel) (by decide +kernel) rfl rfl rfl) (br rfl T.n_range (aa (pv 3) ac)) (fun _ _ _ _ _ _=>(ay (i:=0) zP rfl (SG rfl))) (bA rfl) (fun _ _ _ _ _ _=>cb) (fun _ _ _ _ _ _=>(mC SS Wm Wk oO (pv 1)))) ac))) ac)))) (ag (bq (b9 SS Tb Ta aZ (pv 1) (aa (pv 2) ac)))))))
  (ag (ax (au aI (pv 1) af (fun _ _=>rfl)))))),?_⟩
 have Ef:tops.length=as.length:=SK hT;refine ⟨am (by show 0<=1000000;decide),fun dn ES=>?_⟩;refine ⟨_,rfl,l,_,rfl,SqL.of (ai ES _ _ _ el),?_⟩
 refine v4 (K:=K) (a:=l) (xs:=as.map V.ref) (fun i σ H2=>Ex3 fun c2 c3 ds=>An4 (σ=[some (.ref l),some (.ref dn),c2,c3]) (L2.Same H H2) (H2 dn=some (.lst (ds.map V.ref))) (Ats H2 (bl (tops.drop (tops.length - i))).reverse ds))
  ⟨none,none,[],rfl,ai ES _,ae,by rw [Xd,W9];exact .nil⟩ (fun i σ H2 _ ⟨_,_,_,_,s2,_,_⟩=>SqL.of (s2 _ _ el)) ?_ ?_
 · rintro i y σ H2 hi hy ⟨c2,c3,ds,rfl,s2,EB,Cg⟩;rw [R5,<- Ef] at hi hy;obtain ⟨pr,rfl,Ll⟩:=bH hy;obtain ⟨x,hx,Lm⟩:=P2.get' hT Ll;have Jt:=Lm.same s2;have hn:tops.length - 1 - i<tops.length:=by omega
   have EW:tops.drop (tops.length - 1 - i)=x::tops.drop (tops.length - i):=by
    rw [US hn,show tops.length - 1 - i+1=tops.length - i by omega];congr 1;rw [R6 hn] at hx;exact Su hx
   have EC:=hok.drop (tops.length - 1 - i);rw [EW] at EC;have EX:tops.length - (i+1)=tops.length - 1 - i:=by omega
   have Kp:(bl (tops.drop (tops.length - i))).length<=100000:=by
    have:=qL (tops.drop (tops.length - i));rw [Tf] at this;omega
   generalize tops.drop (tops.length - i)=S at EW Cg EC Kp;refine hid fun ZZ kZ=>?_
   obtain ⟨ta,m,xs,Qd,eta,hm,Ng,AL⟩:∃ (ta:Sa) (m:Nat) (xs:List V),H2 pr=some (.lst [.ref ta,.int (m:Nat)])/\H2 ta=some (.tup xs)/\m<=(bl S).length/\xs.length<=200000/\∀ (H':Hp) (p:Sa) (ks:List Sa),KT H2 H'->Ats H' ((bl S).take m) ks->H' p=some (.tup (xs++ks.map V.ref))->∃ u',bl (x::S)=u'::(bl S).drop m/\At H' u' p:=by
    cases x with
    | nm n m =>
      rw [TopsOk] at EC;obtain ⟨ta,h1,h2,h3⟩:=Jt;refine ⟨ta,m,_,h1,h3,EC.1,(by show 1<=200000;decide),fun H' p ks kt hk hp=>⟨_,by rw [bl],?_⟩⟩;rw [At];exact ⟨h2,ks,hp,hk⟩
    | th t =>
      obtain ⟨ta,h1,h2⟩:=Jt;obtain ⟨n',r',h3⟩:=h2.tup;have hw:=h2.width h3;have BA:=Lk t (Sd hx);refine ⟨ta,0,_,h1,h3,Td _,by omega,fun H' p ks kt hk hp=>⟨t,by rw [bl,Uv],?_⟩⟩;rw [Vb,Ats] at hk;subst hk;rw [UN,SM] at hp;exact (h2.mono kt).same (kt _ _ h3) hp
   refine kZ ?_;refine ⟨pr,_,rfl,SqL.of Qd,rfl,_,_,rfl,_,_,rfl,rfl,?_⟩;have Ln:=Cg.length;rw [Vx] at Ln;refine cB (fun b H'=>An2 (H'=H2) (b=decide ((0:Int)<(m:Int)))) (fun kk Cr=>?_) (fun H' hb=>?_) (fun H' hb=>?_)
   · exact ⟨_,rfl,_,_,rfl,rfl,_,rfl,Cr _ _ ⟨rfl,rfl⟩⟩
   rotate_left
   · obtain ⟨rfl,hb⟩:=hb
     have Qe:m=0:=by
      have:=of_decide_eq_false hb.symm;omega
     subst Qe;obtain ⟨u',CF,AS⟩:=AL H' ta [] (Same.kt (.refl _)) (by rw [Vb];exact .nil) (by rw [UN,SM];exact eta);refine ⟨_,rfl,.inl ⟨rfl,_,SqL.of EB⟩,_,rfl,dn,_,_,rfl,rfl,EB,bi (by rw [R5];omega),?_⟩;have k6:KT H' (upd H' dn (.lst (ds.map V.ref++[.ref ta]))):=bD EB;refine ⟨_,_,ds++[ta],rfl,?_,by rw [ae,Sq];rfl,?_⟩
     · intro b o e;rw [aq (aM e ES)];exact s2 b o e
     · rw [EX,EW,CF,Ub];rw [Uv];exact (Cg.mono k6).append (.cons (AS.mono k6) .nil)
   obtain ⟨rfl,hb⟩:=hb;refine ⟨_,rfl,.inl ⟨rfl,_,SqL.of EB⟩,_,rfl,?_⟩;refine ⟨_,rfl,(m:Int),rfl,by omega,by omega,fun D hD=>?_⟩;have Lo:D≠dn:=fun z=>by rw [z,EB] at hD;cases hD
   have Ez:((m:Nat):Int).toNat=m:=Uc m
   refine ⟨m,fun j H3=>An3 (j<=m) ((∀ b o,H' b=some o->b≠dn->H3 b=some o)) (Ex2 fun (ED ks:List Sa)=>An4 (H3 dn=some (.lst (ED.map V.ref))) (H3 D=some (.lst (ks.map V.ref))) (Ats H3 ((bl S).drop j).reverse ED) (Ats H3 ((bl S).take j) ks)),
    ⟨Td _,fun b o e hb=>?_,ds,[],?_,?_,?_,?_⟩,?_⟩
   · rw [aq (aM e hD)];exact e
   · rw [aq Lo.symm];exact EB
   · rw [ae];rfl
   · rw [Uv];exact Cg.mono (iu hD)
   · rw [Vb];exact .nil
   rintro j H3 ⟨hj,kp,ED,ks,ed,eD,EY,hd2⟩;by_cases Nr:j=m
   · left;refine ⟨(by show ((m:Nat):Int).toNat<=j;rw [Ez,Nr];exact Sg _),?_⟩;subst Nr;have HL:KT H' H3:=fun b RO e=>kp b _ e (tm e EB (by intro z;cases z));refine ⟨D,_,rfl,.inl ⟨SqL.of eD,fun tp Gi=>?_⟩⟩;have s4:L2.Same H3 (upd H3 tp (.tup (ks.map V.ref))):=ai Gi _;have e4:(upd H3 tp (.tup (ks.map V.ref))) tp=some (.tup (ks.map V.ref)):=ae;generalize (upd H3 tp (.tup (ks.map V.ref)))=H4 at s4 e4 ⊢;have A6:=hd2.length;refine vz (s4 _ _ (HL _ _ eta)) e4 (by rw [R5,A6,SR];omega) fun p H5 s5 e5=>?_;have EZ:=s4.trans s5;have Nt:=EZ _ _ ed;have Lp:=HL.trans (Same.kt EZ);obtain ⟨u',CF,AS⟩:=AL H5 p ks Lp (hd2.mono (Same.kt EZ)) e5;have Hf:=EY.length;rw [Vx,Tf] at Hf;refine ⟨dn,_,_,rfl,rfl,Nt,bi (by rw [R5];omega),?_⟩;have k6:KT H5 (upd H5 dn (.lst (ED.map V.ref++[.ref p]))):=bD Nt;refine ⟨_,_,ED++[p],rfl,?_,by rw [ae,Sq];rfl,?_⟩
     · intro b o e;have hb:b≠dn:=aM e ES;rw [aq hb];exact EZ _ _ (kp b o (s2 b o e) hb)
     · rw [EX,EW,CF,Ub];exact (EY.mono ((Same.kt EZ).trans k6)).append (.cons (AS.mono k6) .nil)
   · right;have Dt:j<m:=by omega
     refine ⟨Dt,(by show j<((m:Nat):Int).toNat;rw [Ez];exact Dt),?_⟩;rintro x' H4 ⟨e1,e2⟩;have DD:H4=H3:=e1;subst DD;have Nu:j<(bl S).length:=by omega
     have Qf:(bl S).drop j=(bl S)[j]::(bl S).drop (j+1):=US Nu;rw [Qf,Ub] at EY
     have Ax:ED≠[]:=by
      intro z;subst z;have:=EY.length;rw [Sm] at this;simp at this
     refine hid fun ZZ kZ=>?_;obtain ⟨FH,b,rfl⟩:∃ FH b,ED=FH++[b]:=⟨ED.dropLast,ED.getLast Ax,(U2 Ax).symm⟩;obtain ⟨Us,x2,e3,hU,Cp⟩:=EY.snoc_inv;have e4:=List.append_inj' e3 rfl;obtain ⟨e5,e6⟩:=e4;refine kZ ?_;cases e6;subst e5;refine ⟨_,rfl,.inl ⟨rfl,_,SqL.of ed⟩,dn,_,.ref b,rfl,rfl,ed,by simp,?_⟩;have d1:((FH++[b]).map V.ref).dropLast=FH.map V.ref:=by simp
     rw [d1];have Nv:(upd H4 dn (.lst (FH.map V.ref))) D=some (.lst (ks.map V.ref)):=by rw [aq Lo];exact eD
     have k5:KT H4 (upd (upd H4 dn (.lst (FH.map V.ref))) D (.lst (ks.map V.ref++[.ref b]))):=(bD ed).trans (bD Nv);refine ⟨_,Nv,bi (by rw [R5,hd2.length,SR];omega),Dt,fun b' o e BA=>?_,FH,ks++[b],?_,?_,hU.mono k5,?_⟩
     · rw [aq (aM e hD),aq BA];exact kp b' o e BA
     · rw [aq Lo.symm,ae]
     · rw [ae,Sq];rfl
     · rw [Vp,R6 Nu];exact (hd2.mono k5).append (.cons (Cp.mono k5) .nil)
 · rintro σ H2 ⟨c2,c3,ds,rfl,s2,EB,Cg⟩;rw [R5,<- Ef,WH,Uv,hu] at Cg;have HM:Ats H2 [u] ds:=Cg;rw [Ats] at HM;obtain ⟨b,r,rfl,hb,Nw⟩:=HM;exact ⟨_,rfl,dn,_,0,.ref b,rfl,rfl,SqL.of EB,at0,k b H2 s2 hb⟩
end LB
def uC (x:Th×Int):Top:=match x.1 with
 | .knot n _=>.nm n x.2.toNat
 | .call s k=>.th (.call s k)
theorem rg:∀ (t:Th),uC (i6 t)=eh Th.call t
 | .knot n ks=>by show Top.nm n (((ks.length:Nat):Int)).toNat=_;rw [Uc];rfl
 | .call s k=>rfl
theorem u7 {H:Hp}:∀ {l:List Th} {Ae:List Sa},To (TpL H) (l.map i6) Ae->To (LB.TopAtL H) (l.map (eh Th.call)) Ae
 | [],_,h=>by cases h;exact .nil
 | t::l,Ae,h=>by
   cases h with
   | cons h1 h2 =>
     refine .cons ?_ (u7 h2);obtain ⟨ta,e,hA⟩:=h1;cases t with
     | knot n ks =>
       have CM:At H (.knot n []) ta:=hA;rw [At] at CM;refine hid fun ZZ kZ=>?_;obtain ⟨hq,as,e2,h3⟩:=CM;refine kZ ?_;have:as=[]:=S6.mp (by have:=h3.length;exact this);subst this;exact ⟨ta,e,hq,e2⟩
     | call s k=>exact ⟨ta,e,hA⟩
theorem n5:∀ (t u:Th),Top.th u∈t.walk.map (eh Th.call)->u.size<=1:=fun t u h=>by
 obtain ⟨v,_,e⟩:=TC.mp h;cases v with
 | knot n ks=>cases e
 | call s k=>cases e;rw [Th.size];exact Sg _
def pw (ws:List Ss):List Ss:=(W4 (jn (ws.map sL))).map ofL
inductive ej (K:R8) (C:Sa) (vs:List V) (H:Hp) (Q:VK) (E:XK):Prop
 | mk (wl:Sa) (ws:List Ss) (Au:vs=[.ref wl]) (Av:H wl=some (.lst (ws.map V.str))) (AF:(ws.map (·.length)).sum+ws.length<=6000) (AR:(∀ t:Th,iR (pw ws) t->t.size<=60000->∀ (r:Sa) (H':Hp),L2.Same H H'->At H' t r->Q (.ref r) H')) (Bs:((∀ t:Th,¬ iR (pw ws) t)->∀ H',L2.Same H H'->E (.ref C) none H')):ej K C vs H Q E
def j0 (K:R8) (C:Sa):Sp:=ej K C
set_option maxHeartbeats 1000000 in
theorem fc:bj P w K mg base (CX1 P w) 4 T.g_read_pattern.f T.g_read_pattern.d ["words"] (j0 K T.e_NoText):=by
 refine T.g_read_pattern.F.ok1 fL (fun vs H Q E h=>?_) (fun Aj A outer s H vs Q E hr h=>?_)
 · obtain ⟨wl,ws,rfl,_⟩:=h;rfl
 obtain ⟨wl,ws,rfl,ew,hlen,kq,ke⟩:=h
 refine ⟨_,(ad (ar (i:=1) fL.nd rfl (SG rfl) (wB (sep:=R4 " ") (y:=R4 ".") (z:=R4 " . ") (pv 0) (by decide +kernel) (by decide +kernel)))
  (ag (ax (pcF T.g_built (LB.ok_built T) hr (aa (aW (qs T) (hr.mono (by first | decide | omega)) rfl T.g_tops_of.m T.g_tops_of.F.kp T.g_tops_of.b .nil cM (aa (aW (o4 T) (hr.mono (by first | decide | omega)) rfl T.g_steps_of.m T.g_steps_of.F.kp T.g_steps_of.b .nil cM (aa (pcF T.g_words_of (qq T) hr (aa (pv 1) ac)) ac)) ac)) ac))))),?_⟩
 try dsimp only [AM,Af]
 have Dw:(Tg (R4 " ") ws).length<=6000:=by
  have h1:(Tg (R4 " ") ws).length=(jn (ws.map sL)).length:=by rw [<- bV];exact congrArg UZ (eI ws)
  rw [h1];have h2:=rp (ws.map sL);rw [T8,R5] at h2;have h3:(ws.map (UZ ∘ sL))=ws.map (·.length):=Ut fun x _=>bV x;rw [h3] at h2;omega
 refine ⟨_,rfl,wl,ws,rfl,SqL.of ew,?_,by omega,?_⟩
 · show _+ws.length * 1<=1000000;omega
 dsimp only [aC]
 have Lq:Xi (Tg (R4 " ") ws) (R4 ".") (R4 " . ")=ofL (cC 46 [32,46,32] (jn (ws.map sL))):=by
  have h1:R4 "."=⟨#[46]⟩:=by decide +kernel
  have h2:(R4 " . ").cps.toList=[32,46,32]:=by decide +kernel
  rw [h1,replace_one _ _ _ (by decide +kernel),h2];exact congrArg (fun l=>ofL (cC 46 [32,46,32] l)) (eI ws)
 rw [Lq]
 have BC:(cC 46 [32,46,32] (jn (ws.map sL))).length<=18000:=by
  have h1:=ee 46 [32,46,32] rfl (jn (ws.map sL))
  have h2:(jn (ws.map sL)).length<=6000:=by
   have h1:(Tg (R4 " ") ws).length=(jn (ws.map sL)).length:=by rw [<- bV];exact congrArg UZ (eI ws)
   omega
  omega
 have Qg:BB.wordsOf (ofL (cC 46 [32,46,32] (jn (ws.map sL))))=pw ws:=by
  unfold BB.wordsOf;rw [aG,v6];rfl
 have BV:∀ l:List Nat,(l.flatMap sp4).length<=3 * l.length:=fun l=>by
  induction l with
  | nil=>exact Sg _
  | cons d l ih =>
    rw [UP,Sm,R7]
    have:(sp4 d).length<=3:=by
     rcases rb d with h | h
     · rw [i4 (by omega)];exact Sg _
     · rw [gH h];exact (by decide:1<=3)
    omega
 have Qh:(jn (ws.map sL)).length<=6000:=by
  have h1:(Tg (R4 " ") ws).length=(jn (ws.map sL)).length:=by rw [<- bV];exact congrArg UZ (eI ws)
  omega
 have RP:=BV (jn (ws.map sL))
 have Bj:(pw ws).length<=18001:=by
  unfold pw W4;rw [R5];have:=wX ((jn (ws.map sL)).flatMap sp4);omega
 have Qi:∀ x∈pw ws,x.length<=100000:=fun x hx=>by
  unfold pw W4 at hx;obtain ⟨y,hy,rfl⟩:=TC.mp hx;have:=wM hy;rw [cy];omega
 refine ⟨_,rfl,_,rfl,by rw [cy];omega,fun r1 H1 s1 _ e1=>?_⟩;rw [Qg] at e1;refine ⟨r1,pw ws,rfl,e1,by omega,Qi,fun l hl r2 xs H2 s2 e2 Lr=>?_,fun hl H2 s2=>ke (fun t ht=>by rw [ht.1] at hl;cases hl) H2 (s1.trans s2)⟩;have Qj:=rJ hl;have hok:=(gn.mp hl).2;refine ⟨r2,xs,l,rfl,e2,Lr,by omega,hok,fun F hF r3 Ae H3 s3 e3 Jk=>?_,fun hF H3 s3=>ke (fun t ht=>?_) H3 (s1.trans (s2.trans s3))⟩
 · obtain ⟨t,rfl,ht⟩:=sw hok hF;obtain ⟨F',HN,Qk⟩:=gK ht;rw [hF] at HN;have:=Su HN;subst this;rw [Qk] at Jk;have Az:=vZ t;rw [R5] at Qj;obtain ⟨Cq,Ls⟩:=oj Th.call t;refine ⟨r3,Ae,t.walk.map (eh Th.call),t,rfl,e3,u7 Jk,by rw [R5,Th.walk_len];omega,Ls,fun u hu=>TF (n5 t u hu) (by decide),by rw [Cq,BB.lh],fun r4 H4 s4 Lf=>?_⟩;exact kq t ⟨hl,ht⟩ (by omega) r4 H4 (s1.trans (s2.trans (s3.trans s4))) Lf
 · rw [ht.1] at hl;have:=Su hl;subst this;obtain ⟨F',HN,_⟩:=gK ht.2;rw [hF] at HN;cases HN
def kc:Sp:=fun vs H Q _=>∃ z:Ss,vs=[.str z]/\z.length<=30000/\∀ (r:Sa) (H':Hp),L2.Same H H'->H r=none->H' r=some (.lst (((wds (sL z)).map ofL).map V.str))->Q (.ref r) H'
theorem lE {c:Nat}:∀ {p p' q q':List Nat},p++c::q=p'++c::q'->(∀ d∈p,d≠c)->(∀ d∈p',d≠c)->p=p'/\q=q'
 | [],[],q,q',h,_,_=>⟨rfl,(SH h).2⟩
 | [],d::p',q,q',h,_,h2=>absurd (SH h).1.symm (h2 d (Sr ..))
 | d::p,[],q,q',h,h1,_=>absurd (SH h).1 (h1 d (Sr ..))
 | d::p,d'::p',q,q',h,h1,h2=>by
   obtain ⟨e1,e2⟩:=SH h;obtain ⟨e3,e4⟩:=lE e2 (fun x hx=>h1 x (Sk _ hx)) (fun x hx=>h2 x (Sk _ hx));exact ⟨by rw [e1,e3],e4⟩
theorem vS (c:Nat):∀ l:List Nat,(∀ d∈l,d≠c)∨∃ p q,l=p++c::q/\∀ d∈p,d≠c
 | []=>.inl fun d h=>by cases h
 | x::l=>by
   by_cases hx:x=c
   · exact .inr ⟨[],l,by rw [hx];rfl,fun d h=>by cases h⟩
   · rcases vS c l with h | ⟨p,q,e,h⟩
     · exact .inl fun d hd=>by
        rcases Sn.mp hd with rfl | hd
        · exact hx
        · exact h d hd
     · refine .inr ⟨x::p,q,by rw [e];rfl,fun d hd=>?_⟩;rcases Sn.mp hd with rfl | hd
       · exact hx
       · exact h d hd
def KindsOf (f:Ss) (ws:List Ss) (ks:List (Ss×Int)):Prop:=∃ rest,ws=f::rest/\rest≠[]/\To KdOf rest ks
def gR (K:R8) (C:Sa):Sp:=fun vs H Q E=>∃ w:Ss,vs=[.str w]/\w.length<=100000/\(∀ k:Ss×Int,KdOf w k->∀ (r:Sa) (H':Hp),L2.Same H H'->KAt H' k r->Q (.ref r) H')/\((∀ k,¬ KdOf w k)->∀ H',L2.Same H H'->E (.ref C) none H')
inductive fP (K:R8) (C:Sa) (vs:List V) (H:Hp) (Q:VK) (E:XK):Prop
 | mk (f:Ss) (wl:Sa) (ws:List Ss) (Au:vs=[.str f,.ref wl]) (Av:H wl=some (.lst (ws.map V.str))) (AF:ws.length<=100000) (AR:(∀ x∈ws,x.length<=100000)) (Bs:(∀ ks,KindsOf f ws ks->∀ (r:Sa) (as:List Sa) (H':Hp),L2.Same H H'->H' r=some (.lst (as.map V.ref))->KsAt H' ks as->Q (.ref r) H')) (Ci:((∀ ks,¬ KindsOf f ws ks)->∀ H',L2.Same H H'->E (.ref C) none H')):fP K C vs H Q E
def lV (K:R8) (C:Sa):Sp:=fP K C
theorem ut:sL sS=[47]:=by decide +kernel
theorem de {n:Ss} (h:aP n=true):(∀ c∈sL n,97<=c/\c<=122)/\n.length<=8/\n.length≠0:=by
 unfold aP low at h;obtain ⟨h1,h2⟩:=Tr _ _ |>.mp h;have h3:=of_decide_eq_true h1;exact ⟨fun c hc=>of_decide_eq_true (Tv.mp h2 c hc),h3.2,by omega⟩
theorem split_le (c:Nat):∀ l:List Nat,(aF c l).length<=l.length+1
 | []=>Sg _
 | d::l=>by
   have ih:=split_le c l;rw [aF];obtain ⟨p,r,e⟩:=cj c l;rw [e] at ih ⊢;rw [R7] at ih;split
   · rw [R7,R7,R7];omega
   · rw [R7,R7];omega
theorem dw (k:Ss×Int):sL (bg k)=sL k.1++47::sL (aS k.2):=by
 unfold bg;rw [cW,cW,ut,SO];rfl
theorem pz {n:Ss} (h:aP n=true):∀ d∈sL n,d≠47:=fun d hd=>by
 have:=(de h).1 d hd;omega
theorem KdOf.uniq {w:Ss} {k k':Ss×Int} (h:KdOf w k) (h':KdOf w k'):k=k':=by
 obtain ⟨e,h1,h2⟩:=h;refine hid fun ZZ kZ=>?_;obtain ⟨e',Bu,BD⟩:=h';have:=congrArg sL (e.symm.trans e');rw [dw,dw] at this;obtain ⟨a,b⟩:=lE this (pz h1) (pz Bu);refine kZ ?_;have a1:k.1=k'.1:=cq a;have b1:aS k.2=aS k'.2:=cq b;have n1:=bQ.mpr ⟨rfl,h2⟩;have n2:=bQ.mpr ⟨rfl,BD⟩;rw [b1,n2] at n1;exact X9 a1 (Su n1).symm
open Classical in
noncomputable def kd (w:Ss):Ss×Int:=if h:∃ k,KdOf w k then h.choose else (w,0)
theorem zy {w:Ss} {k:Ss×Int} (h:KdOf w k):kd w=k:=by
 unfold kd;have hx:∃ k,KdOf w k:=⟨k,h⟩;rw [dif_pos hx];exact KdOf.uniq hx.choose_spec h
set_option maxHeartbeats 1000000 in
theorem pF:bj P w K mg base CX0 1 T.g_words_in.f T.g_words_in.d ["row"] kc:=by
 refine T.g_words_in.F.ok qx (fun vs H Q E h=>?_) (fun Aj A outer s H vs Q E hr h=>?_)
 · obtain ⟨z,rfl,_⟩:=h;rfl
 obtain ⟨z,rfl,hz,q⟩:=h;refine ⟨_,(ag (ax (cf (N:=[R4 "word"]) (js:=[none]) (g:=(aC 0)) (tt:=(lX (tOp (rNe) (bN 0) (tC (.str (R4 "")))))) (te:=(bN 0)) rfl (cL rfl (by decide +kernel) (by decide +kernel) rfl rfl rfl) (fG (b9 TB Wd Wc mJ (pv 0) (aa aA ac))) (fun _ _ _ _ _ _=>(ay (i:=0) yD rfl (SG rfl))) (bA rfl) (fun _ _ _ _ _ _=>jj (av d4 (pv 0) aA (aw _))) (fun _ _ _ _ _ _=>(pv 0))))),?_⟩
 try dsimp only [AM,Af]
 refine ⟨_,rfl,rfl,z,R4 " ",rfl,rfl,rfl,by omega,fun p hp=>?_⟩
 have BV:UL z (R4 " ")=(aF 32 (sL z)).map ofL:=by
  have h1:R4 " "=⟨#[32]⟩:=rfl;rw [h1,jK _ (by decide)];rfl
 have FD:=split_le 32 (sL z);rw [bV] at FD;have s1:L2.Same H (upd H p (.lst ((UL z (R4 " ")).map V.str))):=ai hp _;have e1:(upd H p (.lst ((UL z (R4 " ")).map V.str))) p=some (.lst (((aF 32 (sL z)).map ofL).map V.str)):=by rw [ae,BV]
 generalize (upd H p (.lst ((UL z (R4 " ")).map V.str)))=H1 at s1 e1 ⊢;refine ⟨p,rfl,⟨_,SqL.of e1⟩,fv ((aF 32 (sL z)).map ofL) (fun x=>!decide (V.str x=V.str (R4 ""))) V.str (SqL.of e1) (by rw [R5,R5,R5]) (by rw [R5,R5];omega) (fun i x y H2 R hx hy sm r=>?_) (fun i x y H2 R hx hy _ sm r=>?_) (fun D hD=>?_)⟩
 · rw [So,hy] at hx;cases hx;exact ⟨_,rfl,rfl,_,rfl,r⟩
 · rw [So,hy] at hx;cases hx;exact ⟨_,rfl,r⟩
 · rw [pA];exact q D _ (s1.trans (ai hD _)) (s1.free hD) ae
set_option maxHeartbeats 1000000 in
theorem ni:bj P w K mg base (CX1 P w) 2 T.g_read_kind.f T.g_read_kind.d ["word"] (gR K T.e_NoText):=by
 refine T.g_read_kind.F.ok1 dO (fun vs H Q E h=>?_) (fun Aj A outer s H vs Q E hr h=>?_)
 · obtain ⟨z,rfl,_⟩:=h;rfl
 obtain ⟨z,rfl,hl,kq,ke⟩:=h
 refine ⟨_,(ad (fX (b9 TB PySem.F.slot_str_partition PySem.F.type_str_partition na (pv 0) (aa aA ac)) (jO rfl (bK (ay (i:=1) dO.nd rfl (SG rfl)) (bK (ay (i:=2) dO.nd rfl (SG rfl)) (bK (ay (i:=3) dO.nd rfl (SG rfl)) fq)))))
  (ad (aJ (ck (aN (pcF T.g_is_name (iq T) hr (aa (pv 1) ac)) (fun _=>rfl))) (ag (bF T.X_NoText T.x_NoText aA)) aB)
  (ag (ax (b8 (aa (pv 1) (aa (aW (cD T) (hr.mono (by first | decide | omega)) rfl T.g_read_number.m T.g_read_number.F.kp T.g_read_number.b .nil cM (aa (pv 3) ac)) ac))))))),?_⟩
 try dsimp only [AM,Af]
 have CG:(⟨#[47]⟩:Ss)=R4 "/":=by decide +kernel
 rcases vS 47 (sL z) with Ey | ⟨pre,post,hs,Ey⟩
 · have AJ:∀ H',L2.Same H H'->E (.ref T.e_NoText) none H':=ke fun k hk=>Ey 47 (by rw [hk.1,dw];simp) rfl;refine ⟨_,rfl,rfl,.inr ⟨z,47,rfl,by rw [CG],Ey,by omega,fun p hp=>?_⟩⟩;have s1:L2.Same H (upd H p (.tup [.str z,.str Ua,.str Ua])):=ai hp _;have e1:(upd H p (.tup [.str z,.str Ua,.str Ua])) p=some (.tup [.str z,.str Ua,.str Ua]):=ae;generalize (upd H p (.tup [.str z,.str Ua,.str Ua]))=H1 at s1 e1 ⊢;refine ⟨p,_,rfl,SqT.of e1,rfl,_,_,rfl,_,_,rfl,_,_,rfl,rfl,?_⟩;dsimp only [aC];refine ⟨_,rfl,z,rfl,by omega,fun H2 s2=>?_⟩;cases aP z with
   | false=>exact ⟨_,rfl,bG (AJ H2 (s1.trans s2))⟩
   | true =>
     refine ⟨_,rfl,bo ?_⟩;dsimp only [cX];exact ⟨_,rfl,_,rfl,Ua,rfl,by decide,fun n hn=>absurd (hn.symm.trans (show jP Ua=none by decide +kernel)) (by simp),fun _ H3 s3=>AJ H3 (s1.trans (s2.trans s3))⟩
 · have Bj:(ofL pre).length<=z.length/\(ofL post).length<=z.length:=by
    rw [cy,cy,<- bV z,hs,Sm,R7];omega
   refine ⟨_,rfl,rfl,.inl ⟨z,47,pre,post,rfl,by rw [CG],hs,Ey,by omega,fun p hp=>?_⟩⟩;have s1:L2.Same H (upd H p (.tup [.str (ofL pre),.str ⟨#[47]⟩,.str (ofL post)])):=ai hp _;have e1:(upd H p (.tup [.str (ofL pre),.str ⟨#[47]⟩,.str (ofL post)])) p=some (.tup [.str (ofL pre),.str ⟨#[47]⟩,.str (ofL post)]):=ae;generalize (upd H p (.tup [.str (ofL pre),.str ⟨#[47]⟩,.str (ofL post)]))=H1 at s1 e1 ⊢
   have CJ:∀ k,KdOf z k->k.1=ofL pre/\aS k.2=ofL post:=fun k hk=>by
    have:=hs;rw [hk.1,dw] at this;obtain ⟨a,b⟩:=lE this (pz hk.2.1) Ey;exact ⟨cq (a.trans (aG pre).symm),cq (b.trans (aG post).symm)⟩
   refine ⟨p,_,rfl,SqT.of e1,rfl,_,_,rfl,_,_,rfl,_,_,rfl,rfl,?_⟩;dsimp only [aC];refine ⟨_,rfl,ofL pre,rfl,by omega,fun H2 s2=>?_⟩;cases hn:aP (ofL pre) with
   | false=>exact ⟨_,rfl,bG (ke (fun k hk=>by have:=hk.2.1;rw [(CJ k hk).1,hn] at this;cases this) H2 (s1.trans s2))⟩
   | true =>
     refine ⟨_,rfl,bo ?_⟩;dsimp only [cX];refine ⟨_,rfl,_,rfl,ofL post,rfl,by omega,fun n Lu H3 s3=>⟨am (by show 2<=1000000;decide),fun r BP=>?_⟩,fun Lu H3 s3=>ke (fun k hk=>?_) H3 (s1.trans (s2.trans s3))⟩
     · obtain ⟨e2,e3⟩:=bQ.mp Lu;refine kq (ofL pre,n) ⟨cq ?_,hn,e3⟩ r _ (s1.trans (s2.trans (s3.trans (ai BP _)))) ae;show sL z=sL (bg (ofL pre,n));rw [dw,hs,<- e2];rw [show sL (ofL pre)=pre from aG pre,show sL (ofL post)=post from aG post]
     · have:=(bQ.mpr ⟨(CJ k hk).2.symm,hk.2.2⟩);rw [Lu] at this;cases this
set_option maxHeartbeats 1000000 in
theorem fW:bj P w K mg base (CX1 P w) 3 T.g_read_kinds.f T.g_read_kinds.d ["first","words"] (lV K T.e_NoText):=by
 refine T.g_read_kinds.F.ok1 nv (fun vs H Q E h=>?_) (fun Aj A outer s H vs Q E hr h=>?_)
 · obtain ⟨f,wl,ws,rfl,_⟩:=h;rfl
 obtain ⟨f,wl,ws,rfl,ew,hlen,hle,kq,ke⟩:=h
 refine ⟨_,(ad (aJ (PW.pt (eG (av eK (ao aj rfl T.n_len Sw (aa (pv 1) ac)) af (aw _)) (eg (av d4 (au aI (pv 1) af (fun _ _=>rfl)) (pv 0) (aw _))))) (ag (bF T.X_NoText T.x_NoText aA)) aB)
  (ag (ax (vB (N:=[R4 "word"]) (js:=[none]) (g:=(aC 0)) (tt:=bn) (te:=(hV (gR K T.e_NoText) [] E (bZ (bN 0) eN))) (cL rfl (by decide +kernel) (by decide +kernel) rfl rfl rfl) (fG (aQ ce (pv 1) (aY af) bw)) (fun _ _ _ _ _ _=>(ay (i:=0) yD rfl (SG rfl))) (bA rfl) (fun _ _ _ _ _ _=>cb) (fun _ _ _ _ _ _=>(aW (ni T) (hr.mono (by first | decide | omega)) rfl T.g_read_kind.m T.g_read_kind.F.kp T.g_read_kind.b .nil zF (aa (pv 0) ac))))))),?_⟩
 try dsimp only [AM,Af]
 refine ⟨_,rfl,wl,_,rfl,.inl (SqL.of ew),_,_,rfl,rfl,_,rfl,?_⟩;rw [R5];by_cases c1:ws.length<2
 · rw [decide_eq_true (show ((ws.length:Nat):Int)<2 by omega)];refine bG (ke (fun ks hk=>?_) H (.refl _));refine hid fun ZZ kZ=>?_;obtain ⟨rest,e,Ax,_⟩:=hk;refine kZ ?_;have:=T3.mpr Ax;rw [e,R7] at c1;omega
 rw [decide_eq_false (show ¬ ((ws.length:Nat):Int)<2 by omega)];refine bo ?_
 obtain ⟨w0,rest,rfl⟩:∃ w0 rest,ws=w0::rest:=by
  cases ws with
  | nil=>exact absurd (by decide) c1
  | cons w0 rest=>exact ⟨w0,rest,rfl⟩
 rw [R7] at c1 hlen;refine ⟨_,rfl,wl,_,0,.str w0,rfl,rfl,SqL.of ew,at0,_,rfl,rfl,_,rfl,?_⟩;by_cases c2:w0=f
 case neg =>
  rw [decide_eq_false (show ¬ V.str w0=V.str f from fun z=>c2 (V.str.inj z))];refine bG (ke (fun ks hk=>?_) H (.refl _));obtain ⟨_,e,_⟩:=hk;exact c2 (SH e).1
 subst c2;rw [decide_eq_true rfl];refine bo ?_;dsimp only [cX];refine ⟨_,rfl,1,rfl,wl,_,rfl,SqL.of ew,fun l1 AX=>?_⟩;have F7:cR ((w0::rest).map V.str) (some 1) none=rest.map V.str:=fZ _ _;rw [F7];have s1:L2.Same H (upd H l1 (.lst (rest.map V.str))):=ai AX _;have e1:(upd H l1 (.lst (rest.map V.str))) l1=some (.lst (rest.map V.str)):=ae;generalize (upd H l1 (.lst (rest.map V.str)))=H1 at s1 e1 ⊢;have Lv:rest≠[]:=fun z=>by rw [z] at c1;exact c1 (by decide)
 refine ⟨l1,rfl,⟨_,SqL.of e1⟩,lj (F:=fun H z p=>KAt H (kd z) p/\KdOf z (kd z)) (xs:=rest.map V.str) rest (fun H1 H2 z p kt h=>⟨kt _ _ h.1,h.2⟩) (by rw [R5]) (by rw [R5];omega) (fun i Hx sx hi=>⟨_,_,SqL.of (sx _ _ e1),R6 hi⟩) (fun Hx sx=>⟨_,SqL.of (sx _ _ e1),Sg _⟩) (fun i Hx x Hy sx hi hy=>⟨hy.1,hy.2 _ (SqL.of (sx _ _ e1))⟩) (fun i x z Hx R W' hx hk sx hR=>?_) (fun D H2 as hD s2 eD AY=>?_)⟩
 · rw [So,hk] at hx;cases hx;have hm:=Sd hk;refine ⟨_,rfl,z,rfl,hle z (Sk _ hm),fun k CJ r H3 s3 h3=>hR H3 r s3 ?_,fun AJ H3 s3=>ke (fun ks AY=>?_) H3 (s1.trans (sx.trans s3))⟩
   · rw [zy CJ];exact ⟨h3,CJ⟩
   · refine hid fun ZZ kZ=>?_;obtain ⟨C3,e,_,hp⟩:=AY;refine kZ ?_;obtain rfl:=(SH e).2;obtain ⟨k,_,Cr⟩:=P2.get hp hk;exact AJ k Cr
 · refine kq (rest.map kd) ⟨rest,rfl,Lv,?_⟩ D as H2 (s1.trans s2) eD ?_
   · have:∀ {l:List Ss} {as:List Sa},To (fun z p=>KAt H2 (kd z) p/\KdOf z (kd z)) l as->To KdOf l (l.map kd):=fun {l as} h=>by
      induction h with
      | nil=>exact .nil
      | cons h t ih=>exact .cons h.2 ih
     exact this AY
   · have:∀ {l:List Ss} {as:List Sa},To (fun z p=>KAt H2 (kd z) p/\KdOf z (kd z)) l as->KsAt H2 (l.map kd) as:=fun {l as} h=>by
      induction h with
      | nil=>exact .nil
      | cons h t ih=>exact .cons h.1 ih
     exact this AY
def HeadOf (ws:List Ss) (t:Th):Prop:=∃ rest,ws=R4 "head"::rest/\iR (pw rest) t
def RuleOf (st:Int) (nm:Ss) (ws:List Ss) (t:Th):Prop:=∃ rest,ws=R4 "rule"::aS st::nm::rest/\rest≠[]/\(0<=st/\st<1000)/\iR (pw rest) t
def WsOk (ws:List Ss):Prop:=(ws.map (·.length)).sum+ws.length<=6000
theorem WsOk.tail {x:Ss} {ws:List Ss} (h:WsOk (x::ws)):WsOk ws:=by
 unfold WsOk at h ⊢;rw [Sl,Uj,R7] at h;omega
theorem WsOk.mem:∀ {ws:List Ss},WsOk ws->∀ x∈ws,x.length<=6000
 | [],_,x,hx=>by cases hx
 | y::ws,h,x,hx=>by
   rcases Sn.mp hx with rfl | hx
   · unfold WsOk at h;rw [Sl,Uj] at h;omega
   · exact WsOk.mem h.tail x hx
inductive f8 (K:R8) (C:Sa) (vs:List V) (H:Hp) (Q:VK) (E:XK):Prop
 | mk (wl:Sa) (ws:List Ss) (Au:vs=[.ref wl]) (Av:H wl=some (.lst (ws.map V.str))) (AF:WsOk ws) (AR:(∀ t:Th,HeadOf ws t->t.size<=60000->∀ (r:Sa) (H':Hp),L2.Same H H'->At H' t r->Q (.ref r) H')) (Bs:((∀ t,¬ HeadOf ws t)->∀ H',L2.Same H H'->E (.ref C) none H')):f8 K C vs H Q E
def nq (K:R8) (C:Sa):Sp:=f8 K C
inductive gr (K:R8) (C:Sa) (vs:List V) (H:Hp) (Q:VK) (E:XK):Prop
 | mk (st:Int) (nm:Ss) (wl:Sa) (ws:List Ss) (Au:vs=[.int st,.str nm,.ref wl]) (Av:H wl=some (.lst (ws.map V.str))) (AF:WsOk ws) (AR:(∀ t:Th,RuleOf st nm ws t->t.size<=60000->∀ (r:Sa) (H':Hp),L2.Same H H'->At H' t r->Q (.ref r) H')) (Bs:((∀ t,¬ RuleOf st nm ws t)->∀ H',L2.Same H H'->E (.ref C) none H')):gr K C vs H Q E
def nb (K:R8) (C:Sa):Sp:=gr K C
set_option maxHeartbeats 1000000 in
theorem mX:bj P w K mg base (CX1 P w) 5 T.g_read_head.f T.g_read_head.d ["words"] (nq K T.e_NoText):=by
 refine T.g_read_head.F.ok1 n9 (fun vs H Q E h=>?_) (fun Aj A outer s H vs Q E hr h=>?_)
 · obtain ⟨wl,ws,rfl,_⟩:=h;rfl
 obtain ⟨wl,ws,rfl,ew,hok,kq,ke⟩:=h
 refine ⟨_,(ad (aJ (av (xU (B:=150) (uJ hr)) (aQ ce (pv 0) bw (aY af)) (bM (aa aA ac)) (aw _)) (ag (bF T.X_NoText T.x_NoText aA)) aB)
  (ag (ax (aW (fc T) (hr.mono (by first | decide | omega)) rfl T.g_read_pattern.m T.g_read_pattern.F.kp T.g_read_pattern.b .nil cM (aa (aQ ce (pv 0) (aY af) bw) ac))))),?_⟩
 try dsimp only [AM,Af]
 refine ⟨_,rfl,1,rfl,wl,_,rfl,SqL.of ew,fun l1 AX=>?_⟩
 have F7:cR (ws.map V.str) none (some 1)=(ws.take 1).map V.str:=by
  unfold cR;rw [show (1:Int)=((1:Nat):Int) by rfl,HT.sIx_none,HT.sIx_nat,R5,Uv,Xd,<- V2];congr 1;cases ws with
  | nil=>rfl
  | cons x ws=>rw [R7,Vi (by omega)]
 rw [F7];have s1:L2.Same H (upd H l1 (.lst ((ws.take 1).map V.str))):=ai AX _;have e1:(upd H l1 (.lst ((ws.take 1).map V.str))) l1=some (.lst ((ws.take 1).map V.str)):=ae;generalize (upd H l1 (.lst ((ws.take 1).map V.str)))=H1 at s1 e1 ⊢;refine ⟨am (by show 1<=1000000;decide),fun l2 AW=>?_⟩;have s2:L2.Same H1 (upd H1 l2 (.lst [.str (R4 "head")])):=ai AW _;have e2:(upd H1 l2 (.lst [.str (R4 "head")])) l2=some (.lst [.str (R4 "head")]):=ae;generalize (upd H1 l2 (.lst [.str (R4 "head")]))=H2 at s2 e2 ⊢;have Cb:=s1.trans s2;refine ⟨l1,l2,_,_,(ws.take 1).map Dv.str,[.str (R4 "head")],rfl,rfl,SqL.of (s2 _ _ e1),SqL.of e2,?_,.cons (by rw [DAt]) .nil,?_,fun bb Cv=>⟨_,rfl,?_⟩⟩
 · cases ws with
   | nil=>exact .nil
   | cons x ws=>exact .cons (by rw [DAt]) .nil
 · cases ws with
   | nil=>decide +kernel
   | cons x ws=>show eF [Dv.str x]<=150;rw [eF,eF,Dv.deep];decide
 by_cases c:ws.take 1=[R4 "head"]
 case neg =>
  have hb:bb=true:=Cv.mpr fun z=>c (by
   cases ws with
   | nil=>cases z
   | cons x ws =>
     have:=(SH z).1;cases this;rfl)
  subst hb;refine bG (ke (fun t ht=>?_) H2 Cb);obtain ⟨rest,e,_⟩:=ht;rw [e] at c;exact c rfl
 obtain ⟨rest,rfl⟩:∃ rest,ws=R4 "head"::rest:=by
  cases ws with
  | nil=>cases c
  | cons x ws=>exact ⟨ws,by have:=(SH c).1;rw [this]⟩
 have hb:bb=false:=by
  cases bb with
  | false=>rfl
  | true=>exact absurd rfl (Cv.mp rfl)
 subst hb;refine bo ?_;dsimp only [cX];refine ⟨_,rfl,1,rfl,wl,_,rfl,SqL.of (Cb _ _ ew),fun l3 B8=>?_⟩;have FI:cR ((R4 "head"::rest).map V.str) (some 1) none=rest.map V.str:=fZ _ _;rw [FI];have s3:L2.Same H2 (upd H2 l3 (.lst (rest.map V.str))):=ai B8 _;have e3:(upd H2 l3 (.lst (rest.map V.str))) l3=some (.lst (rest.map V.str)):=ae;generalize (upd H2 l3 (.lst (rest.map V.str)))=H3 at s3 e3 ⊢;have B6:=Cb.trans s3
 exact ⟨l3,rest,rfl,e3,hok.tail,fun t ht hz r H4 s4 h4=>kq t ⟨rest,rfl,ht⟩ hz r H4 (B6.trans s4) h4,fun AJ H4 s4=>ke (fun t ht=>by
  obtain ⟨r',e,h'⟩:=ht;rw [<- (SH e).2] at h';exact AJ t h') H4 (B6.trans s4)⟩
set_option maxHeartbeats 1000000 in
theorem m3:bj P w K mg base (CX1 P w) 5 T.g_read_rule.f T.g_read_rule.d ["state","name","words"] (nb K T.e_NoText):=by
 refine T.g_read_rule.F.ok1 oR (fun vs H Q E h=>?_) (fun Aj A outer s H vs Q E hr h=>?_)
 · obtain ⟨st,nm,wl,ws,rfl,_⟩:=h;rfl
 obtain ⟨st,nm,wl,ws,rfl,ew,hok,kq,ke⟩:=h
 refine ⟨_,(ad (aJ (PW.pt (eG (av eK (ao aj rfl T.n_len Sw (aa (pv 2) ac)) af (aw _)) (eG (av d4 (au aI (pv 2) af (fun _ _=>rfl)) aA (aw _)) (eG (av d4 (aW (cD T) (hr.mono (by first | decide | omega)) rfl T.g_read_number.m T.g_read_number.F.kp T.g_read_number.b .nil cM (aa (au aI (pv 2) af (fun _ _=>rfl)) ac)) (pv 0) (aw _)) (eg (av d4 (au aI (pv 2) af (fun _ _=>rfl)) (pv 1) (aw _))))))) (ag (bF T.X_NoText T.x_NoText aA)) aB)
  (ag (ax (aW (fc T) (hr.mono (by first | decide | omega)) rfl T.g_read_pattern.m T.g_read_pattern.F.kp T.g_read_pattern.b .nil cM (aa (aQ ce (pv 2) (aY af) bw) ac))))),?_⟩
 try dsimp only [AM,Af]
 refine ⟨_,rfl,wl,_,rfl,.inl (SqL.of ew),_,_,rfl,rfl,_,rfl,?_⟩;rw [R5];by_cases c0:ws.length<4
 · rw [decide_eq_true (show ((ws.length:Nat):Int)<4 by omega)];refine bG (ke (fun t ht=>?_) H (.refl _));obtain ⟨rest,rfl,Ax,_⟩:=ht;have:=T3.mpr Ax;simp only [R7] at c0;omega
 rw [decide_eq_false (show ¬ ((ws.length:Nat):Int)<4 by omega)];refine bo ?_;refine hid fun ZZ kZ=>?_
 obtain ⟨x,y,n,rest,rfl,Ax⟩:∃ x y n rest,ws=x::y::n::rest/\rest≠[]:=by
  match ws,c0 with
  | [],h=>exact absurd (by decide) h
  | [_],h=>exact absurd (show 1<4 by decide) h
  | [_,_],h=>exact absurd (show 2<4 by decide) h
  | [_,_,_],h=>exact absurd (show 3<4 by decide) h
  | x::y::n::u::v,_=>exact ⟨x,y,n,u::v,rfl,by simp⟩
 refine kZ ?_
 have hinv:∀ t,RuleOf st nm (x::y::n::rest) t->x=R4 "rule"/\y=aS st/\n=nm/\(0<=st/\st<1000)/\iR (pw rest) t:=fun t ht=>by
  obtain ⟨r',e,_,h1,h2⟩:=ht;obtain ⟨e1,e⟩:=SH e;obtain ⟨e2,e⟩:=SH e;obtain ⟨e3,e⟩:=SH e;rw [<- e] at h2;exact ⟨e1,e2,e3,h1,h2⟩
 refine ⟨_,rfl,wl,_,0,.str x,rfl,rfl,SqL.of ew,at0,rfl,_,rfl,?_⟩;by_cases c1:x=R4 "rule"
 case neg =>
  rw [decide_eq_false (show ¬ V.str x=V.str (R4 "rule") from fun z=>c1 (V.str.inj z))];exact bG (ke (fun t ht=>c1 (hinv t ht).1) H (.refl _))
 subst c1;rw [decide_eq_true rfl];refine bo ?_;refine ⟨_,rfl,wl,_,1,.str y,rfl,rfl,SqL.of ew,at1,y,rfl,by have:=hok.mem y (by simp);omega,fun m hm H1 s1=>?_,fun hm H1 s1=>ke (fun t ht=>by rw [bQ.mpr ⟨(hinv t ht).2.1,(hinv t ht).2.2.2.1⟩] at hm;cases hm) H1 s1⟩;refine ⟨_,rfl,rfl,_,rfl,?_⟩;by_cases c2:m=st
 case neg =>
  rw [decide_eq_false (show ¬ V.int m=V.int st from fun z=>c2 (V.int.inj z))];refine bG (ke (fun t ht=>c2 ?_) H1 s1);rw [bQ.mpr ⟨(hinv t ht).2.1,(hinv t ht).2.2.2.1⟩] at hm;exact (Su hm).symm
 subst c2;rw [decide_eq_true rfl];refine bo ?_;have Ny:=s1 _ _ ew;refine ⟨_,rfl,wl,_,2,.str n,rfl,rfl,SqL.of Ny,at2,_,rfl,rfl,_,rfl,?_⟩;by_cases c3:n=nm
 case neg =>
  rw [decide_eq_false (show ¬ V.str n=V.str nm from fun z=>c3 (V.str.inj z))];exact bG (ke (fun t ht=>c3 (hinv t ht).2.2.1) H1 s1)
 subst c3;rw [decide_eq_true rfl];refine bo ?_;dsimp only [cX];refine ⟨_,rfl,3,rfl,wl,_,rfl,SqL.of Ny,fun l3 B8=>?_⟩
 have FI:cR ((R4 "rule"::y::n::rest).map V.str) (some 3) none=rest.map V.str:=by
  rw [show (3:Int)=((3:Nat):Int) by rfl,jC (by rw [R5,R7,R7,R7];omega)];rfl
 rw [FI];have s3:L2.Same H1 (upd H1 l3 (.lst (rest.map V.str))):=ai B8 _;have e3:(upd H1 l3 (.lst (rest.map V.str))) l3=some (.lst (rest.map V.str)):=ae;generalize (upd H1 l3 (.lst (rest.map V.str)))=H3 at s3 e3 ⊢;have B6:=s1.trans s3;obtain ⟨hy,HP⟩:=bQ.mp hm;exact ⟨l3,rest,rfl,e3,hok.tail.tail.tail,fun t ht hz r H4 s4 h4=>kq t ⟨rest,by rw [hy],Ax,HP,ht⟩ hz r H4 (B6.trans s4) h4,fun AJ H4 s4=>ke (fun t ht=>AJ t (hinv t ht).2.2.2.2) H4 (B6.trans s4)⟩
theorem tq {t u:Th} (ht:t.tall<=101) (hu:u.tall<=101) (h:t.stP.map (·.2)=u.stP.map (·.2)):t=u:=by
 refine hid fun ZZ kZ=>?_;obtain ⟨F,h1,h2⟩:=gK ht;obtain ⟨G,h3,h4⟩:=gK hu;refine kZ ?_;rw [h,h3] at h1;have:=Su h1;subst this;rw [h2] at h4;have h5:=congrArg (List.map uC) h4;rw [T8,T8,show (uC ∘ i6)=eh Th.call from funext rg] at h5;obtain ⟨b1,_⟩:=oj Th.call t;obtain ⟨b2,_⟩:=oj Th.call u;rw [h5,b2,BB.lh,BB.lh] at b1;exact (SH b1).1.symm
theorem RuleOf.uniq {st:Int} {nm:Ss} {ws:List Ss} {t u:Th} (h:RuleOf st nm ws t) (h':RuleOf st nm ws u):t=u:=by
 obtain ⟨r,e,_,_,h1,h2⟩:=h;refine hid fun ZZ kZ=>?_;obtain ⟨r',e',_,_,h3,h4⟩:=h';refine kZ ?_;rw [e] at e';have:r=r':=(SH (SH (SH e').2).2).2;subst this;exact tq h2 h4 (Su (h1.symm.trans h3))
structure fD (ins:List (Ss×Int)) (rows:List (List Th)) (WR:List (List Ss)):Prop where
 len:WR.length=rows.length * ins.length
 row:∀ row∈rows,row.length=ins.length
 w:∀ (s j:Nat) (row:List Th) (t:Th) (k:Ss×Int),rows[s]?=some row->row[j]?=some t->ins[j]?=some k->∃ ws,WR[s * ins.length+j]?=some ws/\RuleOf (s:Nat) k.1 ws t/\t.size<=60000
structure RlI (H0:Hp) (rl:Sa) (rows:List (List Th)) (n i L:Nat) (AU:List Sa) (H:Hp):Prop where
 sm:L2.Same H0 H
 rl0:H0 rl=none
 er:H rl=some (.lst (AU.map V.ref))
 len:AU.length=L
 nd:AU.Nodup
 fr:∀ a∈AU,H0 a=none
 rln:rl∉AU
 ent:∀ (s:Nat) (a:Sa) (row:List Th),AU[s]?=some a->rows[s]?=some row->∃ Ae:List Sa,H a=some (.lst (Ae.map V.ref))/\Ats H (row.take (i - s * n)) Ae
theorem RlI.same {H0 H H':Hp} {rl:Sa} {rows:List (List Th)} {n i L:Nat} {AU:List Sa} (h:RlI H0 rl rows n i L AU H) (s:L2.Same H H'):RlI H0 rl rows n i L AU H' :=
 ⟨h.sm.trans s,h.rl0,s _ _ h.er,h.len,h.nd,h.fr,h.rln,fun x a row h1 h2=>by
  obtain ⟨Ae,e,ht⟩:=h.ent x a row h1 h2;exact ⟨Ae,s _ _ e,ht.mono (Same.kt s)⟩⟩
def v1 (ins:List (Ss×Int)) (WR:List (List Ss)) (i:Nat) (t:Th):Prop:=∃ (ws:List Ss) (k:Ss×Int),WR[i]?=some ws/\ins[i%ins.length]?=some k/\RuleOf ((i / ins.length:Nat):Int) k.1 ws t/\t.size<=60000
open Classical in
noncomputable def tH (ins:List (Ss×Int)) (WR:List (List Ss)) (i:Nat):Th:=if h:∃ t,v1 ins WR i t then h.choose else .call 0 0
theorem wm {ins:List (Ss×Int)} {WR:List (List Ss)} {i:Nat} {t:Th} (h:v1 ins WR i t):tH ins WR i=t:=by
 unfold tH;have hx:∃ t,v1 ins WR i t:=⟨t,h⟩;rw [dif_pos hx];refine hid fun ZZ kZ=>?_;obtain ⟨ws,k,h1,h2,h3,_⟩:=hx.choose_spec;refine kZ ?_;obtain ⟨Ay,k',Bu,BD,JF,_⟩:=h;rw [h1] at Bu;rw [h2] at BD;cases Bu;cases BD;exact h3.uniq JF
noncomputable def rowsOf (ins:List (Ss×Int)) (WR:List (List Ss)):List (List Th):=(Tw (WR.length / ins.length)).map fun s=>(Tw ins.length).map fun j=>tH ins WR (s * ins.length+j)
theorem iD {ins:List (Ss×Int)} {WR:List (List Ss)} {s:Nat} {row:List Th} (h:(rowsOf ins WR)[s]?=some row):s<WR.length / ins.length/\row=(Tw ins.length).map fun j=>tH ins WR (s * ins.length+j):=by
 unfold rowsOf at h;rw [So] at h;obtain ⟨y,hy,rfl⟩:=T6.mp h;obtain ⟨hl,e⟩:=Sj.mp hy;rw [U1] at hl;rw [List.getElem_range] at e;subst e;exact ⟨hl,rfl⟩
theorem gW {α:Type} {f:Nat->α} {n j:Nat} {x:α} (h:((Tw n).map f)[j]?=some x):j<n/\x=f j:=by
 rw [So] at h;obtain ⟨y,hy,rfl⟩:=T6.mp h;obtain ⟨hl,e⟩:=Sj.mp hy;rw [U1] at hl;rw [List.getElem_range] at e;subst e;exact ⟨hl,rfl⟩
inductive fH (K:R8) (C:Sa) (vs:List V) (H:Hp) (Q:VK) (E:XK):Prop
 | mk (ia wr:Sa) (Ar Eh:List Sa) (ins:List (Ss×Int)) (WR:List (List Ss)) (Au:vs=[.ref ia,.ref wr]) (Av:H ia=some (.lst (Ar.map V.ref))) (AF:KsAt H ins Ar) (AR:ins≠[]) (Bs:ins.length<=1000) (Ci:H wr=some (.lst (Eh.map V.ref))) (Ea:To (fun ws a=>H a=some (.lst ((ws:List Ss).map V.str))) WR Eh) (Fj:WR.length<=1000) (Jx:(∀ ws∈WR,WsOk ws)) (Jy:(∀ rows,fD ins rows WR->∀ (r:Sa) (AU:List Sa) (H':Hp),L2.Same H H'->H' r=some (.lst (AU.map V.ref))->To (SRow H') rows AU->Q (.ref r) H')) (FA:((∀ rows,¬ fD ins rows WR)->∀ H',L2.Same H H'->E (.ref C) none H')):fH K C vs H Q E
def lP (K:R8) (C:Sa):Sp:=fH K C
theorem mD {α β:Type} {F:α->β->Prop}:∀ {a:List α} {b:List β},a.length=b.length->(∀ (i:Nat) (x:α) (y:β),a[i]?=some x->b[i]?=some y->F x y)->To F a b
 | [],[],_,_=>.nil
 | x::a,y::b,hl,h=>.cons (h 0 x y rfl rfl) (mD (by simpa using hl) fun i u v hu hv=>h (i+1) u v (by simpa using hu) (by simpa using hv))
 | [],y::b,hl,_=>by cases hl
 | x::a,[],hl,_=>by cases hl
set_option maxHeartbeats 2000000 in
theorem ma:bj P w K mg base (CX1 P w) 6 T.g_read_rules.f T.g_read_rules.d ["ins","rows"] (lP K T.e_NoText):=by
 refine T.g_read_rules.F.ok1 ci (fun vs H Q E h=>?_) (fun Aj A outer s H vs Q E hr h=>?_)
 · obtain ⟨ia,wr,Ar,Eh,ins,WR,rfl,_⟩:=h;rfl
 obtain ⟨ia,wr,Ar,Eh,ins,WR,rfl,ei,B7,Ax,h8,Gk,Nz,Ql,Qm,kq,ke⟩:=h
 refine ⟨_,(ad (aJ (av d4 (al aV (ao aj rfl T.n_len Sw (aa (pv 1) ac)) (ao aj rfl T.n_len Sw (aa (pv 0) ac))) af (aw _)) (ag (bF T.X_NoText T.x_NoText aA)) aB)
  (ad (ar (i:=2) ci.nd rfl (SG rfl) (bM ac))
  (ad (bW WA rfl (ve rfl T.n_enumerate (pv 1)) (jO rfl (bK (ay (i:=3) ci.nd rfl (SG rfl)) (bK (ay (i:=4) ci.nd rfl (SG rfl)) fq))) (ad (fX (ao pK rfl T.n_divmod PyProof.Rows.boot_divmod (aa (pv 3) (aa (ao aj rfl T.n_len Sw (aa (pv 0) ac)) ac))) (jO rfl (bK (ay (i:=5) ci.nd rfl (SG rfl)) (bK (ay (i:=6) ci.nd rfl (SG rfl)) fq))))
  (ad (aJ (av cz (pv 6) af (aw _)) (ag (bq (b9 SS Tb Ta aZ (pv 2) (aa (bM ac) ac)))) aB)
  (ag (bq (b9 SS Tb Ta aZ (au aI (pv 2) (pv 5) (fun _ _=>rfl)) (aa (aW (m3 T) (hr.mono (by first | decide | omega)) rfl T.g_read_rule.m T.g_read_rule.F.kp T.g_read_rule.b .nil cM (aa (pv 5) (aa (au aD (au aI (pv 0) (pv 6) (fun _ _=>rfl)) af (fun _ _=>rfl)) (aa (pv 4) ac)))) ac)))))))
  (ag (ax (pv 2)))))),?_⟩
 try dsimp only [AM,Af]
 have OE:=T3.mpr Ax;have Bo:ins.length=Ar.length:=SK B7;have CQ:WR.length=Eh.length:=SK Nz;obtain ⟨n,hn⟩:∃ n,n=ins.length:=⟨_,rfl⟩;have hN:((Ar.map V.ref).length:Int)=((n:Nat):Int):=by rw [R5,hn,Bo]
 have hW:((Eh.map V.ref).length:Int)=((WR.length:Nat):Int):=by rw [R5,<- CQ]
 refine ⟨_,rfl,wr,_,rfl,.inl (SqL.of Gk),_,rfl,ia,_,rfl,.inl (SqL.of ei),_,_,rfl,rfl,(by rw [hN];omega),rfl,_,rfl,?_⟩;rw [hN,hW];have hm:((WR.length:Nat):Int)%((n:Nat):Int)=((WR.length%n:Nat):Int):=rfl;rw [hm];by_cases EE:WR.length%n=0
 case neg =>
  rw [decide_eq_false (show ¬ V.int ((WR.length%n:Nat):Int)=V.int 0 from fun z=>EE (by have:=V.int.inj z;omega))];refine bG (ke (fun rows hR=>EE ?_) H (.refl _));rw [hR.len,hn];exact Nat.mul_mod_left _ _
 rw [EE,decide_eq_true (show V.int ((0:Nat):Int)=V.int 0 from rfl)];refine bo ?_;dsimp only [cX];obtain ⟨rows,Aq⟩:∃ rows,rows=rowsOf ins WR:=⟨_,rfl⟩;have HQ:rows.length=WR.length / n:=by rw [Aq,hn];unfold rowsOf;rw [R5,U1]
 have Qn:rows.length<=1000:=by rw [HQ];exact TF (Nat.div_le_self _ _) Ql
 have HR:WR.length=rows.length * n:=by rw [HQ,Nat.div_mul_cancel (Nat.dvd_of_mod_eq_zero EE)]
 have C4:∀ row∈rows,row.length=n:=fun row Ac=>by
  obtain ⟨s,hs⟩:=SV.mp Ac;rw [Aq] at hs;rw [(iD hs).2,R5,U1,hn]
 refine ⟨am (by show 0<=1000000;decide),fun rl BC=>?_⟩;have s1:L2.Same H (upd H rl (.lst [])):=ai BC _;have e1:(upd H rl (.lst [])) rl=some (.lst (([]:List Sa).map V.ref)):=ae;generalize (upd H rl (.lst []))=H1 at s1 e1 ⊢;dsimp only [aC];have Ct:0<n:=by omega
 refine ⟨_,rfl,wr,rfl,⟨_,SqL.of (s1 _ _ Gk)⟩,?_⟩
 refine t6 (K:=K) (a:=wr) (xs:=Eh.map V.ref) (fun i σ H3=>Ex5 fun (c3 c4 c5 c6:Option V) (AU:List Sa)=>An3 (σ=[some (.ref ia),some (.ref wr),some (.ref rl),c3,c4,c5,c6]) (RlI H rl rows n i ((i+n - 1) / n) AU H3) (∀ i',i'<i->v1 ins WR i' (tH ins WR i')))
  ⟨none,none,none,none,[],rfl,⟨s1,BC,e1,by rw [VF,VR (by omega)];rfl,WM,(fun a h=>by cases h),Up,fun s a row h=>by simp at h⟩,fun i' h=>absurd h (Nat.not_lt_zero _)⟩ (fun i σ H3 _ ⟨_,_,_,_,_,_,I,_⟩=>SqL.of (I.sm _ _ Gk)) ?_ ?_
 · rintro i x pr σ H3 hx Ll ⟨c3,c4,c5,c6,AU,rfl,I0,Ah⟩;obtain ⟨wa,rfl,E1⟩:=bH hx;have Qo:=(Sj.mp E1).1;have HS:i<rows.length * n:=by rw [<- HR];omega
   obtain ⟨s,hs⟩:∃ s,s=i / n:=⟨_,rfl⟩;obtain ⟨j,hj⟩:∃ j,j=i%n:=⟨_,rfl⟩;have DO:i=s * n+j:=by rw [hs,hj,VG];exact (Xj i n).symm
   have JG:j<n:=by rw [hj];exact Nat.mod_lt _ Ct
   have Qp:s<rows.length:=by rw [hs];exact Xy (by rw [VG];exact HS)
   have s4:L2.Same H3 (upd H3 pr (.tup [.int ((i:Nat):Int),.ref wa])):=ai Ll _;have e4:(upd H3 pr (.tup [.int ((i:Nat):Int),.ref wa])) pr=some (.tup [.int ((i:Nat):Int),.ref wa]):=ae;generalize (upd H3 pr (.tup [.int ((i:Nat):Int),.ref wa]))=H4 at s4 e4 ⊢;have I4:=I0.same s4;refine ⟨pr,_,rfl,SqT.of e4,rfl,_,_,rfl,_,_,rfl,rfl,?_⟩;dsimp only [aC];refine ⟨_,rfl,_,rfl,ia,_,rfl,.inl (SqL.of (I4.sm _ _ ei)),_,_,rfl,⟨by rw [hN];omega,by rw [hN];omega⟩,fun dp Qq=>?_⟩;rw [hN];have EY:((i:Nat):Int) / ((n:Nat):Int)=((s:Nat):Int):=by rw [hs];rfl
   have hd2:((i:Nat):Int)%((n:Nat):Int)=((j:Nat):Int):=by rw [hj];rfl
   rw [EY,hd2];have s5:L2.Same H4 (upd H4 dp (.tup [.int ((s:Nat):Int),.int ((j:Nat):Int)])):=ai Qq _;have e5:(upd H4 dp (.tup [.int ((s:Nat):Int),.int ((j:Nat):Int)])) dp=some (.tup [.int ((s:Nat):Int),.int ((j:Nat):Int)]):=ae;generalize (upd H4 dp (.tup [.int ((s:Nat):Int),.int ((j:Nat):Int)]))=H5 at s5 e5 ⊢;have I5:=I4.same s5;refine ⟨dp,_,rfl,SqT.of e5,rfl,_,_,rfl,_,_,rfl,rfl,?_⟩;dsimp only [aC]
   have DW:(i+n - 1) / n=if j=0 then s else s+1:=by
    split
    · rename_i h
      rw [DO,h,Nat.add_zero,show s * n+n - 1=(n - 1)+s * n by omega,VJ _ _ Ct,VR (by omega),VF]
    · rw [DO,show s * n+j+n - 1=(j - 1)+(s+1) * n by rw [U7];omega,VJ _ _ Ct,VR (by omega),VF]
   have HU:(i+1+n - 1) / n=s+1:=by
    rw [DO,show s * n+j+1+n - 1=j+(s+1) * n by rw [U7];omega,VJ _ _ Ct,VR JG,VF]
   refine bh (fun f' H'=>Ex1 fun (EF:List Sa)=>An2 (f'=[some (.ref ia),some (.ref wr),some (.ref rl),some (.int ((i:Nat):Int)),some (.ref wa),some (.int ((s:Nat):Int)),some (.int ((j:Nat):Int))]) (RlI H rl rows n i (s+1) EF H')) (fun kk hk=>?_) ?_
   · refine ⟨_,rfl,rfl,_,rfl,?_⟩;by_cases Gm:j=0
     · rw [decide_eq_true (show V.int ((j:Nat):Int)=V.int 0 by rw [Gm];rfl)];refine bG ?_;refine ⟨_,rfl,.inl ⟨rfl,_,SqL.of I5.er⟩,am (by show 0<=1000000;decide),fun la BM=>?_⟩;have s6:L2.Same H5 (upd H5 la (.lst [])):=ai BM _;have e6:(upd H5 la (.lst [])) la=some (.lst (([]:List Sa).map V.ref)):=ae;generalize (upd H5 la (.lst []))=H6 at s6 e6 ⊢;have I6:=I5.same s6;have Gn:la≠rl:=fun z=>by rw [z,I5.er] at BM;cases BM
       have Qr:la∉AU:=fun z=>by
        obtain ⟨y,hy⟩:=SV.mp z;have G4:=(Sj.mp hy).1;have hL:=I5.len;rw [DW,if_pos Gm] at hL;obtain ⟨row,Ac⟩:∃ row,rows[y]?=some row:=⟨_,R6 (by omega)⟩;obtain ⟨Ae,e,_⟩:=I5.ent y la row hy Ac;rw [BM] at e;cases e
       have hL:=I6.len;rw [DW,if_pos Gm] at hL;refine ⟨rl,_,_,rfl,rfl,I6.er,bi (by rw [R5];omega),?_⟩;have k7:KT H6 (upd H6 rl (.lst (AU.map V.ref++[.ref la]))):=bD I6.er;refine hk _ _ ⟨AU++[la],rfl,aH I6.sm I6.rl0,I6.rl0,by rw [ae,Sq];rfl,by rw [Sm,hL];rfl,Yc.mpr ⟨I6.nd,Uz.mpr ⟨Up,WM⟩,fun b hb c hc e=>Qr (by rw [<- Sy.mp hc,<- e];exact hb)⟩,fun b hb=>?_,fun z=>?_,fun y a row h1 h2=>?_⟩
       · rcases Sv.mp hb with hb | hb
         · exact I6.fr b hb
         · rw [Sy.mp hb];exact I5.sm.free BM
       · rcases Sv.mp z with z | z
         · exact I6.rln z
         · exact Gn (Sy.mp z).symm
       · by_cases hy:y<AU.length
         · rw [Vf hy] at h1;obtain ⟨Ae,e,ht⟩:=I6.ent y a row h1 h2;have DP:a≠rl:=fun z=>I6.rln (by rw [<- z];exact Sd h1);exact ⟨Ae,by rw [aq DP];exact e,ht.mono k7⟩
         · have Qs:=(Sj.mp h1).1;rw [Sm,Tn] at Qs;obtain rfl:y=s:=by omega
           rw [UO (by omega),hL,WH] at h1;cases h1;refine ⟨[],by rw [aq Gn];exact e6,?_⟩;rw [DO,Gm,Nat.add_zero,WH,Vb];exact .nil
     · rw [decide_eq_false (show ¬ V.int ((j:Nat):Int)=V.int 0 from fun z=>Gm (by have:=V.int.inj z;omega))];refine bo ?_;dsimp only [cX];refine hk _ _ ⟨AU,rfl,?_⟩;rw [DW,if_neg Gm] at I5;exact I5
   · rintro f' H6 ⟨EF,rfl,I6⟩;refine hid fun ZZ kZ=>?_;obtain ⟨la,BM⟩:∃ la,EF[s]?=some la:=⟨_,R6 (by rw [I6.len];omega)⟩;obtain ⟨row,Ac⟩:∃ row,rows[s]?=some row:=⟨_,R6 Qp⟩;have HV:=C4 row (Sd Ac);obtain ⟨t,ht⟩:∃ t,row[j]?=some t:=⟨_,R6 (by omega)⟩;obtain ⟨k,hk⟩:∃ k,ins[j]?=some k:=⟨_,R6 (by omega)⟩;obtain ⟨ka,Bb,CO⟩:=P2.get B7 hk;obtain ⟨ws,AH,Ei⟩:=P2.get' Nz E1
     have NA:t=tH ins WR i:=by
      rw [Aq] at Ac;have e:=(iD Ac).2;rw [e] at ht;rw [(gW ht).2,<- hn,<- DO]
     have Qt:ins[i%ins.length]?=some k:=by rw [<- hn,<- hj];exact hk
     obtain ⟨Ae,Du,B9⟩:=I6.ent s la row BM Ac;refine kZ ?_;have Bw:=B9.length;rw [SR] at Bw;refine ⟨_,rfl,_,rfl,rl,_,_,.ref la,rfl,rfl,SqL.of I6.er,at_nonneg (by omega) (by rw [Uc,So,BM];rfl),.inl ⟨rfl,_,SqL.of Du⟩,?_⟩;refine ⟨_,rfl,_,rfl,_,rfl,ia,_,_,.ref ka,rfl,rfl,SqL.of (I6.sm _ _ ei),at_nonneg (by omega) (by rw [Uc,So,Bb];rfl),ka,_,0,.str k.1,rfl,rfl,SqT.of (I6.sm _ _ CO),at0,_,rfl,?_⟩;refine ⟨((s:Nat):Int),k.1,wa,ws,rfl,I6.sm _ _ Ei,Qm ws (Sd AH),fun u HW Qu r H7 s7 Qv=>?_,fun AJ H7 s7=>ke (fun rows' Lx=>?_) H7 (I6.sm.trans s7)⟩
     rotate_left
     · have Cz:=Lx.len;rw [<- hn] at Cz;have Qw:rows'.length=rows.length:=Nat.eq_of_mul_eq_mul_right Ct (by rw [<- Cz,<- HR]);refine hid fun ZZ kZ=>?_;obtain ⟨Bh,Bn⟩:∃ Bh,rows'[s]?=some Bh:=⟨_,R6 (by omega)⟩;obtain ⟨t',Cs⟩:∃ t',Bh[j]?=some t':=⟨_,R6 (by rw [Lx.row Bh (Sd Bn)];omega)⟩;obtain ⟨Ay,HX,Qx,_⟩:=Lx.w s j Bh t' k Bn Cs hk;refine kZ ?_;rw [<- hn,<- DO,AH] at HX;cases HX;exact AJ t' Qx
     have NB:v1 ins WR i u:=⟨ws,k,AH,Qt,by rw [<- hn,<- hs];exact HW,Qu⟩;have NC:u=t:=by rw [NA];exact (wm NB).symm
     subst NC;have I7:=I6.same s7;have HY:=s7 _ _ Du;refine ⟨la,_,_,rfl,rfl,HY,bi (by rw [R5];omega),?_⟩;have Di:=Sd BM;have Gn:la≠rl:=fun z=>I6.rln (by rw [<- z];exact Di);have k8:KT H7 (upd H7 la (.lst (Ae.map V.ref++[.ref r]))):=bD HY;refine ⟨_,_,_,_,EF,rfl,⟨aH I7.sm (I7.fr la Di),I7.rl0,by rw [aq Gn.symm];exact I7.er,by rw [HU];exact I7.len,I7.nd,I7.fr,I7.rln,fun y a Bh h1 h2=>?_⟩,fun i' BS=>?_⟩;by_cases ND:y=s
     · subst ND;rw [BM] at h1;cases h1;rw [Ac] at h2;cases h2;refine ⟨Ae++[r],by rw [ae,Sq];rfl,?_⟩;have e1:i - y * n=j:=by omega
       have e2:i+1 - y * n=j+1:=by omega
       rw [e1] at B9;rw [e2,take_snoc ht];exact Ats.append (B9.mono ((Same.kt s7).trans k8)) (.cons (Qv.mono k8) .nil)
     · obtain ⟨FG,e,Cs⟩:=I7.ent y a Bh h1 h2
       have DP:a≠la:=fun z=>by
        rw [z] at h1;exact ND ((List.getElem?_inj (Sj.mp h1).1 I7.nd).mp (h1.trans BM.symm))
       refine ⟨FG,by rw [aq DP];exact e,?_⟩;have G4:=(Sj.mp h1).1;rw [I7.len] at G4;have Qy:=C4 Bh (Sd h2);have hmul:(y+1) * n<=s * n:=VN _ (by omega);rw [U7] at hmul;rw [S7 (by omega)] at Cs ⊢;exact Cs.mono k8
     · by_cases Gp:i'=i
       · rw [Gp,<- NA];exact NB
       · exact Ah i' (by omega)
 · rintro σ H3 ⟨c3,c4,c5,c6,AU,rfl,I,Ah⟩;rw [R5,<- CQ] at I Ah;rw [HR] at I
   have Qz:fD ins rows WR:=⟨by rw [<- hn];exact HR,fun row Ac=>by rw [<- hn];exact C4 row Ac,fun s j row t k h1 h2 h3=>by
    have CG:=(Sj.mp h1).1;have JG:j<n:=by rw [hn];exact (Sj.mp h3).1
    have AD:s * n+j<WR.length:=by
     rw [HR];have:(s+1) * n<=rows.length * n:=VN _ CG;rw [U7] at this;omega
    rw [Aq] at h1;rw [(iD h1).2] at h2;have e2:=(gW h2).2;rw [<- hn] at e2 ⊢;obtain ⟨ws,k',hw,BY,HW,hz⟩:=Ah (s * n+j) AD;rw [<- hn,show (s * n+j)%n=j by rw [Nat.add_comm,Nat.add_mul_mod_self_right,Nat.mod_eq_of_lt JG],h3] at BY;rw [<- hn,show (s * n+j) / n=s by rw [Nat.add_comm,VJ _ _ Ct,VR JG,VF]] at HW;cases BY;rw [<- e2] at HW hz;exact ⟨ws,hw,HW,hz⟩⟩
   refine ⟨_,rfl,kq rows Qz rl AU H3 I.sm I.er (mD ?_ fun y row a h1 h2=>?_)⟩
   · rw [I.len,show rows.length * n+n - 1=(n - 1)+rows.length * n by omega,VJ _ _ Ct,VR (by omega),VF]
   · obtain ⟨Ae,e,ht⟩:=I.ent y a row h2 h1;have G4:=(Sj.mp h1).1;have hmul:(y+1) * n<=rows.length * n:=VN _ (by omega);rw [U7] at hmul;rw [S7 (by rw [C4 row (Sd h1)];omega)] at ht;exact ⟨Ae,.inl e,ht⟩
def dF (r:List Nat):List Ss:=(wds r).map ofL
theorem gC (c:Nat):∀ l:List Nat,((aF c l).map fun p=>p.length+1).sum=l.length+1
 | []=>rfl
 | d::l=>by
   have ih:=gC c l;rw [aF];obtain ⟨p,r,e⟩:=cj c l;rw [e] at ih ⊢;rw [Sl,Uj] at ih;split
   · simp only [Sl,Uj,R7,UB];omega
   · simp only [Sl,Uj,R7];omega
theorem lx (p:List Nat->Bool) (l:List (List Nat)):((l.filter p).map fun x=>x.length+1).sum<=(l.map fun x=>x.length+1).sum:=by
 induction l with
 | nil=>exact Sg _
 | cons x l ih =>
   rw [VS,Sl,Uj];split
   · rw [Sl,Uj];omega
   · omega
theorem uT {r:List Nat} (h:r.length<=5900):WsOk (dF r):=by
 have h1:=TF (lx (fun p=>!p.isEmpty) (aF 32 r)) (Xe (gC 32 r))
 have h2:∀ l:List (List Nat),((l.map ofL).map (·.length)).sum+(l.map ofL).length=(l.map fun x=>x.length+1).sum:=fun l=>by
  induction l with
  | nil=>rfl
  | cons x l ih =>
    simp only [Sl,Uj,R7] at ih ⊢;rw [cy];omega
 show ((((aF 32 r).filter fun p=>!p.isEmpty).map ofL).map (·.length)).sum+(((aF 32 r).filter fun p=>!p.isEmpty).map ofL).length<=6000;rw [h2];omega
theorem nG {α β:Type} {F:α->β->Prop}:∀ {a:List α} {b:List β},To F a b->To (fun y x=>F x y) b a
 | _,_,.nil=>.nil
 | _,_,.cons h t=>.cons h (nG t)
theorem yk {r:List Nat}:2 * (dF r).length<=r.length+1:=by
 have h1:=TF (lx (fun p=>!p.isEmpty) (aF 32 r)) (Xe (gC 32 r))
 have h2:∀ l:List (List Nat),(∀ p∈l,p≠[])->2 * l.length<=(l.map fun x=>x.length+1).sum:=fun l hl=>by
  induction l with
  | nil=>exact Sg _
  | cons x l ih =>
    have:=ih fun p hp=>hl p (Sk _ hp);have hx:=T3.mpr (hl x (Sr ..));rw [R7,Sl,Uj];omega
 have h3:=h2 ((aF 32 r).filter fun p=>!p.isEmpty) fun p hp e=>by
  have:=(V5.mp hp).2;rw [e] at this;cases this
 unfold dF wds;rw [R5];omega
structure ox (z:Ss):Prop where
 zl:z.length<=1000000
 rl:∀ r∈aF 10 (sL z),r.length<=5900
 r2:∀ r∈(aF 10 (sL z)).take 2,r.length<=1900
 n:(aF 10 (sL z)).length<=1000
structure cI (z:Ss) (ins outs:List (Ss×Int)) (head:Th) (rows:List (List Th)):Prop where
 ex:∃ r0 r1 r2 rest,aF 10 (sL z)=r0::r1::r2::rest/\KindsOf (R4 "in") (dF r0) ins/\KindsOf (R4 "out") (dF r1) outs/\HeadOf (dF r2) head/\fD ins rows (rest.map dF)
def gU (K:R8) (CT CK CB:Sa):Sp:=fun vs H Q E=>∃ z:Ss,vs=[.str z]/\ox z/\(∀ ins outs head rows,cI z ins outs head rows->aK ins=true->aK outs=true->dY ins outs head rows->∀ (r:Sa) (H':Hp),L2.Same H H'->Bk H' ins outs head rows r->Q (.ref r) H')/\(∀ ins outs head rows,cI z ins outs head rows->¬ (aK ins=true/\aK outs=true)->∀ H',L2.Same H H'->E (.ref CK) none H')/\(∀ ins outs head rows,cI z ins outs head rows->aK ins=true->aK outs=true->¬ dY ins outs head rows->∀ H',L2.Same H H'->E (.ref CB) none H')/\((∀ ins outs head rows,¬ cI z ins outs head rows)->∀ H',L2.Same H H'->E (.ref CT) none H')
theorem qw:∀ {l:List Ss} {a b:List (Ss×Int)},To KdOf l a->To KdOf l b->a=b
 | _,_,_,.nil,.nil=>rfl
 | _,_,_,.cons h t,.cons h' t'=>by rw [KdOf.uniq h h',qw t t']
theorem KindsOf.uniq {f:Ss} {ws:List Ss} {ks FJ:List (Ss×Int)}:KindsOf f ws ks->KindsOf f ws FJ->ks=FJ
 | ⟨r,e,_,hp⟩,⟨r',e',_,Ca⟩=>by
   rw [e] at e';have e2:=(SH e').2;subst e2;exact qw hp Ca
def kJ (H:Hp) (ws:List Ss) (a:Sa):Prop:=H a=some (.lst (ws.map V.str))
theorem ql {α β:Type} {F G:α->β->Prop}:∀ {a:List α} {b:List β},(∀ x y,y∈b->F x y->G x y)->To F a b->To G a b
 | _,_,_,.nil=>.nil
 | _,_,f,.cons h t=>.cons (f _ _ (Sr ..) h) (ql (fun x y hy=>f x y (Sk _ hy)) t)
set_option maxHeartbeats 2000000 in
theorem nj:bj P w K mg base (CX1 P w) 8 T.g_read_book.f T.g_read_book.d ["text"] (gU K T.e_NoText T.e_NoKinds T.e_NoBook):=by
 refine T.g_read_book.F.ok1 cS (fun vs H Q E h=>?_) (fun Aj A outer s H vs Q E hr h=>?_)
 · obtain ⟨z,rfl,_⟩:=h;rfl
 obtain ⟨z,rfl,B,kq,kk,kb,kt⟩:=h
 refine ⟨_,(ad (lm (i:=1) (N:=[R4 "row"]) (js:=[none]) (g:=(aC 0)) (tt:=bn) (te:=(hV kc [] E0 (bZ (bN 0) eN))) cS.nd rfl (SG rfl) rfl (cL rfl (by decide +kernel) (by decide +kernel) rfl rfl rfl) (fG (b9 TB Wd Wc mJ (pv 0) (aa aA ac))) (fun _ _ _ _ _ _=>(ay (i:=0) yM rfl (SG rfl))) (bA rfl) (fun _ _ _ _ _ _=>cb) (fun _ _ _ _ _ _=>(pcF T.g_words_in (pF T) hr (aa (pv 0) ac))))
  (ad (aJ (av eK (ao aj rfl T.n_len Sw (aa (pv 1) ac)) af (aw _)) (ag (bF T.X_NoText T.x_NoText aA)) aB)
  (ad (ar (i:=2) cS.nd rfl (SG rfl) (aW (fW T) (hr.mono (by first | decide | omega)) rfl T.g_read_kinds.m T.g_read_kinds.F.kp T.g_read_kinds.b .nil cM (aa aA (aa (au aI (pv 1) af (fun _ _=>rfl)) ac))))
  (ad (ar (i:=3) cS.nd rfl (SG rfl) (aW (fW T) (hr.mono (by first | decide | omega)) rfl T.g_read_kinds.m T.g_read_kinds.F.kp T.g_read_kinds.b .nil cM (aa aA (aa (au aI (pv 1) af (fun _ _=>rfl)) ac))))
  (ad (ar (i:=4) cS.nd rfl (SG rfl) (aW (mX T) (hr.mono (by first | decide | omega)) rfl T.g_read_head.m T.g_read_head.F.kp T.g_read_head.b .nil cM (aa (au aI (pv 1) af (fun _ _=>rfl)) ac)))
  (ag (ax (aW (m9 T) (hr.mono (by first | decide | omega)) rfl T.g_made_book.m T.g_made_book.F.kp T.g_made_book.b .nil cM (aa (pv 2) (aa (pv 3) (aa (pv 4) (aa (aW (ma T) (hr.mono (by first | decide | omega)) rfl T.g_read_rules.m T.g_read_rules.F.kp T.g_read_rules.b .nil cM (aa (pv 2) (aa (aQ ce (pv 1) (aY af) bw) ac))) ac)))))))))))),?_⟩
 try dsimp only [AM,Af]
 have RQ:=B.zl;have Ly:=B.n;refine ⟨_,rfl,rfl,z,R4 "\n",rfl,rfl,rfl,by omega,fun p hp=>?_⟩;obtain ⟨R,hR⟩:∃ R,R=aF 10 (sL z):=⟨_,rfl⟩;rw [<- hR] at Ly
 have BV:UL z (R4 "\n")=R.map ofL:=by
  have h1:R4 "\n"=⟨#[10]⟩:=rfl;rw [h1,jK _ (by decide),hR];rfl
 have s1:L2.Same H (upd H p (.lst ((UL z (R4 "\n")).map V.str))):=ai hp _;have e1:(upd H p (.lst ((UL z (R4 "\n")).map V.str))) p=some (.lst ((R.map ofL).map V.str)):=by rw [ae,BV]
 generalize (upd H p (.lst ((UL z (R4 "\n")).map V.str)))=H1 at s1 e1 ⊢;refine ⟨p,rfl,⟨_,SqL.of e1⟩,fun D hD=>?_⟩;refine ⟨R.length,fun j H2=>Ex1 fun (as:List Sa)=>An5 (j<=R.length) (L2.Same H1 H2) (H2 D=some (.lst (as.map V.ref))) (D∉as) (To (kJ H2) ((R.take j).map dF) as),⟨[],Td _,ai hD _,ae,Up,.nil⟩,?_⟩;rintro j H2 ⟨as,hj,s2,eD,NF,has⟩;have Lz:=s2 _ _ e1;have Ef:((R.take j).map dF).length=as.length:=SK has;rw [R5,SR] at Ef;by_cases HZ:j=R.length
 · left;refine ⟨⟨_,SqL.of Lz,by rw [R5,R5,HZ];exact Sg _⟩,?_⟩;rw [HZ,VA] at has;dsimp only [aC];have BM:as.length=R.length:=by omega
   refine ⟨_,rfl,D,_,rfl,.inl (SqL.of eD),_,_,rfl,rfl,_,rfl,?_⟩;have Dg:=s1.trans s2;by_cases h3:R.length<3
   · rw [decide_eq_true (show (((as.map V.ref).length:Nat):Int)<3 by rw [R5];omega)];refine bG (kt (fun ins outs head rows hb=>?_) H2 Dg);refine hid fun ZZ kZ=>?_;obtain ⟨r0,r1,r2,rest,e,_⟩:=hb;refine kZ ?_;rw [<- hR] at e;rw [e] at h3;exact absurd h3 (by show ¬ rest.length+1+1+1<3;omega)
   rw [decide_eq_false (show ¬ (((as.map V.ref).length:Nat):Int)<3 by rw [R5];omega)];refine hid fun ZZ kZ=>?_
   obtain ⟨r0,r1,r2,rest,Gq⟩:∃ r0 r1 r2 rest,R=r0::r1::r2::rest:=by
    match R,h3 with
    | [],h=>exact absurd (by decide) h
    | [_],h=>exact absurd (show 1<3 by decide) h
    | [_,_],h=>exact absurd (show 2<3 by decide) h
    | r0::r1::r2::rest,_=>exact ⟨r0,r1,r2,rest,rfl⟩
   refine kZ ?_;have Gr:∀ r∈r0::r1::r2::rest,r.length<=5900:=fun r hr=>B.rl r (by rw [<- hR,Gq];exact hr);have Nw:∀ r∈[r0,r1],r.length<=1900:=fun r hr=>B.r2 r (by rw [<- hR,Gq];exact hr);have Dk:aF 10 (sL z)=r0::r1::r2::rest:=by rw [<- hR,Gq]
   rw [Gq] at has;have BM:as.length=rest.length+3:=by rw [BM,Gq];rfl
   have Ia:rest.length<=1000:=by rw [Gq] at Ly;have:rest.length+1+1+1<=1000:=Ly;omega
   refine bo ?_;dsimp only [cX];refine hid fun ZZ kZ=>?_;obtain ⟨a0,h0,w0⟩:=P2.get has (i:=0) rfl;obtain ⟨a1,h1,w1⟩:=P2.get has (i:=1) rfl;obtain ⟨a2,h2,w2⟩:=P2.get has (i:=2) rfl;refine kZ ?_;have AS:∀ (i:Nat) (a:Sa),as[i]?=some a->atI (as.map V.ref) ((i:Nat):Int)=some (.ref a):=fun i a h=>cT (by rw [So,h];rfl);unfold kJ at w0 w1 w2
   have Gs:∀ r∈r0::r1::r2::rest,∀ x∈dF r,x.length<=100000:=fun r hr x hx=>by
    have h1:=(uT (Gr r hr)).mem x hx;omega
   have CV:∀ r∈[r0,r1],(dF r).length<=960:=fun r hr=>by
    have h1:=yk (r:=r);have h2:=Nw r hr;omega
   have Fv:∀ {f:Ss} {r:List Nat} {ks:List (Ss×Int)},r∈[r0,r1]->KindsOf f (dF r) ks->ks≠[]/\ks.length<=1000/\∀ k∈ks,k.1.length<=100000:=fun {f r ks} hr hk=>by
    obtain ⟨rs,e,Ax,hp⟩:=hk;have h1:=CV r hr;rw [e,R7] at h1;have h2:=SK hp;refine ⟨fun z=>Ax (S6.mp (by rw [h2,z];rfl)),by omega,fun k hk=>?_⟩;obtain ⟨i,hi⟩:=SV.mp hk;obtain ⟨x,_,hx⟩:=P2.get (show To (fun (k:Ss×Int) (x:Ss)=>KdOf x k) ks rs from nG hp) hi;have:=(de hx.2.1).2.1;omega
   refine ⟨_,rfl,D,_,0,.ref a0,rfl,rfl,SqL.of eD,AS 0 a0 h0,_,a0,dF r0,rfl,w0,by have:=CV r0 (by simp);omega,Gs r0 (by simp),fun ins Cu ia Ar H3 s3 NG NH=>?hm,fun AJ H3 s3=>kt (fun i o hd B0 hb=>?hs) H3 (Dg.trans s3)⟩
   case hs =>
    refine hid fun ZZ kZ=>?_;obtain ⟨LA,Dz,LC,C3,e,h,_⟩:=hb;refine kZ ?_;rw [Dk] at e;rw [<- (SH e).1] at h;exact AJ i h
   dsimp only [aC];refine ⟨_,rfl,D,_,1,.ref a1,rfl,rfl,SqL.of (s3 _ _ eD),AS 1 a1 h1,_,a1,dF r1,rfl,s3 _ _ w1,by have:=CV r1 (by simp);omega,Gs r1 (by simp),fun outs DX oa Ak H4 s4 QA QB=>?hm2,fun AJ H4 s4=>kt (fun i o hd B0 hb=>?hs2) H4 (Dg.trans (s3.trans s4))⟩
   case hs2 =>
    refine hid fun ZZ kZ=>?_;obtain ⟨LA,Dz,LC,C3,e,_,h,_⟩:=hb;refine kZ ?_;rw [Dk] at e;rw [<- (SH (SH e).2).1] at h;exact AJ o h
   refine hid fun ZZ kZ=>?_;obtain ⟨ine,i8,QC⟩:=Fv (by simp) Cu;obtain ⟨one,o8,LD⟩:=Fv (by simp) DX;refine kZ ?_
   have hinv:∀ i o hd B0,cI z i o hd B0->i=ins/\o=outs/\HeadOf (dF r2) hd/\fD ins B0 (rest.map dF):=fun i o hd B0 hb=>by
    obtain ⟨LA,Dz,LC,C3,e,h1,h2,h3,h4⟩:=hb;rw [Dk] at e;obtain ⟨x0,e⟩:=SH e;obtain ⟨x1,e⟩:=SH e;obtain ⟨x2,x3⟩:=SH e;rw [<- x0] at h1;rw [<- x1] at h2;rw [<- x2] at h3;rw [<- x3,KindsOf.uniq h1 Cu] at h4;exact ⟨KindsOf.uniq h1 Cu,KindsOf.uniq h2 DX,h3,h4⟩
   dsimp only [aC];have BE:=s3.trans s4;refine ⟨_,rfl,D,_,2,.ref a2,rfl,rfl,SqL.of (BE _ _ eD),AS 2 a2 h2,a2,_,rfl,BE _ _ w2,uT (Gr r2 (by simp)),fun head QD Az ha H5 s5 QE=>?_,fun AJ H5 s5=>kt (fun i o hd B0 hb=>AJ hd (hinv i o hd B0 hb).2.2.1) H5 (Dg.trans (BE.trans s5))⟩;dsimp only [aC];have EZ:=BE.trans s5;refine ⟨_,rfl,_,rfl,_,rfl,_,rfl,_,rfl,3,rfl,D,_,rfl,SqL.of (EZ _ _ eD),fun l3 B8=>?_⟩
   have F7:cR (as.map V.ref) (some 3) none=(as.drop 3).map V.ref:=by
    rw [show (3:Int)=((3:Nat):Int) by rfl,jC (by rw [R5];omega),Wv]
   rw [F7];have s6:L2.Same H5 (upd H5 l3 (.lst ((as.drop 3).map V.ref))):=ai B8 _;have e6:(upd H5 l3 (.lst ((as.drop 3).map V.ref))) l3=some (.lst ((as.drop 3).map V.ref)):=ae;generalize (upd H5 l3 (.lst ((as.drop 3).map V.ref)))=H6 at s6 e6 ⊢;have LF:=EZ.trans s6;have DY:=s5.trans s6;have LG:=s4.trans DY
   have EW:To (fun ws a=>H6 a=some (.lst ((ws:List Ss).map V.str))) (rest.map dF) (as.drop 3):=by
    have:=P2.drop 3 has;exact P2.mp (fun _ _ e=>LF _ _ e) this
   refine ⟨ia,l3,Ar,as.drop 3,ins,rest.map dF,rfl,LG _ _ NG,NH.mono (Same.kt LG),ine,i8,e6,EW,by rw [R5];exact Ia,fun ws AH=>?_,fun rows JH ru AU H7 s7 QF LH=>?_,fun AJ H7 s7=>kt (fun i o hd B0 hb=>AJ B0 (hinv i o hd B0 hb).2.2.2) H7 (Dg.trans (LF.trans s7))⟩
   · obtain ⟨r,BP,rfl⟩:=TC.mp AH;exact uT (Gr r (Sk _ (Sk _ (Sk _ BP))))
   have NI:=LG.trans s7;have NJ:=DY.trans s7;have LI:=LF.trans s7;have hI:jE K H7 ins ia Ar:=⟨.inl (SqL.of (NI _ _ NG)),NH.mono (Same.kt NI),i8,QC⟩;have hO:jE K H7 outs oa Ak:=⟨.inl (SqL.of (NJ _ _ QA)),QB.mono (Same.kt NJ),o8,LD⟩
   have FC:rows.length<=1000:=by
    have h1:=JH.len;rw [R5] at h1;have h2:rows.length * 1<=rows.length * ins.length:=VX _ (T3.mpr ine);omega
   have K8:∀ row∈rows,∀ t∈row,t.size<=100000:=fun row Ac t ht=>by
    obtain ⟨s,hs⟩:=SV.mp Ac;obtain ⟨j,hj⟩:=SV.mp ht;have Dw:=(Sj.mp hj).1;rw [JH.row row Ac] at Dw;obtain ⟨_,_,_,hz⟩:=JH.w s j row t _ hs hj (R6 Dw);omega
   have LJ:cI z ins outs head rows:=⟨r0,r1,r2,rest,Dk,Cu,DX,QD,JH⟩;exact ⟨ia,oa,ha,ru,Ar,Ak,AU,ins,outs,head,rows,rfl,hI,hO,QE.mono (Same.kt (s6.trans s7)),by omega,⟨.inl QF,LH⟩,FC,K8,fun gi go hok r H8 s8 hB=>kq ins outs head rows LJ gi go hok r H8 (Dg.trans (LI.trans s8)) hB,fun hn H8 s8=>kk ins outs head rows LJ hn H8 (Dg.trans (LI.trans s8)),fun gi go QG H8 s8=>kb ins outs head rows LJ gi go QG H8 (Dg.trans (LI.trans s8))⟩
 · right;have Dt:j<R.length:=by omega
   obtain ⟨r,BP⟩:∃ r,R[j]?=some r:=⟨_,R6 Dt⟩;refine ⟨Dt,⟨_,.str (ofL r),SqL.of Lz,by rw [So,So,BP];rfl⟩,?_⟩;rintro y H3 ⟨q1,hv⟩;have QH:H3=H2:=q1;subst QH;have Bq:=hv _ (SqL.of Lz);rw [So,So,BP] at Bq;cases Bq;have BC:=B.rl r (by rw [<- hR];exact Sd BP);refine ⟨_,rfl,ofL r,rfl,by rw [cy];omega,fun ra H4 s4 Dh era=>?_⟩;have QI:=s4 _ _ eD;have Ib:ra≠D:=fun z=>by rw [z,eD] at Dh;cases Dh
   have QJ:kJ H4 (dF r) ra:=by
    unfold kJ dF;rw [show sL (ofL r)=r from aG r] at era;exact era
   refine ⟨_,QI,bi (by rw [R5];omega),as++[ra],Dt,aH (s2.trans s4) hD,by rw [ae,Sq];rfl,fun zz=>?_,?_⟩
   · rcases Sv.mp zz with zz | zz
     · exact NF zz
     · exact Ib (Sy.mp zz).symm
   · rw [take_snoc BP,Sq];refine P2.append (ql (fun ws a hm e=>?_) has) (.cons ?_ .nil)
     · unfold kJ;rw [aq (fun z=>NF (by rw [<- z];exact hm))];exact s4 _ _ e
     · unfold kJ;rw [aq Ib];exact QJ
inductive fb (K:R8) (vs:List V) (H:Hp) (Q:VK) (_E:XK):Prop
 | mk (a:Sa) (ns:List Int) (k:Int) (Au:vs=[.ref a,.int k]) (Av:SqL K H a (ns.map V.int)) (AF:0<=k) (AR:Q (.int (cellAt ns k)) H):fb K vs H Q _E
def kM (K:R8):Sp:=fb K
theorem bE:bj P w K mg base CX0 1 T.g__law_cell_at.f T.g__law_cell_at.d ["script","k"] (kM K):=by
 refine T.g__law_cell_at.F.ok kR (fun vs H Q E h=>?_) (fun Aj A outer s H vs Q E hr h=>?_)
 · obtain ⟨a,ns,k,rfl,_⟩:=h;rfl
 obtain ⟨a,ns,k,rfl,hS,h0,q⟩:=h
 refine ⟨_,(ad (aJ (av eK (pv 1) (ao aj rfl T.n_len Sw (aa (pv 0) ac)) (aw _)) (ag (ax (al aV (au aI (pv 0) (pv 1) (fun _ _=>rfl)) (al uQ af af)))) aB)
  (ag (ax af))),?_⟩
 try dsimp only [AM,Af]
 refine ⟨_,rfl,_,rfl,a,_,rfl,.inl hS,_,_,rfl,rfl,_,rfl,?_⟩;refine cg (fun c=>?_) (fun c=>?_)
 · have c':k<(((ns.map V.int).length:Nat):Int):=of_decide_eq_true c;rw [R5] at c';refine ⟨_,rfl,_,rfl,a,_,k,_,rfl,rfl,hS,int_at h0 c',_,_,rfl,rfl,⟨by decide,by decide,by decide⟩,_,_,rfl,rfl,?_,?_⟩
   · show (0:Int)<10 ^ 60;decide
   · have e:cellAt ns k=ns.getD k.toNat 0%10 ^ 60:=by unfold cellAt;rw [if_pos c']
     rw [e] at q;exact q
 · have c':¬ k<(((ns.map V.int).length:Nat):Int):=of_decide_eq_false (Ud.mpr c);rw [R5] at c';have e:cellAt ns k=0:=by unfold cellAt;rw [if_neg c']
   rw [e] at q;exact q
inductive hZ (vs:List V) (H:Hp) (Q:VK) (_E:XK):Prop
 | mk (base n:Int) (Au:vs=[.int base,.int n]) (Av:0<=base) (AF:0<=n) (AR:Q (.str (nameOf base n)) H):hZ  vs H Q _E
def oI:Sp:=hZ
theorem om:bj P w K mg base CX0 1 T.g__law_name.f T.g__law_name.d ["base","n"] oI:=by
 refine T.g__law_name.F.ok bu (fun vs H Q E h=>?_) (fun Aj A outer s H vs Q E hr h=>?_)
 · obtain ⟨b,n,rfl,_⟩:=h;rfl
 obtain ⟨b,n,rfl,h0,hn,q⟩:=h
 refine ⟨_,(ad (ar (i:=2) bu.nd rfl (SG rfl) aA)
  (ad (ar (i:=3) bu.nd rfl (SG rfl) aA)
  (ad (ar (i:=4) bu.nd rfl (SG rfl) (al aX (pv 0) af))
  (ad (bW Tt rfl (br rfl T.n_range (aa af ac)) (ay (i:=5) bu.nd rfl (SG rfl)) (ad (ar (i:=3) bu.nd rfl (SG rfl) (al aL (pv 3) (au ou (pv 2) (al aV (pv 4) af) (fun _ _=>rfl))))
  (ag (ar (i:=4) bu.nd rfl (SG rfl) (al aX (pv 4) af)))))
  (ad (aJ (av cz (al aV (pv 0) af) af (aw _)) (ag (ax (aQ lz (pv 3) bw (aY (al bc (pv 1) af))))) aB)
  (ad (ar (i:=6) bu.nd rfl (SG rfl) (al bc af (al aV (al aX (pv 0) af) af)))
  (ad (ar (i:=7) bu.nd rfl (SG rfl) (al aV (al aV (al aX (pv 0) af) af) (pv 6)))
  (ad (ar (i:=8) bu.nd rfl (SG rfl) (au ou (pv 2) (al aV (al bc (b9 TB PySem.F.slot_str_index PySem.F.type_str_index u8 (pv 2) (aa (au ou (pv 3) (pv 7) (fun _ _=>rfl)) ac)) (pv 1)) af) (fun _ _=>rfl)))
  (ag (ax (al aL (al aL (aQ lz (pv 3) bw (aY (pv 7))) (pv 8)) (aQ lz (pv 3) (aY (al bc (pv 7) af)) (aY (pv 6)))))))))))))),?_⟩
 try dsimp only [AM,Af]
 refine ⟨_,rfl,_,_,rfl,rfl,⟨by decide,by decide⟩,?_⟩;refine ⟨8,rfl,by decide,by decide,?_⟩;refine bP (n:=8) (fun i σ H2=>Ex1 fun kv=>An2 (H2=H) (σ=[some (.int b),some (.int n),some (.str dN),some (.str (cQ (b / 112) i)),some (.int (b / 112 / 26 ^ i)),kv,none,none,none])) ⟨none,rfl,?_⟩ ?_ ?_
 · have e1:cQ (b / 112) 0=R4 "":=by
    show (⟨([]:List Nat).toArray⟩:Ss)=R4 "";decide +kernel
   have e2:b / 112 / 26 ^ 0=b / 112:=by rw [Int.pow_zero,Yh]
   rw [e1,e2];rfl
 · rintro i σ H2 hi ⟨kv,rfl,rfl⟩;have h1:=Te (b / 112 / 26 ^ i) (by decide:(26:Int)≠0);have h2:=Tc (b / 112 / 26 ^ i) (by decide:(0:Int)<26);refine ⟨_,rfl,_,rfl,_,rfl,_,_,rfl,rfl,(by show (0:Int)<26;decide),dN,_,_,rfl,rfl,am (by rw [j8];decide),nE h1 h2,_,_,rfl,rfl,am ?_,?_⟩
   · rw [da];show i+1<=1000000;omega
   · refine ⟨_,rfl,_,_,rfl,rfl,⟨by decide,by decide⟩,some (.int (0+i)),rfl,?_⟩
     have e1:b / 112 / 26 ^ (i+1)=b / 112 / 26 ^ i / 26:=by
      rw [Int.pow_succ,Int.ediv_ediv_of_nonneg (Int.le_of_lt (Int.pow_pos (by decide)))]
     rw [qP,e1];rfl
 · rintro σ H2 ⟨kv,rfl,rfl⟩;have hw:=da (b / 112) 8;refine ⟨_,rfl,_,_,rfl,rfl,(by show (0:Int)<2;decide),rfl,_,rfl,?_⟩;refine cg (fun c=>?_) (fun c=>?_)
   · have c':b%2=1:=V.int.inj (of_decide_eq_true c);refine ⟨_,rfl,_,rfl,_,_,rfl,rfl,_,rfl,_,rfl,am (by rw [hw];decide),?_⟩;have e:nameOf b n=db (cQ (b / 112) 8) none (some (n+1)):=by unfold nameOf;rw [if_pos c']
     rw [e] at q;exact q
   · have c':¬ b%2=1:=fun z=>c (decide_eq_true (congrArg V.int z));have hs:=jJ b;have ha:=uy b;refine ⟨_,rfl,_,_,rfl,rfl,⟨by decide,by decide⟩,_,_,rfl,rfl,(by show (0:Int)<8;decide),_,_,rfl,rfl,?_⟩;refine ⟨_,rfl,_,_,rfl,rfl,⟨by decide,by decide⟩,_,_,rfl,rfl,(by show (0:Int)<7;decide),_,rfl,_,_,rfl,rfl,(by show (0:Int)<eC b;omega),?_⟩;have hk:(nAt b).toNat<8:=by omega
     have E1:atI (cQ (b / 112) 8).cps.toList (nAt b)=some (97+((b / 112 / 26 ^ (nAt b).toNat)%26).toNat):=by
      refine at_nonneg ha.1 ?_;show (fK (b / 112) 8)[(nAt b).toNat]?=_;unfold fK;rw [So,VY hk];rfl
     have h1:=Te (b / 112 / 26 ^ (nAt b).toNat) (by decide:(26:Int)≠0);have h2:=Tc (b / 112 / 26 ^ (nAt b).toNat) (by decide:(0:Int)<26);have h3:=Te ((((b / 112 / 26 ^ (nAt b).toNat)%26).toNat:Int)+n) (by decide:(26:Int)≠0);have h4:=Tc ((((b / 112 / 26 ^ (nAt b).toNat)%26).toNat:Int)+n) (by decide:(0:Int)<26);refine ⟨_,rfl,_,rfl,rfl,_,rfl,_,rfl,_,nAt b,_,rfl,rfl,am (by rw [hw];decide),E1,dN,_,_,[],rfl,rfl,t8 _ (by omega),_,rfl,_,_,rfl,rfl,_,_,rfl,rfl,(by show (0:Int)<26;decide),dN,_,_,rfl,rfl,am (by rw [j8];decide),nE h3 h4,?_⟩;have l1:=cN (cQ (b / 112) 8) none (some (nAt b));have l2:=cN (cQ (b / 112) 8) (some (nAt b+1)) (some (eC b));rw [hw] at l1 l2;refine ⟨_,rfl,_,rfl,_,rfl,_,rfl,am (by rw [hw];decide),_,rfl,_,_,rfl,rfl,am ?_,_,rfl,_,rfl,_,_,rfl,rfl,_,rfl,_,rfl,_,rfl,_,rfl,am (by rw [hw];decide),_,_,rfl,rfl,am ?_,?_⟩
     · show (db (cQ (b / 112) 8) none (some (nAt b))).length+1<=1000000;omega
     · rw [SN];show (db (cQ (b / 112) 8) none (some (nAt b))).length+1+(db (cQ (b / 112) 8) (some (nAt b+1)) (some (eC b))).length<=1000000;omega
     · have e:nameOf b n=db (cQ (b / 112) 8) none (some (nAt b))++⟨#[kh b n]⟩++db (cQ (b / 112) 8) (some (nAt b+1)) (some (eC b)):=by unfold nameOf;rw [if_neg c']
       rw [e] at q;exact q
inductive gh (vs:List V) (H:Hp) (Q:VK) (_E:XK):Prop
 | mk (cell:Int) (Au:vs=[.int cell]) (Av:0<=cell) (AF:∀ (r:Sa) (as:List Sa) (H':Hp),L2.Same H H'->H' r=some (.tup (as.map V.ref))->KsAt H' (cm cell) as->Q (.ref r) H'):gh  vs H Q _E
def ng:Sp:=gh
theorem ik:bj P w K mg base CX0 2 T.g__law_kinds.f T.g__law_kinds.d ["cell"] ng:=by
 refine T.g__law_kinds.F.ok bI (fun vs H Q E h=>?_) (fun Aj A outer s H vs Q E hr h=>?_)
 · obtain ⟨c,rfl,_⟩:=h;rfl
 obtain ⟨cell,rfl,h0,q⟩:=h
 refine ⟨_,(ad (ar (i:=1) bI.nd rfl (SG rfl) (al bc (al fj (pv 0) af) af))
  (ad (ar (i:=2) bI.nd rfl (SG rfl) (al bc af (al aV (pv 1) af)))
  (ad (ar (i:=3) bI.nd rfl (SG rfl) (al aX (pv 1) af))
  (ad (ar (i:=4) bI.nd rfl (SG rfl) (bM ac))
  (ad (bW Tt rfl (br rfl T.n_range (aa (pv 2) ac)) (ay (i:=5) bI.nd rfl (SG rfl)) (ad (bq (b9 SS Tb Ta aZ (pv 4) (aa (b8 (aa (pcF T.g__law_name (om T) hr (aa (al aX (pv 1) af) (aa (pv 5) ac))) (aa (al aV (pv 3) af) ac))) ac)))
  (ag (ar (i:=3) bI.nd rfl (SG rfl) (al bc (al aX (pv 3) af) (pv 5))))))
  (ad (ar (i:=6) bI.nd rfl (SG rfl) (al aV (al aX (pv 1) af) (pv 2)))
  (ad (fX (b8 (aa (au aD (au aI (pv 4) (pv 6) (fun _ _=>rfl)) af (fun _ _=>rfl)) (aa af ac))) (l7 (pv 4) (pv 6) set_list))
  (ag (ax (bB bJ rfl T.n_tuple Tu (aa (pv 4) ac))))))))))),?_⟩
 try dsimp only [AM,Af]
 have hM:=wN h0;have hm:=i9 cell;have ha:=qN cell;refine ⟨_,rfl,_,_,rfl,rfl,.inr ⟨by decide,by decide⟩,_,_,rfl,rfl,?_⟩;refine ⟨_,rfl,_,_,rfl,rfl,(by show (0:Int)<6;decide),_,_,rfl,rfl,?_⟩;refine ⟨_,rfl,_,_,rfl,rfl,⟨by decide,by decide⟩,?_⟩;refine ⟨am (by show 0<=1000000;decide),fun kl A6=>?_⟩;refine ⟨_,rfl,dr cell,rfl,by omega,by omega,?_⟩
 refine bP (n:=(dr cell).toNat) (fun i σ H2=>Ex2 fun kv as=>An4 (σ=[some (.int cell),some (.int (dP cell)),some (.int (dr cell)),some (.int (rests (dP cell / 7) i)),some (.ref kl),kv,none]) (L2.Same H H2) (H2 kl=some (.lst (as.map V.ref))) (KsAt H2 ((qf cell).take i) as))
  ⟨none,[],rfl,ai A6 _,ae,.nil⟩ ?_ ?_
 · rintro i σ H2 hi ⟨kv,as,rfl,sm,e,hp⟩;have hb:0<=dP cell / 36:=V6 hM (by decide)
   have hl:as.length=i:=by
    have:=SK hp;rw [SR,gw] at this;omega
   refine ⟨_,rfl,.inl ⟨rfl,_,SqL.of e⟩,_,rfl,_,_,rfl,rfl,⟨by decide,by decide⟩,_,rfl,dP cell / 36,0+(i:Int),rfl,hb,by omega,_,rfl,_,_,rfl,rfl,(by show (0:Int)<4;decide),am (by show 2<=1000000;decide),fun p Ca=>?_⟩;have E2:kl≠p:=aM e Ca;refine ⟨kl,_,_,rfl,rfl,by rw [aq E2];exact e,bi (by rw [R5];omega),?_⟩;refine ⟨_,rfl,_,_,rfl,rfl,⟨by decide,by decide⟩,_,rfl,_,_,rfl,rfl,some (.int (0+(i:Int))),as++[p],?_,aH (aH sm (sm.free Ca)) A6,?_,?_⟩
   · have e1:rests (dP cell / 7) (i+1)=rests (dP cell / 7) i / 4+(0+(i:Int)):=by rw [rests];omega
     rw [e1];rfl
   · rw [ae,Sq];rfl
   · have LK:i<(dr cell).toNat:=hi;rw [Vp,l0 LK];have kt:KT H2 (upd (upd H2 p (.tup [.str (nameOf (dP cell / 36) (0+(i:Int))),.int (rests (dP cell / 7) i%4)])) kl (.lst (as.map V.ref++[.ref p]))):=(iu Ca).trans (bD (xs:=as.map V.ref) (by rw [aq E2];exact e));refine P2.append (hp.mono kt) (.cons ?_ .nil);show (upd (upd H2 p _) kl _) p=_;rw [aq E2.symm,ae,Yg]
 · rintro σ H2 ⟨kv,as,rfl,sm,e,hp⟩;have hk:(qf cell).take (dr cell).toNat=qf cell:=by rw [<- gw,VA]
   rw [hk] at hp
   have hl:as.length=(dr cell).toNat:=by
    have:=SK hp;rw [gw] at this;omega
   obtain ⟨pa,QK,NK⟩:=P2.get hp (l0 (cell:=cell) (i:=(kAt cell).toNat) (by omega));have AS:atI (as.map V.ref) (kAt cell)=some (.ref pa):=at_nonneg ha.1 (by rw [So,QK];rfl);have Ic:(((kAt cell).toNat:Nat):Int)=kAt cell:=by omega
   rw [Ic] at NK;refine ⟨_,rfl,_,_,rfl,rfl,⟨by decide,by decide⟩,_,rfl,_,_,rfl,rfl,(by show (0:Int)<dr cell;omega),?_⟩;refine ⟨_,rfl,_,rfl,kl,_,kAt cell,.ref pa,rfl,rfl,SqL.of e,AS,pa,_,0,_,rfl,rfl,SqT.of NK,at0,am (by show 2<=1000000;decide),fun p Ca=>?_⟩;have E2:kl≠p:=aM e Ca;refine ⟨_,rfl,_,rfl,kl,_,kAt cell,(kAt cell).toNat,rfl,rfl,by rw [aq E2];exact e,?_,?_⟩
   · unfold ixN;rw [if_pos ha.1,if_pos (by rw [R5,hl];omega)]
   · refine ⟨_,rfl,kl,_,rfl,.inl ⟨SqL.of ae,fun l Cz=>?_⟩⟩;have kt:KT H2 (upd (upd H2 p (.tup [.str (nameOf (dP cell / 36) (kAt cell)),.int 0])) kl (.lst ((as.map V.ref).set (kAt cell).toNat (.ref p)))):=(iu Ca).trans (bD (xs:=as.map V.ref) (by rw [aq E2];exact e));refine q l (as.set (kAt cell).toNat p) _ (aH (aH (aH sm (sm.free Ca)) A6) ?_) ?_ ?_
     · exact (aH (aH sm (sm.free Ca)) A6).free Cz
     · rw [ae,Xf]
     · have QL:=kt.trans (iu (o:=.tup ((as.map V.ref).set (kAt cell).toNat (.ref p))) Cz);refine P2.set ?_ _ (hp.mono QL)
       have QM:p≠l:=by
        intro z;rw [<- z,aq E2.symm,ae] at Cz;cases Cz
       show (upd _ l _) p=_;rw [aq QM,aq E2.symm,ae]
theorem wC (n:Nat) (z:Int):(TJ n [V.int z]).flatten=(TJ n z).map V.int:=by
 induction n with
 | zero=>rfl
 | succ n ih=>rw [U5,SJ,ih,U5];rfl
inductive fI (K:R8) (vs:List V) (H:Hp) (Q:VK) (_E:XK):Prop
 | mk (a:Sa) (xs:List V) (many:Int) (Au:vs=[.ref a,.int many]) (Av:H a=some (.lst xs)) (AF:(∀ v∈xs,∃ z,v=.int z)) (AR:xs.length<=1000) (Bs:1<=many) (Ci:many<=1000) (Ea:∀ (r:Sa) (cs:List Int) (H':Hp),L2.Same H H'->H' r=some (.lst (cs.map V.int))->cs.length=many.toNat->Q (.ref r) H'):fI K vs H Q _E
def lR (K:R8):Sp:=fI K
theorem lJ:bj P w K mg base CX0 1 T.g__law_folded.f T.g__law_folded.d ["script","many"] (lR K):=by
 refine T.g__law_folded.F.ok d6 (fun vs H Q E h=>?_) (fun Aj A outer s H vs Q E hr h=>?_)
 · obtain ⟨a,xs,many,rfl,_⟩:=h;rfl
 obtain ⟨a,xs,many,rfl,ea,hint,Ng,m1,m2,q⟩:=h
 refine ⟨_,(ad (ar (i:=2) d6.nd rfl (SG rfl) (al xW (bM (aa af ac)) (pv 1)))
  (ad (bW Tt rfl (br rfl T.n_range (aa (ao aj rfl T.n_len Sw (aa (pv 0) ac)) ac)) (ay (i:=3) d6.nd rfl (SG rfl)) (ag (fX (al aV (al bc (al fj (au aI (pv 2) (al aV (pv 3) (pv 1)) (fun _ _=>rfl)) af) (au aI (pv 0) (pv 3) (fun _ _=>rfl))) (al uQ af af)) (l7 (pv 2) (al aV (pv 3) (pv 1)) set_list))))
  (ag (ax (pv 2))))),?_⟩
 try dsimp only [AM,Af]
 refine ⟨am (by show 1<=1000000;decide),fun l1 AX=>?_⟩;have s1:L2.Same H (upd H l1 (.lst [.int 0])):=ai AX _;have e1:(upd H l1 (.lst [.int 0])) l1=some (.lst [.int 0]):=ae;generalize (upd H l1 (.lst [.int 0]))=H1 at s1 e1 ⊢;refine ⟨_,rfl,l1,_,_,rfl,rfl,e1,by omega,by omega,am (by show 1 * many.toNat<=1000000;omega),fun kl A6=>?_⟩;dsimp only;rw [wC];have s2:L2.Same H (upd H1 kl (.lst ((TJ many.toNat (0:Int)).map V.int))):=s1.trans (ai A6 _);have e2:(upd H1 kl (.lst ((TJ many.toNat (0:Int)).map V.int))) kl=some (.lst ((TJ many.toNat (0:Int)).map V.int)):=ae;have QN:H kl=none:=s1.free A6;generalize (upd H1 kl (.lst ((TJ many.toNat (0:Int)).map V.int)))=H2 at s2 e2 ⊢;refine ⟨_,rfl,a,_,rfl,.inl (SqL.of (s2 _ _ ea)),_,rfl,by omega,by omega,?_⟩
 refine bP (n:=((xs.length:Nat):Int).toNat) (fun i σ H3=>Ex2 fun (kv:Option V) (cs:List Int)=>An4 (σ=[some (.ref a),some (.int many),some (.ref kl),kv]) (L2.Same H H3) (H3 kl=some (.lst (cs.map V.int))) (cs.length=many.toNat))
  ⟨none,_,rfl,s2,e2,List.length_replicate⟩ ?_ ?_
 · rintro i σ H3 hi ⟨kv,cs,rfl,s3,e3,Bc⟩
   have BS:i<xs.length:=by
    have:i<((xs.length:Nat):Int).toNat:=hi;omega
   have y0:=Te (0+(i:Int)) (show many≠0 by omega);have y1:=Tc (0+(i:Int)) (show 0<many by omega);obtain ⟨ix,Kw⟩:∃ ix:Nat,(0+(i:Int))%many=(ix:Int):=⟨_,(XN y0).symm⟩;obtain ⟨c,hc⟩:∃ c,cs[ix]?=some c:=⟨_,R6 (by omega)⟩;obtain ⟨x,hx⟩:∃ x,xs[i]?=some x:=⟨_,R6 BS⟩;obtain ⟨z,rfl⟩:=hint x (Sd hx);refine ⟨_,rfl,_,rfl,_,rfl,_,_,rfl,rfl,(by show 0<many;omega),kl,_,_,.int c,rfl,rfl,SqL.of e3,at_nonneg y0 (by rw [Kw,Uc,So,hc];rfl),_,_,rfl,rfl,.inr ⟨by decide,by decide⟩,?_⟩;refine ⟨_,rfl,_,rfl,a,_,_,.int z,rfl,rfl,SqL.of (s3 _ _ ea),at_nonneg (by omega) (by rw [show (0+(i:Int)).toNat=i by omega];exact hx),_,_,rfl,rfl,_,_,rfl,rfl,⟨by decide,by decide,by decide⟩,_,_,rfl,rfl,(by show (0:Int)<10 ^ 60;decide),?_⟩;refine ⟨_,rfl,_,rfl,_,rfl,_,_,rfl,rfl,(by show 0<many;omega),kl,_,_,ix,rfl,rfl,e3,?_,?_⟩
   · rw [Kw];unfold ixN;rw [if_pos (by omega),if_pos (by rw [R5];omega)];simp
   · refine ⟨_,cs.set ix ((c * 31+z)%10 ^ 60),rfl,aH s3 QN,?_,by rw [UA];exact Bc⟩;rw [ae,Xf];rfl
 · rintro σ H3 ⟨kv,cs,rfl,s3,e3,Bc⟩;exact ⟨_,rfl,q kl cs H3 s3 e3 Bc⟩
theorem jT {H:Hp}:∀ {ks:List (Ss×Int)} {as:List Sa},KsAt H ks as->∀ z∈ks.zip as,z.1∈ks/\KAt H z.1 z.2
 | _,_,.nil,z,hz=>by simp at hz
 | _,_,.cons (a:=k) (b:=a) r t,z,hz=>by
   rw [List.zip_cons_cons] at hz;rcases Sn.mp hz with rfl | hz
   · exact ⟨Sr ..,r⟩
   · obtain ⟨h1,h2⟩:=jT t z hz;exact ⟨Sk _ h1,h2⟩
theorem mO {K:R8} {js:List (Option Nat)} {tt:TT} {te:TE} {σ:St} {H:Hp} {kr:Sa} {Ap:List Sa} {ks:List (Ss×Int)} {fin:Sa->Hp->Prop} (e:H kr=some (.tup (Ap.map V.ref))) (AY:KsAt H ks Ap) (g:iZ ks)
 (Fh:∀ (z:Ss×Int) (ka:Sa) (H2:Hp) (R:Bool->Hp->Prop),L2.Same H H2->KAt H2 z ka->R (decide (V.int z.2=V.int 0)) H2->tt ((cσ js σ).set 0 (some (.ref ka))) H2 R)
 (Fi:∀ (ka:Sa) (H2:Hp) (R:VK),R (.ref ka) H2->te ((cσ js σ).set 0 (some (.ref ka))) H2 R)
 (q:∀ (D:Sa) (k0:Ss×Int) (ka:Sa) (rs:List V) (H':Hp),H D=none->L2.Same H H'->H' D=some (.lst (.ref ka::rs))->k0∈ks->k0.2=0->KAt H' k0 ka->fin D H') :
 ∀ D,H D=none->∃ (n:Nat) (W:Nat->Hp->Prop),W 0 (upd H D (.lst []))/\cZ js (aC 0) tt te σ (Itt K kr) D n W fun H'=>fin D H':=by
 have A6:ks.length=Ap.length:=SK AY;have LL:=g.le;have HF:(ks.zip Ap).length=ks.length:=by rw [Xk];omega
 have Hj:∀ (i:Nat) (x:V) (z:(Ss×Int)×Sa),(Ap.map V.ref)[i]?=some x->(ks.zip Ap)[i]?=some z->x=.ref z.2:=fun i x z hx hz=>by
  obtain ⟨ka,rfl,Bb⟩:=bH hx;obtain ⟨h1,h2⟩:=VU.mp hz;rw [Bb] at h2;cases h2;rfl
 refine qy (ks.zip Ap) (fun z=>decide (V.int z.1.2=V.int 0)) (fun z=>.ref z.2) (SqT.of e) (by rw [HF,R5];exact A6) (by rw [R5];omega) (fun i x z H2 R hx hz sm r=>?_) (fun i x z H2 R hx hz _ sm r=>?_) (fun D hD=>?_)
 · rw [Hj i x z hx hz];have:=(jT AY z (Sd hz)).2;exact Fh z.1 z.2 H2 R sm (sm _ _ this) r
 · rw [Hj i x z hx hz];exact Fi z.2 H2 R r
 · obtain ⟨k,hk,CL⟩:=g.zero;obtain ⟨i,hi,rfl⟩:=List.getElem_of_mem hk;have hz:(ks.zip Ap)[i]'(by omega)∈(ks.zip Ap).filter fun z=>decide (V.int z.1.2=V.int 0):=V5.mpr ⟨List.getElem_mem _,by rw [List.getElem_zip];exact decide_eq_true (congrArg V.int CL)⟩
   have Ah:∀ z∈(ks.zip Ap).filter fun z=>decide (V.int z.1.2=V.int 0),z.1∈ks/\z.1.2=0/\KAt H z.1 z.2:=fun z hz=>by
    obtain ⟨h1,h2⟩:=V5.mp hz;obtain ⟨h3,h4⟩:=jT AY z h1;exact ⟨h3,V.int.inj (of_decide_eq_true h2),h4⟩
   generalize ((ks.zip Ap).filter fun z=>decide (V.int z.1.2=V.int 0))=bs at hz Ah ⊢;cases bs with
   | nil=>cases hz
   | cons z0 bs =>
     obtain ⟨h1,h2,h3⟩:=Ah z0 (Sr ..);exact q D z0.1 z0.2 _ _ hD (ai hD _) ae h1 h2 (ai hD _ _ _ h3)
inductive eW (n:Nat) (vs:List V) (H:Hp) (Q:VK) (_E:XK):Prop
 | mk (cell:Int) (oa:Sa) (Ak:List Sa) (outs:List (Ss×Int)) (S C deep:Int) (Au:vs=[.int cell,.ref oa,.int S,.int C,.int deep]) (Av:H oa=some (.tup (Ak.map V.ref))) (AF:KsAt H outs Ak) (AR:iZ outs) (Bs:0<=S) (Ci:S<=20) (Ea:0<=C) (Fj:C<=3) (Jx:0<=deep) (Jy:deep<(n:Int)) (FA:∀ (t:Th) (r:Sa) (H':Hp),L2.Same H H'->At H' t r->t.FitS outs S C->t.tall<=deep.toNat+1->Q (.ref r) H'):eW n vs H Q _E
def kW (n:Nat):Sp:=eW n
set_option maxHeartbeats 4000000 in
theorem dH:∀ n:Nat,bj P w K mg base CX0 (n+2) T.g__law_pattern.f T.g__law_pattern.d ["cell","outs","states","kids","deep"] (kW n)
 | 0=>⟨fun _ _ _ _ h=>by obtain ⟨_,_,_,_,_,_,_,_,_,_,_,_,_,_,_,h1,h2,_⟩:=h;omega,fun _ _ _ _ _ _ _ _ _ _ _ _ _ h=>by obtain ⟨_,_,_,_,_,_,_,_,_,_,_,_,_,_,_,h1,h2,_⟩:=h;omega⟩
 | n+1=>by
   have ih:=dH n;refine T.g__law_pattern.F.ok bC (fun vs H Q E h=>?_) (fun Aj A outer s H vs Q E hr h=>?_)
   · obtain ⟨cell,oa,Ak,outs,S,C,deep,rfl,_⟩:=h;rfl
   obtain ⟨cell,oa,Ak,outs,S,C,deep,rfl,eo,AY,g,S0,S1,C0,C1,d0,d1,q⟩:=h
   refine ⟨_,(ad (aJ (PW.pt (oH (av mV (al fj (pv 2) (pv 3)) af (aw _)) (ll (PW.pt (eG (av eK (al aV (pv 0) af) af (aw _)) (eg (PW.pt (oH (av cz (pv 4) af (aw _)) (ll (av eK (al aV (pv 0) af) af (aw _))))))))))) (ag (ax (b8 (aa aA (aa (al aV (al aX (pv 0) af) (pv 2)) (aa (al aV (al aX (al aX (pv 0) af) (pv 2)) (pv 3)) ac)))))) aB)
    (ad (ar (i:=5) bC.nd rfl (SG rfl) (au aD (pv 1) (al aV (al aX (pv 0) af) (ao aj rfl T.n_len Sw (aa (pv 1) ac))) (fun _ _=>rfl)))
    (ad (aJ (av cz (pv 4) af (aw _)) (ag (ar (i:=5) bC.nd rfl (SG rfl) (au aI (cf (N:=[R4 "one"]) (js:=[none]) (g:=(aC 0)) (tt:=(lX (tOp (rEq) (tOp (vD K) (bN 0) (tC (.int 1))) (tC (.int 0))))) (te:=(bN 0)) rfl (cL rfl (by decide +kernel) (by decide +kernel) rfl rfl rfl) (dD (pv 1)) (fun _ _ _ _ _ _=>(ay (i:=0) yJ rfl (SG rfl))) (bA rfl) (fun _ _ _ _ _ _=>jj (av cz (au aD (pv 0) af (fun _ _=>rfl)) af (aw _))) (fun _ _ _ _ _ _=>(pv 0))) af (fun _ _=>rfl)))) aB)
    (ad (ar (i:=6) bC.nd rfl (SG rfl) (b8 ac))
    (ad (bW Tt rfl (br rfl T.n_range (aa (au aD (pv 5) af (fun _ _=>rfl)) ac)) (ay (i:=7) bC.nd rfl (SG rfl)) (ad (ar (i:=8) bC.nd rfl (SG rfl) (aW (ih) (hr.mono (Sg _)) rfl T.g__law_pattern.m T.g__law_pattern.F.kp T.g__law_pattern.b .nil md (aa (al aV (al fj (al bc (al bc (al aX (pv 0) af) (pv 7)) af) af) af) (aa (pv 1) (aa (pv 2) (aa (pv 3) (aa (al me (pv 4) af) ac)))))))
    (ag (ar (i:=6) bC.nd rfl (SG rfl) (al ja (pv 6) (b8 (aa (pv 8) ac)))))))
    (ag (ax (al ja (b8 (aa (au aD (pv 5) af (fun _ _=>rfl)) ac)) (pv 6))))))))),?_⟩
   try dsimp only [AM,Af]
   have A6:outs.length=Ak.length:=SK AY;have LL:=g.le;have QO:=g.ne;refine bh (fun f' H'=>An2 (H=H') (f'=[some (.int cell),some (.ref oa),some (.int S),some (.int C),some (.int deep),none,none,none,none])) (fun kk hk=>?_) ?_
   · refine cB (fun b H'=>An2 (H=H') ((b=true->0<S/\0<C))) (fun k2 BU=>?_) (fun H' hb=>?_) (fun H' hb=>?_)
     · refine ⟨_,rfl,_,rfl,_,_,rfl,rfl,.inl ⟨by omega,by omega⟩,_,_,rfl,rfl,_,rfl,?_⟩;refine cg (fun c1=>?_) (fun c1=>BU _ _ ⟨rfl,fun z=>absurd z Sz⟩)
       have Ie:0<S/\0<C:=by
        have DR:0<S * C:=of_decide_eq_true c1;refine ⟨?_,?_⟩
        · rcases XU S0 with h | h
          · exact h
          · rw [<- h] at DR;simp at DR
        · rcases XU C0 with h | h
          · exact h
          · rw [<- h] at DR;simp at DR
       refine ⟨_,rfl,_,_,rfl,rfl,(by show (0:Int)<5;decide),_,_,rfl,rfl,_,rfl,?_⟩;refine cg (fun c2=>BU _ _ ⟨rfl,fun _=>Ie⟩) (fun c2=>?_);refine ⟨_,rfl,rfl,_,rfl,?_⟩;refine cg (fun c3=>?_) (fun c3=>BU _ _ ⟨rfl,fun _=>Ie⟩);exact ⟨_,rfl,_,_,rfl,rfl,(by show (0:Int)<5;decide),_,_,rfl,rfl,_,rfl,BU _ _ ⟨rfl,fun _=>Ie⟩⟩
     · obtain ⟨rfl,hb⟩:=hb;obtain ⟨hS,hC⟩:=hb rfl;refine ⟨_,rfl,_,_,rfl,rfl,⟨by decide,by decide⟩,_,rfl,_,_,rfl,rfl,hS,_,rfl,_,_,rfl,rfl,⟨by decide,by decide⟩,_,rfl,_,_,rfl,rfl,⟨hS,by omega⟩,_,rfl,_,_,rfl,rfl,hC,am (by show 3<=1000000;decide),fun ca Ig=>?_⟩;have y0:=Te (cell / 5) (show S≠0 by omega);have y1:=Tc (cell / 5) hS;have y2:=Te (cell / 5 / S) (show C≠0 by omega);have y3:=Tc (cell / 5 / S) hC;refine q (.call (cell / 5%S) (cell / 5 / S%C)) ca _ (ai Ig _) ?_ ?_ ?_
       · rw [At];exact ae
       · rw [Th.FitS];exact ⟨y0,by omega,y2,by omega⟩
       · rw [Th.tall];omega
     · obtain ⟨rfl,_⟩:=hb;exact hk _ _ ⟨rfl,rfl⟩
   rintro f' H' ⟨rfl,rfl⟩;have m0:=Te (cell / 5) (show ((Ak.map V.ref).length:Int)≠0 by rw [R5];omega);have m1:=Tc (cell / 5) (show (0:Int)<((Ak.map V.ref).length:Int) by rw [R5];omega);refine hid fun ZZ kZ=>?_;obtain ⟨k0,CL⟩:∃ k0,outs[(cell / 5%((Ak.map V.ref).length:Int)).toNat]?=some k0:=⟨_,R6 (by rw [R5] at m0 m1 ⊢;omega)⟩;obtain ⟨ka,Bb,CO⟩:=P2.get AY CL;refine kZ ?_;refine ⟨_,rfl,_,rfl,_,_,rfl,rfl,⟨by decide,by decide⟩,_,rfl,oa,_,rfl,.inr (SqT.of eo),_,_,rfl,rfl,(by show (0:Int)<((Ak.map V.ref).length:Int);rw [R5];omega),oa,_,_,.ref ka,rfl,rfl,SqT.of eo,at_nonneg m0 (by rw [So,Bb];rfl),?_⟩;dsimp only [aC];refine bh (fun f' H'=>Ex2 fun (k0:Ss×Int) (ka:Sa)=>An5 (k0∈outs) (KAt H' k0 ka) ((deep=0->k0.2=0)) (L2.Same H H') (f'=[some (.int cell),some (.ref oa),some (.int S),some (.int C),some (.int deep),some (.ref ka),none,none,none])) (fun kk hk=>?_) ?_
   · refine cB (fun b H'=>An2 (H=H') ((b=false->deep≠0))) (fun k2 BU=>?_) (fun H' hb=>?_) (fun H' hb=>?_)
     · exact ⟨_,rfl,rfl,_,rfl,BU _ _ ⟨rfl,fun z z2=>of_decide_eq_false z (congrArg V.int z2)⟩⟩
     · obtain ⟨rfl,_⟩:=hb;refine ⟨_,rfl,oa,rfl,⟨_,SqT.of eo⟩,mO (K:=K) eo AY g (fun z ka H2 R sm hz r=>⟨_,rfl,ka,_,1,_,rfl,rfl,SqT.of hz,at1,rfl,_,rfl,r⟩) (fun ka H2 R r=>⟨_,rfl,r⟩) (fun D k1 E3 rs H1 hD s1 eD HP Jm e1=>?_)⟩;exact ⟨D,_,0,.ref E3,rfl,rfl,SqL.of eD,at0,hk _ _ ⟨k1,E3,HP,e1,fun _=>Jm,s1,rfl⟩⟩
     · obtain ⟨rfl,hb⟩:=hb;exact hk _ _ ⟨k0,ka,Sd CL,CO,fun z=>absurd z (hb rfl),.refl _,rfl⟩
   rintro f' H1 ⟨k0,ka,BW,CO,hz,s1,rfl⟩;have Dm:=g.num k0 BW;refine ⟨am (by show 0<=1000000;decide),fun pl Bj=>?_⟩;have s2:L2.Same H1 (upd H1 pl (.tup [])):=ai Bj _;have e2:(upd H1 pl (.tup [])) pl=some (.tup (([]:List Sa).map V.ref)):=ae;generalize (upd H1 pl (.tup []))=H2 at s2 e2 ⊢;have Cb:=s1.trans s2;refine ⟨_,rfl,ka,_,1,_,rfl,rfl,SqT.of (s2 _ _ CO),at1,k0.2,rfl,by omega,by omega,?_⟩
   refine bP (n:=k0.2.toNat) (fun i σ H3=>Ex5 fun (c7 c8:Option V) (pl:Sa) (bs:List Sa) (ts:List Th)=>An6 (σ=[some (.int cell),some (.ref oa),some (.int S),some (.int C),some (.int deep),some (.ref ka),some (.ref pl),c7,c8]) (L2.Same H1 H3) (H3 pl=some (.tup (bs.map V.ref))) (Ats H3 ts bs) (ts.length=i) (∀ t∈ts,t.FitS outs S C/\t.tall<=(deep - 1).toNat+1))
    ⟨none,none,pl,[],[],rfl,s2,e2,.nil,rfl,fun t ht=>by cases ht⟩ ?_ ?_
   · rintro i σ H3 hi ⟨c7,c8,pl,bs,ts,rfl,s3,e3,Cy,Bw,Ah⟩;have JI:i<k0.2.toNat:=hi;have sB:L2.Same H H3:=s1.trans s3
     have Ih:1<=deep:=by
      by_cases z:deep=0
      · have:=hz z;omega
      · omega
     refine ⟨_,rfl,_,_,rfl,rfl,⟨by decide,by decide⟩,_,rfl,_,_,rfl,rfl,_,_,rfl,rfl,_,_,rfl,rfl,.inr ⟨by decide,by decide⟩,_,_,rfl,rfl,(by show (0:Int)<2147483647;decide),?_⟩;refine ⟨_,rfl,_,rfl,_,rfl,_,rfl,_,_,rfl,rfl,_,oa,Ak,outs,S,C,deep - 1,rfl,sB _ _ eo,AY.mono (Same.kt sB),g,S0,S1,C0,C1,by omega,by omega,fun t r H4 s4 AS AG AA=>?_⟩;have Cq:bs.length=ts.length:=Cy.length;refine ⟨_,rfl,_,rfl,am (by show 1<=1000000;decide),fun p1 Ds=>?_⟩;dsimp only;have s5:L2.Same H4 (upd H4 p1 (.tup [.ref r])):=ai Ds _;have e5:(upd H4 p1 (.tup [.ref r])) p1=some (.tup [.ref r]):=ae;generalize (upd H4 p1 (.tup [.ref r]))=H5 at s5 e5 ⊢;refine vz (s5 _ _ (s4 _ _ e3)) e5 (by rw [R5];show bs.length+1<=1000000;omega) fun p H6 s6 e6=>?_;have DY:=s4.trans (s5.trans s6);refine ⟨_,_,p,bs++[r],ts++[t],rfl,s3.trans DY,by rw [e6,Sq];rfl,(Cy.mono (Same.kt DY)).append (.cons (AS.mono (Same.kt (s5.trans s6))) .nil),by rw [Sm,Bw];rfl,fun u hu=>?_⟩;rcases Sv.mp hu with hu | hu
     · exact Ah u hu
     · rw [Sy.mp hu];exact ⟨AG,AA⟩
   · rintro σ H3 ⟨c7,c8,pl,bs,ts,rfl,s3,e3,Cy,Bw,Ah⟩;have Cq:bs.length=ts.length:=Cy.length;refine ⟨_,rfl,ka,_,0,.str k0.1,rfl,rfl,SqT.of (s3 _ _ CO),at0,am (by show 1<=1000000;decide),fun p1 Ds=>?_⟩;dsimp only;have s4:L2.Same H3 (upd H3 p1 (.tup [.str k0.1])):=ai Ds _;have e4:(upd H3 p1 (.tup [.str k0.1])) p1=some (.tup [.str k0.1]):=ae;generalize (upd H3 p1 (.tup [.str k0.1]))=H4 at s4 e4 ⊢;refine ⟨_,rfl,?_⟩;refine vz e4 (s4 _ _ e3) (by rw [R5];show 1+bs.length<=1000000;omega) fun p H6 s6 e6=>?_;have FK:=(g.low k0 BW).1;refine q (.knot k0.1 ts) p H6 (s1.trans (s3.trans (s4.trans s6))) ?_ ?_ ?_
     · rw [At];exact ⟨xw FK,bs,e6,Cy.mono (Same.kt (s4.trans s6))⟩
     · rw [Th.FitS];refine ⟨?_,FitSs.of fun t ht=>(Ah t ht).1⟩
       have:(k0.1,(ts.length:Int))=k0:=by
        rw [Bw];exact X9 rfl (by show ((k0.2.toNat:Nat):Int)=k0.2;omega)
       rw [this];exact BW
     · rw [Th.tall];by_cases z:deep=0
       · have BU:=hz z;have:ts=[]:=S6.mp (by omega);subst this;rw [ba];omega
       · have:=nK (n:=(deep - 1).toNat+1) fun t ht=>(Ah t ht).2;omega
inductive fO (n:Nat) (vs:List V) (H:Hp) (Q:VK) (_E:XK):Prop
 | mk (l:Sa) (x:Int) (oa:Sa) (Ak:List Sa) (outs:List (Ss×Int)) (S C deep:Int) (Au:vs=[.ref l,.ref oa,.int S,.int C,.int deep]) (Av:H l=some (.lst [.int x])) (AF:H oa=some (.tup (Ak.map V.ref))) (AR:KsAt H outs Ak) (Bs:iZ outs) (Ci:0<=S) (Ea:S<=20) (Fj:0<=C) (Jx:C<=3) (Jy:0<=deep) (FA:deep<(n:Int)) (QP:∀ (t:Th) (r:Sa) (x':Int) (H':Hp),SameB l H H'->H' l=some (.lst [.int x'])->At H' t r->t.FitS outs S C->t.tall<=deep.toNat+1->Q (.ref r) H'):fO n vs H Q _E
def mH (n:Nat):Sp:=fO n
set_option maxHeartbeats 4000000 in
theorem d2:∀ n:Nat,bj P w K mg base CX0 (n+2) T.g__law_digits.f T.g__law_digits.d ["own","outs","states","kids","deep"] (mH n)
 | 0=>⟨fun _ _ _ _ h=>by obtain ⟨_,_,_,_,_,_,_,_,_,_,_,_,_,_,_,_,_,h1,h2,_⟩:=h;omega,fun _ _ _ _ _ _ _ _ _ _ _ _ _ h=>by obtain ⟨_,_,_,_,_,_,_,_,_,_,_,_,_,_,_,_,_,h1,h2,_⟩:=h;omega⟩
 | n+1=>by
   have ih:=d2 n;refine T.g__law_digits.F.ok bx (fun vs H Q E h=>?_) (fun Aj A outer s H vs Q E hr h=>?_)
   · obtain ⟨l,x,oa,Ak,outs,S,C,deep,rfl,_⟩:=h;rfl
   obtain ⟨l,x,oa,Ak,outs,S,C,deep,rfl,el,eo,AY,g,S0,S1,C0,C1,d0,d1,q⟩:=h
   refine ⟨_,(ad (ar (i:=5) bx.nd rfl (SG rfl) (al fj (pv 2) (pv 3)))
    (ad (ar (i:=6) bx.nd rfl (SG rfl) (al aV (au aI (pv 0) af (fun _ _=>rfl)) (al bc (pv 5) (ao aj rfl T.n_len Sw (aa (pv 1) ac)))))
    (ad (fX (al aX (au aI (pv 0) af (fun _ _=>rfl)) (al bc (pv 5) (ao aj rfl T.n_len Sw (aa (pv 1) ac)))) (l7 (pv 0) af set_list))
    (ad (aJ (av eK (pv 6) (pv 5) (aw _)) (ag (ax (b8 (aa aA (aa (al aV (pv 6) (pv 2)) (aa (al aX (pv 6) (pv 2)) ac)))))) aB)
    (ad (ar (i:=7) bx.nd rfl (SG rfl) (au aD (pv 1) (al me (pv 6) (pv 5)) (fun _ _=>rfl)))
    (ad (aJ (av cz (pv 4) af (aw _)) (ag (ar (i:=7) bx.nd rfl (SG rfl) (au aI (cf (N:=[R4 "one"]) (js:=[none]) (g:=(aC 0)) (tt:=(lX (tOp (rEq) (tOp (vD K) (bN 0) (tC (.int 1))) (tC (.int 0))))) (te:=(bN 0)) rfl (cL rfl (by decide +kernel) (by decide +kernel) rfl rfl rfl) (dD (pv 1)) (fun _ _ _ _ _ _=>(ay (i:=0) yJ rfl (SG rfl))) (bA rfl) (fun _ _ _ _ _ _=>jj (av cz (au aD (pv 0) af (fun _ _=>rfl)) af (aw _))) (fun _ _ _ _ _ _=>(pv 0))) af (fun _ _=>rfl)))) aB)
    (ad (ar (i:=8) bx.nd rfl (SG rfl) (b8 ac))
    (ad (bW Tt rfl (br rfl T.n_range (aa (au aD (pv 7) af (fun _ _=>rfl)) ac)) (ay (i:=9) bx.nd rfl (SG rfl)) (ag (ar (i:=8) bx.nd rfl (SG rfl) (al ja (pv 8) (b8 (aa (aW (ih) (hr.mono (Sg _)) rfl T.g__law_digits.m T.g__law_digits.F.kp T.g__law_digits.b .nil md (aa (pv 0) (aa (pv 1) (aa (pv 2) (aa (pv 3) (aa (al me (pv 4) af) ac)))))) ac))))))
    (ag (ax (al ja (b8 (aa (au aD (pv 7) af (fun _ _=>rfl)) ac)) (pv 8)))))))))))),?_⟩
   try dsimp only [AM,Af]
   have A6:outs.length=Ak.length:=SK AY;have LL:=g.le;have QO:=g.ne;have RR:((Ak.map V.ref).length:Int)=(outs.length:Int):=by rw [R5,A6]
   have Ie:0<=S * C:=Int.mul_nonneg S0 C0
   have LM:S * C<=60:=by
    have:S * C<=20 * 3:=Int.mul_le_mul S1 C1 C0 (by decide);omega
   refine ⟨_,rfl,_,rfl,_,_,rfl,rfl,.inl ⟨by omega,by omega⟩,?_⟩;dsimp only [aC];have CH:0<S * C+((Ak.map V.ref).length:Int):=by omega
   refine ⟨_,rfl,l,_,0,.int x,rfl,rfl,SqL.of el,at0,_,rfl,_,rfl,oa,_,rfl,.inr (SqT.of eo),_,_,rfl,rfl,_,_,rfl,rfl,CH,?_⟩;refine ⟨_,rfl,l,_,0,.int x,rfl,rfl,SqL.of el,at0,_,rfl,_,rfl,oa,_,rfl,.inr (SqT.of eo),_,_,rfl,rfl,_,_,rfl,rfl,⟨CH,by show S * C+((Ak.map V.ref).length:Int)<1073741824;omega⟩,?_⟩;refine ⟨_,rfl,l,_,0,0,rfl,rfl,el,rfl,?_⟩;dsimp only;have p0:=Te x (show S * C+((Ak.map V.ref).length:Int)≠0 by omega);have p1:=Tc x CH;generalize x%(S * C+((Ak.map V.ref).length:Int))=pick at p0 p1 ⊢;generalize x / (S * C+((Ak.map V.ref).length:Int))=x1;have e1:(upd H l (.lst ([V.int x].set 0 (.int x1)))) l=some (.lst [.int x1]):=by rw [ae];rfl
   have s1:SameB l H (upd H l (.lst ([V.int x].set 0 (.int x1)))):=.set;generalize (upd H l (.lst ([V.int x].set 0 (.int x1))))=H1 at e1 s1 ⊢;have JJ:H1 oa=some (.tup (Ak.map V.ref)):=s1 _ _ (tm eo el (by intro z;cases z)) eo;have QQ:KT H H1:=s1.kt el;have DT:=AY.mono QQ;generalize DZ:S * C=calls at Ie LM p1 CH ⊢;refine bh (fun f' H'=>An3 (H1=H') (¬ pick<calls) (f'=[some (.ref l),some (.ref oa),some (.int S),some (.int C),some (.int deep),some (.int calls),some (.int pick),none,none,none])) (fun kk hk=>?_) ?_
   · refine cB (fun b H'=>An2 (H1=H') (b=decide (pick<calls))) (fun k2 BU=>?_) (fun H' hb=>?_) (fun H' hb=>?_)
     · exact ⟨_,rfl,_,rfl,_,_,rfl,rfl,_,rfl,BU _ _ ⟨rfl,rfl⟩⟩
     · obtain ⟨rfl,hb⟩:=hb;have AD:=of_decide_eq_true hb.symm
       have hS:0<S:=by
        rcases XU S0 with h | h
        · exact h
        · rw [<- h,Int.zero_mul] at DZ;omega
       have y0:=Te pick (show S≠0 by omega);have y1:=Tc pick hS;have y2:0<=pick / S:=V6 p0 (by omega);have y3:pick / S<C:=Int.ediv_lt_of_lt_mul hS (by rw [Int.mul_comm,DZ];exact AD);refine ⟨_,rfl,_,rfl,_,_,rfl,rfl,hS,_,rfl,_,rfl,_,_,rfl,rfl,⟨hS,by omega⟩,am (by show 3<=1000000;decide),fun ca Ig=>?_⟩;have Bc:l≠ca:=fun z=>by rw [<- z,e1] at Ig;cases Ig
       refine q (.call (pick%S) (pick / S)) ca x1 _ (s1.trans (.of (ai Ig _))) (by rw [aq Bc];exact e1) ?_ ?_ ?_
       · rw [At];exact ae
       · rw [Th.FitS];exact ⟨y0,by omega,y2,by omega⟩
       · rw [Th.tall];omega
     · obtain ⟨rfl,hb⟩:=hb;exact hk _ _ ⟨rfl,of_decide_eq_false hb.symm,rfl⟩
   rintro f' H' ⟨rfl,RS,rfl⟩;refine hid fun ZZ kZ=>?_;obtain ⟨k0,CL⟩:∃ k0,outs[(pick - calls).toNat]?=some k0:=⟨_,R6 (by omega)⟩;obtain ⟨ka,Bb,CO⟩:=P2.get DT CL;refine kZ ?_;refine ⟨_,rfl,_,rfl,_,rfl,_,_,rfl,rfl,oa,_,_,.ref ka,rfl,rfl,SqT.of JJ,at_nonneg (by omega) (by rw [So,Bb];rfl),?_⟩;dsimp only [aC];refine bh (fun f' H'=>Ex2 fun (k0:Ss×Int) (ka:Sa)=>An5 (k0∈outs) (KAt H' k0 ka) ((deep=0->k0.2=0)) (L2.Same H1 H') (f'=[some (.ref l),some (.ref oa),some (.int S),some (.int C),some (.int deep),some (.int calls),some (.int pick),some (.ref ka),none,none])) (fun kk hk=>?_) ?_
   · refine cB (fun b H'=>An2 (H1=H') ((b=false->deep≠0))) (fun k2 BU=>?_) (fun H' hb=>?_) (fun H' hb=>?_)
     · exact ⟨_,rfl,rfl,_,rfl,BU _ _ ⟨rfl,fun z z2=>of_decide_eq_false z (congrArg V.int z2)⟩⟩
     · obtain ⟨rfl,_⟩:=hb;refine ⟨_,rfl,oa,rfl,⟨_,SqT.of JJ⟩,mO (K:=K) JJ DT g (fun z ka H2 R sm hz r=>⟨_,rfl,ka,_,1,_,rfl,rfl,SqT.of hz,at1,rfl,_,rfl,r⟩) (fun ka H2 R r=>⟨_,rfl,r⟩) (fun D k1 E3 rs H2 hD s2 eD HP Jm e2=>?_)⟩;exact ⟨D,_,0,.ref E3,rfl,rfl,SqL.of eD,at0,hk _ _ ⟨k1,E3,HP,e2,fun _=>Jm,s2,rfl⟩⟩
     · obtain ⟨rfl,hb⟩:=hb;exact hk _ _ ⟨k0,ka,Sd CL,CO,fun z=>absurd z (hb rfl),.refl _,rfl⟩
   clear CL Bb CO;rintro f' H2 ⟨k0,ka,BW,CO,hz,s2,rfl⟩;have Dm:=g.num k0 BW;have LN:=s2 _ _ e1;refine ⟨am (by show 0<=1000000;decide),fun pl Bj=>?_⟩;have s3:L2.Same H2 (upd H2 pl (.tup [])):=ai Bj _;have e3:(upd H2 pl (.tup [])) pl=some (.tup (([]:List Sa).map V.ref)):=ae;generalize (upd H2 pl (.tup []))=H3 at s3 e3 ⊢;refine ⟨_,rfl,ka,_,1,_,rfl,rfl,SqT.of (s3 _ _ CO),at1,k0.2,rfl,by omega,by omega,?_⟩
   refine bP (n:=k0.2.toNat) (fun i σ H4=>Ex5 fun (c9:Option V) (pl:Sa) (bs:List Sa) (ts:List Th) (x':Int)=>An7 (σ=[some (.ref l),some (.ref oa),some (.int S),some (.int C),some (.int deep),some (.int calls),some (.int pick),some (.ref ka),some (.ref pl),c9]) (SameB l H2 H4) (H4 l=some (.lst [.int x'])) (H4 pl=some (.tup (bs.map V.ref))) (Ats H4 ts bs) (ts.length=i) (∀ t∈ts,t.FitS outs S C/\t.tall<=(deep - 1).toNat+1))
    ⟨none,pl,[],[],x1,rfl,.of s3,s3 _ _ LN,e3,.nil,rfl,fun t ht=>by cases ht⟩ ?_ ?_
   · rintro i σ H4 hi ⟨c9,pl,bs,ts,x',rfl,s4,JK,e4,Cy,Bw,Ah⟩;have JI:i<k0.2.toNat:=hi;have JL:KT H2 H4:=s4.kt LN
     have Ih:1<=deep:=by
      by_cases z:deep=0
      · have:=hz z;omega
      · omega
     refine ⟨_,rfl,_,rfl,_,rfl,_,rfl,_,rfl,_,rfl,_,_,rfl,rfl,l,x',oa,Ak,outs,S,C,deep - 1,rfl,JK,JL _ _ (s2 _ _ JJ),DT.mono ((Same.kt s2).trans JL),g,S0,S1,C0,C1,by omega,by omega,fun t r x5 H5 s5 QR AS AG AA=>?_⟩;have Cq:bs.length=ts.length:=Cy.length;have Gu:KT H4 H5:=s5.kt JK;refine ⟨am (by show 1<=1000000;decide),fun EG Ds=>?_⟩;dsimp only;have s6:L2.Same H5 (upd H5 EG (.tup [.ref r])):=ai Ds _;have e6:(upd H5 EG (.tup [.ref r])) EG=some (.tup [.ref r]):=ae;generalize (upd H5 EG (.tup [.ref r]))=H6 at s6 e6 ⊢;refine vz (s6 _ _ (Gu _ _ e4)) e6 (by rw [R5];show bs.length+1<=1000000;omega) fun p H7 s7 e7=>?_;have Dx:=s6.trans s7;refine ⟨_,p,bs++[r],ts++[t],x5,rfl,s4.trans (s5.trans (.of Dx)),Dx _ _ QR,by rw [e7,Sq];rfl,(Cy.mono (Gu.trans (Same.kt Dx))).append (.cons (AS.mono (Same.kt Dx)) .nil),by rw [Sm,Bw];rfl,fun u hu=>?_⟩;rcases Sv.mp hu with hu | hu
     · exact Ah u hu
     · rw [Sy.mp hu];exact ⟨AG,AA⟩
   · rintro σ H4 ⟨c9,pl,bs,ts,x',rfl,s4,JK,e4,Cy,Bw,Ah⟩;have Cq:bs.length=ts.length:=Cy.length;have JL:KT H2 H4:=s4.kt LN;refine ⟨_,rfl,ka,_,0,.str k0.1,rfl,rfl,SqT.of (JL _ _ CO),at0,am (by show 1<=1000000;decide),fun EG Ds=>?_⟩;dsimp only;have s5:L2.Same H4 (upd H4 EG (.tup [.str k0.1])):=ai Ds _;have e5:(upd H4 EG (.tup [.str k0.1])) EG=some (.tup [.str k0.1]):=ae;generalize (upd H4 EG (.tup [.str k0.1]))=H5 at s5 e5 ⊢;refine ⟨_,rfl,?_⟩;refine vz e5 (s5 _ _ e4) (by rw [R5];show 1+bs.length<=1000000;omega) fun p H6 s6 e6=>?_;have LO:=s5.trans s6;have FK:=(g.low k0 BW).1;refine q (.knot k0.1 ts) p x' H6 (s1.trans ((SameB.of s2).trans (s4.trans (.of LO)))) (LO _ _ JK) ?_ ?_ ?_
     · rw [At];exact ⟨xw FK,bs,e6,Cy.mono (Same.kt LO)⟩
     · rw [Th.FitS];refine ⟨?_,FitSs.of fun t ht=>(Ah t ht).1⟩
       have:(k0.1,(ts.length:Int))=k0:=by
        rw [Bw];exact X9 rfl (by show ((k0.2.toNat:Nat):Int)=k0.2;omega)
       rw [this];exact BW
     · rw [Th.tall];by_cases z:deep=0
       · have BU:=hz z;have:ts=[]:=S6.mp (by omega);subst this;rw [ba];omega
       · have:=nK (n:=(deep - 1).toNat+1) fun t ht=>(Ah t ht).2;omega
theorem xg {xs:List V} {lo hi:Option Int} {v:V} (h:v∈cR xs lo hi):v∈xs:=by
 unfold cR at h;exact TL (TK h)
theorem yn (xs:List V) (lo hi:Option Int):(cR xs lo hi).length<=xs.length:=by
 unfold cR;rw [SR,Tf];omega
theorem SameB.fresh {l:Sa} {H H1 H':Hp} (hl:H l=none) (s:L2.Same H H1) (b:SameB l H1 H'):L2.Same H H':=fun a o e=>b a o (fun z=>by rw [z,hl] at e;cases e) (s a o e)
def GK (ks:List (Ss×Int)):Prop:=iZ ks/\(∀ k∈ks,okW k.1)/\(ks.map (·.1)).Nodup
def TsF (ins outs:List (Ss×Int)) (S:Int) (ts:List Th):Prop:=∀ (j:Nat) (t:Th) (k:Ss×Int),ts[j]?=some t->ins[j]?=some k->t.FitS outs S k.2/\t.tall<=4
def RwF (ins outs:List (Ss×Int)) (S:Int) (row:List Th):Prop:=row.length=ins.length/\TsF ins outs S row
theorem TsF.snoc {ins outs:List (Ss×Int)} {S:Int} {ts:List Th} {t:Th} {k:Ss×Int} (h:TsF ins outs S ts) (hk:ins[ts.length]?=some k) (hf:t.FitS outs S k.2) (ht:t.tall<=4):TsF ins outs S (ts++[t]):=fun j u k' hu BY=>by
 by_cases hj:j<ts.length
 · rw [Vf hj] at hu;exact h j u k' hu BY
 · have Je:=(Sj.mp hu).1;rw [Sm,Tn] at Je;obtain rfl:j=ts.length:=by omega
   rw [UO (Sg _),WH] at hu;cases hu;rw [hk] at BY;cases BY;exact ⟨hf,ht⟩
structure xX (ins outs:List (Ss×Int)) (head:Th) (rows:List (List Th)):Prop where
 gi:GK ins
 go:GK outs
 few:rows.length<=4
 row:∀ row∈rows,RwF ins outs (rows.length:Nat) row
 hd:head.FitS outs (rows.length:Nat) 1/\head.tall<=4
inductive gQ (K:R8) (vs:List V) (H:Hp) (Q:VK) (_E:XK):Prop
 | mk (a:Sa) (ns:List Int) (Au:vs=[.ref a,.int 4,.int 3]) (Av:SqL K H a (ns.map V.int)) (AF:ns.length<=63) (AR:∀ (r:Sa) (ins outs:List (Ss×Int)) (head:Th) (rows:List (List Th)) (H':Hp),L2.Same H H'->Bk H' ins outs head rows r->xX ins outs head rows->Q (.ref r) H'):gQ K vs H Q _E
def oJ (K:R8):Sp:=gQ K
set_option maxHeartbeats 4000000 in
theorem o9:bj P w K mg base CX0 9 T.g__law_book.f T.g__law_book.d ["script","most","deep"] (oJ K):=by
 refine T.g__law_book.F.ok aO (fun vs H Q E h=>?_) (fun Aj A outer s H vs Q E hr h=>?_)
 · obtain ⟨a,ns,rfl,_⟩:=h;rfl
 obtain ⟨a,ns,rfl,hS,Et,q⟩:=h
 refine ⟨_,(ad (ar (i:=3) aO.nd rfl (SG rfl) (pcF T.g__law_kinds (ik T) hr (aa (pcF T.g__law_cell_at (bE T) hr (aa (pv 0) (aa af ac))) ac)))
  (ad (ar (i:=4) aO.nd rfl (SG rfl) (pcF T.g__law_kinds (ik T) hr (aa (pcF T.g__law_cell_at (bE T) hr (aa (pv 0) (aa af ac))) ac)))
  (ad (aJ (av cz (al aV (al aX (pcF T.g__law_cell_at (bE T) hr (aa (pv 0) (aa af ac))) af) af) af (aw _)) (ag (ar (i:=4) aO.nd rfl (SG rfl) (pv 3))) aB)
  (ad (ar (i:=5) aO.nd rfl (SG rfl) (al aV (pcF T.g__law_cell_at (bE T) hr (aa (pv 0) (aa af ac))) (al bc (pv 1) af)))
  (ad (ar (i:=6) aO.nd rfl (SG rfl) (pcF T.g__law_folded (lJ T) hr (aa (aQ ce (pv 0) (aY af) bw) (aa (al bc (al fj (pv 5) (ao aj rfl T.n_len Sw (aa (pv 3) ac))) af) ac))))
  (ad (ar (i:=7) aO.nd rfl (SG rfl) (cn cz (al aV (al aX (pcF T.g__law_cell_at (bE T) hr (aa (pv 0) (aa af ac))) af) af) af (aw _)))
  (ad (ar (i:=8) aO.nd rfl (SG rfl) (bM ac))
  (ad (bW Tt rfl (br rfl T.n_range (aa (pv 5) ac)) (ay (i:=9) aO.nd rfl (SG rfl)) (ad (ar (i:=10) aO.nd rfl (SG rfl) (bM ac))
  (ad (bW Tt rfl (br rfl T.n_range (aa (ao aj rfl T.n_len Sw (aa (pv 3) ac)) ac)) (ay (i:=11) aO.nd rfl (SG rfl)) (ad (ar (i:=12) aO.nd rfl (SG rfl) (al bc (al bc (au aI (pv 6) (al bc (al bc af (al fj (pv 9) (ao aj rfl T.n_len Sw (aa (pv 3) ac)))) (pv 11)) (fun _ _=>rfl)) (al fj af (pv 11))) (pv 9)))
  (ag (aJ (aN (pv 7) (fun _=>rfl)) (ag (bq (b9 SS Tb Ta aZ (pv 10) (aa (pcF T.g__law_digits (d2 T 5) hr (aa (bM (aa (pv 12) ac)) (aa (pv 4) (aa (pv 5) (aa (au aD (au aD (pv 3) (pv 11) (fun _ _=>rfl)) af (fun _ _=>rfl)) (aa (pv 2) ac)))))) ac)))) (ag (bq (b9 SS Tb Ta aZ (pv 10) (aa (pcF T.g__law_pattern (dH T 5) hr (aa (pv 12) (aa (pv 4) (aa (pv 5) (aa (au aD (au aD (pv 3) (pv 11) (fun _ _=>rfl)) af (fun _ _=>rfl)) (aa (al aV (al aX (pv 12) af) (al bc (pv 2) af)) ac)))))) ac))))))))
  (ag (bq (b9 SS Tb Ta aZ (pv 8) (aa (bB bJ rfl T.n_tuple Tu (aa (pv 10) ac)) ac)))))))
  (ad (ar (i:=13) aO.nd rfl (SG rfl) (pcF T.g__law_pattern (dH T 5) hr (aa (au aI (pv 6) af (fun _ _=>rfl)) (aa (pv 4) (aa (pv 5) (aa af (aa (pv 2) ac)))))))
  (ad (aJ (aN (pv 7) (fun _=>rfl)) (ag (ar (i:=13) aO.nd rfl (SG rfl) (pcF T.g__law_digits (d2 T 5) hr (aa (bM (aa (au aI (pv 6) af (fun _ _=>rfl)) ac)) (aa (pv 4) (aa (pv 5) (aa af (aa (pv 2) ac)))))))) aB)
  (ag (ax (b8 (aa (pv 3) (aa (pv 4) (aa (pv 13) (aa (bB bJ rfl T.n_tuple Tu (aa (pv 8) ac)) ac))))))))))))))))),?_⟩
 try dsimp only [AM,Af]
 refine ⟨_,rfl,a,ns,0,rfl,hS,by decide,cellAt ns 0,rfl,gL ns 0,fun ia Ar H1 s1 ei B7=>?_⟩;refine ⟨_,rfl,a,ns,1,rfl,s1.seq hS,by decide,cellAt ns 1,rfl,gL ns 1,fun QS LP H2 s2 NL FL=>?_⟩;have gI:GK (cm (cellAt ns 0)):=⟨fo _,kD _,g6 _⟩;have LQ:GK (cm (cellAt ns 1)):=⟨fo _,kD _,g6 _⟩;generalize cm (cellAt ns 0)=ins at B7 gI;generalize cm (cellAt ns 1)=Ii at FL LQ;have gi:=gI.1;have B7:=B7.mono (Same.kt s2);have ei:=s2 _ _ ei;have Cb:=s1.trans s2;have hS:=Cb.seq hS;dsimp only [aC];refine bh (fun f' H'=>Ex3 fun (oa:Sa) (Ak:List Sa) (outs:List (Ss×Int))=>An5 (H2=H') (H2 oa=some (.tup (Ak.map V.ref))) (KsAt H2 outs Ak) (GK outs) (f'=[some (.ref a),some (.int 4),some (.int 3),some (.ref ia),some (.ref oa),none,none,none,none,none,none,none,none,none])) (fun kk hk=>?_) ?_
 · refine cB (fun b H'=>H2=H') (fun k2 BU=>?_) (fun H' hb=>?_) (fun H' hb=>?_)
   · exact ⟨_,rfl,a,ns,1,rfl,hS,by decide,_,_,rfl,rfl,⟨by decide,by decide⟩,_,_,rfl,rfl,(by show (0:Int)<3;decide),rfl,_,rfl,BU _ _ rfl⟩
   · subst hb;exact ⟨_,rfl,hk _ _ ⟨ia,Ar,ins,rfl,ei,B7,gI,rfl⟩⟩
   · subst hb;exact hk _ _ ⟨QS,LP,Ii,rfl,NL,FL,LQ,rfl⟩
 clear NL FL LQ;rintro f' H' ⟨oa,Ak,outs,rfl,eo,CZ,gO,rfl⟩;have go:=gO.1;have Bo:ins.length=Ar.length:=SK B7;have ML:=gi.le;have BC:((Ar.map V.ref).length:Int)=(ins.length:Int):=by rw [R5,Bo]
 refine ⟨_,rfl,a,ns,2,rfl,hS,by decide,_,rfl,_,_,rfl,rfl,_,_,rfl,rfl,(by show (0:Int)<4+1;decide),?_⟩;have S0:=Te (cellAt ns 2) (show (4+1:Int)≠0 by decide);have S1:=Tc (cellAt ns 2) (show (0:Int)<4+1 by decide);dsimp only [aC];generalize cellAt ns 2%(4+1)=S at S0 S1 ⊢;have QT:0<=S * (ins.length:Int):=Int.mul_nonneg S0 (by omega)
 have LR:S * (ins.length:Int)<=24:=by
  have:S * (ins.length:Int)<=4 * 6:=Int.mul_le_mul (by omega) (by omega) (by omega) (by decide);omega
 rw [<- BC] at QT LR;refine ⟨_,rfl,3,rfl,a,_,rfl,hS,fun p hp=>?_⟩;dsimp only [aC];have s3:L2.Same H2 (upd H2 p (.lst (cR (ns.map V.int) (some 3) none))):=ai hp _;have e3:(upd H2 p (.lst (cR (ns.map V.int) (some 3) none))) p=some (.lst (cR (ns.map V.int) (some 3) none)):=ae;generalize (upd H2 p (.lst (cR (ns.map V.int) (some 3) none)))=H3 at s3 e3 ⊢;have LS:=yn (ns.map V.int) (some 3) none;rw [R5] at LS;refine ⟨_,rfl,_,rfl,ia,_,rfl,.inr (SqT.of (s3 _ _ ei)),_,_,rfl,rfl,.inl ⟨by omega,by omega⟩,_,_,rfl,rfl,p,_,_,rfl,e3,(fun v hv=>(TC.mp (xg hv)).elim fun z hz=>⟨z,hz.2.symm⟩),by omega,by omega,by omega,fun ca cs H4 s4 ec Bc=>?_⟩;have BE:=s3.trans s4;have hS:=BE.seq hS;have QU:=Cb.trans BE;have ei:=BE _ _ ei;have B7:=B7.mono (Same.kt BE);have eo:=BE _ _ eo;have CZ:=CZ.mono (Same.kt BE);refine ⟨_,rfl,a,ns,2,rfl,hS,by decide,_,_,rfl,rfl,⟨by decide,by decide⟩,_,_,rfl,rfl,(by show (0:Int)<2;decide),rfl,?_⟩;dsimp only [aC];generalize decide (V.int (cellAt ns 2 / 7%2)=V.int 1)=dg;refine ⟨am (by show 0<=1000000;decide),fun rl D0=>?_⟩;have NM:L2.Same H4 (upd H4 rl (.lst [])):=ai D0 _;have NN:(upd H4 rl (.lst [])) rl=some (.lst []):=ae;generalize (upd H4 rl (.lst []))=H5 at NM NN ⊢;refine ⟨_,rfl,S,rfl,by omega,by omega,?_⟩
 refine bP (n:=S.toNat) (fun i σ H3=>Ex6 fun (sv rv kv cv:Option V) (A8:List Sa) (rows:List (List Th))=>An6 (σ=[some (.ref a),some (.int 4),some (.int 3),some (.ref ia),some (.ref oa),some (.int S),some (.ref ca),some (.bl dg),some (.ref rl),sv,rv,kv,cv,none]) (L2.Same H4 H3) (H3 rl=some (.lst (A8.map V.ref))) (To (RowAt H3) rows A8) (rows.length=i) (∀ row∈rows,RwF ins outs S row))
  ⟨none,none,none,none,[],[],rfl,NM,NN,.nil,rfl,fun t ht=>by cases ht⟩ ?_ ?_
 · rintro i σ H3 hi ⟨sv,rv,kv,cv,A8,rows,rfl,s3,JM,Aq,FC,Ah⟩;have JI:i<S.toNat:=hi;have Ij:rows.length=A8.length:=SK Aq;refine ⟨am (by show 0<=1000000;decide),fun rw Gv=>?_⟩;have LU:H4 rw=none:=s3.free Gv;have LV:rw≠rl:=fun z=>by rw [z,JM] at Gv;cases Gv
   have s6:L2.Same H3 (upd H3 rw (.lst [])):=ai Gv _;have NO:(upd H3 rw (.lst [])) rw=some (.lst []):=ae;generalize (upd H3 rw (.lst []))=H6 at s6 NO ⊢;refine ⟨_,rfl,ia,_,rfl,.inr (SqT.of (s6 _ _ (s3 _ _ ei))),_,rfl,by omega,by omega,?_⟩
   refine bP (n:=((Ar.map V.ref).length:Int).toNat) (fun j σ H5=>Ex4 fun (kv cv:Option V) (bs:List Sa) (ts:List Th)=>An8 (σ=[some (.ref a),some (.int 4),some (.int 3),some (.ref ia),some (.ref oa),some (.int S),some (.ref ca),some (.bl dg),some (.ref rl),some (.int (0+(i:Int))),some (.ref rw),kv,cv,none]) (L2.Same H4 H5) (H5 rl=some (.lst (A8.map V.ref))) (KT H6 H5) (H5 rw=some (.lst (bs.map V.ref))) (Ats H5 ts bs) (ts.length=j) (TsF ins outs S ts))
    ⟨kv,cv,[],[],rfl,s3.trans s6,s6 _ _ JM,fun _ _ e=>e,NO,.nil,rfl,fun j t k h=>by simp at h⟩ ?_ ?_
   · rintro j σ H5 hj ⟨kv,cv,bs,ts,rfl,s5,JN,Gu,Ik,Cy,Bw,D2⟩
     have Il:j<ins.length:=by
      have:j<((Ar.map V.ref).length:Int).toNat:=hj;omega
     refine hid fun ZZ kZ=>?_;obtain ⟨k0,CL⟩:∃ k0,ins[j]?=some k0:=⟨_,R6 Il⟩;obtain ⟨ka,Bb,CO⟩:=P2.get B7 CL;have Dm:=gi.num k0 (Sd CL);have AS:atI (Ar.map V.ref) (0+(j:Int))=some (.ref ka):=at_nonneg (by omega) (by rw [show (0+(j:Int)).toNat=j by omega,So,Bb];rfl);have hmul:0<=(0+(i:Int)) * ((Ar.map V.ref).length:Int):=Int.mul_nonneg (by omega) (by omega)
     have NP:(0+(i:Int)) * ((Ar.map V.ref).length:Int)+((Ar.map V.ref).length:Int)<=S * ((Ar.map V.ref).length:Int):=by
      have h1:(0+(i:Int)+1) * ((Ar.map V.ref).length:Int)<=S * ((Ar.map V.ref).length:Int):=Int.mul_le_mul_of_nonneg_right (by omega) (by omega);rw [Int.add_mul (0+(i:Int)) 1,Int.one_mul] at h1;exact h1
     obtain ⟨c,hc⟩:∃ c,cs[(1+(0+(i:Int)) * ((Ar.map V.ref).length:Int)+(0+(j:Int))).toNat]?=some c:=⟨_,R6 (by omega)⟩;refine kZ ?_;refine ⟨_,rfl,_,rfl,_,rfl,ia,_,rfl,.inr (SqT.of (s5 _ _ ei)),_,_,rfl,rfl,.inl ⟨by omega,by omega⟩,_,_,rfl,rfl,_,rfl,_,_,rfl,rfl,ca,_,_,.int c,rfl,rfl,SqL.of (s5 _ _ ec),at_nonneg (by omega) (by rw [So,hc];rfl),?_⟩;refine ⟨_,rfl,_,_,rfl,rfl,.inl ⟨by decide,by decide⟩,_,_,rfl,rfl,_,rfl,_,_,rfl,rfl,?_⟩;dsimp only [aC];generalize c+7 * (0+(j:Int))+(0+(i:Int))=cell
     have fin:∀ (t:Th) (r:Sa) (H7:Hp),L2.Same H5 H7->At H7 t r->t.FitS outs S k0.2->t.tall<=4->(sR (V.ref rw) [V.ref r] H7 fun _ H8=>Ex4 fun (kv cv:Option V) (bs:List Sa) (ts:List Th)=>An8 ([some (V.ref a),some (.int 4),some (.int 3),some (.ref ia),some (.ref oa),some (.int S),some (.ref ca),some (.bl dg),some (.ref rl),some (.int (0+(i:Int))),some (.ref rw),some (.int (0+(j:Int))),some (.int cell),none]=[some (.ref a),some (.int 4),some (.int 3),some (.ref ia),some (.ref oa),some (.int S),some (.ref ca),some (.bl dg),some (.ref rl),some (.int (0+(i:Int))),some (.ref rw),kv,cv,none]) (L2.Same H4 H8) (H8 rl=some (.lst (A8.map V.ref))) (KT H6 H8) (H8 rw=some (.lst (bs.map V.ref))) (Ats H8 ts bs) (ts.length=j+1) (TsF ins outs S ts)):=by
      intro t r H7 s7 AS AG AA;have NQ:=s7 _ _ Ik;have Gw:=s7 _ _ JN;have Cq:bs.length=ts.length:=Cy.length;refine ⟨rw,_,_,rfl,rfl,NQ,bi (by rw [R5];omega),?_⟩;have kt:KT H7 (upd H7 rw (.lst (bs.map V.ref++[.ref r]))):=bD NQ;refine ⟨_,_,bs++[r],ts++[t],rfl,aH (s5.trans s7) LU,by rw [aq LV.symm];exact Gw,Gu.trans ((Same.kt s7).trans kt),?_,?_,?_,?_⟩
      · rw [ae,Sq];rfl
      · exact (Cy.mono ((Same.kt s7).trans kt)).append (.cons (AS.mono kt) .nil)
      · rw [Sm,Bw];rfl
      · exact D2.snoc (by rw [Bw];exact CL) AG AA
     refine cB (fun b H'=>H5=H') (fun k2 BU=>?_) (fun H' hb=>?_) (fun H' hb=>?_)
     · exact ⟨_,rfl,_,rfl,BU _ _ rfl⟩
     · subst hb;refine ⟨_,rfl,.inl ⟨rfl,_,SqL.of Ik⟩,_,rfl,am (by show 1<=1000000;decide),fun ol Ex=>?_⟩;have s7:L2.Same H5 (upd H5 ol (.lst [.int cell])):=ai Ex _;have e7:(upd H5 ol (.lst [.int cell])) ol=some (.lst [.int cell]):=ae;dsimp only;generalize (upd H5 ol (.lst [.int cell]))=H7 at s7 e7 ⊢;have Dx:=s5.trans s7;refine ⟨_,rfl,_,rfl,_,rfl,_,rfl,ia,_,_,.ref ka,rfl,rfl,SqT.of (Dx _ _ ei),AS,ka,_,1,_,rfl,rfl,SqT.of (Dx _ _ CO),at1,_,rfl,ol,cell,oa,Ak,outs,S,k0.2,3,rfl,e7,Dx _ _ eo,CZ.mono (Same.kt Dx),go,S0,by omega,Dm.1,Dm.2,by decide,by decide,fun t r x' H8 s8 _ AS AG AA=>?_⟩;exact fin t r H8 (SameB.fresh Ex s7 s8) AS AG AA
     · subst hb;have y0:=Te (cell / 3) (show (3+1:Int)≠0 by decide);have y1:=Tc (cell / 3) (show (0:Int)<3+1 by decide);refine ⟨_,rfl,.inl ⟨rfl,_,SqL.of Ik⟩,_,rfl,_,rfl,_,rfl,_,rfl,_,rfl,ia,_,_,.ref ka,rfl,rfl,SqT.of (s5 _ _ ei),AS,ka,_,1,_,rfl,rfl,SqT.of (s5 _ _ CO),at1,_,rfl,_,_,rfl,rfl,⟨by decide,by decide⟩,_,rfl,_,_,rfl,rfl,_,_,rfl,rfl,(by show (0:Int)<3+1;decide),cell,oa,Ak,outs,S,k0.2,_,rfl,s5 _ _ eo,CZ.mono (Same.kt s5),go,S0,by omega,Dm.1,Dm.2,y0,by show cell / 3%(3+1)<((5:Nat):Int);omega,fun t r H8 s8 AS AG AA=>?_⟩;exact fin t r H8 s8 AS AG (by omega)
   · rintro σ H5 ⟨kv,cv,bs,ts,rfl,s5,JN,Gu,Ik,Cy,Bw,D2⟩;refine ⟨_,rfl,.inl ⟨rfl,_,SqL.of JN⟩,_,rfl,rw,_,rfl,.inl ⟨SqL.of Ik,fun tp Gi=>?_⟩⟩;have s7:L2.Same H5 (upd H5 tp (.tup (bs.map V.ref))):=ai Gi _;have e7:(upd H5 tp (.tup (bs.map V.ref))) tp=some (.tup (bs.map V.ref)):=ae;generalize (upd H5 tp (.tup (bs.map V.ref)))=H7 at s7 e7 ⊢;have Gw:=s7 _ _ JN;refine ⟨rl,_,_,rfl,rfl,Gw,bi (by rw [R5];omega),?_⟩;have kt:KT H7 (upd H7 rl (.lst (A8.map V.ref++[.ref tp]))):=bD Gw;have QV:KT H3 (upd H7 rl (.lst (A8.map V.ref++[.ref tp]))):=(Same.kt s6).trans (Gu.trans ((Same.kt s7).trans kt));refine ⟨_,_,_,_,A8++[tp],rows++[ts],rfl,aH (s5.trans s7) D0,?_,?_,?_,?_⟩
     · rw [ae,Sq];rfl
     · exact P2.append (P2.mp (fun _ _ e=>RowAt.mono QV e) Aq) (.cons ⟨bs,kt _ _ e7,Cy.mono ((Same.kt s7).trans kt)⟩ .nil)
     · rw [Sm,FC];rfl
     · intro row Ac;rcases Sv.mp Ac with Ac | Ac
       · exact Ah row Ac
       · rw [Sy.mp Ac];exact ⟨by rw [Bw];omega,D2⟩
 · rintro σ H3 ⟨sv,rv,kv,cv,A8,rows,rfl,s3,JM,Aq,FC,Ah⟩;have Ij:rows.length=A8.length:=SK Aq;obtain ⟨c,hc⟩:∃ c,cs[0]?=some c:=⟨_,R6 (by omega)⟩;have Im:atI (cs.map V.int) 0=some (.int c):=at_nonneg (by decide) (by rw [So];show (cs[0]?).map V.int=_;rw [hc];rfl);refine ⟨_,rfl,ca,_,0,.int c,rfl,rfl,SqL.of (s3 _ _ ec),Im,_,rfl,_,rfl,_,rfl,c,oa,Ak,outs,S,1,3,rfl,s3 _ _ eo,CZ.mono (Same.kt s3),go,S0,by omega,by decide,by decide,by decide,by decide,fun t ha H6 s6 AS AG AA=>?_⟩;dsimp only [aC];have NR:L2.Same H4 H6:=s3.trans s6;refine bh (fun f' H7=>Ex2 fun (t:Th) (ha:Sa)=>An5 (L2.Same H6 H7) (At H7 t ha) (t.FitS outs S 1) (t.tall<=4) (f'=[some (.ref a),some (.int 4),some (.int 3),some (.ref ia),some (.ref oa),some (.int S),some (.ref ca),some (.bl dg),some (.ref rl),sv,rv,kv,cv,some (.ref ha)])) (fun kk hk=>?_) ?_
   · refine cB (fun b H'=>H6=H') (fun k2 BU=>?_) (fun H' hb=>?_) (fun H' hb=>?_)
     · exact ⟨_,rfl,_,rfl,BU _ _ rfl⟩
     · subst hb;refine ⟨_,rfl,ca,_,0,.int c,rfl,rfl,SqL.of (NR _ _ ec),Im,am (by show 1<=1000000;decide),fun ol Ex=>?_⟩;have s7:L2.Same H6 (upd H6 ol (.lst [.int c])):=ai Ex _;have e7:(upd H6 ol (.lst [.int c])) ol=some (.lst [.int c]):=ae;dsimp only;generalize (upd H6 ol (.lst [.int c]))=H7 at s7 e7 ⊢;have Dx:=NR.trans s7;exact ⟨_,rfl,_,rfl,_,rfl,ol,c,oa,Ak,outs,S,1,3,rfl,e7,Dx _ _ eo,CZ.mono (Same.kt Dx),go,S0,by omega,by decide,by decide,by decide,by decide,fun t r x' H8 s8 _ AS AG AA=>hk _ _ ⟨t,r,SameB.fresh Ex s7 s8,AS,AG,AA,rfl⟩⟩
     · subst hb;exact hk _ _ ⟨t,ha,.refl _,AS,AG,AA,rfl⟩
   clear AS AG AA;rintro f' H7 ⟨t,ha,s7,AS,AG,AA,rfl⟩;have Gw:=s7 _ _ (s6 _ _ JM);refine ⟨_,rfl,_,rfl,_,rfl,_,rfl,rl,_,rfl,.inl ⟨SqL.of Gw,fun ra Dh=>?_⟩⟩;have s8:L2.Same H7 (upd H7 ra (.tup (A8.map V.ref))):=ai Dh _;have e8:(upd H7 ra (.tup (A8.map V.ref))) ra=some (.tup (A8.map V.ref)):=ae;generalize (upd H7 ra (.tup (A8.map V.ref)))=H8 at s8 e8 ⊢;refine ⟨am (by show 4<=1000000;decide),fun r BP=>?_⟩;have s9:L2.Same H8 (upd H8 r (.tup [.ref ia,.ref oa,.ref ha,.ref ra])):=ai BP _;have sA:=s6.trans (s7.trans (s8.trans s9));have sB:=s3.trans sA;have NS:((rows.length:Nat):Int)=S:=by rw [FC];omega
   exact q r ins outs t rows _ (QU.trans sB) ⟨ia,oa,ha,ra,Ar,Ak,A8,ae,sB _ _ ei,B7.mono (Same.kt sB),sB _ _ eo,CZ.mono (Same.kt sB),AS.mono (Same.kt (s8.trans s9)),s9 _ _ e8,P2.mp (fun _ _ e=>RowAt.mono (Same.kt sA) e) Aq⟩ ⟨gI,gO,by omega,by rw [NS];exact Ah,by rw [NS];exact AG,AA⟩
def gS:Nat->Sp
 | 0=>fun _ _ _ _=>False
 | n+1=>fun vs H Q _=>∃ (a:Sa) (t:Th),vs=[.ref a]/\At H t a/\t.Wr/\t.tall<=n+1/\t.size<=1000/\∀ H',L2.Same H H'->Q (.str (t.fill cr).show) H'
set_option maxHeartbeats 2000000 in
theorem eR:∀ n:Nat,bj P w K mg base CX0 n T.g__law_shown.f T.g__law_shown.d ["pattern"] (gS n)
 | 0=>⟨fun _ _ _ _ h=>h.elim,fun _ _ _ _ _ _ _ _ _ _ _ _ _ h=>h.elim⟩
 | n+1=>by
   have ih:=eR n;refine T.g__law_shown.F.ok mZ (fun vs H Q E h=>?_) (fun Aj A outer s H vs Q E hr h=>?_)
   · obtain ⟨a,t,rfl,_⟩:=h;rfl
   obtain ⟨a,t,rfl,hA,hW,Bw,Az,q⟩:=h
   refine ⟨_,(ad (aJ (av cz (au aD (pv 0) af (fun _ _=>rfl)) aA (aw _)) (ag (ax (al aL (al aL (bB gF rfl T.n_str VI (aa (au aD (pv 0) af (fun _ _=>rfl)) ac)) aA) (bB gF rfl T.n_str VI (aa (au aD (pv 0) af (fun _ _=>rfl)) ac))))) aB)
    (ad (aJ (av cz (ao aj rfl T.n_len Sw (aa (pv 0) ac)) af (aw _)) (ag (ax (au aD (pv 0) af (fun _ _=>rfl)))) aB)
    (ag (ax (al aL (al aL (al aL (au aD (pv 0) af (fun _ _=>rfl)) aA) (b9 TB Wl Wj lr aA (aa (cf (N:=[R4 "part"]) (js:=[none]) (g:=(aC 0)) (tt:=bn) (te:=(hV (gS _) [] E0 (bZ (bN 0) eN))) rfl (cL rfl (by decide +kernel) (by decide +kernel) rfl rfl rfl) (dD (aQ qS (pv 0) (aY af) bw)) (fun _ _ _ _ _ _=>(ay (i:=0) zS rfl (SG rfl))) (bA rfl) (fun _ _ _ _ _ _=>cb) (fun _ _ _ _ _ _=>(aW (ih) (hr.mono (Sg _)) rfl T.g__law_shown.m T.g__law_shown.F.kp T.g__law_shown.b .nil md (aa (pv 0) ac)))) ac))) aA))))),?_⟩
   try dsimp only [AM,Af]
   have hlen:=lL hW Az;cases t with
   | call sn kn =>
     have CM:=hA;rw [At] at CM;rw [Th.Wr] at hW;have l1:=bO hW.1;have l2:=bO hW.2;refine ⟨_,rfl,a,_,0,.str BB.q,rfl,rfl,SqT.of CM,at0,rfl,_,rfl,?_⟩;refine cg (fun _=>?_) (fun c=>absurd (decide_eq_true rfl) c);refine ⟨_,rfl,a,_,1,_,rfl,rfl,SqT.of CM,at1,sn,rfl,tF hW.1,aS sn,dot,rfl,rfl,am (by show (aS sn).length+1<=1000000;omega),_,rfl,a,_,2,_,rfl,rfl,SqT.of CM,at2,kn,rfl,tF hW.2,_,aS kn,rfl,rfl,am (by rw [SN];show (aS sn).length+1+(aS kn).length<=1000000;omega),?_⟩;have:=q H (.refl _);rw [Th.fill,cr,Th.show,bX] at this;exact this
   | knot m ts =>
     rw [Th.fill,Th.show] at hlen q;have Gj:=hW;rw [Th.Wr] at Gj;rw [Th.tall] at Bw;rw [Th.size] at Az;rw [At] at hA;refine hid fun ZZ kZ=>?_;obtain ⟨QW,Ae,ea,Eg⟩:=hA;refine kZ ?_;have LW:Ae.length=ts.length:=Eg.length;have RT:=(de Gj.1).2.1;have CG:=qg ts;refine ⟨_,rfl,a,_,0,.str m,rfl,rfl,SqT.of ea,at0,rfl,_,rfl,?_⟩;refine cg (fun c=>absurd (of_decide_eq_true c) (fun z=>QW (V.str.inj z))) (fun _=>?_);refine ⟨_,rfl,a,_,rfl,.inr (SqT.of ea),rfl,_,rfl,?_⟩;refine cg (fun c=>?_) (fun c=>?_)
     · have c':=V.int.inj (of_decide_eq_true c);rw [R7,R5] at c';have hz:ts=[]:=S6.mp (by omega);subst hz;have:=q H (.refl _);rw [fills,bX] at this;exact ⟨_,rfl,a,_,0,.str m,rfl,rfl,SqT.of ea,at0,this⟩
     · have Ax:ts≠[]:=fun z=>by
        subst z;have hz:Ae=[]:=S6.mp (by rw [LW];rfl);subst hz;exact c (decide_eq_true rfl)
       have l1:=tU.1;have l2:=tU.2.1;have l3:=tU.2.2
       have hx:(bX (fills cr ts)).isEmpty=false:=by
        cases ts with
        | nil=>exact absurd rfl Ax
        | cons x xs=>rw [fills,bX];rfl
       have Es:pT m (bX (fills cr ts))=m++lpar++Tg comma (bX (fills cr ts))++rpar:=by
        unfold pT;rw [hx];rfl
       rw [Es] at hlen q;rw [SN,SN,SN] at hlen;refine ⟨_,rfl,a,_,0,.str m,rfl,rfl,SqT.of ea,at0,m,lpar,rfl,rfl,am (by omega),rfl,_,rfl,1,rfl,a,_,rfl,SqT.of ea,?_,fun p2 HC=>?_⟩
       · rintro ⟨z,_⟩;rw [R7,show (1:Int)=((1:Nat):Int) by rfl,HT.sIx_nat] at z;omega
       dsimp only;rw [fZ];have s2:L2.Same H (upd H p2 (.tup (Ae.map V.ref))):=ai HC _;have e2:(upd H p2 (.tup (Ae.map V.ref))) p2=some (.tup (Ae.map V.ref)):=ae;generalize (upd H p2 (.tup (Ae.map V.ref)))=H2 at s2 e2 ⊢;refine ⟨p2,rfl,⟨_,SqT.of e2⟩,du ts (fun t=>V.str (t.fill cr).show) (SqT.of e2) (by rw [R5];omega) (by rw [R5];omega) (fun i x z Hx R W' Lr hz sx hR=>?_) (fun D H3 hD sD eD=>?_)⟩
       · obtain ⟨ua,rfl,KZ⟩:=bH Lr;obtain ⟨u,hu,K0⟩:=Eg.get KZ;rw [hz] at hu;cases hu;have LX:z∈ts:=Sd hz;have RU:=i5 LX;have NC:=z.tall_eq;have Jj:=qr LX;cases n with
         | zero=>omega
         | succ n =>
         exact ⟨_,rfl,ua,z,rfl,K0.mono (Same.kt (s2.trans sx)),Gj.2.mem z LX,by omega,by omega,fun H4 s4=>hR H4 s4⟩
       have K2:∀ us:List Th,(bX (fills cr us)).map V.str=us.map (fun t=>V.str (t.fill cr).show):=by
        intro us;induction us with
        | nil=>rw [fills,bX];rfl
        | cons u us ih=>rw [fills,bX,Sl,ih];rfl
       have hs:=ml (fills cr ts) (rX Gj.2);rw [iH] at hs;have hmul:(8+3) * aE ts<=11 * 1000:=VX _ (by omega);refine ⟨comma,D,bX (fills cr ts),rfl,rfl,SqL.of (by rw [K2];exact eD),by rw [l1];omega,m++lpar,_,rfl,rfl,am (by rw [SN];omega),_,rpar,rfl,rfl,am (by rw [SN,SN];omega),?_⟩;exact q _ (s2.trans sD)
def bY (k:Ss×Int):Prop:=aP k.1=true/\0<=k.2/\k.2<1000
theorem iL {k:Ss×Int} (h:bY k):(bg k).length<=12:=by
 have h1:=(de h.1).2.1;have h2:=bO h.2;unfold bg;rw [SN,SN];show k.1.length+1+(aS k.2).length<=12;omega
theorem ky {w:Ss} {ks:List (Ss×Int)} (g:∀ k∈ks,bY k) (hw:w.length<=10) (hl:ks.length<=8):(bd w ks).length<=1000:=by
 have all:∀ x∈w::ks.map bg,x.length<=20:=fun x hx=>by
  rcases Sn.mp hx with rfl | hx
  · omega
  · obtain ⟨k,hk,rfl⟩:=TC.mp hx;have:=iL (g k hk);omega
 have h2:=u5 all
 have h3:(Tg blank (w::ks.map bg)).length<=((w::ks.map bg).map (·.length)).sum+(w::ks.map bg).length * blank.length:=by
  have e:Tg blank (w::ks.map bg)=V1 blank (w::ks.map bg):=VQ _ _;rw [e];exact StrLaws.join_length_le _ _
 have h4:(w::ks.map bg).length=ks.length+1:=by rw [R7,R5]
 have h5:blank.length=1:=by decide +kernel
 unfold bd;rw [h4] at h2 h3;rw [h5] at h3;omega
structure lF (ins outs:List (Ss×Int)) (head:Th) (rows:List (List Th)):Prop where
 gi:∀ k∈ins,bY k
 go:∀ k∈outs,bY k
 i8:ins.length<=8
 o8:outs.length<=8
 few:rows.length<=20
 row:∀ row∈rows,row.length=ins.length/\∀ t∈row,t.Wr/\t.tall<=21/\t.size<=1000
 hd:head.Wr/\head.tall<=21/\head.size<=1000
theorem mh {ins outs:List (Ss×Int)} {head:Th} {rows:List (List Th)} (ok:lF ins outs head rows):∀ i,i<=rows.length->(dB ins rows i).length<=8 * i
 | 0,_=>by rw [j6];exact Td _
 | i+1,hi=>by
   obtain ⟨row,Ac⟩:∃ row,rows[i]?=some row:=⟨_,R6 (by omega)⟩;have h1:=mh ok i (by omega);have h6:=ok.i8;rw [kC Ac,Sm]
   have:(nh ins ((i:Nat):Int) row).length<=8:=by
    unfold nh;rw [R5,Xk];omega
   omega
theorem set_same {α:Type} {l:List α} {i:Nat} {x:α} (h:l[i]?=some x):l.set i x=l:=by
 obtain ⟨h1,rfl⟩:=Sj.mp h;exact List.set_getElem_self h1
def rh (ins outs:List (Ss×Int)) (head:Th):Nat->List Ss
 | 0=>[R4 "in",R4 "out",gb head]
 | 1=>[bd (R4 "in") ins,R4 "out",gb head]
 | _=>[bd (R4 "in") ins,bd (R4 "out") outs,gb head]
inductive gZ (vs:List V) (H:Hp) (Q:VK) (_E:XK):Prop
 | mk (b:Sa) (ins outs:List (Ss×Int)) (head:Th) (rows:List (List Th)) (Au:vs=[.ref b]) (Av:Bk H ins outs head rows b) (AF:lF ins outs head rows) (AR:∀ (r:Sa) (H':Hp),L2.Same H H'->H' r=some (.lst ((fR ins outs head rows).map V.str))->Q (.ref r) H'):gZ  vs H Q _E
def oE:Sp:=gZ
set_option maxHeartbeats 4000000 in
theorem jl:bj P w K mg base CX0 24 T.g__law_rows.f T.g__law_rows.d ["book"] oE:=by
 refine T.g__law_rows.F.ok bS (fun vs H Q E h=>?_) (fun Aj A outer s H vs Q E hr h=>?_)
 · obtain ⟨b,ins,outs,head,rows,rfl,_⟩:=h;rfl
 obtain ⟨b,ins,outs,head,rows,rfl,hb,ok,q⟩:=h
 refine ⟨_,(ad (ar (i:=1) bS.nd rfl (SG rfl) (bM (aa aA (aa aA (aa (al aL aA (pcF T.g__law_shown (eR T 21) hr (aa (au aD (pv 0) af (fun _ _=>rfl)) ac))) ac)))))
  (ad (bW Tt rfl (br rfl T.n_range (aa af ac)) (ay (i:=2) bS.nd rfl (SG rfl)) (ag (bW Tt rfl (dD (au aD (pv 0) (pv 2) (fun _ _=>rfl))) (ay (i:=3) bS.nd rfl (SG rfl)) (ag (fX (al aL (al aL (al aL (al aL (au aI (pv 1) (pv 2) (fun _ _=>rfl)) aA) (au aD (pv 3) af (fun _ _=>rfl))) aA) (bB gF rfl T.n_str VI (aa (au aD (pv 3) af (fun _ _=>rfl)) ac))) (l7 (pv 1) (pv 2) set_list))))))
  (ad (bW Tt rfl (br rfl T.n_range (aa (ao aj rfl T.n_len Sw (aa (au aD (pv 0) af (fun _ _=>rfl)) ac)) ac)) (ay (i:=4) bS.nd rfl (SG rfl)) (ag (bW Tt rfl (br rfl T.n_range (aa (ao aj rfl T.n_len Sw (aa (au aD (pv 0) af (fun _ _=>rfl)) ac)) ac)) (ay (i:=5) bS.nd rfl (SG rfl)) (ad (ar (i:=6) bS.nd rfl (SG rfl) (au aD (au aD (au aD (pv 0) af (fun _ _=>rfl)) (pv 5) (fun _ _=>rfl)) af (fun _ _=>rfl)))
  (ad (ar (i:=7) bS.nd rfl (SG rfl) (pcF T.g__law_shown (eR T 21) hr (aa (au aD (au aD (au aD (pv 0) af (fun _ _=>rfl)) (pv 4) (fun _ _=>rfl)) (pv 5) (fun _ _=>rfl)) ac)))
  (ag (bq (b9 SS Tb Ta aZ (pv 1) (aa (al aL (al aL (al aL (al aL (al aL aA (bB gF rfl T.n_str VI (aa (pv 4) ac))) aA) (pv 6)) aA) (pv 7)) ac)))))))))
  (ag (ax (pv 1)))))),?_⟩
 try dsimp only [AM,Af]
 refine hid fun ZZ kZ=>?_;obtain ⟨ia,oa,ha,ra,Ar,Ak,A8,bk⟩:=hb;refine kZ ?_;have Hf:=lL ok.hd.1 ok.hd.2.2;refine ⟨_,rfl,b,_,2,.ref ha,rfl,rfl,SqT.of bk.bk,at2,ha,head,rfl,bk.hd,ok.hd.1,ok.hd.2.1,ok.hd.2.2,fun H1 s1=>⟨_,_,rfl,rfl,am (by show 5+(head.fill cr).show.length<=1000000;omega),am (by show 3<=1000000;decide),fun rl BC=>?_⟩⟩;have s2:L2.Same H1 (upd H1 rl (.lst [.str (R4 "in"),.str (R4 "out"),.str (R4 "head "++(head.fill cr).show)])):=ai BC _;have e2:(upd H1 rl (.lst [.str (R4 "in"),.str (R4 "out"),.str (R4 "head "++(head.fill cr).show)])) rl=some (.lst ((rh ins outs head 0).map V.str)):=ae;have D0:H rl=none:=s1.free BC;generalize (upd H1 rl (.lst [.str (R4 "in"),.str (R4 "out"),.str (R4 "head "++(head.fill cr).show)]))=H2 at s2 e2 ⊢;have Dg:=s1.trans s2;dsimp only [aC];have ML:=ok.i8;have Nd:=ok.few;have Gp:ins.length=Ar.length:=SK bk.inK;have Gr:rows.length=A8.length:=SK bk.rw;refine ⟨2,rfl,by decide,by decide,?_⟩
 refine bP (n:=(2:Int).toNat) (fun i σ H3=>Ex2 fun c2 c3=>An3 (σ=[some (.ref b),some (.ref rl),c2,c3,none,none,none,none]) (L2.Same H H3) (H3 rl=some (.lst ((rh ins outs head i).map V.str))))
  ⟨none,none,rfl,Dg,e2⟩ ?_ ?_
 · rintro i σ H3 hi ⟨c2,c3,rfl,s3,e3⟩;have LK:i<2:=hi;refine hid fun ZZ kZ=>?_
   obtain ⟨w,ks,ka,Ap,Jg,hw,NT,NU,g,CA,E4,hlen⟩:∃ (w:Ss) (ks:List (Ss×Int)) (ka:Sa) (Ap:List Sa),atI [V.ref ia,.ref oa,.ref ha,.ref ra] (0+(i:Int))=some (.ref ka)/\w.length<=10/\H ka=some (.tup (Ap.map V.ref))/\KsAt H ks Ap/\((∀ k∈ks,bY k)/\ks.length<=8)/\(rh ins outs head i)[i]?=some w/\rh ins outs head (i+1)=(rh ins outs head i).set i (bd w ks)/\(rh ins outs head i).length=3:=by
    match i,LK with
    | 0,_=>exact ⟨R4 "in",ins,ia,Ar,at_nonneg (by decide) rfl,by decide +kernel,bk.inE,bk.inK,⟨ok.gi,ok.i8⟩,rfl,rfl,rfl⟩
    | 1,_=>exact ⟨R4 "out",outs,oa,Ak,at_nonneg (by decide) rfl,by decide +kernel,bk.outE,bk.outK,⟨ok.go,ok.o8⟩,rfl,rfl,rfl⟩
   refine kZ ?_;generalize rh ins outs head i=pre at e3 CA E4 hlen;have A6:ks.length=Ap.length:=SK NU;have LL:=g.2;refine ⟨_,rfl,_,rfl,b,_,_,.ref ka,rfl,rfl,SqT.of (s3 _ _ bk.bk),Jg,ka,rfl,⟨_,SqT.of (s3 _ _ NT)⟩,?_⟩
   refine lg (K:=K) (a:=ka) (xs:=Ap.map V.ref) (fun j σ H4=>Ex1 fun c3=>An3 (σ=[some (.ref b),some (.ref rl),some (.int (0+(i:Int))),c3,none,none,none,none]) (L2.Same H H4) (H4 rl=some (.lst ((pre.set i (bd w (ks.take j))).map V.str))))
    ⟨c3,rfl,s3,by rw [Vb,qQ,e3];congr 3;exact (set_same CA).symm⟩ (fun j σ H4 _ ⟨_,_,s4,_⟩=>SqT.of (s4 _ _ NT)) ?_ ?_
   · rintro j x σ H4 hx ⟨c3,rfl,s4,e4⟩;obtain ⟨E3,rfl,Bb⟩:=bH hx;obtain ⟨k,hk,ek⟩:=P2.get' NU Bb;have Dy:=Sd hk;have h1:=(de (g.1 k Dy).1).2.1;have h2:=(g.1 k Dy).2;have h3:=bO h2;have h4:=ky (w:=w) (ks:=ks.take j) (fun k hk=>g.1 k (TK hk)) hw (by rw [SR];omega);have NV:=s4 _ _ ek
     have Dd:(pre.set i (bd w (ks.take j)))[i]?=some (bd w (ks.take j)):=by
      rw [Ug (by omega)]
     refine ⟨_,rfl,_,rfl,rl,_,_,.str (bd w (ks.take j)),rfl,rfl,SqL.of e4,at_nonneg (by omega) (by rw [show (0+(i:Int)).toNat=i by omega,So,Dd];rfl),_,blank,rfl,rfl,am (by show (bd w (ks.take j)).length+1<=1000000;omega),?_⟩;refine ⟨_,rfl,E3,_,0,.str k.1,rfl,rfl,SqT.of NV,at0,_,_,rfl,rfl,am (by rw [SN];show (bd w (ks.take j)).length+1+k.1.length<=1000000;omega),_,sS,rfl,rfl,am (by rw [SN,SN];show (bd w (ks.take j)).length+1+k.1.length+1<=1000000;omega),?_⟩;refine ⟨_,rfl,E3,_,1,.int k.2,rfl,rfl,SqT.of NV,at1,k.2,rfl,tF h2,_,aS k.2,rfl,rfl,am (by rw [SN,SN,SN];show (bd w (ks.take j)).length+1+k.1.length+1+(aS k.2).length<=1000000;omega),?_⟩;rw [<- pO,<- take_snoc hk];refine ⟨_,rfl,_,rfl,rl,_,_,i,rfl,rfl,e4,?_,?_⟩
     · unfold ixN;rw [if_pos (by omega),if_pos (by rw [R5,UA];omega)];simp
     · refine ⟨_,rfl,aH s4 D0,?_⟩;rw [ae,<- Xf,List.set_set]
   · rintro σ H4 ⟨c3,rfl,s4,e4⟩;rw [S7 (by rw [R5];omega),<- E4] at e4;exact ⟨_,_,rfl,s4,e4⟩
 rintro σ H3 ⟨c2,c3,rfl,s3,e3⟩
 have e3:H3 rl=some (.lst (([bd (R4 "in") ins,bd (R4 "out") outs,gb head]++dB ins rows 0).map V.str)):=by
  rw [j6,SM];exact e3
 refine ⟨_,rfl,b,_,3,.ref ra,rfl,rfl,SqT.of (s3 _ _ bk.bk),at3,ra,_,rfl,.inr (SqT.of (s3 _ _ bk.rl)),_,rfl,by omega,by rw [R5];omega,?_⟩
 refine bP (n:=((A8.map V.ref).length:Int).toNat) (fun i σ H5=>Ex4 fun c4 c5 c6 c7=>An3 (σ=[some (.ref b),some (.ref rl),c2,c3,c4,c5,c6,c7]) (L2.Same H H5) (H5 rl=some (.lst (([bd (R4 "in") ins,bd (R4 "out") outs,gb head]++dB ins rows i).map V.str))))
  ⟨none,none,none,none,rfl,s3,e3⟩ ?_ ?_
 · rintro i σ H5 hi ⟨c4,c5,c6,c7,rfl,s5,e5⟩
   have JI:i<rows.length:=by
    have:i<((A8.map V.ref).length:Int).toNat:=hi;rw [R5] at this;omega
   refine hid fun ZZ kZ=>?_;obtain ⟨row,Ac⟩:∃ row,rows[i]?=some row:=⟨_,R6 JI⟩;obtain ⟨B',Io,Ae,D4,B9⟩:=P2.get bk.rw Ac;have Jz:=Sd Ac;obtain ⟨NW,Ip⟩:=ok.row row Jz;refine kZ ?_;have Bw:=B9.length
   have RV:(nh ins ((i:Nat):Int) row).length=ins.length:=by
    unfold nh;rw [R5,Xk];omega
   have r1:=mh ok i (by omega);have LY:atI (A8.map V.ref) (0+(i:Int))=some (.ref B'):=at_nonneg (by omega) (by rw [show (0+(i:Int)).toNat=i by omega,So,Io];rfl);refine ⟨_,rfl,b,_,0,.ref ia,rfl,rfl,SqT.of (s5 _ _ bk.bk),at0,ia,_,rfl,.inr (SqT.of (s5 _ _ bk.inE)),_,rfl,by omega,by rw [R5];omega,?_⟩
   refine bP (n:=((Ar.map V.ref).length:Int).toNat) (fun j σ H7=>Ex3 fun c5 c6 c7=>An3 (σ=[some (.ref b),some (.ref rl),c2,c3,some (.int (0+(i:Int))),c5,c6,c7]) (L2.Same H H7) (H7 rl=some (.lst (([bd (R4 "in") ins,bd (R4 "out") outs,gb head]++dB ins rows i++(nh ins ((i:Nat):Int) row).take j).map V.str))))
    ⟨c5,c6,c7,rfl,s5,by rw [Vb,SM];exact e5⟩ ?_ ?_
   · rintro j σ H7 hj ⟨c5,c6,c7,rfl,s7,e7⟩
     have Il:j<ins.length:=by
      have:j<((Ar.map V.ref).length:Int).toNat:=hj;rw [R5] at this;omega
     refine hid fun ZZ kZ=>?_;obtain ⟨k,hk⟩:∃ k,ins[j]?=some k:=⟨_,R6 Il⟩;obtain ⟨ka,Bb,ek⟩:=P2.get bk.inK hk;obtain ⟨t,ht⟩:∃ t,row[j]?=some t:=⟨_,R6 (by omega)⟩;obtain ⟨ta,Eg⟩:∃ ta,Ae[j]?=some ta:=⟨_,R6 (by omega)⟩;obtain ⟨t',Cs,AS⟩:=B9.get Eg;refine kZ ?_;rw [ht] at Cs;cases Cs;have AG:=Ip t (Sd ht);have Dy:=Sd hk;have RW:=(de (ok.gi k Dy).1).2.1;have FN:atI (Ar.map V.ref) (0+(j:Int))=some (.ref ka):=at_nonneg (by omega) (by rw [show (0+(j:Int)).toNat=j by omega,So,Bb];rfl);have FO:atI (Ae.map V.ref) (0+(j:Int))=some (.ref ta):=at_nonneg (by omega) (by rw [show (0+(j:Int)).toNat=j by omega,So,Eg];rfl);refine ⟨_,rfl,b,_,0,.ref ia,rfl,rfl,SqT.of (s7 _ _ bk.bk),at0,_,rfl,ia,_,_,.ref ka,rfl,rfl,SqT.of (s7 _ _ bk.inE),FN,ka,_,0,.str k.1,rfl,rfl,SqT.of (s7 _ _ ek),at0,?_⟩;refine ⟨_,rfl,b,_,3,.ref ra,rfl,rfl,SqT.of (s7 _ _ bk.bk),at3,_,rfl,ra,_,_,.ref B',rfl,rfl,SqT.of (s7 _ _ bk.rl),LY,_,rfl,B',_,_,.ref ta,rfl,rfl,SqT.of (s7 _ _ D4),FO,ta,t,rfl,AS.mono (Same.kt s7),AG.1,AG.2.1,AG.2.2,fun H8 s8=>?_⟩;dsimp only [aC];have e0:(0+(i:Int))=((i:Nat):Int):=Yg _;have l1:=lL AG.1 AG.2.2;have l2:=bO (n:=((i:Nat):Int)) ⟨by omega,by omega⟩;have e8:=s8 _ _ e7;refine ⟨_,rfl,.inl ⟨rfl,_,SqL.of e8⟩,_,rfl,_,rfl,by rw [e0];exact tF ⟨by omega,by omega⟩,_,_,rfl,rfl,am (by rw [e0];show 5+(aS (i:Nat)).length<=1000000;omega),?_⟩;rw [e0];refine ⟨_,blank,rfl,rfl,am (by rw [SN];show 5+(aS (i:Nat)).length+1<=1000000;omega),_,rfl,_,k.1,rfl,rfl,am (by rw [SN,SN];show 5+(aS (i:Nat)).length+1+k.1.length<=1000000;omega),_,blank,rfl,rfl,am (by rw [SN,SN,SN];show 5+(aS (i:Nat)).length+1+k.1.length+1<=1000000;omega),?_⟩;refine ⟨_,rfl,_,(t.fill cr).show,rfl,rfl,am (by rw [SN,SN,SN,SN];show 5+(aS (i:Nat)).length+1+k.1.length+1+(t.fill cr).show.length<=1000000;omega),?_⟩;refine ⟨rl,_,_,rfl,rfl,e8,bi (by rw [R5,Sm,Sm,SR];show 3+_+_<=1000000;omega),?_⟩;refine ⟨_,_,_,rfl,aH (s7.trans s8) D0,?_⟩
     have hz:(nh ins ((i:Nat):Int) row)[j]?=some (jv ((i:Nat):Int) k.1 t):=by
      unfold nh;rw [So,VU.mpr (show ins[j]?=some (k,t).1/\row[j]?=some (k,t).2 from ⟨hk,ht⟩)];rfl
     rw [ae,take_snoc hz,<- SO,Sq (l₂:=[jv ((i:Nat):Int) k.1 t])];rfl
   · rintro σ H7 ⟨c5,c6,c7,rfl,s7,e7⟩;refine ⟨_,_,_,_,rfl,s7,?_⟩;rw [S7 (by rw [R5];omega)] at e7;rw [kC Ac,<- SO];exact e7
 · rintro σ H5 ⟨c4,c5,c6,c7,rfl,s5,e5⟩;refine ⟨_,rfl,q rl H5 s5 ?_⟩;have:((A8.map V.ref).length:Int).toNat=rows.length:=by rw [R5];omega
   rw [this] at e5;exact e5
theorem vW:∀ c,33<=c->c<=122->PySem.Unicode.isSpace c=false:=by
 have h:(Tw 123).all (fun c=>decide (c<33) || !PySem.Unicode.isSpace c)=true:=by decide +kernel
 intro c h1 h2;have:=Tv.mp h c (UY.mpr (by omega));rw [decide_eq_false (by omega),Bool.false_or,Wf] at this;exact this
theorem xV (l:List Nat):cC 46 [32,46,32] (rep3 l)=l.flatMap sp4:=by
 rw [sJ];unfold cC;rw [WO];congr 1;funext d;unfold sp4 spS;by_cases h1:d=46
 · subst h1;rfl
 · by_cases h2:d=40∨d=41∨d=44
   · rw [if_pos h2,if_neg h1];rcases h2 with rfl | rfl | rfl <;> rfl
   · rw [if_neg h2,if_neg h1,UP,List.flatMap_nil,SM,if_neg h1]
def Pl (z:Ss):Prop:=∀ c∈sL z,c=32∨(33<=c/\c<=122)
def nu (wide:Bool) (z:Ss):List Ss:=(if wide=true then W4 (sL z) else wds (sL z)).map ofL
inductive gA (vs:List V) (H:Hp) (Q:VK) (_E:XK):Prop
 | mk (z:Ss) (wide:Bool) (Au:vs=[.str z,.bl wide]) (Av:z.length<=20000) (AF:Pl z) (AR:∀ (r:Sa) (H':Hp),L2.Same H H'->H r=none->H' r=some (.lst ((nu wide z).map V.str))->Q (.ref r) H'):gA  vs H Q _E
def dm:Sp:=gA
theorem uS {z:Ss} (h:Pl z):XM (Ye z)=(wds (sL z)).map ofL:=rK fun c hc=>by
 rcases h c hc with h | h
 · exact .inl h
 · exact .inr (vW c h.1 h.2)
set_option maxHeartbeats 1000000 in
theorem ig:bj P w K mg base CX0 1 T.g__law_words.f T.g__law_words.d ["row","wide"] dm:=by
 refine T.g__law_words.F.ok gX (fun vs H Q E h=>?_) (fun Aj A outer s H vs Q E hr h=>?_)
 · obtain ⟨z,wide,rfl,_⟩:=h;rfl
 obtain ⟨z,wide,rfl,hz,hp,q⟩:=h
 refine ⟨_,(ad (aJ (aN (pv 1) (fun _=>rfl)) (ag (tu Tt rfl (by decide +kernel) (wy (i:=2) (j:=0) gX.nd rfl rfl (by decide) rfl rfl))) aB)
  (ag (ax (mC TB Wd Wc ur (pv 0))))),?_⟩
 try dsimp only [AM,Af]
 unfold nu at q;refine ⟨_,rfl,wide,rfl,?_⟩;cases wide with
 | false =>
   refine bo ?_;dsimp only [cX];refine ⟨_,rfl,rfl,z,rfl,rfl,by omega,fun p Ca=>?_⟩;refine q p _ (ai Ca _) Ca ?_;rw [ae,uS hp];rfl
 | true =>
   refine bG ?_;have HF:z.cps.toList.length=z.length:=SE;have l1:=ee 40 [32,40,32] rfl z.cps.toList;have l2:=ee 41 [32,41,32] rfl (cC 40 [32,40,32] z.cps.toList);have l3:=ee 44 [32,44,32] rfl (cC 41 [32,41,32] (cC 40 [32,40,32] z.cps.toList))
   have l4:(z.cps.toList.flatMap sp4).length<=3 * z.length:=by
    rw [<- HF];generalize z.cps.toList=l;induction l with
    | nil=>exact Sg _
    | cons d l ih =>
      rw [UP,Sm,R7]
      have:(sp4 d).length<=3:=by
       rcases rb d with h | h
       · rw [i4 (by omega)];exact Sg _
       · rw [gH h];exact (by decide:1<=3)
      omega
   refine ⟨fun i σ H'=>An2 (H'=H) (((i=0/\σ=[some (.str z),some (.bl true),none])∨(∃ c,i=1/\σ=[some (.str (ofL (cC 40 [32,40,32] z.cps.toList))),some (.bl true),c])∨(∃ c,i=2/\σ=[some (.str (ofL (cC 41 [32,41,32] (cC 40 [32,40,32] z.cps.toList)))),some (.bl true),c])∨(∃ c,i=3/\σ=[some (.str (ofL (rep3 z.cps.toList))),some (.bl true),c])∨(∃ c,i=4/\σ=[some (.str (ofL (z.cps.toList.flatMap sp4))),some (.bl true),c]))),⟨rfl,.inl ⟨rfl,rfl⟩⟩,?_⟩;rintro i σ H' ⟨rfl,⟨rfl,rfl⟩ | ⟨c,rfl,rfl⟩ | ⟨c,rfl,rfl⟩ | ⟨c,rfl,rfl⟩ | ⟨c,rfl,rfl⟩⟩
   · refine .inr ⟨40,rfl,z,40,rfl,rfl,by decide,by omega,rfl,.inr (.inl ⟨_,rfl,rfl⟩)⟩
   · refine .inr ⟨41,rfl,_,41,rfl,rfl,by decide,by rw [cy];omega,rfl,.inr (.inr (.inl ⟨_,rfl,by rw [aG];rfl⟩))⟩
   · refine .inr ⟨44,rfl,_,44,rfl,rfl,by decide,by rw [cy];omega,rfl,.inr (.inr (.inr (.inl ⟨_,rfl,by rw [aG];rfl⟩)))⟩
   · refine .inr ⟨46,rfl,_,46,rfl,rfl,by decide,by rw [cy];unfold rep3;omega,rfl,.inr (.inr (.inr (.inr ⟨_,rfl,by rw [aG,xV];rfl⟩)))⟩
   · refine .inl ⟨rfl,?_⟩;dsimp only [cX];refine ⟨_,rfl,rfl,_,rfl,rfl,by rw [cy];omega,fun p Ca=>?_⟩;refine q p _ (ai Ca _) Ca ?_
     have Bj:Pl (ofL (z.cps.toList.flatMap sp4)):=fun c hc=>by
      rw [show sL (ofL (z.cps.toList.flatMap sp4))=z.cps.toList.flatMap sp4 from aG _] at hc;obtain ⟨d,hd,hc⟩:=List.mem_flatMap.mp hc;have GF:=hp d hd;rcases rb d with h | h
      · rw [i4 (by omega)] at hc;simp only [Sn,Up,or_false] at hc;omega
      · rw [gH h] at hc;rw [Sy.mp hc];exact GF
     rw [ae,uS Bj,show sL (ofL (z.cps.toList.flatMap sp4))=z.cps.toList.flatMap sp4 from aG _];rfl
def eX:List Ss:=[R4 "(",R4 ")",R4 ",",R4 ".",R4 "0",R4 "1",R4 "2",R4 "00",R4 "a",R4 "zzzzzzzz",R4 "rule",R4 "a/0",R4 "b/1",R4 "A",R4 "head"]
def yT (ws:List Ss) (k:Nat) (o:Ss):Prop:=∃ w,ws[k]?=some w/\1<w.length/\sL o=(sL w).take 1++32::(sL w).drop 1
def SpW (ws Ay:List Ss):Prop:=Ay=ws∨∃ k,k<=ws.length/\(Ay=ws.take k++ws.drop (k+1)∨∃ o,(o∈eX∨yT ws k o)/\(Ay=ws.take k++o::ws.drop (k+1)∨Ay=ws.take k++o::ws.drop k))
theorem fA {xs:List V} {n:Nat}:cR xs (some (n:Int)) none=xs.drop n:=by
 by_cases h:n<=xs.length
 · exact jC h
 · unfold cR;rw [HT.sIx_nat,HT.sIx_none,Nat.min_eq_right (by omega),W9,List.drop_of_length_le (by omega),List.take_nil]
theorem iS {xs:List V} {n:Nat} (h:n<=xs.length):cR xs none (some (n:Int))=xs.take n:=by
 unfold cR;rw [HT.sIx_none,HT.sIx_nat,Vi h,Uv,Xd]
inductive fe (vs:List V) (H:Hp) (Q:VK) (_E:XK):Prop
 | mk (rl:Sa) (as:List Sa) (WS:List (List Ss)) (cell:Int) (Au:vs=[.ref rl,.int cell]) (Av:H rl=some (.lst (as.map V.ref))) (AF:To (kJ H) WS as) (AR:WS≠[]) (Bs:WS.length<=1000) (Ci:(∀ ws∈WS,ws.length<=5000/\∀ x∈ws,x.length<=5000)) (Ea:0<=cell) (Fj:∀ (r:Sa) (CY:List Sa) (i:Nat) (ws Ay:List Ss) (H':Hp),L2.Same H H'->H' r=some (.lst (CY.map V.ref))->WS[i]?=some ws->SpW ws Ay->To (kJ H') (WS.set i Ay) CY->Q (.ref r) H'):fe  vs H Q _E
def kL:Sp:=fe
theorem pR {α:Type}:∀ (l:List α) (i:Nat) (x:α),i<l.length->l.set i x=l.take i++x::l.drop (i+1)
 | [],i,x,h=>by cases h
 | a::l,0,x,_=>rfl
 | a::l,i+1,x,h=>by
   rw [List.set_cons_succ,pR l i x (by rw [R7] at h;omega)];rfl
set_option maxHeartbeats 4000000 in
theorem kT:bj P w K mg base CX0 1 T.g__law_spoiled.f T.g__law_spoiled.d ["rows","cell"] kL:=by
 refine T.g__law_spoiled.F.ok aR (fun vs H Q E h=>?_) (fun Aj A outer s H vs Q E hr h=>?_)
 · obtain ⟨rl,as,WS,cell,rfl,_⟩:=h;rfl
 obtain ⟨rl,as,WS,cell,rfl,Gx,LZ,Ax,hn,hb,hc,q⟩:=h
 refine ⟨_,(ad (ar (i:=2) aR.nd rfl (SG rfl) (al aV (al aX (pv 1) af) (ao aj rfl T.n_len Sw (aa (pv 0) ac))))
  (ad (ar (i:=3) aR.nd rfl (SG rfl) (au aI (pv 0) (pv 2) (fun _ _=>rfl)))
  (ad (ar (i:=4) aR.nd rfl (SG rfl) (al aV (al aX (al aX (pv 1) af) (ao aj rfl T.n_len Sw (aa (pv 0) ac))) (al bc (ao aj rfl T.n_len Sw (aa (pv 3) ac)) af)))
  (ad (ar (i:=1) aR.nd rfl (SG rfl) (al bc (al aV (pv 1) af) (al fj (al aX (al aX (al aX (pv 1) af) (ao aj rfl T.n_len Sw (aa (pv 0) ac))) (al bc (ao aj rfl T.n_len Sw (aa (pv 3) ac)) af)) af)))
  (@ad _ _ _ _ _ (@wE _ [(R4 "(",_,_),(R4 ")",_,_),(R4 ",",_,_),(R4 ".",_,_),(R4 "0",_,_),(R4 "1",_,_),(R4 "2",_,_),(R4 "00",_,_),(R4 "a",_,_),(R4 "zzzzzzzz",_,_),(R4 "rule",_,_),(R4 "a/0",_,_),(R4 "b/1",_,_),(R4 "A",_,_),(R4 "head",_,_)] 5 _ _ _ _ aR.nd rfl (SG rfl) (SG rfl))
  (ad (aJ (PW.pt (oH (av eK (pv 4) (ao aj rfl T.n_len Sw (aa (pv 3) ac)) (aw _)) (ll (av mV (ao dL rfl T.n_len Sw (aa (au aI (pv 3) (pv 4) (fun _ _=>rfl)) ac)) af (aw _))))) (ag (bq (b9 SS Tb Ta aZ (pv 5) (aa (al aL (al aL (aQ lz (au aI (pv 3) (pv 4) (fun _ _=>rfl)) bw (aY af)) aA) (aQ lz (au aI (pv 3) (pv 4) (fun _ _=>rfl)) (aY af) bw)) ac)))) aB)
  (ad (ar (i:=6) aR.nd rfl (SG rfl) (au aI (pv 5) (al aV (al aX (pv 1) af) (ao aj rfl T.n_len Sw (aa (pv 5) ac))) (fun _ _=>rfl)))
  (ad (aJ (av cz (al aV (pv 1) af) af (aw _)) (ag (ar (i:=3) aR.nd rfl (SG rfl) (al ip (aQ ce (pv 3) bw (aY (pv 4))) (aQ ce (pv 3) (aY (al bc (pv 4) af)) bw)))) aB)
  (ad (aJ (av cz (al aV (pv 1) af) af (aw _)) (ag (ar (i:=3) aR.nd rfl (SG rfl) (al ip (al ip (aQ ce (pv 3) bw (aY (pv 4))) (bM (aa (pv 6) ac))) (aQ ce (pv 3) (aY (al bc (pv 4) af)) bw)))) aB)
  (ad (aJ (av cz (al aV (pv 1) af) af (aw _)) (ag (ar (i:=3) aR.nd rfl (SG rfl) (al ip (al ip (aQ ce (pv 3) bw (aY (pv 4))) (bM (aa (pv 6) ac))) (aQ ce (pv 3) (aY (pv 4)) bw)))) aB)
  (ag (ax (al ip (al ip (aQ ce (pv 0) bw (aY (pv 2))) (bM (aa (pv 3) ac))) (aQ ce (pv 0) (aY (al bc (pv 2) af)) bw)))))))))))))),?_⟩
 try dsimp only [AM,Af]
 have Ef:WS.length=as.length:=SK LZ;have CH:=T3.mpr Ax;have hL:(((as.map V.ref).length:Nat):Int)=(WS.length:Int):=by rw [R5,Ef]
 refine ⟨_,rfl,_,_,rfl,rfl,⟨by decide,by decide⟩,_,rfl,rl,_,rfl,.inl (SqL.of Gx),_,_,rfl,rfl,(by rw [hL];omega),?_⟩;rw [hL];have y0:=Te (cell / 4) (show (WS.length:Int)≠0 by omega);have y1:=Tc (cell / 4) (show (0:Int)<(WS.length:Int) by omega);obtain ⟨i,hi⟩:∃ i:Nat,cell / 4%(WS.length:Int)=(i:Int):=⟨_,(XN y0).symm⟩;rw [hi];have Bo:i<WS.length:=by omega
 refine hid fun ZZ kZ=>?_;obtain ⟨ws,AH⟩:∃ ws,WS[i]?=some ws:=⟨_,R6 Bo⟩;obtain ⟨wa,E1,Ei⟩:=P2.get LZ AH;refine kZ ?_;unfold kJ at Ei;obtain ⟨CQ,QX⟩:=hb ws (Sd AH);dsimp only [aC];refine ⟨_,rfl,_,rfl,rl,_,_,.ref wa,rfl,rfl,SqL.of Gx,cT (by rw [So,E1];rfl),?_⟩;dsimp only [aC];have EI:(((ws.map V.str).length:Nat):Int)=(ws.length:Int):=by rw [R5]
 refine ⟨_,rfl,_,_,rfl,rfl,⟨by decide,by decide⟩,_,rfl,rl,_,rfl,.inl (SqL.of Gx),_,_,rfl,rfl,⟨by rw [hL];omega,by rw [hL];omega⟩,_,rfl,wa,_,rfl,.inl (SqL.of Ei),_,_,rfl,rfl,_,_,rfl,rfl,(by rw [EI];omega),?_⟩;rw [hL,EI];have z0:=Te (cell / 4 / (WS.length:Int)) (show (ws.length:Int)+1≠0 by omega);have z1:=Tc (cell / 4 / (WS.length:Int)) (show (0:Int)<(ws.length:Int)+1 by omega);obtain ⟨k,hk⟩:∃ k:Nat,cell / 4 / (WS.length:Int)%((ws.length:Int)+1)=(k:Int):=⟨_,(XN z0).symm⟩;rw [hk];have A6:k<=ws.length:=by omega
 dsimp only [aC];have d0:0<=cell / 4 / (WS.length:Int) / ((ws.length:Int)+1):=V6 (V6 (V6 hc (by decide)) (by omega)) (by omega);refine ⟨_,rfl,_,_,rfl,rfl,(by show (0:Int)<4;decide),_,rfl,_,_,rfl,rfl,⟨by decide,by decide⟩,_,rfl,rl,_,rfl,.inl (SqL.of Gx),_,_,rfl,rfl,⟨by rw [hL];omega,by rw [hL];omega⟩,_,rfl,wa,_,rfl,.inl (SqL.of Ei),_,_,rfl,rfl,_,_,rfl,rfl,⟨by rw [EI];omega,by rw [EI];omega⟩,_,_,rfl,rfl,.inr ⟨by decide,by decide⟩,_,_,rfl,rfl,?_⟩;rw [hL,EI]
 have DC:0<=cell%4+cell / 4 / (WS.length:Int) / ((ws.length:Int)+1) * 4:=by
  have:=Te cell (show (4:Int)≠0 by decide);omega
 generalize cell%4+cell / 4 / (WS.length:Int) / ((ws.length:Int)+1) * 4=c2 at DC ⊢;dsimp only [aC];refine ⟨am (by show 15<=1000000;decide),fun so NX=>?_⟩;have s1:L2.Same H (upd H so (.lst (eX.map V.str))):=ai NX _;have e1:(upd H so (.lst (eX.map V.str))) so=some (.lst (eX.map V.str)):=ae;dsimp only [aC];obtain ⟨H1,L0⟩:∃ H1,H1=upd H so (.lst (eX.map V.str)):=⟨_,rfl⟩;rw [<- L0] at s1 e1;show wx _ _ _ _ (upd H so (.lst (eX.map V.str)));rw [<- L0];clear L0
 -- some
 refine bh (fun f' H'=>Ex1 fun (D5:List Ss)=>An6 (L2.Same H H') (H' so=some (.lst (D5.map V.str))) (15<=D5.length) (D5.length<=16) ((∀ o∈D5,(o∈eX∨yT ws k o)/\o.length<=12000)) (f'=[some (.ref rl),some (.int c2),some (.int (i:Nat)),some (.ref wa),some (.int (k:Nat)),some (.ref so),none])) (fun kk Cr=>?_) ?_
 · have BX:∀ o∈eX,o.length<=12000:=by decide +kernel
   have keep:=Cr _ _ ⟨eX,s1,e1,by decide,by decide,fun o ho=>⟨.inl ho,BX o ho⟩,rfl⟩;refine ⟨_,rfl,_,rfl,wa,_,rfl,.inl (SqL.of (s1 _ _ Ei)),_,_,rfl,rfl,_,rfl,?_⟩;rw [EI];by_cases c:k<ws.length
   case neg =>
    rw [decide_eq_false (show ¬ ((k:Nat):Int)<(ws.length:Int) by omega)];exact bo (bo keep)
   rw [decide_eq_true (show ((k:Nat):Int)<(ws.length:Int) by omega)];obtain ⟨wk,L1⟩:∃ wk,ws[k]?=some wk:=⟨_,R6 c⟩;have QY:=QX wk (Sd L1);have FP:atI (ws.map V.str) ((k:Nat):Int)=some (.str wk):=cT (by rw [So,L1];rfl);refine bG ⟨_,rfl,_,rfl,wa,_,_,.str wk,rfl,rfl,SqL.of (s1 _ _ Ei),FP,wk,rfl,am (by omega),_,_,rfl,rfl,_,rfl,?_⟩;by_cases c3:1<wk.length
   case neg =>
    rw [decide_eq_false (show ¬ (1:Int)<(wk.length:Int) by omega)];exact bo keep
   rw [decide_eq_true (show (1:Int)<(wk.length:Int) by omega)];have l1:=cN wk none (some 1);have l2:=cN wk (some 1) none;have Cq:(R4 " ").length=1:=by decide +kernel
   refine bG ⟨_,rfl,.inl ⟨rfl,_,SqL.of e1⟩,_,rfl,_,rfl,wa,_,_,.str wk,rfl,rfl,SqL.of (s1 _ _ Ei),FP,_,rfl,wk,rfl,am (by omega),_,_,rfl,rfl,am (by omega),?_⟩;refine ⟨_,rfl,_,rfl,wa,_,_,.str wk,rfl,rfl,SqL.of (s1 _ _ Ei),FP,_,rfl,wk,rfl,am (by omega),_,_,rfl,rfl,am (by rw [SN];omega),?_⟩;refine ⟨so,_,_,rfl,rfl,e1,S8 (show _<1000000 by show 15<1000000;decide) (am (Sg _)),Cr _ _ ⟨eX++[db wk none (some 1)++R4 " "++db wk (some 1) none],aH s1 NX,by rw [ae,Sq];rfl,by show 15<=16;decide,by show 16<=16;decide,fun o ho=>?_,rfl⟩⟩;rcases Sv.mp ho with ho | ho
   · exact ⟨.inl ho,BX o ho⟩
   · rw [Sy.mp ho];refine ⟨.inr ⟨wk,L1,c3,?_⟩,by rw [SN,SN];omega⟩;rw [cW,cW,show sL (R4 " ")=[32] by decide +kernel];have t1:sL (db wk none (some 1))=(sL wk).take 1:=(tG (z:=wk) (n:=1) (by omega)).1
     have t2:sL (db wk (some 1) none)=(sL wk).drop 1:=by
      show jc (sL wk) (some 1) none=_;unfold jc;rw [show (1:Int)=((1:Nat):Int) by rfl,HT.sIx_nat,HT.sIx_none,Vi (by rw [bV];omega)];exact S7 (by rw [Tf];exact Sg _)
     rw [t1,t2];simp
 rintro σ H2 ⟨D5,s2,e2,QZ,Q0,L3,rfl⟩;have FQ:=s2 _ _ Ei;have Q1:=s2 _ _ Gx;have NY:(((D5.map V.str).length:Nat):Int)=(D5.length:Int):=by rw [R5]
 have x0:=Te (c2 / 4) (show (D5.length:Int)≠0 by omega);have x1:=Tc (c2 / 4) (show (0:Int)<(D5.length:Int) by omega);obtain ⟨o,ho⟩:∃ o,D5[(c2 / 4%(D5.length:Int)).toNat]?=some o:=⟨_,R6 (by omega)⟩;obtain ⟨FR,Ex⟩:=L3 o (Sd ho);refine ⟨_,rfl,_,rfl,_,_,rfl,rfl,⟨by decide,by decide⟩,_,rfl,so,_,rfl,.inl (SqL.of e2),_,_,rfl,rfl,(by rw [NY];omega),so,_,_,.str o,rfl,rfl,SqL.of e2,?_,?_⟩
 · rw [NY];exact at_nonneg x0 (by rw [So,ho];rfl)
 dsimp only [aC]
 -- C5 words
 have Bx:(ws.map V.str).length=ws.length:=R5 _;refine bh (fun f' H'=>Ex2 fun (Ej:Sa) (Ay:List Ss)=>An5 (L2.Same H H') (H' Ej=some (.lst (Ay.map V.str))) ((c2%4≠1->Ej=wa/\Ay=ws)) (SpW ws Ay) (f'=[some (.ref rl),some (.int c2),some (.int (i:Nat)),some (.ref Ej),some (.int (k:Nat)),some (.ref so),some (.str o)])) (fun kk Cr=>?_) ?_
 · refine ⟨_,rfl,_,_,rfl,rfl,(by show (0:Int)<4;decide),rfl,_,rfl,?_⟩;refine cg (fun cc=>?_) (fun cc=>Cr _ _ ⟨wa,ws,s2,FQ,fun _=>⟨rfl,rfl⟩,.inl rfl,rfl⟩);have c1:c2%4=1:=V.int.inj (of_decide_eq_true cc);refine ⟨_,rfl,_,rfl,_,rfl,wa,_,rfl,SqL.of FQ,fun l1 AX=>?_⟩;rw [iS (by rw [Bx];exact A6)];refine ⟨_,rfl,_,rfl,_,_,rfl,rfl,_,rfl,wa,_,rfl,SqL.of ((ai AX _) _ _ FQ),fun l2 AW=>?_⟩;rw [show ((k:Nat):Int)+1=((k+1:Nat):Int) by omega,fA];refine ⟨l1,l2,_,_,rfl,rfl,(ai AW _) _ _ ae,ae,am (by rw [SR,Tf,Bx];omega),fun l3 B8=>?_⟩;refine Cr _ _ ⟨l3,ws.take k++ws.drop (k+1),s2.trans ((ai AX _).trans ((ai AW _).trans (ai B8 _))),?_,fun z=>absurd c1 z,.inr ⟨k,A6,.inl rfl⟩,rfl⟩;rw [ae,Sq,V2,Wv]
 rintro σ H3 ⟨L4,L5,s3,FT,D6,Dk,rfl⟩;refine bh (fun f' H'=>Ex2 fun (Ej:Sa) (Ay:List Ss)=>An5 (L2.Same H H') (H' Ej=some (.lst (Ay.map V.str))) ((c2%4≠1->c2%4≠2->Ej=wa/\Ay=ws)) (SpW ws Ay) (f'=[some (.ref rl),some (.int c2),some (.int (i:Nat)),some (.ref Ej),some (.int (k:Nat)),some (.ref so),some (.str o)])) (fun kk Cr=>?_) ?_
 · refine ⟨_,rfl,_,_,rfl,rfl,(by show (0:Int)<4;decide),rfl,_,rfl,?_⟩;refine cg (fun cc=>?_) (fun cc=>Cr _ _ ⟨L4,L5,s3,FT,fun z _=>D6 z,Dk,rfl⟩);have c1:c2%4=2:=V.int.inj (of_decide_eq_true cc);obtain ⟨rfl,rfl⟩:=D6 (by omega);refine ⟨_,rfl,_,rfl,_,rfl,L4,_,rfl,SqL.of FT,fun l1 AX=>?_⟩;rw [iS (by rw [Bx];exact A6)];refine ⟨_,rfl,am (by show 1<=1000000;decide),fun l2 AW=>?_⟩;refine ⟨l1,l2,_,_,rfl,rfl,(ai AW _) _ _ ae,ae,am (by rw [SR,Bx];show _+1<=1000000;omega),fun l3 B8=>?_⟩;refine ⟨_,rfl,_,rfl,_,_,rfl,rfl,_,rfl,L4,_,rfl,SqL.of ((ai B8 _) _ _ ((ai AW _) _ _ ((ai AX _) _ _ FT))),fun l4 E5=>?_⟩;rw [show ((k:Nat):Int)+1=((k+1:Nat):Int) by omega,fA];refine ⟨l3,l4,_,_,rfl,rfl,(ai E5 _) _ _ ae,ae,am (by rw [Sm,SR,Tf,Bx];show _+1+_<=1000000;omega),fun l5 Iq=>?_⟩;refine Cr _ _ ⟨l5,L5.take k++o::L5.drop (k+1),s3.trans ((ai AX _).trans ((ai AW _).trans ((ai B8 _).trans ((ai E5 _).trans (ai Iq _))))),?_,fun _ z=>absurd c1 z,.inr ⟨k,A6,.inr ⟨o,FR,.inl rfl⟩⟩,rfl⟩;rw [ae,SO,Sq,V2,Sl,Wv];rfl
 rintro σ H4 ⟨L6,L7,s4,FU,FV,L8,rfl⟩;refine bh (fun f' H'=>Ex2 fun (Ej:Sa) (Ay:List Ss)=>An4 (L2.Same H H') (H' Ej=some (.lst (Ay.map V.str))) (SpW ws Ay) (f'=[some (.ref rl),some (.int c2),some (.int (i:Nat)),some (.ref Ej),some (.int (k:Nat)),some (.ref so),some (.str o)])) (fun kk Cr=>?_) ?_
 · refine ⟨_,rfl,_,_,rfl,rfl,(by show (0:Int)<4;decide),rfl,_,rfl,?_⟩;refine cg (fun cc=>?_) (fun cc=>Cr _ _ ⟨L6,L7,s4,FU,L8,rfl⟩);have c1:c2%4=3:=V.int.inj (of_decide_eq_true cc);obtain ⟨rfl,rfl⟩:=FV (by omega) (by omega);refine ⟨_,rfl,_,rfl,_,rfl,L6,_,rfl,SqL.of FU,fun l1 AX=>?_⟩;rw [iS (by rw [Bx];exact A6)];refine ⟨_,rfl,am (by show 1<=1000000;decide),fun l2 AW=>?_⟩;refine ⟨l1,l2,_,_,rfl,rfl,(ai AW _) _ _ ae,ae,am (by rw [SR,Bx];show _+1<=1000000;omega),fun l3 B8=>?_⟩;refine ⟨_,rfl,_,rfl,_,rfl,L6,_,rfl,SqL.of ((ai B8 _) _ _ ((ai AW _) _ _ ((ai AX _) _ _ FU))),fun l4 E5=>?_⟩;rw [fA];refine ⟨l3,l4,_,_,rfl,rfl,(ai E5 _) _ _ ae,ae,am (by rw [Sm,SR,Tf,Bx];show _+1+_<=1000000;omega),fun l5 Iq=>?_⟩;refine Cr _ _ ⟨l5,L7.take k++o::L7.drop k,s4.trans ((ai AX _).trans ((ai AW _).trans ((ai B8 _).trans ((ai E5 _).trans (ai Iq _))))),?_,.inr ⟨k,A6,.inr ⟨o,FR,.inr rfl⟩⟩,rfl⟩;rw [ae,SO,Sq,V2,Sl,Wv];rfl
 rintro σ H5 ⟨JO,Q2,s5,L9,L',rfl⟩;have Ir:=s5 _ _ Gx;have D7:(as.map V.ref).length=WS.length:=by rw [R5,Ef]
 refine ⟨_,rfl,_,rfl,_,rfl,rl,_,rfl,SqL.of Ir,fun l1 AX=>?_⟩;rw [iS (by rw [D7];omega)];refine ⟨_,rfl,am (by show 1<=1000000;decide),fun l2 AW=>?_⟩;refine ⟨l1,l2,_,_,rfl,rfl,(ai AW _) _ _ ae,ae,am (by rw [SR,D7];show _+1<=1000000;omega),fun l3 B8=>?_⟩;refine ⟨_,rfl,_,rfl,_,_,rfl,rfl,_,rfl,rl,_,rfl,SqL.of ((ai B8 _) _ _ ((ai AW _) _ _ ((ai AX _) _ _ Ir))),fun l4 E5=>?_⟩;rw [show ((i:Nat):Int)+1=((i+1:Nat):Int) by omega,fA];refine ⟨l3,l4,_,_,rfl,rfl,(ai E5 _) _ _ ae,ae,am (by rw [Sm,SR,Tf,D7];show _+1+_<=1000000;omega),fun l5 Iq=>?_⟩;have s6:=(ai AX (.lst ((as.map V.ref).take i))).trans ((ai AW (.lst [.ref JO])).trans ((ai B8 (.lst ((as.map V.ref).take i++[.ref JO]))).trans ((ai E5 (.lst ((as.map V.ref).drop (i+1)))).trans (ai Iq (.lst ((as.map V.ref).take i++[.ref JO]++(as.map V.ref).drop (i+1)))))));refine q l5 (as.set i JO) i ws Q2 _ (s5.trans s6) ?_ AH L' ?_
 · rw [ae,SO,pR _ _ _ (by omega),Sq,V2,Sl,Wv];rfl
 · refine mD (by rw [UA,UA,Ef]) fun j x y hx hy=>?_;unfold kJ;by_cases hj:i=j
   · subst hj;rw [Ug Bo] at hx;rw [Ug (by omega)] at hy;cases hx;cases hy;exact s6 _ _ L9
   · rw [UE hj] at hx hy;obtain ⟨y',Dn,e⟩:=P2.get LZ hx;rw [hy] at Dn;cases Dn;exact s6 _ _ (s5 _ _ e)
def g8 (K:R8):Nat->Sp
 | 0=>fun _ _ _ _=>False
 | n+1=>fun vs H Q _=>∃ (kr a:Sa) (Ap:List Sa) (ks:List (Ss×Int)) (t:Th) (st kd:Int),vs=[.ref a,.ref kr,.int st,.int kd]/\SqT K H kr (Ap.map V.ref)/\KsAt H ks Ap/\(ks.map (·.1)).Nodup/\At H t a/\t.size<=100000/\t.tall<=n+1/\∀ H',L2.Same H H'->Q (.bl (fpb ks st kd t)) H'
theorem eM:∀ n:Nat,bj P w K mg base CX0 n T.g__law_sound.f T.g__law_sound.d ["pattern","outs","states","kids"] (g8 K n)
 | 0=>⟨fun _ _ _ _ h=>h.elim,fun _ _ _ _ _ _ _ _ _ _ _ _ _ h=>h.elim⟩
 | n+1=>by
   have ih:=eM n;refine T.g__law_sound.F.ok m4 (fun vs H Q E h=>?_) (fun Aj A outer s H vs Q E hr h=>?_)
   · obtain ⟨kr,a,Ap,ks,t,st,kd,rfl,_⟩:=h;rfl
   obtain ⟨kr,a,Ap,ks,t,st,kd,rfl,hK,AY,Fz,hA,Az,Bw,k⟩:=h
   refine ⟨_,(ad (aJ (PW.pt (eG (ck (aN (ao (cO (T:="tuple")) rfl T.n_isinstance T5 (aa (pv 0) (aa (eH (v:=.ty "tuple") rfl T.n_tuple Tu rfl) ac))) (fun _=>rfl))) (eg (av eK (ao aj rfl T.n_len Sw (aa (pv 0) ac)) af (aw _))))) (ag (ax dq)) aB)
    (ad (aJ (av cz (au aD (pv 0) af (fun _ _=>rfl)) aA (aw _)) (ag (ax (dI (cn cz (ao aj rfl T.n_len Sw (aa (pv 0) ac)) af (aw _)) (dI (jh fQ eK af (au aD (pv 0) af (fun _ _=>rfl)) (pv 2)) (fC (jh fQ eK af (au aD (pv 0) af (fun _ _=>rfl)) (pv 3))))))) aB)
    (ad (aJ (av (tY (B:=50) (ww hr)) (b8 (aa (au aD (pv 0) af (fun _ _=>rfl)) (aa (al me (ao aj rfl T.n_len Sw (aa (pv 0) ac)) af) ac))) (pv 1) (by with_unfolding_all rfl)) (ag (ax dq)) aB)
    (ag (ax (ao (mT rfl) rfl T.n_all Xq (aa (cf (N:=[R4 "part",R4 "outs",R4 "states",R4 "kids"]) (js:=[none,some 1,some 2,some 3]) (g:=(aC 0)) (tt:=bn) (te:=(hV (g8 K _) [] E0 (bZ (bN 0) (bZ (bN 1) (bZ (bN 2) (bZ (bN 3) eN)))))) rfl (cL rfl (by decide +kernel) (by decide +kernel) rfl rfl rfl) (dD (aQ qS (pv 0) (aY af) bw)) (fun _ _ _ _ _ _=>(ay (i:=0) aan rfl (SG rfl))) (bA rfl) (fun _ _ _ _ _ _=>cb) (fun _ _ _ _ _ _=>(aW (ih) (hr.mono (Sg _)) rfl T.g__law_sound.m T.g__law_sound.F.kp T.g__law_sound.b .nil md (aa (pv 0) (aa (pv 1) (aa (pv 2) (aa (pv 3) ac))))))) ac))))))),?_⟩
   try dsimp only [AM,Af]
   cases t with
   | call sn kn =>
     have CM:=hA;rw [At] at CM;refine ⟨_,rfl,_,_,_,rfl,.tup CM,jy,_,rfl,?_⟩;refine bo ⟨_,rfl,a,_,rfl,.inr (SqT.of CM),_,_,rfl,rfl,_,rfl,?_⟩;refine bo ?_;refine ⟨_,rfl,a,_,0,.str q,rfl,rfl,SqT.of CM,at0,rfl,_,rfl,?_⟩;refine cg (fun _=>?_) (fun c=>absurd (decide_eq_true rfl) c)
     have Iu:fpb ks st kd (.call sn kn)=(decide (0<=sn/\sn<st) && decide (0<=kn/\kn<kd)):=by
      unfold fpb;rw [Th.walk];simp [okP]
     have kk:=k H (.refl _);rw [Iu] at kk;refine ⟨_,rfl,a,_,rfl,.inr (SqT.of CM),rfl,_,rfl,?_⟩;refine bG ?_;refine ⟨_,rfl,a,_,1,_,rfl,rfl,SqT.of CM,at1,_,_,rfl,rfl,_,rfl,?_⟩;refine cg (fun c1=>?_) (fun c1=>?_)
     · have DR:0<=sn:=of_decide_eq_true c1;refine ⟨_,rfl,_,_,rfl,rfl,_,rfl,?_⟩;refine cg (fun c2=>?_) (fun c2=>?_)
       · have Fy:sn<st:=of_decide_eq_true c2;rw [decide_eq_true (show 0<=sn/\sn<st from ⟨DR,Fy⟩),Vt] at kk;refine ⟨_,rfl,a,_,2,_,rfl,rfl,SqT.of CM,at2,_,_,rfl,rfl,_,rfl,?_⟩;refine cg (fun c3=>?_) (fun c3=>?_)
         · have Q3:0<=kn:=of_decide_eq_true c3;refine ⟨_,rfl,_,_,rfl,rfl,?_⟩;have e:decide (0<=kn/\kn<kd)=decide (kn<kd):=by simp [Q3]
           rw [e] at kk;exact kk
         · have e:decide (0<=kn/\kn<kd)=false:=decide_eq_false (fun z=>c3 (decide_eq_true z.1));rw [e] at kk;exact kk
       · rw [decide_eq_false (show ¬ (0<=sn/\sn<st) from fun z=>c2 (decide_eq_true z.2)),Wg] at kk;exact kk
     · rw [decide_eq_false (show ¬ (0<=sn/\sn<st) from fun z=>c1 (decide_eq_true z.1)),Wg] at kk;refine ⟨_,rfl,?_⟩;exact bo kk
   | knot nm us =>
     rw [At] at hA;refine hid fun ZZ kZ=>?_;obtain ⟨Jw,ka,ea,Bb⟩:=hA;refine kZ ?_;have A6:ka.length=us.length:=Bb.length;rw [Th.tall] at Bw;rw [Th.size] at Az;have RX:=dk us;refine ⟨_,rfl,_,_,_,rfl,.tup ea,jy,_,rfl,?_⟩;refine bo ⟨_,rfl,a,_,rfl,.inr (SqT.of ea),_,_,rfl,rfl,_,rfl,?_⟩;rw [decide_eq_false (show ¬ (((V.str nm::ka.map V.ref).length:Nat):Int)<1 by rw [R7];omega)];refine bo ?_;refine ⟨_,rfl,a,_,0,.str nm,rfl,rfl,SqT.of ea,at0,rfl,_,rfl,?_⟩;refine cg (fun c=>absurd (of_decide_eq_true c) (fun z=>Jw (V.str.inj z))) (fun _=>?_);have hlen:((V.str nm::ka.map V.ref).length:Int) - 1=(us.length:Int):=by rw [R7,R5,A6];omega
     refine ⟨_,rfl,a,_,0,.str nm,rfl,rfl,SqT.of ea,at0,_,rfl,a,_,rfl,.inr (SqT.of ea),_,_,rfl,rfl,am (by show 2<=1000000;decide),fun p1 Ds=>?_⟩;dsimp only;rw [hlen];have s1:L2.Same H (upd H p1 (.tup [.str nm,.int (us.length:Int)])):=ai Ds _;have e1:(upd H p1 (.tup [.str nm,.int (us.length:Int)])) p1=some (.tup [.str nm,.int (us.length:Int)]):=ae;generalize (upd H p1 (.tup [.str nm,.int (us.length:Int)]))=H1 at s1 e1 ⊢
     have Iu:fpb ks st kd (.knot nm us)=(decide (cH ks nm=((us.length:Nat):Int)) && uc ks st kd us):=by
      rw [qX];rfl
     refine ⟨_,rfl,kr,_,kDv (nm,(us.length:Int)),ks.map kDv,rfl,s1.seqT hK,?_,xI (AY.mono (Same.kt s1)),TF (qm ks) (by decide),fun b hb=>⟨_,rfl,?_⟩⟩
     · rw [kDv,DAt];exact ⟨p1,_,rfl,e1,.cons (by rw [DAt]) (.cons (by rw [DAt]) .nil)⟩
     have BW:kDv (nm,(us.length:Int))∈ks.map kDv↔cH ks nm=((us.length:Nat):Int):=by
      rw [iN Fz];constructor
      · intro z;obtain ⟨x,hx,e⟩:=TC.mp z;rw [<- we e];exact hx
      · intro z;exact TC.mpr ⟨_,z,rfl⟩
     cases b with
     | true =>
       have AJ:=hb.mp rfl;refine bG ?_;have kk:=k H1 s1;rw [Iu,decide_eq_false (fun z=>AJ (BW.mpr z)),Wg] at kk;exact kk
     | false =>
       have De:cH ks nm=((us.length:Nat):Int):=by
        refine BW.mp ?_;exact Classical.byContradiction fun z=>absurd (hb.mpr z) Sz
       refine bo ?_;rw [decide_eq_true De,Vt] at Iu;refine ⟨_,rfl,1,rfl,a,_,rfl,SqT.of (s1 _ _ ea),?_,fun p2 HC=>?_⟩
       · rintro ⟨z,_⟩;rw [R7,show (1:Int)=((1:Nat):Int) by rfl,HT.sIx_nat] at z;omega
       rw [fZ];have s2:L2.Same H1 (upd H1 p2 (.tup (ka.map V.ref))):=ai HC _;have e2:(upd H1 p2 (.tup (ka.map V.ref))) p2=some (.tup (ka.map V.ref)):=ae;generalize (upd H1 p2 (.tup (ka.map V.ref)))=H2 at s2 e2 ⊢;have Cb:=s1.trans s2;refine ⟨p2,rfl,⟨_,SqT.of e2⟩,?_⟩;intro D hD;refine ⟨ka.length,fun j H3=>An3 (j<=ka.length) (L2.Same H2 H3) (H3 D=some (.lst (((us.take j).map (fpb ks st kd)).map V.bl))),⟨Td _,ai hD _,ae⟩,?_⟩;rintro j H3 ⟨hj,s3,eD⟩;by_cases HZ:j=ka.length
       · left;refine ⟨⟨_,SqT.of (s3 _ _ e2),by rw [R5,HZ];exact Sg _⟩,?_⟩;rw [HZ,A6,VA] at eD;refine ⟨D,us.map (fpb ks st kd),rfl,SqL.of eD,?_⟩;have kk:=k H3 (Cb.trans s3);rw [Iu,jr] at kk;exact kk
       · right;have Dt:j<ka.length:=by omega
         refine ⟨Dt,⟨_,.ref ka[j],SqT.of (s3 _ _ e2),by rw [So,R6 Dt];rfl⟩,?_⟩;rintro y H4 ⟨rfl,hv⟩;have Bq:=hv _ (SqT.of (s3 _ _ e2));obtain ⟨xa,rfl,K6⟩:=bH Bq;obtain ⟨tx,ET,HB⟩:=Bb.get K6;have Ez:=i5 (Sd ET);have RY:=nU (Sd ET);have B6:=Cb.trans s3;cases n with
         | zero =>
           have:=tx.tall_eq;omega
         | succ n =>
         refine ⟨_,rfl,_,rfl,_,rfl,_,rfl,kr,xa,Ap,ks,tx,st,kd,rfl,B6.seqT hK,AY.mono (Same.kt B6),Fz,HB.mono (Same.kt B6),by omega,by omega,fun H5 s5=>?_⟩;refine ⟨_,s5 _ _ eD,bi (by rw [R5,R5,SR];omega),Dt,aH (s3.trans s5) hD,?_⟩;rw [ae,Vp,ET,Sq,Sq];rfl
mutual
theorem jM:∀ t:Th,t.size=t.kn+cnT t
 | .knot n ts=>by rw [Th.size,Th.kn,cnT,lY ts];omega
 | .call s k=>by rw [Th.size,Th.kn,cnT]
theorem lY:∀ ts:List Th,aE ts=kns ts+dG ts
 | []=>by rw [aE,kns,dG]
 | t::ts=>by rw [aE,kns,dG,jM t,lY ts];omega
end
theorem qv {outs:List (Ss×Int)} {st kd:Int} {t:Th} (h:j4 outs st kd t):t.size<=600/\t.tall<=20/\fpb outs st kd t=true:=by
 obtain ⟨⟨h1,h2,h3⟩,h4⟩:=h;have:=jM t;exact ⟨by omega,h1,h4⟩
inductive ff (K:R8) (vs:List V) (H:Hp) (Q:VK) (_E:XK):Prop
 | mk (b:Sa) (ins outs:List (Ss×Int)) (head:Th) (rows:List (List Th)) (Au:vs=[.ref b]) (Av:Bk H ins outs head rows b) (AF:dY ins outs head rows) (AR:(outs.map (·.1)).Nodup) (Bs:ins.length<=8) (Ci:∀ H',L2.Same H H'->Q (.bl true) H'):ff K vs H Q _E
def kQ (K:R8):Sp:=ff K
set_option maxHeartbeats 4000000 in
theorem kF:bj P w K mg base CX0 24 T.g__law_is_book.f T.g__law_is_book.d ["book"] (kQ K):=by
 refine T.g__law_is_book.F.ok dC (fun vs H Q E h=>?_) (fun Aj A outer s H vs Q E hr h=>?_)
 · obtain ⟨b,ins,outs,head,rows,rfl,_⟩:=h;rfl
 obtain ⟨b,ins,outs,head,rows,rfl,hb,ok,Fz,RZ,q⟩:=h
 refine ⟨_,(ad (aJ (PW.pt (eG (ck (aN (ao (cO (T:="tuple")) rfl T.n_isinstance T5 (aa (pv 0) (aa (eH (v:=.ty "tuple") rfl T.n_tuple Tu rfl) ac))) (fun _=>rfl))) (eG (av d4 (ao aj rfl T.n_len Sw (aa (pv 0) ac)) af (aw _)) (eg (ck (aN (pcF T.g__law_sound (eM T 22) hr (aa (au aD (pv 0) af (fun _ _=>rfl)) (aa (au aD (pv 0) af (fun _ _=>rfl)) (aa (ao aj rfl T.n_len Sw (aa (au aD (pv 0) af (fun _ _=>rfl)) ac)) (aa af ac))))) (fun _=>rfl))))))) (ag (ax dq)) aB)
  (ad (bW Tt rfl (dD (au aD (pv 0) af (fun _ _=>rfl))) (ay (i:=1) dC.nd rfl (SG rfl)) (ad (aJ (av d4 (ao aj rfl T.n_len Sw (aa (pv 1) ac)) (ao aj rfl T.n_len Sw (aa (au aD (pv 0) af (fun _ _=>rfl)) ac)) (aw _)) (ag (ax dq)) aB)
  (ag (bW Tt rfl (br rfl T.n_range (aa (ao aj rfl T.n_len Sw (aa (pv 1) ac)) ac)) (ay (i:=2) dC.nd rfl (SG rfl)) (ag (aJ (ck (aN (pcF T.g__law_sound (eM T 22) hr (aa (au aD (pv 1) (pv 2) (fun _ _=>rfl)) (aa (au aD (pv 0) af (fun _ _=>rfl)) (aa (ao aj rfl T.n_len Sw (aa (au aD (pv 0) af (fun _ _=>rfl)) ac)) (aa (au aD (au aD (au aD (pv 0) af (fun _ _=>rfl)) (pv 2) (fun _ _=>rfl)) af (fun _ _=>rfl)) ac))))) (fun _=>rfl))) (ag (ax dq)) aB))))))
  (ag (ax dq)))),?_⟩
 try dsimp only [AM,Af]
 refine hid fun ZZ kZ=>?_;obtain ⟨ia,oa,ha,ra,Ar,Ak,A8,bk⟩:=hb;obtain ⟨Er,JB,Aq⟩:=ok;obtain ⟨z1,z2,z3⟩:=qv JB;refine kZ ?_;have Gp:ins.length=Ar.length:=SK bk.inK;have Gr:rows.length=A8.length:=SK bk.rw;have NZ:(((A8.map V.ref).length:Nat):Int)=(rows.length:Int):=by rw [R5,Gr]
 refine ⟨_,rfl,_,_,_,rfl,.tup bk.bk,jy,_,rfl,?_⟩;refine bo ⟨_,rfl,b,_,rfl,.inr (SqT.of bk.bk),rfl,_,rfl,?_⟩;refine bo ⟨_,rfl,b,_,2,.ref ha,rfl,rfl,SqT.of bk.bk,at2,_,rfl,b,_,1,.ref oa,rfl,rfl,SqT.of bk.bk,at1,_,rfl,b,_,3,.ref ra,rfl,rfl,SqT.of bk.bk,at3,ra,_,rfl,.inr (SqT.of bk.rl),?_⟩;rw [NZ];refine ⟨oa,ha,Ak,outs,head,(rows.length:Nat),1,rfl,SqT.of bk.outE,bk.outK,Fz,bk.hd,by omega,(show head.tall<=22 by omega),fun H1 s1=>?_⟩;rw [z3];refine ⟨_,rfl,bo ?_⟩;dsimp only [cX];refine ⟨_,rfl,b,_,3,.ref ra,rfl,rfl,SqT.of (s1 _ _ bk.bk),at3,ra,rfl,⟨_,SqT.of (s1 _ _ bk.rl)⟩,?_⟩;refine lg (K:=K) (a:=ra) (xs:=A8.map V.ref) (fun i σ H2=>Ex2 fun c1 c2=>An2 (σ=[some (.ref b),c1,c2]) (L2.Same H H2)) ⟨none,none,rfl,s1⟩ (fun i σ H2 _ ⟨_,_,_,s2⟩=>SqT.of (s2 _ _ bk.rl)) ?_ (fun σ H2 ⟨_,_,_,s2⟩=>q H2 s2);rintro i x σ H2 hx ⟨c1,c2,rfl,s2⟩;refine hid fun ZZ kZ=>?_;obtain ⟨B',rfl,Q4⟩:=bH hx;obtain ⟨row,Ac,Ae,D4,B9⟩:=P2.get' bk.rw Q4;obtain ⟨BC,Q5⟩:=Aq row (Sd Ac);refine kZ ?_;have Bw:=B9.length;dsimp only [aC];have Gn:(((Ae.map V.ref).length:Nat):Int)=(ins.length:Int):=by rw [R5];omega
 have Kr:(((Ar.map V.ref).length:Nat):Int)=(ins.length:Int):=by rw [R5,Gp]
 refine bh (fun f' H'=>An2 (H'=H2) (f'=[some (.ref b),some (.ref B'),c2])) (fun kk hk=>?_) ?_
 · refine ⟨_,rfl,B',_,rfl,.inr (SqT.of (s2 _ _ D4)),_,rfl,b,_,0,.ref ia,rfl,rfl,SqT.of (s2 _ _ bk.bk),at0,ia,_,rfl,.inr (SqT.of (s2 _ _ bk.inE)),rfl,_,rfl,?_⟩;rw [Gn,Kr,decide_eq_true rfl];exact bo (hk _ _ ⟨rfl,rfl⟩)
 rintro σ R0 ⟨rfl,rfl⟩;refine ⟨_,rfl,B',_,rfl,.inr (SqT.of (s2 _ _ D4)),_,rfl,by omega,by omega,?_⟩;refine bP (n:=(((Ae.map V.ref).length:Nat):Int).toNat) (fun j σ H3=>Ex1 fun c2=>An2 (σ=[some (.ref b),some (.ref B'),c2]) (L2.Same H H3)) ⟨c2,rfl,s2⟩ ?_ (fun σ H3 ⟨_,e,s3⟩=>⟨_,_,e,s3⟩);rintro j σ H3 hj ⟨c2,rfl,s3⟩
 have Il:j<ins.length:=by
  have:j<(((Ae.map V.ref).length:Nat):Int).toNat:=hj;omega
 refine hid fun ZZ kZ=>?_;obtain ⟨k,hk⟩:∃ k,ins[j]?=some k:=⟨_,R6 Il⟩;obtain ⟨ka,Bb,ek⟩:=P2.get bk.inK hk;obtain ⟨t,ht⟩:∃ t,row[j]?=some t:=⟨_,R6 (by omega)⟩;obtain ⟨ta,Eg⟩:∃ ta,Ae[j]?=some ta:=⟨_,R6 (by omega)⟩;obtain ⟨t',Cs,AS⟩:=B9.get Eg;rw [ht] at Cs;cases Cs;obtain ⟨y1,y2,y3⟩:=qv (Q5 j t k ht hk);refine kZ ?_;have e0:(0+(j:Int))=((j:Nat):Int):=Yg _;dsimp only [aC];rw [e0];have FN:atI (Ar.map V.ref) ((j:Nat):Int)=some (.ref ka):=cT (by rw [So,Bb];rfl);have FO:atI (Ae.map V.ref) ((j:Nat):Int)=some (.ref ta):=cT (by rw [So,Eg];rfl);refine ⟨_,rfl,_,rfl,B',_,_,.ref ta,rfl,rfl,SqT.of (s3 _ _ D4),FO,_,rfl,b,_,1,.ref oa,rfl,rfl,SqT.of (s3 _ _ bk.bk),at1,_,rfl,b,_,3,.ref ra,rfl,rfl,SqT.of (s3 _ _ bk.bk),at3,ra,_,rfl,.inr (SqT.of (s3 _ _ bk.rl)),?_⟩;refine ⟨_,rfl,b,_,0,.ref ia,rfl,rfl,SqT.of (s3 _ _ bk.bk),at0,_,rfl,ia,_,_,.ref ka,rfl,rfl,SqT.of (s3 _ _ bk.inE),FN,ka,_,1,.int k.2,rfl,rfl,SqT.of (s3 _ _ ek),at1,?_⟩;rw [NZ];refine ⟨oa,ta,Ak,outs,t,(rows.length:Nat),k.2,rfl,SqT.of (s3 _ _ bk.outE),bk.outK.mono (Same.kt s3),Fz,AS.mono (Same.kt s3),by omega,(show t.tall<=22 by omega),fun H4 s4=>?_⟩;rw [y3];exact ⟨_,rfl,bo ⟨_,rfl,s3.trans s4⟩⟩
def tf (z:Ss):Prop:=∃ ins outs head rows,cI z ins outs head rows/\aK ins=true/\aK outs=true/\dY ins outs head rows
def og (K:R8):Sp:=fun vs H Q _=>∃ z:Ss,vs=[.str z]/\ox z/\(∀ ins outs head rows,cI z ins outs head rows->aK ins=true->aK outs=true->dY ins outs head rows->∀ (r:Sa) (H':Hp),L2.Same H H'->Bk H' ins outs head rows r->Q (.ref r) H')/\(¬ tf z->∀ H',L2.Same H H'->Q .non H')
theorem HeadOf.uniq {ws:List Ss} {t u:Th} (h:HeadOf ws t) (h':HeadOf ws u):t=u:=by
 obtain ⟨r,e,h1,h2⟩:=h;refine hid fun ZZ kZ=>?_;obtain ⟨r',e',h3,h4⟩:=h';refine kZ ?_;rw [e] at e';have:r=r':=(SH e').2;subst this;exact tq h2 h4 (Su (h1.symm.trans h3))
theorem rn {ins:List (Ss×Int)} {WR:List (List Ss)} (Ax:ins≠[]) {rows rows':List (List Th)} (h:fD ins rows WR) (h':fD ins rows' WR):rows=rows':=by
 have hn:0<ins.length:=T3.mpr Ax;have hl:rows.length=rows'.length:=Nat.eq_of_mul_eq_mul_right hn (h.len.symm.trans h'.len);refine Vr fun s=>?_;by_cases hs:s<rows.length
 · obtain ⟨row,Ac⟩:∃ row,rows[s]?=some row:=⟨_,R6 hs⟩;obtain ⟨Bh,Bn⟩:∃ row,rows'[s]?=some row:=⟨_,R6 (by omega)⟩;rw [Ac,Bn];have l1:=h.row row (Sd Ac);have l2:=h'.row Bh (Sd Bn);congr 1;refine Vr fun j=>?_;by_cases hj:j<ins.length
   · refine hid fun ZZ kZ=>?_;obtain ⟨t,ht⟩:∃ t,row[j]?=some t:=⟨_,R6 (by omega)⟩;obtain ⟨t',Cs⟩:∃ t,Bh[j]?=some t:=⟨_,R6 (by omega)⟩;obtain ⟨k,hk⟩:∃ k,ins[j]?=some k:=⟨_,R6 hj⟩;obtain ⟨ws,e1,r1,_⟩:=h.w s j row t k Ac ht hk;obtain ⟨Ay,e2,r2,_⟩:=h'.w s j Bh t' k Bn Cs hk;refine kZ ?_;rw [e1] at e2;cases e2;rw [ht,Cs,r1.uniq r2]
   · rw [Tx (by omega),Tx (by omega)]
 · rw [Tx (by omega),Tx (by omega)]
theorem uh {z:Ss} {ins outs ins' outs':List (Ss×Int)} {head head':Th} {rows rows':List (List Th)}:cI z ins outs head rows->cI z ins' outs' head' rows'->ins=ins'/\outs=outs'/\head=head'/\rows=rows'
 | ⟨r0,r1,r2,rest,e,h1,h2,h3,h4⟩,⟨LA,Dz,LC,C3,e',Bu,BD,JF,N0⟩=>by
   have e2:=e.symm.trans e';have x0:=(SH e2).1;have x1:=(SH (SH e2).2).1;have x2:=(SH (SH (SH e2).2).2).1;have x3:=(SH (SH (SH e2).2).2).2;rw [<- x0] at Bu;rw [<- x1] at BD;rw [<- x2] at JF;have ei:=KindsOf.uniq h1 Bu;rw [<- x3,<- ei] at N0
   have Ax:ins≠[]:=by
    match h1 with
    | ⟨rs,_,Q6,hp⟩=>exact fun z=>Q6 (S6.mp (by rw [SK hp,z];rfl))
   exact ⟨ei,KindsOf.uniq h2 BD,h3.uniq JF,rn Ax h4 N0⟩
set_option maxHeartbeats 1000000 in
theorem pf:bj P w K mg base CX0 9 T.g__law_told.f T.g__law_told.d ["text"] (og K):=by
 refine T.g__law_told.F.ok dM (fun vs H Q E h=>?_) (fun Aj A outer s H vs Q E hr h=>?_)
 · obtain ⟨z,rfl,_⟩:=h;rfl
 obtain ⟨z,rfl,hz,kq,kn⟩:=h
 refine ⟨_,(ad (ar (i:=1) dM.nd rfl (SG rfl) qG)
  (ad (wt (Ch:=T.e_BookError) (tb:=fun R=>(sk (uG (gU K T.e_NoText T.e_NoKinds T.e_NoBook) [] R (bZ (bN 0) eN)) (aC 1))) (ts:=(sk (tC .non) (aC 1))) (fun pins R=>(ag (ar (i:=1) dM.nd rfl (SG rfl) (vq (nj T) (hr.mono (by first | decide | omega)) rfl T.g_read_book.m T.g_read_book.F.kp T.g_read_book.b .nil (aa (pv 0) ac))))) (fun ea oe=>(ag (ar (i:=1) dM.nd rfl (SG rfl) qG))) rfl rfl rfl T.x_BookError)
  (ag (ax (pv 1))))),?_⟩
 try dsimp only [AM,Af]
 dsimp only [aC,wx,sk,tC,List.set]
 have bad:∀ ins outs head rows,cI z ins outs head rows->¬ (aK ins=true/\aK outs=true/\dY ins outs head rows)->¬ tf z:=fun ins outs head rows hb AJ hg=>by
  obtain ⟨i,o,hd,B0,BA,g1,g2,g3⟩:=hg;obtain ⟨rfl,rfl,rfl,rfl⟩:=uh hb BA;exact AJ ⟨g1,g2,g3⟩
 refine qW (fun AV c H2=>An4 (AV=[some (.str z),some .non]) (L2.Same H H2) ((c=.ref T.e_NoText∨c=.ref T.e_NoKinds∨c=.ref T.e_NoBook)) (¬ tf z)) (fun R' hR=>?_) ?_
 · refine ⟨_,rfl,z,rfl,hz,fun ins outs head rows hb gi go ok r H1 s1 hB=>?_,fun ins outs head rows hb AJ H1 s1=>?_,fun ins outs head rows hb gi go AJ H1 s1=>?_,fun AJ H1 s1=>?_⟩
   · exact ⟨_,rfl,kq ins outs head rows hb gi go ok r H1 s1 hB⟩
   · exact hR _ _ _ ⟨rfl,s1,.inr (.inl rfl),bad ins outs head rows hb fun g=>AJ ⟨g.1,g.2.1⟩⟩
   · exact hR _ _ _ ⟨rfl,s1,.inr (.inr rfl),bad ins outs head rows hb fun g=>AJ g.2.2⟩
   · exact hR _ _ _ ⟨rfl,s1,.inl rfl,fun ⟨i,o,hd,B0,BA,_⟩=>AJ i o hd B0 BA⟩
 · rintro AV c H2 ⟨rfl,s2,hc,Iv⟩;rcases hc with rfl | rfl | rfl
   · exact ⟨_,rfl,⟨T.X_NoText,T.hit_NoText_BookError⟩,⟨_,rfl,kn Iv H2 s2⟩⟩
   · exact ⟨_,rfl,⟨T.X_NoKinds,T.hit_NoKinds_BookError⟩,⟨_,rfl,kn Iv H2 s2⟩⟩
   · exact ⟨_,rfl,⟨T.X_NoBook,T.hit_NoBook_BookError⟩,⟨_,rfl,kn Iv H2 s2⟩⟩
theorem vf {k:Nat} {A:Tj} (hr:L2.Room k A):A.units+3<WC:=by
 have:=hr.units;omega
def cY (st:Int) (n:Ss) (t:Th):List Ss:=R4 "rule"::aS st::n::t.wP
def aU (ins outs:List (Ss×Int)) (head:Th) (rows:List (List Th)):List (List Ss):=(R4 "in"::ins.map bg)::(R4 "out"::outs.map bg)::(R4 "head"::head.wP)::dJ cY ins rows
theorem qF (ins:List (Ss×Int)) (rows:List (List Th)):dB ins rows rows.length=dJ jv ins rows:=by
 unfold dB dJ nh;rw [S7 (by rw [List.length_zipIdx];exact Sg _)]
theorem fJ:Uw (R4 "in")/\Uw (R4 "out")/\Uw (R4 "head")/\Uw (R4 "rule"):=by
 refine ⟨.inr ?_,.inr ?_,.inr ?_,.inr ?_⟩ <;> decide +kernel
theorem pq {k:Ss×Int} (h:bY k):Uw (bg k):=by
 obtain ⟨h1,h2⟩:=fh h.1;obtain ⟨h3,h4⟩:=eB h.2;refine .inr ⟨fun c hc=>?_,by rw [dw];simp⟩;rw [dw] at hc;rcases Sv.mp hc with hc | hc
 · have:=h1 c hc;omega
 · rcases Sn.mp hc with rfl | hc
   · omega
   · have:=h3 c hc;omega
theorem iY {ws:List Ss}:(ws.map sL).map ofL=ws:=by
 rw [T8]
 conv=>rhs;rw [<- List.map_id ws]
 exact Ut fun x _=>pe x
theorem qE {α:Type} (l:List α):(l.map fun x=>[x]).flatten=l:=by
 induction l with
 | nil=>rfl
 | cons x l ih=>rw [Sl,SJ,ih];rfl
theorem uO {ws:List Ss} (h:∀ w∈ws,Uw w):wds (jn (ws.map sL))=ws.map sL:=by
 rw [vn,T8]
 have:ws.map (wds ∘ sL)=(ws.map sL).map fun x=>[x]:=by
  rw [T8];exact Ut fun x hx=>wR (h x hx)
 rw [this,qE]
theorem zb {ws:List Ss} (h:∀ w∈ws,Uw w):W4 (jn (ws.map sL))=ws.map sL:=by
 rw [xo,T8]
 have:ws.map (W4 ∘ sL)=(ws.map sL).map fun x=>[x]:=by
  rw [T8];exact Ut fun x hx=>ly (h x hx)
 rw [this,qE]
theorem pE {ws:List Ss} (h:∀ w∈ws,Uw w):dF (jn (ws.map sL))=ws:=by
 unfold dF;rw [uO h,iY]
theorem xn {ws:List Ss} (h:∀ w∈ws,Uw w):pw ws=ws:=by
 unfold pw;rw [zb h,iY]
theorem lK {w:Ss} (hw:Uw w) {ks:List (Ss×Int)} (h:∀ k∈ks,bY k):nu false (bd w ks)=w::ks.map bg:=by
 unfold nu;rw [if_neg Sz,show sL (bd w ks)=jn ((w::ks.map bg).map sL) from eI _,uO,iY];intro x hx;rcases Sn.mp hx with rfl | hx
 · exact hw
 · obtain ⟨k,hk,rfl⟩:=TC.mp hx;exact pq (h k hk)
theorem sF (t:Th):sL (gb t)=sL (R4 "head")++32::t.tx:=by
 unfold gb;rw [cW,sV,show sL (R4 "head ")=sL (R4 "head")++[32] by decide +kernel,SO];rfl
theorem sY (st:Int) (n:Ss) (t:Th):sL (jv st n t)=sL (R4 "rule")++32::(sL (aS st)++32::(sL n++32::t.tx)):=by
 unfold jv;rw [cW,cW,cW,cW,cW,sV,show sL (R4 "rule ")=sL (R4 "rule")++[32] by decide +kernel,show sL blank=[32] by decide +kernel];simp
theorem um {t:Th} (h:t.Wr):nu true (gb t)=R4 "head"::t.wP:=by
 unfold nu;rw [if_pos rfl,sF,mw,ly fJ.2.2.1,xj h];show (([R4 "head"]++t.wP).map sL |>.map ofL)=_;rw [iY];rfl
theorem ub {st:Int} (hs:0<=st/\st<1000) {n:Ss} (hn:aP n=true) {t:Th} (h:t.Wr):nu true (jv st n t)=cY st n t:=by
 unfold nu;rw [if_pos rfl,sY,mw,mw,mw,ly fJ.2.2.2,ly (oF hs),ly (o6 hn),xj h];show ((cY st n t).map sL).map ofL=_;rw [iY]
theorem mP {ins outs:List (Ss×Int)} {head:Th} {rows:List (List Th)} (ok:lF ins outs head rows):∀ (j:Nat) (z:Ss),(fR ins outs head rows)[j]?=some z->(aU ins outs head rows)[j]?=some (nu (decide (1<j)) z)/\Pl z/\z.length<=20000:=by
 have pk:∀ {w:Ss} {ks:List (Ss×Int)},Uw w->w.length<=10->(∀ k∈ks,bY k)->ks.length<=8->Pl (bd w ks)/\(bd w ks).length<=20000:=fun {w ks} hw Ma h h8=>by
  refine ⟨fun c hc=>?_,by have:=ky h Ma h8;omega⟩;rw [show sL (bd w ks)=jn ((w::ks.map bg).map sL) from eI _] at hc;rcases rR hc with rfl | ⟨l,hl,Bc⟩
  · exact .inl rfl
  · obtain ⟨x,hx,rfl⟩:=TC.mp hl
    have hu:Uw x:=by
     rcases Sn.mp hx with rfl | hx
     · exact hw
     · obtain ⟨k,hk,rfl⟩:=TC.mp hx;exact pq (h k hk)
    have:=(lG hu).1 c Bc;exact .inr (by omega)
 intro j z hz;unfold fR at hz
 match j with
 | 0 =>
   cases hz;exact ⟨congrArg some (lK fJ.1 ok.gi).symm,pk fJ.1 (by decide +kernel) ok.gi ok.i8⟩
 | 1 =>
   cases hz;exact ⟨congrArg some (lK fJ.2.1 ok.go).symm,pk fJ.2.1 (by decide +kernel) ok.go ok.o8⟩
 | 2 =>
   cases hz;refine ⟨congrArg some (um ok.hd.1).symm,fun c hc=>?_,?_⟩
   · rw [sF] at hc;rcases Sv.mp hc with hc | hc
     · have:=(lG fJ.2.2.1).1 c hc;exact .inr (by omega)
     · rcases Sn.mp hc with rfl | hc
       · exact .inl rfl
       · have:=vJ ok.hd.1 c hc;exact .inr (by omega)
   · have:=lL ok.hd.1 ok.hd.2.2;unfold gb;rw [SN];show 5+(head.fill cr).show.length<=20000;omega
 | j+3 =>
   have Bv:(dJ jv ins rows)[j]?=some z:=by rw [<- qF];exact hz
   have BC:∀ row∈rows,row.length=ins.length:=fun row hr=>(ok.row row hr).1
   have hn:0<ins.length:=by
    cases Cu:ins with
    | nil =>
      have h1:=(Sj.mp Bv).1;rw [dS BC,Cu,UB,Nat.mul_zero] at h1;omega
    | cons a b=>rw [R7];omega
   refine hid fun ZZ kZ=>?_;obtain ⟨row,t,k,h1,h2,h3,rfl⟩:=l9 BC hn Bv;have hs:=(Sj.mp h1).1;have Er:=ok.few;obtain ⟨w1,w2,w3⟩:=(ok.row row (Sd h1)).2 t (Sd h2);refine kZ ?_;have Mb:=(ok.gi k (Sd h3)).1;have AI:0<=((j / ins.length:Nat):Int)/\((j / ins.length:Nat):Int)<1000:=⟨Int.natCast_nonneg _,Int.ofNat_lt.mpr (S8 hs (TF Er (by decide)))⟩;have hg:=gM (f:=cY) BC h1 h2 h3;rw [VG,Xj] at hg;refine ⟨?_,fun c hc=>?_,?_⟩
   · show (dJ cY ins rows)[j]?=_;rw [hg,decide_eq_true (show 1<j+3 by omega),ub AI Mb w1]
   · rw [sY] at hc;rcases Sv.mp hc with hc | hc
     · have:=(lG fJ.2.2.2).1 c hc;exact .inr (by omega)
     rcases Sn.mp hc with rfl | hc
     · exact .inl rfl
     rcases Sv.mp hc with hc | hc
     · have:=(eB AI).1 c hc;exact .inr (by omega)
     rcases Sn.mp hc with rfl | hc
     · exact .inl rfl
     rcases Sv.mp hc with hc | hc
     · have:=(fh Mb).1 c hc;exact .inr (by omega)
     rcases Sn.mp hc with rfl | hc
     · exact .inl rfl
     · have:=vJ w1 c hc;exact .inr (by omega)
   · have l1:=lL w1 w3;have l2:=bO AI;have l3:=(cK Mb).2.1;unfold jv;rw [SN,SN,SN,SN,SN];show 5+(aS ((j / ins.length:Nat):Int)).length+1+k.1.length+1+(t.fill cr).show.length<=20000;omega
theorem lA {ins outs:List (Ss×Int)} {head:Th} {rows:List (List Th)} (h:∀ row∈rows,row.length=ins.length):(fR ins outs head rows).length=(aU ins outs head rows).length:=by
 unfold fR aU;rw [qF];simp only [Sm,R7,UB,dS h];omega
def cE (z:Ss) (WS:List (List Ss)):Prop:=aF 10 (sL z)=WS.map fun ws=>jn (ws.map sL)
theorem lN {z:Ss} {WS:List (List Ss)} (hz:cE z WS) (hu:∀ ws∈WS,∀ w∈ws,Uw w) {ins outs:List (Ss×Int)} {head:Th} {rows:List (List Th)} (h:cI z ins outs head rows):WS=aU ins outs head rows/\(∀ k∈ins,bY k)/\(∀ k∈outs,bY k)/\head.Wr/\(∀ row∈rows,row.length=ins.length/\∀ t∈row,t.Wr):=by
 have kinds:∀ {f:Ss} {ws:List Ss} {ks:List (Ss×Int)},KindsOf f ws ks->ws=f::ks.map bg/\∀ k∈ks,bY k:=fun {f ws ks} hk=>by
  match hk with
  | ⟨rest,e,_,hp⟩ =>
    have:∀ {l:List Ss} {ks:List (Ss×Int)},To KdOf l ks->l=ks.map bg/\∀ k∈ks,bY k:=fun {l ks} hp=>by
     induction hp with
     | nil=>exact ⟨rfl,fun k hk=>by cases hk⟩
     | cons a t ih =>
       refine ⟨by rw [Sl,<- ih.1,a.1],fun k hk=>?_⟩;rcases Sn.mp hk with rfl | hk
       · exact a.2
       · exact ih.2 k hk
    rw [e,(this hp).1];exact ⟨rfl,(this hp).2⟩
 match h with
 | ⟨r0,r1,r2,rest,e,h1,h2,h3,h4⟩ =>
   unfold cE at hz;rw [e] at hz
   match WS,hz,hu with
   | [],hz,_=>cases hz
   | [_],hz,_=>cases hz
   | [_,_],hz,_=>cases hz
   | w0::w1::w2::WR,hz,hu =>
     rw [Sl,Sl,Sl] at hz;have x0:=(SH hz).1;have x1:=(SH (SH hz).2).1;have x2:=(SH (SH (SH hz).2).2).1;have x3:=(SH (SH (SH hz).2).2).2;have Q7:=hu w0 (by simp);have Q8:=hu w1 (by simp);have N1:=hu w2 (by simp);have N2:∀ ws∈WR,∀ w∈ws,Uw w:=fun ws AH=>hu ws (by simp [AH]);rw [x0,pE Q7] at h1;rw [x1,pE Q8] at h2;rw [x2,pE N1] at h3
     have Gv:rest.map dF=WR:=by
      rw [x3,T8]
      conv=>rhs;rw [<- List.map_id WR]
      exact Ut fun ws AH=>pE (N2 ws AH)
     rw [Gv] at h4;refine hid fun ZZ kZ=>?_;obtain ⟨k0,k1⟩:=kinds h1;obtain ⟨k2,k3⟩:=kinds h2
     have pat:∀ {ws:List Ss} {t:Th},(∀ w∈ws,Uw w)->iR (pw ws) t->ws=t.wP/\t.Wr:=fun {ws t} hw hp=>by
      rw [xn hw] at hp;obtain ⟨a,b,_⟩:=nJ.mp hp;exact ⟨a,xH b⟩
     obtain ⟨hr,e3,Q9⟩:=h3;obtain ⟨p0,p1⟩:=pat (fun w hw=>N1 w (by rw [e3];exact Sk _ hw)) Q9;refine kZ ?_
     have rule:∀ {st:Int} {n:Ss} {ws:List Ss} {t:Th},(∀ w∈ws,Uw w)->RuleOf st n ws t->ws=cY st n t/\t.Wr:=fun {st n ws t} hw hp=>by
      match hp with
      | ⟨r,e,_,_,hp⟩ =>
        obtain ⟨a,b⟩:=pat (fun w Hv=>hw w (by rw [e];simp [Hv])) hp;exact ⟨by rw [e,a];rfl,b⟩
     have N3:∀ {i:Nat} {ws:List Ss},WR[i]?=some ws->∀ w∈ws,Uw w:=fun hi=>N2 _ (Sd hi)
     have Aq:∀ row∈rows,row.length=ins.length/\∀ t∈row,t.Wr:=fun row Ac=>by
      refine ⟨h4.row row Ac,fun t ht=>?_⟩;obtain ⟨s,hs⟩:=SV.mp Ac;obtain ⟨j,hj⟩:=SV.mp ht;have Dw:=(Sj.mp hj).1;rw [h4.row row Ac] at Dw;obtain ⟨ws,AH,BC,_⟩:=h4.w s j row t _ hs hj (R6 Dw);exact (rule (N3 AH) BC).2
     refine ⟨?_,k1,k3,p1,Aq⟩;have BC:∀ row∈rows,row.length=ins.length:=fun row hr=>(Aq row hr).1;unfold aU;rw [k0,k2,e3,p0];congr 3;refine Vr fun i=>?_;by_cases hi:i<WR.length
     · have Bo:i<rows.length * ins.length:=by rw [<- h4.len];exact hi
       have hn:0<ins.length:=by
        cases Cu:ins with
        | nil=>rw [Cu,UB,Nat.mul_zero] at Bo;omega
        | cons a b=>rw [R7];omega
       have hs:i / ins.length<rows.length:=Xy (by rw [VG];exact Bo);have hj:i%ins.length<ins.length:=Nat.mod_lt _ hn;refine hid fun ZZ kZ=>?_;obtain ⟨row,Ac⟩:∃ row,rows[i / ins.length]?=some row:=⟨_,R6 hs⟩;have Iw:=BC row (Sd Ac);obtain ⟨t,ht⟩:∃ t,row[i%ins.length]?=some t:=⟨_,R6 (by omega)⟩;obtain ⟨k,hk⟩:∃ k,ins[i%ins.length]?=some k:=⟨_,R6 hj⟩;obtain ⟨ws,AH,HV,_⟩:=h4.w _ _ row t k Ac ht hk;refine kZ ?_;have hg:=gM (f:=cY) BC Ac ht hk;have Lc:i / ins.length * ins.length+i%ins.length=i:=by rw [VG,Xj]
       rw [Lc] at hg AH;rw [hg,AH,(rule (N3 AH) HV).1]
     · rw [Tx (by omega),Tx (by rw [dS BC,<- h4.len];omega)]
theorem jY {n:Ss} (h:okW n) (h8:n.length<=8):aP n=true:=by
 have h0:=h.2;unfold aP low;rw [decide_eq_true (show 1<=n.length/\n.length<=8 from ⟨by omega,h8⟩),Vt,Tv];exact fun c hc=>decide_eq_true (h.1 c hc)
mutual
theorem vc {outs:List (Ss×Int)} {S C:Int} (g:GK outs) (hS:S<=10) (hC:C<=10):∀ {t:Th},t.FitS outs S C->t.Rd
 | .call s k,h=>by rw [Th.FitS] at h;rw [Th.Rd];exact ⟨h.1,by omega,h.2.2.1,by omega⟩
 | .knot n ts,h=>by
   rw [Th.FitS] at h;rw [Th.Rd];exact ⟨g.2.1 _ h.1,(g.1.low _ h.1).2,uE g hS hC h.2⟩
theorem uE {outs:List (Ss×Int)} {S C:Int} (g:GK outs) (hS:S<=10) (hC:C<=10):∀ {ts:List Th},FitSs outs S C ts->Rds ts
 | [],_=>by rw [Rds];trivial
 | t::ts,h=>by
   rw [FitSs] at h;rw [Rds];exact ⟨vc g hS hC h.1,uE g hS hC h.2⟩
end
mutual
theorem sP {outs:List (Ss×Int)} {S C:Int} (hS:S<=20) (hC:C<=3):∀ {t:Th},t.FitS outs S C->t.FitP outs
 | .call s k,h=>by rw [Th.FitS] at h;rw [Th.FitP];exact ⟨h.1,by omega,h.2.2.1,by omega⟩
 | .knot n ts,h=>by
   rw [Th.FitS] at h;rw [Th.FitP];exact ⟨h.1,qi hS hC h.2⟩
theorem qi {outs:List (Ss×Int)} {S C:Int} (hS:S<=20) (hC:C<=3):∀ {ts:List Th},FitSs outs S C ts->mW outs ts
 | [],_=>by rw [mW];trivial
 | t::ts,h=>by
   rw [FitSs] at h;rw [mW];exact ⟨sP hS hC h.1,qi hS hC h.2⟩
end
mutual
theorem cn3 {outs:List (Ss×Int)} {S C:Int} (g:iZ outs):∀ {t:Th},t.FitS outs S C->cnT t<=3 ^ t.tall/\t.kn<=t.size
 | .call s k,_=>by rw [cnT,Th.tall,Th.kn,Th.size];exact ⟨by decide,by omega⟩
 | .knot n ts,h=>by
   rw [Th.FitS] at h;obtain ⟨h1,h2⟩:=yK g h.2;have hn:=(g.num _ h.1).2;rw [cnT,Th.tall,Th.kn,Th.size];refine ⟨?_,by omega⟩;have h3:ts.length * 3 ^ ba ts<=3 * 3 ^ ba ts:=VN _ (by omega);rw [Nat.pow_succ,VG];omega
theorem yK {outs:List (Ss×Int)} {S C:Int} (g:iZ outs):∀ {ts:List Th},FitSs outs S C ts->dG ts<=ts.length * 3 ^ ba ts/\kns ts<=aE ts
 | [],_=>by rw [dG,kns];exact ⟨Td _,Td _⟩
 | t::ts,h=>by
   rw [FitSs] at h;obtain ⟨h1,h2⟩:=cn3 g h.1;obtain ⟨h3,h4⟩:=yK g h.2;rw [dG,kns,aE,ba,R7,U7];have h5:3 ^ t.tall<=3 ^ (max t.tall (ba ts)):=Vo (by decide) (Nat.le_max_left ..);have h6:3 ^ ba ts<=3 ^ (max t.tall (ba ts)):=Vo (by decide) (Nat.le_max_right ..);have h7:ts.length * 3 ^ ba ts<=ts.length * 3 ^ (max t.tall (ba ts)):=VX _ h6;exact ⟨by omega,by omega⟩
end
theorem jp {outs:List (Ss×Int)} {S C:Int} (g:GK outs) (hS:S<=20) (hC:C<=3) {t:Th} (h:t.FitS outs S C) (ht:t.tall<=4):j4 outs S C t/\t.size<=256:=by
 obtain ⟨h1,h2⟩:=cn3 g.1 h;have h3:=lw g.1 (sP hS hC h);have h4:4 ^ t.tall<=4 ^ 4:=Vo (by decide) ht;have h5:3 ^ t.tall<=3 ^ 4:=Vo (by decide) ht;have h6:(4:Nat) ^ 4=256:=by decide
 have h7:(3:Nat) ^ 4=81:=by decide
 exact ⟨⟨⟨by omega,by omega,by omega⟩,qc g.2.2 h⟩,by omega⟩
theorem qb {ks:List (Ss×Int)} (g:GK ks):aK ks=true/\∀ k∈ks,bY k:=by
 have hk:∀ k∈ks,aP k.1=true/\0<=k.2/\k.2<=3:=fun k hk=>⟨jY (g.2.1 k hk) (g.1.low k hk).2,(g.1.num k hk).1,(g.1.num k hk).2⟩;refine ⟨?_,fun k h=>⟨(hk k h).1,(hk k h).2.1,by have:=(hk k h).2.2;omega⟩⟩;unfold aK;have h1:=g.1.ne;have h2:=g.1.le;obtain ⟨k0,CL,hz⟩:=g.1.zero;rw [decide_eq_true (show 1<=ks.length/\ks.length<=8 from ⟨h1,by omega⟩),decide_eq_true g.2.2,decide_eq_true (TC.mpr ⟨k0,CL,hz⟩),Vt,Bool.and_true,Bool.and_true,Tv];intro k Dy;unfold cG;rw [(hk k Dy).1,decide_eq_true (show 0<=k.2/\k.2<4 from ⟨(hk k Dy).2.1,by have:=(hk k Dy).2.2;omega⟩)];rfl
theorem wb {ins outs:List (Ss×Int)} {head:Th} {rows:List (List Th)} (B:xX ins outs head rows):dY ins outs head rows:=by
 have hf:=B.few;refine ⟨by omega,(jp B.go (by omega) (by decide) B.hd.1 B.hd.2).1,fun row Ac=>?_⟩;obtain ⟨h1,h2⟩:=B.row row Ac;refine ⟨h1,fun j t k ht hk=>?_⟩;have h3:=h2 j t k ht hk;exact (jp B.go (by omega) (B.gi.1.num k (Sd hk)).2 h3.1 h3.2).1
mutual
theorem ie:∀ {t:Th},t.Rd->t.Wr
 | .call s k,h=>by rw [Th.Rd] at h;rw [Th.Wr];exact ⟨⟨h.1,by omega⟩,h.2.2.1,by omega⟩
 | .knot n ts,h=>by rw [Th.Rd] at h;rw [Th.Wr];exact ⟨jY h.1 h.2.1,vt h.2.2⟩
theorem vt:∀ {ts:List Th},Rds ts->Wrs ts
 | [],_=>by rw [Wrs];trivial
 | t::ts,h=>by rw [Rds] at h;rw [Wrs];exact ⟨ie h.1,vt h.2⟩
end
theorem gf:lpar.length=1/\rpar.length=1/\comma.length=1/\dot.length=1:=by decide +kernel
mutual
/-- only names have more Ra one sign -/
theorem li:∀ {t:Th},t.Rd->∀ w∈t.wP,1<w.length->aP w=true
 | .call s k,h,w,hw,hl=>by
   rw [Th.Rd] at h;have hw:w∈[aS s,dot,aS k]:=by rw [Th.wP,Th.stP] at hw;exact hw
   exfalso;rcases Sn.mp hw with rfl | hw
   · rw [<- bV,mG h.1 h.2.1] at hl;exact absurd (show 1<1 from hl) (by decide)
   rcases Sn.mp hw with rfl | hw
   · rw [gf.2.2.2] at hl;omega
   · rw [Sy.mp hw,<- bV,mG h.2.2.1 h.2.2.2] at hl;exact absurd (show 1<1 from hl) (by decide)
 | .knot n ts,h,w,hw,hl=>by
   rw [Th.Rd] at h;rw [Th.wP,Th.stP] at hw;rw [Sl,SJ] at hw;rcases Sv.mp hw with hw | hw
   · rw [Sy.mp hw];exact jY h.1 h.2.1
   · by_cases hz:ts=[]
     · rw [if_pos hz] at hw;cases hw
     · rw [if_neg hz,Sl,SJ,Sq,TQ] at hw;rcases Sv.mp hw with hw | hw
       · rw [Sy.mp hw,gf.1] at hl;omega
       · rcases Sv.mp hw with hw | hw
         · exact qo h.2.2 w hw hl
         · have hw:w∈[rpar]:=hw;rw [Sy.mp hw,gf.2.1] at hl;omega
theorem qo:∀ {ts:List Th},Rds ts->∀ w∈((cw ts).map (·.1)).flatten,1<w.length->aP w=true
 | [],_,w,hw,_=>by rw [cw] at hw;cases hw
 | t::ts,h,w,hw,hl=>by
   rw [Rds] at h;rw [cw,Sq,TQ] at hw;rcases Sv.mp hw with hw | hw
   · exact li h.1 w hw hl
   · by_cases hz:ts=[]
     · rw [if_pos hz] at hw;cases hw
     · rw [if_neg hz,Sl,SJ] at hw;rcases Sv.mp hw with hw | hw
       · rw [Sy.mp hw,gf.2.2.1] at hl;omega
       · exact qo h.2 w hw hl
end
def wsum (ws:List Ss):Nat:=(ws.map (·.length)).sum+ws.length
theorem cU (a b:List Ss):wsum (a++b)=wsum a+wsum b:=by
 unfold wsum;rw [Sq,List.sum_append,Sm];omega
theorem bt (x:Ss) (a:List Ss):wsum (x::a)=x.length+1+wsum a:=by
 unfold wsum;rw [Sl,Uj,R7];omega
theorem d7:wsum []=0:=rfl
mutual
theorem oW:∀ {t:Th},t.Wr->wsum t.wP+2<=15 * t.size/\t.wP≠[]
 | .call s k,h=>by
   rw [Th.Wr] at h;have h1:=bO h.1;have h2:=bO h.2;have h3:=gf.2.2.2;have e:(Th.call s k).wP=[aS s,dot,aS k]:=by rw [Th.wP,Th.stP];rfl
   rw [e,bt,bt,bt,d7,Th.size];exact ⟨by omega,by simp⟩
 | .knot n ts,h=>by
   rw [Th.Wr] at h;have h1:=(cK h.1).2.1;refine hid fun ZZ kZ=>?_;obtain ⟨g1,g2,g3,g4⟩:=gf;refine kZ ?_;rw [Th.wP,Th.stP,Sl,SJ,cU,bt,d7,Th.size];by_cases hz:ts=[]
   · rw [if_pos hz];show n.length+1+0+wsum []+2<=_/\_;rw [d7];exact ⟨by omega,by simp⟩
   · rw [if_neg hz,Sl,SJ,Sq,TQ,cU,cU];have h2:=sG h.2;show n.length+1+0+(wsum [lpar]+(wsum ((cw ts).map (·.1)).flatten+wsum [rpar]))+2<=_/\_;rw [bt,d7,bt,d7];exact ⟨by omega,by simp⟩
theorem sG:∀ {ts:List Th},Wrs ts->wsum ((cw ts).map (·.1)).flatten<=15 * aE ts
 | [],_=>by rw [cw];exact Td _
 | t::ts,h=>by
   rw [Wrs] at h;rw [cw,Sq,TQ,cU,aE];have h1:wsum ((t.stP.map (·.1)).flatten)+2<=15 * t.size:=(oW h.1).1;have h2:=sG h.2;by_cases hz:ts=[]
   · rw [if_pos hz];show wsum ((t.stP.map (·.1)).flatten)+wsum []<=_;rw [d7];omega
   · rw [if_neg hz,Sl,SJ,cU];show _+(wsum [comma]+_)<=_;rw [bt,d7,gf.2.2.1];omega
end
structure Dr (ins outs:List (Ss×Int)) (head:Th) (rows:List (List Th)):Prop where
 gi:∀ k∈ins,bY k
 go:∀ k∈outs,bY k
 ine:ins≠[]
 one:outs≠[]
 i8:ins.length<=8
 o8:outs.length<=8
 ki:aK ins=true
 ko:aK outs=true
 ok:dY ins outs head rows
 few:rows.length<=4
 hd:head.Rd/\head.tall<=4/\head.size<=256
 row:∀ row∈rows,row.length=ins.length/\∀ t∈row,t.Rd/\t.tall<=4/\t.size<=256
theorem yG {ins outs:List (Ss×Int)} {head:Th} {rows:List (List Th)} (B:xX ins outs head rows):Dr ins outs head rows:=by
 have hf:=B.few;obtain ⟨a1,a2⟩:=qb B.gi;obtain ⟨b1,b2⟩:=qb B.go;have hle:∀ {ks:List (Ss×Int)},GK ks->ks.length<=8/\ks≠[]:=fun {ks} g=>⟨by have:=g.1.le;omega,fun z=>by have:=g.1.ne;rw [z] at this;exact absurd this (by decide)⟩;refine ⟨a2,b2,(hle B.gi).2,(hle B.go).2,(hle B.gi).1,(hle B.go).1,a1,b1,wb B,hf,⟨vc B.go (by omega) (by decide) B.hd.1,B.hd.2,(jp B.go (by omega) (by decide) B.hd.1 B.hd.2).2⟩,fun row hr=>?_⟩;obtain ⟨h1,h2⟩:=B.row row hr;refine ⟨h1,fun t ht=>?_⟩;obtain ⟨j,hj⟩:=SV.mp ht;have Dw:=(Sj.mp hj).1;obtain ⟨k,hk⟩:∃ k,ins[j]?=some k:=⟨_,R6 (by omega)⟩;have h3:=h2 j t k hj hk;have hn:=(B.gi.1.num k (Sd hk)).2;exact ⟨vc B.go (by omega) (by omega) h3.1,h3.2,(jp B.go (by omega) hn h3.1 h3.2).2⟩
theorem Dr.show {ins outs:List (Ss×Int)} {head:Th} {rows:List (List Th)} (D:Dr ins outs head rows):lF ins outs head rows :=
 ⟨D.gi,D.go,D.i8,D.o8,by have:=D.few;omega,fun row hr=>⟨(D.row row hr).1,fun t ht=>by have:=(D.row row hr).2 t ht;exact ⟨ie this.1,by omega,by omega⟩⟩,ie D.hd.1,by have:=D.hd.2;omega,by have:=D.hd.2;omega⟩
section
variable {ins outs:List (Ss×Int)} {head:Th} {rows:List (List Th)}
theorem Dr.rl (D:Dr ins outs head rows):∀ row∈rows,row.length=ins.length:=fun row hr=>(D.row row hr).1
theorem Dr.n0 (D:Dr ins outs head rows):0<ins.length:=T3.mpr D.ine
theorem Dr.rule (D:Dr ins outs head rows) {i:Nat} {ws:List Ss} (h:(dJ cY ins rows)[i]?=some ws):∃ t k,ins[i%ins.length]?=some k/\ws=cY ((i / ins.length:Nat):Int) k.1 t/\t.Rd/\t.size<=256/\t.tall<=4/\(0<=((i / ins.length:Nat):Int)/\((i / ins.length:Nat):Int)<10)/\bY k:=by
 refine hid fun ZZ kZ=>?_;obtain ⟨row,t,k,h1,h2,h3,rfl⟩:=l9 D.rl D.n0 h;have hs:=(Sj.mp h1).1;have hf:=D.few;obtain ⟨t1,t2,t3⟩:=(D.row row (Sd h1)).2 t (Sd h2);refine kZ ?_;exact ⟨t,k,h3,rfl,t1,t3,t2,⟨Int.natCast_nonneg _,Int.ofNat_lt.mpr (S8 hs (TF hf (by decide)))⟩,D.gi k (Sd h3)⟩
theorem wg {st:Int} (hs:0<=st/\st<1000) {n:Ss} (hn:aP n=true) {t:Th} (h:t.Wr):∀ w∈cY st n t,Uw w:=fun w hw=>by
 rcases Sn.mp hw with rfl | hw
 · exact fJ.2.2.2
 rcases Sn.mp hw with rfl | hw
 · exact oF hs
 rcases Sn.mp hw with rfl | hw
 · exact o6 hn
 · exact sU h w hw
theorem Dr.uw (D:Dr ins outs head rows):∀ i ws,(aU ins outs head rows)[i]?=some ws->(∀ w∈ws,Uw w)/\wsum ws<=4000/\(i<2->wsum ws<=1000):=by
 have kd:∀ {f:Ss} {ks:List (Ss×Int)},Uw f->f.length<=4->(∀ k∈ks,bY k)->ks.length<=8->(∀ w∈f::ks.map bg,Uw w)/\wsum (f::ks.map bg)<=1000:=fun {f ks} hf h4 hk h8=>by
  refine ⟨fun w hw=>?_,?_⟩
  · rcases Sn.mp hw with rfl | hw
    · exact hf
    · obtain ⟨k,Dy,rfl⟩:=TC.mp hw;exact pq (hk k Dy)
  · have h1:∀ l:List (Ss×Int),(∀ k∈l,bY k)->wsum (l.map bg)<=13 * l.length:=fun l hl=>by
     induction l with
     | nil=>exact Td _
     | cons k l ih =>
       rw [Sl,bt,R7];have a:=iL (hl k (Sr ..));have b:=ih fun k' h'=>hl k' (Sk _ h');omega
    have h2:=h1 ks hk;rw [bt];omega
 intro i ws hi
 match i with
 | 0 =>
   cases hi;obtain ⟨a,b⟩:=kd fJ.1 (by decide +kernel) D.gi D.i8;exact ⟨a,by omega,fun _=>b⟩
 | 1 =>
   cases hi;obtain ⟨a,b⟩:=kd fJ.2.1 (by decide +kernel) D.go D.o8;exact ⟨a,by omega,fun _=>b⟩
 | 2 =>
   cases hi;have h1:=(oW (ie D.hd.1)).1;have h2:=D.hd.2.2;have h3:(R4 "head").length=4:=by decide +kernel
   refine ⟨fun w hw=>?_,by rw [bt];omega,fun z=>absurd z (by omega)⟩;rcases Sn.mp hw with rfl | hw
   · exact fJ.2.2.1
   · exact sU (ie D.hd.1) w hw
 | i+3 =>
   refine hid fun ZZ kZ=>?_;obtain ⟨t,k,hk,rfl,t1,t2,t3,hs,CJ⟩:=D.rule (i:=i) hi;refine kZ ?_;have h1:=(oW (ie t1)).1;have h3:(R4 "rule").length=4:=by decide +kernel
   have h4:=bO (n:=((i / ins.length:Nat):Int)) ⟨hs.1,by omega⟩;have h5:=(cK CJ.1).2.1;exact ⟨wg ⟨hs.1,by omega⟩ CJ.1 (ie t1),by unfold cY;rw [bt,bt,bt];omega,fun z=>absurd z (by omega)⟩
theorem pG {t:Th} (h:t.Wr) (ht:t.tall<=101):iR (pw t.wP) t:=by
 rw [xn (sU h)];exact nJ.mpr ⟨rfl,xO h,ht⟩
theorem fk {f:Ss} {ks:List (Ss×Int)} (h:∀ k∈ks,bY k) (Ax:ks≠[]):KindsOf f (f::ks.map bg) ks:=by
 refine ⟨ks.map bg,rfl,fun z=>Ax (XJ.mp z),?_⟩;clear Ax;induction ks with
 | nil=>exact .nil
 | cons k ks ih=>exact .cons ⟨rfl,h k (Sr ..)⟩ (ih fun x hx=>h x (Sk _ hx))
theorem Dr.book (D:Dr ins outs head rows) {z:Ss} (hz:cE z (aU ins outs head rows)):cI z ins outs head rows:=by
 have hu:∀ {i:Nat} {ws:List Ss},(aU ins outs head rows)[i]?=some ws->dF (jn (ws.map sL))=ws:=fun hi=>pE (D.uw _ _ hi).1;refine ⟨jn ((R4 "in"::ins.map bg).map sL),jn ((R4 "out"::outs.map bg).map sL),jn ((R4 "head"::head.wP).map sL),(dJ cY ins rows).map fun (ws:List Ss)=>jn (ws.map sL),hz,?_,?_,?_,?_⟩
 · rw [hu (i:=0) rfl];exact fk D.gi D.ine
 · rw [hu (i:=1) rfl];exact fk D.go D.one
 · rw [hu (i:=2) rfl];exact ⟨_,rfl,pG (ie D.hd.1) (by have:=D.hd.2.1;omega)⟩
 · have e:((dJ cY ins rows).map fun ws=>jn (ws.map sL)).map dF=dJ cY ins rows:=by
    rw [T8]
    conv=>rhs;rw [<- List.map_id (dJ cY ins rows)]
    refine Ut fun ws AH=>?_;obtain ⟨i,hi⟩:=SV.mp AH;exact hu (i:=i+3) hi
   rw [e];refine ⟨dS D.rl,D.rl,fun s j row t k hs hj hk=>?_⟩;have hg:=gM (f:=cY) D.rl hs hj hk;have CG:=(Sj.mp hs).1;have hf:=D.few;obtain ⟨t1,t2,t3⟩:=(D.row row (Sd hs)).2 t (Sd hj);exact ⟨_,hg,⟨t.wP,rfl,(oW (ie t1)).2,⟨by omega,by omega⟩,pG (ie t1) (by omega)⟩,by omega⟩
end
def jL:List (List Nat)->List Nat
 | []=>[]
 | [x]=>x
 | x::y::r=>x++10::jL (y::r)
theorem ux:sL fN=[10]:=by decide +kernel
theorem wZ:∀ ws:List Ss,sL (Tg fN ws)=jL (ws.map sL):=by
 intro ws;have h1:Tg fN ws=V1 fN ws:=PySem.StrLaws.glued_eq_join _ _;rw [h1];clear h1;induction ws with
 | nil=>rfl
 | cons x ws ih =>
   rw [join_cons];cases ws with
   | nil=>rw [if_pos rfl];rfl
   | cons y ws =>
     rw [if_neg (by simp),cW,cW,ih,ux,SO];rfl
theorem pJ:∀ {ls:List (List Nat)},ls≠[]->(∀ l∈ls,∀ c∈l,c≠10)->aF 10 (jL ls)=ls
 | [],h,_=>absurd rfl h
 | [x],_,h=>by rw [jL,ey 10 x (h x (Sr ..))]
 | x::y::r,_,h=>by
   rw [jL,iz,ey 10 x (h x (Sr ..)),pJ (by simp) fun l hl=>h l (Sk _ hl)];rfl
theorem vL {WS:List (List Ss)} (Ax:WS≠[]) (hc:∀ ws∈WS,∀ w∈ws,∀ c∈sL w,32<=c):cE (Tg fN (WS.map (Tg blank))) WS:=by
 unfold cE;rw [wZ,T8];have e:WS.map (sL ∘ Tg blank)=WS.map fun ws=>jn (ws.map sL):=Ut fun ws _=>eI ws;rw [e];refine pJ (fun z=>Ax (XJ.mp z)) fun l hl c Bc=>?_;obtain ⟨ws,AH,rfl⟩:=TC.mp hl;rcases rR Bc with rfl | ⟨l,hl,Bc⟩
 · decide
 · obtain ⟨w,hw,rfl⟩:=TC.mp hl;have:=hc ws AH w hw c Bc;omega
theorem nZ (ws:List Ss):(jn (ws.map sL)).length<=wsum ws:=by
 have h:=rp (ws.map sL);rw [T8,R5] at h;have e:ws.map ((fun x=>x.length) ∘ sL)=ws.map (·.length):=Ut fun w _=>bV w;rw [e] at h;exact h
theorem wd {z:Ss} {WS:List (List Ss)} (hz:cE z WS) (hn:WS.length<=40) (hl:∀ ws∈WS,wsum ws<=4100) (h2:∀ ws∈WS.take 2,wsum ws<=1100):ox z:=by
 unfold cE at hz
 have BC:∀ r∈aF 10 (sL z),r.length<=4100:=fun r hr=>by
  rw [hz] at hr;obtain ⟨ws,AH,rfl⟩:=TC.mp hr;exact TF (nZ ws) (hl ws AH)
 have EH:=gC 10 (sL z)
 have hle:∀ L:List (List Nat),(∀ r∈L,r.length<=4100)->(L.map fun p=>p.length+1).sum<=4101 * L.length:=fun L=>by
  induction L with
  | nil=>exact fun _=>Sg _
  | cons l L ih =>
    intro h;have h3:=h l (Sr ..);have h4:=ih fun m hm=>h m (Sk _ hm);rw [Sl,Uj,R7,Yb];omega
 have h5:=hle _ BC;have h6:(aF 10 (sL z)).length<=40:=by rw [hz,R5];exact hn
 rw [EH,bV] at h5;refine ⟨by omega,fun r hr=>by have:=BC r hr;omega,fun r hr=>?_,by omega⟩;rw [hz,<- V2] at hr;obtain ⟨ws,AH,rfl⟩:=TC.mp hr;have:=TF (nZ ws) (h2 ws AH);omega
theorem u6 (l:List Nat):sL (ofL l)=l:=aG l
theorem l6 (x:List Nat) {l:List (List Nat)} (h:l≠[]):jn (x::l)=x++32::jn l:=by
 cases l with
 | nil=>exact absurd rfl h
 | cons y r=>rw [jn]
theorem uU (x y:List Nat) (b:List (List Nat)):∀ a:List (List Nat),jn (a++(x++32::y)::b)=jn (a++x::y::b)
 | []=>by
   rw [Ts,Ts,l6 x (by simp)];cases b with
   | nil=>rw [jn,jn]
   | cons c r=>rw [l6 _ (by simp),l6 y (by simp),SO];rfl
 | p::a=>by rw [S9,S9,l6 p (by simp),l6 p (by simp),uU x y b a]
theorem xb {w:Ss} (h:Uw w) (hl:1<w.length):(∀ c∈sL w,47<=c/\c<=122)/\sL w≠[]:=by
 refine hid fun ZZ kZ=>?_;obtain ⟨g1,g2,g3,g4⟩:=gf;refine kZ ?_;rcases h with (rfl | rfl | rfl | rfl) | h
 · omega
 · omega
 · omega
 · omega
 · exact h
section
variable {ins outs:List (Ss×Int)} {head:Th} {rows:List (List Th)}
theorem xk {t:Th} (h:t.Rd):∀ w∈t.wP,w.length<=12:=fun w hw=>by
 by_cases h1:1<w.length
 · have:=(cK (li h w hw h1)).2.1;omega
 · omega
theorem Dr.len (D:Dr ins outs head rows):∀ (i:Nat) (ws:List Ss),(aU ins outs head rows)[i]?=some ws->∀ w∈ws,w.length<=12:=by
 have kd:∀ {f:Ss} {ks:List (Ss×Int)},f.length<=4->(∀ k∈ks,bY k)->∀ w∈f::ks.map bg,w.length<=12:=fun {f ks} hf hk w hw=>by
  rcases Sn.mp hw with rfl | hw
  · omega
  · obtain ⟨k,Dy,rfl⟩:=TC.mp hw;exact iL (hk k Dy)
 intro i ws hi
 match i with
 | 0=>cases hi;exact kd (by decide +kernel) D.gi
 | 1=>cases hi;exact kd (by decide +kernel) D.go
 | 2 =>
   cases hi;intro w hw;rcases Sn.mp hw with rfl | hw
   · decide +kernel
   · exact xk D.hd.1 w hw
 | i+3 =>
   refine hid fun ZZ kZ=>?_;obtain ⟨t,k,hk,rfl,t1,t2,t3,hs,CJ⟩:=D.rule (i:=i) hi;refine kZ ?_;intro w hw;rcases Sn.mp hw with rfl | hw
   · decide +kernel
   rcases Sn.mp hw with rfl | hw
   · have:=bO (n:=((i / ins.length:Nat):Int)) ⟨hs.1,by omega⟩;omega
   rcases Sn.mp hw with rfl | hw
   · have:=(cK CJ.1).2.1;omega
   · exact xk t1 w hw
theorem vg {t':Th} (Hv:t'.Wr) {w:Ss} (hw:aP w=true) {p r:List Ss} {a b:Ss} (ea:sL a=(sL w).take 1) (eb:sL b=(sL w).drop 1) (hl:1<w.length) (e:p++a::b::r=t'.wP):False:=by
 have h1:=(cK hw).1;rw [<- bV] at hl;have h2:=rF Hv;rw [<- e] at h2;refine Adj.mid h2 ⟨?_,?_⟩
 · cases x:sL w with
   | nil=>rw [x] at hl;cases hl
   | cons c l =>
     rw [x] at ea;exact ⟨c,[],ea,(h1 c (by rw [x];exact Sr ..)).1⟩
 · cases x:sL w with
   | nil=>rw [x] at hl;cases hl
   | cons c l =>
     rw [x] at eb hl;cases l with
     | nil=>exact absurd (show 1<1 from hl) (by decide)
     | cons d m=>exact ⟨d,m,eb,(h1 d (by rw [x];simp)).1⟩
theorem vT {k:Ss×Int} (h:bY k):1<(bg k).length:=by
 obtain ⟨h1,h2⟩:=fh h.1;have:=T3.mpr h2;rw [<- bV,dw,Sm,R7];omega
theorem Dr.cut (D:Dr ins outs head rows) {i k:Nat} {ws r:List Ss} {w o:Ss} (hi:(aU ins outs head rows)[i]?=some ws) (hw:ws[k]?=some w) (hl:1<w.length) (ho:sL o=(sL w).take 1++32::(sL w).drop 1) (hr:∀ x∈r,Uw x) {z:Ss} (hz:cE z ((aU ins outs head rows).set i (ws.take k++o::r))) {ins' outs':List (Ss×Int)} {head':Th} {rows':List (List Th)} (hb:cI z ins' outs' head' rows'):False:=by
 obtain ⟨a,ha⟩:∃ a,a=ofL ((sL w).take 1):=⟨_,rfl⟩;obtain ⟨b,Cv⟩:∃ b,b=ofL ((sL w).drop 1):=⟨_,rfl⟩;have ea:sL a=(sL w).take 1:=by rw [ha,u6]
 have eb:sL b=(sL w).drop 1:=by rw [Cv,u6]
 clear ha Cv;have A6:=(Sj.mp hw).1;refine hid fun ZZ kZ=>?_;obtain ⟨u1,u2⟩:=xb ((D.uw i ws hi).1 w (Sd hw)) hl;have Cz:1<(sL w).length:=by rw [bV];exact hl
 have la:a.length=1:=by rw [<- bV,ea,SR];omega
 have KI:cE z ((aU ins outs head rows).set i (ws.take k++a::b::r)):=by
  unfold cE at hz ⊢;rw [hz,Xf,Xf];congr 1;rw [Sq,Sq,Sl,Sl,Sl,ho,ea,eb];exact uU _ _ _ _
 have Iy:Uw a/\Uw b:=by
  refine ⟨.inr ⟨fun c hc=>u1 c (TK (ea ▸ hc)),fun z=>?_⟩,.inr ⟨fun c hc=>u1 c (TL (eb ▸ hc)),fun z=>?_⟩⟩
  · rw [<- bV,z] at la;cases la
  · have:(sL b).length=(sL w).length - 1:=by rw [eb,Tf]
    rw [z] at this;simp at this;omega
 have Iz:∀ x∈(aU ins outs head rows).set i (ws.take k++a::b::r),∀ y∈x,Uw y:=fun x hx y hy=>by
  rcases VT hx with hx | rfl
  · obtain ⟨j,hj⟩:=SV.mp hx;exact (D.uw j x hj).1 y hy
  · rcases Sv.mp hy with hy | hy
    · exact (D.uw i ws hi).1 y (TK hy)
    rcases Sn.mp hy with rfl | hy
    · exact Iy.1
    rcases Sn.mp hy with rfl | hy
    · exact Iy.2
    · exact hr y hy
 obtain ⟨e,k1,k2,k3,k4⟩:=lN KI Iz hb;refine kZ ?_;have Bo:=(Sj.mp hi).1;have hx:(aU ins' outs' head' rows')[i]?=some (ws.take k++a::b::r):=by rw [<- e,Ug Bo]
 have Gy:(ws.take k++a::b::r)[k]?=some a:=by
  rw [UO (by rw [SR];omega),SR,Vi (by omega),WH];rfl
 have first:∀ {f:Ss} {l l':List Ss},ws=f::l->ws.take k++a::b::r=f::l'->k≠0:=fun {f l l'} h1 h2 h0=>by
  rw [h2,h0] at Gy;rw [h1,h0] at hw;cases Gy;cases hw;omega
 have kinds:∀ {f:Ss} {ks FJ:List (Ss×Int)},(∀ k∈FJ,bY k)->ws=f::ks.map bg->ws.take k++a::b::r=f::FJ.map bg->False:=fun {f ks FJ} hk h1 h2=>by
  have h0:=first h1 h2
  obtain ⟨k,rfl⟩:∃ m,k=m+1:=⟨k - 1,by omega⟩;rw [h2] at Gy;have h3:(FJ.map bg)[k]?=some a:=Gy;rw [So] at h3;obtain ⟨q,hq,rfl⟩:=T6.mp h3;have:=vT (hk q (Sd hq));omega
 match i with
 | 0 =>
   exact kinds k1 (Su hi).symm (Su hx).symm
 | 1 =>
   exact kinds k2 (Su hi).symm (Su hx).symm
 | 2 =>
   have e1:ws=R4 "head"::head.wP:=(Su hi).symm;have e2:ws.take k++a::b::r=R4 "head"::head'.wP:=(Su hx).symm;have h0:=first e1 e2
   obtain ⟨k,rfl⟩:∃ m,k=m+1:=⟨k - 1,by omega⟩;rw [e1] at hw e2;rw [List.take_succ_cons,S9] at e2;have CV:head.wP[k]?=some w:=hw;exact vg k3 (li D.hd.1 w (Sd CV) hl) ea eb hl (SH e2).2
 | i+3 =>
   refine hid fun ZZ kZ=>?_;obtain ⟨t,q,hq,e1,t1,t2,t3,hs,CJ⟩:=D.rule (i:=i) hi
   have e0:(R4 "in"::ins.map bg)=R4 "in"::ins'.map bg:=by
    have:=congrArg (fun l:List (List Ss)=>l[0]?) e
    have h1:((aU ins outs head rows).set (i+3) (ws.take k++a::b::r))[0]?=some (R4 "in"::ins.map bg):=by
     rw [UE (by omega)];rfl
    rw [show ((aU ins outs head rows).set (i+3) (ws.take k++a::b::r))[0]?=(aU ins' outs' head' rows')[0]? from this] at h1;exact (Su h1).symm
   have IC:ins'≠[]:=fun z=>by
    rw [z] at e0;exact D.ine (XJ.mp (SH e0).2)
   have Gp:ins=ins':=by
    have g1:=fk (f:=R4 "in") D.gi D.ine;have g2:=fk (f:=R4 "in") k1 IC;rw [<- e0] at g2;exact KindsOf.uniq g1 g2
   obtain ⟨Bh,t',q',r1,r2,r3,e2⟩:=l9 (f:=cY) (fun row hr=>(k4 row hr).1) (T3.mpr IC) (show (dJ cY ins' rows')[i]?=some _ from hx);refine kZ ?_;rw [<- Gp,hq] at r3;cases r3;have h0:=first e1 e2
   have Mc:=(k4 Bh (Sd r1)).2 t' (Sd r2)
   match k,h0 with
   | 1,_ =>
     rw [e1] at hw;have:aS ((i / ins.length:Nat):Int)=w:=Su hw;rw [<- this,<- bV,mG hs.1 hs.2] at hl;exact absurd (show 1<1 from hl) (by decide)
   | 2,_ =>
     rw [e1] at hw;rw [e2] at Gy;have x1:q.1=w:=Su hw;have x2:q.1=a:=Su Gy;rw [<- x1,x2,la] at hl;exact absurd hl (by decide)
   | k+3,_ =>
     rw [e1] at hw e2;have CV:t.wP[k]?=some w:=hw
     have e3:t.wP.take k++a::b::r=t'.wP:=by
      have:R4 "rule"::aS ((i / ins.length:Nat):Int)::q.1::(t.wP.take k++a::b::r)=R4 "rule"::aS ((i / ins'.length:Nat):Int)::q.1::t'.wP:=e2;exact (SH (SH (SH this).2).2).2
     exact vg Mc (li t1 w (Sd CV) hl) ea eb hl e3
theorem sK:∀ o∈eX,Uw o/\o.length<=8:=by
 have h1:∀ o∈eX.drop 4,(∀ c∈sL o,47<=c/\c<=122)/\sL o≠[]:=by decide +kernel
 have h2:∀ o∈eX,o.length<=8:=by decide +kernel
 intro o ho;refine ⟨?_,h2 o ho⟩;rcases Sn.mp ho with rfl | ho
 · exact .inl (.inl rfl)
 rcases Sn.mp ho with rfl | ho
 · exact .inl (.inr (.inl rfl))
 rcases Sn.mp ho with rfl | ho
 · exact .inl (.inr (.inr (.inl rfl)))
 rcases Sn.mp ho with rfl | ho
 · exact .inl (.inr (.inr (.inr rfl)))
 · exact .inr (h1 o ho)
theorem sE (ws:List Ss) (k:Nat):wsum (ws.take k)+wsum (ws.drop k)=wsum ws:=by
 rw [<- cU,Wn]
theorem t4 (ws:List Ss) (k:Nat):wsum (ws.drop (k+1))<=wsum (ws.drop k):=by
 have h:=sE (ws.drop k) 1;rw [List.drop_drop] at h;omega
theorem Dr.spw (D:Dr ins outs head rows) {i:Nat} {ws Ay:List Ss} (hi:(aU ins outs head rows)[i]?=some ws) (hs:SpW ws Ay):(∀ w∈Ay,(∀ c∈sL w,32<=c)/\w.length<=13)/\wsum Ay<=wsum ws+14:=by
 obtain ⟨hu,_,_⟩:=D.uw i ws hi;have hlen:=D.len i ws hi;have base:∀ w∈ws,(∀ c∈sL w,32<=c)/\w.length<=13:=fun w hw=>⟨fun c hc=>by have:=(lG (hu w hw)).1 c hc;omega,by have:=hlen w hw;omega⟩;rcases hs with rfl | ⟨k,hk,hs⟩
 · exact ⟨base,by omega⟩
 have EY:=sE ws k;have hd2:=t4 ws k;rcases hs with rfl | ⟨o,ho,hs⟩
 · refine ⟨fun w hw=>?_,by rw [cU];omega⟩;rcases Sv.mp hw with hw | hw
   · exact base w (TK hw)
   · exact base w (TL hw)
 · have FR:(∀ c∈sL o,32<=c)/\o.length<=13:=by
    rcases ho with ho | ⟨w,hw,hl,ho⟩
    · obtain ⟨h1,h2⟩:=sK o ho;exact ⟨fun c hc=>by have:=(lG h1).1 c hc;omega,by omega⟩
    · have Gs:=Sd hw;refine ⟨fun c hc=>?_,?_⟩
      · rw [ho] at hc;rcases Sv.mp hc with hc | hc
        · exact (base w Gs).1 c (TK hc)
        rcases Sn.mp hc with rfl | hc
        · exact Sg _
        · exact (base w Gs).1 c (TL hc)
      · have h3:=hlen w Gs;rw [<- bV,ho,Sm,R7,SR,Tf,bV];omega
   rcases hs with rfl | rfl
   · refine ⟨fun w hw=>?_,by rw [cU,bt];have:=FR.2;omega⟩;rcases Sv.mp hw with hw | hw
     · exact base w (TK hw)
     rcases Sn.mp hw with rfl | hw
     · exact FR
     · exact base w (TL hw)
   · refine ⟨fun w hw=>?_,by rw [cU,bt];have:=FR.2;omega⟩;rcases Sv.mp hw with hw | hw
     · exact base w (TK hw)
     rcases Sn.mp hw with rfl | hw
     · exact FR
     · exact base w (TL hw)
theorem Dr.spoil (D:Dr ins outs head rows) {i:Nat} {ws Ay:List Ss} (hi:(aU ins outs head rows)[i]?=some ws) (hs:SpW ws Ay) {z:Ss} (hz:cE z ((aU ins outs head rows).set i Ay)) {ins' outs':List (Ss×Int)} {head':Th} {rows':List (List Th)} (hb:cI z ins' outs' head' rows'):(aU ins outs head rows).set i Ay=aU ins' outs' head' rows'/\(∀ k∈ins',bY k)/\(∀ k∈outs',bY k)/\head'.Wr/\(∀ row∈rows',row.length=ins'.length/\∀ t∈row,t.Wr):=by
 obtain ⟨hu,_,_⟩:=D.uw i ws hi
 have fin:(∀ w∈Ay,Uw w)->(aU ins outs head rows).set i Ay=aU ins' outs' head' rows'/\(∀ k∈ins',bY k)/\(∀ k∈outs',bY k)/\head'.Wr/\(∀ row∈rows',row.length=ins'.length/\∀ t∈row,t.Wr):=fun hw=>by
  refine lN hz (fun x hx y hy=>?_) hb;rcases VT hx with hx | rfl
  · obtain ⟨j,hj⟩:=SV.mp hx;exact (D.uw j x hj).1 y hy
  · exact hw y hy
 rcases hs with rfl | ⟨k,hk,hs⟩
 · exact fin hu
 rcases hs with rfl | ⟨o,ho,hs⟩
 · refine fin fun w hw=>?_;rcases Sv.mp hw with hw | hw
   · exact hu w (TK hw)
   · exact hu w (TL hw)
 rcases ho with ho | ⟨w,hw,hl,ho⟩
 · have N4:=(sK o ho).1;rcases hs with rfl | rfl
   · refine fin fun w hw=>?_;rcases Sv.mp hw with hw | hw
     · exact hu w (TK hw)
     rcases Sn.mp hw with rfl | hw
     · exact N4
     · exact hu w (TL hw)
   · refine fin fun w hw=>?_;rcases Sv.mp hw with hw | hw
     · exact hu w (TK hw)
     rcases Sn.mp hw with rfl | hw
     · exact N4
     · exact hu w (TL hw)
 · rcases hs with rfl | rfl
   · exact (D.cut hi hw hl ho (fun x hx=>hu x (TL hx)) hz hb).elim
   · exact (D.cut hi hw hl ho (fun x hx=>hu x (TL hx)) hz hb).elim
theorem pM (D:Dr ins outs head rows):(aU ins outs head rows).length<=40:=by
 have h1:=D.few;have h2:=D.i8;have h3:=Nat.mul_le_mul h1 h2;unfold aU;simp only [R7];rw [dS D.rl];omega
theorem Dr.text (D:Dr ins outs head rows) {i:Nat} {ws Ay:List Ss} (hi:(aU ins outs head rows)[i]?=some ws) (hs:SpW ws Ay):cE (Tg fN (((aU ins outs head rows).set i Ay).map (Tg blank))) ((aU ins outs head rows).set i Ay)/\ox (Tg fN (((aU ins outs head rows).set i Ay).map (Tg blank)))/\∀ x∈(aU ins outs head rows).set i Ay,wsum x<=4100:=by
 refine hid fun ZZ kZ=>?_;obtain ⟨h1,h2⟩:=D.spw hi hs;obtain ⟨_,h3,h4⟩:=D.uw i ws hi;refine kZ ?_
 have Dh:=vL (WS:=(aU ins outs head rows).set i Ay) (fun z=>by
  have:=congrArg UZ z;rw [UA] at this;cases this) (fun x hx w hw=>by
  rcases VT hx with hx | rfl
  · obtain ⟨j,hj⟩:=SV.mp hx;exact fun c hc=>by have:=(lG ((D.uw j x hj).1 w hw)).1 c hc;omega
  · exact (h1 w hw).1)
 have Ah:∀ x∈(aU ins outs head rows).set i Ay,wsum x<=4100:=fun x hx=>by
  rcases VT hx with hx | rfl
  · obtain ⟨j,hj⟩:=SV.mp hx;have:=(D.uw j x hj).2.1;omega
  · omega
 refine ⟨Dh,wd Dh (by rw [UA];exact pM D) Ah fun x hx=>?_,Ah⟩;obtain ⟨j,hj⟩:=SV.mp hx;have Dw:=(Sj.mp hj).1;rw [SR] at Dw;rw [List.getElem?_take,if_pos (by omega)] at hj;by_cases c:i=j
 · subst c;rw [Ug (Sj.mp hi).1] at hj;have:=h4 (by omega);have:Ay=x:=Su hj;subst this;omega
 · rw [UE c] at hj;have:=(D.uw j x hj).2.2 (by omega);omega
end
theorem rS {ins outs:List (Ss×Int)} {head:Th} {rows:List (List Th)} (ki:aK ins=true) (ko:aK outs=true) (ok:dY ins outs head rows) (gi:∀ k∈ins,bY k) (go:∀ k∈outs,bY k) (hd:head.Wr) (hr:∀ row∈rows,row.length=ins.length/\∀ t∈row,t.Wr):lF ins outs head rows/\(outs.map (·.1)).Nodup:=by
 have k8:∀ {ks:List (Ss×Int)},aK ks=true->ks.length<=8/\(ks.map (·.1)).Nodup:=fun {ks} h=>by
  unfold aK at h;rw [Tr,Tr,Tr] at h;exact ⟨(of_decide_eq_true h.1).2,of_decide_eq_true h.2.2.1⟩
 have sm:∀ {t:Th},Small t->t.tall<=21/\t.size<=1000:=fun {t} h=>by
  obtain ⟨h1,h2,h3⟩:=h;rw [jM t];omega
 obtain ⟨o1,o2,o3⟩:=ok;refine ⟨⟨gi,go,(k8 ki).1,(k8 ko).1,o1,fun row Ac=>⟨(hr row Ac).1,fun t ht=>⟨(hr row Ac).2 t ht,?_⟩⟩,hd,sm o2.1⟩,(k8 ko).2⟩;refine hid fun ZZ kZ=>?_;obtain ⟨l1,l2⟩:=o3 row Ac;obtain ⟨j,hj⟩:=SV.mp ht;have Dw:=(Sj.mp hj).1;obtain ⟨k,hk⟩:∃ k,ins[j]?=some k:=⟨_,R6 (by omega)⟩;refine kZ ?_;exact sm (l2 j t k hj hk).1
theorem lS {K:R8} {m:Nat} {σ:St} {H:Hp} {rl:Sa} {zs:List Ss} {WS:List (List Ss)} {fin:Sa->Hp->Prop} (Hk:cσ [none,some m] σ=[none,some (.ref rl)]) (e:H rl=some (.lst (zs.map V.str))) (hl:zs.length=WS.length) (hn:zs.length<=1000) (hw:∀ (j:Nat) (z:Ss),zs[j]?=some z->WS[j]?=some (nu (decide (1<j)) z)/\Pl z/\z.length<=20000)
 (hq:∀ (D:Sa) (H':Hp) (as:List Sa),H D=none->L2.Same H H'->H' D=some (.lst (as.map V.ref))->To (fun ws a=>kJ H' ws a) WS as->fin D H') :
 ∀ D,H D=none->∃ (n:Nat) (W:Nat->Hp->Prop),W 0 (upd H D (.lst []))/\cZ [none,some m] (aC 0) bn (hV dm [] E0 (bZ (tOp (vh K) (bN 1) (bN 0)) (bZ (tOp (rI0 fun i j=>.bl (decide (j<i))) (bN 0) (tC (.int 1))) eN))) σ (Itr 0 zs.length) D n W fun H'=>fin D H':=by
 have hx:((Tw zs.length).map fun i=>V.int ((i:Nat):Int)).length=zs.length:=by rw [R5,U1]
 refine wc (F:=fun H ws a=>kJ H ws a) (xs:=(Tw zs.length).map fun i=>V.int ((i:Nat):Int)) WS (fun H1 H2 z p _ ho h=>ho _ h) (by rw [hx,hl]) (by omega) (fun i Hx sx hi=>by rw [hx] at hi;exact hi) (fun Hx sx=>by rw [hx];exact Sg _) (fun i Hx x Hy sx hi hy=>⟨hy.1,?_⟩) (fun i x ws Hx R W' B1 HA sx hR=>?_) hq
 · rw [hx] at hi;rw [So,VY hi,hy.2,Yg];rfl
 · have hi:=(Sj.mp HA).1;rw [So,VY (by omega)] at B1;cases B1;refine hid fun ZZ kZ=>?_;obtain ⟨z,hz⟩:∃ z,zs[i]?=some z:=⟨_,R6 (by omega)⟩;obtain ⟨w1,w2,w3⟩:=hw i z hz;refine kZ ?_;rw [HA] at w1;cases w1;rw [Hk];have hd:decide ((1:Int)<((i:Nat):Int))=decide (1<i):=decide_eq_decide.mpr (Int.ofNat_lt (n:=1));refine ⟨_,rfl,_,rfl,rl,_,_,.str z,rfl,rfl,SqL.of (sx _ _ e),cT (by rw [So,hz];rfl),_,rfl,_,_,rfl,rfl,z,_,rfl,w3,w2,fun r H' s' hr er=>hR H' r s' hr ?_⟩;rw [hd] at er;exact er
inductive tD (K:R8) (vs:List V) (H:Hp) (Q:VK) (_E:XK):Prop
 | mk (a:Sa) (ns:List Int) (Au:vs=[.ref a]) (Av:SqL K H a (ns.map V.int)) (AF:ns.length<=63) (AR:∀ H',Q (.bl true) H'):tD K vs H Q _E
def oQ (K:R8):Sp:=tD K
set_option maxHeartbeats 4000000 in
theorem yt:bj P w K mg base CX0 60 T.g_law.f T.g_law.d ["script"] (oQ K):=by
 refine T.g_law.F.ok gz (fun vs H Q E h=>?_) (fun Aj A outer s H vs Q E hr h=>?_)
 · obtain ⟨a,ns,rfl,_⟩:=h;rfl
 obtain ⟨a,ns,rfl,hS,Et,k⟩:=h
 refine ⟨_,(ad (ar (i:=1) gz.nd rfl (Or.inr rfl) (pcF T.g__law_rows (jl T) hr (aa (pcF T.g__law_book (o9 T) hr (aa (pv 0) (aa af (aa af ac)))) ac)))
  (ad (lm (i:=2) (N:=[R4 "k",R4 "rows"]) (js:=[none,some 1]) (g:=(aC 0)) (tt:=bn) (te:=(hV dm [] E0 (bZ (tOp (vh K) (bN 1) (bN 0)) (bZ (tOp (rI0 fun i j=>.bl (decide (j<i))) (bN 0) (tC (.int 1))) eN)))) gz.nd rfl (SG rfl) rfl (cL rfl (by decide +kernel) (by decide +kernel) rfl rfl rfl) (br rfl T.n_range (aa (ao aj rfl T.n_len Sw (aa (pv 1) ac)) ac)) (fun _ _ _ _ _ _=>(ay (i:=0) zB rfl (SG rfl))) (bA rfl) (fun _ _ _ _ _ _=>cb) (fun _ _ _ _ _ _=>(pcF T.g__law_words (ig T) hr (aa (au aI (pv 1) (pv 0) (fun _ _=>rfl)) (aa (cn mV (pv 0) af (aw _)) ac)))))
  (ad (bW Tt rfl (br rfl T.n_range (aa af ac)) (ay (i:=3) gz.nd rfl (SG rfl)) (ad (ar (i:=4) gz.nd rfl (SG rfl) (al bc (al bc (al aX (pcF T.g__law_cell_at (bE T) hr (aa (pv 0) (aa (pv 3) ac))) af) (pcF T.g__law_cell_at (bE T) hr (aa (pv 0) (aa (al bc af (pv 3)) ac)))) (pv 3)))
  (ad (ar (i:=5) gz.nd rfl (SG rfl) (pcF T.g__law_spoiled (kT T) hr (aa (pv 2) (aa (pv 4) ac))))
  (ad (ar (i:=6) gz.nd rfl (SG rfl) (pcF T.g__law_told (pf T) hr (aa (b9 TB Wl Wj lr aA (aa (cf (N:=[R4 "row"]) (js:=[none]) (g:=(aC 0)) (tt:=bn) (te:=(tBM K "str" (rJoin K) (tC (.str (R4 " "))) (bZ (bN 0) eN))) rfl (cL rfl (by decide +kernel) (by decide +kernel) rfl rfl rfl) (fG (pv 5)) (fun _ _ _ _ _ _=>(ay (i:=0) yM rfl (SG rfl))) (bA rfl) (fun _ _ _ _ _ _=>cb) (fun _ _ _ _ _ _=>(b9 TB Wl Wj lr aA (aa (pv 0) ac)))) ac)) ac)))
  (ag (aJ (av xP (pv 6) qG (aw _)) (ag (aJ (av (xc (vf hr)) (pv 5) (pv 2) (aw _)) (ag (ax dq)) aB)) (ad (aJ (ck (aN (pcF T.g__law_is_book (kF T) hr (aa (pv 6) ac)) (fun _=>rfl))) (ag (ax dq)) aB)
  (ad (ar (i:=7) gz.nd rfl (Or.inr rfl) (pcF T.g__law_rows (jl T) hr (aa (pv 6) ac)))
  (ag (aJ (av (wH (vf hr)) (cf (N:=[R4 "j",R4 "told"]) (js:=[none,some 7]) (g:=(aC 0)) (tt:=bn) (te:=(hV dm [] E0 (bZ (tOp (vh K) (bN 1) (bN 0)) (bZ (tOp (rI0 fun i j=>.bl (decide (j<i))) (bN 0) (tC (.int 1))) eN)))) rfl (cL rfl (by decide +kernel) (by decide +kernel) rfl rfl rfl) (br rfl T.n_range (aa (ao aj rfl T.n_len Sw (aa (pv 7) ac)) ac)) (fun _ _ _ _ _ _=>(ay (i:=0) yY rfl (SG rfl))) (bA rfl) (fun _ _ _ _ _ _=>cb) (fun _ _ _ _ _ _=>(pcF T.g__law_words (ig T) hr (aa (au aI (pv 1) (pv 0) (fun _ _=>rfl)) (aa (cn mV (pv 0) af (aw _)) ac))))) (pv 5) (aw _)) (ag (ax dq)) aB))))))))))
  (ag (ax dq))))),?_⟩
 try dsimp only [AM,Af]
 refine ⟨_,rfl,a,ns,rfl,hS,Et,fun b ins outs head rows H1 s1 bk B=>?_⟩;have D:=yG B;have Cq:=pM D;have Bw:=lA (outs:=outs) (head:=head) D.rl;refine ⟨b,ins,outs,head,rows,rfl,bk,D.show,fun rr H2 s2 e2=>?_⟩;dsimp only [aC];have hL:(((fR ins outs head rows).map V.str).length:Nat)=(fR ins outs head rows).length:=R5 ..;refine ⟨_,rfl,rr,_,rfl,.inl (SqL.of e2),_,rfl,by rw [hL];omega,by rw [hL];omega,?_⟩;rw [hL,Uc];refine lS (rl:=rr) (zs:=fR ins outs head rows) (WS:=aU ins outs head rows) rfl e2 Bw (by omega) (mP D.show) (fun wr H3 Eh R1 s3 Gk ID=>?_);have N5:=s1.trans (s2.trans s3);dsimp only [aC];refine ⟨4,rfl,by decide,by decide,?_⟩;refine bP (fun i σ Hx=>Ex5 fun c3 c4 c5 c6 c7=>An2 (σ=[some (.ref a),some (.ref rr),some (.ref wr),c3,c4,c5,c6,c7]) (L2.Same H3 Hx)) ⟨none,none,none,none,none,rfl,.refl _⟩ ?_ (fun σ Hx _=>k Hx);rintro i σ Hx hi ⟨c3,c4,c5,c6,c7,rfl,sx⟩;dsimp only [aC];have N6:=N5.trans sx
 -- cell
 refine bh (fun f' H'=>Ex1 fun (cell:Int)=>An3 (0<=cell) (H'=Hx) (f'=[some (.ref a),some (.ref rr),some (.ref wr),some (.int (0+(i:Int))),some (.int cell),c5,c6,c7])) (fun kk hk=>?_) ?_
 · have c1:=gL ns (0+(i:Int));have c2:=gL ns (4+(0+(i:Int)));refine ⟨_,rfl,_,rfl,a,ns,0+(i:Int),rfl,N6.seq hS,by omega,_,_,rfl,rfl,⟨by decide,by decide⟩,_,rfl,_,rfl,_,_,rfl,rfl,a,ns,4+(0+(i:Int)),rfl,N6.seq hS,by omega,_,_,rfl,rfl,_,rfl,_,_,rfl,rfl,hk _ _ ⟨_,?_,rfl,rfl⟩⟩;have c3:0<=cellAt ns (0+(i:Int)) / 11:=V6 c1 (by decide);omega
 rintro σ R3 ⟨cell,Rb,rfl,rfl⟩
 -- spoiled
 have Rc:∀ ws∈aU ins outs head rows,ws.length<=5000/\∀ x∈ws,x.length<=5000:=fun ws AH=>by
  obtain ⟨j,hj⟩:=SV.mp AH;have h1:=(D.uw j ws hj).2.1;unfold wsum at h1;exact ⟨by omega,fun x hx=>by have:=D.len j ws hj x hx;omega⟩
 refine ⟨_,rfl,_,rfl,wr,Eh,aU ins outs head rows,cell,rfl,sx _ _ Gk,P2.mp (fun _ _ h=>sx _ _ h) ID,(fun z=>by cases z),by omega,Rc,Rb,fun sr JP ii ws Ay H4 s4 JQ AH BV IE=>?_⟩;dsimp only [aC];obtain ⟨Dh,ET,EH⟩:=D.text AH BV;have CG:((aU ins outs head rows).set ii Ay).length=JP.length:=SK IE;rw [UA] at CG;have BE:=sx.trans s4;have EU:=N5.trans BE
 have IF:(aU ins outs head rows).set ii Ay=aU ins outs head rows->tf (Tg fN (((aU ins outs head rows).set ii Ay).map (Tg blank))):=fun e=>by
  rw [e] at Dh ⊢;exact ⟨ins,outs,head,rows,D.book Dh,D.ki,D.ko,D.ok⟩
 have IG:=fun ins' outs' head' rows'=>D.spoil (ins':=ins') (outs':=outs') (head':=head') (rows':=rows') AH BV Dh;have Rf:((aU ins outs head rows).set ii Ay).length<=40:=by rw [UA];exact Cq
 have Md:((aU ins outs head rows).set ii Ay).length=JP.length:=SK IE;generalize (aU ins outs head rows).set ii Ay=WX at *;have Dq:blank.length=1:=by decide +kernel
 have Gf:fN.length=1:=by decide +kernel
 have Dw:∀ ws∈WX,(Tg blank ws).length<=4100:=fun ws AH=>by
  have h1:=nZ ws;have h2:=EH ws AH;rw [<- bV,show sL (Tg blank ws)=jn (ws.map sL) from eI ws];omega
 -- found
 refine ⟨rfl,_,rfl,sr,rfl,⟨_,SqL.of JQ⟩,?_⟩;refine fv WX (fun _=>true) (fun ws=>.str (Tg blank ws)) (SqL.of JQ) (by rw [R5];exact Md) (by rw [R5];omega) (fun i x z H2 R _ _ _ r=>r) (fun j x z H5 R hx hz _ s5 r=>?_) (fun Dl Rg=>?_)
 · obtain ⟨wa,rfl,E1⟩:=bH hx;obtain ⟨z',Bv,Rh⟩:=P2.get' IE E1;rw [hz] at Bv;cases Bv;have h2:=EH z (Sd hz);unfold wsum at h2;exact ⟨rfl,_,rfl,blank,wa,z,rfl,rfl,SqL.of (s5 _ _ Rh),by rw [Dq];omega,r⟩
 rw [filter_tt];have s5:L2.Same H4 (upd H4 Dl (.lst (WX.map fun ws=>V.str (Tg blank ws)))):=ai Rg _
 have e5:(upd H4 Dl (.lst (WX.map fun ws=>V.str (Tg blank ws)))) Dl=some (.lst ((WX.map (Tg blank)).map V.str)):=by
  rw [ae,T8];rfl
 generalize (upd H4 Dl (.lst (WX.map fun ws=>V.str (Tg blank ws))))=H5 at s5 e5 ⊢
 have Az:((WX.map (Tg blank)).map (·.length)).sum+(WX.map (Tg blank)).length * fN.length<=16777216:=by
  have h1:∀ L:List (List Ss),(∀ ws∈L,(Tg blank ws).length<=4100)->((L.map (Tg blank)).map (·.length)).sum<=4100 * L.length:=fun L=>by
   induction L with
   | nil=>exact fun _=>Td _
   | cons l L ih =>
     intro h;have h3:=h l (Sr ..);have h4:=ih fun m hm=>h m (Sk _ hm);rw [Sl,Sl,Uj,R7,Yb];omega
  have h2:=h1 WX Dw;rw [R5,Gf];omega
 refine ⟨fN,Dl,WX.map (Tg blank),rfl,rfl,SqL.of e5,Az,Tg fN (WX.map (Tg blank)),rfl,ET,fun ins' outs' head' rows' hb k1 k2 k3 r H6 s6 N7=>?_,fun Iv H6 s6=>?_⟩
 · dsimp only [aC];refine hid fun ZZ kZ=>?_;obtain ⟨e,g1,g2,g3,g4⟩:=IG _ _ _ _ hb;obtain ⟨sh,nd⟩:=rS k1 k2 k3 g1 g2 g3 g4;refine kZ ?_;refine ⟨_,rfl,rfl,_,rfl,?_⟩;rw [decide_eq_false (show ¬ V.ref r=V.non from fun z=>by cases z)];refine bo ?_;refine ⟨_,rfl,r,ins',outs',head',rows',rfl,N7,k3,nd,sh.i8,fun H7 s7=>⟨_,rfl,?_⟩⟩;refine bo ?_;dsimp only [cX];refine ⟨_,rfl,r,ins',outs',head',rows',rfl,N7.mono (Same.kt s7),sh,fun tr H8 s8 e8=>?_⟩;dsimp only [aC];have Me:(((fR ins' outs' head' rows').map V.str).length:Nat)=(fR ins' outs' head' rows').length:=R5 ..;have Iw:∀ row∈rows',row.length=ins'.length:=fun row hr=>(g4 row hr).1;have IH:=lA (outs:=outs') (head:=head') Iw;have Ri:(fR ins' outs' head' rows').length<=40:=by rw [IH,<- e];exact Rf
   refine ⟨_,rfl,tr,_,rfl,.inl (SqL.of e8),_,rfl,by rw [Me];omega,by rw [Me];omega,?_⟩;rw [Me,Uc];refine lS (rl:=tr) (zs:=fR ins' outs' head' rows') (WS:=aU ins' outs' head' rows') rfl e8 IH (by omega) (mP sh) (fun Mc H9 Mf Rj s9 Mg II=>?_);have Rk:=s6.trans (s7.trans (s8.trans s9));have Mh:=s5.trans Rk;refine ⟨_,rfl,Mc,sr,Mf,JP,_,WX,rfl,rfl,SqL.of Mg,SqL.of (Mh _ _ JQ),II,P2.mp (fun _ _ h=>Mh _ _ h) IE,_,rfl,?_⟩;rw [decide_eq_true e.symm];refine bo ?_;exact ⟨_,_,_,_,_,rfl,BE.trans Mh⟩
 · dsimp only [aC];refine ⟨_,rfl,rfl,_,rfl,?_⟩;rw [decide_eq_true rfl];refine bG ?_;have DY:=s5.trans s6;refine ⟨_,rfl,_,rfl,sr,wr,JP,Eh,WX,aU ins outs head rows,rfl,rfl,SqL.of (DY _ _ JQ),SqL.of ((BE.trans DY) _ _ Gk),P2.mp (fun _ _ h=>DY _ _ h) IE,P2.mp (fun _ _ h=>(BE.trans DY) _ _ h) ID,_,rfl,?_⟩;rw [decide_eq_false (fun e=>Iv (IF e))];refine bo ?_;exact ⟨_,_,_,_,_,rfl,BE.trans DY⟩
end
set_option maxHeartbeats 8000000 in
theorem all_mk {l:PySem.W.OpenLaw} {w:Tq} {K:R8} {h:T2} {mg:Ss->Option Sb} {fa:Sa} (X:K.In h) (G:h.Ns SW mg) (Rl:mg "law"=some (.ref fa))
 {Ab:Sa} {IJ:Sa} {Mi Mj:Option Sa} {Ml:Array (Option Sb)} {Mm Mn Mo Mp IK Mq:Sb} {IL:Sa} {Mr Mt:Option Sa} {Mu:Array (Option Sb)} {Mv Mw Mx My IM Mz:Sb} {IP:Sa} {MA IQ:Option Sa} {MB:Array (Option Sb)} {MC IT IU IV FW IW:Sb} {N8:Tok} {N9:Tok} {Oa:Tok} {Ob:Tok} {Oc:Tok} {Od:Tok} {Oe:Tok} {Of:Tok} {Og:Tok} {Oh:Tok} {Aw:Sa} {Ai:Sa} {Am:Sa} {An:Sa}
 (g_is_number:FX K mg "is_number" gd ["thing"])
 (g_is_below:FX K mg "is_below" iy ["number","bound"])
 (g_is_name:FX K mg "is_name" jB ["thing"])
 (g_is_kind:FX K mg "is_kind" jQ ["pair"])
 (g_are_kinds:FX K mg "are_kinds" gy ["kinds"])
 (g_kinds_of:FX K mg "kinds_of" iG ["pairs"])
 (g_many_of:FX K mg "many_of" jz ["kinds","name"])
 (g_kids_of:FX K mg "kids_of" jF ["thing"])
 (g_walked:FX K mg "walked" lT ["thing"])
 (g_built:FX K mg "built" oz ["tops"])
 (g_is_call:FX K mg "is_call" jV ["thing"])
 (g_fits_pattern:FX K mg "fits_pattern" ef ["kinds","pattern","states","kids"])
 (g_is_small:FX K mg "is_small" iw ["pattern"])
 (g_check_pattern:FX K mg "check_pattern" dE ["outs","pattern","states","kids"])
 (g_check_state:FX K mg "check_state" eS ["ins","outs","patterns","states"])
 (g_made_book:FX K mg "made_book" f6 ["ins","outs","head","rules"])
 (g_words_of:FX K mg "words_of" il ["text"])
 (g_read_number:FX K mg "read_number" eP ["word"])
 (g_read_call:FX K mg "read_call" gg ["words"])
 (g_steps_of:FX K mg "steps_of" iJ ["words"])
 (g_follows:FX K mg "follows" j2 ["before","step","depth"])
 (g_tops_of:FX K mg "tops_of" jS ["steps"])
 (g_read_pattern:FX K mg "read_pattern" dW ["words"])
 (g_read_kind:FX K mg "read_kind" fU ["word"])
 (g_read_kinds:FX K mg "read_kinds" fF ["first","words"])
 (g_read_head:FX K mg "read_head" gj ["words"])
 (g_read_rule:FX K mg "read_rule" fS ["state","name","words"])
 (g_read_rules:FX K mg "read_rules" fm ["ins","rows"])
 (g_words_in:FX K mg "words_in" iB ["row"])
 (g_read_book:FX K mg "read_book" f7 ["text"])
 (g__law_cell_at:FX K mg "_law_cell_at" d9 ["script","k"])
 (g__law_name:FX K mg "_law_name" gB ["base","n"])
 (g__law_kinds:FX K mg "_law_kinds" fu ["cell"])
 (g__law_folded:FX K mg "_law_folded" eT ["script","many"])
 (g__law_pattern:FX K mg "_law_pattern" d8 ["cell","outs","states","kids","deep"])
 (g__law_digits:FX K mg "_law_digits" eO ["own","outs","states","kids","deep"])
 (g__law_book:FX K mg "_law_book" gu ["script","most","deep"])
 (g__law_shown:FX K mg "_law_shown" fE ["pattern"])
 (g__law_rows:FX K mg "_law_rows" fT ["book"])
 (g__law_words:FX K mg "_law_words" ft ["row","wide"])
 (g__law_spoiled:FX K mg "_law_spoiled" d3 ["rows","cell"])
 (g__law_sound:FX K mg "_law_sound" fB ["pattern","outs","states","kids"])
 (g__law_is_book:FX K mg "_law_is_book" dZ ["book"])
 (g__law_told:FX K mg "_law_told" gx ["text"])
 (on_Measure:Tp K SW "Measure"=some (some (.ref Ab)))
 (pg_Measure:Wo K Ab Ua=true)
 (hd_Measure:WU K Ab=true)
 (po_Measure:X7 K Ab=true)
 (sa_Measure:S5 K (.ref Ab) "__setattr__"=some (some (.builtin "object.__setattr__")))
 (mk_Measure:PySem.W.makesIn K Ab=true)
 (kc_Measure:UX K (.ref Ab)=true)
 (na_Measure_met_knots:S5 K (.ref Ab) "met_knots"=some none)
 (na_Measure_met_calls:S5 K (.ref Ab) "met_calls"=some none)
 (a12:S5 K (.ref Ab) "__init__"=some (some (.ref IJ))) (i12:Xb K (.ref IJ)=true) (l12:K.lookup IJ=some ⟨Mm,Mi,.func (Vn "__init__" "Measure.__init__" (bL b7) (bz b7) (ak b7) .none Mn Mo Mp Mj IK Mq),Ml⟩) (c12:Wb K IK "Measure.__init__"=true) (k12:UX K (.ref IJ)=true)
 (a13:S5 K (.ref Ab) "takes"=some (some (.ref IL))) (i13:Xb K (.ref IL)=true) (l13:K.lookup IL=some ⟨Mv,Mr,.func (Vn "takes" "Measure.takes" (bL bR) (bz bR) (ak bR) .none Mw Mx My Mt IM Mz),Mu⟩) (c13:Wb K IM "Measure.takes"=true) (k13:UX K (.ref IL)=true)
 (a46:Tp K SW "law"=some (some (.ref IP))) (l46:K.lookup IP=some ⟨MC,MA,.func (Vn "law" "law" (bL iX) (bz iX) (ak iX) .none IT IU IV IQ FW IW),MB⟩) (c46:Wb K FW "law"=true) (k46:UX K (.ref IP)=true)
 (z0:Tp K SW "all"=some none)
 (z1:Tp K SW "bool"=some none)
 (z2:Tp K SW "divmod"=some none)
 (z3:Tp K SW "enumerate"=some none)
 (z4:Tp K SW "int"=some none)
 (z5:Tp K SW "isinstance"=some none)
 (z6:Tp K SW "len"=some none)
 (z7:Tp K SW "range"=some none)
 (z8:Tp K SW "reversed"=some none)
 (z9:Tp K SW "set"=some none)
 (z10:Tp K SW "str"=some none)
 (z11:Tp K SW "tuple"=some none)
 (z12:Tp K SW "zip"=some none)
 (y0:Tp K SW "CALL_SIGN"=some (some (.str (R4 "?") N8)))
 (y1:Tp K SW "MOST_LETTERS"=some (some (.int (8) N9)))
 (y2:Tp K SW "MOST_KINDS"=some (some (.int (8) Oa)))
 (y3:Tp K SW "MOST_KIDS"=some (some (.int (3) Ob)))
 (y4:Tp K SW "MOST_STATES"=some (some (.int (20) Oc)))
 (y5:Tp K SW "MOST_ROWS"=some (some (.int (20) Od)))
 (y6:Tp K SW "MOST_KNOTS"=some (some (.int (400) Oe)))
 (y7:Tp K SW "MOST_CALLS"=some (some (.int (200) Of)))
 (y8:Tp K SW "MOST_FIGURES"=some (some (.int (3) Og)))
 (y9:Tp K SW "MOST_BRACKETS"=some (some (.int (100) Oh)))
 (xn_BookError:Tp K SW "BookError"=some (some (.ref Aw)))
 (xn_NoKinds:Tp K SW "NoKinds"=some (some (.ref Ai)))
 (xn_NoBook:Tp K SW "NoBook"=some (some (.ref Am)))
 (xn_NoText:Tp K SW "NoText"=some (some (.ref An)))
 (xe_NoKinds:Wu K Ai [.type "ValueError",.type "Exception",.type "BaseException",.type "object"] "ValueError.__new__"=true)
 (xg_NoKinds:S5 K (.ref Ai) "__getattribute__"=some (some (.builtin "BaseException.__getattribute__")))
 (xh_NoKinds:S5 K (.ref Ai) "__getattr__"=some none)
 (xc_NoKinds:S5 K (.ref Ai) "__class__"=some (some (.builtin "object.__class__")))
 (xo_NoKinds:Uu K Ai (.type "object")=some true)
 (xb_NoKinds:Uu K Ai (.type "BaseException")=some true)
 (hit_NoKinds_BookError:Wa K (.ref Ai) (.ref Aw)=some true)
 (xe_NoBook:Wu K Am [.type "ValueError",.type "Exception",.type "BaseException",.type "object"] "ValueError.__new__"=true)
 (xg_NoBook:S5 K (.ref Am) "__getattribute__"=some (some (.builtin "BaseException.__getattribute__")))
 (xh_NoBook:S5 K (.ref Am) "__getattr__"=some none)
 (xc_NoBook:S5 K (.ref Am) "__class__"=some (some (.builtin "object.__class__")))
 (xo_NoBook:Uu K Am (.type "object")=some true)
 (xb_NoBook:Uu K Am (.type "BaseException")=some true)
 (hit_NoBook_BookError:Wa K (.ref Am) (.ref Aw)=some true)
 (xe_NoText:Wu K An [.type "ValueError",.type "Exception",.type "BaseException",.type "object"] "ValueError.__new__"=true)
 (xg_NoText:S5 K (.ref An) "__getattribute__"=some (some (.builtin "BaseException.__getattribute__")))
 (xh_NoText:S5 K (.ref An) "__getattr__"=some none)
 (xc_NoText:S5 K (.ref An) "__class__"=some (some (.builtin "object.__class__")))
 (xo_NoText:Uu K An (.type "object")=some true)
 (xb_NoText:Uu K An (.type "BaseException")=some true)
 (hit_NoText_BookError:Wa K (.ref An) (.ref Aw)=some true) :
 ∃ fd:Vs,(∀ (s:Sf) (v:Sb),BindsTo s fd ⟨[v],[]⟩ [("script",v)])/\∀ base:T2,K.In base->base.Ns SW mg->bj l.prog w K mg base CX0 60 fa fd ["script"] (oQ K):=by
 have e0:=Rl.symm.trans (T9 X G a46);have e:IP=fa:=(Value.ref.inj (Su e0)).symm;subst e;have Oi:=dj (st:=b7) l12 c12 k12;have Rm:=Oi.binds (ps:=["self"]) fun _ _ _ _ _ _ us hl=>by obtain ⟨y0,rfl⟩:=us1 hl;rfl
 have Oj:=dj (st:=bR) l13 c13 k13;have Rn:=Oj.binds (ps:=["self","part","row"]) fun _ _ _ _ _ _ us hl=>by obtain ⟨y0,y1,y2,rfl⟩:=us3 hl;rfl
 have Ol:=dj (st:=iX) l46 c46 k46;have Ro:=Ol.binds (ps:=["script"]) fun _ _ _ _ _ _ us hl=>by obtain ⟨y0,rfl⟩:=us1 hl;rfl
 let T:TX K mg:=⟨⟨N8,T9 X G y0⟩,⟨N9,T9 X G y1⟩,⟨Oa,T9 X G y2⟩,⟨Ob,T9 X G y3⟩,⟨Oc,T9 X G y4⟩,⟨Od,T9 X G y5⟩,⟨Oe,T9 X G y6⟩,⟨Of,T9 X G y7⟩,⟨Og,T9 X G y8⟩,⟨Oh,T9 X G y9⟩,Aw,T9 X G xn_BookError,Ai,T9 X G xn_NoKinds,Am,T9 X G xn_NoBook,An,T9 X G xn_NoText,xe_NoKinds,xg_NoKinds,xh_NoKinds,xc_NoKinds,xo_NoKinds,xb_NoKinds,hit_NoKinds_BookError,xe_NoBook,xg_NoBook,xh_NoBook,xc_NoBook,xo_NoBook,xb_NoBook,hit_NoBook_BookError,xe_NoText,xg_NoText,xh_NoText,xc_NoText,xo_NoText,xb_NoText,hit_NoText_BookError,g_is_number,g_is_below,g_is_name,g_is_kind,g_are_kinds,g_kinds_of,g_many_of,g_kids_of,g_walked,g_built,g_is_call,g_fits_pattern,IJ,_,Oi,Rm,IL,_,Oj,Rn,g_is_small,g_check_pattern,g_check_state,g_made_book,g_words_of,g_read_number,g_read_call,g_steps_of,g_follows,g_tops_of,g_read_pattern,g_read_kind,g_read_kinds,g_read_head,g_read_rule,g_read_rules,g_words_in,g_read_book,g__law_cell_at,g__law_name,g__law_kinds,g__law_folded,g__law_pattern,g__law_digits,g__law_book,g__law_shown,g__law_rows,g__law_words,g__law_spoiled,g__law_sound,g__law_is_book,g__law_told,⟨IP,_,Ol,Ro,T9 X G a46⟩,Ab,T9 X G on_Measure,⟨pg_Measure,hd_Measure,po_Measure,sa_Measure⟩,⟨mk_Measure,a12,i12,kc_Measure⟩,na_Measure_met_knots,na_Measure_met_calls,⟨a13,i13,k13⟩,TY X G z0,TY X G z1,TY X G z2,TY X G z3,TY X G z4,TY X G z5,TY X G z6,TY X G z7,TY X G z8,TY X G z9,TY X G z10,TY X G z11,TY X G z12⟩
 refine ⟨Vn "law" "law" (bL iX) (bz iX) (ak iX) .none IT IU IV IQ FW IW,fun s v=>.of_eq rfl,fun base _ _=>?_⟩;exact yt T
theorem walk {l:PySem.W.OpenLaw} {q:SX} {loose:List Ss} {XP:(Ss->Option Sb)->T2->Prop} {YP:Tq->T2->Prop} {d:DefRec} {K:Params->R8} (hn:l.most=some 63) (GS:d.params.defaults=[])
 (hY:∀ (w:Tq) (h:T2),YP w h->(K w.params).In h)
 (F:∀ (w:Tq) (mg:Ss->Option Sb) (fa:Sa) (h:T2),(K w.params).In h->h.Ns SW mg->mg d.name=some (.ref fa) →
  ∃ fd:Vs,(∀ (s:Sf) (u:Sb),BindsTo s fd ⟨[u],[]⟩ [("script",u)])/\∀ base:T2,(K w.params).In base->base.Ns SW mg->bj l.prog w (K w.params) mg base CX0 60 fa fd ["script"] (oQ (K w.params))) :
 PySem.W.WalkO q loose XP YP l.row.toRowW d [] (fun f vs=>PySem.call f vs) :=
 L2.wL (n:=63) (k:=60) (x:="script") (CX:=fun _=>CX0) (sp:=fun w=>oQ (K w.params)) hn (by decide) GS ⟨rfl,by decide,by decide⟩ hY F (fun _ _ a ns hl _ hS=>⟨a,ns,rfl,hS,hl,fun _=>rfl⟩) fun _ _ _ _ _ z=>z
end LAW
open PySem PySem.W PyProof.Rows
set_option maxRecDepth 100000 in
set_option maxHeartbeats 0 in
theorem PySem.Challenge.cw_boughbook_k33_whole_no_other_book_holds : PySem.Challenge.rw_boughbook_k33_whole_no_other_book.Holds := by
 w_on;o_law;(refine holds_open (q:=LAW.vw) (N:=90000) (loose:=[]) (XP:=XL LAW.vw []) (Yf:=Hook.obs (kHook LAW.d0.heap_1 LAW.ks LAW.ke)) (Ya:=Hook.val (kHook LAW.d0.heap_1 LAW.ks LAW.ke)) (YP:=Hook.says (kHook LAW.d0.heap_1 LAW.ks LAW.ke)) (Xt:=LAW.xt) (HD.tJ (by kernel_rfl) (by kernel_rfl) (fun _=>by kernel_rfl) LAW.lk0 LAW.lk1 LAW.lk2 LAW.lk3 LAW.lk4 LAW.lk5 (HD.Pc.k LAW.kp)) (Hook.of (kHook LAW.d0.heap_1 LAW.ks LAW.ke)) (Hook.keeps (kHook LAW.d0.heap_1 LAW.ks LAW.ke)) (fun s e=>xl_of s (XD.mp e).1) XL.keeps (by rfl) (by rfl) (by rfl) (fun s e=>recFacts_of (XD.mp e).2) (by rfl) (by assumption) (by decide +kernel) ⟨rfl,rfl,rfl,rfl,rfl,by decide +kernel⟩ ?_ ?_);w_witness2
 k_fill
 refine LAW.walk (l:=PySem.Challenge.rw_boughbook_k33_whole_no_other_book) rfl rfl (fun w h Y=>PySem.W.kIn_of Y) ?F
 case F =>
  intro w mg fa h KX G GU;refine' LAW.all_mk KX G GU (LAW.fx1 KX G) (LAW.fx2 KX G) (LAW.fx1 KX G) (LAW.fx1 KX G) (LAW.fx1 KX G) (LAW.fx1 KX G) (LAW.fx2 KX G) (LAW.fx1 KX G) (LAW.fx1 KX G) (LAW.fx1 KX G) (LAW.fx1 KX G) (LAW.fx4 KX G) (LAW.fx1 KX G) (LAW.fx4 KX G) (LAW.fx4 KX G) (LAW.fx4 KX G) (LAW.fx1 KX G) (LAW.fx1 KX G) (LAW.fx1 KX G) (LAW.fx1 KX G) (LAW.fx3 KX G) (LAW.fx1 KX G) (LAW.fx1 KX G) (LAW.fx1 KX G) (LAW.fx2 KX G) (LAW.fx1 KX G) (LAW.fx3 KX G) (LAW.fx2 KX G) (LAW.fx1 KX G) (LAW.fx1 KX G) (LAW.fx2 KX G) (LAW.fx2 KX G) (LAW.fx1 KX G) (LAW.fx2 KX G) (LAW.fx5 KX G) (LAW.fx5 KX G) (LAW.fx3 KX G) (LAW.fx1 KX G) (LAW.fx1 KX G) (LAW.fx2 KX G) (LAW.fx2 KX G) (LAW.fx4 KX G) (LAW.fx1 KX G) (LAW.fx1 KX G) ?on_Measure ?pg_Measure ?hd_Measure ?po_Measure ?sa_Measure ?mk_Measure ?kc_Measure ?na_Measure_met_knots ?na_Measure_met_calls ?a12 ?i12 ?l12 ?c12 ?k12 ?a13 ?i13 ?l13 ?c13 ?k13 ?a46 ?l46 ?c46 ?k46 ?z0 ?z1 ?z2 ?z3 ?z4 ?z5 ?z6 ?z7 ?z8 ?z9 ?z10 ?z11 ?z12 ?y0 ?y1 ?y2 ?y3 ?y4 ?y5 ?y6 ?y7 ?y8 ?y9 ?xn_BookError ?xn_NoKinds ?xn_NoBook ?xn_NoText ?xe_NoKinds ?xg_NoKinds ?xh_NoKinds ?xc_NoKinds ?xo_NoKinds ?xb_NoKinds ?hit_NoKinds_BookError ?xe_NoBook ?xg_NoBook ?xh_NoBook ?xc_NoBook ?xo_NoBook ?xb_NoBook ?hit_NoBook_BookError ?xe_NoText ?xg_NoText ?xh_NoText ?xc_NoText ?xo_NoText ?xb_NoText ?hit_NoText_BookError
  (case on_Measure=>k_is)
  (case pg_Measure=>k_is)
  (case hd_Measure=>k_is)
  (case po_Measure=>k_is)
  (case sa_Measure=>k_is)
  (case mk_Measure=>k_is)
  (case kc_Measure=>k_is)
  (case na_Measure_met_knots=>k_is)
  (case na_Measure_met_calls=>k_is)
  (case a12=>k_is)
  (case i12=>k_is)
  (case l12=>k_is)
  (case c12=>k_is)
  (case k12=>k_is)
  (case a13=>k_is)
  (case i13=>k_is)
  (case l13=>k_is)
  (case c13=>k_is)
  (case k13=>k_is)
  (case a46=>k_is)
  (case l46=>k_is)
  (case c46=>k_is)
  (case k46=>k_is)
  (case z0=>k_is)
  (case z1=>k_is)
  (case z2=>k_is)
  (case z3=>k_is)
  (case z4=>k_is)
  (case z5=>k_is)
  (case z6=>k_is)
  (case z7=>k_is)
  (case z8=>k_is)
  (case z9=>k_is)
  (case z10=>k_is)
  (case z11=>k_is)
  (case z12=>k_is)
  (case y0=>k_is)
  (case y1=>k_is)
  (case y2=>k_is)
  (case y3=>k_is)
  (case y4=>k_is)
  (case y5=>k_is)
  (case y6=>k_is)
  (case y7=>k_is)
  (case y8=>k_is)
  (case y9=>k_is)
  (case xn_BookError=>k_is)
  (case xn_NoKinds=>k_is)
  (case xn_NoBook=>k_is)
  (case xn_NoText=>k_is)
  (case xe_NoKinds=>k_exc)
  (case xg_NoKinds=>k_is)
  (case xh_NoKinds=>k_is)
  (case xc_NoKinds=>k_is)
  (case xo_NoKinds=>k_is)
  (case xb_NoKinds=>k_is)
  (case hit_NoKinds_BookError=>kts_exm)
  (case xe_NoBook=>k_exc)
  (case xg_NoBook=>k_is)
  (case xh_NoBook=>k_is)
  (case xc_NoBook=>k_is)
  (case xo_NoBook=>k_is)
  (case xb_NoBook=>k_is)
  (case hit_NoBook_BookError=>kts_exm)
  (case xe_NoText=>k_exc)
  (case xg_NoText=>k_is)
  (case xh_NoText=>k_is)
  (case xc_NoText=>k_is)
  (case xo_NoText=>k_is)
  (case xb_NoText=>k_is)
  (case hit_NoText_BookError=>kts_exm)
