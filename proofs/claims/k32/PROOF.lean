import PyProof.Rows.All
import Wide.All
import OpenK.AllK
import Wide.FinOn
import Lean
import PyProof.EqAt
import PyProof.EqKinds
import PyProof.TupleCall
import KE.KRevIter
import PyProof.ListNew
import PyProof.Draws
import PyProof.EnumMake
import PyProof.Rows.EnumRows
import PyProof.ZipIter
import PyProof.ConsumeWalk
import KE.LcSums
import PyProof.AttrMissHeap
import KE.KDictOf
import PyProof.DictWalks
import PyProof.ListMulRoad
import PyProof.FactsAll.tuple
import PyProof.NeKinds
import KE.RegKTryMore
import KE.RegKIsAll
import PyProof.StrWalks
import PyProof.Rows.SetFrom
import PyProof.FString5
import Wide.Txt
import PyProof.Rows.SeqMore
import PyProof.StrOps2
import KE.KEqDict
import PyProof.CollectIter
import PyProof.JoinWalk
import PyProof.CallStr
import PyProof.DictRoadsH
import PyProof.MeetsDictList
import PyProof.DictTruth
import PyProof.StrLawsChain
import PyProof.StrCalls6
import PyProof.ToksMono
import PyProof.StrCalls2
import KE.KWords
import PyProof.MeetsStr2
import KE.KUnpack
import KE.KIntText
import PyProof.MeetsStr
import PyProof.Rows.StrLawsPart
import PyProof.Rows.RuleDivmod
import PyProof.ListIndexNeg
import PyProof.MeetsStr3
import PySem.Challenge.RW_boughbook_k32_texts_of_no_book
set_option Elab.async false
set_option linter.all false
set_option maxRecDepth 100000
set_option genInjectivity false
set_option genSizeOf false
local macro_rules | `(tactic| omega) => `(tactic| lia)
open List renaming length_map→Ue,getElem?_eq_getElem→Uh,length_cons→Ui,mem_of_getElem?→Ur,getElem?_map→Ut,length_append→Uu,mem_cons_of_mem→Uv,size_toArray→Ux,mem_cons_self→Uy,getElem?_eq_some_iff→Uz,map_cons→UB,map_append→UC,mem_cons→UH,mem_append→UP,mem_append_right→UU,mem_singleton→UW,append_nil→UY,append_assoc→U2,length_take→U3,flatten_cons→U4,take_of_length_le→U8,length_eq_zero_iff→U9,cons_append→Va,length_drop→Vi,mem_iff_getElem?→Vj,length_singleton→Vk,all_eq_true→Vo,mem_map→Vq,range→Vr,nil_append→Vs,replicate→VA,mem_append_left→VH,length_range→VJ,length_pos_iff→VQ,getElem?_eq_none→VV,drop_zero→VW,reverse_cons→VX,getElem?_set_self→VZ,mem_of_mem_take→V6,sum_cons→V7,nodup_cons→V8,map_map→We,not_mem_nil→Wh,map_nil→Wm,getElem?_append_right→Wn,forIn_cons→Ws,drop_eq_getElem_cons→Wu,take_zero→WC,length→WD,getElem?_set_ne→WE,dropLast_concat_getLast→WK,replicate_succ→WN,flatten_append→WO,lookup_cons→WT,getElem?_zip_eq_some→WZ,getElem?_append_left→W0,length_set→W6,length_nil→W7,lookup→Xd,flatMap_cons→Xe,map_congr_left→Xj,length_reverse→Xk,getElem?_range→Xl,filterMap_cons→Xm,take_length→Xn,mem_range→Xo,filter_cons→Xp,take_add_one→XC,reverse_reverse→XI,mem_of_mem_drop→XJ,mem_or_eq_of_mem_set→XR,flatMap_append→XW,drop_succ_cons→XX,mem_filter→X7,length_zip→X8,ext_getElem?→Yh,all_cons→Yq,reverse_append→Yw,nodup_nil→YF,mem_filterMap→YG,nodup_append→YK,map_take→YR,any_eq_true→YY,map_set→Y6,drop_eq_nil_of_le→Y7,take_append_drop→Zh,dropLast_concat→Zm,map_eq_nil_iff→Zu,map_drop→Zy,flatMap_assoc→ZD,all_map→ZX
open PySem.Str renaming ofString→Ug,empty→Wb,cps_append→Wg,join→X3
open PySem.W renaming Frag→Uj,findIn→U5,kitOne→U6,nsIn→Ve,mg_none_of→Vu,mg_of→VU,mroIn→Wc,kia_one→Wd,emptyDict→Wl,keepIn→WB,instObj→W3,boot_heap→Xa,fnOf→Xb,exmOne→Yd,codeIn→Ye,hideAll→Yi,plainGet→Yl,excIn→Yp,hasDictIn→YJ,isFn→Y1,lookIn→Zk,plainGet_of→Zs,callWith_K→ZA,plainOver→ZT,methodObj→ZU
open PySem renaming wpAny_bind→Uk,Addr→Ul,Value→Um,Shared→Uo,Str→UA,wpAny_pure→UE,boot_len→UL,strLen_append→UM,wpAny→UO,sizeLine→US,mainGlobals→UX,model→UZ,Program→U1,Paired→Vg,World→Vl,Around→Vm,starEach→Vt,wpAny_field→Vz,Expr→VI,wpAny_mono→VM,Heap→VO,wpAny_newObj_type→V0,Stmt→V5,wpAny_passesOwn→V9,wpAny_callSpecial?_slot→Wj,wpAny_truthy_bool→Wv,sizeLine_eq→Wy,Obj→Wz,wpAny_Call_Name_kw→WG,compareOp→WH,wpAny_holding→WJ,eval→WS,NameKind→WU,FuncData→WV,wpAny_setField_rec→W8,wpAny_seqItems→W9,Scope→Xh,call_meets→Xs,wpAny_call_entry→Xw,IsPair→Xx,typeIs_str→XD,wpAny_execs_nil→XG,mem_of_lookup→XT,wpAny_loadName_local→XY,binaryOp→XZ,codeAny_mono→X9,codeAny→Yb,Pos→Ym,wpAny_Call_method_late→Yr,foldedSetIterable→Ys,backTo→Yt,rawInt→Yx,assignEach→Yy,sliceBounds→YD,letOwnedTupleGo→YI,getItem→YL,bootBuiltins→YM,OsState→YQ,wpAny_pyIter_tuple→YT,wpAny_pyIter_list→Y8,Builtin→Za,wpAny_standAt→Zd,wpAny_onRaise→Ze,wpAny_comprehension_free→Zf,noteFrame→Zi,intText?→Zj,IsZip→Zn,Env→Zp,wpAny_Name→Zq,Result→Zr,IsPart→Zv,importedModules→Zw,codeAny_builtin→Zx,wpAny_updateSeq_pair→ZH,wpAny_setField→ZI,unbindBehindTheSuite→ZJ,slicePicked→ZK,pyNext→ZL,codeAny_call_builtin→ZM,cLine→ZN,bindArgs→ZO,assign→ZP
open PySem.Heap renaming get?_push_of_some→Up,get?_push_size→UG,lt_size→UJ,size_push→Wi,SameBut→WY,get?_update_other→Yv,get?_update_self→ZF
open Nat renaming le_refl→Uq,lt_of_lt_of_le→Vd,ne_of_lt→Vf,zero_le→Vh,lt_irrefl→VC,le_trans→VS,pow_le_pow_right→VY,lt_succ_of_lt→Wa,succ_mul→WA,mul_le_mul_left→WM,min_eq_left→W5,ne_of_gt→Xc,zero_add→Xv,add_mul_div_right→XA,mul_le_mul_right→XH,mul_comm→XO,div_eq_of_lt→XQ,le_of_lt→Yg,lt_succ_self→Yn,le_add_right→Yo,sub_zero→Yz,sub_self→YA,le_of_eq→Y5,div_lt_of_lt_mul→Zl,lt_of_le_of_lt→ZC,mul_succ→ZW
open Option.some renaming inj→UD
open Or renaming inl→UI
open PySem.Paired renaming length→UK
open Bool renaming false_ne_true→UN,and_eq_true→Vv,eq_false_iff→VB,and_false→Wo,false_and→Xr,true_and→Xz,or_eq_true→Zb,eq_iff_iff→Zc,and_eq_true_iff→Zo,not_eq_true'→Z1
open Array renaming length_toList→UQ,toList_append→VE,getElem?_toList→XB,getElem?_eq_some_iff→XM,append_assoc→YH,toList→Z2
open PySem.F renaming plainAttrs_list→UR,type_list_append→Vb,slot_list_append→Vc,plainAttrs_str→Vp,type_str_join→Ww,slot_str_join→Wx,slot_tuple_iterator_next→X4,called_set→Yc,type_list_pop→Yj,slot_list_pop→Yk,slot_list_insert→YN,args_tuple_add_2→YO,entry_tuple_add→YU,type_str_split→Y2,slot_tuple_add→Y3,slot_str_split→Y4,slot_zip_next→Zz
open Int renaming emod_lt_of_pos→UT,emod_nonneg→U0,toNat_natCast→VL,toNat_of_nonneg→Wq,eq_ofNat_of_zero_le→Xq,ediv_nonneg→Xy,ne_of_gt→YB,lt_or_eq_of_le→ZE,zero_add→ZY,ediv_one→Z0
open List.cons renaming inj→U7
open PyProof.Rows renaming boot_tuple→Vn,boot_isinstance→Vw,slot_tuple_getitem→Vx,callWith_type1→WQ,boot_str→WW,envOfC→W2,AllBare→ZG
open PySem.PassesOwn renaming never→Vy,leaving→Yu
open PySem.Builtin.Str renaming strKind→VD,strSliceIndices→YS
open PySem.Builtin.SmallTypes renaming nextOf→VF,ownedTupleIsFree→VP
open PySem.Txt renaming join→VG,split→Wk,replace→Y9
open PySem.NameKind renaming free→VN,cell→YC
open Option renaming map_eq_some_iff→VR,bind_eq_some_iff→YV
open PySem.Value renaming ref→VT,none→V4,bool→Xu,builtin→Zg
open PySem.Builtin.Slice renaming slicePlaces→V1,sliceAdjust→Xi,sliceApplied→X6
open PySem.StrLaws renaming occBody→V2,glued_eq_join→XN
open PySem.Builtin.Tuple renaming tupleExact→V3,tupleItemsOf→Y0
open False renaming elim→Wf
open ForInStep renaming yield→Wt
open PySem.Calls renaming spliced_cons→WI,Constant_str→Xf,callWith_builtin→XF,spliced_nil→XS,evalArgs_plain→X5,Name_function_global→YZ
open PySem.Builtin.List renaming listTooLong→WL,listFitsIndex→Xg
open Ne renaming symm→WX
open PyProof.Rows.F renaming plain_set_update_loop→XU,entry_set_update_loop→Zt
open True renaming intro→YE
open PySem.Obj renaming mapSeq→YW,data_mapFields→YX
open PySem.Value.type renaming inj→ZQ
open Sum renaming inr→ZR,inl→ZS
open Prod renaming ext→ZV
namespace HD
open PySem PySem.W PySem.Calls PyProof.Rows
def lB (tb:String->Option Za) (p:U1) (w:Vl) (m:Nat) (ann:Option Um):Nat->SharedT->Thread->Option SharedT
 | 0,_,_=>none
 | n+1,s,t=>match through t with
   | true=>some s
   | false=>match stepOk m ann t with
     | false=>none
     | true=>match stepT (denote tb) p w s t with
       | some (s',t')=>lB tb p w m ann n s' t'
       | none=>none
theorem mF {tb:String->Option Za} {p:U1} {w:Vl} {m:Nat} {ann:Option Um}:∀ {n:Nat} {s s':SharedT} {t:Thread},lB tb p w m ann n s t=some s'->topRun tb p w m ann n s.abs t=some s'.abs
 | 0,_,_,_,h=>by cases h
 | n+1,s,s',t,h=>by
   unfold lB at h;unfold topRun;cases he:through t with
   | true=>rw [he] at h;cases h;rfl
   | false =>
     rw [he] at h;cases hk:stepOk m ann t with
     | false=>rw [hk] at h;cases h
     | true =>
       rw [hk] at h;cases hs:stepT (denote tb) p w s t with
       | none=>rw [hs] at h;cases h
       | some r =>
         obtain ⟨s2,t2⟩:=r;rw [hs] at h;rw [stepT_spec hs];exact mF h
def vO:List Wz->Nat->BT->BT
 | [],_,t=>t
 | o::l,n,t=>vO l (n+1) (t.ins n o)
def xf:List Wz->Nat->BT->Bool
 | [],_,_=>true
 | o::l,n,t=>((t.ins n o).get n).isSome && xf l (n+1) (t.ins n o)
theorem oj:∀ (l:List Wz) (n:Nat) (t:BT),xf l n t=true->(vO l n t).list (n+l.length)=t.list n++l
 | [],n,t,_=>by rw [UY];rfl
 | o::l,n,t,h=>by
   obtain ⟨h1,h2⟩:=Zo.mp h;have e:=absHeap_ins (life:=default) h1
   have e2:(t.ins n o).list (n+1)=t.list n++[o]:=by
    have:=congrArg (fun x:VO=>x.objs.toList) e;simpa [absHeap,Heap.push] using this
   have ih:=oj l (n+1) (t.ins n o) h2;rw [e2,U2] at ih;rw [Ui,show n+(l.length+1)=n+1+l.length by omega];exact ih
theorem yt {h:VO} (ok:xf h.objs.toList 0 .nil=true):absHeap (vO h.objs.toList 0 .nil) h.objs.size h.life=h:=by
 have e:=oj _ _ _ ok;rw [Xv] at e;unfold absHeap;rw [<- UQ,e];rfl
noncomputable abbrev oV (p:U1) (N:Nat) (w:Vl) (os:YQ):Option SharedT :=
 lB treeTable p w 11 (some (.ref 6)) N ⟨vO (Xa w.params).objs.toList 0 .nil,11,(Xa w.params).life,Array.mk [],boot_drawn,boot_toks,os⟩ (topStub p)
theorem xv (P:Params):(xf (Xa P).objs.toList 0 .nil,(Xa P).isNs UX,(Xa P).objs.size,(Xa P).nsMap UX "__annotations__")=(true,true,11,some (.ref 6)):=by kernel_rfl
theorem map_some {α β:Type} {o:Option α} {a:α} {f:α->β} {b:β} (h:o=some a) (e:o.map f=some b):f a=b:=by rw [h] at e;exact UD e
abbrev Tr0 (p q:U1) (loose:List UA) (Xt:Uo->Bool) (N:Nat) (g0:Bool):Prop:=∀ (w:Vl) (os:YQ),((oV p N w os).map fun s=>(staticsOk (Zw p.main.body) (Xa w.params) s.abs.heap && namesBound p s.abs.heap && gensDone s.abs && laidKept (Xa w.params) s.abs.heap,s.abs.heap.bltView,pinSeenD q (drecsOf q) s.abs,plainSeenD q loose s.abs,clsSeenW q loose s.abs,(s.abs.heap.accountedOkI (Zw p.main.body),s.abs.heap.isNs UX,s.abs.heap.isNs builtinsNs,tablesOk q s.abs.heap,Xt s.abs,(if g0 then s.abs.gens.size == 0 else !leftWithCleanup s.abs.gens))))=some (true,bltViewBooted,pinGoodD (drecsOf q),plainGoodD q loose,clsGoodW q loose,(true,true,true,true,true,true))
abbrev Tr1 (p q:U1) (N:Nat):Prop:=∀ (w:Vl) (os:YQ),((oV p N w os).map fun s=>seen ((recsOf q).map (·.name)) (ownsOf q) [] { s.abs with gens:=#[] })=some (expectedOf q)
abbrev Tr2 (p q:U1) (loose:List UA) (N:Nat):Prop:=∀ (w:Vl) (os:YQ),((oV p N w os).map fun s=>s.abs.heap.keysOk (looseW q loose) ((recsOf q).map (·.name)) ((litsOf q).map (·.1)) ((clssOf q (looseW q loose)).map (·.name)))=some true
abbrev Tr3 (p q:U1) (N:Nat):Prop:=∀ (w:Vl) (os:YQ),((oV p N w os).map fun s=>tabsOk q s.abs)=some true
abbrev Tr4 (p q:U1) (loose:List UA) (N:Nat):Prop:=∀ (w:Vl) (os:YQ),((oV p N w os).map fun s=>plainSeenE q (looseW q loose) s.abs)=some (plainGoodE q (looseW q loose))
abbrev Tr5 (p q:U1) (N:Nat):Prop:=∀ (w:Vl) (os:YQ),((oV p N w os).map fun s=>wideSeen q s.abs)=some (wideGood q)
theorem uI {p q:U1} {loose:List UA} {Xt:Uo->Bool} {α:Type} {Yf:Uo->α} {Ya:Vl->α} {N:Nat} {g0:Bool}
 (e:opening p=plainProg p.main.scope.names) (hN:Nat.ble 600 N=true) (f:∀ s,fenceModules? p s=some s)
 (r0:Tr0 p q loose Xt N g0)
 (r1:Tr1 p q N)
 (r2:Tr2 p q loose N)
 (r3:Tr3 p q N)
 (r4:Tr4 p q loose N)
 (r5:Tr5 p q N)
 (rY:∀ (w:Vl) (os:YQ),((oV p N w os).map fun s=>Yf s.abs)=some (Ya w)) :
 LeftO p q loose Xt Yf Ya N g0:=fun w=>by
 obtain ⟨⟨h,gs,d,k,os⟩,e1,e'⟩:=VR.mp (boot_open e hN f w);obtain ⟨rfl,rfl,rfl,rfl⟩:h=Xa w.params/\gs=Array.mk []/\d=boot_drawn/\k=boot_toks:=by simpa using e'
 have JS:=xv w.params;have z0:=congrArg Prod.fst JS;have z1:=congrArg (fun x=>x.2.1) JS;have z2:=congrArg (fun x=>x.2.2.1) JS;have z3:=congrArg (fun x=>x.2.2.2) JS;dsimp only at z0 z1 z2 z3;obtain ⟨s1,DQ,hY⟩:=VR.mp (rY w os);have q0:=map_some DQ (r0 w os);have q1:=map_some DQ (r1 w os);have q2:=map_some DQ (r2 w os);have q3:=map_some DQ (r3 w os);have q4:=map_some DQ (r4 w os);have q5:=map_some DQ (r5 w os);have rr:=mF DQ
 have KW:SharedT.abs ⟨vO (Xa w.params).objs.toList 0 .nil,11,(Xa w.params).life,Array.mk [],boot_drawn,boot_toks,os⟩=⟨Xa w.params,Array.mk [],boot_drawn,boot_toks,os⟩:=by
  unfold SharedT.abs;dsimp only;rw [<- z2,yt z0]
 rw [KW] at rr;have a0:=congrArg Prod.fst q0;have a1:=congrArg (fun x=>x.2.1) q0;have a2:=congrArg (fun x=>x.2.2.1) q0;have a3:=congrArg (fun x=>x.2.2.2.1) q0;have a4:=congrArg (fun x=>x.2.2.2.2.1) q0;have b0:=congrArg (fun x=>x.2.2.2.2.2.1) q0;have b1:=congrArg (fun x=>x.2.2.2.2.2.2.1) q0;have b2:=congrArg (fun x=>x.2.2.2.2.2.2.2.1) q0;have b3:=congrArg (fun x=>x.2.2.2.2.2.2.2.2.1) q0;have b4:=congrArg (fun x=>x.2.2.2.2.2.2.2.2.2.1) q0;have b5:=congrArg (fun x=>x.2.2.2.2.2.2.2.2.2.2) q0;dsimp only at a0 a1 a2 a3 a4 b0 b1 b2 b3 b4 b5
 have l2:openSeen q loose (Zw p.main.body) Xt g0 s1.abs=openGood q loose:=by
  unfold openSeen openGood;rw [q1,a1,q2,b0,b1,b2,b3,b4,b5,q3,a2,q4,a3,q5,a4];rfl
 have t:topFrom treeTable p w N ⟨Xa w.params,Array.mk [],boot_drawn,boot_toks,os⟩=some s1.abs:=by
  unfold topFrom;dsimp only;rw [z1,z2,z3,rr];show (match staticsOk (Zw p.main.body) (Xa w.params) s1.abs.heap && namesBound p s1.abs.heap && gensDone s1.abs && laidKept (Xa w.params) s1.abs.heap with | true=>_ | false=>_)=_;rw [a0]
 unfold openEnds;rw [e1];show (topFrom treeTable p w N _).map _=_;rw [t];exact congrArg some (ZV l2 hY)
def p0:Params:={ strHash:=fun _=>0,shareClass:=fun _=>0,mergeTok:=fun t=>t,idOf:=fun _=>0,idOfShared:=fun _ _=>0,followText:=fun _=>false,idOfImm:=fun _=>0 }
structure Pc (p:U1) (N:Nat) (as:List Ul) (vs:Vl->List (Option Wz)):Prop where
 out:∀ (w:Vl) (os:YQ),((oV p N w os).map fun s=>as.map s.abs.heap.get?)=some (vs w)
theorem Pc.k {p:U1} {N:Nat} {as:List Ul} {K:Params->Frag} {e:∀ P,as=(K P).map (·.1)} (h:Pc p N as fun w=>(K w.params).map fun p=>some p.2):∀ (w:Vl) (os:YQ),((oV p N w os).map fun s=>(kHook K as e).obs s.abs)=some ((kHook K as e).val w):=h.out
end HD
section
open PySem PySem.W PyProof.Rows
def LAW.vw:U1:=PySem.W.view PySem.Challenge.pw_boughbook_k32_texts_of_no_book [1,2,3,4,6,7,8,9,10,11,12,13,14,15,16,17,18,19,21,22,24,25,26,27,28,29,30,31,32,34,36,37,38,39,40,41,42,43,44,45,46,47,48,49,50,52,53,54,55,56,57,58,59,60,61,62,63,64,65]
def LAW.xt (s:Uo):Bool:=xlAt LAW.vw [] s && recOk (RowW.records (OpenRow.toRowW (OpenLaw.row PySem.Challenge.rw_boughbook_k32_texts_of_no_book))) s
set_option maxHeartbeats 0 in
theorem LAW.lk0:HD.Tr0 PySem.Challenge.pw_boughbook_k32_texts_of_no_book LAW.vw [] LAW.xt 90000 true:=fun _ _=>by kernel_rfl
set_option maxHeartbeats 0 in
theorem LAW.lk1:HD.Tr1 PySem.Challenge.pw_boughbook_k32_texts_of_no_book LAW.vw 90000:=fun _ _=>by kernel_rfl
set_option maxHeartbeats 0 in
theorem LAW.lk2:HD.Tr2 PySem.Challenge.pw_boughbook_k32_texts_of_no_book LAW.vw [] 90000:=fun _ _=>by kernel_rfl
set_option maxHeartbeats 0 in
theorem LAW.lk3:HD.Tr3 PySem.Challenge.pw_boughbook_k32_texts_of_no_book LAW.vw 90000:=fun _ _=>by kernel_rfl
set_option maxHeartbeats 0 in
theorem LAW.lk4:HD.Tr4 PySem.Challenge.pw_boughbook_k32_texts_of_no_book LAW.vw [] 90000:=fun _ _=>by kernel_rfl
set_option maxHeartbeats 0 in
theorem LAW.lk5:HD.Tr5 PySem.Challenge.pw_boughbook_k32_texts_of_no_book LAW.vw 90000:=fun _ _=>by kernel_rfl
section
local macro_rules | `(tactic| o_head $_H) => `(tactic| assumption)
set_option maxHeartbeats 0 in
theorem LAW.d0 (h:OpenRow.Holds (OpenLaw.row PySem.Challenge.rw_boughbook_k32_texts_of_no_book)):OpenRow.Holds (OpenLaw.row PySem.Challenge.rw_boughbook_k32_texts_of_no_book):=by
 k_head
end
noncomputable def LAW.ks:List Ul:=(LAW.d0.heap_1 HD.p0).map (·.1)
theorem LAW.ke:∀ P,LAW.ks=(LAW.d0.heap_1 P).map (·.1):=fun _=>by kernel_rfl
set_option maxHeartbeats 0 in
theorem LAW.kp:HD.Pc PySem.Challenge.pw_boughbook_k32_texts_of_no_book 90000 LAW.ks fun w=>(LAW.d0.heap_1 w.params).map fun p=>some p.2:=⟨fun _ _=>by kernel_rfl⟩
end
namespace L2
open PySem PySem.Spec PyProof.Rows
abbrev Key:=Sum Int UA
def yi:Key->Um->Bool
 | .inl k,v=>Value.isInt k v
 | .inr x,v=>Value.isStrOf x v
def aa4 (w:Vl):Key->Int
 | .inl k=>hashInt k
 | .inr x=>hashStr w x
theorem bW:∀ {k:Key} {v:Um},yi k v=true->(∃ i t,k=ZS i/\v=Value.int i t)∨(∃ x t,k=ZR x/\v=Value.str x t)
 | .inl i,v,h=>by
   obtain ⟨t,e⟩:=Value.isInt_shape (k:=i) (v:=v) h;exact .inl ⟨i,t,rfl,e⟩
 | .inr x,v,h=>by
   obtain ⟨t,e⟩:=Value.isStrOf_shape (x:=x) (v:=v) h;exact .inr ⟨x,t,rfl,e⟩
theorem zd (a b:Int):decide ((ZS a:Key)=ZS b)=(a == b):=by
 by_cases e:a=b
 · subst e;simp
 · have h:¬ (ZS a:Key)=ZS b:=fun q=>e (Sum.inl.inj q);rw [decide_eq_false h];exact (beq_eq_false_iff_ne.mpr e).symm
theorem zc (a b:UA):decide ((ZR a:Key)=ZR b)=decide (a=b):=by
 by_cases e:a=b
 · subst e;simp
 · have h:¬ (ZR a:Key)=ZR b:=fun q=>e (Sum.inr.inj q);rw [decide_eq_false h,decide_eq_false e]
theorem yw (a:Int) (b:UA):decide ((ZS a:Key)=ZR b)=false:=decide_eq_false (fun q=>nomatch q)
theorem yo (a:UA) (b:Int):decide ((ZR a:Key)=ZS b)=false:=decide_eq_false (fun q=>nomatch q)
def oG (prog:U1) (w:Vl):PySem.KeyKind prog w Key where
 is:=yi
 hash:=aa4 w
 inj:=fun v a b ha hb=>by
  rcases bW ha with ⟨i,t,rfl,rfl⟩ | ⟨x,t,rfl,rfl⟩
  · rcases bW hb with ⟨j,u,rfl,e⟩ | ⟨y,u,rfl,e⟩
    · injection e with e1 _;rw [e1]
    · exact nomatch e
  · rcases bW hb with ⟨j,u,rfl,e⟩ | ⟨y,u,rfl,e⟩
    · exact nomatch e
    · injection e with e1 _;rw [e1]
 byValue:=fun k v h=>by
  rcases bW h with ⟨i,t,rfl,rfl⟩ | ⟨x,t,rfl,rfl⟩ <;> rfl
 pyHash:=fun hv h=>by
  rcases bW hv with ⟨i,t,rfl,rfl⟩ | ⟨x,t,rfl,rfl⟩
  · exact wpAny_pyHash_int h
  · exact wpAny_pyHash_str h
 eqBool:=fun hu hv h=>by
  rcases bW hu with ⟨i,t,rfl,rfl⟩ | ⟨x,t,rfl,rfl⟩
  · rcases bW hv with ⟨j,u,rfl,rfl⟩ | ⟨y,u,rfl,rfl⟩
    · rw [zd] at h;exact wpAny_eqBool_int h
    · rw [yw] at h;exact SeqAt.EqAt.int_str i t y u _ _ _ _ h
  · rcases bW hv with ⟨j,u,rfl,rfl⟩ | ⟨y,u,rfl,rfl⟩
    · rw [yo] at h;exact SeqAt.EqAt.str_int x t j u _ _ _ _ h
    · rw [zc] at h;exact wpAny_eqBool_str h
 «strs»:=fun k x t v h=>by
  rcases bW h with ⟨i,u,rfl,e⟩ | ⟨y,u,rfl,e⟩
  · exact nomatch e
  · injection e with e1 _;subst e1;cases v <;> rfl
end L2
namespace L2
open PySem PySem.Spec PyProof.Rows
set_option genInjectivity true in
inductive V where
 | non | bl (b:Bool) | int (i:Int) | str (x:UA) | byt (b:Array UInt8) | flt (b:UInt64) | ref (a:Ul) | ty (n:String)
 deriving DecidableEq
def RelV:V->Um->Prop
 | .non,u=>u=V4
 | .bl b,u=>u=Xu b
 | .int i,u=>∃ t,u=Value.int i t
 | .str x,u=>∃ t,u=Value.str x t
 | .byt b,u=>∃ t,u=Value.bytes b t
 | .flt b,u=>∃ t,u=Value.float b t
 | .ref a,u=>u=VT a
 | .ty n,u=>u=Value.type n
abbrev Vals:List V->List Um->Prop:=Vg RelV
theorem Vals.length {xs:List V} {us:List Um} (r:Vals xs us):xs.length=us.length:=UK r
theorem Vals.get:∀ {xs:List V} {us:List Um} {i:Nat} {x:V},Vals xs us->xs[i]?=some x->∃ u,us[i]?=some u/\RelV x u
 | _,_,_,_,.nil,e=>by simp at e
 | _,_,0,_,.cons r _,e=>by simp at e;subst e;exact ⟨_,rfl,r⟩
 | _,_,i+1,x,.cons _ t,e=>by
   obtain ⟨u,h1,h2⟩:=Vals.get (i:=i) (x:=x) t (by simpa using e);exact ⟨u,by simpa using h1,h2⟩
theorem Vals.set {x:V} {u:Um} (r:RelV x u):∀ {xs:List V} {us:List Um} (i:Nat),Vals xs us->Vals (xs.set i x) (us.set i u)
 | _,_,_,.nil=>.nil
 | _,_,0,.cons _ t=>.cons r t
 | _,_,i+1,.cons q t=>.cons q (Vals.set r i t)
theorem Vals.append:∀ {xs ys:List V} {us ws:List Um},Vals xs us->Vals ys ws->Vals (xs++ys) (us++ws)
 | _,_,_,_,.nil,s=>s
 | _,_,_,_,.cons r t,s=>.cons r (Vals.append t s)
theorem Vals.take:∀ {xs:List V} {us:List Um} (n:Nat),Vals xs us->Vals (xs.take n) (us.take n)
 | _,_,0,_=>.nil
 | _,_,_+1,.nil=>.nil
 | _,_,n+1,.cons r t=>.cons r (Vals.take n t)
theorem Vals.drop:∀ {xs:List V} {us:List Um} (n:Nat),Vals xs us->Vals (xs.drop n) (us.drop n)
 | _,_,0,r=>r
 | _,_,_+1,.nil=>.nil
 | _,_,n+1,.cons _ t=>Vals.drop n t
def RelO:Option V->Option Um->Prop
 | some v,some u=>RelV v u
 | none,none=>True
 | _,_=>False
def KV {κ:Type}:List (κ×V)->List (κ×Um)->Prop:=Vg fun (p:κ×V) (q:κ×Um)=>p.1=q.1/\RelV p.2 q.2
def kV:Key->V
 | .inl i=>.int i
 | .inr x=>.str x
inductive HO where
 /-- a list -/
 | lst (xs:List V)
 /-- a tuple (never changes) -/
 | tup (xs:List V)
 /-- a dict Hs keys are ints and texts;one Hs keys are tuples of ints and texts (CL empty one is both) -/
 | dK (AU:List (Key×V)) | dT (AU:List (List Key×V))
 /-- a set of ints: its members,its size -/
 | set (S:Int->Bool) (n:Nat)
 /-- an instance of CL class at C,its dict at dx,its attributes -/
 | ins (C dx:Ul) (fs:List (UA×V))
 /-- CL dict of CL instance at x -/
 | own (x:Ul)
 /-- CL dict of an exception -/
 | xd (fs:List (UA×V))
 /-- a bound method,f of x -/
 | met (f x:Ul)
 /-- a range object lo,lo+1,.. below hi -/
 | rng (lo hi:Int)
 /-- a thing FJ is known to CL object (CL script;a dict while a loop walks it): read,never written while it is so -/
 | frz (o:Wz) (u:HO)
 /-- a code Hu table -/
 | tbl (ps:Array Um)
 /-- any other thing,by FK is true of its one object (a def of NR own: P' a S n:=HO.ext fun h=>..) -/
 | ext (φ:VO->Prop)
abbrev Hp:=Ul->Option HO
def upd (H:Hp) (a:Ul) (o:HO):Hp:=fun b=>if b=a then some o else H b
theorem ae {H:Hp} {a:Ul} {o:HO}:upd H a o a=some o:=by unfold upd;rw [if_pos rfl]
theorem au {H:Hp} {a b:Ul} {o:HO} (h:b≠a):upd H a o b=H b:=by unfold upd;rw [if_neg h]
theorem xL {H:Hp} {a:Ul} {o u:HO}:upd (upd H a o) a u=upd H a u:=by
 funext b;unfold upd;split <;> rfl
theorem tO {H:Hp} {a b:Ul} {o u:HO} (h:H a=some o) (h':H b=some u) (d:o≠u):a≠b:=by
 intro e;subst e;rw [h] at h';exact d (UD h')
theorem aR {H:Hp} {a b:Ul} {o:HO} (h:H a=some o) (h':H b=none):a≠b:=by
 intro e;subst e;rw [h] at h';cases h'
section
variable (P:U1) (w:Vl)
def ObjOk (H:Hp) (h:VO) (a:Ul):HO->Prop
 | .lst xs=>xs.length<=US/\∃ (its:List Um) (n:Nat),Vals xs its/\h.get? a=some { cls:=.type "list",data:=.seq its.toArray n }
 | .tup xs=>xs.length<=US/\∃ (its:List Um) (n:Nat),Vals xs its/\h.get? a=some { cls:=.type "tuple",data:=.seq its.toArray n }
 | .dK AU=>AU.length<=US/\(a == sysModules)=false/\∃ vs,KV AU vs/\h.DictOf (oG P w) a vs
 | .dT AU=>AU.length<=US/\(a == sysModules)=false/\∃ xs:List (List Key×Ul×Um),
  Vg (fun (p:List Key×V) (q:List Key×Ul×Um)=>p.1=q.1/\H q.2.1=some (.tup (p.1.map kV))/\RelV p.2 q.2.2) AU xs ∧
  ∃ o es ep,h.get? a=some o/\o.ExactDict/\o.data=.dict es ep/\es.toList=xs.map (entryOfKey (tupleKind (oG P w)))/\(xs.map (·.1)).Nodup
 | .set S n=>h.SetOf (intKind P w) a S n
 | .ins C dx fs=>H dx=some (.own a)/\fs.length<=1000/\dx≠a/\h.get? a=some (W3 C dx) ∧
  ∃ mA,h.Ns1 dx mA/\(∀ f,RelO (fs.lookup f) (mA f))/\PySem.Within mA (fs.map (·.1))
 | .own _=>∃ o,h.get? a=some o
 | .xd fs=>∃ mA,h.Ns1 a mA/\∀ f,RelO (fs.lookup f) (mA f)
 | .rng lo hi=>∃ t u v,h.get? a=some { cls:=.type "range",data:=.fields #[.int lo t,.int hi u,.int 1 v] }
 | .frz o u=>h.get? a=some o/\ObjOk H h a u
 | .tbl ps=>h.get? a=some { cls:=.none,data:=.fields ps }
 | .met f x=>h.get? a=some (ZU (.ref f) (.ref x))
 | .ext φ=>φ h/\(∃ o,h.get? a=some o)/\∀ h1 h2:VO,φ h1->(∀ o,h1.get? a=some o->h2.get? a=some o)->φ h2
def HOk (H:Hp) (h:VO):Prop:=∀ a o,H a=some o->ObjOk P w H h a o
end
section
variable {P:U1} {w:Vl} {H H':Hp} {h h':VO} {a:Ul} {o:HO}
theorem ObjOk.lt (x:ObjOk P w H h a o):a<h.objs.size:=by
 cases o with
 | lst xs=>obtain ⟨_,_,_,_,e⟩:=x;exact UJ e
 | tup xs=>obtain ⟨_,_,_,_,e⟩:=x;exact UJ e
 | dK AU=>obtain ⟨_,_,_,_,o,_,_,e,_⟩:=x;exact UJ e
 | dT AU=>obtain ⟨_,_,_,_,o,_,_,e,_⟩:=x;exact UJ e
 | set S n=>obtain ⟨o,_,_,_,e,_⟩:=x;exact UJ e
 | ins C dx fs=>obtain ⟨_,_,_,e,_⟩:=x;exact UJ e
 | own y=>obtain ⟨_,e⟩:=x;exact UJ e
 | xd fs=>obtain ⟨_,⟨_,_,_,e,_⟩,_⟩:=x;exact UJ e
 | rng lo hi=>obtain ⟨_,_,_,e⟩:=x;exact UJ e
 | frz ob u=>obtain ⟨e,_⟩:=x;exact UJ e
 | tbl ps=>exact UJ (show h.get? a=some _ from x)
 | met f y=>exact UJ (show h.get? a=some _ from x)
 | ext φ=>obtain ⟨_,⟨_,e⟩,_⟩:=x;exact UJ e
theorem Vg.mapP {α β:Type} {F G:α->β->Prop}:∀ {Hv:List α} {l₂:List β},Vg F Hv l₂->(∀ a b,F a b->G a b)->Vg G Hv l₂
 | _,_,.nil,_=>.nil
 | _,_,.cons r t,f=>.cons (f _ _ r) (Vg.mapP t f)
theorem ObjOk.stay (x:ObjOk P w H h a o) (k:∀ b u,(b=a∨H b=some (.own a))->h.get? b=some u->h'.get? b=some u)
 (ho:∀ b,H b=some (.own a)->H' b=some (.own a)) (ht:∀ b xs,H b=some (.tup xs)->H' b=some (.tup xs)):ObjOk P w H' h' a o:=by
 induction o with
 | lst xs=>obtain ⟨z,its,n,r,e⟩:=x;exact ⟨z,its,n,r,k _ _ (.inl rfl) e⟩
 | tup xs=>obtain ⟨z,its,n,r,e⟩:=x;exact ⟨z,its,n,r,k _ _ (.inl rfl) e⟩
 | dK AU=>obtain ⟨z,y,vs,r,ob,es,ep,e,c⟩:=x;exact ⟨z,y,vs,r,ob,es,ep,k _ _ (.inl rfl) e,c⟩
 | dT AU =>
   obtain ⟨z,y,xs,r,ob,es,ep,e,c⟩:=x;exact ⟨z,y,xs,Vg.mapP r fun p q z=>⟨z.1,ht _ _ z.2.1,z.2.2⟩,ob,es,ep,k _ _ (.inl rfl) e,c⟩
 | set S n=>obtain ⟨ob,es,ep,t,e,c⟩:=x;exact ⟨ob,es,ep,t,k _ _ (.inl rfl) e,c⟩
 | ins C dx fs =>
   obtain ⟨d,z,ne,e,mA,⟨od,es,ep,e2,c⟩,r⟩:=x;exact ⟨ho _ d,z,ne,k _ _ (.inl rfl) e,mA,⟨od,es,ep,k _ _ (.inr d) e2,c⟩,r⟩
 | own y=>obtain ⟨ob,e⟩:=x;exact ⟨ob,k _ _ (.inl rfl) e⟩
 | xd fs=>obtain ⟨mA,⟨od,es,ep,e,c⟩,r⟩:=x;exact ⟨mA,⟨od,es,ep,k _ _ (.inl rfl) e,c⟩,r⟩
 | rng lo hi=>obtain ⟨t,u,v,e⟩:=x;exact ⟨t,u,v,k _ _ (.inl rfl) e⟩
 | frz ob u ih=>obtain ⟨e,q⟩:=x;exact ⟨k _ _ (.inl rfl) e,ih q⟩
 | tbl ps =>
   have e:h.get? a=some { cls:=.none,data:=.fields ps }:=x;show h'.get? a=some { cls:=.none,data:=.fields ps };exact k a _ (.inl rfl) e
 | met f y =>
   have e:h.get? a=some (ZU (.ref f) (.ref y)):=x;show h'.get? a=some (ZU (.ref f) (.ref y));exact k a _ (.inl rfl) e
 | ext φ=>obtain ⟨p,⟨o,e⟩,st⟩:=x;exact ⟨st _ _ p fun o q=>k _ _ (.inl rfl) q,⟨o,k _ _ (.inl rfl) e⟩,st⟩
theorem HOk.lt (x:HOk P w H h) (e:H a=some o):a<h.objs.size:=(x a o e).lt
theorem HOk.fresh (x:HOk P w H h) (e:h.objs.size<=a):H a=none:=by
 cases q:H a with
 | none=>rfl
 | some u=>exact absurd (Vd (x.lt q) e) (VC _)
theorem HOk.kept (x:HOk P w H h) (k:∀ b u,h.get? b=some u->h'.get? b=some u):HOk P w H h':=fun a o e =>
 (x a o e).stay (fun b u _ q=>k b u q) (fun _ q=>q) fun _ _ q=>q
theorem HOk.laid (x:HOk P w H h) (k:∀ b u,h.get? b=some u->h'.get? b=some u) (hp:h.objs.size<=a) (new:ObjOk P w (upd H a o) h' a o):HOk P w (upd H a o) h':=fun b u e=>by
 have hn:=x.fresh hp;by_cases hb:b=a
 · subst hb;rw [ae] at e;cases e;exact new
 · rw [au hb] at e;exact (x b u e).stay (fun c v _ q=>k c v q) (fun c q=>by rw [au (aR q hn)];exact q) fun c xs q=>by rw [au (aR q hn)];exact q
end
def Rd (H:Hp) (a:Ul) (u:HO):Prop:=H a=some u∨∃ o,H a=some (.frz o u)
theorem Rd.ok {P:U1} {w:Vl} {H:Hp} {h:VO} {a:Ul} {u:HO} (r:Rd H a u) (x:HOk P w H h):ObjOk P w H h a u:=by
 rcases r with r | ⟨o,r⟩
 · exact x a u r
 · obtain ⟨_,q⟩:=x a _ r;exact q
def Mut:Option HO->Prop
 | some (.lst _)=>True
 | some (.dK _)=>True
 | some (.dT _)=>True
 | some (.set _ _)=>True
 | some (.ins _ _ _)=>True
 | some (.ext _)=>True
 | _=>False
section
variable {P:U1} {w:Vl} {H:Hp} {h h':VO} {x e:Ul} {o':HO}
theorem HOk.write (ok:HOk P w H h) (mu:Mut (H x)) (he:e=x∨H e=some (.own x)) (k:∀ b u,b≠e->h.get? b=some u->h'.get? b=some u) (GF:∃ u,h'.get? e=some u)
 (new:ObjOk P w (upd H x o') h' x o'):HOk P w (upd H x o') h':=fun b u q=>by
 have Hw:∀ c y,H c=some (.own y)->c≠x:=fun c y r z=>by subst z;rw [r] at mu;exact mu
 have KY:∀ c xs,H c=some (.tup xs)->c≠x:=fun c xs r z=>by subst z;rw [r] at mu;exact mu
 by_cases hb:b=x
 · subst hb;rw [ae] at q;cases q;exact new
 · rw [au hb] at q;by_cases El:b=e
   · have q':H b=some (.own x):=by
      rcases he with z | z
      · exact absurd (El.trans z) hb
      · rw [El];exact z
     rw [q] at q';cases q';obtain ⟨v,hv⟩:=GF;exact ⟨v,by rw [El];exact hv⟩
   · refine (ok b u q).stay (fun c v hc r=>k c v ?_ r) (fun c r=>by rw [au (Hw c b r)];exact r) fun c xs r=>by rw [au (KY c xs r)];exact r
     rcases hc with rfl | hc
     · exact El
     · rintro rfl;rcases he with z | z
       · exact Hw c b hc z
       · rw [hc] at z;cases z;exact hb rfl
end
structure Un (fs ex:List Ul) (H H':Hp) (h h':VO):Prop where
 keep:∀ b o,h.get? b=some o->H b=none->b∉fs->b∉ex->h'.get? b=some o
 slot:∀ b o,h.get? b=some o->H b=none->b∈fs->b∉ex->∃ sl,h'.get? b=some { o with slots:=sl }
 free:∀ b o,h.get? b=some o->H b=none->b∉ex->H' b=none
 there:∀ b o,h.get? b=some o->b∉ex->∃ o',h'.get? b=some o'
 tups:∀ b xs,H b=some (.tup xs)->H' b=some (.tup xs)
 frzs:∀ b o u,H b=some (.frz o u)->H' b=some (.frz o u)
 tbls:∀ b ps,H b=some (.tbl ps)->∃ more,H' b=some (.tbl (ps++more))
section
variable {fs GG ex JT:List Ul} {H H1 H2:Hp} {h h1 h2 h':VO} {a x e:Ul} {o:HO}
theorem Un.any (u:Un fs ex H H1 h h1) {b:Ul} {ob:Wz} (q:h.get? b=some ob) (n:H b=none) (hx:b∉ex):∃ sl,h1.get? b=some { ob with slots:=sl }:=by
 by_cases hb:b∈fs
 · exact u.slot b ob q n hb hx
 · exact ⟨ob.slots,u.keep b ob q n hb hx⟩
theorem Un.kept (k:∀ b u,h.get? b=some u->h'.get? b=some u):Un fs ex H H h h' :=
 ⟨fun b ob q _ _ _=>k b ob q,fun b ob q _ _ _=>⟨ob.slots,k b ob q⟩,fun _ _ _ n _=>n,fun b ob q _=>⟨ob,k b ob q⟩,fun _ _ q=>q,fun _ _ _ q=>q,fun _ ps q=>⟨#[],by rw [q];simp⟩⟩
theorem Un.refl:Un fs ex H H h h:=Un.kept fun _ _ q=>q
theorem Un.laid (k:∀ b u,h.get? b=some u->h'.get? b=some u) (hp:h.objs.size<=a) (hn:H a=none):Un fs ex H (upd H a o) h h' where
 keep:=fun b u q _ _ _=>k b u q
 slot:=fun b u q _ _ _=>⟨u.slots,k b u q⟩
 free:=fun b u q n _=>by rw [au (Vf (Vd (UJ q) hp))];exact n
 there:=fun b u q _=>⟨u,k b u q⟩
 tups:=fun b xs q=>by rw [au (aR q hn)];exact q
 frzs:=fun b u xs q=>by rw [au (aR q hn)];exact q
 tbls:=fun b ps q=>⟨#[],by rw [au (aR q hn),q];simp⟩
theorem Un.write (mu:Mut (H x)) (he:e=x∨H e=some (.own x)) (k:∀ b u,b≠e->h.get? b=some u->h'.get? b=some u) (GF:∃ u,h'.get? e=some u):Un fs ex H (upd H x o) h h':=by
 have hx:∀ b,H b=none->b≠x:=fun b n z=>by subst z;rw [n] at mu;exact mu
 have hb:∀ b,H b=none->b≠e:=fun b n z=>by
  subst z;rcases he with r | r
  · exact hx b n r
  · rw [n] at r;cases r
 have hm:∀ b u,H b=some u->¬ Mut (some u)->b≠x:=fun b u q nm z=>by subst z;rw [q] at mu;exact nm mu
 refine ⟨fun b u q n _ _=>k b u (hb b n) q,fun b u q n _ _=>⟨u.slots,k b u (hb b n) q⟩,fun b u q n _=>by rw [au (hx b n)];exact n,fun b u q _=>?_,
  fun b xs q=>by rw [au (hm b _ q fun z=>z)];exact q,fun b u xs q=>by rw [au (hm b _ q fun z=>z)];exact q,fun b ps q=>⟨#[],by rw [au (hm b _ q fun z=>z),q];simp⟩⟩
 by_cases El:b=e
 · subst El;exact GF
 · exact ⟨u,k b u El q⟩
end
def trk (h:VO) (H:Hp):List Ul:=(Vr h.objs.size).filter fun a=>(H a).isSome
def oP (h:VO) (H:Hp):VO:=PySem.W.hideAll h (trk h H)
theorem uh (h:VO) (H:Hp):(oP h H).objs.size=h.objs.size:=PySem.W.hideAll_size _ _
theorem vL {h:VO} {H:Hp} {b:Ul} {o:Wz} (e:h.get? b=some o) (n:H b=none):(oP h H).get? b=some o :=
 PySem.W.hideAll_get _ e fun hm=>by
  have q:(H b).isSome=true:=(X7.mp hm).2;rw [n] at q;simp at q
theorem wI {h:VO} {H:Hp} {b:Ul} {o:Wz} (e:(oP h H).get? b=some o):h.get? b=some o/\H b=none:=by
 have e':h.get? b=some o:=PySem.W.of_hideAll (trk h H) e;refine ⟨e',?_⟩;cases q:H b with
 | none=>rfl
 | some x =>
   have hm:b∈trk h H:=X7.mpr ⟨Xo.mpr (UJ e'),by simp [q]⟩;have z:(oP h H).get? b=none:=PySem.W.hideAll_none (trk h H) hm;rw [z] at e;cases e
end L2
namespace L2
open PySem PySem.Spec PyProof.Rows
structure Mod (K:Uj) (mg:UA->Option Um) (base:VO):Prop where
 kin:K.In base
 glob:base.Ns UX mg
 blt:∃ mb,base.Ns builtinsNs mb/\∀ x:UA,x≠"__name__"->mb x=YM x
 nolimit:base.NoLimit
set_option genInjectivity true in
structure Cx where
 prog:U1
 w:Vl
 K:Uj
 mg:UA->Option Um
 base:VO
 A:Vm
 N:List UA
 s₀:Uo
 H₀:Hp
 env:Zp
 outer:List Zp
 stack:List Zp
 ex:List Ul
 fn:UA->Bool
 calm:Bool
 pn:List (Ul×Wz)
 xe:Um->Uo->Prop
def frs (l:List Zp):List Ul:=l.filterMap (·.frame)
abbrev Cx.fs (X:Cx):List Ul:=frs X.outer
def Vis (sc:Xh) (x:UA):Prop:=sc.names.lookup x=some .local∨sc.names.lookup x=some .cell∨sc.names.lookup x=some .free
def Loc (sc:Xh) (x:UA):Prop:=sc.names.lookup x=some .local∨sc.names.lookup x=some .cell
def Look (env:Zp) (h:VO) (m:UA->Option Um) (x:UA) (u:Um):Prop :=
 (env.kindOf x=some .local/\m x=some u)∨((env.kindOf x=some .cell∨env.kindOf x=some .free)/\∃ c,env.cells.lookup x=some c/\h.IsCell c (some u))
structure Cx.Ok (X:Cx):Prop where
 mod:Mod X.K X.mg X.base
 kind:X.env.scope.kind=.function
 glob:X.env.globals=UX
 blt:X.env.builtins=builtinsNs
 above:X.s₀.heap.objs.size<=X.env.locals
 inj:∀ x y c,X.env.cells.lookup x=some c->X.env.cells.lookup y=some c->x=y
 has:∀ x,(X.env.kindOf x=some .cell∨X.env.kindOf x=some .free)->∃ c,X.env.cells.lookup x=some c
 cab:∀ x c,X.fn x=true->X.env.cells.lookup x=some c->X.s₀.heap.objs.size<=c
 hd:X.calm=true->X.A.handled=none
 frames:X.A.frames=some X.stack
 stk:X.stack=X.outer∨(X.stack=X.env::X.outer/\X.env.frame=some X.env.locals)
 exf:∀ b∈X.ex,b≠X.env.locals/\∀ x c,X.env.cells.lookup x=some c->c≠b
 bs:∀ b o,X.base.get? b=some o->X.s₀.heap.get? b=some o/\X.H₀ b=none
 bsz:X.base.objs.size<=X.s₀.heap.objs.size
 noex:∀ b o,X.base.get? b=some o->b∉X.ex
 exfs:∀ b∈X.ex,b∉X.fs
 funs:X.s₀.heap.FunFrames X.base X.outer
 frf:∀ b∈X.fs,X.H₀ b=none
structure Inv (X:Cx) (pins:List (Ul×Wz)) (σ:List (Option V)) (H:Hp) (s:Uo):Prop where
 ok:X.Ok
 os:s.os=X.s₀.os
 bare:ZG s.gens
 base:Un X.fs X.ex X.H₀ H X.s₀.heap s.heap
 loc:∃ m,s.heap.Ns X.env.locals m/\∀ (i:Nat) (x:UA) (v:V),X.N[i]?=some x->σ[i]?=some (some v)->Vis X.env.scope x->∃ u,RelV v u/\Look X.env s.heap m x u
 cell:∀ x c,X.env.cells.lookup x=some c->∃ v,s.heap.IsCell c v
 free:H X.env.locals=none
 freeC:∀ x c,X.env.cells.lookup x=some c->H c=none
 pin:∀ p∈X.pn++pins,s.heap.get? p.1=some p.2/\H p.1=none/\p.1≠X.env.locals/\p.1∉X.fs/\∀ v,p.2.data≠.cell v
 hok:HOk X.prog X.w H s.heap
 len:σ.length=X.N.length
section
variable {X:Cx} {pins:List (Ul×Wz)} {σ:List (Option V)} {H H':Hp} {s:Uo} {h':VO}
theorem Cx.Ok.nofr (ok:X.Ok) {b:Ul} {o:Wz} (e:X.base.get? b=some o):b∉X.fs:=fun hb=>by
 have:=(ok.funs.mem hb).1;rw [e] at this;cases this
theorem Inv.bs (I:Inv X pins σ H s):∀ b o,X.base.get? b=some o->s.heap.get? b=some o/\H b=none:=fun b o e =>
 ⟨I.base.keep b o (I.ok.bs b o e).1 (I.ok.bs b o e).2 (I.ok.nofr e) (I.ok.noex b o e),I.base.free b o (I.ok.bs b o e).1 (I.ok.bs b o e).2 (I.ok.noex b o e)⟩
theorem Inv.bk (I:Inv X pins σ H s):∀ b o,X.base.get? b=some o->s.heap.get? b=some o:=fun b o e=>(I.bs b o e).1
theorem Inv.mod (I:Inv X pins σ H s):Mod X.K X.mg X.base:=I.ok.mod
theorem Inv.kIn (I:Inv X pins σ H s):X.K.In s.heap:=I.ok.mod.kin.keeps I.bk
theorem Inv.lt (I:Inv X pins σ H s):X.env.locals<s.heap.objs.size:=let ⟨_,hn,_⟩:=I.loc;hn.lt
theorem Inv.sz (I:Inv X pins σ H s):X.s₀.heap.objs.size<=s.heap.objs.size:=VS I.ok.above (Yg I.lt)
theorem Inv.nofs (I:Inv X pins σ H s) {a:Ul} (h:s.heap.objs.size<=a):a∉X.fs:=fun hb=>by
 obtain ⟨_,o,ho,_⟩:=I.ok.funs.mem hb;exact absurd (Vd (UJ ho) (VS I.sz h)) (VC _)
theorem Inv.cne (I:Inv X pins σ H s):∀ x c,X.env.cells.lookup x=some c->c≠X.env.locals:=fun x c e z=>by
 obtain ⟨v,o,ho,hd⟩:=I.cell x c e;obtain ⟨m,⟨o',es,ep,Ct,E8,_⟩,_⟩:=I.loc;rw [z,Ct] at ho;cases ho;rw [E8] at hd;cases hd
theorem Inv.funs (I:Inv X pins σ H s):s.heap.FunFrames X.base X.outer:=by
 have all:∀ (l:List Zp),(∀ b∈frs l,b∈X.fs)->X.s₀.heap.FunFrames X.base l->s.heap.FunFrames X.base l:=by
  intro l;induction l with
  | nil=>intro _ _;trivial
  | cons env r ih =>
    intro hs hl;obtain ⟨hk,⟨L,o,hf,hn,ho,hd⟩,hr⟩:=hl;have hL:L∈X.fs:=hs L (by unfold frs;rw [Xm,hf];exact Uy);obtain ⟨sl,e⟩:=I.base.slot L o ho (I.ok.frf L hL) hL fun z=>I.ok.exfs L z hL;exact ⟨hk,⟨L,_,hf,hn,e,hd⟩,ih (fun b hb=>hs b (by unfold frs;rw [Xm,hf];exact Uv _ hb)) hr⟩
 exact all X.outer (fun _ hb=>hb) I.ok.funs
theorem Inv.stack (I:Inv X pins σ H s):s.heap.FunFrames X.base X.stack:=by
 rcases I.ok.stk with e | ⟨e,hf⟩
 · rw [e];exact I.funs
 · rw [e];obtain ⟨m,hn,_⟩:=I.loc;refine .cons (by rw [I.ok.kind];decide) hf hn ?_ I.funs;exact Heap.get?_none_of_le (VS I.ok.bsz I.ok.above)
theorem Inv.stkSub (I:Inv X pins σ H s):∀ b∈frs X.stack,b∈X.env.locals::X.fs:=fun b hb=>by
 rcases I.ok.stk with e | ⟨e,hf⟩
 · rw [e] at hb;exact Uv _ hb
 · rw [e] at hb;unfold frs at hb;rw [Xm,hf] at hb;exact hb
theorem Inv.stkFree (I:Inv X pins σ H s):∀ b∈frs X.stack,H b=none:=fun b hb=>by
 rcases UH.mp (I.stkSub b hb) with e | hb
 · rw [e];exact I.free
 · obtain ⟨_,o,ho,_⟩:=I.ok.funs.mem hb;exact I.base.free b o ho (I.ok.frf b hb) fun z=>I.ok.exfs b z hb
theorem Inv.step {g':Array GenState} {t':Nat} {d':Drawn} {ch:List Ul} (I:Inv X pins σ H s)
 (Em:∀ b∈ch,(b∈X.ex∨X.s₀.heap.objs.size<=b)/\b≠X.env.locals/\(∀ x c,X.env.cells.lookup x=some c->c≠b)/\∀ p∈X.pn++pins,p.1≠b)
 (keep:∀ b o,b≠X.env.locals->b∉X.fs->b∉ch->s.heap.get? b=some o->H b=none->h'.get? b=some o)
 (slot:∀ b o,b≠X.env.locals->b∈X.fs->b∉ch->s.heap.get? b=some o->H b=none->∃ sl,h'.get? b=some { o with slots:=sl }) (free:∀ b o,b∉ch->s.heap.get? b=some o->H b=none->H' b=none)
 (there:∀ b o,b∉ch->s.heap.get? b=some o->∃ o',h'.get? b=some o')
 (tups:∀ b xs,H b=some (.tup xs)->H' b=some (.tup xs)) (frzs:∀ b o u,H b=some (.frz o u)->H' b=some (.frz o u)) (tbls:∀ b ps,H b=some (.tbl ps)->∃ more,H' b=some (.tbl (ps++more)))
 (ns:∀ m,s.heap.Ns X.env.locals m->h'.Ns X.env.locals m) (hok:HOk X.prog X.w H' h') (hg:ZG g') :
 Inv X pins σ H' { s with heap:=h',gens:=g',drawn:=d',toks:=t' }:=by
 have GH:∀ b o,X.s₀.heap.get? b=some o->b≠X.env.locals:=fun b o e=>Vf (Vd (UJ e) I.ok.above)
 have FL:∀ b o,X.s₀.heap.get? b=some o->b∉X.ex->b∉ch:=fun b o e hx hb=>by
  rcases (Em b hb).1 with z | z
  · exact hx z
  · exact absurd (Vd (UJ e) z) (VC _)
 have cellK:∀ x c,X.env.cells.lookup x=some c->∀ v,s.heap.IsCell c v->h'.IsCell c v:=fun x c e v ⟨o,ho,hd⟩=>by
  have Hz:c∉ch:=fun z=>(Em c z).2.2.1 x c e rfl;by_cases hc:c∈X.fs
  · obtain ⟨sl,q⟩:=slot c o (I.cne x c e) hc Hz ho (I.freeC x c e);exact ⟨_,q,hd⟩
  · exact ⟨o,keep c o (I.cne x c e) hc Hz ho (I.freeC x c e),hd⟩
 refine ⟨I.ok,I.os,hg,⟨fun b o e n hb hx=>?_,fun b o e n hb hx=>?_,fun b o e n hx=>?_,fun b o e hx=>?_,fun b xs e=>tups b xs (I.base.tups b xs e),fun b o xs e=>frzs b o xs (I.base.frzs b o xs e),fun b ps e=>?_⟩,?_,fun x c e=>?_,?_,fun x c e=>?_,fun p hp=>?_,hok,I.len⟩
 · exact keep b o (GH b o e) hb (FL b o e hx) (I.base.keep b o e n hb hx) (I.base.free b o e n hx)
 · obtain ⟨sl,e1⟩:=I.base.slot b o e n hb hx;obtain ⟨KZ,e2⟩:=slot b _ (GH b o e) hb (FL b o e hx) e1 (I.base.free b o e n hx);exact ⟨KZ,e2⟩
 · obtain ⟨o',e1⟩:=I.base.there b o e hx;exact free b o' (FL b o e hx) e1 (I.base.free b o e n hx)
 · obtain ⟨o',e1⟩:=I.base.there b o e hx;exact there b o' (FL b o e hx) e1
 · obtain ⟨m1,e1⟩:=I.base.tbls b ps e;obtain ⟨m2,e2⟩:=tbls b _ e1;exact ⟨m1++m2,by rw [e2,YH]⟩
 · obtain ⟨m,hn,hl⟩:=I.loc;refine ⟨m,ns m hn,fun i x v e1 e2 e3=>?_⟩;obtain ⟨u,r,l⟩:=hl i x v e1 e2 e3;refine ⟨u,r,?_⟩;rcases l with l | ⟨k,c,e,z⟩
   · exact .inl l
   · exact .inr ⟨k,c,e,cellK x c e _ z⟩
 · obtain ⟨v,z⟩:=I.cell x c e;exact ⟨v,cellK x c e v z⟩
 · obtain ⟨m,⟨o,_,_,ho,_⟩,_⟩:=I.loc;exact free _ o (fun z=>(Em _ z).2.1 rfl) ho I.free
 · obtain ⟨v,o,ho,hd⟩:=I.cell x c e;exact free c o (fun z=>(Em c z).2.2.1 x c e rfl) ho (I.freeC x c e)
 · obtain ⟨e,n,ne,nf,d⟩:=I.pin p hp;have Hz:p.1∉ch:=fun z=>(Em p.1 z).2.2.2 p hp rfl;exact ⟨keep p.1 p.2 ne nf Hz e n,free p.1 p.2 Hz e n,ne,nf,d⟩
theorem Inv.un {t':Nat} (I:Inv X pins σ H s) (u:Un X.fs [] H H' s.heap h') (hok:HOk X.prog X.w H' h'):Inv X pins σ H' { s with heap:=h',toks:=t' }:=by
 obtain ⟨m,⟨o,es,ep,ho,r⟩,_⟩:=id I.loc;obtain ⟨sl,hL⟩:=u.any ho I.free (by simp)
 exact I.step (g':=s.gens) (d':=s.drawn) (ch:=[]) (fun _ z=>nomatch z) (fun b o _ hb _ e n=>u.keep b o e n hb (by simp)) (fun b o _ hb _ e n=>u.slot b o e n hb (by simp)) (fun b o _ e n=>u.free b o e n (by simp)) (fun b o _ e=>u.there b o e (by simp)) u.tups u.frzs u.tbls (fun m' hm=>by
  obtain ⟨o',K0,K1,Ct,r'⟩:=hm;rw [ho] at Ct;cases Ct;exact ⟨_,K0,K1,hL,r'⟩) hok I.bare
theorem Inv.call {g':Array GenState} {t':Nat} {d':Drawn} {ch:List Ul} (I:Inv X pins σ H s) (u:Un (frs X.stack) ch H H' s.heap h') (hok:HOk X.prog X.w H' h') (hg:ZG g')
 (Em:∀ b∈ch,(b∈X.ex∨X.s₀.heap.objs.size<=b)/\b≠X.env.locals/\(∀ x c,X.env.cells.lookup x=some c->c≠b)/\∀ p∈X.pn++pins,p.1≠b) :
 Inv X pins σ H' { s with heap:=h',gens:=g',drawn:=d',toks:=t' }:=by
 obtain ⟨m,⟨o,es,ep,ho,r⟩,_⟩:=id I.loc;obtain ⟨sl,hL⟩:=u.any ho I.free fun z=>(Em _ z).2.1 rfl
 exact I.step (ch:=ch) Em (fun b o hL hb hc e n=>u.keep b o e n (fun z=>(UH.mp (I.stkSub b z)).elim hL hb) hc) (fun b o _ _ hc e n=>u.any e n hc) (fun b o hc e n=>u.free b o e n hc) (fun b o hc e=>u.there b o e hc) u.tups u.frzs u.tbls (fun m' hm=>by
  obtain ⟨o',K0,K1,Ct,r'⟩:=hm;rw [ho] at Ct;cases Ct;exact ⟨_,K0,K1,hL,r'⟩) hok hg
theorem Inv.turned {t':Nat} {it:Ul} (I:Inv X pins σ H s) (k:∀ b o,b≠it->s.heap.get? b=some o->h'.get? b=some o) (hn:H it=none) (hL:it≠X.env.locals)
 (h1:it∈X.ex∨X.s₀.heap.objs.size<=it) (h2:∀ x c,X.env.cells.lookup x=some c->c≠it) (h3:∀ p∈X.pn++pins,p.1≠it):Inv X pins σ H { s with heap:=h',toks:=t' }:=by
 have HA:∀ b u,H b=some u->b≠it:=fun b u e z=>by rw [z,hn] at e;cases e
 refine I.step (g':=s.gens) (d':=s.drawn) (ch:=[it]) (fun b hb=>?_) (fun b o _ _ hc e _=>k b o (fun z=>hc (by simp [z])) e) (fun b o _ _ hc e _=>⟨o.slots,k b o (fun z=>hc (by simp [z])) e⟩) (fun _ _ _ _ n=>n)
  (fun b o hc e=>⟨o,k b o (fun z=>hc (by simp [z])) e⟩) (fun _ _ e=>e) (fun _ _ _ e=>e) (fun b ps e=>⟨#[],by rw [e];simp⟩) (fun m hm=>?_) (fun b u e=>?_) I.bare
 · have e:b=it:=by simpa using hb
   subst e;exact ⟨h1,hL,h2,h3⟩
 · obtain ⟨o,es,ep,ho,r⟩:=hm;exact ⟨o,es,ep,k _ o (WX hL) ho,r⟩
 · refine (I.hok b u e).stay (fun c v hc q=>k c v ?_ q) (fun _ q=>q) fun _ _ q=>q;rcases hc with z | z
   · rw [z];exact HA b u e
   · exact HA c _ z
theorem Inv.tok (I:Inv X pins σ H s) (t:Nat):Inv X pins σ H { s with toks:=t }:=I.un (h':=s.heap) (t':=t) Un.refl I.hok
theorem Inv.kept {t':Nat} (I:Inv X pins σ H s) (k:∀ b u,s.heap.get? b=some u->h'.get? b=some u):Inv X pins σ H { s with heap:=h',toks:=t' }:=I.un (Un.kept k) (I.hok.kept k)
theorem Inv.laid {a:Ul} {o:HO} {t':Nat} (I:Inv X pins σ H s) (k:∀ b u,s.heap.get? b=some u->h'.get? b=some u) (hp:s.heap.objs.size<=a) (new:ObjOk X.prog X.w (upd H a o) h' a o) :
 Inv X pins σ (upd H a o) { s with heap:=h',toks:=t' }:=I.un (Un.laid k hp (I.hok.fresh hp)) (I.hok.laid k hp new)
theorem Inv.write {x e:Ul} {o:HO} {t':Nat} (I:Inv X pins σ H s) (mu:Mut (H x)) (he:e=x∨H e=some (.own x)) (k:∀ b u,b≠e->s.heap.get? b=some u->h'.get? b=some u) (GF:∃ u,h'.get? e=some u)
 (new:ObjOk X.prog X.w (upd H x o) h' x o):Inv X pins σ (upd H x o) { s with heap:=h',toks:=t' }:=I.un (Un.write mu he k GF) (I.hok.write mu he k GF new)
theorem Inv.weak {f':List (Option V)} (I:Inv X pins σ H s) (hl:f'.length=σ.length) (w:∀ (i:Nat) v,f'[i]?=some (some v)->σ[i]?=some (some v)):Inv X pins f' H s :=
 ⟨I.ok,I.os,I.bare,I.base,let ⟨m,hn,C9⟩:=I.loc;⟨m,hn,fun i x v e1 e2 e3=>C9 i x v e1 (w i v e2) e3⟩,I.cell,I.free,I.freeC,I.pin,I.hok,hl.trans I.len⟩
theorem Inv.pins_of {AD:List (Ul×Wz)} (I:Inv X pins σ H s) (h:∀ p∈AD,s.heap.get? p.1=some p.2/\H p.1=none/\p.1≠X.env.locals/\p.1∉X.fs/\∀ v,p.2.data≠.cell v):Inv X AD σ H s :=
 ⟨I.ok,I.os,I.bare,I.base,I.loc,I.cell,I.free,I.freeC,fun p hp=>(UP.mp hp).elim (fun z=>I.pin p (VH _ z)) (h p),I.hok,I.len⟩
theorem gb {N:List UA} (hN:N.Nodup) {i j:Nat} {x:UA} (a:N[i]?=some x) (b:N[j]?=some x):i=j:=by
 obtain ⟨h1,e1⟩:=Uz.mp a;obtain ⟨h2,e2⟩:=Uz.mp b;exact (List.getElem_inj hN).mp (e1.trans e2.symm)
theorem nG {M:Model} {A:Vm} {E:Um->Uo->Prop} {i:Nat} {x:UA} {v:V} {u:Um} {Q:Unit->Uo->Prop} (I:Inv X pins σ H s) (hN:X.N.Nodup) (hi:X.N[i]?=some x) (hx:Loc X.env.scope x) (r:RelV v u)
 (h:∀ s',Inv X pins (σ.set i (some v)) H s'->(∃ a,WY a s.heap s'.heap/\(a=X.env.locals∨X.env.cells.lookup x=some a))->Q () s') (hf:X.fn x=true∨X.env.scope.names.lookup x=some .local:=by first | exact .inl rfl | exact .inr rfl | assumption):UO M A (storeName X.env x u) Q E s:=by
 obtain ⟨m,hn,hl⟩:=id I.loc;have BI:(X.env.scope.kind == .class || (X.env.scope.kind == .module && X.env.locals != X.env.globals))=false:=by rw [I.ok.kind];rfl
 have CQ:i<σ.length:=by rw [I.len];exact (Uz.mp hi).1
 have cne:=I.cne
 have tracked:∀ {a:Ul} {h':VO},(∃ o,s.heap.get? a=some o/\H a=none)->WY a s.heap h'->HOk X.prog X.w H h':=fun {a h'} ha hs b ob e=>by
  obtain ⟨_,_,Cu⟩:=ha;refine (I.hok b ob e).stay (fun c w' hc q=>(hs.2 c ?_).trans q) (fun _ q=>q) fun _ _ q=>q;rintro rfl;rcases hc with rfl | hc
  · rw [Cu] at e;cases e
  · rw [Cu] at hc;cases hc
 rcases hx with hk | hk
 · refine wpAny_storeName_local hk hn (fun h' En hs=>?_) BI;obtain ⟨oL,_,_,JU,_⟩:=id hn;refine h _ ⟨I.ok,I.os,I.bare,⟨fun b o e n hb hx=>?_,fun b o e n hb hx=>?_,I.base.free,fun b o e hx=>?_,I.base.tups,I.base.frzs,I.base.tbls⟩,⟨_,En,fun j y v' e1 e2 e3=>?_⟩,fun y c e=>?_,I.free,I.freeC,fun p hp=>?_,tracked ⟨oL,JU,I.free⟩ hs,by simpa using I.len⟩ ⟨_,hs,.inl rfl⟩
   · exact (hs.2 b (Vf (Vd (UJ e) I.ok.above))).trans (I.base.keep b o e n hb hx)
   · obtain ⟨sl,e1⟩:=I.base.slot b o e n hb hx;exact ⟨sl,(hs.2 b (Vf (Vd (UJ e) I.ok.above))).trans e1⟩
   · obtain ⟨o',e1⟩:=I.base.there b o e hx;exact ⟨o',(hs.2 b (Vf (Vd (UJ e) I.ok.above))).trans e1⟩
   · by_cases hj:j=i
     · subst hj;rw [hi] at e1;cases e1;rw [VZ CQ] at e2;cases e2;exact ⟨u,r,.inl ⟨hk,by simp⟩⟩
     · rw [WE (WX hj)] at e2;obtain ⟨u',r',q⟩:=hl j y v' e1 e2 e3;refine ⟨u',r',?_⟩;rcases q with ⟨k,e⟩ | ⟨k,c,e,z⟩
       · refine .inl ⟨k,?_⟩;have:y≠x:=fun e=>hj (gb hN e1 (e ▸ hi));simp [this,e]
       · exact .inr ⟨k,c,e,z.sameBut hs (cne y c e)⟩
   · obtain ⟨w',z⟩:=I.cell y c e;exact ⟨w',z.sameBut hs (cne y c e)⟩
   · obtain ⟨e,n,ne,nf,d⟩:=I.pin p hp;exact ⟨(hs.2 p.1 ne).trans e,n,ne,nf,d⟩
 · have E9:X.fn x=true:=by
    rcases hf with z | z
    · exact z
    · rw [z] at hk;cases hk
   obtain ⟨c,hc⟩:=I.ok.has x (.inl hk);obtain ⟨w',z⟩:=I.cell x c hc;refine wpAny_storeName_cell I.ok.kind hk hc z (fun h' BY hs=>?_);obtain ⟨oc,EC,K2⟩:=id z;refine h { s with heap:=h' } ⟨I.ok,I.os,I.bare,⟨fun b o e n hb hx=>?_,fun b o e n hb hx=>?_,I.base.free,fun b o e hx=>?_,I.base.tups,I.base.frzs,I.base.tbls⟩,⟨m,hn.sameBut hs (WX (cne x c hc)),fun j y v' e1 e2 e3=>?_⟩,fun y c' e=>?_,I.free,I.freeC,fun p hp=>?_,tracked ⟨oc,EC,I.freeC x c hc⟩ hs,by simpa using I.len⟩ ⟨c,hs,.inr hc⟩
   · exact (hs.2 b (Vf (Vd (UJ e) (I.ok.cab x c E9 hc)))).trans (I.base.keep b o e n hb hx)
   · obtain ⟨sl,e1⟩:=I.base.slot b o e n hb hx;exact ⟨sl,(hs.2 b (Vf (Vd (UJ e) (I.ok.cab x c E9 hc)))).trans e1⟩
   · obtain ⟨o',e1⟩:=I.base.there b o e hx;exact ⟨o',(hs.2 b (Vf (Vd (UJ e) (I.ok.cab x c E9 hc)))).trans e1⟩
   · by_cases hj:j=i
     · subst hj;rw [hi] at e1;cases e1;rw [VZ CQ] at e2;cases e2;exact ⟨u,r,.inr ⟨.inl hk,c,hc,BY⟩⟩
     · rw [WE (WX hj)] at e2;obtain ⟨u',r',q⟩:=hl j y v' e1 e2 e3;refine ⟨u',r',?_⟩;rcases q with q | ⟨k,c',e,z'⟩
       · exact .inl q
       · refine .inr ⟨k,c',e,z'.sameBut hs ?_⟩;rintro rfl;exact hj (gb hN e1 (I.ok.inj _ _ _ e hc ▸ hi))
   · by_cases GI:c'=c
     · subst GI;exact ⟨_,BY⟩
     · obtain ⟨w2,z2⟩:=I.cell y c' e;exact ⟨w2,z2.sameBut hs GI⟩
   · obtain ⟨e,n,ne,nf,d⟩:=I.pin p hp;refine ⟨(hs.2 p.1 ?_).trans e,n,ne,nf,d⟩;intro q;rw [q,EC] at e;have q':oc=p.2:=UD e;exact d w' (by rw [<- q'];exact K2)
theorem fw {M:Model} {A:Vm} {E:Um->Uo->Prop} {i:Nat} {x:UA} {v:V} {u:Um} {Q:Unit->Uo->Prop} (I:Inv X pins σ H s) (hN:X.N.Nodup) (hi:X.N[i]?=some x) (hx:Loc X.env.scope x) (r:RelV v u)
 (h:∀ s',Inv X pins (σ.set i (some v)) H s'->Q () s') (hf:X.fn x=true∨X.env.scope.names.lookup x=some .local:=by first | exact .inl rfl | exact .inr rfl | assumption):UO M A (storeName X.env x u) Q E s :=
 nG I hN hi hx r (fun s' I' _=>h s' I') hf
theorem Inv.call' {s':Uo} {ch:List Ul} (I:Inv X pins σ H s) (ho:s'.os=s.os) (u:Un (frs X.stack) ch H H' s.heap s'.heap) (hok:HOk X.prog X.w H' s'.heap) (hg:ZG s'.gens)
 (Em:∀ b∈ch,(b∈X.ex∨X.s₀.heap.objs.size<=b)/\b≠X.env.locals/\(∀ x c,X.env.cells.lookup x=some c->c≠b)/\∀ p∈X.pn++pins,p.1≠b):Inv X pins σ H' s':=by
 obtain ⟨h',g',d',t',o'⟩:=s';have e:o'=s.os:=ho;subst e;exact I.call (g':=g') (t':=t') (d':=d') u hok hg Em
end
abbrev XK:=Um->Option Ul->Hp->Prop
abbrev St:=List (Option V)
abbrev VK:=V->Hp->Prop
abbrev TE:=St->Hp->VK->Prop
abbrev TT:=St->Hp->(Bool->Hp->Prop)->Prop
abbrev TA:=St->Hp->(List V->Hp->Prop)->Prop
structure Ends where
 nx:St->Hp->Prop
 rt:VK
 bk:St->Hp->Prop:=fun _ _=>False
 ct:St->Hp->Prop:=fun _ _=>False
abbrev TS:=Ends->St->Hp->Prop
def EP (X:Cx) (pins:List (Ul×Wz)) (σ:St) (Q:VK) (u:Um) (s':Uo):Prop:=∃ v H',Inv X pins σ H' s'/\RelV v u/\Q v H'
def TP (X:Cx) (pins:List (Ul×Wz)) (σ:St) (Q:Bool->Hp->Prop) (b:Bool) (s':Uo):Prop:=∃ H',Inv X pins σ H' s'/\Q b H'
def AP (X:Cx) (pins:List (Ul×Wz)) (σ:St) (Q:List V->Hp->Prop) (us:List Um) (s':Uo):Prop:=∃ vs H',Inv X pins σ H' s'/\Vals vs us/\Q vs H'
def SP (X:Cx) (pins:List (Ul×Wz)) (D:Ends) (f:Flow) (s':Uo):Prop :=
 match f with
 | .next=>∃ f' H',Inv X pins f' H' s'/\D.nx f' H'
 | .brk=>∃ f' H',Inv X pins f' H' s'/\D.bk f' H'
 | .cont=>∃ f' H',Inv X pins f' H' s'/\D.ct f' H'
 | .ret u=>∃ v f' H',Inv X pins f' H' s'/\RelV v u/\D.rt v H'
def PE (X:Cx) (e:VI) (t:TE):Prop :=
 ∀ (pins:List (Ul×Wz)) (s:Uo) (σ:St) (H:Hp) (Q:VK),Inv X pins σ H s->t σ H Q->UO (UZ X.prog X.w) X.A (WS e X.env) (EP X pins σ Q) X.xe s
def PT (X:Cx) (e:VI) (t:TT):Prop :=
 ∀ (pins:List (Ul×Wz)) (s:Uo) (σ:St) (H:Hp) (Q:Bool->Hp->Prop),Inv X pins σ H s->t σ H Q->UO (UZ X.prog X.w) X.A (isTrue e X.env (WS e X.env)) (TP X pins σ Q) X.xe s
def PW (X:Cx) (e:VI) (t:TT):Prop :=
 ∀ (whole:Sem Um) (pins:List (Ul×Wz)) (s:Uo) (σ:St) (H:Hp) (Q:Bool->Hp->Prop),Inv X pins σ H s->t σ H Q->UO (UZ X.prog X.w) X.A (isTrue e X.env whole) (TP X pins σ Q) X.xe s
theorem PW.pt {X:Cx} {e:VI} {t:TT} (h:PW X e t):PT X e t:=h _
def PA (X:Cx) (es:List VI) (t:TA):Prop :=
 ∀ (pos:Ym) (pins:List (Ul×Wz)) (s:Uo) (σ:St) (H:Hp) (Q:List V->Hp->Prop),Inv X pins σ H s->t σ H Q->UO (UZ X.prog X.w) X.A (spliced (Yt pos (Vt es X.env))) (AP X pins σ Q) X.xe s
def PS (X:Cx) (st:V5) (t:TS):Prop :=
 ∀ (pins:List (Ul×Wz)) (s:Uo) (σ:St) (H:Hp) (D:Ends),Inv X pins σ H s->t D σ H->UO (UZ X.prog X.w) X.A (exec st X.env) (SP X pins D) X.xe s
def PSs (X:Cx) (st:List V5) (t:TS):Prop :=
 ∀ (pins:List (Ul×Wz)) (s:Uo) (σ:St) (H:Hp) (D:Ends),Inv X pins σ H s->t D σ H->UO (UZ X.prog X.w) X.A (execs st X.env) (SP X pins D) X.xe s
theorem thn {α:Type} {t:Sem α} {Q Q':α->Uo->Prop} {M:Model} {A:Vm} {E:Um->Uo->Prop} {s:Uo} (h:UO M A t Q E s) (hQ:∀ a s,Q a s->Q' a s):UO M A t Q' E s:=VM h hQ fun _ _ x=>x
end L2
namespace L2
open PySem PySem.Spec PyProof.Rows
section
variable {X:Cx}
inductive xU (i:Nat) (σ:St) (H:Hp) (Q:VK):Prop
 | mk (v:_) (Aw:σ[i]?=some (some v)) (Ax:Q v H):xU i σ H Q
def bK (i:Nat):TE:=xU i
def tC (v:V):TE:=fun _ H Q=>Q v H
theorem yU {i:Nat} {x:UA} {pos:Ym} (hN:X.N[i]?=some x) (hv:Vis X.env.scope x) (hd:(x == ("__debug__":UA))=false:=by decide) (Ds:(x == ("__classdict__":UA))=false:=by decide):PE X (.Name x pos) (bK i):=by
 intro pins s σ H Q I h;obtain ⟨v,e,h⟩:=h;obtain ⟨m,hn,hl⟩:=I.loc;obtain ⟨u,r,l⟩:=hl i x v hN e hv;have fin:EP X pins σ Q u s:=⟨v,H,I,r,h⟩;rcases l with ⟨hk,hm⟩ | ⟨hk,c,hc,Dc⟩
 · exact Zq (XY I.ok.kind hk hn hm fin) hd
 · rcases hk with hk | hk
   · exact Zq (wpAny_loadName_cell I.ok.kind hk hc Dc fin) hd
   · exact Zq (wpAny_loadName_free I.ok.kind hk hc Dc fin Ds) hd
theorem ad {i j pos}:PE X (.Constant (.int i) j pos) (tC (.int i)):=fun _ _ _ H _ I h=>wpAny_Constant_int ⟨.int i,H,I.tok _,⟨_,rfl⟩,h⟩
theorem dw {b j pos}:PE X (.Constant (.bool b) j pos) (tC (.bl b)):=fun _ _ _ H _ I h=>Constant_bool ⟨.bl b,H,I,rfl,h⟩
theorem aw {x j pos}:PE X (.Constant (.str x) j pos) (tC (.str x)):=fun _ _ _ H _ I h=>Xf ⟨.str x,H,I.tok _,⟨_,rfl⟩,h⟩
def Gl (X:Cx) (x:UA):Prop:=X.env.kindOf x=some .globalImplicit
theorem jd {E:Um->Uo->Prop} {pins:List (Ul×Wz)} {s:Uo} {σ:St} {H:Hp} {x:UA} {u:Um} {pos:Ym} {Q:Um->Uo->Prop} (I:Inv X pins σ H s) (hg:Gl X x) (hm:X.mg x=some u) (h:Q u s)
 (hd:(x == ("__debug__":UA))=false:=by decide):UO (UZ X.prog X.w) X.A (WS (.Name x pos) X.env) Q E s :=
 YZ I.ok.kind hg (Calls.loadGlobal_global (by rw [I.ok.glob];exact I.mod.glob.keeps I.bk) hm h) hd
theorem iS {E:Um->Uo->Prop} {pins:List (Ul×Wz)} {s:Uo} {σ:St} {H:Hp} {x:UA} {u:Um} {pos:Ym} {Q:Um->Uo->Prop} (I:Inv X pins σ H s) (hg:Gl X x) (hm:X.mg x=none) (hv:YM x=some u) (h:Q u s)
 (hn:x≠"__name__":=by decide) (hd:(x == ("__debug__":UA))=false:=by decide):UO (UZ X.prog X.w) X.A (WS (.Name x pos) X.env) Q E s:=by
 obtain ⟨mb,h1,h2⟩:=I.mod.blt;exact YZ I.ok.kind hg (Calls.loadGlobal_builtin (by rw [I.ok.glob];exact I.mod.glob.keeps I.bk) hm (by rw [I.ok.blt];exact h1.keeps I.bk) ((h2 x hn).trans hv) h) hd
theorem ck {x:UA} {v:V} {u:Um} {pos:Ym} (hg:Gl X x) (hm:X.mg x=some u) (r:RelV v u) (hd:(x == ("__debug__":UA))=false:=by decide):PE X (.Name x pos) (tC v) :=
 fun _ _ _ H _ I h=>jd I hg hm ⟨v,H,I,r,h⟩ hd
theorem fD {x:UA} {v:V} {u:Um} {pos:Ym} (hg:Gl X x) (hm:X.mg x=none) (hv:YM x=some u) (r:RelV v u) (hn:x≠"__name__":=by decide) (hd:(x == ("__debug__":UA))=false:=by decide):PE X (.Name x pos) (tC v) :=
 fun _ _ _ H _ I h=>iS I hg hm hv ⟨v,H,I,r,h⟩ hn hd
variable {a b:VI} {ta tb:TE} {pos:Ym}
variable {tA JV:TT} {rest:List VI}
def aaE (t u:TT):TT:=fun σ H Q=>t σ H fun c H1=>if c=true then u σ H1 Q else Q false H1
def tOr (t u:TT):TT:=fun σ H Q=>t σ H fun c H1=>if c=true then Q true H1 else u σ H1 Q
def zC (t:TT):TT:=fun σ H Q=>t σ H fun c H1=>Q (!c) H1
theorem gT (ha:PT X a tA):PW X (.BoolOp .And [a] pos) tA:=by
 intro wh pins s σ H Q I h;refine isTrue_and (thn (ha pins s σ H Q I h) fun c s1 e=>?_);cases c with
 | true=>exact isTrue_and_nil e
 | false=>exact e
theorem eW (ha:PT X a tA):PW X (.BoolOp .Or [a] pos) tA:=by
 intro wh pins s σ H Q I h;refine isTrue_or (thn (ha pins s σ H Q I h) fun c s1 e=>?_);cases c with
 | false=>exact isTrue_or_nil e
 | true=>exact e
theorem jG (ha:PT X a tA) (hb:PW X (.BoolOp .And (b::rest) pos) JV):PW X (.BoolOp .And (a::b::rest) pos) (aaE tA JV):=by
 intro wh pins s σ H Q I h;refine isTrue_and (thn (ha pins s σ H _ I h) fun c s1 ⟨H1,I1,q1⟩=>?_);cases c with
 | true=>exact hb wh pins s1 σ H1 Q I1 q1
 | false=>exact ⟨H1,I1,q1⟩
theorem fS (ha:PT X a tA) (hb:PW X (.BoolOp .Or (b::rest) pos) JV):PW X (.BoolOp .Or (a::b::rest) pos) (tOr tA JV):=by
 intro wh pins s σ H Q I h;refine isTrue_or (thn (ha pins s σ H _ I h) fun c s1 ⟨H1,I1,q1⟩=>?_);cases c with
 | true=>exact ⟨H1,I1,q1⟩
 | false=>exact hb wh pins s1 σ H1 Q I1 q1
theorem cO (ha:PT X a tA):PT X (.UnaryOp .Not a pos) (zC tA):=by
 intro pins s σ H Q I h;exact isTrue_not (ha pins s σ H (fun c H1=>Q (!c) H1) I h)
def zV (ta tb:TE):TE:=fun σ H Q=>ta σ H fun x H1=>∃ c,x=.bl c/\if c=true then tb σ H1 Q else Q (.bl false) H1
def aaO (ta tb:TE):TE:=fun σ H Q=>ta σ H fun x H1=>∃ c,x=.bl c/\if c=true then Q (.bl true) H1 else tb σ H1 Q
def aad (ta:TE):TE:=fun σ H Q=>ta σ H fun x H1=>∃ c,x=.bl c/\Q (.bl (!c)) H1
theorem gK {op} {t:TE} (h:PE X a t):PE X (.BoolOp op [a] pos) t:=fun pins s σ H Q I hw=>BoolOp_one (h pins s σ H Q I hw)
theorem eY (ha:PE X a ta) (hb:PE X (.BoolOp .And (b::rest) pos) tb):PE X (.BoolOp .And (a::b::rest) pos) (zV ta tb):=by
 intro pins s σ H Q I h;refine BoolOp_and (thn (ha pins s σ H _ I h) fun v s1 ⟨x,H1,I1,r1,q1⟩=>?_);obtain ⟨c,rfl,q1⟩:=q1;cases r1;refine Wv ?_;cases c with
 | true=>exact hb pins s1 σ H1 Q I1 q1
 | false=>exact ⟨.bl false,H1,I1,rfl,q1⟩
theorem zy (ha:PE X a ta) (hb:PE X (.BoolOp .Or (b::rest) pos) tb):PE X (.BoolOp .Or (a::b::rest) pos) (aaO ta tb):=by
 intro pins s σ H Q I h;refine BoolOp_or (thn (ha pins s σ H _ I h) fun v s1 ⟨x,H1,I1,r1,q1⟩=>?_);obtain ⟨c,rfl,q1⟩:=q1;cases r1;refine Wv ?_;cases c with
 | false=>exact hb pins s1 σ H1 Q I1 q1
 | true=>exact ⟨.bl true,H1,I1,rfl,q1⟩
theorem rH (ha:PE X a ta):PE X (.UnaryOp .Not a pos) (aad ta):=by
 intro pins s σ H Q I h;refine UnaryOp_ (thn (ha pins s σ H _ I h) fun v s1 ⟨x,H1,I1,r1,q1⟩=>?_);obtain ⟨c,rfl,q1⟩:=q1;cases r1;exact not_of (Wv ⟨.bl (!c),H1,I1,rfl,q1⟩)
end
end L2
namespace L2
open PySem PySem.Spec PyProof.Rows
def SqL (K:Uj) (H:Hp) (a:Ul) (xs:List V):Prop :=
 Rd H a (.lst xs) ∨
  ∃ (o:Wz) (its:Array Um) (n:Nat),K.lookup a=some o/\o.cls=.type "list"/\o.dict=none/\o.data=.seq its n/\its.size<=US/\Vals xs its.toList
def SqT (K:Uj) (H:Hp) (a:Ul) (xs:List V):Prop :=
 Rd H a (.tup xs) ∨
  ∃ (o:Wz) (its:Array Um) (n:Nat),K.lookup a=some o/\o.cls=.type "tuple"/\o.data=.seq its n/\its.size<=US/\Vals xs its.toList
def aa5:Um->Option V
 | .none=>some .non
 | .bool b=>some (.bl b)
 | .int i _=>some (.int i)
 | .str x _=>some (.str x)
 | .bytes b _=>some (.byt b)
 | .float b _=>some (.flt b)
 | .ref a=>some (.ref a)
 | .type n=>some (.ty n)
 | _=>none
theorem RelV.abs {x:V} {u:Um} (r:RelV x u):aa5 u=some x:=by
 cases x with
 | non=>cases r;rfl
 | bl _=>cases r;rfl
 | int _=>obtain ⟨t,rfl⟩:=r;rfl
 | str _=>obtain ⟨t,rfl⟩:=r;rfl
 | byt _=>obtain ⟨t,rfl⟩:=r;rfl
 | flt _=>obtain ⟨t,rfl⟩:=r;rfl
 | ref _=>cases r;rfl
 | ty _=>cases r;rfl
theorem RelV.inj {x y:V} {u:Um} (r:RelV x u) (q:RelV y u):x=y:=UD (r.abs.symm.trans q.abs)
theorem Vals.inj:∀ {xs ys:List V} {us:List Um},Vals xs us->Vals ys us->xs=ys
 | _,_,_,.nil,.nil=>rfl
 | _,_,_,.cons r t,.cons r' t'=>by rw [r.inj r',Vals.inj t t']
section
variable {X:Cx} {pins:List (Ul×Wz)} {σ:St} {H:Hp} {s:Uo} {a:Ul} {xs ys:List V}
theorem SqL.of {K:Uj} (h:H a=some (.lst xs)):SqL K H a xs:=.inl (.inl h)
theorem SqT.of {K:Uj} (h:H a=some (.tup xs)):SqT K H a xs:=.inl (.inl h)
theorem Inv.list (I:Inv X pins σ H s) (h:SqL X.K H a xs):∃ its:List Um,Vals xs its/\PlainL s.heap a its.toArray/\xs.length<=US:=by
 rcases h with h | ⟨o,its,n,hk,hc,hd,hs,hz,r⟩
 · obtain ⟨z,its,n,r,e⟩:=h.ok I.hok;exact ⟨its,r,⟨_,n,e,rfl,rfl,rfl⟩,z⟩
 · refine ⟨its.toList,r,⟨o,n,I.kIn a o hk,hc,hd,by simpa using hs⟩,?_⟩;have e:=r.length;simp only [UQ] at e;omega
theorem Inv.tuple (I:Inv X pins σ H s) (h:SqT X.K H a xs):∃ its:List Um,Vals xs its/\IsTup s.heap a its.toArray/\xs.length<=US:=by
 rcases h with h | ⟨o,its,n,hk,hc,hs,hz,r⟩
 · obtain ⟨z,its,n,r,p⟩:=h.ok I.hok;exact ⟨its,r,⟨_,p,rfl,n,rfl⟩,z⟩
 · refine ⟨its.toList,r,⟨o,I.kIn a o hk,hc,n,by simpa using hs⟩,?_⟩;have e:=r.length;simp only [UQ] at e;omega
theorem Inv.list_inj (I:Inv X pins σ H s) (h:SqL X.K H a xs) (h':SqL X.K H a ys):xs=ys:=by
 obtain ⟨its,r,⟨o,n,e,_,_,d⟩,_⟩:=I.list h;obtain ⟨its',r',⟨o',n',e',_,_,d'⟩,_⟩:=I.list h';rw [e] at e';cases e';rw [d] at d';injection d' with d1 _;have:its=its':=by simpa using congrArg Z2 d1
 subst this;exact r.inj r'
theorem Inv.tuple_inj (I:Inv X pins σ H s) (h:SqT X.K H a xs) (h':SqT X.K H a ys):xs=ys:=by
 obtain ⟨its,r,⟨o,e,_,n,d⟩,_⟩:=I.tuple h;obtain ⟨its',r',⟨o',e',_,n',d'⟩,_⟩:=I.tuple h';rw [e] at e';cases e';rw [d] at d';injection d' with d1 _;have:its=its':=by simpa using congrArg Z2 d1
 subst this;exact r.inj r'
end
abbrev Cx.wish (X:Cx) (E:Um->Uo->Prop):Cx:={ X with xe:=E }
abbrev Cx.nox (X:Cx):Cx:=X.wish fun _ _=>False
theorem Cx.Ok.wish {X:Cx} (ok:X.Ok) (E:Um->Uo->Prop):(X.wish E).Ok :=
 ⟨ok.mod,ok.kind,ok.glob,ok.blt,ok.above,ok.inj,ok.has,ok.cab,ok.hd,ok.frames,ok.stk,ok.exf,ok.bs,ok.bsz,ok.noex,ok.exfs,ok.funs,ok.frf⟩
theorem Cx.Ok.unwish {X:Cx} {E:Um->Uo->Prop} (ok:(X.wish E).Ok):X.Ok :=
 ⟨ok.mod,ok.kind,ok.glob,ok.blt,ok.above,ok.inj,ok.has,ok.cab,ok.hd,ok.frames,ok.stk,ok.exf,ok.bs,ok.bsz,ok.noex,ok.exfs,ok.funs,ok.frf⟩
section
variable {X:Cx} {pins:List (Ul×Wz)} {σ:St} {H:Hp} {s:Uo} {E:Um->Uo->Prop}
theorem Inv.wish (I:Inv X pins σ H s) (E:Um->Uo->Prop):Inv (X.wish E) pins σ H s:=⟨I.ok.wish E,I.os,I.bare,I.base,I.loc,I.cell,I.free,I.freeC,I.pin,I.hok,I.len⟩
theorem Inv.unwish (I:Inv (X.wish E) pins σ H s):Inv X pins σ H s:=⟨I.ok.unwish,I.os,I.bare,I.base,I.loc,I.cell,I.free,I.freeC,I.pin,I.hok,I.len⟩
theorem SP.unwish {D:Ends} {f:Flow} {s':Uo} (h:SP (X.wish E) pins D f s'):SP X pins D f s':=by
 cases f with
 | next=>obtain ⟨f',H',I,q⟩:=h;exact ⟨f',H',I.unwish,q⟩
 | brk=>obtain ⟨f',H',I,q⟩:=h;exact ⟨f',H',I.unwish,q⟩
 | cont=>obtain ⟨f',H',I,q⟩:=h;exact ⟨f',H',I.unwish,q⟩
 | ret u=>obtain ⟨v,f',H',I,r,q⟩:=h;exact ⟨v,f',H',I.unwish,r,q⟩
theorem PSs.nox {st:List V5} {t:TS} (h:PSs X.nox st t):PSs X st t:=fun pins s σ H D I hw =>
 VM (h pins s σ H D (I.wish _) hw) (fun _ _ q=>q.unwish) fun _ _ z=>Wf z
end
section
variable {X:Cx} {st:V5} {rest:List V5} {t u:TS} {e:VI} {te:TE} {pos:Ym}
def cG:TS:=fun D σ H=>D.nx σ H
def wy (t u:TS):TS:=fun D σ H=>t { D with nx:=u D } σ H
theorem aE:PSs X [] cG:=fun _ _ σ H _ I h=>XG ⟨σ,H,I,h⟩
theorem af (h1:PS X st t) (h2:PSs X rest u):PSs X (st::rest) (wy t u):=by
 intro pins s σ H D I h;refine wpAny_execs_cons (thn (h1 pins s σ H { D with nx:=u D } I h) fun f s1 q=>?_);cases f with
 | next =>
   obtain ⟨f',H',I',q⟩:=q;exact h2 pins s1 f' H' D I' q
 | ret v=>exact q
 | brk=>exact q
 | cont=>exact q
theorem ai (h1:PS X st t):PSs X [st] t:=by
 intro pins s σ H D I h;refine wpAny_execs_cons (thn (h1 pins s σ H D I h) fun f s1 q=>?_);cases f with
 | next=>exact XG q
 | ret v=>exact q
 | brk=>exact q
 | cont=>exact q
theorem Inv.quiet {pins:List (Ul×Wz)} {σ:St} {H:Hp} {s:Uo} (I:Inv X pins σ H s):interactive X.env=false:=by simp [interactive,I.ok.kind]
def wg (te:TE):TS:=fun D σ H=>te σ H fun _ H1=>D.nx σ H1
theorem ba (he:PE X e te) (hs:swapsWith e none pos.line X.env=pure false:=by rfl):PS X (.Expr e pos) (wg te):=by
 intro pins s σ H D I h;exact wpAny_Expr_any (thn (he pins s σ H _ I h) fun v s1 ⟨x,H1,I1,r1,q1⟩=>⟨σ,H1,I1,q1⟩) I.quiet hs
def aah (te:TE):TS:=fun D σ H=>te σ H D.rt
theorem aA (he:PE X e te):PS X (.Return (some e) pos) (aah te):=by
 intro pins s σ H D I h;exact wpAny_Return_some (thn (he pins s σ H _ I h) fun v s1 ⟨x,H1,I1,r1,q1⟩=>⟨x,σ,H1,I1,r1,q1⟩)
def yR (c:TT) (t u:TS):TS:=fun D σ H=>c σ H fun b H1=>if b=true then t D σ H1 else u D σ H1
theorem aN {c:VI} {a b:List V5} {tc:TT} (hc:PT X c tc) (ha:PSs X a t) (hb:PSs X b u):PS X (.If c a b pos) (yR tc t u):=by
 intro pins s σ H D I h;refine wpAny_If (thn (hc pins s σ H _ I h) fun d s1 ⟨H1,I1,q1⟩=>?_);cases d with
 | true=>exact ha pins s1 σ H1 D I1 q1
 | false=>exact hb pins s1 σ H1 D I1 q1
end
abbrev TG:=V->St->Hp->(St->Hp->Prop)->Prop
abbrev TGs:=List V->St->Hp->(St->Hp->Prop)->Prop
def PG (X:Cx) (target:VI) (t:TG):Prop :=
 ∀ (pins:List (Ul×Wz)) (s:Uo) (σ:St) (H:Hp) (v:V) (u:Um) (Q:St->Hp->Prop),Inv X pins σ H s->RelV v u->t v σ H Q →
   UO (UZ X.prog X.w) X.A (ZP target X.env u) (fun _ s'=>∃ f' H',Inv X pins f' H' s'/\Q f' H') X.xe s
def PGs (X:Cx) (ts:List VI) (t:TGs):Prop :=
 ∀ (pins:List (Ul×Wz)) (s:Uo) (σ:St) (H:Hp) (vs:List V) (us:List Um) (Q:St->Hp->Prop),Inv X pins σ H s->Vals vs us->t vs σ H Q →
   UO (UZ X.prog X.w) X.A (assignInOrder ((Yy ts X.env).map (·.2)) us) (fun _ s'=>∃ f' H',Inv X pins f' H' s'/\Q f' H') X.xe s
abbrev vB:=V->V->V->Hp->(Hp->Prop)->Prop
def yX (X:Cx) (t:vB):Prop :=
 ∀ (pins:List (Ul×Wz)) (s:Uo) (σ:St) (H:Hp) (o i v:V) (ov iv u:Um) (Q:Hp->Prop),Inv X pins σ H s->RelV o ov->RelV i iv->RelV v u->t o i v H Q →
   UO (UZ X.prog X.w) X.A (setItem ov iv u) (fun _ s'=>∃ H',Inv X pins σ H' s'/\Q H') X.xe s
abbrev TIp:=V->V->Hp->VK->Prop
def PIp (X:Cx) (op:Operator) (t:TIp):Prop :=
 ∀ (pins:List (Ul×Wz)) (s:Uo) (σ:St) (H:Hp) (x y:V) (v u:Um) (Q:VK),Inv X pins σ H s->RelV x v->RelV y u->t x y H Q →
   UO (UZ X.prog X.w) X.A (inplaceOp op v u) (EP X pins σ Q) X.xe s
section
variable {X:Cx} {pos:Ym}
def av (i:Nat):TG:=fun v σ H Q=>Q (σ.set i (some v)) H
theorem aB {i:Nat} {x:UA} (hN:X.N.Nodup) (hi:X.N[i]?=some x) (hx:Loc X.env.scope x) (hf:X.fn x=true∨X.env.scope.names.lookup x=some .local:=by first | exact .inl rfl | exact .inr rfl | assumption):PG X (.Name x pos) (av i):=by
 intro pins s σ H v u Q I r h;exact wpAny_assign_Name (fw I hN hi hx r (fun s' I'=>⟨_,H,I',h⟩) hf)
def aaT:TGs:=fun vs σ H Q=>vs=[]/\Q σ H
def aai (t:TG) (u:TGs):TGs:=fun vs σ H Q=>∃ v r,vs=v::r/\t v σ H fun f' H'=>u r f' H' Q
theorem fH:PGs X [] aaT:=by
 intro pins s σ H vs us Q I r h;obtain ⟨e,h⟩:=h;subst e;cases r;exact assignInOrder_nil ⟨σ,H,I,h⟩
theorem bM {e:VI} {es:List VI} {t:TG} {u:TGs} (h1:PG X e t) (h2:PGs X es u)
 (hs:(Yy (e::es) X.env).map (·.2)=ZP e X.env::(Yy es X.env).map (·.2):=by rfl):PGs X (e::es) (aai t u):=by
 intro pins s σ H vs us Q I r h;obtain ⟨v,vr,e1,h⟩:=h;subst e1;cases r with
 | cons r rr =>
   rw [hs];refine assignInOrder_cons (thn (h1 pins s σ H _ _ _ I r h) fun _ s1 ⟨AX,H1,I1,q1⟩=>?_);exact h2 pins s1 AX H1 _ _ Q I1 rr q1
def aaH (K:Uj) (n:Nat) (t:TGs):TG:=fun v σ H Q=>∃ a xs,v=.ref a/\SqT K H a xs/\xs.length=n/\t xs σ H Q
theorem jV {es:List VI} {k:Nat} {t:TGs} {n:Nat} (hc:X.calm=true) (h:PGs X es t)
 (hn:(Yy es X.env).length=n:=by rfl) (AG:(Yy es X.env).findIdx? (·.1)=none:=by rfl):PG X (.Tuple es k pos) (aaH X.K n t):=by
 intro pins s σ H v u Q I r hw;obtain ⟨a,xs,e1,hq,hl,hw⟩:=hw;subst e1;cases r;obtain ⟨its,rv,ht,hz⟩:=I.tuple hq;refine assign_Tuple_tuple (I.ok.hd hc) ht (by simp [hn,<- hl,rv.length]) AG fun h' hx=>?_;have I1:Inv X pins σ H { s with heap:=h' }:=I.kept (t':=s.toks) fun b o e=>hx b o (Vf (UJ e)) e;exact h pins _ σ H xs _ Q I1 (by simpa using rv) hw
def aaD (to ti:TE) (t:vB):TG:=fun v σ H Q=>to σ H fun o H1=>ti σ H1 fun i H2=>t o i v H2 fun H3=>Q σ H3
theorem gg {o i:VI} {to ti:TE} {t:vB} (ho:PE X o to) (hi:PE X i ti) (hs:yX X t)
 (ha:∀ v,ZP (.Subscript o i pos) X.env v=(do
  let ov ← holding [v] (WS o X.env)
  let iv ← holding [v,ov] (WS i X.env)
  standAt pos
  holding [v,ov,iv] (setItem ov iv v)
  release [v,ov,iv] []):=by intro _;rfl):PG X (.Subscript o i pos) (aaD to ti t):=by
 intro pins s σ H v u Q I r h;rw [ha];refine Uk (WJ (thn (ho pins s σ H _ I h) fun ov s1 ⟨x,H1,I1,r1,q1⟩=>?_));refine Uk (WJ (thn (hi pins s1 σ H1 _ I1 q1) fun iv s2 ⟨y,H2,I2,r2,q2⟩=>?_));refine Uk (Zd (Uk (WJ (thn (hs pins s2 σ H2 x y v ov iv u _ I2 r1 r2 r q2) fun _ s3 ⟨H3,I3,q3⟩=>?_))));exact wpAny_release ⟨σ,H3,I3,q3⟩
def uj (te:TE) (g:TG):TS:=fun D σ H=>te σ H fun x H1=>g x σ H1 D.nx
theorem d7 {tg e:VI} {te:TE} {g:TG} (he:PE X e te) (hg:PG X tg g) (hs:swapsWithSole [tg] e pos.line X.env=pure false:=by rfl) (hw:swappedStores [tg] e X.env=pure none:=by rfl)
 (h1:(Yy [tg] X.env).map (·.2)=[ZP tg X.env]:=by rfl):PS X (.Assign [tg] e pos) (uj te g):=by
 intro pins s σ H D I h;refine wpAny_Assign_stores (thn (he pins s σ H _ I h) fun v s1 ⟨x,H1,I1,r1,q1⟩=>?_) hs hw;rw [h1];exact thn (hg pins s1 σ H1 x v _ I1 r1 q1) fun _ s2 q=>q
theorem ar {i:Nat} {x:UA} {e:VI} {te:TE} {pos':Ym} (hN:X.N.Nodup) (hi:X.N[i]?=some x) (hx:Loc X.env.scope x) (he:PE X e te) (hs:swapsWith e (some (.Name x pos')) pos.line X.env=pure false:=by rfl) (hf:X.fn x=true∨X.env.scope.names.lookup x=some .local:=by first | exact .inl rfl | exact .inr rfl | assumption) :
 PS X (.Assign [.Name x pos'] e pos) (uj te (av i)):=by
 intro pins s σ H D I h;refine wpAny_Assign_Name (thn (he pins s σ H _ I h) fun v s1 ⟨y,H1,I1,r1,q1⟩=>?_) hs;exact fw I1 hN hi hx r1 (fun s2 I2=>⟨_,H1,I2,q1⟩) hf
def aaZ (i:Nat) (te:TE) (ti:TIp):TS:=fun D σ H=>∃ x,σ[i]?=some (some x)/\te σ H fun y H1=>ti x y H1 fun z H2=>D.nx (σ.set i (some z)) H2
theorem rW {i:Nat} {x:UA} {e:VI} {te:TE} {op:Operator} {ti:TIp} {pos':Ym} (hN:X.N.Nodup) (hi:X.N[i]?=some x) (hx:Loc X.env.scope x) (he:PE X e te) (ho:PIp X op ti) (hf:X.fn x=true∨X.env.scope.names.lookup x=some .local:=by first | exact .inl rfl | exact .inr rfl | assumption) :
 PS X (.AugAssign (.Name x pos') op e pos) (aaZ i te ti):=by
 intro pins s σ H D I h;obtain ⟨v,e1,h⟩:=h;obtain ⟨m,hn,hl⟩:=I.loc;have NS:Vis X.env.scope x:=by rcases hx with k | k;exact .inl k;exact .inr (.inl k)
 obtain ⟨u,r,l⟩:=hl i x v hi e1 NS;refine wpAny_AugAssign_Name ?_
 have go:UO (UZ X.prog X.w) X.A (WS e X.env) (fun w Bs=>UO (UZ X.prog X.w) X.A (inplaceOp op u w) (fun r BJ=>UO (UZ X.prog X.w) X.A (storeName X.env x r) (fun _=>SP X pins D .next) X.xe BJ) X.xe Bs) X.xe s:=by
  refine thn (he pins s σ H _ I h) fun w s1 ⟨y,H1,I1,r1,q1⟩=>?_;refine thn (ho pins s1 σ H1 v y u w _ I1 r r1 q1) fun z s2 ⟨zv,H2,I2,r2,q2⟩=>?_;exact fw I2 hN hi hx r2 (fun s3 I3=>⟨_,H2,I3,q2⟩) hf
 rcases l with ⟨hk,hm⟩ | ⟨hk,c,hc,Dc⟩
 · exact XY I.ok.kind hk hn hm go
 · rcases hk with hk | hk
   · exact wpAny_loadName_cell I.ok.kind hk hc Dc go
   · rcases hx with k | k
     · have:X.env.scope.names.lookup x=some .free:=hk;rw [k] at this;cases this
     · have:X.env.scope.names.lookup x=some .free:=hk;rw [k] at this;cases this
def aao (to ti te:TE) (ED:V->V->Hp->VK->Prop) (JW:TIp) (EE:vB):TS:=fun D σ H=>to σ H fun o H1=>ti σ H1 fun i H2=>ED o i H2 fun x H3=>te σ H3 fun y H4=>JW x y H4 fun z H5=>EE o i z H5 fun H6=>D.nx σ H6
def zx (X:Cx) (t:V->V->Hp->VK->Prop):Prop :=
 ∀ (pins:List (Ul×Wz)) (s:Uo) (σ:St) (H:Hp) (o i:V) (ov iv:Um) (Q:VK),Inv X pins σ H s->RelV o ov->RelV i iv->t o i H Q →
   UO (UZ X.prog X.w) X.A (YL ov iv) (EP X pins σ Q) X.xe s
theorem xy {o i e:VI} {to ti te:TE} {ED:V->V->Hp->VK->Prop} {JW:TIp} {EE:vB} {op:Operator} {EF:Ym} (ho:PE X o to) (hi:PE X i ti) (hg:zx X ED) (he:PE X e te) (hp:PIp X op JW) (hs:yX X EE)
 (ha:∀ ov iv new,augStore i ov iv new=(do holding [new,ov,iv] (setItem ov iv new);release [new,ov,iv] [];pure .next):=by intros;rfl):PS X (.AugAssign (.Subscript o i EF) op e pos) (aao to ti te ED JW EE):=by
 intro pins s σ H D I h;refine wpAny_AugAssign_SubscriptAny (thn (ho pins s σ H _ I h) fun ov s1 ⟨x1,H1,I1,r1,q1⟩=>?_) ha;refine thn (hi pins s1 σ H1 _ I1 q1) fun iv s2 ⟨x2,H2,I2,r2,q2⟩=>?_;refine thn (hg pins s2 σ H2 x1 x2 ov iv _ I2 r1 r2 q2) fun old s3 ⟨x3,H3,I3,r3,q3⟩=>?_;refine thn (he pins s3 σ H3 _ I3 q3) fun v s4 ⟨x4,H4,I4,r4,q4⟩=>?_;refine thn (hp pins s4 σ H4 x3 x4 old v _ I4 r3 r4 q4) fun new s5 ⟨x5,H5,I5,r5,q5⟩=>?_;exact thn (hs pins s5 σ H5 x1 x2 x5 ov iv new _ I5 r1 r2 r5 q5) fun _ s6 ⟨H6,I6,q6⟩=>⟨σ,H6,I6,q6⟩
def ipI (f:Int->Int->Int):TIp:=fun x y H Q=>∃ i j,x=.int i/\y=.int j/\Q (.int (f i j)) H
theorem oQ:PIp X .Add (ipI fun i j=>i+j):=by
 intro pins s σ H x y v u Q I r1 r2 h;obtain ⟨i,j,e1,e2,q⟩:=h;subst e1;subst e2;obtain ⟨t,rfl⟩:=r1;obtain ⟨t',rfl⟩:=r2;exact iadd_int ⟨.int _,H,I.tok _,⟨_,rfl⟩,q⟩
end
section
variable {X:Cx} {pos:Ym}
def yC (c:TT) (tb:TS):TS:=fun D σ H=>∃ W:Nat->St->Hp->Prop,(∃ m,W m σ H)/\∀ m σ H,W m σ H →
 c σ H fun b H1=>if b=true then ∃ N:St->Hp->Prop,(∀ f' H',N f' H'->∃ m',m'<m/\W m' f' H')/\tb { D with nx:=N,ct:=N,bk:=D.nx } σ H1 else D.nx σ H1
theorem mj {c:VI} {body:List V5} {tc:TT} {tb:TS} (hp:PassesOwn (UZ X.prog X.w) X.A X.env X.xe) (hc:PT X c tc) (hb:PSs X body tb):PS X (.While c body [] pos) (yC tc tb):=by
 intro pins s σ H D I h;obtain ⟨W,⟨m0,w0⟩,turn⟩:=h;refine wpAny_While (codeAny_whileLoop (fun n s'=>∃ f' H',Inv X pins f' H' s'/\W n f' H') ?_ m0 ⟨σ,H,I,w0⟩);rintro n s1 ⟨AX,H1,I1,w1⟩;refine V9 hp (thn (hc pins s1 AX H1 _ I1 (turn n AX H1 w1)) fun b s2 ⟨H2,I2,q2⟩=>?_);cases b with
 | true =>
   obtain ⟨N,hN,q2⟩:=q2;rw [if_pos rfl];refine V9 hp (thn (hb pins s2 AX H2 _ I2 q2) fun f s3 q3=>?_);cases f with
   | next =>
     obtain ⟨Cv,H3,I3,n3⟩:=q3;obtain ⟨m',hm,w3⟩:=hN Cv H3 n3;exact ⟨m',hm,Cv,H3,I3,w3⟩
   | cont =>
     obtain ⟨Cv,H3,I3,n3⟩:=q3;obtain ⟨m',hm,w3⟩:=hN Cv H3 n3;exact ⟨m',hm,Cv,H3,I3,w3⟩
   | brk=>exact q3
   | ret v=>exact q3
 | false =>
   rw [if_neg UN];exact XG ⟨AX,H2,I2,q2⟩
end
structure It where
 go:Nat->Hp->Prop
 yld:Nat->Hp->V->Hp->Prop
 stop:Nat->Hp->Prop
def fk (X:Cx) (pins:List (Ul×Wz)) (H:Hp) (b:Ul):Prop :=
 H b=none/\b≠X.env.locals/\b∉X.fs/\(b∈X.ex∨X.s₀.heap.objs.size<=b)/\(∀ x c,X.env.cells.lookup x=some c->c≠b)/\∀ p∈X.pn++pins,p.1≠b
theorem Inv.fpOk {X:Cx} {pins:List (Ul×Wz)} {σ:St} {H H':Hp} {s:Uo} {b:Ul} (I:Inv X pins σ H s) (hb:s.heap.objs.size<=b) (hn:H' b=none):fk X pins H' b:=by
 refine ⟨hn,Xc (Vd I.lt hb),I.nofs hb,.inr (VS I.sz hb),fun x c e z=>?_,fun p hp z=>?_⟩
 · obtain ⟨v,q⟩:=I.cell x c e;exact absurd (Vd q.lt (by rw [z];exact hb)) (VC _)
 · exact absurd (Vd (UJ (I.pin p hp).1) (by rw [z];exact hb)) (VC _)
structure Turn (P:U1) (w:Vl) (K:Uj) (tg:VI) (J:It) (fp:List Ul) (it:Ul) (tn:Nat->VO->Prop):Prop where
 mem:it∈fp
 obj:∀ i h,tn i h->∀ b∈fp,∃ o,h.get? b=some o/\∀ v,o.data≠.cell v
 keep:∀ i h h',tn i h->(∀ b∈fp,∀ o,h.get? b=some o->h'.get? b=some o)->tn i h'
 item:∀ (X:Cx),X.prog=P->X.w=w->X.K=K->X.calm=true->∀ (i:Nat) (pins:List (Ul×Wz)) (s:Uo) (σ:St) (H:Hp) (E:Um->Uo->Prop),Inv X pins σ H s->(∀ b∈fp,fk X pins H b)->tn i s.heap->J.go i H →
  UO (UZ P w) X.A (ZL (.ref it)) (fun r s1=>∃ u,r=some u ∧
   UO (UZ P w) X.A (YI tg (.ref it) u) (fun _ s2=>∃ x H',Inv X pins σ H' s2/\RelV x u/\J.yld i H x H'/\tn (i+1) s2.heap/\∀ b∈fp,H' b=none) E s1) E s
 done:∀ (X:Cx),X.prog=P->X.w=w->X.K=K->X.calm=true->∀ (i:Nat) (pins:List (Ul×Wz)) (s:Uo) (σ:St) (H:Hp) (E:Um->Uo->Prop),Inv X pins σ H s->(∀ b∈fp,fk X pins H b)->tn i s.heap->J.stop i H →
  UO (UZ P w) X.A (ZL (.ref it)) (fun r s1=>r=none/\Inv X pins σ H s1) E s
 self:∀ (A:Vm) (i:Nat) (s:Uo) (Q:Um->Uo->Prop) (E:Um->Uo->Prop),tn i s.heap->Q (.ref it) s->UO (UZ P w) A (pyIter (.ref it)) Q E s
abbrev TI:=St->Hp->(It->Hp->Prop)->Prop
def PIE (X:Cx) (pins:List (Ul×Wz)) (σ:St) (tg:VI) (R:It->Hp->Prop) (HB:Um) (s2:Uo):Prop :=
 ∃ (it:Ul) (fp:List Ul) (tn:Nat->VO->Prop) (J:It) (H':Hp),HB=.ref it/\Inv X pins σ H' s2/\Turn X.prog X.w X.K tg J fp it tn/\tn 0 s2.heap/\(∀ b∈fp,fk X pins H' b)/\R J H'
def PI (X:Cx) (tg iter:VI) (wi:TI):Prop :=
 ∀ (pins:List (Ul×Wz)) (s:Uo) (σ:St) (H:Hp) (R:It->Hp->Prop),Inv X pins σ H s->wi σ H R →
   UO (UZ X.prog X.w) X.A (WS iter X.env) (fun v s1=>UO (UZ X.prog X.w) X.A (pyIter v) (PIE X pins σ tg R) X.xe s1) X.xe s
theorem lP {M:Model} {A:Vm} {E:Um->Uo->Prop} {s:Uo} {tg:VI} {it:Ul} {u:Um} {o:Wz} {n:String} {vs:Array Um} {Q:Unit->Uo->Prop} (ho:s.heap.get? it=some o) (hc:o.cls=.type n) (hd:o.data=.fields vs)
 (hn:["enumerate","zip","dict_itemiterator","dict_reverseitemiterator","odict_iterator","itertools.zip_longest","itertools.pairwise"].contains n=false) (hQ:Q () s):UO M A (YI tg (.ref it) u) Q E s:=by
 unfold YI
 cases tg <;> first
  | exact UE hQ
  | (cases u <;> first
   | exact UE hQ
   | (refine Uk (wpAny_load ho ?_)
      rw [hc,hd];show UO M A (if (["enumerate","zip","dict_itemiterator","dict_reverseitemiterator","odict_iterator","itertools.zip_longest","itertools.pairwise"].contains n && vs[0]? == some (Yx _))=true then _ else _) Q E s;rw [if_neg (by intro h;rw [hn,Xr] at h;cases h)];exact UE hQ))
def Itl (K:Uj) (a:Ul):It :=
 ⟨fun i H=>∃ xs x,SqL K H a xs/\xs[i]?=some x,fun i H x H'=>H'=H/\∀ xs,SqL K H a xs->xs[i]?=some x,fun i H=>∃ xs,SqL K H a xs/\xs.length<=i⟩
def Itt (K:Uj) (a:Ul):It :=
 ⟨fun i H=>∃ xs x,SqT K H a xs/\xs[i]?=some x,fun i H x H'=>H'=H/\∀ xs,SqT K H a xs->xs[i]?=some x,fun i H=>∃ xs,SqT K H a xs/\xs.length<=i⟩
def Itr (lo:Int) (n:Nat):It:=⟨fun i _=>i<n,fun i H x H'=>H'=H/\x=.int (lo+i),fun i _=>n<=i⟩
theorem nD {P:U1} {w:Vl} {K:Uj} {tg:VI} (a it:Ul):Turn P w K tg (Itl K a) [it] it (fun i h=>h.IsListIter it a i) where
 mem:=by simp
 obj:=fun i h st b hb=>by
  have e:b=it:=by simpa using hb
  subst e;obtain ⟨o,e,c,d⟩:=st;exact ⟨o,e,fun v z=>by rw [d] at z;cases z⟩
 keep:=fun i h h' st k=>st.at fun o e=>k it (by simp) o e
 item:=by
  intro X hP hw hK hc i pins s σ H E I hf st hg;subst hP hw hK;obtain ⟨xs,x,hq,hx⟩:=hg;obtain ⟨its,rv,p,hz⟩:=I.list hq;obtain ⟨u,hu,ru⟩:=rv.get hx;obtain ⟨f0,f1,f2,f3,f4,f5⟩:=hf it (by simp);refine wpAny_pyNext_list_item st p.isList (x:=u) (by simpa using hu) fun h' BF sb=>?_;have I1:Inv X pins σ H { s with heap:=h' }:=I.turned (t':=s.toks) (fun b o hb e=>(sb.2 b hb).trans e) f0 f1 f3 f4 f5;obtain ⟨o,e,c,d⟩:=id BF;exact ⟨u,rfl,lP (s:={ s with heap:=h' }) e c d (by decide) ⟨x,H,I1,ru,⟨rfl,fun ys hy=>by rw [I.list_inj hy hq];exact hx⟩,BF,fun b hb=>(hf b hb).1⟩⟩
 done:=by
  intro X hP hw hK hc i pins s σ H E I hf st hg;subst hP hw hK;obtain ⟨xs,hq,hx⟩:=hg;obtain ⟨its,rv,p,hz⟩:=I.list hq;obtain ⟨f0,f1,f2,f3,f4,f5⟩:=hf it (by simp);have hl:=rv.length;exact wpAny_pyNext_list_end (I.ok.hd hc) st p.isList (by simp;omega) fun h' eb=>⟨rfl,I.turned (t':=s.toks) (fun b o hb e=>eb b o hb e) f0 f1 f3 f4 f5⟩
 self:=fun _ _ _ _ _ st h=>wpAny_pyIter_listiter st h
theorem mI {P:U1} {w:Vl} {K:Uj} {tg:VI} (a it:Ul):Turn P w K tg (Itt K a) [it] it (fun i h=>h.IsTupleIter it a i) where
 mem:=by simp
 obj:=fun i h st b hb=>by
  have e:b=it:=by simpa using hb
  subst e;obtain ⟨o,e,c,d⟩:=st;exact ⟨o,e,fun v z=>by rw [d] at z;cases z⟩
 keep:=fun i h h' st k=>st.at fun o e=>k it (by simp) o e
 item:=by
  intro X hP hw hK hc i pins s σ H E I hf st hg;subst hP hw hK;obtain ⟨xs,x,hq,hx⟩:=hg;obtain ⟨its,rv,p,hz⟩:=I.tuple hq;obtain ⟨u,hu,ru⟩:=rv.get hx;obtain ⟨f0,f1,f2,f3,f4,f5⟩:=hf it (by simp);refine wpAny_pyNext_tuple_item st (show s.heap.IsTuple a its.toArray from p) (x:=u) (by simpa using hu) fun h' BF sb=>?_;have I1:Inv X pins σ H { s with heap:=h' }:=I.turned (t':=s.toks) (fun b o hb e=>(sb.2 b hb).trans e) f0 f1 f3 f4 f5;obtain ⟨o,e,c,d⟩:=id BF;exact ⟨u,rfl,lP (s:={ s with heap:=h' }) e c d (by decide) ⟨x,H,I1,ru,⟨rfl,fun ys hy=>by rw [I.tuple_inj hy hq];exact hx⟩,BF,fun b hb=>(hf b hb).1⟩⟩
 done:=by
  intro X hP hw hK hc i pins s σ H E I hf st hg;subst hP hw hK;obtain ⟨xs,hq,hx⟩:=hg;obtain ⟨its,rv,p,hz⟩:=I.tuple hq;obtain ⟨f0,f1,f2,f3,f4,f5⟩:=hf it (by simp);have hl:=rv.length;exact wpAny_pyNext_tuple_end (I.ok.hd hc) st (show s.heap.IsTuple a its.toArray from p) (by simp;omega) fun h' eb=>⟨rfl,I.turned (t':=s.toks) (fun b o hb e=>eb b o hb e) f0 f1 f3 f4 f5⟩
 self:=fun _ _ _ _ _ st h=>wpAny_pyIter_tupleiter st h
theorem sy {P:U1} {w:Vl} {K:Uj} {tg:VI} (it:Ul) (lo:Int) (n:Nat):Turn P w K tg (Itr lo n) [it] it (fun i h=>IsRangeIter h it (lo+(i:Nat) * 1) ((n:Int) - (i:Nat)) 1) where
 mem:=by simp
 obj:=fun i h st b hb=>by
  have e:b=it:=by simpa using hb
  subst e
  exact ⟨_,st,fun v z=>by
   have z':Data.fields _=Data.cell v:=z;cases z'⟩
 keep:=fun i h h' st k=>k it (by simp) _ st
 item:=by
  intro X hP hw hK hc i pins s σ H E I hf st hg;subst hP hw hK;obtain ⟨f0,f1,f2,f3,f4,f5⟩:=hf it (by simp);have W:=Walks.range (prog:=X.prog) (w:=X.w) (I.ok.hd hc) it lo 1 n;refine W.item i s _ _ hg st fun v h' tk hv BF kk=>?_;obtain ⟨t,rfl⟩:=hv;have I1:Inv X pins σ H { s with heap:=h',toks:=tk }:=I.turned (fun b o hb e=>kk b o (by simpa using hb) e) f0 f1 f3 f4 f5;refine ⟨_,rfl,lP (s:={ s with heap:=h',toks:=tk }) (n:="range_iterator") BF rfl rfl (by decide) ⟨.int (lo+i),H,I1,⟨t,?_⟩,⟨rfl,rfl⟩,BF,fun b hb=>(hf b hb).1⟩⟩;rw [Int.mul_one]
 done:=by
  intro X hP hw hK hc i pins s σ H E I hf st hg;subst hP hw hK;obtain ⟨f0,f1,f2,f3,f4,f5⟩:=hf it (by simp);exact wpAny_pyNext_range_end (I.ok.hd hc) st (by have:n<=i:=hg;omega) fun h' eb=>⟨rfl,I.turned (t':=s.toks) (fun b o hb e=>eb b o hb e) f0 f1 f3 f4 f5⟩
 self:=fun _ _ _ _ _ st h=>wpAny_pyIter_rangeiter st h
end L2
namespace L2
open PySem PySem.Spec PyProof.Rows
section
variable {X:Cx} {tg:VI}
def zD (K:Uj) (tl:TE):TI:=fun σ H R=>tl σ H fun x H1=>∃ a,x=.ref a/\(∃ xs,SqL K H1 a xs)/\R (Itl K a) H1
def yZ (K:Uj) (tl:TE):TI:=fun σ H R=>tl σ H fun x H1=>∃ a,x=.ref a/\(∃ xs,SqT K H1 a xs)/\R (Itt K a) H1
theorem eU {l:VI} {tl:TE} (hl:PE X l tl):PI X tg l (zD X.K tl):=by
 intro pins s σ H R I h;refine thn (hl pins s σ H _ I h) fun v s1 ⟨x,H1,I1,r1,q1⟩=>?_;obtain ⟨a,e,⟨xs,hq⟩,q⟩:=q1;subst e;cases r1;obtain ⟨its,rv,p,hz⟩:=I1.list hq;refine Y8 p.isList ?_;refine ⟨s1.heap.objs.size,[s1.heap.objs.size],_,_,H1,rfl,I1.kept (t':=s1.toks) fun b o e=>Up _ e,nD a _,⟨_,UG _ rfl,rfl,rfl⟩,fun b hb=>?_,q⟩;have e:b=s1.heap.objs.size:=by simpa using hb
 subst e;exact I1.fpOk (Uq _) (I1.hok.fresh (Uq _))
theorem cY {l:VI} {tl:TE} (hl:PE X l tl):PI X tg l (yZ X.K tl):=by
 intro pins s σ H R I h;refine thn (hl pins s σ H _ I h) fun v s1 ⟨x,H1,I1,r1,q1⟩=>?_;obtain ⟨a,e,⟨xs,hq⟩,q⟩:=q1;subst e;cases r1;obtain ⟨its,rv,p,hz⟩:=I1.tuple hq;refine YT (show s1.heap.IsTuple a its.toArray from p) ?_;refine ⟨s1.heap.objs.size,[s1.heap.objs.size],_,_,H1,rfl,I1.kept (t':=s1.toks) fun b o e=>Up _ e,mI a _,⟨_,UG _ rfl,rfl,rfl⟩,fun b hb=>?_,q⟩;have e:b=s1.heap.objs.size:=by simpa using hb
 subst e;exact I1.fpOk (Uq _) (I1.hok.fresh (Uq _))
theorem vS {pins:List (Ul×Wz)} {σ:St} {H:Hp} {s:Uo} {R:It->Hp->Prop} {E:Um->Uo->Prop} {lo hi:Int} {t u v:Tok} {tk:Nat} (I:Inv X pins σ H s) (h1:-(2 ^ 62)<=lo) (h2:lo<2 ^ 62) (h3:-(2 ^ 62)<=hi) (h4:hi<2 ^ 62)
 (q:R (Itr lo (hi - lo).toNat) H):UO (UZ X.prog X.w) X.A (pyIter (.ref s.heap.objs.size)) (PIE X pins σ tg R) E { s with heap:=s.heap.push { cls:=.type "range",data:=.fields #[.int lo t,.int hi u,.int 1 v] },toks:=tk }:=by
 refine wpAny_pyIter_range (IsRange.new ..) (small_one h1 h2 h3 h4) ?_;have I1:Inv X pins σ H { s with heap:=s.heap.push { cls:=.type "range",data:=.fields #[.int lo t,.int hi u,.int 1 v] },toks:=tk }:=I.kept fun b o e=>Up _ e
 refine ⟨(s.heap.push { cls:=.type "range",data:=.fields #[.int lo t,.int hi u,.int 1 v] }).objs.size,[(s.heap.push { cls:=.type "range",data:=.fields #[.int lo t,.int hi u,.int 1 v] }).objs.size],_,_,H,rfl,
  I1.kept (t':=tk) fun b o e=>Up _ e,sy _ lo (hi - lo).toNat,?_,fun b hb=>?_,q⟩
 · have e1:lo+((0:Nat):Int) * 1=lo:=by simp
   have e2:(((hi - lo).toNat:Nat):Int) - ((0:Nat):Int)=Builtin.Range.rangeSize lo hi 1:=by rw [rangeSize_one];split <;> omega
   show IsRangeIter _ _ (lo+((0:Nat):Int) * 1) ((((hi - lo).toNat:Nat):Int) - ((0:Nat):Int)) 1;rw [e1,e2];exact UG _ rfl
 · have e:b=(s.heap.push { cls:=.type "range",data:=.fields #[.int lo t,.int hi u,.int 1 v] }).objs.size:=by simpa using hb
   subst e;exact I1.fpOk (Uq _) (I1.hok.fresh (Uq _))
def zX (ta:TA):TI:=fun σ H R=>ta σ H fun vs H1=>∃ j:Int,vs=[.int j]/\-(2 ^ 62)<=j/\j<2 ^ 62/\R (Itr 0 j.toNat) H1
theorem bD {a:VI} {ta:TA} {p pos:Ym} (hg:Gl X "range") (hm:X.mg "range"=none) (ha:PA X [a] ta) (hs:Vt [a] X.env=[(false,WS a X.env)]:=by rfl):PI X tg (.Call (.Name "range" p) [a] [] pos) (zX ta):=by
 intro pins s σ H R I h;refine Call_ (iS I hg hm boot_range (WQ (thn (ha pos pins s σ H _ I h) fun us s1 ⟨vs,H1,I1,r1,q1⟩=>?_) hs rfl));obtain ⟨j,e,q1,q2,q⟩:=q1;subst e;cases r1 with
 | cons r rr =>
   cases rr;obtain ⟨t,rfl⟩:=r;exact call_range_1 (vS I1 (by omega) (by omega) q1 q2 (by simpa using q))
def aaQ (wi:TI) (g:TG) (tb:TS):TS:=fun D σ H=>wi σ H fun J H1=>∃ W:Nat->Nat->St->Hp->Prop,(∃ m,W 0 m σ H1)/\∀ i m σ H,W i m σ H →
 (J.stop i H/\D.nx σ H)∨(J.go i H/\∃ N:St->Hp->Prop,(∀ f' H',N f' H'->∃ m',m'<m/\W (i+1) m' f' H')/\∀ x H',J.yld i H x H'->g x σ H' fun AA H2=>tb { D with nx:=N,ct:=N,bk:=D.nx } AA H2)
def iJ (fp:List Ul) (h:VO):List (Ul×Wz):=fp.filterMap fun b=>(h.get? b).map fun o=>(b,o)
theorem cA {fp:List Ul} {h:VO} {b:Ul} {o:Wz} (hb:b∈fp) (e:h.get? b=some o):(b,o)∈iJ fp h:=YG.mpr ⟨b,hb,by rw [e];rfl⟩
theorem uB {fp:List Ul} {h:VO} {p:Ul×Wz} (hp:p∈iJ fp h):p.1∈fp/\h.get? p.1=some p.2:=by
 obtain ⟨b,hb,e⟩:=YG.mp hp;cases q:h.get? b with
 | none=>rw [q] at e;cases e
 | some o =>
   rw [q] at e;have e':(b,o)=p:=UD e;subst e';exact ⟨hb,q⟩
theorem Inv.pinned {pins:List (Ul×Wz)} {σ:St} {H:Hp} {s:Uo} {fp:List Ul} (I:Inv X pins σ H s) (hf:∀ b∈fp,fk X pins H b) (ho:∀ b∈fp,∃ o,s.heap.get? b=some o/\∀ v,o.data≠.cell v):Inv X (pins++iJ fp s.heap) σ H s :=
 I.pins_of fun p hp=>(UP.mp hp).elim (fun z=>I.pin p (UU _ z)) fun z=>by
  obtain ⟨hb,e⟩:=uB z;obtain ⟨f0,f1,f2,_⟩:=hf p.1 hb;obtain ⟨o,e',d⟩:=ho p.1 hb;rw [e] at e';cases e';exact ⟨e,f0,f1,f2,d⟩
theorem Inv.unpinned {pins pl:List (Ul×Wz)} {σ:St} {H:Hp} {s:Uo} (I:Inv X (pins++pl) σ H s):Inv X pins σ H s:=I.pins_of fun p hp=>I.pin p (UU _ (VH _ hp))
theorem b9 {iter:VI} {body:List V5} {wi:TI} {g:TG} {tb:TS} {pos:Ym} (hp:PassesOwn (UZ X.prog X.w) X.A X.env X.xe) (hc:X.calm=true) (hi:PI X tg iter wi) (hg:PG X tg g) (hb:PSs X body tb)
 (hs:∀ x,Ys iter X.env x=pure x:=by intro _;rfl):PS X (.For tg iter body [] pos) (aaQ wi g tb):=by
 intro pins s σ H D I h;refine wpAny_For (thn (hi pins s σ H _ I h) fun v s1 h1=>thn h1 fun HB s2 h2=>?_) hs;obtain ⟨it,fp,tn,J,H2,e,I2,T,EG,f2,W,⟨m0,w0⟩,turn⟩:=h2;subst e
 -- FK stays true of CL FN objects through CL loop
 have Bo:∀ {H':Hp},(∀ b∈fp,H' b=none)->∀ b∈fp,fk X pins H' b:=fun hn b hb=>⟨hn b hb,(f2 b hb).2⟩;refine codeAny_forLoop_any (fun n s'=>∃ i f' H',Inv X pins f' H' s'/\tn i s'.heap/\(∀ b∈fp,H' b=none)/\W i n f' H') ?_ m0 ⟨0,σ,H2,I2,EG,fun b hb=>(f2 b hb).1,w0⟩;rintro n s3 ⟨i,Cv,H3,I3,HC,GJ,w3⟩;rcases turn i n Cv H3 w3 with ⟨stop,qn⟩ | ⟨go,N,hN,step⟩
 · refine V9 hp (thn (T.done X rfl rfl rfl hc i pins s3 Cv H3 X.xe I3 (Bo GJ) HC stop) fun r s4 ⟨hr,I4⟩=>?_);subst hr;exact XG ⟨Cv,H3,I4,qn⟩
 · refine V9 hp (thn (T.item X rfl rfl rfl hc i pins s3 Cv H3 X.xe I3 (Bo GJ) HC go) fun r s4 ⟨u,hr,h4⟩=>?_);subst hr;refine V9 hp (thn h4 fun _ s5 ⟨x,H5,I5,r5,y5,DR,FO⟩=>?_);have K3:=I5.pinned (Bo FO) (T.obj _ _ DR);refine V9 hp (thn (hg _ s5 Cv H5 x u _ K3 r5 (step x H5 y5)) fun _ s6 ⟨Qa,H6,I6,q6⟩=>?_);refine V9 hp (thn (hb _ s6 Qa H6 _ I6 q6) fun f s7 q7=>?_)
   have again:∀ {BZ:St} {H7:Hp},Inv X (pins++iJ fp s5.heap) BZ H7 s7->N BZ H7->∃ m,m<n/\∃ i f' H',Inv X pins f' H' s7/\tn i s7.heap/\(∀ b∈fp,H' b=none)/\W i m f' H':=fun {BZ H7} I7 n7=>by
    obtain ⟨m',hm,w7⟩:=hN BZ H7 n7;refine ⟨m',hm,i+1,BZ,H7,I7.unpinned,T.keep _ _ _ DR fun b hb o e=>(I7.pin (b,o) (UU _ (UU _ (cA hb e)))).1,fun b hb=>?_,w7⟩;obtain ⟨o,e,d⟩:=T.obj _ _ DR b hb;exact (I7.pin (b,o) (UU _ (UU _ (cA hb e)))).2.1
   cases f with
   | next=>obtain ⟨BZ,H7,I7,n7⟩:=q7;exact again I7 n7
   | cont=>obtain ⟨BZ,H7,I7,n7⟩:=q7;exact again I7 n7
   | brk=>obtain ⟨BZ,H7,I7,q7⟩:=q7;exact ⟨BZ,H7,I7.unpinned,q7⟩
   | ret v=>obtain ⟨x7,BZ,H7,I7,r7,q7⟩:=q7;exact ⟨x7,BZ,H7,I7.unpinned,r7,q7⟩
end
theorem qF {K:Uj} {a:Ul} {xs:List V} {g:TG} {tb:TS} {D:Ends} {σ:St} {H:Hp} (Pv:Nat->St->Hp->Prop) (h0:Pv 0 σ H) (hl:∀ i σ H,i<=xs.length->Pv i σ H->SqL K H a xs)
 (hs:∀ i x σ H,xs[i]?=some x->Pv i σ H->g x σ H fun AA H2=>tb { D with nx:=Pv (i+1),ct:=Pv (i+1),bk:=D.nx } AA H2) (hd:∀ σ H,Pv xs.length σ H->D.nx σ H) :
 ∃ W:Nat->Nat->St->Hp->Prop,(∃ m,W 0 m σ H)/\∀ i m σ H,W i m σ H →
   ((Itl K a).stop i H/\D.nx σ H)∨((Itl K a).go i H/\∃ N:St->Hp->Prop,(∀ f' H',N f' H'->∃ m',m'<m/\W (i+1) m' f' H')/\∀ x H',(Itl K a).yld i H x H'->g x σ H' fun AA H2=>tb { D with nx:=N,ct:=N,bk:=D.nx } AA H2):=by
 refine ⟨fun i m σ H=>m=xs.length - i/\i<=xs.length/\Pv i σ H,⟨xs.length,by simp,Vh _,h0⟩,?_⟩;rintro i m σ H ⟨rfl,hi,p⟩;have q:=hl i σ H hi p;by_cases AB:i<xs.length
 · refine .inr ⟨⟨xs,xs[i],q,by simp [AB]⟩,Pv (i+1),fun f' H' p'=>⟨xs.length - (i+1),by omega,rfl,AB,p'⟩,fun x H' y=>?_⟩;obtain ⟨e,y⟩:=y;subst e;exact hs i x σ _ (y xs q) p
 · have e:i=xs.length:=by omega
   subst e;exact .inl ⟨⟨xs,q,Uq _⟩,hd σ H p⟩
theorem oI {K:Uj} {a:Ul} {xs:List V} {g:TG} {tb:TS} {D:Ends} {σ:St} {H:Hp} (Pv:Nat->St->Hp->Prop) (h0:Pv 0 σ H) (hl:∀ i σ H,i<=xs.length->Pv i σ H->SqT K H a xs)
 (hs:∀ i x σ H,xs[i]?=some x->Pv i σ H->g x σ H fun AA H2=>tb { D with nx:=Pv (i+1),ct:=Pv (i+1),bk:=D.nx } AA H2) (hd:∀ σ H,Pv xs.length σ H->D.nx σ H) :
 ∃ W:Nat->Nat->St->Hp->Prop,(∃ m,W 0 m σ H)/\∀ i m σ H,W i m σ H →
   ((Itt K a).stop i H/\D.nx σ H)∨((Itt K a).go i H/\∃ N:St->Hp->Prop,(∀ f' H',N f' H'->∃ m',m'<m/\W (i+1) m' f' H')/\∀ x H',(Itt K a).yld i H x H'->g x σ H' fun AA H2=>tb { D with nx:=N,ct:=N,bk:=D.nx } AA H2):=by
 refine ⟨fun i m σ H=>m=xs.length - i/\i<=xs.length/\Pv i σ H,⟨xs.length,by simp,Vh _,h0⟩,?_⟩;rintro i m σ H ⟨rfl,hi,p⟩;have q:=hl i σ H hi p;by_cases AB:i<xs.length
 · refine .inr ⟨⟨xs,xs[i],q,by simp [AB]⟩,Pv (i+1),fun f' H' p'=>⟨xs.length - (i+1),by omega,rfl,AB,p'⟩,fun x H' y=>?_⟩;obtain ⟨e,y⟩:=y;subst e;exact hs i x σ _ (y xs q) p
 · have e:i=xs.length:=by omega
   subst e;exact .inl ⟨⟨xs,q,Uq _⟩,hd σ H p⟩
theorem bT {lo:Int} {n:Nat} {g:TG} {tb:TS} {D:Ends} {σ:St} {H:Hp} (Pv:Nat->St->Hp->Prop) (h0:Pv 0 σ H)
 (hs:∀ i σ H,i<n->Pv i σ H->g (.int (lo+i)) σ H fun AA H2=>tb { D with nx:=Pv (i+1),ct:=Pv (i+1),bk:=D.nx } AA H2) (hd:∀ σ H,Pv n σ H->D.nx σ H) :
 ∃ W:Nat->Nat->St->Hp->Prop,(∃ m,W 0 m σ H)/\∀ i m σ H,W i m σ H →
   ((Itr lo n).stop i H/\D.nx σ H)∨((Itr lo n).go i H/\∃ N:St->Hp->Prop,(∀ f' H',N f' H'->∃ m',m'<m/\W (i+1) m' f' H')/\∀ x H',(Itr lo n).yld i H x H'->g x σ H' fun AA H2=>tb { D with nx:=N,ct:=N,bk:=D.nx } AA H2):=by
 refine ⟨fun i m σ H=>m=n - i/\i<=n/\Pv i σ H,⟨n,by simp,Vh _,h0⟩,?_⟩;rintro i m σ H ⟨rfl,hi,p⟩;by_cases AB:i<n
 · refine .inr ⟨AB,Pv (i+1),fun f' H' p'=>⟨n - (i+1),by omega,rfl,AB,p'⟩,fun x H' y=>?_⟩;obtain ⟨e,y⟩:=y;subst e y;exact hs i σ _ AB p
 · have e:i=n:=by omega
   subst e;exact .inl ⟨Uq _,hd σ H p⟩
end L2
namespace L2
open PySem PySem.Spec PyProof.Rows
abbrev R2:=V->V->Hp->VK->Prop
def OpR (X:Cx) (f:Um->Um->Sem Um) (r:R2):Prop :=
 ∀ (pins:List (Ul×Wz)) (s:Uo) (σ:St) (H:Hp) (x y:V) (v u:Um) (Q:VK),Inv X pins σ H s->RelV x v->RelV y u->r x y H Q →
   UO (UZ X.prog X.w) X.A (f v u) (EP X pins σ Q) X.xe s
def UnR (X:Cx) (f:Um->Sem Um) (r:V->Hp->VK->Prop):Prop :=
 ∀ (pins:List (Ul×Wz)) (s:Uo) (σ:St) (H:Hp) (x:V) (v:Um) (Q:VK),Inv X pins σ H s->RelV x v->r x H Q →
   UO (UZ X.prog X.w) X.A (f v) (EP X pins σ Q) X.xe s
def dJ (X:Cx) (f:Um) (r:List V->Hp->VK->Prop):Prop :=
 ∀ (pins:List (Ul×Wz)) (s:Uo) (σ:St) (H:Hp) (xs:List V) (us:List Um) (Q:VK),Inv X pins σ H s->Vals xs us->r xs H Q →
   UO (UZ X.prog X.w) X.A (call f us) (EP X pins σ Q) X.xe s
def aaW (X:Cx) (r:V->Hp->(Bool->Hp->Prop)->Prop):Prop :=
 ∀ (pins:List (Ul×Wz)) (s:Uo) (σ:St) (H:Hp) (x:V) (v:Um) (Q:Bool->Hp->Prop),Inv X pins σ H s->RelV x v->r x H Q →
   UO (UZ X.prog X.w) X.A (truthy v) (TP X pins σ Q) X.xe s
def tOp (r:R2) (ta tb:TE):TE:=fun σ H Q=>ta σ H fun x H1=>tb σ H1 fun y H2=>r x y H2 Q
def tUn (r:V->Hp->VK->Prop) (ta:TE):TE:=fun σ H Q=>ta σ H fun x H1=>r x H1 Q
inductive IrI (C:Int->Int->Prop) (g:Int->Int->V) (x:V) (y:V) (H:Hp) (Q:VK):Prop
 | mk (i:_) (j:_) (Aw:x=.int i) (Ax:y=.int j) (AE:C i j) (AQ:Q (g i j) H):IrI C g x y H Q
def rI (C:Int->Int->Prop) (g:Int->Int->V):R2:=IrI C g
inductive zH (g:Int->Int->V) (x:V) (y:V) (H:Hp) (Q:VK):Prop
 | mk (i:_) (j:_) (Aw:x=.int i) (Ax:y=.int j) (AE:Q (g i j) H):zH g x y H Q
def rI0 (g:Int->Int->V):R2:=zH g
inductive IrU (g:Int->V) (x:V) (H:Hp) (Q:VK):Prop
 | mk (i:_) (Aw:x=.int i) (Ax:Q (g i) H):IrU g x H Q
def rU (g:Int->V):V->Hp->VK->Prop:=IrU g
section
variable {X:Cx} {a b c:VI} {ta tb tc:TE} {pos:Ym}
theorem yJ (ha:PE X a ta) (hb:PE X b tb) {pins:List (Ul×Wz)} {s:Uo} {σ:St} {H:Hp} {R:V->V->Hp->Prop} (I:Inv X pins σ H s)
 (h:ta σ H fun x H1=>tb σ H1 fun y H2=>R x y H2) {Q:Um->Uo->Prop} {f:Um->Um->Sem Um}
 (hf:∀ v u s2 x y H2,Inv X pins σ H2 s2->RelV x v->RelV y u->R x y H2->UO (UZ X.prog X.w) X.A (f v u) Q X.xe s2) :
 UO (UZ X.prog X.w) X.A (WS a X.env) (fun v Ab=>UO (UZ X.prog X.w) X.A (WS b X.env) (fun u Bs=>UO (UZ X.prog X.w) X.A (f v u) Q X.xe Bs) X.xe Ab) X.xe s:=by
 refine thn (ha pins s σ H _ I h) fun v s1 ⟨x,H1,I1,r1,q1⟩=>?_;refine thn (hb pins s1 σ H1 _ I1 q1) fun u s2 ⟨y,H2,I2,r2,q2⟩=>?_;exact hf v u s2 x y H2 I2 r1 r2 q2
theorem ak {op:Operator} {r:R2} (ho:OpR X (XZ op) r) (ha:PE X a ta) (hb:PE X b tb):PE X (.BinOp a op b pos) (tOp r ta tb):=by
 intro pins s σ H Q I h;exact wpAny_BinOp (yJ ha hb I h fun v u s2 x y H2 I2 rx ry q=>ho pins s2 σ H2 x y v u Q I2 rx ry q)
theorem oh {op:UnaryOp} {r:V->Hp->VK->Prop} (ho:UnR X (unaryOp op) r) (ha:PE X a ta):PE X (.UnaryOp op a pos) (tUn r ta):=by
 intro pins s σ H Q I h;exact UnaryOp_ (thn (ha pins s σ H _ I h) fun v s1 ⟨x,H1,I1,r1,q1⟩=>ho pins s1 σ H1 x v Q I1 r1 q1)
theorem opI {f:Um->Um->Sem Um} {C:Int->Int->Prop} {g:Int->Int->Int}
 (rule:∀ (i j:Int) (t u:Tok) (s:Uo) (Q:Um->Uo->Prop) (E:Um->Uo->Prop),C i j->Q (.int (g i j) s.toks) { s with toks:=s.toks+1 }->UO (UZ X.prog X.w) X.A (f (.int i t) (.int j u)) Q E s) :
 OpR X f (rI C fun i j=>.int (g i j)):=by
 intro pins s σ H x y v u Q I rx ry h;obtain ⟨i,j,rfl,rfl,hc,q⟩:=h;obtain ⟨t,rfl⟩:=rx;obtain ⟨t',rfl⟩:=ry;exact rule i j t t' s _ _ hc ⟨.int (g i j),H,I.tok _,⟨_,rfl⟩,q⟩
theorem zu {f:Um->Um->Sem Um} {g:Int->Int->Int}
 (rule:∀ (i j:Int) (t u:Tok) (s:Uo) (Q:Um->Uo->Prop) (E:Um->Uo->Prop),Q (.int (g i j) s.toks) { s with toks:=s.toks+1 }->UO (UZ X.prog X.w) X.A (f (.int i t) (.int j u)) Q E s) :
 OpR X f (rI0 fun i j=>.int (g i j)):=by
 intro pins s σ H x y v u Q I rx ry h;obtain ⟨i,j,rfl,rfl,q⟩:=h;obtain ⟨t,rfl⟩:=rx;obtain ⟨t',rfl⟩:=ry;exact rule i j t t' s _ _ ⟨.int (g i j),H,I.tok _,⟨_,rfl⟩,q⟩
theorem yV {f:Um->Um->Sem Um} {g:Int->Int->Bool}
 (rule:∀ (i j:Int) (t u:Tok) (s:Uo) (Q:Um->Uo->Prop) (E:Um->Uo->Prop),Q (.bool (g i j)) s->UO (UZ X.prog X.w) X.A (f (.int i t) (.int j u)) Q E s) :
 OpR X f (rI0 fun i j=>.bl (g i j)):=by
 intro pins s σ H x y v u Q I rx ry h;obtain ⟨i,j,rfl,rfl,q⟩:=h;obtain ⟨t,rfl⟩:=rx;obtain ⟨t',rfl⟩:=ry;exact rule i j t t' s _ _ ⟨.bl (g i j),H,I,rfl,q⟩
def aal (i j:Int):Prop:=0<j/\j<1073741824
def aa7 (i j:Int):Prop:=0<=j/\j<=1000000/\i.natAbs<2 ^ 64
def CMul (i j:Int):Prop:=(-(2 ^ 64)<i/\i<2 ^ 64)∨(-(2 ^ 64)<j/\j<2 ^ 64)
theorem CMul.ok {i j:Int} (h:CMul i j):IntMulOk i j:=by
 rcases h with ⟨h1,h2⟩ | ⟨h1,h2⟩
 · exact .of_left (intBits_le_64 h1 h2)
 · exact .of_right (intBits_le_64 h1 h2)
theorem bq:OpR X (XZ .Add) (rI0 fun i j=>.int (i+j)):=zu fun _ _ _ _ _ _ _ q=>add_int q
theorem iG:OpR X (XZ .Sub) (rI0 fun i j=>.int (i - j)):=zu fun _ _ _ _ _ _ _ q=>sub_int q
theorem eV:OpR X (XZ .Mult) (rI CMul fun i j=>.int (i * j)):=opI fun _ _ _ _ _ _ _ hc q=>mul_int q hc.ok
theorem aQ:OpR X (XZ .FloorDiv) (rI aal fun i j=>.int (i / j)):=opI fun i j _ _ _ _ _ hc q=>by
 have h1:(0:Int)<j:=hc.1;have h2:j<1073741824:=hc.2;exact floordiv_int (by omega) (by rw [Int.fdiv_eq_ediv_of_nonneg i (by omega)];exact q) (.inl (PyProof.noPylong_small (by omega)))
theorem aK:OpR X (XZ .Mod) (rI (fun _ j=>0<j) fun i j=>.int (i%j)):=opI fun i j _ _ _ _ _ hc q=>by
 have h1:(0:Int)<j:=hc;exact mod_int' (by omega) (by rw [Int.fmod_eq_emod_of_nonneg i (by omega)];exact q)
theorem vH:OpR X (XZ .Pow) (rI aa7 fun i j=>.int (i ^ j.toNat)):=opI fun _ _ _ _ _ _ _ hc q=>pow_int_small hc.1 hc.2.1 hc.2.2 q
theorem unI {f:Um->Sem Um} {g:Int->Int}
 (rule:∀ (i:Int) (t:Tok) (s:Uo) (Q:Um->Uo->Prop) (E:Um->Uo->Prop),Q (.int (g i) s.toks) { s with toks:=s.toks+1 }->UO (UZ X.prog X.w) X.A (f (.int i t)) Q E s) :
 UnR X f (rU fun i=>.int (g i)):=by
 intro pins s σ H x v Q I rx h;obtain ⟨i,rfl,q⟩:=h;obtain ⟨t,rfl⟩:=rx;exact rule i t s _ _ ⟨.int (g i),H,I.tok _,⟨_,rfl⟩,q⟩
theorem jT:UnR X (unaryOp .USub) (rU fun i=>.int (-i)):=unI fun _ _ _ _ _ q=>neg_int q
end
def aan:V->V->Bool
 | .non,.non=>true | .non,.int _=>true | .int _,.non=>true | .non,.bl _=>true | .bl _,.non=>true | .non,.str _=>true | .str _,.non=>true
 | .int _,.int _=>true | .bl _,.bl _=>true | .str _,.str _=>true | .byt _,.byt _=>true
 | .int _,.str _=>true | .str _,.int _=>true | .bl _,.str _=>true | .str _,.bl _=>true
 | _,_=>false
inductive zA (x:V) (y:V) (H:Hp) (Q:VK):Prop
 | mk  (Aw:aan x y=true) (Ax:Q (.bl (decide (x=y))) H):zA  x y H Q
def rEq:R2:=zA
inductive aaj (x:V) (y:V) (H:Hp) (Q:VK):Prop
 | mk  (Aw:aan x y=true) (Ax:Q (.bl (!decide (x=y))) H):aaj  x y H Q
def rNe:R2:=aaj
theorem tM {i j:Int}:decide (V.int i=V.int j)=(i == j):=by
 rw [Zc];simp
theorem vT {i j:Bool}:decide (V.bl i=V.bl j)=(i == j):=by
 rw [Zc];simp
theorem tX {i j:UA}:decide (V.str i=V.str j)=(i == j):=by
 rw [Zc];simp
theorem tJ {i j:Array UInt8}:decide (V.byt i=V.byt j)=(i.toList == j.toList):=by
 rw [Zc];cases i;cases j;simp
section
variable {X:Cx} {a b c:VI} {ta tb tc:TE} {pos:Ym}
theorem bn {pins:List (Ul×Wz)} {σ:St} {H:Hp} {s:Uo} {Q:VK} {k k':Bool} (I:Inv X pins σ H s) (q:Q (.bl k) H) (e:k=k'):EP X pins σ Q (.bool k') s:=by
 subst e;exact ⟨.bl k,H,I,rfl,q⟩
theorem cb:OpR X (WH .Eq) rEq:=by
 intro pins s σ H x y v u Q I rx ry h;obtain ⟨hs,q⟩:=h;cases x with
 | non =>
   cases rx;cases y with
   | non=>cases ry;exact PySem.EqNone.eq_none_none (bn I q (by simp))
   | bl j=>cases ry;exact PySem.EqNone.eq_none_bool (bn I q (by simp))
   | int j=>obtain ⟨t',rfl⟩:=ry;exact PySem.EqNone.eq_none_int (bn I q (by simp))
   | str j=>obtain ⟨t',rfl⟩:=ry;exact PySem.EqNone.eq_none_str (bn I q (by simp))
   | _=>exact absurd (show false=true from hs) UN
 | bl i =>
   cases rx;cases y with
   | non=>cases ry;exact PySem.EqNone.eq_bool_none (bn I q (by simp))
   | bl j=>cases ry;exact eq_bool (bn I q vT)
   | str j=>obtain ⟨t',rfl⟩:=ry;exact PySem.EqMixed.eq_bool_str (bn I q (by simp))
   | _=>exact absurd (show false=true from hs) UN
 | int i =>
   obtain ⟨t,rfl⟩:=rx;cases y with
   | non=>cases ry;exact PySem.EqNone.eq_int_none (bn I q (by simp))
   | int j=>obtain ⟨t',rfl⟩:=ry;exact eq_int (bn I q tM)
   | str j=>obtain ⟨t',rfl⟩:=ry;exact PySem.EqMixed.eq_int_str (bn I q (by simp))
   | _=>exact absurd (show false=true from hs) UN
 | str i =>
   obtain ⟨t,rfl⟩:=rx;cases y with
   | non=>cases ry;exact PySem.EqNone.eq_str_none (bn I q (by simp))
   | bl j=>cases ry;exact PySem.EqMixed.eq_str_bool (bn I q (by simp))
   | int j=>obtain ⟨t',rfl⟩:=ry;exact PySem.EqMixed.eq_str_int (bn I q (by simp))
   | str j=>obtain ⟨t',rfl⟩:=ry;exact eq_str (bn I q tX)
   | _=>exact absurd (show false=true from hs) UN
 | byt i =>
   obtain ⟨t,rfl⟩:=rx;cases y with
   | byt j=>obtain ⟨t',rfl⟩:=ry;exact PySem.W.eq_bytes (bn I q tJ)
   | _=>exact absurd (show false=true from hs) UN
 | _=>cases y <;> exact absurd (show false=true from hs) UN
theorem fh:OpR X (WH .NotEq) rNe:=by
 intro pins s σ H x y v u Q I rx ry h;obtain ⟨hs,q⟩:=h;cases x with
 | non =>
   cases rx;cases y with
   | non=>cases ry;exact PySem.EqNone.ne_none_none (bn I q (by simp))
   | bl j=>cases ry;exact PySem.EqNone.ne_none_bool (bn I q (by simp))
   | int j=>obtain ⟨t',rfl⟩:=ry;exact PySem.EqNone.ne_none_int (bn I q (by simp))
   | str j=>obtain ⟨t',rfl⟩:=ry;exact PySem.EqNone.ne_none_str (bn I q (by simp))
   | _=>exact absurd (show false=true from hs) UN
 | bl i =>
   cases rx;cases y with
   | non=>cases ry;exact PySem.EqNone.ne_bool_none (bn I q (by simp))
   | bl j=>cases ry;exact ne_bool (bn I q (congrArg not vT))
   | str j=>obtain ⟨t',rfl⟩:=ry;exact PySem.EqMixed.ne_bool_str (bn I q (by simp))
   | _=>exact absurd (show false=true from hs) UN
 | int i =>
   obtain ⟨t,rfl⟩:=rx;cases y with
   | non=>cases ry;exact PySem.EqNone.ne_int_none (bn I q (by simp))
   | int j=>obtain ⟨t',rfl⟩:=ry;exact ne_int (bn I q (congrArg not tM))
   | str j=>obtain ⟨t',rfl⟩:=ry;exact PySem.EqMixed.ne_int_str (bn I q (by simp))
   | _=>exact absurd (show false=true from hs) UN
 | str i =>
   obtain ⟨t,rfl⟩:=rx;cases y with
   | non=>cases ry;exact PySem.EqNone.ne_str_none (bn I q (by simp))
   | bl j=>cases ry;exact PySem.EqMixed.ne_str_bool (bn I q (by simp))
   | int j=>obtain ⟨t',rfl⟩:=ry;exact PySem.EqMixed.ne_str_int (bn I q (by simp))
   | str j=>obtain ⟨t',rfl⟩:=ry;exact ne_str (bn I q (congrArg not tX))
   | _=>exact absurd (show false=true from hs) UN
 | byt i =>
   obtain ⟨t,rfl⟩:=rx;cases y with
   | byt j=>obtain ⟨t',rfl⟩:=ry;exact PySem.W.ne_bytes (bn I q (congrArg not tJ))
   | _=>exact absurd (show false=true from hs) UN
 | _=>cases y <;> exact absurd (show false=true from hs) UN
theorem gx:OpR X (WH .Lt) (rI0 fun i j=>.bl (decide (i<j))):=yV fun _ _ _ _ _ _ _ q=>lt_int q
theorem ik:OpR X (WH .LtE) (rI0 fun i j=>.bl (decide (i<=j))):=yV fun _ _ _ _ _ _ _ q=>le_int q
theorem kI:OpR X (WH .Gt) (rI0 fun i j=>.bl (decide (j<i))):=yV fun _ _ _ _ _ _ _ q=>gt_int q
theorem az (b:VI) {op:CmpOp} (h:op≠.In:=by decide) (h2:op≠.NotIn:=by decide):behindInMarks op b=false:=by
 have e1:(op == CmpOp.In)=false:=by cases op <;> first | rfl | exact absurd rfl h
 have e2:(op == CmpOp.NotIn)=false:=by cases op <;> first | rfl | exact absurd rfl h2
 cases b <;> simp [behindInMarks,e1,e2]
theorem bZ {op:CmpOp} {r:R2} (ho:OpR X (WH op) r) (ha:PE X a ta) (hb:PE X b tb) (hm:behindInMarks op b=false):PE X (.Compare a [op] [b] pos) (tOp r ta tb):=by
 intro pins s σ H Q I h;exact wpAny_Compare1 (yJ ha hb I h fun v u s2 x y H2 I2 rx ry q=>ho pins s2 σ H2 x y v u Q I2 rx ry q) hm
inductive xT (x:V) (Q:Bool->Hp->Prop) (H':Hp):Prop
 | mk (k:Bool) (Aw:x=.bl k) (Ax:Q k H'):xT x Q H'
def l8 (t:TE):TT:=fun σ H Q=>t σ H fun x H'=>xT x Q H'
theorem ax {op:CmpOp} {r:R2} (ho:OpR X (WH op) r) (ha:PE X a ta) (hb:PE X b tb) (hm:behindInMarks op b=false):PT X (.Compare a [op] [b] pos) (l8 (tOp r ta tb)):=by
 intro pins s σ H Q I h
 refine wpAny_isTrue_Compare1 (thn (ha pins s σ H _ I h) fun v s1 ⟨x,H1,I1,r1,q1⟩=>thn (hb pins s1 σ H1 _ I1 q1) fun u s2 ⟨y,H2,I2,r2,q2⟩ =>
  thn (ho pins s2 σ H2 x y v u _ I2 r1 r2 q2) fun c s3 ⟨z,H3,I3,r3,k,e,q3⟩=>?_) hm
 subst e;cases r3;exact Wv ⟨H3,I3,q3⟩
def pH (r r':R2) (ta tb tc:TE):TE:=fun σ H Q=>ta σ H fun x H1=>tb σ H1 fun y H2=>r x y H2 fun z H3=>∃ k,z=.bl k ∧
 (if k=true then tc σ H3 fun w' H4=>r' y w' H4 Q else Q (.bl false) H3)
theorem qJ {op FP:CmpOp} {r r':R2} (ho:OpR X (WH op) r) (Ct:OpR X (WH FP) r') (ha:PE X a ta) (hb:PE X b tb) (hc:PE X c tc)
 (hm:lastMarks [op,FP] [b,c]=false:=by with_unfolding_all rfl):PE X (.Compare a [op,FP] [b,c] pos) (pH r r' ta tb tc):=by
 intro pins s σ H Q I h
 refine Compare_chain (thn (ha pins s σ H _ I h) fun v s1 ⟨x,H1,I1,r1,q1⟩=>chain_link (thn (hb pins s1 σ H1 _ I1 q1) fun u s2 ⟨y,H2,I2,r2,q2⟩ =>
  thn (ho pins s2 σ H2 x y v u _ I2 r1 r2 q2) fun d s3 ⟨z,H3,I3,r3,k,e,q3⟩=>?_)) hm
 subst e;cases r3;refine Wv ?_;cases k with
 | false=>exact ite_ff ⟨.bl false,H3,I3,rfl,q3⟩
 | true=>exact ite_tt (chain_last (thn (hc pins s3 σ H3 _ I3 q3) fun w' s4 ⟨z',H4,I4,r4,q4⟩=>Ct pins s4 σ H4 y z' u w' Q I4 r2 r4 q4))
theorem jv {op FP:CmpOp} {r r':R2} (ho:OpR X (WH op) r) (Ct:OpR X (WH FP) r') (ha:PE X a ta) (hb:PE X b tb) (hc:PE X c tc)
 (hm:lastMarks [op,FP] [b,c]=false:=by with_unfolding_all rfl):PT X (.Compare a [op,FP] [b,c] pos) (l8 (pH r r' ta tb tc)):=by
 intro pins s σ H Q I h
 refine isTrue_chain (thn (ha pins s σ H _ I h) fun v s1 ⟨x,H1,I1,r1,q1⟩=>test_link (thn (hb pins s1 σ H1 _ I1 q1) fun u s2 ⟨y,H2,I2,r2,q2⟩ =>
  thn (ho pins s2 σ H2 x y v u _ I2 r1 r2 q2) fun d s3 ⟨z,H3,I3,r3,k,e,q3⟩=>?_)) hm
 subst e;cases r3;refine Wv ?_;cases k with
 | false =>
   obtain ⟨k',e',q'⟩:=q3;cases e';exact ite_ff ⟨H3,I3,q'⟩
 | true =>
   refine ite_tt (test_last (thn (hc pins s3 σ H3 _ I3 q3) fun w' s4 ⟨z',H4,I4,r4,q4⟩=>thn (Ct pins s4 σ H4 y z' u w' _ I4 r2 r4 q4) fun d' s5 ⟨z2,H5,I5,r5,k2,e2,q5⟩=>?_));subst e2;cases r5;exact Wv ⟨H5,I5,q5⟩
def ze (K:Uj) (x:V) (H:Hp) (k:Bool):Prop :=
 match x with
 | .non=>k=false
 | .bl b=>k=b
 | .int i=>k=(i != 0)
 | .str y=>y.length<=US/\k=((y.length:Int) != 0)
 | .byt y=>y.size<=US/\k=((y.size:Int) != 0)
 | .ref p=>(∃ xs,SqL K H p xs/\k=!xs.isEmpty)∨(∃ xs,SqT K H p xs/\k=!xs.isEmpty)∨∃ AU,H p=some (.dK AU)/\k=!AU.isEmpty
 | _=>False
theorem r6 {κ:Type} {AU:List (κ×V)} {vs:List (κ×Um)} (r:KV AU vs):(!vs.isEmpty)=!AU.isEmpty:=by
 cases r <;> rfl
theorem lZ {xs:List V} {its:List Um} (r:Vals xs its):(!its.toArray.isEmpty)=!xs.isEmpty:=by
 cases r <;> simp
theorem gh:(US:Nat)<2 ^ 63:=by rw [Wy];decide
theorem yD:aaW X (fun x H Q=>∃ k,ze X.K x H k/\Q k H):=by
 intro pins s σ H x v Q I rx h;obtain ⟨k,e,q⟩:=h;have hl:=gh;have hs:US=16777216:=Wy;cases x with
 | non =>
   cases rx;have e':k=false:=e;subst e';exact truthy_none ⟨H,I,q⟩
 | bl b =>
   cases rx;have e':k=b:=e;subst e';exact Wv ⟨H,I,q⟩
 | int i =>
   obtain ⟨t,rfl⟩:=rx;have e':k=(i != 0):=e;subst e';exact PySem.P.truthy_int ⟨H,I,q⟩
 | str y =>
   obtain ⟨t,rfl⟩:=rx;obtain ⟨hy,e'⟩:y.length<=US/\k=((y.length:Int) != 0):=e;subst e';exact PySem.P.truthy_str (by omega) ⟨H,I.tok _,q⟩
 | byt y =>
   obtain ⟨t,rfl⟩:=rx;obtain ⟨hy,e'⟩:y.size<=US/\k=((y.size:Int) != 0):=e;subst e';exact PySem.W.truthy_bytes (by omega) ⟨H,I.tok _,q⟩
 | ref p =>
   cases rx;have e':(∃ xs,SqL X.K H p xs/\k=!xs.isEmpty)∨(∃ xs,SqT X.K H p xs/\k=!xs.isEmpty)∨∃ AU,H p=some (.dK AU)/\k=!AU.isEmpty:=e;rcases e' with ⟨xs,hx,e'⟩ | ⟨xs,hx,e'⟩ | ⟨AU,hx,e'⟩
   · subst e';obtain ⟨its,r,pl,hz⟩:=I.list hx;have hlen:=r.length;exact wpAny_truthy_list pl.isList (by simp only [Ux];omega) ⟨H,I.tok _,by rw [lZ r];exact q⟩
   · subst e';obtain ⟨its,r,pl,hz⟩:=I.tuple hx;have hlen:=r.length;exact truthy_tuple pl (by simp only [Ux];omega) ⟨H,I.tok _,by rw [lZ r];exact q⟩
   · subst e';obtain ⟨hz,hS,vs,r,m⟩:AU.length<=US/\(p == sysModules)=false/\∃ vs,KV AU vs/\s.heap.DictOf (oG X.prog X.w) p vs:=I.hok p _ hx;have hlen:AU.length=vs.length:=UK r;exact wpAny_truthy_dict hS m (by omega) ⟨H,I.tok _,by rw [r6 r];exact q⟩
 | _=>exact (show False from e).elim
theorem aZ (ha:PE X a ta) (he:∀ whole,isTrue a X.env whole=(do let v ← whole;standAt a.pos;holding [v] (truthy v))) :
 PT X a (fun σ H Q=>ta σ H fun x H'=>∃ k,ze X.K x H' k/\Q k H'):=by
 intro pins s σ H Q I h;exact isTrue_plain (thn (ha pins s σ H _ I h) fun v s1 ⟨x,H1,I1,r1,q1⟩=>yD pins s1 σ H1 x v Q I1 r1 q1) (he _)
theorem aJ:OpR X (XZ .Add) (fun x y H Q=>∃ i j,x=.str i/\y=.str j/\i.length+j.length<=US/\Q (.str (i++j)) H):=by
 intro pins s σ H x y v u Q I rx ry h;obtain ⟨i,j,rfl,rfl,hz,q⟩:=h;obtain ⟨t,rfl⟩:=rx;obtain ⟨t',rfl⟩:=ry;exact add_str (fun t' tk=>⟨.str (i++j),H,I.tok _,⟨_,rfl⟩,q⟩) hz
theorem vals1 {x:V} {us:List Um} (r:Vals [x] us):∃ u,us=[u]/\RelV x u:=by
 cases r with
 | cons r1 r2=>cases r2;exact ⟨_,rfl,r1⟩
theorem vals2 {x y:V} {us:List Um} (r:Vals [x,y] us):∃ u w',us=[u,w']/\RelV x u/\RelV y w':=by
 cases r with
 | cons r1 r2 =>
   cases r2 with
   | cons r3 r4=>cases r4;exact ⟨_,_,rfl,r1,r3⟩
theorem ul (hc:X.calm=true):dJ X (.builtin "min") (fun xs H Q=>∃ i j,xs=[.int i,.int j]/\Q (.int (if j<i then j else i)) H):=by
 intro pins s σ H xs us Q I r h;obtain ⟨i,j,rfl,q⟩:=h;obtain ⟨u,w',rfl,⟨t,rfl⟩,⟨t',rfl⟩⟩:=vals2 r;refine min_two_ints (I.ok.hd hc) fun h' tk k=>⟨_,H,I.kept k,?_,q⟩;by_cases hj:j<i
 · rw [if_pos hj,if_pos hj];exact ⟨_,rfl⟩
 · rw [if_neg hj,if_neg hj];exact ⟨_,rfl⟩
theorem qp:dJ X (.builtin "divmod") (fun xs H Q=>∃ i j,xs=[.int i,.int j]/\aal i j/\∀ p,H p=none->Q (.ref p) (upd H p (.tup [.int (i / j),.int (i%j)]))):=by
 intro pins s σ H xs us Q I r h;obtain ⟨i,j,rfl,⟨h1,h2⟩,q⟩:=h;obtain ⟨u,w',rfl,⟨t,rfl⟩,⟨t',rfl⟩⟩:=vals2 r;refine divmod_int (by omega) ?_ (.inl (PyProof.noPylong_small (by omega)));rw [Int.fdiv_eq_ediv_of_nonneg i (by omega),Int.fmod_eq_emod_of_nonneg i (by omega)];have hn:H s.heap.objs.size=none:=I.hok.fresh (Uq _);refine ⟨.ref s.heap.objs.size,_,?_,rfl,q _ hn⟩;refine I.laid (fun b o e=>Up _ e) (Uq _) ⟨by simp only [Ui,W7];rw [Wy];decide,[.int (i / j) s.toks,.int (i%j) (s.toks+1)],0,.cons ⟨_,rfl⟩ (.cons ⟨_,rfl⟩ .nil),?_⟩;exact UG s.heap rfl
end
end L2
namespace L2
open PySem PySem.Spec PyProof.Rows
structure ObjM (h:VO) (x dx C:Ul) (mA:UA->Option Um):Prop where
 obj:h.get? x=some (W3 C dx)
 ns:h.Ns1 dx mA
 ne:dx≠x
theorem uw {h:VO} {dx:Ul} {mA:UA->Option Um} (n:h.Ns1 dx mA):∃ od,h.get? dx=some od/\∀ name,Zk name od=some (mA name):=by
 obtain ⟨o,es,ep,ho,hd,hk,_,hm⟩:=n;refine ⟨o,ho,fun name=>?_⟩;have e:=hm name;unfold nsFind findBy at e;rw [<- Array.find?_toList] at e;unfold Zk;rw [hd];dsimp only;split
 · rename_i y q
   rw [q] at e;exact congrArg some e
 · rename_i q
   rw [q] at e
   have a:es.toList.any (·.refKey)=false:=by
    rw [List.any_eq_false];intro y hy;obtain ⟨z,t,K4⟩:=hk y (Array.mem_toList_iff.mp hy);simp [DictEntry.refKey,K4]
   have a':¬ es.toList.any (·.refKey)=true:=by rw [a];exact UN
   rw [if_neg a'];exact congrArg some e
theorem ObjM.look {h:VO} {x dx C:Ul} {mA:UA->Option Um} (I:ObjM h x dx C mA):∃ od,PySem.W.InstAt h x (W3 C dx) C (some od)/\∀ name,Zk name od=some (mA name) :=
 let ⟨od,ho,hl⟩:=uw I.ns
 ⟨od,⟨I.obj,rfl,rfl,ho⟩,hl⟩
section
variable {prog:U1} {w:Vl} {A:Vm} {E:Um->Uo->Prop} {s:Uo} {K:Uj} {x dx C f:Ul} {mA:UA->Option Um} {name:UA} {v:Um}
theorem get_map {expr:Bool} {Q:Um->Uo->Prop} (X:K.In s.heap) (I:ObjM s.heap x dx C mA) (hg:Yl K C name=true) (hh:YJ K C=true)
 (ha:U5 K (.ref C) name=some none) (hv:mA name=some v) (Dt:PySem.W.handedIn v=true) (h:Q v { s with toks:=s.toks+1 }) :
 UO (UZ prog w) A (getAttr (.ref x) name expr) Q E s:=by
 obtain ⟨od,J,hl⟩:=I.look;exact PySem.W.get_value X J (Zs hg).1 (PySem.W.findObj_own hh ha rfl (by rw [hl,hv])) Dt h
theorem wz {pl:Sem Bool} {Q:Um×List Um->Uo->Prop} (X:K.In s.heap) (I:ObjM s.heap x dx C mA) (hg:Yl K C name=true)
 (hf:U5 K (.ref C) name=some (some (.ref f))) (ht:Y1 K (.ref f)=true) (hv:mA name=none) (h:Q (.ref f,[.ref x]) s) :
 UO (UZ prog w) A (getMethod (.ref x) name pl) Q E s:=by
 obtain ⟨od,J,hl⟩:=I.look;exact PySem.W.method_fn X J (Zs hg).1 (Zs hg).2 hf (beq_iff_eq.mp ht) (by show (Zk name od).map (·.isSome)=some false;rw [hl,hv];rfl) h
theorem xj {ns:List UA} {Q:Unit->Uo->Prop} (X:K.In s.heap) (I:ObjM s.heap x dx C mA)
 (hs:U5 K (.ref C) "__setattr__"=some (some (.builtin "object.__setattr__"))) (hp:ZT K C=true) (ht:PySem.W.takerIn K C name=some none) (hh:YJ K C=true)
 (hw:PySem.Within mA ns) (AH:ns.length<=US)
 (h:∀ h',ObjM h' x dx C (fun y=>if y=name then some v else mA y)->WY dx s.heap h'->Q () { s with heap:=h',toks:=s.toks+2 }) :
 UO (UZ prog w) A (setAttr (.ref x) name v) Q E s:=by
 obtain ⟨od,J,hl⟩:=I.look;refine PySem.W.set_plain X J hs (PySem.W.osa_open (s:={ s with toks:=s.toks+1 }) (r:=none) X J hp ht fun b=>?_);obtain ⟨cd,hc,E8⟩:=PySem.W.any_some hh;have hx:s.heap.get? x=some ⟨.ref C,some dx,.plain,#[]⟩:=I.obj;refine Uk (UE (Uk (Uk (wpAny_loadPart hx (Uk (PySem.W.Looks.here (s:={ s with toks:=s.toks+1 }) (PySem.W.looks_clsIn X hc) ?_))))));rw [E8];refine UE (a:=some dx) (Uk (UE (Uk ?_)));refine wpAny_nsSet1 (s:={ s with toks:=s.toks+1 }) I.ns fun h' JX hs2=>?_;obtain ⟨oD,Tv,Tw,Qb,Qc,Qd⟩:=JX.count (PySem.Within.cons name v hw);refine Uk (wpAny_lookBehind Qb (by rw [Qc];exact pastItsLine_dict (VS Qd (by rw [Ui];omega))) ?_);exact UE (h _ ⟨(hs2.2 _ (WX I.ne)).trans I.obj,JX,I.ne⟩ hs2)
theorem v5 {R:Zr->Uo->Prop} {vs:List Um} {kw:List (UA×Um)} (X:K.In s.heap) (hm:PySem.W.makesIn K C=true)
 (hi:U5 K (.ref C) "__init__"=some (some (.ref f))) (hf:PySem.W.typeIn K (.ref f)=some (.type "function"))
 (h:Yb (UZ prog w) (A.under (.builtin "type.__call__" ⟨.ref C::vs,kw⟩)) (.call (.ref f) ⟨.ref (s.heap.objs.size+1)::vs,kw⟩) (PySem.W.InitBack (s.heap.objs.size+1) R)
  { s with heap:=(s.heap.push Wl).push (W3 C s.heap.objs.size) }) :
 Yb (UZ prog w) A (.call (.ref C) ⟨vs,kw⟩) R s:=by
 obtain ⟨hh,g,d,t,os⟩:=s;exact PySem.W.make_core (PySem.W.makes_of X hm) (PySem.W.looks_findIn X hi) (fun self=>PySem.W.bind_fn X self hf) (.inl rfl) h
end
def dE (f:UA) (v:V):List (UA×V)->List (UA×V)
 | []=>[(f,v)]
 | (g,x)::r=>if g=f then (g,v)::r else (g,x)::dE f v r
theorem kE (f g:UA) (v:V):∀ fs:List (UA×V),(dE f v fs).lookup g=if g=f then some v else fs.lookup g
 | []=>by
   show Xd g [(f,v)]=_;by_cases h:g=f
   · have hb:(g == f)=true:=beq_iff_eq.mpr h;simp only [Xd,hb,if_pos h]
   · have hb:(g == f)=false:=beq_eq_false_iff_ne.mpr h;simp only [Xd,hb,if_neg h]
 | (k,x)::r=>by
   have ih:=kE f g v r;rw [show dE f v ((k,x)::r)=(if k=f then (k,v)::r else (k,x)::dE f v r) from rfl];by_cases hk:k=f
   · rw [if_pos hk];by_cases h:g=k
     · have hb:(g == k)=true:=beq_iff_eq.mpr h;simp only [Xd,hb,if_pos (h.trans hk)]
     · have hb:(g == k)=false:=beq_eq_false_iff_ne.mpr h;simp only [Xd,hb,if_neg (fun e:g=f=>h (e.trans hk.symm))]
   · rw [if_neg hk];by_cases h:g=k
     · have hb:(g == k)=true:=beq_iff_eq.mpr h;simp only [Xd,hb,if_neg (fun e:g=f=>hk (h.symm.trans e))]
     · have hb:(g == k)=false:=beq_eq_false_iff_ne.mpr h;simp only [Xd,hb];exact ih
theorem kc (f:UA) (v:V):∀ fs:List (UA×V),f∈(dE f v fs).map (·.1)/\∀ g,g∈fs.map (·.1)->g∈(dE f v fs).map (·.1)
 | []=>⟨by simp [dE],fun g h=>by simp at h⟩
 | (k,x)::r=>by
   obtain ⟨i1,i2⟩:=kc f v r;rw [show dE f v ((k,x)::r)=(if k=f then (k,v)::r else (k,x)::dE f v r) from rfl];by_cases hk:k=f
   · rw [if_pos hk];subst hk;exact ⟨by simp,fun g h=>by simpa using h⟩
   · rw [if_neg hk];refine ⟨?_,fun g h=>?_⟩
     · rw [UB];exact Uv _ i1
     · rw [UB] at h ⊢;rcases UH.mp h with e | e
       · exact UH.mpr (.inl e)
       · exact Uv _ (i2 g e)
theorem kJ (f:UA) (v:V):∀ fs:List (UA×V),(dE f v fs).length<=fs.length+1
 | []=>by simp [dE]
 | (k,x)::r=>by
   have ih:=kJ f v r;rw [show dE f v ((k,x)::r)=(if k=f then (k,v)::r else (k,x)::dE f v r) from rfl];by_cases hk:k=f
   · rw [if_pos hk,Ui,Ui];omega
   · rw [if_neg hk,Ui,Ui];omega
theorem RelO.some_of {v:V} {o:Option Um} (r:RelO (some v) o):∃ u,o=some u/\RelV v u:=by
 cases o with
 | none=>exact (show False from r).elim
 | some u=>exact ⟨u,rfl,r⟩
theorem RelO.none_of {o:Option Um} (r:RelO none o):o=none:=by
 cases o with
 | none=>rfl
 | some u=>exact (show False from r).elim
theorem ug {v:V} {u:Um} (r:RelV v u):PySem.W.handedIn u=true:=by
 cases v with
 | non=>cases (show u=V4 from r);rfl
 | bl b=>cases (show u=Xu b from r);rfl
 | int i=>obtain ⟨t,e⟩:=(show ∃ t,u=Value.int i t from r);cases e;rfl
 | str x=>obtain ⟨t,e⟩:=(show ∃ t,u=Value.str x t from r);cases e;rfl
 | byt b=>obtain ⟨t,e⟩:=(show ∃ t,u=Value.bytes b t from r);cases e;rfl
 | flt b=>obtain ⟨t,e⟩:=(show ∃ t,u=Value.float b t from r);cases e;rfl
 | ref a=>cases (show u=VT a from r);rfl
 | ty n=>cases (show u=Value.type n from r);rfl
section
variable {P:U1} {w:Vl} {H H':Hp} {h h':VO} {a C dx:Ul} {fs GG:List (UA×V)}
theorem lI (hok:HOk P w H h) (e:H a=some (.ins C dx fs)):∃ mA,ObjM h a dx C mA/\(∀ f,RelO (fs.lookup f) (mA f))/\PySem.Within mA (fs.map (·.1))/\fs.length<=1000/\H dx=some (.own a):=by
 obtain ⟨d,z,ne,ob,mA,n,r,q⟩:=(show ObjOk P w H h a (.ins C dx fs) from hok a _ e);exact ⟨mA,⟨ob,n,ne⟩,r,q,z,d⟩
end
structure Cls (K:Uj) (C:Ul):Prop where
 pg:Yl K C Wb=true
 hd:YJ K C=true
 po:ZT K C=true
 sa:U5 K (.ref C) "__setattr__"=some (some (.builtin "object.__setattr__"))
theorem Cls.get {K:Uj} {C:Ul} (c:Cls K C) (f:UA):Yl K C f=true:=c.pg
def NoAttr (K:Uj) (C:Ul) (f:UA):Prop:=U5 K (.ref C) f=some none
theorem NoAttr.taker {K:Uj} {C:Ul} {f:UA} (n:NoAttr K C f):PySem.W.takerIn K C f=some none:=by
 unfold PySem.W.takerIn;rw [show U5 K (.ref C) f=some none from n];rfl
structure Meth (K:Uj) (C:Ul) (m:UA) (f:Ul):Prop where
 at_:U5 K (.ref C) m=some (some (.ref f))
 fn:Y1 K (.ref f)=true
 kp:WB K (.ref f)=true
section
variable {X:Cx} {pins:List (Ul×Wz)} {σ:St} {H:Hp} {s:Uo} {a C dx:Ul} {fs:List (UA×V)} {f:UA} {v:V} {A:Vm} {E:Um->Uo->Prop}
theorem lV {b:Bool} {Q:Um->Uo->Prop} (I:Inv X pins σ H s) (e:H a=some (.ins C dx fs)) (c:Cls X.K C) (n:NoAttr X.K C f) (l:fs.lookup f=some v)
 (h:∀ u s',Inv X pins σ H s'->RelV v u->Q u s'):UO (UZ X.prog X.w) A (getAttr (.ref a) f b) Q E s:=by
 obtain ⟨mA,O,r,_,_,_⟩:=lI I.hok e;obtain ⟨u,hu,ru⟩:=RelO.some_of (v:=v) (o:=mA f) (by rw [<- l];exact r f);exact get_map I.kIn O (c.get f) c.hd n hu (ug ru) (h u _ (I.tok _) ru)
theorem sU {m:UA} {g:Ul} {pl:Sem Bool} {Q:Um×List Um->Uo->Prop} (I:Inv X pins σ H s) (e:H a=some (.ins C dx fs)) (c:Cls X.K C) (k:Meth X.K C m g) (l:fs.lookup m=none)
 (h:Q (.ref g,[.ref a]) s):UO (UZ X.prog X.w) A (getMethod (.ref a) m pl) Q E s:=by
 obtain ⟨mA,O,r,_,_,_⟩:=lI I.hok e;have hn:mA m=none:=RelO.none_of (by rw [<- l];exact r m);exact wz I.kIn O (c.get m) k.at_ k.fn hn h
theorem mv {y:V} {u:Um} {Q:Unit->Uo->Prop} (I:Inv X pins σ H s) (e:H a=some (.ins C dx fs)) (c:Cls X.K C) (n:NoAttr X.K C f) (hl:fs.length<1000) (ry:RelV y u)
 (h:∀ s',Inv X pins σ (upd H a (.ins C dx (dE f y fs))) s'->Q () s'):UO (UZ X.prog X.w) A (setAttr (.ref a) f u) Q E s:=by
 obtain ⟨mA,O,r,wi,_,ho⟩:=lI I.hok e;have hz:(fs.map (·.1)).length<=US:=by rw [Ue,Wy];omega
 refine xj I.kIn O c.sa c.po n.taker c.hd wi hz fun h' O' sb=>h _ ?_;have hd:∃ o,h'.get? dx=some o:=let ⟨o,_,_,e',_⟩:=O'.ns;⟨o,e'⟩
 refine I.write (x:=a) (e:=dx) (by rw [e];exact YE) (.inr ho) (fun b q hb z=>(sb.2 b hb).trans z) hd ?_;refine ⟨by rw [au O.ne];exact ho,?_,O.ne,O'.obj,_,O'.ns,fun g=>?_,fun g hg=>?_⟩
 · have:=kJ f y fs;omega
 · show RelO ((dE f y fs).lookup g) (if g=f then some u else mA g);rw [kE];by_cases q:g=f
   · rw [if_pos q,if_pos q];exact ry
   · rw [if_neg q,if_neg q];exact r g
 · by_cases q:g=f
   · rw [q];exact (kc f y fs).1
   · refine (kc f y fs).2 g (wi g fun z=>hg ?_);show (if g=f then some u else mA g)=none;rw [if_neg q];exact z
theorem Inv.made (I:Inv X pins σ H s):Inv X pins σ (upd (upd H s.heap.objs.size (.own (s.heap.objs.size+1))) (s.heap.objs.size+1) (.ins C s.heap.objs.size []))
 { s with heap:=(s.heap.push Wl).push (W3 C s.heap.objs.size) }:=by
 have e1:(s.heap.push Wl).get? s.heap.objs.size=some Wl:=UG s.heap rfl
 have e2:((s.heap.push Wl).push (W3 C s.heap.objs.size)).get? (s.heap.objs.size+1)=some (W3 C s.heap.objs.size):=by
  have:=UG (s.heap.push Wl) (o:=W3 C s.heap.objs.size) rfl
  rwa [Wi] at this
 have e3:(s.heap.push Wl).Ns s.heap.objs.size (fun _=>none):=⟨Wl,#[],_,e1,rfl,(fun e he=>absurd he (by simp)),fun _=>rfl⟩;have I1:=I.laid (a:=s.heap.objs.size) (o:=.own (s.heap.objs.size+1)) (h':=s.heap.push Wl) (t':=s.toks) (fun b u q=>Up _ q) (Uq _) ⟨_,e1⟩;refine I1.laid (a:=s.heap.objs.size+1) (o:=.ins C s.heap.objs.size []) (t':=s.toks) (fun b u q=>Up _ q) (Y5 (Wi _ _)) ?_;have ne:s.heap.objs.size≠s.heap.objs.size+1:=Vf (Yn _);refine ⟨by rw [au ne,ae],Vh _,ne,e2,fun _=>none,(Heap.Ns1.of_empty e3).at fun o q=>Up _ q,fun _=>YE,fun y hy=>absurd rfl hy⟩
theorem wF {prog:U1} {w:Vl} {env:Zp} {e:VI} {f:UA} {pos:Ym} {s:Uo} {Q:Um->Uo->Prop} (hb:attributeBase e f env (WS e env)=WS e env)
 (h:UO (UZ prog w) A (WS e env) (fun o Ab=>UO (UZ prog w) A (getAttr o f true) Q E Ab) E s):UO (UZ prog w) A (WS (.Attribute e f pos) env) Q E s :=
 Attribute_any_ h (by rw [arm_eval_Attribute,hb])
end
def aaN (K:Uj) (ta:TE) (f:UA):TE:=fun σ H Q=>ta σ H fun x H1=>∃ a C dx fs v,x=.ref a/\H1 a=some (.ins C dx fs)/\Cls K C/\NoAttr K C f/\fs.lookup f=some v/\Q v H1
def aaG (K:Uj) (ta tv:TE) (f:UA):TS:=fun D σ H=>tv σ H fun y H1=>ta σ H1 fun x H2=>∃ a C dx fs,x=.ref a/\H2 a=some (.ins C dx fs)/\Cls K C/\NoAttr K C f/\fs.length<1000 ∧
 D.nx σ (upd H2 a (.ins C dx (dE f y fs)))
def aav (X:Cx) (op:Operator) (rd:V->V->Hp->VK->Prop):Prop :=
 ∀ (pins:List (Ul×Wz)) (s:Uo) (σ:St) (H:Hp) (x y:V) (u v:Um) (Q:VK),Inv X pins σ H s->RelV x u->RelV y v->rd x y H Q->UO (UZ X.prog X.w) X.A (inplaceOp op u v) (EP X pins σ Q) X.xe s
def xn (K:Uj) (ta tv:TE) (rd:V->V->Hp->VK->Prop) (f:UA):TS:=fun D σ H=>ta σ H fun x H1=>∃ a C dx fs v,x=.ref a/\H1 a=some (.ins C dx fs)/\Cls K C/\NoAttr K C f/\fs.lookup f=some v ∧
 tv σ H1 fun y H2=>rd v y H2 fun z H3=>∃ K5 GG,H3 a=some (.ins C K5 GG)/\GG.length<1000/\D.nx σ (upd H3 a (.ins C K5 (dE f z GG)))
section
variable {X:Cx} {o e value:VI} {f:UA} {pos pos' EF:Ym} {ta tv:TE}
theorem vJ (he:PE X e ta) (hb:attributeBase e f X.env (WS e X.env)=WS e X.env):PE X (.Attribute e f pos) (aaN X.K ta f):=by
 intro pins s σ H Q I h;refine wF hb (thn (he pins s σ H _ I h) fun u s1 ⟨x,H1,I1,rx,a,C,dx,fs,v,ex,ea,c,n,l,q⟩=>?_);subst ex;obtain rfl:u=VT a:=rx;exact lV I1 ea c n l fun u' s2 I2 ru=>⟨v,H1,I2,ru,q⟩
theorem uX (ha:PE X o ta) (hv:PE X value tv) (hs:swapsWith value (some (.Attribute o f pos')) pos.line X.env=pure false):PS X (.Assign [.Attribute o f pos'] value pos) (aaG X.K ta tv f):=by
 intro pins s σ H D I h;refine plainObj_wpAny_Assign_Attribute (thn (hv pins s σ H _ I h) fun u s1 ⟨y,H1,I1,ry,q⟩=>thn (ha pins s1 σ H1 _ I1 q) fun ov s2 ⟨x,H2,I2,rx,a,C,dx,fs,ex,ea,c,n,l,q2⟩=>?_) hs;subst ex;obtain rfl:ov=VT a:=rx;exact mv I2 ea c n l ry fun s3 I3=>⟨σ,_,I3,q2⟩
theorem og {op:Operator} {rd:V->V->Hp->VK->Prop} (ha:PE X o ta) (hv:PE X value tv) (Qe:aav X op rd):PS X (.AugAssign (.Attribute o f EF) op value pos) (xn X.K ta tv rd f):=by
 intro pins s σ H D I h;refine wpAny_AugAssign_AttributeAny (thn (ha pins s σ H _ I h) fun ov s1 ⟨x,H1,I1,rx,a,C,dx,fs,v,ex,ea,c,n,l,q⟩=>?_);subst ex;obtain rfl:ov=VT a:=rx;refine lV I1 ea c n l fun u s2 I2 ru=>thn (hv pins s2 σ H1 _ I2 q) fun w3 s3 ⟨y,H2,I3,ry,q3⟩=>thn (Qe pins s3 σ H2 v y u w3 _ I3 ru ry q3) fun w4 s4 ⟨z,H3,I4,rz,K5,GG,Qf,l',q4⟩=>?_;exact mv I4 Qf c n l' rz fun s5 I5=>⟨σ,_,I5,q4⟩
def aaS:V->V->Hp->VK->Prop:=fun x y H Q=>∃ i j,x=.int i/\y=.int j/\Q (.int (i+j)) H
theorem vp:aav X .Add aaS:=by
 rintro pins s σ H x y u v Q I rx ry ⟨i,j,rfl,rfl,q⟩;obtain ⟨t,rfl⟩:=(show ∃ t,u=Value.int i t from rx);obtain ⟨t',rfl⟩:=(show ∃ t',v=Value.int j t' from ry);exact PyProof.Rows.iadd_int ⟨.int (i+j),H,I.tok _,⟨_,rfl⟩,q⟩
end
section
variable {X:Cx} {pins:List (Ul×Wz)} {σ:St} {H:Hp} {s:Uo} {A:Vm} {E:Um->Uo->Prop} {Q:Um->Uo->Prop} {c:Um} {b:Bool}
inductive i4 (K:Uj) (H:Hp):V->Um->Prop where
 | non:i4 K H .non (.type "NoneType")
 | bl (x:Bool):i4 K H (.bl x) (.type "bool")
 | int (i:Int):i4 K H (.int i) (.type "int")
 | str (x:UA):i4 K H (.str x) (.type "str")
 | flt (x:UInt64):i4 K H (.flt x) (.type "float")
 | lst {a:Ul} {xs:List V} (e:H a=some (.lst xs)):i4 K H (.ref a) (.type "list")
 | frz {a:Ul} {o:Wz} {xs:List V} (e:H a=some (.frz o (.lst xs))):i4 K H (.ref a) (.type "list")
 | tup {a:Ul} {xs:List V} (e:H a=some (.tup xs)):i4 K H (.ref a) (.type "tuple")
 | dK {a:Ul} {AU:List (Key×V)} (e:H a=some (.dK AU)):i4 K H (.ref a) (.type "dict")
 | dT {a:Ul} {AU:List (List Key×V)} (e:H a=some (.dT AU)):i4 K H (.ref a) (.type "dict")
 | ins {a C dx:Ul} {fs:List (UA×V)} (e:H a=some (.ins C dx fs)) (cl:Cls K C) (ha:U5 K (.ref C) "__class__"=some (some (.builtin "object.__class__")))
  (hn:PySem.W.specialIn K (.builtin "object.__class__") "__get__"=some (some (.builtin "getset_descriptor.__get__"))) (JY:PySem.W.takesIn K (.builtin "object.__class__")=some true)
  (hm:Wc K C (.type "object")=some true):i4 K H (.ref a) (.ref C)
theorem ur {x:V} {u t:Um} (I:Inv X pins σ H s) (rx:RelV x u) (ty:i4 X.K H x t) (e:U6 X.K t c=some b) (h:∀ tk,Q (.bool b) { s with toks:=tk }) :
 UO (UZ X.prog X.w) A (call (.builtin "isinstance") [u,c]) Q E s:=by
 cases ty with
 | non=>cases (show u=V4 from rx);exact Wd PySem.W.kitx_none I.kIn YE e (fun z=>nomatch z) h
 | bl y=>cases (show u=Xu y from rx);exact Wd PySem.W.kitx_bool I.kIn YE e (fun z=>nomatch z) h
 | int i=>obtain ⟨t,q⟩:=(show ∃ t,u=Value.int i t from rx);cases q;exact Wd PySem.W.kitx_int I.kIn YE e (fun z=>nomatch z) h
 | str y=>obtain ⟨t,q⟩:=(show ∃ t,u=Value.str y t from rx);cases q;exact Wd PySem.W.kitx_str I.kIn YE e (fun z=>nomatch z) h
 | flt y=>obtain ⟨t,q⟩:=(show ∃ t,u=Value.float y t from rx);cases q;exact Wd PySem.W.kitx_float I.kIn YE e (fun z=>nomatch z) h
 | @lst a xs ea =>
   cases (show u=VT a from rx);obtain ⟨_,_,n,_,h1⟩:=(show ObjOk X.prog X.w H s.heap a (.lst xs) from I.hok a _ ea);exact Wd PySem.W.kitx_list I.kIn ⟨_,h1,rfl⟩ e (fun z=>nomatch z) h
 | @frz a ob xs ea =>
   cases (show u=VT a from rx);obtain ⟨_,_,_,n,_,h1⟩:=(show ObjOk X.prog X.w H s.heap a (.frz ob (.lst xs)) from I.hok a _ ea);exact Wd PySem.W.kitx_list I.kIn ⟨_,h1,rfl⟩ e (fun z=>nomatch z) h
 | @tup a xs ea =>
   cases (show u=VT a from rx);obtain ⟨_,_,_,_,h1⟩:=(show ObjOk X.prog X.w H s.heap a (.tup xs) from I.hok a _ ea);exact Wd PySem.W.kitx_tuple I.kIn ⟨_,h1,rfl⟩ e (fun z=>nomatch z) h
 | @dK a AU ea =>
   cases (show u=VT a from rx);obtain ⟨_,_,vs,_,p⟩:=(show ObjOk X.prog X.w H s.heap a (.dK AU) from I.hok a _ ea);obtain ⟨o,es,ep,h1,h2,_⟩:=p;exact Wd PySem.W.kitx_dict I.kIn ⟨o,h1,h2.1⟩ e (fun z=>nomatch z) h
 | @dT a AU ea =>
   cases (show u=VT a from rx);obtain ⟨_,_,xs,_,o,es,ep,h1,h2,_⟩:=(show ObjOk X.prog X.w H s.heap a (.dT AU) from I.hok a _ ea);exact Wd PySem.W.kitx_dict I.kIn ⟨o,h1,h2.1⟩ e (fun z=>nomatch z) h
 | @ins a C dx fs ea cl ha hn JY hm =>
   cases (show u=VT a from rx);obtain ⟨mA,O,_⟩:=lI I.hok ea;obtain ⟨od,J,_⟩:=O.look;exact Wd (PySem.W.kitx_own (cl.get _) cl.hd ha hn JY hm) I.kIn J e (fun z=>nomatch z) h
end
end L2
namespace L2
open PySem PySem.Spec PyProof.Rows
structure Room (k:Nat) (A:Vm):Prop where
 hd:A.handled=none
 dp:A.depth+3 * k+5<recursionLimit
 un:A.units+16 * k+200<ZN
theorem Room.mono {j k:Nat} {A:Vm} (r:Room k A) (h:j<=k):Room j A:=⟨r.hd,by have:=r.dp;omega,by have:=r.un;omega⟩
theorem Room.deeper {k:Nat} {A:Vm} (r:Room (k+1) A) (env:Zp):Room k (A.deeper env) :=
 ⟨r.hd,by have:=r.dp;show A.depth+1+3 * k+5<_;omega,by have:=r.un;show A.units+3+16 * k+200<_;omega⟩
theorem sM {A:Vm} {C:Ul} {us:List Um} {kw:List (UA×Um)}:(A.under (.builtin "type.__call__" ⟨.ref C::us,kw⟩)).depth=A.depth+1:=by
 first | rfl | simp [Around.under,Code.weight,Code.isCreation,Code.isGuard,Code.isCaller,Code.frames,Code.isFrame,guardIds]
theorem sV {A:Vm} {C:Ul} {us:List Um} {kw:List (UA×Um)}:(A.under (.builtin "type.__call__" ⟨.ref C::us,kw⟩)).units=A.units+1:=by
 first | rfl | simp [Around.under,Code.cUnits,Code.frames,Code.isFrame]
theorem Room.make {k:Nat} {A:Vm} (r:Room (k+1) A) (C:Ul) (us:List Um) (kw:List (UA×Um)):Room k (A.under (.builtin "type.__call__" ⟨.ref C::us,kw⟩)) :=
 ⟨r.hd,by have:=r.dp;rw [sM];omega,by have:=r.un;rw [sV];omega⟩
theorem Room.depth {k:Nat} {A:Vm} (r:Room k A):A.depth<recursionLimit:=by have:=r.dp;omega
theorem Room.units {k:Nat} {A:Vm} (r:Room k A):A.units+64<ZN:=by have:=r.un;omega
def de:TA:=fun _ H Q=>Q [] H
def bx (ta:TE) (tr:TA):TA:=fun σ H Q=>ta σ H fun x H1=>tr σ H1 fun xs H2=>Q (x::xs) H2
section
variable {X:Cx} {e:VI} {es:List VI} {te:TE} {t:TA} {pos:Ym}
theorem ac:PA X [] de:=fun _ _ _ _ H Q I h=>XS ⟨[],H,I,.nil,h⟩
theorem aa (ha:PE X e te) (hr:PA X es t) (hs:Vt (e::es) X.env=(false,WS e X.env)::Vt es X.env:=by rfl):PA X (e::es) (bx te t):=by
 intro pos pins s σ H Q I h;rw [hs];show UO _ _ (spliced ((false,WS e X.env)::Yt pos (Vt es X.env))) _ _ s;refine WI (thn (ha pins s σ H _ I h) fun u s1 ⟨x,H1,I1,r1,q1⟩=>?_);exact thn (hr pos pins s1 σ H1 _ I1 q1) fun us s2 ⟨xs,H2,I2,r2,q2⟩=>⟨x::xs,H2,I2,.cons r1 r2,q2⟩
def wK (t:TA):TE:=fun σ H Q=>t σ H fun xs H1=>xs.length<=US/\∀ p,H1 p=none->Q (.ref p) (upd H1 p (.tup xs))
def vi (t:TA):TE:=fun σ H Q=>t σ H fun xs H1=>xs.length<=US/\∀ p,H1 p=none->Q (.ref p) (upd H1 p (.lst xs))
theorem bi {x1} (h:PA X es t):PE X (.Tuple es x1 pos) (wK t):=by
 intro pins s σ H Q I hq;refine wpAny_Tuple_spliced (thn (h pos pins s σ H _ I hq) fun us s1 ⟨xs,H1,I1,r,z,q⟩=>⟨by rw [<- r.length];exact z,?_⟩);have hf:H1 s1.heap.objs.size=none:=I1.hok.fresh (Uq _);refine ⟨.ref s1.heap.objs.size,upd H1 s1.heap.objs.size (.tup xs),I1.laid (t':=s1.toks) (fun b u e=>Up _ e) (Uq _) ?_,rfl,q _ hf⟩;exact ⟨z,us,0,r,UG _ rfl⟩
theorem bg (h:PA X es t):PE X (.List es pos) (vi t):=by
 intro pins s σ H Q I hq;refine wpAny_List_spliced (thn (h pos pins s σ H _ I hq) fun us s1 ⟨xs,H1,I1,r,z,q⟩=>⟨by rw [<- r.length];exact z,?_⟩);have hf:H1 s1.heap.objs.size=none:=I1.hok.fresh (Uq _);refine ⟨.ref s1.heap.objs.size,upd H1 s1.heap.objs.size (.lst xs),I1.laid (t':=s1.toks) (fun b u e=>Up _ e) (Uq _) ?_,rfl,q _ hf⟩;exact ⟨z,us,0,r,UG _ rfl⟩
end
abbrev Sp:=List V->Hp->VK->XK->Prop
abbrev CXT:=List Zp->Hp->Uo->XK->Um->Uo->Prop
structure Env0 (P:U1) (w:Vl) (K:Uj) (mg:UA->Option Um) (base:VO) (A:Vm) (outer:List Zp) (s:Uo) (H:Hp):Prop where
 frames:A.frames=some outer
 mod:Mod K mg base
 bs:∀ b o,base.get? b=some o->s.heap.get? b=some o/\H b=none
 bsz:base.objs.size<=s.heap.objs.size
 funs:s.heap.FunFrames base outer
 frf:∀ b∈frs outer,H b=none
 hok:HOk P w H s.heap
 bare:ZG s.gens
def CE (outer:List Zp) (P:U1) (w:Vl) (H:Hp) (s:Uo) (Q:VK) (u:Um) (s':Uo):Prop :=
 ∃ v H',s'.os=s.os/\ZG s'.gens/\Un (frs outer) [] H H' s.heap s'.heap/\HOk P w H' s'.heap/\RelV v u/\Q v H'
def CR (CX:CXT) (outer:List Zp) (P:U1) (w:Vl) (H:Hp) (s:Uo) (Q:VK) (E:XK) (r:Zr) (s':Uo):Prop :=
 match r with
 | .ok (.ret u)=>CE outer P w H s Q u s'
 | .ok _=>False
 | .error e=>CX outer H s E e s'
structure FnOk (P:U1) (w:Vl) (K:Uj) (mg:UA->Option Um) (base:VO) (CX:CXT) (k:Nat) (f:Ul) (fd:WV) (ps:List UA) (sp:Sp):Prop where
 len:∀ vs H Q E,sp vs H Q E->vs.length=ps.length
 run:∀ (A:Vm) (outer:List Zp) (s:Uo) (H:Hp) (args:Args) (us:List Um) (vs:List V) (Q:VK) (E:XK),Room k A->Env0 P w K mg base A outer s H->BindsTo s fd args (ps.zip us)->Vals vs us->sp vs H Q E →
  Yb (UZ P w) A (.call (.ref f) args) (CR CX outer P w H s Q E) s
theorem Env0.make {P:U1} {w:Vl} {K:Uj} {mg:UA->Option Um} {base:VO} {A:Vm} {outer:List Zp} {s:Uo} {H:Hp} (e:Env0 P w K mg base A outer s H) (C:Ul) (us:List Um) (kw:List (UA×Um)) :
 Env0 P w K mg base (A.under (.builtin "type.__call__" ⟨.ref C::us,kw⟩)) outer s H:=⟨by first | exact e.frames | (simpa [Around.under,Code.envs,Code.isFrame,pushEnvs] using e.frames),e.mod,e.bs,e.bsz,e.funs,e.frf,e.hok,e.bare⟩
section
variable {X:Cx} {pins:List (Ul×Wz)} {σ:St} {H:Hp} {s s':Uo}
theorem Inv.env0 (I:Inv X pins σ H s):Env0 X.prog X.w X.K X.mg X.base X.A X.stack s H :=
 ⟨I.ok.frames,I.ok.mod,I.bs,VS I.ok.bsz I.sz,I.stack,I.stkFree,I.hok,I.bare⟩
theorem Inv.after {Q:VK} {u:Um} (I:Inv X pins σ H s) (h:CE X.stack X.prog X.w H s Q u s'):EP X pins σ Q u s':=by
 obtain ⟨v,H',os,bare,un,hok,r,q⟩:=h;obtain ⟨hh,g,d,t,Qg⟩:=s';obtain rfl:Qg=s.os:=os;exact ⟨v,H',I.call (h':=hh) (g':=g) (d':=d) (t':=t) (ch:=[]) un hok bare (fun b z=>absurd z (by simp)),r,q⟩
end
def nW (sp:Sp) (BC:List V) (E:XK) (t:TA):TE:=fun σ H Q=>t σ H fun vs H1=>sp (vs++BC) H1 Q E
def zP (C:Ul) (m:UA) (sp:Sp) (BC:List V) (E:XK) (ta:TE) (t:TA):TE:=fun σ H Q=>ta σ H fun x H1=>∃ a dx fs,x=.ref a/\H1 a=some (.ins C dx fs)/\fs.lookup m=none ∧
 t σ H1 fun vs H2=>sp (x::(vs++BC)) H2 Q E
def aap (C:Ul) (sp:Sp) (BC:List V) (E:XK) (t:TA):TE:=fun σ H Q=>t σ H fun vs H1=>∀ x dx,H1 x=none->H1 dx=none->dx≠x →
 sp (.ref x::(vs++BC)) (upd (upd H1 dx (.own x)) x (.ins C dx [])) (fun v H2=>v=.non/\Q (.ref x) H2) E
def Binds (K:Uj) (fd:WV) (ps:List UA) (ds:List Um):Prop :=
 ∀ (s:Uo) (us:List Um),K.In s.heap->(us++ds).length=ps.length->BindsTo s fd ⟨us,[]⟩ (ps.zip (us++ds))
theorem Binds.all {K:Uj} {fd:WV} {ps:List UA} (h:∀ us:List Um,us.length=ps.length->ZO fd ⟨us,[]⟩=pure (ps.zip us)):Binds K fd ps []:=fun s us _ hl=>by
 rw [UY] at hl ⊢;exact .of_eq (h us hl)
def Passes (CX:CXT) (X:Cx) (E:XK):Prop:=∀ (pins:List (Ul×Wz)) (σ:St) (H:Hp) (s:Uo) (e:Um) (s':Uo),Inv X pins σ H s->CX X.stack H s E e s'->X.xe e s'
section
variable {X:Cx} {CX:CXT} {k:Nat} {f C:Ul} {fd:WV} {ps:List UA} {sp:Sp} {BC:List V} {ds:List Um} {E:XK} {x m:UA} {p pos apos:Ym} {e o:VI} {es:List VI} {ta:TE} {t:TA}
theorem vX {pins:List (Ul×Wz)} {σ:St} {H:Hp} {s:Uo} {Q:VK} {us:List Um} {vs:List V} (F:FnOk X.prog X.w X.K X.mg X.base CX k f fd ps sp) (hr:Room k X.A) (hb:Binds X.K fd ps ds) (hd:Vals BC ds) (hx:Passes CX X E)
 (I:Inv X pins σ H s) (r:Vals vs us) (h:sp (vs++BC) H Q E):UO (UZ X.prog X.w) X.A (call (.ref f) us) (EP X pins σ Q) X.xe s:=by
 have r2:Vals (vs++BC) (us++ds):=r.append hd;have hl:(us++ds).length=ps.length:=by rw [<- r2.length];exact F.len _ _ _ _ h
 refine wpAny_call (X9 (F.run X.A X.stack s H ⟨us,[]⟩ (us++ds) (vs++BC) Q E hr I.env0 (hb s us I.kIn hl) r2 h) fun r s' hq=>?_);cases r with
 | error e=>exact hx pins σ H s e s' I hq
 | ok fl =>
   cases fl with
   | ret u=>exact I.after hq
   | next=>exact Wf hq
   | brk=>exact Wf hq
   | cont=>exact Wf hq
theorem bc (F:FnOk X.prog X.w X.K X.mg X.base CX k f fd ps sp) (hr:Room k X.A) (hg:Gl X x) (hm:X.mg x=some (.ref f)) (hk:WB X.K (.ref f)=true) (hb:Binds X.K fd ps ds) (hd:Vals BC ds) (hx:Passes CX X E)
 (ha:PA X (e::es) t) (Du:(x == ("__debug__":UA))=false:=by decide) (he:Vt (e::es) X.env=(false,WS e X.env)::Vt es X.env:=by rfl) (Bj:(Yt pos (Vt es X.env)).any (·.1)=false:=by rfl) :
 PE X (.Call (.Name x p) (e::es) [] pos) (nW sp BC E t):=by
 intro pins s σ H Q I h;refine WG (jd I hg hm ?_ Du);refine ZA (h₀:=X.base) I.ok.mod.kin hk (thn (ha pos pins s σ H _ I h) fun us s1 ⟨vs,H1,I1,r,q⟩=>⟨I1.kIn,?_⟩) he Bj;exact vX F hr hb hd hx I1 r q
theorem wO {pl:Sem Bool} (he:PE X o ta) (c:Cls X.K C) (hm:Meth X.K C m f) (F:FnOk X.prog X.w X.K X.mg X.base CX k f fd ps sp) (hr:Room k X.A) (hb:Binds X.K fd ps ds) (hd:Vals BC ds) (hx:Passes CX X E) (ha:PA X (e::es) t)
 (AG:Vt (e::es) X.env=(false,WS e X.env)::Vt es X.env:=by rfl) (Bj:(Yt pos (Vt es X.env)).any (·.1)=false:=by rfl)
 (ht:WS (.Call (.Attribute o m apos) (e::es) [] pos) X.env=(do
  let ov ← WS o X.env
  standAt apos.atName
  let (f,first) ← holding [ov] (getMethod ov m pl)
  callWith pos f first (Yt pos (Vt (e::es) X.env)) (backToKw pos (keywordEach [] X.env))):=by rfl) :
 PE X (.Call (.Attribute o m apos) (e::es) [] pos) (zP C m sp BC E ta t):=by
 intro pins s σ H Q I h;refine PySem.W.methodCall_KW (pl:=pl) (thn (he pins s σ H _ I h) fun u s1 ⟨x,H1,I1,rx,a,dx,fs,ex,ea,l,q⟩=>?_) ht;subst ex;obtain rfl:u=VT a:=rx;refine sU I1 ea c hm l ?_;refine ZA (first:=[.ref a]) (h₀:=X.base) I.ok.mod.kin hm.kp (thn (ha pos pins s1 σ H1 _ I1 q) fun us s2 ⟨vs,H2,I2,r,q2⟩=>⟨I2.kIn,?_⟩) AG Bj;exact vX (us:=.ref a::us) (vs:=.ref a::vs) F hr hb hd hx I2 (.cons rfl r) q2
structure Mk (K:Uj) (C f:Ul):Prop where
 makes:PySem.W.makesIn K C=true
 init:U5 K (.ref C) "__init__"=some (some (.ref f))
 fn:Y1 K (.ref f)=true
 kp:WB K (.ref C)=true
theorem vq {pins:List (Ul×Wz)} {σ:St} {H:Hp} {s:Uo} {Q:VK} {us:List Um} {vs:List V} (M:Mk X.K C f) (F:FnOk X.prog X.w X.K X.mg X.base CX k f fd ps sp) (hr:Room (k+1) X.A) (hb:Binds X.K fd ps ds) (hd:Vals BC ds)
 (hx:Passes CX X E) (I:Inv X pins σ H s) (r:Vals vs us)
 (h:∀ x dx,H x=none->H dx=none->dx≠x->sp (.ref x::(vs++BC)) (upd (upd H dx (.own x)) x (.ins C dx [])) (fun v H2=>v=.non/\Q (.ref x) H2) E) :
 UO (UZ X.prog X.w) X.A (call (.ref C) us) (EP X pins σ Q) X.xe s:=by
 have hq:=h (s.heap.objs.size+1) s.heap.objs.size (I.hok.fresh (Nat.le_succ _)) (I.hok.fresh (Uq _)) (Vf (Yn _));have I2:=Inv.made (C:=C) I;have r2:Vals (V.ref (s.heap.objs.size+1)::(vs++BC)) (VT (s.heap.objs.size+1)::(us++ds)):=.cons rfl (r.append hd)
 have hl:(VT (s.heap.objs.size+1)::us++ds).length=ps.length:=by
  have e:=r2.length;rw [F.len _ _ _ _ hq] at e;exact e.symm
 refine wpAny_call (v5 (f:=f) I.kIn M.makes M.init (beq_iff_eq.mp M.fn) (X9 (F.run _ X.stack _ _ ⟨VT (s.heap.objs.size+1)::us,[]⟩ (VT (s.heap.objs.size+1)::(us++ds)) _ _ E (hr.make C us [])
  (I2.env0.make C us []) (hb _ (VT (s.heap.objs.size+1)::us) I2.kIn hl) r2 hq) fun r s' HE=>?_))
 cases r with
 | error e=>exact hx pins σ _ _ e s' I2 HE
 | ok fl =>
   cases fl with
   | ret u =>
     obtain ⟨v,H',I3,rv,ev,q3⟩:=I2.after HE;subst ev;exact ⟨rv,⟨V.ref (s.heap.objs.size+1),H',I3,rfl,q3⟩⟩
   | next=>exact Wf HE
   | brk=>exact Wf HE
   | cont=>exact Wf HE
theorem vb (M:Mk X.K C f) (F:FnOk X.prog X.w X.K X.mg X.base CX k f fd ps sp) (hr:Room (k+1) X.A) (hg:Gl X x) (hm:X.mg x=some (.ref C)) (hb:Binds X.K fd ps ds) (hd:Vals BC ds) (hx:Passes CX X E)
 (Du:(x == ("__debug__":UA))=false:=by decide):PE X (.Call (.Name x p) [] [] pos) (aap C sp BC E de):=by
 intro pins s σ H Q I h;refine WG (jd I hg hm ?_ Du);exact PySem.W.callWith_K0 I.kIn M.kp (vq (us:=[]) M F hr hb hd hx I .nil h)
end
section
variable {X:Cx} {CX:CXT} {k:Nat} {f C:Ul} {fd:WV} {ps ks:List UA} {sp:Sp} {E:XK} {x m:UA} {p pos apos Qh:Ym} {e o:VI} {es:List VI} {Tz:List Keyword} {te ta:TE} {t tk:TA} {nm:Option UA}
variable {g:List Um->List Um->List Um} {gV:List V->List V->List V}
end
structure aF (N P:List UA) (sc:Xh):Prop where
 kind:sc.kind=.function
 co:sc.isCoroutine=false
 gen:sc.isGenerator=false
 nd:N.Nodup
 pre:N.take P.length=P
 par:∀ x∈P,sc.names.lookup x=some .local∨sc.names.lookup x=some .cell
 nofree:∀ y∈sc.names,y.2≠.free
theorem nN {kindOf:UA->Option WU} {x:UA}:∀ {binds:List (UA×Um)} {m:UA->Option Um},(∀ v,(x,v)∉binds)->bindL kindOf binds m x=m x
 | [],_,_=>rfl
 | (n,v)::r,m,h=>by
   unfold bindL;rw [nN fun w hw=>h w (Uv _ hw)];split
   · have:x≠n:=by rintro rfl;exact h v Uy
     simp [this]
   · rfl
theorem nM {kindOf:UA->Option WU} {x:UA}:∀ {binds:List (UA×Um)} {m:UA->Option Um},(∀ v,(x,v)∉binds)->bindC kindOf binds m x=m x
 | [],_,_=>rfl
 | (n,v)::r,m,h=>by
   unfold bindC;rw [nM fun w hw=>h w (Uv _ hw)];split
   · rfl
   · have:x≠n:=by rintro rfl;exact h v Uy
     simp [this]
theorem nE {kindOf:UA->Option WU} {x:UA} {v:Um}:∀ {P:List UA} {vs:List Um} {i:Nat} {m:UA->Option Um},P.Nodup->P[i]?=some x->vs[i]?=some v->kindOf x=some .local →
 bindL kindOf (P.zip vs) m x=some v
 | [],_,_,_,_,h,_,_=>by simp at h
 | _::_,[],_,_,_,_,h,_=>by simp at h
 | p::P,w::vs,0,m,nd,h1,h2,hk=>by
   simp at h1 h2;subst h1;subst h2;show bindL kindOf ((p,w)::P.zip vs) m p=_;unfold bindL;rw [nN fun v hv=>(V8.mp nd).1 (List.of_mem_zip hv).1,if_pos hk];simp
 | p::P,w::vs,i+1,m,nd,h1,h2,hk=>by
   show bindL kindOf ((p,w)::P.zip vs) m x=_;unfold bindL;exact nE (i:=i) (V8.mp nd).2 (by simpa using h1) (by simpa using h2) hk
theorem nY {kindOf:UA->Option WU} {x:UA} {v:Um}:∀ {P:List UA} {vs:List Um} {i:Nat} {m:UA->Option Um},P.Nodup->P[i]?=some x->vs[i]?=some v->kindOf x≠some .local →
 bindC kindOf (P.zip vs) m x=some v
 | [],_,_,_,_,h,_,_=>by simp at h
 | _::_,[],_,_,_,_,h,_=>by simp at h
 | p::P,w::vs,0,m,nd,h1,h2,hk=>by
   simp at h1 h2;subst h1;subst h2;show bindC kindOf ((p,w)::P.zip vs) m p=_;unfold bindC;rw [nM fun v hv=>(V8.mp nd).1 (List.of_mem_zip hv).1,if_neg hk];simp
 | p::P,w::vs,i+1,m,nd,h1,h2,hk=>by
   show bindC kindOf ((p,w)::P.zip vs) m x=_;unfold bindC;exact nY (i:=i) (V8.mp nd).2 (by simpa using h1) (by simpa using h2) hk
def start (N:List UA) (vs:List V):St:=vs.map some++VA (N.length - vs.length) none
def cH (CX:CXT) (P:U1) (w:Vl) (K:Uj) (mg:UA->Option Um) (base:VO) (N:List UA) (qual:UA) (scope:Xh) (f:Ul) (cd:Um) (A:Vm) (outer:List Zp) (s:Uo) (H:Hp) (E:XK):Cx where
 prog:=P
 w:=w
 K:=K
 mg:=mg
 base:=base
 A:=A.deeper (W2 qual scope s.heap.objs.size f cd)
 N:=N
 s₀:=s
 H₀:=H
 env:=W2 qual scope s.heap.objs.size f cd
 outer:=outer
 stack:=W2 qual scope s.heap.objs.size f cd::outer
 ex:=[]
 calm:=true
 fn:=fun _=>true
 pn:=[]
 xe:=fun e s'=>UO (UZ P w) (A.deeper (W2 qual scope s.heap.objs.size f cd)) (leaving (W2 qual scope s.heap.objs.size f cd) e) (fun _ HF=>CX outer H s E e HF) (fun e' HF=>CX outer H s E e' HF) s'
theorem qW {sc:Xh} {n:Nat} {x:UA} (h:sc.names.lookup x=some .cell):∃ c,(cellsFrom n sc.names []).lookup x=some c:=by
 have q:=PySem.W.cellsFrom_some sc.names n [] (.inl h);exact Option.isSome_iff_exists.mp q
theorem ux {CX:CXT} {P:U1} {w:Vl} {K:Uj} {mg:UA->Option Um} {base:VO} {N ps:List UA} {qual:UA} {scope:Xh} {f:Ul} {cd:Um} {A:Vm} {outer:List Zp} {s s1:Uo} {H:Hp} {E:XK} {us:List Um} {vs:List V}
 (S:aF N ps scope) (hd:A.handled=none) (e0:Env0 P w K mg base A outer s H) (hl:vs.length=ps.length) (r:Vals vs us)
 (x:InCallC s s.heap.objs.size (bindL (W2 qual scope s.heap.objs.size f cd).kindOf (ps.zip us) fun _=>none) (cellsFrom (s.heap.objs.size+1) scope.names []) (bindC (W2 qual scope s.heap.objs.size f cd).kindOf (ps.zip us) fun _=>none) s1) :
 Inv (cH CX P w K mg base N qual scope f cd A outer s H E) [] (start N vs) H s1:=by
 have Bj:ps.length<=N.length:=by have:=congrArg WD S.pre;rw [U3] at this;omega
 obtain ⟨h1,tk,rfl,hk⟩:=x.done;have HG:∀ b:Ul,b∉(cH CX P w K mg base N qual scope f cd A outer s H E).ex:=fun b z=>absurd (show b∈([]:List Ul) from z) (by simp)
 refine ⟨⟨e0.mod,S.kind,rfl,rfl,Uq _,fun y z c h1 h2=>?_,fun y hy=>?_,fun y c _ h=>?_,fun _=>hd,Around.frames_deeper e0.frames,.inr ⟨rfl,rfl⟩,fun b z=>absurd z (HG b),e0.bs,e0.bsz,fun b _ _=>HG b,fun b z=>absurd z (HG b),e0.funs,e0.frf⟩,
  rfl,e0.bare,Un.kept hk,⟨_,x.toInCall.ns,fun i y v h1 h2 h3=>?_⟩,fun y c h=>⟨_,x.cell y c h⟩,e0.hok.fresh (Uq _),fun y c h=>?_,fun p hp=>absurd (show p∈([]:List (Ul×Wz)) from hp) (by simp),e0.hok.kept hk,?_⟩
 · exact name_of_addr x.apart (XT h1) (XT h2)
 · have hy:scope.names.lookup y=some .cell∨scope.names.lookup y=some .free:=hy;rcases hy with hy | hy
   · exact qW hy
   · exact absurd rfl (S.nofree _ (XT hy))
 · exact Yg (x.above y c (XT h))
 · have hi:i<vs.length:=by
    unfold start at h2;by_cases hi:i<vs.length
    · exact hi
    · rw [Wn (by simpa using hi)] at h2;rw [List.getElem?_replicate] at h2;split at h2 <;> cases h2
   have ha:vs[i]?=some v:=by
    unfold start at h2;rw [W0 (by simpa using hi),Ut] at h2;cases e:vs[i]? with
    | none=>rw [e] at h2;cases h2
    | some a=>rw [e] at h2;cases h2;rfl
   obtain ⟨u,hu,rv⟩:=r.get ha
   have hp:ps[i]?=some y:=by
    rw [<- S.pre,List.getElem?_take_of_lt (by omega)];exact h1
   have NT:ps.Nodup:=by rw [<- S.pre];exact S.nd.sublist (List.take_sublist _ _)
   refine ⟨u,rv,?_⟩;rcases S.par y (Ur hp) with k | k
   · exact .inl ⟨k,nE NT hp hu k⟩
   · obtain ⟨c,e⟩:=qW (n:=s.heap.objs.size+1) k;refine .inr ⟨.inl k,c,e,?_⟩;have q:=x.cell y c e;rw [nY NT hp hu (by show scope.names.lookup y≠_;rw [k];decide)] at q;exact q
 · exact e0.hok.fresh (Yg (x.above y c (XT h)))
 · unfold start;show _=N.length;rw [Uu,Ue,List.length_replicate];omega
theorem yl {CX:CXT} {P:U1} {w:Vl} {K:Uj} {mg:UA->Option Um} {base:VO} {k:Nat} {f:Ul} {name qual:UA} {params:Arguments} {body:List V5} {scope:Xh} {dV kV doc pm Ao ct oc:Um} {an od:Option Ul}
 {EH:Array (Option Um)} {N ps:List UA} {sp:Sp} (lk:K.lookup f=some ⟨oc,od,.func (Xb name qual params body scope dV kV doc pm an Ao ct),EH⟩) (Ds:Ye K Ao qual=true) (S:aF N ps scope)
 (len:∀ vs H Q E,sp vs H Q E->vs.length=ps.length)
 (BK:∀ (A:Vm) (outer:List Zp) (s:Uo) (H:Hp) (vs:List V) (Q:VK) (E:XK),Room k (A.deeper (W2 qual scope s.heap.objs.size f Ao))->sp vs H Q E →
  ∃ t,PSs (cH CX P w K mg base N qual scope f Ao A outer s H E) body t/\t { nx:=fun _ H'=>Q .non H',rt:=Q } (start N vs) H) :
 FnOk P w K mg base CX (k+1) f (Xb name qual params body scope dV kV doc pm an Ao ct) ps sp:=by
 refine ⟨len,fun A outer s H args us vs Q E hr e0 hb r B0=>?_⟩;have hl:=len _ _ _ _ B0;have KX:K.In s.heap:=e0.mod.kin.keeps fun b o e=>(e0.bs b o e).1;have lim:s.heap.NoLimit:=e0.mod.nolimit.keeps fun b o e=>(e0.bs b o e).1
 have HH:∀ y∈ps.zip us,scope.names.lookup y.1=some .local∨(scope.names.lookup y.1=some .cell/\((cellsFrom (s.heap.objs.size+1) scope.names []).lookup y.1).isSome=true):=fun ⟨n,v⟩ hy=>by
  rcases S.par n (List.of_mem_zip hy).1 with q | q
  · exact .inl q
  · exact .inr ⟨q,PySem.W.cellsFrom_some _ _ _ (.inl q)⟩
 refine codeAny_call_function hr.depth (KX _ _ lk) rfl S.co S.gen rfl (PySem.W.codeRec_of KX Ds) (hb _ _ _ _ ?_);refine wpAny_newFunctionEnv_cells S.kind HH fun env he s1 x=>?_;subst he;refine ⟨lim.keeps x.toInCall.keep,codeAny_func ?_⟩;obtain ⟨t,ht,hq⟩:=BK A outer s H vs Q E (hr.deeper _) B0;have I:Inv (cH CX P w K mg base N qual scope f Ao A outer s H E) [] (start N vs) H s1:=ux S hr.hd e0 hl r x;refine VM (ht [] s1 (start N vs) H _ I hq) (fun fl s' hs=>?_) fun e s' hs=>hs
 have fin:∀ {f':St} {H':Hp} {v:V} {u:Um},Inv (cH CX P w K mg base N qual scope f Ao A outer s H E) [] f' H' s'->RelV v u->Q v H'->CE outer P w H s Q u s' :=
  fun {f' H' v u} J rv q=>⟨v,H',J.os,J.bare,J.base,J.hok,rv,q⟩
 cases fl with
 | ret u =>
   obtain ⟨v,f',H',J,rv,q⟩:=hs;exact fin J rv q
 | next =>
   obtain ⟨f',H',J,q⟩:=hs;exact fin (v:=V.non) (u:=V4) J rfl q
 | brk =>
   obtain ⟨_,_,_,q⟩:=hs;exact Wf q
 | cont =>
   obtain ⟨_,_,_,q⟩:=hs;exact Wf q
end L2
namespace L2
open PySem PySem.Spec PyProof.Rows
section
variable {X:Cx} {x:UA} {p pos:Ym} {e:VI} {es:List VI} {t:TA} {id T:String} {r:List V->Hp->VK->Prop}
def tCB (r:List V->Hp->VK->Prop) (t:TA):TE:=fun σ H Q=>t σ H fun vs H1=>r vs H1 Q
theorem aq (hc:dJ X (.builtin id) r) (hg:Gl X x) (hm:X.mg x=none) (hv:YM x=some (.builtin id)) (ha:PA X (e::es) t) (hn:x≠"__name__":=by decide) (Du:(x == ("__debug__":UA))=false:=by decide)
 (he:Vt (e::es) X.env=(false,WS e X.env)::Vt es X.env:=by rfl) (Bj:(Yt pos (Vt es X.env)).any (·.1)=false:=by rfl):PE X (.Call (.Name x p) (e::es) [] pos) (tCB r t):=by
 intro pins s σ H Q I h;refine WG (iS I hg hm hv ?_ hn Du);exact PyProof.Rows.callWith_builtin1 (thn (ha pos pins s σ H _ I h) fun us s1 ⟨vs,H1,I1,r1,q1⟩=>hc pins s1 σ H1 vs us Q I1 r1 q1) he Bj
theorem aX (hc:dJ X (.type T) r) (hg:Gl X x) (hm:X.mg x=none) (hv:YM x=some (.type T)) (ha:PA X (e::es) t) (hn:x≠"__name__":=by decide) (Du:(x == ("__debug__":UA))=false:=by decide)
 (he:Vt (e::es) X.env=(false,WS e X.env)::Vt es X.env:=by rfl) (Bj:(Yt pos (Vt es X.env)).any (·.1)=false:=by rfl):PE X (.Call (.Name x p) (e::es) [] pos) (tCB r t):=by
 intro pins s σ H Q I h;refine WG (iS I hg hm hv ?_ hn Du);exact WQ (thn (ha pos pins s σ H _ I h) fun us s1 ⟨vs,H1,I1,r1,q1⟩=>hc pins s1 σ H1 vs us Q I1 r1 q1) he Bj
end
end L2
namespace HT
open PySem PyProof.Rows
section
open PySem.SeqAt
open PySem.AutoSeq1 (wpAny_loadPart')
open PySem.MeetsSeq PySem.MeetsSeq2 PySem.MeetsSeq3
end
section
variable {prog:U1} {w:Vl} {A:Vm} {E:Um->Uo->Prop} {s:Uo}
theorem cat_tup {t b:Ul} {vs ws:List Um} {Q:Um->Uo->Prop} (ht:IsTup s.heap t vs.toArray) (hb:IsTup s.heap b ws.toArray) (hv:vs≠[])
 (h1:ws=[]->Q (.ref t) s) (h2:ws≠[]->Q (.ref s.heap.objs.size) { s with heap:=s.heap.push { cls:=.type "tuple",data:=.seq (vs++ws).toArray } })
 (AH:vs.length+ws.length<=US):UO (UZ prog w) A (XZ .Add (.ref t) (.ref b)) Q E s:=by
 obtain ⟨⟨cls,dd,data,sl⟩,ho,hc,n,hd⟩:=id ht;obtain ⟨⟨HI,GL,data2,GN⟩,FQ,EI,n2,hd2⟩:=id hb;simp only at hc hd EI hd2;subst hc hd EI hd2;have e:vs.toArray++ws.toArray=(vs++ws).toArray:=by simp
 by_cases hw:ws=[]
 · exact concat_meets ⟨_,ho,rfl⟩ ⟨_,FQ,rfl⟩ noFill_tuple_add seq_tuple_add Y3 YU (YO _ _)
    (tuple_addW1 t b vs.toArray ws.toArray n n2 dd GL sl GN (by simpa using hv) (by simp [hw])) ⟨ho,FQ,h1 hw⟩
 · refine concat_meets ⟨_,ho,rfl⟩ ⟨_,FQ,rfl⟩ noFill_tuple_add seq_tuple_add Y3 YU (YO _ _)
    (tuple_addW2 t b vs.toArray ws.toArray n n2 dd GL sl GN (by simpa using hv) (by simpa using hw) (by rw [Ux,Ux];exact AH)) ⟨ho,FQ,?_⟩
   rw [e];exact h2 hw
def sIx (n d:Nat):Option Int->Nat
 | none=>d
 | some v=>if v<0 then (v+(n:Int)).toNat else min v.toNat n
theorem sIx_none (n d:Nat):sIx n d none=d:=rfl
theorem sIx_nat (n d k:Nat):sIx n d (some (k:Int))=min k n:=by
 show (if (k:Int)<0 then ((k:Int)+(n:Int)).toNat else min (k:Int).toNat n)=min k n;rw [if_neg (by omega),VL]
theorem sIx_le (n d:Nat) (hd:d<=n) (o:Option Int):sIx n d o<=n:=by
 cases o with
 | none=>exact hd
 | some v =>
   show (if v<0 then (v+(n:Int)).toNat else min v.toNat n)<=n;by_cases hv:v<0
   · rw [if_pos hv];omega
   · rw [if_neg hv];exact Nat.min_le_right _ _
theorem clip_eq (v:Int) (n d:Nat):(if v<0 then max (v+(n:Int)) 0 else min v (n:Int))=((sIx n d (some v):Nat):Int):=by
 show (if v<0 then max (v+(n:Int)) 0 else min v (n:Int))=(((if v<0 then (v+(n:Int)).toNat else min v.toNat n):Nat):Int);by_cases hv:v<0
 · simp only [if_pos hv];omega
 · simp only [if_neg hv];omega
theorem adjust_gen (lo hi:Option Int) (n:Nat):Xi lo hi 1 (n:Int)=(((sIx n 0 lo:Nat):Int),((sIx n n hi:Nat):Int)):=by
 have h1:¬ ((1:Int)<0):=by omega
 unfold Xi;simp only [h1,if_false];refine ZV ?_ ?_
 · cases lo with
   | none=>rfl
   | some v=>exact clip_eq v n 0
 · cases hi with
   | none=>rfl
   | some v=>exact clip_eq v n n
theorem places_gen (i j:Nat):V1 (i:Int) (j:Int) 1=j - i:=by
 unfold V1;have h1:(1:Int) > 0:=by omega
 simp only [h1,if_true,Z0];split <;> omega
theorem slicePart_ {v:Um} {o:Option Int} {Q:Option Int->Uo->Prop} (p:Zv v o) (h:Q o s):UO (UZ prog w) A (Builtin.Slice.slicePartIndex v) Q E s:=by
 cases p with
 | none=>exact slicePart_none h
 | int i t=>exact slicePart_int h
theorem sliceApplied_gen {sl:Ul} {vl vu:Um} {lo hi:Option Int} {n:Nat} {Q:Int×Int×Nat->Uo->Prop} (hs:s.heap.IsSliceOf sl vl vu .none) (pl:Zv vl lo) (pu:Zv vu hi)
 (h:Q (((sIx n 0 lo:Nat):Int),1,sIx n n hi - sIx n 0 lo) s):UO (UZ prog w) A (X6 (.ref sl) (pure (n:Int))) Q E s:=by
 obtain ⟨os,B9,EJ,Co⟩:=id hs;unfold X6 Builtin.Slice.sliceFields;refine Uk (Uk (Vz B9 Co (x:=vl) rfl (Uk (Vz B9 Co (x:=vu) rfl (Uk (Vz B9 Co (x:=.none) rfl (UE ?_)))))));refine Uk (slicePart_none ?_);show UO _ _ (if ((1:Int) == 0)=true then _ else _) _ _ s;rw [if_neg (by decide)];refine Uk (slicePart_ pl (Uk (slicePart_ pu (Uk (UE ?_)))));show UO _ _ (match Xi lo hi 1 (n:Int) with | (lo,hi)=>pure (lo,(1:Int),V1 lo hi 1)) _ _ s;rw [adjust_gen lo hi n];show UO _ _ (pure (((sIx n 0 lo:Nat):Int),(1:Int),V1 ((sIx n 0 lo:Nat):Int) ((sIx n n hi:Nat):Int) 1)) _ _ s;rw [places_gen];exact UE h
theorem pick_gen (xs:Array Um) (i k:Nat):((Vr k).filterMap fun (m:Nat)=>xs[((i:Int)+(m:Int) * 1).toNat]?).toArray=((xs.toList.drop i).take k).toArray:=by
 have e:(fun (m:Nat)=>xs[((i:Int)+(m:Int) * 1).toNat]?)=fun m=>xs[i+m]?:=by
  funext m;have:((i:Int)+(m:Int) * 1).toNat=i+m:=by omega
  rw [this]
 rw [e];have:=pick_run xs i k;rw [List.filterMap_map] at this;have e2:((fun x=>xs[x]?) ∘ fun x=>i+x)=fun m=>xs[i+m]?:=rfl;rw [e2] at this;rw [this]
theorem getItem_tuple_cut {t sl:Ul} {items:Array Um} {vl vu:Um} {lo hi:Option Int} {Q:Um->Uo->Prop} (ht:IsTup s.heap t items) (hs:s.heap.IsSliceOf sl vl vu .none) (pl:Zv vl lo) (pu:Zv vu hi)
 (hw:¬ (sIx items.size 0 lo=0/\sIx items.size items.size hi=items.size))
 (h:Q (.ref s.heap.objs.size) { s with heap:=s.heap.push { cls:=.type "tuple",data:=.seq ((items.toList.drop (sIx items.size 0 lo)).take (sIx items.size items.size hi - sIx items.size 0 lo)).toArray } })
 (AH:items.size<=US):UO (UZ prog w) A (YL (.ref t) (.ref sl)) Q E s:=by
 have Bt:sizeOk (.seq ((items.toList.drop (sIx items.size 0 lo)).take (sIx items.size items.size hi - sIx items.size 0 lo)).toArray):=by
  show ((items.toList.drop (sIx items.size 0 lo)).take (sIx items.size items.size hi - sIx items.size 0 lo)).toArray.size<=US;rw [Ux,U3,Vi,UQ];omega
 have hj:sIx items.size items.size hi<=items.size:=sIx_le _ _ (Uq _) hi;obtain ⟨os,B9,EJ,Co⟩:=id hs;have HJ:s.TypeIs (.ref sl) "slice":=⟨os,B9,EJ⟩;unfold YL
 try with_reducible refine WJ ?_
 first | refine Uk (UE ?_) | skip
 refine Uk (wpAny_sequenceKey ht.typeIs (by decide) ?_)
 refine Uk (Wj (name:=Ug "__getitem__") ht.typeIs Vx
  (Xw Vx ht.typeIs entry_tuple_getitem ?_ (args_tuple_getitem _ _)))
 show UO _ _ (Y0 (.ref t) >>= _) _ _ s;refine Uk (tupleItemsOf_ ht ?_);refine Uk (wpAny_typeOf HJ ?_);rw [if_pos (by decide)];refine Uk (sliceApplied_gen hs pl pu ?_)
 have Az:¬ ((((sIx items.size 0 lo:Nat):Int) == 0 && (1:Int) == 1 && (sIx items.size items.size hi - sIx items.size 0 lo) == items.size)=true):=by
  intro q;rw [Vv,Vv] at q;have q1:((sIx items.size 0 lo:Nat):Int)=0:=eq_of_beq q.1.1;have q2:sIx items.size items.size hi - sIx items.size 0 lo=items.size:=eq_of_beq q.2;exact hw ⟨by omega,by omega⟩
 show UO _ _ (if (((sIx items.size 0 lo:Nat):Int) == 0 && (1:Int) == 1 && (sIx items.size items.size hi - sIx items.size 0 lo) == items.size)=true then _ else _) _ _ s;rw [if_neg Az,pick_gen]
 first
  | exact Uk (m:=V3 _) (V0 (UE ⟨_,rfl,UE h⟩) Bt)
  | exact Uk (m:=V3 _) (V0 (Uk (UE (UE ⟨_,rfl,UE h⟩))) Bt)
  | exact Uk (Uk (m:=V3 _) (V0 (UE (UE ⟨_,rfl,UE h⟩)) Bt))
  | exact Uk (Uk (m:=V3 _) (V0 (UE ⟨_,rfl,UE h⟩) Bt))
end
end HT
namespace L2
open PySem PySem.Spec PyProof.Rows
abbrev TO:=St->Hp->(Option Int->Hp->Prop)->Prop
def PO (X:Cx) (e:Option VI) (t:TO):Prop :=
 ∀ (pins:List (Ul×Wz)) (s:Uo) (σ:St) (H:Hp) (Q:Option Int->Hp->Prop),Inv X pins σ H s->t σ H Q →
   UO (UZ X.prog X.w) X.A (evalPart e X.env) (fun u s'=>∃ o H',Inv X pins σ H' s'/\Zv u o/\Q o H') X.xe s
def xr:TO:=fun _ H Q=>Q none H
inductive xV (x:V) (Q:Option Int->Hp->Prop) (H1:Hp):Prop
 | mk (i:Int) (Aw:x=.int i) (Ax:Q (some i) H1):xV x Q H1
def yc (t:TE):TO:=fun σ H Q=>t σ H fun x H1=>xV x Q H1
section
variable {X:Cx} {e:VI} {te:TE} {lo hi:Option VI} {tl th:TO} {pos p2:Ym}
theorem cj:PO X none xr:=by
 intro pins s σ H Q I h;rw [evalPart_none];exact UE ⟨none,H,I,.none,h⟩
theorem bB (h:PE X e te):PO X (some e) (yc te):=by
 intro pins s σ H Q I hw;rw [evalPart_some];refine thn (h pins s σ H _ I hw) fun u s1 ⟨x,H1,I1,r1,q1⟩=>?_;obtain ⟨i,rfl,q⟩:=q1;obtain ⟨t,rfl⟩:=r1;exact ⟨some i,H1,I1,.int i t,q⟩
def SlR (X:Cx) (r:V->Option Int->Option Int->Hp->VK->Prop):Prop :=
 ∀ (pins:List (Ul×Wz)) (s:Uo) (σ:St) (H:Hp) (x:V) (v vl vu:Um) (lo hi:Option Int) (sl:Ul) (Q:VK),Inv X pins σ H s->RelV x v->s.heap.IsSliceOf sl vl vu .none->Zv vl lo->Zv vu hi->r x lo hi H Q →
   ∃ T id,typeLookup (.type T) "__getitem__"=pure (some (.builtin id))/\s.TypeIs v T/\UO (UZ X.prog X.w) X.A (YL v (.ref sl)) (EP X pins σ Q) X.xe s
def tSl (r:V->Option Int->Option Int->Hp->VK->Prop) (te:TE) (tl th:TO):TE:=fun σ H Q=>te σ H fun x H1=>tl σ H1 fun l H2=>th σ H2 fun u H3=>r x l u H3 Q
theorem bz {r:V->Option Int->Option Int->Hp->VK->Prop} (hr:SlR X r) (he:PE X e te) (hl:PO X lo tl) (hu:PO X hi th):PE X (.Subscript e (.Slice lo hi none p2) pos) (tSl r te tl th):=by
 intro pins s σ H Q I h;refine Subscript_ (thn (he pins s σ H _ I h) fun v s1 ⟨x,H1,I1,r1,q1⟩=>?_);refine wpAny_Slice (thn (hl pins s1 σ H1 _ I1 q1) fun vl s2 ⟨l,H2,I2,pl,q2⟩=>thn (hu pins s2 σ H2 _ I2 q2) fun vu s3 ⟨u,H3,I3,pu,q3⟩=>?_);rw [evalPart_none];refine UE ?_;have I4:Inv X pins σ H3 { s3 with heap:=s3.heap.push { cls:=.type "slice",data:=.fields #[vl,vu,.none] } }:=I3.kept (t':=s3.toks) fun b ob q=>Up _ q;obtain ⟨T,id,hT,ht,hg⟩:=hr pins { s3 with heap:=s3.heap.push { cls:=.type "slice",data:=.fields #[vl,vu,.none] } } σ H3 x v vl vu l u s3.heap.objs.size Q I4 r1 (Heap.IsSliceOf.new ..) pl pu q3;show UO (UZ X.prog X.w) X.A (subscriptTail e (.Slice lo hi none p2) v (.ref s3.heap.objs.size)) (EP X pins σ Q) X.xe { s3 with heap:=s3.heap.push { cls:=.type "slice",data:=.fields #[vl,vu,.none] } };exact tail_any (ops:=[.ref s3.heap.objs.size,v]) ht hT hg (by with_unfolding_all rfl)
def cB (xs:List V) (lo hi:Option Int):List V:=(xs.drop (HT.sIx xs.length 0 lo)).take (HT.sIx xs.length xs.length hi - HT.sIx xs.length 0 lo)
theorem kN (xs:List V) (lo hi:Option Int):(cB xs lo hi).length<=xs.length:=by
 unfold cB;rw [U3,Vi];omega
inductive xR (K:Uj) (x:V) (lo:Option Int) (hi:Option Int) (H:Hp) (Q:VK):Prop
 | mk (a:_) (xs:_) (Aw:x=.ref a) (Ax:SqT K H a xs) (AE:¬ (HT.sIx xs.length 0 lo=0/\HT.sIx xs.length xs.length hi=xs.length)) (AQ:∀ p,H p=none->Q (.ref p) (upd H p (.tup (cB xs lo hi)))):xR K x lo hi H Q
def aba (K:Uj):V->Option Int->Option Int->Hp->VK->Prop:=xR K
theorem rQ:SlR X (aba X.K):=by
 intro pins s σ H x v vl vu lo hi sl Q I rx hs pl pu h;obtain ⟨a,xs,rfl,hx,hw,q⟩:=h;cases rx;obtain ⟨its,r,ht,hz⟩:=I.tuple hx;have hlen:its.toArray.size=xs.length:=by rw [Ux];exact r.length.symm
 refine ⟨"tuple",_,Vx.lookup,ht.typeIs,?_⟩;refine HT.getItem_tuple_cut ht hs pl pu (by rw [hlen];exact hw) ?_ (by rw [hlen];exact hz);rw [hlen];refine ⟨.ref s.heap.objs.size,_,I.laid (t':=s.toks) (o:=.tup (cB xs lo hi)) (fun b ob q=>Up _ q) (Uq _) ?_,rfl,q _ (I.hok.fresh (Uq _))⟩;exact ⟨VS (kN xs lo hi) hz,_,0,(r.drop (HT.sIx xs.length 0 lo)).take (HT.sIx xs.length xs.length hi - HT.sIx xs.length 0 lo),UG _ rfl⟩
def aac (K:Uj):R2:=fun x y H Q=>∃ a b xs ys,x=.ref a/\y=.ref b/\SqT K H a xs/\SqT K H b ys/\xs≠[]/\xs.length+ys.length<=US ∧
 (ys=[]->Q (.ref a) H)/\(ys≠[]->∀ p,H p=none->Q (.ref p) (upd H p (.tup (xs++ys))))
theorem Vals.nil_iff {xs:List V} {us:List Um} (r:Vals xs us):us=[]↔xs=[]:=by
 cases r with
 | nil=>simp
 | cons _ _=>simp
theorem xc:OpR X (XZ .Add) (aac X.K):=by
 intro pins s σ H x y v u Q I rx ry h;obtain ⟨a,b,xs,ys,rfl,rfl,ha,hb,hx,hz,q1,q2⟩:=h;cases rx;cases ry;obtain ⟨its,r1,p1,_⟩:=I.tuple ha;obtain ⟨An,r2,p2,_⟩:=I.tuple hb;refine HT.cat_tup p1 p2 (fun z=>hx (r1.nil_iff.mp z)) (fun z=>⟨.ref a,H,I,rfl,q1 (r2.nil_iff.mp z)⟩) (fun z=>?_) (by rw [<- r1.length,<- r2.length];exact hz);refine ⟨.ref s.heap.objs.size,_,I.laid (t':=s.toks) (o:=.tup (xs++ys)) (fun b ob q=>Up _ q) (Uq _) ?_,rfl,q2 (fun w=>z (r2.nil_iff.mpr w)) _ (I.hok.fresh (Uq _))⟩;exact ⟨by rw [Uu];exact hz,_,0,r1.append r2,UG _ rfl⟩
end
end L2
namespace L2
open PySem PySem.Spec PyProof.Rows
def ixN (n:Nat) (i:Int):Option Nat:=if 0<=i then (if i<n then some i.toNat else none) else if -(n:Int)<=i then some (i+n).toNat else none
def atI {α:Type} (xs:List α) (i:Int):Option α:=(ixN xs.length i).bind fun j=>xs[j]?
theorem tj {n:Nat} {i:Int} {j:Nat} (h:ixN n i=some j):seqIndex? i n=some j/\j<n/\-(n:Int)<=i/\i<n:=by
 unfold ixN at h;by_cases h0:0<=i
 · rw [if_pos h0] at h;by_cases h1:i<n
   · rw [if_pos h1] at h;have e:i.toNat=j:=UD h;exact ⟨by rw [seqIndex_of h0 h1,e],by omega,by omega,h1⟩
   · rw [if_neg h1] at h;cases h
 · rw [if_neg h0] at h;by_cases h1:-(n:Int)<=i
   · rw [if_pos h1] at h;have e:(i+n).toNat=j:=UD h;exact ⟨by rw [seqIndex_neg (by omega) h1,e],by omega,h1,by omega⟩
   · rw [if_neg h1] at h;cases h
theorem lw {α:Type} {xs:List α} {i:Int} {v:α} (h:atI xs i=some v):∃ j,seqIndex? i xs.length=some j/\xs[j]?=some v/\j<xs.length/\-(xs.length:Int)<=i/\i<xs.length:=by
 unfold atI at h;cases e:ixN xs.length i with
 | none=>rw [e] at h;cases h
 | some j =>
   rw [e] at h;obtain ⟨h1,h2,h3,h4⟩:=tj e;exact ⟨j,h1,h,h2,h3,h4⟩
theorem cD {α:Type} {xs:List α} {j:Nat} {v:α} (h:xs[j]?=some v):atI xs (j:Int)=some v:=by
 have hj:j<xs.length:=(Uz.mp h).1
 have e:ixN xs.length (j:Int)=some j:=by
  unfold ixN;rw [if_pos (by omega),if_pos (by omega)];simp
 unfold atI;rw [e];exact h
theorem qB {α:Type} (xs:List α) (v:α):atI (xs++[v]) (-1)=some v:=by
 have hl:(xs++[v]).length=xs.length+1:=by simp
 have e:ixN (xs++[v]).length (-1)=some xs.length:=by
  unfold ixN;rw [hl,if_neg (by decide),if_pos (by omega)];congr 1;omega
 unfold atI;rw [e];show (xs++[v])[xs.length]?=some v;simp
def tU (b:VI):Prop:=∀ o i,subscripted b false o i=operate [o,i] (YL o i)
def IxR (X:Cx) (r:R2):Prop :=
 ∀ (value slice:VI) (pins:List (Ul×Wz)) (s:Uo) (σ:St) (H:Hp) (x y:V) (v u:Um) (Q:VK),Inv X pins σ H s->RelV x v->RelV y u->r x y H Q →
   subscripted slice false v u=operate [v,u] (YL v u)->UO (UZ X.prog X.w) X.A (subscriptTail value slice v u) (EP X pins σ Q) X.xe s
def MtR (X:Cx) (id:String) (r:V->List V->Hp->VK->Prop):Prop :=
 ∀ (pins:List (Ul×Wz)) (s:Uo) (σ:St) (H:Hp) (x:V) (xs:List V) (v:Um) (us:List Um) (Q:VK),Inv X pins σ H s->RelV x v->Vals xs us->r x xs H Q →
   UO (UZ X.prog X.w) X.A (call (.builtin id) (v::us)) (EP X pins σ Q) X.xe s
section
variable {X:Cx} {a b:VI} {ta tb:TE} {pos:Ym}
theorem ao {r:R2} (hr:IxR X r) (ha:PE X a ta) (hb:PE X b tb) (hs:tU b):PE X (.Subscript a b pos) (tOp r ta tb):=by
 intro pins s σ H Q I h;exact Subscript_ (yJ ha hb I h fun v u s2 x y H2 I2 rx ry q=>hr a b pins s2 σ H2 x y v u Q I2 rx ry q (hs _ _))
inductive xW (K:Uj) (x:V) (y:V) (H:Hp) (Q:VK):Prop
 | mk (p:_) (xs:_) (i:_) (v:_) (Aw:x=.ref p) (Ax:y=.int i) (AE:SqL K H p xs) (AQ:atI xs i=some v) (Bx:Q v H):xW K x y H Q
def wA (K:Uj):R2:=xW K
inductive yf (K:Uj) (x:V) (y:V) (H:Hp) (Q:VK):Prop
 | mk (p:_) (xs:_) (i:_) (v:_) (Aw:x=.ref p) (Ax:y=.int i) (AE:SqT K H p xs) (AQ:atI xs i=some v) (Bx:Q v H):yf K x y H Q
def jU (K:Uj):R2:=yf K
inductive x8 (x:V) (y:V) (H:Hp) (Q:VK):Prop
 | mk (z:_) (i:_) (c:_) (Aw:x=.str z) (Ax:y=.int i) (AE:z.length<=US) (AQ:atI z.cps.toList i=some c) (Bx:Q (.str ⟨#[c]⟩) H):x8  x y H Q
def zT:R2:=x8
theorem aG:IxR X (wA X.K):=by
 intro value slice pins s σ H x y v u Q I rx ry h hs;obtain ⟨p,xs,i,z,rfl,rfl,hq,he,q⟩:=h;cases rx;obtain ⟨t,rfl⟩:=ry;obtain ⟨its,r,pl,hz⟩:=I.list hq;obtain ⟨j,h1,h2,h3,h4,h5⟩:=lw he;obtain ⟨w,ew,AY⟩:=r.get h2;have hl:=r.length;have hn:=gh;have fin:EP X pins σ Q w s:=⟨z,H,I,AY,q⟩;by_cases h0:0<=i
 · have hj:i.toNat=j:=by
    rw [seqIndex_of h0 h5] at h1;exact UD h1
   exact item_listR pl.isList h0 (by omega) (by rw [hj];simpa using ew) fin hs
 · have hj:(i+(its.toArray.size:Int)).toNat=j:=by
    rw [seqIndex_neg (by omega) h4] at h1;rw [Ux,<- hl];exact UD h1
   exact subscriptTail_builtinR (x:=w) pl.isList.typeIs slot_list_getitem.lookup
    (wpAny_getItem_list_neg (Q:=fun r s'=>r=w/\EP X pins σ Q r s') pl.isList (by omega) (by rw [Ux] <;> omega) (by omega) (by rw [hj];simpa using ew) ⟨rfl,fin⟩) hs
theorem ay:IxR X (jU X.K):=by
 intro value slice pins s σ H x y v u Q I rx ry h hs;obtain ⟨p,xs,i,z,rfl,rfl,hq,he,q⟩:=h;cases rx;obtain ⟨t,rfl⟩:=ry;obtain ⟨its,r,pl,hz⟩:=I.tuple hq;obtain ⟨j,h1,h2,h3,h4,h5⟩:=lw he;obtain ⟨w,ew,AY⟩:=r.get h2;have hl:=r.length;have hn:=gh;have fin:EP X pins σ Q w s:=⟨z,H,I,AY,q⟩
 exact subscriptTail_builtinR (x:=w) pl.typeIs slot_tuple_getitem.lookup
  (getItem_tuple (j:=j) (Q:=fun r s'=>r=w/\EP X pins σ Q r s') pl (by omega) (by omega) (by rw [Ux,<- hl];exact h1) (by simpa using ew) ⟨rfl,fin⟩) hs
theorem mx:IxR X zT:=by
 intro value slice pins s σ H x y v u Q I rx ry h hs;obtain ⟨z,i,c,rfl,rfl,hz,he,q⟩:=h;obtain ⟨t,rfl⟩:=rx;obtain ⟨t',rfl⟩:=ry;obtain ⟨j,h1,h2,h3,h4,h5⟩:=lw he;have hl:z.cps.toList.length=z.length:=by simp [Str.length]
 rw [hl] at h1 h4 h5;have hn:=gh
 exact tail_any (XD s z t) slot_str_getitem.lookup (getItem_str (c:=c) (by
  have e1:decide (i < -(2 ^ 63:Int))=false:=decide_eq_false (by omega);have e2:decide (i ≥ 2 ^ 63)=false:=decide_eq_false (by omega);rw [e1,e2,Bool.or_false]) (by rw [h1];simpa using h2) ⟨.str ⟨#[c]⟩,H,I.tok _,⟨_,rfl⟩,q⟩) hs
theorem rZ (its:List Um) (n j:Nat) (u:Um):YW (·.setIfInBounds j u) { cls:=.type "list",data:=.seq its.toArray n }={ cls:=.type "list",data:=.seq (its.set j u).toArray n }:=by
 simp [YW]
theorem Inv.lst {pins:List (Ul×Wz)} {σ:St} {H:Hp} {s:Uo} {p:Ul} {xs:List V} (I:Inv X pins σ H s) (h:H p=some (.lst xs)) :
 ∃ (its:List Um) (n:Nat),Vals xs its/\s.heap.get? p=some { cls:=.type "list",data:=.seq its.toArray n }/\xs.length<=US:=by
 obtain ⟨z,its,n,r,e⟩:=I.hok p _ h;exact ⟨its,n,r,e,z⟩
theorem Inv.lstUpd {pins:List (Ul×Wz)} {σ:St} {H:Hp} {s:Uo} {p:Ul} {xs ys:List V} {its its':List Um} {n n':Nat} {f:Wz->Wz} (I:Inv X pins σ H s) (h:H p=some (.lst xs))
 (ho:s.heap.get? p=some { cls:=.type "list",data:=.seq its.toArray n }) (hf:f { cls:=.type "list",data:=.seq its.toArray n }={ cls:=.type "list",data:=.seq its'.toArray n' }) (r:Vals ys its') (hz:ys.length<=US) (t:Nat) :
 Inv X pins σ (upd H p (.lst ys)) { s with heap:=s.heap.update p f,toks:=t }:=by
 have e:(s.heap.update p f).get? p=some { cls:=.type "list",data:=.seq its'.toArray n' }:=by
  rw [ZF f ho (by rw [hf] <;> rfl),hf]
 refine I.write (x:=p) (e:=p) (by rw [h];trivial) (.inl rfl) (fun b u hb q=>(Yv _ _ (WX hb)).trans q) ⟨_,e⟩ ?_;exact ⟨hz,its',n',r,e⟩
def zM:V->V->V->Hp->(Hp->Prop)->Prop:=fun o i v H Q=>∃ p xs k j,o=.ref p/\i=.int k/\H p=some (.lst xs)/\ixN xs.length k=some j/\Q (upd H p (.lst (xs.set j v)))
theorem set_list:yX X zM:=by
 intro pins s σ H o i v ov iv u Q I ro ri rv h;obtain ⟨p,xs,k,j,rfl,rfl,hp,hj,q⟩:=h;cases ro;obtain ⟨t,rfl⟩:=ri;obtain ⟨its,n,r,ho,hz⟩:=I.lst hp;obtain ⟨h1,h2,h3,h4⟩:=tj hj;have hl:=r.length;have hn:=gh
 have I':Inv X pins σ (upd H p (.lst (xs.set j v))) { s with heap:=s.heap.update p (YW (·.setIfInBounds j u)) } :=
  I.lstUpd hp ho (rZ its n j u) (r.set rv j) (by rw [W6];exact hz) s.toks
 by_cases h0:0<=k
 · have hk:k.toNat=j:=by
    rw [seqIndex_of h0 h4] at h1;exact UD h1
   exact PySem.W.ki_setAt ho h0 (by omega) (by rw [Ux,<- hl];exact h4) (by rw [hk];exact ⟨_,I',q⟩)
 · have hk:(k+(its.toArray.size:Int)).toNat=j:=by
    rw [seqIndex_neg (by omega) h3] at h1;rw [Ux,<- hl];exact UD h1
   exact PySem.W.ki_setBack ho (by omega) (by rw [Ux,<- hl];exact h3) (by omega) (by rw [hk];exact ⟨_,I',q⟩)
theorem oH (lo hi:Option Int) (n:Nat):(YD lo hi none n).1=((HT.sIx n 0 lo:Nat):Int)/\(YD lo hi none n).2.1=((HT.sIx n n hi:Nat):Int)/\(YD lo hi none n).2.2=1:=by
 refine ⟨?_,?_,rfl⟩
 · cases lo with
   | none=>simp [YD,HT.sIx]
   | some i =>
     simp only [YD,HT.sIx,Option.getD_none,show (1:Int) > 0 by decide,if_true];by_cases h:i<0
     · simp only [h,if_true] <;> omega
     · simp only [h,if_false] <;> omega
 · cases hi with
   | none=>simp [YD,HT.sIx]
   | some i =>
     simp only [YD,HT.sIx,Option.getD_none,show (1:Int) > 0 by decide,if_true];by_cases h:i<0
     · simp only [h,if_true] <;> omega
     · simp only [h,if_false] <;> omega
theorem nb (its:List Um) (lo hi:Option Int):slicePick its.toArray lo hi none=((its.drop (HT.sIx its.length 0 lo)).take (HT.sIx its.length its.length hi - HT.sIx its.length 0 lo)).toArray:=by
 obtain ⟨h1,h2,h3⟩:=oH lo hi its.toArray.size;unfold slicePick;rw [h1,h2,h3];simp only [sliceRange_one,pick_run,Ux] <;> rfl
inductive xP (K:Uj) (x:V) (lo:Option Int) (hi:Option Int) (H:Hp) (Q:VK):Prop
 | mk (a:_) (xs:_) (Aw:x=.ref a) (Ax:SqL K H a xs) (AE:∀ p,H p=none->Q (.ref p) (upd H p (.lst (cB xs lo hi)))):xP K x lo hi H Q
def aaX (K:Uj):V->Option Int->Option Int->Hp->VK->Prop:=xP K
theorem eQ:SlR X (aaX X.K):=by
 intro pins s σ H x v vl vu lo hi sl Q I rx hs pl pu h;obtain ⟨a,xs,rfl,hx,q⟩:=h;cases rx;obtain ⟨its,r,ht,hz⟩:=I.list hx;have hlen:=r.length;refine ⟨"list",_,slot_list_getitem.lookup,ht.isList.typeIs,?_⟩;refine wpAny_getItem_list_slice ht.isList hs pl pu .none (by simp) ?_ (by rw [Ux] <;> omega);rw [nb,<- hlen];refine ⟨.ref s.heap.objs.size,_,I.laid (t':=s.toks) (o:=.lst (cB xs lo hi)) (fun b ob q=>Up _ q) (Uq _) ?_,rfl,q _ (I.hok.fresh (Uq _))⟩;exact ⟨VS (kN xs lo hi) hz,_,0,(r.drop (HT.sIx xs.length 0 lo)).take (HT.sIx xs.length xs.length hi - HT.sIx xs.length 0 lo),UG _ rfl⟩
def kT:V->Bool
 | .non=>true
 | .bl _=>true
 | .int _=>true
 | .str _=>true
 | _=>false
def eqV:V->V->Bool
 | .non,.non=>true
 | .bl a,.bl b=>a == b
 | .bl a,.int b=>(if a then 1 else 0) == b
 | .int a,.bl b=>a == (if b then 1 else 0)
 | .int a,.int b=>a == b
 | .str a,.str b=>a == b
 | _,_=>false
theorem yA {A:Vm} {s:Uo} {y x:V} {u v:Um} (ry:RelV y u) (rx:RelV x v) (fy:kT y=true) (fx:kT x=true):SeqAt.EqAt A s u v (eqV y x):=by
 cases y with
 | non =>
   cases ry;cases x with
   | non=>cases rx;exact SeqAt.EqAt.same _
   | bl b=>cases rx;exact SeqAt.EqAt.none_bool b
   | int b=>obtain ⟨t,rfl⟩:=rx;exact SeqAt.EqAt.none_int b t
   | str b=>obtain ⟨t,rfl⟩:=rx;exact SeqAt.EqAt.none_str b t
   | _=>exact absurd (show false=true from fx) UN
 | bl a =>
   cases ry;cases x with
   | non=>cases rx;exact SeqAt.EqAt.bool_none a
   | bl b=>cases rx;exact SeqAt.EqAt.bool_bool a b
   | int b=>obtain ⟨t,rfl⟩:=rx;exact SeqAt.EqAt.bool_int a b t
   | str b=>obtain ⟨t,rfl⟩:=rx;exact SeqAt.EqAt.bool_str a b t
   | _=>exact absurd (show false=true from fx) UN
 | int a =>
   obtain ⟨t',rfl⟩:=ry;cases x with
   | non=>cases rx;exact SeqAt.EqAt.int_none a t'
   | bl b=>cases rx;exact SeqAt.EqAt.int_bool a t' b
   | int b=>obtain ⟨t,rfl⟩:=rx;exact SeqAt.EqAt.int_int a t' b t
   | str b=>obtain ⟨t,rfl⟩:=rx;exact SeqAt.EqAt.int_str a t' b t
   | _=>exact absurd (show false=true from fx) UN
 | str a =>
   obtain ⟨t',rfl⟩:=ry;cases x with
   | non=>cases rx;exact SeqAt.EqAt.str_none a t'
   | bl b=>cases rx;exact SeqAt.EqAt.str_bool a t' b
   | int b=>obtain ⟨t,rfl⟩:=rx;exact SeqAt.EqAt.str_int a t' b t
   | str b=>obtain ⟨t,rfl⟩:=rx;exact SeqAt.EqAt.str_str a t' b t
   | _=>exact absurd (show false=true from fx) UN
 | _=>exact absurd (show false=true from fy) UN
def eqU (x:V) (u:Um):Bool:=match u with
 | .none=>eqV .non x
 | .bool b=>eqV (.bl b) x
 | .int i _=>eqV (.int i) x
 | .str z _=>eqV (.str z) x
 | _=>false
theorem uY {x y:V} {u:Um} (r:RelV y u) (f:kT y=true):eqU x u=eqV y x:=by
 cases y with
 | non=>cases r;rfl
 | bl b=>cases r;rfl
 | int i=>obtain ⟨t,rfl⟩:=r;rfl
 | str z=>obtain ⟨t,rfl⟩:=r;rfl
 | _=>exact absurd (show false=true from f) UN
theorem pD {x:V}:∀ {xs:List V} {us:List Um},Vals xs us->xs.all kT=true->us.any (eqU x)=xs.any fun y=>eqV y x
 | _,_,.nil,_=>rfl
 | y::xs,u::us,.cons r t,f=>by
   rw [Yq,Vv] at f;rw [List.any_cons,List.any_cons,uY r f.1,pD t f.2]
theorem lT {A:Vm} {s:Uo} {x:V} {v:Um} (rx:RelV x v) (fx:kT x=true):∀ {xs:List V} {us:List Um},Vals xs us->xs.all kT=true->∀ u∈us,SeqAt.EqAt A s u v (eqU x u)
 | _,_,.nil,_=>fun u hu=>by cases hu
 | y::xs,u::us,.cons r t,f=>fun u' hu=>by
   rw [Yq,Vv] at f;rcases UH.mp hu with rfl | hu
   · rw [uY r f.1];exact yA r rx f.1 fx
   · exact lT rx fx t f.2 u' hu
def inV (x:V) (xs:List V):Bool:=xs.any fun y=>eqV y x
def rIn (K:Uj) (neg:Bool):R2:=fun x y H Q=>∃ p xs,y=.ref p/\(SqL K H p xs∨SqT K H p xs)/\kT x=true/\xs.all kT=true/\Q (.bl (if neg then !inV x xs else inV x xs)) H
theorem j3:OpR X (WH .In) (rIn X.K false):=by
 intro pins s σ H x y v u Q I rx ry h;obtain ⟨p,xs,rfl,hq,fx,fs,q⟩:=h;cases ry;rcases hq with hq | hq
 · obtain ⟨its,r,pl,hz⟩:=I.list hq;refine SeqAt.in_listAt (eqU x) pl.isList (fun w hw=>lT rx fx r fs w (by simpa using hw)) ⟨.bl _,H,I,rfl,?_⟩;rw [show its.toArray.any (eqU x)=its.any (eqU x) by simp,pD r fs];exact q
 · obtain ⟨its,r,pl,hz⟩:=I.tuple hq;refine SeqAt.in_tupleAt (eqU x) pl (fun w hw=>lT rx fx r fs w (by simpa using hw)) ⟨.bl _,H,I,rfl,?_⟩;rw [show its.toArray.any (eqU x)=its.any (eqU x) by simp,pD r fs];exact q
inductive ym (K:Uj) (xs:List V) (H:Hp) (Q:VK):Prop
 | mk (p:Ul) (ys:List V) (Aw:xs=[.ref p]) (Ax:SqL K H p ys∨SqT K H p ys) (AE:Q (.int ys.length) H):ym K xs H Q
theorem al:dJ X (.builtin "len") (ym X.K):=by
 intro pins s σ H xs us Q I r h;obtain ⟨p,ys,rfl,hq,q⟩:=h;obtain ⟨u,rfl,rx⟩:=vals1 r;cases rx;have hn:=gh;rcases hq with hq | hq
 · obtain ⟨its,r',pl,hz⟩:=I.list hq;have hlen:=r'.length;exact Calls.call_len_list pl.isList (by simp only [Ux] <;> omega) ⟨.int ys.length,H,I.tok _,⟨s.toks+1,by rw [Ux,hlen]⟩,q⟩
 · obtain ⟨its,r',pl,hz⟩:=I.tuple hq;have hlen:=r'.length;exact len_tuple pl (by simp only [Ux] <;> omega) ⟨.int ys.length,H,I.tok _,⟨s.toks+1,by rw [Ux,hlen]⟩,q⟩
theorem fN:dJ X (.builtin "len") (fun xs H Q=>∃ z,xs=[.str z]/\z.length<=US/\Q (.int z.length) H):=by
 intro pins s σ H xs us Q I r h;obtain ⟨z,rfl,hz,q⟩:=h;obtain ⟨u,rfl,t,rfl⟩:=vals1 r;have hn:=gh;exact len_str (by omega) ⟨.int z.length,H,I.tok _,⟨_,rfl⟩,q⟩
theorem i3:dJ X (.type "list") (fun xs H Q=>∃ p ys,xs=[.ref p]/\(SqL X.K H p ys∨SqT X.K H p ys)/\∀ l,H l=none->Q (.ref l) (upd H l (.lst ys))):=by
 intro pins s σ H xs us Q I r h;obtain ⟨p,ys,rfl,hq,q⟩:=h;obtain ⟨u,rfl,rx⟩:=vals1 r;cases rx
 have fin:∀ (its:List Um),Vals ys its->ys.length<=US->∀ (h':VO) (c':Nat),(∀ b o',s.heap.get? b=some o'->h'.get? b=some o') →
  h'.get? s.heap.objs.size=some { cls:=.type "list",dict:=none,data:=.seq its.toArray c',slots:=#[] }->EP X pins σ Q (.ref s.heap.objs.size) { s with heap:=h' }:=fun its r' hz h' c' kp e =>
  ⟨.ref s.heap.objs.size,_,I.laid (t':=s.toks) kp (Uq _) (show ObjOk X.prog X.w _ h' _ (.lst ys) from ⟨hz,its,c',r',e⟩),rfl,q _ (I.hok.fresh (Uq _))⟩
 rcases hq with hq | hq
 · obtain ⟨its,r',pl,hz⟩:=I.list hq;have hlen:=r'.length;obtain ⟨o,ho,hc,n,hd⟩:=pl.isList;exact call_list_seq p (.inl rfl) ho hc hd (fun h' c' kp e=>fin its r' hz h' c' kp e) (by simp only [Ux] <;> omega)
 · obtain ⟨its,r',pl,hz⟩:=I.tuple hq;have hlen:=r'.length;obtain ⟨o,ho,hc,n,hd⟩:=pl;exact call_list_seq p (.inr rfl) ho hc hd (fun h' c' kp e=>fin its r' hz h' c' kp e) (by simp only [Ux] <;> omega)
theorem bh:dJ X (.type "tuple") (fun xs H Q=>∃ p ys,xs=[.ref p]/\((SqL X.K H p ys/\∀ l,H l=none->Q (.ref l) (upd H l (.tup ys)))∨(SqT X.K H p ys/\Q (.ref p) H))):=by
 intro pins s σ H xs us Q I r h;obtain ⟨p,ys,rfl,h⟩:=h;obtain ⟨u,rfl,rx⟩:=vals1 r;cases rx;rcases h with ⟨hq,q⟩ | ⟨hq,q⟩
 · obtain ⟨its,r',pl,hz⟩:=I.list hq;have hlen:=r'.length;refine call_tuple_list pl.isList (fun h' kp=>?_) (by simp only [Ux] <;> omega);have I1:Inv X pins σ H { s with heap:=h' }:=I.kept (t':=s.toks) kp
   have I2:Inv X pins σ (upd H h'.objs.size (.tup ys)) { s with heap:=h'.push { cls:=.type "tuple",data:=.seq its.toArray } } :=
    I1.laid (t':=s.toks) (fun b o e=>Up _ e) (Uq _) (show ObjOk X.prog X.w _ _ _ (.tup ys) from ⟨hz,its,0,r',UG _ rfl⟩)
   exact ⟨.ref h'.objs.size,_,I2,rfl,q _ (I1.hok.fresh (Uq _))⟩
 · obtain ⟨its,r',pl,hz⟩:=I.tuple hq;exact call_tuple_same pl ⟨.ref p,H,I,rfl,q⟩
def tyV (K:Uj) (T:String) (x:V) (H:Hp):Prop:=match x with
 | .str _=>T="str"
 | .int _=>T="int"
 | .ref p=>(T="list"/\∃ xs,SqL K H p xs)∨(T="tuple"/\∃ o,K.lookup p=some o/\o.cls=.type "tuple"/\o.dict=none) ∨
  (T="dict"/\((∃ AU,H p=some (.dK AU))∨∃ AU,H p=some (.dT AU)))∨(T="set"/\∃ S n,H p=some (.set S n))
 | _=>False
theorem vV {pins:List (Ul×Wz)} {σ:St} {H:Hp} {s:Uo} {T:String} {x:V} {v:Um} (I:Inv X pins σ H s) (r:RelV x v) (ty:tyV X.K T x H) :
 s.TypeIs v T/\∀ a,v=.ref a->∃ ob,s.heap.get? a=some ob/\ob.dict=none:=by
 cases x with
 | str z =>
   obtain ⟨t,rfl⟩:=r;cases (show T="str" from ty);exact ⟨XD s z t,fun _ e=>nomatch e⟩
 | int i =>
   obtain ⟨t,rfl⟩:=r;cases (show T="int" from ty);exact ⟨typeIs_int s i t,fun _ e=>nomatch e⟩
 | ref p =>
   cases r;rcases ty with ⟨rfl,xs,hq⟩ | ⟨rfl,o,hk,hc,hd⟩ | ⟨rfl,hk⟩ | ⟨rfl,S,n,hk⟩
   · obtain ⟨its,_,pl,_⟩:=I.list hq;refine ⟨pl.isList.typeIs,fun a e=>?_⟩;cases e;obtain ⟨o,n,e,c,hd,_⟩:=pl;exact ⟨o,e,hd⟩
   · refine ⟨⟨o,I.kIn p o hk,hc⟩,fun a e=>?_⟩;cases e;exact ⟨o,I.kIn _ o hk,hd⟩
   · have z:∃ o,s.heap.get? p=some o/\o.ExactDict:=by
      rcases hk with ⟨AU,hk⟩ | ⟨AU,hk⟩
      · obtain ⟨_,_,_,_,o,_,_,e,ex,_⟩:=I.hok p _ hk;exact ⟨o,e,ex⟩
      · obtain ⟨_,_,_,_,o,_,_,e,ex,_⟩:=I.hok p _ hk;exact ⟨o,e,ex⟩
     obtain ⟨o,e,ex⟩:=z;refine ⟨⟨o,e,ex.1⟩,fun a e2=>?_⟩;cases e2;exact ⟨o,e,ex.2.1⟩
   · obtain ⟨o,_,_,_,e,ex,_⟩:=I.hok p _ hk;refine ⟨⟨o,e,ex.1⟩,fun a e2=>?_⟩;cases e2;exact ⟨o,e,ex.2.1⟩
 | _=>exact Wf ty
def aak (K:Uj) (T:String) (r:V->List V->Hp->VK->Prop) (to:TE):TE:=fun σ H Q=>to σ H fun x H1=>tyV K T x H1/\r x [] H1 Q
def tBM (K:Uj) (T:String) (r:V->List V->Hp->VK->Prop) (to:TE) (t:TA):TE:=fun σ H Q=>to σ H fun x H1=>tyV K T x H1/\t σ H1 fun xs H2=>r x xs H2 Q
variable {o e:VI} {es:List VI} {to:TE} {t:TA} {name:UA} {apos A6:Ym} {T id:String} {r:V->List V->Hp->VK->Prop}
theorem o7 (pa:PlainAttrs T) (slot:Slot T name id) (K6:typeOf (.builtin id)=pure (.type "method_descriptor")) (hm:MtR X id r) (ho:PE X o to)
 (DS:attributeBase o name X.env (WS o X.env)=WS o X.env:=by rfl) (Cw:(apos.endLine == A6.line)=true:=by rfl):PE X (.Call (.Attribute o name apos) [] [] A6) (aak X.K T r to):=by
 intro pins s σ H Q I h;refine wpAny_Call_method0_late DS Cw (thn (ho pins s σ H _ I h) fun v s1 ⟨x,H1,I1,r1,ty,q1⟩=>?_);obtain ⟨h1,h2⟩:=vV I1 r1 ty;exact ⟨T,id,pa,slot,K6,h1,h2,XF rfl (PySem.evalArgs_none (hm pins s1 σ H1 x [] v [] Q I1 r1 .nil q1))⟩
theorem bN (pa:PlainAttrs T) (slot:Slot T name id) (K6:typeOf (.builtin id)=pure (.type "method_descriptor")) (hm:MtR X id r) (ho:PE X o to) (ha:PA X (e::es) t)
 (DS:attributeBase o name X.env (WS o X.env)=WS o X.env:=by rfl)
 (K7:((Yt A6 (Vt (e::es) X.env)).all (fun x=>!x.1) && (backToKw A6 (keywordEach [] X.env)).all (fun x=>x.1.isSome)
  && decide ((e::es).length+([]:List Keyword).length+(if ([]:List Keyword).isEmpty then 0 else 1)<30))=true:=by rfl)
 (Cw:(apos.endLine == A6.line)=true:=by rfl) (hs:Vt (e::es) X.env=(false,WS e X.env)::Vt es X.env:=by rfl) (FR:(Yt A6 (Vt es X.env)).any (·.1)=false:=by rfl) :
 PE X (.Call (.Attribute o name apos) (e::es) [] A6) (tBM X.K T r to t):=by
 intro pins s σ H Q I h;refine Yr DS K7 Cw rfl (thn (ho pins s σ H _ I h) fun v s1 ⟨x,H1,I1,r1,ty,q1⟩=>?_);obtain ⟨h1,h2⟩:=vV I1 r1 ty;refine ⟨T,id,pa,slot,K6,h1,h2,?_⟩;have hA:=ha A6 pins s1 σ H1 _ I1 q1;rw [hs] at hA ⊢;refine XF (by show (false || (Yt A6 (Vt es X.env)).any (·.1))=false;rw [FR] <;> rfl) (X5 ?_);exact thn hA fun us s2 ⟨vs,H2,I2,r2,q2⟩=>hm pins s2 σ H2 x vs v us Q I2 r1 r2 q2
end
end L2
namespace L2
open PySem PySem.Spec PyProof.Rows
def MtM (X:Cx) (id:String) (r:V->List V->Hp->VK->Prop):Prop :=
 ∀ (pins:List (Ul×Wz)) (s:Uo) (σ:St) (H:Hp) (x:V) (xs:List V) (v:Um) (us:List Um) (Q:VK),Inv X pins σ H s->RelV x v->Vals xs us->r x xs H Q →
   UO (UZ X.prog X.w) X.A (call (.builtin id) (v::us)) (EP X pins σ Q) X.xe s
theorem Vals.one:∀ {x:V} {us:List Um},Vals [x] us->∃ u,us=[u]/\RelV x u
 | _,_,.cons r .nil=>⟨_,rfl,r⟩
theorem Vals.zero:∀ {us:List Um},Vals [] us->us=[]
 | _,.nil=>rfl
theorem Vals.dropLast {xs:List V} {us:List Um} (h:Vals xs us):Vals xs.dropLast us.dropLast:=by
 induction h with
 | nil=>exact .nil
 | cons r t ih =>
   cases t with
   | nil=>exact .nil
   | cons q t'=>exact .cons r ih
theorem Vals.rep {xs:List V} {us:List Um} (h:Vals xs us):∀ k:Nat,Vals (VA k xs).flatten (VA k us).flatten
 | 0=>.nil
 | k+1=>by
   rw [WN,WN,U4,U4];exact Vals.append h (Vals.rep h k)
theorem r8 {α:Type} (l:List α):l.eraseIdx (l.length - 1)=l.dropLast:=by
 induction l with
 | nil=>rfl
 | cons a r ih =>
   cases r with
   | nil=>rfl
   | cons b r =>
     have e:(a::b::r).length - 1=((b::r).length - 1)+1:=by
      have h1:(a::b::r).length=r.length+2:=rfl;have h2:(b::r).length=r.length+1:=rfl;omega
     rw [e,List.eraseIdx_cons_succ,ih]
     all_goals rfl
theorem foldl_rep (its:List Um):∀ (k:Nat) (acc:List Um),
 List.foldl (fun x1 x2=>x1++x2) acc.toArray (VA k its.toArray)=(acc++(VA k its).flatten).toArray
 | 0,acc=>by simp
 | k+1,acc=>by
   have e:acc.toArray++its.toArray=(acc++its).toArray:=by simp
   have e2:(acc++its)++(VA k its).flatten=acc++(VA (k+1) its).flatten:=by
    rw [WN,U4,U2]
   rw [<- e2,<- foldl_rep its k (acc++its),<- e,WN,List.foldl_cons]
section
variable {X:Cx} {pins:List (Ul×Wz)} {σ:St} {H:Hp} {s:Uo} {l b:Ul} {xs ys zs:List V}
theorem Inv.lset {its its':List Um} {n:Nat} {f:Array Um->Array Um} {t':Nat} (I:Inv X pins σ H s) (hH:H l=some (.lst xs))
 (e:s.heap.get? l=some { cls:=.type "list",data:=.seq its.toArray n }) (hf:f its.toArray=its'.toArray) (hv:Vals ys its') (hz:ys.length<=US) :
 Inv X pins σ (upd H l (.lst ys)) { s with heap:=s.heap.update l (YW f),toks:=t' }:=by
 have q:=PySem.IsL.update e f;rw [hf] at q;refine I.write (x:=l) (e:=l) (by rw [hH];exact trivial) (.inl rfl) (fun b' u hb hu=>(Yv s.heap (YW f) (WX hb)).trans hu) ⟨_,q⟩ ?_;exact ⟨hz,its',_,hv,q⟩
theorem Inv.lnew {its:List Um} {t':Nat} (I:Inv X pins σ H s) (hv:Vals ys its) (hz:ys.length<=US) :
 Inv X pins σ (upd H s.heap.objs.size (.lst ys)) { s with heap:=s.heap.push { cls:=.type "list",data:=.seq its.toArray },toks:=t' } :=
 I.laid (fun _ _ q=>Up _ q) (Uq _) ⟨hz,its,0,hv,UG _ rfl⟩
theorem Inv.fresh (I:Inv X pins σ H s):H s.heap.objs.size=none:=I.hok.fresh (Uq _)
theorem Inv.lstM (I:Inv X pins σ H s) (hH:H l=some (.lst xs)):xs.length<=US/\∃ (its:List Um) (n:Nat),Vals xs its/\xs.length=its.length/\s.heap.get? l=some { cls:=.type "list",data:=.seq its.toArray n }:=by
 obtain ⟨z,its,n,r,e⟩:=I.hok l _ hH;exact ⟨z,its,n,r,r.length,e⟩
theorem mM {n:Nat} (h:n<=US):WL n=false:=by
 unfold WL;exact decide_eq_false (by omega)
end
section
variable {X:Cx}
inductive qy (x:V) (vs:List V) (H:Hp) (Q:VK):Prop
 | mk (l:_) (xs:_) (y:_) (Aw:x=.ref l) (Ax:vs=[y]) (AE:H l=some (.lst xs)) (AQ:xs.length<US) (Bx:Q .non (upd H l (.lst (xs++[y])))):qy  x vs H Q
def tu:V->List V->Hp->VK->Prop:=qy
theorem bf:MtM X "list.append" tu:=by
 intro pins s σ H x vs v us Q I rx rv h;obtain ⟨l,xs,y,rfl,rfl,hH,hz,q⟩:=h;cases rx;obtain ⟨u,rfl,ru⟩:=rv.one;obtain ⟨z,its,n,r,hl,e⟩:=I.lstM hH;refine Xs F.slot_list_append ⟨_,e,rfl⟩ F.entry_list_append (F.args_list_append_2 _ _) (PySem.list_append l its.toArray n u (by rw [Ux];omega)) ⟨e,?_⟩;refine ⟨.non,_,I.lset (its':=its++[u]) hH e (by simp) (r.append (.cons ru .nil)) ?_,rfl,q⟩;rw [Uu,Vk];omega
inductive qR (x:V) (vs:List V) (H:Hp) (Q:VK):Prop
 | mk (l:_) (b:_) (xs:_) (zs:_) (Aw:x=.ref l) (Ax:vs=[.ref b]) (AE:H l=some (.lst xs)) (AQ:H b=some (.lst zs)) (Bx:xs.length+zs.length<=US) (B':Q .non (upd H l (.lst (xs++zs)))):qR  x vs H Q
def wV:V->List V->Hp->VK->Prop:=qR
theorem t9:MtM X "list.extend" wV:=by
 intro pins s σ H x vs v us Q I rx rv h;obtain ⟨l,b,xs,zs,rfl,rfl,hH,hB,hz,q⟩:=h;cases rx;obtain ⟨u,rfl,ru⟩:=rv.one;cases ru;obtain ⟨z,its,n,r,hl,e⟩:=I.lstM hH;obtain ⟨z2,An,n2,r2,Bh,e2⟩:=I.lstM hB;have AH:its.toArray.size+An.toArray.size<=US:=by rw [Ux,Ux];omega
 have Cy:¬ (!its.toArray.isEmpty && WL (its.toArray.size+An.toArray.size))=true:=by
  rw [mM AH,Wo];exact UN
 refine Xs F.slot_list_extend ⟨_,e,rfl⟩ F.entry_list_extend (F.args_list_extend_2 _ _)
  (AutoSeq1.list_extend_list_list_0 l its.toArray n b An.toArray n2 Cy (by rw [Ux];omega) (by omega)) ⟨e,e2,?_⟩
 refine ⟨.non,_,I.lset (its':=its++An) hH e (by simp) (r.append r2) ?_,rfl,q⟩;rw [Uu];omega
inductive yb (x:V) (vs:List V) (H:Hp) (Q:VK):Prop
 | mk (l:_) (xs:_) (y:_) (Aw:x=.ref l) (Ax:vs=[]) (AE:H l=some (.lst xs)) (AQ:xs[xs.length - 1]?=some y) (Bx:Q y (upd H l (.lst xs.dropLast))):yb  x vs H Q
def aam:V->List V->Hp->VK->Prop:=yb
theorem oS:MtM X "list.pop" aam:=by
 intro pins s σ H x vs v us Q I rx rv h;obtain ⟨l,xs,y,rfl,rfl,hH,hy,q⟩:=h;cases rx;have NU:=rv.zero;subst NU;obtain ⟨z,its,n,r,hl,e⟩:=I.lstM hH;obtain ⟨u,hu,ru⟩:=r.get hy
 have HK:its.toArray[its.toArray.size - 1]?=some u:=by
  show its.toArray[its.length - 1]?=some u;rw [<- XB,<- hl];exact hu
 refine Xs F.slot_list_pop ⟨_,e,rfl⟩ F.entry_list_pop (F.args_list_pop_1 _) (MeetsSeq.list_pop_last l its.toArray n u HK (by rw [Ux];omega)) ⟨e,?_⟩;refine ⟨y,_,I.lset (its':=its.dropLast) hH e ?_ r.dropLast ?_,ru,q⟩
 · show its.toArray.eraseIdxIfInBounds (its.toArray.size - 1)=its.dropLast.toArray;rw [Ux,List.eraseIdxIfInBounds_toArray,r8]
 · rw [List.length_dropLast];omega
inductive xX (x:V) (y:V) (H:Hp) (Q:VK):Prop
 | mk (l:_) (b:_) (xs:_) (zs:_) (Aw:x=.ref l) (Ax:y=.ref b) (AE:H l=some (.lst xs)) (AQ:H b=some (.lst zs)) (Bx:xs.length+zs.length<=US) (B':∀ p,H p=none->Q (.ref p) (upd H p (.lst (xs++zs)))):xX  x y H Q
def aaC:R2:=xX
theorem sF:OpR X (XZ .Add) aaC:=by
 intro pins s σ H x y v u Q I rx ry h;obtain ⟨l,b,xs,zs,rfl,rfl,hH,hB,hz,q⟩:=h;cases rx;cases ry;obtain ⟨z,its,n,r,hl,e⟩:=I.lstM hH;obtain ⟨z2,An,n2,r2,Bh,e2⟩:=I.lstM hB;refine PySem.P.add_list e e2 ?_ (by rw [Ux,Ux];omega);have ea:its.toArray++An.toArray=(its++An).toArray:=by simp
 rw [ea];exact ⟨.ref _,_,I.lnew (t':=s.toks) (r.append r2) (by rw [Uu];omega),rfl,q _ I.fresh⟩
def aa8:R2:=fun x y H Q=>∃ l k xs,x=.ref l/\y=.int k/\H l=some (.lst xs)/\-(2 ^ 63)<=k/\k<2 ^ 63/\xs.length * k.toNat<=US ∧
 ∀ p,H p=none->Q (.ref p) (upd H p (.lst (VA k.toNat xs).flatten))
theorem len_rep {α:Type} (xs:List α) (k:Nat):(VA k xs).flatten.length=k * xs.length:=by
 induction k with
 | zero=>simp
 | succ k ih=>rw [WN,U4,Uu,ih,WA,Nat.add_comm]
theorem za:OpR X (XZ .Mult) aa8:=by
 intro pins s σ H x y v u Q I rx ry h;obtain ⟨l,k,xs,rfl,rfl,hH,h1,h2,hz,q⟩:=h;cases rx;obtain ⟨t,rfl⟩:=ry;obtain ⟨z,its,n,r,hl,e⟩:=I.lstM hH;have hlen:its.toArray.size * k.toNat<=US:=by rw [Ux,<- hl];exact hz
 have K8:¬ its.toArray.size * k.toNat > (2 ^ 63 - 1) / 8:=by
  have:(US:Nat)<=(2 ^ 63 - 1) / 8:=by decide
  omega
 have Al:¬ (!Xg k)=true:=by
  rw [fitsIndex_both h1 h2];exact UN
 have Cy:¬ WL (its.toArray.size * k.toNat)=true:=by
  rw [mM hlen];exact UN
 have FT:List.foldl (fun x1 x2=>x1++x2) #[] (VA (if its.toArray.isEmpty=true then 0 else k.toNat) its.toArray)=(VA k.toNat its).flatten.toArray:=by
  have f0:∀ m:Nat,List.foldl (fun x1 x2=>x1++x2) #[] (VA m its.toArray)=(VA m its).flatten.toArray:=fun m=>by
   have:=foldl_rep its m [];rw [Vs] at this;exact this
  rw [f0];cases its with
  | nil=>simp
  | cons a r'=>rw [if_neg (by simp)]
 refine wpAny_binaryOp_repeat_ref (T:="list") (U:="int") (by decide) ⟨_,e,rfl⟩ (fun s'=>typeIs_int s' k t) noFill_list_mul F.fills_int_mul F.slot_int_rmul repeat_list F.slot_int_index.lookup
  (Xs F.slot_int_rmul (typeIs_int s k t) F.entry_int_rmul (F.args_int_rmul_2 _ _) (int___rmul___int_list k t l its.toArray n)
   ⟨e,rfl,⟨_,e,rfl⟩,Xs F.slot_list_mul ⟨_,e,rfl⟩ F.entry_list_mul (F.args_list_mul_2 _ _) (AutoListH.list___mul___list_int_3 l its.toArray n k t Al K8 Cy) ⟨e,?_⟩⟩)
 rw [FT];exact ⟨.ref _,_,I.lnew (t':=s.toks) (r.rep k.toNat) (by rw [len_rep,XO];exact hz),rfl,q _ I.fresh⟩
end
section
variable {prog:U1} {w:Vl} {A:Vm} {E:Um->Uo->Prop} {s:Uo}
end
section
variable {X:Cx}
end
end L2
namespace Att
open PySem PySem.W PySem.Calls PyProof.Rows
theorem ints_of_wellAll {P:Params} {h:VO}:∀ (ns:List Int) (vs:List Um),WellAll P h vs (ns.map WData.int)->IntsAre vs ns:=by
 intro ns;induction ns with
 | nil =>
   intro vs w;rw [Wm] at w;cases w;exact .nil
 | cons n ns ih =>
   intro vs w;rw [UB] at w;cases w with
   | cons a b =>
     cases a;exact .cons _ _ (ih _ b)
theorem script_of {l:OpenLaw} {n:Nat} (hn:l.most=some n) {P:Params} {h:VO} {args:List WData} {vals:List Um}
 (CS:l.row.toRowW.claim.pre args=true) (Dw:WellAll P h vals args) :
 ∃ a vs ns,vals=[VT a]/\args=[WData.list (ns.map WData.int)]/\h.get? a=some { cls:=.type "list",data:=.seq vs.toArray }/\IntsAre vs ns/\ns.length<=n:=by
 have EK:WShape.hasAll [] args [.list .int]=true:=(pre_splitW CS).1;have hc:l.pre.holds [] { args:=args }=true:=(pre_splitW CS).2;obtain ⟨d,r,rfl,h1,h2⟩:=hasAllW_cons EK;obtain rfl:=hasAllW_nil h2;obtain ⟨xs,rfl,h3⟩:=hasW_list h1;obtain ⟨ns,rfl⟩:=items_int h3
 have hlen:ns.length<=n:=by
  unfold OpenLaw.pre at hc
  have h4:(WTm.not (.lt (.lit (.int (n:Int))) (.len (.arg 0)))).holds [] { args:=[.list (ns.map .int)] }=true:=by
   have h4:=(holds_andW hc).1;rw [hn] at h4;exact h4
  have h5:=condW_of h4 (w_not (w_lt w_lit (w_len_list (w_arg rfl))));rw [Ue] at h5;refine Nat.le_of_not_lt fun q=>?_;have q':(n:Int)<((ns.length:Nat):Int):=by omega
  first
   | (rw [decide_eq_true q'] at h5;exact absurd h5 (by decide))
   | (simp at h5;omega)
 cases Dw with
 | cons w1 w2 =>
   cases w2;cases w1 with
   | list ho Am=>exact ⟨_,_,ns,rfl,rfl,ho,ints_of_wellAll ns _ Am,hlen⟩
theorem post_true (l:OpenLaw) (args:List WData):l.row.toRowW.claim.post args (.bool true) args=true :=
 postW_of (r:=l.row.toRowW) (X:=(true == true))
  (show WShape.has [] (.bool true) .bool=true by first | rfl | decide | simp [WShape.has,WShape.arms,WShape.armsAll])
  (show (WTm.eq .res (.lit (.bool true))).value [] { args:=args,res:=some (.bool true),after:=args }=some (.bool (true == true)) from w_eq_bool (w_res rfl) w_lit) rfl
theorem attach_call {l:OpenLaw} {n:Nat} {q:U1} {loose:List UA} {XP:(UA->Option Um)->VO->Prop} {YP:Vl->VO->Prop} {d:DefRec}
 (hn:l.most=some n) (HL:d.params.defaults=[])
 (call:∀ (w:Vl) (s₀ Ab:Uo) (mg mb:UA->Option Um) (fa:Ul) (o:Wz) (pm cd doc:Um) (a:Ul) (vs:List Um) (ns:List Int),
  Ground q loose [] XP w s₀ mg mb Ab.heap->YP w Ab.heap →
  Ab.heap.get? fa=some o->o.data=.func (docDef d.name d.params d.body d.scope pm cd doc)->Ab.heap.CodeRec cd d.name->mg d.name=some (.ref fa) →
  Ab.heap.get? a=some { cls:=.type "list",data:=.seq vs.toArray }->IntsAre vs ns->ns.length<=n->Ab.gens=#[] →
  Yb (UZ l.prog w) callerA (.call (.ref fa) ⟨[.ref a],[]⟩) (fun r s'=>r=.ok (.ret (.bool true))/\OldK Ab.heap s'.heap/\s'.os=Ab.os/\ZG s'.gens) Ab) :
 WalkO q loose XP YP l.row.toRowW d [] (fun f vs=>PySem.call f vs):=by
 intro w s₀ Ab mg mb G Y fa o pm cd doc dV kV ho hd Ds hD HM hg args vals as CS Qi TB Dw TC;obtain rfl:dV=.none:=Dflts.none hD HL;obtain rfl:kV=.none:=Dflts.noKw hD;obtain ⟨a,vs,ns,rfl,rfl,FU,hints,hlen⟩:=script_of hn CS Dw;refine enter_call (X9 (call w s₀ Ab mg mb fa o pm cd doc a vs ns G Y ho (fd_plain hd) Ds HM FU hints hlen hg) fun r s' hq=>?_);obtain ⟨rfl,h2,h3,h4⟩:=hq;exact ⟨.inl ⟨.bool true,.bool true,[],rfl,fun _=>rfl,.bool true,post_true l _,fun _=>⟨List.Pairwise.nil,fun _ hm=>(nomatch hm)⟩⟩,h2,h3,h4⟩
section
variable {prog:U1} {w:Vl} {A:Vm} {E:Um->Uo->Prop} {s:Uo} {K:Frag}
end
end Att
namespace L2
open PySem PySem.Spec PyProof.Rows
theorem nT:∀ {vs:List Um} {ns:List Int},IntsAre vs ns->Vals (ns.map V.int) vs
 | _,_,.nil=>.nil
 | _,_,.cons n t h=>.cons ⟨t,rfl⟩ (nT h)
def zo (H:Hp):Prop:=∀ b,H b=none∨∃ o xs,H b=some (.frz o (.lst xs))
theorem uW {P:U1} {w:Vl} {K:Uj} {mg mb:UA->Option Um} {CX:CXT} {k:Nat} {fa a:Ul} {fd:WV} {x:UA} {sp:Sp} {Ab:Uo} {vs:List Um} {ns:List Int}
 (KX:K.In Ab.heap) (EL:Ab.heap.Ns UX mg) (hb:Ab.heap.Ns builtinsNs mb) (Ca:∀ x:UA,x≠"__name__"->mb x=YM x) (K9:Ab.heap.NoLimit) (hg:Ab.gens=#[])
 (ha:Ab.heap.get? a=some { cls:=.type "list",data:=.seq vs.toArray }) (hi:IntsAre vs ns) (hl:ns.length<=US) (hr:Room k callerA)
 (F:∀ base:VO,K.In base->base.Ns UX mg->FnOk P w K mg base CX k fa fd [x] sp) (HN:∀ (s:Uo) (u:Um),BindsTo s fd ⟨[u],[]⟩ [(x,u)])
 (B0:∀ H:Hp,zo H->SqL K H a (ns.map V.int)->sp [.ref a] H (fun v _=>v=.bl true) fun _ _ _=>False)
 (K':∀ H e s',CX [] H Ab (fun _ _ _=>False) e s'->False) :
 Yb (UZ P w) callerA (.call (.ref fa) ⟨[.ref a],[]⟩) (fun r s'=>r=.ok (.ret (.bool true))/\OldK Ab.heap s'.heap/\s'.os=Ab.os/\ZG s'.gens) Ab:=by
 have rv:=nT hi;have La:=hi.length
 -- from an abstract heap in NV nothing but CL script may be tracked
 have core:∀ H:Hp,zo H->SqL K H a (ns.map V.int)->HOk P w H Ab.heap->(∀ b,H b≠none->b=a)->(H a≠none->K.lookup a=none) →
  Yb (UZ P w) callerA (.call (.ref fa) ⟨[.ref a],[]⟩) (fun r s'=>r=.ok (.ret (.bool true))/\OldK Ab.heap s'.heap/\s'.os=Ab.os/\ZG s'.gens) Ab:=by
  intro H hO hS hok hA hK;have Dd:∀ {b:Ul} {o:Wz},Ab.heap.get? b=some o->H b=none->(oP Ab.heap H).get? b=some o:=fun e n=>vL e n
  have HG:∀ {b:Ul} {o:Wz} {es:Array DictEntry} {ep:Nat},Ab.heap.get? b=some o->o.data=.dict es ep->H b=none:=fun {b o es ep} e d=>by
   cases q:H b with
   | none=>rfl
   | some u =>
     have e':b=a:=hA b (by rw [q];simp);subst e';rw [ha] at e;cases e;have d':Data.seq vs.toArray _=Data.dict es ep:=d;cases d'
  have JZ:∀ {b:Ul} {m:UA->Option Um},Ab.heap.Ns b m->(oP Ab.heap H).Ns b m:=fun {b m} ⟨o,es,ep,e,d,r⟩=>⟨o,es,ep,Dd e (HG e d),d,r⟩
  have NW:K.In (oP Ab.heap H):=fun b o e=>Dd (KX b o e) (by
   cases q:H b with
   | none=>rfl
   | some u =>
     have e':b=a:=hA b (by rw [q];simp);subst e';rw [hK (by rw [q];simp)] at e;cases e)
  have hM:Mod K mg (oP Ab.heap H):=⟨NW,JZ EL,⟨mb,JZ hb,Ca⟩,let ⟨mc,h1,h2⟩:=K9;⟨mc,JZ h1,h2⟩⟩;have e0:Env0 P w K mg (oP Ab.heap H) callerA [] Ab H:=⟨rfl,hM,fun b o e=>wI e,Y5 (uh _ _),trivial,fun b hb=>absurd (show b∈([]:List Ul) from hb) (by simp),hok,.of_eq hg⟩;refine X9 ((F _ NW (JZ EL)).run callerA [] Ab H ⟨[.ref a],[]⟩ [.ref a] [.ref a] _ _ hr e0 (HN Ab (.ref a)) (.cons rfl .nil) (B0 H hO hS)) fun r s' h=>?_;cases r with
  | error e=>exact (K' H e s' h).elim
  | ok fl =>
    cases fl with
    | next=>exact Wf h
    | brk=>exact Wf h
    | cont=>exact Wf h
    | ret u =>
      obtain ⟨v,H',os,bare,un,Lb,r',q⟩:=h;have q':v=.bl true:=q;subst q';obtain rfl:u=Xu true:=r';refine ⟨rfl,OldK.of_keep fun b o e=>?_,os,bare⟩;cases q:H b with
      | none=>exact un.keep b o e q (by intro z;exact absurd (show b∈([]:List Ul) from z) (by simp)) (by simp)
      | some u =>
        rcases hO b with z | ⟨ob,xs,z⟩
        · rw [q] at z;cases z
        · have z2:=un.frzs b ob _ z;obtain ⟨e1,_⟩:=hok b _ z;obtain ⟨e2,_⟩:=Lb b _ z2;rw [e] at e1;cases e1;exact e2
 cases hk:K.lookup a with
 | some o =>
   -- CL script is one of CL HP own objects
   have e:=KX a o hk;rw [ha] at e;cases e;refine core (fun _=>none) (fun _=>.inl rfl) (.inr ⟨_,vs.toArray,_,hk,rfl,rfl,rfl,by rw [Ux,La];exact hl,by simpa using rv⟩) (fun b u z=>by have z':(none:Option HO)=some u:=z;cases z') (fun b z=>absurd rfl z) fun z=>absurd rfl z
 | none =>
   refine core (fun b=>if b=a then some (.frz { cls:=.type "list",data:=.seq vs.toArray } (.lst (ns.map V.int))) else none) (fun b=>?_) (.inl (.inr ⟨{ cls:=.type "list",data:=.seq vs.toArray },if_pos rfl⟩)) (fun b u z=>?_) (fun b z=>?_) fun _=>hk
   · by_cases hb:b=a
     · exact .inr ⟨_,_,if_pos hb⟩
     · exact .inl (if_neg hb)
   · by_cases hb:b=a
     · have z':=(if_pos hb).symm.trans z;cases z';subst hb;exact ⟨ha,by rw [Ue];exact hl,vs,_,rv,ha⟩
     · have z':=(if_neg hb).symm.trans z;cases z'
   · by_cases hb:b=a
     · exact hb
     · exact absurd (if_neg hb) z
end L2
namespace L2
open PySem PySem.Spec PyProof.Rows
theorem xm {l:PySem.W.OpenLaw} {n k:Nat} {q:U1} {loose:List UA} {XP:(UA->Option Um)->VO->Prop} {YP:Vl->VO->Prop} {d:DefRec} {K:Params->Uj} {CX:Vl->CXT} {sp:Vl->Sp} {x:UA}
 (hn:l.most=some n) (JX:n<=US) (HL:d.params.defaults=[]) (hr:Room k callerA)
 (hY:∀ (w:Vl) (h:VO),YP w h->(K w.params).In h)
 (F:∀ (w:Vl) (mg:UA->Option Um) (fa:Ul) (h:VO),(K w.params).In h->h.Ns UX mg->mg d.name=some (.ref fa) →
  ∃ fd:WV,(∀ (s:Uo) (u:Um),BindsTo s fd ⟨[u],[]⟩ [(x,u)]) ∧
    ∀ base:VO,(K w.params).In base->base.Ns UX mg->FnOk l.prog w (K w.params) mg base (CX w) k fa fd [x] (sp w))
 (B0:∀ (w:Vl) (H:Hp) (a:Ul) (ns:List Int),ns.length<=n->zo H->SqL (K w.params) H a (ns.map V.int)->sp w [.ref a] H (fun v _=>v=.bl true) fun _ _ _=>False)
 (K':∀ (w:Vl) (H:Hp) (s:Uo) (e:Um) (s':Uo),CX w [] H s (fun _ _ _=>False) e s'->False) :
 PySem.W.WalkO q loose XP YP l.row.toRowW d [] (fun f vs=>PySem.call f vs):=by
 refine Att.attach_call hn HL fun w s₀ Ab mg mb fa o pm cd doc a vs ns G Y ho hd Ds HM FU hints hlen hg=>?_;have KX:=hY w _ Y;obtain ⟨fd,hb,hF⟩:=F w mg fa _ KX G.T.g HM;exact uW KX G.T.g G.T.b G.T.builtins G.T.nolimit hg FU hints (VS hlen JX) hr hF hb (fun H hO hS=>B0 w H a ns hlen hO hS) fun H e s'=>K' w H Ab e s'
end L2
namespace L2
open PySem PySem.Spec PyProof.Rows
def inClass (s:V5) (j:Nat):V5:=match s with
 | .ClassDef _ _ _ body _ _ _ _ _ _ _=>body.getD j (.Pass ⟨0,0,0,0⟩)
 | _=>.Pass ⟨0,0,0,0⟩
def bO (s:V5):Arguments:=match s with
 | .FunctionDef _ a _ _ _ _ _ _ _ _=>a
 | _=>{ posonlyargs:=[],args:=[],vararg:=none,kwonlyargs:=[],kw_defaults:=[],kwarg:=none,defaults:=[] }
def bC (s:V5):List V5:=match s with
 | .FunctionDef _ _ b _ _ _ _ _ _ _=>b
 | _=>[]
def am (s:V5):Xh:=match s with
 | .FunctionDef _ _ _ _ _ _ sc _ _ _=>sc
 | _=>{ kind:=.function,names:=[],isGenerator:=false,isCoroutine:=false }
abbrev CX0:CXT:=fun _ _ _ _ _ _=>False
abbrev E0:XK:=fun _ _ _=>False
theorem lS {X:Cx}:Passes CX0 X E0:=fun _ _ _ _ _ _ _ h=>h.elim
structure Fun (K:Uj) (x qual:UA) (st:V5) (f:Ul) (fd:WV):Prop where
 ex:∃ (oc:Um) (od:Option Ul) (kV doc pm:Um) (an:Option Ul) (Ao ct:Um) (EH:Array (Option Um)),
  fd=Xb x qual (bO st) (bC st) (am st) .none kV doc pm an Ao ct/\K.lookup f=some ⟨oc,od,.func fd,EH⟩/\Ye K Ao qual=true
 kp:WB K (.ref f)=true
section
variable {P:U1} {w:Vl} {K:Uj} {mg:UA->Option Um} {base:VO}
theorem Fun.ok {x qual:UA} {st:V5} {f:Ul} {fd:WV} {N ps:List UA} {k:Nat} {sp:Sp} (F:Fun K x qual st f fd) (S:aF N ps (am st)) (len:∀ vs H Q E,sp vs H Q E->vs.length=ps.length)
 (BK:∀ (Ao:Um) (A:Vm) (outer:List Zp) (s:Uo) (H:Hp) (vs:List V) (Q:VK) (E:XK),Room k (A.deeper (W2 qual (am st) s.heap.objs.size f Ao))->sp vs H Q E →
  ∃ t,PSs (cH CX0 P w K mg base N qual (am st) f Ao A outer s H E).nox (bC st) t/\t { nx:=fun _ H'=>Q .non H',rt:=Q } (start N vs) H):FnOk P w K mg base CX0 (k+1) f fd ps sp:=by
 obtain ⟨oc,od,kV,doc,pm,an,Ao,ct,EH,rfl,lk,Ds⟩:=F.ex;refine yl lk Ds S len fun A outer s H vs Q E hr B0=>?_;obtain ⟨t,h,q⟩:=BK Ao A outer s H vs Q E hr B0;exact ⟨t,h.nox,q⟩
theorem Fun.binds {x qual:UA} {st:V5} {f:Ul} {fd:WV} {ps:List UA} (F:Fun K x qual st f fd)
 (h:∀ (kV doc pm:Um) (an:Option Ul) (Ao ct:Um) (us:List Um),us.length=ps.length->ZO (Xb x qual (bO st) (bC st) (am st) .none kV doc pm an Ao ct) ⟨us,[]⟩=pure (ps.zip us)):Binds K fd ps []:=by
 obtain ⟨oc,od,kV,doc,pm,an,Ao,ct,EH,rfl,lk,Ds⟩:=F.ex;exact .all (h kV doc pm an Ao ct)
theorem df {x qual:UA} {st:V5} {f:Ul} {oc:Um} {od an:Option Ul} {EH:Array (Option Um)} {kV doc pm Ao ct:Um} (l:K.lookup f=some ⟨oc,od,.func (Xb x qual (bO st) (bC st) (am st) .none kV doc pm an Ao ct),EH⟩)
 (c:Ye K Ao qual=true) (k:WB K (.ref f)=true):Fun K x qual st f (Xb x qual (bO st) (bC st) (am st) .none kV doc pm an Ao ct):=⟨⟨oc,od,kV,doc,pm,an,Ao,ct,EH,rfl,l,c⟩,k⟩
end
section
variable {X:Cx}
theorem pv (i:Nat) {x:UA} {pos:Ym} (hN:X.N[i]?=some x:=by rfl) (hv:Vis X.env.scope x:=by first | exact UI rfl | exact Or.inr (UI rfl) | exact Or.inr (Or.inr rfl)) (hd:(x == ("__debug__":UA))=false:=by decide)
 (Ds:(x == ("__classdict__":UA))=false:=by decide):PE X (.Name x pos) (bK i):=yU hN hv hd Ds
end
theorem bH {A B:Prop} (h:B):if false=true then A else B:=by
 rw [if_neg UN];exact h
theorem bG {A B:Prop} (h:A):if true=true then A else B:=by
 rw [if_pos rfl];exact h
theorem cg {c A B:Prop} [Decidable c] (h1:c->A) (h2:¬ c->B):if c then A else B:=by
 by_cases h:c
 · rw [if_pos h];exact h1 h
 · rw [if_neg h];exact h2 h
def Same (H H':Hp):Prop:=∀ b o,H b=some o->H' b=some o
theorem Same.refl (H:Hp):Same H H:=fun _ _ h=>h
theorem Same.trans {H H1 H2:Hp} (a:Same H H1) (b:Same H1 H2):Same H H2:=fun c o h=>b c o (a c o h)
theorem Same.free {H H':Hp} (e:Same H H') {l:Ul} (h:H' l=Option.none):H l=Option.none:=by
 cases q:H l with
 | none=>rfl
 | some o =>
   rw [e l o q] at h;cases h
theorem Same.seq {K:Uj} {H H':Hp} {a:Ul} {xs:List V} (e:Same H H') (h:SqL K H a xs):SqL K H' a xs:=by
 rcases h with (h | ⟨o,h⟩) | h
 · exact .inl (.inl (e _ _ h))
 · exact .inl (.inr ⟨o,e _ _ h⟩)
 · exact .inr h
end L2
namespace L2
open PySem PySem.Spec PyProof.Rows
theorem iw (env:Zp):∀ (ns:List (UA×WU)) (acc:List (UA×Ul)),(∀ n,(n,VN)∈ns->∃ c,env.cells.lookup n=some c) →
 (∀ x c,acc.lookup x=some c->env.cells.lookup x=some c) →
 ∃ cl,(forIn ns acc fun (x:UA×WU) (cs:List (UA×Ul))=>(if (x.2 == VN)=true then (do let a ← cellOf env x.1;pure (Wt ((x.1,a)::cs))) else pure (Wt cs):Sem _))=pure cl ∧
   (∀ x c,cl.lookup x=some c->env.cells.lookup x=some c)/\(∀ n,(n,VN)∈ns->∃ c,cl.lookup n=some c)/\∀ n c,acc.lookup n=some c->cl.lookup n=some c
 | [],acc,_,ha=>⟨acc,rfl,ha,fun _ h=>by simp at h,fun _ _ h=>h⟩
 | (n,k)::r,acc,hf,ha=>by
   by_cases hk:k=VN
   · subst hk;obtain ⟨c,hc⟩:=hf n Uy
     have Eo:∀ x c',((n,c)::acc).lookup x=some c'->env.cells.lookup x=some c':=fun x c' e=>by
      rw [WT] at e;cases hx:x == n with
      | true =>
        rw [hx] at e;have e1:x=n:=by simpa using hx
        cases e;rw [e1];exact hc
      | false=>rw [hx] at e;exact ha x c' e
     obtain ⟨cl,h1,h2,h3,h4⟩:=iw env r ((n,c)::acc) (fun m hm=>hf m (Uv _ hm)) Eo;have up:∀ m c',((n,c)::acc).lookup m=some c'->cl.lookup m=some c':=h4;refine ⟨cl,?_,h2,?_,?_⟩
     · rw [Ws];have e0:cellOf env n=pure c:=by unfold cellOf;rw [hc]
       simp only [beq_self_eq_true,if_true,e0,pure_bind];exact h1
     · intro m hm;rcases UH.mp hm with e | e
       · have:m=n:=by simpa using (Prod.mk.inj e).1
         subst this;exact ⟨c,up m c (by rw [WT];simp)⟩
       · exact h3 m e
     · intro m c' e;by_cases hm:m=n
       · subst hm;have:=ha m c' e;rw [hc] at this;cases this;exact up m c (by rw [WT];simp)
       · have Qj:(m == n)=false:=by simpa using hm
         exact up m c' (by rw [WT,Qj];exact e)
   · have hb:(k == VN)=false:=by simpa using hk
     obtain ⟨cl,h1,h2,h3,h4⟩:=iw env r acc (fun m hm=>hf m (Uv _ hm)) ha;refine ⟨cl,?_,h2,?_,h4⟩
     · rw [Ws];simp only [hb,Bool.false_eq_true,if_false,pure_bind];exact h1
     · intro m hm;rcases UH.mp hm with e | e
       · exact absurd (Prod.mk.inj e).2.symm hk
       · exact h3 m e
theorem iC {env:Zp} {sc:Xh} (hf:∀ n,(n,VN)∈sc.names->∃ c,env.cells.lookup n=some c) :
 ∃ cl,closureFor sc env=pure cl/\(∀ x c,cl.lookup x=some c->env.cells.lookup x=some c)/\∀ n,(n,VN)∈sc.names->∃ c,cl.lookup n=some c:=by
 obtain ⟨cl,h1,h2,h3,_⟩:=iw env sc.names [] hf (fun x c e=>by simp at e);refine ⟨cl,?_,h2,h3⟩;unfold closureFor;have e:(forIn sc.names ([]:List (UA×Ul)) fun (x:UA×WU) (cs:List (UA×Ul))=>(do if (x.2 == VN)=true then (do let a ← cellOf env x.1;pure (Wt ((x.1,a)::cs))) else pure (Wt cs):Sem _))=pure cl:=h1
 first
  | (rw [show (forIn sc.names ([]:List (UA×Ul)) _:Sem _)=pure cl from h1];rfl)
  | (simp only [h1,pure_bind])
theorem lY {f:UA×WU->UA×WU} (hf:∀ p,(f p).1=p.1):∀ {l:List (UA×WU)} {x:UA} {k:WU},l.lookup x=some k->(l.map f).lookup x=some (f (x,k)).2
 | [],_,_,h=>by simp at h
 | (n,k0)::r,x,k,h=>by
   have ih:=@lY f hf r x k;rw [UB];obtain ⟨a,b,e⟩:∃ a b,f (n,k0)=(a,b):=⟨_,_,rfl⟩;have ea:a=n:=by have:=hf (n,k0);rw [e] at this;exact this
   subst ea;rw [e,WT];cases hx:x == a with
   | true =>
     rw [WT,hx] at h;cases h;have:x=a:=by simpa using hx
     subst this;rw [e]
   | false=>rw [WT,hx] at h;exact ih h
theorem fe {f:UA×WU->UA×WU} (hf:∀ p,(f p).1=p.1):∀ {l:List (UA×WU)} {x:UA} {k:WU},(l.map f).lookup x=some k->∃ k0,(x,k0)∈l/\(f (x,k0)).2=k
 | [],_,_,h=>by simp at h
 | (n,k0)::r,x,k,h=>by
   have ih:=@fe f hf r x k;rw [UB] at h;obtain ⟨a,b,e⟩:∃ a b,f (n,k0)=(a,b):=⟨_,_,rfl⟩;have ea:a=n:=by have:=hf (n,k0);rw [e] at this;exact this
   subst ea;rw [e,WT] at h;cases hx:x == a with
   | true =>
     rw [hx] at h;cases h;have:x=a:=by simpa using hx
     subst this;exact ⟨k0,Uy,by rw [e]⟩
   | false =>
     rw [hx] at h;obtain ⟨k1,h1,h2⟩:=ih h;exact ⟨k1,Uv _ h1,h2⟩
def rlb (env:Zp) (p:UA×WU):UA×WU:=if (p.2 == VN && env.scope.kind == .function && env.kindOf p.1 == some .cell) then (p.1,YC) else (p.1,p.2)
theorem pp (env:Zp) (p:UA×WU):(rlb env p).1=p.1:=by unfold rlb;split <;> rfl
theorem ij (sc:Xh) (env:Zp):(relabel sc env).names=sc.names.map (rlb env):=rfl
theorem jg {sc:Xh} {env:Zp} {x:UA} (h:sc.names.lookup x=some .free):(relabel sc env).names.lookup x=some .cell∨(relabel sc env).names.lookup x=some .free:=by
 rw [ij,lY (pp env) h];unfold rlb;split
 · exact .inl rfl
 · exact .inr rfl
theorem mJ {sc:Xh} {env:Zp} {x:UA} (hn:∀ y∈sc.names,y.2≠YC) (h:(relabel sc env).names.lookup x=some .cell∨(relabel sc env).names.lookup x=some .free):(x,VN)∈sc.names:=by
 rw [ij] at h
 have:∃ k0,(x,k0)∈sc.names/\((rlb env (x,k0)).2=.cell∨(rlb env (x,k0)).2=.free):=by
  rcases h with h | h
  · obtain ⟨k0,a,b⟩:=fe (pp env) h;exact ⟨k0,a,.inl b⟩
  · obtain ⟨k0,a,b⟩:=fe (pp env) h;exact ⟨k0,a,.inr b⟩
 obtain ⟨k0,hm,hk⟩:=this;have nc:=hn _ hm;cases k0 with
 | free=>exact hm
 | cell=>exact absurd rfl nc
 | _=>simp [rlb] at hk
def aY (X:Cx) (N:List UA) (sc:Xh) (cl:List (UA×Ul)) (C:Ul) (s:Uo) (H:Hp) (fp:List Ul) (pins:List (Ul×Wz)):Cx :=
 { X with N:=N,s₀:=s,H₀:=H,env:=compEnvC sc cl C X.env,outer:=X.stack,ex:=fp,fn:=fun _=>false,pn:=X.pn++pins,xe:=fun _ _=>False }
def cσ (js:List (Option Nat)) (σ:St):St:=js.map fun o=>o.bind fun j=>(σ[j]?).join
structure dl (X:Cx) (sc:Xh) (N:List UA) (js:List (Option Nat)):Prop where
 kind:sc.kind=.function
 nocell:∀ y∈sc.names,y.2≠YC
 names:∀ y∈sc.names,y.2=NameKind.local->sc.names.lookup y.1=some .local
 frees:∀ y∈sc.names,y.2=VN->X.env.kindOf y.1=some .cell∨X.env.kindOf y.1=some .free
 len:js.length=N.length
 slots:∀ (i j:Nat) (x:UA),js[i]?=some (some j)->N[i]?=some x->X.N[j]?=some x/\sc.names.lookup x=some .free/\(X.env.kindOf x=some .cell∨X.env.kindOf x=some .free)
theorem cC {X:Cx} {sc:Xh} {N:List UA} {js:List (Option Nat)} (k:sc.kind=.function) (nc:∀ y∈sc.names,y.2≠YC) (nm:∀ y∈sc.names,y.2=NameKind.local->sc.names.lookup y.1=some .local)
 (fr:(sc.names.all fun y=>y.2 != VN || X.env.kindOf y.1 == some YC || X.env.kindOf y.1 == some VN)=true) (ln:js.length=N.length)
 (sl:((js.zip N).all fun p=>match p.1 with | none=>true | some j=>X.N[j]? == some p.2 && sc.names.lookup p.2 == some VN && (X.env.kindOf p.2 == some YC || X.env.kindOf p.2 == some VN))=true):dl X sc N js:=by
 refine ⟨k,nc,nm,fun y hy hf=>?_,ln,fun i j x e1 e2=>?_⟩
 · have h:=Vo.mp fr y hy;rw [hf] at h;simpa using h
 · have hm:(some j,x)∈js.zip N:=by
    have:(js.zip N)[i]?=some (some j,x):=by rw [WZ];exact ⟨e1,e2⟩
    exact Ur this
   have h:=Vo.mp sl _ hm;simp at h;exact ⟨h.1.1,h.1.2,h.2⟩
def PTs (X:Cx) (ifs:List VI) (t:TT):Prop :=
 ∀ (pins:List (Ul×Wz)) (s:Uo) (σ:St) (H:Hp) (Q:Bool->Hp->Prop),Inv X pins σ H s->t σ H Q →
   UO (UZ X.prog X.w) X.A (forIn ifs true fun c r=>if r=true then do let ok ← isTrue c X.env (WS c X.env);pure (Wt ok) else pure (Wt r)) (TP X pins σ Q) X.xe s
def aU:TT:=fun _ H Q=>Q true H
theorem bQ {X:Cx}:PTs X [] aU:=fun _ _ _ H _ I h=>wpAny_tests_nil ⟨H,I,h⟩
theorem jA {X:Cx} {c:VI} {t:TT} (h:PT X c t):PTs X [c] t:=fun pins s σ H Q I q=>wpAny_tests_one (h pins s σ H Q I q)
def Keep (σ f':St):Prop:=σ.length=f'.length/\∀ (i:Nat) (v:V),σ[i]?=some (some v)->f'[i]?=some (some v)
def nJ (js:List (Option Nat)) (g:TG):Prop:=∀ (σ AX:St) (x:V) (H:Hp) (Q:St->Hp->Prop),Keep (cσ js σ) AX->g x AX H Q->g x AX H fun AA H2=>Keep (cσ js σ) AA/\Q AA H2
theorem Keep.refl (σ:St):Keep σ σ:=⟨rfl,fun _ _ h=>h⟩
theorem xp {js:List (Option Nat)} {σ:St} {i:Nat} (h:js[i]?=some none):(cσ js σ)[i]?=some none:=by
 unfold cσ;rw [Ut,h];rfl
theorem bo {js:List (Option Nat)} {i:Nat} (h:js[i]?=some none):nJ js (av i):=fun σ AX x H Q k q=>by
 refine ⟨⟨by rw [W6];exact k.1,fun j v e=>?_⟩,q⟩;by_cases hj:i=j
 · subst hj;rw [xp h] at e;cases e
 · rw [WE hj];exact k.2 j v e
def da (js:List (Option Nat)) (g:TG) (tt:TT) (te:TE) (σ:St) (J:It) (D:Ul) (n:Nat) (W:Nat->Hp->Prop) (fin:Hp->Prop):Prop :=
 ∀ i H,W i H->(J.stop i H/\fin H)∨(i<n/\J.go i H/\∀ x H1,J.yld i H x H1->g x (cσ js σ) H1 fun AA H2=>tt AA H2 fun b H3 =>
   if b=true then te AA H3 fun v H4=>∃ ys,H4 D=some (.lst ys)/\ys.length<US/\W (i+1) (upd H4 D (.lst (ys++[v]))) else W (i+1) H3)
def qo (js:List (Option Nat)) (wi:TI) (g:TG) (tt:TT) (te:TE):TE:=fun σ H Q=>wi σ H fun J H1=>∀ D,H1 D=none →
 ∃ (n:Nat) (W:Nat->Hp->Prop),W 0 (upd H1 D (.lst []))/\da js g tt te σ J D n W fun H'=>Q (.ref D) H'
section
variable {X:Cx} {pins:List (Ul×Wz)} {σ:St} {s:Uo} {H:Hp}
theorem pX {sc:Xh} {N:List UA} {js:List (Option Nat)} {cl:List (UA×Ul)} {fp:List Ul} {h1:VO} {t':Nat} (S:dl X sc N js) (I:Inv X pins σ H s)
 (By:∀ x c,cl.lookup x=some c->X.env.cells.lookup x=some c) (Dx:∀ n,(n,VN)∈sc.names->∃ c,cl.lookup n=some c)
 (hf:∀ b∈fp,fk X pins H b) (AB:∀ b∈fp,b<s.heap.objs.size) (EL:h1.Ns s.heap.objs.size fun x=>Xd x ([]:List (UA×Um)))
 (CU:∀ b o,s.heap.get? b=some o->h1.get? b=some o) :
 Inv (aY X N sc cl s.heap.objs.size s H fp pins) [] (cσ js σ) H { s with heap:=h1,toks:=t' }:=by
 have hok:(aY X N sc cl s.heap.objs.size s H fp pins).Ok :=
  { mod:=I.ok.mod
    kind:=S.kind
    glob:=I.ok.glob
    blt:=I.ok.blt
    above:=Uq _
    inj:=fun x y c a b=>I.ok.inj x y c (By x c a) (By y c b)
    has:=fun x h=>Dx x (mJ S.nocell h)
    cab:=fun x c h=>by cases h
    hd:=I.ok.hd
    frames:=I.ok.frames
    stk:=.inl rfl
    exf:=fun b hb=>⟨fun e=>absurd (AB b hb) (by rw [e];exact VC _),fun x c e z=>(hf b hb).2.2.2.2.1 x c (By x c e) z⟩
    bs:=I.bs
    bsz:=VS I.ok.bsz I.sz
    noex:=fun b o e hb=>by
     rcases (hf b hb).2.2.2.1 with h | h
     · exact I.ok.noex b o e h
     · exact absurd (Vd (Vd (UJ e) I.ok.bsz) h) (VC _)
    exfs:=fun b hb hm=>by
     rcases UH.mp (I.stkSub b hm) with e | e
     · exact (hf b hb).2.1 e
     · exact (hf b hb).2.2.1 e
    funs:=I.stack
    frf:=I.stkFree }
 have hC:H s.heap.objs.size=none:=I.hok.fresh (Uq _);obtain ⟨m0,Qk,Ql⟩:=I.loc
 exact
  { ok:=hok
    os:=rfl
    bare:=I.bare
    base:=Un.kept CU
    loc:=⟨_,EL,fun i x v e1 e2 NS=>by
     have CV:∃ j,js[i]?=some (some j)/\σ[j]?=some (some v):=by
      unfold cσ at e2;rw [Ut] at e2;cases q:js[i]? with
      | none=>rw [q] at e2;cases e2
      | some o =>
        rw [q] at e2;cases o with
        | none=>cases e2
        | some j =>
          refine ⟨j,rfl,?_⟩;have e3:(σ[j]?).join=some v:=UD e2;cases r:σ[j]? with
          | none=>rw [r] at e3;cases e3
          | some z=>rw [r] at e3;exact congrArg some e3
     obtain ⟨j,q1,q2⟩:=CV;obtain ⟨n1,n2,n3⟩:=S.slots i j x q1 e1;obtain ⟨u,ru,look⟩:=Ql j x v n1 q2 (by rcases n3 with z | z;exact .inr (.inl z);exact .inr (.inr z));refine ⟨u,ru,.inr ⟨jg n2,?_⟩⟩;have hm:(x,VN)∈sc.names:=mJ (env:=X.env) S.nocell (jg n2);obtain ⟨c,hc⟩:=Dx x hm;refine ⟨c,hc,?_⟩;rcases look with ⟨k1,_⟩ | ⟨_,c',BY,ic⟩
     · rcases n3 with z | z <;> (rw [k1] at z;cases z)
     · have:=By x c hc;rw [BY] at this;cases this;exact ic.keeps CU⟩
    cell:=fun x c e=>by
     obtain ⟨v,q⟩:=I.cell x c (By x c e);exact ⟨v,q.keeps CU⟩
    free:=hC
    freeC:=fun x c e=>I.freeC x c (By x c e)
    pin:=fun p hp=>by
     have DL:p∈X.pn++pins:=by simpa [aY] using hp
     obtain ⟨a1,a2,a3,a4,a5⟩:=I.pin p DL;refine ⟨CU _ _ a1,a2,fun e=>?_,fun hm=>?_,a5⟩
     · have e':p.1=s.heap.objs.size:=e;exact absurd (UJ a1) (by rw [e'];exact VC _)
     · rcases UH.mp (I.stkSub p.1 hm) with e | e
       · exact a3 e
       · exact a4 e
    hok:=I.hok.kept CU
    len:=by
     show (cσ js σ).length=N.length;unfold cσ;rw [Ue];exact S.len }
theorem uq {prog:U1} {w:Vl} {A:Vm} {R:Zr->Uo->Prop} {elt target iter:VI} {ifs:List VI} {scope:Xh} {pos:Ym} {it acc:Um} {env:Zp} (J:Nat->Uo->Prop)
 (turn:∀ n s,J n s->UO (UZ prog w) A (ZL it) (fun r Ab=>(r=none/\R (.ok .next) Ab)∨∃ v,r=some v ∧
  UO (UZ prog w) A (YI target it v) (fun _ Bs=>UO (UZ prog w) A (ZP target env v) (fun _ BJ =>
   UO (UZ prog w) A (forIn ifs true fun c r=>if r=true then do let ok ← isTrue c env (WS c env);pure (Wt ok) else pure (Wt r)) (fun ok BL =>
    (ok=false/\∃ m,m<n/\J m BL)∨(ok=true/\UO (UZ prog w) A (WS elt env) (fun x DT=>UO (UZ prog w) A (call (.builtin "list.append") [acc,x]) (fun _ DU=>∃ m,m<n/\J m DU) (fun _ _=>False) DT) (fun _ _=>False) BL))
    (fun _ _=>False) BJ) (fun _ _=>False) Bs) (fun _ _=>False) Ab) (fun _ _=>False) s)
 {s:Uo} (n:Nat) (h:J n s):Yb (UZ prog w) A (.compLoop (.ListComp elt [⟨target,iter,ifs,0⟩] scope pos) 0 it acc env) R s:=by
 refine codeAny_loop rfl J (fun n s hJ=>?_) n h;show UO _ A ((compTurn (.ListComp elt [⟨target,iter,ifs,0⟩] scope pos) 0 it acc env).onRaise _) _ _ s;refine wpAny_noted ?_;rw [compTurn_list];have up:∀ {α:Type} {m:Sem α} {Q:α->Uo->Prop} {E:Um->Uo->Prop} {s:Uo},UO (UZ prog w) A m Q (fun _ _=>False) s->UO (UZ prog w) A m Q E s:=fun q=>VM q (fun _ _ z=>z) fun _ _ z=>z.elim;refine Uk (Zd (Uk (VM (up (turn n s hJ)) (fun r Ab Ap=>?_) fun _ _ z=>z)));rcases Ap with ⟨rfl,Ap⟩ | ⟨v,rfl,Ap⟩
 · exact UE Ap
 · refine Uk (VM (up Ap) (fun _ Bs BG=>?_) fun _ _ z=>z);refine Uk (VM (up BG) (fun _ BJ Cz=>?_) fun _ _ z=>z);refine Uk (VM (up Cz) (fun ok BL Bc=>?_) fun _ _ z=>z);rcases Bc with ⟨rfl,Bc⟩ | ⟨rfl,Bc⟩
   · exact UE ⟨rfl,Bc⟩
   · exact Uk (Uk (VM (up Bc) (fun x DT AR=>Uk (VM (up AR) (fun _ DU FV=>UE (UE ⟨rfl,FV⟩)) fun _ _ z=>z)) fun _ _ z=>z))
theorem lX {elt tg iter:VI} {ifs:List VI} {sc:Xh} {pos:Ym} {N:List UA} {js:List (Option Nat)} {g:TG} {tt:TT} {te:TE} {cl:List (UA×Ul)} {fp:List Ul} {it:Ul} {tn:Nat->VO->Prop} {J:It} {n:Nat} {W:Nat->Hp->Prop} {fin:Hp->Prop}
 {R:Um->Ul->Zr->Uo->Prop} (hc:X.calm=true) (S:dl X sc N js) (I:Inv X pins σ H s) (T:Turn X.prog X.w X.K tg J fp it tn) (st:tn 0 s.heap) (hf:∀ b∈fp,fk X pins H b)
 (By:∀ x c,cl.lookup x=some c->X.env.cells.lookup x=some c) (Dx:∀ n,(n,VN)∈sc.names->∃ c,cl.lookup n=some c)
 (hg:∀ cl C s H fp pins,PG (aY X N sc cl C s H fp pins) tg g) (gk:nJ js g) (ht:∀ cl C s H fp pins,PTs (aY X N sc cl C s H fp pins) ifs tt) (he:∀ cl C s H fp pins,PE (aY X N sc cl C s H fp pins) elt te)
 (w0:W 0 (upd H s.heap.objs.size (.lst []))) (turn:da js g tt te σ J s.heap.objs.size n W fin)
 (hR:∀ C H' s',C≠X.env.locals->s.heap.objs.size<C->(∃ m,s'.heap.Ns C m)->H' C=none->(∀ h' t',WY C s'.heap h'->Inv X pins σ H' { s' with heap:=h',toks:=t' })->fin H'->R (.ref s.heap.objs.size) C (.ok .next) s') {E:Um->Uo->Prop} :
 UO (UZ X.prog X.w) X.A (newList []) (fun acc BJ=>UO (UZ X.prog X.w) X.A (newFunctionEnv sc X.env.globals cl [] X.env.qual none .none (some X.env)) (fun Bz BL =>
  Yb (UZ X.prog X.w) X.A (.compStart (.ListComp elt [⟨tg,iter,ifs,0⟩] sc pos) 0 (.ref it) acc { Bz with scope:=relabel sc X.env }) (R acc Bz.locals) BL) E BJ) E s:=by
 refine V0 (wpAny_newFunctionEnv S.nocell (by intro y hy;simp at hy) (fun Ap Bp Bq=>?_) S.kind);dsimp only at Bp Bq ⊢;have I3:Inv X pins σ (upd H s.heap.objs.size (.lst [])) { s with heap:=s.heap.push { cls:=.type "list",dict:=none,data:=.seq ([]:List Um).toArray } }:=I.lnew (t':=s.toks) (its:=[]) .nil (by decide)
 have AB:∀ b∈fp,b<s.heap.objs.size:=fun b hb=>by
  obtain ⟨o,ho,_⟩:=T.obj _ _ st b hb;exact UJ ho
 have CA:∀ b o,s.heap.get? b=some o->(s.heap.push { cls:=.type "list",dict:=none,data:=.seq ([]:List Um).toArray }).get? b=some o:=fun b o e=>Up _ e;have AH:(s.heap.push { cls:=.type "list",dict:=none,data:=.seq ([]:List Um).toArray }).objs.size=s.heap.objs.size+1:=Wi ..;generalize HQ:({ s with heap:=s.heap.push { cls:=.type "list",dict:=none,data:=.seq ([]:List Um).toArray } }:Uo)=s3 at I3;have DV:s.heap.push { cls:=.type "list",dict:=none,data:=.seq ([]:List Um).toArray }=s3.heap:=by rw [<- HQ]
 rw [DV] at Bp Bq CA AH;rw [DV];have Lc:∀ t',({ s with heap:=Ap,toks:=t' }:Uo)={ s3 with heap:=Ap,toks:=t' }:=fun t'=>by rw [<- HQ]
 rw [Lc];have CU:∀ b o,s3.heap.get? b=some o->Ap.get? b=some o:=fun b o e=>Bq.extBut b o (Vf (UJ e)) (Up _ e);have Ep:∀ b∈fp,fk X pins (upd H s.heap.objs.size (.lst [])) b:=fun b hb=>⟨by rw [au (Vf (AB b hb))];exact (hf b hb).1,(hf b hb).2⟩;have I4:=pX (t':=s.toks+([]:List (UA×Um)).length) S I3 By Dx Ep (fun b hb=>by rw [AH];exact Wa (AB b hb)) Bp CU;generalize Qm:upd H s.heap.objs.size (.lst [])=H3 at I3 I4 Ep w0;have AG:tn 0 Ap:=T.keep _ _ _ st fun b hb o e=>CU _ _ (CA _ _ e)
 have Bo:∀ {H':Hp},(∀ b∈fp,H' b=none)->∀ b∈fp,fk (aY X N sc cl s3.heap.objs.size s3 H3 fp pins) [] H' b:=fun {H'} hn b hb=>by
  obtain ⟨f0,f1,f2,f3,f4,f5⟩:=hf b hb;refine ⟨hn b hb,fun e=>?_,fun hm=>?_,.inl hb,fun x c e=>f4 x c (By x c e),fun p hp=>f5 p (by simpa [aY] using hp)⟩
  · have e':b=s3.heap.objs.size:=e;have h9:b<s.heap.objs.size:=AB b hb;rw [e',AH] at h9;exact absurd h9 (Nat.not_lt.mpr (Nat.le_succ _))
  · rcases UH.mp (I.stkSub b hm) with e | e
    · exact f1 e
    · exact f2 e
 have loop:Yb (UZ X.prog X.w) X.A (.compLoop (.ListComp elt [⟨tg,iter,ifs,0⟩] sc pos) 0 (.ref it) (.ref s.heap.objs.size) (compEnvC sc cl s3.heap.objs.size X.env)) (R (.ref s.heap.objs.size) s3.heap.objs.size)
  { s3 with heap:=Ap,toks:=s.toks+([]:List (UA×Um)).length }:=by
  refine uq (fun k s'=>∃ i H',Inv (aY X N sc cl s3.heap.objs.size s3 H3 fp pins) [] (cσ js σ) H' s'/\tn i s'.heap/\(∀ b∈fp,H' b=none)/\W i H'/\k=n - i) ?_ n ⟨0,H3,I4,AG,fun b hb=>(Ep b hb).1,w0,rfl⟩;rintro k s5 ⟨i,H5,I5,DR,FO,w5,rfl⟩;rcases turn i H5 w5 with ⟨stop,qn⟩ | ⟨GO,go,step⟩
  · refine thn (T.done (aY X N sc cl s3.heap.objs.size s3 H3 fp pins) rfl rfl rfl hc i [] s5 (cσ js σ) H5 _ I5 (Bo FO) DR stop) fun r s6 ⟨hr,I6⟩=>.inl ⟨hr,?_⟩;have I7:Inv X pins σ H5 s6:=I3.call' (ch:=fp) (I6.os.trans rfl) I6.base I6.hok I6.bare fun b hb=>⟨(hf b hb).2.2.2.1,(hf b hb).2.1,(hf b hb).2.2.2.2.1,(hf b hb).2.2.2.2.2⟩;have HR:H5 s3.heap.objs.size=none:=I6.free;have HS:s3.heap.objs.size≠X.env.locals:=Xc I3.lt;obtain ⟨m6,Ld,_⟩:=I6.loc;refine hR s3.heap.objs.size H5 s6 HS (by omega) ⟨m6,Ld⟩ HR (fun h' t' sb=>?_) qn;refine I7.turned (it:=s3.heap.objs.size) (fun b o hb e=>sb.extBut b o hb e) HR HS (.inr I3.sz) (fun x c e z=>?_) fun p hp z=>?_
    · obtain ⟨v,q⟩:=I3.cell x c e;exact absurd q.lt (by rw [z];exact VC _)
    · exact absurd (UJ (I3.pin p hp).1) (by rw [z];exact VC _)
  · refine thn (T.item (aY X N sc cl s3.heap.objs.size s3 H3 fp pins) rfl rfl rfl hc i [] s5 (cσ js σ) H5 _ I5 (Bo FO) DR go) fun r s6 ⟨u,hr,h6⟩=>.inr ⟨u,hr,?_⟩;refine thn h6 fun _ s7 ⟨x,H7,I7,r7,y7,FW,Le⟩=>?_;have Lf:=I7.pinned (Bo Le) (T.obj _ _ FW);refine thn (hg cl s3.heap.objs.size s3 H3 fp pins _ s7 (cσ js σ) H7 x u _ Lf r7 (gk σ (cσ js σ) x H7 _ (.refl _) (step x H7 y7))) fun _ s8 ⟨CW,H8,I8,k8,q8⟩=>?_;refine thn (ht cl s3.heap.objs.size s3 H3 fp pins _ s8 CW H8 _ I8 q8) fun ok s9 ⟨H9,I9,q9⟩=>?_
    have again:∀ {s':Uo} {f':St} {H':Hp},Keep (cσ js σ) f'->Inv (aY X N sc cl s3.heap.objs.size s3 H3 fp pins) ([]++iJ fp s7.heap) f' H' s'->W (i+1) H'->∃ m,m<n - i/\∃ i H',Inv (aY X N sc cl s3.heap.objs.size s3 H3 fp pins) [] (cσ js σ) H' s'/\tn i s'.heap/\(∀ b∈fp,H' b=none)/\W i H'/\m=n - i:=fun {s' f' H'} kp I' w'=>by
     refine ⟨n - (i+1),by omega,i+1,H',(I'.unpinned).weak kp.1 kp.2,T.keep _ _ _ FW fun b hb o e=>(I'.pin (b,o) (UU _ (UU _ (cA hb e)))).1,fun b hb=>?_,w',rfl⟩;obtain ⟨o,e,d⟩:=T.obj _ _ FW b hb;exact (I'.pin (b,o) (UU _ (UU _ (cA hb e)))).2.1
    cases ok with
    | false =>
      refine .inl ⟨rfl,again k8 I9 ?_⟩;have HU:if false=true then _ else W (i+1) H9:=q9
      rw [if_neg UN] at HU;exact HU
    | true =>
      refine .inr ⟨rfl,?_⟩;rw [if_pos rfl] at q9;refine thn (he cl s3.heap.objs.size s3 H3 fp pins _ s9 CW H9 _ I9 q9) fun vv Lg ⟨v,Lh,Li,rv,ys,hD,HV,Lj⟩=>?_;refine thn (bf _ Lg CW Lh (.ref s.heap.objs.size) [v] (.ref s.heap.objs.size) [vv] (fun _ H'=>W (i+1) H') Li rfl (.cons rv .nil) ⟨_,ys,v,rfl,rfl,hD,HV,Lj⟩) fun _ Qn ⟨_,Qo,Lk,_,Ll⟩=>?_;exact again k8 Lk Ll
 exact codeAny_compStart_list loop (T.self X.A 0 _ _ _ AG loop)
theorem bP {elt tg iter:VI} {ifs:List VI} {sc:Xh} {pos:Ym} {N:List UA} {js:List (Option Nat)} {wi:TI} {g:TG} {tt:TT} {te:TE} (hc:X.calm=true) (S:dl X sc N js) (hi:PI X tg iter wi)
 (hg:∀ cl C s H fp pins,PG (aY X N sc cl C s H fp pins) tg g) (gk:nJ js g) (ht:∀ cl C s H fp pins,PTs (aY X N sc cl C s H fp pins) ifs tt) (he:∀ cl C s H fp pins,PE (aY X N sc cl C s H fp pins) elt te)
 (hs:∀ x,Ys iter X.env x=pure x:=by intro _;rfl):PE X (.ListComp elt [⟨tg,iter,ifs,0⟩] sc pos) (qo js wi g tt te):=by
 intro pins s σ H Q I h;obtain ⟨cl,e1,e2,e3⟩:=iC (env:=X.env) (sc:=sc) fun n hn=>I.ok.has n (S.frees _ hn rfl);rw [eval_ListComp];refine Zf (use:=none) rfl hs e1 S.kind S.names (thn (hi pins s σ H _ I h) fun v s1 h1=>thn h1 fun HB s2 h2=>?_);obtain ⟨it,fp,tn,J,H2,rfl,I2,T,EG,f2,R2⟩:=h2;obtain ⟨n,W,w0,turn⟩:=R2 s2.heap.objs.size I2.fresh;refine lX (R:=fun acc C=>compPost (UZ X.prog X.w) X.A X.xe none (EP X pins σ Q) acc C) hc S I2 T EG f2 e2 e3 hg gk ht he w0 turn fun C H' s' _ _ hn _ inv fi=>?_;obtain ⟨m,hm⟩:=hn;exact ⟨m,hm,fun h' sb=>⟨.ref s2.heap.objs.size,H',inv h' s'.toks sb,rfl,fi⟩⟩
theorem ly {i:Nat} {y:UA} {elt tg iter:VI} {ifs:List VI} {sc:Xh} {pos HW py:Ym} {N:List UA} {js:List (Option Nat)} {wi:TI} {g:TG} {tt:TT} {te:TE} (hN:X.N.Nodup) (hy:X.N[i]?=some y) (HX:Loc X.env.scope y) (hc:X.calm=true) (S:dl X sc N js) (hi:PI X tg iter wi)
 (hg:∀ cl C s H fp pins,PG (aY X N sc cl C s H fp pins) tg g) (gk:nJ js g) (ht:∀ cl C s H fp pins,PTs (aY X N sc cl C s H fp pins) ifs tt) (he:∀ cl C s H fp pins,PE (aY X N sc cl C s H fp pins) elt te)
 (Qp:swapsWith (.ListComp elt [⟨tg,iter,ifs,0⟩] sc pos) (some (.Name y py)) HW.line X.env=pure true:=by rfl)
 (hs:∀ x,Ys iter X.env x=pure x:=by intro _;rfl) (hf:X.fn y=true∨X.env.scope.names.lookup y=some .local:=by first | exact .inl rfl | exact .inr rfl | assumption) :
 PS X (.Assign [.Name y py] (.ListComp elt [⟨tg,iter,ifs,0⟩] sc pos) HW) (uj (qo js wi g tt te) (av i)):=by
 intro pins s σ H D I h;obtain ⟨cl,e1,e2,e3⟩:=iC (env:=X.env) (sc:=sc) fun n hn=>I.ok.has n (S.frees _ hn rfl);rw [exec_Assign_Name_used _ _ _ _ Qp];refine Uk (Zd (Uk ?_));show UO _ X.A (do let _ ← comprehension (.ListComp elt [⟨tg,iter,ifs,0⟩] sc pos) sc X.env _ (newList []) false (WS iter X.env) (some (ZP (.Name y py) X.env))) _ _ s;refine Uk (VM (Zf (use:=some (ZP (.Name y py) X.env)) (Q:=fun _ s'=>SP X pins D .next s') rfl hs e1 S.kind S.names (thn (hi pins s σ H _ I h) fun v s1 h1=>thn h1 fun HB s2 h2=>?_)) (fun _ s' hq=>UE (UE hq)) fun _ _ z=>z);obtain ⟨it,fp,tn,J,H2,rfl,I2,T,EG,f2,R2⟩:=h2;obtain ⟨n,W,w0,turn⟩:=R2 s2.heap.objs.size I2.fresh;refine lX (R:=fun acc C=>compPost (UZ X.prog X.w) X.A X.xe (some (ZP (.Name y py) X.env)) (fun _ s'=>SP X pins D .next s') acc C) hc S I2 T EG f2 e2 e3 hg gk ht he w0 turn fun C H' s' NX hC hn Lm inv fi=>?_;obtain ⟨m,hm⟩:=hn
 have I5:Inv X pins σ H' s':=by
  have q:=inv s'.heap s'.toks (.refl ..);exact q
 refine wpAny_assign_Name (nG (v:=.ref s2.heap.objs.size) I5 hN hy HX rfl (fun s6 I6 ⟨a,sb,ha⟩=>?_) hf)
 have Qq:C≠a:=by
  rcases ha with ha | ha
  · rw [ha];exact NX
  · intro z;obtain ⟨v,q⟩:=I2.cell y a ha;exact absurd (Nat.lt_trans q.lt hC) (by rw [z];exact VC _)
 refine ⟨m,hm.sameBut sb Qq,fun h' Qr=>⟨_,H',I6.turned (it:=C) (t':=s6.toks) (fun b o hb e=>Qr.extBut b o hb e) Lm NX (.inr (VS I2.sz (Yg hC))) (fun x c e z=>?_) fun p hp z=>?_,fi⟩⟩
 · obtain ⟨v,q⟩:=I2.cell x c e;exact absurd (Nat.lt_trans q.lt hC) (by rw [z];exact VC _)
 · exact absurd (Nat.lt_trans (UJ (I2.pin p hp).1) hC) (by rw [z];exact VC _)
end
end L2
namespace L2
open PySem PySem.Spec PyProof.Rows
def mZ {α:Type} (xs:List α) (lo hi:Option Int):List α:=(xs.drop (HT.sIx xs.length 0 lo)).take (HT.sIx xs.length xs.length hi - HT.sIx xs.length 0 lo)
def fF (z:UA) (lo hi:Option Int):UA:=⟨(mZ z.cps.toList lo hi).toArray⟩
theorem wn {α:Type} (xs:List α) (a n:Nat):((Vr n).map fun (k:Nat)=>a+k).filterMap (xs[·]?)=(xs.drop a).take n:=by
 induction n with
 | zero=>simp
 | succ n ih =>
   rw [List.range_succ,UC,List.filterMap_append,ih,XC];congr 1;rw [List.getElem?_drop];cases h:xs[a+n]? <;> simp [h]
theorem uM (n d:Nat) (i:Int):max 0 (min (if i<0 then i+(n:Int) else i) (n:Int))=((HT.sIx n d (some i):Nat):Int):=by
 show max 0 (min (if i<0 then i+(n:Int) else i) (n:Int))=(((if i<0 then (i+(n:Int)).toNat else min i.toNat n):Nat):Int);by_cases h:i<0
 · rw [if_pos h,if_pos h];omega
 · rw [if_neg h,if_neg h];omega
theorem wd (A B:Int) (a b:Nat) (hA:A=(a:Int)) (hB:B=(b:Int)):sliceRange A B 1=(Vr (b - a)).map fun (k:Nat)=>a+k:=by
 subst hA;subst hB;unfold sliceRange;simp only [show (1:Int) > 0 by decide,if_true]
 have c:(if (a:Int)<(b:Int) then ((b:Int) - a+1 - 1) / 1 else 0).toNat=b - a:=by
  split
  · rw [Z0];omega
  · omega
 rw [c];refine Xj fun k _=>?_;omega
theorem tL (lo hi:Option Int) (n:Nat):YS lo hi 1 n=(Vr (HT.sIx n n hi - HT.sIx n 0 lo)).map fun (k:Nat)=>HT.sIx n 0 lo+k:=by
 unfold YS;simp only [show (1:Int) > 0 by decide,if_true];cases lo <;> cases hi <;> refine wd _ _ _ _ ?_ ?_ <;> first | rfl | exact uM _ _ _
theorem eR (z:UA) (lo hi:Option Int):(fF z lo hi).length<=z.length:=by
 show (mZ z.cps.toList lo hi).toArray.size<=z.cps.size;unfold mZ;rw [Ux,U3,Vi,UQ];omega
theorem nh (x:UA) (t:Tok) (l u:Option (Int×Tok)) {Q:Um->Uo->Prop} {s:Uo} (hz:x.length<=US) (h:∀ t' k,Q (.str (fF x (l.map (·.1)) (u.map (·.1))) t') { s with toks:=k }):(sliceMade x t l u none).post Q s:=by
 have e:(ZK x l u none).filterMap (x.cps[·]?)=mZ x.cps.toList (l.map (·.1)) (u.map (·.1)):=by
  unfold ZK mZ;show (YS (l.map (·.1)) (u.map (·.1)) 1 x.length).filterMap (x.cps[·]?)=_;rw [tL,show (x.cps[·]?)=(x.cps.toList[·]?) from funext fun i=>(XB ..).symm,wn,UQ];rfl
 unfold sliceMade;split
 · rename_i hc
   have hl:(ZK x l u none).length=x.length:=by
    have:=(Vv _ _ ▸ hc).2;simpa using this
   have hw:fF x (l.map (·.1)) (u.map (·.1))=x:=by
    have e2:(mZ x.cps.toList (l.map (·.1)) (u.map (·.1)))=x.cps.toList:=by
     have hp:ZK x l u none=(Vr (HT.sIx x.length x.length (u.map (·.1)) - HT.sIx x.length 0 (l.map (·.1)))).map fun (k:Nat)=>HT.sIx x.length 0 (l.map (·.1))+k:=tL _ _ _;rw [hp,Ue,VJ] at hl;have b1:=HT.sIx_le x.length x.length (Uq _) (u.map (·.1));have hx:x.cps.toList.length=x.length:=UQ;unfold mZ;rw [hx,hl];have Qs:HT.sIx x.length 0 (l.map (·.1))=0∨x.length=0:=by omega
     rcases Qs with h0 | h0
     · rw [h0,VW,U8 (by rw [hx];exact Uq _)]
     · have:x.cps.toList=[]:=U9.mp (by rw [hx];exact h0);rw [this];simp
    unfold fF;rw [e2]
   have:=h t s.toks;rw [hw] at this;exact this
 · show (⟨((ZK x l u none).filterMap (x.cps[·]?)).toArray⟩:UA).length<=US/\Q _ _;rw [e];exact ⟨VS (eR x _ _) hz,h s.toks (s.toks+1)⟩
section
variable {X:Cx}
inductive xZ (x:V) (lo:Option Int) (hi:Option Int) (H:Hp) (Q:VK):Prop
 | mk (z:_) (Aw:x=.str z) (Ax:z.length<=US) (AE:Q (.str (fF z lo hi)) H):xZ  x lo hi H Q
def aa6:V->Option Int->Option Int->Hp->VK->Prop:=xZ
theorem part_of {v:Um} {o:Option Int} (h:Zv v o):∃ l:Option (Int×Tok),v=partValue l/\l.map (·.1)=o:=by
 cases h with
 | none=>exact ⟨none,rfl,rfl⟩
 | int i t=>exact ⟨some (i,t),rfl,rfl⟩
theorem rM:SlR X aa6:=by
 intro pins s σ H x v vl vu lo hi sl Q I rx hs pl pu h;obtain ⟨z,rfl,hz,q⟩:=h;obtain ⟨t,rfl⟩:=rx;obtain ⟨l,rfl,rfl⟩:=part_of pl;obtain ⟨u,rfl,rfl⟩:=part_of pu;refine ⟨"str",_,F.slot_str_getitem.lookup,XD s z t,wpAny_getItem_str_slice (l:=l) (u:=u) (st:=none) ?_ rfl (nh z t l u hz fun t' k=>?_)⟩
 · obtain ⟨o,ho,hc,hd⟩:=hs;exact ⟨o,ho,hc,hd⟩
 · exact ⟨.str (fF z (l.map (·.1)) (u.map (·.1))),H,I.tok k,⟨_,rfl⟩,q⟩
def yq:V->List V->Hp->VK->Prop:=fun x vs H Q=>∃ z y i r,x=.str z/\vs=[.str y]/\Builtin.Str.occurrences z y 0 z.length 1=i::r/\Q (.int (i:Nat)) H
theorem va:MtR X "str.index" yq:=by
 intro pins s σ H x vs v us Q I rx rv h;obtain ⟨z,y,i,r,rfl,rfl,ho,q⟩:=h;obtain ⟨t,rfl⟩:=rx;obtain ⟨u,rfl,u',rfl⟩:=rv.one;exact SC.index ho ⟨.int (i:Nat),H,I.tok _,⟨_,rfl⟩,q⟩
theorem wX {ys:List UA}:∀ {us:List Um},Vals (ys.map V.str) us->StrsAre us ys:=by
 induction ys with
 | nil=>intro us r;cases r;exact .nil
 | cons y ys ih =>
   intro us r;cases r with
   | cons a b =>
     obtain ⟨t,rfl⟩:=a;exact .cons y t (ih b)
def rJoin (K:Uj):V->List V->Hp->VK->Prop:=fun x vs H Q=>∃ z p ys,x=.str z/\vs=[.ref p]/\SqL K H p (ys.map V.str)/\(ys.map (·.length)).sum+ys.length * z.length<=16777216/\Q (.str (VG z ys)) H
theorem fP:MtR X "str.join" (rJoin X.K):=by
 intro pins s σ H x vs v us Q I rx rv h;obtain ⟨z,p,ys,rfl,rfl,hl,hz,q⟩:=h;obtain ⟨t,rfl⟩:=rx;obtain ⟨u,rfl,u'⟩:=rv.one;cases u';obtain ⟨its,r,pl,_⟩:=I.list hl;exact join_list pl.isList (wX r) hz fun t' k=>⟨.str (VG z ys),H,I.tok k,⟨_,rfl⟩,q⟩
theorem v1 {T:String} {b:Bool} {t:Um}:dJ X (.builtin "isinstance") (fun xs H Q=>∃ x,xs=[x,.ty T]/\i4 X.K H x t/\U6 X.K t (.type T)=some b/\Q (.bl b) H):=by
 intro pins s σ H xs us Q I r h;obtain ⟨x,rfl,ty,k,q⟩:=h;obtain ⟨u,w',rfl,r1,r2⟩:=vals2 r;cases r2;exact ur I r1 ty k fun tk=>⟨.bl b,H,I.tok tk,rfl,q⟩
end
end L2
namespace PySem
namespace F
end F
end PySem
namespace PySem
open Sem (wp)
section
variable {prog:U1} {w:Vl} {A:Vm} {E:Um->Uo->Prop} {s:Uo}
end
end PySem
namespace L2
open PySem PySem.Spec PyProof.Rows
section
variable {X:Cx} {e:VI} {te:TE} {p p2 pos BM:Ym}
def Itv (K:Uj) (a:Ul) (n:Nat):It:=⟨fun i H=>i<n/\∃ xs,SqL K H a xs/\xs.length=n,fun i H x H'=>H'=H/\∀ xs,SqL K H a xs->xs[n - 1 - i]?=some x,fun i _=>i=n⟩
theorem v6 {P:U1} {w:Vl} {K:Uj} {tg:VI} (a it:Ul) (n:Nat):Turn P w K tg (Itv K a n) [it] it (fun i h=>h.IsRevIter it a ((n:Int) - 1 - (i:Nat))) where
 mem:=by simp
 obj:=fun i h st b hb=>by
  have e:b=it:=by simpa using hb
  subst e;obtain ⟨o,e,c,d⟩:=st;exact ⟨o,e,fun v z=>by rw [d] at z;cases z⟩
 keep:=fun i h h' st k=>st.at fun o e=>k it (by simp) o e
 item:=by
  intro X hP hw hK hc i pins s σ H E I hf st hg;subst hP hw hK;obtain ⟨hi,xs,hq,hx⟩:=hg;obtain ⟨its,rv,p,hz⟩:=I.list hq;have hl:=rv.length;obtain ⟨x,Cp⟩:∃ x,xs[n - 1 - i]?=some x:=⟨_,Uh (by omega)⟩;obtain ⟨u,hu,ru⟩:=rv.get Cp;obtain ⟨f0,f1,f2,f3,f4,f5⟩:=hf it (by simp);have e1:(n:Int) - 1 - (i:Nat)=((n - 1 - i:Nat):Int):=by omega
  rw [e1] at st;refine wpAny_pyNext_rev_item st p.isList (x:=u) (by simpa using hu) fun h' BF sb=>?_;have I1:Inv X pins σ H { s with heap:=h' }:=I.turned (t':=s.toks) (fun b o hb e=>(sb.2 b hb).trans e) f0 f1 f3 f4 f5;have e2:((n - 1 - i:Nat):Int) - 1=(n:Int) - 1 - ((i+1:Nat):Int):=by omega
  rw [e2] at BF;obtain ⟨o,e,c,d⟩:=id BF;exact ⟨u,rfl,lP (s:={ s with heap:=h' }) e c d (by decide) ⟨x,H,I1,ru,⟨rfl,fun ys hy=>by rw [I.list_inj hy hq];exact Cp⟩,BF,fun b hb=>(hf b hb).1⟩⟩
 done:=by
  intro X hP hw hK hc i pins s σ H E I hf st hg;subst hP hw hK;have J0:i=n:=hg;subst J0;obtain ⟨f0,f1,f2,f3,f4,f5⟩:=hf it (by simp);rw [show (i:Int) - 1 - (i:Nat)=-1 by omega] at st;exact wpAny_pyNext_rev_end (I.ok.hd hc) st fun h' eb=>⟨rfl,I.turned (t':=s.toks) (fun b o hb e=>eb b o hb e) f0 f1 f3 f4 f5⟩
 self:=fun _ _ _ _ _ st h=>wpAny_pyIter_revIter st h
def aaI (K:Uj) (tl:TE):TI:=fun σ H R=>tl σ H fun x H1=>∃ a xs,x=.ref a/\SqL K H1 a xs/\R (Itv K a xs.length) H1
theorem yu {tg:VI} (g2:Gl X "reversed") (m2:X.mg "reversed"=none) (he:PE X e te) (h2:Vt [e] X.env=[(false,WS e X.env)]:=by rfl):PI X tg (.Call (.Name "reversed" p2) [e] [] BM) (aaI X.K te):=by
 intro pins s σ H R I h;refine WG (iS I g2 m2 boot_reversed (WQ ?_ h2 rfl));rw [h2];show UO _ _ (spliced ((false,WS e X.env)::[])) _ _ s;refine WI (thn (he pins s σ H _ I h) fun u s1 ⟨x,H1,I1,r1,a,ys,ex,hq,q⟩=>XS ?_);subst ex;cases r1;obtain ⟨its,rv,p,hz⟩:=I1.list hq;have hl:=rv.length;refine call_reversed_list p.isList ?_
 have hit:(s1.heap.push (revObj a ((its.toArray.size:Int) - 1))).IsRevIter s1.heap.objs.size a ((ys.length:Int) - 1 - ((0:Nat):Int)):=by
  rw [hl,show (its.length:Int) - 1 - ((0:Nat):Int)=(its.toArray.size:Int) - 1 by rw [Ux];omega];exact ⟨_,UG _ rfl,rfl,rfl⟩
 refine wpAny_pyIter_revIter (s:={ s1 with heap:=s1.heap.push (revObj a ((its.toArray.size:Int) - 1)) }) hit ?_;refine ⟨s1.heap.objs.size,[s1.heap.objs.size],_,_,H1,rfl,I1.kept (t':=s1.toks) fun b o e=>Up _ e,v6 a _ ys.length,hit,fun b hb=>?_,q⟩;have e:b=s1.heap.objs.size:=by simpa using hb
 subst e;exact I1.fpOk (Uq _) (I1.hok.fresh (Uq _))
theorem wM {K:Uj} {a:Ul} {xs:List V} {g:TG} {tb:TS} {D:Ends} {σ:St} {H:Hp} (Pv:Nat->St->Hp->Prop) (h0:Pv 0 σ H) (hl:∀ i σ H,i<=xs.length->Pv i σ H->SqL K H a xs)
 (hs:∀ i x σ H,i<xs.length->xs[xs.length - 1 - i]?=some x->Pv i σ H->g x σ H fun AA H2=>tb { D with nx:=Pv (i+1),ct:=Pv (i+1),bk:=D.nx } AA H2) (hd:∀ σ H,Pv xs.length σ H->D.nx σ H) :
 ∃ W:Nat->Nat->St->Hp->Prop,(∃ m,W 0 m σ H)/\∀ i m σ H,W i m σ H →
   ((Itv K a xs.length).stop i H/\D.nx σ H)∨((Itv K a xs.length).go i H/\∃ N:St->Hp->Prop,(∀ f' H',N f' H'->∃ m',m'<m/\W (i+1) m' f' H')/\∀ x H',(Itv K a xs.length).yld i H x H'->g x σ H' fun AA H2=>tb { D with nx:=N,ct:=N,bk:=D.nx } AA H2):=by
 refine ⟨fun i m σ H=>i<=xs.length/\m=xs.length - i/\Pv i σ H,⟨xs.length,Vh _,rfl,h0⟩,?_⟩;rintro i m σ H ⟨hi,rfl,p⟩;by_cases h:i=xs.length
 · left;exact ⟨h,hd σ H (by rw [<- h];exact p)⟩
 · right;have B1:i<xs.length:=by omega
   refine ⟨⟨B1,xs,hl i σ H hi p,rfl⟩,Pv (i+1),fun f' H' q=>⟨xs.length - (i+1),by omega,by omega,rfl,q⟩,?_⟩;rintro x H' ⟨rfl,hx⟩;exact hs i x σ H' B1 (hx xs (hl i σ H' hi p)) p
end
end L2
namespace BB
open PySem L2
inductive Th where
 | knot (n:UA) (ks:List Th)
 | call (s k:Int)
def q:UA:=Ug "?"
def Th.kids:Th->List Th
 | .knot _ ks=>ks
 | .call _ _=>[]
mutual
def Th.size:Th->Nat
 | .knot _ ks=>aC ks+1
 | .call _ _=>1
def aC:List Th->Nat
 | []=>0
 | t::ts=>t.size+aC ts
end
mutual
def Th.tall:Th->Nat
 | .knot _ ks=>aL ks+1
 | .call _ _=>1
def aL:List Th->Nat
 | []=>0
 | t::ts=>max t.tall (aL ts)
end
mutual
/-- by places GP -/
def Th.walk:Th->List Th
 | .knot n ks=>.knot n ks::walks ks
 | .call s k=>[.call s k]
def walks:List Th->List Th
 | []=>[]
 | t::ts=>t.walk++walks ts
end
theorem Th.walk_eq (t:Th):t.walk=t::walks t.kids:=by
 cases t with
 | knot n ks=>rw [Th.walk];rfl
 | call s k=>rw [Th.walk];simp [Th.kids,walks]
theorem Th.size_eq (t:Th):t.size=aC t.kids+1:=by
 cases t with
 | knot n ks=>rw [Th.size];rfl
 | call s k=>rw [Th.size];simp [Th.kids,aC]
theorem Th.tall_eq (t:Th):t.tall=aL t.kids+1:=by
 cases t with
 | knot n ks=>rw [Th.tall];rfl
 | call s k=>rw [Th.tall];simp [Th.kids,aL]
theorem jw:∀ a b:List Th,walks (a++b)=walks a++walks b
 | [],b=>by simp [walks]
 | t::a,b=>by rw [Va,walks,walks,jw a b,U2]
theorem bX:∀ a b:List Th,aC (a++b)=aC a+aC b
 | [],b=>by simp [aC]
 | t::a,b=>by rw [Va,aC,aC,bX a b,Nat.add_assoc]
mutual
theorem Th.walk_len:∀ t:Th,t.walk.length=t.size
 | .knot n ks=>by rw [Th.walk,Th.size,Ui,ku ks]
 | .call s k=>by rw [Th.walk,Th.size];rfl
theorem ku:∀ ts:List Th,(walks ts).length=aC ts
 | []=>rfl
 | t::ts=>by rw [walks,aC,Uu,t.walk_len,ku ts]
end
theorem Th.size_pos (t:Th):1<=t.size:=by rw [t.size_eq];omega
mutual
def At (H:Hp):Th->Ul->Prop
 | .knot n ks,a=>n≠q/\∃ as:List Ul,H a=some (.tup (.str n::as.map V.ref))/\Ats H ks as
 | .call s k,a=>H a=some (.tup [.str q,.int s,.int k])
def Ats (H:Hp):List Th->List Ul->Prop
 | [],as=>as=[]
 | t::ts,as=>∃ a r,as=a::r/\At H t a/\Ats H ts r
end
def KT (H H':Hp):Prop:=∀ b xs,H b=some (.tup xs)->H' b=some (.tup xs)
theorem KT.trans {H H1 H2:Hp} (a:KT H H1) (b:KT H1 H2):KT H H2:=fun c o h=>b c o (a c o h)
theorem Same.kt {H H':Hp} (h:L2.Same H H'):KT H H':=fun b xs e=>h b _ e
theorem iR {H:Hp} {l:Ul} {o:HO} (h:H l=none):KT H (upd H l o):=fun b xs e=>by rw [au (aR e h)];exact e
theorem bp {H:Hp} {l:Ul} {o:HO} {xs:List V} (h:H l=some (.lst xs)):KT H (upd H l o):=fun b ys e=>by rw [au (tO e h (by intro z;cases z))];exact e
mutual
theorem At.mono {H H':Hp} (k:KT H H'):∀ {t:Th} {a:Ul},At H t a->At H' t a
 | .knot n ks,a,h=>by
   rw [At] at h ⊢;obtain ⟨h0,as,h1,h2⟩:=h;exact ⟨h0,as,k _ _ h1,Ats.mono k h2⟩
 | .call s c,a,h=>by
   rw [At] at h ⊢;exact k _ _ h
theorem Ats.mono {H H':Hp} (k:KT H H'):∀ {ts:List Th} {as:List Ul},Ats H ts as->Ats H' ts as
 | [],as,h=>by rw [Ats] at h ⊢;exact h
 | t::ts,as,h=>by
   rw [Ats] at h ⊢;obtain ⟨a,r,e,h1,h2⟩:=h;exact ⟨a,r,e,At.mono k h1,Ats.mono k h2⟩
end
theorem Ats.nil {H:Hp}:Ats H [] []:=by rw [Ats]
theorem Ats.cons {H:Hp} {t:Th} {ts:List Th} {a:Ul} {as:List Ul} (h1:At H t a) (h2:Ats H ts as):Ats H (t::ts) (a::as):=by rw [Ats];exact ⟨a,as,rfl,h1,h2⟩
theorem Ats.append {H:Hp}:∀ {ts us:List Th} {as bs:List Ul},Ats H ts as->Ats H us bs->Ats H (ts++us) (as++bs)
 | [],us,as,bs,h,g=>by rw [Ats] at h;subst h;exact g
 | t::ts,us,as,bs,h,g=>by
   rw [Ats] at h;obtain ⟨a,r,rfl,h1,h2⟩:=h;exact .cons h1 (h2.append g)
theorem Ats.length {H:Hp}:∀ {ts:List Th} {as:List Ul},Ats H ts as->as.length=ts.length
 | [],as,h=>by rw [Ats] at h;subst h;rfl
 | t::ts,as,h=>by
   rw [Ats] at h;obtain ⟨a,r,rfl,h1,h2⟩:=h;rw [Ui,Ui,h2.length]
theorem Ats.reverse {H:Hp}:∀ {ts:List Th} {as:List Ul},Ats H ts as->Ats H ts.reverse as.reverse
 | [],as,h=>by rw [Ats] at h;subst h;exact .nil
 | t::ts,as,h=>by
   rw [Ats] at h;obtain ⟨a,r,rfl,h1,h2⟩:=h;rw [VX,VX];exact h2.reverse.append (.cons h1 .nil)
theorem Ats.get {H:Hp}:∀ {ts:List Th} {as:List Ul} {i:Nat} {a:Ul},Ats H ts as->as[i]?=some a->∃ t,ts[i]?=some t/\At H t a
 | [],as,i,a,h,e=>by rw [Ats] at h;subst h;simp at e
 | t::ts,as,i,a,h,e=>by
   rw [Ats] at h;obtain ⟨b,r,rfl,h1,h2⟩:=h;cases i with
   | zero=>simp at e;subst e;exact ⟨t,rfl,h1⟩
   | succ i=>exact h2.get (i:=i) (by simpa using e)
theorem Ats.snoc_inv {H:Hp} {ts:List Th} {as:List Ul} {a:Ul} (h:Ats H ts (as++[a])):∃ us t,ts=us++[t]/\Ats H us as/\At H t a:=by
 have r:=h.reverse;rw [Yw,List.reverse_singleton,List.singleton_append] at r;cases e:ts.reverse with
 | nil=>rw [e,Ats] at r;cases r
 | cons t us =>
   rw [e,Ats] at r;obtain ⟨b,z,e1,h1,h2⟩:=r;cases e1;refine ⟨us.reverse,t,?_,?_,h1⟩
   · rw [<- VX,<- e,XI]
   · have:=h2.reverse;rw [XI] at this;exact this
theorem At.tup {H:Hp} {t:Th} {a:Ul} (h:At H t a):∃ n r,H a=some (.tup (.str n::r)):=by
 cases t with
 | knot n ks=>rw [At] at h;obtain ⟨_,as,h1,_⟩:=h;exact ⟨n,_,h1⟩
 | call s k=>rw [At] at h;exact ⟨q,_,h⟩
end BB
namespace BB
open PySem L2
def comma:UA:=Ug ","
def lpar:UA:=Ug "("
def rpar:UA:=Ug ")"
def qg (n:UA) (ts:List UA):UA:=if ts.isEmpty=true then n else n++lpar++VG comma ts++rpar
mutual
def Th.show:Th->UA
 | .knot n ks=>qg n (bY ks)
 | .call _ _=>q
def bY:List Th->List UA
 | []=>[]
 | t::ts=>t.show::bY ts
end
mutual
def Th.Nm (L:Nat):Th->Prop
 | .knot n ks=>n.length<=L/\Nms L ks
 | .call _ _=>True
def Nms (L:Nat):List Th->Prop
 | []=>True
 | t::ts=>t.Nm L/\Nms L ts
end
theorem zQ:q.length=1:=by decide +kernel
theorem uo:comma.length=1/\lpar.length=1/\rpar.length=1:=by decide +kernel
theorem join_le (ts:List UA):(VG comma ts).length<=(ts.map (·.length)).sum+ts.length:=by
 have e:VG comma ts=X3 comma ts:=by simpa using PyProof.Rows.join_plain_closes comma ts
 have:=StrLaws.join_length_le comma ts;rw [uo.1] at this;rw [e];omega
mutual
theorem Th.show_le {L:Nat}:∀ t:Th,t.Nm L->t.show.length+1<=(L+3) * t.size
 | .knot n ks,h=>by
   rw [Th.Nm] at h;have hk:=l7 ks h.2;have hn:=h.1;rw [Th.show,Th.size,qg];have e1:(L+3) * (aC ks+1)=(L+3) * aC ks+(L+3):=ZW _ _;rw [e1];split
   · omega
   · have hj:=join_le (bY ks);have a1:=uo.2.1;have a2:=uo.2.2;rw [UM,UM,UM];omega
 | .call s k,h=>by
   rw [Th.show,Th.size,zQ];omega
theorem l7 {L:Nat}:∀ ts:List Th,Nms L ts->((bY ts).map (·.length)).sum+(bY ts).length<=(L+3) * aC ts
 | [],_=>by simp [bY]
 | t::ts,h=>by
   rw [Nms] at h;have h1:=Th.show_le t h.1;have h2:=l7 ts h.2;rw [bY,aC,UB,V7,Ui,Nat.mul_add];omega
end
end BB
namespace BB
open PySem L2
def dN:UA:=Ug "abcdefghijklmnopqrstuvwxyz"
theorem rX:dN.cps.toList=(Vr 26).map (97+·):=by decide +kernel
theorem kR:dN.length=26:=by decide +kernel
theorem at_nonneg {α:Type} {xs:List α} {i:Int} {v:α} (h0:0<=i) (h:xs[i.toNat]?=some v):atI xs i=some v:=by
 have e:i=((i.toNat:Nat):Int):=by omega
 rw [e];exact cD h
theorem nQ {i:Int} (h0:0<=i) (h1:i<26):atI dN.cps.toList i=some (97+i.toNat):=by
 refine at_nonneg h0 ?_;rw [rX,Ut,Xl (by omega)];rfl
theorem uF:∀ i<26,Builtin.Str.occurrences dN ⟨#[97+i]⟩ 0 dN.length 1=[i]:=by decide +kernel
def fZ (r:Int) (k:Nat):List Nat:=(Vr k).map fun j=>97+((r / 26 ^ j)%26).toNat
def cS (r:Int) (k:Nat):UA:=⟨(fZ r k).toArray⟩
theorem ui (r:Int) (k:Nat):(fZ r k).length=k:=by unfold fZ;rw [Ue,VJ]
theorem dh (r:Int) (k:Nat):(cS r k).length=k:=by show (fZ r k).toArray.size=k;rw [Ux,ui]
theorem qZ (r:Int) (k:Nat):fZ r (k+1)=fZ r k++[97+((r / 26 ^ k)%26).toNat]:=by unfold fZ;rw [List.range_succ,UC];rfl
theorem rT (r:Int) (k:Nat):cS r (k+1)=cS r k++⟨#[97+((r / 26 ^ k)%26).toNat]⟩:=by
 show (⟨(fZ r (k+1)).toArray⟩:UA)=⟨(fZ r k).toArray++#[97+((r / 26 ^ k)%26).toNat]⟩;rw [qZ];simp
def Low (x:UA):Prop:=∀ c∈x.cps.toList,97<=c/\c<=122
theorem uL (r:Int) (k:Nat):∀ c∈fZ r k,97<=c/\c<=122:=by
 intro c hc;obtain ⟨j,_,rfl⟩:=Vq.mp hc;have:=U0 (r / 26 ^ j) (by decide:(26:Int)≠0);have:=UT (r / 26 ^ j) (by decide:(0:Int)<26);omega
theorem oU {x:UA} (h:Low x) (lo hi:Option Int):Low (fF x lo hi):=by
 intro c hc;have BY:c∈mZ x.cps.toList lo hi:=by simpa [fF] using hc
 exact h c (XJ (V6 BY))
theorem t4 {x y:UA} (hx:Low x) (hy:Low y):Low (x++y):=by
 intro c hc;have BY:c∈(x.cps++y.cps).toList:=hc;rw [VE,UP] at BY;rcases BY with h | h
 · exact hx c h
 · exact hy c h
theorem wS {c:Nat} (h1:97<=c) (h2:c<=122):Low ⟨#[c]⟩:=by
 intro d hd;have:d=c:=by simpa using hd
 omega
theorem v2 {x:UA} (h:Low x):x≠q:=by
 intro e;subst e;have:=h 63 (by decide +kernel);omega
def eT (base:Int):Int:=1+base / 2%8
def nAt (base:Int):Int:=base / 16%7%eT base
def kF (base n:Int):Nat:=97+(((((base / 112) / 26 ^ (nAt base).toNat)%26).toNat+n)%26).toNat
def nameOf (base n:Int):UA :=
 if base%2=1 then fF (cS (base / 112) 8) none (some (n+1))
 else fF (cS (base / 112) 8) none (some (nAt base))++⟨#[kF base n]⟩++fF (cS (base / 112) 8) (some (nAt base+1)) (some (eT base))
theorem jO (base:Int):1<=eT base/\eT base<=8:=by
 have:=U0 (base / 2) (by decide:(8:Int)≠0);have:=UT (base / 2) (by decide:(0:Int)<8);unfold eT;omega
theorem vj (base:Int):0<=nAt base/\nAt base<eT base:=by
 have:=jO base;unfold nAt;exact ⟨U0 _ (by omega),UT _ (by omega)⟩
theorem nO (base n:Int):97<=kF base n/\kF base n<=122:=by
 unfold kF;have h1:=U0 (((((base / 112) / 26 ^ (nAt base).toNat)%26).toNat:Int)+n) (by decide:(26:Int)≠0);have h2:=UT (((((base / 112) / 26 ^ (nAt base).toNat)%26).toNat:Int)+n) (by decide:(0:Int)<26);omega
theorem lO (base:Int):Low (cS (base / 112) 8):=by
 intro c hc;exact uL _ _ c (by simpa [cS] using hc)
theorem sQ (base n:Int):Low (nameOf base n):=by
 unfold nameOf;split
 · exact oU (lO base) _ _
 · exact t4 (t4 (oU (lO base) _ _) (wS (nO base n).1 (nO base n).2)) (oU (lO base) _ _)
theorem iW (z:UA) (lo hi:Option Int):(fF z lo hi).length=min (HT.sIx z.length z.length hi - HT.sIx z.length 0 lo) (z.length - HT.sIx z.length 0 lo):=by
 show (mZ z.cps.toList lo hi).toArray.size=_;unfold mZ;rw [Ux,U3,Vi,UQ];rfl
theorem rK (base n:Int):(nameOf base n).length<=8:=by
 unfold nameOf;split
 · have:=eR (cS (base / 112) 8) none (some (n+1));rw [dh] at this;exact this
 · have h1:=jO base;have h2:=vj base;rw [UM,UM,iW,iW,dh]
   have e1:HT.sIx 8 8 (some (nAt base))=(nAt base).toNat:=by
    show (if nAt base<0 then _ else min (nAt base).toNat 8)=_;rw [if_neg (by omega)];omega
   have e2:HT.sIx 8 0 (some (nAt base+1))=(nAt base+1).toNat:=by
    show (if nAt base+1<0 then _ else min (nAt base+1).toNat 8)=_;rw [if_neg (by omega)];omega
   have e3:HT.sIx 8 8 (some (eT base))=(eT base).toNat:=by
    show (if eT base<0 then _ else min (eT base).toNat 8)=_;rw [if_neg (by omega)];omega
   have e4:HT.sIx 8 0 none=0:=rfl;have e5:(⟨#[kF base n]⟩:UA).length=1:=rfl;rw [e1,e2,e3,e4,e5];omega
end BB
namespace L2
open PySem PySem.Spec PyProof.Rows
theorem Same.seqT {K:Uj} {H H':Hp} {a:Ul} {xs:List V} (e:Same H H') (h:SqT K H a xs):SqT K H' a xs:=by
 rcases h with (h | ⟨o,h⟩) | h
 · exact .inl (.inl (e _ _ h))
 · exact .inl (.inr ⟨o,e _ _ h⟩)
 · exact .inr h
theorem ag {H:Hp} {p:Ul} (h:H p=none) (o:HO):Same H (upd H p o):=fun b u q=>by rw [au (aR q h)];exact q
theorem aI {H H1:Hp} {l:Ul} {o:HO} (h:Same H H1) (n:H l=none):Same H (upd H1 l o):=fun b u e=>by rw [au (aR e n)];exact h b u e
theorem oA {α:Type} {js:List (Option Nat)} {tt:TT} {te:TE} {σ:St} {J:It} {H:Hp} {xs:List V} {fin:Ul->Hp->Prop} (zs:List α) (p:α->Bool) (f:α->V) (hz:zs.length=xs.length) (hn:xs.length<=1000000)
 (EM:∀ i H2,Same H H2->i<xs.length->J.go i H2) (Bu:∀ H2,Same H H2->J.stop xs.length H2) (CY:∀ (i:Nat) H2 x H3,Same H H2->i<xs.length->J.yld i H2 x H3->H3=H2/\xs[i]?=some x)
 (FY:∀ (i:Nat) x z H2 (R:Bool->Hp->Prop),xs[i]?=some x->zs[i]?=some z->Same H H2->R (p z) H2->tt ((cσ js σ).set 0 (some x)) H2 R)
 (FZ:∀ (i:Nat) x z H2 (R:VK),xs[i]?=some x->zs[i]?=some z->p z=true->Same H H2->R (f z) H2->te ((cσ js σ).set 0 (some x)) H2 R)
 (q:∀ D,H D=none->fin D (upd H D (.lst ((zs.filter p).map f)))) :
 ∀ D,H D=none->∃ (n:Nat) (W:Nat->Hp->Prop),W 0 (upd H D (.lst []))/\da js (av 0) tt te σ J D n W fun H'=>fin D H':=by
 intro D hD;refine ⟨xs.length,fun i H2=>i<=xs.length/\H2=upd H D (.lst (((zs.take i).filter p).map f)),⟨Vh _,by simp⟩,?_⟩;rintro i H2 ⟨hi,rfl⟩;have sm:∀ o,Same H (upd H D o):=fun o=>ag hD o;by_cases h:i=xs.length
 · left;subst h;refine ⟨Bu _ (sm _),?_⟩;rw [<- hz,Xn];exact q D hD
 · right;have B1:i<xs.length:=by omega
   refine ⟨B1,EM i _ (sm _) B1,fun x H1 hy=>?_⟩;obtain ⟨rfl,hx⟩:=CY i _ x H1 (sm _) B1 hy;have Qt:i<zs.length:=by omega
   have e1:zs[i]?=some zs[i]:=Uh Qt
   have e2:(zs.take (i+1)).filter p=(zs.take i).filter p++(if p zs[i]=true then [zs[i]] else []):=by
    rw [XC,e1,List.filter_append];show _++List.filter p [zs[i]]=_;rw [Xp,List.filter_nil]
   refine FY i x zs[i] _ _ hx e1 (sm _) ?_
   have hlen:(((zs.take i).filter p).map f).length<=1000000:=by
    rw [Ue];have:=List.length_filter_le p (zs.take i);rw [U3] at this;omega
   by_cases hp:p zs[i]=true
   · rw [if_pos hp];refine FZ i x zs[i] _ _ hx e1 hp (sm _) ⟨_,ae,ZC hlen (by decide),B1,?_⟩;rw [xL,e2,if_pos hp,UC];rfl
   · rw [if_neg hp];refine ⟨B1,?_⟩;rw [e2,if_neg hp,UY]
theorem jr {α:Type} {K:Uj} {a:Ul} {js:List (Option Nat)} {tt:TT} {te:TE} {σ:St} {H:Hp} {xs:List V} {fin:Ul->Hp->Prop} (zs:List α) (p:α->Bool) (f:α->V) (hS:SqL K H a xs) (hz:zs.length=xs.length) (hn:xs.length<=1000000)
 (FY:∀ (i:Nat) x z H2 (R:Bool->Hp->Prop),xs[i]?=some x->zs[i]?=some z->Same H H2->R (p z) H2->tt ((cσ js σ).set 0 (some x)) H2 R)
 (FZ:∀ (i:Nat) x z H2 (R:VK),xs[i]?=some x->zs[i]?=some z->p z=true->Same H H2->R (f z) H2->te ((cσ js σ).set 0 (some x)) H2 R)
 (q:∀ D,H D=none->fin D (upd H D (.lst ((zs.filter p).map f)))) :
 ∀ D,H D=none->∃ (n:Nat) (W:Nat->Hp->Prop),W 0 (upd H D (.lst []))/\da js (av 0) tt te σ (Itl K a) D n W fun H'=>fin D H' :=
 oA zs p f hz hn (fun i H2 s hi=>⟨xs,xs[i],s.seq hS,Uh hi⟩) (fun H2 s=>⟨xs,s.seq hS,Uq _⟩) (fun i H2 x H3 s hi hy=>⟨hy.1,hy.2 xs (s.seq hS)⟩) FY FZ q
theorem gA {α:Type} {K:Uj} {a:Ul} {js:List (Option Nat)} {tt:TT} {te:TE} {σ:St} {H:Hp} {xs:List V} {fin:Ul->Hp->Prop} (zs:List α) (p:α->Bool) (f:α->V) (hS:SqT K H a xs) (hz:zs.length=xs.length) (hn:xs.length<=1000000)
 (FY:∀ (i:Nat) x z H2 (R:Bool->Hp->Prop),xs[i]?=some x->zs[i]?=some z->Same H H2->R (p z) H2->tt ((cσ js σ).set 0 (some x)) H2 R)
 (FZ:∀ (i:Nat) x z H2 (R:VK),xs[i]?=some x->zs[i]?=some z->p z=true->Same H H2->R (f z) H2->te ((cσ js σ).set 0 (some x)) H2 R)
 (q:∀ D,H D=none->fin D (upd H D (.lst ((zs.filter p).map f)))) :
 ∀ D,H D=none->∃ (n:Nat) (W:Nat->Hp->Prop),W 0 (upd H D (.lst []))/\da js (av 0) tt te σ (Itt K a) D n W fun H'=>fin D H' :=
 oA zs p f hz hn (fun i H2 s hi=>⟨xs,xs[i],s.seqT hS,Uh hi⟩) (fun H2 s=>⟨xs,s.seqT hS,Uq _⟩) (fun i H2 x H3 s hi hy=>⟨hy.1,hy.2 xs (s.seqT hS)⟩) FY FZ q
end L2
namespace BB
open PySem L2
theorem at0 {α:Type} {x:α} {xs:List α}:atI (x::xs) 0=some x:=cD (j:=0) rfl
theorem at1 {α:Type} {x y:α} {xs:List α}:atI (x::y::xs) 1=some y:=cD (j:=1) rfl
theorem at2 {α:Type} {x y z:α} {xs:List α}:atI (x::y::z::xs) 2=some z:=cD (j:=2) rfl
theorem at3 {α:Type} {x y z u:α} {xs:List α}:atI (x::y::z::u::xs) 3=some u:=cD (j:=3) rfl
theorem jc (x:V) (xs:List V):cB (x::xs) (some 1) none=xs:=by
 unfold cB;simp [HT.sIx]
theorem db:∀ ts:List Th,ts.length<=aC ts
 | []=>Vh _
 | t::ts=>by
   have:=t.size_pos;have:=db ts;rw [Ui,aC];omega
theorem nV (ts:List Th):aC ts.reverse=aC ts:=by
 induction ts with
 | nil=>rfl
 | cons x xs ih=>rw [VX,bX,ih,aC,aC,aC];omega
theorem bj {n:Nat} (h:n<=1000000):n<US:=ZC h (by decide)
theorem aj {n:Nat} (h:n<=1000000):n<=US:=Yg (bj h)
theorem int_at {ns:List Int} {k:Int} (h0:0<=k) (h:k<(ns.length:Int)):atI (ns.map V.int) k=some (.int (ns.getD k.toNat 0)):=by
 refine at_nonneg h0 ?_;have hk:k.toNat<ns.length:=by omega
 rw [Ut,Uh hk,List.getD_eq_getElem?_getD,Uh hk];rfl
def cellAt (ns:List Int) (k:Int):Int:=if k<(ns.length:Int) then ns.getD k.toNat 0%10 ^ 60 else 0
theorem dR (ns:List Int) (k:Int):0<=cellAt ns k:=by
 unfold cellAt;split
 · exact U0 _ (by decide)
 · exact Int.le_refl _
end BB
namespace BB
open PySem L2
section
variable {α β:Type} {F G:α->β->Prop}
theorem P2.append:∀ {a c:List α} {b d:List β},Vg F a b->Vg F c d->Vg F (a++c) (b++d)
 | _,_,_,_,.nil,h=>h
 | _,_,_,_,.cons r t,h=>.cons r (P2.append t h)
theorem P2.get:∀ {a:List α} {b:List β} {i:Nat} {x:α},Vg F a b->a[i]?=some x->∃ y,b[i]?=some y/\F x y
 | _,_,_,_,.nil,e=>by simp at e
 | _,_,0,_,.cons r _,e=>by simp at e;subst e;exact ⟨_,rfl,r⟩
 | _,_,i+1,x,.cons _ t,e=>by
   obtain ⟨u,h1,h2⟩:=P2.get (i:=i) (x:=x) t (by simpa using e);exact ⟨u,by simpa using h1,h2⟩
theorem P2.get':∀ {a:List α} {b:List β} {i:Nat} {y:β},Vg F a b->b[i]?=some y->∃ x,a[i]?=some x/\F x y
 | _,_,_,_,.nil,e=>by simp at e
 | _,_,0,_,.cons r _,e=>by simp at e;subst e;exact ⟨_,rfl,r⟩
 | _,_,i+1,y,.cons _ t,e=>by
   obtain ⟨u,h1,h2⟩:=P2.get' (i:=i) (y:=y) t (by simpa using e);exact ⟨u,by simpa using h1,h2⟩
theorem P2.set {x:α} {y:β} (r:F x y):∀ {a:List α} {b:List β} (i:Nat),Vg F a b->Vg F (a.set i x) (b.set i y)
 | _,_,_,.nil=>.nil
 | _,_,0,.cons _ t=>.cons r t
 | _,_,i+1,.cons h t=>.cons h (P2.set r i t)
theorem P2.take:∀ {a:List α} {b:List β} (n:Nat),Vg F a b->Vg F (a.take n) (b.take n)
 | _,_,0,_=>.nil
 | _,_,_+1,.nil=>.nil
 | _,_,n+1,.cons r t=>.cons r (P2.take n t)
theorem P2.drop:∀ {a:List α} {b:List β} (n:Nat),Vg F a b->Vg F (a.drop n) (b.drop n)
 | _,_,0,r=>r
 | _,_,_+1,.nil=>.nil
 | _,_,n+1,.cons _ t=>P2.drop n t
theorem P2.mp (f:∀ x y,F x y->G x y):∀ {a:List α} {b:List β},Vg F a b->Vg G a b
 | _,_,.nil=>.nil
 | _,_,.cons r t=>.cons (f _ _ r) (P2.mp f t)
end
def KAt (H:Hp) (k:UA×Int) (a:Ul):Prop:=H a=some (.tup [.str k.1,.int k.2])
def KsAt (H:Hp) (ks:List (UA×Int)) (as:List Ul):Prop:=Vg (KAt H) ks as
theorem KsAt.mono {H H':Hp} (k:KT H H') {ks:List (UA×Int)} {as:List Ul} (h:KsAt H ks as):KsAt H' ks as:=P2.mp (fun x y e=>k _ _ e) h
def rests (r:Int):Nat->Int
 | 0=>r
 | k+1=>rests r k / 4+(k:Int)
def dP (cell:Int):Int:=cell * 1000003+4421
def dD (cell:Int):Int:=1+dP cell%6
def qv (cell:Int):List (UA×Int):=(Vr (dD cell).toNat).map fun (k:Nat)=>(nameOf (dP cell / 36) (k:Int),rests (dP cell / 7) k%4)
def kAt (cell:Int):Int:=dP cell / 6%dD cell
def cu (cell:Int):List (UA×Int):=(qv cell).set (kAt cell).toNat (nameOf (dP cell / 36) (kAt cell),0)
theorem jf (cell:Int):1<=dD cell/\dD cell<=6:=by
 have:=U0 (dP cell) (by decide:(6:Int)≠0);have:=UT (dP cell) (by decide:(0:Int)<6);unfold dD;omega
theorem sR (cell:Int):0<=kAt cell/\kAt cell<dD cell:=by
 have:=jf cell;unfold kAt;exact ⟨U0 _ (by omega),UT _ (by omega)⟩
theorem gn (cell:Int):(qv cell).length=(dD cell).toNat:=by unfold qv;rw [Ue,VJ]
theorem dv (cell:Int):(cu cell).length=(dD cell).toNat:=by unfold cu;rw [W6,gn]
theorem mm {cell:Int} {i:Nat} (h:i<(dD cell).toNat):(qv cell)[i]?=some (nameOf (dP cell / 36) (i:Int),rests (dP cell / 7) i%4):=by
 unfold qv;rw [Ut,Xl h];rfl
theorem cQ {cell:Int} {i:Nat} {k:UA×Int} (h:(cu cell)[i]?=some k):k.1=nameOf (dP cell / 36) (i:Int)/\0<=k.2/\k.2<=3/\(i=(kAt cell).toNat->k.2=0):=by
 have hi:i<(dD cell).toNat:=by
  have:=(Uz.mp h).1;rw [dv] at this;exact this
 have ha:=sR cell;unfold cu at h;by_cases e:(kAt cell).toNat=i
 · rw [e,VZ (by rw [gn];exact hi)] at h;cases h;have:(i:Int)=kAt cell:=by omega
   exact ⟨by rw [this],by simp,by simp,fun _=>rfl⟩
 · rw [WE e,mm hi] at h;cases h;have h1:=U0 (rests (dP cell / 7) i) (by decide:(4:Int)≠0);have h2:=UT (rests (dP cell / 7) i) (by decide:(0:Int)<4);exact ⟨rfl,h1,by show rests (dP cell / 7) i%4<=3;omega,fun z=>absurd z.symm e⟩
structure fU (ks:List (UA×Int)):Prop where
 ne:1<=ks.length
 le:ks.length<=6
 low:∀ k∈ks,Low k.1/\k.1.length<=8
 num:∀ k∈ks,0<=k.2/\k.2<=3
 zero:∃ k∈ks,k.2=0
theorem fL (cell:Int):fU (cu cell):=by
 have hm:=jf cell;have ha:=sR cell;refine ⟨by rw [dv];omega,by rw [dv];omega,fun k hk=>?_,fun k hk=>?_,?_⟩
 · obtain ⟨i,hi⟩:=Vj.mp hk;obtain ⟨e,_⟩:=cQ hi;rw [e];exact ⟨sQ _ _,rK _ _⟩
 · obtain ⟨i,hi⟩:=Vj.mp hk;obtain ⟨_,e1,e2,_⟩:=cQ hi;exact ⟨e1,e2⟩
 · have hl:(kAt cell).toNat<(cu cell).length:=by rw [dv];omega
   exact ⟨(cu cell)[(kAt cell).toNat],List.getElem_mem hl,(cQ (Uh hl)).2.2.2 rfl⟩
theorem w6 {cell:Int} (h:0<=cell):0<=dP cell:=by unfold dP;omega
end BB
namespace L2
open PySem
theorem aP {t u:TS} {D:Ends} {σ:St} {H:Hp} (R:St->Hp->Prop) (h1:∀ k:St->Hp->Prop,(∀ f' H',R f' H'->k f' H')->t { D with nx:=k } σ H) (h2:∀ f' H',R f' H'->u D f' H'):wy t u D σ H:=h1 _ h2
theorem b8 {c:TT} {t u:TS} {D:Ends} {σ:St} {H:Hp} (R:Bool->Hp->Prop) (h1:∀ k:Bool->Hp->Prop,(∀ b H',R b H'->k b H')->c σ H k) (h2:∀ H',R true H'->t D σ H') (h3:∀ H',R false H'->u D σ H'):yR c t u D σ H :=
 h1 _ fun b H' r=>by
  cases b with
  | true=>rw [if_pos rfl];exact h2 H' r
  | false=>rw [if_neg UN];exact h3 H' r
end L2
namespace BB
open PySem L2
section
variable {ext:Th->List V} {H H':Hp} {t:Th} {a:Ul} {ts:List Th} {es:List Ul}
end
theorem filter_tt {α:Type} (xs:List α):xs.filter (fun _=>true)=xs:=by
 induction xs with
 | nil=>rfl
 | cons x xs ih=>rw [Xp,if_pos rfl,ih]
theorem eB:∀ {ts:List Th} {t:Th},t∈ts->t.tall<=aL ts
 | u::ts,t,h=>by
   rw [aL];rcases UH.mp h with rfl | h
   · omega
   · have:=eB h;omega
theorem jH {xs:List V} {n:Nat} (h:n<=xs.length):cB xs (some (n:Int)) none=xs.drop n:=by
 unfold cB;rw [HT.sIx_nat,HT.sIx_none,W5 h];exact U8 (by rw [Vi];exact Uq _)
theorem take_snoc {α:Type} {xs:List α} {n:Nat} {x:α} (h:xs[n]?=some x):xs.take (n+1)=xs.take n++[x]:=by rw [XC,h];rfl
theorem bu {xs:List Ul} {i:Nat} {x:V} (h:(xs.map V.ref)[i]?=some x):∃ a,x=.ref a/\xs[i]?=some a:=by
 rw [Ut] at h;obtain ⟨a,h1,h2⟩:=VR.mp h;exact ⟨a,h2.symm,h1⟩
end BB
namespace PySem
open Sem (wp)
section
variable {prog:U1} {w:Vl} {A:Vm} {E:Um->Uo->Prop} {s:Uo}
theorem bb_tupNext {cur tp:Ul} {i:Nat} {items:Array Um} {x:Um} {Q:Um->Uo->Prop} (g:s.heap.IsTupleIter cur tp i) (gt:s.heap.IsTuple tp items) (hx:items[i]?=some x)
 (fin:∀ h',h'.IsTupleIter cur tp (i+1)->WY cur s.heap h'->Q x { s with heap:=h' }):UO (UZ prog w) A (VF (.ref cur)) Q E s:=by
 obtain ⟨ob,e1,e2,e3⟩:=id g;obtain ⟨ot,e4,_,nt,e5⟩:=gt;unfold VF;refine Uk (Wj (name:=Ug "__next__") g.typeIs X4 (Xw X4 g.typeIs F.entry_tuple_iterator_next ?_ (F.args_tuple_iterator_next_1 _)));show UO _ _ (field (.ref cur) 0 >>= _) _ _ s;refine Uk (Vz e1 e3 (x:=.ref tp) rfl ?_);show UO _ _ (if (VT tp == V4)=true then _ else _) _ _ s;rw [if_neg (show ¬ ((VT tp == V4)=true) from UN)];show UO _ _ (field (.ref cur) 1 >>= _) _ _ s;refine Uk (Vz e1 e3 (x:=.int i 0) rfl ?_);show UO _ _ (seqItems? (.ref tp) >>= _) _ _ s;refine Uk (W9 e4 e5 ?_);simp only [VL,hx];refine Uk (ZI e1 e3 (by simp) (UE ⟨x,rfl,UE (fin _ ?_ (Heap.SameBut.update ..))⟩));exact ⟨_,ZF _ e1 (Obj.isFreed_of_fields (YX e3 _)),(Obj.cls_mapFields ..).trans e2,by rw [YX e3];simp [Yx]⟩
theorem bb_tupEnd {cur tp:Ul} {i:Nat} {items:Array Um} {Q:Um->Uo->Prop} (calm:A.handled=none) (g:s.heap.IsTupleIter cur tp i) (gt:s.heap.IsTuple tp items) (hx:items[i]?=none)
 (fin:∀ h' e,Heap.ExtBut cur s.heap h'->(∃ o,h'.get? e=some o/\o.cls=.type "StopIteration")->E (.ref e) { s with heap:=h' }):UO (UZ prog w) A (VF (.ref cur)) Q E s:=by
 obtain ⟨ob,e1,e2,e3⟩:=id g;obtain ⟨ot,e4,_,nt,e5⟩:=gt;unfold VF;refine Uk (Wj (name:=Ug "__next__") g.typeIs X4 (Xw X4 g.typeIs F.entry_tuple_iterator_next ?_ (F.args_tuple_iterator_next_1 _)));show UO _ _ (field (.ref cur) 0 >>= _) _ _ s;refine Uk (Vz e1 e3 (x:=.ref tp) rfl ?_);show UO _ _ (if (VT tp == V4)=true then _ else _) _ _ s;rw [if_neg (show ¬ ((VT tp == V4)=true) from UN)];show UO _ _ (field (.ref cur) 1 >>= _) _ _ s;refine Uk (Vz e1 e3 (x:=.int i 0) rfl ?_);show UO _ _ (seqItems? (.ref tp) >>= _) _ _ s;refine Uk (W9 e4 e5 ?_);simp only [VL,hx];refine Uk (wpAny_rule (Uk (ZI e1 e3 (by simp) ?_)));show UO _ _ (newExc (.type "StopIteration") [] >>= _) _ _ _;refine Uk ?_;simp only [newExc,newTuple];refine Uk (V0 ?_ (by size_fits));refine Uk (m:=firstArgMember _ _) (wpAny_of_eq (a:=V4) (by first | rfl | (simp only [firstArgMember];rfl)) ?_);refine V0 ?_ (by size_fits);simp only [raiseNew];refine Uk (wpAny_handled ?_)
 first | rw [show A.in1.handled=none from calm] | rw [calm]
 refine Uk (UE (wpAny_throw ?_));exact fin _ _ (((Heap.SameBut.update ..).extBut.push _).push _) ⟨_,UG _ rfl,rfl⟩
end
section
variable {prog:U1} {w:Vl} {A:Vm} {E:Um->Uo->Prop} {s:Uo}
end
end PySem
namespace L2
open PySem PySem.Spec PyProof.Rows
theorem Inv.turnedL {X:Cx} {pins:List (Ul×Wz)} {σ:St} {H:Hp} {s:Uo} {h':VO} {t':Nat} {fp:List Ul} (I:Inv X pins σ H s) (k:∀ b o,b∉fp->s.heap.get? b=some o->h'.get? b=some o) (hf:∀ b∈fp,fk X pins H b) :
 Inv X pins σ H { s with heap:=h',toks:=t' }:=by
 have HA:∀ b u,H b=some u->b∉fp:=fun b u e z=>by rw [(hf b z).1] at e;cases e
 refine I.step (g':=s.gens) (d':=s.drawn) (ch:=fp) (fun b hb=>?_) (fun b o _ _ hc e _=>k b o hc e) (fun b o _ _ hc e _=>⟨o.slots,k b o hc e⟩) (fun _ _ _ _ n=>n)
  (fun b o hc e=>⟨o,k b o hc e⟩) (fun _ _ e=>e) (fun _ _ _ e=>e) (fun b ps e=>⟨#[],by rw [e];simp⟩) (fun m hm=>?_) (fun b u e=>?_) I.bare
 · obtain ⟨f0,f1,f2,f3,f4,f5⟩:=hf b hb;exact ⟨f3,f1,f4,f5⟩
 · obtain ⟨o,es,ep,ho,r⟩:=hm;exact ⟨o,es,ep,k _ o (fun z=>(hf _ z).2.1 rfl) ho,r⟩
 · refine (I.hok b u e).stay (fun c v hc q=>k c v ?_ q) (fun _ q=>q) fun _ _ q=>q;rcases hc with z | z
   · rw [z];exact HA b u e
   · exact HA c _ z
section
variable {X:Cx} {e:VI} {te:TE} {p2 BM:Ym}
inductive vg (K:Uj) (x:V) (y:V) (H:Hp) (Q:VK):Prop
 | mk (a:_) (b:_) (xs:_) (ys:_) (Aw:x=.ref a) (Ax:y=.ref b) (AE:SqT K H a xs) (AQ:SqT K H b ys) (Bx:xs.length+ys.length<=US) (B':(xs=[]->Q (.ref b) H)) (DW:(xs≠[]->ys=[]->Q (.ref a) H)) (F0:(xs≠[]->ys≠[]->∀ p,H p=none->Q (.ref p) (upd H p (.tup (xs++ys))))):vg K x y H Q
def x6 (K:Uj):R2:=vg K
theorem dQ:OpR X (XZ .Add) (x6 X.K):=by
 intro pins s σ H x y v u Q I rx ry h;obtain ⟨a,b,xs,ys,e1,e2,ha,hb,hz,q0,q1,q2⟩:=h;by_cases hx:xs=[]
 · subst e1 e2;cases rx;cases ry;obtain ⟨its,r1,p1,_⟩:=I.tuple ha;obtain ⟨An,r2,p2,_⟩:=I.tuple hb;have hi:its=[]:=r1.nil_iff.mpr hx;obtain ⟨⟨cls,dd,data,sl⟩,ho,hc,n,hd⟩:=p1;obtain ⟨⟨HI,GL,data2,GN⟩,FQ,EI,n2,hd2⟩:=p2;simp only at hc hd EI hd2;subst hc hd EI hd2;exact concat_meets ⟨_,ho,rfl⟩ ⟨_,FQ,rfl⟩ noFill_tuple_add seq_tuple_add Y3 YU (YO _ _) (tuple_addW0 a b its.toArray An.toArray n n2 dd GL sl GN (by simp [hi])) ⟨ho,FQ,⟨.ref b,H,I,rfl,q0 hx⟩⟩
 · exact xc pins s σ H x y v u Q I rx ry ⟨a,b,xs,ys,e1,e2,ha,hb,hx,hz,q1 hx,q2 hx⟩
end
end L2
namespace PySem
open Sem (wp)
abbrev tzH1 (h:VO) (l1:Ul):VO:=h.push { cls:=.type "tuple_iterator",data:=.fields #[.ref l1,.int 0 0] }
abbrev tzH2 (h:VO) (l1 l2:Ul):VO:=(tzH1 h l1).push { cls:=.type "tuple_iterator",data:=.fields #[.ref l2,.int 0 0] }
abbrev tzH3 (h:VO) (l1 l2:Ul):VO:=(tzH2 h l1 l2).push { cls:=.type "tuple",data:=.seq #[.ref h.objs.size,.ref (tzH1 h l1).objs.size] }
abbrev tzH4 (h:VO) (l1 l2:Ul):VO:=(tzH3 h l1 l2).push { cls:=.type "tuple",data:=.seq #[.none,.none] }
abbrev tzH5 (h:VO) (l1 l2:Ul):VO:=(tzH4 h l1 l2).push { cls:=.type "zip",data:=.fields #[.none,.bool false,.bool false,.ref (tzH2 h l1 l2).objs.size,.ref (tzH3 h l1 l2).objs.size] }
theorem IsTuple.push' {h:VO} {l:Ul} {xs:Array Um} (x:h.IsTuple l xs) (o:Wz):(h.push o).IsTuple l xs:=let ⟨ob,e,r⟩:=x;⟨ob,Up _ e,r⟩
theorem bb_meets_zip (l1 l2:Ul) (xs ys:Array Um) :
 Meets (Za.«zip.__new__» ⟨[.type "zip",.ref l1,.ref l2],[]⟩) (fun _ R s=>s.heap.IsTuple l1 xs/\s.heap.IsTuple l2 ys ∧
  R (.ok (.ret (.ref (tzH4 s.heap l1 l2).objs.size))) { s with heap:=tzH5 s.heap l1 l2 }) :=
 .of_wp fun prog w A R s h=>by
  obtain ⟨hp,g,d,tk,os⟩:=s;obtain ⟨Bl,Bh,h⟩:=h;have Cb:=sub_zip;have Qu:Heap.IsTuple (Shared.heap ⟨hp,g,d,tk,os⟩) l1 xs:=Bl;have Qv:Heap.IsTuple (Shared.heap ⟨hp.push { cls:=.type "tuple_iterator",data:=.fields #[.ref l1,.int 0 0] },g,d,tk,os⟩) l2 ys:=IsTuple.push' Bh _
  wp_walk using YT Qu,YT Qv
  exact ⟨_,rfl,h⟩
section
variable {prog:U1} {w:Vl} {A:Vm} {E:Um->Uo->Prop} {s:Uo}
theorem bb_call_zip {l1 l2:Ul} {xs ys:Array Um} {Q:Um->Uo->Prop} (Bl:s.heap.IsTuple l1 xs) (Bh:s.heap.IsTuple l2 ys)
 (h:∀ h',Zn h' (s.heap.objs.size+4) (s.heap.objs.size+2) (s.heap.objs.size+3) .none->Xx h' (s.heap.objs.size+2) (.ref s.heap.objs.size) (.ref (s.heap.objs.size+1)) →
  Xx h' (s.heap.objs.size+3) .none .none->h'.IsTupleIter s.heap.objs.size l1 0->h'.IsTupleIter (s.heap.objs.size+1) l2 0->h'.objs.size=s.heap.objs.size+5 →
  (∀ c o,s.heap.get? c=some o->h'.get? c=some o)->Q (.ref (s.heap.objs.size+4)) { s with heap:=h' }) :
 UO (UZ prog w) A (call (.type "zip") [.ref l1,.ref l2]) Q E s:=by
 refine callType_new F.called_zip (by decide) (F.typeCall_zip_2 _ _) (F.newCall_zip_2 _ _) (fun obj=>F.args_object_init_3 obj _ _) F.entry_zip_new
  (bb_meets_zip l1 l2 xs ys) ⟨Bl,Bh,?_⟩
 have z1:(tzH1 s.heap l1).objs.size=s.heap.objs.size+1:=Wi ..;have z2:(tzH2 s.heap l1 l2).objs.size=s.heap.objs.size+2:=by rw [Wi,z1]
 have z3:(tzH3 s.heap l1 l2).objs.size=s.heap.objs.size+3:=by rw [Wi,z2]
 have z4:(tzH4 s.heap l1 l2).objs.size=s.heap.objs.size+4:=by rw [Wi,z3]
 have z5:(tzH5 s.heap l1 l2).objs.size=s.heap.objs.size+5:=by rw [Wi,z4]
 have g5:(tzH5 s.heap l1 l2).get? (tzH4 s.heap l1 l2).objs.size=some _:=UG _ rfl;have g4:(tzH5 s.heap l1 l2).get? (tzH3 s.heap l1 l2).objs.size=some _:=Up _ (UG _ rfl);have g3:(tzH5 s.heap l1 l2).get? (tzH2 s.heap l1 l2).objs.size=some _:=Up _ (Up _ (UG _ rfl));have g2:(tzH5 s.heap l1 l2).get? (tzH1 s.heap l1).objs.size=some _:=Up _ (Up _ (Up _ (UG _ rfl)));have g1:(tzH5 s.heap l1 l2).get? s.heap.objs.size=some _:=Up _ (Up _ (Up _ (Up _ (UG _ rfl))));show _/\_;rw [z2,z3,z4] at g5;rw [z1,z2] at g3;rw [z3] at g4;rw [z1] at g2;rw [z4]
 exact ⟨⟨_,g5,rfl⟩,h _ g5 g3 g4 ⟨_,g1,rfl,rfl⟩ ⟨_,g2,rfl,rfl⟩ z5 fun c o x =>
  Up _ (Up _ (Up _ (Up _ (Up _ x))))⟩
structure ZSt (xs ys:Array Um) (z TI TO i1 i2 l1 l2:Ul) (k:Nat) (h:VO):Prop where
 ap:ZipApart z TI TO i1 i2 l1 l2
 zip:Zn h z TI TO .none∨∃ (T:Ul) (b:Bool) (x y:Um),h.get? z=some { cls:=.type "zip",data:=.fields #[Yx T,.bool b,.bool false,.ref TI,.ref TO] }/\Xx h T x y/\T≠TO
 hTI:Xx h TI (.ref i1) (.ref i2)
 hTO:∃ a b,Xx h TO a b
 h1:h.IsTupleIter i1 l1 k
 h2:h.IsTupleIter i2 l2 k
 t1:h.IsTuple l1 xs
 t2:h.IsTuple l2 ys
theorem ZSt.typeIs {xs ys:Array Um} {z TI TO i1 i2 l1 l2:Ul} {k:Nat} (x:ZSt xs ys z TI TO i1 i2 l1 l2 k s.heap):s.TypeIs (.ref z) "zip":=by
 rcases x.zip with e | ⟨T,b,u,v,e,_⟩
 · exact ⟨_,e,rfl⟩
 · exact ⟨_,e,rfl⟩
theorem IsTuple.but {h h':VO} {c l:Ul} {xs:Array Um} (x:h.IsTuple l xs) (e:Heap.ExtBut c h h') (n:l≠c):h'.IsTuple l xs:=let ⟨ob,q,r⟩:=x;⟨ob,e _ _ n q,r⟩
theorem IsTupleIter.but {h h':VO} {c i l:Ul} {k:Nat} (x:h.IsTupleIter i l k) (e:Heap.ExtBut c h h') (n:i≠c):h'.IsTupleIter i l k:=let ⟨ob,q,r⟩:=x;⟨ob,e _ _ n q,r⟩
end
end PySem
namespace PySem
open Sem (wp)
section
variable {prog:U1} {w:Vl} {A:Vm} {E:Um->Uo->Prop} {s:Uo}
theorem bb_zip_itemA {z TI TO i1 i2 l1 l2:Ul} {k:Nat} {xs ys:Array Um} {x y a b:Um} {Q:Um->Uo->Prop} (D:ZipApart z TI TO i1 i2 l1 l2)
 (hz:Zn s.heap z TI TO .none) (hTI:Xx s.heap TI (.ref i1) (.ref i2)) (hTO:Xx s.heap TO a b)
 (h1:s.heap.IsTupleIter i1 l1 k) (h2:s.heap.IsTupleIter i2 l2 k) (Bl:s.heap.IsTuple l1 xs) (Bh:s.heap.IsTuple l2 ys) (hx:xs[k]?=some x) (hy:ys[k]?=some y)
 (hQ:∀ h',Zn h' z TI TO (Yx s.heap.objs.size)->Xx h' TO x y->h'.IsTupleIter i1 l1 (k+1)->h'.IsTupleIter i2 l2 (k+1)->Xx h' s.heap.objs.size x y->h'.objs.size=s.heap.objs.size+1 →
  (∀ c o,c≠z->c≠TO->c≠i1->c≠i2->s.heap.get? c=some o->h'.get? c=some o)->Q (.ref s.heap.objs.size) { s with heap:=h' }) :
 UO (UZ prog w) A (Za.«zip.__next__» ⟨[.ref z],[]⟩) (fun fin s'=>∃ v,fin=.done (.ret v)/\Q v s') E s:=by
 show UO _ _ (field (.ref z) 2 >>= _) _ _ _;refine Uk (Vz hz rfl (x:=.bool false) rfl ?_);show UO _ _ (field (.ref z) 3 >>= _) _ _ _;refine Uk (Vz hz rfl (x:=.ref TI) rfl ?_);refine Uk (W9 hTI rfl ?_);show UO _ _ (VP (.ref z) >>= _) _ _ _;refine Uk ?_;unfold VP;refine Uk (Vz hz rfl (x:=.none) rfl (UE ?_));simp only [if_true];refine Uk (wpAny_rule ?_);refine Uk (Vz hz rfl (x:=.ref TO) rfl ?_);refine Uk (W8 hz (by simp) fun Ap Bd Aj=>?_);replace Bd:Zn Ap z TI TO .ellipsis:=Bd;refine Uk ?_;simp only [List.zipIdx_cons,List.zipIdx_nil,Ws,List.forIn_nil];refine Uk (Uk (Ze ?_));show UO _ _ (VF (.ref i1) >>= _) _ _ _;refine Uk (bb_tupNext (IsTupleIter.but h1 Aj.extBut D.i1z) (IsTuple.but Bl Aj.extBut D.l1z) hx fun BG DX Ar=>UE ?_);have BN:Xx BG TO a b:=Ar.extBut _ _ D.TOi1 (Aj.extBut _ _ D.TOz hTO);refine Uk (W9 BN rfl ?_);refine Uk (ZH BN fun Cz Cc AN=>?_);replace Cc:Xx Cz TO x b:=Cc;refine Uk (wpAny_letGo (UE ?_));refine Uk (Uk (Ze ?_));show UO _ _ (VF (.ref i2) >>= _) _ _ _
 refine Uk (bb_tupNext (IsTupleIter.but (IsTupleIter.but (IsTupleIter.but h2 Aj.extBut D.i2z) Ar.extBut D.i12.symm) AN.extBut D.TOi2.symm)
  (IsTuple.but (IsTuple.but (IsTuple.but Bh Aj.extBut D.l2z) Ar.extBut D.l2i1) AN.extBut D.l2TO) hy fun Bc HY Bm=>UE ?_)
 have DY:Xx Bc TO x b:=Bm.extBut _ _ D.TOi2 Cc;refine Uk (W9 DY rfl ?_);refine Uk (ZH DY fun AR Cd BD=>?_);replace Cd:Xx AR TO x y:=Cd;refine Uk (wpAny_letGo (UE (UE ?_)));refine Uk (W9 Cd rfl ?_);refine Uk (wpAny_newTuple ?_);have AH:AR.objs.size=s.heap.objs.size:=by rw [BD.1,Bm.1,AN.1,Ar.1,Aj.1]
 have Fb:Zn AR z TI TO .ellipsis:=BD.extBut _ _ D.TOz.symm (Bm.extBut _ _ D.i2z.symm (AN.extBut _ _ D.TOz.symm (Ar.extBut _ _ D.i1z.symm Bd)))
 have HZ:∀ c o,c≠z->c≠TO->c≠i1->c≠i2->s.heap.get? c=some o->AR.get? c=some o:=fun c o c1 c2 c3 c4 e =>
  BD.extBut _ _ c2 (Bm.extBut _ _ c4 (AN.extBut _ _ c2 (Ar.extBut _ _ c3 (Aj.extBut _ _ c1 e))))
 have Ia:AR.IsTupleIter i1 l1 (k+1):=IsTupleIter.but (IsTupleIter.but (IsTupleIter.but DX AN.extBut D.TOi1.symm) Bm.extBut D.i12) BD.extBut D.TOi1.symm;have Ib:AR.IsTupleIter i2 l2 (k+1):=IsTupleIter.but HY BD.extBut D.TOi2.symm;have Ic:z<AR.objs.size:=UJ Fb;show UO _ _ (Builtin.SmallTypes.ownedTupleHandOut (.ref z) (.ref AR.objs.size) >>= _) _ _ _;refine Uk ?_;unfold Builtin.SmallTypes.ownedTupleHandOut;have Ie:Zn (AR.push { cls:=.type "tuple",data:=.seq #[x,y] }) z TI TO .ellipsis:=Up _ Fb;refine Uk (W8 Ie (by simp) fun Ln DZ D0=>?_);replace DZ:Zn Ln z TI TO (Yx AR.objs.size):=DZ;refine W8 DZ (by simp) fun D4 De D5=>?_;replace De:Zn D4 z TI TO (Yx AR.objs.size):=De;have up:∀ c o,c≠z->AR.get? c=some o->D4.get? c=some o:=fun c o c1 e=>D5.extBut _ _ c1 (D0.extBut _ _ c1 (Up _ e));have Fc:Xx D4 AR.objs.size x y:=D5.extBut _ _ (Xc Ic) (D0.extBut _ _ (Xc Ic) (UG _ rfl));have NY:D4.objs.size=AR.objs.size+1:=by rw [D5.1,D0.1,Wi]
 rw [AH] at De Fc NY;refine UE ⟨_,rfl,?_⟩;show Q (.ref AR.objs.size) _;rw [AH];refine hQ D4 De (up _ _ D.TOz Cd) ?_ ?_ Fc NY fun c o c1 c2 c3 c4 e=>up c o c1 (HZ c o c1 c2 c3 c4 e)
 · obtain ⟨o,e,r⟩:=Ia;exact ⟨o,up _ o D.i1z e,r⟩
 · obtain ⟨o,e,r⟩:=Ib;exact ⟨o,up _ o D.i2z e,r⟩
theorem bb_loadIfAlive {a:Ul} {o:Wz} {Q:Option Wz->Uo->Prop} (hQ:∀ u,some o=some u->Q (some u) s) (h:s.heap.get? a=some o):UO (UZ prog w) A (loadIfAlive a) Q E s:=by
 intro Γ p TF;show Sem.wp _ _ (.loadIfAlive a .pure) _ _ _ _;rw [Sem.wp_loadIfAlive,h];exact hQ o rfl
theorem bb_notfree {z T:Ul} {b:Bool} {f2 TI TO u v:Um} (hz:s.heap.get? z=some { cls:=.type "zip",data:=.fields #[Yx T,.bool b,f2,TI,TO] }) (hT:Xx s.heap T u v) :
 UO (UZ prog w) A (VP (.ref z)) (fun a s1=>a=false/\∃ Ap,s1={ s with heap:=Ap }/\Ap.get? z=some { cls:=.type "zip",data:=.fields #[Yx T,.bool true,f2,TI,TO] }/\WY z s.heap Ap) E s:=by
 unfold VP;refine Uk (Vz hz rfl (x:=Yx T) rfl ?_);show UO _ _ (loadIfAlive (T:Int).toNat >>= _) _ _ _;rw [VL];refine Uk (bb_loadIfAlive (fun o (e:some _=some o)=>?_) hT);cases e;show UO _ _ (if (some _:Option Wz).isNone=true then _ else _) _ _ _;rw [if_neg (show ¬ ((some _:Option Wz).isNone=true) from UN)];refine Uk (Vz hz rfl (x:=.bool b) rfl ?_);cases b with
 | true=>exact UE ⟨rfl,s.heap,rfl,hz,rfl,fun _ _=>rfl⟩
 | false=>exact Uk (W8 hz (by simp) fun Ap Bd Aj=>UE ⟨rfl,Ap,rfl,Bd,Aj⟩)
theorem bb_zip_end {z TI TO i1 i2 l1 l2:Ul} {k:Nat} {xs ys:Array Um} {Q:Fin->Uo->Prop} (hh:A.handled=none)
 (S:ZSt xs ys z TI TO i1 i2 l1 l2 k s.heap) (Dy:xs[k]?=none∨ys[k]?=none)
 (hE:∀ h' e,(∀ c o,c≠z->c≠TO->c≠i1->c≠i2->s.heap.get? c=some o->h'.get? c=some o)->(∃ o,h'.get? e=some o/\o.cls=.type "StopIteration")->E (.ref e) { s with heap:=h' }) :
 UO (UZ prog w) A (Za.«zip.__next__» ⟨[.ref z],[]⟩) Q E s:=by
 obtain ⟨D,hz,hTI,⟨a,b,hTO⟩,h1,h2,Bl,Bh⟩:=S;rcases hz with hz | ⟨T,bb,u,v,hz,hT,TH⟩
 · show UO _ _ (field (.ref z) 2 >>= _) _ _ _;refine Uk (Vz hz rfl (x:=.bool false) rfl ?_);show UO _ _ (field (.ref z) 3 >>= _) _ _ _;refine Uk (Vz hz rfl (x:=.ref TI) rfl ?_);refine Uk (W9 hTI rfl ?_);show UO _ _ (VP (.ref z) >>= _) _ _ _;refine Uk ?_;unfold VP;refine Uk (Vz hz rfl (x:=.none) rfl (UE ?_));simp only [if_true];refine Uk (wpAny_rule ?_);refine Uk (Vz hz rfl (x:=.ref TO) rfl ?_);refine Uk (W8 hz (by simp) fun Ap Bd Aj=>?_);replace Bd:Zn Ap z TI TO .ellipsis:=Bd;refine Uk ?_;simp only [List.zipIdx_cons,List.zipIdx_nil,Ws,List.forIn_nil];refine Uk (Uk (Ze ?_));show UO _ _ (VF (.ref i1) >>= _) _ _ _;cases hx:xs[k]? with
   | none =>
     refine Uk (bb_tupEnd hh (IsTupleIter.but h1 Aj.extBut D.i1z) (IsTuple.but Bl Aj.extBut D.l1z) hx fun BG e Ar he=>?_);obtain ⟨oe,Er,Ig⟩:=he;have Fd:Zn BG z TI TO .ellipsis:=Ar _ _ D.i1z.symm Bd;have Lo:e≠z:=fun x=>by subst x;rw [Fd] at Er;cases Er;simp at Ig
     refine W8 Fd (by simp) fun Cz _ AN=>hE Cz e (fun c o c1 _ c3 _ x=>AN.extBut _ _ c1 (Ar _ _ c3 (Aj.extBut _ _ c1 x))) ⟨oe,AN.extBut _ _ Lo Er,Ig⟩
   | some x =>
     have hy:ys[k]?=none:=by rcases Dy with h | h;rw [hx] at h;cases h;exact h
     refine Uk (bb_tupNext (IsTupleIter.but h1 Aj.extBut D.i1z) (IsTuple.but Bl Aj.extBut D.l1z) hx fun BG DX Ar=>UE ?_);have BN:Xx BG TO a b:=Ar.extBut _ _ D.TOi1 (Aj.extBut _ _ D.TOz hTO);refine Uk (W9 BN rfl ?_);refine Uk (ZH BN fun Cz Cc AN=>?_);refine Uk (wpAny_letGo (UE ?_));refine Uk (Uk (Ze ?_));show UO _ _ (VF (.ref i2) >>= _) _ _ _
     refine Uk (bb_tupEnd hh (IsTupleIter.but (IsTupleIter.but (IsTupleIter.but h2 Aj.extBut D.i2z) Ar.extBut D.i12.symm) AN.extBut D.TOi2.symm)
      (IsTuple.but (IsTuple.but (IsTuple.but Bh Aj.extBut D.l2z) Ar.extBut D.l2i1) AN.extBut D.l2TO) hy fun Bc e Bm he=>?_)
     obtain ⟨oe,Er,Ig⟩:=he;have Fe:Zn Bc z TI TO .ellipsis:=Bm _ _ D.i2z.symm (AN.extBut _ _ D.TOz.symm (Ar.extBut _ _ D.i1z.symm Bd));have Lo:e≠z:=fun x=>by subst x;rw [Fe] at Er;cases Er;simp at Ig
     refine W8 Fe (by simp) fun AR _ BD=>hE AR e (fun c o c1 c2 c3 c4 x=>BD.extBut _ _ c1 (Bm _ _ c4 (AN.extBut _ _ c2 (Ar.extBut _ _ c3 (Aj.extBut _ _ c1 x))))) ⟨oe,BD.extBut _ _ Lo Er,Ig⟩
 · show UO _ _ (field (.ref z) 2 >>= _) _ _ _;refine Uk (Vz hz rfl (x:=.bool false) rfl ?_);show UO _ _ (field (.ref z) 3 >>= _) _ _ _;refine Uk (Vz hz rfl (x:=.ref TI) rfl ?_);refine Uk (W9 hTI rfl ?_);show UO _ _ (VP (.ref z) >>= _) _ _ _;refine Uk (VM (bb_notfree hz hT) (fun a s1 ⟨e1,Ap,e2,Bd,Aj⟩=>?_) fun _ _ x=>x);subst e1 e2;simp only [Bool.false_eq_true,if_false];rw [<- Array.forIn_toList];refine Uk ?_;simp only [Ws,List.forIn_nil];refine Uk (Uk (WJ ?_));show UO _ _ (VF (.ref i1) >>= _) _ _ _;cases hx:xs[k]? with
   | none =>
     refine Uk (bb_tupEnd hh (IsTupleIter.but h1 Aj.extBut D.i1z) (IsTuple.but Bl Aj.extBut D.l1z) hx fun BG e Ar he=>?_);exact hE BG e (fun c o c1 _ c3 _ x=>Ar _ _ c3 (Aj.extBut _ _ c1 x)) he
   | some x =>
     have hy:ys[k]?=none:=by rcases Dy with h | h;rw [hx] at h;cases h;exact h
     refine Uk (bb_tupNext (IsTupleIter.but h1 Aj.extBut D.i1z) (IsTuple.but Bl Aj.extBut D.l1z) hx fun BG DX Ar=>UE (UE ?_));refine Uk (Uk (WJ ?_));show UO _ _ (VF (.ref i2) >>= _) _ _ _;refine Uk (bb_tupEnd hh (IsTupleIter.but (IsTupleIter.but h2 Aj.extBut D.i2z) Ar.extBut D.i12.symm) (IsTuple.but (IsTuple.but Bh Aj.extBut D.l2z) Ar.extBut D.l2i1) hy fun Bc e Bm he=>?_);exact hE Bc e (fun c o c1 _ c3 c4 x=>Bm _ _ c4 (Ar.extBut _ _ c3 (Aj.extBut _ _ c1 x))) he
theorem bb_zip_done {z TI TO i1 i2 l1 l2:Ul} {k:Nat} {xs ys:Array Um} {Q:Option Um->Uo->Prop} (hh:A.handled=none) (S:ZSt xs ys z TI TO i1 i2 l1 l2 k s.heap) (Dy:xs[k]?=none∨ys[k]?=none)
 (hQ:∀ h',(∀ c o,c∉[z,TO,i1,i2]->s.heap.get? c=some o->h'.get? c=some o)->Q none { s with heap:=h' }):UO (UZ prog w) A (ZL (.ref z)) Q E s:=by
 have hT:=S.typeIs;unfold ZL
 refine Uk (wpAny_attempt (Wj (name:=Ug "__next__") hT Zz
  (Xw Zz hT F.entry_zip_next (bb_zip_end hh S Dy fun h' e hk he=>?_) (F.args_zip_next_1 _))))
 obtain ⟨o,ho,hc⟩:=he;refine Uk (wpAny_isInstance (T:="StopIteration") (b:=true) ⟨o,ho,hc⟩ isSubtype_stop ?_);exact UE (hQ _ fun c o hc=>hk c o (fun q=>hc (by simp [q])) (fun q=>hc (by simp [q])) (fun q=>hc (by simp [q])) (fun q=>hc (by simp [q])))
end
end PySem
namespace PySem
open Sem (wp)
namespace F
end F
section
variable {prog:U1} {w:Vl} {A:Vm} {R:Zr->Uo->Prop}
end
section
variable {prog:U1} {w:Vl} {A:Vm} {E:Um->Uo->Prop} {s:Uo}
end
end PySem
namespace L2
open PySem PySem.Spec PyProof.Rows
section
variable {X:Cx} {e1 e2:VI} {t:TA} {p p2 pos BM:Ym}
end
end L2
namespace L2
open PySem PySem.Spec PyProof.Rows
section
variable {κ:Type} [DecidableEq κ]
end
section
variable {P:U1} {w:Vl} {H:Hp} {h:VO} {a:Ul}
end
section
variable {X:Cx} {pins:List (Ul×Wz)} {σ:St} {H:Hp} {s:Uo} {a:Ul} {y v:V} {u r:Um} {o:Option V} {A:Vm} {E:Um->Uo->Prop}
end
section
variable {X:Cx} {pins:List (Ul×Wz)} {σ:St} {H:Hp} {s:Uo} {a:Ul} {AU:List (Key×V)} {k:Key} {u:Um} {A:Vm} {E:Um->Uo->Prop}
end
section
variable {X:Cx} {o i e value:VI} {pos pos' EF:Ym} {td ty tv:TE}
end
section
variable {X:Cx} {pos:Ym}
end
section
variable {X:Cx} {pins:List (Ul×Wz)} {σ:St} {H:Hp} {s:Uo} {a:Ul} {y d:V} {u r:Um} {o:Option V} {A:Vm} {E:Um->Uo->Prop}
end
section
variable {X:Cx} {o e f:VI} {apos A6:Ym} {td ty tx:TE}
end
section
variable {X:Cx} {pins:List (Ul×Wz)} {σ:St} {H:Hp} {s:Uo} {a:Ul} {AU:List (Key×V)} {A:Vm} {E:Um->Uo->Prop}
end
section
variable {X:Cx} {pins:List (Ul×Wz)} {σ:St} {H:Hp} {s:Uo} {a:Ul} {y:V} {u:Um} {A:Vm} {E:Um->Uo->Prop}
end
end L2
namespace L2
open PySem PySem.Spec PyProof.Rows
inductive yd (K:Uj) (T:String) (xs:List V) (H:Hp) (Q:VK):Prop
 | mk (x:_) (b:_) (t:_) (Aw:xs=[x,.ty T]) (Ax:i4 K H x t) (AE:U6 K t (.type T)=some b) (AQ:Q (.bl b) H):yd K T xs H Q
def aaB (K:Uj) (T:String):List V->Hp->VK->Prop:=yd K T
theorem dS {X:Cx} {T:String}:dJ X (.builtin "isinstance") (aaB X.K T):=by
 intro pins s σ H xs us Q I r h;obtain ⟨x,b,t,e,ty,k,q⟩:=h;exact v1 (T:=T) (b:=b) (t:=t) pins s σ H xs us Q I r ⟨x,e,ty,k,q⟩
variable {K:Uj}
theorem rP:U6 K (.type "tuple") (.type "tuple")=some true:=rfl
theorem yW:U6 K (.type "str") (.type "str")=some true:=rfl
theorem zb:U6 K (.type "int") (.type "int")=some true:=rfl
theorem r9:U6 K (.type "str") (.type "tuple")=some false:=by with_unfolding_all rfl
theorem yr:U6 K (.type "int") (.type "bool")=some false:=by with_unfolding_all rfl
end L2
namespace BB
open PySem L2
set_option genInjectivity true in
inductive Dv where
 | int (i:Int)
 | str (x:UA)
 | tup (ds:List Dv)
mutual
def Dv.deep:Dv->Nat
 | .int _=>0
 | .str _=>0
 | .tup ds=>eF ds+1
def eF:List Dv->Nat
 | []=>0
 | d::ds=>max d.deep (eF ds)
end
mutual
def Dv.tot:Dv->Nat
 | .int _=>1
 | .str _=>1
 | .tup ds=>xA ds+1
def xA:List Dv->Nat
 | []=>0
 | d::ds=>d.tot+xA ds
end
mutual
def DAt (H:Hp):Dv->V->Prop
 | .int i,v=>v=.int i
 | .str x,v=>v=.str x
 | .tup ds,v=>∃ a vs,v=.ref a/\H a=some (.tup vs)/\DAts H ds vs
def DAts (H:Hp):List Dv->List V->Prop
 | [],vs=>vs=[]
 | d::ds,vs=>∃ v r,vs=v::r/\DAt H d v/\DAts H ds r
end
theorem DAts.nil {H:Hp}:DAts H [] []:=by rw [DAts]
theorem DAts.cons {H:Hp} {d:Dv} {ds:List Dv} {v:V} {vs:List V} (h1:DAt H d v) (h2:DAts H ds vs):DAts H (d::ds) (v::vs):=by rw [DAts];exact ⟨v,vs,rfl,h1,h2⟩
theorem DAts.length {H:Hp}:∀ {ds:List Dv} {vs:List V},DAts H ds vs->vs.length=ds.length
 | [],vs,h=>by rw [DAts] at h;subst h;rfl
 | d::ds,vs,h=>by
   rw [DAts] at h;obtain ⟨v,r,rfl,h1,h2⟩:=h;rw [Ui,Ui,h2.length]
theorem DAts.at {H:Hp}:∀ {ds:List Dv} {vs:List V} {i:Nat} {d:Dv},DAts H ds vs->ds[i]?=some d->∃ v,vs[i]?=some v/\DAt H d v
 | [],vs,i,d,h,e=>by simp at e
 | d0::ds,vs,i,d,h,e=>by
   rw [DAts] at h;obtain ⟨v,r,rfl,h1,h2⟩:=h;cases i with
   | zero=>simp at e;subst e;exact ⟨v,rfl,h1⟩
   | succ i =>
     obtain ⟨u,g1,g2⟩:=h2.at (i:=i) (by simpa using e);exact ⟨u,by simpa using g1,g2⟩
theorem mU:∀ {ds:List Dv} {i:Nat} {d:Dv},ds[i]?=some d->d.deep<=eF ds
 | [],i,d,e=>by simp at e
 | d0::ds,i,d,e=>by
   rw [eF];cases i with
   | zero=>simp at e;subst e;omega
   | succ i =>
     have:=mU (ds:=ds) (i:=i) (by simpa using e);omega
theorem tT:∀ {ds:List Dv} {i:Nat} {d:Dv},ds[i]?=some d->d.tot<=xA ds
 | [],i,d,e=>by simp at e
 | d0::ds,i,d,e=>by
   rw [xA];cases i with
   | zero=>simp at e;subst e;omega
   | succ i =>
     have:=tT (ds:=ds) (i:=i) (by simpa using e);omega
theorem Dv.tot_pos (d:Dv):1<=d.tot:=by
 cases d with
 | int i=>rw [Dv.tot];omega
 | str x=>rw [Dv.tot];omega
 | tup ds=>rw [Dv.tot];omega
theorem oR {K:Uj} {H:Hp} {a b:Ul} {xs ys:List V} {Q:VK} (ha:H a=some (.tup xs)) (hb:H b=some (.tup ys)) (hz:xs.length+ys.length<=1000000) (q:∀ p H',L2.Same H H'->H' p=some (.tup (xs++ys))->Q (.ref p) H'):x6 K (.ref a) (.ref b) H Q:=by
 refine ⟨a,b,xs,ys,rfl,rfl,SqT.of ha,SqT.of hb,aj hz,fun e=>?_,fun _ e=>?_,fun _ _ p hp=>?_⟩
 · exact q b H (.refl _) (by rw [e];exact hb)
 · exact q a H (.refl _) (by rw [e,UY];exact ha)
 · exact q p _ (ag hp _) ae
theorem P2.reverse {α β:Type} {F:α->β->Prop}:∀ {a:List α} {b:List β},Vg F a b->Vg F a.reverse b.reverse
 | _,_,.nil=>.nil
 | _,_,.cons r t=>by
   rw [VX,VX];exact P2.append (P2.reverse t) (.cons r .nil)
theorem P2.snoc_inv {α β:Type} {F:α->β->Prop} {a:List α} {b:List β} {y:β} (h:Vg F a (b++[y])):∃ us x,a=us++[x]/\Vg F us b/\F x y:=by
 have r:=P2.reverse h;rw [Yw,List.reverse_singleton,List.singleton_append] at r;cases e:a.reverse with
 | nil=>rw [e] at r;cases r
 | cons x us =>
   rw [e] at r;cases r with
   | cons h1 h2 =>
     refine ⟨us.reverse,x,?_,?_,h1⟩
     · rw [<- VX,<- e,XI]
     · have:=P2.reverse h2;rw [XI] at this;exact this
end BB
namespace BB
open PySem L2
mutual
def Th.kn:Th->Nat
 | .knot _ ks=>kns ks+1
 | .call _ _=>0
def kns:List Th->Nat
 | []=>0
 | t::ts=>t.kn+kns ts
end
mutual
def Th.FitP (ks:List (UA×Int)):Th->Prop
 | .knot n ts=>(n,(ts.length:Int))∈ks/\ml ks ts
 | .call s k=>0<=s/\s<20/\0<=k/\k<3
def ml (ks:List (UA×Int)):List Th->Prop
 | []=>True
 | t::ts=>t.FitP ks/\ml ks ts
end
section
variable {ext:Th->List V} {H H':Hp} {t:Th} {a:Ul} {ts:List Th} {es:List Ul}
end
def Th.isCall:Th->Bool
 | .knot _ _=>false
 | .call _ _=>true
end BB
namespace BB
open PySem PySem.Spec PyProof.Rows L2
mutual
theorem DAt.inj {H:Hp}:∀ {d e:Dv} {v:V},DAt H d v->DAt H e v->d=e
 | .int i,.int j,v,h,g=>by rw [DAt] at h;rw [DAt] at g;rw [h] at g;cases g;rfl
 | .int i,.str y,v,h,g=>by rw [DAt] at h;rw [DAt] at g;rw [h] at g;cases g
 | .int i,.tup es,v,h,g=>by rw [DAt] at h;rw [DAt] at g;obtain ⟨a,vs,e,_⟩:=g;rw [h] at e;cases e
 | .str x,.int j,v,h,g=>by rw [DAt] at h;rw [DAt] at g;rw [h] at g;cases g
 | .str x,.str y,v,h,g=>by rw [DAt] at h;rw [DAt] at g;rw [h] at g;cases g;rfl
 | .str x,.tup es,v,h,g=>by rw [DAt] at h;rw [DAt] at g;obtain ⟨a,vs,e,_⟩:=g;rw [h] at e;cases e
 | .tup ds,.int j,v,h,g=>by rw [DAt] at h;rw [DAt] at g;obtain ⟨a,vs,e,_⟩:=h;rw [e] at g;cases g
 | .tup ds,.str y,v,h,g=>by rw [DAt] at h;rw [DAt] at g;obtain ⟨a,vs,e,_⟩:=h;rw [e] at g;cases g
 | .tup ds,.tup es,v,h,g=>by
   rw [DAt] at h;rw [DAt] at g;obtain ⟨a,vs,e1,h1,h2⟩:=h;obtain ⟨b,ws,e2,g1,g2⟩:=g;rw [e1] at e2;cases e2;rw [h1] at g1;cases g1;rw [DAts.inj h2 g2]
theorem DAts.inj {H:Hp}:∀ {ds es:List Dv} {vs:List V},DAts H ds vs->DAts H es vs->ds=es
 | [],[],vs,h,g=>rfl
 | [],e::es,vs,h,g=>by rw [DAts] at h;rw [DAts] at g;obtain ⟨v,r,z,_⟩:=g;rw [h] at z;cases z
 | d::ds,[],vs,h,g=>by rw [DAts] at h;rw [DAts] at g;obtain ⟨v,r,z,_⟩:=h;rw [g] at z;cases z
 | d::ds,e::es,vs,h,g=>by
   rw [DAts] at h;rw [DAts] at g;obtain ⟨v,r,z,h1,h2⟩:=h;obtain ⟨v',r',z',g1,g2⟩:=g;rw [z] at z';cases z';rw [DAt.inj h1 g1,DAts.inj h2 g2]
end
end BB
namespace L2
open PySem PySem.Spec PySem.SeqAt PyProof.Rows BB
open Classical in
theorem vE {X:Cx} {pins:List (Ul×Wz)} {σ:St} {H:Hp} {s:Uo} (I:Inv X pins σ H s) {ds es:List Dv} {a b:Ul} {vs ws:List V} {A:Vm} (ha:SqT X.K H a vs) (hb:SqT X.K H b ws) (Dz:DAts H ds vs) (B2:DAts H es ws) (hu:A.units<ZN)
 (ih:∀ (j:Nat) (d e:Dv) (x y:V) (u v:Um),ds[j]?=some d->DAt H d x->DAt H e y->RelV x u->RelV y v->EqAt A.in1 s u v (decide (d=e))):RcAt A s (.ref a) (.ref b) (decide (Dv.tup ds=Dv.tup es)):=by
 obtain ⟨its,r1,p1,_⟩:=I.tuple ha;obtain ⟨An,r2,p2,_⟩:=I.tuple hb;have l1:its.length=ds.length:=by rw [<- r1.length,Dz.length]
 have l2:An.length=es.length:=by rw [<- r2.length,B2.length]
 have Lp:RcAt A s (.ref a) (.ref b) ((Vr (min its.toArray.size An.toArray.size)).all (fun j=>decide (ds[j]?=es[j]?)) && its.toArray.size == An.toArray.size):=by
  refine RcAt.tuples (show s.heap.IsTuple a its.toArray from p1) (show s.heap.IsTuple b An.toArray from p2) hu fun j h1 h2=>?_;have B5:j<ds.length:=by rw [<- l1];simpa using h1
  have B3:j<es.length:=by rw [<- l2];simpa using h2
  have e1:ds[j]?=some ds[j]:=Uh B5;have e2:es[j]?=some es[j]:=Uh B3;obtain ⟨x',Cp,dx⟩:=Dz.at e1;obtain ⟨y',HK,dy⟩:=B2.at e2;obtain ⟨u',EN,Ih⟩:=r1.get Cp;obtain ⟨v',Dt,Ii⟩:=r2.get HK;have e3:decide (ds[j]?=es[j]?)=decide (ds[j]=es[j]):=by rw [e1,e2];simp
  have e4:its.toArray[j]=u':=by
   rw [Uh (by rw [l1];exact B5)] at EN;simpa using EN
  have e5:An.toArray[j]=v':=by
   rw [Uh (by rw [l2];exact B3)] at Dt;simpa using Dt
  rw [e3,e4,e5];exact ih j ds[j] es[j] x' y' u' v' e1 dx dy Ih Ii
 have e:decide (Dv.tup ds=Dv.tup es)=((Vr (min its.toArray.size An.toArray.size)).all (fun j=>decide (ds[j]?=es[j]?)) && its.toArray.size == An.toArray.size):=by
  rw [Ux,Ux,l1,l2];by_cases h:ds=es
  · subst h;rw [decide_eq_true rfl];symm;simp
  · rw [decide_eq_false (fun z=>h (Dv.tup.inj z))];symm;by_cases hl:ds.length=es.length
    · rw [hl,Nat.min_self]
      have:¬ ((Vr es.length).all (fun j=>decide (ds[j]?=es[j]?)))=true:=by
       intro z;apply h;apply Yh;intro j;by_cases hj:j<es.length
       · have:=Vo.mp z j (Xo.mpr hj);exact of_decide_eq_true this
       · rw [VV (by omega),VV (by omega)]
      rw [VB.mpr this];rfl
    · have:(ds.length == es.length)=false:=by simpa using hl
      rw [this,Wo]
 rw [e];exact Lp
open Classical in
theorem t5 {X:Cx} {pins:List (Ul×Wz)} {σ:St} {H:Hp} {s:Uo} (I:Inv X pins σ H s):∀ (n:Nat) (d e:Dv),d.tot<=n->∀ (x y:V) (u v:Um) (A:Vm),DAt H d x->DAt H e y->RelV x u->RelV y v->A.units+d.deep<ZN->EqAt A s u v (decide (d=e))
 | 0,d,e,hn,x,y,u,v,A,hd,he,ru,rv,hu=>by have:=d.tot_pos;omega
 | n+1,.int i,.int j,hn,x,y,u,v,A,hd,he,ru,rv,hu=>by
   rw [DAt] at hd;rw [DAt] at he;subst hd he;obtain ⟨t,rfl⟩:=ru;obtain ⟨t',rfl⟩:=rv
   have e:decide (Dv.int i=Dv.int j)=(i == j):=by
    by_cases h:i=j
    · subst h;simp
    · rw [decide_eq_false (fun z=>h (Dv.int.inj z))];simp [h]
   rw [e];exact EqAt.int_int i t j t'
 | n+1,.int i,.str b,hn,x,y,u,v,A,hd,he,ru,rv,hu=>by
   rw [DAt] at hd;rw [DAt] at he;subst hd he;obtain ⟨t,rfl⟩:=ru;obtain ⟨t',rfl⟩:=rv;rw [decide_eq_false (fun z=>by cases z)];exact EqAt.int_str i t b t'
 | n+1,.int i,.tup es,hn,x,y,u,v,A,hd,he,ru,rv,hu=>by
   rw [DAt] at hd;rw [DAt] at he;obtain ⟨a,vs,rfl,ha,_⟩:=he;subst hd;obtain ⟨t,rfl⟩:=ru;cases rv;obtain ⟨its,_,p,_⟩:=I.tuple (SqT.of (K:=X.K) ha);rw [decide_eq_false (fun z=>by cases z)];exact EqAt.int_tuple i t (show s.heap.IsTuple a its.toArray from p) (by omega)
 | n+1,.str b,.int j,hn,x,y,u,v,A,hd,he,ru,rv,hu=>by
   rw [DAt] at hd;rw [DAt] at he;subst hd he;obtain ⟨t,rfl⟩:=ru;obtain ⟨t',rfl⟩:=rv;rw [decide_eq_false (fun z=>by cases z)];exact EqAt.str_int b t j t'
 | n+1,.str b,.str c,hn,x,y,u,v,A,hd,he,ru,rv,hu=>by
   rw [DAt] at hd;rw [DAt] at he;subst hd he;obtain ⟨t,rfl⟩:=ru;obtain ⟨t',rfl⟩:=rv
   have e:decide (Dv.str b=Dv.str c)=(b == c):=by
    by_cases h:b=c
    · subst h;simp
    · rw [decide_eq_false (fun z=>h (Dv.str.inj z))];simp [h]
   rw [e];exact EqAt.str_str b t c t'
 | n+1,.str b,.tup es,hn,x,y,u,v,A,hd,he,ru,rv,hu=>by
   rw [DAt] at hd;rw [DAt] at he;obtain ⟨a,vs,rfl,ha,_⟩:=he;subst hd;obtain ⟨t,rfl⟩:=ru;cases rv;obtain ⟨its,_,p,_⟩:=I.tuple (SqT.of (K:=X.K) ha);rw [decide_eq_false (fun z=>by cases z)];exact EqAt.str_tuple b t (show s.heap.IsTuple a its.toArray from p) (by omega)
 | n+1,.tup ds,.int j,hn,x,y,u,v,A,hd,he,ru,rv,hu=>by
   rw [DAt] at hd;rw [DAt] at he;obtain ⟨a,vs,rfl,ha,_⟩:=hd;subst he;cases ru;obtain ⟨t,rfl⟩:=rv;obtain ⟨its,_,p,_⟩:=I.tuple (SqT.of (K:=X.K) ha);rw [decide_eq_false (fun z=>by cases z)];exact EqAt.tuple_int j t (show s.heap.IsTuple a its.toArray from p) (by omega)
 | n+1,.tup ds,.str b,hn,x,y,u,v,A,hd,he,ru,rv,hu=>by
   rw [DAt] at hd;rw [DAt] at he;obtain ⟨a,vs,rfl,ha,_⟩:=hd;subst he;cases ru;obtain ⟨t,rfl⟩:=rv;obtain ⟨its,_,p,_⟩:=I.tuple (SqT.of (K:=X.K) ha);rw [decide_eq_false (fun z=>by cases z)];exact EqAt.tuple_str b t (show s.heap.IsTuple a its.toArray from p) (by omega)
 | n+1,.tup ds,.tup es,hn,x,y,u,v,A,hd,he,ru,rv,hu=>by
   have Lq:=hd;have Qw:=he;rw [DAt] at hd;rw [DAt] at he;obtain ⟨a,vs,rfl,ha,Dz⟩:=hd;obtain ⟨b,ws,rfl,hb,B2⟩:=he;cases ru;cases rv;by_cases F1:a=b
   · subst F1;rw [decide_eq_true (DAt.inj Lq Qw)];exact EqAt.same _
   rw [Dv.tot] at hn;rw [Dv.deep] at hu;refine EqAt.of_refs F1 (vE I (SqT.of ha) (SqT.of hb) Dz B2 (by omega) fun j d e x' y' u' v' e1 dx dy Ih Ii=>?_);have q1:=tT e1;have q2:=mU e1;refine t5 I n d e (by omega) x' y' u' v' A.in1 dx dy Ih Ii ?_;show A.units+1+_<ZN;omega
end L2
namespace BB
open PySem L2
theorem nZ:∀ {ks:List Th} {i:Nat} {w x:Th},ks[i]?=some w->aC (ks.set i x)+w.size=aC ks+x.size
 | [],i,w,x,h=>by simp at h
 | k::ks,0,w,x,h=>by
   simp at h;subst h;rw [List.set_cons_zero,aC,aC];omega
 | k::ks,i+1,w,x,h=>by
   have:=nZ (ks:=ks) (i:=i) (w:=w) (x:=x) (by simpa using h);rw [List.set_cons_succ,aC,aC];omega
theorem Ats.set {H:Hp}:∀ {ts:List Th} {as:List Ul} (i:Nat) {x:Th} {a:Ul},Ats H ts as->At H x a->Ats H (ts.set i x) (as.set i a)
 | [],as,i,x,a,h,g=>by rw [Ats] at h;subst h;exact .nil
 | t::ts,as,i,x,a,h,g=>by
   rw [Ats] at h;obtain ⟨b,r,rfl,h1,h2⟩:=h;cases i with
   | zero=>exact .cons g h2
   | succ i=>exact .cons h1 (Ats.set i h2 g)
end BB
namespace PySem
theorem bb_extendT (l:Ul) (items:Array Um) (n:Nat) (b:Ul) (BO:Array Um) (n2:Nat) (dd:Option Ul) (sl:Array (Option Um)) (g0:¬(!items.isEmpty && WL (items.size+BO.size))=true) (g1:items.size<=US) (g2:items.size+BO.size<=US+1) :
 Meets (Za.«list.extend» ⟨[.ref l,.ref b],[]⟩) (fun _ R s=>s.heap.get? l=some { cls:=.type "list",dict:=none,data:=.seq items n,slots:=#[] }/\s.heap.get? b=some { cls:=.type "tuple",dict:=dd,data:=.seq BO n2,slots:=sl }/\R (.ok (.ret V4)) { s with heap:=s.heap.update l (YW fun x=>x++BO),toks:=s.toks }) :=
 .of_wp fun prog w A R s h=>by
  obtain ⟨hp,g,d,tk,os⟩:=s;obtain ⟨hl,hb,h⟩:=h;have f1:=AutoSeq1.idx_int;have f2:=AutoSeq1.sub_tuple_tuple;have f3:=AutoSeq1.sub_list_list;have f4:=AutoSeq1.sub_tuple_list;have f5:=AutoSeq1.sub_list_tuple;have z2:(items++BO).size<=US+1:=by rw [Array.size_append];exact g2
  wp_walk using (wpAny_updateSeq hl rfl (hz:=g1) (_hz':=z2)),AutoSeq1.wpAny_loadPart' hl,AutoSeq1.wpAny_loadPart' hb
  exact ⟨_,rfl,h⟩
end PySem
namespace L2
open PySem PySem.Spec PyProof.Rows
section
variable {X:Cx}
def vC (K:Uj):V->List V->Hp->VK->Prop:=fun x vs H Q=>∃ l b xs zs,x=.ref l/\vs=[.ref b]/\H l=some (.lst xs)/\SqT K H b zs/\xs.length+zs.length<=US/\Q .non (upd H l (.lst (xs++zs)))
theorem rp:MtM X "list.extend" (vC X.K):=by
 intro pins s σ H x vs v us Q I rx rv h;obtain ⟨l,b,xs,zs,rfl,rfl,hH,hB,hz,q⟩:=h;cases rx;obtain ⟨u,rfl,ru⟩:=rv.one;cases ru;obtain ⟨z,its,n,r,hl,e⟩:=I.lstM hH;obtain ⟨An,r2,p2,_⟩:=I.tuple hB;have Bh:=r2.length;obtain ⟨⟨HI,GL,data2,GN⟩,e2,EI,n2,hd2⟩:=p2;simp only at EI hd2;subst EI hd2;have AH:its.toArray.size+An.toArray.size<=US:=by rw [Ux,Ux];omega
 have Cy:¬ (!its.toArray.isEmpty && WL (its.toArray.size+An.toArray.size))=true:=by
  rw [mM AH,Wo];exact UN
 refine Xs F.slot_list_extend ⟨_,e,rfl⟩ F.entry_list_extend (F.args_list_extend_2 _ _)
  (bb_extendT l its.toArray n b An.toArray n2 GL GN Cy (by rw [Ux];omega) (by omega)) ⟨e,e2,?_⟩
 refine ⟨.non,_,I.lset (its':=its++An) hH e (by simp) (r.append r2) ?_,rfl,q⟩;rw [Uu];omega
theorem uD {bs:List Bool} {its:List Um} (r:Vals (bs.map V.bl) its) {i:Nat} {v:Um} (h:its[i]?=some v):∃ b,bs[i]?=some b/\v=.bool b:=by
 have hl:=r.length;have hi:i<its.length:=(Uz.mp h).1;rw [Ue] at hl;obtain ⟨u,hu,ru⟩:=r.get (i:=i) (x:=.bl bs[i]) (by rw [Ut,Uh (by omega)];rfl);rw [h] at hu;cases hu;cases ru;exact ⟨_,Uh (by omega),rfl⟩
def aaF (K:Uj):List V->Hp->VK->Prop:=fun xs H Q=>∃ (p:Ul) (bs:List Bool),xs=[.ref p]/\SqL K H p (bs.map V.bl)/\Q (.bl (bs.all id)) H
theorem qu (hc:X.calm=true):dJ X (.builtin "all") (aaF X.K):=by
 intro pins s σ H xs us Q I r h;obtain ⟨p,bs,rfl,hl,q⟩:=h;obtain ⟨u,rfl,rx⟩:=vals1 r;cases rx;obtain ⟨its,rv,pl,_⟩:=I.list hl;have hlen:=rv.length;rw [Ue] at hlen;have AB:p<s.heap.objs.size:=by obtain ⟨_,_,e,_⟩:=pl;exact UJ e
 refine call_all_walk (Y8 pl.isList ?_);refine ⟨s.heap.objs.size,[s.heap.objs.size,p],[s.heap.objs.size],its.toArray.size,_,_,fun i=>(bs[i]?).getD true,rfl,Walks.list (A:=X.A.in1) (I.ok.hd hc) _ p (Vf AB) its.toArray,⟨⟨_,UG _ rfl,rfl,rfl⟩,pl.isList.push _⟩,fun i v s' Q' E' hP hQ=>?_,fun h' tk hk=>?_⟩
 · obtain ⟨b,e,rfl⟩:=uD rv (i:=i) (v:=v) (by simpa using hP);simp only [e,Option.getD_some] at hQ;exact Wv hQ
 · have e:((Vr its.toArray.size).all fun i=>(bs[i]?).getD true)=bs.all id:=by
    rw [Ux,<- hlen];exact LSm.range_all bs
   rw [e];exact ⟨.bl (bs.all id),H,I.kept (LSm.kept_iter hk),rfl,q⟩
end
end L2
namespace BB
open PySem L2
def cI:List (UA×Int)->UA->Int
 | [],_=>-1
 | k::r,n=>if k.1=n then k.2 else cI r n
theorem iL {n:UA} {m:Nat}:∀ {ks:List (UA×Int)},(ks.map (·.1)).Nodup->(cI ks n=(m:Int)↔(n,(m:Int))∈ks)
 | [],_=>by
   rw [cI];constructor
   · intro h;omega
   · intro h;cases h
 | (a,b)::r,nd=>by
   rw [UB,V8] at nd;rw [cI];by_cases h:a=n
   · rw [if_pos h];subst h;constructor
     · intro e;have e':b=(m:Int):=e;rw [e'];exact Uy ..
     · intro e;rcases UH.mp e with e | e
       · exact (Prod.mk.inj e).2.symm
       · exact absurd (Vq.mpr ⟨_,e,rfl⟩) nd.1
   · rw [if_neg h,iL nd.2];constructor
     · exact Uv _
     · intro e;rcases UH.mp e with e | e
       · exact absurd (Prod.mk.inj e).1.symm h
       · exact e
def okP (ks:List (UA×Int)) (st kd:Int):Th->Bool
 | .knot n ts=>decide (cI ks n=((ts.length:Nat):Int))
 | .call s k=>decide (0<=s/\s<st) && decide (0<=k/\k<kd)
def fpb (ks:List (UA×Int)) (st kd:Int) (t:Th):Bool:=t.walk.all (okP ks st kd)
def uz (ks:List (UA×Int)) (st kd:Int) (ts:List Th):Bool:=(walks ts).all (okP ks st kd)
theorem mh (ks:List (UA×Int)) (st kd:Int) (t:Th):fpb ks st kd t=(okP ks st kd t && uz ks st kd t.kids):=by
 unfold fpb uz;rw [t.walk_eq,Yq]
theorem jb (ks:List (UA×Int)) (st kd:Int):∀ ts:List Th,uz ks st kd ts=(ts.map (fpb ks st kd)).all id
 | []=>by rfl
 | t::ts=>by
   rw [UB,Yq,<- jb ks st kd ts];unfold uz fpb;rw [walks,List.all_append];rfl
theorem nX {w:UA} {n:Int} (h0:0<=n) (h:n+1<=(w.length:Int)):(fF w none (some (n+1))).length=n.toNat+1:=by
 rw [iW]
 have e1:HT.sIx w.length w.length (some (n+1))=n.toNat+1:=by
  show (if n+1<0 then _ else min (n+1).toNat w.length)=_;rw [if_neg (by omega)];omega
 have e2:HT.sIx w.length 0 none=0:=rfl;rw [e1,e2];omega
theorem wN {A B:UA} {c d:Nat} (h:A++⟨#[c]⟩++B=A++⟨#[d]⟩++B):c=d:=by
 have h1:(A.cps++#[c]++B.cps)=(A.cps++#[d]++B.cps):=congrArg Str.cps h;have h2:=congrArg Z2 h1;simp at h2;exact h2
theorem sY {base i j:Int} (hi:0<=i) (J1:i<8) (hj:0<=j) (TJ:j<8) (h:nameOf base i=nameOf base j):i=j:=by
 unfold nameOf at h;split at h
 · have h1:=congrArg Str.length h;rw [nX hi (by rw [dh];omega),nX hj (by rw [dh];omega)] at h1;omega
 · have h1:=wN h;unfold kF at h1;have a1:=U0 (((((base / 112) / 26 ^ (nAt base).toNat)%26).toNat:Int)+i) (by decide:(26:Int)≠0);have a2:=U0 (((((base / 112) / 26 ^ (nAt base).toNat)%26).toNat:Int)+j) (by decide:(26:Int)≠0);generalize ((((base / 112) / 26 ^ (nAt base).toNat)%26).toNat:Int)=l at h1 a1 a2;omega
theorem ie (cell:Int):((cu cell).map (·.1)).Nodup:=by
 have hm:=jf cell;refine List.pairwise_iff_getElem.mpr fun i j hi hj EO e=>?_;rw [Ue] at hi hj;rw [List.getElem_map,List.getElem_map] at e;have e1:=(cQ (Uh hi)).1;have e2:=(cQ (Uh hj)).1;rw [e1,e2] at e;rw [dv] at hi hj;have:=sY (by omega) (by omega) (by omega) (by omega) e;omega
def kDv (k:UA×Int):Dv:=.tup [.str k.1,.int k.2]
theorem xN {a b:UA×Int} (h:kDv a=kDv b):a=b:=by
 unfold kDv at h;have h1:=Dv.tup.inj h;simp at h1;exact ZV h1.1 h1.2
theorem vU {H:Hp}:∀ {ks:List (UA×Int)} {as:List Ul},Vg (KAt H) ks as->DAts H (ks.map kDv) (as.map V.ref)
 | _,_,.nil=>.nil
 | _,_,.cons r h=>by
   rw [UB,UB];refine .cons ?_ (vU h);rw [kDv,DAt];exact ⟨_,_,rfl,r,.cons (by rw [DAt]) (.cons (by rw [DAt]) .nil)⟩
theorem qN:∀ ks:List (UA×Int),eF (ks.map kDv)<=1
 | []=>by rw [Wm,eF];exact Vh _
 | k::ks=>by
   have:=qN ks;rw [UB,eF,kDv];simp only [Dv.deep,eF];omega
theorem zU {p:Prop} [Decidable p] (h:(!decide p)=true):¬ p:=by
 intro z;rw [decide_eq_true z] at h;cases h
theorem yH {p:Prop} [Decidable p] (h:¬ (!decide p)=true):p:=by
 by_cases z:p
 · exact z
 · exfalso;apply h;rw [decide_eq_false z];rfl
theorem Ats.take {H:Hp} {ts:List Th} {as:List Ul} (n:Nat) (h:Ats H ts as):Ats H (ts.take n) (as.take n):=by
 induction n generalizing ts as with
 | zero=>exact .nil
 | succ n ih =>
   cases ts with
   | nil=>rw [Ats] at h;subst h;exact .nil
   | cons t ts =>
     rw [Ats] at h;obtain ⟨b,r,rfl,h1,h2⟩:=h;exact .cons h1 (ih h2)
end BB
namespace PySem
open Sem (wp)
namespace F
end F
section
variable {prog:U1} {w:Vl} {A:Vm} {E:Um->Uo->Prop} {s:Uo} {a:Ul} {xs:Array Um} {k:Nat}
end
end PySem
namespace L2
open PySem PySem.Spec PyProof.Rows BB
section
variable {X:Cx}
end
end L2
namespace BB
open PySem L2
end BB
namespace HT
open PySem PySem.Spec PyProof.Rows
section
variable {prog:U1} {w:Vl} {A:Vm} {E:Um->Uo->Prop} {s:Uo}
theorem getItem_tuple_whole {t sl:Ul} {items:Array Um} {vl vu:Um} {lo hi:Option Int} {Q:Um->Uo->Prop} (ht:IsTup s.heap t items) (hs:s.heap.IsSliceOf sl vl vu .none) (pl:Zv vl lo) (pu:Zv vu hi)
 (hw:sIx items.size 0 lo=0/\sIx items.size items.size hi=items.size) (h:Q (.ref t) s):UO (UZ prog w) A (YL (.ref t) (.ref sl)) Q E s:=by
 obtain ⟨os,B9,EJ,Co⟩:=id hs;have HJ:s.TypeIs (.ref sl) "slice":=⟨os,B9,EJ⟩;have hT:s.TypeIs (.ref t) "tuple":=ht.typeIs;unfold YL
 try with_reducible refine WJ ?_
 first | refine Uk (UE ?_) | skip
 refine Uk (wpAny_sequenceKey ht.typeIs (by decide) ?_)
 refine Uk (Wj (name:=Ug "__getitem__") ht.typeIs Vx
  (Xw Vx ht.typeIs entry_tuple_getitem ?_ (args_tuple_getitem _ _)))
 show UO _ _ (Y0 (.ref t) >>= _) _ _ s;refine Uk (tupleItemsOf_ ht ?_);refine Uk (wpAny_typeOf HJ ?_);rw [if_pos (by decide)];refine Uk (sliceApplied_gen hs pl pu ?_)
 have DA:(((sIx items.size 0 lo:Nat):Int) == 0 && (1:Int) == 1 && (sIx items.size items.size hi - sIx items.size 0 lo) == items.size)=true:=by
  rw [hw.1,hw.2];simp
 show UO _ _ (if (((sIx items.size 0 lo:Nat):Int) == 0 && (1:Int) == 1 && (sIx items.size items.size hi - sIx items.size 0 lo) == items.size)=true then _ else _) _ _ s;rw [if_pos DA];refine Uk (m:=Builtin.Tuple.tupleIsExact _) ?_;unfold Builtin.Tuple.tupleIsExact;refine Uk (wpAny_typeOf hT (UE ?_));rw [if_pos (by decide)];exact Uk (wpAny_rule (UE ⟨_,rfl,UE h⟩))
end
end HT
namespace L2
open PySem PySem.Spec PyProof.Rows
inductive xQ (x:V) (lo:Option Int) (hi:Option Int) (H:Hp) (Q:VK):Prop
 | mk (a:_) (xs:_) (Aw:x=.ref a) (Ax:H a=some (.tup xs)) (AE:∀ p H',Same H H'->H' p=some (.tup (cB xs lo hi))->Q (.ref p) H'):xQ  x lo hi H Q
def aaJ:V->Option Int->Option Int->Hp->VK->Prop:=xQ
theorem lG {X:Cx}:SlR X aaJ:=by
 intro pins s σ H x v vl vu lo hi sl Q I rx hs pl pu h;obtain ⟨a,xs,rfl,ha,q⟩:=h;by_cases hw:HT.sIx xs.length 0 lo=0/\HT.sIx xs.length xs.length hi=xs.length
 · obtain ⟨its,r,p1,hz⟩:=I.tuple (SqT.of (K:=X.K) ha);have hl:=r.length;cases rx
   have e:cB xs lo hi=xs:=by
    unfold cB;rw [hw.1,hw.2,VW,Yz,Xn]
   refine ⟨"tuple",_,Vx.lookup,p1.typeIs,HT.getItem_tuple_whole p1 hs pl pu (by rw [Ux,<- hl];exact hw) ⟨.ref a,H,I,rfl,q a H (.refl _) (by rw [e];exact ha)⟩⟩
 · exact rQ pins s σ H _ v vl vu lo hi sl Q I rx hs pl pu ⟨a,xs,rfl,SqT.of ha,hw,fun p hp=>q p _ (ag hp _) ae⟩
end L2
namespace PySem
open Sem (wp)
section
variable {prog:U1} {w:Vl} {A:Vm} {E:Um->Uo->Prop} {s:Uo} {it d:Ul} {i ep:Nat} {od:Wz} {es:Array DictEntry}
end
end PySem
namespace L2
open PySem PySem.Spec PyProof.Rows
section
variable {X:Cx} {e:VI} {te:TE}
end
end L2
namespace BB
open PySem L2
inductive Top where
 | nm (n:UA) (m:Nat)
 | th (t:Th)
def bl:List Top->List Th
 | []=>[]
 | .nm n m::S=>.knot n ((bl S).take m)::(bl S).drop m
 | .th t::S=>t::bl S
def TopsOk:List Top->Prop
 | []=>True
 | .nm _ m::S=>m<=(bl S).length/\TopsOk S
 | .th _::S=>TopsOk S
theorem TopsOk.drop:∀ {l:List Top} (i:Nat),TopsOk l->TopsOk (l.drop i)
 | l,0,h=>by rw [VW];exact h
 | [],i+1,h=>by rw [List.drop_nil];exact h
 | .nm n m::S,i+1,h=>by
   rw [TopsOk] at h;rw [XX];exact TopsOk.drop i h.2
 | .th t::S,i+1,h=>by
   rw [TopsOk] at h;rw [XX];exact TopsOk.drop i h
theorem sr:∀ l:List Top,(bl l).length<=l.length
 | []=>Uq _
 | .nm n m::S=>by
   have:=sr S;rw [bl,Ui,Ui,Vi];omega
 | .th t::S=>by
   have:=sr S;rw [bl,Ui,Ui];omega
theorem At.same {H:Hp} {t:Th} {a p:Ul} {xs:List V} (h:At H t a) (ha:H a=some (.tup xs)) (hp:H p=some (.tup xs)):At H t p:=by
 cases t with
 | knot n ks =>
   rw [At] at h ⊢;obtain ⟨h0,as,h1,h2⟩:=h;rw [ha] at h1;exact ⟨h0,as,by rw [hp,<- h1],h2⟩
 | call s k =>
   rw [At] at h ⊢;rw [hp,<- ha,h]
mutual
def Th.fill (f:Int->Int->Th):Th->Th
 | .knot n ks=>.knot n (fills f ks)
 | .call s k=>f s k
def fills (f:Int->Int->Th):List Th->List Th
 | []=>[]
 | t::ts=>t.fill f::fills f ts
end
theorem jY (f:Int->Int->Th):∀ ts:List Th,(fills f ts).length=ts.length
 | []=>by rw [fills]
 | t::ts=>by rw [fills,Ui,Ui,jY f ts]
mutual
theorem lH:∀ t:Th,t.fill Th.call=t
 | .knot n ks=>by rw [Th.fill,pM ks]
 | .call s k=>by rw [Th.fill]
theorem pM:∀ ts:List Th,fills Th.call ts=ts
 | []=>by rw [fills]
 | t::ts=>by rw [fills,lH t,pM ts]
end
def eK (f:Int->Int->Th):Th->Top
 | .knot n ks=>.nm n ks.length
 | .call s k=>.th (f s k)
theorem mS (f:Int->Int->Th):∀ (n:Nat) (ts:List Th),aC ts<=n->∀ S,bl ((walks ts).map (eK f)++S)=fills f ts++bl S/\(TopsOk S->TopsOk ((walks ts).map (eK f)++S))
 | _,[],_,S=>by rw [walks,fills];exact ⟨rfl,fun h=>h⟩
 | 0,t::ts,hn,S=>by
   have:=t.size_pos;rw [aC] at hn;omega
 | n+1,t::ts,hn,S=>by
   have hs:=t.size_eq;rw [aC] at hn;have h2:=mS f n ts (by omega) S;have e:(walks (t::ts)).map (eK f)++S=eK f t::((walks t.kids).map (eK f)++((walks ts).map (eK f)++S)):=by rw [walks,t.walk_eq];simp
   have h1:=mS f n t.kids (by omega) ((walks ts).map (eK f)++S);rw [e];cases t with
   | knot nm ks =>
     simp only [Th.kids] at h1 ⊢;refine ⟨?_,fun hS=>?_⟩
     · show bl (.nm nm ks.length::_)=_;rw [bl,h1.1,h2.1,<- jY f ks,List.take_left,List.drop_left,fills,Th.fill];rfl
     · show TopsOk (.nm nm ks.length::_);rw [TopsOk];refine ⟨?_,h1.2 (h2.2 hS)⟩;rw [h1.1,Uu,jY];exact Yo _ _
   | call s k =>
     simp only [Th.kids,walks,Wm,Vs] at h1 ⊢;refine ⟨?_,fun hS=>?_⟩
     · show bl (.th (f s k)::_)=_;rw [bl,h2.1,fills,Th.fill];rfl
     · show TopsOk (.th (f s k)::_);rw [TopsOk];exact h2.2 hS
theorem oF (f:Int->Int->Th) (t:Th):bl (t.walk.map (eK f))=[t.fill f]/\TopsOk (t.walk.map (eK f)):=by
 have h:=mS f _ [t] (Uq _) [];have e:walks [t]=t.walk:=by simp [walks]
 rw [e,UY] at h;refine ⟨?_,h.2 (by rw [TopsOk];trivial)⟩;rw [h.1,fills,fills,bl];rfl
theorem At.width {H:Hp} {t:Th} {a:Ul} {xs:List V} (h:At H t a) (ha:H a=some (.tup xs)):xs.length<=t.size+2:=by
 cases t with
 | knot n ks =>
   rw [At] at h;obtain ⟨_,as,h1,h2⟩:=h;rw [ha] at h1;cases h1;have:=h2.length;have:=db ks;rw [Ui,Ue,Th.size];omega
 | call s k =>
   rw [At] at h;rw [ha] at h;cases h;rw [Th.size];exact Uq _
end BB
namespace PySem
open Sem (wp)
end PySem
namespace L2
open PySem PySem.Spec PyProof.Rows BB
end L2
namespace BB
open PySem L2
theorem qI {k:Nat} {A:Vm} (hr:L2.Room k A):A.units+150+2<ZN:=by
 have:=hr.un;omega
end BB
namespace BB
open PySem L2
end BB
namespace BB
open PySem L2
end BB
namespace L2
open PySem PySem.Spec PySem.SeqAt PyProof.Rows BB
open Classical in
theorem qb {X:Cx} {pins:List (Ul×Wz)} {σ:St} {H:Hp} {s:Uo} (I:Inv X pins σ H s) {ds es:List Dv} {vs ws:List V} {its An:List Um} {A:Vm} (r1:Vals vs its) (r2:Vals ws An) (Dz:DAts H ds vs) (B2:DAts H es ws) (hu:A.units+eF ds+2<ZN) :
 ∀ j (h1:j<its.toArray.size) (h2:j<An.toArray.size),EqAt A.in1 s its.toArray[j] An.toArray[j] (decide (ds[j]?=es[j]?)):=by
 intro j h1 h2;have l1:its.length=ds.length:=by rw [<- r1.length,Dz.length]
 have l2:An.length=es.length:=by rw [<- r2.length,B2.length]
 have B5:j<ds.length:=by rw [<- l1];simpa using h1
 have B3:j<es.length:=by rw [<- l2];simpa using h2
 have e1:ds[j]?=some ds[j]:=Uh B5;have e2:es[j]?=some es[j]:=Uh B3;obtain ⟨x',Cp,dx⟩:=Dz.at e1;obtain ⟨y',HK,dy⟩:=B2.at e2;obtain ⟨u',EN,Ih⟩:=r1.get Cp;obtain ⟨v',Dt,Ii⟩:=r2.get HK;have e3:decide (ds[j]?=es[j]?)=decide (ds[j]=es[j]):=by rw [e1,e2];simp
 have e4:its.toArray[j]=u':=by
  rw [Uh (by rw [l1];exact B5)] at EN;simpa using EN
 have e5:An.toArray[j]=v':=by
  rw [Uh (by rw [l2];exact B3)] at Dt;simpa using Dt
 rw [e3,e4,e5];have q2:=mU e1;refine t5 I _ ds[j] es[j] (Uq _) x' y' u' v' A.in1 dx dy Ih Ii ?_;show A.units+1+_<ZN;omega
open Classical in
theorem lK {ds es:List Dv} (hl:ds.length=es.length):(Vr ds.length).all (fun j=>decide (ds[j]?=es[j]?))=decide (ds=es):=by
 by_cases h:ds=es
 · subst h;rw [decide_eq_true rfl];simp
 · rw [decide_eq_false h];refine VB.mpr fun z=>h (Yh fun j=>?_);by_cases hj:j<ds.length
   · exact of_decide_eq_true (Vo.mp z j (Xo.mpr hj))
   · rw [VV (by omega),VV (by omega)]
def aa2 (K:Uj) (B:Nat):R2:=fun x y H Q=>∃ a b vs ws ds es,x=.ref a/\y=.ref b/\SqL K H a vs/\SqL K H b ws/\DAts H ds vs/\DAts H es ws/\eF ds<=B/\∀ b:Bool,(b=true↔ds≠es)->Q (.bl b) H
open Classical in
theorem yQ {X:Cx} {B:Nat} (hu:X.A.units+B+2<ZN):OpR X (WH .NotEq) (aa2 X.K B):=by
 intro pins s σ H x y v u Q I rx ry h;obtain ⟨a,b,vs,ws,ds,es,rfl,rfl,ha,hb,Dz,B2,hB,q⟩:=h;cases rx;cases ry;obtain ⟨its,r1,p1,_⟩:=I.list ha;obtain ⟨An,r2,p2,_⟩:=I.list hb;have l1:its.length=ds.length:=by rw [<- r1.length,Dz.length]
 have l2:An.length=es.length:=by rw [<- r2.length,B2.length]
 by_cases hl:ds.length=es.length
 · have AH:its.toArray.size=An.toArray.size:=by rw [Ux,Ux];omega
   refine RcNeAt.lists p1.isList p2.isList AH (by omega) (qb I r1 r2 Dz B2 (by omega)) X.prog X.w X.xe _ ?_
   have e:(Vr its.toArray.size).all (fun j=>decide (ds[j]?=es[j]?))=decide (ds=es):=by
    rw [Ux,l1];exact lK hl
   refine ⟨.bl (!decide (ds=es)),H,I,by rw [e];rfl,q _ ?_⟩;simp
 · refine RcNeAt.lists_lengths p1.isList p2.isList (by rw [Ux,Ux,l1,l2];simpa using hl) (by omega) X.prog X.w X.xe _ ⟨.bl true,H,I,rfl,q _ ?_⟩;exact ⟨fun _ z=>hl (by rw [z]),fun _=>rfl⟩
def aaR (K:Uj) (B:Nat):R2:=fun x y H Q=>∃ a b vs ws ds es,x=.ref a/\y=.ref b/\SqT K H a vs/\SqT K H b ws/\DAts H ds vs/\DAts H es ws/\eF ds<=B/\∀ b:Bool,(b=true↔ds≠es)->Q (.bl b) H
open Classical in
theorem yT {X:Cx} {B:Nat} (hu:X.A.units+B+2<ZN):OpR X (WH .NotEq) (aaR X.K B):=by
 intro pins s σ H x y v u Q I rx ry h;obtain ⟨a,b,vs,ws,ds,es,rfl,rfl,ha,hb,Dz,B2,hB,q⟩:=h;cases rx;cases ry;obtain ⟨its,r1,p1,_⟩:=I.tuple ha;obtain ⟨An,r2,p2,_⟩:=I.tuple hb;have l1:its.length=ds.length:=by rw [<- r1.length,Dz.length]
 have l2:An.length=es.length:=by rw [<- r2.length,B2.length]
 refine RcNeAt.tuples (show s.heap.IsTuple a its.toArray from p1) (show s.heap.IsTuple b An.toArray from p2) (by omega) (qb I r1 r2 Dz B2 (by omega)) X.prog X.w X.xe _ ?_
 have e:((Vr (min its.toArray.size An.toArray.size)).all (fun j=>decide (ds[j]?=es[j]?)) && its.toArray.size == An.toArray.size)=decide (ds=es):=by
  rw [Ux,Ux,l1,l2];by_cases hl:ds.length=es.length
  · rw [<- hl,Nat.min_self,lK hl];simp
  · rw [decide_eq_false (fun z=>hl (by rw [z]))];simp [hl]
 refine ⟨.bl (!decide (ds=es)),H,I,by rw [e];rfl,q _ ?_⟩;simp
end L2
namespace BB
open PySem L2
end BB
namespace BB
open PySem L2
end BB
namespace L2
open PySem PySem.Spec PySem.SeqAt PyProof.Rows BB
end L2
namespace BB
open PySem L2
end BB
namespace BB
open PySem L2
end BB
namespace L2
open PySem PySem.Spec PyProof.Rows BB
end L2
namespace BB
open PySem L2
end BB
namespace BB
open PySem L2
end BB
namespace L2
open PySem PySem.Spec PySem.Calls PyProof.Rows PySem.W
structure iE (K:Frag) (C:Ul):Prop where
 exc:excIn K C [.type "ValueError",.type "Exception",.type "BaseException",.type "object"] "ValueError.__new__"=true
 ga:findIn K (.ref C) "__getattribute__"=some (some (.builtin "BaseException.__getattribute__"))
 gt:findIn K (.ref C) "__getattr__"=some none
 cl:findIn K (.ref C) "__class__"=some (some (.builtin "object.__class__"))
 mo:mroIn K C (.type "object")=some true
 mb:mroIn K C (.type "BaseException")=some true
section
variable {prog:U1} {w:Vl} {A:Vm} {E:Um->Uo->Prop} {h:VO} {g:Array GenState} {d:Drawn} {t:Nat} {os:YQ} {a C:Ul} {o:Wz} {K:Frag}
open Builtin Builtin.ObjectAttr Builtin.Getset_descriptor in
theorem uV {R:Zr->Uo->Prop} {tp:Um} (X:K.In h) (hx:h.get? a=some o) (hc:o.cls=.ref C) (F:iE K C) (hq:R (.ok (.ret (.ref C))) ⟨h,g,d,t,os⟩) :
 Yb (UZ prog w) A (.call (.builtin "getset_descriptor.__get__") ⟨[.builtin "object.__class__",.ref a,tp],[]⟩) R ⟨h,g,d,t,os⟩:=by
 have L0:Looks (UZ prog w) h (typeOf (.ref a)) (.ref C):=hc ▸ (Looks.ld hx).andThen .now;have L1:=looks_mroIn (M:=UZ prog w) X F.mo;refine ZM KF.slot_gs.plain KF.entry_gs (KF.slot_gs.check _ _ _ _ _ _ _ _ KF.type_class (KF.args_gs _ _ _) ?_);unfold Za.«getset_descriptor.__get__» descrGet;rw [dga_obj];refine Uk (UE ?_);unfold descrGetter descrCheckInstance descrNameAndClass isInstance;simp only [KF.owner_class]
 repeat lk
 refine ⟨Code.quiet_builtin _ (by decide +kernel),Zx KF.entry_class ?_⟩;unfold Za.«object.__class__» shownTypeOf
 repeat lk
 exact hq
theorem sK {tk:Tok} {Q:Fin->Uo->Prop} (X:K.In h) (hx:h.get? a=some o) (hc:o.cls=.ref C) (F:iE K C) (hq:Q (.done (.ret (.ref C))) ⟨h,g,d,t,os⟩) :
 UO (UZ prog w) A (Za.«object.__getattribute__» ⟨[.ref a,.str "__class__" tk],[]⟩) Q E ⟨h,g,d,t,os⟩:=by
 have f5:=PySem.F.typeOf_object_class;have f6:=PySem.F.slot_gs_get.lookup;have f7:=PySem.F.slot_gs_set.lookup;have L1:=looks_findIn (M:=UZ prog w) X F.cl
 repeat (any_goals (first | assumption | (with_reducible refine wpAny_loadPart_at hx ?_;rw [hc]) | with_reducible refine L1.at ?_ | wp_step))
 refine uV X hx hc F ?_
 repeat (any_goals (first | assumption | wp_step))
theorem sj {M:Model} {Ff:Um} {Q:Unit->Uo->Prop} (X:K.In h) (hx:h.get? a=some o) (hc:o.cls=.ref C) (F:iE K C) (hq:Q () ⟨h,g,d,t,os⟩) :
 UO M A (checkBuiltinCall "BaseException.__getattribute__" ⟨[.ref a,Ff],[]⟩) Q E ⟨h,g,d,t,os⟩:=by
 have hk:builtinKind "BaseException.__getattribute__"=some .slot:=by decide +kernel
 have F2:splitId "BaseException.__getattribute__"=some ("BaseException","__getattribute__"):=by decide +kernel
 have ha:=PySem.F.args_bexc_ga (.ref a) Ff;have L0:Looks M h (typeOf (.ref a)) (.ref C):=hc ▸ (Looks.ld hx).andThen .now;have L1:=looks_mroIn (M:=M) X F.mb;simp only [checkBuiltinCall,hk,F2];refine Uk ?_
 · unfold isInstance
   repeat (first | with_reducible refine L0.at ?_ | with_reducible refine L1.at ?_ | wp_step)
   exact hq
theorem uf {tk:Tok} {R:Zr->Uo->Prop} (X:K.In h) (hx:h.get? a=some o) (hc:o.cls=.ref C) (F:iE K C) (hq:R (.ok (.ret (.ref C))) ⟨h,g,d,t,os⟩) :
 Yb (UZ prog w) A (.call (.builtin "BaseException.__getattribute__") ⟨[.ref a,.str "__class__" tk],[]⟩) R ⟨h,g,d,t,os⟩ :=
 ZM PySem.F.attr_ValueError.ga.plain PySem.F.entry_bexc_ga (sj X hx hc F (sK X hx hc F hq))
theorem xD {tk:Tok} {fill expr:Bool} {Q:Um->Uo->Prop} (X:K.In h) (hx:h.get? a=some o) (hc:o.cls=.ref C) (F:iE K C) (hq:Q (.ref C) ⟨h,g,d,t,os⟩) :
 UO (UZ prog w) A (getAttrBy (.ref a) (.str "__class__" tk) fill expr) Q E ⟨h,g,d,t,os⟩:=by
 have f3:=PySem.F.attr_ValueError.ga.bind (.ref a);have TK:(expr && onTheHeap (Zg "BaseException.__getattribute__"))=false:=by cases expr <;> rfl
 have Ij:(Zg "BaseException.__getattribute__" == Zg "object.__getattribute__")=false:=by decide +kernel
 have NZ:(onTheHeap (VT C) && Zg "BaseException.__getattribute__" == Zg "object.__getattribute__")=false:=by rw [Ij];rfl
 have L1:=looks_findIn (M:=UZ prog w) X F.ga;have L2:=looks_findIn (M:=UZ prog w) X F.gt
 repeat (any_goals (first | assumption | (with_reducible refine wpAny_loadPart_at hx ?_;rw [hc]) | with_reducible refine L1.at ?_ | with_reducible refine L2.at ?_ | wp_step))
 refine uf X hx hc F ?_
 repeat (any_goals (first | assumption | wp_step))
theorem uJ {Q:Option Um->Uo->Prop} (X:K.In h) (hx:h.get? a=some o) (hc:o.cls=.ref C) (F:iE K C) (hq:Q (some (.ref C)) ⟨h,g,d,t+1,os⟩) :
 UO (UZ prog w) A (getAttr? (.ref a) "__class__") Q E ⟨h,g,d,t,os⟩:=by
 unfold getAttr? getAttrBy?
 repeat (any_goals (first | assumption | with_reducible apply xD X hx hc F | wp_step))
theorem ve (F:iE K C):KitX K (.ref a) (.ref C) (fun h=>∃ o,h.get? a=some o/\o.cls=.ref C) where
 ty:=fun _ _ _ ⟨_,hx,hc⟩=>hc ▸ (Looks.ld hx).andThen .now
 it:=fun _ _ X _=>by
  have hb:=F.mb;unfold mroIn clsIn at hb;split at hb
  · rename_i c' d' Qx KZ ho
    intro A' Q' E' s' k q;unfold isType loadHead;exact Uk (wpAny_loadPart (k _ _ (X _ _ ho)) (UE q))
  · cases hb
 ne:=fun h tp dd its n sl X Fg=>by
  refine VB.mpr fun q=>?_;have e:C=tp:=Value.ref.inj (beq_iff_eq.mp q);subst e;have hb:=F.mb;unfold mroIn clsIn at hb;split at hb
  · rename_i c' d' Qx KZ ho
    have z:=(X _ _ ho).symm.trans Fg;cases z
  · cases hb
 ca:=fun {_ _ _ _ _ s} X ⟨_,hx,hc⟩ k=>by obtain ⟨h,g,d,t,os⟩:=s;exact uJ X hx hc F k
end
def zB:V->Um
 | .ref D=>.ref D
 | .ty n=>.type n
 | _=>.none
def v7 (K:Frag) (ea C:Ul):List V->Hp->VK->Prop:=fun xs H Q=>∃ v b,xs=[.ref ea,v]/\kitOne K (.ref C) (zB v)=some b/\Q (.bl b) H
theorem jl {X:Cx} {K:Frag} {ea C:Ul} {oe:Wz} (hp:(ea,oe)∈X.pn) (hc:oe.cls=.ref C) (F:iE K C) (hK:X.K=K:=by rfl):dJ X (.builtin "isinstance") (v7 K ea C):=by
 subst hK;intro pins s σ H xs us Q I r h;obtain ⟨v,b,rfl,k,q⟩:=h;obtain ⟨u,w',rfl,r1,r2⟩:=vals2 r;cases (show u=VT ea from r1)
 have hv:w'=zB v:=by
  cases v with
  | ref D=>exact r2
  | ty n=>exact r2
  | non=>exact absurd k (by intro z;cases z)
  | bl _=>exact absurd k (by intro z;cases z)
  | int _=>exact absurd k (by intro z;cases z)
  | str _=>exact absurd k (by intro z;cases z)
  | byt _=>exact absurd k (by intro z;cases z)
  | flt _=>exact absurd k (by intro z;cases z)
 subst hv;have hx:=(I.pin (ea,oe) (VH _ hp)).1;exact kia_one (ve F) I.kIn ⟨oe,hx,hc⟩ k (fun z=>nomatch z) fun tk=>⟨.bl b,H,I.tok tk,rfl,q⟩
end L2
namespace L2
open PySem PySem.Spec PySem.Calls PyProof.Rows PySem.W
theorem ObjOk.there {P:U1} {w:Vl} {H:Hp} {h:VO} {a:Ul} {o:HO} (x:ObjOk P w H h a o):∃ ob,h.get? a=some ob:=by
 cases o with
 | lst xs=>obtain ⟨_,_,_,_,e⟩:=x;exact ⟨_,e⟩
 | tup xs=>obtain ⟨_,_,_,_,e⟩:=x;exact ⟨_,e⟩
 | dK AU=>obtain ⟨_,_,_,_,o,_,_,e,_⟩:=x;exact ⟨_,e⟩
 | dT AU=>obtain ⟨_,_,_,_,o,_,_,e,_⟩:=x;exact ⟨_,e⟩
 | set S n=>obtain ⟨o,_,_,_,e,_⟩:=x;exact ⟨_,e⟩
 | ins C dx fs=>obtain ⟨_,_,_,e,_⟩:=x;exact ⟨_,e⟩
 | own y=>obtain ⟨_,e⟩:=x;exact ⟨_,e⟩
 | xd fs=>obtain ⟨_,⟨_,_,_,e,_⟩,_⟩:=x;exact ⟨_,e⟩
 | rng lo hi=>obtain ⟨_,_,_,e⟩:=x;exact ⟨_,e⟩
 | frz ob u=>obtain ⟨e,_⟩:=x;exact ⟨_,e⟩
 | tbl ps=>exact ⟨_,(show h.get? a=some _ from x)⟩
 | met f y=>exact ⟨_,(show h.get? a=some _ from x)⟩
 | ext φ=>obtain ⟨_,⟨_,e⟩,_⟩:=x;exact ⟨_,e⟩
def CX1 (P:U1) (w:Vl):CXT:=fun outer H s E e s'=>∃ (ea C:Ul) (a0:Um) (B:VO) (H':Hp),
 e=.ref ea/\s'.os=s.os/\ZG s'.gens/\Un (frs outer) [] H H' s.heap s'.heap/\HOk P w H' s'.heap/\Heap.FlyingW B outer ea (.ref C) a0 s'.heap ∧
 (∀ b o,s.heap.get? b=some o->b∉frs outer->∃ o',B.get? b=some o'/\(H b=none->o'=o))/\(∀ b u,H' b=some u->∃ o',B.get? b=some o')/\E (.ref C) none H'
theorem lF {P:U1} {w:Vl} {H':Hp} {B h h':VO} (hok:HOk P w H' h) (k1:B.StaysIn h) (k2:B.StaysIn h') (b2:∀ b u,H' b=some u->∃ o',B.get? b=some o'):HOk P w H' h':=fun a o e =>
 (hok a o e).stay (fun b u hb q=>by
  have ht:∃ v,H' b=some v:=by
   rcases hb with rfl | hb
   · exact ⟨_,e⟩
   · exact ⟨_,hb⟩
  obtain ⟨v,hv⟩:=ht;obtain ⟨o',Ct⟩:=b2 b v hv;have:=k1 b o' Ct;rw [q] at this;cases this;exact k2 b _ Ct) (fun _ q=>q) fun _ _ q=>q
theorem rS {fs:List Ul} {H H1 H':Hp} {h h1 h2 h':VO} {l:List Ul} {B:VO} (u1:Un fs [] H H1 h h1) (u2:Un l [] H1 H' h1 h2) (hl:∀ b o,h.get? b=some o->b∈l->b∈fs)
 (b1:∀ b o,h1.get? b=some o->b∉l->∃ o',B.get? b=some o'/\(H1 b=none->o'=o)) (st:B.StaysIn h') (up:h2.UpToSlots h')
 (hf:∀ b∈fs,H b=none/\∃ o,h.get? b=some o/\∀ vs,o.data≠.fields vs) :
 Un fs [] H H' h h'/\∀ b o,h.get? b=some o->b∉fs->∃ o',B.get? b=some o'/\(H b=none->o'=o):=by
 have nx:∀ b:Ul,b∉([]:List Ul):=fun b=>by simp
 have bb:∀ b o,h.get? b=some o->b∉fs->∃ o',B.get? b=some o'/\(H b=none->o'=o):=fun b o q nf=>by
  obtain ⟨o1,e1⟩:=u1.there b o q (nx b);obtain ⟨o',e',g⟩:=b1 b o1 e1 fun z=>nf (hl b o q z);refine ⟨o',e',fun n=>?_⟩;have:=u1.keep b o q n nf (nx b);rw [e1] at this;cases this;exact g (u1.free b _ q n (nx b))
 have sl:∀ b o,h.get? b=some o->H b=none->b∈fs->∃ sl,h'.get? b=some { o with slots:=sl }:=fun b o q n m=>by
  obtain ⟨s1,e1⟩:=u1.slot b o q n m (nx b);obtain ⟨s2,e2⟩:=u2.any e1 (u1.free b o q n (nx b)) (nx b);obtain ⟨_,o0,q0,nf⟩:=hf b m;rw [q] at q0;cases q0;obtain ⟨s3,e3⟩:=up b _ e2 nf;exact ⟨s3,e3⟩
 refine ⟨⟨fun b o q n nf _=>?_,fun b o q n m _=>sl b o q n m,fun b o q n _=>?_,fun b o q _=>?_,fun b xs q=>u2.tups b xs (u1.tups b xs q),fun b o u q=>u2.frzs b o u (u1.frzs b o u q),fun b ps q=>?_⟩,bb⟩
 · obtain ⟨o',e',g⟩:=bb b o q nf;rw [<- g n];exact st b o' e'
 · obtain ⟨o1,e1⟩:=u1.there b o q (nx b);exact u2.free b o1 e1 (u1.free b o q n (nx b)) (nx b)
 · by_cases m:b∈fs
   · obtain ⟨n,_⟩:=hf b m;obtain ⟨s3,e3⟩:=sl b o q n m;exact ⟨_,e3⟩
   · obtain ⟨o',e',_⟩:=bb b o q m;exact ⟨o',st b o' e'⟩
 · obtain ⟨m1,e1⟩:=u1.tbls b ps q;obtain ⟨m2,e2⟩:=u2.tbls b _ e1;exact ⟨m1++m2,by rw [e2,YH]⟩
section
variable {P:U1} {w:Vl} {K:Uj} {mg:UA->Option Um} {base:VO} {N:List UA} {qual:UA} {scope:Xh} {f:Ul} {cd:Um} {A:Vm} {outer:List Zp} {s:Uo} {H:Hp} {E:XK}
theorem o3 {l:List Zp} {env:Zp} {L:Ul} (hf:env.frame=some L):frs (env::l)=L::frs l:=by unfold frs;rw [Xm,hf]
theorem cP:Passes (CX1 P w) (cH (CX1 P w) P w K mg base N qual scope f cd A outer s H E) E:=by
 intro pins σ H1 s1 e s2 I h;obtain ⟨ea,C,a0,B,H',rfl,B9,CC,un,hok,DB,b1,b2,q⟩:=h;show UO _ _ (leaving _ _) _ _ s2;refine wpAny_leaves_onW (E:=fun e' HF=>CX1 P w outer H s E e' HF) I.ok.frames rfl DB fun h' F3 up=>?_
 obtain ⟨U,Ik⟩:=rS (fs:=frs outer) (H:=H) (h:=s.heap) (l:=frs (W2 qual scope s.heap.objs.size f cd::outer)) (B:=B) (h':=h') I.base un (fun b o hb z=>by
  rw [o3 (L:=s.heap.objs.size) rfl] at z;rcases UH.mp z with rfl | z
  · exact absurd (UJ hb) (VC _)
  · exact z) b1 F3.1 up (fun b hb=>⟨I.ok.frf b hb,(I.ok.funs.mem hb).2⟩)
 exact ⟨ea,C,a0,B,H',rfl,B9.trans I.os,CC,U,lF hok DB.1 F3.1 b2,F3,Ik,b2,q⟩
def yK (te:TE) (C:Ul) (E:XK):TS:=fun _ σ H=>te σ H fun _ H1=>E (.ref C) none H1
theorem wJ {h:VO} {C:Ul} {x:UA} (X:K.In h) (F:iE K C) (hm:mg x=some (.ref C)):OwnCls x C [.type "ValueError",.type "Exception",.type "BaseException",.type "object"] "ValueError.__new__" mg h:=by
 have q:=F.exc;refine ⟨hm,?_⟩;unfold excIn at q;split at q
 · rename_i dd cd sl ho
   split at q
   · rename_i C' bm k0 k1 k2 k3 n k5 hm hs
     simp only [Vv,beq_iff_eq,Z1] at q;obtain ⟨⟨⟨⟨⟨rfl,rfl⟩,Il⟩,ht⟩,hok⟩,Im⟩:=q;obtain ⟨nm,bs,mro,ns,qn,hd,sn,sub,ab,col,del⟩:=cd;dsimp only at hm Il hok Im;subst hm Il
     have DM:sl=#[k0,k1,k2,k3,some (.builtin "ValueError.__new__"),k5]:=by
      obtain ⟨l⟩:=sl;simp only at hs;rw [hs]
     subst DM;exact ⟨bm,ns,nm,qn,bs,hd,sn,sub,ab,col,dd,k0,k1,k2,k3,k5,_,X _ _ ho,.of_isNs (isNs_of_in X hok),nsMap_none_of_in X hok Im,tail_of_in X ht⟩
   · cases q
 · cases q
theorem bF {C:Ul} {x:UA} {e0:VI} {te:TE} {np A6 pos:Ym} (F:iE K C) (hm:mg x=some (.ref C)) (he:PE (cH (CX1 P w) P w K mg base N qual scope f cd A outer s H E) e0 te)
 (hx:(W2 qual scope s.heap.objs.size f cd).kindOf x=some .globalImplicit:=by rfl)
 (AG:Vt [e0] (W2 qual scope s.heap.objs.size f cd)=[(false,WS e0 (W2 qual scope s.heap.objs.size f cd))]:=by rfl) (hd:(x == ("__debug__":UA))=false:=by decide) :
 PS (cH (CX1 P w) P w K mg base N qual scope f cd A outer s H E) (.Raise (some (.Call (.Name x np) [e0] [] A6)) none pos) (yK te C E):=by
 intro pins s1 σ H1 D I h;obtain ⟨tl,N',nm,q,bs,hdct,sn,sub,ab,col,dd,k0,k1,k2,k3,k5,mN,hC,hN,Im,T⟩:=(wJ I.mod.kin F hm).obj
 refine wpAny_Raise_call_subT (C:=C) (nm:=nm) (q:=q) (N:=N') (bs:=bs) (bm:=tl) (hdct:=hdct) (sn:=sn) (sub:=sub) (ab:=ab) (col:=col) (dd:=dd) (k0:=k0) (k1:=k1) (k2:=k2) (k3:=k3) (k5:=k5)
  PySem.F.excBase_ValueError (mN:=mN) (T.hasType PySem.F.excBase_ValueError.hasBase) (I.ok.hd rfl) (by show (Yt A6 (Vt [e0] (W2 qual scope s.heap.objs.size f cd))).any (·.1)=false;rw [AG];rfl) Im (jd I hx hm ⟨rfl,?_⟩ hd)
 show UO _ _ (evalArgs _ true (Yt A6 (Vt [e0] (W2 qual scope s.heap.objs.size f cd))) []) _ _ _;rw [AG];refine X5 (WI (thn (he pins s1 σ H1 _ I h) fun v s2 ⟨y,H2,I2,r2,q2⟩=>XS ⟨rfl,by show 1<=US;decide,I2.bk _ _ hC,hN.keeps I2.bk,T.keeps I2.bk,fun h' e hx=>?_⟩));show UO _ _ (leaving _ _) _ _ _;have FF:=I2.stack;have hl:∀ env∈W2 qual scope s.heap.objs.size f cd::outer,∀ a,env.frame=some a->a∈frs (W2 qual scope s.heap.objs.size f cd::outer):=fun env he a ha=>YG.mpr ⟨env,he,ha⟩;refine wpAny_leaves_madeW (base:=Yi s2.heap (frs (W2 qual scope s.heap.objs.size f cd::outer))) (h:=s2.heap) I.ok.frames rfl (fun b o z=>of_hideAll _ z) (funFrames_hide FF hl) hx fun h2 t DB tup tn up=>?_;have nf:∀ b u,H2 b=some u->b∉frs (W2 qual scope s.heap.objs.size f cd::outer):=fun b u e z=>by rw [I2.stkFree b z] at e;cases e
 obtain ⟨U,Ik⟩:=rS (fs:=frs outer) (H:=H) (H1:=H2) (H':=H2) (h:=s.heap) (h1:=s2.heap) (h2:=h') (l:=frs (W2 qual scope s.heap.objs.size f cd::outer)) (B:=Yi s2.heap (frs (W2 qual scope s.heap.objs.size f cd::outer))) (h':=h2) I2.base (Un.kept hx.keeps) (fun b o hb z=>by
  rw [o3 (L:=s.heap.objs.size) rfl] at z;rcases UH.mp z with rfl | z
  · exact absurd (UJ hb) (VC _)
  · exact z) (fun b o hb z=>⟨o,hideAll_get _ hb z,fun _=>rfl⟩) DB.1 up (fun b hb=>⟨I.ok.frf b hb,(I.ok.funs.mem hb).2⟩)
 have b2:∀ b u,H2 b=some u->∃ o',(Yi s2.heap (frs (W2 qual scope s.heap.objs.size f cd::outer))).get? b=some o':=fun b u e=>by
  obtain ⟨o,ho⟩:=(I2.hok b u e).there;exact ⟨o,hideAll_get _ ho (nf b u e)⟩
 exact ⟨e,C,.ref t,_,H2,rfl,I2.os,I2.bare,U,lF I2.hok (fun b o z=>of_hideAll _ z) DB.1 b2,DB,Ik,b2,q2⟩
end
end L2
namespace L2
open PySem PySem.Spec PySem.Calls PyProof.Rows PySem.W
section
variable {X:Cx} {pins:List (Ul×Wz)} {σ:St} {H:Hp} {s:Uo}
def Cx.tryB (X:Cx) (pins:List (Ul×Wz)) (R:St->Um->Hp->Prop):Cx:={ X with
 pn:=X.pn++pins
 xe:=fun e s'=>∃ AX H1 s1,Inv X pins AX H1 s1/\CX1 X.prog X.w X.stack H1 s1 (fun c _ H'=>R AX c H') e s' }
def Cx.suite (X:Cx) (ea:Ul) (oe:Wz):Cx:={ X with
 A:=X.A.mark (some (.ref ea))
 calm:=false
 pn:=X.pn++[(ea,oe)]
 xe:=fun _ _=>False }
theorem Inv.tryB (I:Inv X pins σ H s) (R:St->Um->Hp->Prop):Inv (X.tryB pins R) [] σ H s :=
 ⟨⟨I.ok.mod,I.ok.kind,I.ok.glob,I.ok.blt,I.ok.above,I.ok.inj,I.ok.has,I.ok.cab,I.ok.hd,I.ok.frames,I.ok.stk,I.ok.exf,I.ok.bs,I.ok.bsz,I.ok.noex,I.ok.exfs,I.ok.funs,I.ok.frf⟩,
   I.os,I.bare,I.base,I.loc,I.cell,I.free,I.freeC,fun p hp=>I.pin p (by simpa [Cx.tryB] using hp),I.hok,I.len⟩
theorem Inv.untryB {R:St->Um->Hp->Prop} {AD:List (Ul×Wz)} (I:Inv (X.tryB pins R) AD σ H s):Inv X pins σ H s :=
 ⟨⟨I.ok.mod,I.ok.kind,I.ok.glob,I.ok.blt,I.ok.above,I.ok.inj,I.ok.has,I.ok.cab,I.ok.hd,I.ok.frames,I.ok.stk,I.ok.exf,I.ok.bs,I.ok.bsz,I.ok.noex,I.ok.exfs,I.ok.funs,I.ok.frf⟩,
   I.os,I.bare,I.base,I.loc,I.cell,I.free,I.freeC,fun p hp=>I.pin p (VH _ hp),I.hok,I.len⟩
theorem Inv.suite {ea:Ul} {oe:Wz} (I:Inv X pins σ H s) (h:s.heap.get? ea=some oe/\H ea=none/\ea≠X.env.locals/\ea∉X.fs/\∀ v,oe.data≠.cell v):Inv (X.suite ea oe) pins σ H s :=
 ⟨⟨I.ok.mod,I.ok.kind,I.ok.glob,I.ok.blt,I.ok.above,I.ok.inj,I.ok.has,I.ok.cab,(fun z=>nomatch z),I.ok.frames,I.ok.stk,I.ok.exf,I.ok.bs,I.ok.bsz,I.ok.noex,I.ok.exfs,I.ok.funs,I.ok.frf⟩,
   I.os,I.bare,I.base,I.loc,I.cell,I.free,I.freeC,fun p hp=>by
    have hp:p∈(X.pn++[(ea,oe)])++pins:=hp;rcases UP.mp hp with hp | hp
    · rcases UP.mp hp with hp | hp
      · exact I.pin p (VH _ hp)
      · obtain rfl:=UW.mp hp;exact h
    · exact I.pin p (UU _ hp),I.hok,I.len⟩
theorem Inv.unsuite {ea:Ul} {oe:Wz} (I:Inv (X.suite ea oe) pins σ H s) (hd:X.calm=true->X.A.handled=none):Inv X pins σ H s :=
 ⟨⟨I.ok.mod,I.ok.kind,I.ok.glob,I.ok.blt,I.ok.above,I.ok.inj,I.ok.has,I.ok.cab,hd,I.ok.frames,I.ok.stk,I.ok.exf,I.ok.bs,I.ok.bsz,I.ok.noex,I.ok.exfs,I.ok.funs,I.ok.frf⟩,
   I.os,I.bare,I.base,I.loc,I.cell,I.free,I.freeC,fun p hp=>I.pin p (by
    show p∈(X.pn++[(ea,oe)])++pins;rcases UP.mp hp with hp | hp
    · exact VH _ (VH _ hp)
    · exact UU _ hp),I.hok,I.len⟩
theorem name_goes {M:Model} {A:Vm} {E:Um->Uo->Prop} {i:Nat} {x:UA} {pos:Ym} {Q:Unit->Uo->Prop} (I:Inv X pins σ H s) (hN:X.N.Nodup) (hi:X.N[i]?=some x) (hx:X.env.scope.names.lookup x=some .local)
 (h:∀ s',Inv X pins (σ.set i none) H s'->Q () s'):UO M A (do bindName X.env x .none;ZJ X.env x pos) Q E s:=by
 have BI:(X.env.scope.kind == .class || (X.env.scope.kind == .module && X.env.locals != X.env.globals))=false:=by rw [I.ok.kind];rfl
 refine Uk (wpAny_bindName (fw (v:=.non) I hN hi (.inl hx) rfl (fun s1 I1=>?_) (.inr hx)));unfold ZJ;refine Ze (VM (E:=fun _ _=>False) ?_ (fun _ _ z=>z) fun _ _ z=>z.elim);obtain ⟨m,hn,hl⟩:=id I1.loc;have CQ:i<σ.length:=by rw [I.len];exact (Uz.mp hi).1
 obtain ⟨u,ru,lu⟩:=hl i x .non hi (VZ CQ) (.inl hx)
 have hv:m x=some V4:=by
  rcases lu with ⟨_,e⟩ | ⟨k,_⟩
  · cases (show u=V4 from ru);exact e
  · have Cp:X.env.kindOf x=some .local:=hx;rw [Cp] at k;rcases k with k | k <;> cases k
 refine wpAny_unbindName_local hx hn hv BI fun h' u' En hs=>?_;obtain ⟨oL,_,_,JU,_⟩:=id hn;have GH:∀ b o,X.s₀.heap.get? b=some o->b≠X.env.locals:=fun b o e=>Vf (Vd (UJ e) I.ok.above);refine h _ ⟨I1.ok,I1.os,I1.bare,⟨fun b o e n hb hx=>(hs.2 b (GH b o e)).trans (I1.base.keep b o e n hb hx),fun b o e n hb hx=>?_,I1.base.free,fun b o e hx=>?_,I1.base.tups,I1.base.frzs,I1.base.tbls⟩,⟨_,En,fun j y v' e1 e2 e3=>?_⟩,fun y c e=>?_,I1.free,I1.freeC,fun p hp=>?_,?_,by simpa using I.len⟩
 · obtain ⟨sl,e1⟩:=I1.base.slot b o e n hb hx;exact ⟨sl,(hs.2 b (GH b o e)).trans e1⟩
 · obtain ⟨o',e1⟩:=I1.base.there b o e hx;exact ⟨o',(hs.2 b (GH b o e)).trans e1⟩
 · by_cases hj:j=i
   · subst hj;rw [VZ CQ] at e2;cases e2
   · rw [WE (WX hj)] at e2;obtain ⟨u2,r2,q2⟩:=hl j y v' e1 (by rw [WE (WX hj)];exact e2) e3;refine ⟨u2,r2,?_⟩;rcases q2 with ⟨k,e⟩ | ⟨k,c,e,z⟩
     · refine .inl ⟨k,?_⟩;have:y≠x:=fun e=>hj (gb hN e1 (e ▸ hi));simp [this,e]
     · exact .inr ⟨k,c,e,z.sameBut hs (I1.cne y c e)⟩
 · obtain ⟨w',z⟩:=I1.cell y c e;exact ⟨w',z.sameBut hs (I1.cne y c e)⟩
 · obtain ⟨e,n,ne,nf,d⟩:=I1.pin p hp;exact ⟨(hs.2 p.1 ne).trans e,n,ne,nf,d⟩
 · intro b ob e;refine (I1.hok b ob e).stay (fun c w' hc q=>(hs.2 c ?_).trans q) (fun _ q=>q) fun _ _ q=>q;rintro rfl;rcases hc with rfl | hc
   · rw [I1.free] at e;cases e
   · rw [I1.free] at hc;cases hc
end
structure Hit (K:Frag) (C Ch:Ul):Prop where
 exc:iE K C
 hit:exmOne K (.ref C) (.ref Ch)=some true
def Ends.as (D:Ends) (i:Nat):Ends:={ nx:=fun σ H=>D.nx (σ.set i none) H,rt:=D.rt,bk:=fun σ H=>D.bk (σ.set i none) H,ct:=fun σ H=>D.ct (σ.set i none) H }
def yB (K:Frag) (Ch:Ul) (i:Nat) (ts:Ul->Ul->TS) (D:Ends):St->Um->Hp->Prop:=fun AX c H'=>∃ C,c=.ref C/\Hit K C Ch/\∀ ea,H' ea=none->ts ea C (D.as i) (AX.set i (some (.ref ea))) H'
def zr (K:Frag) (Ch:Ul) (i:Nat) (tb:(St->Um->Hp->Prop)->TS) (ts:Ul->Ul->TS):TS:=fun D σ H=>tb (yB K Ch i ts D) D σ H
theorem SP.untryB {X:Cx} {pins:List (Ul×Wz)} {R:St->Um->Hp->Prop} {D:Ends} {f:Flow} {s':Uo} (h:SP (X.tryB pins R) [] D f s'):SP X pins D f s':=by
 cases f with
 | next=>obtain ⟨f',H',I,q⟩:=h;exact ⟨f',H',I.untryB,q⟩
 | brk=>obtain ⟨f',H',I,q⟩:=h;exact ⟨f',H',I.untryB,q⟩
 | cont=>obtain ⟨f',H',I,q⟩:=h;exact ⟨f',H',I.untryB,q⟩
 | ret u=>obtain ⟨v,f',H',I,r,q⟩:=h;exact ⟨v,f',H',I.untryB,r,q⟩
theorem uN {X:Cx} {Ch:Ul} {cx n:UA} {i:Nat} {np CD pos:Ym} {body suite:List V5} {b0:V5} {tb:(St->Um->Hp->Prop)->TS} {ts:Ul->Ul->TS}
 (hb:∀ pins R,PSs (X.tryB pins R) body (tb R)) (hs:∀ ea oe C,oe.cls=.ref C->iE X.K C->PSs (X.suite ea oe) (b0::suite) (ts ea C))
 (hN:X.N.Nodup) (hi:X.N[i]?=some n) (hn:X.env.scope.names.lookup n=some .local) (AG:X.stack=X.env::X.outer) (J2:X.env.frame=some X.env.locals) (hg:Gl X cx) (hm:X.mg cx=some (.ref Ch))
 (hd:(cx == ("__debug__":UA))=false:=by decide) :
 PS X (.Try body [.ExceptHandler (some (.Name cx np)) (some n) (b0::suite) CD] [] [] pos) (zr X.K Ch i tb ts):=by
 intro pins s σ H D I h;refine wpAny_Try_except ?_;have BK:=hb pins (yB X.K Ch i ts D) [] s σ H D (I.tryB _) h;refine VM BK (fun f s1 q=>?_) fun e s1 q=>?_
 · have q':=SP.untryB q;cases f with
   | next=>exact XG q'
   | brk=>exact q'
   | cont=>exact q'
   | ret u=>exact q'
 · obtain ⟨AX,H1,s0,I1,ea,C,a0,B,H',rfl,B9,CC,un,hok,DB,b1,b2,C',Lm,hit,q⟩:=q;cases Lm;rw [AG] at DB;have Lr:X.A.frames=some (X.env::X.outer):=by rw [<- AG];exact I1.ok.frames
   have inv:∀ (h6:VO) (tk:Nat),Heap.FlyingW B (X.env::X.outer) ea (.ref C) a0 h6->s1.heap.UpToSlots h6->Inv X pins AX H' { s1 with heap:=h6 }:=fun h6 tk BP up=>by
    obtain ⟨U,_⟩:=rS (fs:=frs X.stack) (H:=H1) (H1:=H1) (h:=s0.heap) (h1:=s0.heap) (h':=h6) (l:=frs X.stack) (B:=B) Un.refl un (fun b o _ z=>z) b1 BP.1 up (fun b hb=>⟨I1.stkFree b hb,(I1.stack.mem hb).2⟩);exact I1.call' (s':={ s1 with heap:=h6 }) (ch:=[]) B9 U (lF hok DB.1 BP.1 b2) CC fun _ z=>nomatch z
   refine wpAny_looks_onW Lr J2 DB fun h4 Io Qy=>?_;refine wpAny_landsW Io fun h5 F4 Ls=>?_;have Ip:=Qy.trans Ls;have I5:=inv h5 0 F4 Ip;obtain ⟨o5,Qz,QA⟩:=F4.there;refine wpAny_handleBy_cons (codeAny_handlers_test ?_) (by intro q;cases q);have TL:Inv (X.wish X.xe) pins AX H' { s1 with heap:=h5 }:=I5;refine YZ I5.ok.kind hg (Calls.loadGlobal_global (by rw [I5.ok.glob];exact I5.mod.glob.keeps I5.bk) hm ?_) hd;refine (exm_one (M:=UZ X.prog X.w) (h:=h5) I5.kIn (QA ▸ (Looks.ld Qz).andThen .now) hit.hit).here ?_;refine codeAny_handlers_suite_as ?_;refine lands_againW (s:={ s1 with heap:=h5 }) F4 fun h6 BP Lu=>?_;have I6:=inv h6 0 BP (Ip.trans Lu);obtain ⟨oe,vs,Er,EC,N0,_⟩:=BP.first
   have Fh:H' ea=none:=by
    cases z:H' ea with
    | none=>rfl
    | some u =>
      obtain ⟨o',Ct⟩:=b2 ea u z;rw [BP.2.1] at Ct;cases Ct
   have CM:ea∉frs (X.env::X.outer):=fun z=>by
    obtain ⟨_,o,ho,nf⟩:=BP.2.2.1.mem z;rw [Er] at ho;cases ho;exact nf vs N0
   rw [o3 J2] at CM;have IS:Inv (X.suite ea oe) pins AX H' { s1 with heap:=h6 }:=I6.suite ⟨Er,Fh,fun z=>CM (z ▸ Uy),fun z=>CM (Uv _ z),fun v z=>by rw [N0] at z;cases z⟩;refine fw (X:=X.suite ea oe) (v:=.ref ea) IS hN hi (.inl hn) rfl (fun s7 I7=>?_) (.inr hn);refine VM (hs ea oe C EC hit.exc pins s7 _ H' (D.as i) I7 (q ea Fh)) (fun f s8 q8=>?_) fun _ _ z=>Wf z
   have fin:∀ {CW:St} {H8:Hp} {Q:Unit->Uo->Prop},Inv (X.suite ea oe) pins CW H8 s8->(∀ s9,Inv X pins (CW.set i none) H8 s9->Q () s9)->UO (UZ X.prog X.w) X.A (do bindName X.env n .none;ZJ X.env n CD) Q X.xe s8:=fun {CW H8 Q} J k =>
    name_goes (J.unsuite I1.ok.hd) hN hi hn k
   cases f with
   | next=>obtain ⟨CW,H8,J,q⟩:=q8;exact fin J fun s9 J9=>⟨_,H8,J9,q⟩
   | brk=>obtain ⟨CW,H8,J,q⟩:=q8;exact fin J fun s9 J9=>⟨_,H8,J9,q⟩
   | cont=>obtain ⟨CW,H8,J,q⟩:=q8;exact fin J fun s9 J9=>⟨_,H8,J9,q⟩
   | ret u=>obtain ⟨v,CW,H8,J,r,q⟩:=q8;exact fin J fun s9 J9=>⟨v,_,H8,J9,r,q⟩
end L2
namespace L2
open PySem PySem.Spec PySem.Calls PyProof.Rows PySem.W
section
variable {P:U1} {w:Vl} {K:Uj} {mg:UA->Option Um} {base:VO}
theorem Fun.ok1 {x qual:UA} {st:V5} {f:Ul} {fd:WV} {N ps:List UA} {k:Nat} {sp:Sp} (F:Fun K x qual st f fd) (S:aF N ps (am st)) (len:∀ vs H Q E,sp vs H Q E->vs.length=ps.length)
 (BK:∀ (Ao:Um) (A:Vm) (outer:List Zp) (s:Uo) (H:Hp) (vs:List V) (Q:VK) (E:XK),Room k (A.deeper (W2 qual (am st) s.heap.objs.size f Ao))->sp vs H Q E →
  ∃ t,PSs (cH (CX1 P w) P w K mg base N qual (am st) f Ao A outer s H E) (bC st) t/\t { nx:=fun _ H'=>Q .non H',rt:=Q } (start N vs) H):FnOk P w K mg base (CX1 P w) (k+1) f fd ps sp:=by
 obtain ⟨oc,od,kV,doc,pm,an,Ao,ct,EH,rfl,lk,Ds⟩:=F.ex;exact yl lk Ds S len fun A outer s H vs Q E hr B0=>BK Ao A outer s H vs Q E hr B0
end
def v4 (sp:Sp) (BC:List V) (R:St->Um->Hp->Prop) (t:TA):TE:=fun σ H Q=>t σ H fun vs H1=>sp (vs++BC) H1 Q fun c _ H'=>R σ c H'
theorem ww {X:Cx} {pins:List (Ul×Wz)} {R:St->Um->Hp->Prop} {k:Nat} {f:Ul} {fd:WV} {ps:List UA} {sp:Sp} {BC:List V} {ds:List Um} {x:UA} {p pos:Ym} {e:VI} {es:List VI} {t:TA}
 (F:FnOk X.prog X.w X.K X.mg X.base (CX1 X.prog X.w) k f fd ps sp) (hr:Room k X.A) (hg:Gl X x) (hm:X.mg x=some (.ref f)) (hk:WB X.K (.ref f)=true) (hb:Binds X.K fd ps ds) (hd:Vals BC ds)
 (ha:PA (X.tryB pins R) (e::es) t) (Du:(x == ("__debug__":UA))=false:=by decide) (he:Vt (e::es) X.env=(false,WS e X.env)::Vt es X.env:=by rfl) (Bj:(Yt pos (Vt es X.env)).any (·.1)=false:=by rfl) :
 PE (X.tryB pins R) (.Call (.Name x p) (e::es) [] pos) (v4 sp BC R t):=by
 intro AD s σ H Q I h;refine WG (jd I hg hm ?_ Du);refine ZA (h₀:=X.base) I.ok.mod.kin hk (thn (ha pos AD s σ H _ I h) fun us s1 ⟨vs,H1,I1,r,q⟩=>⟨I1.kIn,?_⟩) he Bj;have r2:Vals (vs++BC) (us++ds):=r.append hd;have hl:(us++ds).length=ps.length:=by rw [<- r2.length];exact F.len _ _ _ _ q
 refine wpAny_call (X9 (F.run X.A X.stack s1 H1 ⟨us,[]⟩ (us++ds) (vs++BC) Q _ hr I1.env0 (hb s1 us I1.kIn hl) r2 q) fun r s' hq=>?_);cases r with
 | error e=>exact ⟨σ,H1,s1,I1.untryB,hq⟩
 | ok fl =>
   cases fl with
   | ret u=>exact I1.after hq
   | next=>exact Wf hq
   | brk=>exact Wf hq
   | cont=>exact Wf hq
theorem uG {K:Frag} {Ch:Ul} {i:Nat} {tb:(St->Um->Hp->Prop)->TS} {ts:Ul->Ul->TS} {D:Ends} {σ:St} {H:Hp} (R:St->Um->Hp->Prop) (h1:∀ R':St->Um->Hp->Prop,(∀ AX c H',R AX c H'->R' AX c H')->tb R' D σ H)
 (h2:∀ AX c H',R AX c H'->yB K Ch i ts D AX c H'):zr K Ch i tb ts D σ H:=h1 _ h2
theorem gW {X:Cx} {ea:Ul} {oe:Wz}:(ea,oe)∈(X.suite ea oe).pn:=UU _ (UW.mpr rfl)
end L2
namespace L2
open PySem PySem.Spec PySem.Calls PyProof.Rows PySem.SeqAt
theorem ff {k:Nat} {A:Vm} (hr:Room k A):A.units+2<ZN:=by
 have:=hr.units;omega
def aar (K:Uj):R2:=fun x y H Q=>∃ (a b:Ul) (bs cs:List Bool),x=.ref a/\y=.ref b/\SqL K H a (bs.map V.bl)/\SqL K H b (cs.map V.bl)/\Q (.bl (bs == cs)) H
theorem tY {bs:List Bool} {us:List Um} (r:Vals (bs.map V.bl) us):us=bs.map Xu:=by
 induction bs generalizing us with
 | nil=>cases r;rfl
 | cons b bs ih =>
   cases r with
   | cons r1 r2 =>
     rw [ih r2];cases (show _=Xu b from r1);rfl
theorem xg {bs cs:List Bool} (hl:bs.length=cs.length):(Vr bs.length).all (fun j=>(bs.getD j false == cs.getD j false))=(bs == cs):=by
 induction bs generalizing cs with
 | nil=>cases cs with
   | nil=>rfl
   | cons c cs=>cases hl
 | cons b bs ih=>cases cs with
   | nil=>cases hl
   | cons c cs =>
     rw [Ui,List.range_succ_eq_map,Yq,ZX];show ((b == c) && _)=_;have:=ih (cs:=cs) (by simpa using hl);rw [List.cons_beq_cons,<- this];rfl
theorem lJ {X:Cx} (hu:X.A.units+2<ZN):OpR X (WH .Eq) (aar X.K):=by
 intro pins s σ H x y v u Q I rx ry h;obtain ⟨a,b,bs,cs,rfl,rfl,ha,hb,q⟩:=h;cases rx;cases ry;obtain ⟨its,r1,p1,_⟩:=I.list ha;obtain ⟨An,r2,p2,_⟩:=I.list hb;have e1:=tY r1;have e2:=tY r2;subst e1 e2;by_cases hl:bs.length=cs.length
 · have AH:(bs.map Xu).toArray.size=(cs.map Xu).toArray.size:=by simp [hl]
   refine RcAt.lists (e:=fun j=>(bs.getD j false == cs.getD j false)) p1.isList p2.isList AH (by omega) (fun j h1 h2=>?_) X.prog X.w X.xe _ ?_
   · have B5:j<bs.length:=by simpa using h1
     have B3:j<cs.length:=by simpa using h2
     have z1:bs.getD j false=bs[j]:=by simp [List.getD,B5]
     have z2:cs.getD j false=cs[j]:=by simp [List.getD,B3]
     have y1:(bs.map Xu).toArray[j]=Xu bs[j]:=by simp
     have y2:(cs.map Xu).toArray[j]=Xu cs[j]:=by simp
     rw [z1,z2,y1,y2];exact EqAt.bool_bool _ _
   · refine ⟨.bl (bs == cs),H,I,?_,q⟩;rw [<- xg hl];simp;rfl
 · refine RcAt.lists_lengths p1.isList p2.isList (by simpa using hl) (by omega) X.prog X.w X.xe _ ⟨.bl (bs == cs),H,I,?_,q⟩;have:(bs == cs)=false:=beq_eq_false_iff_ne.mpr fun z=>hl (by rw [z]);rw [this];rfl
end L2
namespace L2
open PySem PySem.Spec PySem.Calls PyProof.Rows
def Its (x:UA):It:=⟨fun i _=>i<x.cps.size,fun i H v H'=>H'=H/\∃ c,x.cps[i]?=some c/\v=.str ⟨#[c]⟩,fun i _=>x.cps.size=i⟩
theorem mY {P:U1} {w:Vl} {K:Uj} {tg:VI} (x:UA) (t:Tok) (it:Ul):Turn P w K tg (Its x) [it] it (fun i h=>h.IsStrIter it "str_ascii_iterator" x t i) where
 mem:=by simp
 obj:=fun i h st b hb=>by
  have e:b=it:=by simpa using hb
  subst e;obtain ⟨o,e,c,d⟩:=st;exact ⟨o,e,fun v z=>by rw [d] at z;cases z⟩
 keep:=fun i h h' st k=>let ⟨o,ho,r⟩:=st;⟨o,k it (by simp) o ho,r⟩
 item:=by
  intro X hP hw hK hc i pins s σ H E I hf st hg;subst hP hw hK;obtain ⟨f0,f1,f2,f3,f4,f5⟩:=hf it (by simp);have hg:i<x.cps.size:=hg;refine wpAny_pyNext_ascii_item st (c:=x.cps[i]) (by simp [hg]) fun h' BF sb=>?_;have I1:Inv X pins σ H { s with heap:=h',toks:=s.toks+1 }:=I.turned (fun b o hb e=>(sb.2 b hb).trans e) f0 f1 f3 f4 f5;obtain ⟨o,e,c,d⟩:=id BF;exact ⟨_,rfl,lP (s:={ s with heap:=h',toks:=s.toks+1 }) e c d (by decide) ⟨.str ⟨#[x.cps[i]]⟩,H,I1,⟨_,rfl⟩,⟨rfl,_,by simp [hg],rfl⟩,BF,fun b hb=>(hf b hb).1⟩⟩
 done:=by
  intro X hP hw hK hc i pins s σ H E I hf st hg;subst hP hw hK;obtain ⟨f0,f1,f2,f3,f4,f5⟩:=hf it (by simp);have hg:x.cps.size=i:=hg;exact wpAny_pyNext_ascii_end (I.ok.hd hc) st (by simp [<- hg]) fun h' eb=>⟨rfl,I.turned (t':=s.toks) (fun b o hb e=>eb b o hb e) f0 f1 f3 f4 f5⟩
 self:=fun _ _ _ _ _ st h=>wpAny_pyIter_striter_ascii st h
theorem uK {P:U1} {w:Vl} {K:Uj} {tg:VI} (x:UA) (t:Tok) (it:Ul):Turn P w K tg (Its x) [it] it (fun i h=>h.IsStrIter it "str_iterator" x t i) where
 mem:=by simp
 obj:=fun i h st b hb=>by
  have e:b=it:=by simpa using hb
  subst e;obtain ⟨o,e,c,d⟩:=st;exact ⟨o,e,fun v z=>by rw [d] at z;cases z⟩
 keep:=fun i h h' st k=>let ⟨o,ho,r⟩:=st;⟨o,k it (by simp) o ho,r⟩
 item:=by
  intro X hP hw hK hc i pins s σ H E I hf st hg;subst hP hw hK;obtain ⟨f0,f1,f2,f3,f4,f5⟩:=hf it (by simp);have hg:i<x.cps.size:=hg;refine wpAny_pyNext_wide_item st (c:=x.cps[i]) (by simp [hg]) fun h' BF sb=>?_;have I1:Inv X pins σ H { s with heap:=h',toks:=s.toks+1 }:=I.turned (fun b o hb e=>(sb.2 b hb).trans e) f0 f1 f3 f4 f5;obtain ⟨o,e,c,d⟩:=id BF;exact ⟨_,rfl,lP (s:={ s with heap:=h',toks:=s.toks+1 }) e c d (by decide) ⟨.str ⟨#[x.cps[i]]⟩,H,I1,⟨_,rfl⟩,⟨rfl,_,by simp [hg],rfl⟩,BF,fun b hb=>(hf b hb).1⟩⟩
 done:=by
  intro X hP hw hK hc i pins s σ H E I hf st hg;subst hP hw hK;obtain ⟨f0,f1,f2,f3,f4,f5⟩:=hf it (by simp);have hg:x.cps.size=i:=hg;exact wpAny_pyNext_wide_end (I.ok.hd hc) st (by simp [<- hg]) fun h' eb=>⟨rfl,I.turned (t':=s.toks) (fun b o hb e=>eb b o hb e) f0 f1 f3 f4 f5⟩
 self:=fun _ _ _ _ _ st h=>wpAny_pyIter_striter_wide st h
def aaL (tl:TE):TI:=fun σ H R=>tl σ H fun v H1=>∃ x,v=.str x/\R (Its x) H1
theorem vF {X:Cx} {tg l:VI} {tl:TE} (hl:PE X l tl):PI X tg l (aaL tl):=by
 intro pins s σ H R I h;refine thn (hl pins s σ H _ I h) fun v s1 ⟨y,H1,I1,r1,q1⟩=>?_;obtain ⟨x,rfl,q⟩:=q1;obtain ⟨t,rfl⟩:=r1
 have fp:∀ b∈[s1.heap.objs.size],fk X pins H1 b:=fun b hb=>by
  have e:b=s1.heap.objs.size:=by simpa using hb
  subst e;exact I1.fpOk (Uq _) (I1.hok.fresh (Uq _))
 cases ha:x.cps.all (·<128)
 · refine wpAny_pyIter_wide ha ?_;exact ⟨s1.heap.objs.size,[s1.heap.objs.size],_,_,H1,rfl,I1.kept (t':=s1.toks) fun b o e=>Up _ e,uK x t _,⟨_,UG _ rfl,rfl,rfl⟩,fp,q⟩
 · refine wpAny_pyIter_ascii ha ?_;exact ⟨s1.heap.objs.size,[s1.heap.objs.size],_,_,H1,rfl,I1.kept (t':=s1.toks) fun b o e=>Up _ e,mY x t _,⟨_,UG _ rfl,rfl,rfl⟩,fp,q⟩
end L2
namespace BB
open PySem
def dn (zs:List UA):Nat->Nat
 | 0=>0
 | i+1=>if zs.getD i default∈zs.take i then dn zs i else dn zs i+1
theorem uT (zs:List UA):∀ i,dn zs i<=i
 | 0=>Uq _
 | i+1=>by
   have:=uT zs i;rw [dn];split <;> omega
theorem take_succ_get {zs:List UA} {i:Nat} (h:i<zs.length):zs.take (i+1)=zs.take i++[zs.getD i default]:=by
 rw [List.take_succ_eq_append_getElem h];congr 2;simp [List.getD,h]
theorem qr (zs:List UA):∀ i,i<=zs.length->(dn zs i=i↔(zs.take i).Nodup)
 | 0,_=>by simp [dn]
 | i+1,h=>by
   have ih:=qr zs i (by omega);have hle:=uT zs i;rw [take_succ_get (by omega),dn,YK];by_cases hm:zs.getD i default∈zs.take i
   · rw [if_pos hm];constructor
     · intro z;omega
     · intro z;exact absurd rfl (z.2.2 _ hm _ (UW.mpr rfl))
   · rw [if_neg hm];constructor
     · intro z;refine ⟨ih.mp (by omega),V8.mpr ⟨by simp,YF⟩,fun a ha b hb=>?_⟩;rw [UW.mp hb];rintro rfl;exact hm ha
     · intro z;have:=ih.mpr z.1;omega
end BB
namespace L2
open PySem PySem.Spec PySem.Calls PyProof.Rows BB
section
variable {prog:U1} {w:Vl} {A:Vm} {R:Zr->Uo->Prop}
theorem pk {l I S:Ul} {items:Array Um} {zs:List UA} (hh:A.in1.handled=none) (Au:l≠I) (Lv:S≠I) (Lw:S≠l) (hi:∀ (i:Nat) (v:Um),items[i]?=some v->∃ t,v=.str (zs.getD i default) t) (hlen:zs.length=items.size) (hb:items.size+1<scanBound) :
 ∀ (k i:Nat) (s:Uo),items.size - i=k->i<=items.size->s.heap.IsListIter I l i->s.heap.IsList l items->s.heap.SetOf (strKind prog w) S (fun x=>decide (x∈zs.take i)) (dn zs i) →
   (∀ h' tk,(∀ b o,b≠S->b≠I->s.heap.get? b=some o->h'.get? b=some o)->h'.SetOf (strKind prog w) S (fun x=>decide (x∈zs)) (dn zs zs.length)->R (.ok (.ret .none)) { s with heap:=h',toks:=tk }) →
   Yb (UZ prog w) A (.builtin "set.update.loop" ⟨[.ref S,.ref I],[]⟩) R s:=by
 intro k;induction k with
 | zero =>
   intro i s hk Lx AG hl hS hR;have GO:i=items.size:=by omega
   subst GO;refine Zx Zt ?_;rw [Around.under_plainId XU _];show UO _ A.in1 (ZL (.ref I) >>= _) _ _ s;refine Uk (wpAny_pyNext_list_end hh AG hl (by simp) fun h' eb=>?_);show UO _ A.in1 (ret V4) _ _ _;refine UE (hR h' s.toks (fun b o _ J3 e=>eb b o J3 e) ?_);obtain ⟨o,es,ep,t,ho,rest⟩:=hS;rw [<- hlen,Xn] at rest;exact ⟨o,es,ep,t,eb S o Lv ho,rest⟩
 | succ k ih =>
   intro i s hk Lx AG hl hS hR;have AB:i<items.size:=by omega
   refine Zx Zt ?_;rw [Around.under_plainId XU _];show UO _ A.in1 (ZL (.ref I) >>= _) _ _ s;have Ce:items[i]?=some items[i]:=by simp [AB]
   refine Uk (wpAny_pyNext_list_item AG hl Ce fun h' BF sb=>?_);obtain ⟨t,ht⟩:=hi i _ Ce;rw [ht];have C9:h'.IsList l items:=let ⟨o,e,r⟩:=hl;⟨o,(sb.2 l Au).trans e,r⟩
   have Bb:h'.SetOf (strKind prog w) S (fun x=>decide (x∈zs.take i)) (dn zs i):=by
    obtain ⟨o,es,ep,tb,ho,rest⟩:=hS;exact ⟨o,es,ep,tb,(sb.2 S Lv).trans ho,rest⟩
   show UO _ A.in1 (holding [Value.str (zs.getD i default) t] (setAdd S (.str (zs.getD i default) t)) >>= _) _ _ _;refine Uk (WJ ?_);unfold setAdd;refine WJ ?_;refine Uk ((strKind prog w).pyHash (k:=zs.getD i default) (strKind_is _ _ _ _) ?_);have Iq:dn zs i+1<scanBound:=by have:=uT zs i;omega
   refine wpAny_setAddHashed_of (knd:=strKind prog w) (strKind_is _ _ _ _) rfl Bb Iq fun h2 CU GQ=>?_
   have Es:h2.SetOf (strKind prog w) S (fun x=>decide (x∈zs.take (i+1))) (dn zs (i+1)):=by
    refine PyProof.Rows.SetOf_congr GQ (fun x=>?_) ?_
    · rw [take_succ_get (by omega)];simp
    · rw [dn];by_cases hm:zs.getD i default∈zs.take i
      · rw [if_pos hm,if_pos (by simpa using hm)]
      · rw [if_neg hm,if_neg (by simpa using hm)]
   have EG:h2.IsListIter I l (i+1):=let ⟨o,e,r⟩:=BF;⟨o,(CU.2 I (WX Lv)).trans e,r⟩
   have Bh:h2.IsList l items:=let ⟨o,e,r⟩:=C9;⟨o,(CU.2 l (WX Lw)).trans e,r⟩
   refine UE ⟨plainId_quiet XU _,ih (i+1) _ (by omega) AB EG Bh Es fun h4 tk k4 S4=>?_⟩;exact hR h4 tk (fun b o N1 J3 e=>k4 b o N1 J3 ((CU.2 b N1).trans ((sb.2 b J3).trans e))) S4
end
end L2
namespace PySem
section
variable {prog:U1} {w:Vl} {A:Vm} {E:Um->Uo->Prop} {s:Uo}
set_option maxHeartbeats 3200000 in
theorem bb_set_strs {l:Ul} {items:Array Um} {zs:List UA} {Q:Um->Uo->Prop} (hh:A.handled=none) (hl:s.heap.IsList l items) (hi:∀ (i:Nat) (v:Um),items[i]?=some v->∃ t,v=.str (zs.getD i default) t) (hlen:zs.length=items.size) (hb:items.size+1<scanBound)
 (h:∀ (h':VO) (tk:Nat),h'.SetOf (strKind prog w) s.heap.objs.size (fun x=>decide (x∈zs)) (BB.dn zs zs.length)->(∀ b o,b<s.heap.objs.size->s.heap.get? b=some o->h'.get? b=some o)->Q (.ref s.heap.objs.size) { s with heap:=h',toks:=tk }) :
 UO (UZ prog w) A (call (.type "set") [.ref l]) Q E s:=by
 obtain ⟨c,tl,QB⟩:=Yc.mro;have N2:=Yc.made;have Cb:=Yc.sub;have h1:=Yc.notType;have h2:=Yc.canCreate;have GR:=F.typeCall_set_1 (.ref l);refine wpAny_call (codeAny_of_tree ?_);show UO _ _ (callAny (.type "set") _) _ _ _;refine UE ⟨Code.quiet_builtin _ (by decide +kernel),Zx F.entry_type_call ?_⟩;rw [Around.under_plain (weight_type_call_type "set" [.ref l] []) rfl]
 repeat (any_goals (first | assumption | wp_step))
 refine X9 (code_set_new_1 (.ref l) (E:=E) (Q₁:=fun obj Ab=>∃ led:Bool,obj=.ref s.heap.objs.size/\Ab={ s with heap:=s.heap.push { cls:=.type "set",dict:=none,data:=.set #[] 0 (.fresh 0 0 led) } }) fun led=>⟨led,rfl,rfl⟩) fun r Ab hr=>?_;cases r with
 | error e=>exact hr
 | ok fl =>
   cases fl with
   | next=>exact hr.elim
   | brk=>exact hr.elim
   | cont=>exact hr.elim
   | ret obj =>
     obtain ⟨led,rfl,rfl⟩:=hr;have hS:(s.heap.push { cls:=.type "set",dict:=none,data:=.set #[] 0 (.fresh 0 0 led) }).get? s.heap.objs.size=some { cls:=.type "set",dict:=none,data:=.set #[] 0 (.fresh 0 0 led) }:=UG _ rfl;have hT:Shared.TypeIs { s with heap:=s.heap.push { cls:=.type "set",dict:=none,data:=.set #[] 0 (.fresh 0 0 led) } } (.ref s.heap.objs.size) "set":=⟨_,hS,rfl⟩;have QC:=Yc.init.lookup;have J4:=Yc.init.bind (.ref s.heap.objs.size)
     repeat (any_goals (first | assumption | wp_step))
     refine X9 (ZM (R:=wants (fun r Bs=>r=.none/\∃ h' tk,Bs={ s with heap:=h',toks:=tk }/\h'.SetOf (strKind prog w) s.heap.objs.size (fun x=>decide (x∈zs)) (BB.dn zs zs.length) ∧
      (∀ b o,b<s.heap.objs.size->s.heap.get? b=some o->h'.get? b=some o)) E) Yc.init.plain F.entry_set_init (check_set_init_1 hT ?_)) fun Ly Bs CF=>?_
     · obtain ⟨ol,Et,By,nl,Ir⟩:=hl;obtain ⟨QD,Iu,N3,F5⟩:=ol;simp only at By Ir;subst By;subst Ir;have N4:l<s.heap.objs.size:=UJ Et;have Lz:(s.heap.push { cls:=.type "set",dict:=none,data:=.set #[] 0 (.fresh 0 0 led) }).get? l=some { cls:=.type "list",dict:=Iu,data:=.seq items nl,slots:=F5 }:=Up _ Et;have QE:=F.sub_list_set;have QF:=F.sub_list_frozenset;have QG:(Value.type "list" == Value.type "dict")=false:=by decide
       have Bl:(s.heap.push { cls:=.type "set",dict:=none,data:=.set #[] 0 (.fresh 0 0 led) }).IsList l items:=⟨_,Lz,rfl,nl,rfl⟩;unfold Za.«set.__init__» noKeywords Builtin.Frozenset.updateFrom;generalize QH:pyIter=PI
       wp_walk
       subst QH;refine Y8 Bl ?_;refine Uk (wpAny_runValue ?_);have AH:(s.heap.push { cls:=.type "set",dict:=none,data:=.set #[] 0 (.fresh 0 0 led) }).objs.size=s.heap.objs.size+1:=Wi ..;refine L2.pk (l:=l) (zs:=zs) (items:=items) (by simp [hh]) (by rw [AH];exact Vf (Wa N4)) (by rw [AH];exact Vf (Yn _)) (Xc N4) hi hlen hb (items.size - 0) 0 _ (by omega) (Vh _) ⟨_,UG _ rfl,rfl,rfl⟩ (Bl.push _) ?_ ?_
       · have Ce:((s.heap.push { cls:=.type "set",dict:=none,data:=.set #[] 0 (.fresh 0 0 led) }).push { cls:=.type "list_iterator",data:=.fields #[.ref l,.int 0 0] }).get? s.heap.objs.size=some { cls:=.type "set",dict:=none,data:=.set #[] 0 (.fresh 0 0 led) }:=Up _ hS;exact PyProof.Rows.SetOf_congr ((PyProof.Rows.setObjOf_fresh (knd:=strKind prog w) led).setOf Ce (by unfold scanBound;omega)) (fun x=>by simp) rfl
       · intro h' tk kk S';show UO _ _ _ _ _ _;refine UE ?_;show UO _ _ (ret V4) _ _ _;refine UE ⟨rfl,h',tk,rfl,S',fun b o BA e=>?_⟩;exact kk b o (Vf BA) (by rw [AH];exact Vf (Wa BA)) (Up _ (Up _ e))
     · cases Ly with
       | error e=>exact CF
       | ok Iv =>
         cases Iv with
         | ret r =>
           obtain ⟨rfl,h',tk,rfl,Bb,A7⟩:=CF
           repeat (any_goals (first | assumption | wp_step))
           exact h _ _ Bb A7
         | next=>exact CF.elim
         | brk=>exact CF.elim
         | cont=>exact CF.elim
end
end PySem
namespace L2
open PySem PySem.Spec PySem.Calls PyProof.Rows BB
def wC (P:U1) (w:Vl) (a:Ul) (zs:List UA) (h:VO):Prop:=h.SetOf (strKind P w) a (fun x=>decide (x∈zs)) (dn zs zs.length)
theorem uk {X:Cx} (hc:X.calm=true):dJ X (.type "set") (fun xs H Q=>∃ p zs,xs=[.ref p]/\SqL X.K H p (zs.map V.str)/\zs.length<=4000/\∀ a,H a=none->Q (.ref a) (upd H a (.ext (wC X.prog X.w a zs)))):=by
 intro pins s σ H xs us Q I r h;obtain ⟨p,zs,rfl,hq,hz,q⟩:=h;obtain ⟨u,rfl,rx⟩:=vals1 r;cases rx;obtain ⟨its,r',pl,_⟩:=I.list hq;have hlen:=r'.length;rw [Ue] at hlen;refine bb_set_strs (I.ok.hd hc) pl.isList (zs:=zs) (fun i v hv=>?_) (by simpa using hlen) (by rw [Ux,<- hlen];show zs.length+1<4096;omega) fun h' tk hS kp=>?_
 · have Dt:its[i]?=some v:=by simpa using hv
   have BQ:i<its.length:=(Uz.mp Dt).1
   have B8:(zs.map V.str)[i]?=some (.str (zs.getD i default)):=by
    rw [Ut,List.getD,Uh (by omega)];rfl
   obtain ⟨u,hu,ru⟩:=r'.get B8;rw [Dt] at hu;cases hu;exact ru
 · have hk:∀ b o,s.heap.get? b=some o->h'.get? b=some o:=fun b o e=>kp b o (UJ e) e;refine ⟨.ref s.heap.objs.size,_,I.laid (t':=tk) (o:=.ext (wC X.prog X.w s.heap.objs.size zs)) hk (Uq _) ?_,rfl,q _ (I.hok.fresh (Uq _))⟩;refine ⟨hS,?_,fun g1 g2 gs gk=>?_⟩
   · obtain ⟨o,_,_,_,ho,_⟩:=hS;exact ⟨o,ho⟩
   · obtain ⟨o,es,ep,t,ho,rest⟩:=gs;exact ⟨o,es,ep,t,gk o ho,rest⟩
theorem uu {X:Cx}:dJ X (.builtin "len") (fun xs H Q=>∃ a zs,xs=[.ref a]/\H a=some (.ext (wC X.prog X.w a zs))/\Q (.int (dn zs zs.length)) H):=by
 intro pins s σ H xs us Q I r h;obtain ⟨a,zs,rfl,ha,q⟩:=h;obtain ⟨u,rfl,rx⟩:=vals1 r;cases rx;obtain ⟨⟨o,es,ep,t,ho,hex,hd,_,_,hb,hf,hn⟩,_⟩:=(show ObjOk X.prog X.w H s.heap a (.ext (wC X.prog X.w a zs)) from I.hok a _ ha);have BA:es.size<4096:=hb;refine call_len_set ho hex hd hf (by omega) ?_;exact ⟨.int es.size,H,I.tok _,⟨_,rfl⟩,by rw [hn];exact q⟩
end L2
namespace L2
open PySem PySem.Spec PySem.Calls PyProof.Rows BB
theorem fG {α β:Type} {F:α->β->Prop}:∀ {a:List α} {b:List β},Vg F a b->∀ k:Nat,Vg F (a.take k) (b.take k)/\Vg F (a.drop k) (b.drop k)
 | _,_,.nil,k=>by simp;exact .nil
 | _,_,.cons r t,0=>⟨.nil,.cons r t⟩
 | _,_,.cons r t,k+1=>⟨.cons r (fG t k).1,(fG t k).2⟩
section
variable {X:Cx}
def u9:R2:=fun x y H Q=>∃ i j,x=.str i/\y=.str j/\Q (.bl (!decide (j.cps.toList<i.cps.toList))) H
theorem gP:OpR X (WH .LtE) u9:=by
 intro pins s σ H x y v u Q I rx ry h;obtain ⟨i,j,rfl,rfl,q⟩:=h;obtain ⟨t,rfl⟩:=rx;obtain ⟨t',rfl⟩:=ry;exact PySem.P.le_str ⟨.bl _,H,I,rfl,q⟩
theorem xx {prog:U1} {w:Vl} {A:Vm} {E:Um->Uo->Prop} {s:Uo} {l:Ul} {its:List Um} {n:Nat} {x:Int} {t:Tok} {w':Um} {Q:Um->Uo->Prop} (e:s.heap.get? l=some { cls:=.type "list",data:=.seq its.toArray n })
 (Al:¬ (!Xg x)=true) (hz:its.toArray.size<=US)
 (h:Q .none { s with heap:=s.heap.update l (YW fun xs=>let k:=if x<0 then (x+((xs.size:Nat):Int)).toNat else min x.toNat xs.size;(xs.extract 0 k).push w'++xs.extract k),toks:=s.toks }) :
 UO (UZ prog w) A (call (.builtin "list.insert") [.ref l,.int x t,w']) Q E s:=by
 refine Xs YN ⟨_,e,rfl⟩ PySem.F.entry_list_insert (PySem.F.args_list_insert_3 _ _ _) (PySem.AutoSeq1.list_insert_list_int_val_1 l _ n x t w' Al hz) ⟨e,h⟩
def xu:V->List V->Hp->VK->Prop:=fun x vs H Q=>∃ (l:Ul) (xs:List V) (k:Nat) (y:V),x=.ref l/\vs=[.int k,y]/\H l=some (.lst xs)/\k<=xs.length/\xs.length+1<=US/\Q .non (upd H l (.lst (xs.take k++y::xs.drop k)))
theorem nA:MtM X "list.insert" xu:=by
 intro pins s σ H x vs v us Q I rx rv h;obtain ⟨l,xs,k,y,rfl,rfl,hH,hk,hz,q⟩:=h;cases rx;obtain ⟨u,w',rfl,r1,r2⟩:=vals2 rv;obtain ⟨t,rfl⟩:=r1;obtain ⟨z,its,n,r,hl,e⟩:=I.lstM hH;have hs:=Wy
 have Al:¬ (!Xg (k:Int))=true:=by
  have:Xg (k:Int)=true:=by
   unfold Xg;simp;omega
  rw [this];simp
 have LA:its.toArray.size<=US:=by rw [Ux,<- hl];exact z
 refine xx e Al LA ?_;refine ⟨.non,_,I.lset (its':=its.take k++w'::its.drop k) hH e ?_ ?_ ?_,rfl,q⟩
 · have A7:k<=its.length:=by omega
   dsimp only;rw [if_neg (by omega),VL,Ux,W5 A7];simp;exact U8 (by rw [Vi];exact Uq _)
 · exact Vals.append (fG r k).1 (.cons r2 (fG r k).2)
 · rw [Uu,Ui,U3,Vi];omega
def aa0 (K:Uj) (tl:TE):TI:=fun σ H R=>tl σ H fun x H1=>∃ a,x=.ref a/\(((∃ xs,SqL K H1 a xs)/\R (Itl K a) H1)∨((∃ xs,SqT K H1 a xs)/\R (Itt K a) H1))
theorem vZ {tg l:VI} {tl:TE} (hl:PE X l tl):PI X tg l (aa0 X.K tl):=by
 intro pins s σ H R I h;refine thn (hl pins s σ H _ I h) fun v s1 ⟨x,H1,I1,r1,q1⟩=>?_;obtain ⟨a,e,q⟩:=q1;subst e;cases r1
 have fp:∀ b∈[s1.heap.objs.size],fk X pins H1 b:=fun b hb=>by
  have e:b=s1.heap.objs.size:=by simpa using hb
  subst e;exact I1.fpOk (Uq _) (I1.hok.fresh (Uq _))
 rcases q with ⟨⟨xs,hq⟩,q⟩ | ⟨⟨xs,hq⟩,q⟩
 · obtain ⟨its,rv,p,hz⟩:=I1.list hq;refine Y8 p.isList ?_;exact ⟨s1.heap.objs.size,[s1.heap.objs.size],_,_,H1,rfl,I1.kept (t':=s1.toks) fun b o e=>Up _ e,nD a _,⟨_,UG _ rfl,rfl,rfl⟩,fp,q⟩
 · obtain ⟨its,rv,p,hz⟩:=I1.tuple hq;refine YT (show s1.heap.IsTuple a its.toArray from p) ?_;exact ⟨s1.heap.objs.size,[s1.heap.objs.size],_,_,H1,rfl,I1.kept (t':=s1.toks) fun b o e=>Up _ e,mI a _,⟨_,UG _ rfl,rfl,rfl⟩,fp,q⟩
end
end L2
namespace BB
open PySem L2
theorem re {js:List (Option Nat)} {g:TG} {tt:TT} {te:TE} {σ:St} {H:Hp} {x:UA} {fin:Ul->Hp->Prop} (f:Nat->Bool) (hz:x.cps.size<=100000)
 (Iw:∀ c H1 (Q:VK) (W':Hp->Prop),c∈x.cps.toList->Q (.bl (f c)) H1->g (.str ⟨#[c]⟩) (cσ js σ) H1 fun AA H2=>tt AA H2 fun b H3=>if b=true then te AA H3 Q else W' H3)
 (AM:∀ D H',H D=none->L2.Same H H'->H' D=some (.lst ((x.cps.toList.map f).map V.bl))->fin D H') :
 ∀ D,H D=none->∃ (n:Nat) (W:Nat->Hp->Prop),W 0 (upd H D (.lst []))/\da js g tt te σ (Its x) D n W fun H'=>fin D H':=by
 intro D hD;refine ⟨x.cps.size,fun i H'=>i<=x.cps.size/\L2.Same H H'/\H' D=some (.lst (((x.cps.toList.take i).map f).map V.bl)),⟨Vh _,ag hD _,by rw [ae];rfl⟩,?_⟩;rintro i H' ⟨hi,s1,e1⟩;by_cases AB:i<x.cps.size
 · refine .inr ⟨AB,AB,fun v H1 hy=>?_⟩;obtain ⟨rfl,c,hc,rfl⟩:=hy;have BY:x.cps.toList[i]?=some c:=by rw [XB];exact hc
   refine Iw c _ _ _ (Ur BY) ⟨_,e1,?_,AB,?_,?_⟩
   · rw [Ue,Ue,U3,UQ];have:US=16777216:=Wy;omega
   · exact aI s1 hD
   · rw [ae,take_snoc BY];simp
 · have B1:i=x.cps.size:=by omega
   subst B1;refine .inl ⟨rfl,AM D H' hD s1 ?_⟩;rw [e1,U8 (by rw [UQ];exact Uq _)]
theorem tE {α:Type} {js:List (Option Nat)} {g:TG} {tt:TT} {te:TE} {σ:St} {J:It} {H:Hp} {xs:List V} {fin:Ul->Hp->Prop} (zs:List α) (f:α->V) (hz:zs.length=xs.length) (hn:xs.length<=1000000)
 (EM:∀ i H2,L2.Same H H2->i<xs.length->J.go i H2) (Bu:∀ H2,L2.Same H H2->J.stop xs.length H2) (CY:∀ (i:Nat) H2 x H3,L2.Same H H2->i<xs.length->J.yld i H2 x H3->H3=H2/\xs[i]?=some x)
 (hb:∀ (i:Nat) x z H2 (R:VK) (W':Hp->Prop),xs[i]?=some x->zs[i]?=some z->L2.Same H H2->(∀ H3,L2.Same H2 H3->R (f z) H3)->g x (cσ js σ) H2 fun AA H3=>tt AA H3 fun b H4=>if b=true then te AA H4 R else W' H4)
 (AM:∀ D H',H D=none->L2.Same H H'->H' D=some (.lst (zs.map f))->fin D H') :
 ∀ D,H D=none->∃ (n:Nat) (W:Nat->Hp->Prop),W 0 (upd H D (.lst []))/\da js g tt te σ J D n W fun H'=>fin D H':=by
 intro D hD;refine ⟨xs.length,fun i H'=>i<=xs.length/\L2.Same H H'/\H' D=some (.lst ((zs.take i).map f)),⟨Vh _,ag hD _,by rw [ae];rfl⟩,?_⟩;rintro i H' ⟨hi,s1,e1⟩;by_cases AB:i<xs.length
 · refine .inr ⟨AB,EM i H' s1 AB,fun v H1 hy=>?_⟩;obtain ⟨e,hx⟩:=CY i H' v H1 s1 AB hy;subst e;obtain ⟨z,B8⟩:∃ z,zs[i]?=some z:=⟨_,Uh (by omega)⟩;refine hb i v z _ _ _ hx B8 s1 fun H3 s3=>⟨_,s3 _ _ e1,?_,AB,aI (s1.trans s3) hD,?_⟩
   · rw [Ue,U3];have:US=16777216:=Wy;omega
   · rw [ae,take_snoc B8,UC];rfl
 · have B1:i=xs.length:=by omega
   subst B1;refine .inl ⟨Bu _ s1,AM D H' hD s1 ?_⟩;rw [e1,U8 (by omega)]
theorem dA {α:Type} {K:Uj} {a:Ul} {js:List (Option Nat)} {g:TG} {tt:TT} {te:TE} {σ:St} {H:Hp} {xs:List V} {fin:Ul->Hp->Prop} (zs:List α) (f:α->V) (hS:SqT K H a xs) (hz:zs.length=xs.length) (hn:xs.length<=1000000)
 (hb:∀ (i:Nat) x z H2 (R:VK) (W':Hp->Prop),xs[i]?=some x->zs[i]?=some z->L2.Same H H2->(∀ H3,L2.Same H2 H3->R (f z) H3)->g x (cσ js σ) H2 fun AA H3=>tt AA H3 fun b H4=>if b=true then te AA H4 R else W' H4)
 (AM:∀ D H',H D=none->L2.Same H H'->H' D=some (.lst (zs.map f))->fin D H') :
 ∀ D,H D=none->∃ (n:Nat) (W:Nat->Hp->Prop),W 0 (upd H D (.lst []))/\da js g tt te σ (Itt K a) D n W fun H'=>fin D H' :=
 tE zs f hz hn (fun i H2 s hi=>⟨xs,xs[i],s.seqT hS,Uh hi⟩) (fun H2 s=>⟨xs,s.seqT hS,Uq _⟩) (fun i H2 x H3 s hi hy=>⟨hy.1,hy.2 xs (s.seqT hS)⟩) hb AM
theorem pB {α:Type} {K:Uj} {a:Ul} {js:List (Option Nat)} {g:TG} {tt:TT} {te:TE} {σ:St} {H:Hp} {xs:List V} {fin:Ul->Hp->Prop} (zs:List α) (f:α->V) (hS:SqL K H a xs) (hz:zs.length=xs.length) (hn:xs.length<=1000000)
 (hb:∀ (i:Nat) x z H2 (R:VK) (W':Hp->Prop),xs[i]?=some x->zs[i]?=some z->L2.Same H H2->(∀ H3,L2.Same H2 H3->R (f z) H3)->g x (cσ js σ) H2 fun AA H3=>tt AA H3 fun b H4=>if b=true then te AA H4 R else W' H4)
 (AM:∀ D H',H D=none->L2.Same H H'->H' D=some (.lst (zs.map f))->fin D H') :
 ∀ D,H D=none->∃ (n:Nat) (W:Nat->Hp->Prop),W 0 (upd H D (.lst []))/\da js g tt te σ (Itl K a) D n W fun H'=>fin D H' :=
 tE zs f hz hn (fun i H2 s hi=>⟨xs,xs[i],s.seq hS,Uh hi⟩) (fun H2 s=>⟨xs,s.seq hS,Uq _⟩) (fun i H2 x H3 s hi hy=>⟨hy.1,hy.2 xs (s.seq hS)⟩) hb AM
def low (z:UA):Bool:=z.cps.toList.all fun c=>decide (97<=c/\c<=122)
def aS (z:UA):Bool:=decide (1<=z.length/\z.length<=8) && low z
theorem oX (c d:Nat):(!decide (([d]:List Nat)<[c]))=decide (c<=d):=by
 have h:(([d]:List Nat)<[c])↔d<c:=by
  constructor
  · intro h;cases h with
    | rel h=>exact h
    | cons h=>cases h
  · intro h;exact List.Lex.rel h
 by_cases hc:c<=d
 · rw [decide_eq_true hc,decide_eq_false (fun z=>by have:=h.mp z;omega)];rfl
 · rw [decide_eq_false hc,decide_eq_true (h.mpr (by omega))];rfl
end BB
namespace HT
open PySem PySem.Spec PyProof.Rows
section
variable {prog:U1} {w:Vl} {A:Vm} {E:Um->Uo->Prop} {s:Uo}
theorem adjust_back (n:Nat):Xi none none (-1) (n:Int)=((n:Int) - 1,-1):=rfl
theorem places_back (n:Nat):V1 ((n:Int) - 1) (-1) (-1)=n:=by
 unfold V1;have h1:¬ ((-1:Int) > 0):=by omega
 simp only [h1,if_false];by_cases h:n=0
 · subst h;decide
 · have h2:((n:Int) - 1) > -1:=by omega
   simp only [h2,if_true];rw [show (- -1:Int)=1 by decide,Z0];omega
theorem pick_back (xs:Array Um):((Vr xs.size).filterMap fun (m:Nat)=>xs[(((xs.size:Nat):Int) - 1+(m:Int) * (-1)).toNat]?).toArray=xs.toList.reverse.toArray:=by
 congr 1
 have e:∀ m∈Vr xs.size,xs[(((xs.size:Nat):Int) - 1+(m:Int) * (-1)).toNat]?=xs.toList.reverse[m]?:=by
  intro m hm;have QI:=Xo.mp hm;rw [List.getElem?_reverse (by rw [UQ];exact QI),XB,UQ];congr 1;omega
 have f:∀ (l:List Nat) (f g:Nat->Option Um),(∀ m∈l,f m=g m)->l.filterMap f=l.filterMap g:=by
  intro l f g;induction l with
  | nil=>intro _;rfl
  | cons y ys ih =>
    intro h;rw [Xm,Xm,h y (by simp),ih (fun m hm=>h m (by simp [hm]))]
 rw [f _ _ _ e]
 have gl:∀ (ys:List Um),(Vr ys.length).filterMap (fun m=>ys[m]?)=ys:=by
  intro ys;have:=pick_run ys.toArray 0 ys.length;simp only [List.filterMap_map] at this
  have e3:((fun x=>ys.toArray[x]?) ∘ fun x=>0+x)=fun m=>ys[m]?:=by
   funext m;simp
  rw [e3] at this;rw [this];simp
 have:=gl xs.toList.reverse;rw [Xk,UQ] at this;exact this
theorem sliceApplied_back {sl:Ul} {n:Nat} {t:Tok} {Q:Int×Int×Nat->Uo->Prop} (hs:s.heap.IsSliceOf sl .none .none (.int (-1) t))
 (h:Q ((n:Int) - 1,-1,n) s):UO (UZ prog w) A (X6 (.ref sl) (pure (n:Int))) Q E s:=by
 obtain ⟨os,B9,EJ,Co⟩:=id hs;unfold X6 Builtin.Slice.sliceFields;refine Uk (Uk (Vz B9 Co (x:=.none) rfl (Uk (Vz B9 Co (x:=.none) rfl (Uk (Vz B9 Co (x:=.int (-1) t) rfl (UE ?_)))))));refine Uk (slicePart_int ?_);show UO _ _ (if ((-1:Int) == 0)=true then _ else _) _ _ s;rw [if_neg (by decide)];refine Uk (slicePart_none (Uk (slicePart_none (Uk (UE ?_)))));show UO _ _ (match Xi none none (-1) (n:Int) with | (lo,hi)=>pure (lo,(-1:Int),V1 lo hi (-1))) _ _ s;rw [adjust_back n];show UO _ _ (pure ((n:Int) - 1,(-1:Int),V1 ((n:Int) - 1) (-1) (-1))) _ _ s;rw [places_back];exact UE h
theorem getItem_tuple_back {t sl:Ul} {items:Array Um} {tk:Tok} {Q:Um->Uo->Prop} (ht:IsTup s.heap t items) (hs:s.heap.IsSliceOf sl .none .none (.int (-1) tk))
 (h:Q (.ref s.heap.objs.size) { s with heap:=s.heap.push { cls:=.type "tuple",data:=.seq items.toList.reverse.toArray } })
 (AH:items.size<=US):UO (UZ prog w) A (YL (.ref t) (.ref sl)) Q E s:=by
 have Bt:sizeOk (.seq items.toList.reverse.toArray):=by
  show items.toList.reverse.toArray.size<=US;rw [Ux,Xk,UQ];exact AH
 obtain ⟨os,B9,EJ,Co⟩:=id hs;have HJ:s.TypeIs (.ref sl) "slice":=⟨os,B9,EJ⟩;unfold YL
 try with_reducible refine WJ ?_
 first | refine Uk (UE ?_) | skip
 refine Uk (wpAny_sequenceKey ht.typeIs (by decide) ?_)
 refine Uk (Wj (name:=Ug "__getitem__") ht.typeIs Vx
  (Xw Vx ht.typeIs entry_tuple_getitem ?_ (args_tuple_getitem _ _)))
 show UO _ _ (Y0 (.ref t) >>= _) _ _ s;refine Uk (tupleItemsOf_ ht ?_);refine Uk (wpAny_typeOf HJ ?_);rw [if_pos (by decide)];refine Uk (sliceApplied_back hs ?_)
 have Az:¬ ((((items.size:Nat):Int) - 1 == 0 && (-1:Int) == 1 && items.size == items.size)=true):=by
  simp
 show UO _ _ (if (((items.size:Nat):Int) - 1 == 0 && (-1:Int) == 1 && items.size == items.size)=true then _ else _) _ _ s;rw [if_neg Az,pick_back]
 first
  | exact Uk (m:=V3 _) (V0 (UE ⟨_,rfl,UE h⟩) Bt)
  | exact Uk (m:=V3 _) (V0 (Uk (UE (UE ⟨_,rfl,UE h⟩))) Bt)
  | exact Uk (Uk (m:=V3 _) (V0 (UE (UE ⟨_,rfl,UE h⟩)) Bt))
  | exact Uk (Uk (m:=V3 _) (V0 (UE ⟨_,rfl,UE h⟩) Bt))
end
end HT
namespace L2
open PySem PySem.Spec PyProof.Rows
section
variable {X:Cx} {e:VI} {te:TE} {pos p2 p3 p4:Ym}
def BkR (X:Cx) (r:V->Hp->VK->Prop):Prop :=
 ∀ (pins:List (Ul×Wz)) (s:Uo) (σ:St) (H:Hp) (x:V) (v:Um) (t:Tok) (sl:Ul) (Q:VK),Inv X pins σ H s->RelV x v->s.heap.IsSliceOf sl .none .none (.int (-1) t)->r x H Q →
   ∃ T id,typeLookup (.type T) "__getitem__"=pure (some (.builtin id))/\s.TypeIs v T/\UO (UZ X.prog X.w) X.A (YL v (.ref sl)) (EP X pins σ Q) X.xe s
def tBk (r:V->Hp->VK->Prop) (te:TE):TE:=fun σ H Q=>te σ H fun x H1=>r x H1 Q
theorem wL {r:V->Hp->VK->Prop} (hr:BkR X r) (he:PE X e te):PE X (.Subscript e (.Slice none none (some (.UnaryOp .USub (.Constant (.int 1) 0 p3) p4)) p2) pos) (tBk r te):=by
 intro pins s σ H Q I h;refine Subscript_ (thn (he pins s σ H _ I h) fun v s1 ⟨x,H1,I1,r1,q1⟩=>?_);refine wpAny_Slice ?_;rw [evalPart_none];refine UE ?_;refine UE ?_;have QJ:PO X (some (.UnaryOp .USub (.Constant (.int 1) 0 p3) p4)) (yc (tUn (rU fun i=>.int (-i)) (tC (.int 1)))):=bB (oh jT ad);refine thn (QJ pins s1 σ H1 (fun o H'=>o=some (-1)/\r x H' Q) I1 ⟨1,rfl,_,rfl,rfl,q1⟩) fun vs s2 ⟨o,H2,I2,ps,ho,q2⟩=>?_;subst ho;cases ps with
 | int i t =>
   have I4:Inv X pins σ H2 { s2 with heap:=s2.heap.push { cls:=.type "slice",data:=.fields #[.none,.none,.int (-1) t] } }:=I2.kept (t':=s2.toks) fun b ob q=>Up _ q;obtain ⟨T,id,hT,ht,hg⟩:=hr pins { s2 with heap:=s2.heap.push { cls:=.type "slice",data:=.fields #[.none,.none,.int (-1) t] } } σ H2 x v t s2.heap.objs.size Q I4 r1 (Heap.IsSliceOf.new ..) q2;show UO (UZ X.prog X.w) X.A (subscriptTail e (.Slice none none (some (.UnaryOp .USub (.Constant (.int 1) 0 p3) p4)) p2) v (.ref s2.heap.objs.size)) (EP X pins σ Q) X.xe { s2 with heap:=s2.heap.push { cls:=.type "slice",data:=.fields #[.none,.none,.int (-1) t] } };exact tail_any (ops:=[v,.ref s2.heap.objs.size]) ht hT hg (by with_unfolding_all rfl)
def aaA (K:Uj):V->Hp->VK->Prop:=fun x H Q=>∃ a xs,x=.ref a/\SqT K H a xs/\∀ p,H p=none->Q (.ref p) (upd H p (.tup xs.reverse))
theorem Vals.rev {xs:List V} {us:List Um} (r:Vals xs us):Vals xs.reverse us.reverse:=by
 induction r with
 | nil=>exact .nil
 | cons r1 r2 ih=>rw [VX,VX];exact ih.append (.cons r1 .nil)
theorem yN:BkR X (aaA X.K):=by
 intro pins s σ H x v t sl Q I rx hs h;obtain ⟨a,xs,rfl,hx,q⟩:=h;cases rx;obtain ⟨its,r,ht,hz⟩:=I.tuple hx;have hlen:its.toArray.size=xs.length:=by rw [Ux];exact r.length.symm
 refine ⟨"tuple",_,Vx.lookup,ht.typeIs,?_⟩;refine HT.getItem_tuple_back ht hs ?_ (by rw [hlen];exact hz);refine ⟨.ref s.heap.objs.size,_,I.laid (t':=s.toks) (o:=.tup xs.reverse) (fun b ob q=>Up _ q) (Uq _) ?_,rfl,q _ (I.hok.fresh (Uq _))⟩;exact ⟨by rw [Xk];exact hz,_,0,r.rev,UG _ rfl⟩
end
end L2
namespace L2
open PySem PySem.Spec PySem.Calls PyProof.Rows
section
variable {X:Cx}
end
end L2
namespace L2
open PySem PySem.Spec PySem.Calls PyProof.Rows
section
variable {X:Cx}
end
end L2
namespace BB
open PySem L2
mutual
/-- a pattern over kinds,its calls of so many states and kids -/
def Th.FitS (ks:List (UA×Int)) (S C:Int):Th->Prop
 | .knot n ts=>(n,(ts.length:Int))∈ks/\FitSs ks S C ts
 | .call s k=>0<=s/\s<S/\0<=k/\k<C
def FitSs (ks:List (UA×Int)) (S C:Int):List Th->Prop
 | []=>True
 | t::ts=>t.FitS ks S C/\FitSs ks S C ts
end
theorem FitSs.of {ks:List (UA×Int)} {S C:Int}:∀ {ts:List Th},(∀ t∈ts,t.FitS ks S C)->FitSs ks S C ts
 | [],_=>by rw [FitSs];trivial
 | t::ts,h=>by
   rw [FitSs];exact ⟨h t (Uy ..),FitSs.of fun u hu=>h u (Uv _ hu)⟩
theorem oi {ts:List Th} {n:Nat} (h:∀ t∈ts,t.tall<=n):aL ts<=n:=by
 induction ts with
 | nil=>rw [aL];exact Vh _
 | cons t ts ih =>
   rw [aL];have h1:=h t (Uy ..);have h2:=ih fun u hu=>h u (Uv _ hu);omega
def SameB (l:Ul) (H H':Hp):Prop:=∀ b o,b≠l->H b=some o->H' b=some o
theorem SameB.trans {l:Ul} {A B C:Hp} (h:SameB l A B) (k:SameB l B C):SameB l A C:=fun b o hb e=>k b o hb (h b o hb e)
theorem SameB.of {l:Ul} {H H':Hp} (h:L2.Same H H'):SameB l H H':=fun b o _ e=>h b o e
theorem SameB.set {l:Ul} {H:Hp} {o:HO}:SameB l H (upd H l o):=fun b o hb e=>by rw [au hb];exact e
theorem SameB.kt {l:Ul} {H H':Hp} {xs:List V} (h:SameB l H H') (e:H l=some (.lst xs)):KT H H':=fun b ys eb=>h b _ (tO eb e (by intro z;cases z)) eb
def RowAt (H:Hp) (row:List Th) (a:Ul):Prop:=∃ as:List Ul,H a=some (.tup (as.map V.ref))/\Ats H row as
theorem RowAt.mono {H H':Hp} (k:KT H H') {row:List Th} {a:Ul} (h:RowAt H row a):RowAt H' row a:=by
 obtain ⟨as,h1,h2⟩:=h;exact ⟨as,k _ _ h1,h2.mono k⟩
structure BookAt (H:Hp) (ins outs:List (UA×Int)) (head:Th) (rows:List (List Th)) (r ia oa ha ra:Ul) (ias Ak AF:List Ul):Prop where
 bk:H r=some (.tup [.ref ia,.ref oa,.ref ha,.ref ra])
 inE:H ia=some (.tup (ias.map V.ref))
 inK:KsAt H ins ias
 outE:H oa=some (.tup (Ak.map V.ref))
 outK:KsAt H outs Ak
 hd:At H head ha
 rl:H ra=some (.tup (AF.map V.ref))
 rw:Vg (RowAt H) rows AF
theorem BookAt.mono {H H':Hp} (k:KT H H') {ins outs:List (UA×Int)} {head:Th} {rows:List (List Th)} {r ia oa ha ra:Ul} {ias Ak AF:List Ul} (b:BookAt H ins outs head rows r ia oa ha ra ias Ak AF):BookAt H' ins outs head rows r ia oa ha ra ias Ak AF :=
 ⟨k _ _ b.bk,k _ _ b.inE,b.inK.mono k,k _ _ b.outE,b.outK.mono k,b.hd.mono k,k _ _ b.rl,P2.mp (fun _ _ e=>e.mono k) b.rw⟩
end BB
namespace BB
open PySem L2
def Bk (H:Hp) (ins outs:List (UA×Int)) (head:Th) (rows:List (List Th)) (r:Ul):Prop:=∃ ia oa ha ra ias Ak AF,BookAt H ins outs head rows r ia oa ha ra ias Ak AF
theorem Bk.mono {H H':Hp} (k:KT H H') {ins outs:List (UA×Int)} {head:Th} {rows:List (List Th)} {r:Ul} (b:Bk H ins outs head rows r):Bk H' ins outs head rows r:=by
 obtain ⟨ia,oa,ha,ra,ias,Ak,AF,b⟩:=b;exact ⟨ia,oa,ha,ra,ias,Ak,AF,b.mono k⟩
end BB
namespace L2
open PySem PySem.Spec PySem.Calls PyProof.Rows PySem.SeqAt
end L2
namespace BB
open PySem L2
end BB
namespace L2
open PySem PySem.Spec PyProof.Rows
section
variable {X:Cx} {e:VI} {te:TE} {p p2 pos BM:Ym}
end
end L2
namespace BB
open PySem L2
theorem fO {α:Type} {F:Hp->α->Ul->Prop} {js:List (Option Nat)} {g:TG} {tt:TT} {te:TE} {σ:St} {J:It} {H:Hp} {xs:List V} {fin:Ul->Hp->Prop} (zs:List α) (hF:∀ H1 H2 z p,KT H1 H2->F H1 z p->F H2 z p) (hz:zs.length=xs.length) (hn:xs.length<=1000000)
 (EM:∀ i H2,L2.Same H H2->i<xs.length->J.go i H2) (Bu:∀ H2,L2.Same H H2->J.stop xs.length H2) (CY:∀ (i:Nat) H2 x H3,L2.Same H H2->i<xs.length->J.yld i H2 x H3->H3=H2/\xs[i]?=some x)
 (hb:∀ (i:Nat) x z H2 (R:VK) (W':Hp->Prop),xs[i]?=some x->zs[i]?=some z->L2.Same H H2->(∀ H3 p,L2.Same H2 H3->F H3 z p->R (.ref p) H3)->g x (cσ js σ) H2 fun AA H3=>tt AA H3 fun b H4=>if b=true then te AA H4 R else W' H4)
 (AM:∀ D H' as,H D=none->L2.Same H H'->H' D=some (.lst (as.map V.ref))->Vg (F H') zs as->fin D H') :
 ∀ D,H D=none->∃ (n:Nat) (W:Nat->Hp->Prop),W 0 (upd H D (.lst []))/\da js g tt te σ J D n W fun H'=>fin D H':=by
 intro D hD;refine ⟨xs.length,fun i H'=>i<=xs.length/\L2.Same H H'/\∃ as:List Ul,H' D=some (.lst (as.map V.ref))/\Vg (F H') (zs.take i) as,⟨Vh _,ag hD _,[],by rw [ae];rfl,.nil⟩,?_⟩;rintro i H' ⟨hi,s1,as,e1,hp⟩;by_cases AB:i<xs.length
 · refine .inr ⟨AB,EM i H' s1 AB,fun v H1 hy=>?_⟩;obtain ⟨e,hx⟩:=CY i H' v H1 s1 AB hy;subst e;obtain ⟨z,B8⟩:∃ z,zs[i]?=some z:=⟨_,Uh (by omega)⟩;have hl:(zs.take i).length=as.length:=UK hp;rw [U3] at hl;refine hb i v z _ _ _ hx B8 s1 fun H3 p s3 LC=>⟨_,s3 _ _ e1,?_,AB,aI (s1.trans s3) hD,as++[p],?_,?_⟩
   · rw [Ue];have:US=16777216:=Wy;omega
   · rw [ae,UC];rfl
   · have kt:KT H3 (upd H3 D (.lst (as.map V.ref++[.ref p]))):=bp (s3 _ _ e1);rw [take_snoc B8];exact P2.append (P2.mp (fun x y e=>hF _ _ _ _ ((Same.kt s3).trans kt) e) hp) (.cons (hF _ _ _ _ kt LC) .nil)
 · have B1:i=xs.length:=by omega
   subst B1;refine .inl ⟨Bu _ s1,AM D H' as hD s1 e1 ?_⟩;rw [U8 (by omega)] at hp;exact hp
theorem tH {α:Type} {F:Hp->α->Ul->Prop} {js:List (Option Nat)} {g:TG} {tt:TT} {te:TE} {σ:St} {J:It} {H:Hp} {xs:List V} {fin:Ul->Hp->Prop} (zs:List α) (hF:∀ H1 H2 z p,KT H1 H2->(∀ o,H1 p=some o->H2 p=some o)->F H1 z p->F H2 z p) (hz:zs.length=xs.length) (hn:xs.length<=1000000)
 (EM:∀ i H2,L2.Same H H2->i<xs.length->J.go i H2) (Bu:∀ H2,L2.Same H H2->J.stop xs.length H2) (CY:∀ (i:Nat) H2 x H3,L2.Same H H2->i<xs.length->J.yld i H2 x H3->H3=H2/\xs[i]?=some x)
 (hb:∀ (i:Nat) x z H2 (R:VK) (W':Hp->Prop),xs[i]?=some x->zs[i]?=some z->L2.Same H H2->(∀ H3 p,L2.Same H2 H3->H2 p=none->F H3 z p->R (.ref p) H3)->g x (cσ js σ) H2 fun AA H3=>tt AA H3 fun b H4=>if b=true then te AA H4 R else W' H4)
 (AM:∀ D H' as,H D=none->L2.Same H H'->H' D=some (.lst (as.map V.ref))->Vg (F H') zs as->fin D H') :
 ∀ D,H D=none->∃ (n:Nat) (W:Nat->Hp->Prop),W 0 (upd H D (.lst []))/\da js g tt te σ J D n W fun H'=>fin D H':=by
 intro D hD;refine ⟨xs.length,fun i H'=>i<=xs.length/\L2.Same H H'/\∃ as:List Ul,H' D=some (.lst (as.map V.ref))/\Vg (fun z a=>F H' z a/\a≠D) (zs.take i) as,⟨Vh _,ag hD _,[],by rw [ae];rfl,.nil⟩,?_⟩;rintro i H' ⟨hi,s1,as,e1,hp⟩;by_cases AB:i<xs.length
 · refine .inr ⟨AB,EM i H' s1 AB,fun v H1 hy=>?_⟩;obtain ⟨e,hx⟩:=CY i H' v H1 s1 AB hy;subst e;obtain ⟨z,B8⟩:∃ z,zs[i]?=some z:=⟨_,Uh (by omega)⟩;have hl:(zs.take i).length=as.length:=UK hp;rw [U3] at hl;refine hb i v z _ _ _ hx B8 s1 fun H3 p s3 np LC=>⟨_,s3 _ _ e1,?_,AB,aI (s1.trans s3) hD,as++[p],?_,?_⟩
   · rw [Ue];have:US=16777216:=Wy;omega
   · rw [ae,UC];rfl
   · have kt:KT H3 (upd H3 D (.lst (as.map V.ref++[.ref p]))):=bp (s3 _ _ e1);have Cf:p≠D:=fun z=>by rw [z,e1] at np;cases np
     rw [take_snoc B8];exact P2.append (P2.mp (fun x y e=>⟨hF _ _ _ _ ((Same.kt s3).trans kt) (fun o ho=>by rw [au e.2];exact s3 _ _ ho) e.1,e.2⟩) hp) (.cons ⟨hF _ _ _ _ kt (fun o ho=>by rw [au Cf];exact ho) LC,Cf⟩ .nil)
 · have B1:i=xs.length:=by omega
   subst B1;refine .inl ⟨Bu _ s1,AM D H' as hD s1 e1 ?_⟩;rw [U8 (by omega)] at hp;exact P2.mp (fun _ _ e=>e.1) hp
end BB
namespace L2
open PySem PySem.Spec PyProof.Rows
theorem FnOk.x0 {P:U1} {w:Vl} {K:Uj} {mg:UA->Option Um} {base:VO} {k:Nat} {f:Ul} {fd:WV} {ps:List UA} {sp N5:Sp} (F:FnOk P w K mg base (CX1 P w) k f fd ps N5)
 (h:∀ vs H Q E,sp vs H Q E->N5 vs H Q fun _ _ _=>False):FnOk P w K mg base CX0 k f fd ps sp :=
 ⟨fun vs H Q E q=>F.len vs H Q _ (h _ _ _ _ q),fun A outer s H args us vs Q E hr he hb hv hs=>X9 (F.run A outer s H args us vs Q _ hr he hb hv (h _ _ _ _ hs)) fun r s' hc=>by
  cases r with
  | error e =>
    obtain ⟨_,_,_,_,_,_,_,_,_,_,_,_,_,hE⟩:=(show CX1 P w outer H s (fun _ _ _=>False) e s' from hc);exact hE.elim
  | ok v=>cases v <;> exact hc⟩
end L2
namespace L2
open PySem
theorem us1 {α:Type}:∀ {us:List α},us.length=1->∃ a,us=[a]
 | [a],_=>⟨a,rfl⟩
theorem us2 {α:Type}:∀ {us:List α},us.length=2->∃ a b,us=[a,b]
 | [a,b],_=>⟨a,b,rfl⟩
theorem us3 {α:Type}:∀ {us:List α},us.length=3->∃ a b c,us=[a,b,c]
 | [a,b,c],_=>⟨a,b,c,rfl⟩
theorem us4 {α:Type}:∀ {us:List α},us.length=4->∃ a b c d,us=[a,b,c,d]
 | [a,b,c,d],_=>⟨a,b,c,d,rfl⟩
theorem us5 {α:Type}:∀ {us:List α},us.length=5->∃ a b c d e,us=[a,b,c,d,e]
 | [a,b,c,d,e],_=>⟨a,b,c,d,e,rfl⟩
end L2
namespace PySem
open Sem (wp)
section
variable {prog:U1} {w:Vl} {K:Type} [DecidableEq K] {knd:HeapKind prog w K} {A:Vm} {E:Um->Uo->Prop} {s:Uo}
end
end PySem
namespace L2
open PySem PySem.Spec PyProof.Rows BB
end L2
namespace BB
open PySem L2
end BB
namespace PySem
open Sem (wp)
section
variable {prog:U1} {w:Vl} {A:Vm} {E:Um->Uo->Prop} {s:Uo} {I:Ul} {fp wr:List Ul} {G:Array GenState->Array GenState->Prop} {n:Nat} {P:Nat->Um->Prop} {St:Nat->Uo->Prop}
end
end PySem
namespace L2
open PySem PySem.Spec PyProof.Rows
section
variable {X:Cx} {o e:VI} {to te:TE} {p2 BM apos A6:Ym}
def zL:List V->Hp->VK->Prop:=fun xs H Q=>∃ i:Int,xs=[.int i]/\i.natAbs.log2<1920/\Q (.str (Ug (toString i))) H
theorem fg:dJ X (.type "str") zL:=by
 intro pins s σ H xs us Q I r h;obtain ⟨i,rfl,hi,q⟩:=h;obtain ⟨u,rfl,rx⟩:=vals1 r;obtain ⟨t,rfl⟩:=rx;exact P.str_of_int hi ⟨.str (Ug (toString i)),H,I.tok _,⟨_,rfl⟩,q⟩
end
end L2
namespace PySem
open Sem (wp)
namespace F
end F
section
variable {prog:U1} {w:Vl} {A:Vm} {E:Um->Uo->Prop} {s:Uo} {a:Ul} {xs:Array Um} {k:Nat}
end
end PySem
namespace L2
open PySem PySem.Spec PyProof.Rows
section
variable {X:Cx} {pins:List (Ul×Wz)} {σ:St}
end
end L2
namespace BB
open PySem L2
def aV (i:Int):UA:=Ug (toString i)
def dot:UA:=Ug "."
def wu (s k:Int):UA:=aV s++dot++aV k
def cn (s k:Int):Th:=.knot (wu s k) []
end BB
namespace PySem
section
variable {prog:U1} {w:Vl} {A:Vm} {E:Um->Uo->Prop} {s:Uo}
theorem bb_zip_next0 {z TI TO i1 i2 l1 l2:Ul} {k:Nat} {xs ys:Array Um} {x y a b:Um} {Q:Option Um->Uo->Prop} (D:ZipApart z TI TO i1 i2 l1 l2)
 (hz:Zn s.heap z TI TO .none) (hTI:Xx s.heap TI (.ref i1) (.ref i2)) (hTO:Xx s.heap TO a b)
 (h1:s.heap.IsTupleIter i1 l1 k) (h2:s.heap.IsTupleIter i2 l2 k) (Bl:s.heap.IsTuple l1 xs) (Bh:s.heap.IsTuple l2 ys) (hx:xs[k]?=some x) (hy:ys[k]?=some y)
 (hQ:∀ h',Zn h' z TI TO (Yx s.heap.objs.size)->Xx h' TO x y->h'.IsTupleIter i1 l1 (k+1)->h'.IsTupleIter i2 l2 (k+1)->Xx h' s.heap.objs.size x y->h'.objs.size=s.heap.objs.size+1 →
  (∀ c o,c≠z->c≠TO->c≠i1->c≠i2->s.heap.get? c=some o->h'.get? c=some o)->Q (some (.ref s.heap.objs.size)) { s with heap:=h' }) :
 UO (UZ prog w) A (ZL (.ref z)) Q E s:=by
 have hT:s.TypeIs (.ref z) "zip":=⟨_,hz,rfl⟩;unfold ZL;refine Uk (wpAny_attempt (Wj (name:=Ug "__next__") hT Zz (Xw Zz hT F.entry_zip_next ?_ (F.args_zip_next_1 _))));exact bb_zip_itemA D hz hTI hTO h1 h2 Bl Bh hx hy fun h' a1 a2 a3 a4 a5 a6 a7=>UE (hQ h' a1 a2 a3 a4 a5 a6 a7)
end
end PySem
namespace L2
open PySem PySem.Spec PyProof.Rows
def Itz (K:Uj) (a b:Ul):It:=⟨fun i H=>∃ xs ys x y,SqT K H a xs/\SqT K H b ys/\xs[i]?=some x/\ys[i]?=some y,fun i H v H'=>∃ p x y,H p=none/\v=.ref p/\H'=upd H p (.tup [x,y])/\(∀ xs,SqT K H a xs->xs[i]?=some x)/\(∀ ys,SqT K H b ys->ys[i]?=some y),fun i H=>∃ xs ys,SqT K H a xs/\SqT K H b ys/\(xs.length<=i∨ys.length<=i)⟩
structure ZTn (z TI TO i1 i2 a b:Ul) (i:Nat) (h:VO):Prop where
 ap:ZipApart z TI TO i1 i2 a b
 zip:Zn h z TI TO .none
 hTI:Xx h TI (.ref i1) (.ref i2)
 hTO:∃ u v,Xx h TO u v
 h1:h.IsTupleIter i1 a i
 h2:h.IsTupleIter i2 b i
theorem v3 {P:U1} {w:Vl} {K:Uj} {elts:List VI} {k1} {pos:Ym} (a b z TI TO i1 i2:Ul):Turn P w K (.Tuple elts k1 pos) (Itz K a b) [z,TI,TO,i1,i2] z (ZTn z TI TO i1 i2 a b) where
 mem:=by simp
 obj:=fun i h st c hc=>by
  obtain ⟨D,hz,hTI,⟨u,v,hTO⟩,⟨o1,a1,a2,a3⟩,⟨o2,b1,b2,b3⟩⟩:=st;simp only [UH,Wh,or_false] at hc;rcases hc with rfl | rfl | rfl | rfl | rfl
  · exact ⟨_,hz,fun v z=>by cases z⟩
  · exact ⟨_,hTI,fun v z=>by cases z⟩
  · exact ⟨_,hTO,fun v z=>by cases z⟩
  · exact ⟨o1,a1,fun v z=>by rw [a3] at z;cases z⟩
  · exact ⟨o2,b1,fun v z=>by rw [b3] at z;cases z⟩
 keep:=fun i h h' st k=>by
  obtain ⟨D,hz,hTI,⟨u,v,hTO⟩,⟨o1,a1,a2⟩,⟨o2,b1,b2⟩⟩:=st;exact ⟨D,k _ (by simp) _ hz,k _ (by simp) _ hTI,⟨u,v,k _ (by simp) _ hTO⟩,⟨o1,k _ (by simp) _ a1,a2⟩,⟨o2,k _ (by simp) _ b1,b2⟩⟩
 item:=by
  intro X hP hw hK hc i pins s σ H E I hf st hg;subst hP hw hK;obtain ⟨xs,ys,x,y,GS,GU,hx,hy⟩:=hg;obtain ⟨ia,J5,pa,Iy⟩:=I.tuple GS;obtain ⟨ib,J6,pb,N6⟩:=I.tuple GU;obtain ⟨u,hu,ru⟩:=J5.get hx;obtain ⟨v,hv,rv⟩:=J6.get hy;obtain ⟨D,hz,hTI,⟨ta,tb,hTO⟩,h1,h2⟩:=st
  have lt:∀ c∈[z,TI,TO,i1,i2],c<s.heap.objs.size:=fun c hc=>by
   simp only [UH,Wh,or_false] at hc;rcases hc with rfl | rfl | rfl | rfl | rfl
   · exact UJ hz
   · exact UJ hTI
   · exact UJ hTO
   · obtain ⟨o,e,_⟩:=h1;exact UJ e
   · obtain ⟨o,e,_⟩:=h2;exact UJ e
  refine bb_zip_next0 D hz hTI hTO h1 h2 (show s.heap.IsTuple a ia.toArray from pa) (show s.heap.IsTuple b ib.toArray from pb) (by simpa using hu) (by simpa using hv) fun B5 a1 a2 a3 a4 a5 a6 a7=>?_;refine ⟨_,rfl,wpAny_letOwnedTupleGo_zip a1 fun B3 g1 sb=>?_⟩;replace sb:WY z B5 B3:=sb;have LD:H s.heap.objs.size=none:=I.hok.fresh (Uq _)
  have IA:Inv X pins σ (upd H s.heap.objs.size (.tup [x,y])) { s with heap:=s.heap.push { cls:=.type "tuple",data:=.seq #[u,v] },toks:=s.toks } :=
   I.laid (o:=.tup [x,y]) (fun b ob q=>Up _ q) (Uq _) ⟨by show 2<=US;decide,[u,v],0,.cons ru (.cons rv .nil),UG _ rfl⟩
  have TM:s.heap.objs.size≠z:=Xc (lt z (by simp));refine ⟨.ref s.heap.objs.size,upd H s.heap.objs.size (.tup [x,y]),?_,rfl,⟨_,x,y,LD,rfl,rfl,fun zs J7=>by rw [I.tuple_inj J7 GS];exact hx,fun zs J7=>by rw [I.tuple_inj J7 GU];exact hy⟩,?_,fun c hc=>?_⟩
  · have IB:Inv X pins σ (upd H s.heap.objs.size (.tup [x,y])) { s with heap:=B3,toks:=s.toks }:=by
     refine Inv.turnedL (s:={ s with heap:=s.heap.push { cls:=.type "tuple",data:=.seq #[u,v] },toks:=s.toks }) (h':=B3) (fp:=[z,TI,TO,i1,i2]) (t':=s.toks) IA (fun c o hc q=>?_) fun c hc=>?_
     · have n1:c≠z:=fun e=>hc (by simp [e]);have n2:c≠TO:=fun e=>hc (by simp [e]);have n3:c≠i1:=fun e=>hc (by simp [e]);have n4:c≠i2:=fun e=>hc (by simp [e]);rw [sb.2 c n1];by_cases Bg:c=s.heap.objs.size
       · subst Bg;have q':(s.heap.push { cls:=.type "tuple",data:=.seq #[u,v] }).get? s.heap.objs.size=some o:=q;rw [UG _ rfl] at q';rw [<- q'];exact a5
       · have q':(s.heap.push { cls:=.type "tuple",data:=.seq #[u,v] }).get? c=some o:=q;rw [Heap.get?_push_ne _ _ _ Bg] at q';exact a7 c o n1 n2 n3 n4 q'
     · obtain ⟨f0,f1⟩:=hf c hc;exact ⟨by rw [au (Vf (lt c hc))];exact f0,f1⟩
    exact IB
  · have sT:∀ c o,c≠z->B5.get? c=some o->B3.get? c=some o:=fun c o hc e=>(sb.2 c hc).trans e;refine ⟨D,g1,sT _ _ D.TIz (a7 _ _ D.TIz D.TITO D.TIi1 D.TIi2 hTI),⟨_,_,sT _ _ D.TOz a2⟩,?_,?_⟩
    · obtain ⟨o,e,r⟩:=a3;exact ⟨o,sT _ _ D.i1z e,r⟩
    · obtain ⟨o,e,r⟩:=a4;exact ⟨o,sT _ _ D.i2z e,r⟩
  · rw [au (Vf (lt c hc))];exact (hf c hc).1
 done:=by
  intro X hP hw hK hc i pins s σ H E I hf st hg;subst hP hw hK;obtain ⟨xs,ys,GS,GU,Dy⟩:=hg;obtain ⟨ia,J5,pa,Iy⟩:=I.tuple GS;obtain ⟨ib,J6,pb,N6⟩:=I.tuple GU;have Bi:=J5.length;have Fi:=J6.length;obtain ⟨D,hz,hTI,hTO,h1,h2⟩:=st;refine bb_zip_done (show X.A.handled=none from I.ok.hd hc) ⟨D,.inl hz,hTI,hTO,h1,h2,pa,pb⟩ ?_ fun h' kp=>⟨rfl,?_⟩
  · rcases Dy with h | h
    · exact .inl (by simp;omega)
    · exact .inr (by simp;omega)
  exact I.turnedL (fp:=[z,TI,TO,i1,i2]) (t':=s.toks) (fun c o hc q=>kp c o (fun hm=>hc (by simp only [UH,Wh,or_false] at hm ⊢;rcases hm with h | h | h | h <;> simp [h])) q) hf
 self:=fun _ _ _ _ _ st h=>wpAny_pyIter_zip st.zip h
section
variable {X:Cx} {e1 e2:VI} {t:TA} {p2 BM:Ym}
def aaK (K:Uj) (t:TA):TI:=fun σ H R=>t σ H fun vs H1=>∃ a b,vs=[.ref a,.ref b]/\(∃ xs,SqT K H1 a xs)/\(∃ ys,SqT K H1 b ys)/\R (Itz K a b) H1
theorem yP {elts:List VI} {k1} {pos:Ym} (g2:Gl X "zip") (m2:X.mg "zip"=none) (ha:PA X [e1,e2] t)
 (h2:Vt [e1,e2] X.env=(false,WS e1 X.env)::Vt [e2] X.env:=by rfl) (h3:(Yt BM (Vt [e2] X.env)).any (·.1)=false:=by rfl):PI X (.Tuple elts k1 pos) (.Call (.Name "zip" p2) [e1,e2] [] BM) (aaK X.K t):=by
 intro pins s σ H R I h;refine WG (iS I g2 m2 boot_zip ?_);refine WQ (thn (ha BM pins s σ H _ I h) fun us s2 ⟨vs,H2,I2,r,a,b,ev,⟨xs,GS⟩,⟨ys,GU⟩,q⟩=>?_) h2 h3;subst ev;obtain ⟨u1,u2,rfl,r1,r2⟩:=vals2 r;cases r1;cases r2;obtain ⟨ia,J5,pa,Iy⟩:=I2.tuple GS;obtain ⟨ib,J6,pb,N6⟩:=I2.tuple GU;have Fj:a<s2.heap.objs.size:=by obtain ⟨o,e,_⟩:=pa;exact UJ e
 have B6:b<s2.heap.objs.size:=by obtain ⟨o,e,_⟩:=pb;exact UJ e
 refine bb_call_zip (show s2.heap.IsTuple a ia.toArray from pa) (show s2.heap.IsTuple b ib.toArray from pb) fun h' z1 z2 z3 z4 z5 z6 z7=>?_;have D:ZipApart (s2.heap.objs.size+4) (s2.heap.objs.size+2) (s2.heap.objs.size+3) s2.heap.objs.size (s2.heap.objs.size+1) a b:=zipApart_new Fj B6;refine wpAny_pyIter_zip (s:={ s2 with heap:=h' }) z1 ?_;refine ⟨s2.heap.objs.size+4,[s2.heap.objs.size+4,s2.heap.objs.size+2,s2.heap.objs.size+3,s2.heap.objs.size,s2.heap.objs.size+1],_,_,H2,rfl,I2.kept (t':=s2.toks) z7,v3 a b _ _ _ _ _,⟨D,z1,z2,⟨_,_,z3⟩,z4,z5⟩,fun c hc=>?_,q⟩
 have BY:s2.heap.objs.size<=c:=by
  simp only [UH,Wh,or_false] at hc;rcases hc with h | h | h | h | h <;> rw [h]
  · exact Yo _ _
  · exact Yo _ _
  · exact Yo _ _
  · exact Uq _
  · exact Yo _ _
 exact I2.fpOk BY (I2.hok.fresh BY)
end
end L2
namespace BB
open PySem L2
def blank:UA:=Ug " "
def tI:UA:=Ug "/"
def dL:UA:=Ug "\n"
def cm (k:UA×Int):UA:=k.1++tI++aV k.2
def aT (w:UA) (ks:List (UA×Int)):UA:=VG blank (w::ks.map cm)
def d9 (st:Int) (n:UA) (t:Th):UA:=Ug "rule "++aV st++blank++n++blank++(t.fill cn).show
def gw (ins:List (UA×Int)) (st:Int) (row:List Th):List UA:=(ins.zip row).map fun z=>d9 st z.1.1 z.2
def cz (ins:List (UA×Int)) (rows:List (List Th)) (i:Nat):List UA:=(((rows.zipIdx).take i).map fun z=>gw ins (z.2:Nat) z.1).flatten
theorem zipIdx_get {α:Type} {l:List α} {i:Nat} {x:α} (h:l[i]?=some x):l.zipIdx[i]?=some (x,i):=by
 rw [List.getElem?_zipIdx,h];simp
theorem eL {ins:List (UA×Int)} {rows:List (List Th)} {i:Nat} {row:List Th} (h:rows[i]?=some row):cz ins rows (i+1)=cz ins rows i++gw ins (i:Nat) row:=by
 unfold cz;rw [take_snoc (zipIdx_get h),UC,WO];simp
theorem eS {ins:List (UA×Int)} {rows:List (List Th)}:cz ins rows 0=[]:=by
 unfold cz;rw [WC];rfl
def eM (t:Th):UA:=Ug "head "++(t.fill cn).show
def cy (ins outs:List (UA×Int)) (head:Th) (rows:List (List Th)):List UA:=[aT (Ug "in") ins,aT (Ug "out") outs,eM head]++cz ins rows rows.length
theorem rf (w:UA):aT w []=w:=rfl
theorem sE (a b c:UA):a++b++c=a++(b++c):=by
 have e:∀ x y:UA,(x++y)=(⟨x.cps++y.cps⟩:UA):=fun _ _=>rfl;simp only [e,YH]
theorem sO (sep a:UA) {l:List UA} (h:l≠[]):VG sep (l++[a])=VG sep l++sep++a:=by
 have e:∀ m:List UA,VG sep m=X3 sep m:=fun m=>XN sep m;rw [e,e,PyProof.Rows.FinIter.join_snoc,if_neg h]
theorem pQ (w:UA) (ks:List (UA×Int)) (k:UA×Int):aT w (ks++[k])=aT w ks++blank++k.1++tI++aV k.2:=by
 unfold aT;rw [UC,<- Va];show VG blank ((w::ks.map cm)++[cm k])=_;rw [sO blank (cm k) (by simp)];unfold cm;simp only [sE]
mutual
theorem mz {ks:List (UA×Int)} (g:fU ks):∀ {t:Th},t.FitP ks->t.size<=4 ^ t.tall
 | .knot n ts,h=>by
   rw [Th.FitP] at h;have hn:=g.num _ h.1
   have hl:ts.length<=3:=by
    have h2:((ts.length:Nat):Int)<=3:=hn.2;omega
   have:=kA g h.2;rw [Th.size,Th.tall,Nat.pow_succ];have h1:1<=4 ^ aL ts:=Nat.pos_of_ne_zero (by intro z;have:=Nat.pow_eq_zero.mp z;omega);have h3:ts.length * 4 ^ aL ts<=3 * 4 ^ aL ts:=XH _ hl;omega
 | .call s k,h=>by rw [Th.size,Th.tall];decide
theorem kA {ks:List (UA×Int)} (g:fU ks):∀ {ts:List Th},ml ks ts->aC ts<=ts.length * 4 ^ aL ts
 | [],_=>by rw [aC];exact Vh _
 | t::ts,h=>by
   rw [ml] at h;have h1:=mz g h.1;have h2:=kA g h.2;rw [aC,aL,Ui,WA];have h3:4 ^ t.tall<=4 ^ max t.tall (aL ts):=VY (by decide) (Nat.le_max_left ..);have h4:4 ^ aL ts<=4 ^ max t.tall (aL ts):=VY (by decide) (Nat.le_max_right ..);have h5:=WM ts.length h4;omega
end
theorem vt {B:Nat}:∀ {l:List UA},(∀ x∈l,x.length<=B)->(l.map (·.length)).sum<=B * l.length
 | [],_=>by simp
 | x::l,h=>by
   have h1:=h x (Uy ..);have h2:=vt fun y hy=>h y (Uv _ hy);rw [UB,V7,Ui,ZW];omega
theorem yz {J:It} {g:TG} {tb:TS} {D:Ends} {σ:St} {H:Hp} (n:Nat) (Pv:Nat->St->Hp->Prop) (h0:Pv 0 σ H) (EM:∀ i σ H,i<n->Pv i σ H->J.go i H) (Bu:∀ σ H,Pv n σ H->J.stop n H)
 (hs:∀ i x σ H H',i<n->Pv i σ H->J.yld i H x H'->g x σ H' fun AA H2=>tb { D with nx:=Pv (i+1),ct:=Pv (i+1),bk:=D.nx } AA H2) (hd:∀ σ H,Pv n σ H->D.nx σ H) :
 ∃ W:Nat->Nat->St->Hp->Prop,(∃ m,W 0 m σ H)/\∀ i m σ H,W i m σ H →
   (J.stop i H/\D.nx σ H)∨(J.go i H/\∃ N:St->Hp->Prop,(∀ f' H',N f' H'->∃ m',m'<m/\W (i+1) m' f' H')/\∀ x H',J.yld i H x H'->g x σ H' fun AA H2=>tb { D with nx:=N,ct:=N,bk:=D.nx } AA H2):=by
 refine ⟨fun i m σ H=>i<=n/\m=n - i/\Pv i σ H,⟨n,Vh _,rfl,h0⟩,?_⟩;rintro i m σ H ⟨hi,rfl,p⟩;by_cases h:i=n
 · left;subst h;exact ⟨Bu σ H p,hd σ H p⟩
 · right;have B1:i<n:=by omega
   exact ⟨EM i σ H B1 p,Pv (i+1),fun f' H' q=>⟨n - (i+1),by omega,by omega,rfl,q⟩,fun x H' y=>hs i x σ H H' B1 p y⟩
end BB
namespace BB
open PySem L2
noncomputable section
local instance:DecidableEq Th:=fun _ _=>Classical.propDecidable _
end
end BB
namespace PySem
open Sem (wp)
section
variable {prog:U1} {w:Vl} {K:Type} [DecidableEq K] {knd:HeapKind prog w K} {A:Vm} {E:Um->Uo->Prop} {s:Uo}
end
end PySem
namespace L2
open PySem PySem.Spec PyProof.Rows
end L2
namespace PySem
open Sem (wp)
section
variable {prog:U1} {w:Vl} {A:Vm} {R:Zr->Uo->Prop}
end
section
variable {prog:U1} {w:Vl} {A:Vm} {E:Um->Uo->Prop} {s:Uo}
end
end PySem
namespace L2
open PySem PySem.Spec PyProof.Rows
end L2
namespace L2
open PySem PySem.Spec PyProof.Rows BB
end L2
namespace PySem
open Sem (wp)
section
variable {prog:U1} {w:Vl} {K:Type} [DecidableEq K] (knd:HeapKind prog w K) (d:Ul)
end
section
variable {prog:U1} {w:Vl} {K:Type} [DecidableEq K] {knd:HeapKind prog w K} {A:Vm} {E:Um->Uo->Prop} {s:Uo}
end
end PySem
namespace L2
open PySem PySem.Spec PyProof.Rows
end L2
namespace BB
open PySem L2
end BB
namespace BB
open PySem L2
end BB
namespace BB
open PySem L2
end BB
namespace BB
open PySem L2
theorem lW {u:Th}:∀ {ts:List Th},u∈ts->u.size<=aC ts
 | [],h=>by cases h
 | t::ts,h=>by
   rw [aC];rcases UH.mp h with rfl | h
   · omega
   · have:=lW h;omega
end BB
namespace BB
open PySem L2 PySem.Builtin PySem.Builtin.Str
def ofL (l:List Nat):UA:=⟨l.toArray⟩
theorem aM (l:List Nat):(ofL l).cps.toList=l:=by unfold ofL;simp
theorem cE {x y:UA} (h:x.cps.toList=y.cps.toList):x=y:=by
 apply Str.ext';exact Array.toList_inj.mp h
theorem iM (x:UA):ofL x.cps.toList=x:=cE (aM _)
def aH (c:Nat):List Nat->List (List Nat)
 | []=>[[]]
 | d::l=>if d=c then []::aH c l else match aH c l with
   | []=>[[d]]
   | p::r=>(d::p)::r
theorem ce (c:Nat):∀ l,∃ p r,aH c l=p::r
 | []=>⟨[],[],rfl⟩
 | d::l=>by
   obtain ⟨p,r,e⟩:=ce c l;rw [aH,e];split
   · exact ⟨_,_,rfl⟩
   · exact ⟨_,_,rfl⟩
def idxs (c:Nat):Nat->List Nat->List Nat
 | _,[]=>[]
 | off,d::l=>if d=c then off::idxs c (off+1) l else idxs c (off+1) l
theorem dr (c:Nat):(⟨#[c]⟩:UA).length=1:=rfl
theorem subAt_one (x:UA) (c i:Nat) (hi:i<x.length):subAt x ⟨#[c]⟩ i=decide (x.cps.toList[i]?=some c):=by
 rw [StrLaws.subAt_eq,dr];have hl:i<x.cps.toList.length:=by rw [UQ];exact hi
 rw [Wu hl,Uh hl];show ([x.cps.toList[i]] == [c])=_;by_cases h:x.cps.toList[i]=c
 · rw [h];simp
 · have:decide (some x.cps.toList[i]=some c)=false:=decide_eq_false fun z=>h (UD z);rw [this];exact beq_false_of_ne fun z=>h (U7 z).1
theorem vn (x:UA) (c:Nat) (f:Array Nat) (free:Nat):(forIn [x.length] (f,free) (V2 x ⟨#[c]⟩ x.length (x.length+1))).run.fst=f:=by
 rw [Ws];unfold V2
 have h1:¬ (((f.size<x.length+1/\free<=x.length)/\x.length+(⟨#[c]⟩:UA).length<=x.length)/\subAt x ⟨#[c]⟩ x.length=true):=fun h=>by
  have:=h.1.2;rw [dr] at this;omega
 rw [if_neg h1];rfl
theorem mK (x:UA) (c:Nat):∀ (l pre:List Nat) (f:Array Nat) (free:Nat),x.cps.toList=pre++l->free<=pre.length->f.size<=pre.length →
 (forIn (List.range' pre.length (l.length+1)) (f,free) (V2 x ⟨#[c]⟩ x.length (x.length+1))).run.fst.toList=f.toList++idxs c pre.length l
 | [],pre,f,free,hx,_,_=>by
   have hlen:pre.length=x.length:=by
    have:=congrArg WD hx;rw [UQ,UY] at this;exact this.symm
   rw [W7,hlen,idxs,UY];exact congrArg Z2 (vn x c f free)
 | d::l,pre,f,free,hx,hf,hs=>by
   have hlen:x.length=pre.length+(l.length+1):=by
    have:=congrArg WD hx;rw [UQ,Uu,Ui] at this;exact this
   rw [List.range'_succ,Ws,Ui];have hg:x.cps.toList[pre.length]?=some d:=by rw [hx];simp
   have Cb:=subAt_one x c pre.length (by omega);rw [hg] at Cb;have Cp:x.cps.toList=(pre++[d])++l:=by rw [hx];simp
   have Bj:(pre++[d]).length=pre.length+1:=by simp
   unfold V2;rw [idxs];by_cases BR:d=c
   · have h1:((f.size<x.length+1/\free<=pre.length)/\pre.length+(⟨#[c]⟩:UA).length<=x.length)/\subAt x ⟨#[c]⟩ pre.length=true:=by
      rw [dr,Cb,BR];exact ⟨⟨⟨by omega,hf⟩,by omega⟩,decide_eq_true rfl⟩
     rw [if_pos h1,if_pos BR];have ih:=mK x c l (pre++[d]) (f.push pre.length) (pre.length+1) Cp (by omega) (by rw [Array.size_push];omega);rw [Bj] at ih;unfold V2 at ih;exact Eq.trans ih (by rw [Array.toList_push,U2];rfl)
   · have h1:¬ (((f.size<x.length+1/\free<=pre.length)/\pre.length+(⟨#[c]⟩:UA).length<=x.length)/\subAt x ⟨#[c]⟩ pre.length=true):=fun h=>by
      have h2:=h.2;rw [Cb] at h2;exact BR (UD (of_decide_eq_true h2))
     rw [if_neg h1,if_neg BR];have ih:=mK x c l (pre++[d]) f free Cp (by omega) (by omega);rw [Bj] at ih;unfold V2 at ih;exact ih
theorem oZ (x:UA) (c:Nat):occurrences x ⟨#[c]⟩ 0 x.length (x.length+1)=idxs c 0 x.cps.toList:=by
 rw [StrLaws.occ_eq,Yz];have h:=mK x c x.cps.toList [] #[] 0 (by simp) (Vh _) (Vh _);rw [UQ] at h;exact h
theorem iU (x:UA) (c:Nat):∀ (l pre:List Nat) (i:Nat),x.cps.toList=pre++l->i<=pre.length →
 (StrLaws.partsFrom x 1 i (idxs c pre.length l)).map (fun p=>p.cps.toList)=match aH c l with | []=>[] | p::r=>(pre.drop i++p)::r
 | [],pre,i,hx,hi=>by
   have hlen:x.length=pre.length:=by
    have:=congrArg WD hx;rw [UQ,UY] at this;exact this
   rw [idxs,aH,StrLaws.partsFrom,UB,Wm,StrLaws.strSub_toList,hx,UY,hlen,U8 (by rw [Vi];omega)];simp
 | d::l,pre,i,hx,hi=>by
   have Cp:x.cps.toList=(pre++[d])++l:=by rw [hx];simp
   have Bj:(pre++[d]).length=pre.length+1:=by simp
   rw [idxs,aH];obtain ⟨p,r,e⟩:=ce c l;by_cases BR:d=c
   · rw [if_pos BR,if_pos BR,StrLaws.partsFrom,UB];have ih:=iU x c l (pre++[d]) (pre.length+1) Cp (by omega);rw [Bj,e] at ih;rw [ih,StrLaws.strSub_toList,hx,e]
     have h1:((pre++d::l).drop i).take (pre.length - i)=pre.drop i:=by
      rw [List.drop_append_of_le_length hi,List.take_left' (by rw [Vi])]
     have h2:(pre++[d]).drop (pre.length+1)=[]:=Y7 (by rw [Bj];omega);rw [h1,h2];simp
   · rw [if_neg BR,if_neg BR];have ih:=iU x c l (pre++[d]) i Cp (by omega);rw [Bj,e] at ih;rw [ih,e,List.drop_append_of_le_length hi];simp
theorem nw (x:UA) (c:Nat):partsBetween x (occurrences x ⟨#[c]⟩ 0 x.length (x.length+1)) 1=(aH c x.cps.toList).map ofL:=by
 rw [StrLaws.partsBetween_eq,oZ];have h:=iU x c x.cps.toList [] 0 (by simp) (Uq _);rw [W7] at h;obtain ⟨p,r,e⟩:=ce c x.cps.toList;rw [e] at h ⊢;have h2:=congrArg (List.map ofL) h;rw [We] at h2;have h3:((ofL ∘ fun p:UA=>p.cps.toList):UA->UA)=fun p=>p:=funext fun p=>iM p;rw [h3,List.map_id'] at h2;rw [h2];simp
theorem lN (c:Nat):∀ (l:List Nat) (off:Nat),idxs c off l=[]->aH c l=[l]
 | [],_,_=>rfl
 | d::l,off,h=>by
   rw [idxs] at h;by_cases BR:d=c
   · rw [if_pos BR] at h;cases h
   · rw [if_neg BR] at h;rw [aH,if_neg BR,lN c l _ h]
theorem pL {x:UA} {c:Nat} (hc:c<256):¬ VD x<VD ⟨#[c]⟩:=by
 have h1:VD ⟨#[c]⟩=1:=by
  unfold VD;have:(#[c]:Array Nat).all (·<256)=true:=by simp [hc]
  rw [if_pos this]
 have h2:1<=VD x:=by
  unfold VD;split
  · exact Uq _
  · split <;> decide
 omega
theorem jI (x:UA) {c:Nat} (hc:c<256):Wk x ⟨#[c]⟩=(aH c x.cps.toList).map ofL:=by
 unfold Wk;by_cases h0:x.length=0
 · have hx:x.cps.toList=[]:=U9.mp (by rw [UQ];exact h0)
   have h1:(decide (x.length<(⟨#[c]⟩:UA).length) || decide (VD x<VD ⟨#[c]⟩))=true:=by
    rw [dr,h0];rfl
   rw [if_pos h1,hx];show [x]=[ofL []];rw [<- hx,iM]
 · have h1:¬ (decide (x.length<(⟨#[c]⟩:UA).length) || decide (VD x<VD ⟨#[c]⟩))=true:=fun h=>by
    rcases Zb .. |>.mp h with h | h
    · have:=of_decide_eq_true h;rw [dr] at this;omega
    · exact pL hc (of_decide_eq_true h)
   rw [if_neg h1];by_cases h2:(occurrences x ⟨#[c]⟩ 0 x.length (x.length+1)).isEmpty=true
   · rw [if_pos h2];rw [oZ] at h2;have h3:=lN c _ 0 (List.isEmpty_iff.mp h2);rw [h3,UB,Wm,iM]
   · rw [if_neg h2,dr];exact nw x c
def d2 (c:Nat) (z:List Nat) (l:List Nat):List Nat:=l.flatMap fun d=>if d=c then z else [d]
theorem fC (c:Nat) (z:UA):∀ l:List Nat,(X3 z ((aH c l).map ofL)).cps.toList=d2 c z.cps.toList l
 | []=>by
   show (ofL []).cps.toList=_;rw [aM];rfl
 | d::l=>by
   have ih:=fC c z l;obtain ⟨p,r,e⟩:=ce c l;rw [aH];unfold d2 at ih ⊢;rw [Xe,<- ih,e];by_cases BR:d=c
   · rw [if_pos BR,if_pos BR];show (ofL []++z++X3 z (ofL p::r.map ofL)).cps.toList=_;rw [Wg,Wg,VE,VE,aM,Vs];rfl
   · rw [if_neg BR,if_neg BR];cases r with
     | nil =>
       show (ofL (d::p)).cps.toList=[d]++(ofL p).cps.toList;rw [aM,aM];rfl
     | cons p2 r =>
       show (ofL (d::p)++z++X3 z (ofL p2::r.map ofL)).cps.toList=[d]++(ofL p++z++X3 z (ofL p2::r.map ofL)).cps.toList;rw [Wg,Wg,Wg,Wg,VE,VE,VE,VE,aM,aM];rfl
theorem replace_one (x z:UA) (c:Nat) (hz:z.length≠0):Y9 x ⟨#[c]⟩ z=ofL (d2 c z.cps.toList x.cps.toList):=by
 apply cE;rw [aM];unfold Y9;by_cases h2:(occurrences x ⟨#[c]⟩ 0 x.length (x.length+1)).isEmpty=true
 · rw [if_pos (by rw [h2];rfl)];rw [oZ] at h2;have h3:=lN c _ 0 (List.isEmpty_iff.mp h2);have h4:=fC c z x.cps.toList;rw [h3] at h4;rw [<- h4];show _=(ofL x.cps.toList).cps.toList;rw [aM]
 · have h3:¬ ((occurrences x ⟨#[c]⟩ 0 x.length (x.length+1)).isEmpty || ((⟨#[c]⟩:UA).length == 0 && z.length == 0))=true:=fun h=>by
    rcases Zb .. |>.mp h with h | h
    · exact h2 h
    · rw [dr] at h;simp at h
   rw [if_neg h3,dr,nw,XN];exact fC c z _
end BB
namespace L2
open PySem PySem.Spec PySem.Calls PyProof.Rows BB
section
variable {X:Cx} {pins:List (Ul×Wz)} {σ:List (Option V)} {H:Hp} {s:Uo}
theorem uR {M:Model} {A:Vm} {E:Um->Uo->Prop} {i:Nat} {x:UA} {v:V} {u:Um} {Q:Unit->Uo->Prop} (I:Inv X pins σ H s) (hN:X.N.Nodup) (hi:X.N[i]?=some x) (hk:X.env.scope.names.lookup x=some .local) (r:RelV v u)
 (h:∀ h' m',Inv X pins (σ.set i (some v)) H { s with heap:=h',toks:=s.toks+1 }->h'.Ns X.env.locals m'->m' x=some u->(∀ (j:Nat) (y:UA) (w:V),j≠i->X.N[j]?=some y->σ[j]?=some (some w)->X.env.scope.names.lookup y=some .local->∃ u',RelV w u'/\m' y=some u')->Q () { s with heap:=h',toks:=s.toks+1 }):UO M A (storeName X.env x u) Q E s:=by
 obtain ⟨m,hn,hl⟩:=id I.loc;have BI:(X.env.scope.kind == .class || (X.env.scope.kind == .module && X.env.locals != X.env.globals))=false:=by rw [I.ok.kind];rfl
 have CQ:i<σ.length:=by rw [I.len];exact (Uz.mp hi).1
 have cne:=I.cne
 have tracked:∀ {a:Ul} {h':VO},(∃ o,s.heap.get? a=some o/\H a=none)->WY a s.heap h'->HOk X.prog X.w H h':=fun {a h'} ha hs b ob e=>by
  obtain ⟨_,_,Cu⟩:=ha;refine (I.hok b ob e).stay (fun c w' hc q=>(hs.2 c ?_).trans q) (fun _ q=>q) fun _ _ q=>q;rintro rfl;rcases hc with rfl | hc
  · rw [Cu] at e;cases e
  · rw [Cu] at hc;cases hc
 refine wpAny_storeName_local hk hn (fun h' En hs=>?_) BI;obtain ⟨oL,_,_,JU,_⟩:=id hn;refine h h' _ ⟨I.ok,I.os,I.bare,⟨fun b o e n hb hx=>?_,fun b o e n hb hx=>?_,I.base.free,fun b o e hx=>?_,I.base.tups,I.base.frzs,I.base.tbls⟩,⟨_,En,fun j y v' e1 e2 e3=>?_⟩,fun y c e=>?_,I.free,I.freeC,fun p hp=>?_,tracked ⟨oL,JU,I.free⟩ hs,by simpa using I.len⟩ En (by simp) (fun j y w hj h1 h2 h3=>?_)
 · exact (hs.2 b (Vf (Vd (UJ e) I.ok.above))).trans (I.base.keep b o e n hb hx)
 · obtain ⟨sl,e1⟩:=I.base.slot b o e n hb hx;exact ⟨sl,(hs.2 b (Vf (Vd (UJ e) I.ok.above))).trans e1⟩
 · obtain ⟨o',e1⟩:=I.base.there b o e hx;exact ⟨o',(hs.2 b (Vf (Vd (UJ e) I.ok.above))).trans e1⟩
 · by_cases hj:j=i
   · subst hj;rw [hi] at e1;cases e1;rw [VZ CQ] at e2;cases e2;exact ⟨u,r,.inl ⟨hk,by simp⟩⟩
   · rw [WE (WX hj)] at e2;obtain ⟨u',r',q⟩:=hl j y v' e1 e2 e3;refine ⟨u',r',?_⟩;rcases q with ⟨k,e⟩ | ⟨k,c,e,z⟩
     · refine .inl ⟨k,?_⟩;have:y≠x:=fun e=>hj (gb hN e1 (e ▸ hi));simp [this,e]
     · exact .inr ⟨k,c,e,z.sameBut hs (cne y c e)⟩
 · obtain ⟨w',z⟩:=I.cell y c e;exact ⟨w',z.sameBut hs (cne y c e)⟩
 · obtain ⟨e,n,ne,nf,d⟩:=I.pin p hp;exact ⟨(hs.2 p.1 ne).trans e,n,ne,nf,d⟩
 · obtain ⟨u',r',q⟩:=hl j y w h1 h2 (.inl h3);refine ⟨u',r',?_⟩;have QK:y≠x:=fun e=>hj (gb hN h1 (e ▸ hi));rcases q with ⟨k,e⟩ | ⟨k,c,e,z⟩
   · simp [QK,e]
   · have k':X.env.scope.names.lookup y=some .cell∨X.env.scope.names.lookup y=some .free:=k;rcases k' with k' | k' <;> (rw [h3] at k';cases k')
end
def BT (X:Cx) (tg:VI) (body:List V5) (tb:Ends->V->St->Hp->Prop):Prop :=
 ∀ (pins:List (Ul×Wz)) (s:Uo) (σ:St) (H:Hp) (c:Nat) (t:Tok) (D:Ends),Inv X pins σ H s->0<t->t<s.toks->tb D (.str ⟨#[c]⟩) σ H →
   UO (UZ X.prog X.w) X.A (ZP tg X.env (.str ⟨#[c]⟩ t)) (fun _ s2=>UO (UZ X.prog X.w) X.A (execs body X.env) (SP X pins D) X.xe s2) X.xe s
def zJ (x:UA) (tb:Ends->V->St->Hp->Prop):TS:=fun D σ H=>∃ W:Nat->St->Hp->Prop,W 0 σ H/\∀ i σ H,W i σ H->(x.cps.size=i/\D.nx σ H)∨∃ c,x.cps[i]?=some c/\tb { D with nx:=W (i+1),ct:=W (i+1),bk:=D.nx } (.str ⟨#[c]⟩) σ H
theorem xi {X:Cx} {tg:VI} {body:List V5} {x:UA} {k:Nat} {A6 pos:Ym} {tb:Ends->V->St->Hp->Prop} (hp:PassesOwn (UZ X.prog X.w) X.A X.env X.xe) (hc:X.calm=true) (ha:x.cps.all (·<128)=true) (hb:BT X tg body tb)
 (hs:∀ y,Ys (.Constant (.str x) k A6) X.env y=pure y:=by intro _;rfl):PS X (.For tg (.Constant (.str x) k A6) body [] pos) (zJ x tb):=by
 intro pins s σ H D I h;obtain ⟨W,w0,turn⟩:=h;refine wpAny_For (Xf ?_) hs;have I1:Inv X pins σ H { s with toks:=s.toks+1 }:=I.tok _;refine wpAny_pyIter_ascii ha ?_;have T:=mY (P:=X.prog) (w:=X.w) (K:=X.K) (tg:=tg) x s.toks s.heap.objs.size
 have f2:∀ b∈[s.heap.objs.size],fk X pins H b:=fun b hb=>by
  have e:b=s.heap.objs.size:=by simpa using hb
  subst e;exact I.fpOk (Uq _) (I.hok.fresh (Uq _))
 have Bo:∀ {H':Hp},(∀ b∈[s.heap.objs.size],H' b=none)->∀ b∈[s.heap.objs.size],fk X pins H' b:=fun hn b hb=>⟨hn b hb,(f2 b hb).2⟩;refine codeAny_forLoop_any (fun n s'=>∃ i f' H',Inv X pins f' H' s'/\s'.heap.IsStrIter s.heap.objs.size "str_ascii_iterator" x s.toks i/\(∀ b∈[s.heap.objs.size],H' b=none)/\W i f' H'/\n+i=x.cps.size+1/\i<=x.cps.size/\0<s'.toks) ?_ (x.cps.size+1) ⟨0,σ,H,I1.kept (t':=s.toks+1) fun b o e=>Up _ e,⟨_,UG _ rfl,rfl,rfl⟩,fun b hb=>(f2 b hb).1,w0,rfl,Vh _,Nat.succ_pos _⟩;rintro n s3 ⟨i,Cv,H3,I3,HC,GJ,w3,Im,Eu,J8⟩;rcases turn i Cv H3 w3 with ⟨stop,qn⟩ | ⟨c,N7,step⟩
 · refine V9 hp (thn (T.done X rfl rfl rfl hc i pins s3 Cv H3 X.xe I3 (Bo GJ) HC stop) fun r s4 ⟨hr,I4⟩=>?_);subst hr;exact XG ⟨Cv,H3,I4,qn⟩
 · have BQ:i<x.cps.size:=(XM.mp N7).1;obtain ⟨f0,f1,TN,f3,f4,f5⟩:=Bo GJ s.heap.objs.size (by simp);refine V9 hp (wpAny_pyNext_ascii_item HC (c:=c) N7 fun h' BF sb=>?_);have I5:Inv X pins Cv H3 { s3 with heap:=h',toks:=s3.toks+1 }:=I3.turned (fun b o hb e=>(sb.2 b hb).trans e) f0 f1 f3 f4 f5;obtain ⟨o5,e5,c5,d5⟩:=id BF;refine V9 hp (lP (s:={ s3 with heap:=h',toks:=s3.toks+1 }) e5 c5 d5 (by decide) ?_);have K3:=I5.pinned (Bo GJ) (T.obj (i+1) h' BF);have hB:=hb _ { s3 with heap:=h',toks:=s3.toks+1 } Cv H3 c s3.toks { D with nx:=W (i+1),ct:=W (i+1),bk:=D.nx } K3 J8 (Yn _) step;have QL:=wpAny_toks_of (n:=1) (show 1<=s3.toks+1 by omega) hB;refine V9 hp (VM QL (fun _ s6 ⟨QM,h6⟩=>?_) fun e s' h=>h.2);have QN:=wpAny_toks_of (n:=1) QM h6;refine V9 hp (VM QN (fun f s7 ⟨QO,q7⟩=>?_) fun e s' h=>h.2)
   have again:∀ {BZ:St} {H7:Hp},Inv X (pins++iJ [s.heap.objs.size] h') BZ H7 s7->W (i+1) BZ H7->∃ m,m<n/\∃ i f' H',Inv X pins f' H' s7/\s7.heap.IsStrIter s.heap.objs.size "str_ascii_iterator" x s.toks i/\(∀ b∈[s.heap.objs.size],H' b=none)/\W i f' H'/\m+i=x.cps.size+1/\i<=x.cps.size/\0<s7.toks:=fun {BZ H7} I7 n7=>by
    refine ⟨n - 1,by omega,i+1,BZ,H7,I7.unpinned,T.keep _ _ _ BF fun b hb o e=>(I7.pin (b,o) (UU _ (UU _ (cA hb e)))).1,fun b hb=>?_,n7,by omega,by omega,QO⟩;obtain ⟨o,e,d⟩:=T.obj _ _ BF b hb;exact (I7.pin (b,o) (UU _ (UU _ (cA hb e)))).2.1
   cases f with
   | next=>obtain ⟨BZ,H7,I7,n7⟩:=q7;exact again I7 n7
   | cont=>obtain ⟨BZ,H7,I7,n7⟩:=q7;exact again I7 n7
   | brk=>obtain ⟨BZ,H7,I7,q7⟩:=q7;exact ⟨BZ,H7,I7.unpinned,q7⟩
   | ret v=>obtain ⟨x7,BZ,H7,I7,r7,q7⟩:=q7;exact ⟨x7,BZ,H7,I7.unpinned,r7,q7⟩
def zK (i j:Nat):Ends->V->St->Hp->Prop:=fun D v σ H=>∃ (z:UA) (c:Nat),v=.str ⟨#[c]⟩/\σ[j]?=some (some (.str z))/\c≠32/\z.length<=1000000/\D.nx ((σ.set i (some v)).set j (some (.str (ofL (d2 c [32,c,32] z.cps.toList))))) H
theorem yY {c:Nat}:((⟨#[c]⟩:UA) == (⟨#[32,c,32]⟩:UA))=false:=by
 refine beq_false_of_ne fun z=>?_;have:=congrArg (fun w:UA=>w.cps.size) z;cases this
theorem yy {X:Cx} {i j:Nat} {x y:UA} {p0 p1 p2 p3 p4 p5 p6 p7 p8 p9 LF LG:Ym} {k1 k2:Nat} (hN:X.N.Nodup) (hi:X.N[i]?=some x) (hj:X.N[j]?=some y) (EO:i≠j) (hx:X.env.scope.names.lookup x=some .local) (hy:X.env.scope.names.lookup y=some .local)
 (J':(x == ("__debug__":UA))=false:=by decide) (QP:(y == ("__debug__":UA))=false:=by decide) (Cw:(p4.endLine == LF.line)=true:=by rfl)
 (hs:swapsWith (.Call (.Attribute (.Name y p3) "replace" p4) [.Name x p5,.JoinedStr [.Constant (.str (Ug " ")) k1 p6,.FormattedValue (.Name x p7) (-1) none p8,.Constant (.str (Ug " ")) k2 p9] LG] [] LF) (some (.Name y p2)) p1.line X.env=pure false:=by rfl) :
 BT X (.Name x p0) [.Assign [.Name y p2] (.Call (.Attribute (.Name y p3) "replace" p4) [.Name x p5,.JoinedStr [.Constant (.str (Ug " ")) k1 p6,.FormattedValue (.Name x p7) (-1) none p8,.Constant (.str (Ug " ")) k2 p9] LG] [] LF) p1] (zK i j):=by
 intro pins s σ H c t D I Ka ht h;obtain ⟨z,c',hv,LH,QQ,hz,q⟩:=h
 have GI:c=c':=by
  have h1:=V.str.inj hv;have h2:=congrArg (fun w:UA=>w.cps) h1;simpa using h2
 subst GI;refine wpAny_assign_Name (uR (v:=.str ⟨#[c]⟩) I hN hi hx ⟨t,rfl⟩ fun h' m' I2 hn N8 hm=>?_);obtain ⟨u0,r0,QR⟩:=hm j y _ (WX EO) hj LH hy;obtain ⟨t0,rfl⟩:=r0;refine wpAny_execs_cons ?_;refine wpAny_Assign_Name (Yr rfl rfl Cw rfl (Zq (XY I2.ok.kind hy hn QR ?_) QP)) hs;refine ⟨"str","str.replace",Vp,PySem.F.slot_str_replace,PySem.F.type_str_replace,XD _ _ _,(fun _ e=>nomatch e),?_⟩;refine XF rfl (X5 ?_);show UO _ _ (spliced [(false,WS (.Name x p5) X.env),(false,WS (.JoinedStr [.Constant (.str (Ug " ")) k1 p6,.FormattedValue (.Name x p7) (-1) none p8,.Constant (.str (Ug " ")) k2 p9] LG) X.env)]) _ _ _;refine WI (Zq (XY I2.ok.kind hx hn N8 ?_) J');refine WI ?_
 have fin:∀ (t2 k:Nat),t<t2->UO (UZ X.prog X.w) X.A (call (.builtin "str.replace") [.str z t0,.str ⟨#[c]⟩ t,.str ⟨#[32,c,32]⟩ t2]) (fun v Ab=>UO (UZ X.prog X.w) X.A (storeName X.env y v) (fun _ s'=>UO (UZ X.prog X.w) X.A (execs [] X.env) (SP X pins D) X.xe s') X.xe Ab) X.xe { s with heap:=h',toks:=k }:=fun t2 k hk=>by
  refine SC.replaceW (Xc Ka) (Xc (ZC (Vh _) hk)) (Vf hk) yY (by omega) (by show 3<=14;decide) fun t' k'=>?_;rw [replace_one z ⟨#[32,c,32]⟩ c (by show 3≠0;decide)];refine fw (v:=.str (ofL (d2 c [32,c,32] z.cps.toList))) (I2.tok k') hN hj (.inl hy) ⟨t',rfl⟩ (fun s2 I3=>XG ⟨_,H,I3,?_⟩) (.inr hy);exact q
 have e3:Wb++Ug " "++(⟨#[c]⟩:UA)++Ug " "=⟨#[32,c,32]⟩:=rfl;have big:∀ n:Nat,n<=100->n<=US:=fun n hn=>by rw [Wy];omega
 refine wpAny_JoinedStr ?_;show UO _ _ (WS (.Constant (.str (Ug " ")) k1 p6) X.env) _ _ _;refine Xf ⟨_,_,rfl,big _ (by decide),?_⟩;show UO _ _ (WS (.FormattedValue (.Name x p7) (-1) none p8) X.env) _ _ _;refine wpAny_FormattedValue_plain (Zq (XY I2.ok.kind hx hn N8 ?_) J')
 have last:∀ k:Nat,t<k->UO (UZ X.prog X.w) X.A (WS (.Constant (.str (Ug " ")) k2 p9) X.env) (fun v Ab=>∃ y' t',v=.str y' t'/\(Wb++Ug " "++(⟨#[c]⟩:UA)++y').length<=US/\Joins (UZ X.prog X.w) X.A X.xe (evalEach [] X.env) (Wb++Ug " "++(⟨#[c]⟩:UA)++y') (fun out Ab=>out.length<=US/\UO (UZ X.prog X.w) X.A (spliced []) (fun vs Bs=>UO (UZ X.prog X.w) X.A (call (.builtin "str.replace") ([.str z t0]++(.str ⟨#[c]⟩ t::.str out Ab.toks::vs))) (fun v Ab=>UO (UZ X.prog X.w) X.A (storeName X.env y v) (fun _ s'=>UO (UZ X.prog X.w) X.A (execs [] X.env) (SP X pins D) X.xe s') X.xe Ab) X.xe Bs) X.xe { Ab with toks:=Ab.toks+1 }) Ab) X.xe { s with heap:=h',toks:=k }:=fun k hk=>by
  refine Xf ⟨_,_,rfl,big _ (by show 3<=100;decide),?_⟩;show _<=US/\_;rw [e3];refine ⟨big _ (by show 3<=100;decide),?_⟩;exact XS (fin _ _ (Wa hk))
 refine wpAny_formatField_str ?_ ?_ (big _ (by show 1<=100;decide))
 · exact ⟨_,_,rfl,big _ (by show 2<=100;decide),last _ (Wa (Wa ht))⟩
 · exact ⟨_,_,rfl,big _ (by show 2<=100;decide),last _ (Wa (Wa (Wa ht)))⟩
end L2
namespace L2
open PySem PySem.Spec PySem.Calls PyProof.Rows PySem.Builtin PySem.Builtin.Str BB
variable {X:Cx}
def zk:V->List V->Hp->VK->Prop:=fun x vs H Q=>∃ z y,x=.str z/\vs=[.str y]/\(y.length == 0)=false/\z.length<=1000000/\∀ p,H p=none->Q (.ref p) (upd H p (.lst ((Wk z y).map V.str)))
theorem n8:∀ {l:List (UA×Tok)} {zs:List UA},l.map (·.1)=zs->Vals (zs.map V.str) (strValues l)
 | [],_,e=>by subst e;exact .nil
 | (z,t)::l,_,e=>by
   subst e;exact .cons ⟨t,rfl⟩ (n8 rfl)
theorem split_len (z y:UA) (hz:z.length<=1000000):(partsBetween z (occurrences z y 0 z.length (z.length+1)) y.length).length<=US/\(Wk z y).length<=US:=by
 have h1:=StrLaws.occ_length_le z y 0 z.length (z.length+1);have h2:=PySem.length_partsBetween z (occurrences z y 0 z.length (z.length+1)) y.length;have h3:US=16777216:=Wy;refine ⟨by omega,?_⟩;unfold Wk;split
 · show 1<=US;omega
 · split
   · show 1<=US;omega
   · omega
theorem lR:MtR X "str.split" zk:=by
 intro pins s σ H x vs v us Q I rx rv h;obtain ⟨z,y,rfl,rfl,hy,hz,q⟩:=h;obtain ⟨t,rfl⟩:=rx;obtain ⟨u,rfl,t',rfl⟩:=rv.one;obtain ⟨Bl,Bh⟩:=split_len z y hz;have hf:H s.heap.objs.size=none:=I.hok.fresh (Uq _)
 have fin:∀ (l:List (UA×Tok)) (k:Nat),l.map (·.1)=Wk z y->EP X pins σ Q (.ref s.heap.objs.size) { s with toks:=k,heap:=s.heap.push { cls:=.type "list",data:=.seq (strValues l).toArray } }:=fun l k hl=>by
  refine ⟨.ref s.heap.objs.size,upd H s.heap.objs.size (.lst ((Wk z y).map V.str)),I.laid (t':=k) (fun b u e=>Up _ e) (Uq _) ?_,rfl,q _ hf⟩;exact ⟨by rw [Ue];exact Bh,_,_,n8 hl,UG _ rfl⟩
 cases h1:(decide (z.length<y.length) || decide (strKind z<strKind y))
 · cases hf:(occurrences z y 0 z.length (z.length+1)).isEmpty
   · refine Xs F.slot_str_split (XD _ _ _) F.entry_str_split (F.args_str_split_2 _ _) (meets_str_split_sep z y t t' h1 hy hf (by rw [Wy];omega) Bl) ?_;show wants (EP X pins σ Q) X.xe _ { s with toks:=_,heap:=s.heap.push { cls:=.type "list",data:=.seq (strsFrom s.toks (partsBetween z (occurrences z y 0 z.length (z.length+1)) y.length)).toArray } };rw [strsFrom_eq];exact fin (numbered s.toks _) _ ((numbered_texts _ _).trans ((if_neg (ne_true_of_eq_false h1)).trans (if_neg (ne_true_of_eq_false hf))).symm)
   · exact Xs F.slot_str_split (XD _ _ _) F.entry_str_split (F.args_str_split_2 _ _) (meets_str_split_not_found z y t t' h1 hy hf) (fin [(z,t)] s.toks ((if_neg (ne_true_of_eq_false h1)).trans (if_pos hf)).symm)
 · exact Xs F.slot_str_split (XD _ _ _) F.entry_str_split (F.args_str_split_2 _ _) (meets_str_split_cannot_occur z y t t' h1) (fin [(z,t)] s.toks (if_pos h1).symm)
end L2
namespace BB
open PySem L2
def rep3 (l:List Nat):List Nat:=d2 44 [32,44,32] (d2 41 [32,41,32] (d2 40 [32,40,32] l))
def spS (d:Nat):List Nat:=if d=40∨d=41∨d=44 then [32,d,32] else [d]
theorem xG (l:List Nat):rep3 l=l.flatMap spS:=by
 unfold rep3 d2;rw [ZD,ZD];congr 1;funext d;unfold spS;by_cases h1:d=40
 · subst h1;rfl
 · rw [if_neg h1];by_cases h2:d=41
   · subst h2;rfl
   · by_cases h3:d=44
     · subst h3;rfl
     · rw [if_neg (by omega)];simp [h2,h3]
def wds (l:List Nat):List (List Nat):=(aH 32 l).filter fun p=>!p.isEmpty
theorem fE (c:Nat) (b:List Nat):∀ a:List Nat,aH c (a++c::b)=aH c a++aH c b
 | []=>by simp [aH]
 | d::a=>by
   rw [Va,aH,fE c b a,aH];by_cases h:d=c
   · rw [if_pos h,if_pos h];rfl
   · rw [if_neg h,if_neg h];obtain ⟨p,r,e⟩:=ce c a;rw [e];rfl
theorem lz (a b:List Nat):wds (a++32::b)=wds a++wds b:=by unfold wds;rw [fE,List.filter_append]
theorem cT (c:Nat):∀ w:List Nat,(∀ d∈w,d≠c)->aH c w=[w]
 | [],_=>rfl
 | d::w,h=>by rw [aH,if_neg (h d (Uy ..)),cT c w fun e he=>h e (Uv _ he)]
theorem pY {w:List Nat} (h:∀ d∈w,d≠32) (Au:w≠[]):wds w=[w]:=by
 unfold wds;rw [cT 32 w h,Xp,List.filter_nil];cases w with
 | nil=>exact absurd rfl Au
 | cons d w=>rfl
def wordsOf (x:UA):List UA:=(wds (rep3 x.cps.toList)).map ofL
mutual
def Th.wT:Th->List UA
 | .knot n ts=>n::(if ts=[] then [] else lpar::(wTs ts++[rpar]))
 | .call _ _=>[]
def wTs:List Th->List UA
 | []=>[]
 | t::ts=>t.wT++(if ts=[] then [] else comma::wTs ts)
end
def sL (x:UA):List Nat:=x.cps.toList
theorem mC:sL comma=[44]:=by decide +kernel
theorem oB:sL lpar=[40]:=by decide +kernel
theorem oq:sL rpar=[41]:=by decide +kernel
def okW (x:UA):Prop:=Low x/\x.length≠0
theorem join_cons (sep x:UA) (xs:List UA):X3 sep (x::xs)=if xs=[] then x else x++sep++X3 sep xs:=by
 cases xs with
 | nil=>rfl
 | cons y ys=>rfl
mutual
theorem tW:∀ t:Th,(∀ p∈t.walk,p.isCall=false)->sL t.show=(t.wT.map sL).flatten
 | .call _ _,h=>by
   have:=h _ (by rw [Th.walk];exact Uy ..);cases this
 | .knot n ts,h=>by
   rw [Th.show,Th.wT];have hs:=pS ts fun p hp=>h p (by rw [Th.walk];exact Uv _ hp);unfold qg;by_cases h0:ts=[]
   · subst h0;simp [bY]
   · have he:(bY ts).isEmpty=false:=by
      cases ts with
      | nil=>exact absurd rfl h0
      | cons x xs=>rw [bY];rfl
     rw [he,if_neg (by decide),if_neg h0];have hj:VG comma (bY ts)=X3 comma (bY ts):=XN _ _;rw [hj];unfold sL at hs ⊢;rw [Wg,Wg,Wg,VE,VE,VE,hs];simp
theorem pS:∀ ts:List Th,(∀ p∈walks ts,p.isCall=false)->sL (X3 comma (bY ts))=((wTs ts).map sL).flatten
 | [],_=>by rw [bY,wTs];rfl
 | t::ts,h=>by
   have h1:=tW t fun p hp=>h p (by rw [walks];exact VH _ hp);have h2:=pS ts fun p hp=>h p (by rw [walks];exact UU _ hp);rw [bY,wTs,join_cons];by_cases h0:ts=[]
   · subst h0;rw [bY,if_pos rfl,if_pos rfl,UY];exact h1
   · have he:bY ts≠[]:=by
      cases ts with
      | nil=>exact absurd rfl h0
      | cons x xs=>rw [bY];simp
     rw [if_neg he,if_neg h0];unfold sL at h1 h2 ⊢;rw [Wg,Wg,VE,VE,h1,h2];simp
end
end BB
namespace BB
open PySem L2
section
variable {H H':Hp} {t:Th} {a:Ul} {ts:List Th} {es:List Ul}
end
theorem uE {base n:Int} (hn:0<=n):(nameOf base n).length≠0:=by
 unfold nameOf;split
 · rw [iW];have h8:=dh (base / 112) 8;rw [h8];have h1:HT.sIx 8 0 none=0:=rfl
   have h2:HT.sIx 8 8 (some (n+1))≠0:=by
    have e:n+1=((n.toNat+1:Nat):Int):=by omega
    rw [e,HT.sIx_nat];omega
   rw [h1];omega
 · rw [UM,UM];have:(⟨#[kF base n]⟩:UA).length=1:=rfl;omega
theorem kB (cell:Int):∀ k∈cu cell,okW k.1:=fun k hk=>by
 obtain ⟨i,hi⟩:=Vj.mp hk;obtain ⟨e,_⟩:=cQ hi;refine ⟨((fL cell).low k hk).1,?_⟩;rw [e];exact uE (by omega)
end BB
namespace L2
open PySem PySem.Spec PyProof.Rows BB
variable {X:Cx}
end L2
namespace L2
open PySem PySem.Spec PyProof.Rows PySem.W
end L2
namespace L2
open PySem PySem.Spec PyProof.Rows BB
variable {X:Cx}
end L2
namespace L2
open PySem PySem.Spec PySem.Calls PyProof.Rows PySem.W
end L2
namespace BB
open PySem L2 PySem.Builtin PySem.Builtin.Str
theorem eH (x y:UA):sL (x++y)=sL x++sL y:=by unfold sL;rw [Wg,VE]
theorem fu (x:UA):(sL x).length=x.length:=UQ
def blk:UA:=Ug " "
theorem yx:sL blk=[32]:=by decide +kernel
def jn:List (List Nat)->List Nat
 | []=>[]
 | [x]=>x
 | x::y::r=>x++32::jn (y::r)
theorem gL:∀ ws:List UA,sL (VG blk ws)=jn (ws.map sL):=by
 intro ws;have h1:VG blk ws=X3 blk ws:=XN _ _;rw [h1];clear h1;induction ws with
 | nil=>rfl
 | cons x ws ih =>
   rw [join_cons];cases ws with
   | nil=>rw [if_pos rfl];rfl
   | cons y ws =>
     rw [if_neg (by simp),eH,eH,ih,yx,U2];rfl
theorem wt:∀ ls:List (List Nat),wds (jn ls)=(ls.map wds).flatten
 | []=>rfl
 | [x]=>by rw [jn,UB,Wm,U4,List.flatten_nil,UY]
 | x::y::r=>by
   rw [jn,lz,wt (y::r)];rfl
theorem wv {c:Nat}:∀ {ls:List (List Nat)},c∈jn ls->c=32∨∃ l∈ls,c∈l
 | [],h=>by rw [jn] at h;cases h
 | [x],h=>by rw [jn] at h;exact .inr ⟨x,Uy ..,h⟩
 | x::y::r,h=>by
   rw [jn] at h;rcases UP.mp h with h | h
   · exact .inr ⟨x,Uy ..,h⟩
   · rcases UH.mp h with h | h
     · exact .inl h
     · rcases wv h with h | ⟨l,hl,hc⟩
       · exact .inl h
       · exact .inr ⟨l,Uv _ hl,hc⟩
theorem vx:∀ ls:List (List Nat),(jn ls).length<=(ls.map (·.length)).sum+ls.length
 | []=>Uq _
 | [x]=>by rw [jn];simp
 | x::y::r=>by
   have:=vx (y::r);rw [jn,Uu,Ui,UB,V7,Ui];omega
end BB
namespace L2
open PySem PySem.Spec PySem.Calls PyProof.Rows PySem.Builtin PySem.Builtin.Str BB
variable {X:Cx}
end L2
namespace L2
open PySem PySem.Spec PyProof.Rows
theorem rb {v:Const} {k:Nat} {p:Ym} {es:List VI} {env:Zp}:Vt (.Constant v k p::es) env=(false,WS (.Constant v k p) env)::Vt es env:=by
 rw [Vt];intro e q z;cases z
def tS (zs:List UA):TA:=fun _ H Q=>Q (zs.map V.str) H
theorem tm {X:Cx}:∀ (zs:List (UA×Nat×Ym)),PA X (zs.map fun z=>.Constant (.str z.1) z.2.1 z.2.2) (tS (zs.map fun z=>z.1))
 | []=>ac
 | z::zs=>by
   have h:PA X (.Constant (.str z.1) z.2.1 z.2.2::zs.map fun z=>.Constant (.str z.1) z.2.1 z.2.2) (bx (tC (.str z.1)) (tS (zs.map fun z=>z.1))):=aa aw (tm zs) rb;exact h
end L2
namespace BB
open PySem L2
mutual
theorem pT {ks:List (UA×Int)} {S C:Int} (hn:(ks.map (·.1)).Nodup):∀ {t:Th},t.FitS ks S C->fpb ks S C t=true
 | .knot n ts,h=>by
   rw [Th.FitS] at h;rw [mh,okP,decide_eq_true ((iL hn).mpr h.1),Xz];exact l0 hn h.2
 | .call s k,h=>by
   rw [Th.FitS] at h;rw [mh,okP,decide_eq_true ⟨h.1,h.2.1⟩,decide_eq_true ⟨h.2.2.1,h.2.2.2⟩];rfl
theorem l0 {ks:List (UA×Int)} {S C:Int} (hn:(ks.map (·.1)).Nodup):∀ {ts:List Th},FitSs ks S C ts->uz ks S C ts=true
 | [],_=>rfl
 | t::ts,h=>by
   rw [FitSs] at h;rw [jb,UB,Yq,pT hn h.1,<- jb,l0 hn h.2];rfl
end
theorem xF {ks:List (UA×Int)} {S C:Int} {n:UA} {ts:List Th} {i:Nat} {u:Th} (hi:i<ts.length) (hu:fpb ks S C u=false):fpb ks S C (.knot n (ts.set i u))=false:=by
 rw [mh];show (_ && uz ks S C (ts.set i u))=false;rw [jb]
 have:((ts.set i u).map (fpb ks S C)).all id=false:=by
  rw [VB];intro z;rw [Vo] at z;have:=z (fpb ks S C u) (Vq.mpr ⟨u,List.mem_set hi u,rfl⟩);rw [hu] at this;cases this
 rw [this,Wo]
end BB
namespace BB
open PySem L2 PySem.Builtin PySem.Builtin.Str
def pA (c:Nat):Nat->List Nat->List Nat
 | _,[]=>[]
 | off,d::l=>if d=c then [off] else pA c (off+1) l
theorem pN (x y:UA) (n:Nat):∀ (l:List Nat) (st:Array Nat×Nat),st.1.size=1->(forIn l st (V2 x y n 1)).run.fst=st.1
 | [],st,_=>rfl
 | a::l,st,h=>by
   rw [Ws];unfold V2;rw [if_neg (fun z=>by have:=z.1.1.1;omega)];exact pN x y n l st h
theorem fA (x:UA) (c:Nat):∀ (l pre:List Nat) (free:Nat),x.cps.toList=pre++l->free<=pre.length →
 (forIn (List.range' pre.length (l.length+1)) (#[],free) (V2 x ⟨#[c]⟩ x.length 1)).run.fst.toList=pA c pre.length l
 | [],pre,free,hx,_=>by
   have hlen:pre.length=x.length:=by
    have:=congrArg WD hx;rw [UQ,UY] at this;exact this.symm
   rw [W7,hlen,pA];show ((forIn [x.length] (#[],free) (V2 x ⟨#[c]⟩ x.length 1)).run.fst).toList=[];rw [Ws];unfold V2;rw [if_neg (fun z=>by have:=z.1.2;rw [dr] at this;omega)];rfl
 | d::l,pre,free,hx,hf=>by
   have hlen:x.length=pre.length+(l.length+1):=by
    have:=congrArg WD hx;rw [UQ,Uu,Ui] at this;exact this
   rw [List.range'_succ,Ws,Ui];have hg:x.cps.toList[pre.length]?=some d:=by rw [hx];simp
   have Cb:=subAt_one x c pre.length (by omega);rw [hg] at Cb;have Cp:x.cps.toList=(pre++[d])++l:=by rw [hx];simp
   have Bj:(pre++[d]).length=pre.length+1:=by simp
   unfold V2;rw [pA];by_cases BR:d=c
   · have h1:(((#[]:Array Nat).size<1/\free<=pre.length)/\pre.length+(⟨#[c]⟩:UA).length<=x.length)/\subAt x ⟨#[c]⟩ pre.length=true:=by
      rw [dr,Cb,BR];exact ⟨⟨⟨by decide,hf⟩,by omega⟩,decide_eq_true rfl⟩
     rw [if_pos h1,if_pos BR];show ((forIn (List.range' (pre.length+1) (l.length+1)) ((#[]:Array Nat).push pre.length,pre.length+1) (V2 x ⟨#[c]⟩ x.length 1)).run.fst).toList=_;rw [pN _ _ _ _ _ rfl];rfl
   · have h1:¬ ((((#[]:Array Nat).size<1/\free<=pre.length)/\pre.length+(⟨#[c]⟩:UA).length<=x.length)/\subAt x ⟨#[c]⟩ pre.length=true):=fun z=>by
      have h2:=z.2;rw [Cb] at h2;exact BR (UD (of_decide_eq_true h2))
     rw [if_neg h1,if_neg BR];have ih:=fA x c l (pre++[d]) free Cp (by omega);rw [Bj] at ih;exact ih
theorem pO (c:Nat) (post:List Nat):∀ (pre:List Nat) (off:Nat),(∀ d∈pre,d≠c)->pA c off (pre++c::post)=[off+pre.length]
 | [],off,_=>by rw [Vs,pA,if_pos rfl];rfl
 | d::pre,off,h=>by
   rw [Va,pA,if_neg (h d (Uy ..)),pO c post pre (off+1) fun e he=>h e (Uv _ he),Ui];congr 1;omega
theorem occ_first {x:UA} {c:Nat} {pre post:List Nat} (hx:x.cps.toList=pre++c::post) (hp:∀ d∈pre,d≠c):occurrences x ⟨#[c]⟩ 0 x.length 1=[pre.length]:=by
 rw [StrLaws.occ_eq];have h:=fA x c (pre++c::post) [] 0 hx (Uq _)
 have hlen:x.length=(pre++c::post).length:=by
  rw [<- hx,UQ];rfl
 rw [W7,<- hlen] at h;rw [show x.length+1 - 0=x.length+1 by omega,h,pO c post pre 0 hp,Xv]
end BB
namespace L2
open PySem PySem.Spec PySem.SeqAt PySem.Calls PyProof.Rows PySem.Builtin PySem.Builtin.Str BB
variable {X:Cx}
def aaU (K:Uj) (n:Nat) (t:TGs):TG:=fun v σ H Q=>∃ a xs,v=.ref a/\SqL K H a xs/\xs.length=n/\t xs σ H Q
theorem yI {es:List VI} {k:Nat} {t:TGs} {n:Nat} {pos:Ym} (hc:X.calm=true) (h:PGs X es t)
 (hn:(Yy es X.env).length=n:=by rfl) (AG:(Yy es X.env).findIdx? (·.1)=none:=by rfl):PG X (.Tuple es k pos) (aaU X.K n t):=by
 intro pins s σ H v u Q I r hw;obtain ⟨a,xs,e1,hq,hl,hw⟩:=hw;subst e1;cases r;obtain ⟨its,rv,ht,hz⟩:=I.list hq;rw [assign_Tuple];refine Uk (Zd ?_);unfold unpack;have AH:its.toArray.size=n:=by rw [Ux,<- rv.length,hl]
 rw [hn,AG,<- AH];refine Uk (WJ (PySem.W.kun_itemsOf (I.ok.hd hc) ht.isList fun h' hx=>?_));have I1:Inv X pins σ H { s with heap:=h' }:=I.kept (t':=s.toks) fun b o e=>hx b o (Vf (UJ e)) e;exact h pins _ σ H xs _ Q I1 (by simpa using rv) hw
def zW:List V->Hp->VK->Prop:=fun xs H Q=>∃ (x:UA) (n:Int),xs=[.str x]/\Zj x=some n/\x.length<=640/\Q (.int n) H
theorem um:dJ X (.type "int") zW:=by
 intro pins s σ H xs us Q I r h;obtain ⟨x,n,rfl,hn,hl,q⟩:=h;obtain ⟨u,rfl,t,rfl⟩:=r.one;exact PySem.W.KIN.call_text hn hl ⟨.int n,H,I.tok _,⟨_,rfl⟩,q⟩
def aaM (K:Uj):R2:=fun x y H Q=>∃ z,y=.str z/\((∃ w,x=.str w/\Q (.bl (decide (w=z))) H)∨∃ a vs,x=.ref a/\SqT K H a vs/\Q (.bl false) H)
theorem j4 (hu:X.A.units+2<ZN):OpR X (WH .Eq) (aaM X.K):=by
 intro pins s σ H x y v u Q I rx ry h;obtain ⟨z,rfl,h⟩:=h;obtain ⟨t',rfl⟩:=ry;rcases h with ⟨w,rfl,q⟩ | ⟨a,vs,rfl,ha,q⟩
 · obtain ⟨t,rfl⟩:=rx
   have e:decide (w=z)=(w == z):=by
    by_cases h:w=z
    · subst h;simp
    · rw [decide_eq_false h];exact (beq_false_of_ne h).symm
   rw [e] at q;exact RcAt.str_str w t z t' X.prog X.w X.xe _ ⟨.bl (w == z),H,I,rfl,q⟩
 · cases rx;obtain ⟨its,rv,ht,hz⟩:=I.tuple ha;exact RcAt.tuple_str z t' (show s.heap.IsTuple a its.toArray from ht) (by omega) X.prog X.w X.xe _ ⟨.bl false,H,I,rfl,q⟩
def ye:V->List V->Hp->VK->Prop:=fun x vs H Q=>∃ (z:UA) (c:Nat) (pre post:List Nat),x=.str z/\vs=[.str ⟨#[c]⟩]/\z.cps.toList=pre++c::post/\(∀ d∈pre,d≠c)/\z.length<=1000000/\∀ p,H p=none->Q (.ref p) (upd H p (.tup [.str (ofL pre),.str ⟨#[c]⟩,.str (ofL post)]))
theorem pK:MtR X "str.partition" ye:=by
 intro pins s σ H x vs v us Q I rx rv h;obtain ⟨z,c,pre,post,rfl,rfl,hx,hp,hz,q⟩:=h;obtain ⟨t,rfl⟩:=rx;obtain ⟨u,rfl,t',rfl⟩:=rv.one;have LI:=occ_first hx hp;have hf:H s.heap.objs.size=none:=I.hok.fresh (Uq _);have hm:=meets_str_partition z ⟨#[c]⟩ t t' rfl (by rw [Wy];omega);rw [LI] at hm;refine Xs F.slot_str_partition (XD _ _ _) F.entry_str_partition (F.args_str_partition_2 _ _) hm ?_
 have e1:strSub z 0 pre.length=ofL pre:=cE (by
  rw [aM];show (z.cps.extract 0 pre.length).toList=pre;rw [Array.toList_extract,hx];simp)
 have e2:strSub z (pre.length+(⟨#[c]⟩:UA).length) z.length=ofL post:=cE (by
  rw [aM];show (z.cps.extract (pre.length+1) z.cps.size).toList=post
  have AH:z.cps.size=pre.length+(post.length+1):=by
   rw [<- UQ,hx,Uu,Ui]
  rw [Array.toList_extract,hx,AH];simp;exact U8 (by omega))
 show wants (EP X pins σ Q) X.xe _ { s with toks:=s.toks+1+1,heap:=s.heap.push { cls:=.type "tuple",data:=.seq [.str (strSub z 0 pre.length) s.toks,.str ⟨#[c]⟩ t',.str (strSub z (pre.length+(⟨#[c]⟩:UA).length) z.length) (s.toks+1)].toArray } };rw [e1,e2];refine ⟨.ref s.heap.objs.size,upd H s.heap.objs.size (.tup [.str (ofL pre),.str ⟨#[c]⟩,.str (ofL post)]),I.laid (t':=s.toks+1+1) (fun b u e=>Up _ e) (Uq _) ?_,rfl,q _ hf⟩;exact ⟨by show 3<=US;decide,_,_,.cons ⟨_,rfl⟩ (.cons ⟨_,rfl⟩ (.cons ⟨_,rfl⟩ .nil)),UG _ rfl⟩
theorem vk:zx X (wA X.K):=by
 intro pins s σ H o i ov iv Q I r1 r2 h;obtain ⟨p,xs,k,z,rfl,rfl,hq,he,q⟩:=h;cases r1;obtain ⟨t,rfl⟩:=r2;obtain ⟨its,r,pl,hz⟩:=I.list hq;obtain ⟨j,h1,h2,h3,h4,h5⟩:=lw he;obtain ⟨w,ew,AY⟩:=r.get h2;have hl:=r.length;have hn:=gh;have fin:EP X pins σ Q w s:=⟨z,H,I,AY,q⟩;by_cases h0:0<=k
 · have hj:k.toNat=j:=by
    rw [seqIndex_of h0 h5] at h1;exact UD h1
   exact wpAny_getItem_list pl.isList h0 (by omega) (by rw [hj];simpa using ew) fin
 · have hj:(k+(its.toArray.size:Int)).toNat=j:=by
    rw [seqIndex_neg (by omega) h4] at h1;rw [Ux,<- hl];exact UD h1
   exact wpAny_getItem_list_neg pl.isList (by omega) (by rw [Ux,<- hl];omega) (by omega) (by rw [hj];simpa using ew) fin
def aae (K:Uj) (sep y z:UA) (te:TE):TE:=fun σ H Q=>te σ H fun v H1=>∃ p ys,v=.ref p/\SqL K H1 p (ys.map V.str)/\(ys.map (·.length)).sum+ys.length * sep.length<=1000000/\(VG sep ys).length<=1000000/\Q (.str (Y9 (VG sep ys) y z)) H1
theorem xO {sep y z:UA} {e:VI} {te:TE} {k0 k1 k2:Nat} {p0 p1 p2 p3 p4 p5 p6:Ym} (he:PE X e te) (QS:(y == z)=false) (hz:z.length<=14)
 (hs:Vt [e] X.env=[(false,WS e X.env)]:=by rfl) (Bl:(p1.endLine == p2.line)=true:=by rfl) (Bh:(p3.endLine == p6.line)=true:=by rfl)
 (QT:((Yt p2 (Vt [e] X.env)).all (fun x=>!x.1) && (backToKw p2 (keywordEach [] X.env)).all (fun x=>x.1.isSome) && decide (([e]:List VI).length+([]:List Keyword).length+(if ([]:List Keyword).isEmpty then 0 else 1)<30))=true:=by rfl) :
 PE X (.Call (.Attribute (.Call (.Attribute (.Constant (.str sep) k0 p0) "join" p1) [e] [] p2) "replace" p3) [.Constant (.str y) k1 p4,.Constant (.str z) k2 p5] [] p6) (aae X.K sep y z te):=by
 intro pins s σ H Q I h;refine Yr rfl rfl Bh rfl ?_;refine Yr rfl QT Bl rfl (Xf ?_);refine ⟨"str","str.join",Vp,Wx,Ww,XD _ _ _,(fun _ e=>nomatch e),?_⟩;have I1:Inv X pins σ H { s with toks:=s.toks+1 }:=I.tok _;refine wpAny_with_toks (n:=1) (show 1<=s.toks+1 by omega) ?_;refine VM (Q:=EP X pins σ fun x H1=>∃ ys,x=.str (VG sep ys)/\(VG sep ys).length<=1000000/\Q (.str (Y9 (VG sep ys) y z)) H1) (E:=X.xe) ?_ (fun v s1 hv hk=>?_) fun e s' h _=>h
 · have hA:=(aa he (@ac X) hs) p2 pins _ σ H (fun vs H1=>match vs with | [v]=>∃ p ys,v=.ref p/\SqL X.K H1 p (ys.map V.str)/\(ys.map (·.length)).sum+ys.length * sep.length<=1000000/\(VG sep ys).length<=1000000/\Q (.str (Y9 (VG sep ys) y z)) H1 | _=>False) I1 h;rw [hs] at hA ⊢;refine XF rfl (X5 ?_);refine thn hA fun us s2 ⟨vs,H2,I2,r2,q2⟩=>fP pins s2 σ H2 (.str sep) vs (.str sep s.toks) us _ I2 ⟨_,rfl⟩ r2 ?_
   match vs,q2 with
   | [v],⟨p,ys,e1,hl,Kb,QU,q⟩=>exact ⟨sep,p,ys,rfl,by rw [e1],hl,by omega,ys,rfl,QU,q⟩
 · obtain ⟨x,H1,I2,rx,ys,rfl,hlen,q⟩:=hv;obtain ⟨t,rfl⟩:=rx;refine ⟨"str","str.replace",Vp,PySem.F.slot_str_replace,PySem.F.type_str_replace,XD _ _ _,(fun _ e=>nomatch e),?_⟩;refine XF rfl (X5 ?_);show UO _ _ (spliced [(false,WS (.Constant (.str y) k1 p4) X.env),(false,WS (.Constant (.str z) k2 p5) X.env)]) _ _ _;refine WI (Xf (WI (Xf (XS ?_))));exact SC.replaceW (Xc hk) (Nat.succ_ne_zero _) (Vf (Yn _)) QS (by omega) hz fun t' k'=>⟨.str _,H1,I2.tok k',⟨_,rfl⟩,q⟩
end L2
namespace BB
open PySem L2
set_option genInjectivity true in
inductive Stp where
 | sg (c:UA)
 | th (t:Th)
mutual
def Th.stP:Th->List (List UA×Stp)
 | .knot n ts=>([n],.th (.knot n []))::(if ts=[] then [] else ([lpar],.sg lpar)::(dX ts++[([rpar],.sg rpar)]))
 | .call s k=>[([aV s,dot,aV k],.th (.call s k))]
def dX:List Th->List (List UA×Stp)
 | []=>[]
 | t::ts=>t.stP++(if ts=[] then [] else ([comma],.sg comma)::dX ts)
end
def Th.wP (t:Th):List UA:=(t.stP.map (·.1)).flatten
structure PSt where
 tops:List (Th×Int)
 win:List Nat
 bef:Stp
def ended:Stp->Bool
 | .th _=>true
 | .sg c=>decide (c=rpar)
def gY:Stp->Bool
 | .th (.knot _ _)=>true
 | _=>false
def qz (l:List (Th×Int)) (j:Nat) (f:Int->Int):List (Th×Int):=l.modify j fun p=>(p.1,f p.2)
def bt (S:PSt):Stp->Option PSt
 | .th t=>if ended S.bef=false then some ⟨S.tops++[(t,0)],S.win,.th t⟩ else none
 | .sg c=>if c=lpar then (if gY S.bef=true/\S.win.length<100/\S.tops≠[] then some ⟨qz S.tops (S.tops.length - 1) (fun _=>1),S.win++[S.tops.length - 1],.sg c⟩ else none)
   else if c=comma then (if ended S.bef=true/\S.win≠[] then some ⟨qz S.tops (S.win.getLastD 0) (·+1),S.win,.sg c⟩ else none)
   else if c=rpar then (if ended S.bef=true/\S.win≠[] then some ⟨S.tops,S.win.dropLast,.sg c⟩ else none)
   else none
def prun (S:PSt):List Stp->Option PSt
 | []=>some S
 | x::l=>(bt S x).bind fun S'=>prun S' l
def i0:Th->Th×Int
 | .knot n ks=>(.knot n [],(ks.length:Nat))
 | .call s k=>(.call s k,0)
theorem qi (A B:List (Th×Int)) (x:Th×Int) (f:Int->Int):qz (A++x::B) A.length f=A++(x.1,f x.2)::B:=by
 unfold qz;induction A with
 | nil=>rfl
 | cons a A ih=>rw [Va,Ui,List.modify_succ_cons,ih];rfl
theorem hV (l:List Nat) (x d:Nat):(l++[x]).getLastD d=x:=by rw [List.getLastD_eq_getLast?,List.getLast?_concat];rfl
theorem dm {S S':PSt} {x:Stp} {l:List Stp} (h:bt S x=some S'):prun S (x::l)=prun S' l:=by rw [prun,h];rfl
theorem ft:comma≠lpar/\rpar≠lpar/\rpar≠comma/\comma≠rpar/\lpar≠rpar:=by decide +kernel
theorem mw:ended (.sg lpar)=false:=decide_eq_false ft.2.2.2.2
theorem du:ended (.sg comma)=false:=decide_eq_false ft.2.2.2.1
theorem iB:ended (.sg rpar)=true:=by
 show decide (rpar=rpar)=true;exact decide_eq_true rfl
theorem uH:∀ {ts:List Th},ts≠[]->1<=aL ts
 | [],h=>absurd rfl h
 | t::ts,_=>by
   rw [aL];cases t with
   | knot n ks=>rw [Th.tall];omega
   | call s k=>rw [Th.tall];omega
mutual
theorem su:∀ (t:Th) (S:PSt) (rest:List Stp),ended S.bef=false->t.tall+S.win.length<=101->∃ b,ended b=true/\prun S (t.stP.map (·.2)++rest)=prun ⟨S.tops++t.walk.map i0,S.win,b⟩ rest
 | .call s k,S,rest,hb,_=>by
   refine ⟨.th (.call s k),rfl,?_⟩;rw [Th.stP,Th.walk];exact dm (by rw [bt,if_pos hb];rfl)
 | .knot n ts,S,rest,hb,ht=>by
   have h1:bt S (.th (.knot n []))=some ⟨S.tops++[(.knot n [],0)],S.win,.th (.knot n [])⟩:=by rw [bt,if_pos hb]
   rw [Th.stP,Th.walk];by_cases hz:ts=[]
   · subst hz;rw [if_pos rfl];refine ⟨.th (.knot n []),rfl,?_⟩;rw [UB,Wm,Va,Vs,dm h1];rfl
   · rw [if_neg hz];rw [Th.tall] at ht;have hl:(S.tops++[((Th.knot n []:Th),(0:Int))]).length - 1=S.tops.length:=by rw [Uu];rfl
     have h2:bt ⟨S.tops++[(.knot n [],0)],S.win,.th (.knot n [])⟩ (.sg lpar)=some ⟨S.tops++[(.knot n [],1)],S.win++[S.tops.length],.sg lpar⟩:=by
      rw [bt,if_pos rfl,if_pos ⟨rfl,(by show S.win.length<100;have:=uH hz;omega),(by simp)⟩];dsimp only;rw [hl,qi]
     obtain ⟨b,Bg,h3⟩:=tQ ts hz S.tops n 1 [] S.win (.sg lpar) (.sg rpar::rest) mw (by omega);refine ⟨.sg rpar,iB,?_⟩;rw [UB,UB,UC,UB,Wm,Va,Va,U2,Va,Vs,dm h1,dm h2,h3]
     have h4:bt ⟨S.tops++(.knot n [],1+((ts.length:Nat):Int) - 1)::([]++(walks ts).map i0),S.win++[S.tops.length],b⟩ (.sg rpar)=some ⟨S.tops++(.knot n [],1+((ts.length:Nat):Int) - 1)::([]++(walks ts).map i0),S.win,.sg rpar⟩:=by
      rw [bt,if_neg ft.2.1,if_neg ft.2.2.1,if_pos rfl,if_pos ⟨Bg,by simp⟩];dsimp only;rw [Zm]
     rw [dm h4,Vs,UB,i0,show (1:Int)+((ts.length:Nat):Int) - 1=((ts.length:Nat):Int) by omega]
theorem tQ:∀ (ts:List Th),ts≠[]->∀ (A:List (Th×Int)) (n:UA) (m:Int) (B:List (Th×Int)) (W:List Nat) (bef:Stp) (rest:List Stp),ended bef=false->aL ts+(W.length+1)<=101 →
 ∃ b,ended b=true/\prun ⟨A++(.knot n [],m)::B,W++[A.length],bef⟩ ((dX ts).map (·.2)++rest)=prun ⟨A++(.knot n [],m+((ts.length:Nat):Int) - 1)::(B++(walks ts).map i0),W++[A.length],b⟩ rest
 | [],h,_,_,_,_,_,_,_,_,_=>absurd rfl h
 | t::ts,_,A,n,m,B,W,bef,rest,hb,ht=>by
   rw [aL] at ht;rw [dX,walks];by_cases hz:ts=[]
   · subst hz;rw [if_pos rfl,UY];obtain ⟨b,Ew,h1⟩:=su t ⟨A++(.knot n [],m)::B,W++[A.length],bef⟩ rest hb (by show t.tall+(W++[A.length]).length<=101;rw [Uu,Vk];omega);refine ⟨b,Ew,?_⟩;rw [h1,walks,UY,U2,Va];have:m+(([t].length:Nat):Int) - 1=m:=by show m+1 - 1=m;omega
     rw [this]
   · rw [if_neg hz];obtain ⟨b,Ew,h1⟩:=su t ⟨A++(.knot n [],m)::B,W++[A.length],bef⟩ (.sg comma::((dX ts).map (·.2)++rest)) hb (by show t.tall+(W++[A.length]).length<=101;rw [Uu,Vk];omega)
     have h2:bt ⟨(A++(.knot n [],m)::B)++t.walk.map i0,W++[A.length],b⟩ (.sg comma)=some ⟨A++(.knot n [],m+1)::(B++t.walk.map i0),W++[A.length],.sg comma⟩:=by
      rw [bt,if_neg ft.1,if_pos rfl,if_pos ⟨Ew,by simp⟩];dsimp only;rw [hV,U2,Va,qi]
     obtain ⟨b2,Bg,h3⟩:=tQ ts hz A n (m+1) (B++t.walk.map i0) W (.sg comma) rest du (by omega);refine ⟨b2,Bg,?_⟩;rw [UC,UB,U2,Va,h1,dm h2,h3];congr 2;rw [UC,U2,Ui];congr 3
     push_cast
     omega
end
theorem uA {t:Th} (h:t.tall<=101):∃ b,ended b=true/\prun ⟨[],[],.sg comma⟩ (t.stP.map (·.2))=some ⟨t.walk.map i0,[],b⟩:=by
 obtain ⟨b,hb,e⟩:=su t ⟨[],[],.sg comma⟩ [] du (by show t.tall+0<=101;omega);rw [UY,Vs] at e;exact ⟨b,hb,e⟩
def sp4 (d:Nat):List Nat:=if d=46 then [32,46,32] else spS d
theorem wE (l:List Nat):rep3 (d2 46 [32,46,32] l)=l.flatMap sp4:=by
 rw [xG];unfold d2;rw [ZD];congr 1;funext d;unfold sp4;split
 · rfl
 · rw [Xe,List.flatMap_nil,UY]
def W4 (l:List Nat):List (List Nat):=wds (l.flatMap sp4)
theorem yE:sp4 32=[32]:=rfl
theorem zq (a b:List Nat):W4 (a++32::b)=W4 a++W4 b:=by
 unfold W4;rw [XW,Xe,yE];exact lz _ _
theorem vN:∀ ls:List (List Nat),W4 (jn ls)=(ls.map W4).flatten
 | []=>rfl
 | [x]=>by rw [jn,UB,Wm,U4,List.flatten_nil,UY]
 | x::y::r=>by
   rw [jn,zq,vN (y::r)];rfl
theorem qU:∀ l:List Nat,jn (aH 32 l)=l
 | []=>rfl
 | d::l=>by
   obtain ⟨p,r,e⟩:=ce 32 l;have ih:=qU l;rw [aH];rw [e] at ih ⊢;split
   · rename_i h
     rw [jn,ih,h];rfl
   · cases r with
     | nil=>rw [jn] at ih ⊢;rw [ih]
     | cons y r=>rw [jn] at ih ⊢;rw [Va,ih]
def em (cur:List Nat):List (List Nat):=if cur=[] then [] else [cur]
def scW:List Nat->List Nat->List (List Nat)
 | cur,[]=>em cur
 | cur,c::l=>if c=32 then em cur++scW [] l else scW (cur++[c]) l
theorem vG {cur:List Nat} (h:∀ c∈cur,c≠32):wds cur=em cur:=by
 unfold em;by_cases hz:cur=[]
 · rw [if_pos hz,hz];rfl
 · rw [if_neg hz];exact pY h hz
theorem rF:∀ (l cur:List Nat),(∀ c∈cur,c≠32)->wds (cur++l)=scW cur l
 | [],cur,h=>by rw [UY,scW];exact vG h
 | c::l,cur,h=>by
   rw [scW];by_cases hc:c=32
   · rw [if_pos hc,hc,lz,vG h];have:=rF l [] (fun c h=>by cases h);rw [Vs] at this;rw [this]
   · rw [if_neg hc]
     have:=rF l (cur++[c]) fun d hd=>by
      rcases UP.mp hd with hd | hd
      · exact h d hd
      · rw [UW.mp hd];exact hc
     rw [<- this,U2];rfl
theorem zG (l:List Nat):W4 l=scW [] (l.flatMap sp4):=rF _ [] fun c h=>by cases h
theorem iY (l:List Nat):∀ (w cur:List Nat),(∀ c∈w,c≠32)->scW cur (w++l)=scW (cur++w) l
 | [],cur,_=>by rw [Vs,UY]
 | c::w,cur,h=>by
   rw [Va,scW,if_neg (h c (Uy ..)),iY l w _ fun d hd=>h d (Uv _ hd),U2];rfl
theorem sI:sL dot=[46]:=by decide +kernel
mutual
/-- calls of one LJ,names FJ are words -/
def Th.Rd:Th->Prop
 | .knot n ts=>okW n/\n.length<=8/\Rds ts
 | .call s k=>0<=s/\s<10/\0<=k/\k<10
def Rds:List Th->Prop
 | []=>True
 | t::ts=>t.Rd/\Rds ts
end
theorem gQ {f:Int->Int->Th} {ts:List Th}:fills f ts=[]↔ts=[]:=by
 cases ts with
 | nil=>exact ⟨fun _=>rfl,fun _=>by rw [fills]⟩
 | cons t ts=>rw [fills];exact ⟨(fun z=>by cases z),(fun z=>by cases z)⟩
mutual
theorem pP:∀ (t:Th),∀ p∈(t.fill cn).walk,p.isCall=false
 | .call s k=>fun p hp=>by
   rw [Th.fill,cn,Th.walk,walks] at hp;rw [UW.mp hp];rfl
 | .knot n ts=>fun p hp=>by
   rw [Th.fill,Th.walk] at hp;rcases UH.mp hp with rfl | hp
   · rfl
   · exact nC ts p hp
theorem nC:∀ (ts:List Th),∀ p∈walks (fills cn ts),p.isCall=false
 | []=>fun p hp=>by rw [fills,walks] at hp;cases hp
 | t::ts=>fun p hp=>by
   rw [fills,walks] at hp;rcases UP.mp hp with hp | hp
   · exact pP t p hp
   · exact nC ts p hp
end
def Nx (l:List Nat):Prop:=l=[]∨∃ c r,l=c::r/\(c=40∨c=41∨c=44)
theorem qh {c:Nat} (h:c=40∨c=41∨c=44∨c=46):sp4 c=[32,c,32]:=by
 rcases h with rfl | rfl | rfl | rfl <;> rfl
theorem nH {c:Nat} (h:c≠40/\c≠41/\c≠44/\c≠46):sp4 c=[c]:=by
 unfold sp4 spS;rw [if_neg h.2.2.2,if_neg (fun z=>by omega)]
theorem jk {w:List Nat} (h:∀ c∈w,47<=c):w.flatMap sp4=w:=by
 induction w with
 | nil=>rfl
 | cons c w ih =>
   have hc:=h c (Uy ..);rw [Xe,nH ⟨by omega,by omega,by omega,by omega⟩,ih fun d hd=>h d (Uv _ hd)];rfl
theorem gS (cur l:List Nat) {c:Nat} (h:c=40∨c=41∨c=44∨c=46):scW cur ((c::l).flatMap sp4)=em cur++[c]::scW [] (l.flatMap sp4):=by
 rw [Xe,qh h];show scW cur (32::c::32::l.flatMap sp4)=_;rw [scW,if_pos rfl,scW,if_neg (by omega),scW,if_pos rfl];rfl
theorem wc {w l:List Nat} (hw:w≠[]) (h:Nx l):scW w (l.flatMap sp4)=w::scW [] (l.flatMap sp4):=by
 have he:em w=[w]:=by unfold em;rw [if_neg hw]
 rcases h with rfl | ⟨c,r,rfl,hc⟩
 · show em w=w::em [];rw [he];rfl
 · have BY:c=40∨c=41∨c=44∨c=46:=by omega
   rw [gS w r BY,gS [] r BY,he];rfl
theorem zf (c:Nat):(c=40∨c=41∨c=44∨c=46)∨(c≠40/\c≠41/\c≠44/\c≠46):=by omega
end BB
namespace L2
open PySem PySem.Spec PyProof.Rows
def vR (K:Uj) (a:Ul):It:=⟨fun i H=>∃ xs x,SqL K H a xs/\xs[i]?=some x,fun i H x H'=>∃ p y,H p=none/\x=.ref p/\H'=upd H p (.tup [.int (i:Nat),y])/\∀ xs,SqL K H a xs->xs[i]?=some y,fun i H=>∃ xs,SqL K H a xs/\xs.length=i⟩
theorem rg {P:U1} {w:Vl} {K:Uj} {elts:List VI} {k1} {pos:Ym} (a e it:Ul):Turn P w K (.Tuple elts k1 pos) (vR K a) [e,it] e (fun i h=>(∃ old,IsEnum h e it ((i:Nat):Int) old)/\h.IsListIter it a i) where
 mem:=by simp
 obj:=fun i h st b hb=>by
  obtain ⟨⟨old,he⟩,o,e1,e2,e3⟩:=st;rcases UH.mp hb with rfl | hb
  · exact ⟨_,he,fun v z=>by cases z⟩
  · have:b=it:=by simpa using hb
    subst this;exact ⟨o,e1,fun v z=>by rw [e3] at z;cases z⟩
 keep:=fun i h h' st k=>by
  obtain ⟨⟨old,he⟩,o,e1,e2⟩:=st;exact ⟨⟨old,k e (by simp) _ he⟩,o,k it (by simp) _ e1,e2⟩
 item:=by
  intro X hP hw hK hc i pins s σ H E I hf st hg;subst hP hw hK;obtain ⟨xs,x,hq,hx⟩:=hg;obtain ⟨its,rv,p,hz⟩:=I.list hq;obtain ⟨u,hu,ru⟩:=rv.get hx;obtain ⟨⟨old,he⟩,hi⟩:=st
  have LK:e≠it:=by
   rintro rfl;obtain ⟨o,e1,e2,_⟩:=hi;rw [he] at e1;cases e1;exact absurd (ZQ e2) (by decide)
  have LL:a≠it:=by
   rintro rfl;obtain ⟨o,e1,e2,_⟩:=hi;obtain ⟨o',CZ,CV,_⟩:=p.isList;rw [CZ] at e1;cases e1;rw [CV] at e2;exact absurd (ZQ e2) (by decide)
  have QV:a≠e:=by
   rintro rfl;obtain ⟨o',CZ,CV,_⟩:=p.isList;rw [he] at CZ;cases CZ;exact absurd (ZQ CV) (by decide)
  have AB:i<its.toArray.size:=by
   have:=(Uz.mp hu).1;simpa using this
  have QW:e<s.heap.objs.size:=UJ he;have BQ:it<s.heap.objs.size:=by obtain ⟨o,e1,_⟩:=hi;exact UJ e1
  refine wpAny_pyNext_enum_itemD (Draws.list (A:=X.A.in1) (show X.A.in1.handled=none from I.ok.hd hc) it a LL its.toArray) he ⟨hi,p.isList⟩ AB LK (by simp [LK,QV.symm]) fun y h1 tk hy ho QX hT AH hk=>?_
  have QY:y=u:=by
   have:its[i]?=some y:=by simpa using hy
   rw [hu] at this;exact (UD this).symm
  subst QY;refine ⟨_,rfl,wpAny_letOwnedTupleGo_enum ho fun h2 QZ Kc=>?_⟩;replace Kc:WY e h1 h2:=Kc
  have Au:∀ b∈[e,it],b<s.heap.objs.size:=fun b hb=>by
   rcases UH.mp hb with rfl | hb
   · exact QW
   · have:b=it:=by simpa using hb
     subst this;exact BQ
  have LD:H s.heap.objs.size=none:=I.hok.fresh (Uq _)
  have IA:Inv X pins σ (upd H s.heap.objs.size (.tup [.int (i:Nat),x])) { s with heap:=s.heap.push { cls:=.type "tuple",data:=.seq #[.int (i:Nat) tk,y] },toks:=tk } :=
   I.laid (o:=.tup [.int (i:Nat),x]) (fun b ob q=>Up _ q) (Uq _) ⟨by show 2<=US;decide,[.int (i:Nat) tk,y],0,.cons ⟨tk,rfl⟩ (.cons ru .nil),UG _ rfl⟩
  refine ⟨.ref s.heap.objs.size,upd H s.heap.objs.size (.tup [.int (i:Nat),x]),?_,rfl,⟨_,x,LD,rfl,rfl,fun ys HV=>by rw [I.list_inj HV hq];exact hx⟩,⟨⟨y,by simpa using QZ⟩,?_⟩,fun b hb=>?_⟩
  · have IB:Inv X pins σ (upd H s.heap.objs.size (.tup [.int (i:Nat),x])) { s with heap:=h2,toks:=tk+1 }:=by
     refine Inv.turnedL (s:={ s with heap:=s.heap.push { cls:=.type "tuple",data:=.seq #[.int (i:Nat) tk,y] },toks:=tk }) (h':=h2) (fp:=[e,it]) (t':=tk+1) IA (fun b o hb q=>?_) fun b hb=>?_
     · have El:b≠e:=fun z=>hb (by simp [z]);have J4:b≠it:=fun z=>hb (by simp [z]);rw [Kc.2 b El];by_cases Bg:b=s.heap.objs.size
       · subst Bg;rw [hT];have q':(s.heap.push { cls:=.type "tuple",data:=.seq #[.int (i:Nat) tk,y] }).get? s.heap.objs.size=some o:=q;rw [UG _ rfl] at q';exact q'
       · have B6:b<(s.heap.push { cls:=.type "tuple",data:=.seq #[.int (i:Nat) tk,y] }).objs.size:=UJ q;rw [Wi] at B6;refine hk b o El J4 ?_;have q':(s.heap.push { cls:=.type "tuple",data:=.seq #[.int (i:Nat) tk,y] }).get? b=some o:=q;rw [Heap.get?_push_ne _ _ _ Bg] at q';exact q'
     · obtain ⟨f0,f1⟩:=hf b hb;exact ⟨by rw [au (Vf (Au b hb))];exact f0,f1⟩
    exact IB
  · obtain ⟨o,e1,r⟩:=QX.1;exact ⟨o,(Kc.2 it (WX LK)).trans e1,r⟩
  · rw [au (Vf (Au b hb))];exact (hf b hb).1
 done:=by
  intro X hP hw hK hc i pins s σ H E I hf st hg;subst hP hw hK;obtain ⟨xs,hq,hx⟩:=hg;obtain ⟨its,rv,p,hz⟩:=I.list hq;obtain ⟨⟨old,he⟩,hi⟩:=st
  have LL:a≠it:=by
   rintro rfl;obtain ⟨o,e1,e2,_⟩:=hi;obtain ⟨o',CZ,CV,_⟩:=p.isList;rw [CZ] at e1;cases e1;rw [CV] at e2;exact absurd (ZQ e2) (by decide)
  have hn:its.toArray.size=i:=by
   have:=rv.length;rw [Ux];omega
  refine wpAny_pyNext_enum_endD (Draws.list (A:=X.A.in1) (show X.A.in1.handled=none from I.ok.hd hc) it a LL its.toArray) he (by rw [hn];exact ⟨hi,p.isList⟩) fun h' eb=>⟨rfl,?_⟩;exact I.turnedL (fp:=[e,it]) (t':=s.toks) (fun b o hb q=>eb b o (fun z=>hb (by simp [z])) q) hf
 self:=fun _ _ _ _ _ st h=>by
  obtain ⟨⟨old,he⟩,_⟩:=st;exact wpAny_pyIter_enum he h
section
variable {X:Cx} {e:VI} {te:TE} {p2 BM:Ym}
def zh (K:Uj) (tl:TE):TI:=fun σ H R=>tl σ H fun x H1=>∃ a,x=.ref a/\(∃ xs,SqL K H1 a xs)/\R (vR K a) H1
theorem u7 {elts:List VI} {k1} {pos:Ym} (g2:Gl X "enumerate") (m2:X.mg "enumerate"=none) (he:PE X e te) (h2:Vt [e] X.env=[(false,WS e X.env)]:=by rfl):PI X (.Tuple elts k1 pos) (.Call (.Name "enumerate" p2) [e] [] BM) (zh X.K te):=by
 intro pins s σ H R I h;refine WG (iS I g2 m2 boot_enumerate (WQ ?_ h2 rfl));rw [h2];show UO _ _ (spliced ((false,WS e X.env)::[])) _ _ s;refine WI (thn (he pins s σ H _ I h) fun u s1 ⟨x,H1,I1,r1,a,ex,⟨xs,hq⟩,q⟩=>XS ?_);subst ex;cases r1;obtain ⟨its,rv,p,hz⟩:=I1.list hq;refine call_enumerate_list (show s1.heap.IsList a its.toArray from p.isList) fun h' g1 g2 g3 g4=>?_;refine wpAny_pyIter_enum (s:={ s1 with heap:=h' }) g1 ?_;refine ⟨s1.heap.objs.size+1,[s1.heap.objs.size+1,s1.heap.objs.size],_,_,H1,rfl,I1.kept (t':=s1.toks) g4,rg a _ _,⟨⟨_,g1⟩,g2⟩,fun b hb=>?_,q⟩
 have BA:s1.heap.objs.size<=b:=by
  rcases UH.mp hb with rfl | hb
  · omega
  · have:b=s1.heap.objs.size:=by simpa using hb
    exact Y5 this.symm
 exact I1.fpOk BA (I1.hok.fresh BA)
end
theorem uy {K:Uj} {a:Ul} {xs:List V} {g:TG} {tb:TS} {D:Ends} {σ:St} {H:Hp} (Pv:Nat->St->Hp->Prop) (h0:Pv 0 σ H) (hl:∀ i σ H,i<=xs.length->Pv i σ H->SqL K H a xs)
 (hs:∀ i x p σ H,xs[i]?=some x->H p=none->Pv i σ H->g (.ref p) σ (upd H p (.tup [.int (i:Nat),x])) fun AA H2=>tb { D with nx:=Pv (i+1),ct:=Pv (i+1),bk:=D.nx } AA H2) (hd:∀ σ H,Pv xs.length σ H->D.nx σ H) :
 ∃ W:Nat->Nat->St->Hp->Prop,(∃ m,W 0 m σ H)/\∀ i m σ H,W i m σ H →
   ((vR K a).stop i H/\D.nx σ H)∨((vR K a).go i H/\∃ N:St->Hp->Prop,(∀ f' H',N f' H'->∃ m',m'<m/\W (i+1) m' f' H')/\∀ x H',(vR K a).yld i H x H'->g x σ H' fun AA H2=>tb { D with nx:=N,ct:=N,bk:=D.nx } AA H2):=by
 refine ⟨fun i m σ H=>m=xs.length - i/\i<=xs.length/\Pv i σ H,⟨xs.length,by simp,Vh _,h0⟩,?_⟩;rintro i m σ H ⟨rfl,hi,p⟩;have q:=hl i σ H hi p;by_cases AB:i<xs.length
 · refine .inr ⟨⟨xs,xs[i],q,by simp [AB]⟩,Pv (i+1),fun f' H' p'=>⟨xs.length - (i+1),by omega,rfl,AB,p'⟩,fun x H' y=>?_⟩;obtain ⟨pa,y,hp,rfl,rfl,hy⟩:=y;exact hs i y pa σ H (hy xs q) hp p
 · have e:i=xs.length:=by omega
   subst e;exact .inl ⟨⟨xs,q,rfl⟩,hd σ H p⟩
end L2
namespace BB
theorem hid {G:Prop} (k:∀ F:Prop,(G->F)->F):G:=k G id
inductive Ex1 {A0:Type} (p:A0->Prop):Prop
 | mk (x0:A0) (h:p x0):Ex1 p
inductive Ex2 {A0 A1:Type} (p:A0->A1->Prop):Prop
 | mk (x0:A0) (x1:A1) (h:p x0 x1):Ex2 p
inductive Ex3 {A0 A1 A2:Type} (p:A0->A1->A2->Prop):Prop
 | mk (x0:A0) (x1:A1) (x2:A2) (h:p x0 x1 x2):Ex3 p
inductive Ex4 {A0 A1 A2 A3:Type} (p:A0->A1->A2->A3->Prop):Prop
 | mk (x0:A0) (x1:A1) (x2:A2) (x3:A3) (h:p x0 x1 x2 x3):Ex4 p
inductive Ex5 {A0 A1 A2 A3 A4:Type} (p:A0->A1->A2->A3->A4->Prop):Prop
 | mk (x0:A0) (x1:A1) (x2:A2) (x3:A3) (x4:A4) (h:p x0 x1 x2 x3 x4):Ex5 p
inductive Ex6 {A0 A1 A2 A3 A4 A5:Type} (p:A0->A1->A2->A3->A4->A5->Prop):Prop
 | mk (x0:A0) (x1:A1) (x2:A2) (x3:A3) (x4:A4) (x5:A5) (h:p x0 x1 x2 x3 x4 x5):Ex6 p
inductive An2 (a0 a1:Prop):Prop
 | mk (h0:a0) (h1:a1):An2 a0 a1
inductive An3 (a0 a1 a2:Prop):Prop
 | mk (h0:a0) (h1:a1) (h2:a2):An3 a0 a1 a2
inductive An4 (a0 a1 a2 a3:Prop):Prop
 | mk (h0:a0) (h1:a1) (h2:a2) (h3:a3):An4 a0 a1 a2 a3
inductive An5 (a0 a1 a2 a3 a4:Prop):Prop
 | mk (h0:a0) (h1:a1) (h2:a2) (h3:a3) (h4:a4):An5 a0 a1 a2 a3 a4
inductive An6 (a0 a1 a2 a3 a4 a5:Prop):Prop
 | mk (h0:a0) (h1:a1) (h2:a2) (h3:a3) (h4:a4) (h5:a5):An6 a0 a1 a2 a3 a4 a5
inductive An7 (a0 a1 a2 a3 a4 a5 a6:Prop):Prop
 | mk (h0:a0) (h1:a1) (h2:a2) (h3:a3) (h4:a4) (h5:a5) (h6:a6):An7 a0 a1 a2 a3 a4 a5 a6
inductive An8 (a0 a1 a2 a3 a4 a5 a6 a7:Prop):Prop
 | mk (h0:a0) (h1:a1) (h2:a2) (h3:a3) (h4:a4) (h5:a5) (h6:a6) (h7:a7):An8 a0 a1 a2 a3 a4 a5 a6 a7
inductive An9 (a0 a1 a2 a3 a4 a5 a6 a7 a8:Prop):Prop
 | mk (h0:a0) (h1:a1) (h2:a2) (h3:a3) (h4:a4) (h5:a5) (h6:a6) (h7:a7) (h8:a8):An9 a0 a1 a2 a3 a4 a5 a6 a7 a8
inductive yO (a0 a1 a2 a3 a4 a5 a6 a7 a8 a9 N9 Oa a12:Prop):Prop
 | mk (h0:a0) (h1:a1) (h2:a2) (h3:a3) (h4:a4) (h5:a5) (h6:a6) (h7:a7) (h8:a8) (h9:a9) (Ob:N9) (TQ:Oa) (TR:a12):yO a0 a1 a2 a3 a4 a5 a6 a7 a8 a9 N9 Oa a12
end BB
namespace L2
open PySem PySem.Spec PyProof.Rows
end L2
namespace BB
open PySem L2
theorem yn:∀ c<10,sL (aV (c:Nat))=[48+c]:=by decide +kernel
theorem zn:∀ b<10,∀ c<10,b≠0->sL (aV (10 * b+c:Nat))=[48+b,48+c]:=by decide +kernel
theorem yL:(Vr 10).all (fun a=>(Vr 10).all fun b=>(Vr 10).all fun c=>decide (a=0) || decide (sL (aV (100 * a+10 * b+c:Nat))=[48+a,48+b,48+c]))=true:=by decide +kernel
theorem xq {a b c:Nat} (ha:a<10) (hb:b<10) (hc:c<10) (h0:a≠0):sL (aV (100 * a+10 * b+c:Nat))=[48+a,48+b,48+c]:=by
 have h:=Vo.mp (Vo.mp (Vo.mp yL a (Xo.mpr ha)) b (Xo.mpr hb)) c (Xo.mpr hc);rw [decide_eq_false h0,Bool.false_or] at h;exact of_decide_eq_true h
theorem mB:∀ n<1000,Zj (aV (n:Nat))=some ((n:Nat):Int):=by decide +kernel
def isNum (z:UA):Bool:=decide (1<=z.length/\z.length<=3) && (sL z).all (fun c=>decide (48<=c/\c<=57)) && (decide ((sL z).head?≠some 48) || decide (sL z=[48]))
theorem sW {z:UA} (h:isNum z=true):∃ n:Nat,n<1000/\z=aV (n:Nat):=by
 unfold isNum at h;rw [Vv,Vv,Vo,Zb] at h;obtain ⟨⟨h1,h2⟩,h3⟩:=h;have h1:=of_decide_eq_true h1;rw [<- fu] at h1;have h2:∀ c∈sL z,48<=c/\c<=57:=fun c hc=>of_decide_eq_true (h2 c hc);have h3:(sL z).head?≠some 48∨sL z=[48]:=h3.imp of_decide_eq_true of_decide_eq_true
 match e:sL z,h1,h2,h3 with
 | [c],_,h2,_ =>
   have c1:=h2 c (by simp);have k:=yn (c - 48) (by omega);rw [show 48+(c - 48)=c by omega] at k;exact ⟨c - 48,by omega,cE (e.trans k.symm)⟩
 | [b,c],_,h2,h3 =>
   have c1:=h2 c (by simp);have b1:=h2 b (by simp);have b0:b≠48:=fun z=>by rcases h3 with h3 | h3 <;> simp_all
   have k:=zn (b - 48) (by omega) (c - 48) (by omega) (by omega);rw [show 48+(c - 48)=c by omega,show 48+(b - 48)=b by omega] at k;exact ⟨_,by omega,cE (e.trans k.symm)⟩
 | [a,b,c],_,h2,h3 =>
   have c1:=h2 c (by simp);have b1:=h2 b (by simp);have a1:=h2 a (by simp);have b0:a≠48:=fun z=>by rcases h3 with h3 | h3 <;> simp_all
   have k:=xq (a:=a - 48) (b:=b - 48) (c:=c - 48) (by omega) (by omega) (by omega) (by omega);rw [show 48+(c - 48)=c by omega,show 48+(b - 48)=b by omega,show 48+(a - 48)=a by omega] at k;exact ⟨_,by omega,cE (e.trans k.symm)⟩
theorem oK:∀ n<1000,isNum (aV (n:Nat))=true:=by decide +kernel
def jD (z:UA):Option Int:=if isNum z=true then Zj z else none
theorem bR {z:UA} {n:Int}:jD z=some n↔z=aV n/\0<=n/\n<1000:=by
 unfold jD;constructor
 · intro h;split at h
   · rename_i c
     obtain ⟨m,hm,rfl⟩:=sW c;rw [mB m hm] at h;cases h;exact ⟨rfl,by omega,by omega⟩
   · cases h
 · rintro ⟨rfl,h0,h1⟩;obtain ⟨m,rfl⟩:=Xq h0;rw [if_pos (oK m (by omega)),mB m (by omega)]
theorem uO {z:UA}:jD z=none↔isNum z=false:=by
 unfold jD;by_cases c:isNum z=true
 · rw [if_pos c];obtain ⟨m,hm,rfl⟩:=sW c;rw [mB m hm];exact ⟨(fun h=>by cases h),fun h=>by rw [h] at c;cases c⟩
 · rw [if_neg c];exact ⟨fun _=>VB.mpr c,fun _=>rfl⟩
def SOk:Stp->Prop
 | .sg c=>c=lpar∨c=comma∨c=rpar
 | .th (.knot n ts)=>ts=[]/\aS n=true
 | .th (.call s k)=>(0<=s/\s<1000)/\0<=k/\k<1000
def stW:Stp->List UA
 | .sg c=>[c]
 | .th (.knot n _)=>[n]
 | .th (.call s k)=>[aV s,dot,aV k]
def ky:List UA->Option Stp
 | [x,d,y]=>if d=dot then (match jD x,jD y with
   | some a,some b=>some (.th (.call a b))
   | _,_=>none) else none
 | _=>none
theorem iQ {ws:List UA} {x:Stp}:ky ws=some x↔(∃ a b:Int,x=.th (.call a b)/\SOk x/\ws=stW x):=by
 constructor
 · intro h
   match ws,h with
   | [u,d,v],h =>
     rw [ky] at h;by_cases c:d=dot
     · rw [if_pos c] at h;cases e1:jD u with
       | none=>rw [e1] at h;cases h
       | some a =>
         cases e2:jD v with
         | none=>rw [e1,e2] at h;cases h
         | some b =>
           rw [e1,e2] at h;have:=(UD h).symm;subst this;obtain ⟨rfl,k1⟩:=bR.mp e1;obtain ⟨rfl,k2⟩:=bR.mp e2;exact ⟨a,b,rfl,⟨k1,k2⟩,by rw [c];rfl⟩
     · rw [if_neg c] at h;cases h
   | [],h=>cases h
   | [_],h=>cases h
   | [_,_],h=>cases h
   | _::_::_::_::_,h=>cases h
 · rintro ⟨a,b,rfl,⟨k1,k2⟩,rfl⟩;rw [stW,ky,if_pos rfl,bR.mpr ⟨rfl,k1⟩,bR.mpr ⟨rfl,k2⟩]
def qa (w:UA):Prop:=w=lpar∨w=comma∨w=rpar
instance (w:UA):Decidable (qa w):=inferInstanceAs (Decidable (_∨_))
def b7:Nat->List UA->Option (List Stp)
 | _,[]=>some []
 | 0,_::_=>none
 | n+1,w::ws=>if qa w then (b7 n ws).map (.sg w::·)
   else if aS w=true then (b7 n ws).map (.th (.knot w [])::·)
   else (ky ((w::ws).take 3)).bind fun x=>(b7 n (ws.drop 2)).map (x::·)
theorem eJ:∀ {n:Nat} {ws:List UA} {l:List Stp},b7 n ws=some l->(l.map stW).flatten=ws/\∀ x∈l,SOk x
 | n,[],l,h=>by
   have:b7 n []=some []:=by cases n <;> rfl
   rw [this] at h;cases h;exact ⟨rfl,fun x hx=>by cases hx⟩
 | 0,w::ws,l,h=>by cases h
 | n+1,w::ws,l,h=>by
   rw [b7] at h;by_cases c:qa w
   · rw [if_pos c] at h;obtain ⟨l',h1,rfl⟩:=VR.mp h;obtain ⟨e,k⟩:=eJ h1;refine ⟨by rw [UB,U4,e];rfl,fun x hx=>?_⟩;rcases UH.mp hx with rfl | hx
     · exact c
     · exact k x hx
   · rw [if_neg c] at h;by_cases c2:aS w=true
     · rw [if_pos c2] at h;obtain ⟨l',h1,rfl⟩:=VR.mp h;obtain ⟨e,k⟩:=eJ h1;refine ⟨by rw [UB,U4,e];rfl,fun x hx=>?_⟩;rcases UH.mp hx with rfl | hx
       · exact ⟨rfl,c2⟩
       · exact k x hx
     · rw [if_neg c2] at h;obtain ⟨x,h0,h⟩:=YV.mp h;obtain ⟨l',h1,rfl⟩:=VR.mp h;obtain ⟨e,k⟩:=eJ h1;obtain ⟨a,b,_,hx,hw⟩:=iQ.mp h0;refine ⟨?_,fun y hy=>?_⟩
       · rw [UB,U4,e,<- hw];show (w::ws).take 3++(w::ws).drop 3=_;exact Zh _ _
       · rcases UH.mp hy with rfl | hy
         · exact hx
         · exact k y hy
theorem uv {w:UA} (h:aS w=true):¬ qa w:=by
 rintro (rfl | rfl | rfl) <;> revert h <;> decide +kernel
theorem rG:∀ n<1000,aS (aV (n:Nat))=false/\¬ qa (aV (n:Nat)):=by decide +kernel
theorem gN:∀ {n:Nat} {l:List Stp},(∀ x∈l,SOk x)->((l.map stW).flatten).length<=n->b7 n (l.map stW).flatten=some l
 | n,[],_,_=>by cases n <;> rfl
 | n,.sg c::l,h,hn=>by
   rw [UB,U4,stW] at hn ⊢;obtain ⟨n,rfl⟩:∃ m,n=m+1:=⟨n - 1,by rw [Uu,Vk] at hn;omega⟩;show b7 (n+1) (c::(l.map stW).flatten)=_;rw [b7,if_pos (show qa c from h _ (Uy ..)),gN (fun x hx=>h x (Uv _ hx)) (by rw [Uu,Vk] at hn;omega)];rfl
 | n,.th (.knot m ts)::l,h,hn=>by
   rw [UB,U4,stW] at hn ⊢;obtain ⟨n,rfl⟩:∃ m,n=m+1:=⟨n - 1,by rw [Uu,Vk] at hn;omega⟩;obtain ⟨rfl,hm⟩:=h _ (Uy ..);show b7 (n+1) (m::(l.map stW).flatten)=_;rw [b7,if_neg (uv hm),if_pos hm,gN (fun x hx=>h x (Uv _ hx)) (by rw [Uu,Vk] at hn;omega)];rfl
 | n,.th (.call s k)::l,h,hn=>by
   have hx:=h _ (Uy ..);have hc:=iQ.mpr ⟨s,k,rfl,hx,rfl⟩;rw [UB,U4] at hn ⊢;obtain ⟨n,rfl⟩:∃ m,n=m+1:=⟨n - 1,by rw [stW,Uu] at hn;simp only [Ui] at hn;omega⟩;obtain ⟨⟨s0,s1⟩,_⟩:=hx;obtain ⟨s',rfl⟩:=Xq s0;have hs:=rG s' (by omega);show b7 (n+1) (aV s'::([dot,aV k]++(l.map stW).flatten))=_;rw [b7,if_neg hs.2,if_neg (by rw [hs.1];decide)];have e1:(aV s'::([dot,aV k]++(l.map stW).flatten)).take 3=stW (.th (.call s' k)):=rfl;have e2:([dot,aV k]++(l.map stW).flatten).drop 2=(l.map stW).flatten:=rfl;rw [e1,hc,e2,gN (fun x hx=>h x (Uv _ hx)) (by rw [stW,Uu] at hn;simp only [Ui] at hn;omega)];rfl
def iy (ws:List UA):Option (List Stp):=b7 ws.length ws
theorem gd {ws:List UA} {l:List Stp}:iy ws=some l↔(l.map stW).flatten=ws/\∀ x∈l,SOk x:=by
 constructor
 · exact eJ
 · rintro ⟨rfl,h⟩;exact gN h (Uq _)
end BB
namespace BB
open PySem L2
theorem dW {S F:PSt} {x:Stp} {l:List Stp} (h:prun S (x::l)=some F):∃ S',bt S x=some S'/\prun S' l=some F:=by
 rw [prun] at h;exact YV.mp h
theorem jt {S S':PSt} {t:Th} (h:bt S (.th t)=some S'):ended S.bef=false/\S'=⟨S.tops++[(t,0)],S.win,.th t⟩:=by
 rw [bt] at h;by_cases c:ended S.bef=false
 · rw [if_pos c] at h;exact ⟨c,(UD h).symm⟩
 · rw [if_neg c] at h;cases h
theorem ji {S S':PSt} (h:bt S (.sg lpar)=some S'):gY S.bef=true/\S.win.length<100/\∃ j,S'.win=S.win++[j]/\S'.bef=.sg lpar:=by
 rw [bt,if_pos rfl] at h;by_cases c:gY S.bef=true/\S.win.length<100/\S.tops≠[]
 · rw [if_pos c] at h;have:=(UD h).symm;subst this;exact ⟨c.1,c.2.1,_,rfl,rfl⟩
 · rw [if_neg c] at h;cases h
theorem lx {S S':PSt} (h:bt S (.sg comma)=some S'):ended S.bef=true/\S.win≠[]/\S'.win=S.win/\S'.bef=.sg comma:=by
 rw [bt,if_neg ft.1,if_pos rfl] at h;by_cases c:ended S.bef=true/\S.win≠[]
 · rw [if_pos c] at h;have:=(UD h).symm;subst this;exact ⟨c.1,c.2,rfl,rfl⟩
 · rw [if_neg c] at h;cases h
theorem lD {S S':PSt} (h:bt S (.sg rpar)=some S'):ended S.bef=true/\S.win≠[]/\S'.win=S.win.dropLast/\S'.bef=.sg rpar:=by
 rw [bt,if_neg ft.2.1,if_neg ft.2.2.1,if_pos rfl] at h;by_cases c:ended S.bef=true/\S.win≠[]
 · rw [if_pos c] at h;have:=(UD h).symm;subst this;exact ⟨c.1,c.2,rfl,rfl⟩
 · rw [if_neg c] at h;cases h
theorem vc {b:Stp} (h:gY b=true):ended b=true:=by
 cases b with
 | th t=>rfl
 | sg c=>cases h
def zt (l:List Stp) (S F:PSt):Prop:=∃ (t:Th) (rest:List Stp) (S1:PSt),l=t.stP.map (·.2)++rest/\S1.win=S.win/\ended S1.bef=true/\prun S1 rest=some F/\(∀ r,rest≠.sg lpar::r)/\rest.length<l.length/\t.tall+S.win.length<=101
def aag (l:List Stp) (S F:PSt):Prop:=∃ (ts:List Th) (rest:List Stp) (S1:PSt),ts≠[]/\l=(dX ts).map (·.2)++.sg rpar::rest/\S1.win=S.win.dropLast/\S1.bef=.sg rpar/\prun S1 rest=some F/\rest.length<l.length/\aL ts+S.win.length<=101
theorem qs:∀ n:Nat,(∀ (l:List Stp) (S F:PSt),l.length<=n->(∀ x∈l,SOk x)->ended S.bef=false->S.win.length<=100->prun S l=some F->F.win=[]->ended F.bef=true->zt l S F) ∧
 (∀ (l:List Stp) (S F:PSt),l.length<=n->(∀ x∈l,SOk x)->ended S.bef=false->S.win≠[]->S.win.length<=100->prun S l=some F->F.win=[]->ended F.bef=true->aag l S F)
 | 0=>by
   constructor
   · intro l S F hn _ hb _ h _ hf;have:l=[]:=U9.mp (by omega);subst this;cases h;rw [hb] at hf;cases hf
   · intro l S F hn _ hb _ _ h _ hf;have:l=[]:=U9.mp (by omega);subst this;cases h;rw [hb] at hf;cases hf
 | n+1=>by
   obtain ⟨TU,Oc⟩:=qs n
   have hA:∀ (l:List Stp) (S F:PSt),l.length<=n+1->(∀ x∈l,SOk x)->ended S.bef=false->S.win.length<=100->prun S l=some F->F.win=[]->ended F.bef=true->zt l S F:=by
    intro l S F hn hok hb hw h hF hf;cases l with
    | nil=>cases h;rw [hb] at hf;cases hf
    | cons x l =>
      obtain ⟨S',h1,h2⟩:=dW h;have hx:=hok x (Uy ..);rw [Ui] at hn;cases x with
      | sg c =>
        exfalso;rcases hx with rfl | rfl | rfl
        · have:=vc (ji h1).1;rw [hb] at this;cases this
        · have:=(lx h1).1;rw [hb] at this;cases this
        · have:=(lD h1).1;rw [hb] at this;cases this
      | th t =>
        obtain ⟨_,rfl⟩:=jt h1;cases t with
        | call s k =>
          refine ⟨.call s k,l,⟨S.tops++[(.call s k,0)],S.win,.th (.call s k)⟩,rfl,rfl,rfl,h2,fun r e=>?_,by rw [Ui];omega,by rw [Th.tall];omega⟩;subst e;obtain ⟨_,h3,_⟩:=dW h2;have:=(ji h3).1;cases this
        | knot m ts =>
          obtain ⟨rfl,hm⟩:=hx;by_cases hl:∃ r,l=.sg lpar::r
          · obtain ⟨r,rfl⟩:=hl;obtain ⟨S2,h3,h4⟩:=dW h2;obtain ⟨_,Ex,j,hj,Bg⟩:=ji h3;have Ex:S.win.length<100:=Ex;have hj:S2.win=S.win++[j]:=hj;rw [Ui] at hn;obtain ⟨ts,rest,S1,Au,e,Fl,Ew,hr,hlen,Av⟩:=Oc r S2 F (by omega) (fun y hy=>hok y (Uv _ (Uv _ hy))) (by rw [Bg];exact mw) (by rw [hj];simp) (by rw [hj,Uu,Vk];omega) h4 hF hf;rw [hj,Uu,Vk] at Av;refine ⟨.knot m ts,rest,S1,?_,by rw [Fl,hj,Zm],by rw [Ew];exact iB,hr,fun q eq=>?_,by rw [Ui,Ui];omega,by rw [Th.tall];omega⟩
            · rw [Th.stP,if_neg Au,e];simp
            · subst eq;obtain ⟨_,h5,_⟩:=dW hr;have:=(ji h5).1;rw [Ew] at this;cases this
          · exact ⟨.knot m [],l,⟨S.tops++[(.knot m [],0)],S.win,.th (.knot m [])⟩,by rw [Th.stP,if_pos rfl];rfl,rfl,rfl,h2,fun r e=>hl ⟨r,e⟩,by rw [Ui];omega,by rw [Th.tall,aL];omega⟩
   refine ⟨hA,?_⟩;intro l S F hn hok hb Au hw h hF hf;obtain ⟨t,rest,S1,e,Fl,Ew,hr,hl,hlen,Av⟩:=hA l S F hn hok hb hw h hF hf;cases rest with
   | nil =>
     exfalso;cases hr;exact Au (by rw [<- Fl,hF])
   | cons x rest =>
     obtain ⟨S2,h3,h4⟩:=dW hr;have Od:∀ y∈x::rest,SOk y:=fun y hy=>hok y (by rw [e];exact UP.mpr (.inr hy));have hx:=Od x (Uy ..);cases x with
     | th u=>exact absurd (jt h3).1 (by rw [Ew];decide)
     | sg c =>
       rcases hx with rfl | rfl | rfl
       · exact absurd rfl (hl rest)
       · obtain ⟨_,_,Ex,Bg⟩:=lx h3;have LM:S2.win=S.win:=Ex.trans Fl;rw [Ui] at hlen;obtain ⟨ts,Iz,S3,D6,e2,Es,GV,Ey,Oe,F6⟩:=Oc rest S2 F (by omega) (fun y hy=>Od y (Uv _ hy)) (by rw [Bg];exact du) (by rw [LM];exact Au) (by rw [LM];exact hw) h4 hF hf;rw [LM] at F6 Es;refine ⟨t::ts,Iz,S3,by simp,?_,Es,GV,Ey,by omega,by rw [aL];omega⟩;rw [e,e2,dX,if_neg D6];simp
       · obtain ⟨_,_,Ex,Bg⟩:=lD h3;refine ⟨[t],rest,S2,by simp,?_,by rw [Ex,Fl],Bg,h4,by rw [Ui] at hlen;omega,by rw [aL,aL];omega⟩;rw [e,dX,if_pos rfl];simp
def iX (l:List Stp):Option PSt:=(prun ⟨[],[],.sg comma⟩ l).bind fun F=>if F.win=[]/\ended F.bef=true then some F else none
theorem rj {l:List Stp} {F:PSt} (hok:∀ x∈l,SOk x) (h:iX l=some F):∃ t:Th,l=t.stP.map (·.2)/\t.tall<=101:=by
 unfold iX at h;obtain ⟨F',h1,h2⟩:=YV.mp h;by_cases c:F'.win=[]/\ended F'.bef=true
 · rw [if_pos c] at h2;have:=UD h2;subst this;obtain ⟨t,rest,S1,e,Fl,Ew,hr,hl,_,ht⟩:=(qs l.length).1 l _ F' (Uq _) hok du (by show 0<=100;omega) h1 c.1 c.2;have ht:t.tall+0<=101:=ht;refine ⟨t,?_,by omega⟩;cases rest with
   | nil=>rw [e,UY]
   | cons x rest =>
     exfalso;obtain ⟨S2,h3,h4⟩:=dW hr;have hx:SOk x:=hok x (by rw [e];simp);cases x with
     | th u=>exact absurd (jt h3).1 (by rw [Ew];decide)
     | sg c =>
       rcases hx with rfl | rfl | rfl
       · exact absurd rfl (hl rest)
       · exact (lx h3).2.1 Fl
       · exact (lD h3).2.1 Fl
 · rw [if_neg c] at h2;cases h2
theorem si {S S':PSt} {x:Stp} (hx:SOk x) (h:bt S x=some S') (i:gY S.bef=true->S.tops≠[]):(gY S'.bef=true->S'.tops≠[])/\(S'.bef=.sg lpar->S'.win≠[])/\((∃ t,S'.bef=.th t)∨S'.bef=.sg lpar∨S'.bef=.sg comma∨S'.bef=.sg rpar):=by
 cases x with
 | th t =>
   obtain ⟨_,rfl⟩:=jt h;exact ⟨fun _=>(by simp),fun z=>(by cases z),.inl ⟨t,rfl⟩⟩
 | sg c =>
   rcases hx with rfl | rfl | rfl
   · obtain ⟨_,_,j,hj,hb⟩:=ji h;exact ⟨fun z=>(by rw [hb] at z;cases z),fun _=>(by rw [hj];simp),.inr (.inl hb)⟩
   · obtain ⟨_,_,_,hb⟩:=lx h;exact ⟨fun z=>(by rw [hb] at z;cases z),fun z=>(by rw [hb] at z;exact absurd (Stp.sg.inj z) ft.1),.inr (.inr (.inl hb))⟩
   · obtain ⟨_,_,_,hb⟩:=lD h;exact ⟨fun z=>(by rw [hb] at z;cases z),fun z=>(by rw [hb] at z;exact absurd (Stp.sg.inj z) ft.2.1),.inr (.inr (.inr hb))⟩
def jy (ws:List UA) (t:Th):Prop:=iy ws=some (t.stP.map (·.2))/\t.tall<=101
theorem gM {t:Th} (h:t.tall<=101):∃ F,iX (t.stP.map (·.2))=some F/\F.tops=t.walk.map i0:=by
 obtain ⟨b,hb,e⟩:=uA h;refine ⟨⟨t.walk.map i0,[],b⟩,?_,rfl⟩;unfold iX;rw [e];exact if_pos ⟨rfl,hb⟩
mutual
theorem we:∀ t:Th,t.size<=t.stP.length
 | .call s k=>by rw [Th.stP,Th.size];exact Uq _
 | .knot n ts=>by
   rw [Th.stP,Th.size];by_cases hz:ts=[]
   · subst hz;rw [if_pos rfl,aC];exact Uq _
   · rw [if_neg hz,Ui,Ui,Uu];have:=tK ts;omega
theorem tK:∀ ts:List Th,aC ts<=(dX ts).length
 | []=>by rw [aC];exact Vh _
 | t::ts=>by
   rw [dX,aC,Uu];have h1:=we t;have h2:=tK ts;by_cases hz:ts=[]
   · subst hz;rw [if_pos rfl,aC];omega
   · rw [if_neg hz,Ui];omega
end
mutual
theorem jQ:∀ t:Th,(t.stP.map (·.2)).map stW=t.stP.map (·.1)
 | .call s k=>rfl
 | .knot n ts=>by
   rw [Th.stP];by_cases hz:ts=[]
   · rw [if_pos hz];rfl
   · rw [if_neg hz];simp only [UB,UC,Wm,mG ts];rfl
theorem mG:∀ ts:List Th,((dX ts).map (·.2)).map stW=(dX ts).map (·.1)
 | []=>rfl
 | t::ts=>by
   rw [dX];by_cases hz:ts=[]
   · rw [if_pos hz,UY,jQ t]
   · rw [if_neg hz];simp only [UB,UC,jQ t,mG ts];rfl
end
theorem nz {ws:List UA} {t:Th}:jy ws t↔ws=t.wP/\(∀ x∈t.stP.map (·.2),SOk x)/\t.tall<=101:=by
 unfold jy;rw [gd,jQ,and_assoc];exact and_congr_left fun _=>⟨fun h=>h.symm,fun h=>h.symm⟩
theorem yF (x:Stp):1<=(stW x).length:=by
 cases x with
 | sg c=>exact Uq _
 | th t=>cases t with
   | knot n ts=>exact Uq _
   | call s k=>exact (by decide:1<=3)
theorem ss {ws:List UA} {l:List Stp} (h:iy ws=some l):l.length<=ws.length:=by
 rw [<- (gd.mp h).1];clear h;induction l with
 | nil=>exact Uq _
 | cons x l ih =>
   rw [UB,U4,Uu,Ui];have:=yF x;omega
theorem mR (c:Nat):∀ (l:List Nat) (p:List Nat),p∈aH c l->p.length<=l.length
 | [],p,h=>by
   rw [aH] at h;rw [UW.mp h];exact Uq _
 | d::l,p,h=>by
   rw [aH] at h;obtain ⟨p0,r,e⟩:=ce c l;have ih:=mR c l;rw [e] at h ih;rw [Ui];split at h
   · rcases UH.mp h with rfl | h
     · exact Vh _
     · have:=ih p h;omega
   · rcases UH.mp h with rfl | h
     · have:=ih p0 (Uy ..);rw [Ui];omega
     · have:=ih p (Uv _ h);omega
theorem mQ (c:Nat):∀ l:List Nat,(aH c l).length<=l.length+1
 | []=>Uq _
 | d::l=>by
   have ih:=mQ c l;rw [aH];obtain ⟨p,r,e⟩:=ce c l;rw [e] at ih ⊢;rw [Ui] at ih;split
   · rw [Ui,Ui,Ui];omega
   · rw [Ui,Ui];omega
theorem xE (l:List Nat):(wds l).length<=l.length+1:=VS (List.length_filter_le _ _) (mQ 32 l)
theorem wU {l p:List Nat} (h:p∈wds l):p.length<=l.length:=mR 32 l p (X7.mp h).1
def KdOf (w:UA) (k:UA×Int):Prop:=w=cm k/\aS k.1=true/\0<=k.2/\k.2<1000
end BB
namespace BB
open PySem L2 PySem.Builtin PySem.Builtin.Str
theorem nL (c:Nat):∀ (l:List Nat) (off:Nat),(∀ d∈l,d≠c)->pA c off l=[]
 | [],_,_=>rfl
 | d::l,off,h=>by rw [pA,if_neg (h d (Uy ..)),nL c l _ fun e he=>h e (Uv _ he)]
theorem occ_none {x:UA} {c:Nat} (hp:∀ d∈x.cps.toList,d≠c):occurrences x ⟨#[c]⟩ 0 x.length 1=[]:=by
 rw [StrLaws.occ_eq];have h:=fA x c x.cps.toList [] 0 rfl (Uq _);rw [W7,UQ,nL c _ 0 hp] at h;exact h
end BB
namespace L2
open PySem PySem.Spec PySem.SeqAt PySem.Calls PyProof.Rows PySem.Builtin PySem.Builtin.Str BB
variable {X:Cx}
def yM:V->List V->Hp->VK->Prop:=fun x vs H Q=>ye x vs H Q∨∃ (z:UA) (c:Nat),x=.str z/\vs=[.str ⟨#[c]⟩]/\(∀ d∈z.cps.toList,d≠c)/\z.length<=1000000/\∀ p,H p=none->Q (.ref p) (upd H p (.tup [.str z,.str Wb,.str Wb]))
theorem ng:MtR X "str.partition" yM:=by
 intro pins s σ H x vs v us Q I rx rv h;rcases h with h | ⟨z,c,rfl,rfl,hp,hz,q⟩
 · exact pK pins s σ H x vs v us Q I rx rv h
 obtain ⟨t,rfl⟩:=rx;obtain ⟨u,rfl,t',rfl⟩:=rv.one;have hf:H s.heap.objs.size=none:=I.hok.fresh (Uq _);have hm:=meets_str_partition z ⟨#[c]⟩ t t' rfl (by rw [Wy];omega);rw [occ_none hp] at hm;refine Xs F.slot_str_partition (XD _ _ _) F.entry_str_partition (F.args_str_partition_2 _ _) hm ?_;show wants (EP X pins σ Q) X.xe _ { s with toks:=s.toks+1,heap:=s.heap.push { cls:=.type "tuple",data:=.seq [.str z t,.str Wb s.toks,.str Wb s.toks].toArray } };refine ⟨.ref s.heap.objs.size,upd H s.heap.objs.size (.tup [.str z,.str Wb,.str Wb]),I.laid (t':=s.toks+1) (fun b u e=>Up _ e) (Uq _) ?_,rfl,q _ hf⟩;exact ⟨by show 3<=US;decide,_,_,.cons ⟨_,rfl⟩ (.cons ⟨_,rfl⟩ (.cons ⟨_,rfl⟩ .nil)),UG _ rfl⟩
end L2
namespace L2
open PySem PySem.Spec PyProof.Rows PySem.W
end L2
namespace L2
open PySem PySem.Spec PySem.Calls PyProof.Rows
variable {X:Cx}
end L2
namespace BB
open PySem L2
def Tells (oc:List Nat) (ow:List UA):Prop:=∀ l,Nx l->scW [] ((oc++l).flatMap sp4)=ow.map sL++scW [] (l.flatMap sp4)
theorem rE {w:UA} (h:∀ c∈sL w,47<=c) (Au:sL w≠[]):Tells (sL w) [w]:=fun l hl=>by
 have GW:∀ c∈sL w,c≠32:=fun c hc=>by have:=h c hc;omega
 rw [XW,jk h,iY _ _ _ GW,Vs,wc Au hl];rfl
theorem sw {a b:UA} (ha:∀ c∈sL a,47<=c) (Q0:sL a≠[]) (hb:∀ c∈sL b,47<=c) (Q1:sL b≠[]):Tells (sL a++46::sL b) [a,dot,b]:=fun l hl=>by
 have GW:∀ c∈sL a,c≠32:=fun c hc=>by have:=ha c hc;omega
 have he:em (sL a)=[sL a]:=by unfold em;rw [if_neg Q0]
 rw [U2,Va,XW,jk ha,iY _ _ _ GW,Vs,gS _ _ (.inr (.inr (.inr rfl))),he,rE hb Q1 l hl];show _=[sL a,sL dot,sL b]++_;rw [sI];rfl
end BB
namespace L2
open PySem PySem.Spec PySem.Calls PyProof.Rows BB
abbrev cSt (z:UA×Nat×Ym):VI:=.Constant (.str z.1) z.2.1 z.2.2
theorem sX {X:Cx} {i:Nat} {x:UA} {p0 p1 p2 p3:Ym} {e:VI} {te:TE} (zs:List (UA×Nat×Ym)) (hN:X.N.Nodup) (hi:X.N[i]?=some x) (hx:Loc X.env.scope x) (hf:X.fn x=true∨X.env.scope.names.lookup x=some .local) (he:PE X e te) (hs:tU e) :
 PS X (.Assign [.Name x p0] (.Subscript (.List (zs.map cSt) p1) e p2) p3) (uj (tOp (wA X.K) (vi (tS (zs.map (·.1)))) te) (av i)):=ar hN hi hx (ao aG (@bg X _ _ _ (tm zs)) he hs) rfl hf
theorem pq {K:Uj} {te:TE} {zs:List UA} {σ:St} {H:Hp} {Q:VK} (hl:zs.length<=1000) (q:∀ (D:Ul) (H1:Hp),L2.Same H H1->H1 D=some (.lst (zs.map V.str))->te σ H1 fun y H2=>wA K (.ref D) y H2 Q):tOp (wA K) (vi (tS zs)) te σ H Q :=
 ⟨aj (by rw [Ue];omega),fun p hp=>q p _ (ag hp _) ae⟩
end L2
namespace L2
open PySem PySem.Spec PySem.Calls PyProof.Rows PySem.W
theorem iV {M:Model} {A:Vm} {E:Um->Uo->Prop} {s:Uo} {base:VO} {env:Zp} {outer:List Zp} {L e:Ul} {cls a0 fl:Um} {Q:Unit->Uo->Prop}
 (J2:A.frames=some (env::outer)) (hf:env.frame=some L) (Df:base.StaysIn s.heap) (IC:base.get? e=none) (hl:s.heap.FunFrames base (env::outer)) (ht:s.heap.TracedAtW base e cls a0 fl)
 (hQ:∀ h',Heap.FlyingW base outer e cls a0 h'->s.heap.UpToSlots h'->Q () { s with heap:=h' }):UO M A (leaving env (.ref e)) Q E s:=by
 by_cases GX:fl=Yx L
 · subst GX;unfold leaving;refine Uk (wpAny_noteFrame_againW hf ht ?_);refine wpAny_landsW (base:=base) (l:=env::outer) (cls:=cls) (a0:=a0) (L:=L) ⟨Df,IC,hl,ht⟩ fun h' GX up=>?_;obtain ⟨k1,k2,⟨_,_,k3⟩,k4⟩:=GX;exact hQ h' ⟨k1,k2,k3,k4⟩ up
 · obtain ⟨oe,vs,T,oT,ts,he,⟨BI,h0⟩,hd,h1,F7,GY,hT,D7,h3⟩:=ht;subst BI;unfold leaving Zi;simp only [hf];refine Uk (Uk (Vz he hd h1 ?_));rw [if_pos (show (VT T != V4)=true from by simp)];refine Uk (Vz hT D7 h3 ?_);rw [if_neg (show ¬ ((fl == Yx L)=true) from fun z=>GX (beq_iff_eq.mp z))];refine Uk (ZI hT D7 (XM.mp h3).1 ?_);have other:∀ b,b≠T->(s.heap.update T (Obj.mapFields (·.setIfInBounds 3 V4))).get? b=s.heap.get? b:=fun b hb=>Yv _ _ (WX hb)
   have Be:∀ b o,s.heap.get? b=some o->(∀ vs,o.data≠.fields vs)->b≠T:=fun b o hb CM q=>by
    rw [q,hT] at hb;injection hb with hb;subst hb;exact CM ts D7
   refine wpAny_newEntryW J2 (hl.of_keeps fun b o hb CM=>⟨o,(other b (Be b o hb CM)).trans hb,rfl⟩) hf ((other e (WX GY)).trans he)
    (fun b o F8=>(other b fun q=>by rw [q,F7] at F8;cases F8).trans (Df b o F8)) IC hd (XM.mp h1).1 h0
    fun h' ⟨x1,⟨_,_,x2⟩,x3,x4⟩=>hQ h' ⟨x1,IC,x2,x3⟩ fun b o hb CM=>x4 b o ((other b (Be b o hb CM)).trans hb) CM
theorem m5 {α:Type} {M:Model} {A:Vm} {E:Um->Uo->Prop} {s:Uo} {FK:String} {Bz:Zp} {base:VO} {l:List Zp} {e:Ul} {cls a0 fl:Um} {Q:α->Uo->Prop}
 (Df:base.StaysIn s.heap) (hl:s.heap.FunFrames base l) (ht:s.heap.TracedAtW base e cls a0 fl)
 (h:∀ h' Of,base.StaysIn h'->h'.FunFrames base l->h'.TracedAtW base e cls a0 Of->s.heap.UpToSlots h'->E (.ref e) { s with heap:=h' }):UO M A (PySem.passOn FK (.ref e) Bz:Sem α) Q E s:=by
 obtain ⟨oe,vs,T,oT,ts,he,BI,hd,h1,F7,GY,hT,D7,h3⟩:=ht;have ID:3<ts.size:=(XM.mp h3).1
 have other:∀ b,b≠T->(s.heap.update T (Obj.mapFields (·.setIfInBounds 3 (Bz.frame.elim V4 fun f=>Yx f)))).get? b=s.heap.get? b :=
  fun b hb=>Yv _ _ (WX hb)
 have Be:∀ b o,s.heap.get? b=some o->(∀ vs,o.data≠.fields vs)->b≠T:=fun b o hb CM q=>by
  rw [q,hT] at hb;injection hb with hb;subst hb;exact CM ts D7
 unfold PySem.passOn;refine Uk (Vz he hd h1 ?_);rw [if_neg (show ¬ ((VT T == V4)=true) from by simp)];refine Uk ?_;unfold setFlight;refine Uk (Vz he hd h1 ?_);rw [if_pos (show (VT T != V4)=true from by simp)]
 refine ZI hT D7 ID (wpAny_throw (h _ (Bz.frame.elim V4 fun f=>Yx f) (fun b o F8=>(other b fun q=>by rw [q,F7] at F8;cases F8).trans (Df b o F8))
  (hl.of_keeps fun b o hb CM=>⟨o,(other b (Be b o hb CM)).trans hb,rfl⟩) ?_ fun b o hb CM=>⟨o.slots,(other b (Be b o hb CM)).trans hb⟩))
 exact ⟨oe,vs,T,_,_,(other e (WX GY)).trans he,BI,hd,h1,F7,GY,ZF _ hT (Obj.isFreed_of_fields (YX D7 _)),YX D7 _,by simp [ID]⟩
theorem funFrames_base {base Dg h:VO} (k:∀ b o,Dg.get? b=some o->base.get? b=some o):∀ {l:List Zp},h.FunFrames base l->h.FunFrames Dg l
 | [],_=>trivial
 | env::_,⟨hk,⟨L,o,hf,hn,ho,hd⟩,hr⟩ =>
   have En:Dg.get? L=none:=by
    cases z:Dg.get? L with
    | none=>rfl
    | some o'=>rw [k L o' z] at hn;cases hn
   ⟨hk,⟨L,o,hf,En,ho,hd⟩,funFrames_base k hr⟩
theorem wR {fs:List Ul} {H H1 H':Hp} {h h1 h2 h':VO} {l:List Ul} {B:VO} (u1:Un fs [] H H1 h h1) (u2:Un l [] H1 H' h1 h2) (hl:∀ b o,h.get? b=some o->b∈l->b∈fs)
 (b1:∀ b o o1,h.get? b=some o->h1.get? b=some o1->b∉l->∃ o',B.get? b=some o'/\(H1 b=none->o'=o1)) (st:B.StaysIn h') (up:∀ b o o2,h.get? b=some o->h2.get? b=some o2->(∀ vs,o2.data≠.fields vs)->∃ sl,h'.get? b=some { o2 with slots:=sl })
 (hf:∀ b∈fs,H b=none/\∃ o,h.get? b=some o/\∀ vs,o.data≠.fields vs) :
 Un fs [] H H' h h'/\∀ b o,h.get? b=some o->b∉fs->∃ o',B.get? b=some o'/\(H b=none->o'=o):=by
 have nx:∀ b:Ul,b∉([]:List Ul):=fun b=>by simp
 have bb:∀ b o,h.get? b=some o->b∉fs->∃ o',B.get? b=some o'/\(H b=none->o'=o):=fun b o q nf=>by
  obtain ⟨o1,e1⟩:=u1.there b o q (nx b);obtain ⟨o',e',g⟩:=b1 b o o1 q e1 fun z=>nf (hl b o q z);refine ⟨o',e',fun n=>?_⟩;have:=u1.keep b o q n nf (nx b);rw [e1] at this;cases this;exact g (u1.free b _ q n (nx b))
 have sl:∀ b o,h.get? b=some o->H b=none->b∈fs->∃ sl,h'.get? b=some { o with slots:=sl }:=fun b o q n m=>by
  obtain ⟨s1,e1⟩:=u1.slot b o q n m (nx b);obtain ⟨s2,e2⟩:=u2.any e1 (u1.free b o q n (nx b)) (nx b);obtain ⟨_,o0,q0,nf⟩:=hf b m;rw [q] at q0;cases q0;obtain ⟨s3,e3⟩:=up b o _ q e2 nf;exact ⟨s3,e3⟩
 refine ⟨⟨fun b o q n nf _=>?_,fun b o q n m _=>sl b o q n m,fun b o q n _=>?_,fun b o q _=>?_,fun b xs q=>u2.tups b xs (u1.tups b xs q),fun b o u q=>u2.frzs b o u (u1.frzs b o u q),fun b ps q=>?_⟩,bb⟩
 · obtain ⟨o',e',g⟩:=bb b o q nf;rw [<- g n];exact st b o' e'
 · obtain ⟨o1,e1⟩:=u1.there b o q (nx b);exact u2.free b o1 e1 (u1.free b o q n (nx b)) (nx b)
 · by_cases m:b∈fs
   · obtain ⟨n,_⟩:=hf b m;obtain ⟨s3,e3⟩:=sl b o q n m;exact ⟨_,e3⟩
   · obtain ⟨o',e',_⟩:=bb b o q m;exact ⟨o',st b o' e'⟩
 · obtain ⟨m1,e1⟩:=u1.tbls b ps q;obtain ⟨m2,e2⟩:=u2.tbls b _ e1;exact ⟨m1++m2,by rw [e2,YH]⟩
theorem xK {h:VO} {a:Ul} {m:UA->Option Um} (n:h.Ns a m):∃ o,h.get? a=some o/\∀ vs,o.data≠.fields vs:=by
 obtain ⟨o,es,ep,ho,hd,_⟩:=n;exact ⟨o,ho,fun vs z=>by rw [hd] at z;cases z⟩
theorem lg {e:Um} {env IE:Zp} (h:env.frame=IE.frame):Zi e env=Zi e IE:=by
 unfold Zi PySem.frameOf;rw [h]
section
variable {P:U1} {w:Vl} {K:Uj} {mg:UA->Option Um} {base:VO} {AJ:List UA} {qual:UA} {scope:Xh} {f:Ul} {cd:Um} {A:Vm} {outer:List Zp} {s₀:Uo} {H₀:Hp} {E:XK}
def eN (X:Cx) (E:XK) (N:List UA) (sc:Xh) (cl:List (UA×Ul)) (C:Ul) (s:Uo) (H:Hp) (fp:List Ul) (pins:List (Ul×Wz)):Cx :=
 { aY X N sc cl C s H fp pins with xe:=fun e s'=>∃ AD AX H1 s1,Inv (aY X N sc cl C s H fp pins) AD AX H1 s1/\CX1 X.prog X.w X.stack H1 s1 E e s' }
theorem Inv.toX {X:Cx} {N:List UA} {sc:Xh} {cl:List (UA×Ul)} {C:Ul} {s:Uo} {H:Hp} {fp:List Ul} {pins AD:List (Ul×Wz)} {AX:St} {H1:Hp} {s1:Uo} (I:Inv (aY X N sc cl C s H fp pins) AD AX H1 s1):Inv (eN X E N sc cl C s H fp pins) AD AX H1 s1 :=
 ⟨⟨I.ok.mod,I.ok.kind,I.ok.glob,I.ok.blt,I.ok.above,I.ok.inj,I.ok.has,I.ok.cab,I.ok.hd,I.ok.frames,I.ok.stk,I.ok.exf,I.ok.bs,I.ok.bsz,I.ok.noex,I.ok.exfs,I.ok.funs,I.ok.frf⟩,I.os,I.bare,I.base,I.loc,I.cell,I.free,I.freeC,I.pin,I.hok,I.len⟩
theorem Inv.ofX {X:Cx} {N:List UA} {sc:Xh} {cl:List (UA×Ul)} {C:Ul} {s:Uo} {H:Hp} {fp:List Ul} {pins AD:List (Ul×Wz)} {AX:St} {H1:Hp} {s1:Uo} (I:Inv (eN X E N sc cl C s H fp pins) AD AX H1 s1):Inv (aY X N sc cl C s H fp pins) AD AX H1 s1 :=
 ⟨⟨I.ok.mod,I.ok.kind,I.ok.glob,I.ok.blt,I.ok.above,I.ok.inj,I.ok.has,I.ok.cab,I.ok.hd,I.ok.frames,I.ok.stk,I.ok.exf,I.ok.bs,I.ok.bsz,I.ok.noex,I.ok.exfs,I.ok.funs,I.ok.frf⟩,I.os,I.bare,I.base,I.loc,I.cell,I.free,I.freeC,I.pin,I.hok,I.len⟩
theorem aaq {X:Cx} {N:List UA} {sc:Xh} {cl:List (UA×Ul)} {C:Ul} {s:Uo} {H:Hp} {fp:List Ul} {pins:List (Ul×Wz)}:Passes (CX1 X.prog X.w) (eN X E N sc cl C s H fp pins) E :=
 fun AD AX H1 s1 e s2 I h=>⟨AD,AX,H1,s1,I.ofX,h⟩
theorem t8 {N:List UA} {sc:Xh} {cl:List (UA×Ul)} {s3:Uo} {H3:Hp} {fp:List Ul} {pins:List (Ul×Wz)} {σ:St} {e:Um} {s2:Uo} {use:Option (Um->Sem Unit)} {Q:Um->Uo->Prop} {acc:Um}
 (I3:Inv (cH (CX1 P w) P w K mg base AJ qual scope f cd A outer s₀ H₀ E) pins σ H3 s3)
 (hf:∀ b∈fp,fk (cH (CX1 P w) P w K mg base AJ qual scope f cd A outer s₀ H₀ E) pins H3 b)
 (h:(eN (cH (CX1 P w) P w K mg base AJ qual scope f cd A outer s₀ H₀ E) E N sc cl s3.heap.objs.size s3 H3 fp pins).xe e s2) :
 notedBy (UZ P w) (cH (CX1 P w) P w K mg base AJ qual scope f cd A outer s₀ H₀ E).A (compEnvC sc cl s3.heap.objs.size (cH (CX1 P w) P w K mg base AJ qual scope f cd A outer s₀ H₀ E).env)
  (fun e s'=>compPost (UZ P w) (cH (CX1 P w) P w K mg base AJ qual scope f cd A outer s₀ H₀ E).A (cH (CX1 P w) P w K mg base AJ qual scope f cd A outer s₀ H₀ E).xe use Q acc s3.heap.objs.size (.error e) s') e s2:=by
 obtain ⟨AD,AX,H1,s1,I1,ea,C0,a0,B,H',rfl,B9,CC,un,hok,DB,b1,b2,q⟩:=h;have I7:Inv (cH (CX1 P w) P w K mg base AJ qual scope f cd A outer s₀ H₀ E) pins σ H1 s1:=I3.call' (ch:=fp) (I1.os.trans rfl) I1.base I1.hok I1.bare fun b hb=>⟨(hf b hb).2.2.2.1,(hf b hb).2.1,(hf b hb).2.2.2.2.1,(hf b hb).2.2.2.2.2⟩;have Og:H1 s3.heap.objs.size=none:=I1.free;obtain ⟨m1,Kd,_⟩:=I1.loc;have Kd:s1.heap.Ns s3.heap.objs.size m1:=Kd;obtain ⟨oC,LN,Oh⟩:=xK Kd
 -- CL Ke names Oi in no frame
 have Oj:s3.heap.objs.size∉frs (W2 qual scope s₀.heap.objs.size f cd::outer):=fun z=>by
  have:=(I3.stack.mem z).2;obtain ⟨o,ho,_⟩:=this;exact absurd (UJ ho) (VC _)
 have Q2:s2.heap.get? s3.heap.objs.size=some oC:=un.keep _ _ LN Og Oj (by simp);have Q3:H' s3.heap.objs.size=none:=un.free _ _ LN Og (by simp);show UO _ _ (Zi (.ref ea) _) _ _ s2;rw [show Zi (.ref ea) (compEnvC sc cl s3.heap.objs.size (cH (CX1 P w) P w K mg base AJ qual scope f cd A outer s₀ H₀ E).env)=Zi (.ref ea) (W2 qual scope s₀.heap.objs.size f cd) from lg rfl];refine wpAny_looks_onW (outer:=outer) (L:=s₀.heap.objs.size) I3.ok.frames rfl DB fun h3 held Ol=>?_;obtain ⟨Q4,Om⟩:=Ol _ _ Q2 Oh;obtain ⟨o0,es,ep,Oo,Lq,r0⟩:=Kd;have LO:h3.Ns s3.heap.objs.size m1:=⟨{ oC with slots:=Q4 },es,ep,Om,by rw [LN] at Oo;cases Oo;exact Lq,r0⟩
 have post:∃ m,h3.Ns s3.heap.objs.size m/\∀ h',WY s3.heap.objs.size h3 h'->∀ Bz:Zp,Bz.locals=s3.heap.objs.size->UO (UZ P w) (cH (CX1 P w) P w K mg base AJ qual scope f cd A outer s₀ H₀ E).A (PySem.passOn "comprehension.variables-let-go" (.ref ea) Bz:Sem Um) (fun _ _=>False) (cH (CX1 P w) P w K mg base AJ qual scope f cd A outer s₀ H₀ E).xe { s2 with heap:=h' }:=by
  refine ⟨m1,LO,fun h4 sb Bz By=>?_⟩;obtain ⟨k1,k2,k3,k4⟩:=held;have hB:∀ b o,(Yi B [s3.heap.objs.size]).get? b=some o->B.get? b=some o:=fun b o z=>of_hideAll _ z
  have Q5:∀ b o,(Yi B [s3.heap.objs.size]).get? b=some o->b≠s3.heap.objs.size:=fun b o z e=>by
   rw [e,hideAll_none _ (UW.mpr rfl)] at z;cases z
  have IF:∀ b o,h3.get? b=some o->b≠s3.heap.objs.size->h4.get? b=some o:=fun b o e n=>(sb.2 b n).trans e;have Q6:(Yi B [s3.heap.objs.size]).StaysIn h4:=fun b o z=>IF b o (k1 b o (hB b o z)) (Q5 b o z)
  have FL:∀ b o vs,h3.get? b=some o->o.data=.fields vs->b≠s3.heap.objs.size:=fun b o vs e d z=>by
   rw [z,Om] at e;cases e;exact Oh vs d
  have Q7:h4.TracedAtW (Yi B [s3.heap.objs.size]) ea (.ref C0) a0 (Yx s₀.heap.objs.size):=by
   obtain ⟨oe,vs,T,oT,ts,he,BI,hd,h1,F7,GY,hT,D7,Q8⟩:=k4;refine ⟨oe,vs,T,oT,ts,IF _ _ he (FL _ _ _ he hd),BI,hd,h1,?_,GY,IF _ _ hT (FL _ _ _ hT D7),D7,Q8⟩;cases z:(Yi B [s3.heap.objs.size]).get? T with
   | none=>rfl
   | some o'=>rw [hB _ _ z] at F7;cases F7
  have Q9:h4.FunFrames (Yi B [s3.heap.objs.size]) (W2 qual scope s₀.heap.objs.size f cd::outer):=by
   refine funFrames_base hB ?_
   have:∀ {l:List Zp},(∀ env∈l,∀ a,env.frame=some a->a≠s3.heap.objs.size)->h3.FunFrames B l->h4.FunFrames B l:=fun {l} hl hh=>by
    induction l with
    | nil=>trivial
    | cons env l ih =>
      obtain ⟨hk,⟨L,o,hf,hn,ho,hd⟩,hr⟩:=hh;exact ⟨hk,⟨L,o,hf,hn,IF _ _ ho (hl env (Uy ..) L hf),hd⟩,ih (fun e he=>hl e (Uv _ he)) hr⟩
   exact this (fun env he a ha z=>Oj (by rw [<- z];exact YG.mpr ⟨env,he,ha⟩)) k3
  refine m5 (s:={ s2 with heap:=h4 }) Q6 Q9 Q7 fun h5 Of DR Ra Rb Ls=>?_
  have IC:(Yi B [s3.heap.objs.size]).get? ea=none:=by
   cases z:(Yi B [s3.heap.objs.size]).get? ea with
   | none=>rfl
   | some o'=>rw [hB _ _ z] at k2;cases k2
  show UO _ _ (leaving _ _) _ _ _;refine iV (s:={ s2 with heap:=h5 }) (outer:=outer) (L:=s₀.heap.objs.size) I3.ok.frames rfl DR IC Ra Rb fun h6 BP Lu=>?_
  have hold:∀ b o,s₀.heap.get? b=some o->b≠s3.heap.objs.size:=fun b o e z=>by
   obtain ⟨o',e'⟩:=I3.base.there b o e (by simp [cH]);exact absurd (UJ e') (by rw [z];exact VC _)
  obtain ⟨U,Ik⟩:=wR (fs:=frs outer) (H:=H₀) (h:=s₀.heap) (l:=frs (W2 qual scope s₀.heap.objs.size f cd::outer)) (B:=Yi B [s3.heap.objs.size]) (h':=h6) I7.base un (fun b o hb z=>by
   rw [o3 (L:=s₀.heap.objs.size) rfl] at z;rcases UH.mp z with rfl | z
   · exact absurd (UJ hb) (VC _)
   · exact z) (fun b o o1 hb h1 nl=>by
     obtain ⟨o',e',g⟩:=b1 b o1 h1 nl;exact ⟨o',hideAll_get _ e' fun z=>hold b o hb (UW.mp z),g⟩) BP.1 (fun b o o2 hb h2 nf=>by
     obtain ⟨TV,e3⟩:=Ol b o2 h2 nf;obtain ⟨TY,e5⟩:=Ls b _ (IF _ _ e3 (hold b o hb)) nf;obtain ⟨Rc,e6⟩:=Lu b _ e5 nf;exact ⟨Rc,e6⟩) (fun b hb=>⟨I3.ok.frf b hb,(I3.ok.funs.mem hb).2⟩)
  have Oq:∀ b u,H' b=some u->∃ o',(Yi B [s3.heap.objs.size]).get? b=some o':=fun b u e=>by
   obtain ⟨o',e'⟩:=b2 b u e;exact ⟨o',hideAll_get _ e' fun z=>by rw [UW.mp z,Q3] at e;cases e⟩
  exact ⟨ea,C0,a0,Yi B [s3.heap.objs.size],H',rfl,B9.trans I7.os,CC,U,lF hok (fun b o z=>DB.1 b o (hB b o z)) BP.1 Oq,BP,Ik,Oq,q⟩
 cases use <;> exact post
end
section
variable {X:Cx} {pins:List (Ul×Wz)} {σ:St} {s:Uo} {H:Hp}
theorem rN {XE:Um->Uo->Prop} {prog:U1} {w:Vl} {A:Vm} {R:Zr->Uo->Prop} {elt target iter:VI} {ifs:List VI} {scope:Xh} {pos:Ym} {it acc:Um} {env:Zp} (J:Nat->Uo->Prop)
 (turn:∀ n s,J n s->UO (UZ prog w) A (ZL it) (fun r Ab=>(r=none/\R (.ok .next) Ab)∨∃ v,r=some v ∧
  UO (UZ prog w) A (YI target it v) (fun _ Bs=>UO (UZ prog w) A (ZP target env v) (fun _ BJ =>
   UO (UZ prog w) A (forIn ifs true fun c r=>if r=true then do let ok ← isTrue c env (WS c env);pure (Wt ok) else pure (Wt r)) (fun ok BL =>
    (ok=false/\∃ m,m<n/\J m BL)∨(ok=true/\UO (UZ prog w) A (WS elt env) (fun x DT=>UO (UZ prog w) A (call (.builtin "list.append") [acc,x]) (fun _ DU=>∃ m,m<n/\J m DU) (fun _ _=>False) DT) XE BL))
    (fun _ _=>False) BJ) (fun _ _=>False) Bs) (fun _ _=>False) Ab) (fun _ _=>False) s)
 (Rf:∀ e s',XE e s'->notedBy (UZ prog w) A env (fun e s'=>R (.error e) s') e s') {s:Uo} (n:Nat) (h:J n s):Yb (UZ prog w) A (.compLoop (.ListComp elt [⟨target,iter,ifs,0⟩] scope pos) 0 it acc env) R s:=by
 refine codeAny_loop rfl J (fun n s hJ=>?_) n h;show UO _ A ((compTurn (.ListComp elt [⟨target,iter,ifs,0⟩] scope pos) 0 it acc env).onRaise _) _ _ s;refine wpAny_noted ?_;rw [compTurn_list];have up:∀ {α:Type} {m:Sem α} {Q:α->Uo->Prop} {E:Um->Uo->Prop} {s:Uo},UO (UZ prog w) A m Q (fun _ _=>False) s->UO (UZ prog w) A m Q E s:=fun q=>VM q (fun _ _ z=>z) fun _ _ z=>z.elim;refine Uk (Zd (Uk (VM (up (turn n s hJ)) (fun r Ab Ap=>?_) fun _ _ z=>z)));rcases Ap with ⟨rfl,Ap⟩ | ⟨v,rfl,Ap⟩
 · exact UE Ap
 · refine Uk (VM (up Ap) (fun _ Bs BG=>?_) fun _ _ z=>z);refine Uk (VM (up BG) (fun _ BJ Cz=>?_) fun _ _ z=>z);refine Uk (VM (up Cz) (fun ok BL Bc=>?_) fun _ _ z=>z);rcases Bc with ⟨rfl,Bc⟩ | ⟨rfl,Bc⟩
   · exact UE ⟨rfl,Bc⟩
   · exact Uk (Uk (VM Bc (fun x DT AR=>Uk (VM (up AR) (fun _ DU FV=>UE (UE ⟨rfl,FV⟩)) fun _ _ z=>z)) fun e s' z=>Rf e s' z))
theorem qE {elt tg iter:VI} {ifs:List VI} {sc:Xh} {pos:Ym} {N:List UA} {js:List (Option Nat)} {g:TG} {tt:TT} {te:TE} {cl:List (UA×Ul)} {fp:List Ul} {it:Ul} {tn:Nat->VO->Prop} {J:It} {n:Nat} {W:Nat->Hp->Prop} {fin:Hp->Prop}
 {E0:XK} {R:Um->Ul->Zr->Uo->Prop} (hc:X.calm=true) (S:dl X sc N js) (I:Inv X pins σ H s) (T:Turn X.prog X.w X.K tg J fp it tn) (st:tn 0 s.heap) (hf:∀ b∈fp,fk X pins H b)
 (By:∀ x c,cl.lookup x=some c->X.env.cells.lookup x=some c) (Dx:∀ n,(n,VN)∈sc.names->∃ c,cl.lookup n=some c)
 (hg:∀ cl C s H fp pins,PG (aY X N sc cl C s H fp pins) tg g) (gk:nJ js g) (ht:∀ cl C s H fp pins,PTs (aY X N sc cl C s H fp pins) ifs tt) (he:∀ cl C s H fp pins,PE (eN X E0 N sc cl C s H fp pins) elt te)
 (w0:W 0 (upd H s.heap.objs.size (.lst []))) (turn:da js g tt te σ J s.heap.objs.size n W fin)
 (hR:∀ C H' s',C≠X.env.locals->s.heap.objs.size<C->(∃ m,s'.heap.Ns C m)->H' C=none->(∀ h' t',WY C s'.heap h'->Inv X pins σ H' { s' with heap:=h',toks:=t' })->fin H'->R (.ref s.heap.objs.size) C (.ok .next) s')
 (hX:∀ s3 H3,Inv X pins σ H3 s3->(∀ b∈fp,fk X pins H3 b)->∀ e s',(eN X E0 N sc cl s3.heap.objs.size s3 H3 fp pins).xe e s'->notedBy (UZ X.prog X.w) X.A (compEnvC sc cl s3.heap.objs.size X.env) (fun e s'=>R (.ref s.heap.objs.size) s3.heap.objs.size (.error e) s') e s') {E:Um->Uo->Prop} :
 UO (UZ X.prog X.w) X.A (newList []) (fun acc BJ=>UO (UZ X.prog X.w) X.A (newFunctionEnv sc X.env.globals cl [] X.env.qual none .none (some X.env)) (fun Bz BL =>
  Yb (UZ X.prog X.w) X.A (.compStart (.ListComp elt [⟨tg,iter,ifs,0⟩] sc pos) 0 (.ref it) acc { Bz with scope:=relabel sc X.env }) (R acc Bz.locals) BL) E BJ) E s:=by
 refine V0 (wpAny_newFunctionEnv S.nocell (by intro y hy;simp at hy) (fun Ap Bp Bq=>?_) S.kind);dsimp only at Bp Bq ⊢;have I3:Inv X pins σ (upd H s.heap.objs.size (.lst [])) { s with heap:=s.heap.push { cls:=.type "list",dict:=none,data:=.seq ([]:List Um).toArray } }:=I.lnew (t':=s.toks) (its:=[]) .nil (by decide)
 have AB:∀ b∈fp,b<s.heap.objs.size:=fun b hb=>by
  obtain ⟨o,ho,_⟩:=T.obj _ _ st b hb;exact UJ ho
 have CA:∀ b o,s.heap.get? b=some o->(s.heap.push { cls:=.type "list",dict:=none,data:=.seq ([]:List Um).toArray }).get? b=some o:=fun b o e=>Up _ e;have AH:(s.heap.push { cls:=.type "list",dict:=none,data:=.seq ([]:List Um).toArray }).objs.size=s.heap.objs.size+1:=Wi ..;generalize HQ:({ s with heap:=s.heap.push { cls:=.type "list",dict:=none,data:=.seq ([]:List Um).toArray } }:Uo)=s3 at I3;have DV:s.heap.push { cls:=.type "list",dict:=none,data:=.seq ([]:List Um).toArray }=s3.heap:=by rw [<- HQ]
 rw [DV] at Bp Bq CA AH;rw [DV];have Lc:∀ t',({ s with heap:=Ap,toks:=t' }:Uo)={ s3 with heap:=Ap,toks:=t' }:=fun t'=>by rw [<- HQ]
 rw [Lc];have CU:∀ b o,s3.heap.get? b=some o->Ap.get? b=some o:=fun b o e=>Bq.extBut b o (Vf (UJ e)) (Up _ e);have Ep:∀ b∈fp,fk X pins (upd H s.heap.objs.size (.lst [])) b:=fun b hb=>⟨by rw [au (Vf (AB b hb))];exact (hf b hb).1,(hf b hb).2⟩;have I4:=pX (t':=s.toks+([]:List (UA×Um)).length) S I3 By Dx Ep (fun b hb=>by rw [AH];exact Wa (AB b hb)) Bp CU;generalize Qm:upd H s.heap.objs.size (.lst [])=H3 at I3 I4 Ep w0;have AG:tn 0 Ap:=T.keep _ _ _ st fun b hb o e=>CU _ _ (CA _ _ e)
 have Bo:∀ {H':Hp},(∀ b∈fp,H' b=none)->∀ b∈fp,fk (aY X N sc cl s3.heap.objs.size s3 H3 fp pins) [] H' b:=fun {H'} hn b hb=>by
  obtain ⟨f0,f1,f2,f3,f4,f5⟩:=hf b hb;refine ⟨hn b hb,fun e=>?_,fun hm=>?_,.inl hb,fun x c e=>f4 x c (By x c e),fun p hp=>f5 p (by simpa [aY] using hp)⟩
  · have e':b=s3.heap.objs.size:=e;have h9:b<s.heap.objs.size:=AB b hb;rw [e',AH] at h9;exact absurd h9 (Nat.not_lt.mpr (Nat.le_succ _))
  · rcases UH.mp (I.stkSub b hm) with e | e
    · exact f1 e
    · exact f2 e
 have loop:Yb (UZ X.prog X.w) X.A (.compLoop (.ListComp elt [⟨tg,iter,ifs,0⟩] sc pos) 0 (.ref it) (.ref s.heap.objs.size) (compEnvC sc cl s3.heap.objs.size X.env)) (R (.ref s.heap.objs.size) s3.heap.objs.size)
  { s3 with heap:=Ap,toks:=s.toks+([]:List (UA×Um)).length }:=by
  refine rN (XE:=(eN X E0 N sc cl s3.heap.objs.size s3 H3 fp pins).xe) (fun k s'=>∃ i H',Inv (aY X N sc cl s3.heap.objs.size s3 H3 fp pins) [] (cσ js σ) H' s'/\tn i s'.heap/\(∀ b∈fp,H' b=none)/\W i H'/\k=n - i) ?_ (fun e s' z=>hX s3 H3 I3 Ep e s' z) n ⟨0,H3,I4,AG,fun b hb=>(Ep b hb).1,w0,rfl⟩;rintro k s5 ⟨i,H5,I5,DR,FO,w5,rfl⟩;rcases turn i H5 w5 with ⟨stop,qn⟩ | ⟨GO,go,step⟩
  · refine thn (T.done (aY X N sc cl s3.heap.objs.size s3 H3 fp pins) rfl rfl rfl hc i [] s5 (cσ js σ) H5 _ I5 (Bo FO) DR stop) fun r s6 ⟨hr,I6⟩=>.inl ⟨hr,?_⟩;have I7:Inv X pins σ H5 s6:=I3.call' (ch:=fp) (I6.os.trans rfl) I6.base I6.hok I6.bare fun b hb=>⟨(hf b hb).2.2.2.1,(hf b hb).2.1,(hf b hb).2.2.2.2.1,(hf b hb).2.2.2.2.2⟩;have HR:H5 s3.heap.objs.size=none:=I6.free;have HS:s3.heap.objs.size≠X.env.locals:=Xc I3.lt;obtain ⟨m6,Ld,_⟩:=I6.loc;refine hR s3.heap.objs.size H5 s6 HS (by omega) ⟨m6,Ld⟩ HR (fun h' t' sb=>?_) qn;refine I7.turned (it:=s3.heap.objs.size) (fun b o hb e=>sb.extBut b o hb e) HR HS (.inr I3.sz) (fun x c e z=>?_) fun p hp z=>?_
    · obtain ⟨v,q⟩:=I3.cell x c e;exact absurd q.lt (by rw [z];exact VC _)
    · exact absurd (UJ (I3.pin p hp).1) (by rw [z];exact VC _)
  · refine thn (T.item (aY X N sc cl s3.heap.objs.size s3 H3 fp pins) rfl rfl rfl hc i [] s5 (cσ js σ) H5 _ I5 (Bo FO) DR go) fun r s6 ⟨u,hr,h6⟩=>.inr ⟨u,hr,?_⟩;refine thn h6 fun _ s7 ⟨x,H7,I7,r7,y7,FW,Le⟩=>?_;have Lf:=I7.pinned (Bo Le) (T.obj _ _ FW);refine thn (hg cl s3.heap.objs.size s3 H3 fp pins _ s7 (cσ js σ) H7 x u _ Lf r7 (gk σ (cσ js σ) x H7 _ (.refl _) (step x H7 y7))) fun _ s8 ⟨CW,H8,I8,k8,q8⟩=>?_;refine thn (ht cl s3.heap.objs.size s3 H3 fp pins _ s8 CW H8 _ I8 q8) fun ok s9 ⟨H9,I9,q9⟩=>?_
    have again:∀ {s':Uo} {f':St} {H':Hp},Keep (cσ js σ) f'->Inv (aY X N sc cl s3.heap.objs.size s3 H3 fp pins) ([]++iJ fp s7.heap) f' H' s'->W (i+1) H'->∃ m,m<n - i/\∃ i H',Inv (aY X N sc cl s3.heap.objs.size s3 H3 fp pins) [] (cσ js σ) H' s'/\tn i s'.heap/\(∀ b∈fp,H' b=none)/\W i H'/\m=n - i:=fun {s' f' H'} kp I' w'=>by
     refine ⟨n - (i+1),by omega,i+1,H',(I'.unpinned).weak kp.1 kp.2,T.keep _ _ _ FW fun b hb o e=>(I'.pin (b,o) (UU _ (UU _ (cA hb e)))).1,fun b hb=>?_,w',rfl⟩;obtain ⟨o,e,d⟩:=T.obj _ _ FW b hb;exact (I'.pin (b,o) (UU _ (UU _ (cA hb e)))).2.1
    cases ok with
    | false =>
      refine .inl ⟨rfl,again k8 I9 ?_⟩;have HU:if false=true then _ else W (i+1) H9:=q9
      rw [if_neg UN] at HU;exact HU
    | true =>
      refine .inr ⟨rfl,?_⟩;rw [if_pos rfl] at q9;refine VM (he cl s3.heap.objs.size s3 H3 fp pins _ s9 CW H9 _ I9.toX q9) (fun vv Lg ⟨v,Lh,LP,rv,ys,hD,HV,Lj⟩=>?_) fun _ _ z=>z;have Li:=LP.ofX;refine thn (bf _ Lg CW Lh (.ref s.heap.objs.size) [v] (.ref s.heap.objs.size) [vv] (fun _ H'=>W (i+1) H') Li rfl (.cons rv .nil) ⟨_,ys,v,rfl,rfl,hD,HV,Lj⟩) fun _ Qn ⟨_,Qo,Lk,_,Ll⟩=>?_;exact again k8 Lk Ll
 exact codeAny_compStart_list loop (T.self X.A 0 _ _ _ AG loop)
end
section
variable {P:U1} {w:Vl} {K:Uj} {mg:UA->Option Um} {base:VO} {AJ:List UA} {qual:UA} {scope:Xh} {f:Ul} {cd:Um} {A:Vm} {outer:List Zp} {s₀:Uo} {H₀:Hp} {E:XK}
theorem wf {elt tg iter:VI} {ifs:List VI} {sc:Xh} {pos:Ym} {N:List UA} {js:List (Option Nat)} {wi:TI} {g:TG} {tt:TT} {te:TE} (S:dl (cH (CX1 P w) P w K mg base AJ qual scope f cd A outer s₀ H₀ E) sc N js) (hi:PI (cH (CX1 P w) P w K mg base AJ qual scope f cd A outer s₀ H₀ E) tg iter wi)
 (hg:∀ cl C s H fp pins,PG (aY (cH (CX1 P w) P w K mg base AJ qual scope f cd A outer s₀ H₀ E) N sc cl C s H fp pins) tg g) (gk:nJ js g) (ht:∀ cl C s H fp pins,PTs (aY (cH (CX1 P w) P w K mg base AJ qual scope f cd A outer s₀ H₀ E) N sc cl C s H fp pins) ifs tt) (he:∀ cl C s H fp pins,PE (eN (cH (CX1 P w) P w K mg base AJ qual scope f cd A outer s₀ H₀ E) E N sc cl C s H fp pins) elt te)
 (hs:∀ x,Ys iter (cH (CX1 P w) P w K mg base AJ qual scope f cd A outer s₀ H₀ E).env x=pure x:=by intro _;rfl):PE (cH (CX1 P w) P w K mg base AJ qual scope f cd A outer s₀ H₀ E) (.ListComp elt [⟨tg,iter,ifs,0⟩] sc pos) (qo js wi g tt te):=by
 intro pins s σ H Q I h;obtain ⟨cl,e1,e2,e3⟩:=iC (env:=(cH (CX1 P w) P w K mg base AJ qual scope f cd A outer s₀ H₀ E).env) (sc:=sc) fun n hn=>I.ok.has n (S.frees _ hn rfl);rw [eval_ListComp];refine Zf (use:=none) rfl hs e1 S.kind S.names (thn (hi pins s σ H _ I h) fun v s1 h1=>thn h1 fun HB s2 h2=>?_);obtain ⟨it,fp,tn,J,H2,rfl,I2,T,EG,f2,R2⟩:=h2;obtain ⟨n,W,w0,turn⟩:=R2 s2.heap.objs.size I2.fresh;refine qE (R:=fun acc C=>compPost (UZ P w) (cH (CX1 P w) P w K mg base AJ qual scope f cd A outer s₀ H₀ E).A (cH (CX1 P w) P w K mg base AJ qual scope f cd A outer s₀ H₀ E).xe none (EP (cH (CX1 P w) P w K mg base AJ qual scope f cd A outer s₀ H₀ E) pins σ Q) acc C) rfl S I2 T EG f2 e2 e3 hg gk ht he w0 turn (fun C H' s' _ _ hn _ inv fi=>?_) fun s3 H3 I3 Ep e s' z=>t8 I3 Ep z;obtain ⟨m,hm⟩:=hn;exact ⟨m,hm,fun h' sb=>⟨.ref s2.heap.objs.size,H',inv h' s'.toks sb,rfl,fi⟩⟩
end
end L2
namespace BB
open PySem L2
theorem jM {n:UA} (h:aS n=true):(∀ c∈sL n,97<=c/\c<=122)/\n.length<=8/\n.length≠0:=by
 unfold aS low at h;obtain ⟨h1,h2⟩:=Vv _ _ |>.mp h;have h3:=of_decide_eq_true h1;exact ⟨fun c hc=>of_decide_eq_true (Vo.mp h2 c hc),h3.2,by omega⟩
mutual
/-- names FJ are names,Kf of at most three figures -/
def Th.Wr:Th->Prop
 | .knot n ts=>aS n=true/\Wrs ts
 | .call s k=>(0<=s/\s<1000)/\0<=k/\k<1000
def Wrs:List Th->Prop
 | []=>True
 | t::ts=>t.Wr/\Wrs ts
end
theorem Wrs.mem:∀ {ts:List Th},Wrs ts->∀ t∈ts,t.Wr
 | [],_,t,ht=>by cases ht
 | u::us,h,t,ht=>by
   rw [Wrs] at h;rcases UH.mp ht with rfl | ht
   · exact h.1
   · exact Wrs.mem h.2 t ht
theorem cF {n:Int} (h:0<=n/\n<1000):(aV n).length<=3:=by
 obtain ⟨m,rfl⟩:=Xq h.1;have:=oK m (by omega);unfold isNum at this;rw [Vv,Vv] at this;exact (of_decide_eq_true this.1.1).2
theorem qQ {n:Int} (h:0<=n/\n<1000):n.natAbs.log2<1920:=by
 have:n.natAbs.log2<=n.natAbs:=Nat.log2_le_self _;omega
mutual
theorem vf:∀ {t:Th},t.Wr->(t.fill cn).Nm 8
 | .knot n ts,h=>by
   rw [Th.Wr] at h;rw [Th.fill,Th.Nm];exact ⟨(jM h.1).2.1,rL h.2⟩
 | .call s k,h=>by
   rw [Th.Wr] at h;rw [Th.fill,cn,Th.Nm,Nms];have h1:=cF h.1;have h2:=cF h.2;refine ⟨?_,trivial⟩;unfold wu;rw [UM,UM];show (aV s).length+1+(aV k).length<=8;omega
theorem rL:∀ {ts:List Th},Wrs ts->Nms 8 (fills cn ts)
 | [],_=>by rw [fills,Nms];trivial
 | t::ts,h=>by
   rw [Wrs] at h;rw [fills,Nms];exact ⟨vf h.1,rL h.2⟩
end
mutual
theorem kg:∀ t:Th,(t.fill cn).size=t.size
 | .knot n ts=>by rw [Th.fill,Th.size,Th.size,iN ts]
 | .call s k=>by rw [Th.fill,cn,Th.size,Th.size,aC]
theorem iN:∀ ts:List Th,aC (fills cn ts)=aC ts
 | []=>by rw [fills]
 | t::ts=>by rw [fills,aC,aC,kg t,iN ts]
end
theorem pe {t:Th} (h:t.Wr) (hz:t.size<=1000):(t.fill cn).show.length<=11000:=by
 have h1:=Th.show_le (t.fill cn) (vf h);rw [kg] at h1;have:=WM (8+3) hz;omega
theorem qC:∀ ts:List Th,ts.length<=aC ts
 | []=>Vh _
 | t::ts=>by
   rw [Ui,aC];have h1:=qC ts;cases t with
   | knot n us=>rw [Th.size];omega
   | call s k=>rw [Th.size];omega
end BB
namespace L2
open PySem PySem.Spec PySem.Calls PyProof.Rows BB
end L2
namespace L2
open PySem PySem.Spec PySem.SeqAt PyProof.Rows BB
section
variable {X:Cx} {pins:List (Ul×Wz)} {σ:St} {H:Hp} {s:Uo}
end
end L2
namespace BB
open PySem L2
mutual
def Th.tx:Th->List Nat
 | .knot n ts=>sL n++(if ts=[] then [] else 40::(txs ts++[41]))
 | .call s k=>sL (aV s)++46::sL (aV k)
def txs:List Th->List Nat
 | []=>[]
 | t::ts=>t.tx++(if ts=[] then [] else 44::txs ts)
end
theorem vo (s k:Int):sL (wu s k)=sL (aV s)++46::sL (aV k):=by
 unfold wu;rw [eH,eH,sI,U2];rfl
mutual
theorem x9:∀ t:Th,((t.fill cn).wT.map sL).flatten=t.tx
 | .call s k=>by
   rw [Th.fill,cn,Th.wT,if_pos rfl,Th.tx];show sL (wu s k)++[]=_;rw [UY,vo]
 | .knot n ts=>by
   rw [Th.fill,Th.wT,Th.tx,UB,U4];congr 1;by_cases hz:ts=[]
   · rw [if_pos hz,if_pos (gQ.mpr hz)];rfl
   · rw [if_neg hz,if_neg (fun z=>hz (gQ.mp z)),UB,U4,UC,WO,vD ts,oB];show [40]++(txs ts++(sL rpar++[]))=_;rw [oq];rfl
theorem vD:∀ ts:List Th,((wTs (fills cn ts)).map sL).flatten=txs ts
 | []=>by rw [fills,wTs,txs];rfl
 | t::ts=>by
   rw [fills,wTs,txs,UC,WO,x9 t];congr 1;by_cases hz:ts=[]
   · rw [if_pos hz,if_pos (gQ.mpr hz)];rfl
   · rw [if_neg hz,if_neg (fun z=>hz (gQ.mp z)),UB,U4,vD ts,mC];rfl
end
theorem tZ (t:Th):sL (t.fill cn).show=t.tx:=by rw [tW _ (pP t),x9]
theorem dt {n:Int} (h:0<=n/\n<1000):(∀ c∈sL (aV n),48<=c/\c<=57)/\sL (aV n)≠[]:=by
 obtain ⟨m,rfl⟩:=Xq h.1;have:=oK m (by omega);unfold isNum at this;rw [Vv,Vv,Vo] at this;obtain ⟨⟨h1,h2⟩,_⟩:=this;refine ⟨fun c hc=>of_decide_eq_true (h2 c hc),fun z=>?_⟩;have h1:=(of_decide_eq_true h1).1;rw [<- fu,z] at h1;exact absurd h1 (by decide)
theorem dZ {n:UA} (h:aS n=true):(∀ c∈sL n,97<=c/\c<=122)/\sL n≠[]:=by
 obtain ⟨h1,_,h3⟩:=jM h;exact ⟨h1,fun e=>h3 (by rw [<- fu,e];rfl)⟩
mutual
theorem uU:∀ {t:Th},t.Wr->∀ (l:List Nat),Nx l->scW [] ((t.tx++l).flatMap sp4)=t.wP.map sL++scW [] (l.flatMap sp4)
 | .call s k,h,l,hl=>by
   rw [Th.Wr] at h;obtain ⟨a1,a2⟩:=dt h.1;obtain ⟨b1,b2⟩:=dt h.2;rw [Th.tx,sw (fun c hc=>by have:=a1 c hc;omega) a2 (fun c hc=>by have:=b1 c hc;omega) b2 l hl,Th.wP,Th.stP];rfl
 | .knot n ts,h,l,hl=>by
   rw [Th.Wr] at h;obtain ⟨Rg,Au⟩:=dZ h.1;have ER:∀ c∈sL n,47<=c:=fun c hc=>by have:=Rg c hc;omega
   have GW:∀ c∈sL n,c≠32:=fun c hc=>by have:=ER c hc;omega
   rw [Th.tx,Th.wP,Th.stP];by_cases hz:ts=[]
   · rw [if_pos hz,if_pos hz,UY,XW,jk ER,iY _ _ _ GW,Vs,wc Au hl];rfl
   · rw [if_neg hz,if_neg hz,U2,Va,U2,XW,jk ER,iY _ _ _ GW,Vs,gS _ _ (.inl rfl),wx h.2 hz ([41]++l) (.inr ⟨41,l,rfl,.inr (.inl rfl)⟩)];rw [Va,Vs,gS _ _ (.inr (.inl rfl))];have he:em (sL n)=[sL n]:=by unfold em;rw [if_neg Au]
     rw [he];simp only [UB,U4,UC,WO,Wm,List.flatten_nil,UY,Va,Vs,U2,oB,oq];rfl
theorem wx:∀ {ts:List Th},Wrs ts->ts≠[]->∀ (l:List Nat),Nx l->scW [] ((txs ts++l).flatMap sp4)=(((dX ts).map (·.1)).flatten).map sL++scW [] (l.flatMap sp4)
 | [],_,hn,_,_=>absurd rfl hn
 | t::ts,h,_,l,hl=>by
   rw [Wrs] at h;rw [txs,dX];by_cases hz:ts=[]
   · rw [if_pos hz,if_pos hz,UY,UY,uU h.1 l hl];rfl
   · rw [if_neg hz,if_neg hz,U2,Va,uU h.1 _ (.inr ⟨44,_,rfl,.inr (.inr rfl)⟩),gS _ _ (.inr (.inr (.inl rfl))),wx h.2 hz l hl];simp only [UB,U4,UC,WO,Va,Vs,U2,mC];rfl
end
theorem yg {t:Th} (h:t.Wr):W4 t.tx=t.wP.map sL:=by
 have:=uU h [] (.inl rfl);rw [UY] at this;rw [zG,this];show _++em []=_;exact UY _
mutual
theorem vI:∀ {t:Th},t.Wr->∀ c∈t.tx,40<=c/\c<=122
 | .call s k,h,c,hc=>by
   rw [Th.Wr] at h;rw [Th.tx] at hc;rcases UP.mp hc with hc | hc
   · have:=(dt h.1).1 c hc;omega
   · rcases UH.mp hc with rfl | hc
     · omega
     · have:=(dt h.2).1 c hc;omega
 | .knot n ts,h,c,hc=>by
   rw [Th.Wr] at h;rw [Th.tx] at hc;rcases UP.mp hc with hc | hc
   · have:=(dZ h.1).1 c hc;omega
   · by_cases hz:ts=[]
     · rw [if_pos hz] at hc;cases hc
     · rw [if_neg hz] at hc;rcases UH.mp hc with rfl | hc
       · omega
       · rcases UP.mp hc with hc | hc
         · exact vQ h.2 c hc
         · rw [UW.mp hc];omega
theorem vQ:∀ {ts:List Th},Wrs ts->∀ c∈txs ts,40<=c/\c<=122
 | [],_,c,hc=>by rw [txs] at hc;cases hc
 | t::ts,h,c,hc=>by
   rw [Wrs] at h;rw [txs] at hc;rcases UP.mp hc with hc | hc
   · exact vI h.1 c hc
   · by_cases hz:ts=[]
     · rw [if_pos hz] at hc;cases hc
     · rw [if_neg hz] at hc;rcases UH.mp hc with rfl | hc
       · omega
       · exact vQ h.2 c hc
end
def Uw (w:UA):Prop:=(w=lpar∨w=rpar∨w=comma∨w=dot)∨((∀ c∈sL w,47<=c/\c<=122)/\sL w≠[])
theorem tG {w:UA} (h:Uw w):(∀ c∈sL w,40<=c/\c<=122)/\sL w≠[]:=by
 rcases h with (rfl | rfl | rfl | rfl) | ⟨h1,h2⟩
 · decide +kernel
 · decide +kernel
 · decide +kernel
 · decide +kernel
 · exact ⟨fun c hc=>by have:=h1 c hc;omega,h2⟩
theorem tf {w:UA} (h:Uw w):wds (sL w)=[sL w]:=by
 obtain ⟨h1,h2⟩:=tG h;exact pY (fun c hc=>by have:=h1 c hc;omega) h2
theorem xo {n:UA} (h:aS n=true):Uw n:=by
 obtain ⟨h1,h2⟩:=dZ h;exact .inr ⟨fun c hc=>by have:=h1 c hc;omega,h2⟩
theorem yG {n:Int} (h:0<=n/\n<1000):Uw (aV n):=by
 obtain ⟨h1,h2⟩:=dt h;exact .inr ⟨fun c hc=>by have:=h1 c hc;omega,h2⟩
mutual
theorem xS:∀ {t:Th},(∀ x∈t.stP.map (·.2),SOk x)->t.Wr
 | .call s k,h=>by
   rw [Th.stP] at h;rw [Th.Wr];exact h (.th (.call s k)) (Uy ..)
 | .knot n ts,h=>by
   rw [Th.stP,UB] at h;rw [Th.Wr];refine ⟨(h _ (Uy ..)).2,?_⟩;by_cases hz:ts=[]
   · rw [hz,Wrs];trivial
   · rw [if_neg hz,UB,UC] at h;exact v9 fun x hx=>h x (Uv _ (Uv _ (VH _ hx)))
theorem v9:∀ {ts:List Th},(∀ x∈(dX ts).map (·.2),SOk x)->Wrs ts
 | [],_=>by rw [Wrs];trivial
 | t::ts,h=>by
   rw [dX,UC] at h;rw [Wrs];refine ⟨xS fun x hx=>h x (VH _ hx),?_⟩;by_cases hz:ts=[]
   · rw [hz,Wrs];trivial
   · rw [if_neg hz,UB] at h;exact v9 fun x hx=>h x (UU _ (Uv _ hx))
end
mutual
theorem yh:∀ {t:Th},t.Wr->∀ x∈t.stP.map (·.2),SOk x
 | .call s k,h,x,hx=>by
   rw [Th.Wr] at h;rw [Th.stP] at hx;rw [UW.mp hx];exact h
 | .knot n ts,h,x,hx=>by
   rw [Th.Wr] at h;rw [Th.stP,UB] at hx;rcases UH.mp hx with rfl | hx
   · exact ⟨rfl,h.1⟩
   · by_cases hz:ts=[]
     · rw [if_pos hz] at hx;cases hx
     · rw [if_neg hz,UB,UC] at hx;rcases UH.mp hx with rfl | hx
       · exact .inl rfl
       · rcases UP.mp hx with hx | hx
         · exact vd h.2 x hx
         · rw [UW.mp hx];exact .inr (.inr rfl)
theorem vd:∀ {ts:List Th},Wrs ts->∀ x∈(dX ts).map (·.2),SOk x
 | [],_,x,hx=>by rw [dX] at hx;cases hx
 | t::ts,h,x,hx=>by
   rw [Wrs] at h;rw [dX,UC] at hx;rcases UP.mp hx with hx | hx
   · exact yh h.1 x hx
   · by_cases hz:ts=[]
     · rw [if_pos hz] at hx;cases hx
     · rw [if_neg hz,UB] at hx;rcases UH.mp hx with rfl | hx
       · exact .inr (.inl rfl)
       · exact vd h.2 x hx
end
def io {α:Type} (f:Int->UA->Th->α) (ins:List (UA×Int)) (rows:List (List Th)):List α:=(rows.zipIdx.map fun z=>(ins.zip z.1).map fun y=>f (z.2:Nat) y.1.1 y.2).flatten
theorem nU {α:Type} {n:Nat}:∀ {L:List (List α)} {s j:Nat} {l:List α} {x:α},(∀ l∈L,l.length=n)->L[s]?=some l->l[j]?=some x->L.flatten[s * n+j]?=some x
 | [],s,j,l,x,_,h,_=>by cases h
 | m::L,0,j,l,x,hn,h,hx=>by
   cases h;rw [Nat.zero_mul,Xv,U4,W0 (Uz.mp hx).1];exact hx
 | m::L,s+1,j,l,x,hn,h,hx=>by
   have hm:=hn m (Uy ..);rw [U4,Wn (by rw [hm,WA];omega),hm,show (s+1) * n+j - n=s * n+j by rw [WA];omega];exact nU (fun l hl=>hn l (Uv _ hl)) h hx
theorem ny {α:Type} {n:Nat}:∀ {L:List (List α)},(∀ l∈L,l.length=n)->L.flatten.length=L.length * n
 | [],_=>by rw [W7,Nat.zero_mul];rfl
 | m::L,hn=>by
   rw [U4,Uu,hn m (Uy ..),ny fun l hl=>hn l (Uv _ hl),Ui,WA];omega
section
variable {α β:Type} {f:Int->UA->Th->α} {ins:List (UA×Int)} {rows:List (List Th)}
theorem l6 (h:∀ row∈rows,row.length=ins.length):∀ l∈(rows.zipIdx.map fun z=>(ins.zip z.1).map fun y=>f (z.2:Nat) y.1.1 y.2),l.length=ins.length:=fun l hl=>by
 obtain ⟨z,hz,rfl⟩:=Vq.mp hl
 have hm:z.1∈rows:=by
  obtain ⟨a,b⟩:=z;exact (List.mem_zipIdx' hz).2 ▸ List.getElem_mem _
 rw [Ue,X8,h z.1 hm,Nat.min_self]
theorem jF (h:∀ row∈rows,row.length=ins.length):(io f ins rows).length=rows.length * ins.length:=by
 unfold io;rw [ny (l6 h),Ue,List.length_zipIdx]
theorem nP (h:∀ row∈rows,row.length=ins.length) {s j:Nat} {row:List Th} {t:Th} {k:UA×Int} (hr:rows[s]?=some row) (ht:row[j]?=some t) (hk:ins[j]?=some k):(io f ins rows)[s * ins.length+j]?=some (f (s:Nat) k.1 t):=by
 unfold io;refine nU (l:=(ins.zip row).map fun y=>f (s:Nat) y.1.1 y.2) (l6 h) ?_ ?_
 · rw [Ut,List.getElem?_zipIdx,hr];simp
 · rw [Ut,WZ.mpr (show ins[j]?=some (k,t).1/\row[j]?=some (k,t).2 from ⟨hk,ht⟩)];rfl
theorem vy (h:∀ row∈rows,row.length=ins.length) (hn:0<ins.length) {i:Nat} {x:α} (hx:(io f ins rows)[i]?=some x):∃ row t k,rows[i / ins.length]?=some row/\row[i%ins.length]?=some t/\ins[i%ins.length]?=some k/\x=f ((i / ins.length:Nat):Int) k.1 t:=by
 have BQ:=(Uz.mp hx).1;rw [jF h] at BQ;have hs:i / ins.length<rows.length:=Zl (by rw [XO];exact BQ);have hj:i%ins.length<ins.length:=Nat.mod_lt _ hn;obtain ⟨row,Ad⟩:∃ row,rows[i / ins.length]?=some row:=⟨_,Uh hs⟩;have B7:=h row (Ur Ad);obtain ⟨t,ht⟩:∃ t,row[i%ins.length]?=some t:=⟨_,Uh (by omega)⟩;obtain ⟨k,hk⟩:∃ k,ins[i%ins.length]?=some k:=⟨_,Uh hj⟩;refine ⟨row,t,k,Ad,ht,hk,?_⟩;have hg:=nP (f:=f) h Ad ht hk;rw [XO,Nat.div_add_mod,hx] at hg;exact UD hg
end
end BB
namespace BB
open PySem L2
def aut (s:Nat×Nat) (w:UA):Option (Nat×Nat) :=
 if w=lpar then (if s.1=1 then some (0,s.2+1) else none)
 else if w=rpar then (if (s.1=1∨s.1=4)/\s.2≠0 then some (4,s.2 - 1) else none)
 else if w=comma then (if (s.1=1∨s.1=4)/\s.2≠0 then some (0,s.2) else none)
 else if w=dot then (if s.1=2 then some (3,s.2) else none)
 else if aS w=true then (if s.1=0 then some (1,s.2) else none)
 else if isNum w=true then (if s.1=0 then some (2,s.2) else if s.1=3 then some (4,s.2) else none)
 else none
def dj:Nat×Nat->List UA->Option (Nat×Nat)
 | s,[]=>some s
 | s,w::ws=>(aut s w).bind fun s'=>dj s' ws
theorem mV:∀ (a b:List UA) (s:Nat×Nat),dj s (a++b)=(dj s a).bind fun s'=>dj s' b
 | [],b,s=>rfl
 | w::a,b,s=>by
   rw [Va,dj,dj];cases aut s w with
   | none=>rfl
   | some s'=>exact mV a b s'
theorem zY:sL lpar=[40]/\sL rpar=[41]/\sL comma=[44]/\sL dot=[46]:=⟨oB,oq,mC,sI⟩
theorem xY {w:UA} (h:∀ c∈sL w,47<=c) (Au:sL w≠[]):w≠lpar/\w≠rpar/\w≠comma/\w≠dot:=by
 obtain ⟨s1,s2,s3,s4⟩:=zY;refine ⟨fun z=>?_,fun z=>?_,fun z=>?_,fun z=>?_⟩
 · rw [z,s1] at h;exact absurd (h 40 (by simp)) (by decide)
 · rw [z,s2] at h;exact absurd (h 41 (by simp)) (by decide)
 · rw [z,s3] at h;exact absurd (h 44 (by simp)) (by decide)
 · rw [z,s4] at h;exact absurd (h 46 (by simp)) (by decide)
theorem vz {n:UA} (h:aS n=true) (d:Nat):aut (0,d) n=some (1,d):=by
 obtain ⟨h1,h2⟩:=dZ h;obtain ⟨n1,n2,n3,n4⟩:=xY (fun c hc=>by have:=h1 c hc;omega) h2;unfold aut;rw [if_neg n1,if_neg n2,if_neg n3,if_neg n4,if_pos h,if_pos rfl]
theorem ma {n:Int} (h:0<=n/\n<1000):aS (aV n)≠true/\isNum (aV n)=true:=by
 obtain ⟨h1,h2⟩:=dt h;refine ⟨fun z=>?_,?_⟩
 · cases e:sL (aV n) with
   | nil=>exact h2 e
   | cons c l =>
     have a:=h1 c (by rw [e];exact Uy ..);have b:=(dZ z).1 c (by rw [e];exact Uy ..);omega
 · obtain ⟨m,rfl⟩:=Xq h.1;exact oK m (by omega)
theorem tB {n:Int} (h:0<=n/\n<1000) (d:Nat):aut (0,d) (aV n)=some (2,d)/\aut (3,d) (aV n)=some (4,d):=by
 obtain ⟨h1,h2⟩:=dt h;obtain ⟨n1,n2,n3,n4⟩:=xY (fun c hc=>by have:=h1 c hc;omega) h2;obtain ⟨n5,n6⟩:=ma h;unfold aut;rw [if_neg n1,if_neg n2,if_neg n3,if_neg n4,if_neg n5,if_pos n6,if_pos rfl,if_neg n1,if_neg n2,if_neg n3,if_neg n4,if_neg n5,if_pos n6,if_neg (show ¬ (3,d).1=0 from fun z=>absurd (show (3:Nat)=0 from z) (by decide)),if_pos rfl];exact ⟨rfl,rfl⟩
theorem xB:rpar≠lpar/\comma≠lpar/\comma≠rpar/\dot≠lpar/\dot≠rpar/\dot≠comma:=by decide +kernel
theorem wY (d:Nat):aut (2,d) dot=some (3,d):=by
 obtain ⟨_,_,_,a,b,c⟩:=xB;unfold aut;rw [if_neg a,if_neg b,if_neg c,if_pos rfl,if_pos rfl]
theorem u6 (d:Nat):aut (1,d) lpar=some (0,d+1):=by
 unfold aut;rw [if_pos rfl,if_pos rfl]
theorem vM {q:Nat} (hq:q=1∨q=4) (d:Nat):aut (q,d+1) rpar=some (4,d):=by
 unfold aut;rw [if_neg xB.1,if_pos rfl,if_pos ⟨hq,by simp⟩];rfl
theorem ud {q:Nat} (hq:q=1∨q=4) (d:Nat):aut (q,d+1) comma=some (0,d+1):=by
 unfold aut;rw [if_neg xB.2.1,if_neg xB.2.2.1,if_pos rfl,if_pos ⟨hq,by simp⟩]
mutual
theorem tR:∀ {t:Th},t.Wr->∀ d,∃ q,(q=1∨q=4)/\dj (0,d) t.wP=some (q,d)
 | .call s k,h,d=>by
   rw [Th.Wr] at h;have e:(Th.call s k).wP=[aV s,dot,aV k]:=by rw [Th.wP,Th.stP];rfl
   refine ⟨4,.inr rfl,?_⟩;rw [e,dj,(tB h.1 d).1];show dj (2,d) [dot,aV k]=_;rw [dj,wY];show dj (3,d) [aV k]=_;rw [dj,(tB h.2 d).2];rfl
 | .knot n ts,h,d=>by
   rw [Th.Wr] at h;rw [Th.wP,Th.stP,UB,U4];show ∃ q,_/\dj (0,d) (n::_)=_;rw [dj,vz h.1];show ∃ q,_/\dj (1,d) _=_;by_cases hz:ts=[]
   · rw [if_pos hz];exact ⟨1,.inl rfl,rfl⟩
   · rw [if_neg hz,UB,U4,UC,WO];show ∃ q,_/\dj (1,d) (lpar::_)=_;rw [dj,u6];show ∃ q,_/\dj (0,d+1) (((dX ts).map (·.1)).flatten++[rpar])=_;obtain ⟨q,hq,e⟩:=qK h.2 hz d;rw [mV,e];refine ⟨4,.inr rfl,?_⟩;show dj (q,d+1) [rpar]=_;rw [dj,vM hq];rfl
theorem qK:∀ {ts:List Th},Wrs ts->ts≠[]->∀ d,∃ q,(q=1∨q=4)/\dj (0,d+1) ((dX ts).map (·.1)).flatten=some (q,d+1)
 | [],_,hn,_=>absurd rfl hn
 | t::ts,h,_,d=>by
   rw [Wrs] at h;rw [dX,UC,WO];obtain ⟨q,hq,e⟩:=tR h.1 (d+1);rw [mV];show ∃ q,_/\(dj (0,d+1) t.wP).bind _=_;rw [e];show ∃ q',_/\dj (q,d+1) _=_;by_cases hz:ts=[]
   · rw [if_pos hz];exact ⟨q,hq,rfl⟩
   · rw [if_neg hz,UB,U4];show ∃ q',_/\dj (q,d+1) (comma::_)=_;rw [dj,ud hq];exact qK h.2 hz d
end
def n9 (ws:List UA):Bool:=dj (0,0) ws == some (1,0) || dj (0,0) ws == some (4,0)
theorem pU {t:Th} (h:t.Wr):n9 t.wP=true:=by
 obtain ⟨q,hq,e⟩:=tR h 0;unfold n9;rw [e];rcases hq with rfl | rfl <;> rfl
end BB
namespace L2
open PySem PySem.Spec PySem.Calls PyProof.Rows BB
open PySem.Builtin PySem.Builtin.Str
section
variable {X:Cx} {st:V5} {rest:List V5} {t u:TS}
end
end L2
namespace L2
open PySem PySem.Spec PySem.SeqAt PyProof.Rows BB
end L2
namespace LAW
open PySem L2 BB
def top (i:Nat):V5:=PySem.Challenge.pw_boughbook_k32_texts_of_no_book.main.body.getD i (.Pass ⟨0,0,0,0⟩)
theorem scm {N P:List UA} {sc:Xh} (a:sc.kind=.function:=by rfl) (b:sc.isCoroutine=false:=by rfl) (c:sc.isGenerator=false:=by rfl) (d:N.Nodup:=by decide +kernel) (e:N.take P.length=P:=by rfl) (f:∀ x∈P,sc.names.lookup x=some .local∨sc.names.lookup x=some .cell:=by decide +kernel) (g:∀ y∈sc.names,y.2≠.free:=by decide +kernel):aF N P sc:=⟨a,b,c,d,e,f,g⟩
abbrev gJ:V5:=top 10
theorem o4:aF ["thing"] ["thing"] (am gJ):=scm
abbrev iP:V5:=top 11
theorem pR:aF ["number","bound"] ["number","bound"] (am iP):=scm
abbrev jN:V5:=top 12
theorem sP:aF ["thing"] ["thing"] (am jN):=scm
abbrev jS:V5:=top 13
theorem rJ:aF ["pair"] ["pair"] (am jS):=scm
abbrev gG:V5:=top 14
theorem jo:aF ["kinds","names"] ["kinds"] (am gG):=scm
abbrev iT:V5:=top 15
theorem kz:aF ["pairs","kinds"] ["pairs"] (am iT):=scm
abbrev km:V5:=top 16
theorem iD:aF ["kinds","name","kind","many"] ["kinds","name"] (am km):=scm
abbrev kh:V5:=top 17
theorem rC:aF ["thing"] ["thing"] (am kh):=scm
abbrev lU:V5:=top 18
theorem gR:aF ["thing","met","ahead","part"] ["thing"] (am lU):=scm
abbrev oz:V5:=top 19
theorem i6:aF ["tops","done","top","many"] ["tops"] (am oz):=scm
abbrev j7:V5:=top 21
theorem rq:aF ["thing"] ["thing"] (am j7):=scm
abbrev ef:V5:=top 22
theorem fY:aF ["kinds","pattern","states","kids","part"] ["kinds","pattern","states","kids"] (am ef):=scm
abbrev cf:V5:=inClass (top 28) 0
theorem lq:aF ["self"] ["self"] (am cf):=scm
abbrev bS:V5:=inClass (top 28) 1
theorem jE:aF ["self","part","row"] ["self","part","row"] (am bS):=scm
abbrev iH:V5:=top 29
theorem dC:aF ["pattern","measure","ahead","part","row"] ["pattern"] (am iH):=scm
abbrev dG:V5:=top 30
theorem kj:aF ["outs","pattern","states","kids"] ["outs","pattern","states","kids"] (am dG):=scm
abbrev eZ:V5:=top 31
theorem dY:aF ["ins","outs","patterns","states","kind","pattern"] ["ins","outs","patterns","states"] (am eZ):=scm
abbrev f8:V5:=top 32
theorem cZ:aF ["ins","outs","head","rules","taken","given","rows","patterns"] ["ins","outs","head","rules"] (am f8):=scm
abbrev iu:V5:=top 34
theorem f9:aF ["text","spread","sign"] ["text"] (am iu):=scm
abbrev fc:V5:=top 38
theorem gF:aF ["word","figures"] ["word"] (am fc):=scm
abbrev gr:V5:=top 39
theorem pJ:aF ["words"] ["words"] (am gr):=scm
abbrev iI:V5:=top 40
theorem cR:aF ["words","steps","at"] ["words"] (am iI):=scm
abbrev jC:V5:=top 41
theorem lL:aF ["before","step","depth","ended"] ["before","step","depth"] (am jC):=scm
abbrev jP:V5:=top 42
theorem di:aF ["steps","tops","within","before","step"] ["steps"] (am jP):=scm
abbrev ey:V5:=top 43
theorem fX:aF ["words","text"] ["words"] (am ey):=scm
abbrev gu:V5:=top 44
theorem dM:aF ["word","name","slash","many"] ["word"] (am gu):=scm
abbrev fJ:V5:=top 45
theorem m8:aF ["first","words"] ["first","words"] (am fJ):=scm
abbrev gD:V5:=top 46
theorem oJ:aF ["words"] ["words"] (am gD):=scm
abbrev gc:V5:=top 47
theorem pI:aF ["state","name","words"] ["state","name","words"] (am gc):=scm
abbrev fQ:V5:=top 48
theorem cr:aF ["ins","rows","rules","number","words","state","at"] ["ins","rows"] (am fQ):=scm
abbrev iK:V5:=top 49
theorem qM:aF ["row"] ["row"] (am iK):=scm
abbrev gp:V5:=top 50
theorem cV:aF ["text","rows","ins","outs","head"] ["text"] (am gp):=scm
abbrev eh:V5:=top 52
theorem lv:aF ["script","k"] ["script","k"] (am eh):=scm
abbrev gf:V5:=top 53
theorem bw:aF ["base","n","letters","word","rest","k","size","at","step"] ["base","n"] (am gf):=scm
abbrev fB:V5:=top 54
theorem bI:aF ["cell","mixed","many","rest","kinds","k","at"] ["cell"] (am fB):=scm
abbrev eX:V5:=top 55
theorem eA:aF ["script","many","cells","k"] ["script","many"] (am eX):=scm
abbrev d3:V5:=top 56
theorem bE:aF ["cell","outs","states","kids","deep","pair","parts","k","part"] ["cell","outs","states","kids","deep"] (am d3):=scm
abbrev fb:V5:=top 57
theorem bA:aF ["own","outs","states","kids","deep","calls","pick","pair","parts","k"] ["own","outs","states","kids","deep"] (am fb):=scm
abbrev gy:V5:=top 58
theorem aW:aF ["script","most","deep","ins","outs","states","cells","digits","rules","state","row","k","cell","head"] ["script","most","deep"] (am gy):=scm
abbrev fK:V5:=top 59
theorem nj:aF ["pattern"] ["pattern"] (am fK):=scm
abbrev gz:V5:=top 60
theorem bV:aF ["book","rows","at","pair","state","k","name","text"] ["book"] (am gz):=scm
abbrev dk:V5:=top 61
theorem bU:aF ["kinds","way","cell","some","at"] ["kinds","way","cell"] (am dk):=scm
abbrev cM:V5:=top 62
theorem b6:aF ["pattern","cell","states","kids","outs","far","at","part"] ["pattern","cell","states","kids","outs"] (am cM):=scm
abbrev dH:V5:=top 63
theorem bJ:aF ["book","cell","rows","kids","at","k","many"] ["book","cell"] (am dH):=scm
abbrev d8:V5:=top 64
theorem cq:aF ["text","signs","e","other"] ["text"] (am d8):=scm
abbrev jx:V5:=top 65
theorem cW:aF ["script","book","way","bad","spoiled","kinds","side","text","state","k","pattern","cell","odd"] ["script"] (am jx):=scm
structure FX (K:Uj) (mg:UA->Option Um) (n:UA) (s:V5) (ps:List UA) where
 f:Ul
 d:WV
 F:Fun K n n s f d
 b:Binds K d ps []
 m:mg n=some (.ref f)
section
open PySem.W
variable {K:Frag} {mg:UA->Option Um} {h:VO} {n:UA} {st:V5} {f:Ul} {oc kV dc pm cd ct:Um} {od an:Option Ul} {sl:Array (Option Um)} (X:K.In h) (G:h.Ns UX mg)
noncomputable def fx1 {p0:UA} (a:nsIn K UX n=some (some (.ref f)):=by k_is) (l:K.lookup f=some ⟨oc,od,.func (fnOf n n (bO st) (bC st) (am st) .none kV dc pm an cd ct),sl⟩:=by k_is) (c:codeIn K cd n=true:=by k_is) (k:keepIn K (.ref f)=true:=by k_is) (hb:∀ (kV dc pm:Um) (an:Option Ul) (cd ct u0:Um),ZO (fnOf n n (bO st) (bC st) (am st) .none kV dc pm an cd ct) ⟨[u0],[]⟩=pure [(p0,u0)]:=by intros;rfl):FX K mg n st [p0] :=
 ⟨f,_,df l c k,(df l c k).binds fun a b c d e f us hl=>by obtain ⟨u0,rfl⟩:=us1 hl;exact hb a b c d e f u0,mg_of X G a⟩
noncomputable def fx2 {p0 p1:UA} (a:nsIn K UX n=some (some (.ref f)):=by k_is) (l:K.lookup f=some ⟨oc,od,.func (fnOf n n (bO st) (bC st) (am st) .none kV dc pm an cd ct),sl⟩:=by k_is) (c:codeIn K cd n=true:=by k_is) (k:keepIn K (.ref f)=true:=by k_is) (hb:∀ (kV dc pm:Um) (an:Option Ul) (cd ct u0 u1:Um),ZO (fnOf n n (bO st) (bC st) (am st) .none kV dc pm an cd ct) ⟨[u0,u1],[]⟩=pure [(p0,u0),(p1,u1)]:=by intros;rfl):FX K mg n st [p0,p1] :=
 ⟨f,_,df l c k,(df l c k).binds fun a b c d e f us hl=>by obtain ⟨u0,u1,rfl⟩:=us2 hl;exact hb a b c d e f u0 u1,mg_of X G a⟩
noncomputable def fx3 {p0 p1 p2:UA} (a:nsIn K UX n=some (some (.ref f)):=by k_is) (l:K.lookup f=some ⟨oc,od,.func (fnOf n n (bO st) (bC st) (am st) .none kV dc pm an cd ct),sl⟩:=by k_is) (c:codeIn K cd n=true:=by k_is) (k:keepIn K (.ref f)=true:=by k_is) (hb:∀ (kV dc pm:Um) (an:Option Ul) (cd ct u0 u1 u2:Um),ZO (fnOf n n (bO st) (bC st) (am st) .none kV dc pm an cd ct) ⟨[u0,u1,u2],[]⟩=pure [(p0,u0),(p1,u1),(p2,u2)]:=by intros;rfl):FX K mg n st [p0,p1,p2] :=
 ⟨f,_,df l c k,(df l c k).binds fun a b c d e f us hl=>by obtain ⟨u0,u1,u2,rfl⟩:=us3 hl;exact hb a b c d e f u0 u1 u2,mg_of X G a⟩
noncomputable def fx4 {p0 p1 p2 p3:UA} (a:nsIn K UX n=some (some (.ref f)):=by k_is) (l:K.lookup f=some ⟨oc,od,.func (fnOf n n (bO st) (bC st) (am st) .none kV dc pm an cd ct),sl⟩:=by k_is) (c:codeIn K cd n=true:=by k_is) (k:keepIn K (.ref f)=true:=by k_is) (hb:∀ (kV dc pm:Um) (an:Option Ul) (cd ct u0 u1 u2 u3:Um),ZO (fnOf n n (bO st) (bC st) (am st) .none kV dc pm an cd ct) ⟨[u0,u1,u2,u3],[]⟩=pure [(p0,u0),(p1,u1),(p2,u2),(p3,u3)]:=by intros;rfl):FX K mg n st [p0,p1,p2,p3] :=
 ⟨f,_,df l c k,(df l c k).binds fun a b c d e f us hl=>by obtain ⟨u0,u1,u2,u3,rfl⟩:=us4 hl;exact hb a b c d e f u0 u1 u2 u3,mg_of X G a⟩
noncomputable def fx5 {p0 p1 p2 p3 p4:UA} (a:nsIn K UX n=some (some (.ref f)):=by k_is) (l:K.lookup f=some ⟨oc,od,.func (fnOf n n (bO st) (bC st) (am st) .none kV dc pm an cd ct),sl⟩:=by k_is) (c:codeIn K cd n=true:=by k_is) (k:keepIn K (.ref f)=true:=by k_is) (hb:∀ (kV dc pm:Um) (an:Option Ul) (cd ct u0 u1 u2 u3 u4:Um),ZO (fnOf n n (bO st) (bC st) (am st) .none kV dc pm an cd ct) ⟨[u0,u1,u2,u3,u4],[]⟩=pure [(p0,u0),(p1,u1),(p2,u2),(p3,u3),(p4,u4)]:=by intros;rfl):FX K mg n st [p0,p1,p2,p3,p4] :=
 ⟨f,_,df l c k,(df l c k).binds fun a b c d e f us hl=>by obtain ⟨u0,u1,u2,u3,u4,rfl⟩:=us5 hl;exact hb a b c d e f u0 u1 u2 u3 u4,mg_of X G a⟩
end
theorem pcF {X:Cx} {kk k:Nat} {sp:Sp} {n:UA} {st:V5} {ps:List UA} {e:VI} {es:List VI} {t:TA} {p pos:Ym} (g:FX X.K X.mg n st ps) (F:FnOk X.prog X.w X.K X.mg X.base CX0 k g.f g.d ps sp) (hr:Room kk X.A) (ha:PA X (e::es) t) (hle:k<=kk:=by first | decide | omega) (hg:Gl X n:=by rfl) (Du:(n == ("__debug__":UA))=false:=by decide) (he:Vt (e::es) X.env=(false,WS e X.env)::Vt es X.env:=by rfl) (Bj:(Yt pos (Vt es X.env)).any (·.1)=false:=by rfl):PE X (.Call (.Name n p) (e::es) [] pos) (nW sp [] E0 t) :=
 bc F (hr.mono hle) hg g.m g.F.kp g.b .nil lS ha Du he Bj
structure TX (K:Uj) (mg:UA->Option Um) where
 c_CALL_SIGN:∃ tk,mg "CALL_SIGN"=some (.str (Ug "?") tk)
 c_MOST_LETTERS:∃ tk,mg "MOST_LETTERS"=some (.int (8) tk)
 c_MOST_KINDS:∃ tk,mg "MOST_KINDS"=some (.int (8) tk)
 c_MOST_KIDS:∃ tk,mg "MOST_KIDS"=some (.int (3) tk)
 c_MOST_STATES:∃ tk,mg "MOST_STATES"=some (.int (20) tk)
 c_MOST_ROWS:∃ tk,mg "MOST_ROWS"=some (.int (20) tk)
 c_MOST_KNOTS:∃ tk,mg "MOST_KNOTS"=some (.int (400) tk)
 c_MOST_CALLS:∃ tk,mg "MOST_CALLS"=some (.int (200) tk)
 c_MOST_FIGURES:∃ tk,mg "MOST_FIGURES"=some (.int (3) tk)
 c_MOST_BRACKETS:∃ tk,mg "MOST_BRACKETS"=some (.int (100) tk)
 e_BookError:Ul
 x_BookError:mg "BookError"=some (.ref e_BookError)
 e_NoKinds:Ul
 x_NoKinds:mg "NoKinds"=some (.ref e_NoKinds)
 e_NoBook:Ul
 x_NoBook:mg "NoBook"=some (.ref e_NoBook)
 e_NoText:Ul
 x_NoText:mg "NoText"=some (.ref e_NoText)
 xe_NoKinds:Yp K e_NoKinds [.type "ValueError",.type "Exception",.type "BaseException",.type "object"] "ValueError.__new__"=true
 xg_NoKinds:U5 K (.ref e_NoKinds) "__getattribute__"=some (some (.builtin "BaseException.__getattribute__"))
 xh_NoKinds:U5 K (.ref e_NoKinds) "__getattr__"=some none
 xc_NoKinds:U5 K (.ref e_NoKinds) "__class__"=some (some (.builtin "object.__class__"))
 xo_NoKinds:Wc K e_NoKinds (.type "object")=some true
 xb_NoKinds:Wc K e_NoKinds (.type "BaseException")=some true
 hit_NoKinds_BookError:Yd K (.ref e_NoKinds) (.ref e_BookError)=some true
 kit_NoKinds_NoText:U6 K (.ref e_NoKinds) (.ref e_NoText)=some false
 kit_NoKinds_ValueError:U6 K (.ref e_NoKinds) (.type "ValueError")=some true
 kit_NoKinds_NoKinds:U6 K (.ref e_NoKinds) (.ref e_NoKinds)=some true
 kit_NoKinds_NoBook:U6 K (.ref e_NoKinds) (.ref e_NoBook)=some false
 xe_NoBook:Yp K e_NoBook [.type "ValueError",.type "Exception",.type "BaseException",.type "object"] "ValueError.__new__"=true
 xg_NoBook:U5 K (.ref e_NoBook) "__getattribute__"=some (some (.builtin "BaseException.__getattribute__"))
 xh_NoBook:U5 K (.ref e_NoBook) "__getattr__"=some none
 xc_NoBook:U5 K (.ref e_NoBook) "__class__"=some (some (.builtin "object.__class__"))
 xo_NoBook:Wc K e_NoBook (.type "object")=some true
 xb_NoBook:Wc K e_NoBook (.type "BaseException")=some true
 hit_NoBook_BookError:Yd K (.ref e_NoBook) (.ref e_BookError)=some true
 kit_NoBook_NoText:U6 K (.ref e_NoBook) (.ref e_NoText)=some false
 kit_NoBook_ValueError:U6 K (.ref e_NoBook) (.type "ValueError")=some true
 kit_NoBook_NoKinds:U6 K (.ref e_NoBook) (.ref e_NoKinds)=some false
 kit_NoBook_NoBook:U6 K (.ref e_NoBook) (.ref e_NoBook)=some true
 xe_NoText:Yp K e_NoText [.type "ValueError",.type "Exception",.type "BaseException",.type "object"] "ValueError.__new__"=true
 xg_NoText:U5 K (.ref e_NoText) "__getattribute__"=some (some (.builtin "BaseException.__getattribute__"))
 xh_NoText:U5 K (.ref e_NoText) "__getattr__"=some none
 xc_NoText:U5 K (.ref e_NoText) "__class__"=some (some (.builtin "object.__class__"))
 xo_NoText:Wc K e_NoText (.type "object")=some true
 xb_NoText:Wc K e_NoText (.type "BaseException")=some true
 hit_NoText_BookError:Yd K (.ref e_NoText) (.ref e_BookError)=some true
 kit_NoText_NoText:U6 K (.ref e_NoText) (.ref e_NoText)=some true
 kit_NoText_ValueError:U6 K (.ref e_NoText) (.type "ValueError")=some true
 kit_NoText_NoKinds:U6 K (.ref e_NoText) (.ref e_NoKinds)=some false
 kit_NoText_NoBook:U6 K (.ref e_NoText) (.ref e_NoBook)=some false
 g_is_number:FX K mg "is_number" gJ ["thing"]
 g_is_below:FX K mg "is_below" iP ["number","bound"]
 g_is_name:FX K mg "is_name" jN ["thing"]
 g_is_kind:FX K mg "is_kind" jS ["pair"]
 g_are_kinds:FX K mg "are_kinds" gG ["kinds"]
 g_kinds_of:FX K mg "kinds_of" iT ["pairs"]
 g_many_of:FX K mg "many_of" km ["kinds","name"]
 g_kids_of:FX K mg "kids_of" kh ["thing"]
 g_walked:FX K mg "walked" lU ["thing"]
 g_built:FX K mg "built" oz ["tops"]
 g_is_call:FX K mg "is_call" j7 ["thing"]
 g_fits_pattern:FX K mg "fits_pattern" ef ["kinds","pattern","states","kids"]
 f_Measure_init:Ul
 d_Measure_init:WV
 F_Measure_init:Fun K "__init__" "Measure.__init__" cf f_Measure_init d_Measure_init
 b_Measure_init:Binds K d_Measure_init ["self"] []
 f_Measure_takes:Ul
 d_Measure_takes:WV
 F_Measure_takes:Fun K "takes" "Measure.takes" bS f_Measure_takes d_Measure_takes
 b_Measure_takes:Binds K d_Measure_takes ["self","part","row"] []
 g_is_small:FX K mg "is_small" iH ["pattern"]
 g_check_pattern:FX K mg "check_pattern" dG ["outs","pattern","states","kids"]
 g_check_state:FX K mg "check_state" eZ ["ins","outs","patterns","states"]
 g_made_book:FX K mg "made_book" f8 ["ins","outs","head","rules"]
 g_words_of:FX K mg "words_of" iu ["text"]
 g_read_number:FX K mg "read_number" fc ["word"]
 g_read_call:FX K mg "read_call" gr ["words"]
 g_steps_of:FX K mg "steps_of" iI ["words"]
 g_follows:FX K mg "follows" jC ["before","step","depth"]
 g_tops_of:FX K mg "tops_of" jP ["steps"]
 g_read_pattern:FX K mg "read_pattern" ey ["words"]
 g_read_kind:FX K mg "read_kind" gu ["word"]
 g_read_kinds:FX K mg "read_kinds" fJ ["first","words"]
 g_read_head:FX K mg "read_head" gD ["words"]
 g_read_rule:FX K mg "read_rule" gc ["state","name","words"]
 g_read_rules:FX K mg "read_rules" fQ ["ins","rows"]
 g_words_in:FX K mg "words_in" iK ["row"]
 g_read_book:FX K mg "read_book" gp ["text"]
 g__law_cell_at:FX K mg "_law_cell_at" eh ["script","k"]
 g__law_name:FX K mg "_law_name" gf ["base","n"]
 g__law_kinds:FX K mg "_law_kinds" fB ["cell"]
 g__law_folded:FX K mg "_law_folded" eX ["script","many"]
 g__law_pattern:FX K mg "_law_pattern" d3 ["cell","outs","states","kids","deep"]
 g__law_digits:FX K mg "_law_digits" fb ["own","outs","states","kids","deep"]
 g__law_book:FX K mg "_law_book" gy ["script","most","deep"]
 g__law_shown:FX K mg "_law_shown" fK ["pattern"]
 g__law_rows:FX K mg "_law_rows" gz ["book"]
 g__law_bad_kinds:FX K mg "_law_bad_kinds" dk ["kinds","way","cell"]
 g__law_bad_pattern:FX K mg "_law_bad_pattern" cM ["pattern","cell","states","kids","outs"]
 g__law_bad_book:FX K mg "_law_bad_book" dH ["book","cell"]
 g__law_refused:FX K mg "_law_refused" d8 ["text"]
 g_law:FX K mg "law" jx ["script"]
 e_Measure:Ul
 x_Measure:mg "Measure"=some (.ref e_Measure)
 cl_Measure:Cls K e_Measure
 mk_Measure:Mk K e_Measure f_Measure_init
 na_Measure_met_knots:NoAttr K e_Measure "met_knots"
 na_Measure_met_calls:NoAttr K e_Measure "met_calls"
 me_Measure_takes:Meth K e_Measure "takes" f_Measure_takes
 n_ValueError:mg "ValueError"=none
 n_all:mg "all"=none
 n_bool:mg "bool"=none
 n_divmod:mg "divmod"=none
 n_enumerate:mg "enumerate"=none
 n_int:mg "int"=none
 n_isinstance:mg "isinstance"=none
 n_len:mg "len"=none
 n_list:mg "list"=none
 n_min:mg "min"=none
 n_range:mg "range"=none
 n_reversed:mg "reversed"=none
 n_set:mg "set"=none
 n_str:mg "str"=none
 n_tuple:mg "tuple"=none
 n_zip:mg "zip"=none
theorem TX.X_NoKinds {K:Uj} {mg:UA->Option Um} (T:TX K mg):iE K T.e_NoKinds:=⟨T.xe_NoKinds,T.xg_NoKinds,T.xh_NoKinds,T.xc_NoKinds,T.xo_NoKinds,T.xb_NoKinds⟩
theorem TX.X_NoBook {K:Uj} {mg:UA->Option Um} (T:TX K mg):iE K T.e_NoBook:=⟨T.xe_NoBook,T.xg_NoBook,T.xh_NoBook,T.xc_NoBook,T.xo_NoBook,T.xb_NoBook⟩
theorem TX.X_NoText {K:Uj} {mg:UA->Option Um} (T:TX K mg):iE K T.e_NoText:=⟨T.xe_NoText,T.xg_NoText,T.xh_NoText,T.xc_NoText,T.xo_NoText,T.xb_NoText⟩
theorem aa3:([Ug "kid",Ug "row"]:List UA).Nodup:=by decide +kernel
theorem aax:([Ug "sign"]:List UA).Nodup:=by decide +kernel
theorem sH:([Ug "pair"]:List UA).Nodup:=by decide +kernel
theorem aaP:([Ug "patterns"]:List UA).Nodup:=by decide +kernel
theorem zi:([Ug "word"]:List UA).Nodup:=by decide +kernel
theorem aay:([Ug "number",Ug "done"]:List UA).Nodup:=by decide +kernel
theorem zm:([Ug "row"]:List UA).Nodup:=by decide +kernel
theorem aaf:([Ug "one"]:List UA).Nodup:=by decide +kernel
theorem aaV:([Ug "part"]:List UA).Nodup:=by decide +kernel
theorem aa1:([Ug "k"]:List UA).Nodup:=by decide +kernel
theorem zZ:([Ug "row",Ug "book"]:List UA).Nodup:=by decide +kernel
section
variable {P:U1} {w:Vl} {K:Uj} {mg:UA->Option Um} {base:VO} (T:TX K mg)
inductive kQ (vs:List V) (H:Hp) (Q:VK) (_E:XK):Prop
 | mk (a:Ul) (t:Th) (Aw:vs=[.ref a]) (Ax:At H t a) (AE:∀ (r:Ul) (as:List Ul) (H':Hp),L2.Same H H'->H' r=some (.tup (as.map V.ref))->Ats H' t.kids as->Q (.ref r) H'):kQ  vs H Q _E
def rh:Sp:=kQ
theorem mn:FnOk P w K mg base CX0 1 T.g_kids_of.f T.g_kids_of.d ["thing"] rh:=by
 refine T.g_kids_of.F.ok rC (fun vs H Q E h=>?_) (fun Ao A outer s H vs Q E hr h=>?_)
 · obtain ⟨a,t,rfl,_⟩:=h;rfl
 obtain ⟨a,t,rfl,hA,k⟩:=h
 refine ⟨_,(af (aN (ax cb (ao ay (pv 0) ad (fun _ _=>rfl)) (ck (v:=.str (Ug "?")) rfl T.c_CALL_SIGN.choose_spec ⟨_,rfl⟩) (az _)) (ai (aA (bi ac))) aE)
  (ai (aA (bz rQ (pv 0) (bB ad) cj)))),?_⟩
 try dsimp only [AO,Ai]
 cases t with
 | knot n ks =>
   rw [At] at hA;refine hid fun ZZ kZ=>?_;obtain ⟨hn,as,h1,h2⟩:=hA;refine kZ ?_;refine ⟨_,rfl,a,_,0,.str n,rfl,rfl,SqT.of h1,at0,rfl,_,rfl,?_⟩;refine cg (fun c=>absurd (of_decide_eq_true c) (fun z=>hn (V.str.inj z))) (fun _=>?_);refine ⟨_,rfl,1,rfl,a,_,rfl,SqT.of h1,?_,fun r hr=>?_⟩
   · intro z;have:=z.1;simp [HT.sIx] at this
   · rw [jc];exact k r as _ (ag hr _) ae (h2.mono (iR hr))
 | call sn kn =>
   rw [At] at hA;refine ⟨_,rfl,a,_,0,.str q,rfl,rfl,SqT.of hA,at0,rfl,_,rfl,?_⟩;refine cg (fun _=>?_) (fun c=>absurd (decide_eq_true rfl) c);refine ⟨by show 0<=US;decide,fun r hr=>?_⟩;exact k r [] _ (ag hr _) ae .nil
inductive mW (vs:List V) (H:Hp) (Q:VK) (_E:XK):Prop
 | mk (a:Ul) (t:Th) (Aw:vs=[.ref a]) (Ax:At H t a) (AE:t.size<=100000) (AQ:∀ (r:Ul) (as:List Ul) (H':Hp),L2.Same H H'->H r=none->H' r=some (.lst (as.map V.ref))->Ats H' t.walk as->Q (.ref r) H'):mW  vs H Q _E
def uP:Sp:=mW
theorem ub:FnOk P w K mg base CX0 2 T.g_walked.f T.g_walked.d ["thing"] uP:=by
 refine T.g_walked.F.ok gR (fun vs H Q E h=>?_) (fun Ao A outer s H vs Q E hr h=>?_)
 · obtain ⟨a,t,rfl,_⟩:=h;rfl
 obtain ⟨a,t,rfl,hA,AH,k⟩:=h
 refine ⟨_,(af (ar (i:=1) gR.nd rfl (UI rfl) (bg ac))
  (af (ar (i:=2) gR.nd rfl (UI rfl) (bg (aa (pv 0) ac)))
  (af (mj Vy (aZ (pv 2) (fun _=>rfl)) (af (ar (i:=3) gR.nd rfl (UI rfl) (o7 UR Yk Yj oS (pv 2)))
  (af (ba (bN UR Vc Vb bf (pv 1) (aa (pv 3) ac)))
  (ai (ba (bN UR PySem.F.slot_list_extend PySem.F.type_list_extend rp (pv 2) (aa (wL yN (pcF T.g_kids_of (mn T) hr (aa (pv 3) ac))) ac)))))))
  (ai (aA (pv 1)))))),?_⟩
 try dsimp only [AO,Ai]
 refine ⟨by show 0<=US;decide,fun mt Fm=>?_⟩;refine ⟨_,rfl,by show 1<=US;decide,fun ah Fo=>?_⟩;have Kg:H ah=none:=(ag Fm _).free Fo;have Au:ah≠mt:=fun z=>by rw [z,ae] at Fo;cases Fo
 refine ⟨fun m σ H2=>Ex5 fun (ms as:List Ul) (Ms As:List Th) (p:Option V)=>An8 (σ=[some (.ref a),some (.ref mt),some (.ref ah),p]) (L2.Same H H2) (H2 mt=some (.lst (ms.map V.ref))) (H2 ah=some (.lst (as.map V.ref))) (Ats H2 Ms ms) (Ats H2 As as) (Ms++walks As.reverse=t.walk) (m=aC As),⟨_,[],[a],[],[t],none,rfl,?_,?_,?_,.nil,.cons (hA.mono ?_) .nil,?_,rfl⟩,?_⟩
 · exact aI (ag Fm _) Kg
 · rw [au Au.symm,ae];rfl
 · rw [ae];rfl
 · exact Same.kt (aI (ag Fm _) Kg)
 · simp [walks]
 rintro m σ H2 ⟨ms,as,Ms,As,p,rfl,sm,e1,e2,a1,a2,hw,rfl⟩
 have hlen:ms.length+aC As<=100000:=by
  have h1:=congrArg WD hw;rw [Uu,ku,Th.walk_len,<- a1.length] at h1;have h2:=nV As;omega
 refine ⟨_,rfl,_,.inl ⟨_,SqL.of e2,rfl⟩,?_⟩;refine cg (fun c=>?_) (fun c=>?_)
 · -- a part is taken off
   refine ⟨fun f' H'=>∃ m',m'<aC As/\Ex5 fun (ms as:List Ul) (Ms As:List Th) (p:Option V)=>An8 (f'=[some (.ref a),some (.ref mt),some (.ref ah),p]) (L2.Same H H') (H' mt=some (.lst (ms.map V.ref))) (H' ah=some (.lst (as.map V.ref))) (Ats H' Ms ms) (Ats H' As as) (Ms++walks As.reverse=t.walk) (m'=aC As),fun f' H' h=>h,?_⟩;have Cg:as≠[]:=by intro z;subst z;simp at c
   obtain ⟨D8,b,rfl⟩:∃ D8 b,as=D8++[b]:=⟨as.dropLast,as.getLast Cg,(WK Cg).symm⟩;obtain ⟨Us,x,rfl,a3,a4⟩:=a2.snoc_inv;have hs:aC (Us++[x])=aC Us+x.size:=by rw [bX,aC,aC];omega
   have Kh:=x.size_eq;rw [hs] at hlen;refine ⟨_,rfl,.inl ⟨rfl,_,SqL.of e2⟩,ah,_,.ref b,rfl,rfl,e2,by simp,?_⟩;have d1:((D8++[b]).map V.ref).dropLast=D8.map V.ref:=by simp
   rw [d1];refine ⟨_,rfl,.inl ⟨rfl,_,SqL.of (by rw [au Au.symm];exact e1)⟩,_,rfl,mt,_,.ref b,rfl,rfl,by rw [au Au.symm];exact e1,bj (by rw [Ue];omega),?_⟩;have k1:KT H2 (upd (upd H2 ah (.lst (D8.map V.ref))) mt (.lst (ms.map V.ref++[.ref b]))):=(bp e2).trans (bp (xs:=ms.map V.ref) (by rw [au Au.symm];exact e1));refine ⟨_,rfl,.inl ⟨rfl,_,SqL.of (by rw [au Au,ae])⟩,_,rfl,b,x,rfl,a4.mono k1,fun r ks H3 s3 e3 a5=>?_⟩;refine ⟨r,_,rfl,SqT.of e3,fun l hl=>?_⟩;have l1:l≠ah:=fun z=>by rw [z,s3 ah _ (by rw [au Au,ae])] at hl;cases hl
   have l2:l≠mt:=fun z=>by rw [z,s3 mt _ ae] at hl;cases hl
   refine ⟨ah,l,_,_,rfl,rfl,by rw [au l1.symm];exact s3 ah _ (by rw [au Au,ae]),SqT.of ae,Yg (bj ?_),?_⟩
   · have q1:=a3.length;have q2:=a5.length;have q3:=db Us;have q4:=db x.kids;rw [Ue,Xk,Ue];omega
   · have k2:KT H2 (upd (upd H3 l (.tup (ks.map V.ref).reverse)) ah (.lst (D8.map V.ref++(ks.map V.ref).reverse))) :=
      k1.trans ((Same.kt s3).trans ((iR hl).trans (bp (xs:=D8.map V.ref) (by rw [au l1.symm];exact s3 ah _ (by rw [au Au,ae])))))
     have k3:KT H3 (upd (upd H3 l (.tup (ks.map V.ref).reverse)) ah (.lst (D8.map V.ref++(ks.map V.ref).reverse))) :=
      (iR hl).trans (bp (xs:=D8.map V.ref) (by rw [au l1.symm];exact s3 ah _ (by rw [au Au,ae])))
     refine ⟨aC (Us++x.kids.reverse),?_,ms++[b],D8++ks.reverse,Ms++[x],Us++x.kids.reverse,some (.ref b),rfl,?_,?_,?_,?_,?_,?_,rfl⟩
     · rw [bX,nV,hs];omega
     · have s4:L2.Same H (upd (upd H2 ah (.lst (D8.map V.ref))) mt (.lst (ms.map V.ref++[.ref b]))):=aI (aI sm Kg) Fm;have nl:H l=none:=s4.free (s3.free hl);exact aI (aI (s4.trans s3) nl) Kg
     · rw [au Au.symm,au l2.symm,s3 mt _ ae,UC];rfl
     · rw [ae,UC,List.map_reverse]
     · exact (a1.mono k2).append (.cons (a4.mono k2) .nil)
     · exact (a3.mono k2).append (a5.mono k3).reverse
     · rw [<- hw,U2,Yw,Yw,XI,jw];show Ms++([x]++(walks x.kids++walks Us.reverse))=Ms++walks (x::Us.reverse);rw [walks,x.walk_eq];rfl
 · have hz:as=[]:=by
    cases as with
    | nil=>rfl
    | cons y ys=>simp at c
   subst hz;have LQ:As=[]:=U9.mp a2.length.symm;subst LQ;refine ⟨_,rfl,k mt ms H2 sm Fm e1 ?_⟩;have Rh:Ms=t.walk:=by simpa [walks] using hw
   rw [<- Rh];exact a1
inductive kP (vs:List V) (H:Hp) (Q:VK) (_E:XK):Prop
 | mk (a:Ul) (t:Th) (Aw:vs=[.ref a]) (Ax:At H t a) (AE:Q (.bl t.isCall) H):kP  vs H Q _E
def rV:Sp:=kP
theorem iO:FnOk P w K mg base CX0 1 T.g_is_call.f T.g_is_call.d ["thing"] rV:=by
 refine T.g_is_call.F.ok rq (fun vs H Q E h=>?_) (fun Ao A outer s H vs Q E hr h=>?_)
 · obtain ⟨a,t,rfl,_⟩:=h;rfl
 obtain ⟨a,t,rfl,hA,k⟩:=h;refine ⟨_,(ai (aA (bZ cb (ao ay (pv 0) ad (fun _ _=>rfl)) (ck (v:=.str (Ug "?")) rfl T.c_CALL_SIGN.choose_spec ⟨_,rfl⟩) (az _)))),?_⟩
 try dsimp only [AO,Ai]
 cases t with
 | knot n ks =>
   rw [At] at hA;refine hid fun ZZ kZ=>?_;obtain ⟨hn,as,h1,h2⟩:=hA;refine kZ ?_;refine ⟨_,rfl,a,_,0,.str n,rfl,rfl,SqT.of h1,at0,rfl,?_⟩;have e:decide (V.str n=V.str (Ug "?"))=false:=decide_eq_false (fun z=>hn (V.str.inj z));rw [e];exact k
 | call sn kn =>
   rw [At] at hA;refine ⟨_,rfl,a,_,0,.str q,rfl,rfl,SqT.of hA,at0,rfl,?_⟩;have e:decide (V.str q=V.str (Ug "?"))=true:=decide_eq_true rfl;rw [e];exact k
def mf (k c:Int):List (UA×V):=[("met_knots",.int k),("met_calls",.int c)]
theorem mkc:¬ (("met_knots":UA)="met_calls"):=by decide +kernel
theorem aa9:¬ (("met_calls":UA)="met_knots"):=by decide +kernel
theorem w8:dE "met_knots" (.int 0) []=[(("met_knots":UA),V.int 0)]:=rfl
theorem wH:dE "met_calls" (.int 0) [(("met_knots":UA),V.int 0)]=mf 0 0:=by
 unfold mf;rw [dE,if_neg mkc,dE]
theorem xb (k c z:Int):dE "met_knots" (.int z) (mf k c)=mf z c:=by
 unfold mf;rw [dE,if_pos rfl]
theorem xI (k c z:Int):dE "met_calls" (.int z) (mf k c)=mf k z:=by
 unfold mf;rw [dE,if_neg mkc,dE,if_pos rfl]
theorem zR (k c:Int):(mf k c).lookup ("met_knots":UA)=some (V.int k):=by
 unfold mf;have hb:(("met_knots":UA) == "met_knots")=true:=beq_iff_eq.mpr rfl;simp only [Xd,hb]
theorem aau (k c:Int):(mf k c).lookup ("met_calls":UA)=some (V.int c):=by
 unfold mf;have hb:(("met_calls":UA) == "met_calls")=true:=beq_iff_eq.mpr rfl;have hc:(("met_calls":UA) == "met_knots")=false:=beq_eq_false_iff_ne.mpr aa9;simp only [Xd,hb,hc]
theorem zE {m:UA} (k c:Int) (h1:(m == ("met_knots":UA))=false) (h2:(m == ("met_calls":UA))=false):(mf k c).lookup m=none:=by
 unfold mf;simp only [Xd,h1,h2]
theorem vh (k c:Int):(mf k c).length<1000:=by show 2<1000;decide
inductive fq (C:Ul) (vs:List V) (H:Hp) (Q:VK) (_E:XK):Prop
 | mk (x dx:Ul) (Aw:vs=[.ref x]) (Ax:H x=some (.ins C dx [])) (AE:∀ H':Hp,(∀ b o,b≠x->H b=some o->H' b=some o)->H' x=some (.ins C dx (mf 0 0))->Q .non H'):fq C vs H Q _E
def kX (C:Ul):Sp:=fq C
theorem lr:FnOk P w K mg base CX0 1 T.f_Measure_init T.d_Measure_init ["self"] (kX T.e_Measure):=by
 refine T.F_Measure_init.ok lq (fun vs H Q E h=>?_) (fun Ao A outer s H vs Q E hr h=>?_)
 · obtain ⟨x,dx,rfl,_⟩:=h;rfl
 obtain ⟨x,dx,rfl,ex,q⟩:=h
 refine ⟨_,(af (uX (pv 0) ad rfl)
  (ai (uX (pv 0) ad rfl))),?_⟩
 try dsimp only [AO,Ai]
 refine ⟨_,rfl,x,T.e_Measure,dx,_,rfl,ex,T.cl_Measure,T.na_Measure_met_knots,(by show 0<1000;decide),?_⟩;refine ⟨_,rfl,x,T.e_Measure,dx,_,rfl,ae,T.cl_Measure,T.na_Measure_met_calls,(by show 1<1000;decide),?_⟩;refine q _ (fun b o hb e=>?_) ?_
 · rw [au hb,au hb];exact e
 · rw [ae,w8,wH]
inductive eI (C:Ul) (vs:List V) (H:Hp) (Q:VK) (_E:XK):Prop
 | mk (x dx pa:Ul) (k c row:Int) (t:Th) (Aw:vs=[.ref x,.ref pa,.int row]) (Ax:H x=some (.ins C dx (mf k c))) (AE:At H t pa) (AQ:∀ (k' c':Int) (H':Hp),k'=(if t.isCall=true then k else k+1)->c'=(if t.isCall=true then c+1 else c)->(∀ b o,b≠x->H b=some o->H' b=some o)->H' x=some (.ins C dx (mf k' c'))->Q (.bl (decide (row<=20/\k'<=400/\c'<=200))) H'):eI C vs H Q _E
def kf (C:Ul):Sp:=eI C
theorem j2:FnOk P w K mg base CX0 2 T.f_Measure_takes T.d_Measure_takes ["self","part","row"] (kf T.e_Measure):=by
 refine T.F_Measure_takes.ok jE (fun vs H Q E h=>?_) (fun Ao A outer s H vs Q E hr h=>?_)
 · obtain ⟨x,dx,pa,k,c,row,t,rfl,_⟩:=h;rfl
 obtain ⟨x,dx,pa,k,c,row,t,rfl,ex,hA,q⟩:=h
 refine ⟨_,(af (aN (aZ (pcF T.g_is_call (iO T) hr (aa (pv 1) ac)) (fun _=>rfl)) (ai (og (pv 0) ad vp)) (ai (og (pv 0) ad vp)))
  (ai (aA (eY (bZ ik (pv 2) (ck (v:=.int (20)) rfl T.c_MOST_ROWS.choose_spec ⟨_,rfl⟩) (az _)) (eY (bZ ik (vJ (pv 0) rfl) (ck (v:=.int (400)) rfl T.c_MOST_KNOTS.choose_spec ⟨_,rfl⟩) (az _)) (gK (bZ ik (vJ (pv 0) rfl) (ck (v:=.int (200)) rfl T.c_MOST_CALLS.choose_spec ⟨_,rfl⟩) (az _)))))))),?_⟩
 try dsimp only [AO,Ai]
 refine aP (fun f' H'=>Ex2 fun (k' c':Int)=>An5 (k'=(if t.isCall=true then k else k+1)) (c'=(if t.isCall=true then c+1 else c)) ((∀ b o,b≠x->H b=some o->H' b=some o)) (H' x=some (.ins T.e_Measure dx (mf k' c'))) (f'=[some (.ref x),some (.ref pa),some (.int row)])) (fun kk hk=>?_) ?_
 · refine b8 (fun b H'=>An2 (H=H') (b=t.isCall)) (fun k2 Br=>?_) (fun H' hb=>?_) (fun H' hb=>?_)
   · exact ⟨_,rfl,pa,t,rfl,hA,_,rfl,Br _ _ ⟨rfl,rfl⟩⟩
   · obtain ⟨rfl,hb⟩:=hb;refine ⟨_,rfl,x,T.e_Measure,dx,_,_,rfl,ex,T.cl_Measure,T.na_Measure_met_calls,aau k c,c,1,rfl,rfl,dx,_,ex,vh k c,?_⟩;exact hk _ _ ⟨k,c+1,by rw [if_pos hb.symm],by rw [if_pos hb.symm],fun b o hb e=>by rw [au hb];exact e,by rw [ae,xI],rfl⟩
   · obtain ⟨rfl,hb⟩:=hb;have BA:¬ t.isCall=true:=fun z=>by rw [<- hb] at z;cases z
     refine ⟨_,rfl,x,T.e_Measure,dx,_,_,rfl,ex,T.cl_Measure,T.na_Measure_met_knots,zR k c,k,1,rfl,rfl,dx,_,ex,vh k c,?_⟩;exact hk _ _ ⟨k+1,c,by rw [if_neg BA],by rw [if_neg BA],fun b o hb e=>by rw [au hb];exact e,by rw [ae,xb],rfl⟩
 rintro f' H' ⟨k',c',A7,BY,hs,JT,rfl⟩;have q':=q k' c' H' A7 BY hs JT;clear q;refine ⟨_,rfl,_,_,rfl,rfl,?_⟩;refine ⟨_,rfl,?_⟩;by_cases c1:row<=20
 · rw [if_pos (decide_eq_true c1)];refine ⟨_,rfl,x,T.e_Measure,dx,_,_,rfl,JT,T.cl_Measure,T.na_Measure_met_knots,zR k' c',_,_,rfl,rfl,_,rfl,?_⟩;by_cases c2:k'<=400
   · rw [if_pos (decide_eq_true c2)];refine ⟨_,rfl,x,T.e_Measure,dx,_,_,rfl,JT,T.cl_Measure,T.na_Measure_met_calls,aau k' c',_,_,rfl,rfl,?_⟩;have e:decide (row<=20/\k'<=400/\c'<=200)=decide (c'<=200):=by simp [c1,c2]
     rw [e] at q';exact q'
   · rw [if_neg (fun z=>c2 (of_decide_eq_true z))];rw [decide_eq_false (fun z=>c2 z.2.1)] at q';exact q'
 · rw [if_neg (fun z=>c1 (of_decide_eq_true z))];rw [decide_eq_false (fun z=>c1 z.1)] at q';exact q'
mutual
/-- how many calls -/
def cnT:Th->Nat
 | .knot _ ks=>eE ks
 | .call _ _=>1
def eE:List Th->Nat
 | []=>0
 | t::ts=>cnT t+eE ts
end
def Small (t:Th):Prop:=t.tall<=20/\t.kn<=400/\cnT t<=200
instance (t:Th):Decidable (Small t):=inferInstanceAs (Decidable (_/\_/\_))
theorem zF (t:Th):t.kn=(if t.isCall=true then 0 else 1)+kns t.kids:=by
 cases t with
 | knot n ks=>rw [Th.kn,Th.isCall,Th.kids,if_neg UN];omega
 | call s k=>rw [Th.kn,Th.isCall,Th.kids,if_pos rfl,kns]
theorem zO (t:Th):cnT t=(if t.isCall=true then 1 else 0)+eE t.kids:=by
 cases t with
 | knot n ks=>rw [cnT,Th.isCall,Th.kids,if_neg UN];omega
 | call s k=>rw [cnT,Th.isCall,Th.kids,if_pos rfl,eE]
theorem l5 (a b:List Th):kns (a++b)=kns a+kns b:=by
 induction a with
 | nil=>rw [Vs,kns];omega
 | cons x a ih=>rw [Va,kns,kns,ih];omega
theorem kG (a b:List Th):eE (a++b)=eE a+eE b:=by
 induction a with
 | nil=>rw [Vs,eE];omega
 | cons x a ih=>rw [Va,eE,eE,ih];omega
theorem wb {ts:List Th} (h:ts≠[]):∃ t∈ts,aL ts=t.tall:=by
 induction ts with
 | nil=>exact absurd rfl h
 | cons x ts ih =>
   rw [aL];by_cases hz:ts=[]
   · subst hz;exact ⟨x,Uy ..,by rw [aL];omega⟩
   · obtain ⟨t,ht,e⟩:=ih hz;by_cases hc:aL ts<=x.tall
     · exact ⟨x,Uy ..,by omega⟩
     · exact ⟨t,Uv _ ht,by omega⟩
def RwAt (H:Hp) (e:Th×Int) (p:Ul):Prop:=∃ ta,H p=some (.tup [.ref ta,.int e.2])/\At H e.1 ta
theorem RwAt.mono {H H':Hp} (k:KT H H') {e:Th×Int} {p:Ul} (h:RwAt H e p):RwAt H' e p:=by
 obtain ⟨ta,h1,h2⟩:=h;exact ⟨ta,k _ _ h1,h2.mono k⟩
inductive jj (vs:List V) (H:Hp) (Q:VK) (_E:XK):Prop
 | mk (a:Ul) (t:Th) (Aw:vs=[.ref a]) (Ax:At H t a) (AE:t.size<=100000) (AQ:∀ H',L2.Same H H'->Q (.bl (decide (Small t))) H'):jj  vs H Q _E
def qd:Sp:=jj
set_option maxHeartbeats 2000000 in
theorem qf:FnOk P w K mg base CX0 4 T.g_is_small.f T.g_is_small.d ["pattern"] qd:=by
 refine T.g_is_small.F.ok dC (fun vs H Q E h=>?_) (fun Ao A outer s H vs Q E hr h=>?_)
 · obtain ⟨a,t,rfl,_⟩:=h;rfl
 obtain ⟨a,t,rfl,hA,AH,q⟩:=h
 refine ⟨_,(af (ar (i:=1) dC.nd rfl (UI rfl) (vb T.mk_Measure (lr T) (hr.mono (by first | decide | omega)) rfl T.x_Measure T.b_Measure_init .nil lS))
  (af (ar (i:=2) dC.nd rfl (UI rfl) (bg (aa (bi (aa (pv 0) (aa ad ac))) ac)))
  (af (mj Vy (aZ (pv 2) (fun _=>rfl)) (af (d7 (o7 UR Yk Yj oS (pv 2)) (jV rfl (bM (aB (i:=3) dC.nd rfl (UI rfl)) (bM (aB (i:=4) dC.nd rfl (Or.inr rfl)) fH))))
  (af (aN (cO (aZ (wO (pv 1) T.cl_Measure T.me_Measure_takes (j2 T) (hr.mono (by first | decide | omega)) T.b_Measure_takes .nil lS (aa (pv 3) (aa (pv 4) ac))) (fun _=>rfl))) (ai (aA dw)) aE)
  (ai (ba (bN UR PySem.F.slot_list_extend PySem.F.type_list_extend t9 (pv 2) (aa (bP (N:=[Ug "kid",Ug "row"]) (js:=[none,some 4]) (g:=(av 0)) (tt:=aU) (te:=(wK (bx (bK 0) (bx (tOp (rI0 fun i j=>.int (i+j)) (bK 1) (tC (.int 1))) de)))) rfl (cC rfl (by decide +kernel) (by decide +kernel) rfl rfl rfl) (cY (pcF T.g_kids_of (mn T) hr (aa (pv 3) ac))) (fun _ _ _ _ _ _=>(aB (i:=0) aa3 rfl (UI rfl))) (bo rfl) (fun _ _ _ _ _ _=>bQ) (fun _ _ _ _ _ _=>(bi (aa (pv 0) (aa (ak bq (pv 1) ad) ac))))) ac)))))))
  (ai (aA dw))))),?_⟩
 try dsimp only [AO,Ai]
 intro mo dx F9 J' Au;refine ⟨mo,dx,rfl,ae,fun H1 k1 Ot=>⟨rfl,?_⟩⟩
 have s0:L2.Same H (upd (upd H dx (.own mo)) mo (.ins T.e_Measure dx [])):=fun b o e=>by
  rw [au (aR e F9),au (aR e J')];exact e
 have s1:L2.Same H H1:=fun b o e=>k1 b o (aR e F9) (s0 b o e);refine ⟨_,rfl,aj (by show 2<=1000000;decide),fun p0 Ri=>?_⟩;dsimp only [av];have s2:L2.Same H1 (upd H1 p0 (.tup [.ref a,.int 1])):=ag Ri _;have e2:(upd H1 p0 (.tup [.ref a,.int 1])) p0=some (.tup [.ref a,.int 1]):=ae;generalize (upd H1 p0 (.tup [.ref a,.int 1]))=H2 at s2 e2 ⊢;refine ⟨aj (by show 1<=1000000;decide),fun ah Fo=>?_⟩;have s3:L2.Same H2 (upd H2 ah (.lst [.ref p0])):=ag Fo _;have e3:(upd H2 ah (.lst [.ref p0])) ah=some (.lst (([p0]:List Ul).map V.ref)):=ae;have IG:H ah=none:=(s1.trans s2).free Fo;have LR:mo≠ah:=fun z=>by rw [<- z,s2 _ _ Ot] at Fo;cases Fo
 generalize (upd H2 ah (.lst [.ref p0]))=H3 at s3 e3 ⊢;have C2:=s2.trans s3;refine ⟨fun m σ H4=>Ex6 fun (ps:List Ul) (As:List (Th×Int)) (k c:Int) (pv rv:Option V)=>yO (σ=[some (.ref a),some (.ref mo),some (.ref ah),pv,rv]) (L2.Same H H4) (H4 ah=some (.lst (ps.map V.ref))) (Vg (RwAt H4) As ps) (H4 mo=some (.ins T.e_Measure dx (mf k c))) (k+(kns (As.map (·.1)):Int)=(t.kn:Int)) (c+(eE (As.map (·.1)):Int)=(cnT t:Int)) (k<=400) (c<=200) ((∀ e∈As,e.2+(e.1.tall:Int)<=(t.tall:Int)+1)) (((t.tall:Int)<=20∨∃ e∈As,(t.tall:Int)+1<=e.2+(e.1.tall:Int))) (aC (As.map (·.1))<=100000) (m=aC (As.map (·.1))),⟨_,[p0],[(t,1)],0,0,none,none,rfl,s1.trans C2,e3,.cons ⟨a,s3 _ _ e2,hA.mono (Same.kt (s1.trans C2))⟩ .nil,C2 _ _ Ot,?_,?_,by decide,by decide,?_,?_,?_,rfl⟩,?_⟩
 · show (0:Int)+((kns [t]:Nat):Int)=_;rw [kns,kns];omega
 · show (0:Int)+((eE [t]:Nat):Int)=_;rw [eE,eE];omega
 · intro e he;rw [UW.mp he];show (1:Int)+(t.tall:Int)<=_;omega
 · exact .inr ⟨(t,1),Uy ..,by show _<=(1:Int)+(t.tall:Int);omega⟩
 · show aC [t]<=100000;rw [aC,aC];omega
 rintro m σ H4 ⟨ps,As,k,c,pv,rv,rfl,s4,e4,Ou,em,hk,hc,TZ,EI,hle,Ov,LS,rfl⟩;refine ⟨_,rfl,_,.inl ⟨_,SqL.of e4,rfl⟩,?_⟩;refine cg (fun cc=>?_) (fun cc=>?_)
 · refine ⟨fun f' H'=>∃ m',m'<aC (As.map (·.1))/\Ex6 fun (ps:List Ul) (As:List (Th×Int)) (k c:Int) (pv rv:Option V)=>yO (f'=[some (.ref a),some (.ref mo),some (.ref ah),pv,rv]) (L2.Same H H') (H' ah=some (.lst (ps.map V.ref))) (Vg (RwAt H') As ps) (H' mo=some (.ins T.e_Measure dx (mf k c))) (k+(kns (As.map (·.1)):Int)=(t.kn:Int)) (c+(eE (As.map (·.1)):Int)=(cnT t:Int)) (k<=400) (c<=200) ((∀ e∈As,e.2+(e.1.tall:Int)<=(t.tall:Int)+1)) (((t.tall:Int)<=20∨∃ e∈As,(t.tall:Int)+1<=e.2+(e.1.tall:Int))) (aC (As.map (·.1))<=100000) (m'=aC (As.map (·.1))),fun f' H' h=>h,?_⟩;have Cg:ps≠[]:=by intro z;subst z;simp at cc
   refine hid fun ZZ kZ=>?_;obtain ⟨C3,b,rfl⟩:∃ C3 b,ps=C3++[b]:=⟨ps.dropLast,ps.getLast Cg,(WK Cg).symm⟩;obtain ⟨Us,⟨x,r⟩,rfl,Ow,ta,eb,hx⟩:=P2.snoc_inv Ou;refine kZ ?_;have IH:(Us++[(x,r)]).map (·.1)=Us.map (·.1)++[x]:=by rw [UC];rfl
   rw [IH] at hk hc LS;rw [l5,kns,kns,zF] at hk;rw [kG,eE,eE,zO] at hc;rw [bX,aC,aC,x.size_eq] at LS;have Rj:=hle (x,r) (UU _ (Uy ..));dsimp only at Rj;have Ki:=x.tall_eq;refine ⟨_,rfl,.inl ⟨rfl,_,SqL.of e4⟩,ah,_,.ref b,rfl,rfl,e4,by simp,?_⟩;have d1:((C3++[b]).map V.ref).dropLast=C3.map V.ref:=by simp
   rw [d1];have k5:KT H4 (upd H4 ah (.lst (C3.map V.ref))):=bp e4;have s5:L2.Same H (upd H4 ah (.lst (C3.map V.ref))):=aI s4 IG;have e5:(upd H4 ah (.lst (C3.map V.ref))) ah=some (.lst (C3.map V.ref)):=ae;have Kj:(upd H4 ah (.lst (C3.map V.ref))) mo=some (.ins T.e_Measure dx (mf k c)):=by rw [au LR];exact em
   generalize (upd H4 ah (.lst (C3.map V.ref)))=H5 at k5 s5 e5 Kj ⊢;refine ⟨b,_,rfl,SqT.of (k5 _ _ eb),rfl,_,_,rfl,_,_,rfl,rfl,?_⟩;dsimp only [av];refine aP (fun f' H6=>Ex2 fun (k' c':Int)=>An6 (k'=(if x.isCall=true then k else k+1)) (c'=(if x.isCall=true then c+1 else c)) ((∀ b o,b≠mo->H5 b=some o->H6 b=some o)) (H6 mo=some (.ins T.e_Measure dx (mf k' c'))) ((r<=20/\k'<=400/\c'<=200)) (f'=[some (.ref a),some (.ref mo),some (.ref ah),some (.ref ta),some (.int r)])) (fun kk DC=>?_) ?_
   · refine b8 (fun bb H6=>Ex2 fun (k' c':Int)=>An5 (k'=(if x.isCall=true then k else k+1)) (c'=(if x.isCall=true then c+1 else c)) ((∀ b o,b≠mo->H5 b=some o->H6 b=some o)) (H6 mo=some (.ins T.e_Measure dx (mf k' c'))) (bb=!decide (r<=20/\k'<=400/\c'<=200))) (fun k2 Br=>?_) (fun H6 hb=>?_) (fun H6 hb=>?_)
     · refine ⟨_,rfl,mo,dx,_,rfl,Kj,zE k c (by decide +kernel) (by decide +kernel),_,rfl,_,rfl,mo,dx,ta,k,c,r,x,rfl,Kj,hx.mono k5,fun k' c' H6 h1 h2 h3 h4=>?_⟩;exact ⟨_,rfl,Br _ _ ⟨k',c',h1,h2,h3,h4,rfl⟩⟩
     · refine hid fun ZZ kZ=>?_;obtain ⟨k',c',h1,h2,h3,h4,h5⟩:=hb;refine kZ ?_;have Az:¬ (r<=20/\k'<=400/\c'<=200):=fun z=>by rw [decide_eq_true z] at h5;cases h5
       have EL:decide (Small t)=false:=decide_eq_false fun z=>Az (by
        obtain ⟨z1,z2,z3⟩:=z;refine ⟨by omega,?_,?_⟩
        · rw [h1];split at hk <;> split <;> first | omega | contradiction
        · rw [h2];split at hc <;> split <;> first | omega | contradiction)
       have s6:L2.Same H H6:=fun b o e=>h3 b o (aR e F9) (s5 b o e);rw [EL] at q;exact q H6 s6
     · refine hid fun ZZ kZ=>?_;obtain ⟨k',c',h1,h2,h3,h4,h5⟩:=hb;refine kZ ?_
       have DA:r<=20/\k'<=400/\c'<=200:=of_decide_eq_true (by
        cases hd:decide (r<=20/\k'<=400/\c'<=200) with
        | true=>rfl
        | false=>rw [hd] at h5;cases h5)
       exact DC _ _ ⟨k',c',h1,h2,h3,h4,DA,rfl⟩
   rintro f' H6 ⟨k',c',h1,h2,h3,h4,⟨Rk,LU,LV⟩,rfl⟩;have k6:KT H5 H6:=fun b xs e=>h3 b _ (fun z=>by rw [z,Kj] at e;cases e) e;have s6:L2.Same H H6:=fun b o e=>h3 b o (aR e F9) (s5 b o e);have e6:H6 ah=some (.lst (C3.map V.ref)):=h3 _ _ LR.symm e5;have Ox:=k5.trans k6;refine ⟨_,rfl,.inl ⟨rfl,_,SqL.of e6⟩,_,rfl,ta,x,rfl,hx.mono Ox,fun ka Ah H7 s7 ek AS=>?_⟩;have A8:Ah.length=x.kids.length:=AS.length;have T1:=db x.kids;refine ⟨ka,rfl,⟨_,SqT.of ek⟩,fO (F:=RwAt) (xs:=Ah.map V.ref) (x.kids.map fun u=>(u,r+1)) (fun H1 H2 z p kt h=>h.mono kt) (by rw [Ue,Ue];omega) (by rw [Ue];omega) (fun i Hx sx hi=>⟨_,_,SqT.of (sx _ _ ek),Uh hi⟩) (fun Hx sx=>⟨_,SqT.of (sx _ _ ek),Uq _⟩) (fun i Hx x Hy sx hi hy=>⟨hy.1,hy.2 _ (SqT.of (sx _ _ ek))⟩) (fun i y z Hx R W' hy Cq sx hR=>?_) (fun D H8 bs hD s8 eD Cf=>?_)⟩
   · obtain ⟨ua,rfl,LW⟩:=bu hy;obtain ⟨u,hu,LX⟩:=AS.get LW;rw [Ut,hu] at Cq;cases Cq;refine ⟨_,rfl,_,rfl,_,_,rfl,rfl,aj (by show 2<=1000000;decide),fun p1 Ez=>?_⟩;exact hR _ p1 (ag Ez _) ⟨ua,ae,LX.mono (Same.kt (sx.trans (ag Ez _)))⟩
   have T2:Us.length=C3.length:=UK Ow;have B6:(x.kids.map fun u=>(u,r+1)).length=bs.length:=UK Cf;rw [Ue] at B6;have Rl:=db (Us.map (·.1));rw [Ue] at Rl;have Kk:=s7.trans s8;have e8:=Kk _ _ e6;refine ⟨ah,D,_,_,rfl,rfl,e8,eD,Yg (bj (by rw [Ue,Ue];omega)),?_⟩;have k9:KT H8 (upd H8 ah (.lst (C3.map V.ref++bs.map V.ref))):=bp e8;have s9:L2.Same H (upd H8 ah (.lst (C3.map V.ref++bs.map V.ref))):=aI (s6.trans Kk) IG
   have hm2:(Us++x.kids.map fun u=>(u,r+1)).map (·.1)=Us.map (·.1)++x.kids:=by
    rw [UC,We];congr 1;exact List.map_id' _
   refine ⟨aC ((Us++x.kids.map fun u=>(u,r+1)).map (·.1)),?_,C3++bs,Us++(x.kids.map fun u=>(u,r+1)),k',c',_,_,rfl,s9,?_,?_,?_,?_,?_,LU,LV,?_,?_,?_,rfl⟩
   · rw [hm2,IH,bX,bX,aC,aC,x.size_eq];omega
   · rw [ae,UC]
   · exact P2.append (P2.mp (fun _ _ e=>e.mono ((Ox.trans (Same.kt Kk)).trans k9)) Ow) (P2.mp (fun _ _ e=>e.mono k9) Cf)
   · rw [au LR];exact Kk _ _ h4
   · rw [hm2,l5,h1];split at hk <;> split <;> first | omega | contradiction
   · rw [hm2,kG,h2];split at hc <;> split <;> first | omega | contradiction
   · intro e he;rcases UP.mp he with he | he
     · exact hle e (VH _ he)
     · obtain ⟨u,hu,rfl⟩:=Vq.mp he;have:=eB hu;dsimp only;omega
   · rcases Ov with h | ⟨e,he,LY⟩
     · exact .inl h
     · rcases UP.mp he with he | he
       · exact .inr ⟨e,VH _ he,LY⟩
       · rw [UW.mp he] at LY;dsimp only at LY;by_cases hz:x.kids=[]
         · rw [hz,aL] at Ki;exact .inl (by omega)
         · obtain ⟨u,hu,eu⟩:=wb hz;exact .inr ⟨(u,r+1),UU _ (Vq.mpr ⟨u,hu,rfl⟩),by dsimp only;omega⟩
   · rw [hm2,bX];omega
 · have hz:ps=[]:=by
    cases ps with
    | nil=>rfl
    | cons y ys=>simp at cc
   subst hz;have LQ:As=[]:=U9.mp (UK Ou);subst LQ;have A7:k+((kns []:Nat):Int)=(t.kn:Int):=hk;have BY:c+((eE []:Nat):Int)=(cnT t:Int):=hc;rw [kns] at A7;rw [eE] at BY
   have Rm:(t.tall:Int)<=20:=by
    rcases Ov with h | ⟨e,he,_⟩
    · exact h
    · cases he
   have LZ:decide (Small t)=true:=decide_eq_true ⟨by omega,by omega,by omega⟩;rw [LZ] at q;exact q H4 s4
inductive hZ (vs:List V) (H:Hp) (Q:VK) (_E:XK):Prop
 | mk (i:Int) (Aw:vs=[.int i]) (Ax:Q (.bl true) H):hZ  vs H Q _E
def ox:Sp:=hZ
theorem pd:FnOk P w K mg base CX0 1 T.g_is_number.f T.g_is_number.d ["thing"] ox:=by
 refine T.g_is_number.F.ok o4 (fun vs H Q E h=>?_) (fun Ao A outer s H vs Q E hr h=>?_)
 · obtain ⟨i,rfl,_⟩:=h;rfl
 obtain ⟨i,rfl,k⟩:=h;refine ⟨_,(ai (aA (eY (aq (dS (T:="int")) rfl T.n_isinstance Vw (aa (pv 0) (aa (fD (v:=.ty "int") rfl T.n_int PyProof.Rows.boot_int rfl) ac))) (gK (rH (aq (dS (T:="bool")) rfl T.n_isinstance Vw (aa (pv 0) (aa (fD (v:=.ty "bool") rfl T.n_bool PyProof.Rows.boot_bool rfl) ac)))))))),?_⟩
 try dsimp only [AO,Ai]
 refine ⟨_,rfl,_,_,_,rfl,.int i,zb,_,rfl,?_⟩;refine bG ?_;exact ⟨_,rfl,_,_,_,rfl,.int i,yr,_,rfl,k⟩
inductive je (vs:List V) (H:Hp) (Q:VK) (_E:XK):Prop
 | mk (i b:Int) (Aw:vs=[.int i,.int b]) (Ax:Q (.bl (decide (0<=i/\i<b))) H):je  vs H Q _E
def qj:Sp:=je
theorem gq:FnOk P w K mg base CX0 2 T.g_is_below.f T.g_is_below.d ["number","bound"] qj:=by
 refine T.g_is_below.F.ok pR (fun vs H Q E h=>?_) (fun Ao A outer s H vs Q E hr h=>?_)
 · obtain ⟨i,b,rfl,_⟩:=h;rfl
 obtain ⟨i,b,rfl,k⟩:=h;refine ⟨_,(ai (aA (eY (pcF T.g_is_number (pd T) hr (aa (pv 0) ac)) (gK (qJ ik gx ad (pv 0) (pv 1)))))),?_⟩
 try dsimp only [AO,Ai]
 refine ⟨_,rfl,i,rfl,_,rfl,?_⟩;refine bG ?_;refine ⟨_,rfl,_,_,rfl,rfl,_,rfl,?_⟩;refine cg (fun c=>?_) (fun c=>?_)
 · have c':0<=i:=of_decide_eq_true c;refine ⟨_,rfl,_,_,rfl,rfl,?_⟩;have e:decide (0<=i/\i<b)=decide (i<b):=by simp [c']
   rw [e] at k;exact k
 · have c':¬ 0<=i:=fun z=>c (decide_eq_true z);have e:decide (0<=i/\i<b)=false:=by simp [c']
   rw [e] at k;exact k
inductive kO (vs:List V) (H:Hp) (Q:VK) (_E:XK):Prop
 | mk (z:UA) (Aw:vs=[.str z]) (Ax:z.length<=100000) (AE:∀ H',L2.Same H H'->Q (.bl (aS z)) H'):kO  vs H Q _E
def rc:Sp:=kO
theorem iF:FnOk P w K mg base CX0 1 T.g_is_name.f T.g_is_name.d ["thing"] rc:=by
 refine T.g_is_name.F.ok sP (fun vs H Q E h=>?_) (fun Ao A outer s H vs Q E hr h=>?_)
 · obtain ⟨z,rfl,_⟩:=h;rfl
 obtain ⟨z,rfl,hz,k⟩:=h
 refine ⟨_,(af (aN (PW.pt (fS (cO (aZ (aq (dS (T:="str")) rfl T.n_isinstance Vw (aa (pv 0) (aa (fD (v:=.ty "str") rfl T.n_str WW rfl) ac))) (fun _=>rfl))) (eW (cO (jv ik ik ad (aq fN rfl T.n_len UL (aa (pv 0) ac)) (ck (v:=.int (8)) rfl T.c_MOST_LETTERS.choose_spec ⟨_,rfl⟩)))))) (ai (aA dw)) aE)
  (ai (aA (aq (qu rfl) rfl T.n_all PyProof.Rows.boot_all (aa (bP (N:=[Ug "sign"]) (js:=[none]) (g:=(av 0)) (tt:=aU) (te:=(pH (u9) (u9) (tC (.str (Ug "a"))) (bK 0) (tC (.str (Ug "z"))))) rfl (cC rfl (by decide +kernel) (by decide +kernel) rfl rfl rfl) (vF (pv 0)) (fun _ _ _ _ _ _=>(aB (i:=0) aax rfl (UI rfl))) (bo rfl) (fun _ _ _ _ _ _=>bQ) (fun _ _ _ _ _ _=>(qJ gP gP aw (pv 0) aw))) ac))))),?_⟩
 try dsimp only [AO,Ai]
 refine ⟨_,rfl,_,_,_,rfl,.str z,yW,_,rfl,?_⟩;refine bH ?_;refine ⟨_,rfl,_,rfl,aj (by omega),_,_,rfl,rfl,_,rfl,?_⟩;refine cg (fun c1=>?_) (fun c1=>?_)
 · have ES:1<=(z.length:Int):=of_decide_eq_true c1;refine ⟨_,_,rfl,rfl,_,rfl,?_⟩;refine cg (fun c2=>?_) (fun c2=>?_)
   · have kk:=k H (.refl _)
     have e:aS z=false:=by
      unfold aS;rw [decide_eq_false (fun h=>?_)]
      · rfl
      · rw [decide_eq_true (show (z.length:Int)<=8 by omega)] at c2;cases c2
     rw [e] at kk;exact kk
   · have II:z.length<=8:=by
      by_cases h:z.length<=8
      · exact h
      · rw [decide_eq_false (show ¬ (z.length:Int)<=8 by omega)] at c2;exact absurd rfl c2
     have e:aS z=low z:=by
      unfold aS;rw [decide_eq_true (show 1<=z.length/\z.length<=8 from ⟨by omega,II⟩)];rfl
     rw [e] at k;refine ⟨_,rfl,z,rfl,re (fun c=>decide (97<=c/\c<=122)) (by show z.length<=100000;exact hz) (fun c H1 Q' W' _ hQ=>?_) (fun D H' hD s1 e1=>?_)⟩
     · refine ⟨_,rfl,_,_,rfl,rfl,_,rfl,?_⟩;rw [show (Ug "a").cps.toList=[97] by decide +kernel];rw [oX 97 c];refine cg (fun d1=>?_) (fun d1=>?_)
       · have L3:97<=c:=of_decide_eq_true d1;refine ⟨_,_,rfl,rfl,?_⟩;rw [show (Ug "z").cps.toList=[122] by decide +kernel,oX c 122];have e2:decide (97<=c/\c<=122)=decide (c<=122):=by simp [L3]
         rw [e2] at hQ;exact hQ
       · have L3:¬ 97<=c:=fun z=>d1 (decide_eq_true z);have e2:decide (97<=c/\c<=122)=false:=decide_eq_false fun z=>L3 z.1;rw [e2] at hQ;exact hQ
     · refine ⟨D,_,rfl,SqL.of e1,?_⟩;rw [show ((z.cps.toList.map fun c=>decide (97<=c/\c<=122)).all id)=low z by unfold low;rw [ZX];rfl];exact k H' s1
 · have kk:=k H (.refl _)
   have e:aS z=false:=by
    unfold aS;rw [decide_eq_false (fun h=>c1 (decide_eq_true (by omega)))];rfl
   rw [e] at kk;refine ⟨_,rfl,bG ?_⟩;exact kk
def ci (k:UA×Int):Bool:=aS k.1 && decide (0<=k.2/\k.2<4)
inductive kL (vs:List V) (H:Hp) (Q:VK) (_E:XK):Prop
 | mk (a:Ul) (k:UA×Int) (Aw:vs=[.ref a]) (Ax:H a=some (.tup [.str k.1,.int k.2])) (AE:k.1.length<=100000) (AQ:∀ H',L2.Same H H'->Q (.bl (ci k)) H'):kL  vs H Q _E
def mT:Sp:=kL
theorem rk:FnOk P w K mg base CX0 3 T.g_is_kind.f T.g_is_kind.d ["pair"] mT:=by
 refine T.g_is_kind.F.ok rJ (fun vs H Q E h=>?_) (fun Ao A outer s H vs Q E hr h=>?_)
 · obtain ⟨a,z,rfl,_⟩:=h;rfl
 obtain ⟨a,⟨z,n⟩,rfl,ha,hz,k⟩:=h;refine ⟨_,(ai (aA (eY (bZ cb (aq al rfl T.n_len UL (aa (pv 0) ac)) ad (az _)) (eY (pcF T.g_is_name (iF T) hr (aa (ao ay (pv 0) ad (fun _ _=>rfl)) ac)) (gK (pcF T.g_is_below (gq T) hr (aa (ao ay (pv 0) ad (fun _ _=>rfl)) (aa (ak bq (ck (v:=.int (3)) rfl T.c_MOST_KIDS.choose_spec ⟨_,rfl⟩) ad) ac)))))))),?_⟩
 try dsimp only [AO,Ai]
 refine ⟨_,rfl,a,_,rfl,.inr (SqT.of ha),rfl,_,rfl,?_⟩;refine bG ?_;refine ⟨_,rfl,a,_,0,.str z,rfl,rfl,SqT.of ha,at0,z,rfl,hz,fun H1 s1=>?_⟩;refine ⟨_,rfl,?_⟩;refine cg (fun c=>?_) (fun c=>?_)
 · refine ⟨_,rfl,a,_,1,.int n,rfl,rfl,SqT.of (s1 _ _ ha),at1,_,_,rfl,rfl,n,_,rfl,?_⟩;have kk:=k H1 s1;unfold ci at kk;rw [show aS z=true from c,Xz] at kk;exact kk
 · have kk:=k H1 s1;unfold ci at kk;have c':aS z=false:=VB.mpr c;rw [c',Xr] at kk;exact kk
def aD (ks:List (UA×Int)):Bool:=decide (1<=ks.length/\ks.length<=8) && (ks.all ci && (decide ((ks.map (·.1)).Nodup) && decide ((0:Int)∈ks.map (·.2))))
inductive ig (K:Uj) (vs:List V) (H:Hp) (Q:VK) (_E:XK):Prop
 | mk (kr:Ul) (Ah:List Ul) (ks:List (UA×Int)) (Aw:vs=[.ref kr]) (Ax:SqT K H kr (Ah.map V.ref)) (AE:KsAt H ks Ah) (AQ:ks.length<=1000) (Bx:(∀ k∈ks,k.1.length<=100000)) (B':∀ H',L2.Same H H'->Q (.bl (aD ks)) H'):ig K vs H Q _E
def px (K:Uj):Sp:=ig K
theorem oO:FnOk P w K mg base CX0 4 T.g_are_kinds.f T.g_are_kinds.d ["kinds"] (px K):=by
 refine T.g_are_kinds.F.ok jo (fun vs H Q E h=>?_) (fun Ao A outer s H vs Q E hr h=>?_)
 · obtain ⟨kr,Ah,ks,rfl,_⟩:=h;rfl
 obtain ⟨kr,Ah,ks,rfl,hK,AS,hlen,L4,k⟩:=h
 refine ⟨_,(af (aN (PW.pt (fS (cO (jv ik ik ad (aq al rfl T.n_len UL (aa (pv 0) ac)) (ck (v:=.int (8)) rfl T.c_MOST_KINDS.choose_spec ⟨_,rfl⟩))) (eW (cO (aZ (aq (qu rfl) rfl T.n_all PyProof.Rows.boot_all (aa (bP (N:=[Ug "pair"]) (js:=[none]) (g:=(av 0)) (tt:=aU) (te:=(nW mT [] E0 (bx (bK 0) de))) rfl (cC rfl (by decide +kernel) (by decide +kernel) rfl rfl rfl) (cY (pv 0)) (fun _ _ _ _ _ _=>(aB (i:=0) sH rfl (UI rfl))) (bo rfl) (fun _ _ _ _ _ _=>bQ) (fun _ _ _ _ _ _=>(pcF T.g_is_kind (rk T) hr (aa (pv 0) ac)))) ac)) (fun _=>rfl)))))) (ai (aA dw)) aE)
  (af (ly (i:=1) (N:=[Ug "pair"]) (js:=[none]) (g:=(av 0)) (tt:=aU) (te:=(tOp (jU K) (bK 0) (tC (.int 0)))) jo.nd rfl (UI rfl) rfl (cC rfl (by decide +kernel) (by decide +kernel) rfl rfl rfl) (cY (pv 0)) (fun _ _ _ _ _ _=>(aB (i:=0) sH rfl (UI rfl))) (bo rfl) (fun _ _ _ _ _ _=>bQ) (fun _ _ _ _ _ _=>(ao ay (pv 0) ad (fun _ _=>rfl))))
  (ai (aA (eY (bZ cb (aq uu rfl T.n_len UL (aa (aX (uk rfl) rfl T.n_set PyProof.Rows.boot_set (aa (pv 1) ac)) ac)) (aq al rfl T.n_len UL (aa (pv 1) ac)) (az _)) (gK (bZ j3 ad (bP (N:=[Ug "pair"]) (js:=[none]) (g:=(av 0)) (tt:=aU) (te:=(tOp (jU K) (bK 0) (tC (.int 1)))) rfl (cC rfl (by decide +kernel) (by decide +kernel) rfl rfl rfl) (cY (pv 0)) (fun _ _ _ _ _ _=>(aB (i:=0) sH rfl (UI rfl))) (bo rfl) (fun _ _ _ _ _ _=>bQ) (fun _ _ _ _ _ _=>(ao ay (pv 0) ad (fun _ _=>rfl)))) (by with_unfolding_all rfl)))))))),?_⟩
 try dsimp only [AO,Ai]
 have A8:ks.length=Ah.length:=UK AS;refine ⟨_,rfl,kr,_,rfl,.inr hK,_,_,rfl,rfl,_,rfl,?_⟩;rw [Ue,<- A8]
 have Az:∀ Hx,L2.Same H Hx->aD ks=false->Q (.bl false) Hx:=fun Hx sx e=>by
  have kk:=k Hx sx;rw [e] at kk;exact kk
 have bad:¬ (1<=ks.length/\ks.length<=8)->aD ks=false:=fun z=>by
  unfold aD;rw [decide_eq_false z];rfl
 refine cg (fun c1=>?_) (fun c1=>?_)
 · have ES:(1:Int)<=(ks.length:Int):=of_decide_eq_true c1;refine ⟨_,_,rfl,rfl,_,rfl,?_⟩;refine cg (fun c2=>?_) (fun c2=>?_)
   · refine bG (Az H (.refl _) (bad fun z=>?_));rw [decide_eq_true (show (ks.length:Int)<=8 by omega)] at c2;cases c2
   · have II:ks.length<=8:=by
      by_cases h:ks.length<=8
      · exact h
      · rw [decide_eq_false (show ¬ (ks.length:Int)<=8 by omega)] at c2;exact absurd rfl c2
     have D9:aD ks=(ks.all ci && (decide ((ks.map (·.1)).Nodup) && decide ((0:Int)∈ks.map (·.2)))):=by
      unfold aD;rw [decide_eq_true (show 1<=ks.length/\ks.length<=8 from ⟨by omega,II⟩)];rfl
     refine ⟨_,rfl,kr,rfl,⟨_,hK⟩,dA ks (fun k=>V.bl (ci k)) hK (by rw [Ue];exact A8) (by rw [Ue];omega) (fun i x z H2 R W' hx hz s2 hR=>?_) (fun D H1 hD s1 e1=>?_)⟩
     · obtain ⟨ka,rfl,AZ⟩:=bu hx;obtain ⟨z',B8,ez⟩:=P2.get' AS AZ;rw [hz] at B8;cases B8;exact ⟨_,rfl,ka,z,rfl,s2 _ _ ez,L4 z (Ur hz),fun H3 s3=>hR H3 s3⟩
     · have L5:ks.map (fun k=>V.bl (ci k))=(ks.map ci).map V.bl:=by rw [We];rfl
       rw [L5] at e1;refine ⟨D,_,rfl,SqL.of e1,_,rfl,?_⟩;rw [show (ks.map ci).all id=ks.all ci by rw [ZX];rfl];refine cg (fun c3=>?_) (fun c3=>?_)
       · refine Az H1 s1 ?_;rw [D9]
         have:ks.all ci=false:=by
          cases h:ks.all ci with
          | false=>rfl
          | true=>rw [h] at c3;cases c3
         rw [this];rfl
       · have Am:ks.all ci=true:=by
          cases h:ks.all ci with
          | true=>rfl
          | false=>rw [h] at c3;exact absurd rfl c3
         rw [Am,Xz] at D9;have Ci:=AS.mono (Same.kt s1);refine ⟨_,rfl,kr,rfl,⟨_,s1.seqT hK⟩,dA ks (fun k=>V.str k.1) (s1.seqT hK) (by rw [Ue];exact A8) (by rw [Ue];omega) (fun i x z H2 R W' hx hz s2 hR=>?_) (fun D1 H2 T3 s2 e2=>?_)⟩
         · obtain ⟨ka,rfl,AZ⟩:=bu hx;obtain ⟨z',B8,ez⟩:=P2.get' Ci AZ;rw [hz] at B8;cases B8;exact ⟨_,rfl,ka,_,0,.str z.1,rfl,rfl,SqT.of (s2 _ _ ez),at0,hR H2 (.refl _)⟩
         · have en:ks.map (fun k=>V.str k.1)=(ks.map (·.1)).map V.str:=by rw [We];rfl
           rw [en] at e2;have C4:=s1.trans s2;refine ⟨_,rfl,D1,ks.map (·.1),rfl,SqL.of e2,by rw [Ue];omega,fun sa L6=>?_⟩;have s3:=fun o:HO=>ag L6 o;have C2:=fun o:HO=>C4.trans (s3 o);refine ⟨sa,ks.map (·.1),rfl,ae,_,rfl,D1,_,rfl,.inl (SqL.of (s3 _ _ _ e2)),rfl,_,rfl,?_⟩;have Fp:=qr (ks.map (·.1)) (ks.map (·.1)).length (Uq _);rw [Xn] at Fp;refine cg (fun c4=>?_) (fun c4=>?_)
           · have Rn:((dn (ks.map (·.1)) (ks.map (·.1)).length:Nat):Int)=(((ks.map (·.1)).map V.str).length:Int):=V.int.inj (of_decide_eq_true c4);rw [Ue (f:=V.str)] at Rn;have Ro:=Fp.mp (by omega);rw [decide_eq_true Ro,Xz] at D9;refine ⟨_,rfl,kr,rfl,⟨_,(C2 _).seqT hK⟩,dA ks (fun k=>V.int k.2) ((C2 _).seqT hK) (by rw [Ue];exact A8) (by rw [Ue];omega) (fun i x z H4 R W' hx hz s4 hR=>?_) (fun D3 H4 Rp s4 e4=>?_)⟩
             · obtain ⟨ka,rfl,AZ⟩:=bu hx;obtain ⟨z',B8,ez⟩:=P2.get' (AS.mono (Same.kt ((C2 _).trans s4))) AZ;rw [hz] at B8;cases B8;exact ⟨_,rfl,ka,_,1,.int z.2,rfl,rfl,SqT.of ez,at1,hR H4 (.refl _)⟩
             · have GO:inV (.int 0) (ks.map fun k=>V.int k.2)=decide ((0:Int)∈ks.map (·.2)):=by
                unfold inV;rw [List.any_map];by_cases h:(0:Int)∈ks.map (·.2)
                · rw [decide_eq_true h];obtain ⟨k',A7,e'⟩:=Vq.mp h;exact YY.mpr ⟨k',A7,by show eqV (.int k'.2) (.int 0)=true;rw [e'];rfl⟩
                · rw [decide_eq_false h];refine VB.mpr fun z=>h ?_;obtain ⟨k',A7,e'⟩:=YY.mp z;have CV:eqV (.int k'.2) (.int 0)=true:=e';exact Vq.mpr ⟨k',A7,by simpa [eqV] using CV⟩
               refine ⟨D3,_,rfl,.inl (SqL.of e4),rfl,?_,?_⟩
               · rw [ZX];exact Vo.mpr fun _ _=>rfl
               · have kk:=k H4 ((C2 _).trans s4);rw [D9,<- GO] at kk;exact kk
           · refine Az _ (C2 _) ?_;rw [D9,decide_eq_false (fun z=>c4 (decide_eq_true ?_))]
             · rfl
             · show V.int ((dn (ks.map (·.1)) (ks.map (·.1)).length:Nat):Int)=V.int (((ks.map (·.1)).map V.str).length:Int);rw [Fp.mpr z,Ue (f:=V.str)]
 · refine ⟨_,rfl,bG (Az H (.refl _) (bad fun z=>c1 (decide_eq_true (by omega))))⟩
def jZ (K:Uj) (H:Hp) (ks:List (UA×Int)) (a:Ul) (Ah:List Ul):Prop:=(SqL K H a (Ah.map V.ref)∨SqT K H a (Ah.map V.ref))/\KsAt H ks Ah/\ks.length<=1000/\∀ k∈ks,k.1.length<=100000
inductive im (K:Uj) (C:Ul) (vs:List V) (H:Hp) (Q:VK) (E:XK):Prop
 | mk (pr:Ul) (Ah:List Ul) (ks:List (UA×Int)) (Aw:vs=[.ref pr]) (Ax:jZ K H ks pr Ah) (AE:(aD ks=true->∀ (r:Ul) (H':Hp),L2.Same H H'->H' r=some (.tup (Ah.map V.ref))->Q (.ref r) H')) (AQ:(aD ks=false->∀ H',L2.Same H H'->E (.ref C) none H')):im K C vs H Q E
def oy (K:Uj) (C:Ul):Sp:=im K C
theorem oW {σ:St} {H:Hp} {ks:List (UA×Int)} {pr:Ul} {Ah:List Ul} {fin:Ul->Hp->Prop} (h:jZ K H ks pr Ah) (hq:∀ D H',L2.Same H H'->H' D=some (.lst (Ah.map V.ref))->fin D H') :
 ((∃ xs,SqL K H pr xs)/\∀ D,H D=none->∃ (n:Nat) (W:Nat->Hp->Prop),W 0 (upd H D (.lst []))/\da [none] (av 0) aU (tCB (fun xs H Q=>∃ p ys,xs=[.ref p]/\((SqL K H p ys/\∀ l,H l=none->Q (.ref l) (upd H l (.tup ys)))∨(SqT K H p ys/\Q (.ref p) H))) (bx (bK 0) de)) σ (Itl K pr) D n W fun H'=>fin D H') ∨
 ((∃ xs,SqT K H pr xs)/\∀ D,H D=none->∃ (n:Nat) (W:Nat->Hp->Prop),W 0 (upd H D (.lst []))/\da [none] (av 0) aU (tCB (fun xs H Q=>∃ p ys,xs=[.ref p]/\((SqL K H p ys/\∀ l,H l=none->Q (.ref l) (upd H l (.tup ys)))∨(SqT K H p ys/\Q (.ref p) H))) (bx (bK 0) de)) σ (Itt K pr) D n W fun H'=>fin D H'):=by
 obtain ⟨hS,AS,hlen,_⟩:=h;have A8:ks.length=Ah.length:=UK AS
 have step:∀ (i:Nat) (x:V) (z:Ul) (H2:Hp) (R:VK) (W':Hp->Prop),(Ah.map V.ref)[i]?=some x->Ah[i]?=some z->L2.Same H H2->(∀ H3,L2.Same H2 H3->R (.ref z) H3) →
  av 0 x (cσ [none] σ) H2 fun AA H3=>aU AA H3 fun b H4=>if b=true then (tCB (fun xs H Q=>∃ p ys,xs=[.ref p]/\((SqL K H p ys/\∀ l,H l=none->Q (.ref l) (upd H l (.tup ys)))∨(SqT K H p ys/\Q (.ref p) H))) (bx (bK 0) de)) AA H4 R else W' H4:=by
  intro i x z H2 R W' hx hz s2 hR;obtain ⟨ka,rfl,AZ⟩:=bu hx;rw [hz] at AZ;cases AZ;obtain ⟨z',B8,ez⟩:=P2.get' AS hz;exact ⟨_,rfl,z,_,rfl,.inr ⟨SqT.of (s2 _ _ ez),hR H2 (.refl _)⟩⟩
 rcases hS with hS | hS
 · exact .inl ⟨⟨_,hS⟩,pB Ah V.ref hS (by rw [Ue]) (by rw [Ue];omega) step fun D H' hD s1 e1=>hq D H' s1 e1⟩
 · exact .inr ⟨⟨_,hS⟩,dA Ah V.ref hS (by rw [Ue]) (by rw [Ue];omega) step fun D H' hD s1 e1=>hq D H' s1 e1⟩
theorem jp:FnOk P w K mg base (CX1 P w) 5 T.g_kinds_of.f T.g_kinds_of.d ["pairs"] (oy K T.e_NoKinds):=by
 refine T.g_kinds_of.F.ok1 kz (fun vs H Q E h=>?_) (fun Ao A outer s H vs Q E hr h=>?_)
 · obtain ⟨pr,Ah,ks,rfl,_⟩:=h;rfl
 obtain ⟨pr,Ah,ks,rfl,hp,k1,k2⟩:=h
 refine ⟨_,(af (ar (i:=1) kz.nd rfl (UI rfl) (aX bh rfl T.n_tuple Vn (aa (bP (N:=[Ug "pair"]) (js:=[none]) (g:=(av 0)) (tt:=aU) (te:=(tCB (fun xs H Q=>∃ p ys,xs=[.ref p]/\((SqL K H p ys/\∀ l,H l=none->Q (.ref l) (upd H l (.tup ys)))∨(SqT K H p ys/\Q (.ref p) H))) (bx (bK 0) de))) rfl (cC rfl (by decide +kernel) (by decide +kernel) rfl rfl rfl) (vZ (pv 0)) (fun _ _ _ _ _ _=>(aB (i:=0) sH rfl (UI rfl))) (bo rfl) (fun _ _ _ _ _ _=>bQ) (fun _ _ _ _ _ _=>(aX bh rfl T.n_tuple Vn (aa (pv 0) ac)))) ac)))
  (af (aN (cO (aZ (pcF T.g_are_kinds (oO T) hr (aa (pv 1) ac)) (fun _=>rfl))) (ai (bF T.X_NoKinds T.x_NoKinds aw)) aE)
  (ai (aA (pv 1))))),?_⟩
 try dsimp only [AO,Ai]
 refine ⟨_,rfl,pr,rfl,oW hp fun D H1 s1 e1=>?_⟩;refine ⟨D,_,rfl,.inl ⟨SqL.of e1,fun r Bv=>?_⟩⟩;have s2:=s1.trans (ag Bv (.tup (Ah.map V.ref)));refine hid fun ZZ kZ=>?_;obtain ⟨hS,AS,hlen,L4⟩:=hp;refine kZ ?_;refine ⟨_,rfl,r,Ah,ks,rfl,SqT.of ae,AS.mono (Same.kt s2),hlen,L4,fun H3 s3=>?_⟩;refine ⟨_,rfl,?_⟩;cases hok:aD ks with
 | false=>exact bG (k2 hok H3 (s2.trans s3))
 | true=>exact bH ⟨_,rfl,k1 hok r H3 (s2.trans s3) (s3 _ _ ae)⟩
inductive kU (K:Uj) (vs:List V) (H:Hp) (Q:VK) (_E:XK):Prop
 | mk (kr:Ul) (Ah:List Ul) (ks:List (UA×Int)) (n:UA) (Aw:vs=[.ref kr,.str n]) (Ax:SqT K H kr (Ah.map V.ref)) (AE:KsAt H ks Ah) (AQ:Q (.int (cI ks n)) H):kU K vs H Q _E
def qY (K:Uj):Sp:=kU K
theorem sN:FnOk P w K mg base CX0 1 T.g_many_of.f T.g_many_of.d ["kinds","name"] (qY K):=by
 refine T.g_many_of.F.ok iD (fun vs H Q E h=>?_) (fun Ao A outer s H vs Q E hr h=>?_)
 · obtain ⟨kr,Ah,ks,n,rfl,_⟩:=h;rfl
 obtain ⟨kr,Ah,ks,n,rfl,hK,AS,k⟩:=h
 refine ⟨_,(af (b9 Vy rfl (cY (pv 0)) (jV rfl (bM (aB (i:=2) iD.nd rfl (UI rfl)) (bM (aB (i:=3) iD.nd rfl (UI rfl)) fH))) (ai (aN (ax cb (pv 2) (pv 1) (az _)) (ai (aA (pv 3))) aE)))
  (ai (aA (oh jT ad)))),?_⟩
 try dsimp only [AO,Ai]
 refine ⟨_,rfl,kr,rfl,⟨_,hK⟩,?_⟩;have A8:ks.length=Ah.length:=UK AS;refine oI (K:=K) (a:=kr) (xs:=Ah.map V.ref) (fun i σ H2=>Ex2 fun c1 c2=>An3 (σ=[some (.ref kr),some (.str n),c1,c2]) (H2=H) (cI ks n=cI (ks.drop i) n)) ⟨none,none,rfl,rfl,by rw [VW]⟩ (fun i σ H2 _ ⟨_,_,_,e,_⟩=>by rw [e];exact hK) ?_ ?_
 · rintro i x σ H2 hx ⟨c1,c2,rfl,rfl,hm⟩;obtain ⟨ka,rfl,AZ⟩:=bu hx;obtain ⟨kd,BS,Rq⟩:=P2.get' AS AZ;have hi:i<ks.length:=(Uz.mp BS).1
   have hd:ks.drop i=kd::ks.drop (i+1):=by
    rw [Wu hi];congr 1;rw [Uh hi] at BS;exact UD BS
   rw [hd,cI] at hm;refine ⟨ka,_,rfl,SqT.of Rq,rfl,_,_,rfl,_,_,rfl,rfl,?_⟩;refine ⟨_,rfl,_,rfl,rfl,_,rfl,?_⟩;refine cg (fun c=>?_) (fun c=>?_)
   · have c':kd.1=n:=V.str.inj (of_decide_eq_true c);rw [if_pos c'] at hm;rw [hm] at k;exact ⟨_,rfl,k⟩
   · have c':¬ kd.1=n:=fun z=>c (decide_eq_true (congrArg V.str z));rw [if_neg c'] at hm;exact ⟨_,_,rfl,rfl,hm⟩
 · rintro σ H2 ⟨c1,c2,rfl,rfl,hm⟩;rw [Ue,<- A8,List.drop_length,cI] at hm;rw [hm] at k;exact ⟨_,rfl,k⟩
inductive fv (K:Uj) (vs:List V) (H:Hp) (Q:VK) (_E:XK):Prop
 | mk (kr a:Ul) (Ah:List Ul) (ks:List (UA×Int)) (t:Th) (st kd:Int) (Aw:vs=[.ref kr,.ref a,.int st,.int kd]) (Ax:SqT K H kr (Ah.map V.ref)) (AE:KsAt H ks Ah) (AQ:At H t a) (Bx:t.size<=100000) (B':∀ H',L2.Same H H'->Q (.bl (fpb ks st kd t)) H'):fv K vs H Q _E
def kW (K:Uj):Sp:=fv K
theorem lm:FnOk P w K mg base CX0 3 T.g_fits_pattern.f T.g_fits_pattern.d ["kinds","pattern","states","kids"] (kW K):=by
 refine T.g_fits_pattern.F.ok fY (fun vs H Q E h=>?_) (fun Ao A outer s H vs Q E hr h=>?_)
 · obtain ⟨kr,a,Ah,ks,t,st,kd,rfl,_⟩:=h;rfl
 obtain ⟨kr,a,Ah,ks,t,st,kd,rfl,hK,AS,hA,AH,k⟩:=h
 refine ⟨_,(af (b9 Vy rfl (eU (pcF T.g_walked (ub T) hr (aa (pv 1) ac))) (aB (i:=4) fY.nd rfl (UI rfl)) (ai (aN (aZ (pcF T.g_is_call (iO T) hr (aa (pv 4) ac)) (fun _=>rfl)) (ai (aN (PW.pt (fS (cO (aZ (pcF T.g_is_below (gq T) hr (aa (ao ay (pv 4) ad (fun _ _=>rfl)) (aa (pv 2) ac))) (fun _=>rfl))) (eW (cO (aZ (pcF T.g_is_below (gq T) hr (aa (ao ay (pv 4) ad (fun _ _=>rfl)) (aa (pv 3) ac))) (fun _=>rfl)))))) (ai (aA dw)) aE)) (ai (aN (ax fh (pcF T.g_many_of (sN T) hr (aa (pv 0) (aa (ao ay (pv 4) ad (fun _ _=>rfl)) ac))) (ak iG (aq al rfl T.n_len UL (aa (pv 4) ac)) ad) (az _)) (ai (aA dw)) aE)))))
  (ai (aA dw))),?_⟩
 try dsimp only [AO,Ai]
 refine ⟨_,rfl,a,t,rfl,hA,AH,fun r as H1 s1 nr er hw=>⟨r,rfl,⟨_,SqL.of er⟩,?_⟩⟩;have Dw:as.length=t.walk.length:=hw.length
 refine qF (K:=K) (a:=r) (xs:=as.map V.ref) (fun i σ H2=>Ex1 fun c=>An3 (σ=[some (.ref kr),some (.ref a),some (.int st),some (.int kd),c]) (L2.Same H1 H2) ((t.walk.take i).all (okP ks st kd)=true))
  ⟨none,rfl,.refl _,by rw [WC];rfl⟩ (fun i σ H2 _ ⟨_,_,s2,_⟩=>SqL.of (s2 _ _ er)) ?_ ?_
 · rintro i x σ H2 hx ⟨c,rfl,s2,Am⟩;obtain ⟨xa,rfl,Rr⟩:=bu hx;obtain ⟨tx,Oy,L7⟩:=hw.get Rr;have L8:=L7.mono (Same.kt s2);have C4:=s1.trans s2;have JY:t.walk.take (i+1)=t.walk.take i++[tx]:=by rw [XC,Oy];rfl
   have Az:okP ks st kd tx=false->fpb ks st kd t=false:=by
    intro z;unfold fpb;rw [VB];intro y;rw [Vo] at y;rw [y tx (Ur Oy)] at z;cases z
   have DA:okP ks st kd tx=true->(t.walk.take (i+1)).all (okP ks st kd)=true:=by
    intro z;rw [JY,List.all_append,Am];simp [z]
   refine ⟨_,rfl,xa,tx,rfl,L8,_,rfl,?_⟩;cases tx with
   | call sn kn =>
     refine bG ?_;have DD:=L8;rw [At] at DD;refine ⟨_,rfl,xa,_,1,_,rfl,rfl,SqT.of DD,at1,_,rfl,sn,st,rfl,_,rfl,?_⟩;refine cg (fun c1=>?_) (fun c1=>?_)
     · have e:fpb ks st kd t=false:=Az (by rw [okP];rw [Z1] at c1;rw [c1];rfl);have:=k H2 C4;rw [e] at this;exact bG this
     · refine ⟨_,rfl,xa,_,2,_,rfl,rfl,SqT.of DD,at2,_,rfl,kn,kd,rfl,_,rfl,?_⟩
       have ES:decide (0<=sn/\sn<st)=true:=by
        cases h:decide (0<=sn/\sn<st) with
        | true=>rfl
        | false=>rw [h] at c1;exact absurd rfl c1
       refine cg (fun c2=>?_) (fun c2=>?_)
       · have e:fpb ks st kd t=false:=Az (by rw [okP];rw [Z1] at c2;rw [ES,c2];rfl);have:=k H2 C4;rw [e] at this;exact this
       · have II:decide (0<=kn/\kn<kd)=true:=by
          cases h:decide (0<=kn/\kn<kd) with
          | true=>rfl
          | false=>rw [h] at c2;exact absurd rfl c2
         exact ⟨_,rfl,s2,DA (by rw [okP,ES,II];rfl)⟩
   | knot nm us =>
     refine bH ?_;have DD:=L8;rw [At] at DD;refine hid fun ZZ kZ=>?_;obtain ⟨Oz,ka,ek,AZ⟩:=DD;refine kZ ?_;have A8:ka.length=us.length:=AZ.length;refine ⟨_,rfl,_,rfl,xa,_,0,.str nm,rfl,rfl,SqT.of ek,at0,kr,Ah,ks,nm,rfl,C4.seqT hK,AS.mono (Same.kt C4),_,rfl,xa,_,rfl,.inr (SqT.of ek),_,_,rfl,rfl,rfl,_,rfl,?_⟩;have hlen:((V.str nm::ka.map V.ref).length:Int) - 1=(us.length:Int):=by rw [Ui,Ue,A8];omega
     refine cg (fun c=>?_) (fun c=>?_)
     · have hm:¬ cI ks nm=((us.length:Nat):Int):=fun z=>zU c (by rw [z,<- hlen]);have e:fpb ks st kd t=false:=Az (by rw [okP];exact decide_eq_false hm);have:=k H2 C4;rw [e] at this;exact this
     · have hm:cI ks nm=((us.length:Nat):Int):=by
        have:=V.int.inj (yH c);rw [this];exact hlen
       exact ⟨_,rfl,s2,DA (by rw [okP];exact decide_eq_true hm)⟩
 · rintro σ H2 ⟨c,rfl,s2,Am⟩;rw [Ue,Dw,Xn] at Am;have e:fpb ks st kd t=true:=Am;have:=k H2 (s1.trans s2);rw [e] at this;exact this
def mO (outs:List (UA×Int)) (st kd:Int) (t:Th):Prop:=Small t/\fpb outs st kd t=true
instance (outs:List (UA×Int)) (st kd:Int) (t:Th):Decidable (mO outs st kd t):=inferInstanceAs (Decidable (_/\_))
inductive d6 (K:Uj) (C:Ul) (vs:List V) (H:Hp) (Q:VK) (E:XK):Prop
 | mk (oa pa:Ul) (Ak:List Ul) (outs:List (UA×Int)) (t:Th) (st kd:Int) (Aw:vs=[.ref oa,.ref pa,.int st,.int kd]) (Ax:SqT K H oa (Ak.map V.ref)) (AE:KsAt H outs Ak) (AQ:At H t pa) (Bx:t.size<=100000) (B':(mO outs st kd t->∀ H',L2.Same H H'->Q .non H')) (DW:(¬ mO outs st kd t->∀ H',L2.Same H H'->E (.ref C) none H')):d6 K C vs H Q E
def iZ (K:Uj) (C:Ul):Sp:=d6 K C
theorem eO:FnOk P w K mg base (CX1 P w) 5 T.g_check_pattern.f T.g_check_pattern.d ["outs","pattern","states","kids"] (iZ K T.e_NoBook):=by
 refine T.g_check_pattern.F.ok1 kj (fun vs H Q E h=>?_) (fun Ao A outer s H vs Q E hr h=>?_)
 · obtain ⟨oa,pa,Ak,outs,t,st,kd,rfl,_⟩:=h;rfl
 obtain ⟨oa,pa,Ak,outs,t,st,kd,rfl,hS,AS,hA,AH,q1,q2⟩:=h
 refine ⟨_,(af (aN (cO (aZ (pcF T.g_is_small (qf T) hr (aa (pv 1) ac)) (fun _=>rfl))) (ai (bF T.X_NoBook T.x_NoBook aw)) aE)
  (ai (aN (cO (aZ (pcF T.g_fits_pattern (lm T) hr (aa (pv 0) (aa (pv 1) (aa (pv 2) (aa (pv 3) ac))))) (fun _=>rfl))) (ai (bF T.X_NoBook T.x_NoBook aw)) aE))),?_⟩
 try dsimp only [AO,Ai]
 refine ⟨_,rfl,pa,t,rfl,hA,AH,fun H1 s1=>⟨_,rfl,?_⟩⟩;by_cases c1:Small t
 · rw [decide_eq_true c1];refine bH ?_;refine ⟨_,rfl,_,rfl,_,rfl,_,rfl,oa,pa,Ak,outs,t,st,kd,rfl,s1.seqT hS,AS.mono (Same.kt s1),hA.mono (Same.kt s1),AH,fun H2 s2=>⟨_,rfl,?_⟩⟩;cases c2:fpb outs st kd t with
   | true=>exact bH (q1 ⟨c1,c2⟩ H2 (s1.trans s2))
   | false=>exact bG (q2 (fun z=>by rw [z.2] at c2;cases c2) H2 (s1.trans s2))
 · rw [decide_eq_false c1];exact bG (q2 (fun z=>c1 z.1) H1 s1)
def lC (ins outs:List (UA×Int)) (st:Int) (row:List Th):Prop:=row.length=ins.length/\∀ (j:Nat) (t:Th) (k:UA×Int),row[j]?=some t->ins[j]?=some k->mO outs st k.2 t
inductive fz (K:Uj) (C:Ul) (vs:List V) (H:Hp) (Q:VK) (E:XK):Prop
 | mk (ia oa ra:Ul) (ias Ak Ac:List Ul) (ins outs:List (UA×Int)) (row:List Th) (st:Int) (Aw:vs=[.ref ia,.ref oa,.ref ra,.int st]) (Ax:SqT K H ia (ias.map V.ref)) (AE:KsAt H ins ias) (AQ:SqT K H oa (Ak.map V.ref)) (Bx:KsAt H outs Ak) (B':H ra=some (.tup (Ac.map V.ref))) (DW:Ats H row Ac) (F0:(∀ t∈row,t.size<=100000)) (zz8:(lC ins outs st row->∀ H',L2.Same H H'->Q .non H')) (IJ:(¬ lC ins outs st row->∀ H',L2.Same H H'->E (.ref C) none H')):fz K C vs H Q E
def lh (K:Uj) (C:Ul):Sp:=fz K C
theorem lp:FnOk P w K mg base (CX1 P w) 6 T.g_check_state.f T.g_check_state.d ["ins","outs","patterns","states"] (lh K T.e_NoBook):=by
 refine T.g_check_state.F.ok1 dY (fun vs H Q E h=>?_) (fun Ao A outer s H vs Q E hr h=>?_)
 · obtain ⟨ia,oa,ra,ias,Ak,Ac,ins,outs,row,st,rfl,_⟩:=h;rfl
 obtain ⟨ia,oa,ra,ias,Ak,Ac,ins,outs,row,st,rfl,hI,Cj,hO,Dh,er,Ad,AH,q1,q2⟩:=h
 refine ⟨_,(af (aN (ax fh (aq al rfl T.n_len UL (aa (pv 2) ac)) (aq al rfl T.n_len UL (aa (pv 0) ac)) (az _)) (ai (bF T.X_NoBook T.x_NoBook aw)) aE)
  (ai (b9 Yu rfl (yP rfl T.n_zip (aa (pv 0) (aa (pv 2) ac))) (jV rfl (bM (aB (i:=4) dY.nd rfl (UI rfl)) (bM (aB (i:=5) dY.nd rfl (UI rfl)) fH))) (ai (ba (bc (eO T) (hr.mono (by first | decide | omega)) rfl T.g_check_pattern.m T.g_check_pattern.F.kp T.g_check_pattern.b .nil cP (aa (pv 1) (aa (pv 5) (aa (pv 3) (aa (ao ay (pv 4) ad (fun _ _=>rfl)) ac)))))))))),?_⟩
 try dsimp only [AO,Ai]
 have BQ:ins.length=ias.length:=UK Cj;have BE:Ac.length=row.length:=Ad.length;refine ⟨_,rfl,ra,_,rfl,.inr (SqT.of er),_,rfl,ia,_,rfl,.inr hI,rfl,_,rfl,?_⟩;refine cg (fun c=>?_) (fun c=>?_)
 · refine q2 (fun z=>?_) H (.refl _)
   have hz:((Ac.map V.ref).length:Int)=((ias.map V.ref).length:Int):=by
    rw [Ue,Ue];have:=z.1;omega
   rw [hz] at c;simp at c
 · have hlen:row.length=ins.length:=by
    by_cases z:V.int ((Ac.map V.ref).length:Int)=V.int ((ias.map V.ref).length:Int)
    · have z':=V.int.inj z;rw [Ue,Ue] at z';omega
    · exact absurd (by simpa using z) c
   refine ⟨_,rfl,_,rfl,ia,ra,rfl,⟨_,hI⟩,⟨_,SqT.of er⟩,?_⟩
   refine yz ins.length (fun j σ H7=>Ex2 fun c4 c5=>An3 (σ=[some (.ref ia),some (.ref oa),some (.ref ra),some (.int st),c4,c5]) (L2.Same H H7) (∀ (j':Nat) (t:Th) (k:UA×Int),j'<j->row[j']?=some t->ins[j']?=some k->mO outs st k.2 t))
    ⟨none,none,rfl,.refl _,fun j' t k h=>absurd h (Nat.not_lt_zero _)⟩ (fun j σ H7 hj ⟨_,_,_,s7,_⟩=>⟨_,_,_,_,s7.seqT hI,SqT.of (s7 _ _ er),Uh (by rw [Ue];omega),Uh (by rw [Ue];omega)⟩) (fun σ H7 ⟨_,_,_,s7,_⟩=>⟨_,_,s7.seqT hI,SqT.of (s7 _ _ er),.inl (by rw [Ue];omega)⟩) ?_ ?_
   · rintro j x σ H7 H8 hj ⟨c4,c5,rfl,s7,Am⟩ ⟨p2,x1,y1,L9,rfl,rfl,NZ,Rt⟩;refine hid fun ZZ kZ=>?_;obtain ⟨ka,rfl,AZ⟩:=bu (NZ _ (s7.seqT hI));obtain ⟨ta,rfl,C5⟩:=bu (Rt _ (SqT.of (s7 _ _ er)));obtain ⟨k,hk,ek⟩:=P2.get' Cj AZ;obtain ⟨t,ht,AI⟩:=Ad.get C5;refine kZ ?_;have s8:L2.Same H7 (upd H7 p2 (.tup [.ref ka,.ref ta])):=ag L9 _;have e8:(upd H7 p2 (.tup [.ref ka,.ref ta])) p2=some (.tup [.ref ka,.ref ta]):=ae;generalize (upd H7 p2 (.tup [.ref ka,.ref ta]))=H8 at s8 e8 ⊢;have GZ:=s7.trans s8;refine ⟨p2,_,rfl,SqT.of e8,rfl,_,_,rfl,_,_,rfl,rfl,?_⟩;refine ⟨_,rfl,_,rfl,_,rfl,_,rfl,ka,_,1,_,rfl,rfl,SqT.of (GZ _ _ ek),at1,oa,ta,Ak,outs,t,st,k.2,rfl,GZ.seqT hO,Dh.mono (Same.kt GZ),AI.mono (Same.kt GZ),AH t (Ur ht),fun hok H9 s9=>?_,fun Az H9 s9=>?_⟩
     · refine ⟨_,_,rfl,GZ.trans s9,fun j' t' k' Fq CG A7=>?_⟩;by_cases hz:j'<j
       · exact Am j' t' k' hz CG A7
       · have:j'=j:=by omega
         subst this;rw [ht] at CG;cases CG;rw [hk] at A7;cases A7;exact hok
     · exact q2 (fun z=>Az (z.2 j t k ht hk)) H9 (GZ.trans s9)
   · rintro σ H7 ⟨c4,c5,rfl,s7,Am⟩;exact q1 ⟨hlen,fun j t k ht hk=>Am j t k (Uz.mp hk).1 ht hk⟩ H7 s7
def SRow (H:Hp) (row:List Th) (a:Ul):Prop:=∃ Ac:List Ul,(H a=some (.lst (Ac.map V.ref))∨H a=some (.tup (Ac.map V.ref)))/\Ats H row Ac
theorem SRow.mono {H H':Hp} (s:L2.Same H H') {row:List Th} {a:Ul} (h:SRow H row a):SRow H' row a:=by
 obtain ⟨Ac,h1,h2⟩:=h;exact ⟨Ac,h1.imp (s _ _) (s _ _),h2.mono (Same.kt s)⟩
def SRows (H:Hp) (rows:List (List Th)) (a:Ul) (AV:List Ul):Prop:=(H a=some (.lst (AV.map V.ref))∨H a=some (.tup (AV.map V.ref)))/\Vg (SRow H) rows AV
theorem SRows.mono {H H':Hp} (s:L2.Same H H') {rows:List (List Th)} {a:Ul} {AV:List Ul} (h:SRows H rows a AV):SRows H' rows a AV:=⟨h.1.imp (s _ _) (s _ _),P2.mp (fun _ _ e=>e.mono s) h.2⟩
def cX (ins outs:List (UA×Int)) (head:Th) (rows:List (List Th)):Prop:=rows.length<=20/\mO outs (rows.length:Nat) 1 head/\∀ row∈rows,lC ins outs (rows.length:Nat) row
inductive gm (K:Uj) (CN CB:Ul) (vs:List V) (H:Hp) (Q:VK) (E:XK):Prop
 | mk (ia oa ha ru:Ul) (ias Ak AV:List Ul) (ins outs:List (UA×Int)) (head:Th) (rows:List (List Th)) (Aw:vs=[.ref ia,.ref oa,.ref ha,.ref ru]) (Ax:jZ K H ins ia ias) (AE:jZ K H outs oa Ak) (AQ:At H head ha) (Bx:head.size<=100000) (B':SRows H rows ru AV) (DW:rows.length<=1000) (F0:(∀ row∈rows,∀ t∈row,t.size<=100000)) (zz8:(aD ins=true->aD outs=true->cX ins outs head rows->∀ (r:Ul) (H':Hp),L2.Same H H'->Bk H' ins outs head rows r->Q (.ref r) H')) (IJ:(¬ (aD ins=true/\aD outs=true)->∀ H',L2.Same H H'->E (.ref CN) none H')) (ET:(aD ins=true->aD outs=true->¬ cX ins outs head rows->∀ H',L2.Same H H'->E (.ref CB) none H')):gm K CN CB vs H Q E
def ni (K:Uj) (CN CB:Ul):Sp:=gm K CN CB
theorem qq {σ:St} {H:Hp} {rows:List (List Th)} {ru:Ul} {AV:List Ul} {fin:Ul->Hp->Prop} (h:SRows H rows ru AV) (hn:rows.length<=1000) (hq:∀ D H' bs,L2.Same H H'->H' D=some (.lst (bs.map V.ref))->Vg (RowAt H') rows bs->fin D H') :
 ((∃ xs,SqL K H ru xs)/\∀ D,H D=none->∃ (n:Nat) (W:Nat->Hp->Prop),W 0 (upd H D (.lst []))/\da [none] (av 0) aU (tCB (fun xs H Q=>∃ p ys,xs=[.ref p]/\((SqL K H p ys/\∀ l,H l=none->Q (.ref l) (upd H l (.tup ys)))∨(SqT K H p ys/\Q (.ref p) H))) (bx (bK 0) de)) σ (Itl K ru) D n W fun H'=>fin D H') ∨
 ((∃ xs,SqT K H ru xs)/\∀ D,H D=none->∃ (n:Nat) (W:Nat->Hp->Prop),W 0 (upd H D (.lst []))/\da [none] (av 0) aU (tCB (fun xs H Q=>∃ p ys,xs=[.ref p]/\((SqL K H p ys/\∀ l,H l=none->Q (.ref l) (upd H l (.tup ys)))∨(SqT K H p ys/\Q (.ref p) H))) (bx (bK 0) de)) σ (Itt K ru) D n W fun H'=>fin D H'):=by
 obtain ⟨hS,AK⟩:=h;have B7:rows.length=AV.length:=UK AK
 have step:∀ (i:Nat) (x:V) (z:List Th) (H2:Hp) (R:VK) (W':Hp->Prop),(AV.map V.ref)[i]?=some x->rows[i]?=some z->L2.Same H H2->(∀ H3 p,L2.Same H2 H3->RowAt H3 z p->R (.ref p) H3) →
  av 0 x (cσ [none] σ) H2 fun AA H3=>aU AA H3 fun b H4=>if b=true then (tCB (fun xs H Q=>∃ p ys,xs=[.ref p]/\((SqL K H p ys/\∀ l,H l=none->Q (.ref l) (upd H l (.tup ys)))∨(SqT K H p ys/\Q (.ref p) H))) (bx (bK 0) de)) AA H4 R else W' H4:=by
  intro i x z H2 R W' hx hz s2 hR;obtain ⟨la,rfl,Bi⟩:=bu hx;obtain ⟨A9,AL,hl⟩:=P2.get' AK Bi;rw [hz] at AL;cases AL;obtain ⟨Ac,e1,h1⟩:=hl.mono s2;rcases e1 with e1 | e1
  · exact ⟨_,rfl,la,_,rfl,.inl ⟨SqL.of e1,fun l C9=>hR _ l (ag C9 _) ⟨Ac,ae,h1.mono (Same.kt (ag C9 _))⟩⟩⟩
  · exact ⟨_,rfl,la,_,rfl,.inr ⟨SqT.of e1,hR _ la (.refl _) ⟨Ac,e1,h1⟩⟩⟩
 rcases hS with hS | hS
 · exact .inl ⟨⟨_,SqL.of hS⟩,fO (F:=RowAt) (xs:=AV.map V.ref) rows (fun H1 H2 z p kt h=>h.mono kt) (by rw [Ue];omega) (by rw [Ue];omega) (fun i Hx sx hi=>⟨_,_,SqL.of (sx _ _ hS),Uh hi⟩) (fun Hx sx=>⟨_,SqL.of (sx _ _ hS),Uq _⟩) (fun i Hx x Hy sx hi hy=>⟨hy.1,hy.2 _ (SqL.of (sx _ _ hS))⟩) step fun D H3 bs hD s3 eD Cf=>hq D H3 bs s3 eD Cf⟩
 · exact .inr ⟨⟨_,SqT.of hS⟩,fO (F:=RowAt) (xs:=AV.map V.ref) rows (fun H1 H2 z p kt h=>h.mono kt) (by rw [Ue];omega) (by rw [Ue];omega) (fun i Hx sx hi=>⟨_,_,SqT.of (sx _ _ hS),Uh hi⟩) (fun Hx sx=>⟨_,SqT.of (sx _ _ hS),Uq _⟩) (fun i Hx x Hy sx hi hy=>⟨hy.1,hy.2 _ (SqT.of (sx _ _ hS))⟩) step fun D H3 bs hD s3 eD Cf=>hq D H3 bs s3 eD Cf⟩
set_option maxHeartbeats 2000000 in
theorem nk:FnOk P w K mg base (CX1 P w) 7 T.g_made_book.f T.g_made_book.d ["ins","outs","head","rules"] (ni K T.e_NoKinds T.e_NoBook):=by
 refine T.g_made_book.F.ok1 cZ (fun vs H Q E h=>?_) (fun Ao A outer s H vs Q E hr h=>?_)
 · obtain ⟨ia,oa,ha,ru,ias,Ak,AV,ins,outs,head,rows,rfl,_⟩:=h;rfl
 obtain ⟨ia,oa,ha,ru,ias,Ak,AV,ins,outs,head,rows,rfl,hI,hO,hd,Ru,AK,EU,L',q1,qk,q2⟩:=h
 refine ⟨_,(af (ar (i:=4) cZ.nd rfl (UI rfl) (bc (jp T) (hr.mono (by first | decide | omega)) rfl T.g_kinds_of.m T.g_kinds_of.F.kp T.g_kinds_of.b .nil cP (aa (pv 0) ac)))
  (af (ar (i:=5) cZ.nd rfl (UI rfl) (bc (jp T) (hr.mono (by first | decide | omega)) rfl T.g_kinds_of.m T.g_kinds_of.F.kp T.g_kinds_of.b .nil cP (aa (pv 1) ac)))
  (af (ar (i:=6) cZ.nd rfl (UI rfl) (aX bh rfl T.n_tuple Vn (aa (bP (N:=[Ug "patterns"]) (js:=[none]) (g:=(av 0)) (tt:=aU) (te:=(tCB (fun xs H Q=>∃ p ys,xs=[.ref p]/\((SqL K H p ys/\∀ l,H l=none->Q (.ref l) (upd H l (.tup ys)))∨(SqT K H p ys/\Q (.ref p) H))) (bx (bK 0) de))) rfl (cC rfl (by decide +kernel) (by decide +kernel) rfl rfl rfl) (vZ (pv 3)) (fun _ _ _ _ _ _=>(aB (i:=0) aaP rfl (UI rfl))) (bo rfl) (fun _ _ _ _ _ _=>bQ) (fun _ _ _ _ _ _=>(aX bh rfl T.n_tuple Vn (aa (pv 0) ac)))) ac)))
  (af (aN (ax kI (aq al rfl T.n_len UL (aa (pv 6) ac)) (ck (v:=.int (20)) rfl T.c_MOST_STATES.choose_spec ⟨_,rfl⟩) (az _)) (ai (bF T.X_NoBook T.x_NoBook aw)) aE)
  (af (ba (bc (eO T) (hr.mono (by first | decide | omega)) rfl T.g_check_pattern.m T.g_check_pattern.F.kp T.g_check_pattern.b .nil cP (aa (pv 5) (aa (pv 2) (aa (aq al rfl T.n_len UL (aa (pv 6) ac)) (aa ad ac))))))
  (af (b9 Yu rfl (cY (pv 6)) (aB (i:=7) cZ.nd rfl (UI rfl)) (ai (ba (bc (lp T) (hr.mono (by first | decide | omega)) rfl T.g_check_state.m T.g_check_state.F.kp T.g_check_state.b .nil cP (aa (pv 4) (aa (pv 5) (aa (pv 7) (aa (aq al rfl T.n_len UL (aa (pv 6) ac)) ac))))))))
  (ai (aA (bi (aa (pv 4) (aa (pv 5) (aa (pv 2) (aa (pv 6) ac))))))))))))),?_⟩
 try dsimp only [AO,Ai]
 refine hid fun ZZ kZ=>?_;obtain ⟨Rv,Cj,Rw,Rx⟩:=hI;obtain ⟨Ry,Dh,Rz,RA⟩:=hO;refine kZ ?_;refine ⟨_,rfl,ia,ias,ins,rfl,⟨Rv,Cj,Rw,Rx⟩,fun gi ti H1 s1 ei=>?_,fun gi H1 s1=>qk (fun z=>by rw [z.1] at gi;cases gi) H1 s1⟩;refine ⟨_,rfl,oa,Ak,outs,rfl,⟨?_,Dh.mono (Same.kt s1),Rz,RA⟩,fun go to H2 s2 eo=>?_,fun go H2 s2=>qk (fun z=>by rw [z.2] at go;cases go) H2 (s1.trans s2)⟩
 · rcases Ry with h | h
   · exact .inl (s1.seq h)
   · exact .inr (s1.seqT h)
 have C6:=s1.trans s2;replace q1:=q1 gi go;replace q2:=q2 gi go;refine ⟨_,rfl,ru,rfl,qq (AK.mono C6) EU fun D H3 bs s3 eD Cf=>?_⟩;have B6:rows.length=bs.length:=UK Cf;refine ⟨D,_,rfl,.inl ⟨SqL.of eD,fun rt RB=>?_⟩⟩;have s4:L2.Same H3 (upd H3 rt (.tup (bs.map V.ref))):=ag RB _;have e4:(upd H3 rt (.tup (bs.map V.ref))) rt=some (.tup (bs.map V.ref)):=ae;generalize (upd H3 rt (.tup (bs.map V.ref)))=H4 at s4 e4 ⊢;have Ma:=s3.trans s4;have D':=C6.trans Ma;have OA:Vg (RowAt H4) rows bs:=P2.mp (fun _ _ e=>e.mono (Same.kt s4)) Cf;have G0:((bs.map V.ref).length:Int)=(rows.length:Nat):=by rw [Ue,B6]
 refine ⟨_,rfl,rt,_,rfl,.inr (SqT.of e4),_,_,rfl,rfl,_,rfl,?_⟩;rw [G0];refine cg (fun c=>?_) (fun c=>?_)
 · refine q2 (fun z=>?_) H4 D';have:=of_decide_eq_true c;have:=z.1;omega
 have OB:rows.length<=20:=by
  by_cases z:((rows.length:Nat):Int) > 20
  · exact absurd (decide_eq_true z) c
  · omega
 have Mb:=Ma _ _ eo;have OC:=(s2.trans Ma) _ _ ei;refine ⟨_,rfl,_,rfl,_,rfl,rt,_,rfl,.inr (SqT.of e4),to,ha,Ak,outs,head,_,1,rfl,SqT.of Mb,Dh.mono (Same.kt D'),hd.mono (Same.kt D'),Ru,?_,?_⟩
 · rw [G0];intro hok H5 s5;dsimp only [wg];have EV:=D'.trans s5;refine ⟨_,rfl,rt,rfl,⟨_,SqT.of (s5 _ _ e4)⟩,?_⟩
   refine oI (K:=K) (a:=rt) (xs:=bs.map V.ref) (fun i σ H6=>Ex1 fun c7=>An3 (σ=[some (.ref ia),some (.ref oa),some (.ref ha),some (.ref ru),some (.ref ti),some (.ref to),some (.ref rt),c7]) (L2.Same H4 H6) (∀ row∈rows.take i,lC ins outs (rows.length:Nat) row))
    ⟨none,rfl,s5,fun row h=>by rw [WC] at h;cases h⟩ (fun i σ H6 _ ⟨_,_,s6,_⟩=>SqT.of (s6 _ _ e4)) ?_ ?_
   · rintro i x σ H6 hx ⟨c7,rfl,s6,Am⟩;refine hid fun ZZ kZ=>?_;obtain ⟨ra,rfl,G1⟩:=bu hx;obtain ⟨row,Ad,Ac,er,AI⟩:=P2.get' OA G1;refine kZ ?_;have G2:=Ur Ad;have Di:=D'.trans s6;refine ⟨_,rfl,_,rfl,_,rfl,_,rfl,rt,_,rfl,.inr (SqT.of (s6 _ _ e4)),ti,to,ra,ias,Ak,Ac,ins,outs,row,_,rfl,SqT.of (s6 _ _ OC),Cj.mono (Same.kt Di),SqT.of (s6 _ _ Mb),Dh.mono (Same.kt Di),s6 _ _ er,AI.mono (Same.kt s6),L' row G2,?_,?_⟩
     · rw [G0];intro AG H7 s7;refine ⟨_,rfl,s6.trans s7,fun r' Bv=>?_⟩;rw [take_snoc Ad] at Bv;rcases UP.mp Bv with Bv | Bv
       · exact Am r' Bv
       · rw [UW.mp Bv];exact AG
     · rw [G0];intro AG H7 s7;exact q2 (fun z=>AG (z.2.2 row G2)) H7 (Di.trans s7)
   · rintro σ H6 ⟨c7,rfl,s6,Am⟩;rw [U8 (by rw [Ue];omega)] at Am;refine ⟨_,rfl,_,rfl,_,rfl,_,rfl,aj (by show 4<=1000000;decide),fun r Bv=>?_⟩;have s7:=s6.trans (ag Bv (.tup [.ref ti,.ref to,.ref ha,.ref rt]));have Kl:=D'.trans s7;exact q1 ⟨OB,hok,Am⟩ r _ Kl ⟨ti,to,ha,rt,ias,Ak,bs,ae,s7 _ _ OC,Cj.mono (Same.kt Kl),s7 _ _ Mb,Dh.mono (Same.kt Kl),hd.mono (Same.kt Kl),s7 _ _ e4,P2.mp (fun _ _ e=>e.mono (Same.kt s7)) OA⟩
 · rw [G0];intro hok H5 s5;exact q2 (fun z=>hok z.2.1) H5 (D'.trans s5)
def qO:Sp:=fun vs H Q _=>∃ z:UA,vs=[.str z]/\z.length<=20000/\∀ (r:Ul) (H':Hp),L2.Same H H'->H r=none->H' r=some (.lst ((BB.wordsOf z).map V.str))->Q (.ref r) H'
theorem jm (c:Nat) (z:List Nat) (hz:z.length=3) (l:List Nat):(d2 c z l).length<=3 * l.length:=by
 unfold d2;induction l with
 | nil=>simp
 | cons d l ih =>
   rw [Xe,Uu,Ui];split
   · omega
   · show 1+_<=_;omega
theorem dO (l:List Nat):(ofL l).length=l.length:=by unfold ofL;show l.toArray.size=l.length;simp
theorem qH (l:List (List Nat)):(l.map ofL).filter (fun x=>!decide (V.str x=V.str (Ug "")))=(l.filter fun p=>!p.isEmpty).map ofL:=by
 induction l with
 | nil=>rfl
 | cons p l ih =>
   rw [UB,Xp,Xp,ih];cases p with
   | nil=>rfl
   | cons d p =>
     have:decide (V.str (ofL (d::p))=V.str (Ug ""))=false:=decide_eq_false fun z=>by
      have h1:=congrArg (fun w:UA=>w.cps.toList) (V.str.inj z);rw [show (ofL (d::p)).cps.toList=d::p from aM _] at h1;cases h1
     rw [this];rfl
set_option maxHeartbeats 1000000 in
theorem qD:FnOk P w K mg base CX0 1 T.g_words_of.f T.g_words_of.d ["text"] qO:=by
 refine T.g_words_of.F.ok f9 (fun vs H Q E h=>?_) (fun Ao A outer s H vs Q E hr h=>?_)
 · obtain ⟨z,rfl,_⟩:=h;rfl
 obtain ⟨z,rfl,hz,q⟩:=h
 refine ⟨_,(af (ar (i:=1) f9.nd rfl (UI rfl) (pv 0))
  (af (xi Vy rfl (by decide +kernel) (yy (i:=2) (j:=1) f9.nd rfl rfl (by decide) rfl rfl))
  (ai (aA (bP (N:=[Ug "word"]) (js:=[none]) (g:=(av 0)) (tt:=(l8 (tOp (rNe) (bK 0) (tC (.str (Ug "")))))) (te:=(bK 0)) rfl (cC rfl (by decide +kernel) (by decide +kernel) rfl rfl rfl) (eU (bN Vp Y4 Y2 lR (pv 1) (aa aw ac))) (fun _ _ _ _ _ _=>(aB (i:=0) zi rfl (UI rfl))) (bo rfl) (fun _ _ _ _ _ _=>jA (ax fh (pv 0) aw (az _))) (fun _ _ _ _ _ _=>(pv 0))))))),?_⟩
 try dsimp only [AO,Ai]
 refine ⟨_,rfl,?_⟩;dsimp only [av];have Mc:z.cps.toList.length=z.length:=UQ;have l1:=jm 40 [32,40,32] rfl z.cps.toList;have l2:=jm 41 [32,41,32] rfl (d2 40 [32,40,32] z.cps.toList);have l3:=jm 44 [32,44,32] rfl (d2 41 [32,41,32] (d2 40 [32,40,32] z.cps.toList));refine ⟨fun i σ H'=>An2 (H'=H) (((i=0/\σ=[some (.str z),some (.str z),none])∨(∃ c,i=1/\σ=[some (.str z),some (.str (ofL (d2 40 [32,40,32] z.cps.toList))),c])∨(∃ c,i=2/\σ=[some (.str z),some (.str (ofL (d2 41 [32,41,32] (d2 40 [32,40,32] z.cps.toList)))),c])∨(∃ c,i=3/\σ=[some (.str z),some (.str (ofL (rep3 z.cps.toList))),c]))),⟨rfl,.inl ⟨rfl,rfl⟩⟩,?_⟩;rintro i σ H' ⟨rfl,⟨rfl,rfl⟩ | ⟨c,rfl,rfl⟩ | ⟨c,rfl,rfl⟩ | ⟨c,rfl,rfl⟩⟩
 · refine .inr ⟨40,rfl,z,40,rfl,rfl,by decide,by omega,rfl,.inr (.inl ⟨_,rfl,rfl⟩)⟩
 · refine .inr ⟨41,rfl,_,41,rfl,rfl,by decide,by rw [dO];omega,rfl,.inr (.inr (.inl ⟨_,rfl,by rw [aM];rfl⟩))⟩
 · refine .inr ⟨44,rfl,_,44,rfl,rfl,by decide,by rw [dO];omega,rfl,.inr (.inr (.inr ⟨_,rfl,by rw [aM];rfl⟩))⟩
 · refine .inl ⟨rfl,?_⟩;refine ⟨_,rfl,rfl,ofL (rep3 z.cps.toList),Ug " ",rfl,rfl,rfl,by rw [dO];unfold rep3;omega,fun p hp=>?_⟩
   have B0:Wk (ofL (rep3 z.cps.toList)) (Ug " ")=(aH 32 (rep3 z.cps.toList)).map ofL:=by
    have h1:Ug " "=⟨#[32]⟩:=rfl;rw [h1,jI _ (by decide),aM]
   have Ga:(aH 32 (rep3 z.cps.toList)).length<=1000000:=by
    have hle:∀ l:List Nat,(aH 32 l).length<=l.length+1:=by
     intro l;induction l with
     | nil=>exact Uq _
     | cons d l ih =>
       rw [aH];obtain ⟨p,r,e⟩:=ce 32 l;rw [e] at ih ⊢;rw [Ui] at ih;split
       · rw [Ui,Ui,Ui];omega
       · rw [Ui,Ui];omega
    have:=hle (rep3 z.cps.toList);unfold rep3 at this ⊢;omega
   have s1:L2.Same H' (upd H' p (.lst ((Wk (ofL (rep3 z.cps.toList)) (Ug " ")).map V.str))):=ag hp _;have e1:(upd H' p (.lst ((Wk (ofL (rep3 z.cps.toList)) (Ug " ")).map V.str))) p=some (.lst (((aH 32 (rep3 z.cps.toList)).map ofL).map V.str)):=by rw [ae,B0]
   generalize (upd H' p (.lst ((Wk (ofL (rep3 z.cps.toList)) (Ug " ")).map V.str)))=H1 at s1 e1 ⊢;refine ⟨p,rfl,⟨_,SqL.of e1⟩,jr ((aH 32 (rep3 z.cps.toList)).map ofL) (fun x=>!decide (V.str x=V.str (Ug ""))) V.str (SqL.of e1) (by rw [Ue,Ue,Ue]) (by rw [Ue,Ue];exact Ga) (fun i x y H2 R hx hy sm r=>?_) (fun i x y H2 R hx hy _ sm r=>?_) (fun D hD=>?_)⟩
   · rw [Ut,hy] at hx;cases hx;exact ⟨_,rfl,rfl,_,rfl,r⟩
   · rw [Ut,hy] at hx;cases hx;exact ⟨_,rfl,r⟩
   · rw [qH];exact q D _ (s1.trans (ag hD _)) (s1.free hD) ae
def kY (C:Ul):Sp:=fun vs H Q E=>∃ z:UA,vs=[.str z]/\z.length<=100000/\(∀ n:Int,jD z=some n->∀ H',L2.Same H H'->Q (.int n) H')/\(jD z=none->∀ H',L2.Same H H'->E (.ref C) none H')
def jK (c:Nat):Bool:=decide (48<=c) && decide (c<=57)
theorem dU {z:UA}:isNum z=true↔(1<=z.length/\z.length<=3)/\((sL z).filter jK).length=z.length/\((sL z).head?=some 48->z=Ug "0"):=by
 unfold isNum;rw [Vv,Vv,Zb,decide_eq_true_iff,decide_eq_true_iff,decide_eq_true_iff,<- fu z,List.length_filter_eq_length_iff,Vo];have h0:z=Ug "0"↔sL z=[48]:=⟨fun e=>by rw [e];decide +kernel,fun e=>cE (by show sL z=_;rw [e];decide +kernel)⟩;rw [h0]
 have h1:(∀ x∈sL z,decide (48<=x/\x<=57)=true)↔∀ x∈sL z,jK x=true:=by
  refine forall_congr' fun x=>forall_congr' fun _=>?_;unfold jK;rw [Vv,decide_eq_true_iff,decide_eq_true_iff,decide_eq_true_iff]
 rw [h1,and_assoc];refine and_congr_right fun _=>and_congr_right fun _=>⟨fun h e=>h.elim (fun k=>absurd e k) id,fun h=>?_⟩;by_cases e:(sL z).head?=some 48
 · exact .inr (h e)
 · exact .inl e
set_option maxHeartbeats 1000000 in
theorem cK:FnOk P w K mg base (CX1 P w) 1 T.g_read_number.f T.g_read_number.d ["word"] (kY T.e_NoText):=by
 refine T.g_read_number.F.ok1 gF (fun vs H Q E h=>?_) (fun Ao A outer s H vs Q E hr h=>?_)
 · obtain ⟨z,rfl,_⟩:=h;rfl
 obtain ⟨z,rfl,Mc,q,qe⟩:=h
 refine ⟨_,(af (ly (i:=1) (N:=[Ug "sign"]) (js:=[none]) (g:=(av 0)) (tt:=(l8 (pH (u9) (u9) (tC (.str (Ug "0"))) (bK 0) (tC (.str (Ug "9")))))) (te:=(bK 0)) gF.nd rfl (UI rfl) rfl (cC rfl (by decide +kernel) (by decide +kernel) rfl rfl rfl) (vF (pv 0)) (fun _ _ _ _ _ _=>(aB (i:=0) aax rfl (UI rfl))) (bo rfl) (fun _ _ _ _ _ _=>jA (jv gP gP aw (pv 0) aw)) (fun _ _ _ _ _ _=>(pv 0)))
  (af (aN (PW.pt (fS (cO (jv ik ik ad (aq fN rfl T.n_len UL (aa (pv 0) ac)) (ck (v:=.int (3)) rfl T.c_MOST_FIGURES.choose_spec ⟨_,rfl⟩))) (eW (ax fh (aq al rfl T.n_len UL (aa (pv 1) ac)) (aq fN rfl T.n_len UL (aa (pv 0) ac)) (az _))))) (ai (bF T.X_NoText T.x_NoText aw)) aE)
  (af (aN (PW.pt (jG (ax cb (ao mx (pv 0) ad (fun _ _=>rfl)) aw (az _)) (gT (ax fh (pv 0) aw (az _))))) (ai (bF T.X_NoText T.x_NoText aw)) aE)
  (ai (aA (aX um rfl T.n_int PyProof.Rows.boot_int (aa (pv 0) ac))))))),?_⟩
 try dsimp only [AO,Ai]
 have AH:z.cps.size=z.length:=rfl;have hb:¬ isNum z=true->∀ H',L2.Same H H'->E (.ref T.e_NoText) none H':=fun h=>qe (uO.mpr (VB.mpr h));refine ⟨_,rfl,z,rfl,oA (xs:=z.cps.toList.map fun c=>V.str ⟨#[c]⟩) z.cps.toList jK (fun c=>V.str ⟨#[c]⟩) (by rw [Ue]) (by rw [Ue,UQ];omega) (fun i Hx sx hi=>by rw [Ue,UQ] at hi;exact hi) (fun Hx sx=>by rw [Ue,UQ];exact rfl) (fun i Hx x Hy sx hi hy=>?_) (fun i x c Hx R hx hc sx hR=>?_) (fun i x c Hx R hx hc _ sx hR=>?_) (fun D hD=>?_)⟩
 · obtain ⟨e,c,hc,rfl⟩:=hy;exact ⟨e,by rw [Ut,XB,hc];rfl⟩
 · rw [Ut,hc] at hx;cases hx;refine ⟨_,rfl,_,_,rfl,rfl,_,rfl,?_⟩;rw [show (Ug "0").cps.toList=[48] by decide +kernel,oX 48 c];unfold jK at hR;cases c1:decide (48<=c) with
   | false=>rw [c1] at hR;exact bH ⟨_,rfl,hR⟩
   | true =>
     rw [c1] at hR;refine bG ⟨_,_,rfl,rfl,?_⟩;rw [show (Ug "9").cps.toList=[57] by decide +kernel,oX c 57];exact ⟨_,rfl,hR⟩
 · rw [Ut,hc] at hx;cases hx;exact ⟨_,rfl,hR⟩
 have s1:L2.Same H (upd H D (.lst ((z.cps.toList.filter jK).map fun c=>V.str ⟨#[c]⟩))):=ag hD _;have e1:(upd H D (.lst ((z.cps.toList.filter jK).map fun c=>V.str ⟨#[c]⟩))) D=some (.lst ((z.cps.toList.filter jK).map fun c=>V.str ⟨#[c]⟩)):=ae;generalize (upd H D (.lst ((z.cps.toList.filter jK).map fun c=>V.str ⟨#[c]⟩)))=H1 at s1 e1 ⊢;dsimp only [av];have GX:(((z.cps.toList.filter jK).map fun c=>V.str ⟨#[c]⟩).length:Int)=(((sL z).filter jK).length:Nat):=by rw [Ue];rfl
 refine ⟨_,rfl,z,rfl,aj (by omega),_,_,rfl,rfl,_,rfl,?_⟩;by_cases c1:1<=z.length
 case neg =>
  rw [decide_eq_false (show ¬ (1:Int)<=((z.length:Nat):Int) by omega)];exact bH ⟨_,rfl,bG (hb (fun h=>c1 (dU.mp h).1.1) H1 s1)⟩
 rw [decide_eq_true (show (1:Int)<=((z.length:Nat):Int) by omega)];refine bG ⟨_,_,rfl,rfl,_,rfl,?_⟩;by_cases c2:z.length<=3
 case neg =>
  rw [decide_eq_false (show ¬ ((z.length:Nat):Int)<=3 by omega)];exact bG (hb (fun h=>c2 (dU.mp h).1.2) H1 s1)
 rw [decide_eq_true (show ((z.length:Nat):Int)<=3 by omega)];refine bH ?_;refine ⟨_,rfl,D,_,rfl,.inl (SqL.of e1),_,rfl,z,rfl,aj (by omega),rfl,_,rfl,?_⟩;rw [GX];by_cases c3:((sL z).filter jK).length=z.length
 case neg =>
  rw [decide_eq_false (show ¬ V.int (((sL z).filter jK).length:Nat)=V.int (z.length:Nat) from fun e=>c3 (by have:=V.int.inj e;omega))];exact bG (hb (fun h=>c3 (dU.mp h).2.1) H1 s1)
 rw [c3,decide_eq_true rfl];refine bH ?_;dsimp only [cG]
 obtain ⟨c,l,By⟩:∃ c l,sL z=c::l:=by
  cases e:sL z with
  | nil=>rw [<- fu,e] at c1;exact absurd c1 (by decide)
  | cons c l=>exact ⟨c,l,rfl⟩
 refine ⟨_,rfl,z,0,c,rfl,rfl,aj (by omega),by rw [show z.cps.toList=c::l from By];exact at_nonneg (by decide) rfl,rfl,_,rfl,?_⟩
 have AM:isNum z=true->∃ n,Zj z=some n/\Q (.int n) H1:=fun h=>by
  obtain ⟨m,hm,e⟩:=sW h;have k:jD z=some ((m:Nat):Int):=bR.mpr ⟨e,by omega,by omega⟩;refine ⟨_,?_,q _ k H1 s1⟩;unfold jD at k;rw [if_pos h] at k;exact k
 have OD:(sL z).head?=some c:=by rw [By];rfl
 refine cg (fun c4=>?_) (fun c4=>?_)
 · have c':(⟨#[c]⟩:UA)=Ug "0":=V.str.inj (of_decide_eq_true c4)
   have Md:c=48:=by
    have:=congrArg (fun x:UA=>x.cps.toList) c';rw [show (Ug "0").cps.toList=[48] by decide +kernel] at this;exact List.head_eq_of_cons_eq this
   refine ⟨_,rfl,rfl,_,rfl,?_⟩;by_cases c5:z=Ug "0"
   · rw [decide_eq_true (show V.str z=V.str (Ug "0") by rw [c5])];refine bH ?_;obtain ⟨n,hi,hq⟩:=AM (dU.mpr ⟨⟨c1,c2⟩,c3,fun _=>c5⟩);exact ⟨_,rfl,z,n,rfl,hi,by omega,hq⟩
   · rw [decide_eq_false (show ¬ V.str z=V.str (Ug "0") from fun e=>c5 (V.str.inj e))];exact bG (hb (fun h=>c5 ((dU.mp h).2.2 (by rw [OD,Md]))) H1 s1)
 · have Md:c≠48:=fun z=>c4 (decide_eq_true (by rw [z];exact congrArg V.str (by decide +kernel)));obtain ⟨n,hi,hq⟩:=AM (dU.mpr ⟨⟨c1,c2⟩,c3,fun e=>by rw [OD] at e;exact absurd (UD e) Md⟩);exact ⟨_,rfl,z,n,rfl,hi,by omega,hq⟩
def StV (H:Hp):Stp->V->Prop
 | .sg c,v=>v=.str c
 | .th t,v=>∃ a,v=.ref a/\At H t a
theorem StV.mono {H H':Hp} (k:KT H H'):∀ {x:Stp} {v:V},StV H x v->StV H' x v
 | .sg c,v,h=>h
 | .th t,v,⟨a,e,h⟩=>⟨a,e,h.mono k⟩
inductive gB (C:Ul) (vs:List V) (H:Hp) (Q:VK) (E:XK):Prop
 | mk (wl:Ul) (ws:List UA) (Aw:vs=[.ref wl]) (Ax:H wl=some (.lst (ws.map V.str))) (AE:(∀ x∈ws,x.length<=100000)) (AQ:(∀ a b:Int,ky ws=some (.th (.call a b))->∀ (r:Ul) (H':Hp),L2.Same H H'->At H' (.call a b) r->Q (.ref r) H')) (Bx:(ky ws=none->∀ H',L2.Same H H'->E (.ref C) none H')):gB C vs H Q E
def m9 (C:Ul):Sp:=gB C
inductive gZ (C:Ul) (vs:List V) (H:Hp) (Q:VK) (E:XK):Prop
 | mk (wl:Ul) (ws:List UA) (Aw:vs=[.ref wl]) (Ax:H wl=some (.lst (ws.map V.str))) (AE:ws.length<=100000) (AQ:(∀ x∈ws,x.length<=100000)) (Bx:(∀ l:List Stp,iy ws=some l->∀ (r:Ul) (xs:List V) (H':Hp),L2.Same H H'->H' r=some (.lst xs)->Vg (StV H') l xs->Q (.ref r) H')) (B':(iy ws=none->∀ H',L2.Same H H'->E (.ref C) none H')):gZ C vs H Q E
def pC (C:Ul):Sp:=gZ C
theorem in3 (c:UA):inV (.str c) [.str (Ug "("),.str (Ug ","),.str (Ug ")")]=decide (qa c):=by
 have e:∀ d:UA,eqV (.str d) (.str c)=decide (c=d):=fun d=>by
  show (d == c)=_;by_cases h:c=d
  · subst h;simp
  · rw [decide_eq_false h];exact beq_false_of_ne fun z=>h z.symm
 unfold inV;simp only [List.any_cons,List.any_nil,Bool.or_false,e];rw [<- Bool.decide_or,<- Bool.decide_or];rfl
def StX (H:Hp) (ws:List UA) (wl sl:Ul) (m:Nat) (σ:St) (H2:Hp):Prop:=∃ (i n:Nat) (l:List Stp) (xs:List V),σ=[some (.ref wl),some (.ref sl),some (.int (i:Nat))]/\L2.Same H H2/\H2 sl=some (.lst xs)/\Vg (StV H2) l xs/\i<=ws.length/\l.length<=i/\m=ws.length - i/\(ws.drop i).length<=n/\iy ws=(b7 n (ws.drop i)).map (l++·)
def StY (H:Hp) (ws:List UA) (wl sl:Ul) (i:Nat) (σ:St) (H2:Hp):Prop:=∃ m',m'<ws.length - i/\StX H ws wl sl m' σ H2
set_option maxHeartbeats 1000000 in
theorem nu:FnOk P w K mg base (CX1 P w) 2 T.g_read_call.f T.g_read_call.d ["words"] (m9 T.e_NoText):=by
 refine T.g_read_call.F.ok1 pJ (fun vs H Q E h=>?_) (fun Ao A outer s H vs Q E hr h=>?_)
 · obtain ⟨wl,ws,rfl,_⟩:=h;rfl
 obtain ⟨wl,ws,rfl,e,hle,q,qe⟩:=h
 refine ⟨_,(af (aN (PW.pt (fS (ax fh (aq al rfl T.n_len UL (aa (pv 0) ac)) ad (az _)) (eW (ax fh (ao aG (pv 0) ad (fun _ _=>rfl)) aw (az _))))) (ai (bF T.X_NoText T.x_NoText aw)) aE)
  (ai (aA (bi (aa (ck (v:=.str (Ug "?")) rfl T.c_CALL_SIGN.choose_spec ⟨_,rfl⟩) (aa (bc (cK T) (hr.mono (by first | decide | omega)) rfl T.g_read_number.m T.g_read_number.F.kp T.g_read_number.b .nil cP (aa (ao aG (pv 0) ad (fun _ _=>rfl)) ac)) (aa (bc (cK T) (hr.mono (by first | decide | omega)) rfl T.g_read_number.m T.g_read_number.F.kp T.g_read_number.b .nil cP (aa (ao aG (pv 0) ad (fun _ _=>rfl)) ac)) ac))))))),?_⟩
 try dsimp only [AO,Ai]
 refine ⟨_,rfl,wl,_,rfl,.inl (SqL.of e),rfl,_,rfl,?_⟩;by_cases c1:∃ x d y,ws=[x,d,y]
 case neg =>
  have Ea:ws.length≠3:=fun z=>c1 (by
   match ws,z with
   | [x,d,y],_=>exact ⟨x,d,y,rfl⟩)
  rw [Ue,decide_eq_false (show ¬ V.int ((ws.length:Nat):Int)=V.int 3 from fun z=>Ea (by have:=V.int.inj z;omega))];refine bG (qe ?_ H (.refl _))
  match ws,Ea with
  | [],_=>rfl
  | [_],_=>rfl
  | [_,_],_=>rfl
  | [_,_,_],z=>exact absurd rfl z
  | _::_::_::_::_,_=>rfl
 obtain ⟨x,d,y,rfl⟩:=c1;refine bH ?_;refine ⟨_,rfl,wl,_,1,.str d,rfl,rfl,SqL.of e,at1,rfl,_,rfl,?_⟩;by_cases c2:d=dot
 case neg =>
  rw [decide_eq_false (show ¬ V.str d=V.str (Ug ".") from fun z=>c2 (V.str.inj z))];exact bG (qe (by rw [ky,if_neg c2]) H (.refl _))
 subst c2;rw [decide_eq_true (show V.str dot=V.str (Ug ".") from rfl)];refine bH ?_;dsimp only [cG];rw [ky,if_pos rfl] at q qe;refine ⟨_,rfl,wl,_,0,.str x,rfl,rfl,SqL.of e,at0,x,rfl,hle x (by simp),fun a ha H1 s1=>?_,fun ha H1 s1=>qe (by rw [ha]) H1 s1⟩;rw [ha] at q qe;refine ⟨_,rfl,wl,_,2,.str y,rfl,rfl,SqL.of (s1 _ _ e),at2,y,rfl,hle y (by simp),fun b hb H2 s2=>?_,fun hb H2 s2=>qe (by rw [hb]) H2 (s1.trans s2)⟩;rw [hb] at q;refine ⟨aj (by show 3<=1000000;decide),fun r Bv=>q a b rfl r _ (s1.trans (s2.trans (ag Bv _))) ?_⟩;rw [At];exact ae
set_option maxHeartbeats 2000000 in
theorem pF:FnOk P w K mg base (CX1 P w) 3 T.g_steps_of.f T.g_steps_of.d ["words"] (pC T.e_NoText):=by
 refine T.g_steps_of.F.ok1 cR (fun vs H Q E h=>?_) (fun Ao A outer s H vs Q E hr h=>?_)
 · obtain ⟨wl,ws,rfl,_⟩:=h;rfl
 obtain ⟨wl,ws,rfl,ew,hlen,hle,kq,ke⟩:=h
 refine ⟨_,(af (ar (i:=1) cR.nd rfl (UI rfl) (bg ac))
  (af (ar (i:=2) cR.nd rfl (UI rfl) ad)
  (af (mj Yu (ax gx (pv 2) (aq al rfl T.n_len UL (aa (pv 0) ac)) (az _)) (ai (aN (ax j3 (ao aG (pv 0) (pv 2) (fun _ _=>rfl)) (bi (aa aw (aa aw (aa aw ac)))) (by with_unfolding_all rfl)) (af (ba (bN UR Vc Vb bf (pv 1) (aa (ao aG (pv 0) (pv 2) (fun _ _=>rfl)) ac)))
  (ai (rW (i:=2) cR.nd rfl (UI rfl) ad oQ))) (ai (aN (aZ (pcF T.g_is_name (iF T) hr (aa (ao aG (pv 0) (pv 2) (fun _ _=>rfl)) ac)) (fun _=>rfl)) (af (ba (bN UR Vc Vb bf (pv 1) (aa (bi (aa (ao aG (pv 0) (pv 2) (fun _ _=>rfl)) ac)) ac)))
  (ai (rW (i:=2) cR.nd rfl (UI rfl) ad oQ))) (af (ba (bN UR Vc Vb bf (pv 1) (aa (bc (nu T) (hr.mono (by first | decide | omega)) rfl T.g_read_call.m T.g_read_call.F.kp T.g_read_call.b .nil cP (aa (bz eQ (pv 0) (bB (pv 2)) (bB (ak bq (pv 2) ad))) ac)) ac)))
  (ai (rW (i:=2) cR.nd rfl (UI rfl) ad oQ))))))))
  (ai (aA (pv 1)))))),?_⟩
 try dsimp only [AO,Ai]
 refine ⟨aj (by show 0<=1000000;decide),fun sl DM=>?_⟩;have s1:L2.Same H (upd H sl (.lst [])):=ag DM _;have e1:(upd H sl (.lst [])) sl=some (.lst []):=ae;generalize (upd H sl (.lst []))=H1 at s1 e1 ⊢;dsimp only [av];refine ⟨StX H ws wl sl,⟨_,0,ws.length,[],[],rfl,s1,e1,.nil,Vh _,Uq _,rfl,by rw [VW];exact Uq _,by rw [VW];show b7 _ _=_;cases b7 ws.length ws <;> rfl⟩,?_⟩;rintro m σ H2 ⟨i,n,l,xs,rfl,s2,e2,Kh,hi,QC,rfl,hn,AG⟩;have G3:=s2 _ _ ew;have EW:l.length=xs.length:=UK Kh;refine ⟨_,rfl,_,rfl,wl,_,rfl,.inl (SqL.of G3),_,_,rfl,rfl,_,rfl,?_⟩;by_cases BQ:i<ws.length
 case neg =>
  have Me:i=ws.length:=by omega
  subst Me;rw [List.drop_length] at AG;have h0:b7 n []=some []:=by cases n <;> rfl
  rw [h0] at AG;rw [Ue,decide_eq_false (fun z=>by omega)];exact bH ⟨_,rfl,kq l (AG.trans (by rw [Option.map_some,UY])) sl xs H2 s2 e2 Kh⟩
 rw [Ue,decide_eq_true (show ((i:Nat):Int)<((ws.length:Nat):Int) by omega)];refine bG ⟨StY H ws wl sl i,fun f' H' h=>h,?_⟩;obtain ⟨w0,Km⟩:∃ w0,ws[i]?=some w0:=⟨_,Uh BQ⟩
 have Eb:ws.drop i=w0::ws.drop (i+1):=by
  rw [Wu BQ];rw [Uh BQ] at Km;rw [UD Km]
 have Dw:=hle w0 (Ur Km);rw [Eb] at hn AG;rw [Ui,Vi] at hn;obtain ⟨n,rfl⟩:∃ n',n=n'+1:=⟨n - 1,by omega⟩;rw [b7] at AG;have AI:atI (ws.map V.str) ((i:Nat):Int)=some (.str w0):=at_nonneg (by omega) (by rw [VL,Ut,Km];rfl);have OE:xs.length<=200000:=by omega
 have fin:∀ (x:Stp) (k:Nat) (v:V) (H3:Hp),0<k->i+k<=ws.length->iy ws=((b7 n (ws.drop (i+k))).map (x::·)).map (l++·)->L2.Same H2 H3->StV H3 x v->StY H ws wl sl i [some (.ref wl),some (.ref sl),some (.int (((i:Nat):Int)+((k:Nat):Int)))] (upd H3 sl (.lst (xs++[v]))):=fun x k v H3 Bw hk hs s3 hv=>by
  have e3:=s3 _ _ e2;have k4:KT H3 (upd H3 sl (.lst (xs++[v]))):=bp e3;refine ⟨_,by omega,i+k,n,l++[x],xs++[v],by push_cast;rfl,aI (s2.trans s3) DM,ae,?_,hk,by rw [Uu,Vk];omega,rfl,by rw [Vi];omega,?_⟩
  · exact P2.append (P2.mp (fun _ _ e=>StV.mono ((Same.kt s3).trans k4) e) Kh) (.cons (StV.mono k4 hv) .nil)
  · rw [hs,Option.map_map];congr 1;funext r;show l++(x::r)=(l++[x])++r;rw [U2];rfl
 refine ⟨_,rfl,_,rfl,wl,_,_,.str w0,rfl,rfl,SqL.of G3,AI,aj (by show 3<=1000000;decide),fun tp Fg=>?_⟩;have s3:L2.Same H2 (upd H2 tp (.tup [.str (Ug "("),.str (Ug ","),.str (Ug ")")])):=ag Fg _;have e3:(upd H2 tp (.tup [.str (Ug "("),.str (Ug ","),.str (Ug ")")])) tp=some (.tup [.str (Ug "("),.str (Ug ","),.str (Ug ")")]):=ae;generalize (upd H2 tp (.tup [.str (Ug "("),.str (Ug ","),.str (Ug ")")]))=H3 at s3 e3 ⊢;refine ⟨tp,_,rfl,.inr (SqT.of e3),rfl,rfl,_,rfl,?_⟩;rw [if_neg UN,in3];by_cases c1:qa w0
 · rw [decide_eq_true c1];rw [if_pos c1] at AG;refine bG ?_;have OF:=s3 _ _ e2;refine ⟨_,rfl,.inl ⟨rfl,_,SqL.of OF⟩,_,rfl,_,rfl,wl,_,_,.str w0,rfl,rfl,SqL.of (s3 _ _ G3),AI,sl,_,_,rfl,rfl,OF,bj (by omega),?_⟩;exact ⟨_,rfl,_,_,rfl,rfl,fin (.sg w0) 1 _ H3 (by decide) BQ AG s3 rfl⟩
 rw [decide_eq_false c1];rw [if_neg c1] at AG;refine bH ?_;refine ⟨_,rfl,_,rfl,wl,_,_,.str w0,rfl,rfl,SqL.of (s3 _ _ G3),AI,w0,rfl,by omega,fun H4 s4=>?_⟩;have Cr:=s3.trans s4;have Kn:=Cr _ _ e2;by_cases c2:aS w0=true
 · rw [c2];rw [if_pos c2] at AG;refine ⟨_,rfl,bG ?_⟩;have G4:w0≠q:=by rintro rfl;exact absurd c2 (by decide +kernel)
   refine ⟨_,rfl,.inl ⟨rfl,_,SqL.of Kn⟩,_,rfl,_,rfl,wl,_,_,.str w0,rfl,rfl,SqL.of (Cr _ _ G3),AI,aj (by show 1<=1000000;decide),fun np CH=>?_⟩;have s5:L2.Same H4 (upd H4 np (.tup [.str w0])):=ag CH _;have e5:(upd H4 np (.tup [.str w0])) np=some (.tup [.str w0]):=ae;generalize (upd H4 np (.tup [.str w0]))=H5 at s5 e5 ⊢;have RC:=s5 _ _ Kn;refine ⟨sl,_,_,rfl,rfl,RC,bj (by omega),?_⟩;refine ⟨_,rfl,_,_,rfl,rfl,fin (.th (.knot w0 [])) 1 _ H5 (by decide) BQ AG (Cr.trans s5) ⟨np,rfl,?_⟩⟩;rw [At];exact ⟨G4,[],e5,.nil⟩
 · rw [VB.mpr c2];rw [if_neg c2] at AG;refine ⟨_,rfl,bH ?_⟩;refine ⟨_,rfl,.inl ⟨rfl,_,SqL.of Kn⟩,_,rfl,_,rfl,_,rfl,_,rfl,_,_,rfl,rfl,_,rfl,wl,_,rfl,SqL.of (Cr _ _ G3),fun cp RD=>?_⟩
   have Mf:cB (ws.map V.str) (some ((i:Nat):Int)) (some (((i:Nat):Int)+3))=((w0::ws.drop (i+1)).take 3).map V.str:=by
    rw [<- Eb];unfold cB;rw [show ((i:Nat):Int)+3=(((i+3:Nat)):Int) by push_cast;rfl,HT.sIx_nat,HT.sIx_nat,Ue,W5 (show i<=ws.length by omega),<- Zy,<- YR];congr 1;by_cases hm:i+3<=ws.length
    · rw [W5 hm,show i+3 - i=3 by omega]
    · rw [Nat.min_eq_right (by omega),U8 (by rw [Vi];exact Uq _),U8 (by rw [Vi];omega)]
   rw [Mf];have s5:L2.Same H4 (upd H4 cp (.lst (((w0::ws.drop (i+1)).take 3).map V.str))):=ag RD _;have e5:(upd H4 cp (.lst (((w0::ws.drop (i+1)).take 3).map V.str))) cp=some (.lst (((w0::ws.drop (i+1)).take 3).map V.str)):=ae;generalize (upd H4 cp (.lst (((w0::ws.drop (i+1)).take 3).map V.str)))=H5 at s5 e5 ⊢;refine ⟨cp,_,rfl,e5,fun x hx=>hle x (by have:=V6 hx;rw [<- Eb] at this;exact XJ this),fun a b F1 r H6 s6 RE=>?_,fun F1 H6 s6=>?_⟩
   · have h3:i+3<=ws.length:=by
      obtain ⟨_,_,_,_,hw⟩:=iQ.mp F1;have:=congrArg WD hw;rw [U3,Ui,Vi] at this;have h3:min 3 (ws.length - (i+1)+1)=3:=this;omega
     rw [F1] at AG;have RF:=(s5.trans s6) _ _ Kn;refine ⟨sl,_,_,rfl,rfl,RF,bj (by omega),?_⟩;refine ⟨_,rfl,_,_,rfl,rfl,fin (.th (.call a b)) 3 _ H6 (by decide) h3 ?_ (Cr.trans (s5.trans s6)) ⟨r,rfl,RE⟩⟩;rw [AG,List.drop_drop];rfl
   · rw [F1] at AG;exact ke AG H6 (s2.trans (Cr.trans (s5.trans s6)))
def fol (b s:Stp) (d:Int):Bool:=match s with
 | .th _=>!ended b
 | .sg c=>if c=lpar then gY b && decide (d<100) else ended b && decide (0<d)
inductive kH (vs:List V) (H:Hp) (Q:VK) (_E:XK):Prop
 | mk (bv sv:V) (b s:Stp) (d:Int) (Aw:vs=[bv,sv,.int d]) (Ax:StV H b bv) (AE:StV H s sv) (AQ:Q (.bl (fol b s d)) H):kH  vs H Q _E
def rm:Sp:=kH
set_option maxHeartbeats 1000000 in
theorem sJ:FnOk P w K mg base CX0 2 T.g_follows.f T.g_follows.d ["before","step","depth"] rm:=by
 refine T.g_follows.F.ok lL (fun vs H Q E h=>?_) (fun Ao A outer s H vs Q E hr h=>?_)
 · obtain ⟨bv,sv,b,s,d,rfl,_⟩:=h;rfl
 obtain ⟨bv,sv,b,st,d,rfl,hb,hs,kq⟩:=h
 refine ⟨_,(af (ar (i:=3) lL.nd rfl (UI rfl) (zy (aq (dS (T:="tuple")) rfl T.n_isinstance Vw (aa (pv 0) (aa (fD (v:=.ty "tuple") rfl T.n_tuple Vn rfl) ac))) (gK (bZ (j4 (ff hr)) (pv 0) aw (az _)))))
  (af (aN (aZ (aq (dS (T:="tuple")) rfl T.n_isinstance Vw (aa (pv 1) (aa (fD (v:=.ty "tuple") rfl T.n_tuple Vn rfl) ac))) (fun _=>rfl)) (ai (aA (rH (pv 3)))) aE)
  (af (aN (ax (j4 (ff hr)) (pv 1) aw (az _)) (ai (aA (eY (aq (dS (T:="tuple")) rfl T.n_isinstance Vw (aa (pv 0) (aa (fD (v:=.ty "tuple") rfl T.n_tuple Vn rfl) ac))) (eY (rH (pcF T.g_is_call (iO T) hr (aa (pv 0) ac))) (gK (bZ gx (pv 2) (ck (v:=.int (100)) rfl T.c_MOST_BRACKETS.choose_spec ⟨_,rfl⟩) (az _))))))) aE)
  (ai (aA (eY (pv 3) (gK (bZ kI (pv 2) ad (az _))))))))),?_⟩
 try dsimp only [AO,Ai]
 refine aP (fun f' H'=>An2 (H=H') (f'=[some bv,some sv,some (.int d),some (.bl (ended b))])) (fun kk hk=>?_) ?_
 · cases b with
   | sg c =>
     have BA:bv=.str c:=hb;subst BA;refine ⟨_,rfl,_,_,_,rfl,.str c,r9,?_⟩;refine ⟨_,rfl,bH ?_⟩;refine ⟨_,rfl,_,rfl,.inl ⟨c,rfl,?_⟩⟩;exact hk _ _ ⟨rfl,rfl⟩
   | th t =>
     obtain ⟨a,rfl,hA⟩:=hb;obtain ⟨n',r',h3⟩:=hA.tup;refine ⟨_,rfl,_,_,_,rfl,.tup h3,rP,?_⟩;exact ⟨_,rfl,bG (hk _ _ ⟨rfl,rfl⟩)⟩
 rintro f' H' ⟨rfl,rfl⟩;cases st with
 | th t =>
   obtain ⟨a,rfl,hA⟩:=hs;obtain ⟨n',r',h3⟩:=hA.tup;refine ⟨_,rfl,_,_,_,rfl,.tup h3,rP,_,rfl,bG ?_⟩;exact ⟨_,rfl,_,rfl,kq⟩
 | sg c =>
   have RG:sv=.str c:=hs;subst RG;refine ⟨_,rfl,_,_,_,rfl,.str c,r9,_,rfl,bH ?_⟩;dsimp only [cG];refine ⟨_,rfl,_,rfl,.inl ⟨c,rfl,_,rfl,?_⟩⟩;refine cg (fun c1=>?_) (fun c1=>?_)
   · have hc:c=lpar:=of_decide_eq_true c1
     have Fs:Q (.bl (gY b && decide (d<100))) H:=by
      have:fol b (.sg c) d=(gY b && decide (d<100)):=if_pos hc;rw [this] at kq;exact kq
     cases b with
     | sg c2 =>
       have BA:bv=.str c2:=hb;subst BA;refine ⟨_,rfl,_,_,_,rfl,.str c2,r9,_,rfl,bH Fs⟩
     | th t =>
       obtain ⟨a,rfl,hA⟩:=hb;obtain ⟨n',r',h3⟩:=hA.tup;refine ⟨_,rfl,_,_,_,rfl,.tup h3,rP,_,rfl,bG ?_⟩;refine ⟨_,rfl,a,t,rfl,hA,_,rfl,?_⟩;cases t with
       | call x y=>exact ⟨_,rfl,bH Fs⟩
       | knot n ks=>exact ⟨_,rfl,bG ⟨_,rfl,_,_,rfl,rfl,Fs⟩⟩
   · have hc:¬ c=lpar:=fun z=>c1 (decide_eq_true z)
     have Fs:Q (.bl (ended b && decide (0<d))) H:=by
      have:fol b (.sg c) d=(ended b && decide (0<d)):=if_neg hc;rw [this] at kq;exact kq
     dsimp only [cG];refine ⟨_,rfl,_,rfl,?_⟩;refine cg (fun c2=>?_) (fun c2=>?_)
     · rw [c2,Xz] at Fs;exact ⟨_,rfl,_,_,rfl,rfl,Fs⟩
     · rw [VB.mpr c2,Xr] at Fs;exact Fs
def TpL (H:Hp) (x:Th×Int) (a:Ul):Prop:=∃ ta,H a=some (.lst [.ref ta,.int x.2])/\At H x.1 ta
theorem TpL.keep {H:Hp} {x:Th×Int} {b a:Ul} {o:HO} {xs:List V} (h:TpL H x b) (Au:b≠a) (ea:H a=some (.lst xs)):TpL (upd H a o) x b:=by
 obtain ⟨ta,h1,h2⟩:=h;exact ⟨ta,by rw [au Au];exact h1,h2.mono (bp ea)⟩
theorem TpL.same {H H':Hp} (s:L2.Same H H') {x:Th×Int} {b:Ul} (h:TpL H x b):TpL H' x b:=by
 obtain ⟨ta,h1,h2⟩:=h;exact ⟨ta,s _ _ h1,h2.mono (Same.kt s)⟩
theorem gv {H:Hp} {a:Ul} {o:HO} {xs:List V} (ea:H a=some (.lst xs)):∀ {tops:List (Th×Int)} {Ac:List Ul},Vg (TpL H) tops Ac->a∉Ac->Vg (TpL (upd H a o)) tops Ac
 | _,_,.nil,_=>.nil
 | _,_,.cons h t,hn=>.cons (h.keep (fun z=>hn (by rw [z];exact Uy ..)) ea) (gv ea t fun z=>hn (Uv _ z))
theorem tP {H:Hp} {f:Int->Int} {a ta:Ul} {m:Int} (ea:H a=some (.lst [.ref ta,.int m])):∀ {tops:List (Th×Int)} {Ac:List Ul} {j:Nat},Vg (TpL H) tops Ac->Ac.Nodup->Ac[j]?=some a->Vg (TpL (upd H a (.lst [.ref ta,.int (f m)]))) (qz tops j f) Ac
 | _,_,j,.nil,_,h=>by cases h
 | x::tops,b::Ac,0,.cons h t,nd,e=>by
   have hb:b=a:=UD e;subst hb;obtain ⟨OG,h1,h2⟩:=h;rw [ea] at h1;have h3:[V.ref ta,V.int m]=[V.ref OG,V.int x.2]:=by cases h1;rfl
   have h4:ta=OG:=by injection h3 with z _;exact V.ref.inj z
   have h5:m=x.2:=by injection h3 with _ z;injection z with z _;exact V.int.inj z
   subst h4;rw [h5] at ea ⊢;exact .cons ⟨ta,ae,h2.mono (bp ea)⟩ (gv ea t (V8.mp nd).1)
 | x::tops,b::Ac,j+1,.cons h t,nd,e=>by
   have hm:a∈Ac:=Ur (by simpa using e);have Au:b≠a:=fun z=>(V8.mp nd).1 (by rw [z];exact hm);have ih:=tP (f:=f) ea t (V8.mp nd).2 (j:=j) (by simpa using e);exact .cons (h.keep Au ea) ih
structure TpI (H0:Hp) (sl tl wl:Ul) (S:PSt) (bv:V) (ws Ac:List Ul) (H:Hp):Prop where
 sm:L2.Same H0 H
 tl0:H0 tl=none
 wl0:H0 wl=none
 tw:tl≠wl
 et:H tl=some (.lst (Ac.map V.ref))
 ew:H wl=some (.lst (ws.map V.ref))
 win:Vg (fun j a=>Ac[j]?=some a) S.win ws
 tops:Vg (TpL H) S.tops Ac
 nd:Ac.Nodup
 tas0:∀ a∈Ac,H0 a=none
 tln:tl∉Ac
 wln:wl∉Ac
 bef:StV H S.bef bv
inductive ja (K:Uj) (C:Ul) (vs:List V) (H:Hp) (Q:VK) (E:XK):Prop
 | mk (sl:Ul) (xs:List V) (steps:List Stp) (Aw:vs=[.ref sl]) (Ax:H sl=some (.lst xs)) (AE:Vg (StV H) steps xs) (AQ:steps.length<=100000) (Bx:(∀ x∈steps,SOk x)) (B':(∀ F,iX steps=some F->∀ (r:Ul) (Ac:List Ul) (H':Hp),L2.Same H H'->H' r=some (.lst (Ac.map V.ref))->Vg (TpL H') F.tops Ac->Q (.ref r) H')) (DW:(iX steps=none->∀ H',L2.Same H H'->E (.ref C) none H')):ja K C vs H Q E
def qP (K:Uj) (C:Ul):Sp:=ja K C
def Sh (S:PSt):Prop:=(gY S.bef=true->S.tops≠[])/\(S.bef=.sg lpar->S.win≠[])/\((∃ t,S.bef=.th t)∨S.bef=.sg lpar∨S.bef=.sg comma∨S.bef=.sg rpar)
theorem rO {S:PSt} {x:Stp} (hx:SOk x) (i:gY S.bef=true->S.tops≠[]) (h:bt S x=none):fol S.bef x (S.win.length:Nat)=false:=by
 cases x with
 | th t =>
   rw [bt] at h;by_cases c:ended S.bef=false
   · rw [if_pos c] at h;cases h
   · show (!ended S.bef)=false;cases k:ended S.bef with
     | false=>exact absurd k c
     | true=>rfl
 | sg c =>
   rw [bt] at h;unfold fol;dsimp only;by_cases c1:c=lpar
   · rw [if_pos c1] at h ⊢;by_cases c2:gY S.bef=true/\S.win.length<100/\S.tops≠[]
     · rw [if_pos c2] at h;cases h
     · cases k:gY S.bef with
       | false=>rfl
       | true=>rw [decide_eq_false (show ¬ ((S.win.length:Nat):Int)<100 from fun z=>c2 ⟨k,by omega,i k⟩)];rfl
   · rw [if_neg c1] at h ⊢
     have key:¬ (ended S.bef=true/\S.win≠[]):=fun z=>by
      rcases hx with e | e | e
      · exact c1 e
      · rw [if_pos e,if_pos z] at h;cases h
      · rw [if_neg (fun k=>ft.2.2.1 (e.symm.trans k)),if_pos e,if_pos z] at h;cases h
     cases k:ended S.bef with
     | false=>rfl
     | true =>
       rw [decide_eq_false (show ¬ (0:Int)<((S.win.length:Nat):Int) from fun z=>key ⟨k,fun e=>by rw [e] at z;exact absurd z (by decide)⟩)];rfl
theorem ue {S S':PSt} {x:Stp} (h:bt S x=some S'):fol S.bef x (S.win.length:Nat)=true:=by
 cases x with
 | th t =>
   rw [bt] at h;by_cases c:ended S.bef=false
   · show (!ended S.bef)=true;rw [c];rfl
   · rw [if_neg c] at h;cases h
 | sg c =>
   rw [bt] at h;unfold fol;dsimp only;by_cases c1:c=lpar
   · rw [if_pos c1] at h ⊢;by_cases c2:gY S.bef=true/\S.win.length<100/\S.tops≠[]
     · rw [c2.1,decide_eq_true (show ((S.win.length:Nat):Int)<100 by omega)];rfl
     · rw [if_neg c2] at h;cases h
   · rw [if_neg c1] at h ⊢
     have key:ended S.bef=true/\S.win≠[]:=by
      by_cases c2:c=comma
      · rw [if_pos c2] at h;by_cases c3:ended S.bef=true/\S.win≠[]
        · exact c3
        · rw [if_neg c3] at h;cases h
      · rw [if_neg c2] at h;by_cases c3:c=rpar
        · rw [if_pos c3] at h;by_cases c4:ended S.bef=true/\S.win≠[]
          · exact c4
          · rw [if_neg c4] at h;cases h
        · rw [if_neg c3] at h;cases h
     have:=VQ.mpr key.2;rw [key.1,decide_eq_true (show (0:Int)<((S.win.length:Nat):Int) by omega)];rfl
theorem ut {S S':PSt} {x:Stp} (h:bt S x=some S'):S'.bef=x:=by
 cases x with
 | th t=>rw [bt] at h;split at h <;> cases h;rfl
 | sg c =>
   rw [bt] at h;split at h
   · split at h <;> cases h;rfl
   · split at h
     · split at h <;> cases h;rfl
     · split at h
       · split at h <;> cases h;rfl
       · cases h
def TpR (H:Hp) (sl tl wl:Ul) (S S':PSt) (st:Stp) (bv x:V) (i:Nat) (σ:St) (H':Hp):Prop:=∃ (ws Ac:List Ul),σ=[some (.ref sl),some (.ref tl),some (.ref wl),some bv,some x]/\TpI H sl tl wl ⟨S'.tops,S'.win,S.bef⟩ bv ws Ac H'/\Ac.length<=i+1/\ws.length<=i+1/\StV H' st x
set_option maxHeartbeats 2000000 in
theorem qt:FnOk P w K mg base (CX1 P w) 3 T.g_tops_of.f T.g_tops_of.d ["steps"] (qP K T.e_NoText):=by
 refine T.g_tops_of.F.ok1 di (fun vs H Q E h=>?_) (fun Ao A outer s H vs Q E hr h=>?_)
 · obtain ⟨sl,xs,steps,rfl,_⟩:=h;rfl
 obtain ⟨sl,xs,steps,rfl,es,AG,hlen,hok,kq,ke⟩:=h
 refine ⟨_,(af (ar (i:=1) di.nd rfl (UI rfl) (bg ac))
  (af (ar (i:=2) di.nd rfl (UI rfl) (bg ac))
  (af (ar (i:=3) di.nd rfl (UI rfl) aw)
  (af (b9 Yu rfl (eU (pv 0)) (aB (i:=4) di.nd rfl (UI rfl)) (af (aN (cO (aZ (pcF T.g_follows (sJ T) hr (aa (pv 3) (aa (pv 4) (aa (aq al rfl T.n_len UL (aa (pv 2) ac)) ac)))) (fun _=>rfl))) (ai (bF T.X_NoText T.x_NoText aw)) aE)
  (af (aN (ax (j4 (ff hr)) (pv 4) aw (az _)) (af (d7 ad (gg (ao aG (pv 1) (oh jT ad) (fun _ _=>rfl)) ad set_list))
  (ai (ba (bN UR Vc Vb bf (pv 2) (aa (ao aG (pv 1) (oh jT ad) (fun _ _=>rfl)) ac))))) (ai (aN (ax (j4 (ff hr)) (pv 4) aw (az _)) (ai (xy (ao aG (pv 2) (oh jT ad) (fun _ _=>rfl)) ad vk ad oQ set_list)) (ai (aN (ax (j4 (ff hr)) (pv 4) aw (az _)) (ai (ba (o7 UR Yk Yj oS (pv 2)))) (ai (ba (bN UR Vc Vb bf (pv 1) (aa (bg (aa (pv 4) (aa ad ac))) ac)))))))))
  (ai (ar (i:=3) di.nd rfl (UI rfl) (pv 4))))))
  (af (aN (PW.pt (fS (aZ (pv 2) (fun _=>rfl)) (eW (ax (j4 (ff hr)) (pv 3) aw (az _))))) (ai (bF T.X_NoText T.x_NoText aw)) aE)
  (ai (aA (pv 1)))))))),?_⟩
 try dsimp only [AO,Ai]
 have DM:steps.length=xs.length:=UK AG;refine ⟨aj (by show 0<=1000000;decide),fun tl BE=>?_⟩;have s1:L2.Same H (upd H tl (.lst [])):=ag BE _;have e1:(upd H tl (.lst [])) tl=some (.lst (([]:List Ul).map V.ref)):=ae;generalize (upd H tl (.lst []))=H1 at s1 e1 ⊢;refine ⟨aj (by show 0<=1000000;decide),fun wl Dw=>?_⟩;have s2:L2.Same H1 (upd H1 wl (.lst [])):=ag Dw _;have e2:(upd H1 wl (.lst [])) wl=some (.lst (([]:List Ul).map V.ref)):=ae;generalize (upd H1 wl (.lst []))=H2 at s2 e2 ⊢;have RH:tl≠wl:=fun z=>by rw [z,Dw] at e1;cases e1
 dsimp only [av];refine ⟨_,rfl,sl,rfl,⟨_,SqL.of ((s1.trans s2) _ _ es)⟩,?_⟩
 refine qF (K:=K) (a:=sl) (xs:=xs) (fun i σ H3=>Ex5 fun (sv:Option V) (S:PSt) (bv:V) (ws Ac:List Ul)=>An6 (σ=[some (.ref sl),some (.ref tl),some (.ref wl),some bv,sv]) (TpI H sl tl wl S bv ws Ac H3) (prun ⟨[],[],.sg comma⟩ steps=prun S (steps.drop i)) (Sh S) (Ac.length<=i) (ws.length<=i))
  ⟨none,⟨[],[],.sg comma⟩,.str comma,[],[],rfl,⟨s1.trans s2,BE,s1.free Dw,RH,s2 _ _ e1,e2,.nil,.nil,YF,(fun a h=>by cases h),Wh,Wh,rfl⟩,rfl,⟨fun z=>(by cases z),fun z=>absurd (Stp.sg.inj z) ft.1,.inr (.inr (.inl rfl))⟩,Uq _,Uq _⟩ (fun i σ H3 _ ⟨_,_,_,_,_,_,I,_,_,_,_⟩=>SqL.of (I.sm _ _ es)) ?_ ?_
 · rintro i x σ H3 hx ⟨sv,S,bv,ws,Ac,rfl,I,Ey,EK,Bl,Bh⟩;obtain ⟨st,EX,Mg⟩:=P2.get' AG hx;have BQ:=(Uz.mp EX).1
   have Ft:steps.drop i=st::steps.drop (i+1):=by
    rw [Wu BQ];rw [Uh BQ] at EX;rw [UD EX]
   rw [Ft] at Ey;have IK:=hok st (Ur EX);have Gb:S.win.length=ws.length:=UK I.win;have Ko:S.tops.length=Ac.length:=UK I.tops;have Ec:=Mg.mono (Same.kt I.sm);dsimp only [av];refine ⟨_,rfl,_,rfl,_,rfl,wl,_,rfl,.inl (SqL.of I.ew),bv,x,S.bef,st,_,rfl,I.bef,Ec,?_⟩;rw [Ue,<- Gb];cases Bb:bt S st with
   | none =>
     rw [rO IK EK.1 Bb];refine ⟨_,rfl,bG (ke ?_ H3 I.sm)⟩;unfold iX;rw [Ey,prun,Bb];rfl
   | some S' =>
   rw [ue Bb];have IL:prun ⟨[],[],.sg comma⟩ steps=prun S' (steps.drop (i+1)):=Ey.trans (dm Bb);have Mh:=si IK Bb EK.1;refine ⟨_,rfl,bH ?_⟩;dsimp only [cG];refine aP (TpR H sl tl wl S S' st bv x i) (fun kk hk=>?_) ?_
   rotate_left
   · rintro f' H4 ⟨DE,DF,rfl,I4,RI,RJ,RK⟩;refine ⟨_,rfl,_,S',x,DE,DF,rfl,⟨I4.sm,I4.tl0,I4.wl0,I4.tw,I4.et,I4.ew,I4.win,I4.tops,I4.nd,I4.tas0,I4.tln,I4.wln,by rw [ut Bb];exact RK⟩,IL,Mh,RI,RJ⟩
   cases st with
   | th t =>
     obtain ⟨a,rfl,hA⟩:=Ec;obtain ⟨n',r',h3⟩:=hA.tup
     have GQ:S'=⟨S.tops++[(t,0)],S.win,.th t⟩:=by
      rw [bt] at Bb;split at Bb
      · exact (UD Bb).symm
      · cases Bb
     refine ⟨_,rfl,_,rfl,.inr ⟨a,_,rfl,SqT.of h3,_,rfl,bH ?_⟩⟩;refine ⟨_,rfl,_,rfl,.inr ⟨a,_,rfl,SqT.of h3,_,rfl,bH ?_⟩⟩;refine ⟨_,rfl,_,rfl,.inr ⟨a,_,rfl,SqT.of h3,_,rfl,bH ?_⟩⟩;refine ⟨_,rfl,.inl ⟨rfl,_,SqL.of I.et⟩,_,rfl,aj (by show 2<=1000000;decide),fun np CH=>?_⟩;have s4:L2.Same H3 (upd H3 np (.lst [.ref a,.int 0])):=ag CH _;have e4:(upd H3 np (.lst [.ref a,.int 0])) np=some (.lst [.ref a,.int 0]):=ae;generalize (upd H3 np (.lst [.ref a,.int 0]))=H4 at s4 e4 ⊢;have Mi:=s4 _ _ I.et;have Mj:H np=none:=I.sm.free CH;have OH:np≠tl:=fun z=>by rw [z,I.et] at CH;cases CH
     have RL:np≠wl:=fun z=>by rw [z,I.ew] at CH;cases CH
     have Oz:np∉Ac:=fun z=>by
      obtain ⟨j,hj⟩:=Vj.mp z;obtain ⟨y,_,ta,e,_⟩:=P2.get' I.tops hj;rw [CH] at e;cases e
     refine ⟨tl,_,_,rfl,rfl,Mi,bj (by rw [Ue];omega),?_⟩;have k5:KT H4 (upd H4 tl (.lst (Ac.map V.ref++[.ref np]))):=bp Mi;refine hk _ _ ⟨ws,Ac++[np],rfl,?_,by rw [Uu,Vk];omega,by omega,⟨a,rfl,(hA.mono (Same.kt s4)).mono k5⟩⟩;subst GQ;refine ⟨aI (I.sm.trans s4) I.tl0,I.tl0,I.wl0,I.tw,by rw [ae,UC];rfl,by rw [au I.tw.symm];exact s4 _ _ I.ew,P2.mp (fun j b e=>?_) I.win,?_,?_,fun b hb=>?_,fun z=>?_,fun z=>?_,(I.bef.mono (Same.kt s4)).mono k5⟩
     · rw [W0 (Uz.mp e).1];exact e
     · exact P2.append (gv Mi (P2.mp (fun _ _ e=>TpL.same s4 e) I.tops) I.tln) (.cons ⟨a,by rw [au OH];exact e4,(hA.mono (Same.kt s4)).mono k5⟩ .nil)
     · exact YK.mpr ⟨I.nd,V8.mpr ⟨Wh,YF⟩,fun b hb c hc e=>Oz (by rw [<- UW.mp hc,<- e];exact hb)⟩
     · rcases UP.mp hb with hb | hb
       · exact I.tas0 b hb
       · rw [UW.mp hb];exact Mj
     · rcases UP.mp z with z | z
       · exact I.tln z
       · exact OH (UW.mp z).symm
     · rcases UP.mp z with z | z
       · exact I.wln z
       · exact RL (UW.mp z).symm
   | sg c =>
     have Cp:x=.str c:=Ec;subst Cp
     have IM:∀ (la ta:Ul) (m m':Int) (DE:List Ul) (W':List Nat) (j:Nat) (f:Int->Int),Ac[j]?=some la->H3 la=some (.lst [.ref ta,.int m])->m'=f m->TpI H sl tl wl ⟨qz S.tops j f,S.win,S.bef⟩ bv ws Ac (upd H3 la (.lst [.ref ta,.int m'])):=fun la ta m m' DE W' j f hj DN em=>by
      have DG:=Ur hj;have AB:la≠tl:=fun z=>I.tln (by rw [<- z];exact DG);have RN:la≠wl:=fun z=>I.wln (by rw [<- z];exact DG);subst em;exact ⟨aI I.sm (I.tas0 la DG),I.tl0,I.wl0,I.tw,by rw [au AB.symm];exact I.et,by rw [au RN.symm];exact I.ew,I.win,tP DN I.tops I.nd hj,I.nd,I.tas0,I.tln,I.wln,I.bef.mono (bp DN)⟩
     by_cases c1:c=lpar
     · have GQ:gY S.bef=true/\S.win.length<100/\S.tops≠[]:=by
        rw [bt,if_pos c1] at Bb;by_cases z:gY S.bef=true/\S.win.length<100/\S.tops≠[]
        · exact z
        · rw [if_neg z] at Bb;cases Bb
       have Es:S'=⟨qz S.tops (S.tops.length - 1) (fun _=>1),S.win++[S.tops.length - 1],.sg c⟩:=by
        rw [bt,if_pos c1,if_pos GQ] at Bb;exact (UD Bb).symm
       refine ⟨_,rfl,_,rfl,.inl ⟨c,rfl,_,rfl,?_⟩⟩;rw [decide_eq_true (show c=Ug "(" from c1)];refine bG ?_;have Cg:Ac≠[]:=fun z=>GQ.2.2 (by rw [z] at Ko;exact U9.mp Ko);have Fg:=VQ.mpr Cg;refine hid fun ZZ kZ=>?_;obtain ⟨la,Bi⟩:∃ la,Ac[Ac.length - 1]?=some la:=⟨_,Uh (by omega)⟩
       have Dj:∀ ys:List Ul,ys=Ac->atI (ys.map V.ref) (-1)=some (.ref la):=fun ys e=>by
        subst e;obtain ⟨OI,b,rfl⟩:∃ OI b,ys=OI++[b]:=⟨ys.dropLast,ys.getLast Cg,(WK Cg).symm⟩;rw [Uu,Vk,Nat.add_sub_cancel,Wn (Uq _),YA] at Bi;rw [UC,<- UD Bi];exact qB _ _
       obtain ⟨y,hy,ta,DN,_⟩:=P2.get' I.tops Bi;refine kZ ?_;refine ⟨_,rfl,_,rfl,tl,_,_,.ref la,rfl,rfl,SqL.of I.et,Dj _ rfl,la,_,1,1,rfl,rfl,DN,rfl,?_⟩;have I4:=IM la ta y.2 1 ws S.win (Ac.length - 1) (fun _=>1) Bi DN rfl;dsimp only [List.set];generalize (upd H3 la (.lst [.ref ta,.int 1]))=H4 at I4 ⊢;refine ⟨_,rfl,.inl ⟨rfl,_,SqL.of I4.ew⟩,_,rfl,_,rfl,tl,_,_,.ref la,rfl,rfl,SqL.of I4.et,Dj _ rfl,wl,_,_,rfl,rfl,I4.ew,bj (by rw [Ue];omega),?_⟩;have k5:KT H4 (upd H4 wl (.lst (ws.map V.ref++[.ref la]))):=bp I4.ew;refine hk _ _ ⟨ws++[la],Ac,rfl,?_,by omega,by rw [Uu,Vk];omega,rfl⟩;subst Es;exact ⟨aI I4.sm I4.wl0,I4.tl0,I4.wl0,I4.tw,by rw [au I4.tw];exact I4.et,by rw [ae,UC];rfl,P2.append I4.win (.cons (by (try dsimp only);rw [Ko];exact Bi) .nil),by (try dsimp only);rw [Ko];exact gv I4.ew I4.tops I4.wln,I4.nd,I4.tas0,I4.tln,I4.wln,I4.bef.mono k5⟩
     · refine ⟨_,rfl,_,rfl,.inl ⟨c,rfl,_,rfl,?_⟩⟩;rw [decide_eq_false (show ¬ c=Ug "(" from c1)];refine bH ?_
       have key:ended S.bef=true/\S.win≠[]:=by
        rw [bt,if_neg c1] at Bb;by_cases c2:c=comma
        · rw [if_pos c2] at Bb;by_cases c3:ended S.bef=true/\S.win≠[]
          · exact c3
          · rw [if_neg c3] at Bb;cases Bb
        · rw [if_neg c2] at Bb;by_cases c3:c=rpar
          · rw [if_pos c3] at Bb;by_cases c4:ended S.bef=true/\S.win≠[]
            · exact c4
            · rw [if_neg c4] at Bb;cases Bb
          · rw [if_neg c3] at Bb;cases Bb
       have IP:ws≠[]:=fun z=>key.2 (by rw [z] at Gb;exact U9.mp Gb);refine hid fun ZZ kZ=>?_;obtain ⟨DE,la,IQ⟩:∃ DE b,ws=DE++[b]:=⟨ws.dropLast,ws.getLast IP,(WK IP).symm⟩;have IT:=I.win;rw [IQ] at IT;obtain ⟨W',j,OJ,G5,hj⟩:=P2.snoc_inv IT;refine kZ ?_;by_cases c2:c=comma
       · have Es:S'=⟨qz S.tops (S.win.getLastD 0) (·+1),S.win,.sg c⟩:=by
          rw [bt,if_neg c1,if_pos c2,if_pos key] at Bb;exact (UD Bb).symm
         refine ⟨_,rfl,_,rfl,.inl ⟨c,rfl,_,rfl,?_⟩⟩;rw [decide_eq_true (show c=Ug "," from c2)];refine bG ?_;refine hid fun ZZ kZ=>?_;obtain ⟨y,hy,ta,DN,_⟩:=P2.get' I.tops hj;refine kZ ?_;have Dj:atI (ws.map V.ref) (-1)=some (.ref la):=by rw [IQ,UC];exact qB _ _
         refine ⟨_,rfl,_,rfl,wl,_,_,.ref la,rfl,rfl,SqL.of I.ew,Dj,la,_,1,.int y.2,rfl,rfl,SqL.of DN,at1,_,_,rfl,rfl,la,_,1,1,rfl,rfl,DN,rfl,?_⟩;have I4:=IM la ta y.2 (y.2+1) ws S.win j (·+1) hj DN rfl;refine hk _ _ ⟨ws,Ac,rfl,?_,by omega,by omega,rfl⟩;subst Es;dsimp only;rw [show S.win.getLastD 0=j by rw [OJ,hV]];exact I4
       · have c3:c=rpar:=by
          rw [bt,if_neg c1,if_neg c2] at Bb;by_cases c3:c=rpar
          · exact c3
          · rw [if_neg c3] at Bb;cases Bb
         have Es:S'=⟨S.tops,S.win.dropLast,.sg c⟩:=by
          rw [bt,if_neg c1,if_neg c2,if_pos c3,if_pos key] at Bb;exact (UD Bb).symm
         refine ⟨_,rfl,_,rfl,.inl ⟨c,rfl,_,rfl,?_⟩⟩;rw [decide_eq_false (show ¬ c=Ug "," from c2)];refine bH ?_;refine ⟨_,rfl,_,rfl,.inl ⟨c,rfl,_,rfl,?_⟩⟩;rw [decide_eq_true (show c=Ug ")" from c3)];refine bG ?_;refine ⟨_,rfl,.inl ⟨rfl,_,SqL.of I.ew⟩,wl,_,.ref la,rfl,rfl,I.ew,by rw [IQ];simp,?_⟩;have d1:(ws.map V.ref).dropLast=DE.map V.ref:=by rw [IQ];simp
         rw [d1];have k5:KT H3 (upd H3 wl (.lst (DE.map V.ref))):=bp I.ew;refine hk _ _ ⟨DE,Ac,rfl,?_,by omega,by rw [IQ,Uu,Vk] at Bh;omega,rfl⟩;subst Es;exact ⟨aI I.sm I.wl0,I.tl0,I.wl0,I.tw,by rw [au I.tw];exact I.et,ae,by (try dsimp only);rw [OJ,Zm];exact G5,gv I.ew I.tops I.wln,I.nd,I.tas0,I.tln,I.wln,I.bef.mono k5⟩
 · rintro σ H3 ⟨sv,S,bv,ws,Ac,rfl,I,Ey,EK,Bl,Bh⟩;rw [List.drop_of_length_le (by omega)] at Ey;have OK:prun ⟨[],[],.sg comma⟩ steps=some S:=Ey;have Gb:S.win.length=ws.length:=UK I.win;have Az:¬ (S.win=[]/\ended S.bef=true)->E (.ref T.e_NoText) none H3:=fun h=>ke (by unfold iX;rw [OK];exact if_neg h) H3 I.sm;cases Ml:ws with
   | cons a DE =>
     refine ⟨_,rfl,_,.inl ⟨_,SqL.of I.ew,rfl⟩,?_⟩;rw [Ml];exact bG (Az fun z=>by rw [z.1,Ml] at Gb;cases Gb)
   | nil =>
   subst Ml;have OL:S.win=[]:=U9.mp Gb;refine ⟨_,rfl,_,.inl ⟨_,SqL.of I.ew,rfl⟩,bH ?_⟩;have AM:ended S.bef=true->Q (.ref tl) H3:=fun h=>kq S (by unfold iX;rw [OK];exact if_pos ⟨OL,h⟩) tl Ac H3 I.sm I.et I.tops;have DH:=I.bef;rcases EK.2.2 with ⟨t,Ca⟩ | Ca | Ca | Ca
   · rw [Ca] at DH AM;obtain ⟨a,rfl,hA⟩:=DH;obtain ⟨n',r',h3⟩:=hA.tup;exact ⟨_,rfl,_,rfl,.inr ⟨a,_,rfl,SqT.of h3,_,rfl,bH ⟨_,rfl,AM rfl⟩⟩⟩
   · exact absurd OL (EK.2.1 Ca)
   · rw [Ca] at DH;have BA:bv=.str comma:=DH;subst BA;refine ⟨_,rfl,_,rfl,.inl ⟨comma,rfl,_,rfl,?_⟩⟩;rw [decide_eq_true (show comma=Ug "," from rfl)];exact bG (Az fun z=>by have:=z.2;rw [Ca,du] at this;cases this)
   · rw [Ca] at DH AM;have BA:bv=.str rpar:=DH;subst BA;refine ⟨_,rfl,_,rfl,.inl ⟨rpar,rfl,_,rfl,?_⟩⟩;rw [decide_eq_false (show ¬ rpar=Ug "," from ft.2.2.1)];exact bH ⟨_,rfl,AM iB⟩
namespace LB
def TopAtL (H:Hp):Top->Ul->Prop
 | .nm n m,a=>∃ ta,H a=some (.lst [.ref ta,.int (m:Nat)])/\n≠q/\H ta=some (.tup [.str n])
 | .th t,a=>∃ ta,H a=some (.lst [.ref ta,.int 0])/\At H t ta
theorem TopAtL.same {H H':Hp} (s:L2.Same H H'):∀ {x:Top} {a:Ul},TopAtL H x a->TopAtL H' x a
 | .nm n m,a,h=>by
   obtain ⟨ta,h1,h2,h3⟩:=h;exact ⟨ta,s _ _ h1,h2,s _ _ h3⟩
 | .th t,a,h=>by
   obtain ⟨ta,h1,h2⟩:=h;exact ⟨ta,s _ _ h1,h2.mono (Same.kt s)⟩
inductive nI (vs:List V) (H:Hp) (Q:VK) (_E:XK):Prop
 | mk (l:Ul) (as:List Ul) (tops:List Top) (u:Th) (Aw:vs=[.ref l]) (Ax:H l=some (.lst (as.map V.ref))) (AE:Vg (TopAtL H) tops as) (AQ:tops.length<=100000) (Bx:TopsOk tops) (B':(∀ t,Top.th t∈tops->t.size<=100000)) (DW:bl tops=[u]) (F0:∀ (r:Ul) (H':Hp),L2.Same H H'->At H' u r->Q (.ref r) H'):nI  vs H Q _E
def wk:Sp:=nI
theorem ok_built:FnOk P w K mg base CX0 1 T.g_built.f T.g_built.d ["tops"] wk:=by
 refine T.g_built.F.ok i6 (fun vs H Q E h=>?_) (fun Ao A outer s H vs Q E hr h=>?_)
 · obtain ⟨l,as,tops,u,rfl,_⟩:=h;rfl
 obtain ⟨l,as,tops,u,rfl,el,hT,hlen,hok,Mm,hu,k⟩:=h
 refine ⟨_,(af (ar (i:=1) i6.nd rfl (Or.inr rfl) (bg ac))
  (af (b9 Vy rfl (yu rfl T.n_reversed (pv 0)) (yI rfl (bM (aB (i:=2) i6.nd rfl (UI rfl)) (bM (aB (i:=3) i6.nd rfl (UI rfl)) fH))) (ai (aN (ax kI (pv 3) ad (az _)) (ai (ba (bN UR Vc Vb bf (pv 1) (aa (ak dQ (pv 2) (aX bh rfl T.n_tuple Vn (aa (bP (N:=[Ug "number",Ug "done"]) (js:=[none,some 1]) (g:=(av 0)) (tt:=aU) (te:=(aak K "list" (aam) (bK 1))) rfl (cC rfl (by decide +kernel) (by decide +kernel) rfl rfl rfl) (bD rfl T.n_range (aa (pv 3) ac)) (fun _ _ _ _ _ _=>(aB (i:=0) aay rfl (UI rfl))) (bo rfl) (fun _ _ _ _ _ _=>bQ) (fun _ _ _ _ _ _=>(o7 UR Yk Yj oS (pv 1)))) ac))) ac)))) (ai (ba (bN UR Vc Vb bf (pv 1) (aa (pv 2) ac)))))))
  (ai (aA (ao aG (pv 1) ad (fun _ _=>rfl)))))),?_⟩
 have Fj:tops.length=as.length:=UK hT;refine ⟨aj (by show 0<=1000000;decide),fun dn Fp=>?_⟩;refine ⟨_,rfl,l,_,rfl,SqL.of (ag Fp _ _ _ el),?_⟩
 refine wM (K:=K) (a:=l) (xs:=as.map V.ref) (fun i σ H2=>Ex3 fun c2 c3 ds=>An4 (σ=[some (.ref l),some (.ref dn),c2,c3]) (L2.Same H H2) (H2 dn=some (.lst (ds.map V.ref))) (Ats H2 (bl (tops.drop (tops.length - i))).reverse ds))
  ⟨none,none,[],rfl,ag Fp _,ae,by rw [Yz,List.drop_length];exact .nil⟩ (fun i σ H2 _ ⟨_,_,_,_,s2,_,_⟩=>SqL.of (s2 _ _ el)) ?_ ?_
 · rintro i y σ H2 hi hy ⟨c2,c3,ds,rfl,s2,EY,Co⟩;rw [Ue,<- Fj] at hi hy;obtain ⟨pr,rfl,Mn⟩:=bu hy;obtain ⟨x,hx,Mo⟩:=P2.get' hT Mn;have Ki:=Mo.same s2;have hn:tops.length - 1 - i<tops.length:=by omega
   have Ft:tops.drop (tops.length - 1 - i)=x::tops.drop (tops.length - i):=by
    rw [Wu hn,show tops.length - 1 - i+1=tops.length - i by omega];congr 1;rw [Uh hn] at hx;exact UD hx
   have EZ:=hok.drop (tops.length - 1 - i);rw [Ft] at EZ;have Fu:tops.length - (i+1)=tops.length - 1 - i:=by omega
   have Lw:(bl (tops.drop (tops.length - i))).length<=100000:=by
    have:=sr (tops.drop (tops.length - i));rw [Vi] at this;omega
   generalize tops.drop (tops.length - i)=S at Ft Co EZ Lw;refine hid fun ZZ kZ=>?_
   obtain ⟨ta,m,xs,RO,eta,hm,EW,AM⟩:∃ (ta:Ul) (m:Nat) (xs:List V),H2 pr=some (.lst [.ref ta,.int (m:Nat)])/\H2 ta=some (.tup xs)/\m<=(bl S).length/\xs.length<=200000/\∀ (H':Hp) (p:Ul) (ks:List Ul),KT H2 H'->Ats H' ((bl S).take m) ks->H' p=some (.tup (xs++ks.map V.ref))->∃ u',bl (x::S)=u'::(bl S).drop m/\At H' u' p:=by
    cases x with
    | nm n m =>
      rw [TopsOk] at EZ;obtain ⟨ta,h1,h2,h3⟩:=Ki;refine ⟨ta,m,_,h1,h3,EZ.1,(by show 1<=200000;decide),fun H' p ks kt hk hp=>⟨_,by rw [bl],?_⟩⟩;rw [At];exact ⟨h2,ks,hp,hk⟩
    | th t =>
      obtain ⟨ta,h1,h2⟩:=Ki;obtain ⟨n',r',h3⟩:=h2.tup;have hw:=h2.width h3;have BA:=Mm t (Ur hx);refine ⟨ta,0,_,h1,h3,Vh _,by omega,fun H' p ks kt hk hp=>⟨t,by rw [bl,VW],?_⟩⟩;rw [WC,Ats] at hk;subst hk;rw [Wm,UY] at hp;exact (h2.mono kt).same (kt _ _ h3) hp
   refine kZ ?_;refine ⟨pr,_,rfl,SqL.of RO,rfl,_,_,rfl,_,_,rfl,rfl,?_⟩;have Mp:=Co.length;rw [Xk] at Mp;refine b8 (fun b H'=>An2 (H'=H2) (b=decide ((0:Int)<(m:Int)))) (fun kk DC=>?_) (fun H' hb=>?_) (fun H' hb=>?_)
   · exact ⟨_,rfl,_,_,rfl,rfl,_,rfl,DC _ _ ⟨rfl,rfl⟩⟩
   rotate_left
   · obtain ⟨rfl,hb⟩:=hb
     have Kp:m=0:=by
      have:=of_decide_eq_false hb.symm;omega
     subst Kp;obtain ⟨u',EN,AI⟩:=AM H' ta [] (Same.kt (.refl _)) (by rw [WC];exact .nil) (by rw [Wm,UY];exact eta);refine ⟨_,rfl,.inl ⟨rfl,_,SqL.of EY⟩,_,rfl,dn,_,_,rfl,rfl,EY,bj (by rw [Ue];omega),?_⟩;have k6:KT H' (upd H' dn (.lst (ds.map V.ref++[.ref ta]))):=bp EY;refine ⟨_,_,ds++[ta],rfl,?_,by rw [ae,UC];rfl,?_⟩
     · intro b o e;rw [au (aR e Fp)];exact s2 b o e
     · rw [Fu,Ft,EN,VX];rw [VW];exact (Co.mono k6).append (.cons (AI.mono k6) .nil)
   obtain ⟨rfl,hb⟩:=hb;refine ⟨_,rfl,.inl ⟨rfl,_,SqL.of EY⟩,_,rfl,?_⟩;refine ⟨_,rfl,(m:Int),rfl,by omega,by omega,fun D hD=>?_⟩;have Mq:D≠dn:=fun z=>by rw [z,EY] at hD;cases hD
   have Fm:((m:Nat):Int).toNat=m:=VL m
   refine ⟨m,fun j H3=>An3 (j<=m) ((∀ b o,H' b=some o->b≠dn->H3 b=some o)) (Ex2 fun (E1 ks:List Ul)=>An4 (H3 dn=some (.lst (E1.map V.ref))) (H3 D=some (.lst (ks.map V.ref))) (Ats H3 ((bl S).drop j).reverse E1) (Ats H3 ((bl S).take j) ks)),
    ⟨Vh _,fun b o e hb=>?_,ds,[],?_,?_,?_,?_⟩,?_⟩
   · rw [au (aR e hD)];exact e
   · rw [au Mq.symm];exact EY
   · rw [ae];rfl
   · rw [VW];exact Co.mono (iR hD)
   · rw [WC];exact .nil
   rintro j H3 ⟨hj,kp,E1,ks,ed,eD,Gd,hd2⟩;by_cases OM:j=m
   · left;refine ⟨(by show ((m:Nat):Int).toNat<=j;rw [Fm,OM];exact Uq _),?_⟩;subst OM;have IU:KT H' H3:=fun b T4 e=>kp b _ e (tO e EY (by intro z;cases z));refine ⟨D,_,rfl,.inl ⟨SqL.of eD,fun tp Fg=>?_⟩⟩;have s4:L2.Same H3 (upd H3 tp (.tup (ks.map V.ref))):=ag Fg _;have e4:(upd H3 tp (.tup (ks.map V.ref))) tp=some (.tup (ks.map V.ref)):=ae;generalize (upd H3 tp (.tup (ks.map V.ref)))=H4 at s4 e4 ⊢;have A8:=hd2.length;refine oR (s4 _ _ (IU _ _ eta)) e4 (by rw [Ue,A8,U3];omega) fun p H5 s5 e5=>?_;have Fv:=s4.trans s5;have ON:=Fv _ _ ed;have Mr:=IU.trans (Same.kt Fv);obtain ⟨u',EN,AI⟩:=AM H5 p ks Mr (hd2.mono (Same.kt Fv)) e5;have Ir:=Gd.length;rw [Xk,Vi] at Ir;refine ⟨dn,_,_,rfl,rfl,ON,bj (by rw [Ue];omega),?_⟩;have k6:KT H5 (upd H5 dn (.lst (E1.map V.ref++[.ref p]))):=bp ON;refine ⟨_,_,E1++[p],rfl,?_,by rw [ae,UC];rfl,?_⟩
     · intro b o e;have hb:b≠dn:=aR e Fp;rw [au hb];exact Fv _ _ (kp b o (s2 b o e) hb)
     · rw [Fu,Ft,EN,VX];exact (Gd.mono ((Same.kt Fv).trans k6)).append (.cons (AI.mono k6) .nil)
   · right;have Fq:j<m:=by omega
     refine ⟨Fq,(by show j<((m:Nat):Int).toNat;rw [Fm];exact Fq),?_⟩;rintro x' H4 ⟨e1,e2⟩;have CV:H4=H3:=e1;subst CV;have OO:j<(bl S).length:=by omega
     have RP:(bl S).drop j=(bl S)[j]::(bl S).drop (j+1):=Wu OO;rw [RP,VX] at Gd
     have Au:E1≠[]:=by
      intro z;subst z;have:=Gd.length;rw [Uu] at this;simp at this
     refine hid fun ZZ kZ=>?_;obtain ⟨Ge,b,rfl⟩:∃ Ge b,E1=Ge++[b]:=⟨E1.dropLast,E1.getLast Au,(WK Au).symm⟩;obtain ⟨Us,x2,e3,hU,Bg⟩:=Gd.snoc_inv;have e4:=List.append_inj' e3 rfl;obtain ⟨e5,e6⟩:=e4;refine kZ ?_;cases e6;subst e5;refine ⟨_,rfl,.inl ⟨rfl,_,SqL.of ed⟩,dn,_,.ref b,rfl,rfl,ed,by simp,?_⟩;have d1:((Ge++[b]).map V.ref).dropLast=Ge.map V.ref:=by simp
     rw [d1];have Kq:(upd H4 dn (.lst (Ge.map V.ref))) D=some (.lst (ks.map V.ref)):=by rw [au Mq];exact eD
     have k5:KT H4 (upd (upd H4 dn (.lst (Ge.map V.ref))) D (.lst (ks.map V.ref++[.ref b]))):=(bp ed).trans (bp Kq);refine ⟨_,Kq,bj (by rw [Ue,hd2.length,U3];omega),Fq,fun b' o e BA=>?_,Ge,ks++[b],?_,?_,hU.mono k5,?_⟩
     · rw [au (aR e hD),au BA];exact kp b' o e BA
     · rw [au Mq.symm,ae]
     · rw [ae,UC];rfl
     · rw [XC,Uh OO];exact (hd2.mono k5).append (.cons (Bg.mono k5) .nil)
 · rintro σ H2 ⟨c2,c3,ds,rfl,s2,EY,Co⟩;rw [Ue,<- Fj,YA,VW,hu] at Co;have IV:Ats H2 [u] ds:=Co;rw [Ats] at IV;obtain ⟨b,r,rfl,hb,OP⟩:=IV;exact ⟨_,rfl,dn,_,0,.ref b,rfl,rfl,SqL.of EY,at0,k b H2 s2 hb⟩
end LB
def wj (x:Th×Int):Top:=match x.1 with
 | .knot n _=>.nm n x.2.toNat
 | .call s k=>.th (.call s k)
theorem sh:∀ (t:Th),wj (i0 t)=eK Th.call t
 | .knot n ks=>by show Top.nm n (((ks.length:Nat):Int)).toNat=_;rw [VL];rfl
 | .call s k=>rfl
theorem vK {H:Hp}:∀ {l:List Th} {Ac:List Ul},Vg (TpL H) (l.map i0) Ac->Vg (LB.TopAtL H) (l.map (eK Th.call)) Ac
 | [],_,h=>by cases h;exact .nil
 | t::l,Ac,h=>by
   cases h with
   | cons h1 h2 =>
     refine .cons ?_ (vK h2);obtain ⟨ta,e,hA⟩:=h1;cases t with
     | knot n ks =>
       have Gf:At H (.knot n []) ta:=hA;rw [At] at Gf;refine hid fun ZZ kZ=>?_;obtain ⟨hq,as,e2,h3⟩:=Gf;refine kZ ?_;have:as=[]:=U9.mp (by have:=h3.length;exact this);subst this;exact ⟨ta,e,hq,e2⟩
     | call s k=>exact ⟨ta,e,hA⟩
theorem o6:∀ (t u:Th),Top.th u∈t.walk.map (eK Th.call)->u.size<=1:=fun t u h=>by
 obtain ⟨v,_,e⟩:=Vq.mp h;cases v with
 | knot n ks=>cases e
 | call s k=>cases e;rw [Th.size];exact Uq _
def pw (ws:List UA):List UA:=(W4 (jn (ws.map sL))).map ofL
inductive eP (K:Uj) (C:Ul) (vs:List V) (H:Hp) (Q:VK) (E:XK):Prop
 | mk (wl:Ul) (ws:List UA) (Aw:vs=[.ref wl]) (Ax:H wl=some (.lst (ws.map V.str))) (AE:(ws.map (·.length)).sum+ws.length<=6000) (AQ:(∀ t:Th,jy (pw ws) t->t.size<=60000->∀ (r:Ul) (H':Hp),L2.Same H H'->At H' t r->Q (.ref r) H')) (Bx:((∀ t:Th,¬ jy (pw ws) t)->∀ H',L2.Same H H'->E (.ref C) none H')):eP K C vs H Q E
def j9 (K:Uj) (C:Ul):Sp:=eP K C
set_option maxHeartbeats 1000000 in
theorem fm:FnOk P w K mg base (CX1 P w) 4 T.g_read_pattern.f T.g_read_pattern.d ["words"] (j9 K T.e_NoText):=by
 refine T.g_read_pattern.F.ok1 fX (fun vs H Q E h=>?_) (fun Ao A outer s H vs Q E hr h=>?_)
 · obtain ⟨wl,ws,rfl,_⟩:=h;rfl
 obtain ⟨wl,ws,rfl,ew,hlen,kq,ke⟩:=h
 refine ⟨_,(af (ar (i:=1) fX.nd rfl (UI rfl) (xO (sep:=Ug " ") (y:=Ug ".") (z:=Ug " . ") (pv 0) (by decide +kernel) (by decide +kernel)))
  (ai (aA (pcF T.g_built (LB.ok_built T) hr (aa (bc (qt T) (hr.mono (by first | decide | omega)) rfl T.g_tops_of.m T.g_tops_of.F.kp T.g_tops_of.b .nil cP (aa (bc (pF T) (hr.mono (by first | decide | omega)) rfl T.g_steps_of.m T.g_steps_of.F.kp T.g_steps_of.b .nil cP (aa (pcF T.g_words_of (qD T) hr (aa (pv 1) ac)) ac)) ac)) ac))))),?_⟩
 try dsimp only [AO,Ai]
 have Dk:(VG (Ug " ") ws).length<=6000:=by
  have h1:(VG (Ug " ") ws).length=(jn (ws.map sL)).length:=by rw [<- fu];exact congrArg WD (gL ws)
  rw [h1];have h2:=vx (ws.map sL);rw [We,Ue] at h2;have h3:(ws.map (WD ∘ sL))=ws.map (·.length):=Xj fun x _=>fu x;rw [h3] at h2;omega
 refine ⟨_,rfl,wl,ws,rfl,SqL.of ew,?_,by omega,?_⟩
 · show _+ws.length * 1<=1000000;omega
 dsimp only [av]
 have Mt:Y9 (VG (Ug " ") ws) (Ug ".") (Ug " . ")=ofL (d2 46 [32,46,32] (jn (ws.map sL))):=by
  have h1:Ug "."=⟨#[46]⟩:=by decide +kernel
  have h2:(Ug " . ").cps.toList=[32,46,32]:=by decide +kernel
  rw [h1,replace_one _ _ _ (by decide +kernel),h2];exact congrArg (fun l=>ofL (d2 46 [32,46,32] l)) (gL ws)
 rw [Mt]
 have B7:(d2 46 [32,46,32] (jn (ws.map sL))).length<=18000:=by
  have h1:=jm 46 [32,46,32] rfl (jn (ws.map sL))
  have h2:(jn (ws.map sL)).length<=6000:=by
   have h1:(VG (Ug " ") ws).length=(jn (ws.map sL)).length:=by rw [<- fu];exact congrArg WD (gL ws)
   omega
  omega
 have RQ:BB.wordsOf (ofL (d2 46 [32,46,32] (jn (ws.map sL))))=pw ws:=by
  unfold BB.wordsOf;rw [aM,wE];rfl
 have B0:∀ l:List Nat,(l.flatMap sp4).length<=3 * l.length:=fun l=>by
  induction l with
  | nil=>exact Uq _
  | cons d l ih =>
    rw [Xe,Uu,Ui]
    have:(sp4 d).length<=3:=by
     rcases zf d with h | h
     · rw [qh (by omega)];exact Uq _
     · rw [nH h];exact (by decide:1<=3)
    omega
 have RS:(jn (ws.map sL)).length<=6000:=by
  have h1:(VG (Ug " ") ws).length=(jn (ws.map sL)).length:=by rw [<- fu];exact congrArg WD (gL ws)
  omega
 have T5:=B0 (jn (ws.map sL))
 have Bj:(pw ws).length<=18001:=by
  unfold pw W4;rw [Ue];have:=xE ((jn (ws.map sL)).flatMap sp4);omega
 have RT:∀ x∈pw ws,x.length<=100000:=fun x hx=>by
  unfold pw W4 at hx;obtain ⟨y,hy,rfl⟩:=Vq.mp hx;have:=wU hy;rw [dO];omega
 refine ⟨_,rfl,_,rfl,by rw [dO];omega,fun r1 H1 s1 _ e1=>?_⟩;rw [RQ] at e1;refine ⟨r1,pw ws,rfl,e1,by omega,RT,fun l hl r2 xs H2 s2 e2 Ij=>?_,fun hl H2 s2=>ke (fun t ht=>by rw [ht.1] at hl;cases hl) H2 (s1.trans s2)⟩;have G6:=ss hl;have hok:=(gd.mp hl).2;refine ⟨r2,xs,l,rfl,e2,Ij,by omega,hok,fun F hF r3 Ac H3 s3 e3 J8=>?_,fun hF H3 s3=>ke (fun t ht=>?_) H3 (s1.trans (s2.trans s3))⟩
 · obtain ⟨t,rfl,ht⟩:=rj hok hF;obtain ⟨F',IW,RU⟩:=gM ht;rw [hF] at IW;have:=UD IW;subst this;rw [RU] at J8;have AH:=we t;rw [Ue] at G6;obtain ⟨B6,Mu⟩:=oF Th.call t;refine ⟨r3,Ac,t.walk.map (eK Th.call),t,rfl,e3,vK J8,by rw [Ue,Th.walk_len];omega,Mu,fun u hu=>VS (o6 t u hu) (by decide),by rw [B6,BB.lH],fun r4 H4 s4 IL=>?_⟩;exact kq t ⟨hl,ht⟩ (by omega) r4 H4 (s1.trans (s2.trans (s3.trans s4))) IL
 · rw [ht.1] at hl;have:=UD hl;subst this;obtain ⟨F',IW,_⟩:=gM ht.2;rw [hF] at IW;cases IW
def kK:Sp:=fun vs H Q _=>∃ z:UA,vs=[.str z]/\z.length<=30000/\∀ (r:Ul) (H':Hp),L2.Same H H'->H r=none->H' r=some (.lst (((wds (sL z)).map ofL).map V.str))->Q (.ref r) H'
theorem me {c:Nat}:∀ {p p' q q':List Nat},p++c::q=p'++c::q'->(∀ d∈p,d≠c)->(∀ d∈p',d≠c)->p=p'/\q=q'
 | [],[],q,q',h,_,_=>⟨rfl,(U7 h).2⟩
 | [],d::p',q,q',h,_,h2=>absurd (U7 h).1.symm (h2 d (Uy ..))
 | d::p,[],q,q',h,h1,_=>absurd (U7 h).1 (h1 d (Uy ..))
 | d::p,d'::p',q,q',h,h1,h2=>by
   obtain ⟨e1,e2⟩:=U7 h;obtain ⟨e3,e4⟩:=me e2 (fun x hx=>h1 x (Uv _ hx)) (fun x hx=>h2 x (Uv _ hx));exact ⟨by rw [e1,e3],e4⟩
theorem wm (c:Nat):∀ l:List Nat,(∀ d∈l,d≠c)∨∃ p q,l=p++c::q/\∀ d∈p,d≠c
 | []=>.inl fun d h=>by cases h
 | x::l=>by
   by_cases hx:x=c
   · exact .inr ⟨[],l,by rw [hx];rfl,fun d h=>by cases h⟩
   · rcases wm c l with h | ⟨p,q,e,h⟩
     · exact .inl fun d hd=>by
        rcases UH.mp hd with rfl | hd
        · exact hx
        · exact h d hd
     · refine .inr ⟨x::p,q,by rw [e];rfl,fun d hd=>?_⟩;rcases UH.mp hd with rfl | hd
       · exact hx
       · exact h d hd
def KindsOf (f:UA) (ws:List UA) (ks:List (UA×Int)):Prop:=∃ rest,ws=f::rest/\rest≠[]/\Vg KdOf rest ks
def g7 (K:Uj) (C:Ul):Sp:=fun vs H Q E=>∃ w:UA,vs=[.str w]/\w.length<=100000/\(∀ k:UA×Int,KdOf w k->∀ (r:Ul) (H':Hp),L2.Same H H'->KAt H' k r->Q (.ref r) H')/\((∀ k,¬ KdOf w k)->∀ H',L2.Same H H'->E (.ref C) none H')
inductive fV (K:Uj) (C:Ul) (vs:List V) (H:Hp) (Q:VK) (E:XK):Prop
 | mk (f:UA) (wl:Ul) (ws:List UA) (Aw:vs=[.str f,.ref wl]) (Ax:H wl=some (.lst (ws.map V.str))) (AE:ws.length<=100000) (AQ:(∀ x∈ws,x.length<=100000)) (Bx:(∀ ks,KindsOf f ws ks->∀ (r:Ul) (as:List Ul) (H':Hp),L2.Same H H'->H' r=some (.lst (as.map V.ref))->KsAt H' ks as->Q (.ref r) H')) (B':((∀ ks,¬ KindsOf f ws ks)->∀ H',L2.Same H H'->E (.ref C) none H')):fV K C vs H Q E
def mr (K:Uj) (C:Ul):Sp:=fV K C
theorem vA:sL tI=[47]:=by decide +kernel
theorem cN {n:UA} (h:aS n=true):(∀ c∈sL n,97<=c/\c<=122)/\n.length<=8/\n.length≠0:=by
 unfold aS low at h;obtain ⟨h1,h2⟩:=Vv _ _ |>.mp h;have h3:=of_decide_eq_true h1;exact ⟨fun c hc=>of_decide_eq_true (Vo.mp h2 c hc),h3.2,by omega⟩
theorem split_le (c:Nat):∀ l:List Nat,(aH c l).length<=l.length+1
 | []=>Uq _
 | d::l=>by
   have ih:=split_le c l;rw [aH];obtain ⟨p,r,e⟩:=ce c l;rw [e] at ih ⊢;rw [Ui] at ih;split
   · rw [Ui,Ui,Ui];omega
   · rw [Ui,Ui];omega
theorem dB (k:UA×Int):sL (cm k)=sL k.1++47::sL (aV k.2):=by
 unfold cm;rw [eH,eH,vA,U2];rfl
theorem lE {n:UA} (h:aS n=true):∀ d∈sL n,d≠47:=fun d hd=>by
 have:=(cN h).1 d hd;omega
theorem KdOf.uniq {w:UA} {k k':UA×Int} (h:KdOf w k) (h':KdOf w k'):k=k':=by
 obtain ⟨e,h1,h2⟩:=h;refine hid fun ZZ kZ=>?_;obtain ⟨e',B5,B3⟩:=h';have:=congrArg sL (e.symm.trans e');rw [dB,dB] at this;obtain ⟨a,b⟩:=me this (lE h1) (lE B5);refine kZ ?_;have a1:k.1=k'.1:=cE a;have b1:aV k.2=aV k'.2:=cE b;have n1:=bR.mpr ⟨rfl,h2⟩;have n2:=bR.mpr ⟨rfl,B3⟩;rw [b1,n2] at n1;exact ZV a1 (UD n1).symm
open Classical in
noncomputable def kd (w:UA):UA×Int:=if h:∃ k,KdOf w k then h.choose else (w,0)
theorem aat {w:UA} {k:UA×Int} (h:KdOf w k):kd w=k:=by
 unfold kd;have hx:∃ k,KdOf w k:=⟨k,h⟩;rw [dif_pos hx];exact KdOf.uniq hx.choose_spec h
set_option maxHeartbeats 1000000 in
theorem qV:FnOk P w K mg base CX0 1 T.g_words_in.f T.g_words_in.d ["row"] kK:=by
 refine T.g_words_in.F.ok qM (fun vs H Q E h=>?_) (fun Ao A outer s H vs Q E hr h=>?_)
 · obtain ⟨z,rfl,_⟩:=h;rfl
 obtain ⟨z,rfl,hz,q⟩:=h;refine ⟨_,(ai (aA (bP (N:=[Ug "word"]) (js:=[none]) (g:=(av 0)) (tt:=(l8 (tOp (rNe) (bK 0) (tC (.str (Ug "")))))) (te:=(bK 0)) rfl (cC rfl (by decide +kernel) (by decide +kernel) rfl rfl rfl) (eU (bN Vp Y4 Y2 lR (pv 0) (aa aw ac))) (fun _ _ _ _ _ _=>(aB (i:=0) zi rfl (UI rfl))) (bo rfl) (fun _ _ _ _ _ _=>jA (ax fh (pv 0) aw (az _))) (fun _ _ _ _ _ _=>(pv 0))))),?_⟩
 try dsimp only [AO,Ai]
 refine ⟨_,rfl,rfl,z,Ug " ",rfl,rfl,rfl,by omega,fun p hp=>?_⟩
 have B0:Wk z (Ug " ")=(aH 32 (sL z)).map ofL:=by
  have h1:Ug " "=⟨#[32]⟩:=rfl;rw [h1,jI _ (by decide)];rfl
 have Ga:=split_le 32 (sL z);rw [fu] at Ga;have s1:L2.Same H (upd H p (.lst ((Wk z (Ug " ")).map V.str))):=ag hp _;have e1:(upd H p (.lst ((Wk z (Ug " ")).map V.str))) p=some (.lst (((aH 32 (sL z)).map ofL).map V.str)):=by rw [ae,B0]
 generalize (upd H p (.lst ((Wk z (Ug " ")).map V.str)))=H1 at s1 e1 ⊢;refine ⟨p,rfl,⟨_,SqL.of e1⟩,jr ((aH 32 (sL z)).map ofL) (fun x=>!decide (V.str x=V.str (Ug ""))) V.str (SqL.of e1) (by rw [Ue,Ue,Ue]) (by rw [Ue,Ue];omega) (fun i x y H2 R hx hy sm r=>?_) (fun i x y H2 R hx hy _ sm r=>?_) (fun D hD=>?_)⟩
 · rw [Ut,hy] at hx;cases hx;exact ⟨_,rfl,rfl,_,rfl,r⟩
 · rw [Ut,hy] at hx;cases hx;exact ⟨_,rfl,r⟩
 · rw [qH];exact q D _ (s1.trans (ag hD _)) (s1.free hD) ae
set_option maxHeartbeats 1000000 in
theorem nq:FnOk P w K mg base (CX1 P w) 2 T.g_read_kind.f T.g_read_kind.d ["word"] (g7 K T.e_NoText):=by
 refine T.g_read_kind.F.ok1 dM (fun vs H Q E h=>?_) (fun Ao A outer s H vs Q E hr h=>?_)
 · obtain ⟨z,rfl,_⟩:=h;rfl
 obtain ⟨z,rfl,hl,kq,ke⟩:=h
 refine ⟨_,(af (d7 (bN Vp PySem.F.slot_str_partition PySem.F.type_str_partition ng (pv 0) (aa aw ac)) (jV rfl (bM (aB (i:=1) dM.nd rfl (UI rfl)) (bM (aB (i:=2) dM.nd rfl (UI rfl)) (bM (aB (i:=3) dM.nd rfl (UI rfl)) fH)))))
  (af (aN (cO (aZ (pcF T.g_is_name (iF T) hr (aa (pv 1) ac)) (fun _=>rfl))) (ai (bF T.X_NoText T.x_NoText aw)) aE)
  (ai (aA (bi (aa (pv 1) (aa (bc (cK T) (hr.mono (by first | decide | omega)) rfl T.g_read_number.m T.g_read_number.F.kp T.g_read_number.b .nil cP (aa (pv 3) ac)) ac))))))),?_⟩
 try dsimp only [AO,Ai]
 have DM:(⟨#[47]⟩:UA)=Ug "/":=by decide +kernel
 rcases wm 47 (sL z) with ER | ⟨pre,post,hs,ER⟩
 · have Az:∀ H',L2.Same H H'->E (.ref T.e_NoText) none H':=ke fun k hk=>ER 47 (by rw [hk.1,dB];simp) rfl;refine ⟨_,rfl,rfl,.inr ⟨z,47,rfl,by rw [DM],ER,by omega,fun p hp=>?_⟩⟩;have s1:L2.Same H (upd H p (.tup [.str z,.str Wb,.str Wb])):=ag hp _;have e1:(upd H p (.tup [.str z,.str Wb,.str Wb])) p=some (.tup [.str z,.str Wb,.str Wb]):=ae;generalize (upd H p (.tup [.str z,.str Wb,.str Wb]))=H1 at s1 e1 ⊢;refine ⟨p,_,rfl,SqT.of e1,rfl,_,_,rfl,_,_,rfl,_,_,rfl,rfl,?_⟩;dsimp only [av];refine ⟨_,rfl,z,rfl,by omega,fun H2 s2=>?_⟩;cases aS z with
   | false=>exact ⟨_,rfl,bG (Az H2 (s1.trans s2))⟩
   | true =>
     refine ⟨_,rfl,bH ?_⟩;dsimp only [cG];exact ⟨_,rfl,_,rfl,Wb,rfl,by decide,fun n hn=>absurd (hn.symm.trans (show jD Wb=none by decide +kernel)) (by simp),fun _ H3 s3=>Az H3 (s1.trans (s2.trans s3))⟩
 · have Bj:(ofL pre).length<=z.length/\(ofL post).length<=z.length:=by
    rw [dO,dO,<- fu z,hs,Uu,Ui];omega
   refine ⟨_,rfl,rfl,.inl ⟨z,47,pre,post,rfl,by rw [DM],hs,ER,by omega,fun p hp=>?_⟩⟩;have s1:L2.Same H (upd H p (.tup [.str (ofL pre),.str ⟨#[47]⟩,.str (ofL post)])):=ag hp _;have e1:(upd H p (.tup [.str (ofL pre),.str ⟨#[47]⟩,.str (ofL post)])) p=some (.tup [.str (ofL pre),.str ⟨#[47]⟩,.str (ofL post)]):=ae;generalize (upd H p (.tup [.str (ofL pre),.str ⟨#[47]⟩,.str (ofL post)]))=H1 at s1 e1 ⊢
   have BS:∀ k,KdOf z k->k.1=ofL pre/\aV k.2=ofL post:=fun k hk=>by
    have:=hs;rw [hk.1,dB] at this;obtain ⟨a,b⟩:=me this (lE hk.2.1) ER;exact ⟨cE (a.trans (aM pre).symm),cE (b.trans (aM post).symm)⟩
   refine ⟨p,_,rfl,SqT.of e1,rfl,_,_,rfl,_,_,rfl,_,_,rfl,rfl,?_⟩;dsimp only [av];refine ⟨_,rfl,ofL pre,rfl,by omega,fun H2 s2=>?_⟩;cases hn:aS (ofL pre) with
   | false=>exact ⟨_,rfl,bG (ke (fun k hk=>by have:=hk.2.1;rw [(BS k hk).1,hn] at this;cases this) H2 (s1.trans s2))⟩
   | true =>
     refine ⟨_,rfl,bH ?_⟩;dsimp only [cG];refine ⟨_,rfl,_,rfl,ofL post,rfl,by omega,fun n Mv H3 s3=>⟨aj (by show 2<=1000000;decide),fun r Bv=>?_⟩,fun Mv H3 s3=>ke (fun k hk=>?_) H3 (s1.trans (s2.trans s3))⟩
     · obtain ⟨e2,e3⟩:=bR.mp Mv;refine kq (ofL pre,n) ⟨cE ?_,hn,e3⟩ r _ (s1.trans (s2.trans (s3.trans (ag Bv _)))) ae;show sL z=sL (cm (ofL pre,n));rw [dB,hs,<- e2];rw [show sL (ofL pre)=pre from aM pre,show sL (ofL post)=post from aM post]
     · have:=(bR.mpr ⟨(BS k hk).2.symm,hk.2.2⟩);rw [Mv] at this;cases this
set_option maxHeartbeats 1000000 in
theorem gj:FnOk P w K mg base (CX1 P w) 3 T.g_read_kinds.f T.g_read_kinds.d ["first","words"] (mr K T.e_NoText):=by
 refine T.g_read_kinds.F.ok1 m8 (fun vs H Q E h=>?_) (fun Ao A outer s H vs Q E hr h=>?_)
 · obtain ⟨f,wl,ws,rfl,_⟩:=h;rfl
 obtain ⟨f,wl,ws,rfl,ew,hlen,hle,kq,ke⟩:=h
 refine ⟨_,(af (aN (PW.pt (fS (ax gx (aq al rfl T.n_len UL (aa (pv 1) ac)) ad (az _)) (eW (ax fh (ao aG (pv 1) ad (fun _ _=>rfl)) (pv 0) (az _))))) (ai (bF T.X_NoText T.x_NoText aw)) aE)
  (ai (aA (wf (N:=[Ug "word"]) (js:=[none]) (g:=(av 0)) (tt:=aU) (te:=(nW (g7 K T.e_NoText) [] E (bx (bK 0) de))) (cC rfl (by decide +kernel) (by decide +kernel) rfl rfl rfl) (eU (bz eQ (pv 1) (bB ad) cj)) (fun _ _ _ _ _ _=>(aB (i:=0) zi rfl (UI rfl))) (bo rfl) (fun _ _ _ _ _ _=>bQ) (fun _ _ _ _ _ _=>(bc (nq T) (hr.mono (by first | decide | omega)) rfl T.g_read_kind.m T.g_read_kind.F.kp T.g_read_kind.b .nil aaq (aa (pv 0) ac))))))),?_⟩
 try dsimp only [AO,Ai]
 refine ⟨_,rfl,wl,_,rfl,.inl (SqL.of ew),_,_,rfl,rfl,_,rfl,?_⟩;rw [Ue];by_cases c1:ws.length<2
 · rw [decide_eq_true (show ((ws.length:Nat):Int)<2 by omega)];refine bG (ke (fun ks hk=>?_) H (.refl _));refine hid fun ZZ kZ=>?_;obtain ⟨rest,e,Au,_⟩:=hk;refine kZ ?_;have:=VQ.mpr Au;rw [e,Ui] at c1;omega
 rw [decide_eq_false (show ¬ ((ws.length:Nat):Int)<2 by omega)];refine bH ?_
 obtain ⟨w0,rest,rfl⟩:∃ w0 rest,ws=w0::rest:=by
  cases ws with
  | nil=>exact absurd (by decide) c1
  | cons w0 rest=>exact ⟨w0,rest,rfl⟩
 rw [Ui] at c1 hlen;refine ⟨_,rfl,wl,_,0,.str w0,rfl,rfl,SqL.of ew,at0,_,rfl,rfl,_,rfl,?_⟩;by_cases c2:w0=f
 case neg =>
  rw [decide_eq_false (show ¬ V.str w0=V.str f from fun z=>c2 (V.str.inj z))];refine bG (ke (fun ks hk=>?_) H (.refl _));obtain ⟨_,e,_⟩:=hk;exact c2 (U7 e).1
 subst c2;rw [decide_eq_true rfl];refine bH ?_;dsimp only [cG];refine ⟨_,rfl,1,rfl,wl,_,rfl,SqL.of ew,fun l1 Bl=>?_⟩;have GR:cB ((w0::rest).map V.str) (some 1) none=rest.map V.str:=jc _ _;rw [GR];have s1:L2.Same H (upd H l1 (.lst (rest.map V.str))):=ag Bl _;have e1:(upd H l1 (.lst (rest.map V.str))) l1=some (.lst (rest.map V.str)):=ae;generalize (upd H l1 (.lst (rest.map V.str)))=H1 at s1 e1 ⊢;have Mw:rest≠[]:=fun z=>by rw [z] at c1;exact c1 (by decide)
 refine ⟨l1,rfl,⟨_,SqL.of e1⟩,fO (F:=fun H z p=>KAt H (kd z) p/\KdOf z (kd z)) (xs:=rest.map V.str) rest (fun H1 H2 z p kt h=>⟨kt _ _ h.1,h.2⟩) (by rw [Ue]) (by rw [Ue];omega) (fun i Hx sx hi=>⟨_,_,SqL.of (sx _ _ e1),Uh hi⟩) (fun Hx sx=>⟨_,SqL.of (sx _ _ e1),Uq _⟩) (fun i Hx x Hy sx hi hy=>⟨hy.1,hy.2 _ (SqL.of (sx _ _ e1))⟩) (fun i x z Hx R W' hx hk sx hR=>?_) (fun D H2 as hD s2 eD AS=>?_)⟩
 · rw [Ut,hk] at hx;cases hx;have hm:=Ur hk;refine ⟨_,rfl,z,rfl,hle z (Uv _ hm),fun k BS r H3 s3 h3=>hR H3 r s3 ?_,fun Az H3 s3=>ke (fun ks AS=>?_) H3 (s1.trans (sx.trans s3))⟩
   · rw [aat BS];exact ⟨h3,BS⟩
   · refine hid fun ZZ kZ=>?_;obtain ⟨Dm,e,_,hp⟩:=AS;refine kZ ?_;obtain rfl:=(U7 e).2;obtain ⟨k,_,DC⟩:=P2.get hp hk;exact Az k DC
 · refine kq (rest.map kd) ⟨rest,rfl,Mw,?_⟩ D as H2 (s1.trans s2) eD ?_
   · have:∀ {l:List UA} {as:List Ul},Vg (fun z p=>KAt H2 (kd z) p/\KdOf z (kd z)) l as->Vg KdOf l (l.map kd):=fun {l as} h=>by
      induction h with
      | nil=>exact .nil
      | cons h t ih=>exact .cons h.2 ih
     exact this AS
   · have:∀ {l:List UA} {as:List Ul},Vg (fun z p=>KAt H2 (kd z) p/\KdOf z (kd z)) l as->KsAt H2 (l.map kd) as:=fun {l as} h=>by
      induction h with
      | nil=>exact .nil
      | cons h t ih=>exact .cons h.1 ih
     exact this AS
def HeadOf (ws:List UA) (t:Th):Prop:=∃ rest,ws=Ug "head"::rest/\jy (pw rest) t
def RuleOf (st:Int) (nm:UA) (ws:List UA) (t:Th):Prop:=∃ rest,ws=Ug "rule"::aV st::nm::rest/\rest≠[]/\(0<=st/\st<1000)/\jy (pw rest) t
def WsOk (ws:List UA):Prop:=(ws.map (·.length)).sum+ws.length<=6000
theorem WsOk.tail {x:UA} {ws:List UA} (h:WsOk (x::ws)):WsOk ws:=by
 unfold WsOk at h ⊢;rw [UB,V7,Ui] at h;omega
theorem WsOk.mem:∀ {ws:List UA},WsOk ws->∀ x∈ws,x.length<=6000
 | [],_,x,hx=>by cases hx
 | y::ws,h,x,hx=>by
   rcases UH.mp hx with rfl | hx
   · unfold WsOk at h;rw [UB,V7] at h;omega
   · exact WsOk.mem h.tail x hx
inductive gC (K:Uj) (C:Ul) (vs:List V) (H:Hp) (Q:VK) (E:XK):Prop
 | mk (wl:Ul) (ws:List UA) (Aw:vs=[.ref wl]) (Ax:H wl=some (.lst (ws.map V.str))) (AE:WsOk ws) (AQ:(∀ t:Th,HeadOf ws t->t.size<=60000->∀ (r:Ul) (H':Hp),L2.Same H H'->At H' t r->Q (.ref r) H')) (Bx:((∀ t,¬ HeadOf ws t)->∀ H',L2.Same H H'->E (.ref C) none H')):gC K C vs H Q E
def m4 (K:Uj) (C:Ul):Sp:=gC K C
inductive gE (K:Uj) (C:Ul) (vs:List V) (H:Hp) (Q:VK) (E:XK):Prop
 | mk (st:Int) (nm:UA) (wl:Ul) (ws:List UA) (Aw:vs=[.int st,.str nm,.ref wl]) (Ax:H wl=some (.lst (ws.map V.str))) (AE:WsOk ws) (AQ:(∀ t:Th,RuleOf st nm ws t->t.size<=60000->∀ (r:Ul) (H':Hp),L2.Same H H'->At H' t r->Q (.ref r) H')) (Bx:((∀ t,¬ RuleOf st nm ws t)->∀ H',L2.Same H H'->E (.ref C) none H')):gE K C vs H Q E
def nn (K:Uj) (C:Ul):Sp:=gE K C
set_option maxHeartbeats 1000000 in
theorem nv:FnOk P w K mg base (CX1 P w) 5 T.g_read_head.f T.g_read_head.d ["words"] (m4 K T.e_NoText):=by
 refine T.g_read_head.F.ok1 oJ (fun vs H Q E h=>?_) (fun Ao A outer s H vs Q E hr h=>?_)
 · obtain ⟨wl,ws,rfl,_⟩:=h;rfl
 obtain ⟨wl,ws,rfl,ew,hok,kq,ke⟩:=h
 refine ⟨_,(af (aN (ax (yQ (B:=150) (qI hr)) (bz eQ (pv 0) cj (bB ad)) (bg (aa aw ac)) (az _)) (ai (bF T.X_NoText T.x_NoText aw)) aE)
  (ai (aA (bc (fm T) (hr.mono (by first | decide | omega)) rfl T.g_read_pattern.m T.g_read_pattern.F.kp T.g_read_pattern.b .nil cP (aa (bz eQ (pv 0) (bB ad) cj) ac))))),?_⟩
 try dsimp only [AO,Ai]
 refine ⟨_,rfl,1,rfl,wl,_,rfl,SqL.of ew,fun l1 Bl=>?_⟩
 have GR:cB (ws.map V.str) none (some 1)=(ws.take 1).map V.str:=by
  unfold cB;rw [show (1:Int)=((1:Nat):Int) by rfl,HT.sIx_none,HT.sIx_nat,Ue,VW,Yz,<- YR];congr 1;cases ws with
  | nil=>rfl
  | cons x ws=>rw [Ui,W5 (by omega)]
 rw [GR];have s1:L2.Same H (upd H l1 (.lst ((ws.take 1).map V.str))):=ag Bl _;have e1:(upd H l1 (.lst ((ws.take 1).map V.str))) l1=some (.lst ((ws.take 1).map V.str)):=ae;generalize (upd H l1 (.lst ((ws.take 1).map V.str)))=H1 at s1 e1 ⊢;refine ⟨aj (by show 1<=1000000;decide),fun l2 Bh=>?_⟩;have s2:L2.Same H1 (upd H1 l2 (.lst [.str (Ug "head")])):=ag Bh _;have e2:(upd H1 l2 (.lst [.str (Ug "head")])) l2=some (.lst [.str (Ug "head")]):=ae;generalize (upd H1 l2 (.lst [.str (Ug "head")]))=H2 at s2 e2 ⊢;have C4:=s1.trans s2;refine ⟨l1,l2,_,_,(ws.take 1).map Dv.str,[.str (Ug "head")],rfl,rfl,SqL.of (s2 _ _ e1),SqL.of e2,?_,.cons (by rw [DAt]) .nil,?_,fun bb Ca=>⟨_,rfl,?_⟩⟩
 · cases ws with
   | nil=>exact .nil
   | cons x ws=>exact .cons (by rw [DAt]) .nil
 · cases ws with
   | nil=>decide +kernel
   | cons x ws=>show eF [Dv.str x]<=150;rw [eF,eF,Dv.deep];decide
 by_cases c:ws.take 1=[Ug "head"]
 case neg =>
  have hb:bb=true:=Ca.mpr fun z=>c (by
   cases ws with
   | nil=>cases z
   | cons x ws =>
     have:=(U7 z).1;cases this;rfl)
  subst hb;refine bG (ke (fun t ht=>?_) H2 C4);obtain ⟨rest,e,_⟩:=ht;rw [e] at c;exact c rfl
 obtain ⟨rest,rfl⟩:∃ rest,ws=Ug "head"::rest:=by
  cases ws with
  | nil=>cases c
  | cons x ws=>exact ⟨ws,by have:=(U7 c).1;rw [this]⟩
 have hb:bb=false:=by
  cases bb with
  | false=>rfl
  | true=>exact absurd rfl (Ca.mp rfl)
 subst hb;refine bH ?_;dsimp only [cG];refine ⟨_,rfl,1,rfl,wl,_,rfl,SqL.of (C4 _ _ ew),fun l3 Ea=>?_⟩;have Gg:cB ((Ug "head"::rest).map V.str) (some 1) none=rest.map V.str:=jc _ _;rw [Gg];have s3:L2.Same H2 (upd H2 l3 (.lst (rest.map V.str))):=ag Ea _;have e3:(upd H2 l3 (.lst (rest.map V.str))) l3=some (.lst (rest.map V.str)):=ae;generalize (upd H2 l3 (.lst (rest.map V.str)))=H3 at s3 e3 ⊢;have C2:=C4.trans s3
 exact ⟨l3,rest,rfl,e3,hok.tail,fun t ht hz r H4 s4 h4=>kq t ⟨rest,rfl,ht⟩ hz r H4 (C2.trans s4) h4,fun Az H4 s4=>ke (fun t ht=>by
  obtain ⟨r',e,h'⟩:=ht;rw [<- (U7 e).2] at h';exact Az t h') H4 (C2.trans s4)⟩
set_option maxHeartbeats 1000000 in
theorem m7:FnOk P w K mg base (CX1 P w) 5 T.g_read_rule.f T.g_read_rule.d ["state","name","words"] (nn K T.e_NoText):=by
 refine T.g_read_rule.F.ok1 pI (fun vs H Q E h=>?_) (fun Ao A outer s H vs Q E hr h=>?_)
 · obtain ⟨st,nm,wl,ws,rfl,_⟩:=h;rfl
 obtain ⟨st,nm,wl,ws,rfl,ew,hok,kq,ke⟩:=h
 refine ⟨_,(af (aN (PW.pt (fS (ax gx (aq al rfl T.n_len UL (aa (pv 2) ac)) ad (az _)) (fS (ax fh (ao aG (pv 2) ad (fun _ _=>rfl)) aw (az _)) (fS (ax fh (bc (cK T) (hr.mono (by first | decide | omega)) rfl T.g_read_number.m T.g_read_number.F.kp T.g_read_number.b .nil cP (aa (ao aG (pv 2) ad (fun _ _=>rfl)) ac)) (pv 0) (az _)) (eW (ax fh (ao aG (pv 2) ad (fun _ _=>rfl)) (pv 1) (az _))))))) (ai (bF T.X_NoText T.x_NoText aw)) aE)
  (ai (aA (bc (fm T) (hr.mono (by first | decide | omega)) rfl T.g_read_pattern.m T.g_read_pattern.F.kp T.g_read_pattern.b .nil cP (aa (bz eQ (pv 2) (bB ad) cj) ac))))),?_⟩
 try dsimp only [AO,Ai]
 refine ⟨_,rfl,wl,_,rfl,.inl (SqL.of ew),_,_,rfl,rfl,_,rfl,?_⟩;rw [Ue];by_cases c0:ws.length<4
 · rw [decide_eq_true (show ((ws.length:Nat):Int)<4 by omega)];refine bG (ke (fun t ht=>?_) H (.refl _));obtain ⟨rest,rfl,Au,_⟩:=ht;have:=VQ.mpr Au;simp only [Ui] at c0;omega
 rw [decide_eq_false (show ¬ ((ws.length:Nat):Int)<4 by omega)];refine bH ?_;refine hid fun ZZ kZ=>?_
 obtain ⟨x,y,n,rest,rfl,Au⟩:∃ x y n rest,ws=x::y::n::rest/\rest≠[]:=by
  match ws,c0 with
  | [],h=>exact absurd (by decide) h
  | [_],h=>exact absurd (show 1<4 by decide) h
  | [_,_],h=>exact absurd (show 2<4 by decide) h
  | [_,_,_],h=>exact absurd (show 3<4 by decide) h
  | x::y::n::u::v,_=>exact ⟨x,y,n,u::v,rfl,by simp⟩
 refine kZ ?_
 have hinv:∀ t,RuleOf st nm (x::y::n::rest) t->x=Ug "rule"/\y=aV st/\n=nm/\(0<=st/\st<1000)/\jy (pw rest) t:=fun t ht=>by
  obtain ⟨r',e,_,h1,h2⟩:=ht;obtain ⟨e1,e⟩:=U7 e;obtain ⟨e2,e⟩:=U7 e;obtain ⟨e3,e⟩:=U7 e;rw [<- e] at h2;exact ⟨e1,e2,e3,h1,h2⟩
 refine ⟨_,rfl,wl,_,0,.str x,rfl,rfl,SqL.of ew,at0,rfl,_,rfl,?_⟩;by_cases c1:x=Ug "rule"
 case neg =>
  rw [decide_eq_false (show ¬ V.str x=V.str (Ug "rule") from fun z=>c1 (V.str.inj z))];exact bG (ke (fun t ht=>c1 (hinv t ht).1) H (.refl _))
 subst c1;rw [decide_eq_true rfl];refine bH ?_;refine ⟨_,rfl,wl,_,1,.str y,rfl,rfl,SqL.of ew,at1,y,rfl,by have:=hok.mem y (by simp);omega,fun m hm H1 s1=>?_,fun hm H1 s1=>ke (fun t ht=>by rw [bR.mpr ⟨(hinv t ht).2.1,(hinv t ht).2.2.2.1⟩] at hm;cases hm) H1 s1⟩;refine ⟨_,rfl,rfl,_,rfl,?_⟩;by_cases c2:m=st
 case neg =>
  rw [decide_eq_false (show ¬ V.int m=V.int st from fun z=>c2 (V.int.inj z))];refine bG (ke (fun t ht=>c2 ?_) H1 s1);rw [bR.mpr ⟨(hinv t ht).2.1,(hinv t ht).2.2.2.1⟩] at hm;exact (UD hm).symm
 subst c2;rw [decide_eq_true rfl];refine bH ?_;have OQ:=s1 _ _ ew;refine ⟨_,rfl,wl,_,2,.str n,rfl,rfl,SqL.of OQ,at2,_,rfl,rfl,_,rfl,?_⟩;by_cases c3:n=nm
 case neg =>
  rw [decide_eq_false (show ¬ V.str n=V.str nm from fun z=>c3 (V.str.inj z))];exact bG (ke (fun t ht=>c3 (hinv t ht).2.2.1) H1 s1)
 subst c3;rw [decide_eq_true rfl];refine bH ?_;dsimp only [cG];refine ⟨_,rfl,3,rfl,wl,_,rfl,SqL.of OQ,fun l3 Ea=>?_⟩
 have Gg:cB ((Ug "rule"::y::n::rest).map V.str) (some 3) none=rest.map V.str:=by
  rw [show (3:Int)=((3:Nat):Int) by rfl,jH (by rw [Ue,Ui,Ui,Ui];omega)];rfl
 rw [Gg];have s3:L2.Same H1 (upd H1 l3 (.lst (rest.map V.str))):=ag Ea _;have e3:(upd H1 l3 (.lst (rest.map V.str))) l3=some (.lst (rest.map V.str)):=ae;generalize (upd H1 l3 (.lst (rest.map V.str)))=H3 at s3 e3 ⊢;have C2:=s1.trans s3;obtain ⟨hy,Gh⟩:=bR.mp hm;exact ⟨l3,rest,rfl,e3,hok.tail.tail.tail,fun t ht hz r H4 s4 h4=>kq t ⟨rest,by rw [hy],Au,Gh,ht⟩ hz r H4 (C2.trans s4) h4,fun Az H4 s4=>ke (fun t ht=>Az t (hinv t ht).2.2.2.2) H4 (C2.trans s4)⟩
theorem tz {t u:Th} (ht:t.tall<=101) (hu:u.tall<=101) (h:t.stP.map (·.2)=u.stP.map (·.2)):t=u:=by
 refine hid fun ZZ kZ=>?_;obtain ⟨F,h1,h2⟩:=gM ht;obtain ⟨G,h3,h4⟩:=gM hu;refine kZ ?_;rw [h,h3] at h1;have:=UD h1;subst this;rw [h2] at h4;have h5:=congrArg (List.map wj) h4;rw [We,We,show (wj ∘ i0)=eK Th.call from funext sh] at h5;obtain ⟨b1,_⟩:=oF Th.call t;obtain ⟨b2,_⟩:=oF Th.call u;rw [h5,b2,BB.lH,BB.lH] at b1;exact (U7 b1).1.symm
theorem RuleOf.uniq {st:Int} {nm:UA} {ws:List UA} {t u:Th} (h:RuleOf st nm ws t) (h':RuleOf st nm ws u):t=u:=by
 obtain ⟨r,e,_,_,h1,h2⟩:=h;refine hid fun ZZ kZ=>?_;obtain ⟨r',e',_,_,h3,h4⟩:=h';refine kZ ?_;rw [e] at e';have:r=r':=(U7 (U7 (U7 e').2).2).2;subst this;exact tz h2 h4 (UD (h1.symm.trans h3))
structure fM (ins:List (UA×Int)) (rows:List (List Th)) (WR:List (List UA)):Prop where
 len:WR.length=rows.length * ins.length
 row:∀ row∈rows,row.length=ins.length
 w:∀ (s j:Nat) (row:List Th) (t:Th) (k:UA×Int),rows[s]?=some row->row[j]?=some t->ins[j]?=some k->∃ ws,WR[s * ins.length+j]?=some ws/\RuleOf (s:Nat) k.1 ws t/\t.size<=60000
structure RlI (H0:Hp) (rl:Ul) (rows:List (List Th)) (n i L:Nat) (AV:List Ul) (H:Hp):Prop where
 sm:L2.Same H0 H
 rl0:H0 rl=none
 er:H rl=some (.lst (AV.map V.ref))
 len:AV.length=L
 nd:AV.Nodup
 fr:∀ a∈AV,H0 a=none
 rln:rl∉AV
 ent:∀ (s:Nat) (a:Ul) (row:List Th),AV[s]?=some a->rows[s]?=some row->∃ Ac:List Ul,H a=some (.lst (Ac.map V.ref))/\Ats H (row.take (i - s * n)) Ac
theorem RlI.same {H0 H H':Hp} {rl:Ul} {rows:List (List Th)} {n i L:Nat} {AV:List Ul} (h:RlI H0 rl rows n i L AV H) (s:L2.Same H H'):RlI H0 rl rows n i L AV H' :=
 ⟨h.sm.trans s,h.rl0,s _ _ h.er,h.len,h.nd,h.fr,h.rln,fun x a row h1 h2=>by
  obtain ⟨Ac,e,ht⟩:=h.ent x a row h1 h2;exact ⟨Ac,s _ _ e,ht.mono (Same.kt s)⟩⟩
def vP (ins:List (UA×Int)) (WR:List (List UA)) (i:Nat) (t:Th):Prop:=∃ (ws:List UA) (k:UA×Int),WR[i]?=some ws/\ins[i%ins.length]?=some k/\RuleOf ((i / ins.length:Nat):Int) k.1 ws t/\t.size<=60000
open Classical in
noncomputable def uQ (ins:List (UA×Int)) (WR:List (List UA)) (i:Nat):Th:=if h:∃ t,vP ins WR i t then h.choose else .call 0 0
theorem xz {ins:List (UA×Int)} {WR:List (List UA)} {i:Nat} {t:Th} (h:vP ins WR i t):uQ ins WR i=t:=by
 unfold uQ;have hx:∃ t,vP ins WR i t:=⟨t,h⟩;rw [dif_pos hx];refine hid fun ZZ kZ=>?_;obtain ⟨ws,k,h1,h2,h3,_⟩:=hx.choose_spec;refine kZ ?_;obtain ⟨DE,k',B5,B3,Kr,_⟩:=h;rw [h1] at B5;rw [h2] at B3;cases B5;cases B3;exact h3.uniq Kr
noncomputable def rowsOf (ins:List (UA×Int)) (WR:List (List UA)):List (List Th):=(Vr (WR.length / ins.length)).map fun s=>(Vr ins.length).map fun j=>uQ ins WR (s * ins.length+j)
theorem iA {ins:List (UA×Int)} {WR:List (List UA)} {s:Nat} {row:List Th} (h:(rowsOf ins WR)[s]?=some row):s<WR.length / ins.length/\row=(Vr ins.length).map fun j=>uQ ins WR (s * ins.length+j):=by
 unfold rowsOf at h;rw [Ut] at h;obtain ⟨y,hy,rfl⟩:=VR.mp h;obtain ⟨hl,e⟩:=Uz.mp hy;rw [VJ] at hl;rw [List.getElem_range] at e;subst e;exact ⟨hl,rfl⟩
theorem il {α:Type} {f:Nat->α} {n j:Nat} {x:α} (h:((Vr n).map f)[j]?=some x):j<n/\x=f j:=by
 rw [Ut] at h;obtain ⟨y,hy,rfl⟩:=VR.mp h;obtain ⟨hl,e⟩:=Uz.mp hy;rw [VJ] at hl;rw [List.getElem_range] at e;subst e;exact ⟨hl,rfl⟩
inductive fR (K:Uj) (C:Ul) (vs:List V) (H:Hp) (Q:VK) (E:XK):Prop
 | mk (ia wr:Ul) (ias Gi:List Ul) (ins:List (UA×Int)) (WR:List (List UA)) (Aw:vs=[.ref ia,.ref wr]) (Ax:H ia=some (.lst (ias.map V.ref))) (AE:KsAt H ins ias) (AQ:ins≠[]) (Bx:ins.length<=1000) (B':H wr=some (.lst (Gi.map V.ref))) (DW:Vg (fun ws a=>H a=some (.lst ((ws:List UA).map V.str))) WR Gi) (F0:WR.length<=1000) (zz8:(∀ ws∈WR,WsOk ws)) (IJ:(∀ rows,fM ins rows WR->∀ (r:Ul) (AV:List Ul) (H':Hp),L2.Same H H'->H' r=some (.lst (AV.map V.ref))->Vg (SRow H') rows AV->Q (.ref r) H')) (ET:((∀ rows,¬ fM ins rows WR)->∀ H',L2.Same H H'->E (.ref C) none H')):fR K C vs H Q E
def lQ (K:Uj) (C:Ul):Sp:=fR K C
theorem qT {α β:Type} {F:α->β->Prop}:∀ {a:List α} {b:List β},a.length=b.length->(∀ (i:Nat) (x:α) (y:β),a[i]?=some x->b[i]?=some y->F x y)->Vg F a b
 | [],[],_,_=>.nil
 | x::a,y::b,hl,h=>.cons (h 0 x y rfl rfl) (qT (by simpa using hl) fun i u v hu hv=>h (i+1) u v (by simpa using hu) (by simpa using hv))
 | [],y::b,hl,_=>by cases hl
 | x::a,[],hl,_=>by cases hl
set_option maxHeartbeats 2000000 in
theorem my:FnOk P w K mg base (CX1 P w) 6 T.g_read_rules.f T.g_read_rules.d ["ins","rows"] (lQ K T.e_NoText):=by
 refine T.g_read_rules.F.ok1 cr (fun vs H Q E h=>?_) (fun Ao A outer s H vs Q E hr h=>?_)
 · obtain ⟨ia,wr,ias,Gi,ins,WR,rfl,_⟩:=h;rfl
 obtain ⟨ia,wr,ias,Gi,ins,WR,rfl,ei,Cj,Au,h8,Mx,OR,RV,RW,kq,ke⟩:=h
 refine ⟨_,(af (aN (ax fh (ak aK (aq al rfl T.n_len UL (aa (pv 1) ac)) (aq al rfl T.n_len UL (aa (pv 0) ac))) ad (az _)) (ai (bF T.X_NoText T.x_NoText aw)) aE)
  (af (ar (i:=2) cr.nd rfl (UI rfl) (bg ac))
  (af (b9 Yu rfl (u7 rfl T.n_enumerate (pv 1)) (jV rfl (bM (aB (i:=3) cr.nd rfl (UI rfl)) (bM (aB (i:=4) cr.nd rfl (UI rfl)) fH))) (af (d7 (aq qp rfl T.n_divmod PyProof.Rows.boot_divmod (aa (pv 3) (aa (aq al rfl T.n_len UL (aa (pv 0) ac)) ac))) (jV rfl (bM (aB (i:=5) cr.nd rfl (UI rfl)) (bM (aB (i:=6) cr.nd rfl (UI rfl)) fH))))
  (af (aN (ax cb (pv 6) ad (az _)) (ai (ba (bN UR Vc Vb bf (pv 2) (aa (bg ac) ac)))) aE)
  (ai (ba (bN UR Vc Vb bf (ao aG (pv 2) (pv 5) (fun _ _=>rfl)) (aa (bc (m7 T) (hr.mono (by first | decide | omega)) rfl T.g_read_rule.m T.g_read_rule.F.kp T.g_read_rule.b .nil cP (aa (pv 5) (aa (ao ay (ao aG (pv 0) (pv 6) (fun _ _=>rfl)) ad (fun _ _=>rfl)) (aa (pv 4) ac)))) ac)))))))
  (ai (aA (pv 2)))))),?_⟩
 try dsimp only [AO,Ai]
 have Qk:=VQ.mpr Au;have BQ:ins.length=ias.length:=UK Cj;have Dw:WR.length=Gi.length:=UK OR;obtain ⟨n,hn⟩:∃ n,n=ins.length:=⟨_,rfl⟩;have hN:((ias.map V.ref).length:Int)=((n:Nat):Int):=by rw [Ue,hn,BQ]
 have hW:((Gi.map V.ref).length:Int)=((WR.length:Nat):Int):=by rw [Ue,<- Dw]
 refine ⟨_,rfl,wr,_,rfl,.inl (SqL.of Mx),_,rfl,ia,_,rfl,.inl (SqL.of ei),_,_,rfl,rfl,(by rw [hN];omega),rfl,_,rfl,?_⟩;rw [hN,hW];have hm:((WR.length:Nat):Int)%((n:Nat):Int)=((WR.length%n:Nat):Int):=rfl;rw [hm];by_cases E2:WR.length%n=0
 case neg =>
  rw [decide_eq_false (show ¬ V.int ((WR.length%n:Nat):Int)=V.int 0 from fun z=>E2 (by have:=V.int.inj z;omega))];refine bG (ke (fun rows hR=>E2 ?_) H (.refl _));rw [hR.len,hn];exact Nat.mul_mod_left _ _
 rw [E2,decide_eq_true (show V.int ((0:Nat):Int)=V.int 0 from rfl)];refine bH ?_;dsimp only [cG];obtain ⟨rows,AK⟩:∃ rows,rows=rowsOf ins WR:=⟨_,rfl⟩;have IX:rows.length=WR.length / n:=by rw [AK,hn];unfold rowsOf;rw [Ue,VJ]
 have RX:rows.length<=1000:=by rw [IX];exact VS (Nat.div_le_self _ _) RV
 have IY:WR.length=rows.length * n:=by rw [IX,Nat.div_mul_cancel (Nat.dvd_of_mod_eq_zero E2)]
 have Dn:∀ row∈rows,row.length=n:=fun row Ad=>by
  obtain ⟨s,hs⟩:=Vj.mp Ad;rw [AK] at hs;rw [(iA hs).2,Ue,VJ,hn]
 refine ⟨aj (by show 0<=1000000;decide),fun rl B7=>?_⟩;have s1:L2.Same H (upd H rl (.lst [])):=ag B7 _;have e1:(upd H rl (.lst [])) rl=some (.lst (([]:List Ul).map V.ref)):=ae;generalize (upd H rl (.lst []))=H1 at s1 e1 ⊢;dsimp only [av];have CH:0<n:=by omega
 refine ⟨_,rfl,wr,rfl,⟨_,SqL.of (s1 _ _ Mx)⟩,?_⟩
 refine uy (K:=K) (a:=wr) (xs:=Gi.map V.ref) (fun i σ H3=>Ex5 fun (c3 c4 c5 c6:Option V) (AV:List Ul)=>An3 (σ=[some (.ref ia),some (.ref wr),some (.ref rl),c3,c4,c5,c6]) (RlI H rl rows n i ((i+n - 1) / n) AV H3) (∀ i',i'<i->vP ins WR i' (uQ ins WR i')))
  ⟨none,none,none,none,[],rfl,⟨s1,B7,e1,by rw [Xv,XQ (by omega)];rfl,YF,(fun a h=>by cases h),Wh,fun s a row h=>by simp at h⟩,fun i' h=>absurd h (Nat.not_lt_zero _)⟩ (fun i σ H3 _ ⟨_,_,_,_,_,_,I,_⟩=>SqL.of (I.sm _ _ Mx)) ?_ ?_
 · rintro i x pr σ H3 hx Mn ⟨c3,c4,c5,c6,AV,rfl,I0,Am⟩;obtain ⟨wa,rfl,Ks⟩:=bu hx;have RY:=(Uz.mp Ks).1;have IZ:i<rows.length * n:=by rw [<- IY];omega
   obtain ⟨s,hs⟩:∃ s,s=i / n:=⟨_,rfl⟩;obtain ⟨j,hj⟩:∃ j,j=i%n:=⟨_,rfl⟩;have EO:i=s * n+j:=by rw [hs,hj,XO];exact (Nat.div_add_mod i n).symm
   have Kt:j<n:=by rw [hj];exact Nat.mod_lt _ CH
   have RZ:s<rows.length:=by rw [hs];exact Zl (by rw [XO];exact IZ)
   have s4:L2.Same H3 (upd H3 pr (.tup [.int ((i:Nat):Int),.ref wa])):=ag Mn _;have e4:(upd H3 pr (.tup [.int ((i:Nat):Int),.ref wa])) pr=some (.tup [.int ((i:Nat):Int),.ref wa]):=ae;generalize (upd H3 pr (.tup [.int ((i:Nat):Int),.ref wa]))=H4 at s4 e4 ⊢;have I4:=I0.same s4;refine ⟨pr,_,rfl,SqT.of e4,rfl,_,_,rfl,_,_,rfl,rfl,?_⟩;dsimp only [av];refine ⟨_,rfl,_,rfl,ia,_,rfl,.inl (SqL.of (I4.sm _ _ ei)),_,_,rfl,⟨by rw [hN];omega,by rw [hN];omega⟩,fun dp R0=>?_⟩;rw [hN];have Gd:((i:Nat):Int) / ((n:Nat):Int)=((s:Nat):Int):=by rw [hs];rfl
   have hd2:((i:Nat):Int)%((n:Nat):Int)=((j:Nat):Int):=by rw [hj];rfl
   rw [Gd,hd2];have s5:L2.Same H4 (upd H4 dp (.tup [.int ((s:Nat):Int),.int ((j:Nat):Int)])):=ag R0 _;have e5:(upd H4 dp (.tup [.int ((s:Nat):Int),.int ((j:Nat):Int)])) dp=some (.tup [.int ((s:Nat):Int),.int ((j:Nat):Int)]):=ae;generalize (upd H4 dp (.tup [.int ((s:Nat):Int),.int ((j:Nat):Int)]))=H5 at s5 e5 ⊢;have I5:=I4.same s5;refine ⟨dp,_,rfl,SqT.of e5,rfl,_,_,rfl,_,_,rfl,rfl,?_⟩;dsimp only [av]
   have Ed:(i+n - 1) / n=if j=0 then s else s+1:=by
    split
    · rename_i h
      rw [EO,h,Nat.add_zero,show s * n+n - 1=(n - 1)+s * n by omega,XA _ _ CH,XQ (by omega),Xv]
    · rw [EO,show s * n+j+n - 1=(j - 1)+(s+1) * n by rw [WA];omega,XA _ _ CH,XQ (by omega),Xv]
   have Ja:(i+1+n - 1) / n=s+1:=by
    rw [EO,show s * n+j+1+n - 1=j+(s+1) * n by rw [WA];omega,XA _ _ CH,XQ Kt,Xv]
   refine aP (fun f' H'=>Ex1 fun (E3:List Ul)=>An2 (f'=[some (.ref ia),some (.ref wr),some (.ref rl),some (.int ((i:Nat):Int)),some (.ref wa),some (.int ((s:Nat):Int)),some (.int ((j:Nat):Int))]) (RlI H rl rows n i (s+1) E3 H')) (fun kk hk=>?_) ?_
   · refine ⟨_,rfl,rfl,_,rfl,?_⟩;by_cases Fw:j=0
     · rw [decide_eq_true (show V.int ((j:Nat):Int)=V.int 0 by rw [Fw];rfl)];refine bG ?_;refine ⟨_,rfl,.inl ⟨rfl,_,SqL.of I5.er⟩,aj (by show 0<=1000000;decide),fun la Bi=>?_⟩;have s6:L2.Same H5 (upd H5 la (.lst [])):=ag Bi _;have e6:(upd H5 la (.lst [])) la=some (.lst (([]:List Ul).map V.ref)):=ae;generalize (upd H5 la (.lst []))=H6 at s6 e6 ⊢;have I6:=I5.same s6;have Ku:la≠rl:=fun z=>by rw [z,I5.er] at Bi;cases Bi
       have R1:la∉AV:=fun z=>by
        obtain ⟨y,hy⟩:=Vj.mp z;have HX:=(Uz.mp hy).1;have hL:=I5.len;rw [Ed,if_pos Fw] at hL;obtain ⟨row,Ad⟩:∃ row,rows[y]?=some row:=⟨_,Uh (by omega)⟩;obtain ⟨Ac,e,_⟩:=I5.ent y la row hy Ad;rw [Bi] at e;cases e
       have hL:=I6.len;rw [Ed,if_pos Fw] at hL;refine ⟨rl,_,_,rfl,rfl,I6.er,bj (by rw [Ue];omega),?_⟩;have k7:KT H6 (upd H6 rl (.lst (AV.map V.ref++[.ref la]))):=bp I6.er;refine hk _ _ ⟨AV++[la],rfl,aI I6.sm I6.rl0,I6.rl0,by rw [ae,UC];rfl,by rw [Uu,hL];rfl,YK.mpr ⟨I6.nd,V8.mpr ⟨Wh,YF⟩,fun b hb c hc e=>R1 (by rw [<- UW.mp hc,<- e];exact hb)⟩,fun b hb=>?_,fun z=>?_,fun y a row h1 h2=>?_⟩
       · rcases UP.mp hb with hb | hb
         · exact I6.fr b hb
         · rw [UW.mp hb];exact I5.sm.free Bi
       · rcases UP.mp z with z | z
         · exact I6.rln z
         · exact Ku (UW.mp z).symm
       · by_cases hy:y<AV.length
         · rw [W0 hy] at h1;obtain ⟨Ac,e,ht⟩:=I6.ent y a row h1 h2;have D6:a≠rl:=fun z=>I6.rln (by rw [<- z];exact Ur h1);exact ⟨Ac,by rw [au D6];exact e,ht.mono k7⟩
         · have R3:=(Uz.mp h1).1;rw [Uu,Vk] at R3;obtain rfl:y=s:=by omega
           rw [Wn (by omega),hL,YA] at h1;cases h1;refine ⟨[],by rw [au Ku];exact e6,?_⟩;rw [EO,Fw,Nat.add_zero,YA,WC];exact .nil
     · rw [decide_eq_false (show ¬ V.int ((j:Nat):Int)=V.int 0 from fun z=>Fw (by have:=V.int.inj z;omega))];refine bH ?_;dsimp only [cG];refine hk _ _ ⟨AV,rfl,?_⟩;rw [Ed,if_neg Fw] at I5;exact I5
   · rintro f' H6 ⟨E3,rfl,I6⟩;refine hid fun ZZ kZ=>?_;obtain ⟨la,Bi⟩:∃ la,E3[s]?=some la:=⟨_,Uh (by rw [I6.len];omega)⟩;obtain ⟨row,Ad⟩:∃ row,rows[s]?=some row:=⟨_,Uh RZ⟩;have R4:=Dn row (Ur Ad);obtain ⟨t,ht⟩:∃ t,row[j]?=some t:=⟨_,Uh (by omega)⟩;obtain ⟨k,hk⟩:∃ k,ins[j]?=some k:=⟨_,Uh (by omega)⟩;obtain ⟨ka,AZ,Ck⟩:=P2.get Cj hk;obtain ⟨ws,B2,R5⟩:=P2.get' OR Ks
     have OS:t=uQ ins WR i:=by
      rw [AK] at Ad;have e:=(iA Ad).2;rw [e] at ht;rw [(il ht).2,<- hn,<- EO]
     have R6:ins[i%ins.length]?=some k:=by rw [<- hn,<- hj];exact hk
     obtain ⟨Ac,DN,BU⟩:=I6.ent s la row Bi Ad;refine kZ ?_;have BE:=BU.length;rw [U3] at BE;refine ⟨_,rfl,_,rfl,rl,_,_,.ref la,rfl,rfl,SqL.of I6.er,at_nonneg (by omega) (by rw [VL,Ut,Bi];rfl),.inl ⟨rfl,_,SqL.of DN⟩,?_⟩;refine ⟨_,rfl,_,rfl,_,rfl,ia,_,_,.ref ka,rfl,rfl,SqL.of (I6.sm _ _ ei),at_nonneg (by omega) (by rw [VL,Ut,AZ];rfl),ka,_,0,.str k.1,rfl,rfl,SqT.of (I6.sm _ _ Ck),at0,_,rfl,?_⟩;refine ⟨((s:Nat):Int),k.1,wa,ws,rfl,I6.sm _ _ R5,RW ws (Ur B2),fun u Jb R7 r H7 s7 R8=>?_,fun Az H7 s7=>ke (fun AW My=>?_) H7 (I6.sm.trans s7)⟩
     rotate_left
     · have C9:=My.len;rw [<- hn] at C9;have Jc:AW.length=rows.length:=Nat.eq_of_mul_eq_mul_right CH (by rw [<- C9,<- IY]);refine hid fun ZZ kZ=>?_;obtain ⟨A9,AL⟩:∃ A9,AW[s]?=some A9:=⟨_,Uh (by omega)⟩;obtain ⟨t',CG⟩:∃ t',A9[j]?=some t':=⟨_,Uh (by rw [My.row A9 (Ur AL)];omega)⟩;obtain ⟨DE,Jd,R9,_⟩:=My.w s j A9 t' k AL CG hk;refine kZ ?_;rw [<- hn,<- EO,B2] at Jd;cases Jd;exact Az t' R9
     have OT:vP ins WR i u:=⟨ws,k,B2,R6,by rw [<- hn,<- hs];exact Jb,R7⟩;have Mz:u=t:=by rw [OS];exact (xz OT).symm
     subst Mz;have I7:=I6.same s7;have Je:=s7 _ _ DN;refine ⟨la,_,_,rfl,rfl,Je,bj (by rw [Ue];omega),?_⟩;have DG:=Ur Bi;have Ku:la≠rl:=fun z=>I6.rln (by rw [<- z];exact DG);have k8:KT H7 (upd H7 la (.lst (Ac.map V.ref++[.ref r]))):=bp Je;refine ⟨_,_,_,_,E3,rfl,⟨aI I7.sm (I7.fr la DG),I7.rl0,by rw [au Ku.symm];exact I7.er,by rw [Ja];exact I7.len,I7.nd,I7.fr,I7.rln,fun y a A9 h1 h2=>?_⟩,fun i' B1=>?_⟩;by_cases OU:y=s
     · subst OU;rw [Bi] at h1;cases h1;rw [Ad] at h2;cases h2;refine ⟨Ac++[r],by rw [ae,UC];rfl,?_⟩;have e1:i - y * n=j:=by omega
       have e2:i+1 - y * n=j+1:=by omega
       rw [e1] at BU;rw [e2,take_snoc ht];exact Ats.append (BU.mono ((Same.kt s7).trans k8)) (.cons (R8.mono k8) .nil)
     · obtain ⟨DF,e,CG⟩:=I7.ent y a A9 h1 h2
       have D6:a≠la:=fun z=>by
        rw [z] at h1;exact OU ((List.getElem?_inj (Uz.mp h1).1 I7.nd).mp (h1.trans Bi.symm))
       refine ⟨DF,by rw [au D6];exact e,?_⟩;have HX:=(Uz.mp h1).1;rw [I7.len] at HX;have Sa:=Dn A9 (Ur h2);have hmul:(y+1) * n<=s * n:=XH _ (by omega);rw [WA] at hmul;rw [U8 (by omega)] at CG ⊢;exact CG.mono k8
     · by_cases OV:i'=i
       · rw [OV,<- OS];exact OT
       · exact Am i' (by omega)
 · rintro σ H3 ⟨c3,c4,c5,c6,AV,rfl,I,Am⟩;rw [Ue,<- Dw] at I Am;rw [IY] at I
   have Sb:fM ins rows WR:=⟨by rw [<- hn];exact IY,fun row Ad=>by rw [<- hn];exact Dn row Ad,fun s j row t k h1 h2 h3=>by
    have DM:=(Uz.mp h1).1;have Kt:j<n:=by rw [hn];exact (Uz.mp h3).1
    have AB:s * n+j<WR.length:=by
     rw [IY];have:(s+1) * n<=rows.length * n:=XH _ DM;rw [WA] at this;omega
    rw [AK] at h1;rw [(iA h1).2] at h2;have e2:=(il h2).2;rw [<- hn] at e2 ⊢;obtain ⟨ws,k',hw,A7,Jb,hz⟩:=Am (s * n+j) AB;rw [<- hn,show (s * n+j)%n=j by rw [Nat.add_comm,Nat.add_mul_mod_self_right,Nat.mod_eq_of_lt Kt],h3] at A7;rw [<- hn,show (s * n+j) / n=s by rw [Nat.add_comm,XA _ _ CH,XQ Kt,Xv]] at Jb;cases A7;rw [<- e2] at Jb hz;exact ⟨ws,hw,Jb,hz⟩⟩
   refine ⟨_,rfl,kq rows Sb rl AV H3 I.sm I.er (qT ?_ fun y row a h1 h2=>?_)⟩
   · rw [I.len,show rows.length * n+n - 1=(n - 1)+rows.length * n by omega,XA _ _ CH,XQ (by omega),Xv]
   · obtain ⟨Ac,e,ht⟩:=I.ent y a row h2 h1;have HX:=(Uz.mp h1).1;have hmul:(y+1) * n<=rows.length * n:=XH _ (by omega);rw [WA] at hmul;rw [U8 (by rw [Dn row (Ur h1)];omega)] at ht;exact ⟨Ac,.inl e,ht⟩
def bL (r:List Nat):List UA:=(wds r).map ofL
theorem gU (c:Nat):∀ l:List Nat,((aH c l).map fun p=>p.length+1).sum=l.length+1
 | []=>rfl
 | d::l=>by
   have ih:=gU c l;rw [aH];obtain ⟨p,r,e⟩:=ce c l;rw [e] at ih ⊢;rw [UB,V7] at ih;split
   · simp only [UB,V7,Ui,W7];omega
   · simp only [UB,V7,Ui];omega
theorem mE (p:List Nat->Bool) (l:List (List Nat)):((l.filter p).map fun x=>x.length+1).sum<=(l.map fun x=>x.length+1).sum:=by
 induction l with
 | nil=>exact Uq _
 | cons x l ih =>
   rw [Xp,UB,V7];split
   · rw [UB,V7];omega
   · omega
theorem v0 {r:List Nat} (h:r.length<=5900):WsOk (bL r):=by
 have h1:=VS (mE (fun p=>!p.isEmpty) (aH 32 r)) (Y5 (gU 32 r))
 have h2:∀ l:List (List Nat),((l.map ofL).map (·.length)).sum+(l.map ofL).length=(l.map fun x=>x.length+1).sum:=fun l=>by
  induction l with
  | nil=>rfl
  | cons x l ih =>
    simp only [UB,V7,Ui] at ih ⊢;rw [dO];omega
 show ((((aH 32 r).filter fun p=>!p.isEmpty).map ofL).map (·.length)).sum+(((aH 32 r).filter fun p=>!p.isEmpty).map ofL).length<=6000;rw [h2];omega
theorem nR {α β:Type} {F:α->β->Prop}:∀ {a:List α} {b:List β},Vg F a b->Vg (fun y x=>F x y) b a
 | _,_,.nil=>.nil
 | _,_,.cons h t=>.cons h (nR t)
theorem yv {r:List Nat}:2 * (bL r).length<=r.length+1:=by
 have h1:=VS (mE (fun p=>!p.isEmpty) (aH 32 r)) (Y5 (gU 32 r))
 have h2:∀ l:List (List Nat),(∀ p∈l,p≠[])->2 * l.length<=(l.map fun x=>x.length+1).sum:=fun l hl=>by
  induction l with
  | nil=>exact Uq _
  | cons x l ih =>
    have:=ih fun p hp=>hl p (Uv _ hp);have hx:=VQ.mpr (hl x (Uy ..));rw [Ui,UB,V7];omega
 have h3:=h2 ((aH 32 r).filter fun p=>!p.isEmpty) fun p hp e=>by
  have:=(X7.mp hp).2;rw [e] at this;cases this
 unfold bL wds;rw [Ue];omega
structure pG (z:UA):Prop where
 zl:z.length<=1000000
 rl:∀ r∈aH 10 (sL z),r.length<=5900
 r2:∀ r∈(aH 10 (sL z)).take 2,r.length<=1900
 n:(aH 10 (sL z)).length<=1000
structure cJ (z:UA) (ins outs:List (UA×Int)) (head:Th) (rows:List (List Th)):Prop where
 ex:∃ r0 r1 r2 rest,aH 10 (sL z)=r0::r1::r2::rest/\KindsOf (Ug "in") (bL r0) ins/\KindsOf (Ug "out") (bL r1) outs/\HeadOf (bL r2) head/\fM ins rows (rest.map bL)
def ii (K:Uj) (CT CK CB:Ul):Sp:=fun vs H Q E=>∃ z:UA,vs=[.str z]/\pG z/\(∀ ins outs head rows,cJ z ins outs head rows->aD ins=true->aD outs=true->cX ins outs head rows->∀ (r:Ul) (H':Hp),L2.Same H H'->Bk H' ins outs head rows r->Q (.ref r) H')/\(∀ ins outs head rows,cJ z ins outs head rows->¬ (aD ins=true/\aD outs=true)->∀ H',L2.Same H H'->E (.ref CK) none H')/\(∀ ins outs head rows,cJ z ins outs head rows->aD ins=true->aD outs=true->¬ cX ins outs head rows->∀ H',L2.Same H H'->E (.ref CB) none H')/\((∀ ins outs head rows,¬ cJ z ins outs head rows)->∀ H',L2.Same H H'->E (.ref CT) none H')
theorem qm:∀ {l:List UA} {a b:List (UA×Int)},Vg KdOf l a->Vg KdOf l b->a=b
 | _,_,_,.nil,.nil=>rfl
 | _,_,_,.cons h t,.cons h' t'=>by rw [KdOf.uniq h h',qm t t']
theorem KindsOf.uniq {f:UA} {ws:List UA} {ks Cs:List (UA×Int)}:KindsOf f ws ks->KindsOf f ws Cs->ks=Cs
 | ⟨r,e,_,hp⟩,⟨r',e',_,DL⟩=>by
   rw [e] at e';have e2:=(U7 e').2;subst e2;exact qm hp DL
def uc (H:Hp) (ws:List UA) (a:Ul):Prop:=H a=some (.lst (ws.map V.str))
theorem qL {α β:Type} {F G:α->β->Prop}:∀ {a:List α} {b:List β},(∀ x y,y∈b->F x y->G x y)->Vg F a b->Vg G a b
 | _,_,_,.nil=>.nil
 | _,_,f,.cons h t=>.cons (f _ _ (Uy ..) h) (qL (fun x y hy=>f x y (Uv _ hy)) t)
set_option maxHeartbeats 2000000 in
theorem ir:FnOk P w K mg base (CX1 P w) 8 T.g_read_book.f T.g_read_book.d ["text"] (ii K T.e_NoText T.e_NoKinds T.e_NoBook):=by
 refine T.g_read_book.F.ok1 cV (fun vs H Q E h=>?_) (fun Ao A outer s H vs Q E hr h=>?_)
 · obtain ⟨z,rfl,_⟩:=h;rfl
 obtain ⟨z,rfl,B,kq,kk,kb,kt⟩:=h
 refine ⟨_,(af (ly (i:=1) (N:=[Ug "row"]) (js:=[none]) (g:=(av 0)) (tt:=aU) (te:=(nW kK [] E0 (bx (bK 0) de))) cV.nd rfl (UI rfl) rfl (cC rfl (by decide +kernel) (by decide +kernel) rfl rfl rfl) (eU (bN Vp Y4 Y2 lR (pv 0) (aa aw ac))) (fun _ _ _ _ _ _=>(aB (i:=0) zm rfl (UI rfl))) (bo rfl) (fun _ _ _ _ _ _=>bQ) (fun _ _ _ _ _ _=>(pcF T.g_words_in (qV T) hr (aa (pv 0) ac))))
  (af (aN (ax gx (aq al rfl T.n_len UL (aa (pv 1) ac)) ad (az _)) (ai (bF T.X_NoText T.x_NoText aw)) aE)
  (af (ar (i:=2) cV.nd rfl (UI rfl) (bc (gj T) (hr.mono (by first | decide | omega)) rfl T.g_read_kinds.m T.g_read_kinds.F.kp T.g_read_kinds.b .nil cP (aa aw (aa (ao aG (pv 1) ad (fun _ _=>rfl)) ac))))
  (af (ar (i:=3) cV.nd rfl (UI rfl) (bc (gj T) (hr.mono (by first | decide | omega)) rfl T.g_read_kinds.m T.g_read_kinds.F.kp T.g_read_kinds.b .nil cP (aa aw (aa (ao aG (pv 1) ad (fun _ _=>rfl)) ac))))
  (af (ar (i:=4) cV.nd rfl (UI rfl) (bc (nv T) (hr.mono (by first | decide | omega)) rfl T.g_read_head.m T.g_read_head.F.kp T.g_read_head.b .nil cP (aa (ao aG (pv 1) ad (fun _ _=>rfl)) ac)))
  (ai (aA (bc (nk T) (hr.mono (by first | decide | omega)) rfl T.g_made_book.m T.g_made_book.F.kp T.g_made_book.b .nil cP (aa (pv 2) (aa (pv 3) (aa (pv 4) (aa (bc (my T) (hr.mono (by first | decide | omega)) rfl T.g_read_rules.m T.g_read_rules.F.kp T.g_read_rules.b .nil cP (aa (pv 2) (aa (bz eQ (pv 1) (bB ad) cj) ac))) ac)))))))))))),?_⟩
 try dsimp only [AO,Ai]
 have T6:=B.zl;have MA:=B.n;refine ⟨_,rfl,rfl,z,Ug "\n",rfl,rfl,rfl,by omega,fun p hp=>?_⟩;obtain ⟨R,hR⟩:∃ R,R=aH 10 (sL z):=⟨_,rfl⟩;rw [<- hR] at MA
 have B0:Wk z (Ug "\n")=R.map ofL:=by
  have h1:Ug "\n"=⟨#[10]⟩:=rfl;rw [h1,jI _ (by decide),hR];rfl
 have s1:L2.Same H (upd H p (.lst ((Wk z (Ug "\n")).map V.str))):=ag hp _;have e1:(upd H p (.lst ((Wk z (Ug "\n")).map V.str))) p=some (.lst ((R.map ofL).map V.str)):=by rw [ae,B0]
 generalize (upd H p (.lst ((Wk z (Ug "\n")).map V.str)))=H1 at s1 e1 ⊢;refine ⟨p,rfl,⟨_,SqL.of e1⟩,fun D hD=>?_⟩;refine ⟨R.length,fun j H2=>Ex1 fun (as:List Ul)=>An5 (j<=R.length) (L2.Same H1 H2) (H2 D=some (.lst (as.map V.ref))) (D∉as) (Vg (uc H2) ((R.take j).map bL) as),⟨[],Vh _,ag hD _,ae,Wh,.nil⟩,?_⟩;rintro j H2 ⟨as,hj,s2,eD,OW,has⟩;have MB:=s2 _ _ e1;have Fj:((R.take j).map bL).length=as.length:=UK has;rw [Ue,U3] at Fj;by_cases OX:j=R.length
 · left;refine ⟨⟨_,SqL.of MB,by rw [Ue,Ue,OX];exact Uq _⟩,?_⟩;rw [OX,Xn] at has;dsimp only [av];have Bi:as.length=R.length:=by omega
   refine ⟨_,rfl,D,_,rfl,.inl (SqL.of eD),_,_,rfl,rfl,_,rfl,?_⟩;have C6:=s1.trans s2;by_cases h3:R.length<3
   · rw [decide_eq_true (show (((as.map V.ref).length:Nat):Int)<3 by rw [Ue];omega)];refine bG (kt (fun ins outs head rows hb=>?_) H2 C6);refine hid fun ZZ kZ=>?_;obtain ⟨r0,r1,r2,rest,e,_⟩:=hb;refine kZ ?_;rw [<- hR] at e;rw [e] at h3;exact absurd h3 (by show ¬ rest.length+1+1+1<3;omega)
   rw [decide_eq_false (show ¬ (((as.map V.ref).length:Nat):Int)<3 by rw [Ue];omega)];refine hid fun ZZ kZ=>?_
   obtain ⟨r0,r1,r2,rest,G7⟩:∃ r0 r1 r2 rest,R=r0::r1::r2::rest:=by
    match R,h3 with
    | [],h=>exact absurd (by decide) h
    | [_],h=>exact absurd (show 1<3 by decide) h
    | [_,_],h=>exact absurd (show 2<3 by decide) h
    | r0::r1::r2::rest,_=>exact ⟨r0,r1,r2,rest,rfl⟩
   refine kZ ?_;have Kv:∀ r∈r0::r1::r2::rest,r.length<=5900:=fun r hr=>B.rl r (by rw [<- hR,G7];exact hr);have OP:∀ r∈[r0,r1],r.length<=1900:=fun r hr=>B.r2 r (by rw [<- hR,G7];exact hr);have E4:aH 10 (sL z)=r0::r1::r2::rest:=by rw [<- hR,G7]
   rw [G7] at has;have Bi:as.length=rest.length+3:=by rw [Bi,G7];rfl
   have Jf:rest.length<=1000:=by rw [G7] at MA;have:rest.length+1+1+1<=1000:=MA;omega
   refine bH ?_;dsimp only [cG];refine hid fun ZZ kZ=>?_;obtain ⟨a0,h0,w0⟩:=P2.get has (i:=0) rfl;obtain ⟨a1,h1,w1⟩:=P2.get has (i:=1) rfl;obtain ⟨a2,h2,w2⟩:=P2.get has (i:=2) rfl;refine kZ ?_;have AI:∀ (i:Nat) (a:Ul),as[i]?=some a->atI (as.map V.ref) ((i:Nat):Int)=some (.ref a):=fun i a h=>cD (by rw [Ut,h];rfl);unfold uc at w0 w1 w2
   have OY:∀ r∈r0::r1::r2::rest,∀ x∈bL r,x.length<=100000:=fun r hr x hx=>by
    have h1:=(v0 (Kv r hr)).mem x hx;omega
   have Ex:∀ r∈[r0,r1],(bL r).length<=960:=fun r hr=>by
    have h1:=yv (r:=r);have h2:=OP r hr;omega
   have Df:∀ {f:UA} {r:List Nat} {ks:List (UA×Int)},r∈[r0,r1]->KindsOf f (bL r) ks->ks≠[]/\ks.length<=1000/\∀ k∈ks,k.1.length<=100000:=fun {f r ks} hr hk=>by
    obtain ⟨rs,e,Au,hp⟩:=hk;have h1:=Ex r hr;rw [e,Ui] at h1;have h2:=UK hp;refine ⟨fun z=>Au (U9.mp (by rw [h2,z];rfl)),by omega,fun k hk=>?_⟩;obtain ⟨i,hi⟩:=Vj.mp hk;obtain ⟨x,_,hx⟩:=P2.get (show Vg (fun (k:UA×Int) (x:UA)=>KdOf x k) ks rs from nR hp) hi;have:=(cN hx.2.1).2.1;omega
   refine ⟨_,rfl,D,_,0,.ref a0,rfl,rfl,SqL.of eD,AI 0 a0 h0,_,a0,bL r0,rfl,w0,by have:=Ex r0 (by simp);omega,OY r0 (by simp),fun ins E5 ia ias H3 s3 OZ O0=>?hm,fun Az H3 s3=>kt (fun i o hd AY hb=>?hs) H3 (C6.trans s3)⟩
   case hs =>
    refine hid fun ZZ kZ=>?_;obtain ⟨MC,DQ,MD,Dm,e,h,_⟩:=hb;refine kZ ?_;rw [E4] at e;rw [<- (U7 e).1] at h;exact Az i h
   dsimp only [av];refine ⟨_,rfl,D,_,1,.ref a1,rfl,rfl,SqL.of (s3 _ _ eD),AI 1 a1 h1,_,a1,bL r1,rfl,s3 _ _ w1,by have:=Ex r1 (by simp);omega,OY r1 (by simp),fun outs Ee oa Ak H4 s4 Jg Jh=>?hm2,fun Az H4 s4=>kt (fun i o hd AY hb=>?hs2) H4 (C6.trans (s3.trans s4))⟩
   case hs2 =>
    refine hid fun ZZ kZ=>?_;obtain ⟨MC,DQ,MD,Dm,e,_,h,_⟩:=hb;refine kZ ?_;rw [E4] at e;rw [<- (U7 (U7 e).2).1] at h;exact Az o h
   refine hid fun ZZ kZ=>?_;obtain ⟨ine,i8,Sd⟩:=Df (by simp) E5;obtain ⟨one,o8,ME⟩:=Df (by simp) Ee;refine kZ ?_
   have hinv:∀ i o hd AY,cJ z i o hd AY->i=ins/\o=outs/\HeadOf (bL r2) hd/\fM ins AY (rest.map bL):=fun i o hd AY hb=>by
    obtain ⟨MC,DQ,MD,Dm,e,h1,h2,h3,h4⟩:=hb;rw [E4] at e;obtain ⟨x0,e⟩:=U7 e;obtain ⟨x1,e⟩:=U7 e;obtain ⟨x2,x3⟩:=U7 e;rw [<- x0] at h1;rw [<- x1] at h2;rw [<- x2] at h3;rw [<- x3,KindsOf.uniq h1 E5] at h4;exact ⟨KindsOf.uniq h1 E5,KindsOf.uniq h2 Ee,h3,h4⟩
   dsimp only [av];have Cr:=s3.trans s4;refine ⟨_,rfl,D,_,2,.ref a2,rfl,rfl,SqL.of (Cr _ _ eD),AI 2 a2 h2,a2,_,rfl,Cr _ _ w2,v0 (Kv r2 (by simp)),fun head Se AH ha H5 s5 Sf=>?_,fun Az H5 s5=>kt (fun i o hd AY hb=>Az hd (hinv i o hd AY hb).2.2.1) H5 (C6.trans (Cr.trans s5))⟩;dsimp only [av];have Fv:=Cr.trans s5;refine ⟨_,rfl,_,rfl,_,rfl,_,rfl,_,rfl,3,rfl,D,_,rfl,SqL.of (Fv _ _ eD),fun l3 Ea=>?_⟩
   have GR:cB (as.map V.ref) (some 3) none=(as.drop 3).map V.ref:=by
    rw [show (3:Int)=((3:Nat):Int) by rfl,jH (by rw [Ue];omega),Zy]
   rw [GR];have s6:L2.Same H5 (upd H5 l3 (.lst ((as.drop 3).map V.ref))):=ag Ea _;have e6:(upd H5 l3 (.lst ((as.drop 3).map V.ref))) l3=some (.lst ((as.drop 3).map V.ref)):=ae;generalize (upd H5 l3 (.lst ((as.drop 3).map V.ref)))=H6 at s6 e6 ⊢;have MF:=Fv.trans s6;have Ji:=s5.trans s6;have G8:=s4.trans Ji
   have Ft:Vg (fun ws a=>H6 a=some (.lst ((ws:List UA).map V.str))) (rest.map bL) (as.drop 3):=by
    have:=P2.drop 3 has;exact P2.mp (fun _ _ e=>MF _ _ e) this
   refine ⟨ia,l3,ias,as.drop 3,ins,rest.map bL,rfl,G8 _ _ OZ,O0.mono (Same.kt G8),ine,i8,e6,Ft,by rw [Ue];exact Jf,fun ws B2=>?_,fun rows G9 ru AV H7 s7 Sg MG=>?_,fun Az H7 s7=>kt (fun i o hd AY hb=>Az AY (hinv i o hd AY hb).2.2.2) H7 (C6.trans (MF.trans s7))⟩
   · obtain ⟨r,Bv,rfl⟩:=Vq.mp B2;exact v0 (Kv r (Uv _ (Uv _ (Uv _ Bv))))
   have O1:=G8.trans s7;have O2:=Ji.trans s7;have MH:=MF.trans s7;have hI:jZ K H7 ins ia ias:=⟨.inl (SqL.of (O1 _ _ OZ)),O0.mono (Same.kt O1),i8,Sd⟩;have hO:jZ K H7 outs oa Ak:=⟨.inl (SqL.of (O2 _ _ Jg)),Jh.mono (Same.kt O2),o8,ME⟩
   have EU:rows.length<=1000:=by
    have h1:=G9.len;rw [Ue] at h1;have h2:rows.length * 1<=rows.length * ins.length:=WM _ (VQ.mpr ine);omega
   have L':∀ row∈rows,∀ t∈row,t.size<=100000:=fun row Ad t ht=>by
    obtain ⟨s,hs⟩:=Vj.mp Ad;obtain ⟨j,hj⟩:=Vj.mp ht;have Dk:=(Uz.mp hj).1;rw [G9.row row Ad] at Dk;obtain ⟨_,_,_,hz⟩:=G9.w s j row t _ hs hj (Uh Dk);omega
   have MI:cJ z ins outs head rows:=⟨r0,r1,r2,rest,E4,E5,Ee,Se,G9⟩;exact ⟨ia,oa,ha,ru,ias,Ak,AV,ins,outs,head,rows,rfl,hI,hO,Sf.mono (Same.kt (s6.trans s7)),by omega,⟨.inl Sg,MG⟩,EU,L',fun gi go hok r H8 s8 hB=>kq ins outs head rows MI gi go hok r H8 (C6.trans (MH.trans s8)) hB,fun hn H8 s8=>kk ins outs head rows MI hn H8 (C6.trans (MH.trans s8)),fun gi go Si H8 s8=>kb ins outs head rows MI gi go Si H8 (C6.trans (MH.trans s8))⟩
 · right;have Fq:j<R.length:=by omega
   obtain ⟨r,Bv⟩:∃ r,R[j]?=some r:=⟨_,Uh Fq⟩;refine ⟨Fq,⟨_,.str (ofL r),SqL.of MB,by rw [Ut,Ut,Bv];rfl⟩,?_⟩;rintro y H3 ⟨q1,hv⟩;have Sj:H3=H2:=q1;subst Sj;have Dt:=hv _ (SqL.of MB);rw [Ut,Ut,Bv] at Dt;cases Dt;have B7:=B.rl r (by rw [<- hR];exact Ur Bv);refine ⟨_,rfl,ofL r,rfl,by rw [dO];omega,fun ra H4 s4 G1 era=>?_⟩;have Sk:=s4 _ _ eD;have Jj:ra≠D:=fun z=>by rw [z,eD] at G1;cases G1
   have Sl:uc H4 (bL r) ra:=by
    unfold uc bL;rw [show sL (ofL r)=r from aM r] at era;exact era
   refine ⟨_,Sk,bj (by rw [Ue];omega),as++[ra],Fq,aI (s2.trans s4) hD,by rw [ae,UC];rfl,fun zz=>?_,?_⟩
   · rcases UP.mp zz with zz | zz
     · exact OW zz
     · exact Jj (UW.mp zz).symm
   · rw [take_snoc Bv,UC];refine P2.append (qL (fun ws a hm e=>?_) has) (.cons ?_ .nil)
     · unfold uc;rw [au (fun z=>OW (by rw [<- z];exact hm))];exact s4 _ _ e
     · unfold uc;rw [au Jj];exact Sl
inductive fo (K:Uj) (vs:List V) (H:Hp) (Q:VK) (_E:XK):Prop
 | mk (a:Ul) (ns:List Int) (k:Int) (Aw:vs=[.ref a,.int k]) (Ax:SqL K H a (ns.map V.int)) (AE:0<=k) (AQ:Q (.int (cellAt ns k)) H):fo K vs H Q _E
def lj (K:Uj):Sp:=fo K
theorem aO:FnOk P w K mg base CX0 1 T.g__law_cell_at.f T.g__law_cell_at.d ["script","k"] (lj K):=by
 refine T.g__law_cell_at.F.ok lv (fun vs H Q E h=>?_) (fun Ao A outer s H vs Q E hr h=>?_)
 · obtain ⟨a,ns,k,rfl,_⟩:=h;rfl
 obtain ⟨a,ns,k,rfl,hS,h0,q⟩:=h
 refine ⟨_,(af (aN (ax gx (pv 1) (aq al rfl T.n_len UL (aa (pv 0) ac)) (az _)) (ai (aA (ak aK (ao aG (pv 0) (pv 1) (fun _ _=>rfl)) (ak vH ad ad)))) aE)
  (ai (aA ad))),?_⟩
 try dsimp only [AO,Ai]
 refine ⟨_,rfl,_,rfl,a,_,rfl,.inl hS,_,_,rfl,rfl,_,rfl,?_⟩;refine cg (fun c=>?_) (fun c=>?_)
 · have c':k<(((ns.map V.int).length:Nat):Int):=of_decide_eq_true c;rw [Ue] at c';refine ⟨_,rfl,_,rfl,a,_,k,_,rfl,rfl,hS,int_at h0 c',_,_,rfl,rfl,⟨by decide,by decide,by decide⟩,_,_,rfl,rfl,?_,?_⟩
   · show (0:Int)<10 ^ 60;decide
   · have e:cellAt ns k=ns.getD k.toNat 0%10 ^ 60:=by unfold cellAt;rw [if_pos c']
     rw [e] at q;exact q
 · have c':¬ k<(((ns.map V.int).length:Nat):Int):=of_decide_eq_false (VB.mpr c);rw [Ue] at c';have e:cellAt ns k=0:=by unfold cellAt;rw [if_neg c']
   rw [e] at q;exact q
inductive g8 (vs:List V) (H:Hp) (Q:VK) (_E:XK):Prop
 | mk (base n:Int) (Aw:vs=[.int base,.int n]) (Ax:0<=base) (AE:0<=n) (AQ:Q (.str (nameOf base n)) H):g8  vs H Q _E
def oo:Sp:=g8
theorem ph:FnOk P w K mg base CX0 1 T.g__law_name.f T.g__law_name.d ["base","n"] oo:=by
 refine T.g__law_name.F.ok bw (fun vs H Q E h=>?_) (fun Ao A outer s H vs Q E hr h=>?_)
 · obtain ⟨b,n,rfl,_⟩:=h;rfl
 obtain ⟨b,n,rfl,h0,hn,q⟩:=h
 refine ⟨_,(af (ar (i:=2) bw.nd rfl (UI rfl) aw)
  (af (ar (i:=3) bw.nd rfl (UI rfl) aw)
  (af (ar (i:=4) bw.nd rfl (UI rfl) (ak aQ (pv 0) ad))
  (af (b9 Vy rfl (bD rfl T.n_range (aa ad ac)) (aB (i:=5) bw.nd rfl (UI rfl)) (af (ar (i:=3) bw.nd rfl (UI rfl) (ak aJ (pv 3) (ao mx (pv 2) (ak aK (pv 4) ad) (fun _ _=>rfl))))
  (ai (ar (i:=4) bw.nd rfl (UI rfl) (ak aQ (pv 4) ad)))))
  (af (aN (ax cb (ak aK (pv 0) ad) ad (az _)) (ai (aA (bz rM (pv 3) cj (bB (ak bq (pv 1) ad))))) aE)
  (af (ar (i:=6) bw.nd rfl (UI rfl) (ak bq ad (ak aK (ak aQ (pv 0) ad) ad)))
  (af (ar (i:=7) bw.nd rfl (UI rfl) (ak aK (ak aK (ak aQ (pv 0) ad) ad) (pv 6)))
  (af (ar (i:=8) bw.nd rfl (UI rfl) (ao mx (pv 2) (ak aK (ak bq (bN Vp PySem.F.slot_str_index PySem.F.type_str_index va (pv 2) (aa (ao mx (pv 3) (pv 7) (fun _ _=>rfl)) ac)) (pv 1)) ad) (fun _ _=>rfl)))
  (ai (aA (ak aJ (ak aJ (bz rM (pv 3) cj (bB (pv 7))) (pv 8)) (bz rM (pv 3) (bB (ak bq (pv 7) ad)) (bB (pv 6)))))))))))))),?_⟩
 try dsimp only [AO,Ai]
 refine ⟨_,rfl,_,_,rfl,rfl,⟨by decide,by decide⟩,?_⟩;refine ⟨8,rfl,by decide,by decide,?_⟩;refine bT (n:=8) (fun i σ H2=>Ex1 fun kv=>An2 (H2=H) (σ=[some (.int b),some (.int n),some (.str dN),some (.str (cS (b / 112) i)),some (.int (b / 112 / 26 ^ i)),kv,none,none,none])) ⟨none,rfl,?_⟩ ?_ ?_
 · have e1:cS (b / 112) 0=Ug "":=by
    show (⟨([]:List Nat).toArray⟩:UA)=Ug "";decide +kernel
   have e2:b / 112 / 26 ^ 0=b / 112:=by rw [Int.pow_zero,Z0]
   rw [e1,e2];rfl
 · rintro i σ H2 hi ⟨kv,rfl,rfl⟩;have h1:=U0 (b / 112 / 26 ^ i) (by decide:(26:Int)≠0);have h2:=UT (b / 112 / 26 ^ i) (by decide:(0:Int)<26);refine ⟨_,rfl,_,rfl,_,rfl,_,_,rfl,rfl,(by show (0:Int)<26;decide),dN,_,_,rfl,rfl,aj (by rw [kR];decide),nQ h1 h2,_,_,rfl,rfl,aj ?_,?_⟩
   · rw [dh];show i+1<=1000000;omega
   · refine ⟨_,rfl,_,_,rfl,rfl,⟨by decide,by decide⟩,some (.int (0+i)),rfl,?_⟩
     have e1:b / 112 / 26 ^ (i+1)=b / 112 / 26 ^ i / 26:=by
      rw [Int.pow_succ,Int.ediv_ediv_of_nonneg (Int.le_of_lt (Int.pow_pos (by decide)))]
     rw [rT,e1];rfl
 · rintro σ H2 ⟨kv,rfl,rfl⟩;have hw:=dh (b / 112) 8;refine ⟨_,rfl,_,_,rfl,rfl,(by show (0:Int)<2;decide),rfl,_,rfl,?_⟩;refine cg (fun c=>?_) (fun c=>?_)
   · have c':b%2=1:=V.int.inj (of_decide_eq_true c);refine ⟨_,rfl,_,rfl,_,_,rfl,rfl,_,rfl,_,rfl,aj (by rw [hw];decide),?_⟩;have e:nameOf b n=fF (cS (b / 112) 8) none (some (n+1)):=by unfold nameOf;rw [if_pos c']
     rw [e] at q;exact q
   · have c':¬ b%2=1:=fun z=>c (decide_eq_true (congrArg V.int z));have hs:=jO b;have ha:=vj b;refine ⟨_,rfl,_,_,rfl,rfl,⟨by decide,by decide⟩,_,_,rfl,rfl,(by show (0:Int)<8;decide),_,_,rfl,rfl,?_⟩;refine ⟨_,rfl,_,_,rfl,rfl,⟨by decide,by decide⟩,_,_,rfl,rfl,(by show (0:Int)<7;decide),_,rfl,_,_,rfl,rfl,(by show (0:Int)<eT b;omega),?_⟩;have hk:(nAt b).toNat<8:=by omega
     have Ks:atI (cS (b / 112) 8).cps.toList (nAt b)=some (97+((b / 112 / 26 ^ (nAt b).toNat)%26).toNat):=by
      refine at_nonneg ha.1 ?_;show (fZ (b / 112) 8)[(nAt b).toNat]?=_;unfold fZ;rw [Ut,Xl hk];rfl
     have h1:=U0 (b / 112 / 26 ^ (nAt b).toNat) (by decide:(26:Int)≠0);have h2:=UT (b / 112 / 26 ^ (nAt b).toNat) (by decide:(0:Int)<26);have h3:=U0 ((((b / 112 / 26 ^ (nAt b).toNat)%26).toNat:Int)+n) (by decide:(26:Int)≠0);have h4:=UT ((((b / 112 / 26 ^ (nAt b).toNat)%26).toNat:Int)+n) (by decide:(0:Int)<26);refine ⟨_,rfl,_,rfl,rfl,_,rfl,_,rfl,_,nAt b,_,rfl,rfl,aj (by rw [hw];decide),Ks,dN,_,_,[],rfl,rfl,uF _ (by omega),_,rfl,_,_,rfl,rfl,_,_,rfl,rfl,(by show (0:Int)<26;decide),dN,_,_,rfl,rfl,aj (by rw [kR];decide),nQ h3 h4,?_⟩;have l1:=eR (cS (b / 112) 8) none (some (nAt b));have l2:=eR (cS (b / 112) 8) (some (nAt b+1)) (some (eT b));rw [hw] at l1 l2;refine ⟨_,rfl,_,rfl,_,rfl,_,rfl,aj (by rw [hw];decide),_,rfl,_,_,rfl,rfl,aj ?_,_,rfl,_,rfl,_,_,rfl,rfl,_,rfl,_,rfl,_,rfl,_,rfl,aj (by rw [hw];decide),_,_,rfl,rfl,aj ?_,?_⟩
     · show (fF (cS (b / 112) 8) none (some (nAt b))).length+1<=1000000;omega
     · rw [UM];show (fF (cS (b / 112) 8) none (some (nAt b))).length+1+(fF (cS (b / 112) 8) (some (nAt b+1)) (some (eT b))).length<=1000000;omega
     · have e:nameOf b n=fF (cS (b / 112) 8) none (some (nAt b))++⟨#[kF b n]⟩++fF (cS (b / 112) 8) (some (nAt b+1)) (some (eT b)):=by unfold nameOf;rw [if_neg c']
       rw [e] at q;exact q
inductive gH (vs:List V) (H:Hp) (Q:VK) (_E:XK):Prop
 | mk (cell:Int) (Aw:vs=[.int cell]) (Ax:0<=cell) (AE:∀ (r:Ul) (as:List Ul) (H':Hp),L2.Same H H'->H' r=some (.tup (as.map V.ref))->KsAt H' (cu cell) as->Q (.ref r) H'):gH  vs H Q _E
def na:Sp:=gH
theorem hG:FnOk P w K mg base CX0 2 T.g__law_kinds.f T.g__law_kinds.d ["cell"] na:=by
 refine T.g__law_kinds.F.ok bI (fun vs H Q E h=>?_) (fun Ao A outer s H vs Q E hr h=>?_)
 · obtain ⟨c,rfl,_⟩:=h;rfl
 obtain ⟨cell,rfl,h0,q⟩:=h
 refine ⟨_,(af (ar (i:=1) bI.nd rfl (UI rfl) (ak bq (ak eV (pv 0) ad) ad))
  (af (ar (i:=2) bI.nd rfl (UI rfl) (ak bq ad (ak aK (pv 1) ad)))
  (af (ar (i:=3) bI.nd rfl (UI rfl) (ak aQ (pv 1) ad))
  (af (ar (i:=4) bI.nd rfl (UI rfl) (bg ac))
  (af (b9 Vy rfl (bD rfl T.n_range (aa (pv 2) ac)) (aB (i:=5) bI.nd rfl (UI rfl)) (af (ba (bN UR Vc Vb bf (pv 4) (aa (bi (aa (pcF T.g__law_name (ph T) hr (aa (ak aQ (pv 1) ad) (aa (pv 5) ac))) (aa (ak aK (pv 3) ad) ac))) ac)))
  (ai (ar (i:=3) bI.nd rfl (UI rfl) (ak bq (ak aQ (pv 3) ad) (pv 5))))))
  (af (ar (i:=6) bI.nd rfl (UI rfl) (ak aK (ak aQ (pv 1) ad) (pv 2)))
  (af (d7 (bi (aa (ao ay (ao aG (pv 4) (pv 6) (fun _ _=>rfl)) ad (fun _ _=>rfl)) (aa ad ac))) (gg (pv 4) (pv 6) set_list))
  (ai (aA (aX bh rfl T.n_tuple Vn (aa (pv 4) ac))))))))))),?_⟩
 try dsimp only [AO,Ai]
 have hM:=w6 h0;have hm:=jf cell;have ha:=sR cell;refine ⟨_,rfl,_,_,rfl,rfl,.inr ⟨by decide,by decide⟩,_,_,rfl,rfl,?_⟩;refine ⟨_,rfl,_,_,rfl,rfl,(by show (0:Int)<6;decide),_,_,rfl,rfl,?_⟩;refine ⟨_,rfl,_,_,rfl,rfl,⟨by decide,by decide⟩,?_⟩;refine ⟨aj (by show 0<=1000000;decide),fun kl A8=>?_⟩;refine ⟨_,rfl,dD cell,rfl,by omega,by omega,?_⟩
 refine bT (n:=(dD cell).toNat) (fun i σ H2=>Ex2 fun kv as=>An4 (σ=[some (.int cell),some (.int (dP cell)),some (.int (dD cell)),some (.int (rests (dP cell / 7) i)),some (.ref kl),kv,none]) (L2.Same H H2) (H2 kl=some (.lst (as.map V.ref))) (KsAt H2 ((qv cell).take i) as))
  ⟨none,[],rfl,ag A8 _,ae,.nil⟩ ?_ ?_
 · rintro i σ H2 hi ⟨kv,as,rfl,sm,e,hp⟩;have hb:0<=dP cell / 36:=Xy hM (by decide)
   have hl:as.length=i:=by
    have:=UK hp;rw [U3,gn] at this;omega
   refine ⟨_,rfl,.inl ⟨rfl,_,SqL.of e⟩,_,rfl,_,_,rfl,rfl,⟨by decide,by decide⟩,_,rfl,dP cell / 36,0+(i:Int),rfl,hb,by omega,_,rfl,_,_,rfl,rfl,(by show (0:Int)<4;decide),aj (by show 2<=1000000;decide),fun p DL=>?_⟩;have Fx:kl≠p:=aR e DL;refine ⟨kl,_,_,rfl,rfl,by rw [au Fx];exact e,bj (by rw [Ue];omega),?_⟩;refine ⟨_,rfl,_,_,rfl,rfl,⟨by decide,by decide⟩,_,rfl,_,_,rfl,rfl,some (.int (0+(i:Int))),as++[p],?_,aI (aI sm (sm.free DL)) A8,?_,?_⟩
   · have e1:rests (dP cell / 7) (i+1)=rests (dP cell / 7) i / 4+(0+(i:Int)):=by rw [rests];omega
     rw [e1];rfl
   · rw [ae,UC];rfl
   · have MJ:i<(dD cell).toNat:=hi;rw [XC,mm MJ];have kt:KT H2 (upd (upd H2 p (.tup [.str (nameOf (dP cell / 36) (0+(i:Int))),.int (rests (dP cell / 7) i%4)])) kl (.lst (as.map V.ref++[.ref p]))):=(iR DL).trans (bp (xs:=as.map V.ref) (by rw [au Fx];exact e));refine P2.append (hp.mono kt) (.cons ?_ .nil);show (upd (upd H2 p _) kl _) p=_;rw [au Fx.symm,ae,ZY]
 · rintro σ H2 ⟨kv,as,rfl,sm,e,hp⟩;have hk:(qv cell).take (dD cell).toNat=qv cell:=by rw [<- gn,Xn]
   rw [hk] at hp
   have hl:as.length=(dD cell).toNat:=by
    have:=UK hp;rw [gn] at this;omega
   obtain ⟨pa,Sm,O3⟩:=P2.get hp (mm (cell:=cell) (i:=(kAt cell).toNat) (by omega));have AI:atI (as.map V.ref) (kAt cell)=some (.ref pa):=at_nonneg ha.1 (by rw [Ut,Sm];rfl);have Jk:(((kAt cell).toNat:Nat):Int)=kAt cell:=by omega
   rw [Jk] at O3;refine ⟨_,rfl,_,_,rfl,rfl,⟨by decide,by decide⟩,_,rfl,_,_,rfl,rfl,(by show (0:Int)<dD cell;omega),?_⟩;refine ⟨_,rfl,_,rfl,kl,_,kAt cell,.ref pa,rfl,rfl,SqL.of e,AI,pa,_,0,_,rfl,rfl,SqT.of O3,at0,aj (by show 2<=1000000;decide),fun p DL=>?_⟩;have Fx:kl≠p:=aR e DL;refine ⟨_,rfl,_,rfl,kl,_,kAt cell,(kAt cell).toNat,rfl,rfl,by rw [au Fx];exact e,?_,?_⟩
   · unfold ixN;rw [if_pos ha.1,if_pos (by rw [Ue,hl];omega)]
   · refine ⟨_,rfl,kl,_,rfl,.inl ⟨SqL.of ae,fun l C9=>?_⟩⟩;have kt:KT H2 (upd (upd H2 p (.tup [.str (nameOf (dP cell / 36) (kAt cell)),.int 0])) kl (.lst ((as.map V.ref).set (kAt cell).toNat (.ref p)))):=(iR DL).trans (bp (xs:=as.map V.ref) (by rw [au Fx];exact e));refine q l (as.set (kAt cell).toNat p) _ (aI (aI (aI sm (sm.free DL)) A8) ?_) ?_ ?_
     · exact (aI (aI sm (sm.free DL)) A8).free C9
     · rw [ae,Y6]
     · have Sn:=kt.trans (iR (o:=.tup ((as.map V.ref).set (kAt cell).toNat (.ref p))) C9);refine P2.set ?_ _ (hp.mono Sn)
       have So:p≠l:=by
        intro z;rw [<- z,au Fx.symm,ae] at C9;cases C9
       show (upd _ l _) p=_;rw [au So,au Fx.symm,ae]
theorem xC (n:Nat) (z:Int):(VA n [V.int z]).flatten=(VA n z).map V.int:=by
 induction n with
 | zero=>rfl
 | succ n ih=>rw [WN,U4,ih,WN];rfl
inductive fT (K:Uj) (vs:List V) (H:Hp) (Q:VK) (_E:XK):Prop
 | mk (a:Ul) (xs:List V) (many:Int) (Aw:vs=[.ref a,.int many]) (Ax:H a=some (.lst xs)) (AE:(∀ v∈xs,∃ z,v=.int z)) (AQ:xs.length<=1000) (Bx:1<=many) (B':many<=1000) (DW:∀ (r:Ul) (cs:List Int) (H':Hp),L2.Same H H'->H' r=some (.lst (cs.map V.int))->cs.length=many.toNat->Q (.ref r) H'):fT K vs H Q _E
def mD (K:Uj):Sp:=fT K
theorem md:FnOk P w K mg base CX0 1 T.g__law_folded.f T.g__law_folded.d ["script","many"] (mD K):=by
 refine T.g__law_folded.F.ok eA (fun vs H Q E h=>?_) (fun Ao A outer s H vs Q E hr h=>?_)
 · obtain ⟨a,xs,many,rfl,_⟩:=h;rfl
 obtain ⟨a,xs,many,rfl,ea,hint,EW,m1,m2,q⟩:=h
 refine ⟨_,(af (ar (i:=2) eA.nd rfl (UI rfl) (ak za (bg (aa ad ac)) (pv 1)))
  (af (b9 Vy rfl (bD rfl T.n_range (aa (aq al rfl T.n_len UL (aa (pv 0) ac)) ac)) (aB (i:=3) eA.nd rfl (UI rfl)) (ai (d7 (ak aK (ak bq (ak eV (ao aG (pv 2) (ak aK (pv 3) (pv 1)) (fun _ _=>rfl)) ad) (ao aG (pv 0) (pv 3) (fun _ _=>rfl))) (ak vH ad ad)) (gg (pv 2) (ak aK (pv 3) (pv 1)) set_list))))
  (ai (aA (pv 2))))),?_⟩
 try dsimp only [AO,Ai]
 refine ⟨aj (by show 1<=1000000;decide),fun l1 Bl=>?_⟩;have s1:L2.Same H (upd H l1 (.lst [.int 0])):=ag Bl _;have e1:(upd H l1 (.lst [.int 0])) l1=some (.lst [.int 0]):=ae;generalize (upd H l1 (.lst [.int 0]))=H1 at s1 e1 ⊢;refine ⟨_,rfl,l1,_,_,rfl,rfl,e1,by omega,by omega,aj (by show 1 * many.toNat<=1000000;omega),fun kl A8=>?_⟩;dsimp only;rw [xC];have s2:L2.Same H (upd H1 kl (.lst ((VA many.toNat (0:Int)).map V.int))):=s1.trans (ag A8 _);have e2:(upd H1 kl (.lst ((VA many.toNat (0:Int)).map V.int))) kl=some (.lst ((VA many.toNat (0:Int)).map V.int)):=ae;have Sq:H kl=none:=s1.free A8;generalize (upd H1 kl (.lst ((VA many.toNat (0:Int)).map V.int)))=H2 at s2 e2 ⊢;refine ⟨_,rfl,a,_,rfl,.inl (SqL.of (s2 _ _ ea)),_,rfl,by omega,by omega,?_⟩
 refine bT (n:=((xs.length:Nat):Int).toNat) (fun i σ H3=>Ex2 fun (kv:Option V) (cs:List Int)=>An4 (σ=[some (.ref a),some (.int many),some (.ref kl),kv]) (L2.Same H H3) (H3 kl=some (.lst (cs.map V.int))) (cs.length=many.toNat))
  ⟨none,_,rfl,s2,e2,List.length_replicate⟩ ?_ ?_
 · rintro i σ H3 hi ⟨kv,cs,rfl,s3,e3,By⟩
   have B1:i<xs.length:=by
    have:i<((xs.length:Nat):Int).toNat:=hi;omega
   have y0:=U0 (0+(i:Int)) (show many≠0 by omega);have y1:=UT (0+(i:Int)) (show 0<many by omega);obtain ⟨ix,Eu⟩:∃ ix:Nat,(0+(i:Int))%many=(ix:Int):=⟨_,(Wq y0).symm⟩;obtain ⟨c,hc⟩:∃ c,cs[ix]?=some c:=⟨_,Uh (by omega)⟩;obtain ⟨x,hx⟩:∃ x,xs[i]?=some x:=⟨_,Uh B1⟩;obtain ⟨z,rfl⟩:=hint x (Ur hx);refine ⟨_,rfl,_,rfl,_,rfl,_,_,rfl,rfl,(by show 0<many;omega),kl,_,_,.int c,rfl,rfl,SqL.of e3,at_nonneg y0 (by rw [Eu,VL,Ut,hc];rfl),_,_,rfl,rfl,.inr ⟨by decide,by decide⟩,?_⟩;refine ⟨_,rfl,_,rfl,a,_,_,.int z,rfl,rfl,SqL.of (s3 _ _ ea),at_nonneg (by omega) (by rw [show (0+(i:Int)).toNat=i by omega];exact hx),_,_,rfl,rfl,_,_,rfl,rfl,⟨by decide,by decide,by decide⟩,_,_,rfl,rfl,(by show (0:Int)<10 ^ 60;decide),?_⟩;refine ⟨_,rfl,_,rfl,_,rfl,_,_,rfl,rfl,(by show 0<many;omega),kl,_,_,ix,rfl,rfl,e3,?_,?_⟩
   · rw [Eu];unfold ixN;rw [if_pos (by omega),if_pos (by rw [Ue];omega)];simp
   · refine ⟨_,cs.set ix ((c * 31+z)%10 ^ 60),rfl,aI s3 Sq,?_,by rw [W6];exact By⟩;rw [ae,Y6];rfl
 · rintro σ H3 ⟨kv,cs,rfl,s3,e3,By⟩;exact ⟨_,rfl,q kl cs H3 s3 e3 By⟩
theorem jX {H:Hp}:∀ {ks:List (UA×Int)} {as:List Ul},KsAt H ks as->∀ z∈ks.zip as,z.1∈ks/\KAt H z.1 z.2
 | _,_,.nil,z,hz=>by simp at hz
 | _,_,.cons (a:=k) (b:=a) r t,z,hz=>by
   rw [List.zip_cons_cons] at hz;rcases UH.mp hz with rfl | hz
   · exact ⟨Uy ..,r⟩
   · obtain ⟨h1,h2⟩:=jX t z hz;exact ⟨Uv _ h1,h2⟩
theorem mL {K:Uj} {js:List (Option Nat)} {tt:TT} {te:TE} {σ:St} {H:Hp} {kr:Ul} {Ah:List Ul} {ks:List (UA×Int)} {fin:Ul->Hp->Prop} (e:H kr=some (.tup (Ah.map V.ref))) (AS:KsAt H ks Ah) (g:fU ks)
 (FY:∀ (z:UA×Int) (ka:Ul) (H2:Hp) (R:Bool->Hp->Prop),L2.Same H H2->KAt H2 z ka->R (decide (V.int z.2=V.int 0)) H2->tt ((cσ js σ).set 0 (some (.ref ka))) H2 R)
 (FZ:∀ (ka:Ul) (H2:Hp) (R:VK),R (.ref ka) H2->te ((cσ js σ).set 0 (some (.ref ka))) H2 R)
 (q:∀ (D:Ul) (k0:UA×Int) (ka:Ul) (rs:List V) (H':Hp),H D=none->L2.Same H H'->H' D=some (.lst (.ref ka::rs))->k0∈ks->k0.2=0->KAt H' k0 ka->fin D H') :
 ∀ D,H D=none->∃ (n:Nat) (W:Nat->Hp->Prop),W 0 (upd H D (.lst []))/\da js (av 0) tt te σ (Itt K kr) D n W fun H'=>fin D H':=by
 have A8:ks.length=Ah.length:=UK AS;have MK:=g.le;have Mc:(ks.zip Ah).length=ks.length:=by rw [X8];omega
 have Iy:∀ (i:Nat) (x:V) (z:(UA×Int)×Ul),(Ah.map V.ref)[i]?=some x->(ks.zip Ah)[i]?=some z->x=.ref z.2:=fun i x z hx hz=>by
  obtain ⟨ka,rfl,AZ⟩:=bu hx;obtain ⟨h1,h2⟩:=WZ.mp hz;rw [AZ] at h2;cases h2;rfl
 refine gA (ks.zip Ah) (fun z=>decide (V.int z.1.2=V.int 0)) (fun z=>.ref z.2) (SqT.of e) (by rw [Mc,Ue];exact A8) (by rw [Ue];omega) (fun i x z H2 R hx hz sm r=>?_) (fun i x z H2 R hx hz _ sm r=>?_) (fun D hD=>?_)
 · rw [Iy i x z hx hz];have:=(jX AS z (Ur hz)).2;exact FY z.1 z.2 H2 R sm (sm _ _ this) r
 · rw [Iy i x z hx hz];exact FZ z.2 H2 R r
 · obtain ⟨k,hk,Bw⟩:=g.zero;obtain ⟨i,hi,rfl⟩:=List.getElem_of_mem hk;have hz:(ks.zip Ah)[i]'(by omega)∈(ks.zip Ah).filter fun z=>decide (V.int z.1.2=V.int 0):=X7.mpr ⟨List.getElem_mem _,by rw [List.getElem_zip];exact decide_eq_true (congrArg V.int Bw)⟩
   have Am:∀ z∈(ks.zip Ah).filter fun z=>decide (V.int z.1.2=V.int 0),z.1∈ks/\z.1.2=0/\KAt H z.1 z.2:=fun z hz=>by
    obtain ⟨h1,h2⟩:=X7.mp hz;obtain ⟨h3,h4⟩:=jX AS z h1;exact ⟨h3,V.int.inj (of_decide_eq_true h2),h4⟩
   generalize ((ks.zip Ah).filter fun z=>decide (V.int z.1.2=V.int 0))=bs at hz Am ⊢;cases bs with
   | nil=>cases hz
   | cons z0 bs =>
     obtain ⟨h1,h2,h3⟩:=Am z0 (Uy ..);exact q D z0.1 z0.2 _ _ hD (ag hD _) ae h1 h2 (ag hD _ _ _ h3)
inductive fj (n:Nat) (vs:List V) (H:Hp) (Q:VK) (_E:XK):Prop
 | mk (cell:Int) (oa:Ul) (Ak:List Ul) (outs:List (UA×Int)) (S C deep:Int) (Aw:vs=[.int cell,.ref oa,.int S,.int C,.int deep]) (Ax:H oa=some (.tup (Ak.map V.ref))) (AE:KsAt H outs Ak) (AQ:fU outs) (Bx:0<=S) (B':S<=20) (DW:0<=C) (F0:C<=3) (zz8:0<=deep) (IJ:deep<(n:Int)) (ET:∀ (t:Th) (r:Ul) (H':Hp),L2.Same H H'->At H' t r->t.FitS outs S C->t.tall<=deep.toNat+1->Q (.ref r) H'):fj n vs H Q _E
def lc (n:Nat):Sp:=fj n
set_option maxHeartbeats 4000000 in
theorem dF:∀ n:Nat,FnOk P w K mg base CX0 (n+2) T.g__law_pattern.f T.g__law_pattern.d ["cell","outs","states","kids","deep"] (lc n)
 | 0=>⟨fun _ _ _ _ h=>by obtain ⟨_,_,_,_,_,_,_,_,_,_,_,_,_,_,_,h1,h2,_⟩:=h;omega,fun _ _ _ _ _ _ _ _ _ _ _ _ _ h=>by obtain ⟨_,_,_,_,_,_,_,_,_,_,_,_,_,_,_,h1,h2,_⟩:=h;omega⟩
 | n+1=>by
   have ih:=dF n;refine T.g__law_pattern.F.ok bE (fun vs H Q E h=>?_) (fun Ao A outer s H vs Q E hr h=>?_)
   · obtain ⟨cell,oa,Ak,outs,S,C,deep,rfl,_⟩:=h;rfl
   obtain ⟨cell,oa,Ak,outs,S,C,deep,rfl,eo,AS,g,S0,S1,C0,C1,d0,d1,q⟩:=h
   refine ⟨_,(af (aN (PW.pt (jG (ax kI (ak eV (pv 2) (pv 3)) ad (az _)) (gT (PW.pt (fS (ax gx (ak aK (pv 0) ad) ad (az _)) (eW (PW.pt (jG (ax cb (pv 4) ad (az _)) (gT (ax gx (ak aK (pv 0) ad) ad (az _))))))))))) (ai (aA (bi (aa aw (aa (ak aK (ak aQ (pv 0) ad) (pv 2)) (aa (ak aK (ak aQ (ak aQ (pv 0) ad) (pv 2)) (pv 3)) ac)))))) aE)
    (af (ar (i:=5) bE.nd rfl (UI rfl) (ao ay (pv 1) (ak aK (ak aQ (pv 0) ad) (aq al rfl T.n_len UL (aa (pv 1) ac))) (fun _ _=>rfl)))
    (af (aN (ax cb (pv 4) ad (az _)) (ai (ar (i:=5) bE.nd rfl (UI rfl) (ao aG (bP (N:=[Ug "one"]) (js:=[none]) (g:=(av 0)) (tt:=(l8 (tOp (rEq) (tOp (jU K) (bK 0) (tC (.int 1))) (tC (.int 0))))) (te:=(bK 0)) rfl (cC rfl (by decide +kernel) (by decide +kernel) rfl rfl rfl) (cY (pv 1)) (fun _ _ _ _ _ _=>(aB (i:=0) aaf rfl (UI rfl))) (bo rfl) (fun _ _ _ _ _ _=>jA (ax cb (ao ay (pv 0) ad (fun _ _=>rfl)) ad (az _))) (fun _ _ _ _ _ _=>(pv 0))) ad (fun _ _=>rfl)))) aE)
    (af (ar (i:=6) bE.nd rfl (UI rfl) (bi ac))
    (af (b9 Vy rfl (bD rfl T.n_range (aa (ao ay (pv 5) ad (fun _ _=>rfl)) ac)) (aB (i:=7) bE.nd rfl (UI rfl)) (af (ar (i:=8) bE.nd rfl (UI rfl) (bc (ih) (hr.mono (Uq _)) rfl T.g__law_pattern.m T.g__law_pattern.F.kp T.g__law_pattern.b .nil lS (aa (ak aK (ak eV (ak bq (ak bq (ak aQ (pv 0) ad) (pv 7)) ad) ad) ad) (aa (pv 1) (aa (pv 2) (aa (pv 3) (aa (ak iG (pv 4) ad) ac)))))))
    (ai (ar (i:=6) bE.nd rfl (UI rfl) (ak dQ (pv 6) (bi (aa (pv 8) ac)))))))
    (ai (aA (ak dQ (bi (aa (ao ay (pv 5) ad (fun _ _=>rfl)) ac)) (pv 6))))))))),?_⟩
   try dsimp only [AO,Ai]
   have A8:outs.length=Ak.length:=UK AS;have MK:=g.le;have Jl:=g.ne;refine aP (fun f' H'=>An2 (H=H') (f'=[some (.int cell),some (.ref oa),some (.int S),some (.int C),some (.int deep),none,none,none,none])) (fun kk hk=>?_) ?_
   · refine b8 (fun b H'=>An2 (H=H') ((b=true->0<S/\0<C))) (fun k2 Br=>?_) (fun H' hb=>?_) (fun H' hb=>?_)
     · refine ⟨_,rfl,_,rfl,_,_,rfl,rfl,.inl ⟨by omega,by omega⟩,_,_,rfl,rfl,_,rfl,?_⟩;refine cg (fun c1=>?_) (fun c1=>Br _ _ ⟨rfl,fun z=>absurd z UN⟩)
       have E6:0<S/\0<C:=by
        have ES:0<S * C:=of_decide_eq_true c1;refine ⟨?_,?_⟩
        · rcases ZE S0 with h | h
          · exact h
          · rw [<- h] at ES;simp at ES
        · rcases ZE C0 with h | h
          · exact h
          · rw [<- h] at ES;simp at ES
       refine ⟨_,rfl,_,_,rfl,rfl,(by show (0:Int)<5;decide),_,_,rfl,rfl,_,rfl,?_⟩;refine cg (fun c2=>Br _ _ ⟨rfl,fun _=>E6⟩) (fun c2=>?_);refine ⟨_,rfl,rfl,_,rfl,?_⟩;refine cg (fun c3=>?_) (fun c3=>Br _ _ ⟨rfl,fun _=>E6⟩);exact ⟨_,rfl,_,_,rfl,rfl,(by show (0:Int)<5;decide),_,_,rfl,rfl,_,rfl,Br _ _ ⟨rfl,fun _=>E6⟩⟩
     · obtain ⟨rfl,hb⟩:=hb;obtain ⟨hS,hC⟩:=hb rfl;refine ⟨_,rfl,_,_,rfl,rfl,⟨by decide,by decide⟩,_,rfl,_,_,rfl,rfl,hS,_,rfl,_,_,rfl,rfl,⟨by decide,by decide⟩,_,rfl,_,_,rfl,rfl,⟨hS,by omega⟩,_,rfl,_,_,rfl,rfl,hC,aj (by show 3<=1000000;decide),fun ca Ef=>?_⟩;have y0:=U0 (cell / 5) (show S≠0 by omega);have y1:=UT (cell / 5) hS;have y2:=U0 (cell / 5 / S) (show C≠0 by omega);have y3:=UT (cell / 5 / S) hC;refine q (.call (cell / 5%S) (cell / 5 / S%C)) ca _ (ag Ef _) ?_ ?_ ?_
       · rw [At];exact ae
       · rw [Th.FitS];exact ⟨y0,by omega,y2,by omega⟩
       · rw [Th.tall];omega
     · obtain ⟨rfl,_⟩:=hb;exact hk _ _ ⟨rfl,rfl⟩
   rintro f' H' ⟨rfl,rfl⟩;have m0:=U0 (cell / 5) (show ((Ak.map V.ref).length:Int)≠0 by rw [Ue];omega);have m1:=UT (cell / 5) (show (0:Int)<((Ak.map V.ref).length:Int) by rw [Ue];omega);refine hid fun ZZ kZ=>?_;obtain ⟨k0,Bw⟩:∃ k0,outs[(cell / 5%((Ak.map V.ref).length:Int)).toNat]?=some k0:=⟨_,Uh (by rw [Ue] at m0 m1 ⊢;omega)⟩;obtain ⟨ka,AZ,Ck⟩:=P2.get AS Bw;refine kZ ?_;refine ⟨_,rfl,_,rfl,_,_,rfl,rfl,⟨by decide,by decide⟩,_,rfl,oa,_,rfl,.inr (SqT.of eo),_,_,rfl,rfl,(by show (0:Int)<((Ak.map V.ref).length:Int);rw [Ue];omega),oa,_,_,.ref ka,rfl,rfl,SqT.of eo,at_nonneg m0 (by rw [Ut,AZ];rfl),?_⟩;dsimp only [av];refine aP (fun f' H'=>Ex2 fun (k0:UA×Int) (ka:Ul)=>An5 (k0∈outs) (KAt H' k0 ka) ((deep=0->k0.2=0)) (L2.Same H H') (f'=[some (.int cell),some (.ref oa),some (.int S),some (.int C),some (.int deep),some (.ref ka),none,none,none])) (fun kk hk=>?_) ?_
   · refine b8 (fun b H'=>An2 (H=H') ((b=false->deep≠0))) (fun k2 Br=>?_) (fun H' hb=>?_) (fun H' hb=>?_)
     · exact ⟨_,rfl,rfl,_,rfl,Br _ _ ⟨rfl,fun z z2=>of_decide_eq_false z (congrArg V.int z2)⟩⟩
     · obtain ⟨rfl,_⟩:=hb;refine ⟨_,rfl,oa,rfl,⟨_,SqT.of eo⟩,mL (K:=K) eo AS g (fun z ka H2 R sm hz r=>⟨_,rfl,ka,_,1,_,rfl,rfl,SqT.of hz,at1,rfl,_,rfl,r⟩) (fun ka H2 R r=>⟨_,rfl,r⟩) (fun D k1 Cm rs H1 hD s1 eD Gh Kb e1=>?_)⟩;exact ⟨D,_,0,.ref Cm,rfl,rfl,SqL.of eD,at0,hk _ _ ⟨k1,Cm,Gh,e1,fun _=>Kb,s1,rfl⟩⟩
     · obtain ⟨rfl,hb⟩:=hb;exact hk _ _ ⟨k0,ka,Ur Bw,Ck,fun z=>absurd z (hb rfl),.refl _,rfl⟩
   rintro f' H1 ⟨k0,ka,C7,Ck,hz,s1,rfl⟩;have DI:=g.num k0 C7;refine ⟨aj (by show 0<=1000000;decide),fun pl Bj=>?_⟩;have s2:L2.Same H1 (upd H1 pl (.tup [])):=ag Bj _;have e2:(upd H1 pl (.tup [])) pl=some (.tup (([]:List Ul).map V.ref)):=ae;generalize (upd H1 pl (.tup []))=H2 at s2 e2 ⊢;have C4:=s1.trans s2;refine ⟨_,rfl,ka,_,1,_,rfl,rfl,SqT.of (s2 _ _ Ck),at1,k0.2,rfl,by omega,by omega,?_⟩
   refine bT (n:=k0.2.toNat) (fun i σ H3=>Ex5 fun (c7 c8:Option V) (pl:Ul) (bs:List Ul) (ts:List Th)=>An6 (σ=[some (.int cell),some (.ref oa),some (.int S),some (.int C),some (.int deep),some (.ref ka),some (.ref pl),c7,c8]) (L2.Same H1 H3) (H3 pl=some (.tup (bs.map V.ref))) (Ats H3 ts bs) (ts.length=i) (∀ t∈ts,t.FitS outs S C/\t.tall<=(deep - 1).toNat+1))
    ⟨none,none,pl,[],[],rfl,s2,e2,.nil,rfl,fun t ht=>by cases ht⟩ ?_ ?_
   · rintro i σ H3 hi ⟨c7,c8,pl,bs,ts,rfl,s3,e3,CO,BE,Am⟩;have G':i<k0.2.toNat:=hi;have sB:L2.Same H H3:=s1.trans s3
     have Jm:1<=deep:=by
      by_cases z:deep=0
      · have:=hz z;omega
      · omega
     refine ⟨_,rfl,_,_,rfl,rfl,⟨by decide,by decide⟩,_,rfl,_,_,rfl,rfl,_,_,rfl,rfl,_,_,rfl,rfl,.inr ⟨by decide,by decide⟩,_,_,rfl,rfl,(by show (0:Int)<2147483647;decide),?_⟩;refine ⟨_,rfl,_,rfl,_,rfl,_,rfl,_,_,rfl,rfl,_,oa,Ak,outs,S,C,deep - 1,rfl,sB _ _ eo,AS.mono (Same.kt sB),g,S0,S1,C0,C1,by omega,by omega,fun t r H4 s4 AI Al Av=>?_⟩;have B6:bs.length=ts.length:=CO.length;refine ⟨_,rfl,_,rfl,aj (by show 1<=1000000;decide),fun p1 Ez=>?_⟩;dsimp only;have s5:L2.Same H4 (upd H4 p1 (.tup [.ref r])):=ag Ez _;have e5:(upd H4 p1 (.tup [.ref r])) p1=some (.tup [.ref r]):=ae;generalize (upd H4 p1 (.tup [.ref r]))=H5 at s5 e5 ⊢;refine oR (s5 _ _ (s4 _ _ e3)) e5 (by rw [Ue];show bs.length+1<=1000000;omega) fun p H6 s6 e6=>?_;have Ji:=s4.trans (s5.trans s6);refine ⟨_,_,p,bs++[r],ts++[t],rfl,s3.trans Ji,by rw [e6,UC];rfl,(CO.mono (Same.kt Ji)).append (.cons (AI.mono (Same.kt (s5.trans s6))) .nil),by rw [Uu,BE];rfl,fun u hu=>?_⟩;rcases UP.mp hu with hu | hu
     · exact Am u hu
     · rw [UW.mp hu];exact ⟨Al,Av⟩
   · rintro σ H3 ⟨c7,c8,pl,bs,ts,rfl,s3,e3,CO,BE,Am⟩;have B6:bs.length=ts.length:=CO.length;refine ⟨_,rfl,ka,_,0,.str k0.1,rfl,rfl,SqT.of (s3 _ _ Ck),at0,aj (by show 1<=1000000;decide),fun p1 Ez=>?_⟩;dsimp only;have s4:L2.Same H3 (upd H3 p1 (.tup [.str k0.1])):=ag Ez _;have e4:(upd H3 p1 (.tup [.str k0.1])) p1=some (.tup [.str k0.1]):=ae;generalize (upd H3 p1 (.tup [.str k0.1]))=H4 at s4 e4 ⊢;refine ⟨_,rfl,?_⟩;refine oR e4 (s4 _ _ e3) (by rw [Ue];show 1+bs.length<=1000000;omega) fun p H6 s6 e6=>?_;have Gj:=(g.low k0 C7).1;refine q (.knot k0.1 ts) p H6 (s1.trans (s3.trans (s4.trans s6))) ?_ ?_ ?_
     · rw [At];exact ⟨v2 Gj,bs,e6,CO.mono (Same.kt (s4.trans s6))⟩
     · rw [Th.FitS];refine ⟨?_,FitSs.of fun t ht=>(Am t ht).1⟩
       have:(k0.1,(ts.length:Int))=k0:=by
        rw [BE];exact ZV rfl (by show ((k0.2.toNat:Nat):Int)=k0.2;omega)
       rw [this];exact C7
     · rw [Th.tall];by_cases z:deep=0
       · have Br:=hz z;have:ts=[]:=U9.mp (by omega);subst this;rw [aL];omega
       · have:=oi (n:=(deep - 1).toNat+1) fun t ht=>(Am t ht).2;omega
inductive fW (n:Nat) (vs:List V) (H:Hp) (Q:VK) (_E:XK):Prop
 | mk (l:Ul) (x:Int) (oa:Ul) (Ak:List Ul) (outs:List (UA×Int)) (S C deep:Int) (Aw:vs=[.ref l,.ref oa,.int S,.int C,.int deep]) (Ax:H l=some (.lst [.int x])) (AE:H oa=some (.tup (Ak.map V.ref))) (AQ:KsAt H outs Ak) (Bx:fU outs) (B':0<=S) (DW:S<=20) (F0:0<=C) (zz8:C<=3) (IJ:0<=deep) (ET:deep<(n:Int)) (ML:∀ (t:Th) (r:Ul) (x':Int) (H':Hp),SameB l H H'->H' l=some (.lst [.int x'])->At H' t r->t.FitS outs S C->t.tall<=deep.toNat+1->Q (.ref r) H'):fW n vs H Q _E
def mi (n:Nat):Sp:=fW n
set_option maxHeartbeats 4000000 in
theorem d4:∀ n:Nat,FnOk P w K mg base CX0 (n+2) T.g__law_digits.f T.g__law_digits.d ["own","outs","states","kids","deep"] (mi n)
 | 0=>⟨fun _ _ _ _ h=>by obtain ⟨_,_,_,_,_,_,_,_,_,_,_,_,_,_,_,_,_,h1,h2,_⟩:=h;omega,fun _ _ _ _ _ _ _ _ _ _ _ _ _ h=>by obtain ⟨_,_,_,_,_,_,_,_,_,_,_,_,_,_,_,_,_,h1,h2,_⟩:=h;omega⟩
 | n+1=>by
   have ih:=d4 n;refine T.g__law_digits.F.ok bA (fun vs H Q E h=>?_) (fun Ao A outer s H vs Q E hr h=>?_)
   · obtain ⟨l,x,oa,Ak,outs,S,C,deep,rfl,_⟩:=h;rfl
   obtain ⟨l,x,oa,Ak,outs,S,C,deep,rfl,el,eo,AS,g,S0,S1,C0,C1,d0,d1,q⟩:=h
   refine ⟨_,(af (ar (i:=5) bA.nd rfl (UI rfl) (ak eV (pv 2) (pv 3)))
    (af (ar (i:=6) bA.nd rfl (UI rfl) (ak aK (ao aG (pv 0) ad (fun _ _=>rfl)) (ak bq (pv 5) (aq al rfl T.n_len UL (aa (pv 1) ac)))))
    (af (d7 (ak aQ (ao aG (pv 0) ad (fun _ _=>rfl)) (ak bq (pv 5) (aq al rfl T.n_len UL (aa (pv 1) ac)))) (gg (pv 0) ad set_list))
    (af (aN (ax gx (pv 6) (pv 5) (az _)) (ai (aA (bi (aa aw (aa (ak aK (pv 6) (pv 2)) (aa (ak aQ (pv 6) (pv 2)) ac)))))) aE)
    (af (ar (i:=7) bA.nd rfl (UI rfl) (ao ay (pv 1) (ak iG (pv 6) (pv 5)) (fun _ _=>rfl)))
    (af (aN (ax cb (pv 4) ad (az _)) (ai (ar (i:=7) bA.nd rfl (UI rfl) (ao aG (bP (N:=[Ug "one"]) (js:=[none]) (g:=(av 0)) (tt:=(l8 (tOp (rEq) (tOp (jU K) (bK 0) (tC (.int 1))) (tC (.int 0))))) (te:=(bK 0)) rfl (cC rfl (by decide +kernel) (by decide +kernel) rfl rfl rfl) (cY (pv 1)) (fun _ _ _ _ _ _=>(aB (i:=0) aaf rfl (UI rfl))) (bo rfl) (fun _ _ _ _ _ _=>jA (ax cb (ao ay (pv 0) ad (fun _ _=>rfl)) ad (az _))) (fun _ _ _ _ _ _=>(pv 0))) ad (fun _ _=>rfl)))) aE)
    (af (ar (i:=8) bA.nd rfl (UI rfl) (bi ac))
    (af (b9 Vy rfl (bD rfl T.n_range (aa (ao ay (pv 7) ad (fun _ _=>rfl)) ac)) (aB (i:=9) bA.nd rfl (UI rfl)) (ai (ar (i:=8) bA.nd rfl (UI rfl) (ak dQ (pv 8) (bi (aa (bc (ih) (hr.mono (Uq _)) rfl T.g__law_digits.m T.g__law_digits.F.kp T.g__law_digits.b .nil lS (aa (pv 0) (aa (pv 1) (aa (pv 2) (aa (pv 3) (aa (ak iG (pv 4) ad) ac)))))) ac))))))
    (ai (aA (ak dQ (bi (aa (ao ay (pv 7) ad (fun _ _=>rfl)) ac)) (pv 8)))))))))))),?_⟩
   try dsimp only [AO,Ai]
   have A8:outs.length=Ak.length:=UK AS;have MK:=g.le;have Jl:=g.ne;have O4:((Ak.map V.ref).length:Int)=(outs.length:Int):=by rw [Ue,A8]
   have E6:0<=S * C:=Int.mul_nonneg S0 C0
   have MM:S * C<=60:=by
    have:S * C<=20 * 3:=Int.mul_le_mul S1 C1 C0 (by decide);omega
   refine ⟨_,rfl,_,rfl,_,_,rfl,rfl,.inl ⟨by omega,by omega⟩,?_⟩;dsimp only [av];have CD:0<S * C+((Ak.map V.ref).length:Int):=by omega
   refine ⟨_,rfl,l,_,0,.int x,rfl,rfl,SqL.of el,at0,_,rfl,_,rfl,oa,_,rfl,.inr (SqT.of eo),_,_,rfl,rfl,_,_,rfl,rfl,CD,?_⟩;refine ⟨_,rfl,l,_,0,.int x,rfl,rfl,SqL.of el,at0,_,rfl,_,rfl,oa,_,rfl,.inr (SqT.of eo),_,_,rfl,rfl,_,_,rfl,rfl,⟨CD,by show S * C+((Ak.map V.ref).length:Int)<1073741824;omega⟩,?_⟩;refine ⟨_,rfl,l,_,0,0,rfl,rfl,el,rfl,?_⟩;dsimp only;have p0:=U0 x (show S * C+((Ak.map V.ref).length:Int)≠0 by omega);have p1:=UT x CD;generalize x%(S * C+((Ak.map V.ref).length:Int))=pick at p0 p1 ⊢;generalize x / (S * C+((Ak.map V.ref).length:Int))=x1;have e1:(upd H l (.lst ([V.int x].set 0 (.int x1)))) l=some (.lst [.int x1]):=by rw [ae];rfl
   have s1:SameB l H (upd H l (.lst ([V.int x].set 0 (.int x1)))):=.set;generalize (upd H l (.lst ([V.int x].set 0 (.int x1))))=H1 at e1 s1 ⊢;have Kw:H1 oa=some (.tup (Ak.map V.ref)):=s1 _ _ (tO eo el (by intro z;cases z)) eo;have Sr:KT H H1:=s1.kt el;have Ci:=AS.mono Sr;generalize Eg:S * C=calls at E6 MM p1 CD ⊢;refine aP (fun f' H'=>An3 (H1=H') (¬ pick<calls) (f'=[some (.ref l),some (.ref oa),some (.int S),some (.int C),some (.int deep),some (.int calls),some (.int pick),none,none,none])) (fun kk hk=>?_) ?_
   · refine b8 (fun b H'=>An2 (H1=H') (b=decide (pick<calls))) (fun k2 Br=>?_) (fun H' hb=>?_) (fun H' hb=>?_)
     · exact ⟨_,rfl,_,rfl,_,_,rfl,rfl,_,rfl,Br _ _ ⟨rfl,rfl⟩⟩
     · obtain ⟨rfl,hb⟩:=hb;have AB:=of_decide_eq_true hb.symm
       have hS:0<S:=by
        rcases ZE S0 with h | h
        · exact h
        · rw [<- h,Int.zero_mul] at Eg;omega
       have y0:=U0 pick (show S≠0 by omega);have y1:=UT pick hS;have y2:0<=pick / S:=Xy p0 (by omega);have y3:pick / S<C:=Int.ediv_lt_of_lt_mul hS (by rw [Int.mul_comm,Eg];exact AB);refine ⟨_,rfl,_,rfl,_,_,rfl,rfl,hS,_,rfl,_,rfl,_,_,rfl,rfl,⟨hS,by omega⟩,aj (by show 3<=1000000;decide),fun ca Ef=>?_⟩;have By:l≠ca:=fun z=>by rw [<- z,e1] at Ef;cases Ef
       refine q (.call (pick%S) (pick / S)) ca x1 _ (s1.trans (.of (ag Ef _))) (by rw [au By];exact e1) ?_ ?_ ?_
       · rw [At];exact ae
       · rw [Th.FitS];exact ⟨y0,by omega,y2,by omega⟩
       · rw [Th.tall];omega
     · obtain ⟨rfl,hb⟩:=hb;exact hk _ _ ⟨rfl,of_decide_eq_false hb.symm,rfl⟩
   rintro f' H' ⟨rfl,T7,rfl⟩;refine hid fun ZZ kZ=>?_;obtain ⟨k0,Bw⟩:∃ k0,outs[(pick - calls).toNat]?=some k0:=⟨_,Uh (by omega)⟩;obtain ⟨ka,AZ,Ck⟩:=P2.get Ci Bw;refine kZ ?_;refine ⟨_,rfl,_,rfl,_,rfl,_,_,rfl,rfl,oa,_,_,.ref ka,rfl,rfl,SqT.of Kw,at_nonneg (by omega) (by rw [Ut,AZ];rfl),?_⟩;dsimp only [av];refine aP (fun f' H'=>Ex2 fun (k0:UA×Int) (ka:Ul)=>An5 (k0∈outs) (KAt H' k0 ka) ((deep=0->k0.2=0)) (L2.Same H1 H') (f'=[some (.ref l),some (.ref oa),some (.int S),some (.int C),some (.int deep),some (.int calls),some (.int pick),some (.ref ka),none,none])) (fun kk hk=>?_) ?_
   · refine b8 (fun b H'=>An2 (H1=H') ((b=false->deep≠0))) (fun k2 Br=>?_) (fun H' hb=>?_) (fun H' hb=>?_)
     · exact ⟨_,rfl,rfl,_,rfl,Br _ _ ⟨rfl,fun z z2=>of_decide_eq_false z (congrArg V.int z2)⟩⟩
     · obtain ⟨rfl,_⟩:=hb;refine ⟨_,rfl,oa,rfl,⟨_,SqT.of Kw⟩,mL (K:=K) Kw Ci g (fun z ka H2 R sm hz r=>⟨_,rfl,ka,_,1,_,rfl,rfl,SqT.of hz,at1,rfl,_,rfl,r⟩) (fun ka H2 R r=>⟨_,rfl,r⟩) (fun D k1 Cm rs H2 hD s2 eD Gh Kb e2=>?_)⟩;exact ⟨D,_,0,.ref Cm,rfl,rfl,SqL.of eD,at0,hk _ _ ⟨k1,Cm,Gh,e2,fun _=>Kb,s2,rfl⟩⟩
     · obtain ⟨rfl,hb⟩:=hb;exact hk _ _ ⟨k0,ka,Ur Bw,Ck,fun z=>absurd z (hb rfl),.refl _,rfl⟩
   clear Bw AZ Ck;rintro f' H2 ⟨k0,ka,C7,Ck,hz,s2,rfl⟩;have DI:=g.num k0 C7;have MN:=s2 _ _ e1;refine ⟨aj (by show 0<=1000000;decide),fun pl Bj=>?_⟩;have s3:L2.Same H2 (upd H2 pl (.tup [])):=ag Bj _;have e3:(upd H2 pl (.tup [])) pl=some (.tup (([]:List Ul).map V.ref)):=ae;generalize (upd H2 pl (.tup []))=H3 at s3 e3 ⊢;refine ⟨_,rfl,ka,_,1,_,rfl,rfl,SqT.of (s3 _ _ Ck),at1,k0.2,rfl,by omega,by omega,?_⟩
   refine bT (n:=k0.2.toNat) (fun i σ H4=>Ex5 fun (c9:Option V) (pl:Ul) (bs:List Ul) (ts:List Th) (x':Int)=>An7 (σ=[some (.ref l),some (.ref oa),some (.int S),some (.int C),some (.int deep),some (.int calls),some (.int pick),some (.ref ka),some (.ref pl),c9]) (SameB l H2 H4) (H4 l=some (.lst [.int x'])) (H4 pl=some (.tup (bs.map V.ref))) (Ats H4 ts bs) (ts.length=i) (∀ t∈ts,t.FitS outs S C/\t.tall<=(deep - 1).toNat+1))
    ⟨none,pl,[],[],x1,rfl,.of s3,s3 _ _ MN,e3,.nil,rfl,fun t ht=>by cases ht⟩ ?_ ?_
   · rintro i σ H4 hi ⟨c9,pl,bs,ts,x',rfl,s4,Kx,e4,CO,BE,Am⟩;have G':i<k0.2.toNat:=hi;have Ky:KT H2 H4:=s4.kt MN
     have Jm:1<=deep:=by
      by_cases z:deep=0
      · have:=hz z;omega
      · omega
     refine ⟨_,rfl,_,rfl,_,rfl,_,rfl,_,rfl,_,rfl,_,_,rfl,rfl,l,x',oa,Ak,outs,S,C,deep - 1,rfl,Kx,Ky _ _ (s2 _ _ Kw),Ci.mono ((Same.kt s2).trans Ky),g,S0,S1,C0,C1,by omega,by omega,fun t r x5 H5 s5 Ss AI Al Av=>?_⟩;have B6:bs.length=ts.length:=CO.length;have Fy:KT H4 H5:=s5.kt Kx;refine ⟨aj (by show 1<=1000000;decide),fun E7 Ez=>?_⟩;dsimp only;have s6:L2.Same H5 (upd H5 E7 (.tup [.ref r])):=ag Ez _;have e6:(upd H5 E7 (.tup [.ref r])) E7=some (.tup [.ref r]):=ae;generalize (upd H5 E7 (.tup [.ref r]))=H6 at s6 e6 ⊢;refine oR (s6 _ _ (Fy _ _ e4)) e6 (by rw [Ue];show bs.length+1<=1000000;omega) fun p H7 s7 e7=>?_;have DO:=s6.trans s7;refine ⟨_,p,bs++[r],ts++[t],x5,rfl,s4.trans (s5.trans (.of DO)),DO _ _ Ss,by rw [e7,UC];rfl,(CO.mono (Fy.trans (Same.kt DO))).append (.cons (AI.mono (Same.kt DO)) .nil),by rw [Uu,BE];rfl,fun u hu=>?_⟩;rcases UP.mp hu with hu | hu
     · exact Am u hu
     · rw [UW.mp hu];exact ⟨Al,Av⟩
   · rintro σ H4 ⟨c9,pl,bs,ts,x',rfl,s4,Kx,e4,CO,BE,Am⟩;have B6:bs.length=ts.length:=CO.length;have Ky:KT H2 H4:=s4.kt MN;refine ⟨_,rfl,ka,_,0,.str k0.1,rfl,rfl,SqT.of (Ky _ _ Ck),at0,aj (by show 1<=1000000;decide),fun E7 Ez=>?_⟩;dsimp only;have s5:L2.Same H4 (upd H4 E7 (.tup [.str k0.1])):=ag Ez _;have e5:(upd H4 E7 (.tup [.str k0.1])) E7=some (.tup [.str k0.1]):=ae;generalize (upd H4 E7 (.tup [.str k0.1]))=H5 at s5 e5 ⊢;refine ⟨_,rfl,?_⟩;refine oR e5 (s5 _ _ e4) (by rw [Ue];show 1+bs.length<=1000000;omega) fun p H6 s6 e6=>?_;have MO:=s5.trans s6;have Gj:=(g.low k0 C7).1;refine q (.knot k0.1 ts) p x' H6 (s1.trans ((SameB.of s2).trans (s4.trans (.of MO)))) (MO _ _ Kx) ?_ ?_ ?_
     · rw [At];exact ⟨v2 Gj,bs,e6,CO.mono (Same.kt MO)⟩
     · rw [Th.FitS];refine ⟨?_,FitSs.of fun t ht=>(Am t ht).1⟩
       have:(k0.1,(ts.length:Int))=k0:=by
        rw [BE];exact ZV rfl (by show ((k0.2.toNat:Nat):Int)=k0.2;omega)
       rw [this];exact C7
     · rw [Th.tall];by_cases z:deep=0
       · have Br:=hz z;have:ts=[]:=U9.mp (by omega);subst this;rw [aL];omega
       · have:=oi (n:=(deep - 1).toNat+1) fun t ht=>(Am t ht).2;omega
theorem xH {xs:List V} {lo hi:Option Int} {v:V} (h:v∈cB xs lo hi):v∈xs:=by
 unfold cB at h;exact XJ (V6 h)
theorem zg (xs:List V) (lo hi:Option Int):(cB xs lo hi).length<=xs.length:=by
 unfold cB;rw [U3,Vi];omega
theorem SameB.fresh {l:Ul} {H H1 H':Hp} (hl:H l=none) (s:L2.Same H H1) (b:SameB l H1 H'):L2.Same H H':=fun a o e=>b a o (fun z=>by rw [z,hl] at e;cases e) (s a o e)
def GK (ks:List (UA×Int)):Prop:=fU ks/\(∀ k∈ks,okW k.1)/\(ks.map (·.1)).Nodup
def TsF (ins outs:List (UA×Int)) (S:Int) (ts:List Th):Prop:=∀ (j:Nat) (t:Th) (k:UA×Int),ts[j]?=some t->ins[j]?=some k->t.FitS outs S k.2/\t.tall<=4
def RwF (ins outs:List (UA×Int)) (S:Int) (row:List Th):Prop:=row.length=ins.length/\TsF ins outs S row
theorem TsF.snoc {ins outs:List (UA×Int)} {S:Int} {ts:List Th} {t:Th} {k:UA×Int} (h:TsF ins outs S ts) (hk:ins[ts.length]?=some k) (hf:t.FitS outs S k.2) (ht:t.tall<=4):TsF ins outs S (ts++[t]):=fun j u k' hu A7=>by
 by_cases hj:j<ts.length
 · rw [W0 hj] at hu;exact h j u k' hu A7
 · have Su:=(Uz.mp hu).1;rw [Uu,Vk] at Su;obtain rfl:j=ts.length:=by omega
   rw [Wn (Uq _),YA] at hu;cases hu;rw [hk] at A7;cases A7;exact ⟨hf,ht⟩
structure wQ (ins outs:List (UA×Int)) (head:Th) (rows:List (List Th)):Prop where
 gi:GK ins
 go:GK outs
 few:rows.length<=4
 row:∀ row∈rows,RwF ins outs (rows.length:Nat) row
 hd:head.FitS outs (rows.length:Nat) 1/\head.tall<=4
inductive ip (K:Uj) (vs:List V) (H:Hp) (Q:VK) (_E:XK):Prop
 | mk (a:Ul) (ns:List Int) (Aw:vs=[.ref a,.int 4,.int 3]) (Ax:SqL K H a (ns.map V.int)) (AE:ns.length<=63) (AQ:∀ (r:Ul) (ins outs:List (UA×Int)) (head:Th) (rows:List (List Th)) (H':Hp),L2.Same H H'->Bk H' ins outs head rows r->wQ ins outs head rows->Q (.ref r) H'):ip K vs H Q _E
def pf (K:Uj):Sp:=ip K
set_option maxHeartbeats 4000000 in
theorem om:FnOk P w K mg base CX0 9 T.g__law_book.f T.g__law_book.d ["script","most","deep"] (pf K):=by
 refine T.g__law_book.F.ok aW (fun vs H Q E h=>?_) (fun Ao A outer s H vs Q E hr h=>?_)
 · obtain ⟨a,ns,rfl,_⟩:=h;rfl
 obtain ⟨a,ns,rfl,hS,EL,q⟩:=h
 refine ⟨_,(af (ar (i:=3) aW.nd rfl (UI rfl) (pcF T.g__law_kinds (hG T) hr (aa (pcF T.g__law_cell_at (aO T) hr (aa (pv 0) (aa ad ac))) ac)))
  (af (ar (i:=4) aW.nd rfl (UI rfl) (pcF T.g__law_kinds (hG T) hr (aa (pcF T.g__law_cell_at (aO T) hr (aa (pv 0) (aa ad ac))) ac)))
  (af (aN (ax cb (ak aK (ak aQ (pcF T.g__law_cell_at (aO T) hr (aa (pv 0) (aa ad ac))) ad) ad) ad (az _)) (ai (ar (i:=4) aW.nd rfl (UI rfl) (pv 3))) aE)
  (af (ar (i:=5) aW.nd rfl (UI rfl) (ak aK (pcF T.g__law_cell_at (aO T) hr (aa (pv 0) (aa ad ac))) (ak bq (pv 1) ad)))
  (af (ar (i:=6) aW.nd rfl (UI rfl) (pcF T.g__law_folded (md T) hr (aa (bz eQ (pv 0) (bB ad) cj) (aa (ak bq (ak eV (pv 5) (aq al rfl T.n_len UL (aa (pv 3) ac))) ad) ac))))
  (af (ar (i:=7) aW.nd rfl (UI rfl) (bZ cb (ak aK (ak aQ (pcF T.g__law_cell_at (aO T) hr (aa (pv 0) (aa ad ac))) ad) ad) ad (az _)))
  (af (ar (i:=8) aW.nd rfl (UI rfl) (bg ac))
  (af (b9 Vy rfl (bD rfl T.n_range (aa (pv 5) ac)) (aB (i:=9) aW.nd rfl (UI rfl)) (af (ar (i:=10) aW.nd rfl (UI rfl) (bg ac))
  (af (b9 Vy rfl (bD rfl T.n_range (aa (aq al rfl T.n_len UL (aa (pv 3) ac)) ac)) (aB (i:=11) aW.nd rfl (UI rfl)) (af (ar (i:=12) aW.nd rfl (UI rfl) (ak bq (ak bq (ao aG (pv 6) (ak bq (ak bq ad (ak eV (pv 9) (aq al rfl T.n_len UL (aa (pv 3) ac)))) (pv 11)) (fun _ _=>rfl)) (ak eV ad (pv 11))) (pv 9)))
  (ai (aN (aZ (pv 7) (fun _=>rfl)) (ai (ba (bN UR Vc Vb bf (pv 10) (aa (pcF T.g__law_digits (d4 T 5) hr (aa (bg (aa (pv 12) ac)) (aa (pv 4) (aa (pv 5) (aa (ao ay (ao ay (pv 3) (pv 11) (fun _ _=>rfl)) ad (fun _ _=>rfl)) (aa (pv 2) ac)))))) ac)))) (ai (ba (bN UR Vc Vb bf (pv 10) (aa (pcF T.g__law_pattern (dF T 5) hr (aa (pv 12) (aa (pv 4) (aa (pv 5) (aa (ao ay (ao ay (pv 3) (pv 11) (fun _ _=>rfl)) ad (fun _ _=>rfl)) (aa (ak aK (ak aQ (pv 12) ad) (ak bq (pv 2) ad)) ac)))))) ac))))))))
  (ai (ba (bN UR Vc Vb bf (pv 8) (aa (aX bh rfl T.n_tuple Vn (aa (pv 10) ac)) ac)))))))
  (af (ar (i:=13) aW.nd rfl (UI rfl) (pcF T.g__law_pattern (dF T 5) hr (aa (ao aG (pv 6) ad (fun _ _=>rfl)) (aa (pv 4) (aa (pv 5) (aa ad (aa (pv 2) ac)))))))
  (af (aN (aZ (pv 7) (fun _=>rfl)) (ai (ar (i:=13) aW.nd rfl (UI rfl) (pcF T.g__law_digits (d4 T 5) hr (aa (bg (aa (ao aG (pv 6) ad (fun _ _=>rfl)) ac)) (aa (pv 4) (aa (pv 5) (aa ad (aa (pv 2) ac)))))))) aE)
  (ai (aA (bi (aa (pv 3) (aa (pv 4) (aa (pv 13) (aa (aX bh rfl T.n_tuple Vn (aa (pv 8) ac)) ac))))))))))))))))),?_⟩
 try dsimp only [AO,Ai]
 refine ⟨_,rfl,a,ns,0,rfl,hS,by decide,cellAt ns 0,rfl,dR ns 0,fun ia ias H1 s1 ei Cj=>?_⟩;refine ⟨_,rfl,a,ns,1,rfl,s1.seq hS,by decide,cellAt ns 1,rfl,dR ns 1,fun Sv MP H2 s2 O5 Gk=>?_⟩;have gI:GK (cu (cellAt ns 0)):=⟨fL _,kB _,ie _⟩;have MQ:GK (cu (cellAt ns 1)):=⟨fL _,kB _,ie _⟩;generalize cu (cellAt ns 0)=ins at Cj gI;generalize cu (cellAt ns 1)=Jn at Gk MQ;have gi:=gI.1;have Cj:=Cj.mono (Same.kt s2);have ei:=s2 _ _ ei;have C4:=s1.trans s2;have hS:=C4.seq hS;dsimp only [av];refine aP (fun f' H'=>Ex3 fun (oa:Ul) (Ak:List Ul) (outs:List (UA×Int))=>An5 (H2=H') (H2 oa=some (.tup (Ak.map V.ref))) (KsAt H2 outs Ak) (GK outs) (f'=[some (.ref a),some (.int 4),some (.int 3),some (.ref ia),some (.ref oa),none,none,none,none,none,none,none,none,none])) (fun kk hk=>?_) ?_
 · refine b8 (fun b H'=>H2=H') (fun k2 Br=>?_) (fun H' hb=>?_) (fun H' hb=>?_)
   · exact ⟨_,rfl,a,ns,1,rfl,hS,by decide,_,_,rfl,rfl,⟨by decide,by decide⟩,_,_,rfl,rfl,(by show (0:Int)<3;decide),rfl,_,rfl,Br _ _ rfl⟩
   · subst hb;exact ⟨_,rfl,hk _ _ ⟨ia,ias,ins,rfl,ei,Cj,gI,rfl⟩⟩
   · subst hb;exact hk _ _ ⟨Sv,MP,Jn,rfl,O5,Gk,MQ,rfl⟩
 clear O5 Gk MQ;rintro f' H' ⟨oa,Ak,outs,rfl,eo,Dh,gO,rfl⟩;have go:=gO.1;have BQ:ins.length=ias.length:=UK Cj;have J1:=gi.le;have B7:((ias.map V.ref).length:Int)=(ins.length:Int):=by rw [Ue,BQ]
 refine ⟨_,rfl,a,ns,2,rfl,hS,by decide,_,rfl,_,_,rfl,rfl,_,_,rfl,rfl,(by show (0:Int)<4+1;decide),?_⟩;have S0:=U0 (cellAt ns 2) (show (4+1:Int)≠0 by decide);have S1:=UT (cellAt ns 2) (show (0:Int)<4+1 by decide);dsimp only [av];generalize cellAt ns 2%(4+1)=S at S0 S1 ⊢;have Sw:0<=S * (ins.length:Int):=Int.mul_nonneg S0 (by omega)
 have MR:S * (ins.length:Int)<=24:=by
  have:S * (ins.length:Int)<=4 * 6:=Int.mul_le_mul (by omega) (by omega) (by omega) (by decide);omega
 rw [<- B7] at Sw MR;refine ⟨_,rfl,3,rfl,a,_,rfl,hS,fun p hp=>?_⟩;dsimp only [av];have s3:L2.Same H2 (upd H2 p (.lst (cB (ns.map V.int) (some 3) none))):=ag hp _;have e3:(upd H2 p (.lst (cB (ns.map V.int) (some 3) none))) p=some (.lst (cB (ns.map V.int) (some 3) none)):=ae;generalize (upd H2 p (.lst (cB (ns.map V.int) (some 3) none)))=H3 at s3 e3 ⊢;have MS:=zg (ns.map V.int) (some 3) none;rw [Ue] at MS;refine ⟨_,rfl,_,rfl,ia,_,rfl,.inr (SqT.of (s3 _ _ ei)),_,_,rfl,rfl,.inl ⟨by omega,by omega⟩,_,_,rfl,rfl,p,_,_,rfl,e3,(fun v hv=>(Vq.mp (xH hv)).elim fun z hz=>⟨z,hz.2.symm⟩),by omega,by omega,by omega,fun ca cs H4 s4 ec By=>?_⟩;have Cr:=s3.trans s4;have hS:=Cr.seq hS;have Sx:=C4.trans Cr;have ei:=Cr _ _ ei;have Cj:=Cj.mono (Same.kt Cr);have eo:=Cr _ _ eo;have Dh:=Dh.mono (Same.kt Cr);refine ⟨_,rfl,a,ns,2,rfl,hS,by decide,_,_,rfl,rfl,⟨by decide,by decide⟩,_,_,rfl,rfl,(by show (0:Int)<2;decide),rfl,?_⟩;dsimp only [av];generalize decide (V.int (cellAt ns 2 / 7%2)=V.int 1)=dg;refine ⟨aj (by show 0<=1000000;decide),fun rl DJ=>?_⟩;have O6:L2.Same H4 (upd H4 rl (.lst [])):=ag DJ _;have O7:(upd H4 rl (.lst [])) rl=some (.lst []):=ae;generalize (upd H4 rl (.lst []))=H5 at O6 O7 ⊢;refine ⟨_,rfl,S,rfl,by omega,by omega,?_⟩
 refine bT (n:=S.toNat) (fun i σ H3=>Ex6 fun (sv rv kv cv:Option V) (AF:List Ul) (rows:List (List Th))=>An6 (σ=[some (.ref a),some (.int 4),some (.int 3),some (.ref ia),some (.ref oa),some (.int S),some (.ref ca),some (.bl dg),some (.ref rl),sv,rv,kv,cv,none]) (L2.Same H4 H3) (H3 rl=some (.lst (AF.map V.ref))) (Vg (RowAt H3) rows AF) (rows.length=i) (∀ row∈rows,RwF ins outs S row))
  ⟨none,none,none,none,[],[],rfl,O6,O7,.nil,rfl,fun t ht=>by cases ht⟩ ?_ ?_
 · rintro i σ H3 hi ⟨sv,rv,kv,cv,AF,rows,rfl,s3,Kz,AK,EU,Am⟩;have G':i<S.toNat:=hi;have Jo:rows.length=AF.length:=UK AK;refine ⟨aj (by show 0<=1000000;decide),fun rw Jp=>?_⟩;have MT:H4 rw=none:=s3.free Jp;have MU:rw≠rl:=fun z=>by rw [z,Kz] at Jp;cases Jp
   have s6:L2.Same H3 (upd H3 rw (.lst [])):=ag Jp _;have O8:(upd H3 rw (.lst [])) rw=some (.lst []):=ae;generalize (upd H3 rw (.lst []))=H6 at s6 O8 ⊢;refine ⟨_,rfl,ia,_,rfl,.inr (SqT.of (s6 _ _ (s3 _ _ ei))),_,rfl,by omega,by omega,?_⟩
   refine bT (n:=((ias.map V.ref).length:Int).toNat) (fun j σ H5=>Ex4 fun (kv cv:Option V) (bs:List Ul) (ts:List Th)=>An8 (σ=[some (.ref a),some (.int 4),some (.int 3),some (.ref ia),some (.ref oa),some (.int S),some (.ref ca),some (.bl dg),some (.ref rl),some (.int (0+(i:Int))),some (.ref rw),kv,cv,none]) (L2.Same H4 H5) (H5 rl=some (.lst (AF.map V.ref))) (KT H6 H5) (H5 rw=some (.lst (bs.map V.ref))) (Ats H5 ts bs) (ts.length=j) (TsF ins outs S ts))
    ⟨kv,cv,[],[],rfl,s3.trans s6,s6 _ _ Kz,fun _ _ e=>e,O8,.nil,rfl,fun j t k h=>by simp at h⟩ ?_ ?_
   · rintro j σ H5 hj ⟨kv,cv,bs,ts,rfl,s5,KA,Fy,Jq,CO,BE,Eh⟩
     have Hh:j<ins.length:=by
      have:j<((ias.map V.ref).length:Int).toNat:=hj;omega
     refine hid fun ZZ kZ=>?_;obtain ⟨k0,Bw⟩:∃ k0,ins[j]?=some k0:=⟨_,Uh Hh⟩;obtain ⟨ka,AZ,Ck⟩:=P2.get Cj Bw;have DI:=gi.num k0 (Ur Bw);have AI:atI (ias.map V.ref) (0+(j:Int))=some (.ref ka):=at_nonneg (by omega) (by rw [show (0+(j:Int)).toNat=j by omega,Ut,AZ];rfl);have hmul:0<=(0+(i:Int)) * ((ias.map V.ref).length:Int):=Int.mul_nonneg (by omega) (by omega)
     have O9:(0+(i:Int)) * ((ias.map V.ref).length:Int)+((ias.map V.ref).length:Int)<=S * ((ias.map V.ref).length:Int):=by
      have h1:(0+(i:Int)+1) * ((ias.map V.ref).length:Int)<=S * ((ias.map V.ref).length:Int):=Int.mul_le_mul_of_nonneg_right (by omega) (by omega);rw [Int.add_mul (0+(i:Int)) 1,Int.one_mul] at h1;exact h1
     obtain ⟨c,hc⟩:∃ c,cs[(1+(0+(i:Int)) * ((ias.map V.ref).length:Int)+(0+(j:Int))).toNat]?=some c:=⟨_,Uh (by omega)⟩;refine kZ ?_;refine ⟨_,rfl,_,rfl,_,rfl,ia,_,rfl,.inr (SqT.of (s5 _ _ ei)),_,_,rfl,rfl,.inl ⟨by omega,by omega⟩,_,_,rfl,rfl,_,rfl,_,_,rfl,rfl,ca,_,_,.int c,rfl,rfl,SqL.of (s5 _ _ ec),at_nonneg (by omega) (by rw [Ut,hc];rfl),?_⟩;refine ⟨_,rfl,_,_,rfl,rfl,.inl ⟨by decide,by decide⟩,_,_,rfl,rfl,_,rfl,_,_,rfl,rfl,?_⟩;dsimp only [av];generalize c+7 * (0+(j:Int))+(0+(i:Int))=cell
     have fin:∀ (t:Th) (r:Ul) (H7:Hp),L2.Same H5 H7->At H7 t r->t.FitS outs S k0.2->t.tall<=4->(tu (V.ref rw) [V.ref r] H7 fun _ H8=>Ex4 fun (kv cv:Option V) (bs:List Ul) (ts:List Th)=>An8 ([some (V.ref a),some (.int 4),some (.int 3),some (.ref ia),some (.ref oa),some (.int S),some (.ref ca),some (.bl dg),some (.ref rl),some (.int (0+(i:Int))),some (.ref rw),some (.int (0+(j:Int))),some (.int cell),none]=[some (.ref a),some (.int 4),some (.int 3),some (.ref ia),some (.ref oa),some (.int S),some (.ref ca),some (.bl dg),some (.ref rl),some (.int (0+(i:Int))),some (.ref rw),kv,cv,none]) (L2.Same H4 H8) (H8 rl=some (.lst (AF.map V.ref))) (KT H6 H8) (H8 rw=some (.lst (bs.map V.ref))) (Ats H8 ts bs) (ts.length=j+1) (TsF ins outs S ts)):=by
      intro t r H7 s7 AI Al Av;have Pa:=s7 _ _ Jq;have Hi:=s7 _ _ KA;have B6:bs.length=ts.length:=CO.length;refine ⟨rw,_,_,rfl,rfl,Pa,bj (by rw [Ue];omega),?_⟩;have kt:KT H7 (upd H7 rw (.lst (bs.map V.ref++[.ref r]))):=bp Pa;refine ⟨_,_,bs++[r],ts++[t],rfl,aI (s5.trans s7) MT,by rw [au MU.symm];exact Hi,Fy.trans ((Same.kt s7).trans kt),?_,?_,?_,?_⟩
      · rw [ae,UC];rfl
      · exact (CO.mono ((Same.kt s7).trans kt)).append (.cons (AI.mono kt) .nil)
      · rw [Uu,BE];rfl
      · exact Eh.snoc (by rw [BE];exact Bw) Al Av
     refine b8 (fun b H'=>H5=H') (fun k2 Br=>?_) (fun H' hb=>?_) (fun H' hb=>?_)
     · exact ⟨_,rfl,_,rfl,Br _ _ rfl⟩
     · subst hb;refine ⟨_,rfl,.inl ⟨rfl,_,SqL.of Jq⟩,_,rfl,aj (by show 1<=1000000;decide),fun ol Et=>?_⟩;have s7:L2.Same H5 (upd H5 ol (.lst [.int cell])):=ag Et _;have e7:(upd H5 ol (.lst [.int cell])) ol=some (.lst [.int cell]):=ae;dsimp only;generalize (upd H5 ol (.lst [.int cell]))=H7 at s7 e7 ⊢;have DO:=s5.trans s7;refine ⟨_,rfl,_,rfl,_,rfl,_,rfl,ia,_,_,.ref ka,rfl,rfl,SqT.of (DO _ _ ei),AI,ka,_,1,_,rfl,rfl,SqT.of (DO _ _ Ck),at1,_,rfl,ol,cell,oa,Ak,outs,S,k0.2,3,rfl,e7,DO _ _ eo,Dh.mono (Same.kt DO),go,S0,by omega,DI.1,DI.2,by decide,by decide,fun t r x' H8 s8 _ AI Al Av=>?_⟩;exact fin t r H8 (SameB.fresh Et s7 s8) AI Al Av
     · subst hb;have y0:=U0 (cell / 3) (show (3+1:Int)≠0 by decide);have y1:=UT (cell / 3) (show (0:Int)<3+1 by decide);refine ⟨_,rfl,.inl ⟨rfl,_,SqL.of Jq⟩,_,rfl,_,rfl,_,rfl,_,rfl,_,rfl,ia,_,_,.ref ka,rfl,rfl,SqT.of (s5 _ _ ei),AI,ka,_,1,_,rfl,rfl,SqT.of (s5 _ _ Ck),at1,_,rfl,_,_,rfl,rfl,⟨by decide,by decide⟩,_,rfl,_,_,rfl,rfl,_,_,rfl,rfl,(by show (0:Int)<3+1;decide),cell,oa,Ak,outs,S,k0.2,_,rfl,s5 _ _ eo,Dh.mono (Same.kt s5),go,S0,by omega,DI.1,DI.2,y0,by show cell / 3%(3+1)<((5:Nat):Int);omega,fun t r H8 s8 AI Al Av=>?_⟩;exact fin t r H8 s8 AI Al (by omega)
   · rintro σ H5 ⟨kv,cv,bs,ts,rfl,s5,KA,Fy,Jq,CO,BE,Eh⟩;refine ⟨_,rfl,.inl ⟨rfl,_,SqL.of KA⟩,_,rfl,rw,_,rfl,.inl ⟨SqL.of Jq,fun tp Fg=>?_⟩⟩;have s7:L2.Same H5 (upd H5 tp (.tup (bs.map V.ref))):=ag Fg _;have e7:(upd H5 tp (.tup (bs.map V.ref))) tp=some (.tup (bs.map V.ref)):=ae;generalize (upd H5 tp (.tup (bs.map V.ref)))=H7 at s7 e7 ⊢;have Hi:=s7 _ _ KA;refine ⟨rl,_,_,rfl,rfl,Hi,bj (by rw [Ue];omega),?_⟩;have kt:KT H7 (upd H7 rl (.lst (AF.map V.ref++[.ref tp]))):=bp Hi;have Sy:KT H3 (upd H7 rl (.lst (AF.map V.ref++[.ref tp]))):=(Same.kt s6).trans (Fy.trans ((Same.kt s7).trans kt));refine ⟨_,_,_,_,AF++[tp],rows++[ts],rfl,aI (s5.trans s7) DJ,?_,?_,?_,?_⟩
     · rw [ae,UC];rfl
     · exact P2.append (P2.mp (fun _ _ e=>RowAt.mono Sy e) AK) (.cons ⟨bs,kt _ _ e7,CO.mono ((Same.kt s7).trans kt)⟩ .nil)
     · rw [Uu,EU];rfl
     · intro row Ad;rcases UP.mp Ad with Ad | Ad
       · exact Am row Ad
       · rw [UW.mp Ad];exact ⟨by rw [BE];omega,Eh⟩
 · rintro σ H3 ⟨sv,rv,kv,cv,AF,rows,rfl,s3,Kz,AK,EU,Am⟩;have Jo:rows.length=AF.length:=UK AK;obtain ⟨c,hc⟩:∃ c,cs[0]?=some c:=⟨_,Uh (by omega)⟩;have Jr:atI (cs.map V.int) 0=some (.int c):=at_nonneg (by decide) (by rw [Ut];show (cs[0]?).map V.int=_;rw [hc];rfl);refine ⟨_,rfl,ca,_,0,.int c,rfl,rfl,SqL.of (s3 _ _ ec),Jr,_,rfl,_,rfl,_,rfl,c,oa,Ak,outs,S,1,3,rfl,s3 _ _ eo,Dh.mono (Same.kt s3),go,S0,by omega,by decide,by decide,by decide,by decide,fun t ha H6 s6 AI Al Av=>?_⟩;dsimp only [av];have Pb:L2.Same H4 H6:=s3.trans s6;refine aP (fun f' H7=>Ex2 fun (t:Th) (ha:Ul)=>An5 (L2.Same H6 H7) (At H7 t ha) (t.FitS outs S 1) (t.tall<=4) (f'=[some (.ref a),some (.int 4),some (.int 3),some (.ref ia),some (.ref oa),some (.int S),some (.ref ca),some (.bl dg),some (.ref rl),sv,rv,kv,cv,some (.ref ha)])) (fun kk hk=>?_) ?_
   · refine b8 (fun b H'=>H6=H') (fun k2 Br=>?_) (fun H' hb=>?_) (fun H' hb=>?_)
     · exact ⟨_,rfl,_,rfl,Br _ _ rfl⟩
     · subst hb;refine ⟨_,rfl,ca,_,0,.int c,rfl,rfl,SqL.of (Pb _ _ ec),Jr,aj (by show 1<=1000000;decide),fun ol Et=>?_⟩;have s7:L2.Same H6 (upd H6 ol (.lst [.int c])):=ag Et _;have e7:(upd H6 ol (.lst [.int c])) ol=some (.lst [.int c]):=ae;dsimp only;generalize (upd H6 ol (.lst [.int c]))=H7 at s7 e7 ⊢;have DO:=Pb.trans s7;exact ⟨_,rfl,_,rfl,_,rfl,ol,c,oa,Ak,outs,S,1,3,rfl,e7,DO _ _ eo,Dh.mono (Same.kt DO),go,S0,by omega,by decide,by decide,by decide,by decide,fun t r x' H8 s8 _ AI Al Av=>hk _ _ ⟨t,r,SameB.fresh Et s7 s8,AI,Al,Av,rfl⟩⟩
     · subst hb;exact hk _ _ ⟨t,ha,.refl _,AI,Al,Av,rfl⟩
   clear AI Al Av;rintro f' H7 ⟨t,ha,s7,AI,Al,Av,rfl⟩;have Hi:=s7 _ _ (s6 _ _ Kz);refine ⟨_,rfl,_,rfl,_,rfl,_,rfl,rl,_,rfl,.inl ⟨SqL.of Hi,fun ra G1=>?_⟩⟩;have s8:L2.Same H7 (upd H7 ra (.tup (AF.map V.ref))):=ag G1 _;have e8:(upd H7 ra (.tup (AF.map V.ref))) ra=some (.tup (AF.map V.ref)):=ae;generalize (upd H7 ra (.tup (AF.map V.ref)))=H8 at s8 e8 ⊢;refine ⟨aj (by show 4<=1000000;decide),fun r Bv=>?_⟩;have s9:L2.Same H8 (upd H8 r (.tup [.ref ia,.ref oa,.ref ha,.ref ra])):=ag Bv _;have sA:=s6.trans (s7.trans (s8.trans s9));have sB:=s3.trans sA;have Pd:((rows.length:Nat):Int)=S:=by rw [EU];omega
   exact q r ins outs t rows _ (Sx.trans sB) ⟨ia,oa,ha,ra,ias,Ak,AF,ae,sB _ _ ei,Cj.mono (Same.kt sB),sB _ _ eo,Dh.mono (Same.kt sB),AI.mono (Same.kt (s8.trans s9)),s9 _ _ e8,P2.mp (fun _ _ e=>RowAt.mono (Same.kt sA) e) AK⟩ ⟨gI,gO,by omega,by rw [Pd];exact Am,by rw [Pd];exact Al,Av⟩
def g6:Nat->Sp
 | 0=>fun _ _ _ _=>False
 | n+1=>fun vs H Q _=>∃ (a:Ul) (t:Th),vs=[.ref a]/\At H t a/\t.Wr/\t.tall<=n+1/\t.size<=1000/\∀ H',L2.Same H H'->Q (.str (t.fill cn).show) H'
set_option maxHeartbeats 2000000 in
theorem dq:∀ n:Nat,FnOk P w K mg base CX0 n T.g__law_shown.f T.g__law_shown.d ["pattern"] (g6 n)
 | 0=>⟨fun _ _ _ _ h=>h.elim,fun _ _ _ _ _ _ _ _ _ _ _ _ _ h=>h.elim⟩
 | n+1=>by
   have ih:=dq n;refine T.g__law_shown.F.ok nj (fun vs H Q E h=>?_) (fun Ao A outer s H vs Q E hr h=>?_)
   · obtain ⟨a,t,rfl,_⟩:=h;rfl
   obtain ⟨a,t,rfl,hA,hW,BE,AH,q⟩:=h
   refine ⟨_,(af (aN (ax cb (ao ay (pv 0) ad (fun _ _=>rfl)) aw (az _)) (ai (aA (ak aJ (ak aJ (aX fg rfl T.n_str WW (aa (ao ay (pv 0) ad (fun _ _=>rfl)) ac)) aw) (aX fg rfl T.n_str WW (aa (ao ay (pv 0) ad (fun _ _=>rfl)) ac))))) aE)
    (af (aN (ax cb (aq al rfl T.n_len UL (aa (pv 0) ac)) ad (az _)) (ai (aA (ao ay (pv 0) ad (fun _ _=>rfl)))) aE)
    (ai (aA (ak aJ (ak aJ (ak aJ (ao ay (pv 0) ad (fun _ _=>rfl)) aw) (bN Vp Wx Ww fP aw (aa (bP (N:=[Ug "part"]) (js:=[none]) (g:=(av 0)) (tt:=aU) (te:=(nW (g6 _) [] E0 (bx (bK 0) de))) rfl (cC rfl (by decide +kernel) (by decide +kernel) rfl rfl rfl) (cY (bz rQ (pv 0) (bB ad) cj)) (fun _ _ _ _ _ _=>(aB (i:=0) aaV rfl (UI rfl))) (bo rfl) (fun _ _ _ _ _ _=>bQ) (fun _ _ _ _ _ _=>(bc (ih) (hr.mono (Uq _)) rfl T.g__law_shown.m T.g__law_shown.F.kp T.g__law_shown.b .nil lS (aa (pv 0) ac)))) ac))) aw))))),?_⟩
   try dsimp only [AO,Ai]
   have hlen:=pe hW AH;cases t with
   | call sn kn =>
     have Gf:=hA;rw [At] at Gf;rw [Th.Wr] at hW;have l1:=cF hW.1;have l2:=cF hW.2;refine ⟨_,rfl,a,_,0,.str BB.q,rfl,rfl,SqT.of Gf,at0,rfl,_,rfl,?_⟩;refine cg (fun _=>?_) (fun c=>absurd (decide_eq_true rfl) c);refine ⟨_,rfl,a,_,1,_,rfl,rfl,SqT.of Gf,at1,sn,rfl,qQ hW.1,aV sn,dot,rfl,rfl,aj (by show (aV sn).length+1<=1000000;omega),_,rfl,a,_,2,_,rfl,rfl,SqT.of Gf,at2,kn,rfl,qQ hW.2,_,aV kn,rfl,rfl,aj (by rw [UM];show (aV sn).length+1+(aV kn).length<=1000000;omega),?_⟩;have:=q H (.refl _);rw [Th.fill,cn,Th.show,bY] at this;exact this
   | knot m ts =>
     rw [Th.fill,Th.show] at hlen q;have G5:=hW;rw [Th.Wr] at G5;rw [Th.tall] at BE;rw [Th.size] at AH;rw [At] at hA;refine hid fun ZZ kZ=>?_;obtain ⟨Sz,Ac,ea,C5⟩:=hA;refine kZ ?_;have MV:Ac.length=ts.length:=C5.length;have T8:=(cN G5.1).2.1;have DM:=qC ts;refine ⟨_,rfl,a,_,0,.str m,rfl,rfl,SqT.of ea,at0,rfl,_,rfl,?_⟩;refine cg (fun c=>absurd (of_decide_eq_true c) (fun z=>Sz (V.str.inj z))) (fun _=>?_);refine ⟨_,rfl,a,_,rfl,.inr (SqT.of ea),rfl,_,rfl,?_⟩;refine cg (fun c=>?_) (fun c=>?_)
     · have c':=V.int.inj (of_decide_eq_true c);rw [Ui,Ue] at c';have hz:ts=[]:=U9.mp (by omega);subst hz;have:=q H (.refl _);rw [fills,bY] at this;exact ⟨_,rfl,a,_,0,.str m,rfl,rfl,SqT.of ea,at0,this⟩
     · have Au:ts≠[]:=fun z=>by
        subst z;have hz:Ac=[]:=U9.mp (by rw [MV];rfl);subst hz;exact c (decide_eq_true rfl)
       have l1:=uo.1;have l2:=uo.2.1;have l3:=uo.2.2
       have hx:(bY (fills cn ts)).isEmpty=false:=by
        cases ts with
        | nil=>exact absurd rfl Au
        | cons x xs=>rw [fills,bY];rfl
       have EK:qg m (bY (fills cn ts))=m++lpar++VG comma (bY (fills cn ts))++rpar:=by
        unfold qg;rw [hx];rfl
       rw [EK] at hlen q;rw [UM,UM,UM] at hlen;refine ⟨_,rfl,a,_,0,.str m,rfl,rfl,SqT.of ea,at0,m,lpar,rfl,rfl,aj (by omega),rfl,_,rfl,1,rfl,a,_,rfl,SqT.of ea,?_,fun p2 L9=>?_⟩
       · rintro ⟨z,_⟩;rw [Ui,show (1:Int)=((1:Nat):Int) by rfl,HT.sIx_nat] at z;omega
       dsimp only;rw [jc];have s2:L2.Same H (upd H p2 (.tup (Ac.map V.ref))):=ag L9 _;have e2:(upd H p2 (.tup (Ac.map V.ref))) p2=some (.tup (Ac.map V.ref)):=ae;generalize (upd H p2 (.tup (Ac.map V.ref)))=H2 at s2 e2 ⊢;refine ⟨p2,rfl,⟨_,SqT.of e2⟩,dA ts (fun t=>V.str (t.fill cn).show) (SqT.of e2) (by rw [Ue];omega) (by rw [Ue];omega) (fun i x z Hx R W' Ij hz sx hR=>?_) (fun D H3 hD sD eD=>?_)⟩
       · obtain ⟨ua,rfl,LW⟩:=bu Ij;obtain ⟨u,hu,LX⟩:=C5.get LW;rw [hz] at hu;cases hu;have Gm:z∈ts:=Ur hz;have T9:=eB Gm;have Mz:=z.tall_eq;have J7:=lW Gm;cases n with
         | zero=>omega
         | succ n =>
         exact ⟨_,rfl,ua,z,rfl,LX.mono (Same.kt (s2.trans sx)),G5.2.mem z Gm,by omega,by omega,fun H4 s4=>hR H4 s4⟩
       have LZ:∀ us:List Th,(bY (fills cn us)).map V.str=us.map (fun t=>V.str (t.fill cn).show):=by
        intro us;induction us with
        | nil=>rw [fills,bY];rfl
        | cons u us ih=>rw [fills,bY,UB,ih];rfl
       have hs:=l7 (fills cn ts) (rL G5.2);rw [iN] at hs;have hmul:(8+3) * aC ts<=11 * 1000:=WM _ (by omega);refine ⟨comma,D,bY (fills cn ts),rfl,rfl,SqL.of (by rw [LZ];exact eD),by rw [l1];omega,m++lpar,_,rfl,rfl,aj (by rw [UM];omega),_,rpar,rfl,rfl,aj (by rw [UM,UM];omega),?_⟩;exact q _ (s2.trans sD)
def cU (k:UA×Int):Prop:=aS k.1=true/\0<=k.2/\k.2<1000
theorem rA {k:UA×Int} (h:cU k):(cm k).length<=12:=by
 have h1:=(cN h.1).2.1;have h2:=cF h.2;unfold cm;rw [UM,UM];show k.1.length+1+(aV k.2).length<=12;omega
theorem kM {w:UA} {ks:List (UA×Int)} (g:∀ k∈ks,cU k) (hw:w.length<=10) (hl:ks.length<=9):(aT w ks).length<=1000:=by
 have all:∀ x∈w::ks.map cm,x.length<=20:=fun x hx=>by
  rcases UH.mp hx with rfl | hx
  · omega
  · obtain ⟨k,hk,rfl⟩:=Vq.mp hx;have:=rA (g k hk);omega
 have h2:=vt all
 have h3:(VG blank (w::ks.map cm)).length<=((w::ks.map cm).map (·.length)).sum+(w::ks.map cm).length * blank.length:=by
  have e:VG blank (w::ks.map cm)=X3 blank (w::ks.map cm):=XN _ _;rw [e];exact StrLaws.join_length_le _ _
 have h4:(w::ks.map cm).length=ks.length+1:=by rw [Ui,Ue]
 have h5:blank.length=1:=by decide +kernel
 unfold aT;rw [h4] at h2 h3;rw [h5] at h3;omega
structure sq (ins outs:List (UA×Int)) (head:Th) (rows:List (List Th)):Prop where
 gi:∀ k∈ins,cU k
 go:∀ k∈outs,cU k
 i8:ins.length<=9
 o8:outs.length<=9
 few:rows.length<=20
 row:∀ row∈rows,row.length=ins.length/\∀ t∈row,t.Wr/\t.tall<=21/\t.size<=1000
 hd:head.Wr/\head.tall<=21/\head.size<=1000
theorem mq {ins outs:List (UA×Int)} {head:Th} {rows:List (List Th)} (ok:sq ins outs head rows):∀ i,i<=rows.length->(cz ins rows i).length<=9 * i
 | 0,_=>by rw [eS];exact Vh _
 | i+1,hi=>by
   obtain ⟨row,Ad⟩:∃ row,rows[i]?=some row:=⟨_,Uh (by omega)⟩;have h1:=mq ok i (by omega);have h6:=ok.i8;rw [eL Ad,Uu]
   have:(gw ins ((i:Nat):Int) row).length<=9:=by
    unfold gw;rw [Ue,X8];omega
   omega
theorem set_same {α:Type} {l:List α} {i:Nat} {x:α} (h:l[i]?=some x):l.set i x=l:=by
 obtain ⟨h1,rfl⟩:=Uz.mp h;exact List.set_getElem_self h1
def rD (ins outs:List (UA×Int)) (head:Th):Nat->List UA
 | 0=>[Ug "in",Ug "out",eM head]
 | 1=>[aT (Ug "in") ins,Ug "out",eM head]
 | _=>[aT (Ug "in") ins,aT (Ug "out") outs,eM head]
inductive g9 (vs:List V) (H:Hp) (Q:VK) (_E:XK):Prop
 | mk (b:Ul) (ins outs:List (UA×Int)) (head:Th) (rows:List (List Th)) (Aw:vs=[.ref b]) (Ax:Bk H ins outs head rows b) (AE:sq ins outs head rows) (AQ:∀ (r:Ul) (H':Hp),L2.Same H H'->H r=none->H' r=some (.lst ((cy ins outs head rows).map V.str))->Q (.ref r) H'):g9  vs H Q _E
def oM:Sp:=g9
set_option maxHeartbeats 4000000 in
theorem jh:FnOk P w K mg base CX0 24 T.g__law_rows.f T.g__law_rows.d ["book"] oM:=by
 refine T.g__law_rows.F.ok bV (fun vs H Q E h=>?_) (fun Ao A outer s H vs Q E hr h=>?_)
 · obtain ⟨b,ins,outs,head,rows,rfl,_⟩:=h;rfl
 obtain ⟨b,ins,outs,head,rows,rfl,hb,ok,q⟩:=h
 refine ⟨_,(af (ar (i:=1) bV.nd rfl (UI rfl) (bg (aa aw (aa aw (aa (ak aJ aw (pcF T.g__law_shown (dq T 21) hr (aa (ao ay (pv 0) ad (fun _ _=>rfl)) ac))) ac)))))
  (af (b9 Vy rfl (bD rfl T.n_range (aa ad ac)) (aB (i:=2) bV.nd rfl (UI rfl)) (ai (b9 Vy rfl (cY (ao ay (pv 0) (pv 2) (fun _ _=>rfl))) (aB (i:=3) bV.nd rfl (UI rfl)) (ai (d7 (ak aJ (ak aJ (ak aJ (ak aJ (ao aG (pv 1) (pv 2) (fun _ _=>rfl)) aw) (ao ay (pv 3) ad (fun _ _=>rfl))) aw) (aX fg rfl T.n_str WW (aa (ao ay (pv 3) ad (fun _ _=>rfl)) ac))) (gg (pv 1) (pv 2) set_list))))))
  (af (b9 Vy rfl (bD rfl T.n_range (aa (aq al rfl T.n_len UL (aa (ao ay (pv 0) ad (fun _ _=>rfl)) ac)) ac)) (aB (i:=4) bV.nd rfl (UI rfl)) (ai (b9 Vy rfl (bD rfl T.n_range (aa (aq al rfl T.n_len UL (aa (ao ay (pv 0) ad (fun _ _=>rfl)) ac)) ac)) (aB (i:=5) bV.nd rfl (UI rfl)) (af (ar (i:=6) bV.nd rfl (UI rfl) (ao ay (ao ay (ao ay (pv 0) ad (fun _ _=>rfl)) (pv 5) (fun _ _=>rfl)) ad (fun _ _=>rfl)))
  (af (ar (i:=7) bV.nd rfl (UI rfl) (pcF T.g__law_shown (dq T 21) hr (aa (ao ay (ao ay (ao ay (pv 0) ad (fun _ _=>rfl)) (pv 4) (fun _ _=>rfl)) (pv 5) (fun _ _=>rfl)) ac)))
  (ai (ba (bN UR Vc Vb bf (pv 1) (aa (ak aJ (ak aJ (ak aJ (ak aJ (ak aJ aw (aX fg rfl T.n_str WW (aa (pv 4) ac))) aw) (pv 6)) aw) (pv 7)) ac)))))))))
  (ai (aA (pv 1)))))),?_⟩
 try dsimp only [AO,Ai]
 refine hid fun ZZ kZ=>?_;obtain ⟨ia,oa,ha,ra,ias,Ak,AF,bk⟩:=hb;refine kZ ?_;have Ir:=pe ok.hd.1 ok.hd.2.2;refine ⟨_,rfl,b,_,2,.ref ha,rfl,rfl,SqT.of bk.bk,at2,ha,head,rfl,bk.hd,ok.hd.1,ok.hd.2.1,ok.hd.2.2,fun H1 s1=>⟨_,_,rfl,rfl,aj (by show 5+(head.fill cn).show.length<=1000000;omega),aj (by show 3<=1000000;decide),fun rl B7=>?_⟩⟩;have s2:L2.Same H1 (upd H1 rl (.lst [.str (Ug "in"),.str (Ug "out"),.str (Ug "head "++(head.fill cn).show)])):=ag B7 _;have e2:(upd H1 rl (.lst [.str (Ug "in"),.str (Ug "out"),.str (Ug "head "++(head.fill cn).show)])) rl=some (.lst ((rD ins outs head 0).map V.str)):=ae;have DJ:H rl=none:=s1.free B7;generalize (upd H1 rl (.lst [.str (Ug "in"),.str (Ug "out"),.str (Ug "head "++(head.fill cn).show)]))=H2 at s2 e2 ⊢;have C6:=s1.trans s2;dsimp only [av];have J1:=ok.i8;have OB:=ok.few;have OV:ins.length=ias.length:=UK bk.inK;have Kv:rows.length=AF.length:=UK bk.rw;refine ⟨2,rfl,by decide,by decide,?_⟩
 refine bT (n:=(2:Int).toNat) (fun i σ H3=>Ex2 fun c2 c3=>An3 (σ=[some (.ref b),some (.ref rl),c2,c3,none,none,none,none]) (L2.Same H H3) (H3 rl=some (.lst ((rD ins outs head i).map V.str))))
  ⟨none,none,rfl,C6,e2⟩ ?_ ?_
 · rintro i σ H3 hi ⟨c2,c3,rfl,s3,e3⟩;have MJ:i<2:=hi;refine hid fun ZZ kZ=>?_
   obtain ⟨w,ks,ka,Ah,J4,hw,Pe,Pf,g,CS,Fz,hlen⟩:∃ (w:UA) (ks:List (UA×Int)) (ka:Ul) (Ah:List Ul),atI [V.ref ia,.ref oa,.ref ha,.ref ra] (0+(i:Int))=some (.ref ka)/\w.length<=10/\H ka=some (.tup (Ah.map V.ref))/\KsAt H ks Ah/\((∀ k∈ks,cU k)/\ks.length<=9)/\(rD ins outs head i)[i]?=some w/\rD ins outs head (i+1)=(rD ins outs head i).set i (aT w ks)/\(rD ins outs head i).length=3:=by
    match i,MJ with
    | 0,_=>exact ⟨Ug "in",ins,ia,ias,at_nonneg (by decide) rfl,by decide +kernel,bk.inE,bk.inK,⟨ok.gi,ok.i8⟩,rfl,rfl,rfl⟩
    | 1,_=>exact ⟨Ug "out",outs,oa,Ak,at_nonneg (by decide) rfl,by decide +kernel,bk.outE,bk.outK,⟨ok.go,ok.o8⟩,rfl,rfl,rfl⟩
   refine kZ ?_;generalize rD ins outs head i=pre at e3 CS Fz hlen;have A8:ks.length=Ah.length:=UK Pf;have MK:=g.2;refine ⟨_,rfl,_,rfl,b,_,_,.ref ka,rfl,rfl,SqT.of (s3 _ _ bk.bk),J4,ka,rfl,⟨_,SqT.of (s3 _ _ Pe)⟩,?_⟩
   refine oI (K:=K) (a:=ka) (xs:=Ah.map V.ref) (fun j σ H4=>Ex1 fun c3=>An3 (σ=[some (.ref b),some (.ref rl),some (.int (0+(i:Int))),c3,none,none,none,none]) (L2.Same H H4) (H4 rl=some (.lst ((pre.set i (aT w (ks.take j))).map V.str))))
    ⟨c3,rfl,s3,by rw [WC,rf,e3];congr 3;exact (set_same CS).symm⟩ (fun j σ H4 _ ⟨_,_,s4,_⟩=>SqT.of (s4 _ _ Pe)) ?_ ?_
   · rintro j x σ H4 hx ⟨c3,rfl,s4,e4⟩;obtain ⟨Cm,rfl,AZ⟩:=bu hx;obtain ⟨k,hk,ek⟩:=P2.get' Pf AZ;have Dp:=Ur hk;have h1:=(cN (g.1 k Dp).1).2.1;have h2:=(g.1 k Dp).2;have h3:=cF h2;have h4:=kM (w:=w) (ks:=ks.take j) (fun k hk=>g.1 k (V6 hk)) hw (by rw [U3];omega);have Pg:=s4 _ _ ek
     have Ce:(pre.set i (aT w (ks.take j)))[i]?=some (aT w (ks.take j)):=by
      rw [VZ (by omega)]
     refine ⟨_,rfl,_,rfl,rl,_,_,.str (aT w (ks.take j)),rfl,rfl,SqL.of e4,at_nonneg (by omega) (by rw [show (0+(i:Int)).toNat=i by omega,Ut,Ce];rfl),_,blank,rfl,rfl,aj (by show (aT w (ks.take j)).length+1<=1000000;omega),?_⟩;refine ⟨_,rfl,Cm,_,0,.str k.1,rfl,rfl,SqT.of Pg,at0,_,_,rfl,rfl,aj (by rw [UM];show (aT w (ks.take j)).length+1+k.1.length<=1000000;omega),_,tI,rfl,rfl,aj (by rw [UM,UM];show (aT w (ks.take j)).length+1+k.1.length+1<=1000000;omega),?_⟩;refine ⟨_,rfl,Cm,_,1,.int k.2,rfl,rfl,SqT.of Pg,at1,k.2,rfl,qQ h2,_,aV k.2,rfl,rfl,aj (by rw [UM,UM,UM];show (aT w (ks.take j)).length+1+k.1.length+1+(aV k.2).length<=1000000;omega),?_⟩;rw [<- pQ,<- take_snoc hk];refine ⟨_,rfl,_,rfl,rl,_,_,i,rfl,rfl,e4,?_,?_⟩
     · unfold ixN;rw [if_pos (by omega),if_pos (by rw [Ue,W6];omega)];simp
     · refine ⟨_,rfl,aI s4 DJ,?_⟩;rw [ae,<- Y6,List.set_set]
   · rintro σ H4 ⟨c3,rfl,s4,e4⟩;rw [U8 (by rw [Ue];omega),<- Fz] at e4;exact ⟨_,_,rfl,s4,e4⟩
 rintro σ H3 ⟨c2,c3,rfl,s3,e3⟩
 have e3:H3 rl=some (.lst (([aT (Ug "in") ins,aT (Ug "out") outs,eM head]++cz ins rows 0).map V.str)):=by
  rw [eS,UY];exact e3
 refine ⟨_,rfl,b,_,3,.ref ra,rfl,rfl,SqT.of (s3 _ _ bk.bk),at3,ra,_,rfl,.inr (SqT.of (s3 _ _ bk.rl)),_,rfl,by omega,by rw [Ue];omega,?_⟩
 refine bT (n:=((AF.map V.ref).length:Int).toNat) (fun i σ H5=>Ex4 fun c4 c5 c6 c7=>An3 (σ=[some (.ref b),some (.ref rl),c2,c3,c4,c5,c6,c7]) (L2.Same H H5) (H5 rl=some (.lst (([aT (Ug "in") ins,aT (Ug "out") outs,eM head]++cz ins rows i).map V.str))))
  ⟨none,none,none,none,rfl,s3,e3⟩ ?_ ?_
 · rintro i σ H5 hi ⟨c4,c5,c6,c7,rfl,s5,e5⟩
   have G':i<rows.length:=by
    have:i<((AF.map V.ref).length:Int).toNat:=hi;rw [Ue] at this;omega
   refine hid fun ZZ kZ=>?_;obtain ⟨row,Ad⟩:∃ row,rows[i]?=some row:=⟨_,Uh G'⟩;obtain ⟨C8,Ei,Ac,Gn,BU⟩:=P2.get bk.rw Ad;have G2:=Ur Ad;obtain ⟨BV,Ej⟩:=ok.row row G2;refine kZ ?_;have BE:=BU.length
   have SA:(gw ins ((i:Nat):Int) row).length=ins.length:=by
    unfold gw;rw [Ue,X8];omega
   have r1:=mq ok i (by omega);have Gp:atI (AF.map V.ref) (0+(i:Int))=some (.ref C8):=at_nonneg (by omega) (by rw [show (0+(i:Int)).toNat=i by omega,Ut,Ei];rfl);refine ⟨_,rfl,b,_,0,.ref ia,rfl,rfl,SqT.of (s5 _ _ bk.bk),at0,ia,_,rfl,.inr (SqT.of (s5 _ _ bk.inE)),_,rfl,by omega,by rw [Ue];omega,?_⟩
   refine bT (n:=((ias.map V.ref).length:Int).toNat) (fun j σ H7=>Ex3 fun c5 c6 c7=>An3 (σ=[some (.ref b),some (.ref rl),c2,c3,some (.int (0+(i:Int))),c5,c6,c7]) (L2.Same H H7) (H7 rl=some (.lst (([aT (Ug "in") ins,aT (Ug "out") outs,eM head]++cz ins rows i++(gw ins ((i:Nat):Int) row).take j).map V.str))))
    ⟨c5,c6,c7,rfl,s5,by rw [WC,UY];exact e5⟩ ?_ ?_
   · rintro j σ H7 hj ⟨c5,c6,c7,rfl,s7,e7⟩
     have Hh:j<ins.length:=by
      have:j<((ias.map V.ref).length:Int).toNat:=hj;rw [Ue] at this;omega
     refine hid fun ZZ kZ=>?_;obtain ⟨k,hk⟩:∃ k,ins[j]?=some k:=⟨_,Uh Hh⟩;obtain ⟨ka,AZ,ek⟩:=P2.get bk.inK hk;obtain ⟨t,ht⟩:∃ t,row[j]?=some t:=⟨_,Uh (by omega)⟩;obtain ⟨ta,C5⟩:∃ ta,Ac[j]?=some ta:=⟨_,Uh (by omega)⟩;obtain ⟨t',CG,AI⟩:=BU.get C5;refine kZ ?_;rw [ht] at CG;cases CG;have Al:=Ej t (Ur ht);have Dp:=Ur hk;have SD:=(cN (ok.gi k Dp).1).2.1;have Gq:atI (ias.map V.ref) (0+(j:Int))=some (.ref ka):=at_nonneg (by omega) (by rw [show (0+(j:Int)).toNat=j by omega,Ut,AZ];rfl);have Gr:atI (Ac.map V.ref) (0+(j:Int))=some (.ref ta):=at_nonneg (by omega) (by rw [show (0+(j:Int)).toNat=j by omega,Ut,C5];rfl);refine ⟨_,rfl,b,_,0,.ref ia,rfl,rfl,SqT.of (s7 _ _ bk.bk),at0,_,rfl,ia,_,_,.ref ka,rfl,rfl,SqT.of (s7 _ _ bk.inE),Gq,ka,_,0,.str k.1,rfl,rfl,SqT.of (s7 _ _ ek),at0,?_⟩;refine ⟨_,rfl,b,_,3,.ref ra,rfl,rfl,SqT.of (s7 _ _ bk.bk),at3,_,rfl,ra,_,_,.ref C8,rfl,rfl,SqT.of (s7 _ _ bk.rl),Gp,_,rfl,C8,_,_,.ref ta,rfl,rfl,SqT.of (s7 _ _ Gn),Gr,ta,t,rfl,AI.mono (Same.kt s7),Al.1,Al.2.1,Al.2.2,fun H8 s8=>?_⟩;dsimp only [av];have e0:(0+(i:Int))=((i:Nat):Int):=ZY _;have l1:=pe Al.1 Al.2.2;have l2:=cF (n:=((i:Nat):Int)) ⟨by omega,by omega⟩;have e8:=s8 _ _ e7;refine ⟨_,rfl,.inl ⟨rfl,_,SqL.of e8⟩,_,rfl,_,rfl,by rw [e0];exact qQ ⟨by omega,by omega⟩,_,_,rfl,rfl,aj (by rw [e0];show 5+(aV (i:Nat)).length<=1000000;omega),?_⟩;rw [e0];refine ⟨_,blank,rfl,rfl,aj (by rw [UM];show 5+(aV (i:Nat)).length+1<=1000000;omega),_,rfl,_,k.1,rfl,rfl,aj (by rw [UM,UM];show 5+(aV (i:Nat)).length+1+k.1.length<=1000000;omega),_,blank,rfl,rfl,aj (by rw [UM,UM,UM];show 5+(aV (i:Nat)).length+1+k.1.length+1<=1000000;omega),?_⟩;refine ⟨_,rfl,_,(t.fill cn).show,rfl,rfl,aj (by rw [UM,UM,UM,UM];show 5+(aV (i:Nat)).length+1+k.1.length+1+(t.fill cn).show.length<=1000000;omega),?_⟩;refine ⟨rl,_,_,rfl,rfl,e8,bj (by rw [Ue,Uu,Uu,U3];show 3+_+_<=1000000;omega),?_⟩;refine ⟨_,_,_,rfl,aI (s7.trans s8) DJ,?_⟩
     have hz:(gw ins ((i:Nat):Int) row)[j]?=some (d9 ((i:Nat):Int) k.1 t):=by
      unfold gw;rw [Ut,WZ.mpr (show ins[j]?=some (k,t).1/\row[j]?=some (k,t).2 from ⟨hk,ht⟩)];rfl
     rw [ae,take_snoc hz,<- U2,UC (l₂:=[d9 ((i:Nat):Int) k.1 t])];rfl
   · rintro σ H7 ⟨c5,c6,c7,rfl,s7,e7⟩;refine ⟨_,_,_,_,rfl,s7,?_⟩;rw [U8 (by rw [Ue];omega)] at e7;rw [eL Ad,<- U2];exact e7
 · rintro σ H5 ⟨c4,c5,c6,c7,rfl,s5,e5⟩;refine ⟨_,rfl,q rl H5 s5 DJ ?_⟩;have:((AF.map V.ref).length:Int).toNat=rows.length:=by rw [Ue];omega
   rw [this] at e5;exact e5
theorem l9 (ins:List (UA×Int)) (rows:List (List Th)):cz ins rows rows.length=io d9 ins rows:=by
 unfold cz io gw;rw [U8 (by rw [List.length_zipIdx];exact Uq _)]
theorem kS:Uw (Ug "in")/\Uw (Ug "out")/\Uw (Ug "head")/\Uw (Ug "rule"):=by
 refine ⟨.inr ?_,.inr ?_,.inr ?_,.inr ?_⟩ <;> decide +kernel
theorem tV {k:UA×Int} (h:cU k):Uw (cm k):=by
 obtain ⟨h1,h2⟩:=dZ h.1;obtain ⟨h3,h4⟩:=dt h.2;refine .inr ⟨fun c hc=>?_,by rw [dB];simp⟩;rw [dB] at hc;rcases UP.mp hc with hc | hc
 · have:=h1 c hc;omega
 · rcases UH.mp hc with rfl | hc
   · omega
   · have:=h3 c hc;omega
theorem pE {ws:List UA}:(ws.map sL).map ofL=ws:=by
 rw [We]
 conv=>rhs;rw [<- List.map_id ws]
 exact Xj fun x _=>iM x
theorem wo {α:Type} (l:List α):(l.map fun x=>[x]).flatten=l:=by
 induction l with
 | nil=>rfl
 | cons x l ih=>rw [UB,U4,ih];rfl
theorem yp {ws:List UA} (h:∀ w∈ws,Uw w):wds (jn (ws.map sL))=ws.map sL:=by
 rw [wt,We]
 have:ws.map (wds ∘ sL)=(ws.map sL).map fun x=>[x]:=by
  rw [We];exact Xj fun x hx=>tf (h x hx)
 rw [this,wo]
theorem aaa {ws:List UA} (h:∀ w∈ws,Uw w):bL (jn (ws.map sL))=ws:=by
 unfold bL;rw [yp h,pE]
theorem tN (t:Th):sL (eM t)=sL (Ug "head")++32::t.tx:=by
 unfold eM;rw [eH,tZ,show sL (Ug "head ")=sL (Ug "head")++[32] by decide +kernel,U2];rfl
theorem tD (st:Int) (n:UA) (t:Th):sL (d9 st n t)=sL (Ug "rule")++32::(sL (aV st)++32::(sL n++32::t.tx)):=by
 unfold d9;rw [eH,eH,eH,eH,eH,tZ,show sL (Ug "rule ")=sL (Ug "rule")++[32] by decide +kernel,show sL blank=[32] by decide +kernel];simp
theorem jB {n:UA} (h:okW n) (h8:n.length<=8):aS n=true:=by
 have h0:=h.2;unfold aS low;rw [decide_eq_true (show 1<=n.length/\n.length<=8 from ⟨by omega,h8⟩),Xz,Vo];exact fun c hc=>decide_eq_true (h.1 c hc)
mutual
theorem nF {outs:List (UA×Int)} {S C:Int} (g:GK outs) (hS:S<=10) (hC:C<=10):∀ {t:Th},t.FitS outs S C->t.Rd
 | .call s k,h=>by rw [Th.FitS] at h;rw [Th.Rd];exact ⟨h.1,by omega,h.2.2.1,by omega⟩
 | .knot n ts,h=>by
   rw [Th.FitS] at h;rw [Th.Rd];exact ⟨g.2.1 _ h.1,(g.1.low _ h.1).2,vW g hS hC h.2⟩
theorem vW {outs:List (UA×Int)} {S C:Int} (g:GK outs) (hS:S<=10) (hC:C<=10):∀ {ts:List Th},FitSs outs S C ts->Rds ts
 | [],_=>by rw [Rds];trivial
 | t::ts,h=>by
   rw [FitSs] at h;rw [Rds];exact ⟨nF g hS hC h.1,vW g hS hC h.2⟩
end
mutual
theorem t7 {outs:List (UA×Int)} {S C:Int} (hS:S<=20) (hC:C<=3):∀ {t:Th},t.FitS outs S C->t.FitP outs
 | .call s k,h=>by rw [Th.FitS] at h;rw [Th.FitP];exact ⟨h.1,by omega,h.2.2.1,by omega⟩
 | .knot n ts,h=>by
   rw [Th.FitS] at h;rw [Th.FitP];exact ⟨h.1,qG hS hC h.2⟩
theorem qG {outs:List (UA×Int)} {S C:Int} (hS:S<=20) (hC:C<=3):∀ {ts:List Th},FitSs outs S C ts->ml outs ts
 | [],_=>by rw [ml];trivial
 | t::ts,h=>by
   rw [FitSs] at h;rw [ml];exact ⟨t7 hS hC h.1,qG hS hC h.2⟩
end
mutual
theorem cn3 {outs:List (UA×Int)} {S C:Int} (g:fU outs):∀ {t:Th},t.FitS outs S C->cnT t<=3 ^ t.tall/\t.kn<=t.size
 | .call s k,_=>by rw [cnT,Th.tall,Th.kn,Th.size];exact ⟨by decide,by omega⟩
 | .knot n ts,h=>by
   rw [Th.FitS] at h;obtain ⟨h1,h2⟩:=aab g h.2;have hn:=(g.num _ h.1).2;rw [cnT,Th.tall,Th.kn,Th.size];refine ⟨?_,by omega⟩;have h3:ts.length * 3 ^ aL ts<=3 * 3 ^ aL ts:=XH _ (by omega);rw [Nat.pow_succ,XO];omega
theorem aab {outs:List (UA×Int)} {S C:Int} (g:fU outs):∀ {ts:List Th},FitSs outs S C ts->eE ts<=ts.length * 3 ^ aL ts/\kns ts<=aC ts
 | [],_=>by rw [eE,kns];exact ⟨Vh _,Vh _⟩
 | t::ts,h=>by
   rw [FitSs] at h;obtain ⟨h1,h2⟩:=cn3 g h.1;obtain ⟨h3,h4⟩:=aab g h.2;rw [eE,kns,aC,aL,Ui,WA];have h5:3 ^ t.tall<=3 ^ (max t.tall (aL ts)):=VY (by decide) (Nat.le_max_left ..);have h6:3 ^ aL ts<=3 ^ (max t.tall (aL ts)):=VY (by decide) (Nat.le_max_right ..);have h7:ts.length * 3 ^ aL ts<=ts.length * 3 ^ (max t.tall (aL ts)):=WM _ h6;exact ⟨by omega,by omega⟩
end
theorem pW {outs:List (UA×Int)} {S C:Int} (g:GK outs) (hS:S<=20) (hC:C<=3) {t:Th} (h:t.FitS outs S C) (ht:t.tall<=4):mO outs S C t/\t.size<=256:=by
 obtain ⟨h1,h2⟩:=cn3 g.1 h;have h3:=mz g.1 (t7 hS hC h);have h4:4 ^ t.tall<=4 ^ 4:=VY (by decide) ht;have h5:3 ^ t.tall<=3 ^ 4:=VY (by decide) ht;have h6:(4:Nat) ^ 4=256:=by decide
 have h7:(3:Nat) ^ 4=81:=by decide
 exact ⟨⟨⟨by omega,by omega,by omega⟩,pT g.2.2 h⟩,by omega⟩
theorem mP {ks:List (UA×Int)} (g:GK ks):aD ks=true/\∀ k∈ks,cU k:=by
 have hk:∀ k∈ks,aS k.1=true/\0<=k.2/\k.2<=3:=fun k hk=>⟨jB (g.2.1 k hk) (g.1.low k hk).2,(g.1.num k hk).1,(g.1.num k hk).2⟩;refine ⟨?_,fun k h=>⟨(hk k h).1,(hk k h).2.1,by have:=(hk k h).2.2;omega⟩⟩;unfold aD;have h1:=g.1.ne;have h2:=g.1.le;obtain ⟨k0,Bw,hz⟩:=g.1.zero;rw [decide_eq_true (show 1<=ks.length/\ks.length<=8 from ⟨h1,by omega⟩),decide_eq_true g.2.2,decide_eq_true (Vq.mpr ⟨k0,Bw,hz⟩),Xz,Bool.and_true,Bool.and_true,Vo];intro k Dp;unfold ci;rw [(hk k Dp).1,decide_eq_true (show 0<=k.2/\k.2<4 from ⟨(hk k Dp).2.1,by have:=(hk k Dp).2.2;omega⟩)];rfl
theorem xw {ins outs:List (UA×Int)} {head:Th} {rows:List (List Th)} (B:wQ ins outs head rows):cX ins outs head rows:=by
 have hf:=B.few;refine ⟨by omega,(pW B.go (by omega) (by decide) B.hd.1 B.hd.2).1,fun row Ad=>?_⟩;obtain ⟨h1,h2⟩:=B.row row Ad;refine ⟨h1,fun j t k ht hk=>?_⟩;have h3:=h2 j t k ht hk;exact (pW B.go (by omega) (B.gi.1.num k (Ur hk)).2 h3.1 h3.2).1
mutual
theorem n0:∀ {t:Th},t.Rd->t.Wr
 | .call s k,h=>by rw [Th.Rd] at h;rw [Th.Wr];exact ⟨⟨h.1,by omega⟩,h.2.2.1,by omega⟩
 | .knot n ts,h=>by rw [Th.Rd] at h;rw [Th.Wr];exact ⟨jB h.1 h.2.1,uZ h.2.2⟩
theorem uZ:∀ {ts:List Th},Rds ts->Wrs ts
 | [],_=>by rw [Wrs];trivial
 | t::ts,h=>by rw [Rds] at h;rw [Wrs];exact ⟨n0 h.1,uZ h.2⟩
end
mutual
theorem sz3 {outs:List (UA×Int)} {S C:Int} (g:fU outs):∀ {t:Th},t.FitS outs S C->2 * t.size+1<=3 ^ (t.tall+1)
 | .call s k,_=>by
   have:3 ^ 1<=3 ^ ((Th.call s k).tall+1):=VY (by decide) (by omega);rw [Th.size];omega
 | .knot n ts,h=>by
   rw [Th.FitS] at h;have h2:=zI g h.2;have hn:=(g.num _ h.1).2;have En:ts.length<=3:=by omega
   rw [Th.tall,Th.size,Nat.pow_succ];have hp:0<3 ^ (aL ts+1):=Nat.pow_pos (by decide);generalize 3 ^ (aL ts+1)=M at h2 hp ⊢;generalize aC ts=z at h2 ⊢;generalize ts.length=l at h2 En;rcases (by omega:l=0∨l=1∨l=2∨l=3) with rfl | rfl | rfl | rfl <;> omega
theorem zI {outs:List (UA×Int)} {S C:Int} (g:fU outs):∀ {ts:List Th},FitSs outs S C ts->2 * aC ts+ts.length<=ts.length * 3 ^ (aL ts+1)
 | [],_=>by rw [aC];exact Vh _
 | t::ts,h=>by
   rw [FitSs] at h;have h1:=sz3 g h.1;have h3:=zI g h.2;rw [aC,aL,Ui];have h5:3 ^ (t.tall+1)<=3 ^ (max t.tall (aL ts)+1):=VY (by decide) (by have:=Nat.le_max_left t.tall (aL ts);omega);have h6:3 ^ (aL ts+1)<=3 ^ (max t.tall (aL ts)+1):=VY (by decide) (by have:=Nat.le_max_right t.tall (aL ts);omega);have h7:ts.length * 3 ^ (aL ts+1)<=ts.length * 3 ^ (max t.tall (aL ts)+1):=WM _ h6;have h8:=WA ts.length (3 ^ (max t.tall (aL ts)+1));have h9:Nat.succ ts.length * 3 ^ (max t.tall (aL ts)+1)=(ts.length+1) * 3 ^ (max t.tall (aL ts)+1):=rfl;rw [h9] at h8;generalize 3 ^ (max t.tall (aL ts)+1)=M at *;generalize 3 ^ (t.tall+1)=X at *;omega
end
theorem i7 {outs:List (UA×Int)} {S C:Int} (g:fU outs) {t:Th} (h:t.FitS outs S C) (ht:t.tall<=4):t.size<=121:=by
 have h1:=sz3 g h;have h2:3 ^ (t.tall+1)<=3 ^ 5:=VY (by decide) (by omega);have h3:(3:Nat) ^ 5=243:=by decide
 omega
structure Dr (ins outs:List (UA×Int)) (head:Th) (rows:List (List Th)):Prop where
 gi:∀ k∈ins,cU k
 go:∀ k∈outs,cU k
 ine:ins≠[]
 one:outs≠[]
 i8:ins.length<=8
 o8:outs.length<=8
 ki:aD ins=true
 ko:aD outs=true
 ok:cX ins outs head rows
 few:rows.length<=4
 hd:head.Rd/\head.tall<=4/\head.size<=121
 row:∀ row∈rows,row.length=ins.length/\∀ t∈row,t.Rd/\t.tall<=4/\t.size<=121
theorem zS {ins outs:List (UA×Int)} {head:Th} {rows:List (List Th)} (B:wQ ins outs head rows):Dr ins outs head rows:=by
 have hf:=B.few;obtain ⟨a1,a2⟩:=mP B.gi;obtain ⟨b1,b2⟩:=mP B.go;have hle:∀ {ks:List (UA×Int)},GK ks->ks.length<=8/\ks≠[]:=fun {ks} g=>⟨by have:=g.1.le;omega,fun z=>by have:=g.1.ne;rw [z] at this;exact absurd this (by decide)⟩;refine ⟨a2,b2,(hle B.gi).2,(hle B.go).2,(hle B.gi).1,(hle B.go).1,a1,b1,xw B,hf,⟨nF B.go (by omega) (by decide) B.hd.1,B.hd.2,i7 B.go.1 B.hd.1 B.hd.2⟩,fun row hr=>?_⟩;obtain ⟨h1,h2⟩:=B.row row hr;refine ⟨h1,fun t ht=>?_⟩;obtain ⟨j,hj⟩:=Vj.mp ht;have Dk:=(Uz.mp hj).1;obtain ⟨k,hk⟩:∃ k,ins[j]?=some k:=⟨_,Uh (by omega)⟩;have h3:=h2 j t k hj hk;have hn:=(B.gi.1.num k (Ur hk)).2;exact ⟨nF B.go (by omega) (by omega) h3.1,h3.2,i7 B.go.1 h3.1 h3.2⟩
section
variable {ins outs:List (UA×Int)} {head:Th} {rows:List (List Th)}
end
def jL:List (List Nat)->List Nat
 | []=>[]
 | [x]=>x
 | x::y::r=>x++10::jL (y::r)
theorem wq:sL dL=[10]:=by decide +kernel
theorem xM:∀ ws:List UA,sL (VG dL ws)=jL (ws.map sL):=by
 intro ws;have h1:VG dL ws=X3 dL ws:=PySem.StrLaws.glued_eq_join _ _;rw [h1];clear h1;induction ws with
 | nil=>rfl
 | cons x ws ih =>
   rw [join_cons];cases ws with
   | nil=>rw [if_pos rfl];rfl
   | cons y ws =>
     rw [if_neg (by simp),eH,eH,ih,wq,U2];rfl
theorem qx:∀ {ls:List (List Nat)},ls≠[]->(∀ l∈ls,∀ c∈l,c≠10)->aH 10 (jL ls)=ls
 | [],h,_=>absurd rfl h
 | [x],_,h=>by rw [jL,cT 10 x (h x (Uy ..))]
 | x::y::r,_,h=>by
   rw [jL,fE,cT 10 x (h x (Uy ..)),qx (by simp) fun l hl=>h l (Uv _ hl)];rfl
theorem qA {ks:List (UA×Int)} {k:UA×Int} (hk:k∈ks) (h:ci k=false):aD ks=false:=by
 have:ks.all ci=false:=by
  rw [VB];intro z;rw [Vo] at z;rw [z k hk] at h;cases h
 unfold aD;rw [this,Xr,Wo]
theorem lM {ks:List (UA×Int)} (h:(0:Int)∉ks.map (·.2)):aD ks=false:=by
 unfold aD;rw [decide_eq_false h,Wo,Wo,Wo]
theorem pZ {ks:List (UA×Int)} (h:¬ (ks.map (·.1)).Nodup):aD ks=false:=by
 unfold aD;rw [decide_eq_false h,Xr,Wo,Wo]
theorem ou {ks:List (UA×Int)} (h:8<ks.length):aD ks=false:=by
 unfold aD;rw [decide_eq_false (fun z=>by omega),Xr]
theorem rn {n:UA} {m:Int} (h:¬ (0<=m/\m<4)):ci (n,m)=false:=by
 unfold ci;show (_ && decide (0<=m/\m<4))=false;rw [decide_eq_false h,Wo]
theorem sC {n i:Nat} (h:i<n):ixN n ((i:Nat):Int)=some i:=by
 unfold ixN;rw [if_pos (by omega),VL,if_pos (by omega)]
def zj (ks Cs:List (UA×Int)):Prop:=(∀ k∈Cs,cU k)/\(1<=Cs.length/\Cs.length<=9)/\(Cs=ks∨aD Cs=false)
def KbJ (H:Hp) (ka:Ul) (way cell at':Int) (ks:List (UA×Int)) (S:Int->Prop) (f':St) (H':Hp):Prop:=∃ (so:Ul) (CI:List Ul) (Cs:List (UA×Int)),f'=[some (.ref ka),some (.int way),some (.int cell),some (.ref so),some (.int at')]/\L2.Same H H'/\H so=none/\H' so=some (.lst (CI.map V.ref))/\KsAt H' Cs CI/\zj ks Cs/\(¬ S way->Cs=ks)
def rR (k:Nat):UA:=Ug "zzzzzz"++⟨#[(Ug "abcdefghi").cps.getD k 0]⟩
theorem xl:∀ k,k<9->aS (rR k)=true:=by decide +kernel
theorem xh:∀ k,k<9->(Ug "abcdefghi").cps.toList[k]?=some ((Ug "abcdefghi").cps.getD k 0):=by decide +kernel
inductive eC (K:Uj) (vs:List V) (H:Hp) (Q:VK) (_E:XK):Prop
 | mk (ka:Ul) (Ah:List Ul) (ks:List (UA×Int)) (way cell:Int) (Aw:vs=[.ref ka,.int way,.int cell]) (Ax:H ka=some (.tup (Ah.map V.ref))) (AE:KsAt H ks Ah) (AQ:GK ks) (Bx:0<=cell) (B':∀ (r:Ul) (CI:List Ul) (Cs:List (UA×Int)) (H':Hp),L2.Same H H'->H' r=some (.tup (CI.map V.ref))->KsAt H' Cs CI->zj ks Cs->Q (.ref r) H'):eC K vs H Q _E
def i5 (K:Uj):Sp:=eC K
set_option maxHeartbeats 4000000 in
theorem jz:FnOk P w K mg base CX0 2 T.g__law_bad_kinds.f T.g__law_bad_kinds.d ["kinds","way","cell"] (i5 K):=by
 refine T.g__law_bad_kinds.F.ok bU (fun vs H Q E h=>?_) (fun Ao A outer s H vs Q E hr h=>?_)
 · obtain ⟨ka,Ah,ks,way,cell,rfl,_⟩:=h;rfl
 obtain ⟨ka,Ah,ks,way,cell,rfl,ek,AS,g,hc,q⟩:=h
 refine ⟨_,(af (ar (i:=3) bU.nd rfl (UI rfl) (aX i3 rfl T.n_list PyProof.Rows.boot_list (aa (pv 0) ac)))
  (af (ar (i:=4) bU.nd rfl (UI rfl) (ak aK (pv 2) (aq al rfl T.n_len UL (aa (pv 3) ac))))
  (af (aN (PW.pt (jG (ax cb (pv 1) ad (az _)) (gT (ax gx (aq al rfl T.n_len UL (aa (pv 3) ac)) ad (az _))))) (ai (ba (bN UR YN PySem.F.type_list_insert nA (pv 3) (aa (pv 4) (aa (bi (aa (ao ay (ao aG (pv 3) (ak aK (ak aQ (pv 2) ad) (aq al rfl T.n_len UL (aa (pv 3) ac))) (fun _ _=>rfl)) ad (fun _ _=>rfl)) (aa (ak aK (ak aQ (pv 2) ad) ad) ac))) ac))))) aE)
  (af (aN (ax cb (pv 1) ad (az _)) (ai (d7 (bi (aa (ao ay (ao aG (pv 3) (pv 4) (fun _ _=>rfl)) ad (fun _ _=>rfl)) (aa (ak bq ad (ak aK (pv 2) ad)) ac))) (gg (pv 3) (pv 4) set_list))) aE)
  (af (aN (ax cb (pv 1) ad (az _)) (ai (ly (i:=3) (N:=[Ug "pair"]) (js:=[none]) (g:=(av 0)) (tt:=aU) (te:=(wK (bx (tOp (jU K) (bK 0) (tC (.int 0))) (bx (tOp (rI0 fun i j=>.int (i+j)) (tC (.int 1)) (tOp (rI (fun _ j=>0<j) fun i j=>.int (i%j)) (tOp (jU K) (bK 0) (tC (.int 1))) (tC (.int 3)))) de)))) bU.nd rfl (UI rfl) rfl (cC rfl (by decide +kernel) (by decide +kernel) rfl rfl rfl) (eU (pv 3)) (fun _ _ _ _ _ _=>(aB (i:=0) sH rfl (UI rfl))) (bo rfl) (fun _ _ _ _ _ _=>bQ) (fun _ _ _ _ _ _=>(bi (aa (ao ay (pv 0) ad (fun _ _=>rfl)) (aa (ak bq ad (ak aK (ao ay (pv 0) ad (fun _ _=>rfl)) ad)) ac)))))) aE)
  (af (aN (ax cb (pv 1) ad (az _)) (ai (ar (i:=3) bU.nd rfl (UI rfl) (ak sF (pv 3) (bP (N:=[Ug "k"]) (js:=[none]) (g:=(av 0)) (tt:=aU) (te:=(wK (bx (tOp (fun x y H Q=>∃ i j,x=.str i/\y=.str j/\i.length+j.length<=US/\Q (.str (i++j)) H) (tC (.str (Ug "zzzzzz"))) (tOp (zT) (tC (.str (Ug "abcdefghi"))) (bK 0))) (bx (tC (.int 0)) de)))) rfl (cC rfl (by decide +kernel) (by decide +kernel) rfl rfl rfl) (bD rfl T.n_range (aa (ak iG ad (aq al rfl T.n_len UL (aa (pv 3) ac))) ac)) (fun _ _ _ _ _ _=>(aB (i:=0) aa1 rfl (UI rfl))) (bo rfl) (fun _ _ _ _ _ _=>bQ) (fun _ _ _ _ _ _=>(bi (aa (ak aJ aw (ao mx aw (pv 0) (fun _ _=>rfl))) (aa ad ac)))))))) aE)
  (ai (aA (aX bh rfl T.n_tuple Vn (aa (pv 3) ac)))))))))),?_⟩
 try dsimp only [AO,Ai]
 have hl:ks.length=Ah.length:=UK AS;have Au:=g.1.ne;have hle:=g.1.le;have BS:=(mP g).2;have A8:(Ah.map V.ref).length=ks.length:=by rw [Ue];omega
 have hL:0<(((Ah.map V.ref).length:Nat):Int):=by omega
 refine ⟨_,rfl,ka,_,rfl,.inr (SqT.of ek),fun so KC=>?_⟩;dsimp only [av];have s1:L2.Same H (upd H so (.lst (Ah.map V.ref))):=ag KC _;have e1:(upd H so (.lst (Ah.map V.ref))) so=some (.lst (Ah.map V.ref)):=ae;generalize (upd H so (.lst (Ah.map V.ref)))=H1 at s1 e1 ⊢;refine ⟨_,rfl,_,rfl,so,_,rfl,.inl (SqL.of e1),_,_,rfl,rfl,hL,?_⟩;have a0:=U0 cell (YB hL);have a1:=UT cell hL;obtain ⟨at',Js⟩:∃ n:Nat,cell%(((Ah.map V.ref).length:Nat):Int)=(n:Int):=⟨_,(Wq a0).symm⟩;rw [Js] at a1;rw [Js];have AI:at'<ks.length:=by omega
 dsimp only [av];have Ci:KsAt H1 ks Ah:=AS.mono (Same.kt s1);have Jt:zj ks ks:=⟨BS,⟨Au,by omega⟩,.inl rfl⟩
 -- a name twice
 refine aP (KbJ H ka way cell at' ks fun w=>w=1) (fun kk hk=>?_) ?_
 · refine ⟨_,rfl,rfl,_,rfl,?_⟩;by_cases c:way=1
   case neg =>
    rw [decide_eq_false (fun z=>c (V.int.inj z))];exact bH (bH (hk _ _ ⟨so,Ah,ks,rfl,s1,KC,e1,Ci,Jt,fun _=>rfl⟩))
   rw [decide_eq_true (congrArg V.int c)];refine bG ?_;refine ⟨_,rfl,so,_,rfl,.inl (SqL.of e1),_,_,rfl,rfl,_,rfl,?_⟩;rw [decide_eq_true (show (((Ah.map V.ref).length:Nat):Int)<8 by omega)];refine bG ?_;have x0:=U0 (cell / 5) (YB hL);have x1:=UT (cell / 5) hL;refine hid fun ZZ kZ=>?_;obtain ⟨j,hj⟩:∃ n:Nat,cell / 5%(((Ah.map V.ref).length:Nat):Int)=(n:Int):=⟨_,(Wq x0).symm⟩;rw [hj] at x1;obtain ⟨k0,Bw⟩:∃ k0,ks[j]?=some k0:=⟨_,Uh (by omega)⟩;obtain ⟨oa,Jh,Jg⟩:=P2.get Ci Bw;refine kZ ?_;have CJ:=Ur Bw;have Eu:atI (Ah.map V.ref) (j:Int)=some (.ref oa):=cD (by rw [Ut,Jh];rfl);have m0:=U0 (cell / 7) (show (4:Int)≠0 by decide);have m1:=UT (cell / 7) (show (0:Int)<4 by decide);refine ⟨_,rfl,.inl ⟨rfl,_,SqL.of e1⟩,_,rfl,_,rfl,_,rfl,_,_,rfl,rfl,⟨by decide,by decide⟩,_,rfl,so,_,rfl,.inl (SqL.of e1),_,_,rfl,rfl,hL,so,_,_,.ref oa,rfl,rfl,SqL.of e1,(by rw [hj];exact Eu),oa,_,0,.str k0.1,rfl,rfl,SqT.of Jg,at0,_,rfl,_,_,rfl,rfl,⟨by decide,by decide⟩,_,_,rfl,rfl,(by show (0:Int)<4;decide),aj (by show 2<=1000000;decide),fun pn Gs=>?_⟩;have sp:=ag Gs (.tup [.str k0.1,.int (cell / 7%4)]);have B0:so≠pn:=fun z=>by rw [z,Gs] at e1;cases e1
   refine ⟨so,_,at',_,rfl,rfl,sp _ _ e1,by rw [A8];omega,aj (by rw [A8];omega),?_⟩;refine hk _ _ ⟨so,Ah.take at'++pn::Ah.drop at',ks.take at'++(k0.1,cell / 7%4)::ks.drop at',rfl,aI (s1.trans sp) KC,KC,?_,?_,⟨fun k DC=>?_,⟨?_,?_⟩,.inr (pZ fun z=>?_)⟩,fun z=>absurd c z⟩
   · rw [ae];simp
   · have hm:KsAt (upd (upd H1 pn (.tup [.str k0.1,.int (cell / 7%4)])) so (.lst ((Ah.map V.ref).take at'++.ref pn::(Ah.map V.ref).drop at'))) ks Ah:=Ci.mono (Same.kt sp |>.trans (bp (sp _ _ e1)));refine P2.append (P2.take at' hm) (.cons ?_ (P2.drop at' hm));show (upd _ so _) pn=_;rw [au (WX B0)];exact ae
   · rcases UP.mp DC with h | h
     · exact BS k (V6 h)
     rcases UH.mp h with rfl | h
     · exact ⟨(BS k0 CJ).1,m0,by show cell / 7%4<1000;omega⟩
     · exact BS k (XJ h)
   · rw [Uu,Ui,U3,Vi];omega
   · rw [Uu,Ui,U3,Vi];omega
   · rw [UC,UB] at z;have Kp:k0.1∈ks.map (·.1):=Vq.mpr ⟨k0,CJ,rfl⟩;rw [<- Zh at' ks,UC] at Kp;have z2:=YK.mp z;rcases UP.mp Kp with h | h
     · exact z2.2.2 k0.1 h k0.1 (Uy ..) rfl
     · exact (V8.mp z2.2.1).1 h
 rintro σ H2 ⟨CP,Ba,BW,rfl,s2,BX,e2,Bf,Bg,EA⟩
 -- a count T' great
 refine aP (KbJ H ka way cell at' ks fun w=>w=1∨w=2) (fun kk hk=>?_) ?_
 · refine ⟨_,rfl,rfl,_,rfl,?_⟩;refine cg (fun c=>?_) (fun c=>hk _ _ ⟨CP,Ba,BW,rfl,s2,BX,e2,Bf,Bg,fun z=>EA fun y=>z (.inl y)⟩);have cw:way=2:=V.int.inj (of_decide_eq_true c);have e0:=EA (by omega);subst e0;have Bh:BW.length=Ba.length:=UK Bf;refine hid fun ZZ kZ=>?_;obtain ⟨k0,Bw⟩:∃ k0,BW[at']?=some k0:=⟨_,Uh AI⟩;obtain ⟨oa,Jh,Jg⟩:=P2.get Bf Bw;refine kZ ?_;have CJ:=Ur Bw;have m0:=U0 cell (show (996:Int)≠0 by decide);have m1:=UT cell (show (0:Int)<996 by decide);refine ⟨_,rfl,_,rfl,CP,_,_,.ref oa,rfl,rfl,SqL.of e2,cD (by rw [Ut,Jh];rfl),oa,_,0,.str k0.1,rfl,rfl,SqT.of Jg,at0,_,rfl,_,_,rfl,rfl,(by show (0:Int)<996;decide),_,_,rfl,rfl,aj (by show 2<=1000000;decide),fun pn Gs=>?_⟩;have sp:=ag Gs (.tup [.str k0.1,.int (4+cell%996)]);have B0:CP≠pn:=fun z=>by rw [z,Gs] at e2;cases e2
   refine ⟨_,rfl,_,rfl,CP,_,_,at',rfl,rfl,sp _ _ e2,sC (by rw [Ue];omega),?_⟩;refine hk _ _ ⟨CP,Ba.set at' pn,BW.set at' (k0.1,4+cell%996),rfl,aI (s2.trans sp) BX,BX,?_,?_,⟨fun k DC=>?_,⟨?_,?_⟩,.inr (qA (k:=(k0.1,4+cell%996)) (Vj.mpr ⟨at',VZ AI⟩) (rn (by omega)))⟩,fun z=>absurd (.inr cw) z⟩
   · rw [ae,Y6]
   · have hm:KsAt (upd (upd H2 pn (.tup [.str k0.1,.int (4+cell%996)])) CP (.lst ((Ba.map V.ref).set at' (.ref pn)))) BW Ba:=Bf.mono (Same.kt sp |>.trans (bp (sp _ _ e2)));refine P2.set ?_ at' hm;show (upd _ CP _) pn=_;rw [au (WX B0)];exact ae
   · rcases XR DC with h | rfl
     · exact BS k h
     · exact ⟨(BS k0 CJ).1,by show 0<=4+cell%996;omega,by show 4+cell%996<1000;omega⟩
   · rw [W6];omega
   · rw [W6];omega
 clear EA Bg Bf e2 BX s2;rintro σ H2 ⟨CP,Ba,BW,rfl,s2,BX,e2,Bf,Bg,EA⟩
 -- no kind without kids
 refine aP (KbJ H ka way cell at' ks fun w=>w=1∨w=2∨w=3) (fun kk hk=>?_) ?_
 · refine ⟨_,rfl,rfl,_,rfl,?_⟩;refine cg (fun c=>?_) (fun c=>hk _ _ ⟨CP,Ba,BW,rfl,s2,BX,e2,Bf,Bg,fun z=>EA fun y=>z (y.elim .inl fun y=>.inr (.inl y))⟩);have cw:way=3:=V.int.inj (of_decide_eq_true c);have e0:=EA (by omega);subst e0;have Bh:BW.length=Ba.length:=UK Bf;refine ⟨_,rfl,CP,rfl,⟨_,SqL.of e2⟩,fO (F:=KAt) (xs:=Ba.map V.ref) (BW.map fun k=>(k.1,1+k.2%3)) (fun H1 H2 z p kt h=>kt _ _ h) (by rw [Ue,Ue];omega) (by rw [Ue];omega) (fun i Hx sx hi=>⟨_,_,SqL.of (sx _ _ e2),Uh hi⟩) (fun Hx sx=>⟨_,SqL.of (sx _ _ e2),Uq _⟩) (fun i Hx x Hy sx hi hy=>⟨hy.1,hy.2 _ (SqL.of (sx _ _ e2))⟩) (fun i y z Hx R W' hy Cq sx hR=>?_) (fun D H8 bs hD s8 eD Cf=>?_)⟩
   · obtain ⟨Ph,rfl,MW⟩:=bu hy;obtain ⟨k',A7,SE⟩:=P2.get' Bf MW;rw [Ut,A7] at Cq;cases Cq;have e':=sx _ _ SE;exact ⟨_,rfl,Ph,_,0,.str k'.1,rfl,rfl,SqT.of e',at0,_,rfl,Ph,_,1,.int k'.2,rfl,rfl,SqT.of e',at1,_,_,rfl,rfl,(by show (0:Int)<3;decide),_,_,rfl,rfl,aj (by show 2<=1000000;decide),fun p hp=>hR _ p (ag hp _) ae⟩
   · have KD:∀ k∈BW,0<=k.2%3/\k.2%3<3:=fun k _=>⟨U0 _ (by decide),UT _ (by decide)⟩;refine hk _ _ ⟨D,bs,_,rfl,s2.trans s8,s2.free hD,eD,Cf,⟨fun k DC=>?_,⟨by rw [Ue];omega,by rw [Ue];omega⟩,.inr (lM fun z=>?_)⟩,fun z=>absurd (.inr (.inr cw)) z⟩
     · obtain ⟨k',A7,rfl⟩:=Vq.mp DC;have:=KD k' A7;exact ⟨(BS k' A7).1,by show 0<=1+k'.2%3;omega,by show 1+k'.2%3<1000;omega⟩
     · rw [We] at z;obtain ⟨k',A7,e'⟩:=Vq.mp z;have e2:1+k'.2%3=0:=e';have:=KD k' A7;omega
 clear EA Bg Bf e2 BX s2;rintro σ H2 ⟨CP,Ba,BW,rfl,s2,BX,e2,Bf,Bg,EA⟩
 -- nine kinds
 refine aP (KbJ H ka way cell at' ks fun w=>True) (fun kk hk=>?_) ?_
 · refine ⟨_,rfl,rfl,_,rfl,?_⟩;refine cg (fun c=>?_) (fun c=>hk _ _ ⟨CP,Ba,BW,rfl,s2,BX,e2,Bf,Bg,fun z=>absurd trivial z⟩);have cw:way=4:=V.int.inj (of_decide_eq_true c);have e0:=EA (by omega);subst e0;have Bh:BW.length=Ba.length:=UK Bf;have KG:(Ba.map V.ref).length=BW.length:=by rw [Ue];omega
   refine ⟨_,rfl,_,rfl,CP,_,rfl,.inl (SqL.of e2),_,_,rfl,rfl,_,rfl,by rw [KG];omega,by rw [KG];omega,?_⟩;have MX:(9 - (((Ba.map V.ref).length:Nat):Int)).toNat=9 - BW.length:=by rw [KG];omega
   rw [MX];have EW:((Vr (9 - BW.length)).map fun i=>V.int ((i:Nat):Int)).length=9 - BW.length:=by rw [Ue,VJ]
   refine fO (F:=KAt) (xs:=(Vr (9 - BW.length)).map fun i=>V.int ((i:Nat):Int)) ((Vr (9 - BW.length)).map fun i=>(rR i,(0:Int))) (fun H1 H2 z p kt h=>kt _ _ h) (by rw [EW,Ue,VJ]) (by omega) (fun i Hx sx hi=>by rw [EW] at hi;exact hi) (fun Hx sx=>by rw [EW];exact Uq _) (fun i Hx x Hy sx hi hy=>⟨hy.1,?_⟩) (fun i y z Hx R W' hy Cq sx hR=>?_) (fun D H8 bs hD s8 eD Cf=>?_)
   · rw [EW] at hi;rw [Ut,Xl hi,hy.2,ZY];rfl
   · have hi:=(Uz.mp hy).1;rw [EW] at hi;rw [Ut,Xl hi] at hy Cq;cases hy;cases Cq;exact ⟨_,rfl,_,_,_,rfl,rfl,aj (by decide +kernel),at_nonneg (by omega) (by rw [VL];exact xh i (by omega)),_,_,rfl,rfl,aj (by show 7<=1000000;decide),aj (by show 2<=1000000;decide),fun p hp=>hR _ p (ag hp _) ae⟩
   · refine ⟨CP,D,_,_,rfl,rfl,s8 _ _ e2,eD,aj (by rw [KG,Ue,<- UK Cf,Ue,VJ];omega),fun l4 Hj=>?_⟩;dsimp only [av];have s4:=ag Hj (.lst (Ba.map V.ref++bs.map V.ref));refine hk _ _ ⟨l4,Ba++bs,BW++(Vr (9 - BW.length)).map fun i=>(rR i,(0:Int)),rfl,s2.trans (s8.trans s4),s2.free (s8.free Hj),by rw [ae,UC],P2.append (Bf.mono (Same.kt (s8.trans s4))) (KsAt.mono (Same.kt s4) Cf),⟨fun k DC=>?_,⟨?_,?_⟩,.inr (ou ?_)⟩,fun z=>absurd trivial z⟩
     · rcases UP.mp DC with h | h
       · exact BS k h
       · obtain ⟨i,hi,rfl⟩:=Vq.mp h;exact ⟨xl i (by have:=Xo.mp hi;omega),by show (0:Int)<=0;decide,by show (0:Int)<1000;decide⟩
     · rw [Uu,Ue,VJ];omega
     · rw [Uu,Ue,VJ];omega
     · rw [Uu,Ue,VJ];omega
 clear EA Bg Bf e2 BX s2;rintro σ H2 ⟨CP,Ba,BW,rfl,s2,BX,e2,Bf,Bg,_⟩;refine ⟨_,rfl,CP,_,rfl,.inl ⟨SqL.of e2,fun p hp=>?_⟩⟩;exact q p Ba BW _ (s2.trans (ag hp _)) ae (Bf.mono (Same.kt (ag hp _))) Bg
theorem u8 {ks:List (UA×Int)} {st kd s k:Int} (h:¬ (0<=s/\s<st/\0<=k/\k<kd)):fpb ks st kd (.call s k)=false:=by
 rw [mh,okP]
 have:(decide (0<=s/\s<st) && decide (0<=k/\k<kd))=false:=by
  rw [VB];intro z;rw [Vv,decide_eq_true_eq,decide_eq_true_eq] at z;exact h ⟨z.1.1,z.1.2,z.2.1,z.2.2⟩
 rw [this,Xr]
theorem mH {ks:List (UA×Int)} {st kd:Int} {n:UA} {ts:List Th} (h:cI ks n≠((ts.length:Nat):Int)):fpb ks st kd (.knot n ts)=false:=by
 rw [mh,okP,decide_eq_false h,Xr]
theorem nK {n:UA}:∀ {ks:List (UA×Int)},(∀ k∈ks,k.1≠n)->cI ks n=-1
 | [],_=>rfl
 | k::ks,h=>by
   rw [cI,if_neg (h k (Uy ..))];exact nK fun k' A7=>h k' (Uv _ A7)
theorem w9 {xs:List V} {n:Nat} (h:n<=xs.length):cB xs none (some (n:Int))=xs.take n:=by
 unfold cB;rw [HT.sIx_nat,HT.sIx_none,W5 h,VW,Yz]
theorem iz {xs:List V} (n:Nat):cB xs (some (n:Int)) none=xs.drop n:=by
 by_cases h:n<=xs.length
 · exact jH h
 · unfold cB;rw [HT.sIx_nat,HT.sIx_none,Nat.min_eq_right (by omega),Y7 (Uq _),Y7 (by omega)];simp
theorem uS {xs:List V} (h:1<=xs.length):cB xs none (some (-1))=xs.take (xs.length - 1):=by
 unfold cB;rw [HT.sIx_none]
 have:HT.sIx xs.length xs.length (some (-1))=xs.length - 1:=by
  unfold HT.sIx;simp
  try omega
 rw [this,VW,Yz]
theorem jq:∀ {ts:List Th},Wrs ts↔∀ t∈ts,t.Wr
 | []=>⟨fun _ t h=>(by cases h),fun _=>by rw [Wrs];trivial⟩
 | t::ts=>by
   rw [Wrs,jq];exact ⟨fun h u hu=>(UH.mp hu).elim (fun e=>e ▸ h.1) (h.2 u),fun h=>⟨h t (Uy ..),fun u hu=>h u (Uv _ hu)⟩⟩
theorem ju {m:Nat}:∀ {ts:List Th},(∀ t∈ts,t.tall<=m)->aL ts<=m
 | [],_=>by rw [aL];exact Vh _
 | t::ts,h=>by
   rw [aL];exact Nat.max_le.mpr ⟨h t (Uy ..),ju fun u hu=>h u (Uv _ hu)⟩
theorem jW:∀ (a b:List Th),aC (a++b)=aC a+aC b
 | [],b=>by rw [Vs,aC];omega
 | t::a,b=>by rw [Va,aC,aC,jW a b];omega
theorem vY (ts:List Th) (n:Nat):aC (ts.take n)<=aC ts:=by
 have h:=jW (ts.take n) (ts.drop n);rw [Zh] at h;omega
theorem qS {outs:List (UA×Int)} {S C:Int}:∀ {ts:List Th},FitSs outs S C ts->∀ t∈ts,t.FitS outs S C
 | [],_,t,h=>by cases h
 | u::ts,hf,t,h=>by
   rw [FitSs] at hf;rcases UH.mp h with rfl | h
   · exact hf.1
   · exact qS hf.2 t h
def zz8:UA:=Ug "zzzzzzzz"
structure aaz (outs:List (UA×Int)) (S C:Int) (t t':Th):Prop where
 wr:t'.Wr
 tall:t'.tall<=t.tall+1
 size:t'.size<=t.size+1
 no:fpb outs S C t'=false
inductive dz (K:Uj) (n:Nat) (vs:List V) (H:Hp) (Q:VK) (_E:XK):Prop
 | mk (pa oa:Ul) (Ak:List Ul) (outs:List (UA×Int)) (t:Th) (cell S C:Int) (Aw:vs=[.ref pa,.int cell,.int S,.int C,.ref oa]) (Ax:At H t pa) (AE:t.tall<=n) (AQ:t.size<=1000) (Bx:t.FitS outs S C) (B':H oa=some (.tup (Ak.map V.ref))) (DW:KsAt H outs Ak) (F0:GK outs) (zz8:(∀ k∈outs,k.1≠zz8)) (IJ:0<=cell) (ET:(S<=10/\C<=10)) (ML:∀ (r:Ul) (t':Th) (H':Hp),L2.Same H H'->At H' t' r->aaz outs S C t t'->Q (.ref r) H'):dz K n vs H Q _E
def gX (K:Uj) (n:Nat):Sp:=dz K n
set_option maxHeartbeats 4000000 in
theorem dI:∀ n:Nat,FnOk P w K mg base CX0 (n+2) T.g__law_bad_pattern.f T.g__law_bad_pattern.d ["pattern","cell","states","kids","outs"] (gX K n)
 | 0=>⟨fun _ _ _ _ h=>by obtain ⟨_,_,_,_,t,_,_,_,_,_,h1,_⟩:=h;have:=t.tall_eq;omega,fun _ _ _ _ _ _ _ _ _ _ _ _ _ h=>by obtain ⟨_,_,_,_,t,_,_,_,_,_,h1,_⟩:=h;have:=t.tall_eq;omega⟩
 | n+1=>by
   have ih:=dI n;refine T.g__law_bad_pattern.F.ok b6 (fun vs H Q E h=>?_) (fun Ao A outer s H vs Q E hr h=>?_)
   · obtain ⟨pa,oa,Ak,outs,t,cell,S,C,rfl,_⟩:=h;rfl
   obtain ⟨pa,oa,Ak,outs,t,cell,S,C,rfl,hA,Av,AH,Al,eo,AS,g,Cq,hc,E6,q⟩:=h
   refine ⟨_,(af (aN (ax cb (ao ay (pv 0) ad (fun _ _=>rfl)) aw (az _)) (af (ar (i:=5) b6.nd rfl (UI rfl) (ak aK (ak aQ (pv 1) ad) ad))
    (af (aN (PW.pt (fS (ax cb (ak aK (pv 1) ad) ad (az _)) (eW (ax cb (pv 3) ad (az _))))) (ai (aA (bi (aa aw (aa (ak bq (pv 2) (ak eV (ak aK (pv 5) ad) (pv 5))) (aa (ao ay (pv 0) ad (fun _ _=>rfl)) ac)))))) aE)
    (ai (aA (bi (aa aw (aa (ao ay (pv 0) ad (fun _ _=>rfl)) (aa (ak bq (pv 3) (ak eV (ak aK (pv 5) ad) (pv 5))) ac)))))))) aE)
    (af (aN (PW.pt (jG (ax kI (aq al rfl T.n_len UL (aa (pv 0) ac)) ad (az _)) (gT (ax kI (ak aK (pv 1) ad) ad (az _))))) (af (ar (i:=6) b6.nd rfl (UI rfl) (ak bq ad (ak aK (ak aQ (pv 1) ad) (ak iG (aq al rfl T.n_len UL (aa (pv 0) ac)) ad))))
    (af (ar (i:=7) b6.nd rfl (UI rfl) (bc (ih) (hr.mono (Uq _)) rfl T.g__law_bad_pattern.m T.g__law_bad_pattern.F.kp T.g__law_bad_pattern.b .nil lS (aa (ao ay (pv 0) (pv 6) (fun _ _=>rfl)) (aa (ak aQ (pv 1) ad) (aa (pv 2) (aa (pv 3) (aa (pv 4) ac)))))))
    (ai (aA (ak dQ (ak dQ (bz lG (pv 0) cj (bB (pv 6))) (bi (aa (pv 7) ac))) (bz lG (pv 0) (bB (ak bq (pv 6) ad)) cj)))))) aE)
    (af (aN (ax cb (ak aK (ak aQ (pv 1) ad) ad) ad (az _)) (ai (aA (ak dQ (pv 0) (bi (aa (bi (aa (ao ay (ao ay (pv 4) ad (fun _ _=>rfl)) ad (fun _ _=>rfl)) ac)) ac))))) aE)
    (af (aN (PW.pt (jG (ax cb (ak aK (ak aQ (pv 1) ad) ad) ad (az _)) (gT (ax kI (aq al rfl T.n_len UL (aa (pv 0) ac)) ad (az _))))) (ai (aA (bz lG (pv 0) cj (bB (oh jT ad))))) aE)
    (ai (aA (ak dQ (bi (aa aw ac)) (bz lG (pv 0) (bB ad) cj)))))))),?_⟩
   try dsimp only [AO,Ai]
   have A8:outs.length=Ak.length:=UK AS;have Jl:=g.1.ne;have Hm:=n0 (nF g E6.1 E6.2 Al);cases t with
   | call s k =>
     rw [At] at hA;rw [Th.FitS] at Al;refine ⟨_,rfl,pa,_,0,.str BB.q,rfl,rfl,SqT.of hA,at0,rfl,_,rfl,?_⟩;refine bG ?_;have f0:=U0 (cell / 3) (show (700:Int)≠0 by decide);have f1:=UT (cell / 3) (show (0:Int)<700 by decide);refine ⟨_,rfl,_,_,rfl,rfl,⟨by decide,by decide⟩,_,_,rfl,rfl,(by show (0:Int)<700;decide),?_⟩;dsimp only [av];generalize cell / 3%700=far at f0 f1 ⊢
     have p0:0<=far%2 * far/\far%2 * far<700:=by
      rcases (by omega:far%2=0∨far%2=1) with e | e <;> rw [e] <;> omega
     have FA:∀ (s' k':Int) (ca:Ul),H ca=none->(0<=s'/\s'<1000)/\0<=k'/\k'<1000->¬ (0<=s'/\s'<S/\0<=k'/\k'<C)->Q (.ref ca) (upd H ca (.tup [.str BB.q,.int s',.int k'])):=fun s' k' ca Ef hw Az=>by
      refine q ca (.call s' k') _ (ag Ef _) (by rw [At];exact ae) ⟨by rw [Th.Wr];exact hw,?_,?_,u8 Az⟩
      · rw [Th.tall,Th.tall];omega
      · rw [Th.size,Th.size];omega
     refine aP (fun f' H'=>An2 (H=H') (f'=[some (.ref pa),some (.int cell),some (.int S),some (.int C),some (.ref oa),some (.int far),none,none])) (fun kk hk=>?_) ?_
     · refine b8 (fun b H'=>H=H') (fun k2 Br=>?_) (fun H' hb=>?_) (fun H' hb=>?_)
       · refine ⟨_,rfl,_,_,rfl,rfl,(by show (0:Int)<3;decide),rfl,_,rfl,?_⟩;refine cg (fun _=>Br _ _ rfl) (fun _=>?_);exact ⟨_,rfl,rfl,_,rfl,Br _ _ rfl⟩
       · subst hb;refine ⟨_,rfl,_,rfl,_,_,rfl,rfl,(by show (0:Int)<2;decide),_,rfl,_,_,rfl,rfl,.inr ⟨by omega,by omega⟩,_,_,rfl,rfl,_,rfl,pa,_,2,.int k,rfl,rfl,SqT.of hA,at2,aj (by show 3<=1000000;decide),fun ca Ef=>FA _ _ ca Ef ?_ ?_⟩
         · omega
         · omega
       · subst hb;exact hk _ _ ⟨rfl,rfl⟩
     rintro f' H' ⟨rfl,rfl⟩;refine ⟨_,rfl,pa,_,1,.int s,rfl,rfl,SqT.of hA,at1,_,rfl,_,rfl,_,_,rfl,rfl,(by show (0:Int)<2;decide),_,rfl,_,_,rfl,rfl,.inr ⟨by omega,by omega⟩,_,_,rfl,rfl,aj (by show 3<=1000000;decide),fun ca Ef=>FA _ _ ca Ef ?_ ?_⟩
     · omega
     · omega
   | knot nm ks =>
     rw [At] at hA;refine hid fun ZZ kZ=>?_;obtain ⟨G4,Ah,EB,DK⟩:=hA;refine kZ ?_;rw [Th.FitS] at Al;rw [Th.Wr] at Hm;have Fj:=DK.length;have SF:=db ks;rw [Th.tall] at Av;rw [Th.size] at AH;have F9:cI outs nm=((ks.length:Nat):Int):=(iL g.2.2).mpr Al.1;have Gu:=jq.mp Hm.2;refine ⟨_,rfl,pa,_,0,.str nm,rfl,rfl,SqT.of EB,at0,rfl,_,rfl,?_⟩;rw [decide_eq_false (show ¬ V.str nm=V.str (Ug "?") from fun z=>G4 (V.str.inj z))];refine bH ?_;dsimp only [cG];have FC:(V.str nm::Ah.map V.ref).length=ks.length+1:=by rw [Ui,Ue];omega
     -- within
     refine aP (fun f' H'=>An2 (H=H') (f'=[some (.ref pa),some (.int cell),some (.int S),some (.int C),some (.ref oa),none,none,none])) (fun kk hk=>?_) ?_
     · refine b8 (fun b H'=>An2 (H=H') ((b=true->1<=ks.length))) (fun k2 Br=>?_) (fun H' hb=>?_) (fun H' hb=>?_)
       · refine ⟨_,rfl,pa,_,rfl,.inr (SqT.of EB),_,_,rfl,rfl,_,rfl,?_⟩;refine cg (fun c1=>?_) (fun c1=>Br _ _ ⟨rfl,fun z=>by cases z⟩);refine ⟨_,rfl,_,_,rfl,rfl,(by show (0:Int)<4;decide),_,_,rfl,rfl,_,rfl,Br _ _ ⟨rfl,fun _=>?_⟩⟩;have:(1:Int)<((V.str nm::Ah.map V.ref).length:Int):=of_decide_eq_true c1;rw [FC] at this;omega
       · obtain ⟨rfl,hb⟩:=hb;have BE:=hb rfl;have hL:(0:Int)<((V.str nm::Ah.map V.ref).length:Int) - 1:=by rw [FC];omega
         have j0:=U0 (cell / 4) (YB hL);have j1:=UT (cell / 4) hL;refine ⟨_,rfl,_,_,rfl,rfl,⟨by decide,by decide⟩,_,rfl,pa,_,rfl,.inr (SqT.of EB),_,_,rfl,rfl,_,_,rfl,rfl,hL,_,_,rfl,rfl,?_⟩;dsimp only [av];obtain ⟨j,hj⟩:∃ j:Nat,cell / 4%(((V.str nm::Ah.map V.ref).length:Int) - 1)=(j:Int):=⟨_,(Wq j0).symm⟩;rw [hj,FC] at j1;rw [hj];have Dk:j<ks.length:=by omega
         have ej:1+(j:Int)=((j+1:Nat):Int):=by omega
         rw [ej];refine hid fun ZZ kZ=>?_;obtain ⟨ka,AZ⟩:∃ ka,Ah[j]?=some ka:=⟨_,Uh (by omega)⟩;obtain ⟨u,hu,AI⟩:=DK.get AZ;refine kZ ?_;have Gm:=Ur hu;have Mz:u.tall<=aL ks:=eB Gm;have NU:=lW Gm;refine ⟨_,rfl,_,rfl,pa,_,_,.ref ka,rfl,rfl,SqT.of EB,at_nonneg (by omega) (by rw [VL,List.getElem?_cons_succ,Ut,AZ];rfl),_,rfl,_,_,rfl,rfl,⟨by decide,by decide⟩,_,rfl,_,rfl,_,rfl,?_⟩;refine ⟨ka,oa,Ak,outs,u,_,S,C,rfl,AI,by omega,by omega,qS Al.2 u Gm,eo,AS,g,Cq,Xy hc (by decide),E6,fun r3 t3 H3 s3 h3 GV=>?_⟩;dsimp only [av];refine ⟨_,rfl,_,rfl,_,rfl,pa,_,rfl,s3 _ _ EB,fun p4 H4 s4 e4=>?_⟩;rw [w9 (by rw [FC];omega),List.take_succ_cons,<- YR] at e4;refine ⟨_,rfl,aj (by show 1<=1000000;decide),fun p5 SG=>?_⟩;have s5:=ag SG (.tup [.ref r3]);refine oR (s5 _ _ e4) ae (by rw [Ui,Ue,U3];show min j Ah.length+1+1<=1000000;omega) fun p6 H6 s6 e6=>?_;have G8:=s4.trans (s5.trans s6);refine ⟨_,rfl,_,rfl,_,_,rfl,rfl,_,rfl,pa,_,rfl,(s3.trans G8) _ _ EB,fun p7 H7 s7 e7=>?_⟩;have SH:((j+1:Nat):Int)+1=((j+2:Nat):Int):=by omega
         rw [SH,iz,XX,<- Zy] at e7;refine oR (s7 _ _ e6) e7 (by rw [Uu,Ui,Ue,U3,Ue,Vi];show min j Ah.length+1+1+(Ah.length - (j+1))<=1000000;omega) fun p8 H8 s8 e8=>?_;have MY:=G8.trans (s7.trans s8);have LS:=nZ (x:=t3) hu;have SI:=GV.tall;have SJ:=GV.size;refine q p8 (.knot nm (ks.set j t3)) H8 (s3.trans MY) ?_ ⟨?_,?_,?_,xF Dk GV.no⟩
         · rw [At];refine ⟨G4,Ah.set j r3,?_,(DK.mono (Same.kt (s3.trans MY))).set _ (h3.mono (Same.kt MY))⟩;rw [e8];have:Ah.set j r3=Ah.take j++r3::Ah.drop (j+1):=List.set_eq_take_append_cons_drop .. |>.trans (if_pos (by omega));rw [this];simp
         · rw [Th.Wr];refine ⟨Hm.1,jq.mpr fun x hx=>?_⟩;rcases XR hx with hx | rfl
           · exact Gu x hx
           · exact GV.wr
         · rw [Th.tall,Th.tall];refine Nat.succ_le_succ (ju fun x hx=>?_);rcases XR hx with hx | rfl
           · have:=eB hx;omega
           · omega
         · rw [Th.size,Th.size];omega
       · obtain ⟨rfl,_⟩:=hb;exact hk _ _ ⟨rfl,rfl⟩
     rintro f' H' ⟨rfl,rfl⟩
     -- one kid more
     refine aP (fun f' H'=>An2 (H=H') (f'=[some (.ref pa),some (.int cell),some (.int S),some (.int C),some (.ref oa),none,none,none])) (fun kk hk=>?_) ?_
     · refine ⟨_,rfl,_,_,rfl,rfl,⟨by decide,by decide⟩,_,_,rfl,rfl,(by show (0:Int)<3;decide),rfl,_,rfl,?_⟩;refine cg (fun _=>?_) (fun _=>hk _ _ ⟨rfl,rfl⟩);refine hid fun ZZ kZ=>?_;obtain ⟨k0,Bw⟩:∃ k0,outs[0]?=some k0:=⟨_,Uh (by omega)⟩;obtain ⟨ka,AZ,Ck⟩:=P2.get AS Bw;refine kZ ?_;have Ck:H ka=some (.tup [.str k0.1,.int k0.2]):=Ck;have CJ:=Ur Bw;refine ⟨_,rfl,_,rfl,oa,_,0,.ref ka,rfl,rfl,SqT.of eo,at_nonneg (by decide) (by show (Ak.map V.ref)[0]?=_;rw [Ut,AZ];rfl),ka,_,0,.str k0.1,rfl,rfl,SqT.of Ck,at0,aj (by show 1<=1000000;decide),fun lf SK=>⟨aj (by show 1<=1000000;decide),fun l2 Bh=>?_⟩⟩;have s2:=(ag SK (.tup [.str k0.1])).trans (ag Bh (.tup [.ref lf]));refine oR (s2 _ _ EB) ae (by rw [FC];show ks.length+1+1<=1000000;omega) fun p6 H6 s6 e6=>?_;have Di:=s2.trans s6;refine q p6 (.knot nm (ks++[.knot k0.1 []])) H6 Di ?_ ⟨?_,?_,?_,mH ?_⟩
       · rw [At];refine ⟨G4,Ah++[lf],?_,?_⟩
         · rw [e6];simp
         · refine (DK.mono (Same.kt Di)).append (.cons ?_ .nil);rw [At];exact ⟨v2 (g.1.low k0 CJ).1,[],(ag Bh _).trans s6 _ _ ae,.nil⟩
       · rw [Th.Wr];refine ⟨Hm.1,jq.mpr fun x hx=>?_⟩;rcases UP.mp hx with hx | hx
         · exact Gu x hx
         · rw [UW.mp hx,Th.Wr,Wrs];exact ⟨jB (g.2.1 k0 CJ) (g.1.low k0 CJ).2,trivial⟩
       · rw [Th.tall,Th.tall];refine Nat.succ_le_succ (ju fun x hx=>?_);rcases UP.mp hx with hx | hx
         · have:=eB hx;omega
         · rw [UW.mp hx,Th.tall,aL];omega
       · rw [Th.size,Th.size,jW,aC,aC,Th.size,aC];omega
       · rw [F9,Uu];show ((ks.length:Nat):Int)≠((ks.length+1:Nat):Int);omega
     rintro f' H' ⟨rfl,rfl⟩
     -- one kid less
     refine aP (fun f' H'=>An2 (H=H') (f'=[some (.ref pa),some (.int cell),some (.int S),some (.int C),some (.ref oa),none,none,none])) (fun kk hk=>?_) ?_
     · refine b8 (fun b H'=>An2 (H=H') ((b=true->1<=ks.length))) (fun k2 Br=>?_) (fun H' hb=>?_) (fun H' hb=>?_)
       · refine ⟨_,rfl,_,_,rfl,rfl,⟨by decide,by decide⟩,_,_,rfl,rfl,(by show (0:Int)<3;decide),rfl,_,rfl,?_⟩;refine cg (fun c1=>?_) (fun c1=>Br _ _ ⟨rfl,fun z=>by cases z⟩);refine ⟨_,rfl,pa,_,rfl,.inr (SqT.of EB),_,_,rfl,rfl,_,rfl,Br _ _ ⟨rfl,fun c2=>?_⟩⟩;have:(1:Int)<((V.str nm::Ah.map V.ref).length:Int):=of_decide_eq_true c2;rw [FC] at this;omega
       · obtain ⟨rfl,hb⟩:=hb;have BE:=hb rfl;refine ⟨_,rfl,_,rfl,_,rfl,pa,_,rfl,EB,fun p4 H4 s4 e4=>?_⟩;rw [uS (by rw [FC];omega),FC,show ks.length+1 - 1=(ks.length - 1)+1 by omega,List.take_succ_cons,<- YR] at e4;refine q p4 (.knot nm (ks.take (ks.length - 1))) H4 s4 ?_ ⟨?_,?_,?_,mH ?_⟩
         · rw [At];exact ⟨G4,Ah.take (ks.length - 1),e4,(DK.mono (Same.kt s4)).take _⟩
         · rw [Th.Wr];exact ⟨Hm.1,jq.mpr fun x hx=>Gu x (V6 hx)⟩
         · rw [Th.tall,Th.tall];refine Nat.succ_le_succ (ju fun x hx=>?_);have:=eB (V6 hx);omega
         · rw [Th.size,Th.size];have:=vY ks (ks.length - 1);omega
         · rw [F9,U3];omega
       · obtain ⟨rfl,_⟩:=hb;exact hk _ _ ⟨rfl,rfl⟩
     rintro f' H' ⟨rfl,rfl⟩
     -- KH name
     refine ⟨aj (by show 1<=1000000;decide),fun l1 Bl=>?_⟩;have s1:=ag Bl (.tup [.str zz8]);refine ⟨_,rfl,_,rfl,pa,_,rfl,s1 _ _ EB,fun p4 H4 s4 e4=>?_⟩;rw [show (1:Int)=((1:Nat):Int) by rfl,iz,XX,VW] at e4;refine oR (s4 _ _ ae) e4 (by rw [Ue];show 1+Ah.length<=1000000;omega) fun p6 H6 s6 e6=>?_;have Di:=s1.trans (s4.trans s6);refine q p6 (.knot zz8 ks) H6 Di ?_ ⟨?_,?_,?_,mH ?_⟩
     · rw [At];exact ⟨by decide +kernel,Ah,e6,DK.mono (Same.kt Di)⟩
     · rw [Th.Wr];exact ⟨by decide +kernel,Hm.2⟩
     · rw [Th.tall,Th.tall];omega
     · rw [Th.size,Th.size];omega
     · rw [nK Cq];omega
def LRow (H:Hp) (row:List Th) (a:Ul):Prop:=∃ Ac:List Ul,H a=some (.lst (Ac.map V.ref))/\Ats H row Ac
theorem LRow.s {H:Hp} {row:List Th} {a:Ul} (h:LRow H row a):SRow H row a:=by
 obtain ⟨Ac,h1,h2⟩:=h;exact ⟨Ac,.inl h1,h2⟩
theorem LRow.keep {H H':Hp} (kt:KT H H') {row:List Th} {a:Ul} (ha:∀ o,H a=some o->H' a=some o) (h:LRow H row a):LRow H' row a:=by
 obtain ⟨Ac,h1,h2⟩:=h;exact ⟨Ac,ha _ h1,h2.mono kt⟩
theorem LRow.mono {H H':Hp} (s:L2.Same H H') {row:List Th} {a:Ul} (h:LRow H row a):LRow H' row a:=h.keep (Same.kt s) (s _)
def fI (p:Ul) (new:List Th):List (List Th)->List Ul->List (List Th)
 | [],_=>[]
 | _::_,[]=>[]
 | r::rs,a::as=>(if a=p then new else r)::fI p new rs as
theorem kC {H H':Hp} {G:Ul->Prop} {p:Ul} {new:List Th} (hk:∀ row a,a≠p->LRow H row a->LRow H' row a) (hn:LRow H' new p):∀ {rows:List (List Th)} {ls:List Ul},Vg (fun row a=>LRow H row a/\G a) rows ls->Vg (SRow H') (fI p new rows ls) ls
 | _,_,.nil=>by rw [fI];exact .nil
 | _,_,.cons (a:=r) (b:=a) h t=>by
   rw [fI];refine .cons ?_ (kC hk hn t);by_cases z:a=p
   · rw [if_pos z,z];exact hn.s
   · rw [if_neg z];exact (hk _ _ z h.1).s
theorem pV {p:Ul} {new:List Th}:∀ {rows:List (List Th)} {ls:List Ul} {i:Nat} {r:List Th},rows[i]?=some r->ls[i]?=some p->(fI p new rows ls)[i]?=some new
 | [],_,_,_,h,_=>by simp at h
 | _::_,[],_,_,_,h=>by simp at h
 | r'::rs,a::as,0,r,h,h2=>by
   simp at h2;rw [fI,if_pos h2];rfl
 | r'::rs,a::as,i+1,r,h,h2=>by
   rw [fI,List.getElem?_cons_succ];exact pV (by simpa using h) (by simpa using h2)
theorem ql {p:Ul} {new:List Th}:∀ {rows:List (List Th)} {ls:List Ul},rows.length=ls.length->(fI p new rows ls).length=rows.length
 | [],[],_=>by rw [fI]
 | [],_::_,h=>by simp at h
 | _::_,[],h=>by simp at h
 | r'::rs,a::as,h=>by
   rw [fI,Ui,Ui,ql (by simpa using h)]
theorem qX {p:Ul} {new:List Th}:∀ {rows:List (List Th)} {ls:List Ul} {row:List Th},row∈fI p new rows ls->row=new∨row∈rows
 | [],_,_,h=>by rw [fI] at h;cases h
 | _::_,[],_,h=>by rw [fI] at h;cases h
 | r'::rs,a::as,row,h=>by
   rw [fI] at h;rcases UH.mp h with h | h
   · rw [h];split
     · exact .inl rfl
     · exact .inr (Uy ..)
   · exact (qX h).imp id fun z=>Uv _ z
theorem nS {p:Ul} {new:List Th}:∀ {rows:List (List Th)} {ls:List Ul},rows.length=ls.length->(∀ a∈ls,a≠p)->fI p new rows ls=rows
 | [],[],_,_=>rfl
 | [],_::_,h,_=>by cases h
 | _::_,[],h,_=>by cases h
 | r'::rs,a::as,h,hp=>by
   rw [fI,if_neg (hp a (Uy ..)),nS (by simpa using h) fun b hb=>hp b (Uv _ hb)]
structure aaw (ins outs:List (UA×Int)) (n:Nat) (head:Th) (rows:List (List Th)):Prop where
 hd:head.Wr/\head.tall<=5/\head.size<=122
 len:rows.length=n
 row:∀ row∈rows,row.length=ins.length/\∀ t∈row,t.Wr/\t.tall<=5/\t.size<=122
 no:¬ cX ins outs head rows
inductive eG (K:Uj) (vs:List V) (H:Hp) (Q:VK) (_E:XK):Prop
 | mk (b:Ul) (ins outs:List (UA×Int)) (head:Th) (rows:List (List Th)) (cell:Int) (Aw:vs=[.ref b,.int cell]) (Ax:Bk H ins outs head rows b) (AE:wQ ins outs head rows) (AQ:(∀ k∈outs,k.1≠zz8)) (Bx:0<=cell) (B':∀ (r:Ul) (head':Th) (AW:List (List Th)) (H':Hp),L2.Same H H'->Bk H' ins outs head' AW r->aaw ins outs rows.length head' AW->Q (.ref r) H'):eG K vs H Q _E
def jR (K:Uj):Sp:=eG K
theorem sS {σ:St} {H:Hp} {rows:List (List Th)} {ra:Ul} {AF:List Ul} {fin:Ul->Hp->Prop} (e:H ra=some (.tup (AF.map V.ref))) (h:Vg (RowAt H) rows AF) (hn:rows.length<=1000)
 (hq:∀ D H' ls,H D=none->L2.Same H H'->H' D=some (.lst (ls.map V.ref))->Vg (fun row p=>LRow H' row p/\H p=none) rows ls->fin D H') :
 ∀ D,H D=none->∃ (n:Nat) (W:Nat->Hp->Prop),W 0 (upd H D (.lst []))/\da [none] (av 0) aU (tCB (fun xs H Q=>∃ p ys,xs=[.ref p]/\(SqL K H p ys∨SqT K H p ys)/\∀ l,H l=none->Q (.ref l) (upd H l (.lst ys))) (bx (bK 0) de)) σ (Itt K ra) D n W fun H'=>fin D H':=by
 have B7:rows.length=AF.length:=UK h;refine tH (F:=fun H1 row p=>LRow H1 row p/\H p=none) (xs:=AF.map V.ref) rows (fun H1 H2 z p kt ho h=>⟨h.1.keep kt ho,h.2⟩) (by rw [Ue];omega) (by rw [Ue];omega) (fun i Hx sx hi=>⟨_,_,SqT.of (sx _ _ e),Uh hi⟩) (fun Hx sx=>⟨_,SqT.of (sx _ _ e),Uq _⟩) (fun i Hx x Hy sx hi hy=>⟨hy.1,hy.2 _ (SqT.of (sx _ _ e))⟩) (fun i y z Hx R W' hy Cq sx hR=>?_) (fun D H3 bs hD s3 eD Cf=>hq D H3 bs hD s3 eD Cf);refine hid fun ZZ kZ=>?_;obtain ⟨la,rfl,Bi⟩:=bu hy;obtain ⟨A9,AL,Ac,e1,h1⟩:=P2.get' h Bi;refine kZ ?_;rw [Cq] at AL;cases AL;refine ⟨_,rfl,la,_,rfl,.inr (SqT.of (sx _ _ e1)),fun l hl=>hR _ l (ag hl _) hl ⟨⟨Ac,ae,h1.mono (Same.kt (sx.trans (ag hl _)))⟩,sx.free hl⟩⟩
theorem sG {σ:St} {H:Hp} {b ia:Ul} {ias:List Ul} {ins:List (UA×Int)} {bv:List V} {rows:List (List Th)} {ra:Ul} {AF:List Ul} {fin:Ul->Hp->Prop} (LH:cσ [none,some 0] σ=[none,some (.ref b)]) (eb:H b=some (.tup (.ref ia::bv))) (ei:H ia=some (.tup (ias.map V.ref))) (hk:KsAt H ins ias) (GO:ins.length<=1000) (e:H ra=some (.tup (AF.map V.ref))) (hl:rows.length=AF.length) (hn:rows.length<=1000)
 (hq:∀ (D:Ul) (H':Hp) (ls:List Ul),H D=none->L2.Same H H'->H' D=some (.lst (ls.map V.ref))->Vg (fun (_:List Th) p=>H' p=some (.lst (ins.map fun k=>V.int k.2))) rows ls->fin D H') :
 ∀ D,H D=none->∃ (n:Nat) (W:Nat->Hp->Prop),W 0 (upd H D (.lst []))/\da [none,some 0] (av 0) aU (qo [none] (yZ K (tOp (jU K) (bK 1) (tC (.int 0)))) (av 0) aU (tOp (jU K) (bK 0) (tC (.int 1)))) σ (Itt K ra) D n W fun H'=>fin D H':=by
 refine tH (F:=fun H1 (_:List Th) p=>H1 p=some (.lst (ins.map fun k=>V.int k.2))) (xs:=AF.map V.ref) rows (fun H1 H2 z p kt ho h=>ho _ h) (by rw [Ue];omega) (by rw [Ue];omega) (fun i Hx sx hi=>⟨_,_,SqT.of (sx _ _ e),Uh hi⟩) (fun Hx sx=>⟨_,SqT.of (sx _ _ e),Uq _⟩) (fun i Hx x Hy sx hi hy=>⟨hy.1,hy.2 _ (SqT.of (sx _ _ e))⟩) (fun i y z Hx R W' hy Cq sx hR=>?_) hq;rw [LH];have BQ:ins.length=ias.length:=UK hk;refine ⟨_,rfl,b,_,0,.ref ia,rfl,rfl,SqT.of (sx _ _ eb),at0,ia,rfl,⟨_,SqT.of (sx _ _ ei)⟩,?_⟩;refine gA ins (fun _=>true) (fun k=>.int k.2) (SqT.of (sx _ _ ei)) (by rw [Ue];exact BQ) (by rw [Ue];omega) (fun i x z H2 R _ _ _ r=>r) (fun i x z H2 R hx hz _ sm r=>?_) (fun D hD=>?_)
 · obtain ⟨ka,rfl,AZ⟩:=bu hx;obtain ⟨k',A7,ek⟩:=P2.get' hk AZ;rw [hz] at A7;cases A7;exact ⟨_,rfl,ka,_,1,.int z.2,rfl,rfl,SqT.of (sm _ _ (sx _ _ ek)),at1,r⟩
 · rw [filter_tt];exact hR _ D (ag hD _) hD ae
set_option maxHeartbeats 4000000 in
theorem j5:FnOk P w K mg base CX0 9 T.g__law_bad_book.f T.g__law_bad_book.d ["book","cell"] (jR K):=by
 refine T.g__law_bad_book.F.ok bJ (fun vs H Q E h=>?_) (fun Ao A outer s H vs Q E hr h=>?_)
 · obtain ⟨b,ins,outs,head,rows,cell,rfl,_⟩:=h;rfl
 obtain ⟨b,ins,outs,head,rows,cell,rfl,SM,B,Cq,hc,q⟩:=h
 refine ⟨_,(af (ar (i:=2) bJ.nd rfl (UI rfl) (ak sF (bg (aa (bg (aa (ao ay (pv 0) ad (fun _ _=>rfl)) ac)) ac)) (bP (N:=[Ug "row"]) (js:=[none]) (g:=(av 0)) (tt:=aU) (te:=(tCB (fun xs H Q=>∃ p ys,xs=[.ref p]/\(SqL K H p ys∨SqT K H p ys)/\∀ l,H l=none->Q (.ref l) (upd H l (.lst ys))) (bx (bK 0) de))) rfl (cC rfl (by decide +kernel) (by decide +kernel) rfl rfl rfl) (cY (ao ay (pv 0) ad (fun _ _=>rfl))) (fun _ _ _ _ _ _=>(aB (i:=0) zm rfl (UI rfl))) (bo rfl) (fun _ _ _ _ _ _=>bQ) (fun _ _ _ _ _ _=>(aX i3 rfl T.n_list PyProof.Rows.boot_list (aa (pv 0) ac))))))
  (af (ar (i:=3) bJ.nd rfl (UI rfl) (ak sF (bg (aa (bg (aa ad ac)) ac)) (bP (N:=[Ug "row",Ug "book"]) (js:=[none,some 0]) (g:=(av 0)) (tt:=aU) (te:=(qo [none] (yZ K (tOp (jU K) (bK 1) (tC (.int 0)))) (av 0) aU (tOp (jU K) (bK 0) (tC (.int 1))))) rfl (cC rfl (by decide +kernel) (by decide +kernel) rfl rfl rfl) (cY (ao ay (pv 0) ad (fun _ _=>rfl))) (fun _ _ _ _ _ _=>(aB (i:=0) zZ rfl (UI rfl))) (bo rfl) (fun _ _ _ _ _ _=>bQ) (fun _ _ _ _ _ _=>(bP (N:=[Ug "pair"]) (js:=[none]) (g:=(av 0)) (tt:=aU) (te:=(tOp (jU K) (bK 0) (tC (.int 1)))) rfl (cC rfl (by decide +kernel) (by decide +kernel) rfl rfl rfl) (cY (ao ay (pv 1) ad (fun _ _=>rfl))) (fun _ _ _ _ _ _=>(aB (i:=0) sH rfl (UI rfl))) (bo rfl) (fun _ _ _ _ _ _=>bQ) (fun _ _ _ _ _ _=>(ao ay (pv 0) ad (fun _ _=>rfl))))))))
  (af (ar (i:=4) bJ.nd rfl (UI rfl) (ak aK (pv 1) (aq al rfl T.n_len UL (aa (pv 2) ac))))
  (af (ar (i:=5) bJ.nd rfl (UI rfl) (ak aK (ak aQ (pv 1) ad) (aq al rfl T.n_len UL (aa (ao aG (pv 2) (pv 4) (fun _ _=>rfl)) ac))))
  (af (ar (i:=6) bJ.nd rfl (UI rfl) (ao aG (ao aG (pv 3) (pv 4) (fun _ _=>rfl)) (pv 5) (fun _ _=>rfl)))
  (af (d7 (pcF T.g__law_bad_pattern (dI T 6) hr (aa (ao aG (ao aG (pv 2) (pv 4) (fun _ _=>rfl)) (pv 5) (fun _ _=>rfl)) (aa (ak aQ (pv 1) ad) (aa (aq al rfl T.n_len UL (aa (ao ay (pv 0) ad (fun _ _=>rfl)) ac)) (aa (pv 6) (aa (ao ay (pv 0) ad (fun _ _=>rfl)) ac)))))) (gg (ao aG (pv 2) (pv 4) (fun _ _=>rfl)) (pv 5) set_list))
  (ai (aA (bi (aa (ao ay (pv 0) ad (fun _ _=>rfl)) (aa (ao ay (pv 0) ad (fun _ _=>rfl)) (aa (ao aG (ao aG (pv 2) ad (fun _ _=>rfl)) ad (fun _ _=>rfl)) (aa (aX bh rfl T.n_tuple Vn (aa (bP (N:=[Ug "row"]) (js:=[none]) (g:=(av 0)) (tt:=aU) (te:=(tCB (fun xs H Q=>∃ p ys,xs=[.ref p]/\((SqL K H p ys/\∀ l,H l=none->Q (.ref l) (upd H l (.tup ys)))∨(SqT K H p ys/\Q (.ref p) H))) (bx (bK 0) de))) rfl (cC rfl (by decide +kernel) (by decide +kernel) rfl rfl rfl) (eU (bz eQ (pv 2) (bB ad) cj)) (fun _ _ _ _ _ _=>(aB (i:=0) zm rfl (UI rfl))) (bo rfl) (fun _ _ _ _ _ _=>bQ) (fun _ _ _ _ _ _=>(aX bh rfl T.n_tuple Vn (aa (pv 0) ac)))) ac)) ac))))))))))))),?_⟩
 try dsimp only [AO,Ai]
 refine hid fun ZZ kZ=>?_;obtain ⟨ia,oa,ha,ra,ias,Ak,AF,bk⟩:=SM;refine kZ ?_;have B7:rows.length=AF.length:=UK bk.rw;have BQ:ins.length=ias.length:=UK bk.inK;have Ho:=B.gi.1.ne;have J1:=B.gi.1.le;have hf:=B.few;have MZ:(((AF.map V.ref).length:Nat):Int)=(rows.length:Nat):=by rw [Ue,B7]
 -- rows
 refine ⟨_,rfl,b,_,2,.ref ha,rfl,rfl,SqT.of bk.bk,at2,aj (by show 1<=1000000;decide),fun l1 Bl=>⟨aj (by show 1<=1000000;decide),fun l2 Bh=>?_⟩⟩;have sa:L2.Same H (upd (upd H l1 (.lst [.ref ha])) l2 (.lst [.ref l1])):=(ag Bl _).trans (ag Bh _);have KI:(upd (upd H l1 (.lst [.ref ha])) l2 (.lst [.ref l1])) l1=some (.lst [.ref ha]):=(ag Bh _) _ _ ae;have Pj:(upd (upd H l1 (.lst [.ref ha])) l2 (.lst [.ref l1])) l2=some (.lst [.ref l1]):=ae;generalize (upd (upd H l1 (.lst [.ref ha])) l2 (.lst [.ref l1]))=Ha at sa KI Pj ⊢;refine ⟨_,rfl,b,_,3,.ref ra,rfl,rfl,SqT.of (sa _ _ bk.bk),at3,ra,rfl,⟨_,SqT.of (sa _ _ bk.rl)⟩,sS (sa _ _ bk.rl) (P2.mp (fun _ _ e=>e.mono (Same.kt sa)) bk.rw) (by omega) fun D H1 ls hD s1 eD KJ=>?_⟩;have G6:rows.length=ls.length:=UK KJ;refine ⟨l2,D,_,_,rfl,rfl,s1 _ _ Pj,eD,aj (by rw [Ue];show 1+ls.length<=1000000;omega),fun l3 Ea=>?_⟩;dsimp only [av];have sc:L2.Same H1 (upd H1 l3 (.lst ([.ref l1]++ls.map V.ref))):=ag Ea _;have ec:(upd H1 l3 (.lst ([.ref l1]++ls.map V.ref))) l3=some (.lst ((l1::ls).map V.ref)):=ae;generalize (upd H1 l3 (.lst ([.ref l1]++ls.map V.ref)))=Hc at sc ec ⊢;have Pk:=sa.trans (s1.trans sc)
 -- kids
 refine ⟨aj (by show 1<=1000000;decide),fun m1 Gh=>⟨aj (by show 1<=1000000;decide),fun m2 hm2=>?_⟩⟩;have sd:L2.Same Hc (upd (upd Hc m1 (.lst [.int 1])) m2 (.lst [.ref m1])):=(ag Gh _).trans (ag hm2 _);have Pl:(upd (upd Hc m1 (.lst [.int 1])) m2 (.lst [.ref m1])) m1=some (.lst [.int 1]):=(ag hm2 _) _ _ ae;have Pm:(upd (upd Hc m1 (.lst [.int 1])) m2 (.lst [.ref m1])) m2=some (.lst [.ref m1]):=ae;generalize (upd (upd Hc m1 (.lst [.int 1])) m2 (.lst [.ref m1]))=Hd at sd Pl Pm ⊢;have Hq:=Pk.trans sd;refine ⟨_,rfl,b,_,3,.ref ra,rfl,rfl,SqT.of (Hq _ _ bk.bk),at3,ra,rfl,⟨_,SqT.of (Hq _ _ bk.rl)⟩,sG (b:=b) (ia:=ia) (ias:=ias) (ins:=ins) (rows:=rows) rfl (Hq _ _ bk.bk) (Hq _ _ bk.inE) (bk.inK.mono (Same.kt Hq)) (by omega) (Hq _ _ bk.rl) B7 (by omega) fun D2 H4 ms Ua s4 Kq Pn=>?_⟩;have O4:rows.length=ms.length:=UK Pn;refine ⟨m2,D2,_,_,rfl,rfl,s4 _ _ Pm,Kq,aj (by rw [Ue];show 1+ms.length<=1000000;omega),fun m3 KD=>?_⟩;dsimp only [av];have se:L2.Same H4 (upd H4 m3 (.lst ([.ref m1]++ms.map V.ref))):=ag KD _;have ee:(upd H4 m3 (.lst ([.ref m1]++ms.map V.ref))) m3=some (.lst ((m1::ms).map V.ref)):=ae;generalize (upd H4 m3 (.lst ([.ref m1]++ms.map V.ref)))=He at se ee ⊢;have Po:=s4.trans se;have M0:=sd.trans Po;have KL:=sc.trans M0;have Hr:=Pk.trans M0;have Ju:He l3=some (.lst ((l1::ls).map V.ref)):=M0 _ _ ec;have Ub:((l1::ls).map V.ref).length=rows.length+1:=by rw [Ue,Ui];omega
 -- at
 have Gv:(0:Int)<((((l1::ls).map V.ref).length:Nat):Int):=by omega
 have a0:=U0 cell (YB Gv);have a1:=UT cell Gv;refine ⟨_,rfl,_,rfl,l3,_,rfl,.inl (SqL.of Ju),_,_,rfl,rfl,Gv,?_⟩;obtain ⟨i,hi⟩:∃ i:Nat,cell%((((l1::ls).map V.ref).length:Nat):Int)=(i:Int):=⟨_,(Wq a0).symm⟩;rw [hi] at a1;rw [hi];have SN:i<rows.length+1:=by omega
 dsimp only [av];have Pp:H1 l1=some (.lst [.ref ha]):=s1 _ _ KI;refine hid fun ZZ kZ=>?_
 obtain ⟨AY,p,Ac,mp,kk,hp,Jp,M1,C5,Jv,M3,emp,A8,CD,Al,EJ⟩:∃ (AY:List Th) (p:Ul) (Ac:List Ul) (mp:Ul) (kk:List Int),(l1::ls)[i]?=some p/\([head]::rows)[i]?=some AY/\H1 p=some (.lst (Ac.map V.ref))/\Ats H1 AY Ac/\H p=none/\(m1::ms)[i]?=some mp/\He mp=some (.lst (kk.map V.int))/\AY.length=kk.length/\1<=AY.length/\(∀ (j:Nat) (t:Th) (m:Int),AY[j]?=some t->kk[j]?=some m->t.FitS outs (rows.length:Nat) m/\t.tall<=4/\m<=3)/\((i=0/\p=l1/\AY=[head]/\kk=[1])∨(∃ st,i=st+1/\rows[st]?=some AY/\ls[st]?=some p/\p≠l1/\kk=ins.map (·.2))):=by
  cases i with
  | zero =>
    refine ⟨[head],l1,[ha],m1,[1],rfl,rfl,Pp,.cons (bk.hd.mono (Same.kt (sa.trans s1))) .nil,Bl,rfl,Po _ _ Pl,rfl,Uq _,fun j t m ht hm=>?_,.inl ⟨rfl,rfl,rfl,rfl⟩⟩;cases j with
    | zero=>cases ht;cases hm;exact ⟨B.hd.1,B.hd.2,by decide⟩
    | succ j=>cases ht
  | succ st =>
    obtain ⟨row,Ad⟩:∃ row,rows[st]?=some row:=⟨_,Uh (by omega)⟩;obtain ⟨p,hp,⟨Ac,ep,C5⟩,Jv⟩:=P2.get KJ Ad;obtain ⟨mp,M3,emp⟩:=P2.get Pn Ad;have Gw:=B.row row (Ur Ad);refine ⟨row,p,Ac,mp,ins.map (·.2),hp,Ad,ep,C5,sa.free Jv,M3,?_,by rw [Ue];exact Gw.1,by rw [Gw.1];exact Ho,fun j t m ht hm=>?_,.inr ⟨st,rfl,Ad,hp,fun z=>?_,rfl⟩⟩
    · rw [se _ _ emp,We];rfl
    · rw [Ut] at hm;obtain ⟨k,hk,rfl⟩:=VR.mp hm;have:=Gw.2 j t k ht hk;exact ⟨this.1,this.2,(B.gi.1.num k (Ur hk)).2⟩
    · rw [z,KI] at Jv;cases Jv
 refine kZ ?_;have SO:p≠l3:=fun z=>by rw [z,Ea] at M1;cases M1
 have ep:He p=some (.lst (Ac.map V.ref)):=KL _ _ M1;have FD:Ats He AY Ac:=C5.mono (Same.kt KL);have BE:=C5.length;have M4:atI ((l1::ls).map V.ref) (i:Int)=some (.ref p):=cD (by rw [Ut,hp];rfl);have SQ:atI ((m1::ms).map V.ref) (i:Int)=some (.ref mp):=cD (by rw [Ut,M3];rfl);have SR:(Ac.map V.ref).length=AY.length:=by rw [Ue];omega
 have M5:(0:Int)<(((Ac.map V.ref).length:Nat):Int):=by omega
 have b0:=U0 (cell / 7) (YB M5);have b1:=UT (cell / 7) M5;refine ⟨_,rfl,_,_,rfl,rfl,⟨by decide,by decide⟩,_,rfl,_,rfl,l3,_,_,.ref p,rfl,rfl,SqL.of Ju,M4,p,_,rfl,.inl (SqL.of ep),_,_,rfl,rfl,M5,?_⟩;obtain ⟨j,hj⟩:∃ j:Nat,cell / 7%(((Ac.map V.ref).length:Nat):Int)=(j:Int):=⟨_,(Wq b0).symm⟩;rw [hj] at b1;rw [hj];have Dk:j<AY.length:=by omega
 dsimp only [av];refine hid fun ZZ kZ=>?_;obtain ⟨t,ht⟩:∃ t,AY[j]?=some t:=⟨_,Uh Dk⟩;obtain ⟨m,hm⟩:∃ m,kk[j]?=some m:=⟨_,Uh (by omega)⟩;obtain ⟨ta,Jw⟩:∃ ta,Ac[j]?=some ta:=⟨_,Uh (by omega)⟩;obtain ⟨t0,Ka,AI⟩:=FD.get Jw;rw [ht] at Ka;cases Ka;obtain ⟨Pq,SS,SU⟩:=Al j t m ht hm;refine kZ ?_;have Pr:=i7 B.go.1 Pq SS;refine ⟨_,rfl,_,rfl,m3,_,_,.ref mp,rfl,rfl,SqL.of ee,SQ,_,rfl,mp,_,_,.int m,rfl,rfl,SqL.of emp,cD (by rw [Ut,hm];rfl),?_⟩;dsimp only [av];have SV:atI (Ac.map V.ref) (j:Int)=some (.ref ta):=cD (by rw [Ut,Jw];rfl);refine ⟨_,rfl,_,rfl,l3,_,_,.ref p,rfl,rfl,SqL.of Ju,M4,_,rfl,p,_,_,.ref ta,rfl,rfl,SqL.of ep,SV,_,rfl,_,_,rfl,rfl,⟨by decide,by decide⟩,_,rfl,b,_,3,.ref ra,rfl,rfl,SqT.of (Hr _ _ bk.bk),at3,ra,_,rfl,.inr (SqT.of (Hr _ _ bk.rl)),_,rfl,_,rfl,b,_,1,.ref oa,rfl,rfl,SqT.of (Hr _ _ bk.bk),at1,?_⟩;rw [MZ];refine ⟨ta,oa,Ak,outs,t,_,_,m,rfl,AI,by omega,by omega,Pq,Hr _ _ bk.outE,bk.outK.mono (Same.kt Hr),B.go,Cq,Xy hc (by decide),⟨by omega,by omega⟩,fun r2 t2 H5 s5 h2 Bg=>?_⟩;refine ⟨_,rfl,_,rfl,l3,_,_,.ref p,rfl,rfl,SqL.of (s5 _ _ Ju),M4,_,rfl,p,_,(j:Int),j,rfl,rfl,s5 _ _ ep,sC (by rw [SR];exact Dk),?_⟩;have kt:KT H5 (upd H5 p (.lst ((Ac.map V.ref).set j (.ref r2)))):=bp (s5 _ _ ep);have sf:L2.Same H (upd H5 p (.lst ((Ac.map V.ref).set j (.ref r2)))):=aI (Hr.trans s5) Jv;have Gx:(upd H5 p (.lst ((Ac.map V.ref).set j (.ref r2)))) l3=some (.lst ((l1::ls).map V.ref)):=by rw [au SO.symm];exact s5 _ _ Ju
 have M6:(upd H5 p (.lst ((Ac.map V.ref).set j (.ref r2)))) p=some (.lst ((Ac.set j r2).map V.ref)):=by rw [ae,Y6]
 have Jx:∀ (row:List Th) (a:Ul),a≠p->LRow H1 row a->LRow (upd H5 p (.lst ((Ac.map V.ref).set j (.ref r2)))) row a:=fun row a SW h=>(h.mono (KL.trans s5)).keep kt fun o ho=>by rw [au SW];exact ho
 have Jy:p≠l1->(upd H5 p (.lst ((Ac.map V.ref).set j (.ref r2)))) l1=some (.lst [.ref ha]):=fun hn=>by rw [au hn.symm];exact s5 _ _ (KL _ _ Pp)
 generalize (upd H5 p (.lst ((Ac.map V.ref).set j (.ref r2))))=Hf at kt sf Gx M6 Jx Jy ⊢;have FT:LRow Hf (AY.set j t2) p:=⟨_,M6,((FD.mono (Same.kt s5)).mono kt).set _ (h2.mono kt)⟩;have M7:=kC Jx FT KJ
 have M8:∀ a∈ls,a≠l1:=fun a Eo z=>by
  obtain ⟨x,hx⟩:=Vj.mp Eo;obtain ⟨_,_,_,hn⟩:=P2.get' KJ hx;rw [z,KI] at hn;cases hn
 have SX:head.Wr/\head.tall<=5/\head.size<=122:=⟨n0 (nF B.go (by omega) (by decide) B.hd.1),by have:=B.hd.2;omega,by have:=i7 B.go.1 B.hd.1 B.hd.2;omega⟩
 have Gy:∀ row∈rows,row.length=ins.length/\∀ t∈row,t.Wr/\t.tall<=5/\t.size<=122:=fun row hr=>by
  obtain ⟨h1,h2⟩:=B.row row hr;refine ⟨h1,fun u hu=>?_⟩;obtain ⟨x,hx⟩:=Vj.mp hu;have EW:=(Uz.mp hx).1;obtain ⟨k,hk⟩:∃ k,ins[x]?=some k:=⟨_,Uh (by omega)⟩;have h3:=h2 x u k hx hk;have hn:=(B.gi.1.num k (Ur hk)).2;exact ⟨n0 (nF B.go (by omega) (by omega) h3.1),by omega,by have:=i7 B.go.1 h3.1 h3.2;omega⟩
 have Pt:t2.Wr/\t2.tall<=5/\t2.size<=122:=⟨Bg.wr,by have:=Bg.tall;omega,by have:=Bg.size;omega⟩;have BV:=ql (p:=p) (new:=AY.set j t2) G6;refine hid fun ZZ kZ=>?_
 obtain ⟨E8,Eo,SY,M9,Jz⟩:∃ (E8:Th) (Eo:Ul),Hf l1=some (.lst [.ref Eo])/\At Hf E8 Eo/\aaw ins outs rows.length E8 (fI p (AY.set j t2) rows ls):=by
  rcases EJ with ⟨h0,h1,B3,h3⟩ | ⟨st,h0,Ad,Bj,Gs,h3⟩
  · subst h1;subst B3;subst h3;have Fw:j=0:=by have:j<1:=Dk;omega
    subst Fw;cases hm
    have BU:∃ x,Ac=[x]:=by
     have:Ac.length=1:=BE
     match Ac,this with
     | [x],_=>exact ⟨x,rfl⟩
    obtain ⟨x,rfl⟩:=BU;have EU:fI p ([head].set 0 t2) rows ls=rows:=nS G6 M8;refine ⟨t2,r2,M6,h2.mono kt,⟨Pt,by rw [BV],by rw [EU];exact Gy,fun hok=>?_⟩⟩;have h6:=hok.2.1.2;rw [BV,Bg.no] at h6;cases h6
  · refine ⟨head,ha,Jy Gs,(bk.hd.mono (Same.kt sf)),⟨SX,by rw [BV],fun A9 Bv=>?_,fun hok=>?_⟩⟩
    · rcases qX Bv with z | z
      · have hold:=Gy AY (Ur Ad);rw [z,W6];refine ⟨hold.1,fun u hu=>?_⟩;rcases XR hu with hu | rfl
        · exact hold.2 u hu
        · exact Pt
      · exact Gy A9 z
    · have h5:=hok.2.2 (AY.set j t2) (Ur (pV Ad Bj));rw [h3,Ut] at hm;obtain ⟨k,hk,rfl⟩:=VR.mp hm;have h6:=(h5.2 j t2 k (VZ Dk) hk).2;rw [BV,Bg.no] at h6;cases h6
 refine kZ ?_;generalize fI p (AY.set j t2) rows ls=RR at M7 Jz;have G9:RR.length=ls.length:=UK M7;refine ⟨_,rfl,b,_,0,.ref ia,rfl,rfl,SqT.of (sf _ _ bk.bk),at0,_,rfl,b,_,1,.ref oa,rfl,rfl,SqT.of (sf _ _ bk.bk),at1,_,rfl,l3,_,0,.ref l1,rfl,rfl,SqL.of Gx,at0,l1,_,0,.ref Eo,rfl,rfl,SqL.of SY,at0,_,rfl,_,rfl,l3,_,rfl,SqL.of Gx,fun c1 S5=>?_⟩;rw [show (1:Int)=((1:Nat):Int) by rfl,iz,UB,XX,VW];have sg:L2.Same Hf (upd Hf c1 (.lst (ls.map V.ref))):=ag S5 _;have eg:(upd Hf c1 (.lst (ls.map V.ref))) c1=some (.lst (ls.map V.ref)):=ae;generalize (upd Hf c1 (.lst (ls.map V.ref)))=Hg at sg eg ⊢;have S6:Vg (SRow Hg) RR ls:=P2.mp (fun _ _ e=>e.mono sg) M7;refine ⟨c1,rfl,⟨_,SqL.of eg⟩,fO (F:=BB.RowAt) (xs:=ls.map V.ref) RR (fun H1 H2 z p kt h=>h.mono kt) (by rw [Ue];exact G9) (by rw [Ue];omega) (fun i Hx sx hi=>⟨_,_,SqL.of (sx _ _ eg),Uh hi⟩) (fun Hx sx=>⟨_,SqL.of (sx _ _ eg),Uq _⟩) (fun i Hx x Hy sx hi hy=>⟨hy.1,hy.2 _ (SqL.of (sx _ _ eg))⟩) (fun i y z Hx R W' hy M' sx hR=>?_) fun D3 H7 bs Rp s7 S7 Na=>?_⟩
 · refine hid fun ZZ kZ=>?_;obtain ⟨la,rfl,Bi⟩:=bu hy;obtain ⟨A9,AL,DF,CZ,B5⟩:=P2.get' S6 Bi;refine kZ ?_;rw [M'] at AL;cases AL;rcases CZ with CZ | CZ
   · exact ⟨_,rfl,la,_,rfl,.inl ⟨SqL.of (sx _ _ CZ),fun l hl=>hR _ l (ag hl _) ⟨DF,ae,B5.mono (Same.kt (sx.trans (ag hl _)))⟩⟩⟩
   · exact ⟨_,rfl,la,_,rfl,.inr ⟨SqT.of (sx _ _ CZ),hR _ la (.refl _) ⟨DF,sx _ _ CZ,B5.mono (Same.kt sx)⟩⟩⟩
 · refine ⟨D3,_,rfl,.inl ⟨SqL.of S7,fun r3 Ey=>?_⟩⟩;have s8:=ag Ey (.tup (bs.map V.ref));refine ⟨aj (by show 4<=1000000;decide),fun r Bv=>?_⟩;have s9:=ag Bv (.tup [.ref ia,.ref oa,.ref Eo,.ref r3]);have Pu:=sg.trans (s7.trans (s8.trans s9));have JA:=sf.trans Pu;exact q r E8 RR _ JA ⟨ia,oa,Eo,r3,ias,Ak,bs,⟨ae,JA _ _ bk.inE,bk.inK.mono (Same.kt JA),JA _ _ bk.outE,bk.outK.mono (Same.kt JA),M9.mono (Same.kt Pu),s9 _ _ ae,P2.mp (fun _ _ e=>e.mono (Same.kt (s8.trans s9))) Na⟩⟩ Jz
theorem yj (l:List Nat):pw (bL l)=(W4 l).map ofL:=by
 unfold pw bL
 have e:((wds l).map ofL).map sL=wds l:=by
  rw [We]
  conv=>rhs;rw [<- List.map_id (wds l)]
  exact Xj fun x _=>aM x
 rw [e];congr 1
 have h:∀ L:List (List Nat),((L.filter fun p=>!p.isEmpty).map W4).flatten=(L.map W4).flatten:=fun L=>by
  induction L with
  | nil=>rfl
  | cons x L ih =>
    rw [Xp];cases x with
    | nil =>
      rw [if_neg (by simp),ih];rfl
    | cons c x=>rw [if_pos (by simp),UB,U4,ih];rfl
 rw [vN];unfold wds;rw [h,<- vN,qU]
theorem oY (a b:List Nat):bL (a++32::b)=bL a++bL b:=by
 unfold bL;rw [lz,UC]
theorem pc {w:UA} (h:Uw w):bL (sL w)=[w]:=by
 unfold bL;rw [tf h];show [ofL (sL w)]=[w];rw [show ofL (sL w)=w from iM w]
def u5 (w:List Nat):Bool:=match aH 47 w with
 | [a,b]=>aS (ofL a) && isNum (ofL b)
 | _=>false
theorem aaY {w:UA} {k:UA×Int} (h:KdOf w k):u5 (sL w)=true:=by
 obtain ⟨rfl,h1,h2⟩:=h;unfold u5;have hn:=(dt h2).1;rw [dB,fE,cT 47 _ (lE h1),cT 47 _ (fun d hd=>by have:=hn d hd;omega)];show (aS (ofL (sL k.1)) && isNum (ofL (sL (aV k.2))))=true;rw [show ofL (sL k.1)=k.1 from iM _,show ofL (sL (aV k.2))=aV k.2 from iM _,h1,(ma h2).2];rfl
def nB (r:List Nat):Bool:=match bL r with
 | []=>false
 | f::ws=>if f=Ug "in"∨f=Ug "out" then !ws.isEmpty && ws.all (fun w=>u5 (sL w)) else if f=Ug "head" then n9 (pw ws) else if f=Ug "rule" then (match ws with | s::_::xs=>isNum s && n9 (pw xs) | _=>false) else false
theorem zw:Ug "in"≠Ug "out"/\Ug "in"≠Ug "head"/\Ug "in"≠Ug "rule"/\Ug "out"≠Ug "head"/\Ug "out"≠Ug "rule"/\Ug "head"≠Ug "rule":=by decide +kernel
def RowAt (ins:List (UA×Int)) (p:Nat) (r:List Nat):Prop:=match p with
 | 0=>∃ ks,KindsOf (Ug "in") (bL r) ks
 | 1=>∃ ks,KindsOf (Ug "out") (bL r) ks
 | 2=>∃ t,HeadOf (bL r) t
 | j+3=>∃ k t,ins[j%ins.length]?=some k/\RuleOf ((j / ins.length:Nat):Int) k.1 (bL r) t
theorem t6 {ws:List UA} {t:Th} (h:jy ws t):n9 ws=true:=by
 obtain ⟨a,b,_⟩:=nz.mp h;rw [a];exact pU (xS b)
theorem kD {f:UA} (hf:f=Ug "in"∨f=Ug "out") {r:List Nat} {ks:List (UA×Int)} (h:KindsOf f (bL r) ks):nB r=true:=by
 obtain ⟨rest,e,Au,hp⟩:=h;unfold nB;rw [e];show (if f=_∨f=_ then _ else _)=true;rw [if_pos hf];cases rest with
 | nil=>exact absurd rfl Au
 | cons x rest =>
   show (true && _)=true;rw [Xz,Vo];intro w hw;refine hid fun ZZ kZ=>?_;obtain ⟨j,hj⟩:=Vj.mp hw;obtain ⟨k,_,hk⟩:=P2.get hp hj;refine kZ ?_;exact aaY hk
theorem v8 {ins:List (UA×Int)} {p:Nat} {r:List Nat} (h:RowAt ins p r):nB r=true:=by
 refine hid fun ZZ kZ=>?_;obtain ⟨k1,k2,k3,k4,k5,k6⟩:=zw;refine kZ ?_
 match p,h with
 | 0,⟨ks,h⟩=>exact kD (.inl rfl) h
 | 1,⟨ks,h⟩=>exact kD (.inr rfl) h
 | 2,⟨t,rest,e,hp⟩ =>
   unfold nB;rw [e];show (if Ug "head"=_∨Ug "head"=_ then _ else _)=true;rw [if_neg (fun z=>z.elim (fun z=>k2 z.symm) (fun z=>k4 z.symm)),if_pos rfl];exact t6 hp
 | j+3,⟨k,t,_,rest,e,_,hs,hp⟩ =>
   unfold nB;rw [e];show (if Ug "rule"=_∨Ug "rule"=_ then _ else _)=true;rw [if_neg (fun z=>z.elim (fun z=>k3 z.symm) (fun z=>k5 z.symm)),if_neg (fun z=>k6 z.symm),if_pos rfl];show (isNum _ && n9 _)=true;rw [(ma hs).2,t6 hp];rfl
theorem uC {z:UA} {odd:List UA} (hz:aH 10 (sL z)=odd.map sL) {ins outs:List (UA×Int)} {head:Th} {rows:List (List Th)} (hb:cJ z ins outs head rows):3<=odd.length/\ins≠[]/\(odd.length - 3)%ins.length=0/\(∀ (p:Nat) (r:UA),odd[p]?=some r->RowAt ins p (sL r))/\∃ r0,odd[0]?=some r0/\KindsOf (Ug "in") (bL (sL r0)) ins:=by
 match hb with
 | ⟨r0,r1,r2,rest,e,h1,h2,h3,h4⟩ =>
   rw [e] at hz;have hlen:=congrArg WD hz;rw [Ue,Ui,Ui,Ui] at hlen
   have Au:ins≠[]:=by
    match h1 with
    | ⟨rs,_,Nb,hp⟩=>exact fun z=>Nb (U9.mp (by rw [UK hp,z];rfl))
   have hn:0<ins.length:=VQ.mpr Au;have Hj:=h4.len;rw [Ue] at Hj;have Ce:∀ {p:Nat} {r:UA},odd[p]?=some r->(r0::r1::r2::rest)[p]?=some (sL r):=fun {p r} hr=>by rw [hz,Ut,hr];rfl
   refine ⟨by omega,Au,by rw [<- hlen];show (rest.length+1+1+1 - 3)%_=0;rw [show rest.length+1+1+1 - 3=rest.length by omega,Hj,Nat.mul_mod_left],fun p r hr=>?_,?_⟩
   · have hg:=Ce hr
     match p with
     | 0=>rw [<- UD hg];exact ⟨ins,h1⟩
     | 1=>rw [<- UD hg];exact ⟨outs,h2⟩
     | 2=>rw [<- UD hg];exact ⟨head,h3⟩
     | j+3 =>
       have J0:rest[j]?=some (sL r):=hg;have Dk:=(Uz.mp J0).1;rw [Hj] at Dk;have hs:j / ins.length<rows.length:=Zl (by rw [XO];exact Dk);have hj:j%ins.length<ins.length:=Nat.mod_lt _ hn;refine hid fun ZZ kZ=>?_;obtain ⟨row,Ad⟩:∃ row,rows[j / ins.length]?=some row:=⟨_,Uh hs⟩;have B7:=h4.row row (Ur Ad);obtain ⟨t,ht⟩:∃ t,row[j%ins.length]?=some t:=⟨_,Uh (by omega)⟩;obtain ⟨k,hk⟩:∃ k,ins[j%ins.length]?=some k:=⟨_,Uh hj⟩;obtain ⟨ws,B2,Pw,_⟩:=h4.w _ _ row t k Ad ht hk;refine kZ ?_;have Me:j / ins.length * ins.length+j%ins.length=j:=by rw [XO,Nat.div_add_mod]
       rw [Me,Ut,J0] at B2;rw [<- UD B2] at Pw;exact ⟨k,t,hk,Pw⟩
   · obtain ⟨a,ha⟩:∃ a,odd[0]?=some a:=⟨_,Uh (by omega)⟩;have hg:=Ce ha;refine ⟨a,ha,?_⟩;rw [<- UD hg];exact h1
section
variable {ins outs:List (UA×Int)} {head:Th} {rows:List (List Th)}
theorem wG (l:List Nat):bL (sL (Ug "head")++32::l)=Ug "head"::bL l:=by
 rw [oY,pc kS.2.2.1];rfl
theorem wW {st:Int} (hs:0<=st/\st<1000) {n:UA} (hn:aS n=true) (l:List Nat):bL (sL (Ug "rule")++32::(sL (aV st)++32::(sL n++32::l)))=Ug "rule"::aV st::n::bL l:=by
 rw [oY,oY,oY,pc kS.2.2.2,pc (yG hs),pc (xo hn)];rfl
end
theorem HeadOf.uniq {ws:List UA} {t u:Th} (h:HeadOf ws t) (h':HeadOf ws u):t=u:=by
 obtain ⟨r,e,h1,h2⟩:=h;refine hid fun ZZ kZ=>?_;obtain ⟨r',e',h3,h4⟩:=h';refine kZ ?_;rw [e] at e';have:r=r':=(U7 e').2;subst this;exact tz h2 h4 (UD (h1.symm.trans h3))
theorem rB {ins:List (UA×Int)} {WR:List (List UA)} (Au:ins≠[]) {rows AW:List (List Th)} (h:fM ins rows WR) (h':fM ins AW WR):rows=AW:=by
 have hn:0<ins.length:=VQ.mpr Au;have hl:rows.length=AW.length:=Nat.eq_of_mul_eq_mul_right hn (h.len.symm.trans h'.len);refine Yh fun s=>?_;by_cases hs:s<rows.length
 · obtain ⟨row,Ad⟩:∃ row,rows[s]?=some row:=⟨_,Uh hs⟩;obtain ⟨A9,AL⟩:∃ row,AW[s]?=some row:=⟨_,Uh (by omega)⟩;rw [Ad,AL];have l1:=h.row row (Ur Ad);have l2:=h'.row A9 (Ur AL);congr 1;refine Yh fun j=>?_;by_cases hj:j<ins.length
   · refine hid fun ZZ kZ=>?_;obtain ⟨t,ht⟩:∃ t,row[j]?=some t:=⟨_,Uh (by omega)⟩;obtain ⟨t',CG⟩:∃ t,A9[j]?=some t:=⟨_,Uh (by omega)⟩;obtain ⟨k,hk⟩:∃ k,ins[j]?=some k:=⟨_,Uh hj⟩;obtain ⟨ws,e1,r1,_⟩:=h.w s j row t k Ad ht hk;obtain ⟨DE,e2,r2,_⟩:=h'.w s j A9 t' k AL CG hk;refine kZ ?_;rw [e1] at e2;cases e2;rw [ht,CG,r1.uniq r2]
   · rw [VV (by omega),VV (by omega)]
 · rw [VV (by omega),VV (by omega)]
theorem j6 {z:UA} {ins outs JB FE:List (UA×Int)} {head head':Th} {rows AW:List (List Th)}:cJ z ins outs head rows->cJ z JB FE head' AW->ins=JB/\outs=FE/\head=head'/\rows=AW
 | ⟨r0,r1,r2,rest,e,h1,h2,h3,h4⟩,⟨MC,DQ,MD,Dm,e',B5,B3,Kr,Px⟩=>by
   have e2:=e.symm.trans e';have x0:=(U7 e2).1;have x1:=(U7 (U7 e2).2).1;have x2:=(U7 (U7 (U7 e2).2).2).1;have x3:=(U7 (U7 (U7 e2).2).2).2;rw [<- x0] at B5;rw [<- x1] at B3;rw [<- x2] at Kr;have ei:=KindsOf.uniq h1 B5;rw [<- x3,<- ei] at Px
   have Au:ins≠[]:=by
    match h1 with
    | ⟨rs,_,Nb,hp⟩=>exact fun z=>Nb (U9.mp (by rw [UK hp,z];rfl))
   exact ⟨ei,KindsOf.uniq h2 B3,h3.uniq Kr,rB Au h4 Px⟩
inductive iq (K:Uj) (vs:List V) (H:Hp) (Q:VK) (_E:XK):Prop
 | mk (z:UA) (ins outs:List (UA×Int)) (head:Th) (rows:List (List Th)) (Aw:vs=[.str z]) (Ax:pG z) (AE:cJ z ins outs head rows) (AQ:aD ins=true) (Bx:aD outs=true) (B':cX ins outs head rows) (DW:∀ (r:Ul) (H':Hp),L2.Same H H'->Q (.ref r) H'):iq K vs H Q _E
def oN (K:Uj):Sp:=iq K
def jJ (z:UA) (bs:List Bool):Prop:=((∀ ins outs head rows,¬ cJ z ins outs head rows)/\bs=[false,false,true])∨∃ ins outs head rows,cJ z ins outs head rows/\((¬ (aD ins=true/\aD outs=true)/\bs=[true,false,false])∨(aD ins=true/\aD outs=true/\¬ cX ins outs head rows/\bs=[false,true,false])∨(aD ins=true/\aD outs=true/\cX ins outs head rows/\bs=[]))
def li (K:Uj):Sp:=fun vs H Q _=>∃ z:UA,vs=[.str z]/\pG z/\∀ (r:Ul) (bs:List Bool) (H':Hp),L2.Same H H'->H' r=some (.lst (bs.map V.bl))->jJ z bs->Q (.ref r) H'
theorem oE:FnOk P w K mg base CX0 8 T.g_read_book.f T.g_read_book.d ["text"] (oN K) :=
 (ir T).x0 fun vs H Q E h=>by
  obtain ⟨z,ins,outs,head,rows,rfl,hz,hb,gi,go,ok,q⟩:=h;refine ⟨z,rfl,hz,fun i o hd rs _ _ _ _ r H' s _=>q r H' s,fun i o hd rs BA Az H' s=>?_,fun i o hd rs BA _ _ Az H' s=>?_,fun Az H' s=>Az _ _ _ _ hb⟩
  · refine hid fun ZZ kZ=>?_;obtain ⟨e1,e2,e3,e4⟩:=j6 hb BA;refine kZ ?_;rw [<- e1,<- e2] at Az;exact Az ⟨gi,go⟩
  · refine hid fun ZZ kZ=>?_;obtain ⟨e1,e2,e3,e4⟩:=j6 hb BA;refine kZ ?_;rw [<- e1,<- e2,<- e3,<- e4] at Az;exact Az ok
set_option maxHeartbeats 2000000 in
theorem cL:FnOk P w K mg base CX0 9 T.g__law_refused.f T.g__law_refused.d ["text"] (li K):=by
 refine T.g__law_refused.F.ok cq (fun vs H Q E h=>?_) (fun Ao A outer s H vs Q E hr h=>?_)
 · obtain ⟨z,rfl,_⟩:=h;rfl
 obtain ⟨z,rfl,hz,k⟩:=h
 refine ⟨_,(af (ar (i:=1) cq.nd rfl (UI rfl) (bg ac))
  (af (uN (Ch:=T.e_BookError) (i:=2) (tb:=fun R=>(wg (v4 (ii K T.e_NoText T.e_NoKinds T.e_NoBook) [] R (bx (bK 0) de)))) (ts:=fun ea C=>(wy (uj (tCB (v7 K ea C) (bx (bK 2) (bx (tC (.ref T.e_NoText)) de))) (av 3)) (wy (yR (zC (fun σ H Q=>(tCB (v7 K ea C) (bx (bK 2) (bx (tC (.ty "ValueError")) de))) σ H fun x H1=>∃ k,ze K x H1 k/\Q k H1)) (aah (vi de)) cG) (uj (vi (bx (tCB (v7 K ea C) (bx (bK 2) (bx (tC (.ref T.e_NoKinds)) de))) (bx (tCB (v7 K ea C) (bx (bK 2) (bx (tC (.ref T.e_NoBook)) de))) (bx (bK 3) de)))) (av 1))))) (fun pins R=>(ai (ba (ww (ir T) (hr.mono (by first | decide | omega)) rfl T.g_read_book.m T.g_read_book.F.kp T.g_read_book.b .nil (aa (pv 0) ac))))) (fun ea oe C EC hX=>(af (ar (i:=3) cq.nd rfl (UI rfl) (aq (jl gW EC hX) rfl T.n_isinstance Vw (aa (pv 2) (aa (ck (v:=.ref T.e_NoText) rfl T.x_NoText rfl) ac))))
  (af (aN (cO (aZ (aq (jl gW EC hX) rfl T.n_isinstance Vw (aa (pv 2) (aa (fD (v:=.ty "ValueError") rfl T.n_ValueError PyProof.Rows.Boot.«ValueError» rfl) ac))) (fun _=>rfl))) (ai (aA (bg ac))) aE)
  (ai (ar (i:=1) cq.nd rfl (UI rfl) (bg (aa (aq (jl gW EC hX) rfl T.n_isinstance Vw (aa (pv 2) (aa (ck (v:=.ref T.e_NoKinds) rfl T.x_NoKinds rfl) ac))) (aa (aq (jl gW EC hX) rfl T.n_isinstance Vw (aa (pv 2) (aa (ck (v:=.ref T.e_NoBook) rfl T.x_NoBook rfl) ac))) (aa (pv 3) ac))))))))) cq.nd rfl rfl rfl rfl rfl T.x_BookError)
  (ai (aA (pv 1))))),?_⟩
 try dsimp only [AO,Ai]
 refine ⟨aj (by show 0<=1000000;decide),fun sa L6=>?_⟩;have s1:=ag L6 (.lst []);have e1:(upd H sa (.lst [])) sa=some (.lst (([]:List Bool).map V.bl)):=ae;generalize upd H sa (.lst [])=H1 at s1 e1 ⊢;dsimp only [av,wy];refine uG (fun AX c H2=>An3 (AX=[some (.str z),some (.ref sa),none,none]) (L2.Same H1 H2) (((c=.ref T.e_NoText/\jJ z [false,false,true])∨(c=.ref T.e_NoKinds/\jJ z [true,false,false])∨(c=.ref T.e_NoBook/\jJ z [false,true,false])))) (fun R' hR=>?_) ?_
 · refine ⟨_,rfl,z,rfl,hz,fun ins outs head rows hb gi go ok r H2 s2 _=>?_,fun ins outs head rows hb Az H2 s2=>hR _ _ _ ⟨rfl,s2,.inr (.inl ⟨rfl,.inr ⟨ins,outs,head,rows,hb,.inl ⟨Az,rfl⟩⟩⟩)⟩,fun ins outs head rows hb gi go Az H2 s2=>hR _ _ _ ⟨rfl,s2,.inr (.inr ⟨rfl,.inr ⟨ins,outs,head,rows,hb,.inr (.inl ⟨gi,go,Az,rfl⟩)⟩⟩)⟩,fun Az H2 s2=>hR _ _ _ ⟨rfl,s2,.inl ⟨rfl,.inl ⟨Az,rfl⟩⟩⟩⟩;exact ⟨_,rfl,k sa [] H2 (s1.trans s2) (s2 _ _ e1) (.inr ⟨ins,outs,head,rows,hb,.inr (.inr ⟨gi,go,ok,rfl⟩)⟩)⟩
 · rintro AX c H2 ⟨rfl,s2,GI⟩;rcases GI with ⟨rfl,ht⟩ | ⟨rfl,ht⟩ | ⟨rfl,ht⟩
   · refine ⟨_,rfl,⟨T.X_NoText,T.hit_NoText_BookError⟩,fun ea Py=>?_⟩;refine ⟨_,rfl,_,_,rfl,T.kit_NoText_NoText,?_⟩;dsimp only [av];refine ⟨_,rfl,_,_,rfl,T.kit_NoText_ValueError,_,rfl,?_⟩;refine bH ?_;dsimp only [cG];refine ⟨_,rfl,_,_,rfl,T.kit_NoText_NoKinds,_,rfl,_,_,rfl,T.kit_NoText_NoBook,_,rfl,aj (by show 3<=1000000;decide),fun la Bi=>?_⟩;dsimp only [av];exact ⟨_,rfl,k la [false,false,true] _ (s1.trans (s2.trans (ag Bi _))) ae ht⟩
   · refine ⟨_,rfl,⟨T.X_NoKinds,T.hit_NoKinds_BookError⟩,fun ea Py=>?_⟩;refine ⟨_,rfl,_,_,rfl,T.kit_NoKinds_NoText,?_⟩;dsimp only [av];refine ⟨_,rfl,_,_,rfl,T.kit_NoKinds_ValueError,_,rfl,?_⟩;refine bH ?_;dsimp only [cG];refine ⟨_,rfl,_,_,rfl,T.kit_NoKinds_NoKinds,_,rfl,_,_,rfl,T.kit_NoKinds_NoBook,_,rfl,aj (by show 3<=1000000;decide),fun la Bi=>?_⟩;dsimp only [av];exact ⟨_,rfl,k la [true,false,false] _ (s1.trans (s2.trans (ag Bi _))) ae ht⟩
   · refine ⟨_,rfl,⟨T.X_NoBook,T.hit_NoBook_BookError⟩,fun ea Py=>?_⟩;refine ⟨_,rfl,_,_,rfl,T.kit_NoBook_NoText,?_⟩;dsimp only [av];refine ⟨_,rfl,_,_,rfl,T.kit_NoBook_ValueError,_,rfl,?_⟩;refine bH ?_;dsimp only [cG];refine ⟨_,rfl,_,_,rfl,T.kit_NoBook_NoKinds,_,rfl,_,_,rfl,T.kit_NoBook_NoBook,_,rfl,aj (by show 3<=1000000;decide),fun la Bi=>?_⟩;dsimp only [av];exact ⟨_,rfl,k la [false,true,false] _ (s1.trans (s2.trans (ag Bi _))) ae ht⟩
def Fn (m:Nat) (r:UA):Prop:=r.length<=m/\∀ c∈sL r,c≠10
theorem j8 {L:List UA} (Au:L≠[]) (hn:L.length<=100) (h:∀ r∈L,Fn 1600 r):aH 10 (sL (VG dL L))=L.map sL/\pG (VG dL L)/\(L.map (·.length)).sum+L.length * dL.length<=16777216:=by
 have e:aH 10 (sL (VG dL L))=L.map sL:=by
  rw [xM];refine qx (fun z=>Au (Zu.mp z)) fun l hl c hc=>?_;obtain ⟨r,hr,rfl⟩:=Vq.mp hl;exact (h r hr).2 c hc
 have B7:∀ r∈aH 10 (sL (VG dL L)),r.length<=1600:=fun r hr=>by
  rw [e] at hr;obtain ⟨x,hx,rfl⟩:=Vq.mp hr;rw [fu];exact (h x hx).1
 have hle:∀ L:List (List Nat),(∀ r∈L,r.length<=1600)->(L.map fun p=>p.length+1).sum<=1601 * L.length:=fun L=>by
  induction L with
  | nil=>exact fun _=>Uq _
  | cons l L ih =>
    intro h;have h3:=h l (Uy ..);have h4:=ih fun m hm=>h m (Uv _ hm);rw [UB,V7,Ui,ZW];omega
 have h5:=hle _ B7;have h6:(aH 10 (sL (VG dL L))).length=L.length:=by rw [e,Ue]
 rw [gU,fu,h6] at h5;refine ⟨e,⟨by omega,fun r hr=>by have:=B7 r hr;omega,fun r hr=>by have:=B7 r (V6 hr);omega,by omega⟩,?_⟩
 have Jc:∀ L:List UA,(∀ r∈L,Fn 1600 r)->(L.map (·.length)).sum<=1600 * L.length:=fun L=>by
  induction L with
  | nil=>exact fun _=>Uq _
  | cons l L ih =>
    intro h;have h3:=(h l (Uy ..)).1;have h4:=ih fun m hm=>h m (Uv _ hm);rw [UB,V7,Ui,ZW];omega
 have h7:=Jc L h;have h8:dL.length=1:=by decide +kernel
 rw [h8];omega
structure Tx (ins outs:List (UA×Int)) (head:Th) (rows:List (List Th)):Prop where
 gi:∀ k∈ins,cU k
 go:∀ k∈outs,cU k
 ine:ins≠[]
 one:outs≠[]
 i9:ins.length<=9
 o9:outs.length<=9
 few:rows.length<=4
 hd:head.Wr/\head.tall<=5/\head.size<=122
 row:∀ row∈rows,row.length=ins.length/\∀ t∈row,t.Wr/\t.tall<=5/\t.size<=122
theorem qw {f:UA} (hf:Uw f) {ks:List (UA×Int)} (hk:∀ k∈ks,cU k):bL (sL (aT f ks))=f::ks.map cm:=by
 rw [show sL (aT f ks)=jn ((f::ks.map cm).map sL) from gL _];refine aaa fun w hw=>?_;rcases UH.mp hw with rfl | hw
 · exact hf
 · obtain ⟨k,Dp,rfl⟩:=Vq.mp hw;exact tV (hk k Dp)
theorem tF {t:Th} (h:t.Wr) (hz:t.size<=122):(t.fill cn).show.length<=1350:=by
 have h1:=Th.show_le (t.fill cn) (vf h);rw [kg] at h1;have:=WM (8+3) hz;omega
section
variable {ins outs:List (UA×Int)} {head:Th} {rows:List (List Th)}
theorem Tx.rl (X:Tx ins outs head rows):∀ row∈rows,row.length=ins.length:=fun row hr=>(X.row row hr).1
theorem Tx.show (X:Tx ins outs head rows):sq ins outs head rows:=⟨X.gi,X.go,X.i9,X.o9,by have:=X.few;omega,fun row hr=>⟨(X.row row hr).1,fun t ht=>by have:=(X.row row hr).2 t ht;exact ⟨this.1,by omega,by omega⟩⟩,X.hd.1,by have:=X.hd.2.1;omega,by have:=X.hd.2.2;omega⟩
theorem Tx.rule (X:Tx ins outs head rows) {j:Nat} {r:UA} (h:(cy ins outs head rows)[j+3]?=some r):∃ t k,ins[j%ins.length]?=some k/\r=BB.d9 ((j / ins.length:Nat):Int) k.1 t/\t.Wr/\t.size<=122/\(0<=((j / ins.length:Nat):Int)/\((j / ins.length:Nat):Int)<1000)/\cU k:=by
 have h':(io BB.d9 ins rows)[j]?=some r:=by rw [<- l9];exact h
 refine hid fun ZZ kZ=>?_;obtain ⟨row,t,k,h1,h2,h3,rfl⟩:=vy X.rl (VQ.mpr X.ine) h';have hs:=(Uz.mp h1).1;have hf:=X.few;obtain ⟨t1,t2,t3⟩:=(X.row row (Ur h1)).2 t (Ur h2);refine kZ ?_;exact ⟨t,k,h3,rfl,t1,t3,⟨Int.natCast_nonneg _,Int.ofNat_lt.mpr (Vd hs (VS hf (by decide)))⟩,X.gi k (Ur h3)⟩
theorem Tx.bl (X:Tx ins outs head rows):(cy ins outs head rows).length=rows.length * ins.length+3:=by
 unfold cy;rw [Uu,l9,jF X.rl];show 3+_=_;omega
theorem Tx.fn (X:Tx ins outs head rows):∀ r∈cy ins outs head rows,Fn 1600 r:=fun r hr=>by
 have kn:∀ {f:UA} {ks:List (UA×Int)},Uw f->f.length<=10->(∀ k∈ks,cU k)->ks.length<=9->Fn 1600 (aT f ks):=fun {f ks} hf Ob hk h8=>by
  refine ⟨by have:=kM hk Ob h8;omega,fun c hc=>?_⟩;rw [show sL (aT f ks)=jn ((f::ks.map cm).map sL) from gL _] at hc;rcases wv hc with rfl | ⟨l,hl,By⟩
  · decide
  · obtain ⟨x,hx,rfl⟩:=Vq.mp hl
    have hu:Uw x:=by
     rcases UH.mp hx with rfl | hx
     · exact hf
     · obtain ⟨k,Dp,rfl⟩:=Vq.mp hx;exact tV (hk k Dp)
    have:=(tG hu).1 c By;omega
 obtain ⟨p,hp⟩:=Vj.mp hr
 match p with
 | 0=>cases hp;exact kn kS.1 (by decide +kernel) X.gi X.i9
 | 1=>cases hp;exact kn kS.2.1 (by decide +kernel) X.go X.o9
 | 2 =>
   cases hp;refine ⟨?_,fun c hc=>?_⟩
   · have:=tF X.hd.1 X.hd.2.2;unfold eM;rw [UM];show 5+_<=1600;omega
   · rw [tN] at hc;rcases UP.mp hc with hc | hc
     · have:=(tG kS.2.2.1).1 c hc;omega
     rcases UH.mp hc with rfl | hc
     · decide
     · have:=vI X.hd.1 c hc;omega
 | j+3 =>
   refine hid fun ZZ kZ=>?_;obtain ⟨t,k,hk,rfl,t1,t2,AG,BS⟩:=X.rule hp;refine kZ ?_;refine ⟨?_,fun c hc=>?_⟩
   · have l1:=tF t1 t2;have l2:=cF AG;have l3:=(jM BS.1).2.1;unfold BB.d9;rw [UM,UM,UM,UM,UM];show 5+(aV ((j / ins.length:Nat):Int)).length+1+k.1.length+1+(t.fill cn).show.length<=1600;omega
   · rw [tD] at hc;rcases UP.mp hc with hc | hc
     · have:=(tG kS.2.2.2).1 c hc;omega
     rcases UH.mp hc with rfl | hc
     · decide
     rcases UP.mp hc with hc | hc
     · have:=(dt AG).1 c hc;omega
     rcases UH.mp hc with rfl | hc
     · decide
     rcases UP.mp hc with hc | hc
     · have:=(dZ BS.1).1 c hc;omega
     rcases UH.mp hc with rfl | hc
     · decide
     · have:=vI t1 c hc;omega
theorem vm {t:Th} (h:t.Wr) (ht:t.tall<=5):jy (pw (bL t.tx)) t:=by
 rw [yj,yg h,pE];exact nz.mpr ⟨rfl,yh h,by omega⟩
theorem zN {t:Th} (h:t.Wr):bL t.tx≠[]:=fun z=>by
 have h1:pw (bL t.tx)=t.wP:=by rw [yj,yg h,pE]
 have ha:=pU h;rw [<- h1,z] at ha;exact absurd ha (by decide +kernel)
theorem mX {ks:List (UA×Int)} (h:∀ k∈ks,cU k):Vg KdOf (ks.map cm) ks:=by
 induction ks with
 | nil=>exact .nil
 | cons k ks ih=>exact .cons ⟨rfl,h k (Uy ..)⟩ (ih fun x hx=>h x (Uv _ hx))
theorem Tx.book (X:Tx ins outs head rows) {z:UA} (hz:aH 10 (sL z)=(cy ins outs head rows).map sL):cJ z ins outs head rows:=by
 have e:cy ins outs head rows=aT (Ug "in") ins::aT (Ug "out") outs::eM head::io BB.d9 ins rows:=by
  unfold cy;rw [l9];rfl
 refine ⟨_,_,_,(io BB.d9 ins rows).map sL,by rw [hz,e];rfl,⟨ins.map cm,qw kS.1 X.gi,fun z=>X.ine (Zu.mp z),mX X.gi⟩,⟨outs.map cm,qw kS.2.1 X.go,fun z=>X.one (Zu.mp z),mX X.go⟩,⟨bL head.tx,by rw [tN,wG],vm X.hd.1 X.hd.2.1⟩,?_⟩;refine ⟨by rw [Ue,Ue,jF X.rl],X.rl,fun s j row t k hs hj hk=>?_⟩;have hg:=nP (f:=BB.d9) X.rl hs hj hk;have DM:=(Uz.mp hs).1;have hf:=X.few;obtain ⟨t1,t2,t3⟩:=(X.row row (Ur hs)).2 t (Ur hj);have AG:0<=((s:Nat):Int)/\((s:Nat):Int)<1000:=⟨by omega,by omega⟩;have BS:=X.gi k (Ur hk);refine ⟨bL (sL (BB.d9 ((s:Nat):Int) k.1 t)),by rw [Ut,Ut,hg];rfl,⟨bL t.tx,by rw [tD,wW AG BS.1],zN t1,AG,vm t1 t2⟩,by omega⟩
end
theorem aas {ins outs:List (UA×Int)} {head:Th} {rows:List (List Th)} (D:Dr ins outs head rows):Tx ins outs head rows :=
 ⟨D.gi,D.go,D.ine,D.one,by have:=D.i8;omega,by have:=D.o8;omega,D.few,⟨n0 D.hd.1,by have:=D.hd.2.1;omega,by have:=D.hd.2.2;omega⟩,fun row hr=>⟨(D.row row hr).1,fun t ht=>by have:=(D.row row hr).2 t ht;exact ⟨n0 this.1,by omega,by omega⟩⟩⟩
def adj (m n:Nat) (row:List Th):List Th:=(Vr m).map fun k=>row.getD (min k (n - 1)) (.call 0 0)
theorem lA (m n:Nat) (row:List Th):(adj m n row).length=m:=by unfold adj;rw [Ue,VJ]
theorem pi {m n:Nat} {row:List Th} {k:Nat} (hk:k<m) (hn:1<=n) (hr:row.length=n):∃ t,row[min k (n - 1)]?=some t/\(adj m n row)[k]?=some t:=by
 have hl:min k (n - 1)<row.length:=by rw [hr];omega
 refine ⟨row[min k (n - 1)],Uh hl,?_⟩;unfold adj;rw [Ut,Xl hk];show some (row.getD _ _)=_;rw [List.getD_eq_getElem?_getD,Uh hl];rfl
theorem wZ {m n:Nat} {row:List Th} (hn:1<=n) (hr:row.length=n):∀ t∈adj m n row,t∈row:=fun t ht=>by
 refine hid fun ZZ kZ=>?_;obtain ⟨k,hk⟩:=Vj.mp ht;have A8:=(Uz.mp hk).1;rw [lA] at A8;obtain ⟨u,h1,h2⟩:=pi A8 hn hr;refine kZ ?_;rw [hk] at h2;cases h2;exact Ur h1
theorem wB {n:Nat} {row:List Th} (hn:1<=n) (hr:row.length=n):adj n n row=row:=by
 refine Yh fun k=>?_;by_cases hk:k<n
 · obtain ⟨u,h1,h2⟩:=pi (m:=n) hk hn hr;rw [h2,<- h1,W5 (by omega)]
 · rw [VV (by rw [lA];omega),VV (by omega)]
def sZ:List UA:=[Ug "",Ug "x",Ug "rule",Ug "head x(",Ug "rule 0 x y z",Ug "in",Ug "out a/0x"]
theorem qc:∀ o∈sZ,nB (sL o)=false/\Fn 1600 o:=by unfold Fn;decide +kernel
theorem yS {L:List UA} {p:Nat} {o:UA} (ho:o∈sZ) (hp:p<=L.length) {z:UA} (hz:aH 10 (sL z)=(L.take p++o::L.drop p).map sL) {ins outs:List (UA×Int)} {head:Th} {rows:List (List Th)}:¬ cJ z ins outs head rows:=fun hb=>by
 refine hid fun ZZ kZ=>?_;obtain ⟨_,_,_,h4,_⟩:=uC hz hb;refine kZ ?_;have:=v8 (h4 p o (by rw [Wn (by rw [U3];omega),U3,W5 hp,YA];rfl));rw [(qc o ho).1] at this;cases this
theorem wD {z:UA} {bs:List Bool} (h:jJ z bs) (Az:∀ ins outs head rows,¬ cJ z ins outs head rows):bs=[false,false,true]:=by
 rcases h with ⟨_,h⟩ | ⟨i,o,hd,r,hb,_⟩
 · exact h
 · exact (Az _ _ _ _ hb).elim
theorem pj {z:UA} {bs:List Bool} (h:jJ z bs) {ins outs:List (UA×Int)} {head:Th} {rows:List (List Th)} (hb:cJ z ins outs head rows):(¬ (aD ins=true/\aD outs=true)/\bs=[true,false,false])∨(aD ins=true/\aD outs=true/\¬ cX ins outs head rows/\bs=[false,true,false])∨(aD ins=true/\aD outs=true/\cX ins outs head rows/\bs=[]):=by
 rcases h with ⟨h,_⟩ | ⟨i,o,hd,r,BA,h⟩
 · exact (h _ _ _ _ hb).elim
 · refine hid fun ZZ kZ=>?_;obtain ⟨e1,e2,e3,e4⟩:=j6 hb BA;refine kZ ?_;rw [e1,e2,e3,e4];exact h
inductive tq (K:Uj) (vs:List V) (H:Hp) (Q:VK) (_E:XK):Prop
 | mk (a:Ul) (ns:List Int) (Aw:vs=[.ref a]) (Ax:SqL K H a (ns.map V.int)) (AE:ns.length<=63) (AQ:∀ H',Q (.bl true) H'):tq K vs H Q _E
def pz (K:Uj):Sp:=tq K
theorem xJ {z:UA} {l:List UA}:inV (.str z) (l.map V.str)=decide (z∈l):=by
 by_cases h:z∈l
 · rw [decide_eq_true h];unfold inV;rw [YY];exact ⟨.str z,List.mem_map_of_mem h,beq_self_eq_true z⟩
 · rw [decide_eq_false h];unfold inV;rw [VB];intro y;rw [YY] at y;obtain ⟨v,hv,e⟩:=y;obtain ⟨w,hw,rfl⟩:=Vq.mp hv;have e:(w == z)=true:=e;exact h ((eq_of_beq e) ▸ hw)
set_option maxHeartbeats 8000000 in
theorem zp:FnOk P w K mg base CX0 60 T.g_law.f T.g_law.d ["script"] (pz K):=by
 refine T.g_law.F.ok cW (fun vs H Q E h=>?_) (fun Ao A outer s H vs Q E hr h=>?_)
 · obtain ⟨a,ns,rfl,_⟩:=h;rfl
 obtain ⟨a,ns,rfl,hS,EL,k⟩:=h
 refine ⟨_,(af (ar (i:=1) cW.nd rfl (UI rfl) (pcF T.g__law_book (om T) hr (aa (pv 0) (aa ad (aa ad ac)))))
  (af (aN (ax j3 aw (bP (N:=[Ug "pair"]) (js:=[none]) (g:=(av 0)) (tt:=aU) (te:=(tOp (jU K) (bK 0) (tC (.int 0)))) rfl (cC rfl (by decide +kernel) (by decide +kernel) rfl rfl rfl) (cY (ao ay (pv 1) ad (fun _ _=>rfl))) (fun _ _ _ _ _ _=>(aB (i:=0) sH rfl (UI rfl))) (bo rfl) (fun _ _ _ _ _ _=>bQ) (fun _ _ _ _ _ _=>(ao ay (pv 0) ad (fun _ _=>rfl)))) (by with_unfolding_all rfl)) (ai (aA dw)) aE)
  (af (ba (pcF T.g_read_book (oE T) hr (aa (bN Vp Wx Ww fP aw (aa (pcF T.g__law_rows (jh T) hr (aa (pv 1) ac)) ac)) ac)))
  (af (ar (i:=2) cW.nd rfl (UI rfl) (ak aK (pcF T.g__law_cell_at (aO T) hr (aa (pv 0) (aa ad ac))) ad))
  (af (ar (i:=3) cW.nd rfl (UI rfl) (pcF T.g__law_bad_book (j5 T) hr (aa (pv 1) (aa (ak aQ (pcF T.g__law_cell_at (aO T) hr (aa (pv 0) (aa ad ac))) ad) ac))))
  (af (ar (i:=4) cW.nd rfl (UI rfl) (bZ kI (ak aK (pcF T.g__law_cell_at (aO T) hr (aa (pv 0) (aa ad ac))) ad) ad (az _)))
  (af (aN (cO (aZ (pv 4) (fun _=>rfl))) (ai (ar (i:=3) cW.nd rfl (UI rfl) (pv 1))) aE)
  (af (ar (i:=5) cW.nd rfl (UI rfl) (bg (aa (ao ay (pv 3) ad (fun _ _=>rfl)) (aa (ao ay (pv 3) ad (fun _ _=>rfl)) ac))))
  (af (ar (i:=6) cW.nd rfl (UI rfl) (ak aK (pcF T.g__law_cell_at (aO T) hr (aa (pv 0) (aa ad ac))) ad))
  (af (d7 (pcF T.g__law_bad_kinds (jz T) hr (aa (ao aG (pv 5) (pv 6) (fun _ _=>rfl)) (aa (pv 2) (aa (ak aQ (pcF T.g__law_cell_at (aO T) hr (aa (pv 0) (aa ad ac))) ad) ac)))) (gg (pv 5) (pv 6) set_list))
  (af (ar (i:=7) cW.nd rfl (UI rfl) (pcF T.g__law_rows (jh T) hr (aa (bi (aa (ao aG (pv 5) ad (fun _ _=>rfl)) (aa (ao aG (pv 5) ad (fun _ _=>rfl)) (aa (ao ay (pv 3) ad (fun _ _=>rfl)) (aa (bi ac) ac))))) ac)))
  (af (b9 Vy rfl (bD rfl T.n_range (aa (aq al rfl T.n_len UL (aa (ao ay (pv 3) ad (fun _ _=>rfl)) ac)) ac)) (aB (i:=8) cW.nd rfl (UI rfl)) (ai (b9 Vy rfl (bD rfl T.n_range (aa (aq al rfl T.n_len UL (aa (ao aG (pv 5) ad (fun _ _=>rfl)) ac)) ac)) (aB (i:=9) cW.nd rfl (UI rfl)) (af (ar (i:=10) cW.nd rfl (UI rfl) (pcF T.g__law_shown (dq T 21) hr (aa (ao ay (ao ay (ao ay (pv 3) ad (fun _ _=>rfl)) (pv 8) (fun _ _=>rfl)) (aq (ul rfl) rfl T.n_min PyProof.Rows.boot_min (aa (pv 9) (aa (ak iG (aq al rfl T.n_len UL (aa (ao ay (pv 3) ad (fun _ _=>rfl)) ac)) ad) ac))) (fun _ _=>rfl)) ac)))
  (ai (ba (bN UR Vc Vb bf (pv 7) (aa (ak aJ (ak aJ (ak aJ (ak aJ (ak aJ aw (aX fg rfl T.n_str WW (aa (pv 8) ac))) aw) (ao ay (ao ay (ao aG (pv 5) ad (fun _ _=>rfl)) (pv 9) (fun _ _=>rfl)) ad (fun _ _=>rfl))) aw) (pv 10)) ac))))))))
  (af (aN (ax cb (ak aK (pcF T.g__law_cell_at (aO T) hr (aa (pv 0) (aa ad ac))) ad) ad (az _)) (af (ar (i:=11) cW.nd rfl (UI rfl) (ak aQ (pcF T.g__law_cell_at (aO T) hr (aa (pv 0) (aa ad ac))) ad))
  (@af _ _ _ _ _ (@sX _ 12 _ _ _ _ _ _ _ [(Ug "",_,_),(Ug "x",_,_),(Ug "rule",_,_),(Ug "head x(",_,_),(Ug "rule 0 x y z",_,_),(Ug "in",_,_),(Ug "out a/0x",_,_)] cW.nd rfl (UI rfl) (UI rfl) (ak aK (pv 11) ad) (fun _ _=>rfl))
  (af (ba (bN UR YN PySem.F.type_list_insert nA (pv 7) (aa (ak aK (ak aQ (pv 11) ad) (ak bq (aq al rfl T.n_len UL (aa (pv 7) ac)) ad)) (aa (pv 12) ac))))
  (ai (aA (bZ (lJ (ff hr)) (pcF T.g__law_refused (cL T) hr (aa (bN Vp Wx Ww fP aw (aa (pv 7) ac)) ac)) (bg (aa dw (aa dw (aa dw ac)))) (az _))))))) aE)
  (af (aN (ax (yT (B:=150) (qI hr)) (ao aG (pv 5) (pv 6) (fun _ _=>rfl)) (ao aG (bg (aa (ao ay (pv 3) ad (fun _ _=>rfl)) (aa (ao ay (pv 3) ad (fun _ _=>rfl)) ac))) (pv 6) (fun _ _=>rfl)) (az _)) (ai (aA (bZ (lJ (ff hr)) (pcF T.g__law_refused (cL T) hr (aa (bN Vp Wx Ww fP aw (aa (pv 7) ac)) ac)) (bg (aa dw (aa dw (aa dw ac)))) (az _)))) aE)
  (af (aN (aZ (pv 4) (fun _=>rfl)) (ai (aA (bZ (lJ (ff hr)) (pcF T.g__law_refused (cL T) hr (aa (bN Vp Wx Ww fP aw (aa (pv 7) ac)) ac)) (bg (aa dw (aa dw (aa dw ac)))) (az _)))) aE)
  (ai (aA (bZ (lJ (ff hr)) (pcF T.g__law_refused (cL T) hr (aa (bN Vp Wx Ww fP aw (aa (pv 7) ac)) ac)) (bg ac) (az _))))))))))))))))))),?_⟩
 try dsimp only [AO,Ai]
 refine ⟨_,rfl,a,ns,rfl,hS,EL,fun b ins outs head rows H1 s1 bk B=>?_⟩;have D:=zS B;have X0:=aas D;dsimp only [av];refine hid fun ZZ kZ=>?_;obtain ⟨ia,oa,ha,ra,ias,Ak,AF,JC⟩:=id bk;refine kZ ?_;have Et:outs.length=Ak.length:=UK JC.outK;have Uc:=B.go.1.le;have J1:=B.gi.1.le;have Ho:=B.gi.1.ne;have S8:=B.few
 -- zzzzzzzz
 refine aP (fun f' H'=>An3 (L2.Same H1 H') ((∀ k∈outs,k.1≠zz8)) (f'=[some (.ref a),some (.ref b),none,none,none,none,none,none,none,none,none,none,none])) (fun kk hk=>?_) ?_
 · refine ⟨_,rfl,b,_,1,.ref oa,rfl,rfl,SqT.of JC.bk,at1,oa,rfl,⟨_,SqT.of JC.outE⟩,?_⟩;refine gA outs (fun _=>true) (fun k=>.str k.1) (SqT.of JC.outE) (by rw [Ue];exact Et) (by rw [Ue];omega) (fun i x z H2 R _ _ _ r=>r) (fun i x z H2 R hx hz _ sm r=>?_) (fun Dl S9=>?_)
   · obtain ⟨ka,rfl,AZ⟩:=bu hx;obtain ⟨k',A7,ek⟩:=P2.get' JC.outK AZ;rw [hz] at A7;cases A7;exact ⟨_,rfl,ka,_,0,.str z.1,rfl,rfl,SqT.of (sm _ _ ek),at0,r⟩
   rw [filter_tt];have e:(outs.map fun k=>V.str k.1)=(outs.map (·.1)).map V.str:=by rw [We];rfl
   refine ⟨Dl,_,rfl,.inl (SqL.of ae),rfl,?_,_,rfl,?_⟩
   · rw [Vo];intro v hv;obtain ⟨y,_,rfl⟩:=Vq.mp hv;rfl
   rw [e];show if (inV (V.str zz8) ((outs.map (·.1)).map V.str))=true then _ else _
   rw [xJ];refine cg (fun c=>k _) (fun c=>hk _ _ ⟨ag S9 _,fun q hq z=>c (decide_eq_true (z ▸ List.mem_map_of_mem hq)),rfl⟩)
 rintro σ H2 ⟨s2,Cq,rfl⟩;have C6:=s1.trans s2;have Pz:=bk.mono (Same.kt s2)
 -- CL Nc text is read
 refine ⟨rfl,_,rfl,b,ins,outs,head,rows,rfl,Pz,X0.show,fun rr H3 s3 _ e3=>?_⟩;have JD:=X0.bl;have PB:=Nat.mul_le_mul X0.few X0.i9;obtain ⟨t1,t2,t3⟩:=j8 (fun z=>by rw [z] at JD;cases JD) (by omega) X0.fn;refine ⟨dL,rr,cy ins outs head rows,rfl,rfl,SqL.of e3,t3,_,ins,outs,head,rows,rfl,t2,X0.book t1,D.ki,D.ko,D.ok,fun br H4 s4=>?_⟩;have D':=C6.trans (s3.trans s4);have Nd:=Pz.mono (Same.kt (s3.trans s4));clear t1 t2 t3 e3
 -- way
 have c3:=dR ns 3;refine ⟨_,rfl,a,ns,3,rfl,D'.seq hS,by decide,_,_,rfl,rfl,(by show (0:Int)<9;decide),?_⟩;generalize cellAt ns 3%9=way;dsimp only [av]
 -- bad
 have c4:=dR ns 4;refine ⟨_,rfl,_,rfl,a,ns,4,rfl,D'.seq hS,by decide,_,_,rfl,rfl,⟨by decide,by decide⟩,b,ins,outs,head,rows,_,rfl,Nd,B,Cq,Xy c4 (by decide),fun bb Du Ta H5 s5 PC Ca=>?_⟩;dsimp only [av];have EV:=D'.trans s5;refine ⟨_,rfl,a,ns,4,rfl,EV.seq hS,by decide,_,_,rfl,rfl,(by show (0:Int)<3;decide),_,_,rfl,rfl,?_⟩;generalize decide ((0:Int)<cellAt ns 4%3)=sp;dsimp only [av]
 -- CL book FJ is written
 refine aP (fun f' H'=>Ex3 fun (bd:Ul) (hd:Th) (AY:List (List Th))=>An6 (L2.Same H H') (Bk H' ins outs hd AY bd) (Tx ins outs hd AY) ((sp=true->¬ cX ins outs hd AY)) ((sp=false->cX ins outs hd AY)) (f'=[some (.ref a),some (.ref b),some (.int way),some (.ref bd),some (.bl sp),none,none,none,none,none,none,none,none])) (fun kk hk=>?_) ?_
 · refine ⟨_,rfl,_,rfl,?_⟩;cases sp with
   | true=>exact bH (hk _ _ ⟨bb,Du,Ta,EV,PC,⟨D.gi,D.go,D.ine,D.one,by have:=D.i8;omega,by have:=D.o8;omega,by rw [Ca.len];exact S8,Ca.hd,Ca.row⟩,fun _=>Ca.no,(fun z=>by cases z),rfl⟩)
   | false=>exact bG ⟨_,rfl,hk _ _ ⟨b,head,rows,EV,Nd.mono (Same.kt s5),X0,(fun z=>by cases z),fun _=>D.ok,rfl⟩⟩
 clear PC Ca EV Nd s5;rintro σ H5 ⟨bd,hd,B4,EV,Tb,X1,Nf,Ng,rfl⟩;refine hid fun ZZ kZ=>?_;obtain ⟨ia,oa,ha,ra,ias,Ak,AF,FG⟩:=Tb;refine kZ ?_
 -- kinds
 refine ⟨_,rfl,bd,_,0,.ref ia,rfl,rfl,SqT.of FG.bk,at0,_,rfl,bd,_,1,.ref oa,rfl,rfl,SqT.of FG.bk,at1,aj (by show 2<=1000000;decide),fun kl A8=>?_⟩;dsimp only [av];have s6:L2.Same H5 (upd H5 kl (.lst [.ref ia,.ref oa])):=ag A8 _;have e6:(upd H5 kl (.lst [.ref ia,.ref oa])) kl=some (.lst [.ref ia,.ref oa]):=ae;generalize (upd H5 kl (.lst [.ref ia,.ref oa]))=H6 at s6 e6 ⊢;have Di:=EV.trans s6;have Nh:H kl=none:=EV.free A8
 -- side
 have c5:=dR ns 5;have d0:=U0 (cellAt ns 5) (show (2:Int)≠0 by decide);have d1:=UT (cellAt ns 5) (show (0:Int)<2 by decide);refine ⟨_,rfl,a,ns,5,rfl,Di.seq hS,by decide,_,_,rfl,rfl,(by show (0:Int)<2;decide),?_⟩;obtain ⟨sd,PD⟩:∃ n:Nat,cellAt ns 5%2=(n:Int):=⟨_,(Wq d0).symm⟩;rw [PD] at d1;rw [PD];have Ni:sd<2:=by omega
 dsimp only [av];refine hid fun ZZ kZ=>?_
 obtain ⟨xa,FH,xk,Eu,KN,KO,PF,FI⟩:∃ (xa:Ul) (FH:List Ul) (xk:List (UA×Int)),atI [V.ref ia,V.ref oa] ((sd:Nat):Int)=some (.ref xa)/\H5 xa=some (.tup (FH.map V.ref))/\KsAt H5 xk FH/\GK xk/\((sd=0/\xk=ins/\xa=ia)∨(sd=1/\xk=outs/\xa=oa)):=by
  rcases (by omega:sd=0∨sd=1) with rfl | rfl
  · exact ⟨ia,ias,ins,at0,FG.inE,FG.inK,B.gi,.inl ⟨rfl,rfl,rfl⟩⟩
  · exact ⟨oa,Ak,outs,at1,FG.outE,FG.outK,B.go,.inr ⟨rfl,rfl,rfl⟩⟩
 refine kZ ?_
 -- CL spoiled kinds
 refine aP (fun f' H'=>Ex6 fun (Dq Cm:Ul) (Cn Ek:List Ul) (Aq Bn:List (UA×Int))=>An9 (L2.Same H H') (BookAt H' ins outs hd B4 bd ia oa ha ra ias Ak AF) (H' kl=some (.lst [.ref Dq,.ref Cm])) ((H' Dq=some (.tup (Cn.map V.ref))/\KsAt H' Aq Cn)) ((H' Cm=some (.tup (Ek.map V.ref))/\KsAt H' Bn Ek)) (((∀ k∈Aq,cU k)/\1<=Aq.length/\Aq.length<=9)) (((∀ k∈Bn,cU k)/\1<=Bn.length/\Bn.length<=9)) (((sd=0/\Bn=outs/\(Aq=ins∨aD Aq=false))∨(sd=1/\Aq=ins/\(Bn=outs∨aD Bn=false)))) (f'=[some (.ref a),some (.ref b),some (.int way),some (.ref bd),some (.bl sp),some (.ref kl),some (.int (sd:Nat)),none,none,none,none,none,none])) (fun kk hk=>?_) ?_
 · refine ⟨_,rfl,_,rfl,kl,_,_,.ref xa,rfl,rfl,SqL.of e6,Eu,_,rfl,_,rfl,a,ns,5,rfl,Di.seq hS,by decide,_,_,rfl,rfl,⟨by decide,by decide⟩,?_⟩;refine ⟨xa,FH,xk,_,_,rfl,s6 _ _ KN,KO.mono (Same.kt s6),PF,Xy c5 (by decide),fun r CI Cs H7 s7 er JE Df=>?_⟩;refine ⟨_,rfl,_,rfl,kl,_,_,sd,rfl,rfl,s7 _ _ e6,sC Ni,?_⟩;have kt:KT H7 (upd H7 kl (.lst ([V.ref ia,V.ref oa].set sd (.ref r)))):=bp (s7 _ _ e6);have sk:L2.Same H (upd H7 kl (.lst ([V.ref ia,V.ref oa].set sd (.ref r)))):=aI (Di.trans s7) Nh;have ek:(upd H7 kl (.lst ([V.ref ia,V.ref oa].set sd (.ref r)))) kl=some (.lst ([V.ref ia,V.ref oa].set sd (.ref r))):=ae;generalize (upd H7 kl (.lst ([V.ref ia,V.ref oa].set sd (.ref r))))=Hk at kt sk ek;have Fy:=(Same.kt (s6.trans s7)).trans kt;have BH:=FG.mono Fy;have Tc:(∀ k∈ins,cU k)/\1<=ins.length/\ins.length<=9:=⟨D.gi,Ho,by omega⟩;have Td:(∀ k∈outs,cU k)/\1<=outs.length/\outs.length<=9:=⟨D.go,B.go.1.ne,by omega⟩;rcases FI with ⟨rfl,rfl,rfl⟩ | ⟨rfl,rfl,rfl⟩
   · exact hk _ _ ⟨r,oa,CI,Ak,Cs,outs,sk,BH,ek,⟨kt _ _ er,JE.mono kt⟩,⟨BH.outE,BH.outK⟩,⟨Df.1,Df.2.1⟩,Td,.inl ⟨rfl,rfl,Df.2.2⟩,rfl⟩
   · exact hk _ _ ⟨ia,r,ias,CI,ins,Cs,sk,BH,ek,⟨BH.inE,BH.inK⟩,⟨kt _ _ er,JE.mono kt⟩,Tc,⟨Df.1,Df.2.1⟩,.inr ⟨rfl,rfl,Df.2.2⟩,rfl⟩
 clear Eu KN KO PF FI e6 s6 Di FG EV;rintro σ Hk ⟨Dq,Cm,Cn,Ek,Aq,Bn,sk,BH,ek,⟨KP,Bw⟩,⟨PH,Jl⟩,g0,g1,Gz,rfl⟩;have G0:ins.length=ias.length:=UK BH.inK;have O4:Aq.length=Cn.length:=UK Bw;have B7:B4.length=AF.length:=UK BH.rw;have IL:=X1.few
 -- text
 refine ⟨_,rfl,kl,_,0,.ref Dq,rfl,rfl,SqL.of ek,at0,_,rfl,kl,_,1,.ref Cm,rfl,rfl,SqL.of ek,at1,_,rfl,bd,_,2,.ref ha,rfl,rfl,SqT.of BH.bk,at2,aj (by show 0<=1000000;decide),fun em Te=>⟨aj (by show 4<=1000000;decide),fun tb PJ=>?_⟩⟩;have sb:=(ag Te (.tup [])).trans (ag PJ (.tup [.ref Dq,.ref Cm,.ref ha,.ref em]));have PK:Bk (upd (upd Hk em (.tup [])) tb (.tup [.ref Dq,.ref Cm,.ref ha,.ref em])) Aq Bn hd [] tb:=⟨Dq,Cm,ha,em,Cn,Ek,[],⟨ae,sb _ _ KP,Bw.mono (Same.kt sb),sb _ _ PH,Jl.mono (Same.kt sb),BH.hd.mono (Same.kt sb),(ag PJ _) _ _ ae,.nil⟩⟩;generalize (upd (upd Hk em (.tup [])) tb (.tup [.ref Dq,.ref Cm,.ref ha,.ref em]))=Hb at sb PK ⊢;have Nj:hd.tall<=21:=by have:=X1.hd.2.1;omega
 have GA:hd.size<=1000:=by have:=X1.hd.2.2;omega
 refine ⟨tb,Aq,Bn,hd,[],rfl,PK,⟨g0.1,g1.1,g0.2.2,g1.2.2,by show 0<=20;decide,(fun row hr=>by cases hr),X1.hd.1,Nj,GA⟩,fun tx H9 s9 MX e9=>?_⟩;dsimp only [av];have Nk:Hk tx=none:=sb.free MX;have Nl:=sb.trans s9
 have Tf:H9 tx=some (.lst (([aT (Ug "in") Aq,aT (Ug "out") Bn,eM hd]++cz Aq (B4.map (adj Aq.length ins.length)) 0).map V.str)):=by
  rw [eS];exact e9
 have GB:(B4.map (adj Aq.length ins.length)).length=B4.length:=Ue _
 -- CL rules
 refine aP (fun f' H'=>Ex3 fun c8 c9 DP=>An3 (L2.Same Hk H') (H' tx=some (.lst ((cy Aq Bn hd (B4.map (adj Aq.length ins.length))).map V.str))) (f'=[some (.ref a),some (.ref b),some (.int way),some (.ref bd),some (.bl sp),some (.ref kl),some (.int (sd:Nat)),some (.ref tx),c8,c9,DP,none,none])) (fun kk hk=>?_) ?_
 · refine ⟨_,rfl,bd,_,3,.ref ra,rfl,rfl,SqT.of (Nl _ _ BH.bk),at3,ra,_,rfl,.inr (SqT.of (Nl _ _ BH.rl)),_,rfl,by omega,by rw [Ue];omega,?_⟩
   refine bT (n:=((AF.map V.ref).length:Int).toNat) (fun i σ H5=>Ex3 fun c8 c9 DP=>An3 (σ=[some (.ref a),some (.ref b),some (.int way),some (.ref bd),some (.bl sp),some (.ref kl),some (.int (sd:Nat)),some (.ref tx),c8,c9,DP,none,none]) (L2.Same Hk H5) (H5 tx=some (.lst (([aT (Ug "in") Aq,aT (Ug "out") Bn,eM hd]++cz Aq (B4.map (adj Aq.length ins.length)) i).map V.str))))
    ⟨none,none,none,rfl,Nl,Tf⟩ ?_ ?_
   · rintro i σ H5 hi ⟨c8,c9,DP,rfl,s5,e5⟩
     have G':i<B4.length:=by
      have:i<((AF.map V.ref).length:Int).toNat:=hi;rw [Ue] at this;omega
     refine hid fun ZZ kZ=>?_;obtain ⟨row,Ad⟩:∃ row,B4[i]?=some row:=⟨_,Uh G'⟩;obtain ⟨C8,Ei,Ac,Gn,BU⟩:=P2.get BH.rw Ad;have G2:=Ur Ad;obtain ⟨BV,Ej⟩:=X1.row row G2;refine kZ ?_;have BE:=BU.length;have JF:(B4.map (adj Aq.length ins.length))[i]?=some (adj Aq.length ins.length row):=by rw [Ut,Ad];rfl
     have Fj:=lA Aq.length ins.length row
     have SA:(gw Aq ((i:Nat):Int) (adj Aq.length ins.length row)).length=Aq.length:=by
      unfold gw;rw [Ue,X8];omega
     have r1:(cz Aq (B4.map (adj Aq.length ins.length)) i).length<=1000:=by
      have hh:∀ i,i<=B4.length->(cz Aq (B4.map (adj Aq.length ins.length)) i).length<=9 * i:=fun i=>by
       induction i with
       | zero=>intro _;rw [eS];exact Vh _
       | succ i ih =>
         intro hle;obtain ⟨Nn,JG⟩:∃ row,(B4.map (adj Aq.length ins.length))[i]?=some row:=⟨_,Uh (by rw [GB];omega)⟩;have h1:=ih (by omega);rw [eL JG,Uu]
         have:(gw Aq ((i:Nat):Int) Nn).length<=9:=by
          unfold gw;rw [Ue,X8];have:=g0.2.2;omega
         omega
      have:=hh i (by omega);omega
     have Gp:atI (AF.map V.ref) (0+(i:Int))=some (.ref C8):=at_nonneg (by omega) (by rw [show (0+(i:Int)).toNat=i by omega,Ut,Ei];rfl);dsimp only [av];have Ud:=g0.2.2;refine ⟨_,rfl,kl,_,0,.ref Dq,rfl,rfl,SqL.of (s5 _ _ ek),at0,Dq,_,rfl,.inr (SqT.of (s5 _ _ KP)),_,rfl,by omega,by rw [Ue];omega,?_⟩
     refine bT (n:=((Cn.map V.ref).length:Int).toNat) (fun j σ H7=>Ex2 fun c9 DP=>An3 (σ=[some (.ref a),some (.ref b),some (.int way),some (.ref bd),some (.bl sp),some (.ref kl),some (.int (sd:Nat)),some (.ref tx),some (.int (0+(i:Int))),c9,DP,none,none]) (L2.Same Hk H7) (H7 tx=some (.lst (([aT (Ug "in") Aq,aT (Ug "out") Bn,eM hd]++cz Aq (B4.map (adj Aq.length ins.length)) i++(gw Aq ((i:Nat):Int) (adj Aq.length ins.length row)).take j).map V.str))))
      ⟨c9,DP,rfl,s5,by rw [WC,UY];exact e5⟩ ?_ ?_
     · rintro j σ H7 hj ⟨c9,DP,rfl,s7,e7⟩
       have Hh:j<Aq.length:=by
        have:j<((Cn.map V.ref).length:Int).toNat:=hj;rw [Ue] at this;omega
       refine hid fun ZZ kZ=>?_;obtain ⟨kx,Np⟩:∃ k,Aq[j]?=some k:=⟨_,Uh Hh⟩;obtain ⟨Nq,Nr,Tg⟩:=P2.get Bw Np;obtain ⟨t,ht,Ti⟩:=pi (m:=Aq.length) Hh Ho BV;have html:=(Uz.mp ht).1;obtain ⟨ta,C5⟩:∃ ta,Ac[min j (ins.length - 1)]?=some ta:=⟨_,Uh (by omega)⟩;obtain ⟨t',CG,AI⟩:=BU.get C5;refine kZ ?_;rw [ht] at CG;cases CG;have Al:=Ej t (Ur ht);have Dp:=Ur Np;have SD:=(cN (g0.1 kx Dp).1).2.1;have Gq:atI (Cn.map V.ref) (0+(j:Int))=some (.ref Nq):=at_nonneg (by omega) (by rw [show (0+(j:Int)).toNat=j by omega,Ut,Nr];rfl)
       have Nt:(if (((ias.map V.ref).length:Nat):Int) - 1<0+(j:Int) then (((ias.map V.ref).length:Nat):Int) - 1 else 0+(j:Int))=((min j (ins.length - 1):Nat):Int):=by
        rw [Ue];split <;> omega
       have Gr:atI (Ac.map V.ref) (if (((ias.map V.ref).length:Nat):Int) - 1<0+(j:Int) then (((ias.map V.ref).length:Nat):Int) - 1 else 0+(j:Int))=some (.ref ta):=by
        rw [Nt];exact cD (by rw [Ut,C5];rfl)
       dsimp only [av];refine ⟨_,rfl,bd,_,3,.ref ra,rfl,rfl,SqT.of (s7 _ _ BH.bk),at3,_,rfl,ra,_,_,.ref C8,rfl,rfl,SqT.of (s7 _ _ BH.rl),Gp,_,rfl,_,rfl,bd,_,0,.ref ia,rfl,rfl,SqT.of (s7 _ _ BH.bk),at0,ia,_,rfl,.inr (SqT.of (s7 _ _ BH.inE)),_,_,rfl,rfl,_,_,rfl,C8,_,_,.ref ta,rfl,rfl,SqT.of (s7 _ _ Gn),Gr,ta,t,rfl,AI.mono (Same.kt s7),Al.1,(by show t.tall<=21;have:=Al.2.1;omega),by have:=Al.2.2;omega,fun H8 s8=>?_⟩;dsimp only [av];have e0:(0+(i:Int))=((i:Nat):Int):=ZY _;have l1:=pe Al.1 (by have:=Al.2.2;omega);have l2:=cF (n:=((i:Nat):Int)) ⟨by omega,by omega⟩;have e8:=s8 _ _ e7;have KQ:=s7.trans s8;refine ⟨_,rfl,.inl ⟨rfl,_,SqL.of e8⟩,_,rfl,_,rfl,by rw [e0];exact qQ ⟨by omega,by omega⟩,_,_,rfl,rfl,aj (by rw [e0];show 5+(aV (i:Nat)).length<=1000000;omega),?_⟩;rw [e0];refine ⟨_,blank,rfl,rfl,aj (by rw [UM];show 5+(aV (i:Nat)).length+1<=1000000;omega),_,rfl,kl,_,0,.ref Dq,rfl,rfl,SqL.of (KQ _ _ ek),at0,_,rfl,Dq,_,_,.ref Nq,rfl,rfl,SqT.of (KQ _ _ KP),Gq,Nq,_,0,.str kx.1,rfl,rfl,SqT.of (KQ _ _ Tg),at0,_,kx.1,rfl,rfl,aj (by rw [UM,UM];show 5+(aV (i:Nat)).length+1+kx.1.length<=1000000;omega),_,blank,rfl,rfl,aj (by rw [UM,UM,UM];show 5+(aV (i:Nat)).length+1+kx.1.length+1<=1000000;omega),?_⟩;refine ⟨_,rfl,_,(t.fill cn).show,rfl,rfl,aj (by rw [UM,UM,UM,UM];show 5+(aV (i:Nat)).length+1+kx.1.length+1+(t.fill cn).show.length<=1000000;omega),?_⟩;refine ⟨tx,_,_,rfl,rfl,e8,bj (by rw [Ue,Uu,Uu,U3];show 3+_+_<=1000000;omega),?_⟩;refine ⟨_,_,rfl,aI KQ Nk,?_⟩
       have hz:(gw Aq ((i:Nat):Int) (adj Aq.length ins.length row))[j]?=some (BB.d9 ((i:Nat):Int) kx.1 t):=by
        unfold gw;rw [Ut,WZ.mpr (show Aq[j]?=some (kx,t).1/\(adj Aq.length ins.length row)[j]?=some (kx,t).2 from ⟨Np,Ti⟩)];rfl
       rw [ae,take_snoc hz,<- U2,UC (l₂:=[BB.d9 ((i:Nat):Int) kx.1 t])];rfl
     · rintro σ H7 ⟨c9,DP,rfl,s7,e7⟩;refine ⟨_,_,_,rfl,s7,?_⟩;rw [U8 (by rw [Ue];omega)] at e7;rw [eL JF,<- U2];exact e7
   · rintro σ H5 ⟨c8,c9,DP,rfl,s5,e5⟩;refine hk _ _ ⟨c8,c9,DP,s5,?_,rfl⟩;have:((AF.map V.ref).length:Int).toNat=(B4.map (adj Aq.length ins.length)).length:=by rw [Ue,GB];omega
     rw [this] at e5;exact e5
 rintro σ Ht ⟨c8,c9,DP,st,et,rfl⟩
 have X2:Tx Aq Bn hd (B4.map (adj Aq.length ins.length)):=by
  refine ⟨g0.1,g1.1,VQ.mp g0.2.1,VQ.mp g1.2.1,g0.2.2,g1.2.2,by rw [GB];exact IL,X1.hd,fun A9 Bv=>?_⟩;obtain ⟨row,Ad,rfl⟩:=Vq.mp Bv;exact ⟨lA _ _ _,fun t ht=>(X1.row row Ad).2 t (wZ Ho (X1.row row Ad).1 t ht)⟩
 have B6:=X2.bl;have hmul:=Nat.mul_le_mul X2.few X2.i9;have Au:cy Aq Bn hd (B4.map (adj Aq.length ins.length))≠[]:=fun z=>by rw [z] at B6;cases B6
 have E9:=X2.fn;obtain ⟨z1,z2,z3⟩:=j8 Au (by omega) E9;have hb:=X2.book z1
 have PL:Aq=ins->B4.map (adj Aq.length ins.length)=B4:=fun e=>by
  rw [e]
  conv=>rhs;rw [<- List.map_id B4]
  exact Xj fun row hr=>wB Ho (X1.row row hr).1
 generalize B4.map (adj Aq.length ins.length)=RM at et X2 B6 hmul Au E9 z1 z2 z3 hb PL;have PM:=sk.trans st;refine ⟨_,rfl,a,ns,6,rfl,PM.seq hS,by decide,_,_,rfl,rfl,(by show (0:Int)<4;decide),rfl,_,rfl,?_⟩;have c6:=dR ns 6;refine cg (fun _=>?_) (fun _=>?_)
 · refine ⟨_,rfl,a,ns,6,rfl,PM.seq hS,by decide,_,_,rfl,rfl,⟨by decide,by decide⟩,?_⟩;have Tj:0<=cellAt ns 6 / 4:=Xy c6 (by decide);generalize cellAt ns 6 / 4=cell at Tj ⊢;dsimp only [av];refine pq (zs:=sZ) (by decide) fun Do PN Tn CZ=>?_;have x0:=U0 cell (show (7:Int)≠0 by decide);have x1:=UT cell (show (0:Int)<7 by decide);obtain ⟨o,ho⟩:∃ o,sZ[(cell%7).toNat]?=some o:=⟨_,Uh (by show _<7;omega)⟩;have PQ:=Ur ho;refine ⟨_,rfl,_,_,rfl,rfl,(by show (0:Int)<7;decide),Do,_,_,.str o,rfl,rfl,SqL.of CZ,at_nonneg x0 (by rw [Ut,ho];rfl),?_⟩;dsimp only [av];have CV:=Tn _ _ et;have PR:((cy Aq Bn hd RM).map V.str).length=(cy Aq Bn hd RM).length:=Ue _;have Gv:(0:Int)<((((cy Aq Bn hd RM).map V.str).length:Nat):Int)+1:=by omega
   have y0:=U0 (cell / 7) (YB Gv);have y1:=UT (cell / 7) Gv;obtain ⟨p,hp⟩:∃ p:Nat,cell / 7%(((((cy Aq Bn hd RM).map V.str).length:Nat):Int)+1)=(p:Int):=⟨_,(Wq y0).symm⟩;rw [hp] at y1;have Bj:p<=(cy Aq Bn hd RM).length:=by omega
   refine ⟨_,rfl,.inl ⟨rfl,_,SqL.of CV⟩,_,rfl,_,_,rfl,rfl,⟨by decide,by decide⟩,_,rfl,tx,_,rfl,.inl (SqL.of CV),_,_,rfl,rfl,_,_,rfl,rfl,Gv,_,rfl,tx,_,p,.str o,rfl,(by rw [hp]),CV,(by rw [PR];exact Bj),aj (by rw [PR];omega),?_⟩
   have en:(upd PN tx (.lst (((cy Aq Bn hd RM).map V.str).take p++.str o::((cy Aq Bn hd RM).map V.str).drop p))) tx=some (.lst (((cy Aq Bn hd RM).take p++o::(cy Aq Bn hd RM).drop p).map V.str)):=by
    rw [ae,UC,UB,YR,Zy]
   generalize (upd PN tx (.lst (((cy Aq Bn hd RM).map V.str).take p++.str o::((cy Aq Bn hd RM).map V.str).drop p)))=Hn at en ⊢
   obtain ⟨q1,q2,q3⟩:=j8 (L:=(cy Aq Bn hd RM).take p++o::(cy Aq Bn hd RM).drop p) (by simp) (by rw [Uu,Ui,U3,Vi];omega) (fun r hr=>by
    rcases UP.mp hr with hr | hr
    · exact E9 r (V6 hr)
    rcases UH.mp hr with rfl | hr
    · exact (qc _ PQ).2
    · exact E9 r (XJ hr))
   refine ⟨rfl,_,rfl,dL,tx,_,rfl,rfl,SqL.of en,q3,_,rfl,q2,fun rr bs H' s' e' ht=>⟨aj (by show 3<=1000000;decide),fun lb Fi=>?_⟩⟩;have GC:=wD ht fun i' o' h' r'=>yS PQ Bj q1;subst GC;exact ⟨rr,lb,[false,false,true],[false,false,true],rfl,rfl,SqL.of ((ag Fi _) _ _ e'),SqL.of ae,k _⟩
 dsimp only [cG];refine hid fun ZZ kZ=>?_
 obtain ⟨xa,FH,xk,ya,Nu,yk,Eu,KN,KO,To,Tp,Tq,heq,JH⟩:∃ (xa:Ul) (FH:List Ul) (xk:List (UA×Int)) (ya:Ul) (Nu:List Ul) (yk:List (UA×Int)),atI [V.ref Dq,V.ref Cm] ((sd:Nat):Int)=some (.ref xa)/\Hk xa=some (.tup (FH.map V.ref))/\KsAt Hk xk FH/\atI [V.ref ia,V.ref oa] ((sd:Nat):Int)=some (.ref ya)/\Hk ya=some (.tup (Nu.map V.ref))/\KsAt Hk yk Nu/\(xk=yk->Aq=ins/\Bn=outs)/\(xk≠yk->¬ (aD Aq=true/\aD Bn=true)):=by
  rcases Gz with ⟨h0,h1,h2⟩ | ⟨h0,h1,h2⟩
  · rw [h0];refine ⟨Dq,Cn,Aq,ia,ias,ins,at0,KP,Bw,at0,BH.inE,BH.inK,fun e=>⟨e,h1⟩,fun e z=>?_⟩;rcases h2 with h2 | h2
    · exact e h2
    · rw [h2] at z;cases z.1
  · rw [h0];refine ⟨Cm,Ek,Bn,oa,Ak,outs,at1,PH,Jl,at1,BH.outE,BH.outK,fun e=>⟨h1,e⟩,fun e z=>?_⟩;rcases h2 with h2 | h2
    · exact e h2
    · rw [h2] at z;cases z.2
 refine kZ ?_;refine ⟨_,rfl,_,rfl,kl,_,_,.ref xa,rfl,rfl,SqL.of (st _ _ ek),Eu,_,rfl,bd,_,0,.ref ia,rfl,rfl,SqT.of (st _ _ BH.bk),at0,_,rfl,bd,_,1,.ref oa,rfl,rfl,SqT.of (st _ _ BH.bk),at1,aj (by show 2<=1000000;decide),fun ll G6=>?_⟩;have sl:=ag G6 (.lst [.ref ia,.ref oa]);have KR:=st.trans sl;refine ⟨_,rfl,ll,_,_,.ref ya,rfl,rfl,SqL.of ae,To,xa,ya,_,_,xk.map kDv,yk.map kDv,rfl,rfl,SqT.of (KR _ _ KN),SqT.of (KR _ _ Tp),vU (KO.mono (Same.kt KR)),vU (Tq.mono (Same.kt KR)),VS (qN _) (by decide),fun bl B6=>⟨_,rfl,?_⟩⟩;have KS:=sl _ _ et;generalize (upd Ht ll (.lst [.ref ia,.ref oa]))=Hl at KS ⊢;cases bl with
 | true =>
   refine bG ?_;have KU:xk≠yk:=fun e=>(B6.mp rfl) (by rw [e]);refine ⟨rfl,_,rfl,dL,tx,_,rfl,rfl,SqL.of KS,z3,_,rfl,z2,fun rr bs H' s' e' ht=>⟨aj (by show 3<=1000000;decide),fun lb Fi=>?_⟩⟩;rcases pj ht hb with ⟨_,GC⟩ | ⟨a1,a2,_⟩ | ⟨a1,a2,_⟩
   · subst GC;exact ⟨rr,lb,[true,false,false],[true,false,false],rfl,rfl,SqL.of ((ag Fi _) _ _ e'),SqL.of ae,k _⟩
   · exact (JH KU ⟨a1,a2⟩).elim
   · exact (JH KU ⟨a1,a2⟩).elim
 | false =>
   refine bH ?_;dsimp only [cG]
   have KU:xk=yk:=Classical.byContradiction fun h=>by
    have:=B6.mpr fun e=>h ((List.map_inj_right fun _ _=>xN).mp e);cases this
   obtain ⟨q0,q1⟩:=heq KU;have Nv:=PL q0;subst q0;subst q1;subst Nv;refine ⟨_,rfl,_,rfl,?_⟩;cases sp with
   | true =>
     refine bG ?_;refine ⟨rfl,_,rfl,dL,tx,_,rfl,rfl,SqL.of KS,z3,_,rfl,z2,fun rr bs H' s' e' ht=>⟨aj (by show 3<=1000000;decide),fun lb Fi=>?_⟩⟩;rcases pj ht hb with ⟨hn,_⟩ | ⟨_,_,_,GC⟩ | ⟨_,_,a3,_⟩
     · exact (hn ⟨D.ki,D.ko⟩).elim
     · subst GC;exact ⟨rr,lb,[false,true,false],[false,true,false],rfl,rfl,SqL.of ((ag Fi _) _ _ e'),SqL.of ae,k _⟩
     · exact (Nf rfl a3).elim
   | false =>
     refine bH ?_;dsimp only [cG];refine ⟨rfl,_,rfl,dL,tx,_,rfl,rfl,SqL.of KS,z3,_,rfl,z2,fun rr bs H' s' e' ht=>⟨aj (by show 0<=1000000;decide),fun lb Fi=>?_⟩⟩;rcases pj ht hb with ⟨hn,_⟩ | ⟨_,_,a3,_⟩ | ⟨_,_,_,GC⟩
     · exact (hn ⟨D.ki,D.ko⟩).elim
     · exact (a3 (Ng rfl)).elim
     · subst GC;exact ⟨rr,lb,[],[],rfl,rfl,SqL.of ((ag Fi _) _ _ e'),SqL.of ae,k _⟩
end
set_option maxHeartbeats 8000000 in
theorem all_mk {l:PySem.W.OpenLaw} {w:Vl} {K:Uj} {h:VO} {mg:UA->Option Um} {fa:Ul} (X:K.In h) (G:h.Ns UX mg) (Tr:mg "law"=some (.ref fa))
 {Ag:Ul} {JI:Ul} {Nw Ny:Option Ul} {Nz:Array (Option Um)} {NA NB NC ND JJ NF:Um} {JK:Ul} {NG NH:Option Ul} {NI:Array (Option Um)} {NJ NK NL NM JL NN:Um} {JM:Ul} {NO JN:Option Ul} {NP:Array (Option Um)} {NQ JO JP JQ GD JR:Um} {PU:Tok} {PV:Tok} {PX:Tok} {PY:Tok} {PZ:Tok} {P0:Tok} {P1:Tok} {P4:Tok} {P5:Tok} {P6:Tok} {Ay:Ul} {Aa:Ul} {Ae:Ul} {Af:Ul}
 (g_is_number:FX K mg "is_number" gJ ["thing"])
 (g_is_below:FX K mg "is_below" iP ["number","bound"])
 (g_is_name:FX K mg "is_name" jN ["thing"])
 (g_is_kind:FX K mg "is_kind" jS ["pair"])
 (g_are_kinds:FX K mg "are_kinds" gG ["kinds"])
 (g_kinds_of:FX K mg "kinds_of" iT ["pairs"])
 (g_many_of:FX K mg "many_of" km ["kinds","name"])
 (g_kids_of:FX K mg "kids_of" kh ["thing"])
 (g_walked:FX K mg "walked" lU ["thing"])
 (g_built:FX K mg "built" oz ["tops"])
 (g_is_call:FX K mg "is_call" j7 ["thing"])
 (g_fits_pattern:FX K mg "fits_pattern" ef ["kinds","pattern","states","kids"])
 (g_is_small:FX K mg "is_small" iH ["pattern"])
 (g_check_pattern:FX K mg "check_pattern" dG ["outs","pattern","states","kids"])
 (g_check_state:FX K mg "check_state" eZ ["ins","outs","patterns","states"])
 (g_made_book:FX K mg "made_book" f8 ["ins","outs","head","rules"])
 (g_words_of:FX K mg "words_of" iu ["text"])
 (g_read_number:FX K mg "read_number" fc ["word"])
 (g_read_call:FX K mg "read_call" gr ["words"])
 (g_steps_of:FX K mg "steps_of" iI ["words"])
 (g_follows:FX K mg "follows" jC ["before","step","depth"])
 (g_tops_of:FX K mg "tops_of" jP ["steps"])
 (g_read_pattern:FX K mg "read_pattern" ey ["words"])
 (g_read_kind:FX K mg "read_kind" gu ["word"])
 (g_read_kinds:FX K mg "read_kinds" fJ ["first","words"])
 (g_read_head:FX K mg "read_head" gD ["words"])
 (g_read_rule:FX K mg "read_rule" gc ["state","name","words"])
 (g_read_rules:FX K mg "read_rules" fQ ["ins","rows"])
 (g_words_in:FX K mg "words_in" iK ["row"])
 (g_read_book:FX K mg "read_book" gp ["text"])
 (g__law_cell_at:FX K mg "_law_cell_at" eh ["script","k"])
 (g__law_name:FX K mg "_law_name" gf ["base","n"])
 (g__law_kinds:FX K mg "_law_kinds" fB ["cell"])
 (g__law_folded:FX K mg "_law_folded" eX ["script","many"])
 (g__law_pattern:FX K mg "_law_pattern" d3 ["cell","outs","states","kids","deep"])
 (g__law_digits:FX K mg "_law_digits" fb ["own","outs","states","kids","deep"])
 (g__law_book:FX K mg "_law_book" gy ["script","most","deep"])
 (g__law_shown:FX K mg "_law_shown" fK ["pattern"])
 (g__law_rows:FX K mg "_law_rows" gz ["book"])
 (g__law_bad_kinds:FX K mg "_law_bad_kinds" dk ["kinds","way","cell"])
 (g__law_bad_pattern:FX K mg "_law_bad_pattern" cM ["pattern","cell","states","kids","outs"])
 (g__law_bad_book:FX K mg "_law_bad_book" dH ["book","cell"])
 (g__law_refused:FX K mg "_law_refused" d8 ["text"])
 (on_Measure:Ve K UX "Measure"=some (some (.ref Ag)))
 (pg_Measure:Yl K Ag Wb=true)
 (hd_Measure:YJ K Ag=true)
 (po_Measure:ZT K Ag=true)
 (sa_Measure:U5 K (.ref Ag) "__setattr__"=some (some (.builtin "object.__setattr__")))
 (mk_Measure:PySem.W.makesIn K Ag=true)
 (kc_Measure:WB K (.ref Ag)=true)
 (na_Measure_met_knots:U5 K (.ref Ag) "met_knots"=some none)
 (na_Measure_met_calls:U5 K (.ref Ag) "met_calls"=some none)
 (a12:U5 K (.ref Ag) "__init__"=some (some (.ref JI))) (i12:Y1 K (.ref JI)=true) (l12:K.lookup JI=some ⟨NA,Nw,.func (Xb "__init__" "Measure.__init__" (bO cf) (bC cf) (am cf) .none NB NC ND Ny JJ NF),Nz⟩) (c12:Ye K JJ "Measure.__init__"=true) (k12:WB K (.ref JI)=true)
 (a13:U5 K (.ref Ag) "takes"=some (some (.ref JK))) (i13:Y1 K (.ref JK)=true) (l13:K.lookup JK=some ⟨NJ,NG,.func (Xb "takes" "Measure.takes" (bO bS) (bC bS) (am bS) .none NK NL NM NH JL NN),NI⟩) (c13:Ye K JL "Measure.takes"=true) (k13:WB K (.ref JK)=true)
 (a45:Ve K UX "law"=some (some (.ref JM))) (l45:K.lookup JM=some ⟨NQ,NO,.func (Xb "law" "law" (bO jx) (bC jx) (am jx) .none JO JP JQ JN GD JR),NP⟩) (c45:Ye K GD "law"=true) (k45:WB K (.ref JM)=true)
 (z0:Ve K UX "ValueError"=some none)
 (z1:Ve K UX "all"=some none)
 (z2:Ve K UX "bool"=some none)
 (z3:Ve K UX "divmod"=some none)
 (z4:Ve K UX "enumerate"=some none)
 (z5:Ve K UX "int"=some none)
 (z6:Ve K UX "isinstance"=some none)
 (z7:Ve K UX "len"=some none)
 (z8:Ve K UX "list"=some none)
 (z9:Ve K UX "min"=some none)
 (z10:Ve K UX "range"=some none)
 (z11:Ve K UX "reversed"=some none)
 (z12:Ve K UX "set"=some none)
 (z13:Ve K UX "str"=some none)
 (z14:Ve K UX "tuple"=some none)
 (z15:Ve K UX "zip"=some none)
 (y0:Ve K UX "CALL_SIGN"=some (some (.str (Ug "?") PU)))
 (y1:Ve K UX "MOST_LETTERS"=some (some (.int (8) PV)))
 (y2:Ve K UX "MOST_KINDS"=some (some (.int (8) PX)))
 (y3:Ve K UX "MOST_KIDS"=some (some (.int (3) PY)))
 (y4:Ve K UX "MOST_STATES"=some (some (.int (20) PZ)))
 (y5:Ve K UX "MOST_ROWS"=some (some (.int (20) P0)))
 (y6:Ve K UX "MOST_KNOTS"=some (some (.int (400) P1)))
 (y7:Ve K UX "MOST_CALLS"=some (some (.int (200) P4)))
 (y8:Ve K UX "MOST_FIGURES"=some (some (.int (3) P5)))
 (y9:Ve K UX "MOST_BRACKETS"=some (some (.int (100) P6)))
 (xn_BookError:Ve K UX "BookError"=some (some (.ref Ay)))
 (xn_NoKinds:Ve K UX "NoKinds"=some (some (.ref Aa)))
 (xn_NoBook:Ve K UX "NoBook"=some (some (.ref Ae)))
 (xn_NoText:Ve K UX "NoText"=some (some (.ref Af)))
 (xe_NoKinds:Yp K Aa [.type "ValueError",.type "Exception",.type "BaseException",.type "object"] "ValueError.__new__"=true)
 (xg_NoKinds:U5 K (.ref Aa) "__getattribute__"=some (some (.builtin "BaseException.__getattribute__")))
 (xh_NoKinds:U5 K (.ref Aa) "__getattr__"=some none)
 (xc_NoKinds:U5 K (.ref Aa) "__class__"=some (some (.builtin "object.__class__")))
 (xo_NoKinds:Wc K Aa (.type "object")=some true)
 (xb_NoKinds:Wc K Aa (.type "BaseException")=some true)
 (hit_NoKinds_BookError:Yd K (.ref Aa) (.ref Ay)=some true)
 (kit_NoKinds_NoText:U6 K (.ref Aa) (.ref Af)=some false)
 (kit_NoKinds_ValueError:U6 K (.ref Aa) (.type "ValueError")=some true)
 (kit_NoKinds_NoKinds:U6 K (.ref Aa) (.ref Aa)=some true)
 (kit_NoKinds_NoBook:U6 K (.ref Aa) (.ref Ae)=some false)
 (xe_NoBook:Yp K Ae [.type "ValueError",.type "Exception",.type "BaseException",.type "object"] "ValueError.__new__"=true)
 (xg_NoBook:U5 K (.ref Ae) "__getattribute__"=some (some (.builtin "BaseException.__getattribute__")))
 (xh_NoBook:U5 K (.ref Ae) "__getattr__"=some none)
 (xc_NoBook:U5 K (.ref Ae) "__class__"=some (some (.builtin "object.__class__")))
 (xo_NoBook:Wc K Ae (.type "object")=some true)
 (xb_NoBook:Wc K Ae (.type "BaseException")=some true)
 (hit_NoBook_BookError:Yd K (.ref Ae) (.ref Ay)=some true)
 (kit_NoBook_NoText:U6 K (.ref Ae) (.ref Af)=some false)
 (kit_NoBook_ValueError:U6 K (.ref Ae) (.type "ValueError")=some true)
 (kit_NoBook_NoKinds:U6 K (.ref Ae) (.ref Aa)=some false)
 (kit_NoBook_NoBook:U6 K (.ref Ae) (.ref Ae)=some true)
 (xe_NoText:Yp K Af [.type "ValueError",.type "Exception",.type "BaseException",.type "object"] "ValueError.__new__"=true)
 (xg_NoText:U5 K (.ref Af) "__getattribute__"=some (some (.builtin "BaseException.__getattribute__")))
 (xh_NoText:U5 K (.ref Af) "__getattr__"=some none)
 (xc_NoText:U5 K (.ref Af) "__class__"=some (some (.builtin "object.__class__")))
 (xo_NoText:Wc K Af (.type "object")=some true)
 (xb_NoText:Wc K Af (.type "BaseException")=some true)
 (hit_NoText_BookError:Yd K (.ref Af) (.ref Ay)=some true)
 (kit_NoText_NoText:U6 K (.ref Af) (.ref Af)=some true)
 (kit_NoText_ValueError:U6 K (.ref Af) (.type "ValueError")=some true)
 (kit_NoText_NoKinds:U6 K (.ref Af) (.ref Aa)=some false)
 (kit_NoText_NoBook:U6 K (.ref Af) (.ref Ae)=some false) :
 ∃ fd:WV,(∀ (s:Uo) (v:Um),BindsTo s fd ⟨[v],[]⟩ [("script",v)])/\∀ base:VO,K.In base->base.Ns UX mg->FnOk l.prog w K mg base CX0 60 fa fd ["script"] (pz K):=by
 have e0:=Tr.symm.trans (VU X G a45);have e:JM=fa:=(Value.ref.inj (UD e0)).symm;subst e;have P7:=df (st:=cf) l12 c12 k12;have Ts:=P7.binds (ps:=["self"]) fun _ _ _ _ _ _ us hl=>by obtain ⟨y0,rfl⟩:=us1 hl;rfl
 have P8:=df (st:=bS) l13 c13 k13;have Tt:=P8.binds (ps:=["self","part","row"]) fun _ _ _ _ _ _ us hl=>by obtain ⟨y0,y1,y2,rfl⟩:=us3 hl;rfl
 have P9:=df (st:=jx) l45 c45 k45;have Tu:=P9.binds (ps:=["script"]) fun _ _ _ _ _ _ us hl=>by obtain ⟨y0,rfl⟩:=us1 hl;rfl
 let T:TX K mg:=⟨⟨PU,VU X G y0⟩,⟨PV,VU X G y1⟩,⟨PX,VU X G y2⟩,⟨PY,VU X G y3⟩,⟨PZ,VU X G y4⟩,⟨P0,VU X G y5⟩,⟨P1,VU X G y6⟩,⟨P4,VU X G y7⟩,⟨P5,VU X G y8⟩,⟨P6,VU X G y9⟩,Ay,VU X G xn_BookError,Aa,VU X G xn_NoKinds,Ae,VU X G xn_NoBook,Af,VU X G xn_NoText,xe_NoKinds,xg_NoKinds,xh_NoKinds,xc_NoKinds,xo_NoKinds,xb_NoKinds,hit_NoKinds_BookError,kit_NoKinds_NoText,kit_NoKinds_ValueError,kit_NoKinds_NoKinds,kit_NoKinds_NoBook,xe_NoBook,xg_NoBook,xh_NoBook,xc_NoBook,xo_NoBook,xb_NoBook,hit_NoBook_BookError,kit_NoBook_NoText,kit_NoBook_ValueError,kit_NoBook_NoKinds,kit_NoBook_NoBook,xe_NoText,xg_NoText,xh_NoText,xc_NoText,xo_NoText,xb_NoText,hit_NoText_BookError,kit_NoText_NoText,kit_NoText_ValueError,kit_NoText_NoKinds,kit_NoText_NoBook,g_is_number,g_is_below,g_is_name,g_is_kind,g_are_kinds,g_kinds_of,g_many_of,g_kids_of,g_walked,g_built,g_is_call,g_fits_pattern,JI,_,P7,Ts,JK,_,P8,Tt,g_is_small,g_check_pattern,g_check_state,g_made_book,g_words_of,g_read_number,g_read_call,g_steps_of,g_follows,g_tops_of,g_read_pattern,g_read_kind,g_read_kinds,g_read_head,g_read_rule,g_read_rules,g_words_in,g_read_book,g__law_cell_at,g__law_name,g__law_kinds,g__law_folded,g__law_pattern,g__law_digits,g__law_book,g__law_shown,g__law_rows,g__law_bad_kinds,g__law_bad_pattern,g__law_bad_book,g__law_refused,⟨JM,_,P9,Tu,VU X G a45⟩,Ag,VU X G on_Measure,⟨pg_Measure,hd_Measure,po_Measure,sa_Measure⟩,⟨mk_Measure,a12,i12,kc_Measure⟩,na_Measure_met_knots,na_Measure_met_calls,⟨a13,i13,k13⟩,Vu X G z0,Vu X G z1,Vu X G z2,Vu X G z3,Vu X G z4,Vu X G z5,Vu X G z6,Vu X G z7,Vu X G z8,Vu X G z9,Vu X G z10,Vu X G z11,Vu X G z12,Vu X G z13,Vu X G z14,Vu X G z15⟩
 refine ⟨Xb "law" "law" (bO jx) (bC jx) (am jx) .none JO JP JQ JN GD JR,fun s v=>.of_eq rfl,fun base _ _=>?_⟩;exact zp T
theorem walk {l:PySem.W.OpenLaw} {q:U1} {loose:List UA} {XP:(UA->Option Um)->VO->Prop} {YP:Vl->VO->Prop} {d:DefRec} {K:Params->Uj} (hn:l.most=some 63) (HL:d.params.defaults=[])
 (hY:∀ (w:Vl) (h:VO),YP w h->(K w.params).In h)
 (F:∀ (w:Vl) (mg:UA->Option Um) (fa:Ul) (h:VO),(K w.params).In h->h.Ns UX mg->mg d.name=some (.ref fa) →
  ∃ fd:WV,(∀ (s:Uo) (u:Um),BindsTo s fd ⟨[u],[]⟩ [("script",u)])/\∀ base:VO,(K w.params).In base->base.Ns UX mg->FnOk l.prog w (K w.params) mg base CX0 60 fa fd ["script"] (pz (K w.params))) :
 PySem.W.WalkO q loose XP YP l.row.toRowW d [] (fun f vs=>PySem.call f vs) :=
 L2.xm (n:=63) (k:=60) (x:="script") (CX:=fun _=>CX0) (sp:=fun w=>pz (K w.params)) hn (by decide) HL ⟨rfl,by decide,by decide⟩ hY F (fun _ _ a ns hl _ hS=>⟨a,ns,rfl,hS,hl,fun _=>rfl⟩) fun _ _ _ _ _ z=>z
end LAW
open PySem PySem.W PyProof.Rows
set_option maxRecDepth 100000 in
set_option maxHeartbeats 0 in
theorem PySem.Challenge.cw_boughbook_k32_texts_of_no_book_holds : PySem.Challenge.rw_boughbook_k32_texts_of_no_book.Holds := by
 w_on;o_law;(refine holds_open (q:=LAW.vw) (N:=90000) (loose:=[]) (XP:=XL LAW.vw []) (Yf:=Hook.obs (kHook LAW.d0.heap_1 LAW.ks LAW.ke)) (Ya:=Hook.val (kHook LAW.d0.heap_1 LAW.ks LAW.ke)) (YP:=Hook.says (kHook LAW.d0.heap_1 LAW.ks LAW.ke)) (Xt:=LAW.xt) (HD.uI (by kernel_rfl) (by kernel_rfl) (fun _=>by kernel_rfl) LAW.lk0 LAW.lk1 LAW.lk2 LAW.lk3 LAW.lk4 LAW.lk5 (HD.Pc.k LAW.kp)) (Hook.of (kHook LAW.d0.heap_1 LAW.ks LAW.ke)) (Hook.keeps (kHook LAW.d0.heap_1 LAW.ks LAW.ke)) (fun s e=>xl_of s (Zo.mp e).1) XL.keeps (by rfl) (by rfl) (by rfl) (fun s e=>recFacts_of (Zo.mp e).2) (by rfl) (by assumption) (by decide +kernel) ⟨rfl,rfl,rfl,rfl,rfl,by decide +kernel⟩ ?_ ?_);w_witness2
 k_fill
 refine LAW.walk (l:=PySem.Challenge.rw_boughbook_k32_texts_of_no_book) rfl rfl (fun w h Y=>PySem.W.kIn_of Y) ?F
 case F =>
  intro w mg fa h KX G HM;refine' LAW.all_mk KX G HM (LAW.fx1 KX G) (LAW.fx2 KX G) (LAW.fx1 KX G) (LAW.fx1 KX G) (LAW.fx1 KX G) (LAW.fx1 KX G) (LAW.fx2 KX G) (LAW.fx1 KX G) (LAW.fx1 KX G) (LAW.fx1 KX G) (LAW.fx1 KX G) (LAW.fx4 KX G) (LAW.fx1 KX G) (LAW.fx4 KX G) (LAW.fx4 KX G) (LAW.fx4 KX G) (LAW.fx1 KX G) (LAW.fx1 KX G) (LAW.fx1 KX G) (LAW.fx1 KX G) (LAW.fx3 KX G) (LAW.fx1 KX G) (LAW.fx1 KX G) (LAW.fx1 KX G) (LAW.fx2 KX G) (LAW.fx1 KX G) (LAW.fx3 KX G) (LAW.fx2 KX G) (LAW.fx1 KX G) (LAW.fx1 KX G) (LAW.fx2 KX G) (LAW.fx2 KX G) (LAW.fx1 KX G) (LAW.fx2 KX G) (LAW.fx5 KX G) (LAW.fx5 KX G) (LAW.fx3 KX G) (LAW.fx1 KX G) (LAW.fx1 KX G) (LAW.fx3 KX G) (LAW.fx5 KX G) (LAW.fx2 KX G) (LAW.fx1 KX G) ?on_Measure ?pg_Measure ?hd_Measure ?po_Measure ?sa_Measure ?mk_Measure ?kc_Measure ?na_Measure_met_knots ?na_Measure_met_calls ?a12 ?i12 ?l12 ?c12 ?k12 ?a13 ?i13 ?l13 ?c13 ?k13 ?a45 ?l45 ?c45 ?k45 ?z0 ?z1 ?z2 ?z3 ?z4 ?z5 ?z6 ?z7 ?z8 ?z9 ?z10 ?z11 ?z12 ?z13 ?z14 ?z15 ?y0 ?y1 ?y2 ?y3 ?y4 ?y5 ?y6 ?y7 ?y8 ?y9 ?xn_BookError ?xn_NoKinds ?xn_NoBook ?xn_NoText ?xe_NoKinds ?xg_NoKinds ?xh_NoKinds ?xc_NoKinds ?xo_NoKinds ?xb_NoKinds ?hit_NoKinds_BookError ?kit_NoKinds_NoText ?kit_NoKinds_ValueError ?kit_NoKinds_NoKinds ?kit_NoKinds_NoBook ?xe_NoBook ?xg_NoBook ?xh_NoBook ?xc_NoBook ?xo_NoBook ?xb_NoBook ?hit_NoBook_BookError ?kit_NoBook_NoText ?kit_NoBook_ValueError ?kit_NoBook_NoKinds ?kit_NoBook_NoBook ?xe_NoText ?xg_NoText ?xh_NoText ?xc_NoText ?xo_NoText ?xb_NoText ?hit_NoText_BookError ?kit_NoText_NoText ?kit_NoText_ValueError ?kit_NoText_NoKinds ?kit_NoText_NoBook
  (case on_Measure=>k_is)
  (case pg_Measure=>k_is)
  (case hd_Measure=>k_is)
  (case po_Measure=>k_is)
  (case sa_Measure=>k_is)
  (case mk_Measure=>k_is)
  (case kc_Measure=>k_is)
  (case na_Measure_met_knots=>k_is)
  (case na_Measure_met_calls=>k_is)
  (case a12=>k_is)
  (case i12=>k_is)
  (case l12=>k_is)
  (case c12=>k_is)
  (case k12=>k_is)
  (case a13=>k_is)
  (case i13=>k_is)
  (case l13=>k_is)
  (case c13=>k_is)
  (case k13=>k_is)
  (case a45=>k_is)
  (case l45=>k_is)
  (case c45=>k_is)
  (case k45=>k_is)
  (case z0=>k_is)
  (case z1=>k_is)
  (case z2=>k_is)
  (case z3=>k_is)
  (case z4=>k_is)
  (case z5=>k_is)
  (case z6=>k_is)
  (case z7=>k_is)
  (case z8=>k_is)
  (case z9=>k_is)
  (case z10=>k_is)
  (case z11=>k_is)
  (case z12=>k_is)
  (case z13=>k_is)
  (case z14=>k_is)
  (case z15=>k_is)
  (case y0=>k_is)
  (case y1=>k_is)
  (case y2=>k_is)
  (case y3=>k_is)
  (case y4=>k_is)
  (case y5=>k_is)
  (case y6=>k_is)
  (case y7=>k_is)
  (case y8=>k_is)
  (case y9=>k_is)
  (case xn_BookError=>k_is)
  (case xn_NoKinds=>k_is)
  (case xn_NoBook=>k_is)
  (case xn_NoText=>k_is)
  (case xe_NoKinds=>k_exc)
  (case xg_NoKinds=>k_is)
  (case xh_NoKinds=>k_is)
  (case xc_NoKinds=>k_is)
  (case xo_NoKinds=>k_is)
  (case xb_NoKinds=>k_is)
  (case hit_NoKinds_BookError=>kts_exm)
  (case kit_NoKinds_NoText=>kit_is)
  (case kit_NoKinds_ValueError=>kit_is)
  (case kit_NoKinds_NoKinds=>kit_is)
  (case kit_NoKinds_NoBook=>kit_is)
  (case xe_NoBook=>k_exc)
  (case xg_NoBook=>k_is)
  (case xh_NoBook=>k_is)
  (case xc_NoBook=>k_is)
  (case xo_NoBook=>k_is)
  (case xb_NoBook=>k_is)
  (case hit_NoBook_BookError=>kts_exm)
  (case kit_NoBook_NoText=>kit_is)
  (case kit_NoBook_ValueError=>kit_is)
  (case kit_NoBook_NoKinds=>kit_is)
  (case kit_NoBook_NoBook=>kit_is)
  (case xe_NoText=>k_exc)
  (case xg_NoText=>k_is)
  (case xh_NoText=>k_is)
  (case xc_NoText=>k_is)
  (case xo_NoText=>k_is)
  (case xb_NoText=>k_is)
  (case hit_NoText_BookError=>kts_exm)
  (case kit_NoText_NoText=>kit_is)
  (case kit_NoText_ValueError=>kit_is)
  (case kit_NoText_NoKinds=>kit_is)
  (case kit_NoText_NoBook=>kit_is)
