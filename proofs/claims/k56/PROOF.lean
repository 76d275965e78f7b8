import PyProof.Rows.All
import Wide.All
import OpenK.AllK
import Wide.FinOn
import Lean
import PyProof.EqAt
import PyProof.EqKinds
import PyProof.TupleCall
import KE.KRevIter
import PyProof.ListNew
import PyProof.Draws
import PyProof.EnumMake
import PyProof.Rows.EnumRows
import PyProof.ZipIter
import PyProof.ConsumeWalk
import KE.LcSums
import PyProof.AttrMissHeap
import KE.KDictOf
import PyProof.DictWalks
import PyProof.ListMulRoad
import PyProof.FactsAll.tuple
import PyProof.NeKinds
import KE.RegKTryMore
import KE.RegKIsAll
import PyProof.StrWalks
import PyProof.Rows.SetFrom
import PyProof.FString5
import Wide.Txt
import PyProof.Rows.SeqMore
import PyProof.StrOps2
import KE.KEqDict
import PyProof.CollectIter
import PyProof.JoinWalk
import PyProof.CallStr
import PyProof.DictRoadsH
import PyProof.MeetsDictList
import PyProof.DictTruth
import PyProof.StrLawsChain
import PyProof.StrCalls6
import PyProof.ToksMono
import PyProof.StrCalls2
import KE.KWords
import PyProof.MeetsStr2
import KE.KLam
import KE.KDictLaws
import PyProof.DictItems
import PyProof.DictValues
import PyProof.DictItemsLoops
import PySem.Challenge.RW_boughbook_k56_fronts_lie_on_outcomes
set_option Elab.async false
set_option linter.all false
set_option maxRecDepth 100000
set_option genInjectivity false
set_option genSizeOf false
local macro_rules | `(tactic| omega) => `(tactic| lia)
open List renaming length_map→UL,getElem?_eq_getElem→UN,mem_of_getElem?→UP,getElem?_eq_some_iff→US,getElem?_map→UZ,size_toArray→U0,length_cons→U1,map_append→U5,length_append→U8,mem_iff_getElem?→Vc,mem_cons→Vd,mem_cons_of_mem→Vf,mem_singleton→Vi,mem_cons_self→Vk,range→Vp,length_range→Vx,append_nil→VB,length_take→VE,mem_append→VH,mem_append_right→VI,map_cons→VJ,mem_map→VM,append_assoc→VN,mem_append_left→VU,getElem?_cons_succ→VW,reverse_cons→VY,length_drop→Wa,take_add_one→Wb,length_eq_zero_iff→Wc,length_reverse→Wd,getElem?_range→We,take_of_length_le→Wh,getElem?_eq_none→Wk,reverse_append→Wn,mem_filter→WA,replicate→WI,reverse_reverse→WK,map_nil→WN,getElem?_zip_eq_some→WR,getElem?_append_left→WS,take_length→WY,filter_cons→WZ,map_map→W2,mem_range→W5,drop_zero→W6,nil_append→W9,dropLast_concat_getLast→Xa,length→Xg,not_mem_nil→Xj,lookup_cons→Xk,cons_append→Xl,all_eq_true→Xm,getElem?_append_right→Xp,length_filter_le→Xq,find?_cons→Xx,take_zero→XE,zip_cons_cons→XN,of_mem_zip→XQ,length_zip→XR,length_nil→XS,length_replicate→XX,drop_eq_getElem_cons→Yh,filterMap_cons→Yj,forIn_cons→Yw,ext_getElem?→YC,getElem_mem→YK,nodup_cons→YV,map_congr_left→YX,zip_nil_right→Y3,nodup_nil→Y4,map_inj_right→Y5,filter_append→Y6,zip_nil_left→Za,nodup_append→Zb,map_reverse→Zr,range_succ→ZD,length_set→ZE,filter_nil→ZF,set→ZN,getElem?_set_ne→ZO,forIn_nil→ZP,drop_succ_cons→ZU,map_drop→Z1,mem_filterMap→Z5,filterMap_map→Z6
open PySem renaming wpAny_bind→UM,Addr→UQ,Value→UT,wpAny_pure→UX,Shared→UY,Program→U6,wpAny→Va,sizeLine→Vb,World→Vj,Str→Vm,Paired→Vs,boot_len→Vu,model→Vw,mainGlobals→VC,Around→VF,wpAny_field→VO,starEach→VR,wpAny_callSpecial?_slot→VX,wpAny_newObj_type→V1,wpAny_call_entry→V2,Expr→V4,Heap→V9,builtinLookup_eq_fast→Wf,wpAny_seqItems→Wj,wpAny_holding→Wl,wpAny_specialOf→Wr,wpAny_Call_Name_kw→Wu,cLine→Ww,wpAny_updateSeq→WE,sysModules→WJ,typeLookup_type→WL,Stmt→WM,wpAny_mono→WU,Obj→W0,IsPair→W3,rawInt→Xe,eval→Xf,NameKind→Xo,wpAny_typeOf→Xr,Builtin→Xv,wpAny_isInstance→Xw,wpAny_setField_rec→Xz,wpAny_rule→XA,wpAny_attempt→XG,pyNext→XH,plainId_quiet→XI,isSubtype_type→XO,wpAny_typeNameOfWhole_keyiter→XZ,wpAny_of_eq→X0,wpAny_pyIter_tuple→X1,wpAny_passesOwn→X3,FuncData→X5,compareOp→X8,wpAny_truthy_bool→Yg,mem_of_lookup→Yi,wpAny_setField→Yl,typeLookup→Ym,atKey→Yn,wpAny_typeNameOf_keyiter→Yz,binaryOp→YA,codeAny_builtin→YE,tupleKind_room_in1→YF,sliceBounds→YG,sizeLine_eq→YH,Scope→YI,Pos→YJ,tupleKeyHash→YM,getItem→YN,firstArgMember→YO,codeAny→YQ,backTo→YR,call_meets→YY,bootBuiltins→Zd,OsState→Zg,updateSeq→Zk,wpAny_pyIter_enum→Zw,wpAny_letGo→Zx,wpAny_dictEntries→Zy,storedH→Zz,atKey_none_of_get→ZA,behindInMarks→ZH,tupleKind→ZJ,IsZip→ZQ,assignEach→ZT,IsPart→ZV,wpAny_ite_split→ZW,wpAny_execs_nil→ZX,letOwnedTupleGo→ZY,importedModules→Z0,wpAny_notOrdered_dict→Z4,wpAny_updateSeq_pair→Z7,slicePicked→Z8,callType_codes→Z9
open PySem.W renaming Frag→UO,mg_none_of→Wi,nsIn→Wx,kia_one→Wz,boot_heap→XB,kitOne→X4,fnOf→Yb,mg_of→Ze,keepIn→ZK,codeIn→ZL
open Nat renaming le_refl→UR,zero_le→Vn,ne_of_lt→Vy,lt_of_lt_of_le→VS,lt_irrefl→Wo,le_trans→WB,le_add_right→Xi,ne_of_gt→Yc,lt_trans→Yd,le_of_lt→Ye,not_lt_zero→Yv,lt_succ_of_lt→YB,not_lt→Y1,lt_of_le_of_lt→Y2,add_assoc→Zi,min_self→Zv,min_eq_left→ZC,mul_le_mul_right→ZM
open PySem.Str renaming ofString→UU
open PySem.Heap renaming get?_push_of_some→UW,get?_push_size→U4,lt_size→U7,get?_update_self→VD,get?_update_other→VL,size_push→V8,SameBut→WH,size_update→YZ
open PySem.Paired renaming length→U2
open PySem.F renaming plainAttrs_list→U3,type_list_append→Vg,slot_list_append→Vh,plain_extend_loop→Wq,slot_dict_keyiterator_next→Xn,slot_list_index→XD,type_list_pop→XT,slot_list_pop→XU,slot_dict_get→XW,slot_zip_next→X7,type_list_extend→Yo,slot_list_extend→Yp,slot_tuple_iterator_next→Yr,slot_dict_setdefault→YS,entry_extend_loop→Zc,args_tuple_add_2→Zf,type_list_index→Zl,type_list_clear→Zm,slot_list_clear→Zn,plainAttrs_dict→Zo,entry_tuple_add→Zp,args_dict_get_3→Zq,slot_tuple_add→Zs,entry_dict_get→Zt,slot_tuple_hash→ZG,slot_list_getattribute→ZI
open Or renaming inl→U9,inr→Zh
open Bool renaming false_ne_true→Ve,eq_false_iff→V5,false_eq_true→V7,and_eq_true→WC,false_or→Yu,eq_iff_iff→Yx,not_true→YL,and_false→Y8,and_eq_true_iff→ZS,or_false→Z3
open Option.some renaming inj→Vo
open PySem.PassesOwn renaming never→Vq
open Option renaming map_eq_some_iff→Vr,isSome_iff_exists→Yq,map_some→YU
open PySem.Value renaming ref→Vv,none→Wm,type→Xh
open Array renaming length_toList→Vz,getElem?_eq_getElem→WT,getElem?_toList→XY,toList_append→Yk,forIn_toList→Yy,getElem?_eq_none→YD,getElem?_eq_some_iff→Y9
open Sum renaming inl→VA,inr→X9
open PyProof.Rows renaming slot_tuple_getitem→VG,callWith_type1→VP,boot_tuple→W8,IsTup→XM,boot_isinstance→YT,boot_list→Zu
open PySem.Builtin.SmallTypes renaming nextOf→VQ,ownedTupleIsFree→VZ
open Int renaming toNat_natCast→VT,emod_lt_of_pos→V0,emod_nonneg→V6,zero_add→Ws,toNat_of_nonneg→WO
open PySem.Obj renaming mapSeq→V3,data_mapFields→W7,isFreed_of_fields→YW
open PySem.NameKind renaming free→Wg,cell→Y0
open PySem.Builtin.Slice renaming slicePlaces→Wt,sliceAdjust→XC,sliceApplied→Yt
open PySem.Calls renaming spliced_cons→Wv,spliced_nil→WV,callWith_builtin→X2,evalArgs_plain→Y7
open PySem.Builtin.Tuple renaming tupleExact→Wy,tupleHashOf→W4,tupleItemsOf→Ys
open PySem.Value.type renaming inj→WD
open Ne renaming symm→WG
open PySem.Builtin.List renaming listExtendWith→WQ,listTooLong→Xb,listSameRef→Xc,listLengthHint→Xs,listItems→Xu,listUpdate→ZR
open PySem.Heap.SameBut renaming update→WW
open True renaming intro→WX
open PySem.AutoSeq1 renaming wpAny_loadPart'→Xd
open ForInStep renaming yield→Xy
open PySem.Around renaming under_plainId→XF
open Sum.inl renaming inj→XJ
open False renaming elim→X6
open PySem.Builtin.Str renaming strSliceIndices→Zj
open List.cons renaming inj→Z2
namespace HD
open PySem PySem.W PySem.Calls PyProof.Rows
def jU (tb:String->Option Xv) (p:U6) (w:Vj) (m:Nat) (ann:Option UT):Nat->SharedT->Thread->Option SharedT
 | 0,_,_=>none
 | n+1,s,t=>match through t with
   | true=>some s
   | false=>match stepOk m ann t with
     | false=>none
     | true=>match stepT (denote tb) p w s t with
       | some (s',t')=>jU tb p w m ann n s' t'
       | none=>none
theorem kC {tb:String->Option Xv} {p:U6} {w:Vj} {m:Nat} {ann:Option UT}:∀ {n:Nat} {s s':SharedT} {t:Thread},jU tb p w m ann n s t=some s'->topRun tb p w m ann n s.abs t=some s'.abs
 | 0,_,_,_,h=>by cases h
 | n+1,s,s',t,h=>by
   unfold jU at h;unfold topRun;cases he:through t with
   | true=>rw [he] at h;cases h;rfl
   | false =>
     rw [he] at h;cases hk:stepOk m ann t with
     | false=>rw [hk] at h;cases h
     | true =>
       rw [hk] at h;cases hs:stepT (denote tb) p w s t with
       | none=>rw [hs] at h;cases h
       | some r =>
         obtain ⟨s2,t2⟩:=r;rw [hs] at h;rw [stepT_spec hs];exact kC h
def sS:List W0->Nat->BT->BT
 | [],_,t=>t
 | o::l,n,t=>sS l (n+1) (t.ins n o)
def uC:List W0->Nat->BT->Bool
 | [],_,_=>true
 | o::l,n,t=>((t.ins n o).get n).isSome && uC l (n+1) (t.ins n o)
theorem lV:∀ (l:List W0) (n:Nat) (t:BT),uC l n t=true->(sS l n t).list (n+l.length)=t.list n++l
 | [],n,t,_=>by rw [VB];rfl
 | o::l,n,t,h=>by
   obtain ⟨h1,h2⟩:=ZS.mp h;have e:=absHeap_ins (life:=default) h1
   have e2:(t.ins n o).list (n+1)=t.list n++[o]:=by
    have:=congrArg (fun x:V9=>x.objs.toList) e;simpa [absHeap,Heap.push] using this
   have ih:=lV l (n+1) (t.ins n o) h2;rw [e2,VN] at ih;rw [U1,show n+(l.length+1)=n+1+l.length by omega];exact ih
theorem vI {h:V9} (ok:uC h.objs.toList 0 .nil=true):absHeap (sS h.objs.toList 0 .nil) h.objs.size h.life=h:=by
 have e:=lV _ _ _ ok;rw [Nat.zero_add] at e;unfold absHeap;rw [<- Vz,e];rfl
noncomputable abbrev mY (p:U6) (N:Nat) (w:Vj) (os:Zg):Option SharedT :=
 jU treeTable p w 11 (some (.ref 6)) N ⟨sS (XB w.params).objs.toList 0 .nil,11,(XB w.params).life,Array.mk [],boot_drawn,boot_toks,os⟩ (topStub p)
theorem uW (P:Params):(uC (XB P).objs.toList 0 .nil,(XB P).isNs VC,(XB P).objs.size,(XB P).nsMap VC "__annotations__")=(true,true,11,some (.ref 6)):=by kernel_rfl
theorem map_some {α β:Type} {o:Option α} {a:α} {f:α->β} {b:β} (h:o=some a) (e:o.map f=some b):f a=b:=by rw [h] at e;exact Vo e
abbrev Tr0 (p q:U6) (loose:List Vm) (Xt:UY->Bool) (N:Nat) (g0:Bool):Prop:=∀ (w:Vj) (os:Zg),((mY p N w os).map fun s=>(staticsOk (Z0 p.main.body) (XB w.params) s.abs.heap && namesBound p s.abs.heap && gensDone s.abs && laidKept (XB w.params) s.abs.heap,s.abs.heap.bltView,pinSeenD q (drecsOf q) s.abs,plainSeenD q loose s.abs,clsSeenW q loose s.abs,(s.abs.heap.accountedOkI (Z0 p.main.body),s.abs.heap.isNs VC,s.abs.heap.isNs builtinsNs,tablesOk q s.abs.heap,Xt s.abs,(if g0 then s.abs.gens.size == 0 else !leftWithCleanup s.abs.gens))))=some (true,bltViewBooted,pinGoodD (drecsOf q),plainGoodD q loose,clsGoodW q loose,(true,true,true,true,true,true))
abbrev Tr1 (p q:U6) (N:Nat):Prop:=∀ (w:Vj) (os:Zg),((mY p N w os).map fun s=>seen ((recsOf q).map (·.name)) (ownsOf q) [] { s.abs with gens:=#[] })=some (expectedOf q)
abbrev Tr2 (p q:U6) (loose:List Vm) (N:Nat):Prop:=∀ (w:Vj) (os:Zg),((mY p N w os).map fun s=>s.abs.heap.keysOk (looseW q loose) ((recsOf q).map (·.name)) ((litsOf q).map (·.1)) ((clssOf q (looseW q loose)).map (·.name)))=some true
abbrev Tr3 (p q:U6) (N:Nat):Prop:=∀ (w:Vj) (os:Zg),((mY p N w os).map fun s=>tabsOk q s.abs)=some true
abbrev Tr4 (p q:U6) (loose:List Vm) (N:Nat):Prop:=∀ (w:Vj) (os:Zg),((mY p N w os).map fun s=>plainSeenE q (looseW q loose) s.abs)=some (plainGoodE q (looseW q loose))
abbrev Tr5 (p q:U6) (N:Nat):Prop:=∀ (w:Vj) (os:Zg),((mY p N w os).map fun s=>wideSeen q s.abs)=some (wideGood q)
theorem rE {p q:U6} {loose:List Vm} {Xt:UY->Bool} {α:Type} {Yf:UY->α} {Ya:Vj->α} {N:Nat} {g0:Bool}
 (e:opening p=plainProg p.main.scope.names) (hN:Nat.ble 600 N=true) (f:∀ s,fenceModules? p s=some s)
 (r0:Tr0 p q loose Xt N g0)
 (r1:Tr1 p q N)
 (r2:Tr2 p q loose N)
 (r3:Tr3 p q N)
 (r4:Tr4 p q loose N)
 (r5:Tr5 p q N)
 (rY:∀ (w:Vj) (os:Zg),((mY p N w os).map fun s=>Yf s.abs)=some (Ya w)) :
 LeftO p q loose Xt Yf Ya N g0:=fun w=>by
 obtain ⟨⟨h,gs,d,k,os⟩,e1,e'⟩:=Vr.mp (boot_open e hN f w);obtain ⟨rfl,rfl,rfl,rfl⟩:h=XB w.params/\gs=Array.mk []/\d=boot_drawn/\k=boot_toks:=by simpa using e'
 have JY:=uW w.params;have z0:=congrArg Prod.fst JY;have z1:=congrArg (fun x=>x.2.1) JY;have z2:=congrArg (fun x=>x.2.2.1) JY;have z3:=congrArg (fun x=>x.2.2.2) JY;dsimp only at z0 z1 z2 z3;obtain ⟨s1,ER,hY⟩:=Vr.mp (rY w os);have q0:=map_some ER (r0 w os);have q1:=map_some ER (r1 w os);have q2:=map_some ER (r2 w os);have q3:=map_some ER (r3 w os);have q4:=map_some ER (r4 w os);have q5:=map_some ER (r5 w os);have rr:=kC ER
 have KD:SharedT.abs ⟨sS (XB w.params).objs.toList 0 .nil,11,(XB w.params).life,Array.mk [],boot_drawn,boot_toks,os⟩=⟨XB w.params,Array.mk [],boot_drawn,boot_toks,os⟩:=by
  unfold SharedT.abs;dsimp only;rw [<- z2,vI z0]
 rw [KD] at rr;have a0:=congrArg Prod.fst q0;have a1:=congrArg (fun x=>x.2.1) q0;have a2:=congrArg (fun x=>x.2.2.1) q0;have a3:=congrArg (fun x=>x.2.2.2.1) q0;have a4:=congrArg (fun x=>x.2.2.2.2.1) q0;have b0:=congrArg (fun x=>x.2.2.2.2.2.1) q0;have b1:=congrArg (fun x=>x.2.2.2.2.2.2.1) q0;have b2:=congrArg (fun x=>x.2.2.2.2.2.2.2.1) q0;have b3:=congrArg (fun x=>x.2.2.2.2.2.2.2.2.1) q0;have b4:=congrArg (fun x=>x.2.2.2.2.2.2.2.2.2.1) q0;have b5:=congrArg (fun x=>x.2.2.2.2.2.2.2.2.2.2) q0;dsimp only at a0 a1 a2 a3 a4 b0 b1 b2 b3 b4 b5
 have l2:openSeen q loose (Z0 p.main.body) Xt g0 s1.abs=openGood q loose:=by
  unfold openSeen openGood;rw [q1,a1,q2,b0,b1,b2,b3,b4,b5,q3,a2,q4,a3,q5,a4];rfl
 have t:topFrom treeTable p w N ⟨XB w.params,Array.mk [],boot_drawn,boot_toks,os⟩=some s1.abs:=by
  unfold topFrom;dsimp only;rw [z1,z2,z3,rr];show (match staticsOk (Z0 p.main.body) (XB w.params) s1.abs.heap && namesBound p s1.abs.heap && gensDone s1.abs && laidKept (XB w.params) s1.abs.heap with | true=>_ | false=>_)=_;rw [a0]
 unfold openEnds;rw [e1];show (topFrom treeTable p w N _).map _=_;rw [t];exact congrArg some (Prod.ext l2 hY)
def p0:Params:={ strHash:=fun _=>0,shareClass:=fun _=>0,mergeTok:=fun t=>t,idOf:=fun _=>0,idOfShared:=fun _ _=>0,followText:=fun _=>false,idOfImm:=fun _=>0 }
structure Pc (p:U6) (N:Nat) (as:List UQ) (vs:Vj->List (Option W0)):Prop where
 out:∀ (w:Vj) (os:Zg),((mY p N w os).map fun s=>as.map s.abs.heap.get?)=some (vs w)
theorem Pc.k {p:U6} {N:Nat} {as:List UQ} {K:Params->Frag} {e:∀ P,as=(K P).map (·.1)} (h:Pc p N as fun w=>(K w.params).map fun p=>some p.2):∀ (w:Vj) (os:Zg),((mY p N w os).map fun s=>(kHook K as e).obs s.abs)=some ((kHook K as e).val w):=h.out
end HD
section
open PySem PySem.W PyProof.Rows
def LAW.vw:U6:=PySem.W.view PySem.Challenge.pw_boughbook_k56_fronts_lie_on_outcomes [1,2,3,4,5,6,7,9,10,11,12,13,14,15,16,17,18,19,20,22,23,24,26,27,28,29,30,31,32,33,34,35,37,38,39,40,41,42,43,44,45,46,47,48,49,50,51,52,53]
def LAW.xt (s:UY):Bool:=xlAt LAW.vw [] s && recOk (RowW.records (OpenRow.toRowW (OpenLaw.row PySem.Challenge.rw_boughbook_k56_fronts_lie_on_outcomes))) s
set_option maxHeartbeats 0 in
theorem LAW.lk0:HD.Tr0 PySem.Challenge.pw_boughbook_k56_fronts_lie_on_outcomes LAW.vw [] LAW.xt 90000 true:=fun _ _=>by kernel_rfl
set_option maxHeartbeats 0 in
theorem LAW.lk1:HD.Tr1 PySem.Challenge.pw_boughbook_k56_fronts_lie_on_outcomes LAW.vw 90000:=fun _ _=>by kernel_rfl
set_option maxHeartbeats 0 in
theorem LAW.lk2:HD.Tr2 PySem.Challenge.pw_boughbook_k56_fronts_lie_on_outcomes LAW.vw [] 90000:=fun _ _=>by kernel_rfl
set_option maxHeartbeats 0 in
theorem LAW.lk3:HD.Tr3 PySem.Challenge.pw_boughbook_k56_fronts_lie_on_outcomes LAW.vw 90000:=fun _ _=>by kernel_rfl
set_option maxHeartbeats 0 in
theorem LAW.lk4:HD.Tr4 PySem.Challenge.pw_boughbook_k56_fronts_lie_on_outcomes LAW.vw [] 90000:=fun _ _=>by kernel_rfl
set_option maxHeartbeats 0 in
theorem LAW.lk5:HD.Tr5 PySem.Challenge.pw_boughbook_k56_fronts_lie_on_outcomes LAW.vw 90000:=fun _ _=>by kernel_rfl
section
local macro_rules | `(tactic| o_head $_H) => `(tactic| assumption)
set_option maxHeartbeats 0 in
theorem LAW.d0 (h:OpenRow.Holds (OpenLaw.row PySem.Challenge.rw_boughbook_k56_fronts_lie_on_outcomes)):OpenRow.Holds (OpenLaw.row PySem.Challenge.rw_boughbook_k56_fronts_lie_on_outcomes):=by
 k_head
end
noncomputable def LAW.ks:List UQ:=(LAW.d0.heap_1 HD.p0).map (·.1)
theorem LAW.ke:∀ P,LAW.ks=(LAW.d0.heap_1 P).map (·.1):=fun _=>by kernel_rfl
set_option maxHeartbeats 0 in
theorem LAW.kp:HD.Pc PySem.Challenge.pw_boughbook_k56_fronts_lie_on_outcomes 90000 LAW.ks fun w=>(LAW.d0.heap_1 w.params).map fun p=>some p.2:=⟨fun _ _=>by kernel_rfl⟩
end
namespace L2
open PySem PySem.Spec PyProof.Rows
abbrev Key:=Sum Int Vm
def gK:Key->UT->Bool
 | .inl k,v=>Value.isInt k v
 | .inr x,v=>Value.isStrOf x v
def xE (w:Vj):Key->Int
 | .inl k=>hashInt k
 | .inr x=>hashStr w x
theorem bf:∀ {k:Key} {v:UT},gK k v=true->(∃ i t,k=VA i/\v=Value.int i t)∨(∃ x t,k=X9 x/\v=Value.str x t)
 | .inl i,v,h=>by
   obtain ⟨t,e⟩:=Value.isInt_shape (k:=i) (v:=v) h;exact .inl ⟨i,t,rfl,e⟩
 | .inr x,v,h=>by
   obtain ⟨t,e⟩:=Value.isStrOf_shape (x:=x) (v:=v) h;exact .inr ⟨x,t,rfl,e⟩
theorem rS (i:Int) (t:Tok):gK (.inl i) (.int i t)=true:=by simp [gK,Value.isInt]
theorem rW (x:Vm) (t:Tok):gK (.inr x) (.str x t)=true:=by simp [gK,Value.isStrOf]
theorem vL (a b:Int):decide ((VA a:Key)=VA b)=(a == b):=by
 by_cases e:a=b
 · subst e;simp
 · have h:¬ (VA a:Key)=VA b:=fun q=>e (XJ q);rw [decide_eq_false h];exact (beq_eq_false_iff_ne.mpr e).symm
theorem wd (a b:Vm):decide ((X9 a:Key)=X9 b)=decide (a=b):=by
 by_cases e:a=b
 · subst e;simp
 · have h:¬ (X9 a:Key)=X9 b:=fun q=>e (Sum.inr.inj q);rw [decide_eq_false h,decide_eq_false e]
theorem vK (a:Int) (b:Vm):decide ((VA a:Key)=X9 b)=false:=decide_eq_false (fun q=>nomatch q)
theorem vV (a:Vm) (b:Int):decide ((X9 a:Key)=VA b)=false:=decide_eq_false (fun q=>nomatch q)
def aE (prog:U6) (w:Vj):PySem.KeyKind prog w Key where
 is:=gK
 hash:=xE w
 inj:=fun v a b ha hb=>by
  rcases bf ha with ⟨i,t,rfl,rfl⟩ | ⟨x,t,rfl,rfl⟩
  · rcases bf hb with ⟨j,u,rfl,e⟩ | ⟨y,u,rfl,e⟩
    · injection e with e1 _;rw [e1]
    · exact nomatch e
  · rcases bf hb with ⟨j,u,rfl,e⟩ | ⟨y,u,rfl,e⟩
    · exact nomatch e
    · injection e with e1 _;rw [e1]
 byValue:=fun k v h=>by
  rcases bf h with ⟨i,t,rfl,rfl⟩ | ⟨x,t,rfl,rfl⟩ <;> rfl
 pyHash:=fun hv h=>by
  rcases bf hv with ⟨i,t,rfl,rfl⟩ | ⟨x,t,rfl,rfl⟩
  · exact wpAny_pyHash_int h
  · exact wpAny_pyHash_str h
 eqBool:=fun hu hv h=>by
  rcases bf hu with ⟨i,t,rfl,rfl⟩ | ⟨x,t,rfl,rfl⟩
  · rcases bf hv with ⟨j,u,rfl,rfl⟩ | ⟨y,u,rfl,rfl⟩
    · rw [vL] at h;exact wpAny_eqBool_int h
    · rw [vK] at h;exact SeqAt.EqAt.int_str i t y u _ _ _ _ h
  · rcases bf hv with ⟨j,u,rfl,rfl⟩ | ⟨y,u,rfl,rfl⟩
    · rw [vV] at h;exact SeqAt.EqAt.str_int x t j u _ _ _ _ h
    · rw [wd] at h;exact wpAny_eqBool_str h
 «strs»:=fun k x t v h=>by
  rcases bf h with ⟨i,u,rfl,e⟩ | ⟨y,u,rfl,e⟩
  · exact nomatch e
  · injection e with e1 _;subst e1;cases v <;> rfl
theorem pC (prog:U6) (w:Vj) (i:Int) (t:Tok):(aE prog w).is (.inl i) (.int i t)=true:=rS i t
theorem oj (prog:U6) (w:Vj) (x:Vm) (t:Tok):(aE prog w).is (.inr x) (.str x t)=true:=rW x t
end L2
namespace L2
open PySem PySem.Spec PyProof.Rows
set_option genInjectivity true in
inductive V where
 | non | bl (b:Bool) | int (i:Int) | str (x:Vm) | byt (b:Array UInt8) | flt (b:UInt64) | ref (a:UQ) | ty (n:String)
 deriving DecidableEq
def RelV:V->UT->Prop
 | .non,u=>u=Wm
 | .bl b,u=>u=Value.bool b
 | .int i,u=>∃ t,u=Value.int i t
 | .str x,u=>∃ t,u=Value.str x t
 | .byt b,u=>∃ t,u=Value.bytes b t
 | .flt b,u=>∃ t,u=Value.float b t
 | .ref a,u=>u=Vv a
 | .ty n,u=>u=Xh n
abbrev Vals:List V->List UT->Prop:=Vs RelV
theorem Vals.length {xs:List V} {us:List UT} (r:Vals xs us):xs.length=us.length:=U2 r
theorem Vals.get:∀ {xs:List V} {us:List UT} {i:Nat} {x:V},Vals xs us->xs[i]?=some x->∃ u,us[i]?=some u/\RelV x u
 | _,_,_,_,.nil,e=>by simp at e
 | _,_,0,_,.cons r _,e=>by simp at e;subst e;exact ⟨_,rfl,r⟩
 | _,_,i+1,x,.cons _ t,e=>by
   obtain ⟨u,h1,h2⟩:=Vals.get (i:=i) (x:=x) t (by simpa using e);exact ⟨u,by simpa using h1,h2⟩
theorem Vals.set {x:V} {u:UT} (r:RelV x u):∀ {xs:List V} {us:List UT} (i:Nat),Vals xs us->Vals (xs.set i x) (us.set i u)
 | _,_,_,.nil=>.nil
 | _,_,0,.cons _ t=>.cons r t
 | _,_,i+1,.cons q t=>.cons q (Vals.set r i t)
theorem Vals.append:∀ {xs ys:List V} {us ws:List UT},Vals xs us->Vals ys ws->Vals (xs++ys) (us++ws)
 | _,_,_,_,.nil,s=>s
 | _,_,_,_,.cons r t,s=>.cons r (Vals.append t s)
theorem Vals.take:∀ {xs:List V} {us:List UT} (n:Nat),Vals xs us->Vals (xs.take n) (us.take n)
 | _,_,0,_=>.nil
 | _,_,_+1,.nil=>.nil
 | _,_,n+1,.cons r t=>.cons r (Vals.take n t)
theorem Vals.drop:∀ {xs:List V} {us:List UT} (n:Nat),Vals xs us->Vals (xs.drop n) (us.drop n)
 | _,_,0,r=>r
 | _,_,_+1,.nil=>.nil
 | _,_,n+1,.cons _ t=>Vals.drop n t
def RelO:Option V->Option UT->Prop
 | some v,some u=>RelV v u
 | none,none=>True
 | _,_=>False
def KV {κ:Type}:List (κ×V)->List (κ×UT)->Prop:=Vs fun (p:κ×V) (q:κ×UT)=>p.1=q.1/\RelV p.2 q.2
def kV:Key->V
 | .inl i=>.int i
 | .inr x=>.str x
inductive HO where
 /-- a list -/
 | lst (xs:List V)
 /-- a tuple (never changes) -/
 | tup (xs:List V)
 /-- a dict GC keys are ints and texts;one GC keys are tuples of ints and texts (AQ empty one is both) -/
 | dK (f':List (Key×V)) | dT (f':List (List Key×V))
 /-- a set of ints: its members,its size -/
 | set (S:Int->Bool) (n:Nat)
 /-- an instance of AQ class at C,its dict at dx,its attributes -/
 | ins (C dx:UQ) (fs:List (Vm×V))
 /-- AQ dict of AQ instance at x -/
 | own (x:UQ)
 /-- AQ dict of an exception -/
 | xd (fs:List (Vm×V))
 /-- a bound method,f of x -/
 | met (f x:UQ)
 /-- a range object lo,lo+1,.. below hi -/
 | rng (lo hi:Int)
 /-- a thing Qf is known to AQ object (AQ script;a dict while a loop walks it): read,never written while it is so -/
 | frz (o:W0) (u:HO)
 /-- a code GD table -/
 | tbl (ps:Array UT)
 /-- any other thing,by KG is true of its one object (a def of Od own: Qg a S n:=HO.ext fun h=>..) -/
 | ext (φ:V9->Prop)
abbrev Hp:=UQ->Option HO
def upd (H:Hp) (a:UQ) (o:HO):Hp:=fun b=>if b=a then some o else H b
theorem ab {H:Hp} {a:UQ} {o:HO}:upd H a o a=some o:=by unfold upd;rw [if_pos rfl]
theorem ai {H:Hp} {a b:UQ} {o:HO} (h:b≠a):upd H a o b=H b:=by unfold upd;rw [if_neg h]
theorem jW {H:Hp} {a:UQ} {o u:HO}:upd (upd H a o) a u=upd H a u:=by
 funext b;unfold upd;split <;> rfl
theorem eP {H:Hp} {a b:UQ} {o u:HO} (h:H a=some o) (h':H b=some u) (d:o≠u):a≠b:=by
 intro e;subst e;rw [h] at h';exact d (Vo h')
theorem aJ {H:Hp} {a b:UQ} {o:HO} (h:H a=some o) (h':H b=none):a≠b:=by
 intro e;subst e;rw [h] at h';cases h'
section
variable (P:U6) (w:Vj)
def ObjOk (H:Hp) (h:V9) (a:UQ):HO->Prop
 | .lst xs=>xs.length<=Vb/\∃ (its:List UT) (n:Nat),Vals xs its/\h.get? a=some { cls:=.type "list",data:=.seq its.toArray n }
 | .tup xs=>xs.length<=Vb/\∃ (its:List UT) (n:Nat),Vals xs its/\h.get? a=some { cls:=.type "tuple",data:=.seq its.toArray n }
 | .dK f'=>f'.length<=Vb/\(a == WJ)=false/\∃ vs,KV f' vs/\h.DictOf (aE P w) a vs
 | .dT f'=>f'.length<=Vb/\(a == WJ)=false/\∃ xs:List (List Key×UQ×UT),
  Vs (fun (p:List Key×V) (q:List Key×UQ×UT)=>p.1=q.1/\H q.2.1=some (.tup (p.1.map kV))/\RelV p.2 q.2.2) f' xs ∧
  ∃ o es ep,h.get? a=some o/\o.ExactDict/\o.data=.dict es ep/\es.toList=xs.map (entryOfKey (ZJ (aE P w)))/\(xs.map (·.1)).Nodup
 | .set S n=>h.SetOf (intKind P w) a S n
 | .ins C dx fs=>H dx=some (.own a)/\fs.length<=1000/\dx≠a/\h.get? a=some (PySem.W.instObj C dx) ∧
  ∃ mA,h.Ns1 dx mA/\(∀ f,RelO (fs.lookup f) (mA f))/\PySem.Within mA (fs.map (·.1))
 | .own _=>∃ o,h.get? a=some o
 | .xd fs=>∃ mA,h.Ns1 a mA/\∀ f,RelO (fs.lookup f) (mA f)
 | .rng lo hi=>∃ t u v,h.get? a=some { cls:=.type "range",data:=.fields #[.int lo t,.int hi u,.int 1 v] }
 | .frz o u=>h.get? a=some o/\ObjOk H h a u
 | .tbl ps=>h.get? a=some { cls:=.none,data:=.fields ps }
 | .met f x=>h.get? a=some (PySem.W.methodObj (.ref f) (.ref x))
 | .ext φ=>φ h/\(∃ o,h.get? a=some o)/\∀ h1 h2:V9,φ h1->(∀ o,h1.get? a=some o->h2.get? a=some o)->φ h2
def HOk (H:Hp) (h:V9):Prop:=∀ a o,H a=some o->ObjOk P w H h a o
end
section
variable {P:U6} {w:Vj} {H H':Hp} {h h':V9} {a:UQ} {o:HO}
theorem ObjOk.lt (x:ObjOk P w H h a o):a<h.objs.size:=by
 cases o with
 | lst xs=>obtain ⟨_,_,_,_,e⟩:=x;exact U7 e
 | tup xs=>obtain ⟨_,_,_,_,e⟩:=x;exact U7 e
 | dK f'=>obtain ⟨_,_,_,_,o,_,_,e,_⟩:=x;exact U7 e
 | dT f'=>obtain ⟨_,_,_,_,o,_,_,e,_⟩:=x;exact U7 e
 | set S n=>obtain ⟨o,_,_,_,e,_⟩:=x;exact U7 e
 | ins C dx fs=>obtain ⟨_,_,_,e,_⟩:=x;exact U7 e
 | own y=>obtain ⟨_,e⟩:=x;exact U7 e
 | xd fs=>obtain ⟨_,⟨_,_,_,e,_⟩,_⟩:=x;exact U7 e
 | rng lo hi=>obtain ⟨_,_,_,e⟩:=x;exact U7 e
 | frz ob u=>obtain ⟨e,_⟩:=x;exact U7 e
 | tbl ps=>exact U7 (show h.get? a=some _ from x)
 | met f y=>exact U7 (show h.get? a=some _ from x)
 | ext φ=>obtain ⟨_,⟨_,e⟩,_⟩:=x;exact U7 e
theorem Vs.mapP {α β:Type} {F G:α->β->Prop}:∀ {GF:List α} {GG:List β},Vs F GF GG->(∀ a b,F a b->G a b)->Vs G GF GG
 | _,_,.nil,_=>.nil
 | _,_,.cons r t,f=>.cons (f _ _ r) (Vs.mapP t f)
theorem ObjOk.stay (x:ObjOk P w H h a o) (k:∀ b u,(b=a∨H b=some (.own a))->h.get? b=some u->h'.get? b=some u)
 (ho:∀ b,H b=some (.own a)->H' b=some (.own a)) (ht:∀ b xs,H b=some (.tup xs)->H' b=some (.tup xs)):ObjOk P w H' h' a o:=by
 induction o with
 | lst xs=>obtain ⟨z,its,n,r,e⟩:=x;exact ⟨z,its,n,r,k _ _ (.inl rfl) e⟩
 | tup xs=>obtain ⟨z,its,n,r,e⟩:=x;exact ⟨z,its,n,r,k _ _ (.inl rfl) e⟩
 | dK f'=>obtain ⟨z,y,vs,r,ob,es,ep,e,c⟩:=x;exact ⟨z,y,vs,r,ob,es,ep,k _ _ (.inl rfl) e,c⟩
 | dT f' =>
   obtain ⟨z,y,xs,r,ob,es,ep,e,c⟩:=x;exact ⟨z,y,xs,Vs.mapP r fun p q z=>⟨z.1,ht _ _ z.2.1,z.2.2⟩,ob,es,ep,k _ _ (.inl rfl) e,c⟩
 | set S n=>obtain ⟨ob,es,ep,t,e,c⟩:=x;exact ⟨ob,es,ep,t,k _ _ (.inl rfl) e,c⟩
 | ins C dx fs =>
   obtain ⟨d,z,ne,e,mA,⟨od,es,ep,e2,c⟩,r⟩:=x;exact ⟨ho _ d,z,ne,k _ _ (.inl rfl) e,mA,⟨od,es,ep,k _ _ (.inr d) e2,c⟩,r⟩
 | own y=>obtain ⟨ob,e⟩:=x;exact ⟨ob,k _ _ (.inl rfl) e⟩
 | xd fs=>obtain ⟨mA,⟨od,es,ep,e,c⟩,r⟩:=x;exact ⟨mA,⟨od,es,ep,k _ _ (.inl rfl) e,c⟩,r⟩
 | rng lo hi=>obtain ⟨t,u,v,e⟩:=x;exact ⟨t,u,v,k _ _ (.inl rfl) e⟩
 | frz ob u ih=>obtain ⟨e,q⟩:=x;exact ⟨k _ _ (.inl rfl) e,ih q⟩
 | tbl ps =>
   have e:h.get? a=some { cls:=.none,data:=.fields ps }:=x;show h'.get? a=some { cls:=.none,data:=.fields ps };exact k a _ (.inl rfl) e
 | met f y =>
   have e:h.get? a=some (PySem.W.methodObj (.ref f) (.ref y)):=x;show h'.get? a=some (PySem.W.methodObj (.ref f) (.ref y));exact k a _ (.inl rfl) e
 | ext φ=>obtain ⟨p,⟨o,e⟩,st⟩:=x;exact ⟨st _ _ p fun o q=>k _ _ (.inl rfl) q,⟨o,k _ _ (.inl rfl) e⟩,st⟩
theorem HOk.lt (x:HOk P w H h) (e:H a=some o):a<h.objs.size:=(x a o e).lt
theorem HOk.fresh (x:HOk P w H h) (e:h.objs.size<=a):H a=none:=by
 cases q:H a with
 | none=>rfl
 | some u=>exact absurd (VS (x.lt q) e) (Wo _)
theorem HOk.kept (x:HOk P w H h) (k:∀ b u,h.get? b=some u->h'.get? b=some u):HOk P w H h':=fun a o e =>
 (x a o e).stay (fun b u _ q=>k b u q) (fun _ q=>q) fun _ _ q=>q
theorem HOk.laid (x:HOk P w H h) (k:∀ b u,h.get? b=some u->h'.get? b=some u) (hp:h.objs.size<=a) (new:ObjOk P w (upd H a o) h' a o):HOk P w (upd H a o) h':=fun b u e=>by
 have hn:=x.fresh hp;by_cases hb:b=a
 · subst hb;rw [ab] at e;cases e;exact new
 · rw [ai hb] at e;exact (x b u e).stay (fun c v _ q=>k c v q) (fun c q=>by rw [ai (aJ q hn)];exact q) fun c xs q=>by rw [ai (aJ q hn)];exact q
end
def Rd (H:Hp) (a:UQ) (u:HO):Prop:=H a=some u∨∃ o,H a=some (.frz o u)
theorem Rd.ok {P:U6} {w:Vj} {H:Hp} {h:V9} {a:UQ} {u:HO} (r:Rd H a u) (x:HOk P w H h):ObjOk P w H h a u:=by
 rcases r with r | ⟨o,r⟩
 · exact x a u r
 · obtain ⟨_,q⟩:=x a _ r;exact q
def Mut:Option HO->Prop
 | some (.lst _)=>True
 | some (.dK _)=>True
 | some (.dT _)=>True
 | some (.set _ _)=>True
 | some (.ins _ _ _)=>True
 | some (.ext _)=>True
 | _=>False
section
variable {P:U6} {w:Vj} {H:Hp} {h h':V9} {x e:UQ} {o':HO}
theorem HOk.write (ok:HOk P w H h) (mu:Mut (H x)) (he:e=x∨H e=some (.own x)) (k:∀ b u,b≠e->h.get? b=some u->h'.get? b=some u) (F3:∃ u,h'.get? e=some u)
 (new:ObjOk P w (upd H x o') h' x o'):HOk P w (upd H x o') h':=fun b u q=>by
 have GH:∀ c y,H c=some (.own y)->c≠x:=fun c y r z=>by subst z;rw [r] at mu;exact mu
 have KH:∀ c xs,H c=some (.tup xs)->c≠x:=fun c xs r z=>by subst z;rw [r] at mu;exact mu
 by_cases hb:b=x
 · subst hb;rw [ab] at q;cases q;exact new
 · rw [ai hb] at q;by_cases Bs:b=e
   · have q':H b=some (.own x):=by
      rcases he with z | z
      · exact absurd (Bs.trans z) hb
      · rw [Bs];exact z
     rw [q] at q';cases q';obtain ⟨v,hv⟩:=F3;exact ⟨v,by rw [Bs];exact hv⟩
   · refine (ok b u q).stay (fun c v hc r=>k c v ?_ r) (fun c r=>by rw [ai (GH c b r)];exact r) fun c xs r=>by rw [ai (KH c xs r)];exact r
     rcases hc with rfl | hc
     · exact Bs
     · rintro rfl;rcases he with z | z
       · exact GH c b hc z
       · rw [hc] at z;cases z;exact hb rfl
end
structure Un (fs ex:List UQ) (H H':Hp) (h h':V9):Prop where
 keep:∀ b o,h.get? b=some o->H b=none->b∉fs->b∉ex->h'.get? b=some o
 slot:∀ b o,h.get? b=some o->H b=none->b∈fs->b∉ex->∃ sl,h'.get? b=some { o with slots:=sl }
 free:∀ b o,h.get? b=some o->H b=none->b∉ex->H' b=none
 there:∀ b o,h.get? b=some o->b∉ex->∃ o',h'.get? b=some o'
 tups:∀ b xs,H b=some (.tup xs)->H' b=some (.tup xs)
 frzs:∀ b o u,H b=some (.frz o u)->H' b=some (.frz o u)
 tbls:∀ b ps,H b=some (.tbl ps)->∃ more,H' b=some (.tbl (ps++more))
section
variable {fs Qh ex Tu:List UQ} {H H1 H2:Hp} {h h1 h2 h':V9} {a x e:UQ} {o:HO}
theorem Un.any (u:Un fs ex H H1 h h1) {b:UQ} {ob:W0} (q:h.get? b=some ob) (n:H b=none) (hx:b∉ex):∃ sl,h1.get? b=some { ob with slots:=sl }:=by
 by_cases hb:b∈fs
 · exact u.slot b ob q n hb hx
 · exact ⟨ob.slots,u.keep b ob q n hb hx⟩
theorem Un.kept (k:∀ b u,h.get? b=some u->h'.get? b=some u):Un fs ex H H h h' :=
 ⟨fun b ob q _ _ _=>k b ob q,fun b ob q _ _ _=>⟨ob.slots,k b ob q⟩,fun _ _ _ n _=>n,fun b ob q _=>⟨ob,k b ob q⟩,fun _ _ q=>q,fun _ _ _ q=>q,fun _ ps q=>⟨#[],by rw [q];simp⟩⟩
theorem Un.refl:Un fs ex H H h h:=Un.kept fun _ _ q=>q
theorem Un.laid (k:∀ b u,h.get? b=some u->h'.get? b=some u) (hp:h.objs.size<=a) (hn:H a=none):Un fs ex H (upd H a o) h h' where
 keep:=fun b u q _ _ _=>k b u q
 slot:=fun b u q _ _ _=>⟨u.slots,k b u q⟩
 free:=fun b u q n _=>by rw [ai (Vy (VS (U7 q) hp))];exact n
 there:=fun b u q _=>⟨u,k b u q⟩
 tups:=fun b xs q=>by rw [ai (aJ q hn)];exact q
 frzs:=fun b u xs q=>by rw [ai (aJ q hn)];exact q
 tbls:=fun b ps q=>⟨#[],by rw [ai (aJ q hn),q];simp⟩
theorem Un.write (mu:Mut (H x)) (he:e=x∨H e=some (.own x)) (k:∀ b u,b≠e->h.get? b=some u->h'.get? b=some u) (F3:∃ u,h'.get? e=some u):Un fs ex H (upd H x o) h h':=by
 have hx:∀ b,H b=none->b≠x:=fun b n z=>by subst z;rw [n] at mu;exact mu
 have hb:∀ b,H b=none->b≠e:=fun b n z=>by
  subst z;rcases he with r | r
  · exact hx b n r
  · rw [n] at r;cases r
 have hm:∀ b u,H b=some u->¬ Mut (some u)->b≠x:=fun b u q nm z=>by subst z;rw [q] at mu;exact nm mu
 refine ⟨fun b u q n _ _=>k b u (hb b n) q,fun b u q n _ _=>⟨u.slots,k b u (hb b n) q⟩,fun b u q n _=>by rw [ai (hx b n)];exact n,fun b u q _=>?_,
  fun b xs q=>by rw [ai (hm b _ q fun z=>z)];exact q,fun b u xs q=>by rw [ai (hm b _ q fun z=>z)];exact q,fun b ps q=>⟨#[],by rw [ai (hm b _ q fun z=>z),q];simp⟩⟩
 by_cases Bs:b=e
 · subst Bs;exact F3
 · exact ⟨u,k b u Bs q⟩
end
def trk (h:V9) (H:Hp):List UQ:=(Vp h.objs.size).filter fun a=>(H a).isSome
def mU (h:V9) (H:Hp):V9:=PySem.W.hideAll h (trk h H)
theorem rO (h:V9) (H:Hp):(mU h H).objs.size=h.objs.size:=PySem.W.hideAll_size _ _
theorem sH {h:V9} {H:Hp} {b:UQ} {o:W0} (e:h.get? b=some o) (n:H b=none):(mU h H).get? b=some o :=
 PySem.W.hideAll_get _ e fun hm=>by
  have q:(H b).isSome=true:=(WA.mp hm).2;rw [n] at q;simp at q
theorem uu {h:V9} {H:Hp} {b:UQ} {o:W0} (e:(mU h H).get? b=some o):h.get? b=some o/\H b=none:=by
 have e':h.get? b=some o:=PySem.W.of_hideAll (trk h H) e;refine ⟨e',?_⟩;cases q:H b with
 | none=>rfl
 | some x =>
   have hm:b∈trk h H:=WA.mpr ⟨W5.mpr (U7 e'),by simp [q]⟩;have z:(mU h H).get? b=none:=PySem.W.hideAll_none (trk h H) hm;rw [z] at e;cases e
end L2
namespace L2
open PySem PySem.Spec PyProof.Rows
structure Mod (K:UO) (mg:Vm->Option UT) (base:V9):Prop where
 kin:K.In base
 glob:base.Ns VC mg
 blt:∃ mb,base.Ns builtinsNs mb/\∀ x:Vm,x≠"__name__"->mb x=Zd x
 nolimit:base.NoLimit
set_option genInjectivity true in
structure Cx where
 prog:U6
 w:Vj
 K:UO
 mg:Vm->Option UT
 base:V9
 A:VF
 N:List Vm
 s₀:UY
 H₀:Hp
 env:Env
 outer:List Env
 stack:List Env
 ex:List UQ
 fn:Vm->Bool
 calm:Bool
 pn:List (UQ×W0)
 xe:UT->UY->Prop
def frs (l:List Env):List UQ:=l.filterMap (·.frame)
abbrev Cx.fs (X:Cx):List UQ:=frs X.outer
def Vis (sc:YI) (x:Vm):Prop:=sc.names.lookup x=some .local∨sc.names.lookup x=some .cell∨sc.names.lookup x=some .free
def Loc (sc:YI) (x:Vm):Prop:=sc.names.lookup x=some .local∨sc.names.lookup x=some .cell
def Look (env:Env) (h:V9) (m:Vm->Option UT) (x:Vm) (u:UT):Prop :=
 (env.kindOf x=some .local/\m x=some u)∨((env.kindOf x=some .cell∨env.kindOf x=some .free)/\∃ c,env.cells.lookup x=some c/\h.IsCell c (some u))
structure Cx.Ok (X:Cx):Prop where
 mod:Mod X.K X.mg X.base
 kind:X.env.scope.kind=.function
 glob:X.env.globals=VC
 blt:X.env.builtins=builtinsNs
 above:X.s₀.heap.objs.size<=X.env.locals
 inj:∀ x y c,X.env.cells.lookup x=some c->X.env.cells.lookup y=some c->x=y
 has:∀ x,(X.env.kindOf x=some .cell∨X.env.kindOf x=some .free)->∃ c,X.env.cells.lookup x=some c
 cab:∀ x c,X.fn x=true->X.env.cells.lookup x=some c->X.s₀.heap.objs.size<=c
 hd:X.calm=true->X.A.handled=none
 frames:X.A.frames=some X.stack
 stk:X.stack=X.outer∨(X.stack=X.env::X.outer/\X.env.frame=some X.env.locals)
 exf:∀ b∈X.ex,b≠X.env.locals/\∀ x c,X.env.cells.lookup x=some c->c≠b
 bs:∀ b o,X.base.get? b=some o->X.s₀.heap.get? b=some o/\X.H₀ b=none
 bsz:X.base.objs.size<=X.s₀.heap.objs.size
 noex:∀ b o,X.base.get? b=some o->b∉X.ex
 exfs:∀ b∈X.ex,b∉X.fs
 funs:X.s₀.heap.FunFrames X.base X.outer
 frf:∀ b∈X.fs,X.H₀ b=none
structure Inv (X:Cx) (pins:List (UQ×W0)) (σ:List (Option V)) (H:Hp) (s:UY):Prop where
 ok:X.Ok
 os:s.os=X.s₀.os
 bare:AllBare s.gens
 base:Un X.fs X.ex X.H₀ H X.s₀.heap s.heap
 loc:∃ m,s.heap.Ns X.env.locals m/\∀ (i:Nat) (x:Vm) (v:V),X.N[i]?=some x->σ[i]?=some (some v)->Vis X.env.scope x->∃ u,RelV v u/\Look X.env s.heap m x u
 cell:∀ x c,X.env.cells.lookup x=some c->∃ v,s.heap.IsCell c v
 free:H X.env.locals=none
 freeC:∀ x c,X.env.cells.lookup x=some c->H c=none
 pin:∀ p∈X.pn++pins,s.heap.get? p.1=some p.2/\H p.1=none/\p.1≠X.env.locals/\p.1∉X.fs/\∀ v,p.2.data≠.cell v
 hok:HOk X.prog X.w H s.heap
 len:σ.length=X.N.length
section
variable {X:Cx} {pins:List (UQ×W0)} {σ:List (Option V)} {H H':Hp} {s:UY} {h':V9}
theorem Cx.Ok.nofr (ok:X.Ok) {b:UQ} {o:W0} (e:X.base.get? b=some o):b∉X.fs:=fun hb=>by
 have:=(ok.funs.mem hb).1;rw [e] at this;cases this
theorem Inv.bs (I:Inv X pins σ H s):∀ b o,X.base.get? b=some o->s.heap.get? b=some o/\H b=none:=fun b o e =>
 ⟨I.base.keep b o (I.ok.bs b o e).1 (I.ok.bs b o e).2 (I.ok.nofr e) (I.ok.noex b o e),I.base.free b o (I.ok.bs b o e).1 (I.ok.bs b o e).2 (I.ok.noex b o e)⟩
theorem Inv.bk (I:Inv X pins σ H s):∀ b o,X.base.get? b=some o->s.heap.get? b=some o:=fun b o e=>(I.bs b o e).1
theorem Inv.mod (I:Inv X pins σ H s):Mod X.K X.mg X.base:=I.ok.mod
theorem Inv.kIn (I:Inv X pins σ H s):X.K.In s.heap:=I.ok.mod.kin.keeps I.bk
theorem Inv.lt (I:Inv X pins σ H s):X.env.locals<s.heap.objs.size:=let ⟨_,hn,_⟩:=I.loc;hn.lt
theorem Inv.sz (I:Inv X pins σ H s):X.s₀.heap.objs.size<=s.heap.objs.size:=WB I.ok.above (Ye I.lt)
theorem Inv.nofs (I:Inv X pins σ H s) {a:UQ} (h:s.heap.objs.size<=a):a∉X.fs:=fun hb=>by
 obtain ⟨_,o,ho,_⟩:=I.ok.funs.mem hb;exact absurd (VS (U7 ho) (WB I.sz h)) (Wo _)
theorem Inv.cne (I:Inv X pins σ H s):∀ x c,X.env.cells.lookup x=some c->c≠X.env.locals:=fun x c e z=>by
 obtain ⟨v,o,ho,hd⟩:=I.cell x c e;obtain ⟨m,⟨o',es,ep,zV,zD,_⟩,_⟩:=I.loc;rw [z,zV] at ho;cases ho;rw [zD] at hd;cases hd
theorem Inv.funs (I:Inv X pins σ H s):s.heap.FunFrames X.base X.outer:=by
 have all:∀ (l:List Env),(∀ b∈frs l,b∈X.fs)->X.s₀.heap.FunFrames X.base l->s.heap.FunFrames X.base l:=by
  intro l;induction l with
  | nil=>intro _ _;trivial
  | cons env r ih =>
    intro hs hl;obtain ⟨hk,⟨L,o,hf,hn,ho,hd⟩,hr⟩:=hl;have hL:L∈X.fs:=hs L (by unfold frs;rw [Yj,hf];exact Vk);obtain ⟨sl,e⟩:=I.base.slot L o ho (I.ok.frf L hL) hL fun z=>I.ok.exfs L z hL;exact ⟨hk,⟨L,_,hf,hn,e,hd⟩,ih (fun b hb=>hs b (by unfold frs;rw [Yj,hf];exact Vf _ hb)) hr⟩
 exact all X.outer (fun _ hb=>hb) I.ok.funs
theorem Inv.stack (I:Inv X pins σ H s):s.heap.FunFrames X.base X.stack:=by
 rcases I.ok.stk with e | ⟨e,hf⟩
 · rw [e];exact I.funs
 · rw [e];obtain ⟨m,hn,_⟩:=I.loc;refine .cons (by rw [I.ok.kind];decide) hf hn ?_ I.funs;exact Heap.get?_none_of_le (WB I.ok.bsz I.ok.above)
theorem Inv.stkSub (I:Inv X pins σ H s):∀ b∈frs X.stack,b∈X.env.locals::X.fs:=fun b hb=>by
 rcases I.ok.stk with e | ⟨e,hf⟩
 · rw [e] at hb;exact Vf _ hb
 · rw [e] at hb;unfold frs at hb;rw [Yj,hf] at hb;exact hb
theorem Inv.stkFree (I:Inv X pins σ H s):∀ b∈frs X.stack,H b=none:=fun b hb=>by
 rcases Vd.mp (I.stkSub b hb) with e | hb
 · rw [e];exact I.free
 · obtain ⟨_,o,ho,_⟩:=I.ok.funs.mem hb;exact I.base.free b o ho (I.ok.frf b hb) fun z=>I.ok.exfs b z hb
theorem Inv.step {g':Array GenState} {t':Nat} {d':Drawn} {ch:List UQ} (I:Inv X pins σ H s)
 (CZ:∀ b∈ch,(b∈X.ex∨X.s₀.heap.objs.size<=b)/\b≠X.env.locals/\(∀ x c,X.env.cells.lookup x=some c->c≠b)/\∀ p∈X.pn++pins,p.1≠b)
 (keep:∀ b o,b≠X.env.locals->b∉X.fs->b∉ch->s.heap.get? b=some o->H b=none->h'.get? b=some o)
 (slot:∀ b o,b≠X.env.locals->b∈X.fs->b∉ch->s.heap.get? b=some o->H b=none->∃ sl,h'.get? b=some { o with slots:=sl }) (free:∀ b o,b∉ch->s.heap.get? b=some o->H b=none->H' b=none)
 (there:∀ b o,b∉ch->s.heap.get? b=some o->∃ o',h'.get? b=some o')
 (tups:∀ b xs,H b=some (.tup xs)->H' b=some (.tup xs)) (frzs:∀ b o u,H b=some (.frz o u)->H' b=some (.frz o u)) (tbls:∀ b ps,H b=some (.tbl ps)->∃ more,H' b=some (.tbl (ps++more)))
 (ns:∀ m,s.heap.Ns X.env.locals m->h'.Ns X.env.locals m) (hok:HOk X.prog X.w H' h') (hg:AllBare g') :
 Inv X pins σ H' { s with heap:=h',gens:=g',drawn:=d',toks:=t' }:=by
 have Oe:∀ b o,X.s₀.heap.get? b=some o->b≠X.env.locals:=fun b o e=>Vy (VS (U7 e) I.ok.above)
 have JZ:∀ b o,X.s₀.heap.get? b=some o->b∉X.ex->b∉ch:=fun b o e hx hb=>by
  rcases (CZ b hb).1 with z | z
  · exact hx z
  · exact absurd (VS (U7 e) z) (Wo _)
 have cellK:∀ x c,X.env.cells.lookup x=some c->∀ v,s.heap.IsCell c v->h'.IsCell c v:=fun x c e v ⟨o,ho,hd⟩=>by
  have GI:c∉ch:=fun z=>(CZ c z).2.2.1 x c e rfl;by_cases hc:c∈X.fs
  · obtain ⟨sl,q⟩:=slot c o (I.cne x c e) hc GI ho (I.freeC x c e);exact ⟨_,q,hd⟩
  · exact ⟨o,keep c o (I.cne x c e) hc GI ho (I.freeC x c e),hd⟩
 refine ⟨I.ok,I.os,hg,⟨fun b o e n hb hx=>?_,fun b o e n hb hx=>?_,fun b o e n hx=>?_,fun b o e hx=>?_,fun b xs e=>tups b xs (I.base.tups b xs e),fun b o xs e=>frzs b o xs (I.base.frzs b o xs e),fun b ps e=>?_⟩,?_,fun x c e=>?_,?_,fun x c e=>?_,fun p hp=>?_,hok,I.len⟩
 · exact keep b o (Oe b o e) hb (JZ b o e hx) (I.base.keep b o e n hb hx) (I.base.free b o e n hx)
 · obtain ⟨sl,e1⟩:=I.base.slot b o e n hb hx;obtain ⟨Qi,e2⟩:=slot b _ (Oe b o e) hb (JZ b o e hx) e1 (I.base.free b o e n hx);exact ⟨Qi,e2⟩
 · obtain ⟨o',e1⟩:=I.base.there b o e hx;exact free b o' (JZ b o e hx) e1 (I.base.free b o e n hx)
 · obtain ⟨o',e1⟩:=I.base.there b o e hx;exact there b o' (JZ b o e hx) e1
 · obtain ⟨m1,e1⟩:=I.base.tbls b ps e;obtain ⟨m2,e2⟩:=tbls b _ e1;exact ⟨m1++m2,by rw [e2,Array.append_assoc]⟩
 · obtain ⟨m,hn,hl⟩:=I.loc;refine ⟨m,ns m hn,fun i x v e1 e2 e3=>?_⟩;obtain ⟨u,r,l⟩:=hl i x v e1 e2 e3;refine ⟨u,r,?_⟩;rcases l with l | ⟨k,c,e,z⟩
   · exact .inl l
   · exact .inr ⟨k,c,e,cellK x c e _ z⟩
 · obtain ⟨v,z⟩:=I.cell x c e;exact ⟨v,cellK x c e v z⟩
 · obtain ⟨m,⟨o,_,_,ho,_⟩,_⟩:=I.loc;exact free _ o (fun z=>(CZ _ z).2.1 rfl) ho I.free
 · obtain ⟨v,o,ho,hd⟩:=I.cell x c e;exact free c o (fun z=>(CZ c z).2.2.1 x c e rfl) ho (I.freeC x c e)
 · obtain ⟨e,n,ne,nf,d⟩:=I.pin p hp;have GI:p.1∉ch:=fun z=>(CZ p.1 z).2.2.2 p hp rfl;exact ⟨keep p.1 p.2 ne nf GI e n,free p.1 p.2 GI e n,ne,nf,d⟩
theorem Inv.un {t':Nat} (I:Inv X pins σ H s) (u:Un X.fs [] H H' s.heap h') (hok:HOk X.prog X.w H' h'):Inv X pins σ H' { s with heap:=h',toks:=t' }:=by
 obtain ⟨m,⟨o,es,ep,ho,r⟩,_⟩:=id I.loc;obtain ⟨sl,hL⟩:=u.any ho I.free (by simp)
 exact I.step (g':=s.gens) (d':=s.drawn) (ch:=[]) (fun _ z=>nomatch z) (fun b o _ hb _ e n=>u.keep b o e n hb (by simp)) (fun b o _ hb _ e n=>u.slot b o e n hb (by simp)) (fun b o _ e n=>u.free b o e n (by simp)) (fun b o _ e=>u.there b o e (by simp)) u.tups u.frzs u.tbls (fun m' hm=>by
  obtain ⟨o',F4,KI,zV,r'⟩:=hm;rw [ho] at zV;cases zV;exact ⟨_,F4,KI,hL,r'⟩) hok I.bare
theorem Inv.call {g':Array GenState} {t':Nat} {d':Drawn} {ch:List UQ} (I:Inv X pins σ H s) (u:Un (frs X.stack) ch H H' s.heap h') (hok:HOk X.prog X.w H' h') (hg:AllBare g')
 (CZ:∀ b∈ch,(b∈X.ex∨X.s₀.heap.objs.size<=b)/\b≠X.env.locals/\(∀ x c,X.env.cells.lookup x=some c->c≠b)/\∀ p∈X.pn++pins,p.1≠b) :
 Inv X pins σ H' { s with heap:=h',gens:=g',drawn:=d',toks:=t' }:=by
 obtain ⟨m,⟨o,es,ep,ho,r⟩,_⟩:=id I.loc;obtain ⟨sl,hL⟩:=u.any ho I.free fun z=>(CZ _ z).2.1 rfl
 exact I.step (ch:=ch) CZ (fun b o hL hb hc e n=>u.keep b o e n (fun z=>(Vd.mp (I.stkSub b z)).elim hL hb) hc) (fun b o _ _ hc e n=>u.any e n hc) (fun b o hc e n=>u.free b o e n hc) (fun b o hc e=>u.there b o e hc) u.tups u.frzs u.tbls (fun m' hm=>by
  obtain ⟨o',F4,KI,zV,r'⟩:=hm;rw [ho] at zV;cases zV;exact ⟨_,F4,KI,hL,r'⟩) hok hg
theorem Inv.turned {t':Nat} {it:UQ} (I:Inv X pins σ H s) (k:∀ b o,b≠it->s.heap.get? b=some o->h'.get? b=some o) (hn:H it=none) (hL:it≠X.env.locals)
 (h1:it∈X.ex∨X.s₀.heap.objs.size<=it) (h2:∀ x c,X.env.cells.lookup x=some c->c≠it) (h3:∀ p∈X.pn++pins,p.1≠it):Inv X pins σ H { s with heap:=h',toks:=t' }:=by
 have GJ:∀ b u,H b=some u->b≠it:=fun b u e z=>by rw [z,hn] at e;cases e
 refine I.step (g':=s.gens) (d':=s.drawn) (ch:=[it]) (fun b hb=>?_) (fun b o _ _ hc e _=>k b o (fun z=>hc (by simp [z])) e) (fun b o _ _ hc e _=>⟨o.slots,k b o (fun z=>hc (by simp [z])) e⟩) (fun _ _ _ _ n=>n)
  (fun b o hc e=>⟨o,k b o (fun z=>hc (by simp [z])) e⟩) (fun _ _ e=>e) (fun _ _ _ e=>e) (fun b ps e=>⟨#[],by rw [e];simp⟩) (fun m hm=>?_) (fun b u e=>?_) I.bare
 · have e:b=it:=by simpa using hb
   subst e;exact ⟨h1,hL,h2,h3⟩
 · obtain ⟨o,es,ep,ho,r⟩:=hm;exact ⟨o,es,ep,k _ o (WG hL) ho,r⟩
 · refine (I.hok b u e).stay (fun c v hc q=>k c v ?_ q) (fun _ q=>q) fun _ _ q=>q;rcases hc with z | z
   · rw [z];exact GJ b u e
   · exact GJ c _ z
theorem Inv.tok (I:Inv X pins σ H s) (t:Nat):Inv X pins σ H { s with toks:=t }:=I.un (h':=s.heap) (t':=t) Un.refl I.hok
theorem Inv.kept {t':Nat} (I:Inv X pins σ H s) (k:∀ b u,s.heap.get? b=some u->h'.get? b=some u):Inv X pins σ H { s with heap:=h',toks:=t' }:=I.un (Un.kept k) (I.hok.kept k)
theorem Inv.laid {a:UQ} {o:HO} {t':Nat} (I:Inv X pins σ H s) (k:∀ b u,s.heap.get? b=some u->h'.get? b=some u) (hp:s.heap.objs.size<=a) (new:ObjOk X.prog X.w (upd H a o) h' a o) :
 Inv X pins σ (upd H a o) { s with heap:=h',toks:=t' }:=I.un (Un.laid k hp (I.hok.fresh hp)) (I.hok.laid k hp new)
theorem Inv.write {x e:UQ} {o:HO} {t':Nat} (I:Inv X pins σ H s) (mu:Mut (H x)) (he:e=x∨H e=some (.own x)) (k:∀ b u,b≠e->s.heap.get? b=some u->h'.get? b=some u) (F3:∃ u,h'.get? e=some u)
 (new:ObjOk X.prog X.w (upd H x o) h' x o):Inv X pins σ (upd H x o) { s with heap:=h',toks:=t' }:=I.un (Un.write mu he k F3) (I.hok.write mu he k F3 new)
theorem Inv.weak {xT:List (Option V)} (I:Inv X pins σ H s) (hl:xT.length=σ.length) (w:∀ (i:Nat) v,xT[i]?=some (some v)->σ[i]?=some (some v)):Inv X pins xT H s :=
 ⟨I.ok,I.os,I.bare,I.base,let ⟨m,hn,KJ⟩:=I.loc;⟨m,hn,fun i x v e1 e2 e3=>KJ i x v e1 (w i v e2) e3⟩,I.cell,I.free,I.freeC,I.pin,I.hok,hl.trans I.len⟩
theorem Inv.pins_of {D1:List (UQ×W0)} (I:Inv X pins σ H s) (h:∀ p∈D1,s.heap.get? p.1=some p.2/\H p.1=none/\p.1≠X.env.locals/\p.1∉X.fs/\∀ v,p.2.data≠.cell v):Inv X D1 σ H s :=
 ⟨I.ok,I.os,I.bare,I.base,I.loc,I.cell,I.free,I.freeC,fun p hp=>(VH.mp hp).elim (fun z=>I.pin p (VU _ z)) (h p),I.hok,I.len⟩
theorem o7 {N:List Vm} (hN:N.Nodup) {i j:Nat} {x:Vm} (a:N[i]?=some x) (b:N[j]?=some x):i=j:=by
 obtain ⟨h1,e1⟩:=US.mp a;obtain ⟨h2,e2⟩:=US.mp b;exact (List.getElem_inj hN).mp (e1.trans e2.symm)
theorem l9 {M:Model} {A:VF} {E:UT->UY->Prop} {i:Nat} {x:Vm} {v:V} {u:UT} {Q:Unit->UY->Prop} (I:Inv X pins σ H s) (hN:X.N.Nodup) (hi:X.N[i]?=some x) (hx:Loc X.env.scope x) (r:RelV v u)
 (h:∀ s',Inv X pins (σ.set i (some v)) H s'->(∃ a,WH a s.heap s'.heap/\(a=X.env.locals∨X.env.cells.lookup x=some a))->Q () s') (hf:X.fn x=true∨X.env.scope.names.lookup x=some .local:=by first | exact .inl rfl | exact .inr rfl | assumption):Va M A (storeName X.env x u) Q E s:=by
 obtain ⟨m,hn,hl⟩:=id I.loc;have KL:(X.env.scope.kind == .class || (X.env.scope.kind == .module && X.env.locals != X.env.globals))=false:=by rw [I.ok.kind];rfl
 have GK:i<σ.length:=by rw [I.len];exact (US.mp hi).1
 have cne:=I.cne
 have tracked:∀ {a:UQ} {h':V9},(∃ o,s.heap.get? a=some o/\H a=none)->WH a s.heap h'->HOk X.prog X.w H h':=fun {a h'} ha hs b ob e=>by
  obtain ⟨_,_,D2⟩:=ha;refine (I.hok b ob e).stay (fun c w' hc q=>(hs.2 c ?_).trans q) (fun _ q=>q) fun _ _ q=>q;rintro rfl;rcases hc with rfl | hc
  · rw [D2] at e;cases e
  · rw [D2] at hc;cases hc
 rcases hx with hk | hk
 · refine wpAny_storeName_local hk hn (fun h' Qj hs=>?_) KL;obtain ⟨oL,_,_,Qk,_⟩:=id hn;refine h _ ⟨I.ok,I.os,I.bare,⟨fun b o e n hb hx=>?_,fun b o e n hb hx=>?_,I.base.free,fun b o e hx=>?_,I.base.tups,I.base.frzs,I.base.tbls⟩,⟨_,Qj,fun j y v' e1 e2 e3=>?_⟩,fun y c e=>?_,I.free,I.freeC,fun p hp=>?_,tracked ⟨oL,Qk,I.free⟩ hs,by simpa using I.len⟩ ⟨_,hs,.inl rfl⟩
   · exact (hs.2 b (Vy (VS (U7 e) I.ok.above))).trans (I.base.keep b o e n hb hx)
   · obtain ⟨sl,e1⟩:=I.base.slot b o e n hb hx;exact ⟨sl,(hs.2 b (Vy (VS (U7 e) I.ok.above))).trans e1⟩
   · obtain ⟨o',e1⟩:=I.base.there b o e hx;exact ⟨o',(hs.2 b (Vy (VS (U7 e) I.ok.above))).trans e1⟩
   · by_cases hj:j=i
     · subst hj;rw [hi] at e1;cases e1;rw [List.getElem?_set_self GK] at e2;cases e2;exact ⟨u,r,.inl ⟨hk,by simp⟩⟩
     · rw [ZO (WG hj)] at e2;obtain ⟨u',r',q⟩:=hl j y v' e1 e2 e3;refine ⟨u',r',?_⟩;rcases q with ⟨k,e⟩ | ⟨k,c,e,z⟩
       · refine .inl ⟨k,?_⟩;have:y≠x:=fun e=>hj (o7 hN e1 (e ▸ hi));simp [this,e]
       · exact .inr ⟨k,c,e,z.sameBut hs (cne y c e)⟩
   · obtain ⟨w',z⟩:=I.cell y c e;exact ⟨w',z.sameBut hs (cne y c e)⟩
   · obtain ⟨e,n,ne,nf,d⟩:=I.pin p hp;exact ⟨(hs.2 p.1 ne).trans e,n,ne,nf,d⟩
 · have KN:X.fn x=true:=by
    rcases hf with z | z
    · exact z
    · rw [z] at hk;cases hk
   obtain ⟨c,hc⟩:=I.ok.has x (.inl hk);obtain ⟨w',z⟩:=I.cell x c hc;refine wpAny_storeName_cell I.ok.kind hk hc z (fun h' zh hs=>?_);obtain ⟨oc,Of,KO⟩:=id z;refine h { s with heap:=h' } ⟨I.ok,I.os,I.bare,⟨fun b o e n hb hx=>?_,fun b o e n hb hx=>?_,I.base.free,fun b o e hx=>?_,I.base.tups,I.base.frzs,I.base.tbls⟩,⟨m,hn.sameBut hs (WG (cne x c hc)),fun j y v' e1 e2 e3=>?_⟩,fun y c' e=>?_,I.free,I.freeC,fun p hp=>?_,tracked ⟨oc,Of,I.freeC x c hc⟩ hs,by simpa using I.len⟩ ⟨c,hs,.inr hc⟩
   · exact (hs.2 b (Vy (VS (U7 e) (I.ok.cab x c KN hc)))).trans (I.base.keep b o e n hb hx)
   · obtain ⟨sl,e1⟩:=I.base.slot b o e n hb hx;exact ⟨sl,(hs.2 b (Vy (VS (U7 e) (I.ok.cab x c KN hc)))).trans e1⟩
   · obtain ⟨o',e1⟩:=I.base.there b o e hx;exact ⟨o',(hs.2 b (Vy (VS (U7 e) (I.ok.cab x c KN hc)))).trans e1⟩
   · by_cases hj:j=i
     · subst hj;rw [hi] at e1;cases e1;rw [List.getElem?_set_self GK] at e2;cases e2;exact ⟨u,r,.inr ⟨.inl hk,c,hc,zh⟩⟩
     · rw [ZO (WG hj)] at e2;obtain ⟨u',r',q⟩:=hl j y v' e1 e2 e3;refine ⟨u',r',?_⟩;rcases q with q | ⟨k,c',e,z'⟩
       · exact .inl q
       · refine .inr ⟨k,c',e,z'.sameBut hs ?_⟩;rintro rfl;exact hj (o7 hN e1 (I.ok.inj _ _ _ e hc ▸ hi))
   · by_cases ES:c'=c
     · subst ES;exact ⟨_,zh⟩
     · obtain ⟨w2,z2⟩:=I.cell y c' e;exact ⟨w2,z2.sameBut hs ES⟩
   · obtain ⟨e,n,ne,nf,d⟩:=I.pin p hp;refine ⟨(hs.2 p.1 ?_).trans e,n,ne,nf,d⟩;intro q;rw [q,Of] at e;have q':oc=p.2:=Vo e;exact d w' (by rw [<- q'];exact KO)
theorem kX {M:Model} {A:VF} {E:UT->UY->Prop} {i:Nat} {x:Vm} {v:V} {u:UT} {Q:Unit->UY->Prop} (I:Inv X pins σ H s) (hN:X.N.Nodup) (hi:X.N[i]?=some x) (hx:Loc X.env.scope x) (r:RelV v u)
 (h:∀ s',Inv X pins (σ.set i (some v)) H s'->Q () s') (hf:X.fn x=true∨X.env.scope.names.lookup x=some .local:=by first | exact .inl rfl | exact .inr rfl | assumption):Va M A (storeName X.env x u) Q E s :=
 l9 I hN hi hx r (fun s' I' _=>h s' I') hf
theorem Inv.call' {s':UY} {ch:List UQ} (I:Inv X pins σ H s) (ho:s'.os=s.os) (u:Un (frs X.stack) ch H H' s.heap s'.heap) (hok:HOk X.prog X.w H' s'.heap) (hg:AllBare s'.gens)
 (CZ:∀ b∈ch,(b∈X.ex∨X.s₀.heap.objs.size<=b)/\b≠X.env.locals/\(∀ x c,X.env.cells.lookup x=some c->c≠b)/\∀ p∈X.pn++pins,p.1≠b):Inv X pins σ H' s':=by
 obtain ⟨h',g',d',t',o'⟩:=s';have e:o'=s.os:=ho;subst e;exact I.call (g':=g') (t':=t') (d':=d') u hok hg CZ
end
abbrev XK:=UT->Option UQ->Hp->Prop
abbrev St:=List (Option V)
abbrev VK:=V->Hp->Prop
abbrev TE:=St->Hp->VK->Prop
abbrev TT:=St->Hp->(Bool->Hp->Prop)->Prop
abbrev TA:=St->Hp->(List V->Hp->Prop)->Prop
structure Ends where
 nx:St->Hp->Prop
 rt:VK
 bk:St->Hp->Prop:=fun _ _=>False
 ct:St->Hp->Prop:=fun _ _=>False
abbrev TS:=Ends->St->Hp->Prop
def EP (X:Cx) (pins:List (UQ×W0)) (σ:St) (Q:VK) (u:UT) (s':UY):Prop:=∃ v H',Inv X pins σ H' s'/\RelV v u/\Q v H'
def TP (X:Cx) (pins:List (UQ×W0)) (σ:St) (Q:Bool->Hp->Prop) (b:Bool) (s':UY):Prop:=∃ H',Inv X pins σ H' s'/\Q b H'
def AP (X:Cx) (pins:List (UQ×W0)) (σ:St) (Q:List V->Hp->Prop) (us:List UT) (s':UY):Prop:=∃ vs H',Inv X pins σ H' s'/\Vals vs us/\Q vs H'
def SP (X:Cx) (pins:List (UQ×W0)) (D:Ends) (f:Flow) (s':UY):Prop :=
 match f with
 | .next=>∃ xT H',Inv X pins xT H' s'/\D.nx xT H'
 | .brk=>∃ xT H',Inv X pins xT H' s'/\D.bk xT H'
 | .cont=>∃ xT H',Inv X pins xT H' s'/\D.ct xT H'
 | .ret u=>∃ v xT H',Inv X pins xT H' s'/\RelV v u/\D.rt v H'
def PE (X:Cx) (e:V4) (t:TE):Prop :=
 ∀ (pins:List (UQ×W0)) (s:UY) (σ:St) (H:Hp) (Q:VK),Inv X pins σ H s->t σ H Q->Va (Vw X.prog X.w) X.A (Xf e X.env) (EP X pins σ Q) X.xe s
def PT (X:Cx) (e:V4) (t:TT):Prop :=
 ∀ (pins:List (UQ×W0)) (s:UY) (σ:St) (H:Hp) (Q:Bool->Hp->Prop),Inv X pins σ H s->t σ H Q->Va (Vw X.prog X.w) X.A (isTrue e X.env (Xf e X.env)) (TP X pins σ Q) X.xe s
def PW (X:Cx) (e:V4) (t:TT):Prop :=
 ∀ (whole:Sem UT) (pins:List (UQ×W0)) (s:UY) (σ:St) (H:Hp) (Q:Bool->Hp->Prop),Inv X pins σ H s->t σ H Q->Va (Vw X.prog X.w) X.A (isTrue e X.env whole) (TP X pins σ Q) X.xe s
theorem PW.pt {X:Cx} {e:V4} {t:TT} (h:PW X e t):PT X e t:=h _
def PA (X:Cx) (es:List V4) (t:TA):Prop :=
 ∀ (pos:YJ) (pins:List (UQ×W0)) (s:UY) (σ:St) (H:Hp) (Q:List V->Hp->Prop),Inv X pins σ H s->t σ H Q->Va (Vw X.prog X.w) X.A (spliced (YR pos (VR es X.env))) (AP X pins σ Q) X.xe s
def PS (X:Cx) (st:WM) (t:TS):Prop :=
 ∀ (pins:List (UQ×W0)) (s:UY) (σ:St) (H:Hp) (D:Ends),Inv X pins σ H s->t D σ H->Va (Vw X.prog X.w) X.A (exec st X.env) (SP X pins D) X.xe s
def PSs (X:Cx) (st:List WM) (t:TS):Prop :=
 ∀ (pins:List (UQ×W0)) (s:UY) (σ:St) (H:Hp) (D:Ends),Inv X pins σ H s->t D σ H->Va (Vw X.prog X.w) X.A (execs st X.env) (SP X pins D) X.xe s
theorem thn {α:Type} {t:Sem α} {Q Q':α->UY->Prop} {M:Model} {A:VF} {E:UT->UY->Prop} {s:UY} (h:Va M A t Q E s) (hQ:∀ a s,Q a s->Q' a s):Va M A t Q' E s:=WU h hQ fun _ _ x=>x
end L2
namespace L2
open PySem PySem.Spec PyProof.Rows
section
variable {X:Cx}
inductive vy (i:Nat) (σ:St) (H:Hp) (Q:VK):Prop
 | mk (v:_) (yf:σ[i]?=some (some v)) (yg:Q v H):vy i σ H Q
def bp (i:Nat):TE:=vy i
def tC (v:V):TE:=fun _ H Q=>Q v H
theorem wc {i:Nat} {x:Vm} {pos:YJ} (hN:X.N[i]?=some x) (hv:Vis X.env.scope x) (hd:(x == ("__debug__":Vm))=false:=by decide) (B7:(x == ("__classdict__":Vm))=false:=by decide):PE X (.Name x pos) (bp i):=by
 intro pins s σ H Q I h;obtain ⟨v,e,h⟩:=h;obtain ⟨m,hn,hl⟩:=I.loc;obtain ⟨u,r,l⟩:=hl i x v hN e hv;have fin:EP X pins σ Q u s:=⟨v,H,I,r,h⟩;rcases l with ⟨hk,hm⟩ | ⟨hk,c,hc,Bj⟩
 · exact wpAny_Name (wpAny_loadName_local I.ok.kind hk hn hm fin) hd
 · rcases hk with hk | hk
   · exact wpAny_Name (wpAny_loadName_cell I.ok.kind hk hc Bj fin) hd
   · exact wpAny_Name (wpAny_loadName_free I.ok.kind hk hc Bj fin B7) hd
theorem af {i j pos}:PE X (.Constant (.int i) j pos) (tC (.int i)):=fun _ _ _ H _ I h=>wpAny_Constant_int ⟨.int i,H,I.tok _,⟨_,rfl⟩,h⟩
theorem oT {b j pos}:PE X (.Constant (.bool b) j pos) (tC (.bl b)):=fun _ _ _ H _ I h=>Constant_bool ⟨.bl b,H,I,rfl,h⟩
theorem we {j pos}:PE X (.Constant .none j pos) (tC .non):=fun _ _ _ H _ I h=>Constant_none ⟨.non,H,I,rfl,h⟩
theorem fM {x j pos}:PE X (.Constant (.str x) j pos) (tC (.str x)):=fun _ _ _ H _ I h=>Calls.Constant_str ⟨.str x,H,I.tok _,⟨_,rfl⟩,h⟩
def Gl (X:Cx) (x:Vm):Prop:=X.env.kindOf x=some .globalImplicit
theorem qD {E:UT->UY->Prop} {pins:List (UQ×W0)} {s:UY} {σ:St} {H:Hp} {x:Vm} {u:UT} {pos:YJ} {Q:UT->UY->Prop} (I:Inv X pins σ H s) (hg:Gl X x) (hm:X.mg x=some u) (h:Q u s)
 (hd:(x == ("__debug__":Vm))=false:=by decide):Va (Vw X.prog X.w) X.A (Xf (.Name x pos) X.env) Q E s :=
 Calls.Name_function_global I.ok.kind hg (Calls.loadGlobal_global (by rw [I.ok.glob];exact I.mod.glob.keeps I.bk) hm h) hd
theorem cU {E:UT->UY->Prop} {pins:List (UQ×W0)} {s:UY} {σ:St} {H:Hp} {x:Vm} {u:UT} {pos:YJ} {Q:UT->UY->Prop} (I:Inv X pins σ H s) (hg:Gl X x) (hm:X.mg x=none) (hv:Zd x=some u) (h:Q u s)
 (hn:x≠"__name__":=by decide) (hd:(x == ("__debug__":Vm))=false:=by decide):Va (Vw X.prog X.w) X.A (Xf (.Name x pos) X.env) Q E s:=by
 obtain ⟨mb,h1,h2⟩:=I.mod.blt;exact Calls.Name_function_global I.ok.kind hg (Calls.loadGlobal_builtin (by rw [I.ok.glob];exact I.mod.glob.keeps I.bk) hm (by rw [I.ok.blt];exact h1.keeps I.bk) ((h2 x hn).trans hv) h) hd
theorem gz {x:Vm} {v:V} {u:UT} {pos:YJ} (hg:Gl X x) (hm:X.mg x=some u) (r:RelV v u) (hd:(x == ("__debug__":Vm))=false:=by decide):PE X (.Name x pos) (tC v) :=
 fun _ _ _ H _ I h=>qD I hg hm ⟨v,H,I,r,h⟩ hd
theorem ni {x:Vm} {v:V} {u:UT} {pos:YJ} (hg:Gl X x) (hm:X.mg x=none) (hv:Zd x=some u) (r:RelV v u) (hn:x≠"__name__":=by decide) (hd:(x == ("__debug__":Vm))=false:=by decide):PE X (.Name x pos) (tC v) :=
 fun _ _ _ H _ I h=>cU I hg hm hv ⟨v,H,I,r,h⟩ hn hd
variable {a b:V4} {ta tb:TE} {pos:YJ}
def PC (X:Cx) (op:CmpOp) (a b:V4) (t:TE):Prop :=
 ∀ (pins:List (UQ×W0)) (s:UY) (σ:St) (H:Hp) (Q:VK),Inv X pins σ H s->t σ H Q →
   Va (Vw X.prog X.w) X.A (Xf a X.env) (fun v xU=>Va (Vw X.prog X.w) X.A (Xf b X.env) (fun u yB=>Va (Vw X.prog X.w) X.A (X8 op v u) (EP X pins σ Q) X.xe yB) X.xe xU) X.xe s
def tB (t:TE):TT:=fun σ H Q=>t σ H fun x H1=>∃ c,x=.bl c/\Q c H1
theorem pU {op:CmpOp} {t:TE} (h:PC X op a b t) (h1:ZH op b=false:=by first | exact GL _ (by decide) (by decide) | rfl):PT X (.Compare a [op] [b] pos) (tB t):=by
 intro pins s σ H Q I hw;refine wpAny_isTrue_Compare1 (thn (h pins s σ H _ I hw) fun v s1 h1=>thn h1 fun u s2 h2=>thn h2 fun c s3 ⟨x,H1,I1,r1,q1⟩=>?_) h1;obtain ⟨d,rfl,q⟩:=q1;cases r1;exact Yg ⟨H1,I1,q⟩
variable {tA J0:TT} {rest:List V4}
def wD (t u:TT):TT:=fun σ H Q=>t σ H fun c H1=>if c=true then u σ H1 Q else Q false H1
def tOr (t u:TT):TT:=fun σ H Q=>t σ H fun c H1=>if c=true then Q true H1 else u σ H1 Q
def xk (t:TT):TT:=fun σ H Q=>t σ H fun c H1=>Q (!c) H1
theorem rc (ha:PT X a tA):PW X (.BoolOp .And [a] pos) tA:=by
 intro wh pins s σ H Q I h;refine isTrue_and (thn (ha pins s σ H Q I h) fun c s1 e=>?_);cases c with
 | true=>exact isTrue_and_nil e
 | false=>exact e
theorem kG (ha:PT X a tA):PW X (.BoolOp .Or [a] pos) tA:=by
 intro wh pins s σ H Q I h;refine isTrue_or (thn (ha pins s σ H Q I h) fun c s1 e=>?_);cases c with
 | false=>exact isTrue_or_nil e
 | true=>exact e
theorem ql (ha:PT X a tA) (hb:PW X (.BoolOp .And (b::rest) pos) J0):PW X (.BoolOp .And (a::b::rest) pos) (wD tA J0):=by
 intro wh pins s σ H Q I h;refine isTrue_and (thn (ha pins s σ H _ I h) fun c s1 ⟨H1,I1,q1⟩=>?_);cases c with
 | true=>exact hb wh pins s1 σ H1 Q I1 q1
 | false=>exact ⟨H1,I1,q1⟩
theorem mr (ha:PT X a tA) (hb:PW X (.BoolOp .Or (b::rest) pos) J0):PW X (.BoolOp .Or (a::b::rest) pos) (tOr tA J0):=by
 intro wh pins s σ H Q I h;refine isTrue_or (thn (ha pins s σ H _ I h) fun c s1 ⟨H1,I1,q1⟩=>?_);cases c with
 | true=>exact ⟨H1,I1,q1⟩
 | false=>exact hb wh pins s1 σ H1 Q I1 q1
theorem m8 (ha:PT X a tA):PT X (.UnaryOp .Not a pos) (xk tA):=by
 intro pins s σ H Q I h;exact isTrue_not (ha pins s σ H (fun c H1=>Q (!c) H1) I h)
def wC (ta tb:TE):TE:=fun σ H Q=>ta σ H fun x H1=>∃ c,x=.bl c/\if c=true then tb σ H1 Q else Q (.bl false) H1
def wM (ta:TE):TE:=fun σ H Q=>ta σ H fun x H1=>∃ c,x=.bl c/\Q (.bl (!c)) H1
theorem pR {op} {t:TE} (h:PE X a t):PE X (.BoolOp op [a] pos) t:=fun pins s σ H Q I hw=>BoolOp_one (h pins s σ H Q I hw)
theorem nH (ha:PE X a ta) (hb:PE X (.BoolOp .And (b::rest) pos) tb):PE X (.BoolOp .And (a::b::rest) pos) (wC ta tb):=by
 intro pins s σ H Q I h;refine BoolOp_and (thn (ha pins s σ H _ I h) fun v s1 ⟨x,H1,I1,r1,q1⟩=>?_);obtain ⟨c,rfl,q1⟩:=q1;cases r1;refine Yg ?_;cases c with
 | true=>exact hb pins s1 σ H1 Q I1 q1
 | false=>exact ⟨.bl false,H1,I1,rfl,q1⟩
theorem sK (ha:PE X a ta):PE X (.UnaryOp .Not a pos) (wM ta):=by
 intro pins s σ H Q I h;refine UnaryOp_ (thn (ha pins s σ H _ I h) fun v s1 ⟨x,H1,I1,r1,q1⟩=>?_);obtain ⟨c,rfl,q1⟩:=q1;cases r1;exact not_of (Yg ⟨.bl (!c),H1,I1,rfl,q1⟩)
def tIf (t:TT) (ta tb:TE):TE:=fun σ H Q=>t σ H fun c H1=>if c=true then ta σ H1 Q else tb σ H1 Q
theorem tG {c:V4} (hc:PT X c tA) (ha:PE X a ta) (hb:PE X b tb):PE X (.IfExp c a b pos) (tIf tA ta tb):=by
 intro pins s σ H Q I h;refine wpAny_IfExp (thn (hc pins s σ H _ I h) fun d s1 ⟨H1,I1,q1⟩=>?_);cases d with
 | true=>exact ha pins s1 σ H1 Q I1 q1
 | false=>exact hb pins s1 σ H1 Q I1 q1
end
end L2
namespace L2
open PySem PySem.Spec PyProof.Rows
def SqL (K:UO) (H:Hp) (a:UQ) (xs:List V):Prop :=
 Rd H a (.lst xs) ∨
  ∃ (o:W0) (its:Array UT) (n:Nat),K.lookup a=some o/\o.cls=.type "list"/\o.dict=none/\o.data=.seq its n/\its.size<=Vb/\Vals xs its.toList
def SqT (K:UO) (H:Hp) (a:UQ) (xs:List V):Prop :=
 Rd H a (.tup xs) ∨
  ∃ (o:W0) (its:Array UT) (n:Nat),K.lookup a=some o/\o.cls=.type "tuple"/\o.data=.seq its n/\its.size<=Vb/\Vals xs its.toList
def xn:UT->Option V
 | .none=>some .non
 | .bool b=>some (.bl b)
 | .int i _=>some (.int i)
 | .str x _=>some (.str x)
 | .bytes b _=>some (.byt b)
 | .float b _=>some (.flt b)
 | .ref a=>some (.ref a)
 | .type n=>some (.ty n)
 | _=>none
theorem RelV.abs {x:V} {u:UT} (r:RelV x u):xn u=some x:=by
 cases x with
 | non=>cases r;rfl
 | bl _=>cases r;rfl
 | int _=>obtain ⟨t,rfl⟩:=r;rfl
 | str _=>obtain ⟨t,rfl⟩:=r;rfl
 | byt _=>obtain ⟨t,rfl⟩:=r;rfl
 | flt _=>obtain ⟨t,rfl⟩:=r;rfl
 | ref _=>cases r;rfl
 | ty _=>cases r;rfl
theorem RelV.inj {x y:V} {u:UT} (r:RelV x u) (q:RelV y u):x=y:=Vo (r.abs.symm.trans q.abs)
theorem Vals.inj:∀ {xs ys:List V} {us:List UT},Vals xs us->Vals ys us->xs=ys
 | _,_,_,.nil,.nil=>rfl
 | _,_,_,.cons r t,.cons r' t'=>by rw [r.inj r',Vals.inj t t']
section
variable {X:Cx} {pins:List (UQ×W0)} {σ:St} {H:Hp} {s:UY} {a:UQ} {xs ys:List V}
theorem SqL.of {K:UO} (h:H a=some (.lst xs)):SqL K H a xs:=.inl (.inl h)
theorem SqT.of {K:UO} (h:H a=some (.tup xs)):SqT K H a xs:=.inl (.inl h)
theorem Inv.list (I:Inv X pins σ H s) (h:SqL X.K H a xs):∃ its:List UT,Vals xs its/\PlainL s.heap a its.toArray/\xs.length<=Vb:=by
 rcases h with h | ⟨o,its,n,hk,hc,hd,hs,hz,r⟩
 · obtain ⟨z,its,n,r,e⟩:=h.ok I.hok;exact ⟨its,r,⟨_,n,e,rfl,rfl,rfl⟩,z⟩
 · refine ⟨its.toList,r,⟨o,n,I.kIn a o hk,hc,hd,by simpa using hs⟩,?_⟩;have e:=r.length;simp only [Vz] at e;omega
theorem Inv.tuple (I:Inv X pins σ H s) (h:SqT X.K H a xs):∃ its:List UT,Vals xs its/\IsTup s.heap a its.toArray/\xs.length<=Vb:=by
 rcases h with h | ⟨o,its,n,hk,hc,hs,hz,r⟩
 · obtain ⟨z,its,n,r,p⟩:=h.ok I.hok;exact ⟨its,r,⟨_,p,rfl,n,rfl⟩,z⟩
 · refine ⟨its.toList,r,⟨o,I.kIn a o hk,hc,n,by simpa using hs⟩,?_⟩;have e:=r.length;simp only [Vz] at e;omega
theorem Inv.list_inj (I:Inv X pins σ H s) (h:SqL X.K H a xs) (h':SqL X.K H a ys):xs=ys:=by
 obtain ⟨its,r,⟨o,n,e,_,_,d⟩,_⟩:=I.list h;obtain ⟨its',r',⟨o',n',e',_,_,d'⟩,_⟩:=I.list h';rw [e] at e';cases e';rw [d] at d';injection d' with d1 _;have:its=its':=by simpa using congrArg Array.toList d1
 subst this;exact r.inj r'
theorem Inv.tuple_inj (I:Inv X pins σ H s) (h:SqT X.K H a xs) (h':SqT X.K H a ys):xs=ys:=by
 obtain ⟨its,r,⟨o,e,_,n,d⟩,_⟩:=I.tuple h;obtain ⟨its',r',⟨o',e',_,n',d'⟩,_⟩:=I.tuple h';rw [e] at e';cases e';rw [d] at d';injection d' with d1 _;have:its=its':=by simpa using congrArg Array.toList d1
 subst this;exact r.inj r'
end
abbrev Cx.wish (X:Cx) (E:UT->UY->Prop):Cx:={ X with xe:=E }
abbrev Cx.nox (X:Cx):Cx:=X.wish fun _ _=>False
theorem Cx.Ok.wish {X:Cx} (ok:X.Ok) (E:UT->UY->Prop):(X.wish E).Ok :=
 ⟨ok.mod,ok.kind,ok.glob,ok.blt,ok.above,ok.inj,ok.has,ok.cab,ok.hd,ok.frames,ok.stk,ok.exf,ok.bs,ok.bsz,ok.noex,ok.exfs,ok.funs,ok.frf⟩
theorem Cx.Ok.unwish {X:Cx} {E:UT->UY->Prop} (ok:(X.wish E).Ok):X.Ok :=
 ⟨ok.mod,ok.kind,ok.glob,ok.blt,ok.above,ok.inj,ok.has,ok.cab,ok.hd,ok.frames,ok.stk,ok.exf,ok.bs,ok.bsz,ok.noex,ok.exfs,ok.funs,ok.frf⟩
section
variable {X:Cx} {pins:List (UQ×W0)} {σ:St} {H:Hp} {s:UY} {E:UT->UY->Prop}
theorem Inv.wish (I:Inv X pins σ H s) (E:UT->UY->Prop):Inv (X.wish E) pins σ H s:=⟨I.ok.wish E,I.os,I.bare,I.base,I.loc,I.cell,I.free,I.freeC,I.pin,I.hok,I.len⟩
theorem Inv.unwish (I:Inv (X.wish E) pins σ H s):Inv X pins σ H s:=⟨I.ok.unwish,I.os,I.bare,I.base,I.loc,I.cell,I.free,I.freeC,I.pin,I.hok,I.len⟩
theorem SP.unwish {D:Ends} {f:Flow} {s':UY} (h:SP (X.wish E) pins D f s'):SP X pins D f s':=by
 cases f with
 | next=>obtain ⟨xT,H',I,q⟩:=h;exact ⟨xT,H',I.unwish,q⟩
 | brk=>obtain ⟨xT,H',I,q⟩:=h;exact ⟨xT,H',I.unwish,q⟩
 | cont=>obtain ⟨xT,H',I,q⟩:=h;exact ⟨xT,H',I.unwish,q⟩
 | ret u=>obtain ⟨v,xT,H',I,r,q⟩:=h;exact ⟨v,xT,H',I.unwish,r,q⟩
theorem PSs.nox {st:List WM} {t:TS} (h:PSs X.nox st t):PSs X st t:=fun pins s σ H D I hw =>
 WU (h pins s σ H D (I.wish _) hw) (fun _ _ q=>q.unwish) fun _ _ z=>X6 z
end
section
variable {X:Cx} {st:WM} {rest:List WM} {t u:TS} {e:V4} {te:TE} {pos:YJ}
def tN:TS:=fun D σ H=>D.nx σ H
def xb (t u:TS):TS:=fun D σ H=>t { D with nx:=u D } σ H
theorem bO:PSs X [] tN:=fun _ _ σ H _ I h=>ZX ⟨σ,H,I,h⟩
theorem ae (h1:PS X st t) (h2:PSs X rest u):PSs X (st::rest) (xb t u):=by
 intro pins s σ H D I h;refine wpAny_execs_cons (thn (h1 pins s σ H { D with nx:=u D } I h) fun f s1 q=>?_);cases f with
 | next =>
   obtain ⟨xT,H',I',q⟩:=q;exact h2 pins s1 xT H' D I' q
 | ret v=>exact q
 | brk=>exact q
 | cont=>exact q
theorem ag (h1:PS X st t):PSs X [st] t:=by
 intro pins s σ H D I h;refine wpAny_execs_cons (thn (h1 pins s σ H D I h) fun f s1 q=>?_);cases f with
 | next=>exact ZX q
 | ret v=>exact q
 | brk=>exact q
 | cont=>exact q
theorem Inv.quiet {pins:List (UQ×W0)} {σ:St} {H:Hp} {s:UY} (I:Inv X pins σ H s):interactive X.env=false:=by simp [interactive,I.ok.kind]
def wQ (te:TE):TS:=fun D σ H=>te σ H fun _ H1=>D.nx σ H1
theorem aL (he:PE X e te) (hs:swapsWith e none pos.line X.env=pure false:=by rfl):PS X (.Expr e pos) (wQ te):=by
 intro pins s σ H D I h;exact wpAny_Expr_any (thn (he pins s σ H _ I h) fun v s1 ⟨x,H1,I1,r1,q1⟩=>⟨σ,H1,I1,q1⟩) I.quiet hs
def xM (te:TE):TS:=fun D σ H=>te σ H D.rt
theorem aD (he:PE X e te):PS X (.Return (some e) pos) (xM te):=by
 intro pins s σ H D I h;exact wpAny_Return_some (thn (he pins s σ H _ I h) fun v s1 ⟨x,H1,I1,r1,q1⟩=>⟨x,σ,H1,I1,r1,q1⟩)
def xi (c:TT) (t u:TS):TS:=fun D σ H=>c σ H fun b H1=>if b=true then t D σ H1 else u D σ H1
theorem bY {c:V4} {a b:List WM} {tc:TT} (hc:PT X c tc) (ha:PSs X a t) (hb:PSs X b u):PS X (.If c a b pos) (xi tc t u):=by
 intro pins s σ H D I h;refine wpAny_If (thn (hc pins s σ H _ I h) fun d s1 ⟨H1,I1,q1⟩=>?_);cases d with
 | true=>exact ha pins s1 σ H1 D I1 q1
 | false=>exact hb pins s1 σ H1 D I1 q1
end
abbrev TG:=V->St->Hp->(St->Hp->Prop)->Prop
abbrev TGs:=List V->St->Hp->(St->Hp->Prop)->Prop
def PG (X:Cx) (target:V4) (t:TG):Prop :=
 ∀ (pins:List (UQ×W0)) (s:UY) (σ:St) (H:Hp) (v:V) (u:UT) (Q:St->Hp->Prop),Inv X pins σ H s->RelV v u->t v σ H Q →
   Va (Vw X.prog X.w) X.A (assign target X.env u) (fun _ s'=>∃ xT H',Inv X pins xT H' s'/\Q xT H') X.xe s
def PGs (X:Cx) (ts:List V4) (t:TGs):Prop :=
 ∀ (pins:List (UQ×W0)) (s:UY) (σ:St) (H:Hp) (vs:List V) (us:List UT) (Q:St->Hp->Prop),Inv X pins σ H s->Vals vs us->t vs σ H Q →
   Va (Vw X.prog X.w) X.A (assignInOrder ((ZT ts X.env).map (·.2)) us) (fun _ s'=>∃ xT H',Inv X pins xT H' s'/\Q xT H') X.xe s
abbrev vE:=V->V->V->Hp->(Hp->Prop)->Prop
def wu (X:Cx) (t:vE):Prop :=
 ∀ (pins:List (UQ×W0)) (s:UY) (σ:St) (H:Hp) (o i v:V) (ov iv u:UT) (Q:Hp->Prop),Inv X pins σ H s->RelV o ov->RelV i iv->RelV v u->t o i v H Q →
   Va (Vw X.prog X.w) X.A (setItem ov iv u) (fun _ s'=>∃ H',Inv X pins σ H' s'/\Q H') X.xe s
abbrev TIp:=V->V->Hp->VK->Prop
def PIp (X:Cx) (op:Operator) (t:TIp):Prop :=
 ∀ (pins:List (UQ×W0)) (s:UY) (σ:St) (H:Hp) (x y:V) (v u:UT) (Q:VK),Inv X pins σ H s->RelV x v->RelV y u->t x y H Q →
   Va (Vw X.prog X.w) X.A (inplaceOp op v u) (EP X pins σ Q) X.xe s
section
variable {X:Cx} {pos:YJ}
def aG (i:Nat):TG:=fun v σ H Q=>Q (σ.set i (some v)) H
theorem aj {i:Nat} {x:Vm} (hN:X.N.Nodup) (hi:X.N[i]?=some x) (hx:Loc X.env.scope x) (hf:X.fn x=true∨X.env.scope.names.lookup x=some .local:=by first | exact .inl rfl | exact .inr rfl | assumption):PG X (.Name x pos) (aG i):=by
 intro pins s σ H v u Q I r h;exact wpAny_assign_Name (kX I hN hi hx r (fun s' I'=>⟨_,H,I',h⟩) hf)
def lQ:TGs:=fun vs σ H Q=>vs=[]/\Q σ H
def cR (t:TG) (u:TGs):TGs:=fun vs σ H Q=>∃ v r,vs=v::r/\t v σ H fun xT H'=>u r xT H' Q
theorem aX:PGs X [] lQ:=by
 intro pins s σ H vs us Q I r h;obtain ⟨e,h⟩:=h;subst e;cases r;exact assignInOrder_nil ⟨σ,H,I,h⟩
theorem au {e:V4} {es:List V4} {t:TG} {u:TGs} (h1:PG X e t) (h2:PGs X es u)
 (hs:(ZT (e::es) X.env).map (·.2)=assign e X.env::(ZT es X.env).map (·.2):=by rfl):PGs X (e::es) (cR t u):=by
 intro pins s σ H vs us Q I r h;obtain ⟨v,vr,e1,h⟩:=h;subst e1;cases r with
 | cons r rr =>
   rw [hs];refine assignInOrder_cons (thn (h1 pins s σ H _ _ _ I r h) fun _ s1 ⟨zR,H1,I1,q1⟩=>?_);exact h2 pins s1 zR H1 _ _ Q I1 rr q1
def lT (K:UO) (n:Nat) (t:TGs):TG:=fun v σ H Q=>∃ a xs,v=.ref a/\SqT K H a xs/\xs.length=n/\t xs σ H Q
theorem bo {es:List V4} {k:Nat} {t:TGs} {n:Nat} (hc:X.calm=true) (h:PGs X es t)
 (hn:(ZT es X.env).length=n:=by rfl) (y8:(ZT es X.env).findIdx? (·.1)=none:=by rfl):PG X (.Tuple es k pos) (lT X.K n t):=by
 intro pins s σ H v u Q I r hw;obtain ⟨a,xs,e1,hq,hl,hw⟩:=hw;subst e1;cases r;obtain ⟨its,rv,ht,hz⟩:=I.tuple hq;refine assign_Tuple_tuple (I.ok.hd hc) ht (by simp [hn,<- hl,rv.length]) y8 fun h' hx=>?_;have I1:Inv X pins σ H { s with heap:=h' }:=I.kept (t':=s.toks) fun b o e=>hx b o (Vy (U7 e)) e;exact h pins _ σ H xs _ Q I1 (by simpa using rv) hw
def xx (to ti:TE) (t:vE):TG:=fun v σ H Q=>to σ H fun o H1=>ti σ H1 fun i H2=>t o i v H2 fun H3=>Q σ H3
theorem fR {o i:V4} {to ti:TE} {t:vE} (ho:PE X o to) (hi:PE X i ti) (hs:wu X t)
 (ha:∀ v,assign (.Subscript o i pos) X.env v=(do
  let ov ← holding [v] (Xf o X.env)
  let iv ← holding [v,ov] (Xf i X.env)
  standAt pos
  holding [v,ov,iv] (setItem ov iv v)
  release [v,ov,iv] []):=by intro _;rfl):PG X (.Subscript o i pos) (xx to ti t):=by
 intro pins s σ H v u Q I r h;rw [ha];refine UM (Wl (thn (ho pins s σ H _ I h) fun ov s1 ⟨x,H1,I1,r1,q1⟩=>?_));refine UM (Wl (thn (hi pins s1 σ H1 _ I1 q1) fun iv s2 ⟨y,H2,I2,r2,q2⟩=>?_));refine UM (wpAny_standAt (UM (Wl (thn (hs pins s2 σ H2 x y v ov iv u _ I2 r1 r2 r q2) fun _ s3 ⟨H3,I3,q3⟩=>?_))));exact wpAny_release ⟨σ,H3,I3,q3⟩
def vH (te:TE) (g:TG):TS:=fun D σ H=>te σ H fun x H1=>g x σ H1 D.nx
theorem cE {tg e:V4} {te:TE} {g:TG} (he:PE X e te) (hg:PG X tg g) (hs:swapsWithSole [tg] e pos.line X.env=pure false:=by rfl) (hw:swappedStores [tg] e X.env=pure none:=by rfl)
 (h1:(ZT [tg] X.env).map (·.2)=[assign tg X.env]:=by rfl):PS X (.Assign [tg] e pos) (vH te g):=by
 intro pins s σ H D I h;refine wpAny_Assign_stores (thn (he pins s σ H _ I h) fun v s1 ⟨x,H1,I1,r1,q1⟩=>?_) hs hw;rw [h1];exact thn (hg pins s1 σ H1 x v _ I1 r1 q1) fun _ s2 q=>q
theorem av {i:Nat} {x:Vm} {e:V4} {te:TE} {pos':YJ} (hN:X.N.Nodup) (hi:X.N[i]?=some x) (hx:Loc X.env.scope x) (he:PE X e te) (hs:swapsWith e (some (.Name x pos')) pos.line X.env=pure false:=by rfl) (hf:X.fn x=true∨X.env.scope.names.lookup x=some .local:=by first | exact .inl rfl | exact .inr rfl | assumption) :
 PS X (.Assign [.Name x pos'] e pos) (vH te (aG i)):=by
 intro pins s σ H D I h;refine wpAny_Assign_Name (thn (he pins s σ H _ I h) fun v s1 ⟨y,H1,I1,r1,q1⟩=>?_) hs;exact kX I1 hN hi hx r1 (fun s2 I2=>⟨_,H1,I2,q1⟩) hf
def xD (i:Nat) (te:TE) (ti:TIp):TS:=fun D σ H=>∃ x,σ[i]?=some (some x)/\te σ H fun y H1=>ti x y H1 fun z H2=>D.nx (σ.set i (some z)) H2
theorem vQ {i:Nat} {x:Vm} {e:V4} {te:TE} {op:Operator} {ti:TIp} {pos':YJ} (hN:X.N.Nodup) (hi:X.N[i]?=some x) (hx:Loc X.env.scope x) (he:PE X e te) (ho:PIp X op ti) (hf:X.fn x=true∨X.env.scope.names.lookup x=some .local:=by first | exact .inl rfl | exact .inr rfl | assumption) :
 PS X (.AugAssign (.Name x pos') op e pos) (xD i te ti):=by
 intro pins s σ H D I h;obtain ⟨v,e1,h⟩:=h;obtain ⟨m,hn,hl⟩:=I.loc;have Og:Vis X.env.scope x:=by rcases hx with k | k;exact .inl k;exact .inr (.inl k)
 obtain ⟨u,r,l⟩:=hl i x v hi e1 Og;refine wpAny_AugAssign_Name ?_
 have go:Va (Vw X.prog X.w) X.A (Xf e X.env) (fun w yB=>Va (Vw X.prog X.w) X.A (inplaceOp op u w) (fun r zW=>Va (Vw X.prog X.w) X.A (storeName X.env x r) (fun _=>SP X pins D .next) X.xe zW) X.xe yB) X.xe s:=by
  refine thn (he pins s σ H _ I h) fun w s1 ⟨y,H1,I1,r1,q1⟩=>?_;refine thn (ho pins s1 σ H1 v y u w _ I1 r r1 q1) fun z s2 ⟨zv,H2,I2,r2,q2⟩=>?_;exact kX I2 hN hi hx r2 (fun s3 I3=>⟨_,H2,I3,q2⟩) hf
 rcases l with ⟨hk,hm⟩ | ⟨hk,c,hc,Bj⟩
 · exact wpAny_loadName_local I.ok.kind hk hn hm go
 · rcases hk with hk | hk
   · exact wpAny_loadName_cell I.ok.kind hk hc Bj go
   · rcases hx with k | k
     · have:X.env.scope.names.lookup x=some .free:=hk;rw [k] at this;cases this
     · have:X.env.scope.names.lookup x=some .free:=hk;rw [k] at this;cases this
def ipI (f:Int->Int->Int):TIp:=fun x y H Q=>∃ i j,x=.int i/\y=.int j/\Q (.int (f i j)) H
theorem wg:PIp X .Add (ipI fun i j=>i+j):=by
 intro pins s σ H x y v u Q I r1 r2 h;obtain ⟨i,j,e1,e2,q⟩:=h;subst e1;subst e2;obtain ⟨t,rfl⟩:=r1;obtain ⟨t',rfl⟩:=r2;exact iadd_int ⟨.int _,H,I.tok _,⟨_,rfl⟩,q⟩
end
section
variable {X:Cx} {pos:YJ}
def vD (c:TT) (tb:TS):TS:=fun D σ H=>∃ W:Nat->St->Hp->Prop,(∃ m,W m σ H)/\∀ m σ H,W m σ H →
 c σ H fun b H1=>if b=true then ∃ N:St->Hp->Prop,(∀ xT H',N xT H'->∃ m',m'<m/\W m' xT H')/\tb { D with nx:=N,ct:=N,bk:=D.nx } σ H1 else D.nx σ H1
theorem eR {c:V4} {body:List WM} {tc:TT} {tb:TS} (hp:PassesOwn (Vw X.prog X.w) X.A X.env X.xe) (hc:PT X c tc) (hb:PSs X body tb):PS X (.While c body [] pos) (vD tc tb):=by
 intro pins s σ H D I h;obtain ⟨W,⟨m0,w0⟩,turn⟩:=h;refine wpAny_While (codeAny_whileLoop (fun n s'=>∃ xT H',Inv X pins xT H' s'/\W n xT H') ?_ m0 ⟨σ,H,I,w0⟩);rintro n s1 ⟨zR,H1,I1,w1⟩;refine X3 hp (thn (hc pins s1 zR H1 _ I1 (turn n zR H1 w1)) fun b s2 ⟨H2,I2,q2⟩=>?_);cases b with
 | true =>
   obtain ⟨N,hN,q2⟩:=q2;rw [if_pos rfl];refine X3 hp (thn (hb pins s2 zR H2 _ I2 q2) fun f s3 q3=>?_);cases f with
   | next =>
     obtain ⟨B8,H3,I3,n3⟩:=q3;obtain ⟨m',hm,w3⟩:=hN B8 H3 n3;exact ⟨m',hm,B8,H3,I3,w3⟩
   | cont =>
     obtain ⟨B8,H3,I3,n3⟩:=q3;obtain ⟨m',hm,w3⟩:=hN B8 H3 n3;exact ⟨m',hm,B8,H3,I3,w3⟩
   | brk=>exact q3
   | ret v=>exact q3
 | false =>
   rw [if_neg Ve];exact ZX ⟨zR,H2,I2,q2⟩
end
structure It where
 go:Nat->Hp->Prop
 yld:Nat->Hp->V->Hp->Prop
 stop:Nat->Hp->Prop
def jP (X:Cx) (pins:List (UQ×W0)) (H:Hp) (b:UQ):Prop :=
 H b=none/\b≠X.env.locals/\b∉X.fs/\(b∈X.ex∨X.s₀.heap.objs.size<=b)/\(∀ x c,X.env.cells.lookup x=some c->c≠b)/\∀ p∈X.pn++pins,p.1≠b
theorem Inv.fpOk {X:Cx} {pins:List (UQ×W0)} {σ:St} {H H':Hp} {s:UY} {b:UQ} (I:Inv X pins σ H s) (hb:s.heap.objs.size<=b) (hn:H' b=none):jP X pins H' b:=by
 refine ⟨hn,Yc (VS I.lt hb),I.nofs hb,.inr (WB I.sz hb),fun x c e z=>?_,fun p hp z=>?_⟩
 · obtain ⟨v,q⟩:=I.cell x c e;exact absurd (VS q.lt (by rw [z];exact hb)) (Wo _)
 · exact absurd (VS (U7 (I.pin p hp).1) (by rw [z];exact hb)) (Wo _)
structure Turn (P:U6) (w:Vj) (K:UO) (tg:V4) (J:It) (fp:List UQ) (it:UQ) (tn:Nat->V9->Prop):Prop where
 mem:it∈fp
 obj:∀ i h,tn i h->∀ b∈fp,∃ o,h.get? b=some o/\∀ v,o.data≠.cell v
 keep:∀ i h h',tn i h->(∀ b∈fp,∀ o,h.get? b=some o->h'.get? b=some o)->tn i h'
 item:∀ (X:Cx),X.prog=P->X.w=w->X.K=K->X.calm=true->∀ (i:Nat) (pins:List (UQ×W0)) (s:UY) (σ:St) (H:Hp) (E:UT->UY->Prop),Inv X pins σ H s->(∀ b∈fp,jP X pins H b)->tn i s.heap->J.go i H →
  Va (Vw P w) X.A (XH (.ref it)) (fun r s1=>∃ u,r=some u ∧
   Va (Vw P w) X.A (ZY tg (.ref it) u) (fun _ s2=>∃ x H',Inv X pins σ H' s2/\RelV x u/\J.yld i H x H'/\tn (i+1) s2.heap/\∀ b∈fp,H' b=none) E s1) E s
 done:∀ (X:Cx),X.prog=P->X.w=w->X.K=K->X.calm=true->∀ (i:Nat) (pins:List (UQ×W0)) (s:UY) (σ:St) (H:Hp) (E:UT->UY->Prop),Inv X pins σ H s->(∀ b∈fp,jP X pins H b)->tn i s.heap->J.stop i H →
  Va (Vw P w) X.A (XH (.ref it)) (fun r s1=>r=none/\Inv X pins σ H s1) E s
 self:∀ (A:VF) (i:Nat) (s:UY) (Q:UT->UY->Prop) (E:UT->UY->Prop),tn i s.heap->Q (.ref it) s->Va (Vw P w) A (pyIter (.ref it)) Q E s
abbrev TI:=St->Hp->(It->Hp->Prop)->Prop
def PIE (X:Cx) (pins:List (UQ×W0)) (σ:St) (tg:V4) (R:It->Hp->Prop) (J1:UT) (s2:UY):Prop :=
 ∃ (it:UQ) (fp:List UQ) (tn:Nat->V9->Prop) (J:It) (H':Hp),J1=.ref it/\Inv X pins σ H' s2/\Turn X.prog X.w X.K tg J fp it tn/\tn 0 s2.heap/\(∀ b∈fp,jP X pins H' b)/\R J H'
def PI (X:Cx) (tg iter:V4) (wi:TI):Prop :=
 ∀ (pins:List (UQ×W0)) (s:UY) (σ:St) (H:Hp) (R:It->Hp->Prop),Inv X pins σ H s->wi σ H R →
   Va (Vw X.prog X.w) X.A (Xf iter X.env) (fun v s1=>Va (Vw X.prog X.w) X.A (pyIter v) (PIE X pins σ tg R) X.xe s1) X.xe s
theorem rj {M:Model} {A:VF} {E:UT->UY->Prop} {s:UY} {tg:V4} {it:UQ} {u:UT} {o:W0} {n:String} {vs:Array UT} {Q:Unit->UY->Prop} (ho:s.heap.get? it=some o) (hc:o.cls=.type n) (hd:o.data=.fields vs)
 (hn:["enumerate","zip","dict_itemiterator","dict_reverseitemiterator","odict_iterator","itertools.zip_longest","itertools.pairwise"].contains n=false) (hQ:Q () s):Va M A (ZY tg (.ref it) u) Q E s:=by
 unfold ZY
 cases tg <;> first
  | exact UX hQ
  | (cases u <;> first
   | exact UX hQ
   | (refine UM (wpAny_load ho ?_)
      rw [hc,hd];show Va M A (if (["enumerate","zip","dict_itemiterator","dict_reverseitemiterator","odict_iterator","itertools.zip_longest","itertools.pairwise"].contains n && vs[0]? == some (Xe _))=true then _ else _) Q E s;rw [if_neg (by intro h;rw [hn,Bool.false_and] at h;cases h)];exact UX hQ))
def Itl (K:UO) (a:UQ):It :=
 ⟨fun i H=>∃ xs x,SqL K H a xs/\xs[i]?=some x,fun i H x H'=>H'=H/\∀ xs,SqL K H a xs->xs[i]?=some x,fun i H=>∃ xs,SqL K H a xs/\xs.length<=i⟩
def Itt (K:UO) (a:UQ):It :=
 ⟨fun i H=>∃ xs x,SqT K H a xs/\xs[i]?=some x,fun i H x H'=>H'=H/\∀ xs,SqT K H a xs->xs[i]?=some x,fun i H=>∃ xs,SqT K H a xs/\xs.length<=i⟩
def Itr (lo:Int) (n:Nat):It:=⟨fun i _=>i<n,fun i H x H'=>H'=H/\x=.int (lo+i),fun i _=>n<=i⟩
theorem rT {P:U6} {w:Vj} {K:UO} {tg:V4} (a it:UQ):Turn P w K tg (Itl K a) [it] it (fun i h=>h.IsListIter it a i) where
 mem:=by simp
 obj:=fun i h st b hb=>by
  have e:b=it:=by simpa using hb
  subst e;obtain ⟨o,e,c,d⟩:=st;exact ⟨o,e,fun v z=>by rw [d] at z;cases z⟩
 keep:=fun i h h' st k=>st.at fun o e=>k it (by simp) o e
 item:=by
  intro X hP hw hK hc i pins s σ H E I hf st hg;subst hP hw hK;obtain ⟨xs,x,hq,hx⟩:=hg;obtain ⟨its,rv,p,hz⟩:=I.list hq;obtain ⟨u,hu,ru⟩:=rv.get hx;obtain ⟨f0,f1,f2,f3,f4,f5⟩:=hf it (by simp);refine wpAny_pyNext_list_item st p.isList (x:=u) (by simpa using hu) fun h' BS sb=>?_;have I1:Inv X pins σ H { s with heap:=h' }:=I.turned (t':=s.toks) (fun b o hb e=>(sb.2 b hb).trans e) f0 f1 f3 f4 f5;obtain ⟨o,e,c,d⟩:=id BS;exact ⟨u,rfl,rj (s:={ s with heap:=h' }) e c d (by decide) ⟨x,H,I1,ru,⟨rfl,fun ys hy=>by rw [I.list_inj hy hq];exact hx⟩,BS,fun b hb=>(hf b hb).1⟩⟩
 done:=by
  intro X hP hw hK hc i pins s σ H E I hf st hg;subst hP hw hK;obtain ⟨xs,hq,hx⟩:=hg;obtain ⟨its,rv,p,hz⟩:=I.list hq;obtain ⟨f0,f1,f2,f3,f4,f5⟩:=hf it (by simp);have hl:=rv.length;exact wpAny_pyNext_list_end (I.ok.hd hc) st p.isList (by simp;omega) fun h' eb=>⟨rfl,I.turned (t':=s.toks) (fun b o hb e=>eb b o hb e) f0 f1 f3 f4 f5⟩
 self:=fun _ _ _ _ _ st h=>wpAny_pyIter_listiter st h
theorem p8 {P:U6} {w:Vj} {K:UO} {tg:V4} (a it:UQ):Turn P w K tg (Itt K a) [it] it (fun i h=>h.IsTupleIter it a i) where
 mem:=by simp
 obj:=fun i h st b hb=>by
  have e:b=it:=by simpa using hb
  subst e;obtain ⟨o,e,c,d⟩:=st;exact ⟨o,e,fun v z=>by rw [d] at z;cases z⟩
 keep:=fun i h h' st k=>st.at fun o e=>k it (by simp) o e
 item:=by
  intro X hP hw hK hc i pins s σ H E I hf st hg;subst hP hw hK;obtain ⟨xs,x,hq,hx⟩:=hg;obtain ⟨its,rv,p,hz⟩:=I.tuple hq;obtain ⟨u,hu,ru⟩:=rv.get hx;obtain ⟨f0,f1,f2,f3,f4,f5⟩:=hf it (by simp);refine wpAny_pyNext_tuple_item st (show s.heap.IsTuple a its.toArray from p) (x:=u) (by simpa using hu) fun h' BS sb=>?_;have I1:Inv X pins σ H { s with heap:=h' }:=I.turned (t':=s.toks) (fun b o hb e=>(sb.2 b hb).trans e) f0 f1 f3 f4 f5;obtain ⟨o,e,c,d⟩:=id BS;exact ⟨u,rfl,rj (s:={ s with heap:=h' }) e c d (by decide) ⟨x,H,I1,ru,⟨rfl,fun ys hy=>by rw [I.tuple_inj hy hq];exact hx⟩,BS,fun b hb=>(hf b hb).1⟩⟩
 done:=by
  intro X hP hw hK hc i pins s σ H E I hf st hg;subst hP hw hK;obtain ⟨xs,hq,hx⟩:=hg;obtain ⟨its,rv,p,hz⟩:=I.tuple hq;obtain ⟨f0,f1,f2,f3,f4,f5⟩:=hf it (by simp);have hl:=rv.length;exact wpAny_pyNext_tuple_end (I.ok.hd hc) st (show s.heap.IsTuple a its.toArray from p) (by simp;omega) fun h' eb=>⟨rfl,I.turned (t':=s.toks) (fun b o hb e=>eb b o hb e) f0 f1 f3 f4 f5⟩
 self:=fun _ _ _ _ _ st h=>wpAny_pyIter_tupleiter st h
theorem qj {P:U6} {w:Vj} {K:UO} {tg:V4} (it:UQ) (lo:Int) (n:Nat):Turn P w K tg (Itr lo n) [it] it (fun i h=>IsRangeIter h it (lo+(i:Nat) * 1) ((n:Int) - (i:Nat)) 1) where
 mem:=by simp
 obj:=fun i h st b hb=>by
  have e:b=it:=by simpa using hb
  subst e
  exact ⟨_,st,fun v z=>by
   have z':Data.fields _=Data.cell v:=z;cases z'⟩
 keep:=fun i h h' st k=>k it (by simp) _ st
 item:=by
  intro X hP hw hK hc i pins s σ H E I hf st hg;subst hP hw hK;obtain ⟨f0,f1,f2,f3,f4,f5⟩:=hf it (by simp);have W:=Walks.range (prog:=X.prog) (w:=X.w) (I.ok.hd hc) it lo 1 n;refine W.item i s _ _ hg st fun v h' tk hv BS kk=>?_;obtain ⟨t,rfl⟩:=hv;have I1:Inv X pins σ H { s with heap:=h',toks:=tk }:=I.turned (fun b o hb e=>kk b o (by simpa using hb) e) f0 f1 f3 f4 f5;refine ⟨_,rfl,rj (s:={ s with heap:=h',toks:=tk }) (n:="range_iterator") BS rfl rfl (by decide) ⟨.int (lo+i),H,I1,⟨t,?_⟩,⟨rfl,rfl⟩,BS,fun b hb=>(hf b hb).1⟩⟩;rw [Int.mul_one]
 done:=by
  intro X hP hw hK hc i pins s σ H E I hf st hg;subst hP hw hK;obtain ⟨f0,f1,f2,f3,f4,f5⟩:=hf it (by simp);exact wpAny_pyNext_range_end (I.ok.hd hc) st (by have:n<=i:=hg;omega) fun h' eb=>⟨rfl,I.turned (t':=s.toks) (fun b o hb e=>eb b o hb e) f0 f1 f3 f4 f5⟩
 self:=fun _ _ _ _ _ st h=>wpAny_pyIter_rangeiter st h
end L2
namespace L2
open PySem PySem.Spec PyProof.Rows
section
variable {X:Cx} {tg:V4}
def wI (K:UO) (tl:TE):TI:=fun σ H R=>tl σ H fun x H1=>∃ a,x=.ref a/\(∃ xs,SqL K H1 a xs)/\R (Itl K a) H1
def xC (K:UO) (tl:TE):TI:=fun σ H R=>tl σ H fun x H1=>∃ a,x=.ref a/\(∃ xs,SqT K H1 a xs)/\R (Itt K a) H1
theorem bQ {l:V4} {tl:TE} (hl:PE X l tl):PI X tg l (wI X.K tl):=by
 intro pins s σ H R I h;refine thn (hl pins s σ H _ I h) fun v s1 ⟨x,H1,I1,r1,q1⟩=>?_;obtain ⟨a,e,⟨xs,hq⟩,q⟩:=q1;subst e;cases r1;obtain ⟨its,rv,p,hz⟩:=I1.list hq;refine wpAny_pyIter_list p.isList ?_;refine ⟨s1.heap.objs.size,[s1.heap.objs.size],_,_,H1,rfl,I1.kept (t':=s1.toks) fun b o e=>UW _ e,rT a _,⟨_,U4 _ rfl,rfl,rfl⟩,fun b hb=>?_,q⟩;have e:b=s1.heap.objs.size:=by simpa using hb
 subst e;exact I1.fpOk (UR _) (I1.hok.fresh (UR _))
theorem jc {l:V4} {tl:TE} (hl:PE X l tl):PI X tg l (xC X.K tl):=by
 intro pins s σ H R I h;refine thn (hl pins s σ H _ I h) fun v s1 ⟨x,H1,I1,r1,q1⟩=>?_;obtain ⟨a,e,⟨xs,hq⟩,q⟩:=q1;subst e;cases r1;obtain ⟨its,rv,p,hz⟩:=I1.tuple hq;refine X1 (show s1.heap.IsTuple a its.toArray from p) ?_;refine ⟨s1.heap.objs.size,[s1.heap.objs.size],_,_,H1,rfl,I1.kept (t':=s1.toks) fun b o e=>UW _ e,p8 a _,⟨_,U4 _ rfl,rfl,rfl⟩,fun b hb=>?_,q⟩;have e:b=s1.heap.objs.size:=by simpa using hb
 subst e;exact I1.fpOk (UR _) (I1.hok.fresh (UR _))
theorem pE {pins:List (UQ×W0)} {σ:St} {H:Hp} {s:UY} {R:It->Hp->Prop} {E:UT->UY->Prop} {lo hi:Int} {t u v:Tok} {tk:Nat} (I:Inv X pins σ H s) (h1:-(2 ^ 62)<=lo) (h2:lo<2 ^ 62) (h3:-(2 ^ 62)<=hi) (h4:hi<2 ^ 62)
 (q:R (Itr lo (hi - lo).toNat) H):Va (Vw X.prog X.w) X.A (pyIter (.ref s.heap.objs.size)) (PIE X pins σ tg R) E { s with heap:=s.heap.push { cls:=.type "range",data:=.fields #[.int lo t,.int hi u,.int 1 v] },toks:=tk }:=by
 refine wpAny_pyIter_range (IsRange.new ..) (small_one h1 h2 h3 h4) ?_;have I1:Inv X pins σ H { s with heap:=s.heap.push { cls:=.type "range",data:=.fields #[.int lo t,.int hi u,.int 1 v] },toks:=tk }:=I.kept fun b o e=>UW _ e
 refine ⟨(s.heap.push { cls:=.type "range",data:=.fields #[.int lo t,.int hi u,.int 1 v] }).objs.size,[(s.heap.push { cls:=.type "range",data:=.fields #[.int lo t,.int hi u,.int 1 v] }).objs.size],_,_,H,rfl,
  I1.kept (t':=tk) fun b o e=>UW _ e,qj _ lo (hi - lo).toNat,?_,fun b hb=>?_,q⟩
 · have e1:lo+((0:Nat):Int) * 1=lo:=by simp
   have e2:(((hi - lo).toNat:Nat):Int) - ((0:Nat):Int)=Builtin.Range.rangeSize lo hi 1:=by rw [rangeSize_one];split <;> omega
   show IsRangeIter _ _ (lo+((0:Nat):Int) * 1) ((((hi - lo).toNat:Nat):Int) - ((0:Nat):Int)) 1;rw [e1,e2];exact U4 _ rfl
 · have e:b=(s.heap.push { cls:=.type "range",data:=.fields #[.int lo t,.int hi u,.int 1 v] }).objs.size:=by simpa using hb
   subst e;exact I1.fpOk (UR _) (I1.hok.fresh (UR _))
def xc (ta:TA):TI:=fun σ H R=>ta σ H fun vs H1=>∃ j:Int,vs=[.int j]/\-(2 ^ 62)<=j/\j<2 ^ 62/\R (Itr 0 j.toNat) H1
def wS (ta:TA):TI:=fun σ H R=>ta σ H fun vs H1=>∃ i j:Int,vs=[.int i,.int j]/\(-(2 ^ 62)<=i/\i<2 ^ 62/\-(2 ^ 62)<=j/\j<2 ^ 62)/\R (Itr i (j - i).toNat) H1
theorem bq {a:V4} {ta:TA} {p pos:YJ} (hg:Gl X "range") (hm:X.mg "range"=none) (ha:PA X [a] ta) (hs:VR [a] X.env=[(false,Xf a X.env)]:=by rfl):PI X tg (.Call (.Name "range" p) [a] [] pos) (xc ta):=by
 intro pins s σ H R I h;refine Call_ (cU I hg hm boot_range (VP (thn (ha pos pins s σ H _ I h) fun us s1 ⟨vs,H1,I1,r1,q1⟩=>?_) hs rfl));obtain ⟨j,e,q1,q2,q⟩:=q1;subst e;cases r1 with
 | cons r rr =>
   cases rr;obtain ⟨t,rfl⟩:=r;exact call_range_1 (pE I1 (by omega) (by omega) q1 q2 (by simpa using q))
theorem jd {a b:V4} {ta:TA} {p pos:YJ} (hg:Gl X "range") (hm:X.mg "range"=none) (ha:PA X [a,b] ta) (hs:VR [a,b] X.env=[(false,Xf a X.env),(false,Xf b X.env)]:=by rfl) (Oh:VR [b] X.env=[(false,Xf b X.env)]:=by rfl) :
 PI X tg (.Call (.Name "range" p) [a,b] [] pos) (wS ta):=by
 intro pins s σ H R I h;refine Call_ (cU I hg hm boot_range (VP (thn (ha pos pins s σ H _ I h) fun us s1 ⟨vs,H1,I1,r1,q1⟩=>?_) (by rw [hs,Oh]) (by rw [Oh];rfl)));obtain ⟨i,j,e,⟨q1,q2,q3,q4⟩,q⟩:=q1;subst e;cases r1 with
 | cons r rr =>
   cases rr with
   | cons r' rr =>
     cases rr;obtain ⟨t,rfl⟩:=r;obtain ⟨t',rfl⟩:=r';exact call_range_2 (pE I1 q1 q2 q3 q4 q)
def xl (wi:TI) (g:TG) (tb:TS):TS:=fun D σ H=>wi σ H fun J H1=>∃ W:Nat->Nat->St->Hp->Prop,(∃ m,W 0 m σ H1)/\∀ i m σ H,W i m σ H →
 (J.stop i H/\D.nx σ H)∨(J.go i H/\∃ N:St->Hp->Prop,(∀ xT H',N xT H'->∃ m',m'<m/\W (i+1) m' xT H')/\∀ x H',J.yld i H x H'->g x σ H' fun ym H2=>tb { D with nx:=N,ct:=N,bk:=D.nx } ym H2)
def ll (fp:List UQ) (h:V9):List (UQ×W0):=fp.filterMap fun b=>(h.get? b).map fun o=>(b,o)
theorem fz {fp:List UQ} {h:V9} {b:UQ} {o:W0} (hb:b∈fp) (e:h.get? b=some o):(b,o)∈ll fp h:=Z5.mpr ⟨b,hb,by rw [e];rfl⟩
theorem sk {fp:List UQ} {h:V9} {p:UQ×W0} (hp:p∈ll fp h):p.1∈fp/\h.get? p.1=some p.2:=by
 obtain ⟨b,hb,e⟩:=Z5.mp hp;cases q:h.get? b with
 | none=>rw [q] at e;cases e
 | some o =>
   rw [q] at e;have e':(b,o)=p:=Vo e;subst e';exact ⟨hb,q⟩
theorem Inv.pinned {pins:List (UQ×W0)} {σ:St} {H:Hp} {s:UY} {fp:List UQ} (I:Inv X pins σ H s) (hf:∀ b∈fp,jP X pins H b) (ho:∀ b∈fp,∃ o,s.heap.get? b=some o/\∀ v,o.data≠.cell v):Inv X (pins++ll fp s.heap) σ H s :=
 I.pins_of fun p hp=>(VH.mp hp).elim (fun z=>I.pin p (VI _ z)) fun z=>by
  obtain ⟨hb,e⟩:=sk z;obtain ⟨f0,f1,f2,_⟩:=hf p.1 hb;obtain ⟨o,e',d⟩:=ho p.1 hb;rw [e] at e';cases e';exact ⟨e,f0,f1,f2,d⟩
theorem Inv.unpinned {pins pl:List (UQ×W0)} {σ:St} {H:Hp} {s:UY} (I:Inv X (pins++pl) σ H s):Inv X pins σ H s:=I.pins_of fun p hp=>I.pin p (VI _ (VU _ hp))
theorem bi {iter:V4} {body:List WM} {wi:TI} {g:TG} {tb:TS} {pos:YJ} (hp:PassesOwn (Vw X.prog X.w) X.A X.env X.xe) (hc:X.calm=true) (hi:PI X tg iter wi) (hg:PG X tg g) (hb:PSs X body tb)
 (hs:∀ x,foldedSetIterable iter X.env x=pure x:=by intro _;rfl):PS X (.For tg iter body [] pos) (xl wi g tb):=by
 intro pins s σ H D I h;refine wpAny_For (thn (hi pins s σ H _ I h) fun v s1 h1=>thn h1 fun J1 s2 h2=>?_) hs;obtain ⟨it,fp,tn,J,H2,e,I2,T,AR,f2,W,⟨m0,w0⟩,turn⟩:=h2;subst e
 -- KG stays true of AQ ET objects through AQ loop
 have AS:∀ {H':Hp},(∀ b∈fp,H' b=none)->∀ b∈fp,jP X pins H' b:=fun hn b hb=>⟨hn b hb,(f2 b hb).2⟩;refine codeAny_forLoop_any (fun n s'=>∃ i xT H',Inv X pins xT H' s'/\tn i s'.heap/\(∀ b∈fp,H' b=none)/\W i n xT H') ?_ m0 ⟨0,σ,H2,I2,AR,fun b hb=>(f2 b hb).1,w0⟩;rintro n s3 ⟨i,B8,H3,I3,Oi,Oj,w3⟩;rcases turn i n B8 H3 w3 with ⟨stop,qn⟩ | ⟨go,N,hN,step⟩
 · refine X3 hp (thn (T.done X rfl rfl rfl hc i pins s3 B8 H3 X.xe I3 (AS Oj) Oi stop) fun r s4 ⟨hr,I4⟩=>?_);subst hr;exact ZX ⟨B8,H3,I4,qn⟩
 · refine X3 hp (thn (T.item X rfl rfl rfl hc i pins s3 B8 H3 X.xe I3 (AS Oj) Oi go) fun r s4 ⟨u,hr,h4⟩=>?_);subst hr;refine X3 hp (thn h4 fun _ s5 ⟨x,H5,I5,r5,y5,F5,J2⟩=>?_);have Ql:=I5.pinned (AS J2) (T.obj _ _ F5);refine X3 hp (thn (hg _ s5 B8 H5 x u _ Ql r5 (step x H5 y5)) fun _ s6 ⟨Qm,H6,I6,q6⟩=>?_);refine X3 hp (thn (hb _ s6 Qm H6 _ I6 q6) fun f s7 q7=>?_)
   have again:∀ {B9:St} {H7:Hp},Inv X (pins++ll fp s5.heap) B9 H7 s7->N B9 H7->∃ m,m<n/\∃ i xT H',Inv X pins xT H' s7/\tn i s7.heap/\(∀ b∈fp,H' b=none)/\W i m xT H':=fun {B9 H7} I7 n7=>by
    obtain ⟨m',hm,w7⟩:=hN B9 H7 n7;refine ⟨m',hm,i+1,B9,H7,I7.unpinned,T.keep _ _ _ F5 fun b hb o e=>(I7.pin (b,o) (VI _ (VI _ (fz hb e)))).1,fun b hb=>?_,w7⟩;obtain ⟨o,e,d⟩:=T.obj _ _ F5 b hb;exact (I7.pin (b,o) (VI _ (VI _ (fz hb e)))).2.1
   cases f with
   | next=>obtain ⟨B9,H7,I7,n7⟩:=q7;exact again I7 n7
   | cont=>obtain ⟨B9,H7,I7,n7⟩:=q7;exact again I7 n7
   | brk=>obtain ⟨B9,H7,I7,q7⟩:=q7;exact ⟨B9,H7,I7.unpinned,q7⟩
   | ret v=>obtain ⟨x7,B9,H7,I7,r7,q7⟩:=q7;exact ⟨x7,B9,H7,I7.unpinned,r7,q7⟩
end
theorem cY {K:UO} {a:UQ} {xs:List V} {g:TG} {tb:TS} {D:Ends} {σ:St} {H:Hp} (Pv:Nat->St->Hp->Prop) (h0:Pv 0 σ H) (hl:∀ i σ H,i<=xs.length->Pv i σ H->SqL K H a xs)
 (hs:∀ i x σ H,xs[i]?=some x->Pv i σ H->g x σ H fun ym H2=>tb { D with nx:=Pv (i+1),ct:=Pv (i+1),bk:=D.nx } ym H2) (hd:∀ σ H,Pv xs.length σ H->D.nx σ H) :
 ∃ W:Nat->Nat->St->Hp->Prop,(∃ m,W 0 m σ H)/\∀ i m σ H,W i m σ H →
   ((Itl K a).stop i H/\D.nx σ H)∨((Itl K a).go i H/\∃ N:St->Hp->Prop,(∀ xT H',N xT H'->∃ m',m'<m/\W (i+1) m' xT H')/\∀ x H',(Itl K a).yld i H x H'->g x σ H' fun ym H2=>tb { D with nx:=N,ct:=N,bk:=D.nx } ym H2):=by
 refine ⟨fun i m σ H=>m=xs.length - i/\i<=xs.length/\Pv i σ H,⟨xs.length,by simp,Vn _,h0⟩,?_⟩;rintro i m σ H ⟨rfl,hi,p⟩;have q:=hl i σ H hi p;by_cases ye:i<xs.length
 · refine .inr ⟨⟨xs,xs[i],q,by simp [ye]⟩,Pv (i+1),fun xT H' p'=>⟨xs.length - (i+1),by omega,rfl,ye,p'⟩,fun x H' y=>?_⟩;obtain ⟨e,y⟩:=y;subst e;exact hs i x σ _ (y xs q) p
 · have e:i=xs.length:=by omega
   subst e;exact .inl ⟨⟨xs,q,UR _⟩,hd σ H p⟩
theorem bB {lo:Int} {n:Nat} {g:TG} {tb:TS} {D:Ends} {σ:St} {H:Hp} (Pv:Nat->St->Hp->Prop) (h0:Pv 0 σ H)
 (hs:∀ i σ H,i<n->Pv i σ H->g (.int (lo+i)) σ H fun ym H2=>tb { D with nx:=Pv (i+1),ct:=Pv (i+1),bk:=D.nx } ym H2) (hd:∀ σ H,Pv n σ H->D.nx σ H) :
 ∃ W:Nat->Nat->St->Hp->Prop,(∃ m,W 0 m σ H)/\∀ i m σ H,W i m σ H →
   ((Itr lo n).stop i H/\D.nx σ H)∨((Itr lo n).go i H/\∃ N:St->Hp->Prop,(∀ xT H',N xT H'->∃ m',m'<m/\W (i+1) m' xT H')/\∀ x H',(Itr lo n).yld i H x H'->g x σ H' fun ym H2=>tb { D with nx:=N,ct:=N,bk:=D.nx } ym H2):=by
 refine ⟨fun i m σ H=>m=n - i/\i<=n/\Pv i σ H,⟨n,by simp,Vn _,h0⟩,?_⟩;rintro i m σ H ⟨rfl,hi,p⟩;by_cases ye:i<n
 · refine .inr ⟨ye,Pv (i+1),fun xT H' p'=>⟨n - (i+1),by omega,rfl,ye,p'⟩,fun x H' y=>?_⟩;obtain ⟨e,y⟩:=y;subst e y;exact hs i σ _ ye p
 · have e:i=n:=by omega
   subst e;exact .inl ⟨UR _,hd σ H p⟩
end L2
namespace L2
open PySem PySem.Spec PyProof.Rows
abbrev R2:=V->V->Hp->VK->Prop
def OpR (X:Cx) (f:UT->UT->Sem UT) (r:R2):Prop :=
 ∀ (pins:List (UQ×W0)) (s:UY) (σ:St) (H:Hp) (x y:V) (v u:UT) (Q:VK),Inv X pins σ H s->RelV x v->RelV y u->r x y H Q →
   Va (Vw X.prog X.w) X.A (f v u) (EP X pins σ Q) X.xe s
def UnR (X:Cx) (f:UT->Sem UT) (r:V->Hp->VK->Prop):Prop :=
 ∀ (pins:List (UQ×W0)) (s:UY) (σ:St) (H:Hp) (x:V) (v:UT) (Q:VK),Inv X pins σ H s->RelV x v->r x H Q →
   Va (Vw X.prog X.w) X.A (f v) (EP X pins σ Q) X.xe s
def fJ (X:Cx) (f:UT) (r:List V->Hp->VK->Prop):Prop :=
 ∀ (pins:List (UQ×W0)) (s:UY) (σ:St) (H:Hp) (xs:List V) (us:List UT) (Q:VK),Inv X pins σ H s->Vals xs us->r xs H Q →
   Va (Vw X.prog X.w) X.A (call f us) (EP X pins σ Q) X.xe s
def xQ (X:Cx) (r:V->Hp->(Bool->Hp->Prop)->Prop):Prop :=
 ∀ (pins:List (UQ×W0)) (s:UY) (σ:St) (H:Hp) (x:V) (v:UT) (Q:Bool->Hp->Prop),Inv X pins σ H s->RelV x v->r x H Q →
   Va (Vw X.prog X.w) X.A (truthy v) (TP X pins σ Q) X.xe s
def tOp (r:R2) (ta tb:TE):TE:=fun σ H Q=>ta σ H fun x H1=>tb σ H1 fun y H2=>r x y H2 Q
def tUn (r:V->Hp->VK->Prop) (ta:TE):TE:=fun σ H Q=>ta σ H fun x H1=>r x H1 Q
inductive IrI (C:Int->Int->Prop) (g:Int->Int->V) (x:V) (y:V) (H:Hp) (Q:VK):Prop
 | mk (i:_) (j:_) (yf:x=.int i) (yg:y=.int j) (yl:C i j) (yx:Q (g i j) H):IrI C g x y H Q
def rI (C:Int->Int->Prop) (g:Int->Int->V):R2:=IrI C g
inductive wR (g:Int->Int->V) (x:V) (y:V) (H:Hp) (Q:VK):Prop
 | mk (i:_) (j:_) (yf:x=.int i) (yg:y=.int j) (yl:Q (g i j) H):wR g x y H Q
def rI0 (g:Int->Int->V):R2:=wR g
inductive IrU (g:Int->V) (x:V) (H:Hp) (Q:VK):Prop
 | mk (i:_) (yf:x=.int i) (yg:Q (g i) H):IrU g x H Q
def rU (g:Int->V):V->Hp->VK->Prop:=IrU g
section
variable {X:Cx} {a b c:V4} {ta tb tc:TE} {pos:YJ}
theorem vP (ha:PE X a ta) (hb:PE X b tb) {pins:List (UQ×W0)} {s:UY} {σ:St} {H:Hp} {R:V->V->Hp->Prop} (I:Inv X pins σ H s)
 (h:ta σ H fun x H1=>tb σ H1 fun y H2=>R x y H2) {Q:UT->UY->Prop} {f:UT->UT->Sem UT}
 (hf:∀ v u s2 x y H2,Inv X pins σ H2 s2->RelV x v->RelV y u->R x y H2->Va (Vw X.prog X.w) X.A (f v u) Q X.xe s2) :
 Va (Vw X.prog X.w) X.A (Xf a X.env) (fun v xU=>Va (Vw X.prog X.w) X.A (Xf b X.env) (fun u yB=>Va (Vw X.prog X.w) X.A (f v u) Q X.xe yB) X.xe xU) X.xe s:=by
 refine thn (ha pins s σ H _ I h) fun v s1 ⟨x,H1,I1,r1,q1⟩=>?_;refine thn (hb pins s1 σ H1 _ I1 q1) fun u s2 ⟨y,H2,I2,r2,q2⟩=>?_;exact hf v u s2 x y H2 I2 r1 r2 q2
theorem aw {op:Operator} {r:R2} (ho:OpR X (YA op) r) (ha:PE X a ta) (hb:PE X b tb):PE X (.BinOp a op b pos) (tOp r ta tb):=by
 intro pins s σ H Q I h;exact wpAny_BinOp (vP ha hb I h fun v u s2 x y H2 I2 rx ry q=>ho pins s2 σ H2 x y v u Q I2 rx ry q)
theorem wY {op:UnaryOp} {r:V->Hp->VK->Prop} (ho:UnR X (unaryOp op) r) (ha:PE X a ta):PE X (.UnaryOp op a pos) (tUn r ta):=by
 intro pins s σ H Q I h;exact UnaryOp_ (thn (ha pins s σ H _ I h) fun v s1 ⟨x,H1,I1,r1,q1⟩=>ho pins s1 σ H1 x v Q I1 r1 q1)
theorem opI {f:UT->UT->Sem UT} {C:Int->Int->Prop} {g:Int->Int->Int}
 (rule:∀ (i j:Int) (t u:Tok) (s:UY) (Q:UT->UY->Prop) (E:UT->UY->Prop),C i j->Q (.int (g i j) s.toks) { s with toks:=s.toks+1 }->Va (Vw X.prog X.w) X.A (f (.int i t) (.int j u)) Q E s) :
 OpR X f (rI C fun i j=>.int (g i j)):=by
 intro pins s σ H x y v u Q I rx ry h;obtain ⟨i,j,rfl,rfl,hc,q⟩:=h;obtain ⟨t,rfl⟩:=rx;obtain ⟨t',rfl⟩:=ry;exact rule i j t t' s _ _ hc ⟨.int (g i j),H,I.tok _,⟨_,rfl⟩,q⟩
theorem wF {f:UT->UT->Sem UT} {g:Int->Int->Int}
 (rule:∀ (i j:Int) (t u:Tok) (s:UY) (Q:UT->UY->Prop) (E:UT->UY->Prop),Q (.int (g i j) s.toks) { s with toks:=s.toks+1 }->Va (Vw X.prog X.w) X.A (f (.int i t) (.int j u)) Q E s) :
 OpR X f (rI0 fun i j=>.int (g i j)):=by
 intro pins s σ H x y v u Q I rx ry h;obtain ⟨i,j,rfl,rfl,q⟩:=h;obtain ⟨t,rfl⟩:=rx;obtain ⟨t',rfl⟩:=ry;exact rule i j t t' s _ _ ⟨.int (g i j),H,I.tok _,⟨_,rfl⟩,q⟩
theorem vN {f:UT->UT->Sem UT} {g:Int->Int->Bool}
 (rule:∀ (i j:Int) (t u:Tok) (s:UY) (Q:UT->UY->Prop) (E:UT->UY->Prop),Q (.bool (g i j)) s->Va (Vw X.prog X.w) X.A (f (.int i t) (.int j u)) Q E s) :
 OpR X f (rI0 fun i j=>.bl (g i j)):=by
 intro pins s σ H x y v u Q I rx ry h;obtain ⟨i,j,rfl,rfl,q⟩:=h;obtain ⟨t,rfl⟩:=rx;obtain ⟨t',rfl⟩:=ry;exact rule i j t t' s _ _ ⟨.bl (g i j),H,I,rfl,q⟩
def xm (i j:Int):Prop:=0<j/\j<1073741824
def xo (i j:Int):Prop:=0<=j/\j<=1000000/\i.natAbs<2 ^ 64
def CMul (i j:Int):Prop:=(-(2 ^ 64)<i/\i<2 ^ 64)∨(-(2 ^ 64)<j/\j<2 ^ 64)
theorem CMul.ok {i j:Int} (h:CMul i j):IntMulOk i j:=by
 rcases h with ⟨h1,h2⟩ | ⟨h1,h2⟩
 · exact .of_left (intBits_le_64 h1 h2)
 · exact .of_right (intBits_le_64 h1 h2)
theorem bF:OpR X (YA .Add) (rI0 fun i j=>.int (i+j)):=wF fun _ _ _ _ _ _ _ q=>add_int q
theorem eV:OpR X (YA .Sub) (rI0 fun i j=>.int (i - j)):=wF fun _ _ _ _ _ _ _ q=>sub_int q
theorem cJ:OpR X (YA .Mult) (rI CMul fun i j=>.int (i * j)):=opI fun _ _ _ _ _ _ _ hc q=>mul_int q hc.ok
theorem bR:OpR X (YA .FloorDiv) (rI xm fun i j=>.int (i / j)):=opI fun i j _ _ _ _ _ hc q=>by
 have h1:(0:Int)<j:=hc.1;have h2:j<1073741824:=hc.2;exact floordiv_int (by omega) (by rw [Int.fdiv_eq_ediv_of_nonneg i (by omega)];exact q) (.inl (PyProof.noPylong_small (by omega)))
theorem bz:OpR X (YA .Mod) (rI (fun _ j=>0<j) fun i j=>.int (i%j)):=opI fun i j _ _ _ _ _ hc q=>by
 have h1:(0:Int)<j:=hc;exact mod_int' (by omega) (by rw [Int.fmod_eq_emod_of_nonneg i (by omega)];exact q)
theorem qh:OpR X (YA .Pow) (rI xo fun i j=>.int (i ^ j.toNat)):=opI fun _ _ _ _ _ _ _ hc q=>pow_int_small hc.1 hc.2.1 hc.2.2 q
theorem unI {f:UT->Sem UT} {g:Int->Int}
 (rule:∀ (i:Int) (t:Tok) (s:UY) (Q:UT->UY->Prop) (E:UT->UY->Prop),Q (.int (g i) s.toks) { s with toks:=s.toks+1 }->Va (Vw X.prog X.w) X.A (f (.int i t)) Q E s) :
 UnR X f (rU fun i=>.int (g i)):=by
 intro pins s σ H x v Q I rx h;obtain ⟨i,rfl,q⟩:=h;obtain ⟨t,rfl⟩:=rx;exact rule i t s _ _ ⟨.int (g i),H,I.tok _,⟨_,rfl⟩,q⟩
theorem wn:UnR X (unaryOp .USub) (rU fun i=>.int (-i)):=unI fun _ _ _ _ _ q=>neg_int q
end
def wJ:V->V->Bool
 | .non,.non=>true | .non,.int _=>true | .int _,.non=>true | .non,.bl _=>true | .bl _,.non=>true | .non,.str _=>true | .str _,.non=>true
 | .int _,.int _=>true | .bl _,.bl _=>true | .str _,.str _=>true | .byt _,.byt _=>true
 | .int _,.str _=>true | .str _,.int _=>true | .bl _,.str _=>true | .str _,.bl _=>true
 | _,_=>false
inductive wX (x:V) (y:V) (H:Hp) (Q:VK):Prop
 | mk  (yf:wJ x y=true) (yg:Q (.bl (decide (x=y))) H):wX  x y H Q
def rEq:R2:=wX
inductive wz (x:V) (y:V) (H:Hp) (Q:VK):Prop
 | mk  (yf:wJ x y=true) (yg:Q (.bl (!decide (x=y))) H):wz  x y H Q
def rNe:R2:=wz
theorem qT {i j:Int}:decide (V.int i=V.int j)=(i == j):=by
 rw [Yx];simp
theorem tI {i j:Bool}:decide (V.bl i=V.bl j)=(i == j):=by
 rw [Yx];simp
theorem qN {i j:Vm}:decide (V.str i=V.str j)=(i == j):=by
 rw [Yx];simp
theorem qv {i j:Array UInt8}:decide (V.byt i=V.byt j)=(i.toList == j.toList):=by
 rw [Yx];cases i;cases j;simp
section
variable {X:Cx} {a b c:V4} {ta tb tc:TE} {pos:YJ}
theorem aZ {pins:List (UQ×W0)} {σ:St} {H:Hp} {s:UY} {Q:VK} {k k':Bool} (I:Inv X pins σ H s) (q:Q (.bl k) H) (e:k=k'):EP X pins σ Q (.bool k') s:=by
 subst e;exact ⟨.bl k,H,I,rfl,q⟩
theorem cZ:OpR X (X8 .Eq) rEq:=by
 intro pins s σ H x y v u Q I rx ry h;obtain ⟨hs,q⟩:=h;cases x with
 | non =>
   cases rx;cases y with
   | non=>cases ry;exact PySem.EqNone.eq_none_none (aZ I q (by simp))
   | bl j=>cases ry;exact PySem.EqNone.eq_none_bool (aZ I q (by simp))
   | int j=>obtain ⟨t',rfl⟩:=ry;exact PySem.EqNone.eq_none_int (aZ I q (by simp))
   | str j=>obtain ⟨t',rfl⟩:=ry;exact PySem.EqNone.eq_none_str (aZ I q (by simp))
   | _=>exact absurd (show false=true from hs) Ve
 | bl i =>
   cases rx;cases y with
   | non=>cases ry;exact PySem.EqNone.eq_bool_none (aZ I q (by simp))
   | bl j=>cases ry;exact eq_bool (aZ I q tI)
   | str j=>obtain ⟨t',rfl⟩:=ry;exact PySem.EqMixed.eq_bool_str (aZ I q (by simp))
   | _=>exact absurd (show false=true from hs) Ve
 | int i =>
   obtain ⟨t,rfl⟩:=rx;cases y with
   | non=>cases ry;exact PySem.EqNone.eq_int_none (aZ I q (by simp))
   | int j=>obtain ⟨t',rfl⟩:=ry;exact eq_int (aZ I q qT)
   | str j=>obtain ⟨t',rfl⟩:=ry;exact PySem.EqMixed.eq_int_str (aZ I q (by simp))
   | _=>exact absurd (show false=true from hs) Ve
 | str i =>
   obtain ⟨t,rfl⟩:=rx;cases y with
   | non=>cases ry;exact PySem.EqNone.eq_str_none (aZ I q (by simp))
   | bl j=>cases ry;exact PySem.EqMixed.eq_str_bool (aZ I q (by simp))
   | int j=>obtain ⟨t',rfl⟩:=ry;exact PySem.EqMixed.eq_str_int (aZ I q (by simp))
   | str j=>obtain ⟨t',rfl⟩:=ry;exact eq_str (aZ I q qN)
   | _=>exact absurd (show false=true from hs) Ve
 | byt i =>
   obtain ⟨t,rfl⟩:=rx;cases y with
   | byt j=>obtain ⟨t',rfl⟩:=ry;exact PySem.W.eq_bytes (aZ I q qv)
   | _=>exact absurd (show false=true from hs) Ve
 | _=>cases y <;> exact absurd (show false=true from hs) Ve
theorem rf:OpR X (X8 .NotEq) rNe:=by
 intro pins s σ H x y v u Q I rx ry h;obtain ⟨hs,q⟩:=h;cases x with
 | non =>
   cases rx;cases y with
   | non=>cases ry;exact PySem.EqNone.ne_none_none (aZ I q (by simp))
   | bl j=>cases ry;exact PySem.EqNone.ne_none_bool (aZ I q (by simp))
   | int j=>obtain ⟨t',rfl⟩:=ry;exact PySem.EqNone.ne_none_int (aZ I q (by simp))
   | str j=>obtain ⟨t',rfl⟩:=ry;exact PySem.EqNone.ne_none_str (aZ I q (by simp))
   | _=>exact absurd (show false=true from hs) Ve
 | bl i =>
   cases rx;cases y with
   | non=>cases ry;exact PySem.EqNone.ne_bool_none (aZ I q (by simp))
   | bl j=>cases ry;exact ne_bool (aZ I q (congrArg not tI))
   | str j=>obtain ⟨t',rfl⟩:=ry;exact PySem.EqMixed.ne_bool_str (aZ I q (by simp))
   | _=>exact absurd (show false=true from hs) Ve
 | int i =>
   obtain ⟨t,rfl⟩:=rx;cases y with
   | non=>cases ry;exact PySem.EqNone.ne_int_none (aZ I q (by simp))
   | int j=>obtain ⟨t',rfl⟩:=ry;exact ne_int (aZ I q (congrArg not qT))
   | str j=>obtain ⟨t',rfl⟩:=ry;exact PySem.EqMixed.ne_int_str (aZ I q (by simp))
   | _=>exact absurd (show false=true from hs) Ve
 | str i =>
   obtain ⟨t,rfl⟩:=rx;cases y with
   | non=>cases ry;exact PySem.EqNone.ne_str_none (aZ I q (by simp))
   | bl j=>cases ry;exact PySem.EqMixed.ne_str_bool (aZ I q (by simp))
   | int j=>obtain ⟨t',rfl⟩:=ry;exact PySem.EqMixed.ne_str_int (aZ I q (by simp))
   | str j=>obtain ⟨t',rfl⟩:=ry;exact ne_str (aZ I q (congrArg not qN))
   | _=>exact absurd (show false=true from hs) Ve
 | byt i =>
   obtain ⟨t,rfl⟩:=rx;cases y with
   | byt j=>obtain ⟨t',rfl⟩:=ry;exact PySem.W.ne_bytes (aZ I q (congrArg not qv))
   | _=>exact absurd (show false=true from hs) Ve
 | _=>cases y <;> exact absurd (show false=true from hs) Ve
theorem mx:OpR X (X8 .Lt) (rI0 fun i j=>.bl (decide (i<j))):=vN fun _ _ _ _ _ _ _ q=>lt_int q
theorem vg:OpR X (X8 .LtE) (rI0 fun i j=>.bl (decide (i<=j))):=vN fun _ _ _ _ _ _ _ q=>le_int q
theorem rh:OpR X (X8 .Gt) (rI0 fun i j=>.bl (decide (j<i))):=vN fun _ _ _ _ _ _ _ q=>gt_int q
theorem aS (b:V4) {op:CmpOp} (h:op≠.In:=by decide) (h2:op≠.NotIn:=by decide):ZH op b=false:=by
 have e1:(op == CmpOp.In)=false:=by cases op <;> first | rfl | exact absurd rfl h
 have e2:(op == CmpOp.NotIn)=false:=by cases op <;> first | rfl | exact absurd rfl h2
 cases b <;> simp [ZH,e1,e2]
theorem eZ {op:CmpOp} {r:R2} (ho:OpR X (X8 op) r) (ha:PE X a ta) (hb:PE X b tb) (hm:ZH op b=false):PE X (.Compare a [op] [b] pos) (tOp r ta tb):=by
 intro pins s σ H Q I h;exact wpAny_Compare1 (vP ha hb I h fun v u s2 x y H2 I2 rx ry q=>ho pins s2 σ H2 x y v u Q I2 rx ry q) hm
inductive u8 (x:V) (Q:Bool->Hp->Prop) (H':Hp):Prop
 | mk (k:Bool) (yf:x=.bl k) (yg:Q k H'):u8 x Q H'
def k9 (t:TE):TT:=fun σ H Q=>t σ H fun x H'=>u8 x Q H'
theorem aP {op:CmpOp} {r:R2} (ho:OpR X (X8 op) r) (ha:PE X a ta) (hb:PE X b tb) (hm:ZH op b=false):PT X (.Compare a [op] [b] pos) (k9 (tOp r ta tb)):=by
 intro pins s σ H Q I h
 refine wpAny_isTrue_Compare1 (thn (ha pins s σ H _ I h) fun v s1 ⟨x,H1,I1,r1,q1⟩=>thn (hb pins s1 σ H1 _ I1 q1) fun u s2 ⟨y,H2,I2,r2,q2⟩ =>
  thn (ho pins s2 σ H2 x y v u _ I2 r1 r2 q2) fun c s3 ⟨z,H3,I3,r3,k,e,q3⟩=>?_) hm
 subst e;cases r3;exact Yg ⟨H3,I3,q3⟩
def uR (K:UO) (x:V) (H:Hp) (k:Bool):Prop :=
 match x with
 | .non=>k=false
 | .bl b=>k=b
 | .int i=>k=(i != 0)
 | .str y=>y.length<=Vb/\k=((y.length:Int) != 0)
 | .byt y=>y.size<=Vb/\k=((y.size:Int) != 0)
 | .ref p=>(∃ xs,SqL K H p xs/\k=!xs.isEmpty)∨(∃ xs,SqT K H p xs/\k=!xs.isEmpty)∨∃ f',H p=some (.dK f')/\k=!f'.isEmpty
 | _=>False
theorem qa {κ:Type} {f':List (κ×V)} {vs:List (κ×UT)} (r:KV f' vs):(!vs.isEmpty)=!f'.isEmpty:=by
 cases r <;> rfl
theorem kj {xs:List V} {its:List UT} (r:Vals xs its):(!its.toArray.isEmpty)=!xs.isEmpty:=by
 cases r <;> simp
theorem fe:(Vb:Nat)<2 ^ 63:=by rw [YH];decide
theorem vT:xQ X (fun x H Q=>∃ k,uR X.K x H k/\Q k H):=by
 intro pins s σ H x v Q I rx h;obtain ⟨k,e,q⟩:=h;have hl:=fe;have hs:Vb=16777216:=YH;cases x with
 | non =>
   cases rx;have e':k=false:=e;subst e';exact truthy_none ⟨H,I,q⟩
 | bl b =>
   cases rx;have e':k=b:=e;subst e';exact Yg ⟨H,I,q⟩
 | int i =>
   obtain ⟨t,rfl⟩:=rx;have e':k=(i != 0):=e;subst e';exact PySem.P.truthy_int ⟨H,I,q⟩
 | str y =>
   obtain ⟨t,rfl⟩:=rx;obtain ⟨hy,e'⟩:y.length<=Vb/\k=((y.length:Int) != 0):=e;subst e';exact PySem.P.truthy_str (by omega) ⟨H,I.tok _,q⟩
 | byt y =>
   obtain ⟨t,rfl⟩:=rx;obtain ⟨hy,e'⟩:y.size<=Vb/\k=((y.size:Int) != 0):=e;subst e';exact PySem.W.truthy_bytes (by omega) ⟨H,I.tok _,q⟩
 | ref p =>
   cases rx;have e':(∃ xs,SqL X.K H p xs/\k=!xs.isEmpty)∨(∃ xs,SqT X.K H p xs/\k=!xs.isEmpty)∨∃ f',H p=some (.dK f')/\k=!f'.isEmpty:=e;rcases e' with ⟨xs,hx,e'⟩ | ⟨xs,hx,e'⟩ | ⟨f',hx,e'⟩
   · subst e';obtain ⟨its,r,pl,hz⟩:=I.list hx;have hlen:=r.length;exact wpAny_truthy_list pl.isList (by simp only [U0];omega) ⟨H,I.tok _,by rw [kj r];exact q⟩
   · subst e';obtain ⟨its,r,pl,hz⟩:=I.tuple hx;have hlen:=r.length;exact truthy_tuple pl (by simp only [U0];omega) ⟨H,I.tok _,by rw [kj r];exact q⟩
   · subst e';obtain ⟨hz,hS,vs,r,m⟩:f'.length<=Vb/\(p == WJ)=false/\∃ vs,KV f' vs/\s.heap.DictOf (aE X.prog X.w) p vs:=I.hok p _ hx;have hlen:f'.length=vs.length:=U2 r;exact wpAny_truthy_dict hS m (by omega) ⟨H,I.tok _,by rw [qa r];exact q⟩
 | _=>exact (show False from e).elim
theorem bJ (ha:PE X a ta) (he:∀ whole,isTrue a X.env whole=(do let v ← whole;standAt a.pos;holding [v] (truthy v))) :
 PT X a (fun σ H Q=>ta σ H fun x H'=>∃ k,uR X.K x H' k/\Q k H'):=by
 intro pins s σ H Q I h;exact isTrue_plain (thn (ha pins s σ H _ I h) fun v s1 ⟨x,H1,I1,r1,q1⟩=>vT pins s1 σ H1 x v Q I1 r1 q1) (he _)
theorem iB:OpR X (YA .Add) (fun x y H Q=>∃ i j,x=.str i/\y=.str j/\i.length+j.length<=Vb/\Q (.str (i++j)) H):=by
 intro pins s σ H x y v u Q I rx ry h;obtain ⟨i,j,rfl,rfl,hz,q⟩:=h;obtain ⟨t,rfl⟩:=rx;obtain ⟨t',rfl⟩:=ry;exact add_str (fun t' tk=>⟨.str (i++j),H,I.tok _,⟨_,rfl⟩,q⟩) hz
theorem vals1 {x:V} {us:List UT} (r:Vals [x] us):∃ u,us=[u]/\RelV x u:=by
 cases r with
 | cons r1 r2=>cases r2;exact ⟨_,rfl,r1⟩
theorem vals2 {x y:V} {us:List UT} (r:Vals [x,y] us):∃ u w',us=[u,w']/\RelV x u/\RelV y w':=by
 cases r with
 | cons r1 r2 =>
   cases r2 with
   | cons r3 r4=>cases r4;exact ⟨_,_,rfl,r1,r3⟩
theorem rG (hc:X.calm=true):fJ X (.builtin "min") (fun xs H Q=>∃ i j,xs=[.int i,.int j]/\Q (.int (if j<i then j else i)) H):=by
 intro pins s σ H xs us Q I r h;obtain ⟨i,j,rfl,q⟩:=h;obtain ⟨u,w',rfl,⟨t,rfl⟩,⟨t',rfl⟩⟩:=vals2 r;refine min_two_ints (I.ok.hd hc) fun h' tk k=>⟨_,H,I.kept k,?_,q⟩;by_cases hj:j<i
 · rw [if_pos hj,if_pos hj];exact ⟨_,rfl⟩
 · rw [if_neg hj,if_neg hj];exact ⟨_,rfl⟩
end
end L2
namespace L2
open PySem PySem.Spec PyProof.Rows
structure ObjM (h:V9) (x dx C:UQ) (mA:Vm->Option UT):Prop where
 obj:h.get? x=some (PySem.W.instObj C dx)
 ns:h.Ns1 dx mA
 ne:dx≠x
theorem sE {h:V9} {dx:UQ} {mA:Vm->Option UT} (n:h.Ns1 dx mA):∃ od,h.get? dx=some od/\∀ name,PySem.W.lookIn name od=some (mA name):=by
 obtain ⟨o,es,ep,ho,hd,hk,_,hm⟩:=n;refine ⟨o,ho,fun name=>?_⟩;have e:=hm name;unfold nsFind findBy at e;rw [<- Array.find?_toList] at e;unfold PySem.W.lookIn;rw [hd];dsimp only;split
 · rename_i y q
   rw [q] at e;exact congrArg some e
 · rename_i q
   rw [q] at e
   have a:es.toList.any (·.refKey)=false:=by
    rw [List.any_eq_false];intro y hy;obtain ⟨z,t,zI⟩:=hk y (Array.mem_toList_iff.mp hy);simp [DictEntry.refKey,zI]
   have a':¬ es.toList.any (·.refKey)=true:=by rw [a];exact Ve
   rw [if_neg a'];exact congrArg some e
theorem ObjM.look {h:V9} {x dx C:UQ} {mA:Vm->Option UT} (I:ObjM h x dx C mA):∃ od,PySem.W.InstAt h x (PySem.W.instObj C dx) C (some od)/\∀ name,PySem.W.lookIn name od=some (mA name) :=
 let ⟨od,ho,hl⟩:=sE I.ns
 ⟨od,⟨I.obj,rfl,rfl,ho⟩,hl⟩
section
variable {prog:U6} {w:Vj} {A:VF} {E:UT->UY->Prop} {s:UY} {K:UO} {x dx C f:UQ} {mA:Vm->Option UT} {name:Vm} {v:UT}
end
theorem RelO.some_of {v:V} {o:Option UT} (r:RelO (some v) o):∃ u,o=some u/\RelV v u:=by
 cases o with
 | none=>exact (show False from r).elim
 | some u=>exact ⟨u,rfl,r⟩
section
variable {P:U6} {w:Vj} {H H':Hp} {h h':V9} {a C dx:UQ} {fs Qh:List (Vm×V)}
theorem uP (hok:HOk P w H h) (e:H a=some (.ins C dx fs)):∃ mA,ObjM h a dx C mA/\(∀ f,RelO (fs.lookup f) (mA f))/\PySem.Within mA (fs.map (·.1))/\fs.length<=1000/\H dx=some (.own a):=by
 obtain ⟨d,z,ne,ob,mA,n,r,q⟩:=(show ObjOk P w H h a (.ins C dx fs) from hok a _ e);exact ⟨mA,⟨ob,n,ne⟩,r,q,z,d⟩
end
structure Cls (K:UO) (C:UQ):Prop where
 pg:PySem.W.plainGet K C Str.empty=true
 hd:PySem.W.hasDictIn K C=true
 po:PySem.W.plainOver K C=true
 sa:PySem.W.findIn K (.ref C) "__setattr__"=some (some (.builtin "object.__setattr__"))
theorem Cls.get {K:UO} {C:UQ} (c:Cls K C) (f:Vm):PySem.W.plainGet K C f=true:=c.pg
section
variable {X:Cx} {pins:List (UQ×W0)} {σ:St} {H:Hp} {s:UY} {a C dx:UQ} {fs:List (Vm×V)} {f:Vm} {v:V} {A:VF} {E:UT->UY->Prop}
end
section
variable {X:Cx} {o e value:V4} {f:Vm} {pos pos' KP:YJ} {ta tv:TE}
end
section
variable {X:Cx} {pins:List (UQ×W0)} {σ:St} {H:Hp} {s:UY} {A:VF} {E:UT->UY->Prop} {Q:UT->UY->Prop} {c:UT} {b:Bool}
inductive iW (K:UO) (H:Hp):V->UT->Prop where
 | non:iW K H .non (.type "NoneType")
 | bl (x:Bool):iW K H (.bl x) (.type "bool")
 | int (i:Int):iW K H (.int i) (.type "int")
 | str (x:Vm):iW K H (.str x) (.type "str")
 | flt (x:UInt64):iW K H (.flt x) (.type "float")
 | lst {a:UQ} {xs:List V} (e:H a=some (.lst xs)):iW K H (.ref a) (.type "list")
 | frz {a:UQ} {o:W0} {xs:List V} (e:H a=some (.frz o (.lst xs))):iW K H (.ref a) (.type "list")
 | tup {a:UQ} {xs:List V} (e:H a=some (.tup xs)):iW K H (.ref a) (.type "tuple")
 | dK {a:UQ} {f':List (Key×V)} (e:H a=some (.dK f')):iW K H (.ref a) (.type "dict")
 | dT {a:UQ} {f':List (List Key×V)} (e:H a=some (.dT f')):iW K H (.ref a) (.type "dict")
 | ins {a C dx:UQ} {fs:List (Vm×V)} (e:H a=some (.ins C dx fs)) (cl:Cls K C) (ha:PySem.W.findIn K (.ref C) "__class__"=some (some (.builtin "object.__class__")))
  (hn:PySem.W.specialIn K (.builtin "object.__class__") "__get__"=some (some (.builtin "getset_descriptor.__get__"))) (zX:PySem.W.takesIn K (.builtin "object.__class__")=some true)
  (hm:PySem.W.mroIn K C (.type "object")=some true):iW K H (.ref a) (.ref C)
theorem sg {x:V} {u t:UT} (I:Inv X pins σ H s) (rx:RelV x u) (ty:iW X.K H x t) (e:X4 X.K t c=some b) (h:∀ tk,Q (.bool b) { s with toks:=tk }) :
 Va (Vw X.prog X.w) A (call (.builtin "isinstance") [u,c]) Q E s:=by
 cases ty with
 | non=>cases (show u=Wm from rx);exact Wz PySem.W.kitx_none I.kIn WX e (fun z=>nomatch z) h
 | bl y=>cases (show u=Value.bool y from rx);exact Wz PySem.W.kitx_bool I.kIn WX e (fun z=>nomatch z) h
 | int i=>obtain ⟨t,q⟩:=(show ∃ t,u=Value.int i t from rx);cases q;exact Wz PySem.W.kitx_int I.kIn WX e (fun z=>nomatch z) h
 | str y=>obtain ⟨t,q⟩:=(show ∃ t,u=Value.str y t from rx);cases q;exact Wz PySem.W.kitx_str I.kIn WX e (fun z=>nomatch z) h
 | flt y=>obtain ⟨t,q⟩:=(show ∃ t,u=Value.float y t from rx);cases q;exact Wz PySem.W.kitx_float I.kIn WX e (fun z=>nomatch z) h
 | @lst a xs ea =>
   cases (show u=Vv a from rx);obtain ⟨_,_,n,_,h1⟩:=(show ObjOk X.prog X.w H s.heap a (.lst xs) from I.hok a _ ea);exact Wz PySem.W.kitx_list I.kIn ⟨_,h1,rfl⟩ e (fun z=>nomatch z) h
 | @frz a ob xs ea =>
   cases (show u=Vv a from rx);obtain ⟨_,_,_,n,_,h1⟩:=(show ObjOk X.prog X.w H s.heap a (.frz ob (.lst xs)) from I.hok a _ ea);exact Wz PySem.W.kitx_list I.kIn ⟨_,h1,rfl⟩ e (fun z=>nomatch z) h
 | @tup a xs ea =>
   cases (show u=Vv a from rx);obtain ⟨_,_,_,_,h1⟩:=(show ObjOk X.prog X.w H s.heap a (.tup xs) from I.hok a _ ea);exact Wz PySem.W.kitx_tuple I.kIn ⟨_,h1,rfl⟩ e (fun z=>nomatch z) h
 | @dK a f' ea =>
   cases (show u=Vv a from rx);obtain ⟨_,_,vs,_,p⟩:=(show ObjOk X.prog X.w H s.heap a (.dK f') from I.hok a _ ea);obtain ⟨o,es,ep,h1,h2,_⟩:=p;exact Wz PySem.W.kitx_dict I.kIn ⟨o,h1,h2.1⟩ e (fun z=>nomatch z) h
 | @dT a f' ea =>
   cases (show u=Vv a from rx);obtain ⟨_,_,xs,_,o,es,ep,h1,h2,_⟩:=(show ObjOk X.prog X.w H s.heap a (.dT f') from I.hok a _ ea);exact Wz PySem.W.kitx_dict I.kIn ⟨o,h1,h2.1⟩ e (fun z=>nomatch z) h
 | @ins a C dx fs ea cl ha hn zX hm =>
   cases (show u=Vv a from rx);obtain ⟨mA,O,_⟩:=uP I.hok ea;obtain ⟨od,J,_⟩:=O.look;exact Wz (PySem.W.kitx_own (cl.get _) cl.hd ha hn zX hm) I.kIn J e (fun z=>nomatch z) h
end
end L2
namespace L2
open PySem PySem.Spec PyProof.Rows
structure Room (k:Nat) (A:VF):Prop where
 hd:A.handled=none
 dp:A.depth+3 * k+5<recursionLimit
 un:A.units+16 * k+200<Ww
theorem Room.mono {j k:Nat} {A:VF} (r:Room k A) (h:j<=k):Room j A:=⟨r.hd,by have:=r.dp;omega,by have:=r.un;omega⟩
theorem Room.deeper {k:Nat} {A:VF} (r:Room (k+1) A) (env:Env):Room k (A.deeper env) :=
 ⟨r.hd,by have:=r.dp;show A.depth+1+3 * k+5<_;omega,by have:=r.un;show A.units+3+16 * k+200<_;omega⟩
theorem Room.depth {k:Nat} {A:VF} (r:Room k A):A.depth<recursionLimit:=by have:=r.dp;omega
theorem Room.units {k:Nat} {A:VF} (r:Room k A):A.units+64<Ww:=by have:=r.un;omega
def dL:TA:=fun _ H Q=>Q [] H
def bA (ta:TE) (tr:TA):TA:=fun σ H Q=>ta σ H fun x H1=>tr σ H1 fun xs H2=>Q (x::xs) H2
section
variable {X:Cx} {e:V4} {es:List V4} {te:TE} {t:TA} {pos:YJ}
theorem ac:PA X [] dL:=fun _ _ _ _ H Q I h=>WV ⟨[],H,I,.nil,h⟩
theorem aa (ha:PE X e te) (hr:PA X es t) (hs:VR (e::es) X.env=(false,Xf e X.env)::VR es X.env:=by rfl):PA X (e::es) (bA te t):=by
 intro pos pins s σ H Q I h;rw [hs];show Va _ _ (spliced ((false,Xf e X.env)::YR pos (VR es X.env))) _ _ s;refine Wv (thn (ha pins s σ H _ I h) fun u s1 ⟨x,H1,I1,r1,q1⟩=>?_);exact thn (hr pos pins s1 σ H1 _ I1 q1) fun us s2 ⟨xs,H2,I2,r2,q2⟩=>⟨x::xs,H2,I2,.cons r1 r2,q2⟩
def lJ (t:TA):TE:=fun σ H Q=>t σ H fun xs H1=>xs.length<=Vb/\∀ p,H1 p=none->Q (.ref p) (upd H1 p (.tup xs))
def xL (t:TA):TE:=fun σ H Q=>t σ H fun xs H1=>xs.length<=Vb/\∀ p,H1 p=none->Q (.ref p) (upd H1 p (.lst xs))
theorem aI {x1} (h:PA X es t):PE X (.Tuple es x1 pos) (lJ t):=by
 intro pins s σ H Q I hq;refine wpAny_Tuple_spliced (thn (h pos pins s σ H _ I hq) fun us s1 ⟨xs,H1,I1,r,z,q⟩=>⟨by rw [<- r.length];exact z,?_⟩);have hf:H1 s1.heap.objs.size=none:=I1.hok.fresh (UR _);refine ⟨.ref s1.heap.objs.size,upd H1 s1.heap.objs.size (.tup xs),I1.laid (t':=s1.toks) (fun b u e=>UW _ e) (UR _) ?_,rfl,q _ hf⟩;exact ⟨z,us,0,r,U4 _ rfl⟩
theorem bu (h:PA X es t):PE X (.List es pos) (xL t):=by
 intro pins s σ H Q I hq;refine wpAny_List_spliced (thn (h pos pins s σ H _ I hq) fun us s1 ⟨xs,H1,I1,r,z,q⟩=>⟨by rw [<- r.length];exact z,?_⟩);have hf:H1 s1.heap.objs.size=none:=I1.hok.fresh (UR _);refine ⟨.ref s1.heap.objs.size,upd H1 s1.heap.objs.size (.lst xs),I1.laid (t':=s1.toks) (fun b u e=>UW _ e) (UR _) ?_,rfl,q _ hf⟩;exact ⟨z,us,0,r,U4 _ rfl⟩
end
abbrev Sp:=List V->Hp->VK->XK->Prop
abbrev CXT:=List Env->Hp->UY->XK->UT->UY->Prop
structure uF (P:U6) (w:Vj) (K:UO) (mg:Vm->Option UT) (base:V9) (A:VF) (outer:List Env) (s:UY) (H:Hp):Prop where
 frames:A.frames=some outer
 mod:Mod K mg base
 bs:∀ b o,base.get? b=some o->s.heap.get? b=some o/\H b=none
 bsz:base.objs.size<=s.heap.objs.size
 funs:s.heap.FunFrames base outer
 frf:∀ b∈frs outer,H b=none
 hok:HOk P w H s.heap
 bare:AllBare s.gens
def CE (outer:List Env) (P:U6) (w:Vj) (H:Hp) (s:UY) (Q:VK) (u:UT) (s':UY):Prop :=
 ∃ v H',s'.os=s.os/\AllBare s'.gens/\Un (frs outer) [] H H' s.heap s'.heap/\HOk P w H' s'.heap/\RelV v u/\Q v H'
def CR (CX:CXT) (outer:List Env) (P:U6) (w:Vj) (H:Hp) (s:UY) (Q:VK) (E:XK) (r:Result) (s':UY):Prop :=
 match r with
 | .ok (.ret u)=>CE outer P w H s Q u s'
 | .ok _=>False
 | .error e=>CX outer H s E e s'
structure bn (P:U6) (w:Vj) (K:UO) (mg:Vm->Option UT) (base:V9) (CX:CXT) (k:Nat) (f:UQ) (fd:X5) (ps:List Vm) (sp:Sp):Prop where
 len:∀ vs H Q E,sp vs H Q E->vs.length=ps.length
 run:∀ (A:VF) (outer:List Env) (s:UY) (H:Hp) (args:Args) (us:List UT) (vs:List V) (Q:VK) (E:XK),Room k A->uF P w K mg base A outer s H->BindsTo s fd args (ps.zip us)->Vals vs us->sp vs H Q E →
  YQ (Vw P w) A (.call (.ref f) args) (CR CX outer P w H s Q E) s
section
variable {X:Cx} {pins:List (UQ×W0)} {σ:St} {H:Hp} {s s':UY}
theorem Inv.env0 (I:Inv X pins σ H s):uF X.prog X.w X.K X.mg X.base X.A X.stack s H :=
 ⟨I.ok.frames,I.ok.mod,I.bs,WB I.ok.bsz I.sz,I.stack,I.stkFree,I.hok,I.bare⟩
theorem Inv.after {Q:VK} {u:UT} (I:Inv X pins σ H s) (h:CE X.stack X.prog X.w H s Q u s'):EP X pins σ Q u s':=by
 obtain ⟨v,H',os,bare,un,hok,r,q⟩:=h;obtain ⟨hh,g,d,t,Qn⟩:=s';obtain rfl:Qn=s.os:=os;exact ⟨v,H',I.call (h':=hh) (g':=g) (d':=d) (t':=t) (ch:=[]) un hok bare (fun b z=>absurd z (by simp)),r,q⟩
end
def gN (sp:Sp) (dvs:List V) (E:XK) (t:TA):TE:=fun σ H Q=>t σ H fun vs H1=>sp (vs++dvs) H1 Q E
def Binds (K:UO) (fd:X5) (ps:List Vm) (ds:List UT):Prop :=
 ∀ (s:UY) (us:List UT),K.In s.heap->(us++ds).length=ps.length->BindsTo s fd ⟨us,[]⟩ (ps.zip (us++ds))
theorem Binds.all {K:UO} {fd:X5} {ps:List Vm} (h:∀ us:List UT,us.length=ps.length->bindArgs fd ⟨us,[]⟩=pure (ps.zip us)):Binds K fd ps []:=fun s us _ hl=>by
 rw [VB] at hl ⊢;exact .of_eq (h us hl)
def Passes (CX:CXT) (X:Cx) (E:XK):Prop:=∀ (pins:List (UQ×W0)) (σ:St) (H:Hp) (s:UY) (e:UT) (s':UY),Inv X pins σ H s->CX X.stack H s E e s'->X.xe e s'
section
variable {X:Cx} {CX:CXT} {k:Nat} {f C:UQ} {fd:X5} {ps:List Vm} {sp:Sp} {dvs:List V} {ds:List UT} {E:XK} {x m:Vm} {p pos apos:YJ} {e o:V4} {es:List V4} {ta:TE} {t:TA}
theorem wk {pins:List (UQ×W0)} {σ:St} {H:Hp} {s:UY} {Q:VK} {us:List UT} {vs:List V} (F:bn X.prog X.w X.K X.mg X.base CX k f fd ps sp) (hr:Room k X.A) (hb:Binds X.K fd ps ds) (hd:Vals dvs ds) (hx:Passes CX X E)
 (I:Inv X pins σ H s) (r:Vals vs us) (h:sp (vs++dvs) H Q E):Va (Vw X.prog X.w) X.A (call (.ref f) us) (EP X pins σ Q) X.xe s:=by
 have r2:Vals (vs++dvs) (us++ds):=r.append hd;have hl:(us++ds).length=ps.length:=by rw [<- r2.length];exact F.len _ _ _ _ h
 refine wpAny_call (codeAny_mono (F.run X.A X.stack s H ⟨us,[]⟩ (us++ds) (vs++dvs) Q E hr I.env0 (hb s us I.kIn hl) r2 h) fun r s' hq=>?_);cases r with
 | error e=>exact hx pins σ H s e s' I hq
 | ok fl =>
   cases fl with
   | ret u=>exact I.after hq
   | next=>exact X6 hq
   | brk=>exact X6 hq
   | cont=>exact X6 hq
theorem fc (F:bn X.prog X.w X.K X.mg X.base CX k f fd ps sp) (hr:Room k X.A) (hg:Gl X x) (hm:X.mg x=some (.ref f)) (hk:ZK X.K (.ref f)=true) (hb:Binds X.K fd ps ds) (hd:Vals dvs ds) (hx:Passes CX X E)
 (ha:PA X (e::es) t) (EU:(x == ("__debug__":Vm))=false:=by decide) (he:VR (e::es) X.env=(false,Xf e X.env)::VR es X.env:=by rfl) (zc:(YR pos (VR es X.env)).any (·.1)=false:=by rfl) :
 PE X (.Call (.Name x p) (e::es) [] pos) (gN sp dvs E t):=by
 intro pins s σ H Q I h;refine Wu (qD I hg hm ?_ EU);refine PySem.W.callWith_K (h₀:=X.base) I.ok.mod.kin hk (thn (ha pos pins s σ H _ I h) fun us s1 ⟨vs,H1,I1,r,q⟩=>⟨I1.kIn,?_⟩) he zc;exact wk F hr hb hd hx I1 r q
end
section
variable {X:Cx} {CX:CXT} {k:Nat} {f C:UQ} {fd:X5} {ps ks:List Vm} {sp:Sp} {E:XK} {x m:Vm} {p pos apos Qo:YJ} {e o:V4} {es:List V4} {Tv:List Keyword} {te ta:TE} {t tk:TA} {nm:Option Vm}
variable {g:List UT->List UT->List UT} {gV:List V->List V->List V}
end
structure aA (N P:List Vm) (sc:YI):Prop where
 kind:sc.kind=.function
 co:sc.isCoroutine=false
 gen:sc.isGenerator=false
 nd:N.Nodup
 pre:N.take P.length=P
 par:∀ x∈P,sc.names.lookup x=some .local∨sc.names.lookup x=some .cell
 nofree:∀ y∈sc.names,y.2≠.free
theorem l5 {kindOf:Vm->Option Xo} {x:Vm}:∀ {binds:List (Vm×UT)} {m:Vm->Option UT},(∀ v,(x,v)∉binds)->bindL kindOf binds m x=m x
 | [],_,_=>rfl
 | (n,v)::r,m,h=>by
   unfold bindL;rw [l5 fun w hw=>h w (Vf _ hw)];split
   · have:x≠n:=by rintro rfl;exact h v Vk
     simp [this]
   · rfl
theorem lX {kindOf:Vm->Option Xo} {x:Vm}:∀ {binds:List (Vm×UT)} {m:Vm->Option UT},(∀ v,(x,v)∉binds)->bindC kindOf binds m x=m x
 | [],_,_=>rfl
 | (n,v)::r,m,h=>by
   unfold bindC;rw [lX fun w hw=>h w (Vf _ hw)];split
   · rfl
   · have:x≠n:=by rintro rfl;exact h v Vk
     simp [this]
theorem mD {kindOf:Vm->Option Xo} {x:Vm} {v:UT}:∀ {P:List Vm} {vs:List UT} {i:Nat} {m:Vm->Option UT},P.Nodup->P[i]?=some x->vs[i]?=some v->kindOf x=some .local →
 bindL kindOf (P.zip vs) m x=some v
 | [],_,_,_,_,h,_,_=>by simp at h
 | _::_,[],_,_,_,_,h,_=>by simp at h
 | p::P,w::vs,0,m,nd,h1,h2,hk=>by
   simp at h1 h2;subst h1;subst h2;show bindL kindOf ((p,w)::P.zip vs) m p=_;unfold bindL;rw [l5 fun v hv=>(YV.mp nd).1 (XQ hv).1,if_pos hk];simp
 | p::P,w::vs,i+1,m,nd,h1,h2,hk=>by
   show bindL kindOf ((p,w)::P.zip vs) m x=_;unfold bindL;exact mD (i:=i) (YV.mp nd).2 (by simpa using h1) (by simpa using h2) hk
theorem mn {kindOf:Vm->Option Xo} {x:Vm} {v:UT}:∀ {P:List Vm} {vs:List UT} {i:Nat} {m:Vm->Option UT},P.Nodup->P[i]?=some x->vs[i]?=some v->kindOf x≠some .local →
 bindC kindOf (P.zip vs) m x=some v
 | [],_,_,_,_,h,_,_=>by simp at h
 | _::_,[],_,_,_,_,h,_=>by simp at h
 | p::P,w::vs,0,m,nd,h1,h2,hk=>by
   simp at h1 h2;subst h1;subst h2;show bindC kindOf ((p,w)::P.zip vs) m p=_;unfold bindC;rw [lX fun v hv=>(YV.mp nd).1 (XQ hv).1,if_neg hk];simp
 | p::P,w::vs,i+1,m,nd,h1,h2,hk=>by
   show bindC kindOf ((p,w)::P.zip vs) m x=_;unfold bindC;exact mn (i:=i) (YV.mp nd).2 (by simpa using h1) (by simpa using h2) hk
def start (N:List Vm) (vs:List V):St:=vs.map some++WI (N.length - vs.length) none
def sd (CX:CXT) (P:U6) (w:Vj) (K:UO) (mg:Vm->Option UT) (base:V9) (N:List Vm) (qual:Vm) (scope:YI) (f:UQ) (cd:UT) (A:VF) (outer:List Env) (s:UY) (H:Hp) (E:XK):Cx where
 prog:=P
 w:=w
 K:=K
 mg:=mg
 base:=base
 A:=A.deeper (envOfC qual scope s.heap.objs.size f cd)
 N:=N
 s₀:=s
 H₀:=H
 env:=envOfC qual scope s.heap.objs.size f cd
 outer:=outer
 stack:=envOfC qual scope s.heap.objs.size f cd::outer
 ex:=[]
 calm:=true
 fn:=fun _=>true
 pn:=[]
 xe:=fun e s'=>Va (Vw P w) (A.deeper (envOfC qual scope s.heap.objs.size f cd)) (leaving (envOfC qual scope s.heap.objs.size f cd) e) (fun _ KQ=>CX outer H s E e KQ) (fun e' KQ=>CX outer H s E e' KQ) s'
theorem oH {sc:YI} {n:Nat} {x:Vm} (h:sc.names.lookup x=some .cell):∃ c,(cellsFrom n sc.names []).lookup x=some c:=by
 have q:=PySem.W.cellsFrom_some sc.names n [] (.inl h);exact Yq.mp q
theorem rn {CX:CXT} {P:U6} {w:Vj} {K:UO} {mg:Vm->Option UT} {base:V9} {N ps:List Vm} {qual:Vm} {scope:YI} {f:UQ} {cd:UT} {A:VF} {outer:List Env} {s s1:UY} {H:Hp} {E:XK} {us:List UT} {vs:List V}
 (S:aA N ps scope) (hd:A.handled=none) (e0:uF P w K mg base A outer s H) (hl:vs.length=ps.length) (r:Vals vs us)
 (x:InCallC s s.heap.objs.size (bindL (envOfC qual scope s.heap.objs.size f cd).kindOf (ps.zip us) fun _=>none) (cellsFrom (s.heap.objs.size+1) scope.names []) (bindC (envOfC qual scope s.heap.objs.size f cd).kindOf (ps.zip us) fun _=>none) s1) :
 Inv (sd CX P w K mg base N qual scope f cd A outer s H E) [] (start N vs) H s1:=by
 have zc:ps.length<=N.length:=by have:=congrArg Xg S.pre;rw [VE] at this;omega
 obtain ⟨h1,tk,rfl,hk⟩:=x.done;have GN:∀ b:UQ,b∉(sd CX P w K mg base N qual scope f cd A outer s H E).ex:=fun b z=>absurd (show b∈([]:List UQ) from z) (by simp)
 refine ⟨⟨e0.mod,S.kind,rfl,rfl,UR _,fun y z c h1 h2=>?_,fun y hy=>?_,fun y c _ h=>?_,fun _=>hd,Around.frames_deeper e0.frames,.inr ⟨rfl,rfl⟩,fun b z=>absurd z (GN b),e0.bs,e0.bsz,fun b _ _=>GN b,fun b z=>absurd z (GN b),e0.funs,e0.frf⟩,
  rfl,e0.bare,Un.kept hk,⟨_,x.toInCall.ns,fun i y v h1 h2 h3=>?_⟩,fun y c h=>⟨_,x.cell y c h⟩,e0.hok.fresh (UR _),fun y c h=>?_,fun p hp=>absurd (show p∈([]:List (UQ×W0)) from hp) (by simp),e0.hok.kept hk,?_⟩
 · exact name_of_addr x.apart (Yi h1) (Yi h2)
 · have hy:scope.names.lookup y=some .cell∨scope.names.lookup y=some .free:=hy;rcases hy with hy | hy
   · exact oH hy
   · exact absurd rfl (S.nofree _ (Yi hy))
 · exact Ye (x.above y c (Yi h))
 · have hi:i<vs.length:=by
    unfold start at h2;by_cases hi:i<vs.length
    · exact hi
    · rw [Xp (by simpa using hi)] at h2;rw [List.getElem?_replicate] at h2;split at h2 <;> cases h2
   have ha:vs[i]?=some v:=by
    unfold start at h2;rw [WS (by simpa using hi),UZ] at h2;cases e:vs[i]? with
    | none=>rw [e] at h2;cases h2
    | some a=>rw [e] at h2;cases h2;rfl
   obtain ⟨u,hu,rv⟩:=r.get ha
   have hp:ps[i]?=some y:=by
    rw [<- S.pre,List.getElem?_take_of_lt (by omega)];exact h1
   have Ol:ps.Nodup:=by rw [<- S.pre];exact S.nd.sublist (List.take_sublist _ _)
   refine ⟨u,rv,?_⟩;rcases S.par y (UP hp) with k | k
   · exact .inl ⟨k,mD Ol hp hu k⟩
   · obtain ⟨c,e⟩:=oH (n:=s.heap.objs.size+1) k;refine .inr ⟨.inl k,c,e,?_⟩;have q:=x.cell y c e;rw [mn Ol hp hu (by show scope.names.lookup y≠_;rw [k];decide)] at q;exact q
 · exact e0.hok.fresh (Ye (x.above y c (Yi h)))
 · unfold start;show _=N.length;rw [U8,UL,XX];omega
theorem wK {CX:CXT} {P:U6} {w:Vj} {K:UO} {mg:Vm->Option UT} {base:V9} {k:Nat} {f:UQ} {name qual:Vm} {params:Arguments} {body:List WM} {scope:YI} {dV kV doc pm yc ct oc:UT} {an od:Option UQ}
 {D3:Array (Option UT)} {N ps:List Vm} {sp:Sp} (lk:K.lookup f=some ⟨oc,od,.func (Yb name qual params body scope dV kV doc pm an yc ct),D3⟩) (B7:ZL K yc qual=true) (S:aA N ps scope)
 (len:∀ vs H Q E,sp vs H Q E->vs.length=ps.length)
 (Ca:∀ (A:VF) (outer:List Env) (s:UY) (H:Hp) (vs:List V) (Q:VK) (E:XK),Room k (A.deeper (envOfC qual scope s.heap.objs.size f yc))->sp vs H Q E →
  ∃ t,PSs (sd CX P w K mg base N qual scope f yc A outer s H E) body t/\t { nx:=fun _ H'=>Q .non H',rt:=Q } (start N vs) H) :
 bn P w K mg base CX (k+1) f (Yb name qual params body scope dV kV doc pm an yc ct) ps sp:=by
 refine ⟨len,fun A outer s H args us vs Q E hr e0 hb r D4=>?_⟩;have hl:=len _ _ _ _ D4;have KX:K.In s.heap:=e0.mod.kin.keeps fun b o e=>(e0.bs b o e).1;have lim:s.heap.NoLimit:=e0.mod.nolimit.keeps fun b o e=>(e0.bs b o e).1
 have GO:∀ y∈ps.zip us,scope.names.lookup y.1=some .local∨(scope.names.lookup y.1=some .cell/\((cellsFrom (s.heap.objs.size+1) scope.names []).lookup y.1).isSome=true):=fun ⟨n,v⟩ hy=>by
  rcases S.par n (XQ hy).1 with q | q
  · exact .inl q
  · exact .inr ⟨q,PySem.W.cellsFrom_some _ _ _ (.inl q)⟩
 refine codeAny_call_function hr.depth (KX _ _ lk) rfl S.co S.gen rfl (PySem.W.codeRec_of KX B7) (hb _ _ _ _ ?_);refine wpAny_newFunctionEnv_cells S.kind GO fun env he s1 x=>?_;subst he;refine ⟨lim.keeps x.toInCall.keep,codeAny_func ?_⟩;obtain ⟨t,ht,hq⟩:=Ca A outer s H vs Q E (hr.deeper _) D4;have I:Inv (sd CX P w K mg base N qual scope f yc A outer s H E) [] (start N vs) H s1:=rn S hr.hd e0 hl r x;refine WU (ht [] s1 (start N vs) H _ I hq) (fun fl s' hs=>?_) fun e s' hs=>hs
 have fin:∀ {xT:St} {H':Hp} {v:V} {u:UT},Inv (sd CX P w K mg base N qual scope f yc A outer s H E) [] xT H' s'->RelV v u->Q v H'->CE outer P w H s Q u s' :=
  fun {xT H' v u} J rv q=>⟨v,H',J.os,J.bare,J.base,J.hok,rv,q⟩
 cases fl with
 | ret u =>
   obtain ⟨v,xT,H',J,rv,q⟩:=hs;exact fin J rv q
 | next =>
   obtain ⟨xT,H',J,q⟩:=hs;exact fin (v:=V.non) (u:=Wm) J rfl q
 | brk =>
   obtain ⟨_,_,_,q⟩:=hs;exact X6 q
 | cont =>
   obtain ⟨_,_,_,q⟩:=hs;exact X6 q
end L2
namespace L2
open PySem PySem.Spec PyProof.Rows
section
variable {X:Cx} {x:Vm} {p pos:YJ} {e:V4} {es:List V4} {t:TA} {id T:String} {r:List V->Hp->VK->Prop}
def tCB (r:List V->Hp->VK->Prop) (t:TA):TE:=fun σ H Q=>t σ H fun vs H1=>r vs H1 Q
theorem aB (hc:fJ X (.builtin id) r) (hg:Gl X x) (hm:X.mg x=none) (hv:Zd x=some (.builtin id)) (ha:PA X (e::es) t) (hn:x≠"__name__":=by decide) (EU:(x == ("__debug__":Vm))=false:=by decide)
 (he:VR (e::es) X.env=(false,Xf e X.env)::VR es X.env:=by rfl) (zc:(YR pos (VR es X.env)).any (·.1)=false:=by rfl):PE X (.Call (.Name x p) (e::es) [] pos) (tCB r t):=by
 intro pins s σ H Q I h;refine Wu (cU I hg hm hv ?_ hn EU);exact PyProof.Rows.callWith_builtin1 (thn (ha pos pins s σ H _ I h) fun us s1 ⟨vs,H1,I1,r1,q1⟩=>hc pins s1 σ H1 vs us Q I1 r1 q1) he zc
theorem cH (hc:fJ X (.type T) r) (hg:Gl X x) (hm:X.mg x=none) (hv:Zd x=some (.type T)) (ha:PA X (e::es) t) (hn:x≠"__name__":=by decide) (EU:(x == ("__debug__":Vm))=false:=by decide)
 (he:VR (e::es) X.env=(false,Xf e X.env)::VR es X.env:=by rfl) (zc:(YR pos (VR es X.env)).any (·.1)=false:=by rfl):PE X (.Call (.Name x p) (e::es) [] pos) (tCB r t):=by
 intro pins s σ H Q I h;refine Wu (cU I hg hm hv ?_ hn EU);exact VP (thn (ha pos pins s σ H _ I h) fun us s1 ⟨vs,H1,I1,r1,q1⟩=>hc pins s1 σ H1 vs us Q I1 r1 q1) he zc
end
end L2
namespace HT
open PySem PyProof.Rows
section
open PySem.SeqAt
open PySem.AutoSeq1 (wpAny_loadPart')
open PySem.MeetsSeq PySem.MeetsSeq2 PySem.MeetsSeq3
end
section
variable {prog:U6} {w:Vj} {A:VF} {E:UT->UY->Prop} {s:UY}
theorem cat_tup {t b:UQ} {vs ws:List UT} {Q:UT->UY->Prop} (ht:IsTup s.heap t vs.toArray) (hb:IsTup s.heap b ws.toArray) (hv:vs≠[])
 (h1:ws=[]->Q (.ref t) s) (h2:ws≠[]->Q (.ref s.heap.objs.size) { s with heap:=s.heap.push { cls:=.type "tuple",data:=.seq (vs++ws).toArray } })
 (hsz:vs.length+ws.length<=Vb):Va (Vw prog w) A (YA .Add (.ref t) (.ref b)) Q E s:=by
 obtain ⟨⟨cls,dd,data,sl⟩,ho,hc,n,hd⟩:=id ht;obtain ⟨⟨GP,F6,data2,F7⟩,Dg,BU,n2,hd2⟩:=id hb;simp only at hc hd BU hd2;subst hc hd BU hd2;have e:vs.toArray++ws.toArray=(vs++ws).toArray:=by simp
 by_cases hw:ws=[]
 · exact concat_meets ⟨_,ho,rfl⟩ ⟨_,Dg,rfl⟩ noFill_tuple_add seq_tuple_add Zs Zp (Zf _ _)
    (tuple_addW1 t b vs.toArray ws.toArray n n2 dd F6 sl F7 (by simpa using hv) (by simp [hw])) ⟨ho,Dg,h1 hw⟩
 · refine concat_meets ⟨_,ho,rfl⟩ ⟨_,Dg,rfl⟩ noFill_tuple_add seq_tuple_add Zs Zp (Zf _ _)
    (tuple_addW2 t b vs.toArray ws.toArray n n2 dd F6 sl F7 (by simpa using hv) (by simpa using hw) (by rw [U0,U0];exact hsz)) ⟨ho,Dg,?_⟩
   rw [e];exact h2 hw
def sIx (n d:Nat):Option Int->Nat
 | none=>d
 | some v=>if v<0 then (v+(n:Int)).toNat else min v.toNat n
theorem sIx_none (n d:Nat):sIx n d none=d:=rfl
theorem sIx_nat (n d k:Nat):sIx n d (some (k:Int))=min k n:=by
 show (if (k:Int)<0 then ((k:Int)+(n:Int)).toNat else min (k:Int).toNat n)=min k n;rw [if_neg (by omega),VT]
theorem sIx_le (n d:Nat) (hd:d<=n) (o:Option Int):sIx n d o<=n:=by
 cases o with
 | none=>exact hd
 | some v =>
   show (if v<0 then (v+(n:Int)).toNat else min v.toNat n)<=n;by_cases hv:v<0
   · rw [if_pos hv];omega
   · rw [if_neg hv];exact Nat.min_le_right _ _
theorem clip_eq (v:Int) (n d:Nat):(if v<0 then max (v+(n:Int)) 0 else min v (n:Int))=((sIx n d (some v):Nat):Int):=by
 show (if v<0 then max (v+(n:Int)) 0 else min v (n:Int))=(((if v<0 then (v+(n:Int)).toNat else min v.toNat n):Nat):Int);by_cases hv:v<0
 · simp only [if_pos hv];omega
 · simp only [if_neg hv];omega
theorem adjust_gen (lo hi:Option Int) (n:Nat):XC lo hi 1 (n:Int)=(((sIx n 0 lo:Nat):Int),((sIx n n hi:Nat):Int)):=by
 have h1:¬ ((1:Int)<0):=by omega
 unfold XC;simp only [h1,if_false];refine Prod.ext ?_ ?_
 · cases lo with
   | none=>rfl
   | some v=>exact clip_eq v n 0
 · cases hi with
   | none=>rfl
   | some v=>exact clip_eq v n n
theorem places_gen (i j:Nat):Wt (i:Int) (j:Int) 1=j - i:=by
 unfold Wt;have h1:(1:Int) > 0:=by omega
 simp only [h1,if_true,Int.ediv_one];split <;> omega
theorem slicePart_ {v:UT} {o:Option Int} {Q:Option Int->UY->Prop} (p:ZV v o) (h:Q o s):Va (Vw prog w) A (Builtin.Slice.slicePartIndex v) Q E s:=by
 cases p with
 | none=>exact slicePart_none h
 | int i t=>exact slicePart_int h
theorem sliceApplied_gen {sl:UQ} {vl vu:UT} {lo hi:Option Int} {n:Nat} {Q:Int×Int×Nat->UY->Prop} (hs:s.heap.IsSliceOf sl vl vu .none) (pl:ZV vl lo) (pu:ZV vu hi)
 (h:Q (((sIx n 0 lo:Nat):Int),1,sIx n n hi - sIx n 0 lo) s):Va (Vw prog w) A (Yt (.ref sl) (pure (n:Int))) Q E s:=by
 obtain ⟨os,Ap,BV,Ah⟩:=id hs;unfold Yt Builtin.Slice.sliceFields;refine UM (UM (VO Ap Ah (x:=vl) rfl (UM (VO Ap Ah (x:=vu) rfl (UM (VO Ap Ah (x:=.none) rfl (UX ?_)))))));refine UM (slicePart_none ?_);show Va _ _ (if ((1:Int) == 0)=true then _ else _) _ _ s;rw [if_neg (by decide)];refine UM (slicePart_ pl (UM (slicePart_ pu (UM (UX ?_)))));show Va _ _ (match XC lo hi 1 (n:Int) with | (lo,hi)=>pure (lo,(1:Int),Wt lo hi 1)) _ _ s;rw [adjust_gen lo hi n];show Va _ _ (pure (((sIx n 0 lo:Nat):Int),(1:Int),Wt ((sIx n 0 lo:Nat):Int) ((sIx n n hi:Nat):Int) 1)) _ _ s;rw [places_gen];exact UX h
theorem pick_gen (xs:Array UT) (i k:Nat):((Vp k).filterMap fun (m:Nat)=>xs[((i:Int)+(m:Int) * 1).toNat]?).toArray=((xs.toList.drop i).take k).toArray:=by
 have e:(fun (m:Nat)=>xs[((i:Int)+(m:Int) * 1).toNat]?)=fun m=>xs[i+m]?:=by
  funext m;have:((i:Int)+(m:Int) * 1).toNat=i+m:=by omega
  rw [this]
 rw [e];have:=pick_run xs i k;rw [Z6] at this;have e2:((fun x=>xs[x]?) ∘ fun x=>i+x)=fun m=>xs[i+m]?:=rfl;rw [e2] at this;rw [this]
theorem getItem_tuple_cut {t sl:UQ} {items:Array UT} {vl vu:UT} {lo hi:Option Int} {Q:UT->UY->Prop} (ht:IsTup s.heap t items) (hs:s.heap.IsSliceOf sl vl vu .none) (pl:ZV vl lo) (pu:ZV vu hi)
 (hw:¬ (sIx items.size 0 lo=0/\sIx items.size items.size hi=items.size))
 (h:Q (.ref s.heap.objs.size) { s with heap:=s.heap.push { cls:=.type "tuple",data:=.seq ((items.toList.drop (sIx items.size 0 lo)).take (sIx items.size items.size hi - sIx items.size 0 lo)).toArray } })
 (hsz:items.size<=Vb):Va (Vw prog w) A (YN (.ref t) (.ref sl)) Q E s:=by
 have yY:sizeOk (.seq ((items.toList.drop (sIx items.size 0 lo)).take (sIx items.size items.size hi - sIx items.size 0 lo)).toArray):=by
  show ((items.toList.drop (sIx items.size 0 lo)).take (sIx items.size items.size hi - sIx items.size 0 lo)).toArray.size<=Vb;rw [U0,VE,Wa,Vz];omega
 have hj:sIx items.size items.size hi<=items.size:=sIx_le _ _ (UR _) hi;obtain ⟨os,Ap,BV,Ah⟩:=id hs;have GQ:s.TypeIs (.ref sl) "slice":=⟨os,Ap,BV⟩;unfold YN
 try with_reducible refine Wl ?_
 first | refine UM (UX ?_) | skip
 refine UM (wpAny_sequenceKey ht.typeIs (by decide) ?_)
 refine UM (VX (name:=UU "__getitem__") ht.typeIs VG
  (V2 VG ht.typeIs entry_tuple_getitem ?_ (args_tuple_getitem _ _)))
 show Va _ _ (Ys (.ref t) >>= _) _ _ s;refine UM (tupleItemsOf_ ht ?_);refine UM (Xr GQ ?_);rw [if_pos (by decide)];refine UM (sliceApplied_gen hs pl pu ?_)
 have AU:¬ ((((sIx items.size 0 lo:Nat):Int) == 0 && (1:Int) == 1 && (sIx items.size items.size hi - sIx items.size 0 lo) == items.size)=true):=by
  intro q;rw [WC,WC] at q;have q1:((sIx items.size 0 lo:Nat):Int)=0:=eq_of_beq q.1.1;have q2:sIx items.size items.size hi - sIx items.size 0 lo=items.size:=eq_of_beq q.2;exact hw ⟨by omega,by omega⟩
 show Va _ _ (if (((sIx items.size 0 lo:Nat):Int) == 0 && (1:Int) == 1 && (sIx items.size items.size hi - sIx items.size 0 lo) == items.size)=true then _ else _) _ _ s;rw [if_neg AU,pick_gen]
 first
  | exact UM (m:=Wy _) (V1 (UX ⟨_,rfl,UX h⟩) yY)
  | exact UM (m:=Wy _) (V1 (UM (UX (UX ⟨_,rfl,UX h⟩))) yY)
  | exact UM (UM (m:=Wy _) (V1 (UX (UX ⟨_,rfl,UX h⟩)) yY))
  | exact UM (UM (m:=Wy _) (V1 (UX ⟨_,rfl,UX h⟩) yY))
end
end HT
namespace L2
open PySem PySem.Spec PyProof.Rows
abbrev TO:=St->Hp->(Option Int->Hp->Prop)->Prop
def PO (X:Cx) (e:Option V4) (t:TO):Prop :=
 ∀ (pins:List (UQ×W0)) (s:UY) (σ:St) (H:Hp) (Q:Option Int->Hp->Prop),Inv X pins σ H s->t σ H Q →
   Va (Vw X.prog X.w) X.A (evalPart e X.env) (fun u s'=>∃ o H',Inv X pins σ H' s'/\ZV u o/\Q o H') X.xe s
def uL:TO:=fun _ H Q=>Q none H
inductive uZ (x:V) (Q:Option Int->Hp->Prop) (H1:Hp):Prop
 | mk (i:Int) (yf:x=.int i) (yg:Q (some i) H1):uZ x Q H1
def vc (t:TE):TO:=fun σ H Q=>t σ H fun x H1=>uZ x Q H1
section
variable {X:Cx} {e:V4} {te:TE} {lo hi:Option V4} {tl th:TO} {pos p2:YJ}
theorem b8:PO X none uL:=by
 intro pins s σ H Q I h;rw [evalPart_none];exact UX ⟨none,H,I,.none,h⟩
theorem bD (h:PE X e te):PO X (some e) (vc te):=by
 intro pins s σ H Q I hw;rw [evalPart_some];refine thn (h pins s σ H _ I hw) fun u s1 ⟨x,H1,I1,r1,q1⟩=>?_;obtain ⟨i,rfl,q⟩:=q1;obtain ⟨t,rfl⟩:=r1;exact ⟨some i,H1,I1,.int i t,q⟩
def SlR (X:Cx) (r:V->Option Int->Option Int->Hp->VK->Prop):Prop :=
 ∀ (pins:List (UQ×W0)) (s:UY) (σ:St) (H:Hp) (x:V) (v vl vu:UT) (lo hi:Option Int) (sl:UQ) (Q:VK),Inv X pins σ H s->RelV x v->s.heap.IsSliceOf sl vl vu .none->ZV vl lo->ZV vu hi->r x lo hi H Q →
   ∃ T id,Ym (.type T) "__getitem__"=pure (some (.builtin id))/\s.TypeIs v T/\Va (Vw X.prog X.w) X.A (YN v (.ref sl)) (EP X pins σ Q) X.xe s
def tSl (r:V->Option Int->Option Int->Hp->VK->Prop) (te:TE) (tl th:TO):TE:=fun σ H Q=>te σ H fun x H1=>tl σ H1 fun l H2=>th σ H2 fun u H3=>r x l u H3 Q
theorem bx {r:V->Option Int->Option Int->Hp->VK->Prop} (hr:SlR X r) (he:PE X e te) (hl:PO X lo tl) (hu:PO X hi th):PE X (.Subscript e (.Slice lo hi none p2) pos) (tSl r te tl th):=by
 intro pins s σ H Q I h;refine Subscript_ (thn (he pins s σ H _ I h) fun v s1 ⟨x,H1,I1,r1,q1⟩=>?_);refine wpAny_Slice (thn (hl pins s1 σ H1 _ I1 q1) fun vl s2 ⟨l,H2,I2,pl,q2⟩=>thn (hu pins s2 σ H2 _ I2 q2) fun vu s3 ⟨u,H3,I3,pu,q3⟩=>?_);rw [evalPart_none];refine UX ?_;have I4:Inv X pins σ H3 { s3 with heap:=s3.heap.push { cls:=.type "slice",data:=.fields #[vl,vu,.none] } }:=I3.kept (t':=s3.toks) fun b ob q=>UW _ q;obtain ⟨T,id,hT,ht,hg⟩:=hr pins { s3 with heap:=s3.heap.push { cls:=.type "slice",data:=.fields #[vl,vu,.none] } } σ H3 x v vl vu l u s3.heap.objs.size Q I4 r1 (Heap.IsSliceOf.new ..) pl pu q3;show Va (Vw X.prog X.w) X.A (subscriptTail e (.Slice lo hi none p2) v (.ref s3.heap.objs.size)) (EP X pins σ Q) X.xe { s3 with heap:=s3.heap.push { cls:=.type "slice",data:=.fields #[vl,vu,.none] } };exact tail_any (ops:=[.ref s3.heap.objs.size,v]) ht hT hg (by with_unfolding_all rfl)
def dw (xs:List V) (lo hi:Option Int):List V:=(xs.drop (HT.sIx xs.length 0 lo)).take (HT.sIx xs.length xs.length hi - HT.sIx xs.length 0 lo)
theorem jI (xs:List V) (lo hi:Option Int):(dw xs lo hi).length<=xs.length:=by
 unfold dw;rw [VE,Wa];omega
inductive vn (K:UO) (x:V) (lo:Option Int) (hi:Option Int) (H:Hp) (Q:VK):Prop
 | mk (a:_) (xs:_) (yf:x=.ref a) (yg:SqT K H a xs) (yl:¬ (HT.sIx xs.length 0 lo=0/\HT.sIx xs.length xs.length hi=xs.length)) (yx:∀ p,H p=none->Q (.ref p) (upd H p (.tup (dw xs lo hi)))):vn K x lo hi H Q
def xI (K:UO):V->Option Int->Option Int->Hp->VK->Prop:=vn K
theorem ff:SlR X (xI X.K):=by
 intro pins s σ H x v vl vu lo hi sl Q I rx hs pl pu h;obtain ⟨a,xs,rfl,hx,hw,q⟩:=h;cases rx;obtain ⟨its,r,ht,hz⟩:=I.tuple hx;have hlen:its.toArray.size=xs.length:=by rw [U0];exact r.length.symm
 refine ⟨"tuple",_,VG.lookup,ht.typeIs,?_⟩;refine HT.getItem_tuple_cut ht hs pl pu (by rw [hlen];exact hw) ?_ (by rw [hlen];exact hz);rw [hlen];refine ⟨.ref s.heap.objs.size,_,I.laid (t':=s.toks) (o:=.tup (dw xs lo hi)) (fun b ob q=>UW _ q) (UR _) ?_,rfl,q _ (I.hok.fresh (UR _))⟩;exact ⟨WB (jI xs lo hi) hz,_,0,(r.drop (HT.sIx xs.length 0 lo)).take (HT.sIx xs.length xs.length hi - HT.sIx xs.length 0 lo),U4 _ rfl⟩
def wO (K:UO):R2:=fun x y H Q=>∃ a b xs ys,x=.ref a/\y=.ref b/\SqT K H a xs/\SqT K H b ys/\xs≠[]/\xs.length+ys.length<=Vb ∧
 (ys=[]->Q (.ref a) H)/\(ys≠[]->∀ p,H p=none->Q (.ref p) (upd H p (.tup (xs++ys))))
theorem Vals.nil_iff {xs:List V} {us:List UT} (r:Vals xs us):us=[]↔xs=[]:=by
 cases r with
 | nil=>simp
 | cons _ _=>simp
theorem uQ:OpR X (YA .Add) (wO X.K):=by
 intro pins s σ H x y v u Q I rx ry h;obtain ⟨a,b,xs,ys,rfl,rfl,ha,hb,hx,hz,q1,q2⟩:=h;cases rx;cases ry;obtain ⟨its,r1,p1,_⟩:=I.tuple ha;obtain ⟨xW,r2,p2,_⟩:=I.tuple hb;refine HT.cat_tup p1 p2 (fun z=>hx (r1.nil_iff.mp z)) (fun z=>⟨.ref a,H,I,rfl,q1 (r2.nil_iff.mp z)⟩) (fun z=>?_) (by rw [<- r1.length,<- r2.length];exact hz);refine ⟨.ref s.heap.objs.size,_,I.laid (t':=s.toks) (o:=.tup (xs++ys)) (fun b ob q=>UW _ q) (UR _) ?_,rfl,q2 (fun w=>z (r2.nil_iff.mpr w)) _ (I.hok.fresh (UR _))⟩;exact ⟨by rw [U8];exact hz,_,0,r1.append r2,U4 _ rfl⟩
end
end L2
namespace L2
open PySem PySem.Spec PyProof.Rows
def ixN (n:Nat) (i:Int):Option Nat:=if 0<=i then (if i<n then some i.toNat else none) else if -(n:Int)<=i then some (i+n).toNat else none
def atI {α:Type} (xs:List α) (i:Int):Option α:=(ixN xs.length i).bind fun j=>xs[j]?
theorem np {n:Nat} {i:Int} {j:Nat} (h:ixN n i=some j):seqIndex? i n=some j/\j<n/\-(n:Int)<=i/\i<n:=by
 unfold ixN at h;by_cases h0:0<=i
 · rw [if_pos h0] at h;by_cases h1:i<n
   · rw [if_pos h1] at h;have e:i.toNat=j:=Vo h;exact ⟨by rw [seqIndex_of h0 h1,e],by omega,by omega,h1⟩
   · rw [if_neg h1] at h;cases h
 · rw [if_neg h0] at h;by_cases h1:-(n:Int)<=i
   · rw [if_pos h1] at h;have e:(i+n).toNat=j:=Vo h;exact ⟨by rw [seqIndex_neg (by omega) h1,e],by omega,h1,by omega⟩
   · rw [if_neg h1] at h;cases h
theorem nz {α:Type} {xs:List α} {i:Int} {v:α} (h:atI xs i=some v):∃ j,seqIndex? i xs.length=some j/\xs[j]?=some v/\j<xs.length/\-(xs.length:Int)<=i/\i<xs.length:=by
 unfold atI at h;cases e:ixN xs.length i with
 | none=>rw [e] at h;cases h
 | some j =>
   rw [e] at h;obtain ⟨h1,h2,h3,h4⟩:=np e;exact ⟨j,h1,h,h2,h3,h4⟩
theorem ck {α:Type} {xs:List α} {j:Nat} {v:α} (h:xs[j]?=some v):atI xs (j:Int)=some v:=by
 have hj:j<xs.length:=(US.mp h).1
 have e:ixN xs.length (j:Int)=some j:=by
  unfold ixN;rw [if_pos (by omega),if_pos (by omega)];simp
 unfold atI;rw [e];exact h
def uz (b:V4):Prop:=∀ o i,subscripted b false o i=operate [o,i] (YN o i)
def IxR (X:Cx) (r:R2):Prop :=
 ∀ (value slice:V4) (pins:List (UQ×W0)) (s:UY) (σ:St) (H:Hp) (x y:V) (v u:UT) (Q:VK),Inv X pins σ H s->RelV x v->RelV y u->r x y H Q →
   subscripted slice false v u=operate [v,u] (YN v u)->Va (Vw X.prog X.w) X.A (subscriptTail value slice v u) (EP X pins σ Q) X.xe s
def MtR (X:Cx) (id:String) (r:V->List V->Hp->VK->Prop):Prop :=
 ∀ (pins:List (UQ×W0)) (s:UY) (σ:St) (H:Hp) (x:V) (xs:List V) (v:UT) (us:List UT) (Q:VK),Inv X pins σ H s->RelV x v->Vals xs us->r x xs H Q →
   Va (Vw X.prog X.w) X.A (call (.builtin id) (v::us)) (EP X pins σ Q) X.xe s
section
variable {X:Cx} {a b:V4} {ta tb:TE} {pos:YJ}
theorem ay {r:R2} (hr:IxR X r) (ha:PE X a ta) (hb:PE X b tb) (hs:uz b):PE X (.Subscript a b pos) (tOp r ta tb):=by
 intro pins s σ H Q I h;exact Subscript_ (vP ha hb I h fun v u s2 x y H2 I2 rx ry q=>hr a b pins s2 σ H2 x y v u Q I2 rx ry q (hs _ _))
inductive vj (K:UO) (x:V) (y:V) (H:Hp) (Q:VK):Prop
 | mk (p:_) (xs:_) (i:_) (v:_) (yf:x=.ref p) (yg:y=.int i) (yl:SqL K H p xs) (yx:atI xs i=some v) (yK:Q v H):vj K x y H Q
def ut (K:UO):R2:=vj K
inductive uY (K:UO) (x:V) (y:V) (H:Hp) (Q:VK):Prop
 | mk (p:_) (xs:_) (i:_) (v:_) (yf:x=.ref p) (yg:y=.int i) (yl:SqT K H p xs) (yx:atI xs i=some v) (yK:Q v H):uY K x y H Q
def rL (K:UO):R2:=uY K
inductive u4 (x:V) (y:V) (H:Hp) (Q:VK):Prop
 | mk (z:_) (i:_) (c:_) (yf:x=.str z) (yg:y=.int i) (yl:z.length<=Vb) (yx:atI z.cps.toList i=some c) (yK:Q (.str ⟨#[c]⟩) H):u4  x y H Q
def xj:R2:=u4
theorem aO:IxR X (ut X.K):=by
 intro value slice pins s σ H x y v u Q I rx ry h hs;obtain ⟨p,xs,i,z,rfl,rfl,hq,he,q⟩:=h;cases rx;obtain ⟨t,rfl⟩:=ry;obtain ⟨its,r,pl,hz⟩:=I.list hq;obtain ⟨j,h1,h2,h3,h4,h5⟩:=nz he;obtain ⟨w,ew,Bt⟩:=r.get h2;have hl:=r.length;have hn:=fe;have fin:EP X pins σ Q w s:=⟨z,H,I,Bt,q⟩;by_cases h0:0<=i
 · have hj:i.toNat=j:=by
    rw [seqIndex_of h0 h5] at h1;exact Vo h1
   exact item_listR pl.isList h0 (by omega) (by rw [hj];simpa using ew) fin hs
 · have hj:(i+(its.toArray.size:Int)).toNat=j:=by
    rw [seqIndex_neg (by omega) h4] at h1;rw [U0,<- hl];exact Vo h1
   exact subscriptTail_builtinR (x:=w) pl.isList.typeIs slot_list_getitem.lookup
    (wpAny_getItem_list_neg (Q:=fun r s'=>r=w/\EP X pins σ Q r s') pl.isList (by omega) (by rw [U0] <;> omega) (by omega) (by rw [hj];simpa using ew) ⟨rfl,fin⟩) hs
theorem aC:IxR X (rL X.K):=by
 intro value slice pins s σ H x y v u Q I rx ry h hs;obtain ⟨p,xs,i,z,rfl,rfl,hq,he,q⟩:=h;cases rx;obtain ⟨t,rfl⟩:=ry;obtain ⟨its,r,pl,hz⟩:=I.tuple hq;obtain ⟨j,h1,h2,h3,h4,h5⟩:=nz he;obtain ⟨w,ew,Bt⟩:=r.get h2;have hl:=r.length;have hn:=fe;have fin:EP X pins σ Q w s:=⟨z,H,I,Bt,q⟩
 exact subscriptTail_builtinR (x:=w) pl.typeIs slot_tuple_getitem.lookup
  (getItem_tuple (j:=j) (Q:=fun r s'=>r=w/\EP X pins σ Q r s') pl (by omega) (by omega) (by rw [U0,<- hl];exact h1) (by simpa using ew) ⟨rfl,fin⟩) hs
theorem uf:IxR X xj:=by
 intro value slice pins s σ H x y v u Q I rx ry h hs;obtain ⟨z,i,c,rfl,rfl,hz,he,q⟩:=h;obtain ⟨t,rfl⟩:=rx;obtain ⟨t',rfl⟩:=ry;obtain ⟨j,h1,h2,h3,h4,h5⟩:=nz he;have hl:z.cps.toList.length=z.length:=by simp [Str.length]
 rw [hl] at h1 h4 h5;have hn:=fe
 exact tail_any (typeIs_str s z t) slot_str_getitem.lookup (getItem_str (c:=c) (by
  have e1:decide (i < -(2 ^ 63:Int))=false:=decide_eq_false (by omega);have e2:decide (i ≥ 2 ^ 63)=false:=decide_eq_false (by omega);rw [e1,e2,Z3]) (by rw [h1];simpa using h2) ⟨.str ⟨#[c]⟩,H,I.tok _,⟨_,rfl⟩,q⟩) hs
theorem qp (its:List UT) (n j:Nat) (u:UT):V3 (·.setIfInBounds j u) { cls:=.type "list",data:=.seq its.toArray n }={ cls:=.type "list",data:=.seq (its.set j u).toArray n }:=by
 simp [V3]
theorem Inv.lst {pins:List (UQ×W0)} {σ:St} {H:Hp} {s:UY} {p:UQ} {xs:List V} (I:Inv X pins σ H s) (h:H p=some (.lst xs)) :
 ∃ (its:List UT) (n:Nat),Vals xs its/\s.heap.get? p=some { cls:=.type "list",data:=.seq its.toArray n }/\xs.length<=Vb:=by
 obtain ⟨z,its,n,r,e⟩:=I.hok p _ h;exact ⟨its,n,r,e,z⟩
theorem Inv.lstUpd {pins:List (UQ×W0)} {σ:St} {H:Hp} {s:UY} {p:UQ} {xs ys:List V} {its its':List UT} {n n':Nat} {f:W0->W0} (I:Inv X pins σ H s) (h:H p=some (.lst xs))
 (ho:s.heap.get? p=some { cls:=.type "list",data:=.seq its.toArray n }) (hf:f { cls:=.type "list",data:=.seq its.toArray n }={ cls:=.type "list",data:=.seq its'.toArray n' }) (r:Vals ys its') (hz:ys.length<=Vb) (t:Nat) :
 Inv X pins σ (upd H p (.lst ys)) { s with heap:=s.heap.update p f,toks:=t }:=by
 have e:(s.heap.update p f).get? p=some { cls:=.type "list",data:=.seq its'.toArray n' }:=by
  rw [VD f ho (by rw [hf] <;> rfl),hf]
 refine I.write (x:=p) (e:=p) (by rw [h];trivial) (.inl rfl) (fun b u hb q=>(VL _ _ (WG hb)).trans q) ⟨_,e⟩ ?_;exact ⟨hz,its',n',r,e⟩
def wT:V->V->V->Hp->(Hp->Prop)->Prop:=fun o i v H Q=>∃ p xs k j,o=.ref p/\i=.int k/\H p=some (.lst xs)/\ixN xs.length k=some j/\Q (upd H p (.lst (xs.set j v)))
theorem set_list:wu X wT:=by
 intro pins s σ H o i v ov iv u Q I ro ri rv h;obtain ⟨p,xs,k,j,rfl,rfl,hp,hj,q⟩:=h;cases ro;obtain ⟨t,rfl⟩:=ri;obtain ⟨its,n,r,ho,hz⟩:=I.lst hp;obtain ⟨h1,h2,h3,h4⟩:=np hj;have hl:=r.length;have hn:=fe
 have I':Inv X pins σ (upd H p (.lst (xs.set j v))) { s with heap:=s.heap.update p (V3 (·.setIfInBounds j u)) } :=
  I.lstUpd hp ho (qp its n j u) (r.set rv j) (by rw [ZE];exact hz) s.toks
 by_cases h0:0<=k
 · have hk:k.toNat=j:=by
    rw [seqIndex_of h0 h4] at h1;exact Vo h1
   exact PySem.W.ki_setAt ho h0 (by omega) (by rw [U0,<- hl];exact h4) (by rw [hk];exact ⟨_,I',q⟩)
 · have hk:(k+(its.toArray.size:Int)).toNat=j:=by
    rw [seqIndex_neg (by omega) h3] at h1;rw [U0,<- hl];exact Vo h1
   exact PySem.W.ki_setBack ho (by omega) (by rw [U0,<- hl];exact h3) (by omega) (by rw [hk];exact ⟨_,I',q⟩)
theorem nP (lo hi:Option Int) (n:Nat):(YG lo hi none n).1=((HT.sIx n 0 lo:Nat):Int)/\(YG lo hi none n).2.1=((HT.sIx n n hi:Nat):Int)/\(YG lo hi none n).2.2=1:=by
 refine ⟨?_,?_,rfl⟩
 · cases lo with
   | none=>simp [YG,HT.sIx]
   | some i =>
     simp only [YG,HT.sIx,Option.getD_none,show (1:Int) > 0 by decide,if_true];by_cases h:i<0
     · simp only [h,if_true] <;> omega
     · simp only [h,if_false] <;> omega
 · cases hi with
   | none=>simp [YG,HT.sIx]
   | some i =>
     simp only [YG,HT.sIx,Option.getD_none,show (1:Int) > 0 by decide,if_true];by_cases h:i<0
     · simp only [h,if_true] <;> omega
     · simp only [h,if_false] <;> omega
theorem lG (its:List UT) (lo hi:Option Int):slicePick its.toArray lo hi none=((its.drop (HT.sIx its.length 0 lo)).take (HT.sIx its.length its.length hi - HT.sIx its.length 0 lo)).toArray:=by
 obtain ⟨h1,h2,h3⟩:=nP lo hi its.toArray.size;unfold slicePick;rw [h1,h2,h3];simp only [sliceRange_one,pick_run,U0] <;> rfl
inductive vt (K:UO) (x:V) (lo:Option Int) (hi:Option Int) (H:Hp) (Q:VK):Prop
 | mk (a:_) (xs:_) (yf:x=.ref a) (yg:SqL K H a xs) (yl:∀ p,H p=none->Q (.ref p) (upd H p (.lst (dw xs lo hi)))):vt K x lo hi H Q
def xH (K:UO):V->Option Int->Option Int->Hp->VK->Prop:=vt K
theorem nj:SlR X (xH X.K):=by
 intro pins s σ H x v vl vu lo hi sl Q I rx hs pl pu h;obtain ⟨a,xs,rfl,hx,q⟩:=h;cases rx;obtain ⟨its,r,ht,hz⟩:=I.list hx;have hlen:=r.length;refine ⟨"list",_,slot_list_getitem.lookup,ht.isList.typeIs,?_⟩;refine wpAny_getItem_list_slice ht.isList hs pl pu .none (by simp) ?_ (by rw [U0] <;> omega);rw [lG,<- hlen];refine ⟨.ref s.heap.objs.size,_,I.laid (t':=s.toks) (o:=.lst (dw xs lo hi)) (fun b ob q=>UW _ q) (UR _) ?_,rfl,q _ (I.hok.fresh (UR _))⟩;exact ⟨WB (jI xs lo hi) hz,_,0,(r.drop (HT.sIx xs.length 0 lo)).take (HT.sIx xs.length xs.length hi - HT.sIx xs.length 0 lo),U4 _ rfl⟩
inductive px (K:UO) (xs:List V) (H:Hp) (Q:VK):Prop
 | mk (p:UQ) (ys:List V) (yf:xs=[.ref p]) (yg:SqL K H p ys∨SqT K H p ys) (yl:Q (.int ys.length) H):px K xs H Q
theorem aq:fJ X (.builtin "len") (px X.K):=by
 intro pins s σ H xs us Q I r h;obtain ⟨p,ys,rfl,hq,q⟩:=h;obtain ⟨u,rfl,rx⟩:=vals1 r;cases rx;have hn:=fe;rcases hq with hq | hq
 · obtain ⟨its,r',pl,hz⟩:=I.list hq;have hlen:=r'.length;exact Calls.call_len_list pl.isList (by simp only [U0] <;> omega) ⟨.int ys.length,H,I.tok _,⟨s.toks+1,by rw [U0,hlen]⟩,q⟩
 · obtain ⟨its,r',pl,hz⟩:=I.tuple hq;have hlen:=r'.length;exact len_tuple pl (by simp only [U0] <;> omega) ⟨.int ys.length,H,I.tok _,⟨s.toks+1,by rw [U0,hlen]⟩,q⟩
theorem nn:fJ X (.type "list") (fun xs H Q=>∃ p ys,xs=[.ref p]/\(SqL X.K H p ys∨SqT X.K H p ys)/\∀ l,H l=none->Q (.ref l) (upd H l (.lst ys))):=by
 intro pins s σ H xs us Q I r h;obtain ⟨p,ys,rfl,hq,q⟩:=h;obtain ⟨u,rfl,rx⟩:=vals1 r;cases rx
 have fin:∀ (its:List UT),Vals ys its->ys.length<=Vb->∀ (h':V9) (c':Nat),(∀ b o',s.heap.get? b=some o'->h'.get? b=some o') →
  h'.get? s.heap.objs.size=some { cls:=.type "list",dict:=none,data:=.seq its.toArray c',slots:=#[] }->EP X pins σ Q (.ref s.heap.objs.size) { s with heap:=h' }:=fun its r' hz h' c' kp e =>
  ⟨.ref s.heap.objs.size,_,I.laid (t':=s.toks) kp (UR _) (show ObjOk X.prog X.w _ h' _ (.lst ys) from ⟨hz,its,c',r',e⟩),rfl,q _ (I.hok.fresh (UR _))⟩
 rcases hq with hq | hq
 · obtain ⟨its,r',pl,hz⟩:=I.list hq;have hlen:=r'.length;obtain ⟨o,ho,hc,n,hd⟩:=pl.isList;exact call_list_seq p (.inl rfl) ho hc hd (fun h' c' kp e=>fin its r' hz h' c' kp e) (by simp only [U0] <;> omega)
 · obtain ⟨its,r',pl,hz⟩:=I.tuple hq;have hlen:=r'.length;obtain ⟨o,ho,hc,n,hd⟩:=pl;exact call_list_seq p (.inr rfl) ho hc hd (fun h' c' kp e=>fin its r' hz h' c' kp e) (by simp only [U0] <;> omega)
theorem cA:fJ X (.type "tuple") (fun xs H Q=>∃ p ys,xs=[.ref p]/\((SqL X.K H p ys/\∀ l,H l=none->Q (.ref l) (upd H l (.tup ys)))∨(SqT X.K H p ys/\Q (.ref p) H))):=by
 intro pins s σ H xs us Q I r h;obtain ⟨p,ys,rfl,h⟩:=h;obtain ⟨u,rfl,rx⟩:=vals1 r;cases rx;rcases h with ⟨hq,q⟩ | ⟨hq,q⟩
 · obtain ⟨its,r',pl,hz⟩:=I.list hq;have hlen:=r'.length;refine call_tuple_list pl.isList (fun h' kp=>?_) (by simp only [U0] <;> omega);have I1:Inv X pins σ H { s with heap:=h' }:=I.kept (t':=s.toks) kp
   have I2:Inv X pins σ (upd H h'.objs.size (.tup ys)) { s with heap:=h'.push { cls:=.type "tuple",data:=.seq its.toArray } } :=
    I1.laid (t':=s.toks) (fun b o e=>UW _ e) (UR _) (show ObjOk X.prog X.w _ _ _ (.tup ys) from ⟨hz,its,0,r',U4 _ rfl⟩)
   exact ⟨.ref h'.objs.size,_,I2,rfl,q _ (I1.hok.fresh (UR _))⟩
 · obtain ⟨its,r',pl,hz⟩:=I.tuple hq;exact call_tuple_same pl ⟨.ref p,H,I,rfl,q⟩
def tyV (K:UO) (T:String) (x:V) (H:Hp):Prop:=match x with
 | .str _=>T="str"
 | .int _=>T="int"
 | .ref p=>(T="list"/\∃ xs,SqL K H p xs)∨(T="tuple"/\∃ o,K.lookup p=some o/\o.cls=.type "tuple"/\o.dict=none) ∨
  (T="dict"/\((∃ f',H p=some (.dK f'))∨∃ f',H p=some (.dT f')))∨(T="set"/\∃ S n,H p=some (.set S n))
 | _=>False
theorem sW {pins:List (UQ×W0)} {σ:St} {H:Hp} {s:UY} {T:String} {x:V} {v:UT} (I:Inv X pins σ H s) (r:RelV x v) (ty:tyV X.K T x H) :
 s.TypeIs v T/\∀ a,v=.ref a->∃ ob,s.heap.get? a=some ob/\ob.dict=none:=by
 cases x with
 | str z =>
   obtain ⟨t,rfl⟩:=r;cases (show T="str" from ty);exact ⟨typeIs_str s z t,fun _ e=>nomatch e⟩
 | int i =>
   obtain ⟨t,rfl⟩:=r;cases (show T="int" from ty);exact ⟨typeIs_int s i t,fun _ e=>nomatch e⟩
 | ref p =>
   cases r;rcases ty with ⟨rfl,xs,hq⟩ | ⟨rfl,o,hk,hc,hd⟩ | ⟨rfl,hk⟩ | ⟨rfl,S,n,hk⟩
   · obtain ⟨its,_,pl,_⟩:=I.list hq;refine ⟨pl.isList.typeIs,fun a e=>?_⟩;cases e;obtain ⟨o,n,e,c,hd,_⟩:=pl;exact ⟨o,e,hd⟩
   · refine ⟨⟨o,I.kIn p o hk,hc⟩,fun a e=>?_⟩;cases e;exact ⟨o,I.kIn _ o hk,hd⟩
   · have z:∃ o,s.heap.get? p=some o/\o.ExactDict:=by
      rcases hk with ⟨f',hk⟩ | ⟨f',hk⟩
      · obtain ⟨_,_,_,_,o,_,_,e,ex,_⟩:=I.hok p _ hk;exact ⟨o,e,ex⟩
      · obtain ⟨_,_,_,_,o,_,_,e,ex,_⟩:=I.hok p _ hk;exact ⟨o,e,ex⟩
     obtain ⟨o,e,ex⟩:=z;refine ⟨⟨o,e,ex.1⟩,fun a e2=>?_⟩;cases e2;exact ⟨o,e,ex.2.1⟩
   · obtain ⟨o,_,_,_,e,ex,_⟩:=I.hok p _ hk;refine ⟨⟨o,e,ex.1⟩,fun a e2=>?_⟩;cases e2;exact ⟨o,e,ex.2.1⟩
 | _=>exact X6 ty
def wt (K:UO) (T:String) (r:V->List V->Hp->VK->Prop) (to:TE):TE:=fun σ H Q=>to σ H fun x H1=>tyV K T x H1/\r x [] H1 Q
def tBM (K:UO) (T:String) (r:V->List V->Hp->VK->Prop) (to:TE) (t:TA):TE:=fun σ H Q=>to σ H fun x H1=>tyV K T x H1/\t σ H1 fun xs H2=>r x xs H2 Q
variable {o e:V4} {es:List V4} {to:TE} {t:TA} {name:Vm} {apos yh:YJ} {T id:String} {r:V->List V->Hp->VK->Prop}
theorem fP (pa:PlainAttrs T) (slot:Slot T name id) (GR:typeOf (.builtin id)=pure (.type "method_descriptor")) (hm:MtR X id r) (ho:PE X o to)
 (Aq:attributeBase o name X.env (Xf o X.env)=Xf o X.env:=by rfl) (Ar:(apos.endLine == yh.line)=true:=by rfl):PE X (.Call (.Attribute o name apos) [] [] yh) (wt X.K T r to):=by
 intro pins s σ H Q I h;refine wpAny_Call_method0_late Aq Ar (thn (ho pins s σ H _ I h) fun v s1 ⟨x,H1,I1,r1,ty,q1⟩=>?_);obtain ⟨h1,h2⟩:=sW I1 r1 ty;exact ⟨T,id,pa,slot,GR,h1,h2,X2 rfl (PySem.evalArgs_none (hm pins s1 σ H1 x [] v [] Q I1 r1 .nil q1))⟩
theorem bE (pa:PlainAttrs T) (slot:Slot T name id) (GR:typeOf (.builtin id)=pure (.type "method_descriptor")) (hm:MtR X id r) (ho:PE X o to) (ha:PA X (e::es) t)
 (Aq:attributeBase o name X.env (Xf o X.env)=Xf o X.env:=by rfl)
 (EV:((YR yh (VR (e::es) X.env)).all (fun x=>!x.1) && (backToKw yh (keywordEach [] X.env)).all (fun x=>x.1.isSome)
  && decide ((e::es).length+([]:List Keyword).length+(if ([]:List Keyword).isEmpty then 0 else 1)<30))=true:=by rfl)
 (Ar:(apos.endLine == yh.line)=true:=by rfl) (hs:VR (e::es) X.env=(false,Xf e X.env)::VR es X.env:=by rfl) (AV:(YR yh (VR es X.env)).any (·.1)=false:=by rfl) :
 PE X (.Call (.Attribute o name apos) (e::es) [] yh) (tBM X.K T r to t):=by
 intro pins s σ H Q I h;refine wpAny_Call_method_late Aq EV Ar rfl (thn (ho pins s σ H _ I h) fun v s1 ⟨x,H1,I1,r1,ty,q1⟩=>?_);obtain ⟨h1,h2⟩:=sW I1 r1 ty;refine ⟨T,id,pa,slot,GR,h1,h2,?_⟩;have hA:=ha yh pins s1 σ H1 _ I1 q1;rw [hs] at hA ⊢;refine X2 (by show (false || (YR yh (VR es X.env)).any (·.1))=false;rw [AV] <;> rfl) (Y7 ?_);exact thn hA fun us s2 ⟨vs,H2,I2,r2,q2⟩=>hm pins s2 σ H2 x vs v us Q I2 r1 r2 q2
end
end L2
namespace L2
open PySem PySem.Spec PyProof.Rows
def MtM (X:Cx) (id:String) (r:V->List V->Hp->VK->Prop):Prop :=
 ∀ (pins:List (UQ×W0)) (s:UY) (σ:St) (H:Hp) (x:V) (xs:List V) (v:UT) (us:List UT) (Q:VK),Inv X pins σ H s->RelV x v->Vals xs us->r x xs H Q →
   Va (Vw X.prog X.w) X.A (call (.builtin id) (v::us)) (EP X pins σ Q) X.xe s
theorem Vals.one:∀ {x:V} {us:List UT},Vals [x] us->∃ u,us=[u]/\RelV x u
 | _,_,.cons r .nil=>⟨_,rfl,r⟩
theorem Vals.zero:∀ {us:List UT},Vals [] us->us=[]
 | _,.nil=>rfl
theorem Vals.dropLast {xs:List V} {us:List UT} (h:Vals xs us):Vals xs.dropLast us.dropLast:=by
 induction h with
 | nil=>exact .nil
 | cons r t ih =>
   cases t with
   | nil=>exact .nil
   | cons q t'=>exact .cons r ih
theorem Vals.reverse {xs:List V} {us:List UT} (h:Vals xs us):Vals xs.reverse us.reverse:=by
 induction h with
 | nil=>exact .nil
 | cons r t ih=>rw [VY,VY];exact Vals.append ih (.cons r .nil)
theorem qo {α:Type} (l:List α):l.eraseIdx (l.length - 1)=l.dropLast:=by
 induction l with
 | nil=>rfl
 | cons a r ih =>
   cases r with
   | nil=>rfl
   | cons b r =>
     have e:(a::b::r).length - 1=((b::r).length - 1)+1:=by
      have h1:(a::b::r).length=r.length+2:=rfl;have h2:(b::r).length=r.length+1:=rfl;omega
     rw [e,List.eraseIdx_cons_succ,ih]
     all_goals rfl
section
variable {X:Cx} {pins:List (UQ×W0)} {σ:St} {H:Hp} {s:UY} {l b:UQ} {xs ys zs:List V}
theorem Inv.lset {its its':List UT} {n:Nat} {f:Array UT->Array UT} {t':Nat} (I:Inv X pins σ H s) (hH:H l=some (.lst xs))
 (e:s.heap.get? l=some { cls:=.type "list",data:=.seq its.toArray n }) (hf:f its.toArray=its'.toArray) (hv:Vals ys its') (hz:ys.length<=Vb) :
 Inv X pins σ (upd H l (.lst ys)) { s with heap:=s.heap.update l (V3 f),toks:=t' }:=by
 have q:=PySem.IsL.update e f;rw [hf] at q;refine I.write (x:=l) (e:=l) (by rw [hH];exact trivial) (.inl rfl) (fun b' u hb hu=>(VL s.heap (V3 f) (WG hb)).trans hu) ⟨_,q⟩ ?_;exact ⟨hz,its',_,hv,q⟩
theorem Inv.lnew {its:List UT} {t':Nat} (I:Inv X pins σ H s) (hv:Vals ys its) (hz:ys.length<=Vb) :
 Inv X pins σ (upd H s.heap.objs.size (.lst ys)) { s with heap:=s.heap.push { cls:=.type "list",data:=.seq its.toArray },toks:=t' } :=
 I.laid (fun _ _ q=>UW _ q) (UR _) ⟨hz,its,0,hv,U4 _ rfl⟩
theorem Inv.fresh (I:Inv X pins σ H s):H s.heap.objs.size=none:=I.hok.fresh (UR _)
theorem Inv.lstM (I:Inv X pins σ H s) (hH:H l=some (.lst xs)):xs.length<=Vb/\∃ (its:List UT) (n:Nat),Vals xs its/\xs.length=its.length/\s.heap.get? l=some { cls:=.type "list",data:=.seq its.toArray n }:=by
 obtain ⟨z,its,n,r,e⟩:=I.hok l _ hH;exact ⟨z,its,n,r,r.length,e⟩
theorem lu {n:Nat} (h:n<=Vb):Xb n=false:=by
 unfold Xb;exact decide_eq_false (by omega)
end
section
variable {X:Cx}
inductive pe (x:V) (vs:List V) (H:Hp) (Q:VK):Prop
 | mk (l:_) (xs:_) (y:_) (yf:x=.ref l) (yg:vs=[y]) (yl:H l=some (.lst xs)) (yx:xs.length<Vb) (yK:Q .non (upd H l (.lst (xs++[y])))):pe  x vs H Q
def qr:V->List V->Hp->VK->Prop:=pe
theorem aN:MtM X "list.append" qr:=by
 intro pins s σ H x vs v us Q I rx rv h;obtain ⟨l,xs,y,rfl,rfl,hH,hz,q⟩:=h;cases rx;obtain ⟨u,rfl,ru⟩:=rv.one;obtain ⟨z,its,n,r,hl,e⟩:=I.lstM hH;refine YY F.slot_list_append ⟨_,e,rfl⟩ F.entry_list_append (F.args_list_append_2 _ _) (PySem.list_append l its.toArray n u (by rw [U0];omega)) ⟨e,?_⟩;refine ⟨.non,_,I.lset (its':=its++[u]) hH e (by simp) (r.append (.cons ru .nil)) ?_,rfl,q⟩;rw [U8,List.length_singleton];omega
inductive n9 (x:V) (vs:List V) (H:Hp) (Q:VK):Prop
 | mk (l:_) (b:_) (xs:_) (zs:_) (yf:x=.ref l) (yg:vs=[.ref b]) (yl:H l=some (.lst xs)) (yx:H b=some (.lst zs)) (yK:xs.length+zs.length<=Vb) (zJ:Q .non (upd H l (.lst (xs++zs)))):n9  x vs H Q
def uI:V->List V->Hp->VK->Prop:=n9
theorem jm:MtM X "list.extend" uI:=by
 intro pins s σ H x vs v us Q I rx rv h;obtain ⟨l,b,xs,zs,rfl,rfl,hH,hB,hz,q⟩:=h;cases rx;obtain ⟨u,rfl,ru⟩:=rv.one;cases ru;obtain ⟨z,its,n,r,hl,e⟩:=I.lstM hH;obtain ⟨z2,xW,n2,r2,yP,e2⟩:=I.lstM hB;have hsz:its.toArray.size+xW.toArray.size<=Vb:=by rw [U0,U0];omega
 have Cb:¬ (!its.toArray.isEmpty && Xb (its.toArray.size+xW.toArray.size))=true:=by
  rw [lu hsz,Y8];exact Ve
 refine YY F.slot_list_extend ⟨_,e,rfl⟩ F.entry_list_extend (F.args_list_extend_2 _ _)
  (AutoSeq1.list_extend_list_list_0 l its.toArray n b xW.toArray n2 Cb (by rw [U0];omega) (by omega)) ⟨e,e2,?_⟩
 refine ⟨.non,_,I.lset (its':=its++xW) hH e (by simp) (r.append r2) ?_,rfl,q⟩;rw [U8];omega
inductive vB (x:V) (vs:List V) (H:Hp) (Q:VK):Prop
 | mk (l:_) (xs:_) (y:_) (yf:x=.ref l) (yg:vs=[]) (yl:H l=some (.lst xs)) (yx:xs[xs.length - 1]?=some y) (yK:Q y (upd H l (.lst xs.dropLast))):vB  x vs H Q
def w9:V->List V->Hp->VK->Prop:=vB
theorem ko:MtM X "list.pop" w9:=by
 intro pins s σ H x vs v us Q I rx rv h;obtain ⟨l,xs,y,rfl,rfl,hH,hy,q⟩:=h;cases rx;have Dh:=rv.zero;subst Dh;obtain ⟨z,its,n,r,hl,e⟩:=I.lstM hH;obtain ⟨u,hu,ru⟩:=r.get hy
 have Au:its.toArray[its.toArray.size - 1]?=some u:=by
  show its.toArray[its.length - 1]?=some u;rw [<- XY,<- hl];exact hu
 refine YY F.slot_list_pop ⟨_,e,rfl⟩ F.entry_list_pop (F.args_list_pop_1 _) (MeetsSeq.list_pop_last l its.toArray n u Au (by rw [U0];omega)) ⟨e,?_⟩;refine ⟨y,_,I.lset (its':=its.dropLast) hH e ?_ r.dropLast ?_,ru,q⟩
 · show its.toArray.eraseIdxIfInBounds (its.toArray.size - 1)=its.dropLast.toArray;rw [U0,List.eraseIdxIfInBounds_toArray,qo]
 · rw [List.length_dropLast];omega
def vM:V->List V->Hp->VK->Prop:=fun x vs H Q=>∃ l xs,x=.ref l/\vs=[]/\H l=some (.lst xs)/\Q .non (upd H l (.lst []))
theorem kR:MtM X "list.clear" vM:=by
 intro pins s σ H x vs v us Q I rx rv h;obtain ⟨l,xs,rfl,rfl,hH,q⟩:=h;cases rx;have Dh:=rv.zero;subst Dh;obtain ⟨z,its,n,r,hl,e⟩:=I.lstM hH;refine YY F.slot_list_clear ⟨_,e,rfl⟩ F.entry_list_clear (F.args_list_clear_1 _) (AutoSeq1.list_clear_list_0 l its.toArray n (by rw [U0];omega)) ⟨e,?_⟩;exact ⟨.non,_,I.lset (its':=[]) (ys:=[]) hH e rfl .nil (Vn _),rfl,q⟩
inductive vo (x:V) (y:V) (H:Hp) (Q:VK):Prop
 | mk (l:_) (b:_) (xs:_) (zs:_) (yf:x=.ref l) (yg:y=.ref b) (yl:H l=some (.lst xs)) (yx:H b=some (.lst zs)) (yK:xs.length+zs.length<=Vb) (zJ:∀ p,H p=none->Q (.ref p) (upd H p (.lst (xs++zs)))):vo  x y H Q
def xu:R2:=vo
theorem vX:OpR X (YA .Add) xu:=by
 intro pins s σ H x y v u Q I rx ry h;obtain ⟨l,b,xs,zs,rfl,rfl,hH,hB,hz,q⟩:=h;cases rx;cases ry;obtain ⟨z,its,n,r,hl,e⟩:=I.lstM hH;obtain ⟨z2,xW,n2,r2,yP,e2⟩:=I.lstM hB;refine PySem.P.add_list e e2 ?_ (by rw [U0,U0];omega);have ea:its.toArray++xW.toArray=(its++xW).toArray:=by simp
 rw [ea];exact ⟨.ref _,_,I.lnew (t':=s.toks) (r.append r2) (by rw [U8];omega),rfl,q _ I.fresh⟩
end
section
variable {prog:U6} {w:Vj} {A:VF} {E:UT->UY->Prop} {s:UY}
end
section
variable {X:Cx}
end
end L2
namespace Att
open PySem PySem.W PySem.Calls PyProof.Rows
theorem ints_of_wellAll {P:Params} {h:V9}:∀ (ns:List Int) (vs:List UT),WellAll P h vs (ns.map WData.int)->IntsAre vs ns:=by
 intro ns;induction ns with
 | nil =>
   intro vs w;rw [WN] at w;cases w;exact .nil
 | cons n ns ih =>
   intro vs w;rw [VJ] at w;cases w with
   | cons a b =>
     cases a;exact .cons _ _ (ih _ b)
theorem script_of {l:OpenLaw} {n:Nat} (hn:l.most=some n) {P:Params} {h:V9} {args:List WData} {vals:List UT}
 (Di:l.row.toRowW.claim.pre args=true) (Cc:WellAll P h vals args) :
 ∃ a vs ns,vals=[Vv a]/\args=[WData.list (ns.map WData.int)]/\h.get? a=some { cls:=.type "list",data:=.seq vs.toArray }/\IntsAre vs ns/\ns.length<=n:=by
 have Qp:WShape.hasAll [] args [.list .int]=true:=(pre_splitW Di).1;have hc:l.pre.holds [] { args:=args }=true:=(pre_splitW Di).2;obtain ⟨d,r,rfl,h1,h2⟩:=hasAllW_cons Qp;obtain rfl:=hasAllW_nil h2;obtain ⟨xs,rfl,h3⟩:=hasW_list h1;obtain ⟨ns,rfl⟩:=items_int h3
 have hlen:ns.length<=n:=by
  unfold OpenLaw.pre at hc
  have h4:(WTm.not (.lt (.lit (.int (n:Int))) (.len (.arg 0)))).holds [] { args:=[.list (ns.map .int)] }=true:=by
   have h4:=(holds_andW hc).1;rw [hn] at h4;exact h4
  have h5:=condW_of h4 (w_not (w_lt w_lit (w_len_list (w_arg rfl))));rw [UL] at h5;refine Nat.le_of_not_lt fun q=>?_;have q':(n:Int)<((ns.length:Nat):Int):=by omega
  first
   | (rw [decide_eq_true q'] at h5;exact absurd h5 (by decide))
   | (simp at h5;omega)
 cases Cc with
 | cons w1 w2 =>
   cases w2;cases w1 with
   | list ho xY=>exact ⟨_,_,ns,rfl,rfl,ho,ints_of_wellAll ns _ xY,hlen⟩
theorem post_true (l:OpenLaw) (args:List WData):l.row.toRowW.claim.post args (.bool true) args=true :=
 postW_of (r:=l.row.toRowW) (X:=(true == true))
  (show WShape.has [] (.bool true) .bool=true by first | rfl | decide | simp [WShape.has,WShape.arms,WShape.armsAll])
  (show (WTm.eq .res (.lit (.bool true))).value [] { args:=args,res:=some (.bool true),after:=args }=some (.bool (true == true)) from w_eq_bool (w_res rfl) w_lit) rfl
theorem attach_call {l:OpenLaw} {n:Nat} {q:U6} {loose:List Vm} {XP:(Vm->Option UT)->V9->Prop} {YP:Vj->V9->Prop} {d:DefRec}
 (hn:l.most=some n) (hdf:d.params.defaults=[])
 (call:∀ (w:Vj) (s₀ xU:UY) (mg mb:Vm->Option UT) (fa:UQ) (o:W0) (pm cd doc:UT) (a:UQ) (vs:List UT) (ns:List Int),
  Ground q loose [] XP w s₀ mg mb xU.heap->YP w xU.heap →
  xU.heap.get? fa=some o->o.data=.func (docDef d.name d.params d.body d.scope pm cd doc)->xU.heap.CodeRec cd d.name->mg d.name=some (.ref fa) →
  xU.heap.get? a=some { cls:=.type "list",data:=.seq vs.toArray }->IntsAre vs ns->ns.length<=n->xU.gens=#[] →
  YQ (Vw l.prog w) callerA (.call (.ref fa) ⟨[.ref a],[]⟩) (fun r s'=>r=.ok (.ret (.bool true))/\OldK xU.heap s'.heap/\s'.os=xU.os/\AllBare s'.gens) xU) :
 WalkO q loose XP YP l.row.toRowW d [] (fun f vs=>PySem.call f vs):=by
 intro w s₀ xU mg mb G Y fa o pm cd doc dV kV ho hd B7 hD GS hg args vals as Di Qq Om Cc Oo;obtain rfl:dV=.none:=Dflts.none hD hdf;obtain rfl:kV=.none:=Dflts.noKw hD;obtain ⟨a,vs,ns,rfl,rfl,EW,hints,hlen⟩:=script_of hn Di Cc;refine enter_call (codeAny_mono (call w s₀ xU mg mb fa o pm cd doc a vs ns G Y ho (fd_plain hd) B7 GS EW hints hlen hg) fun r s' hq=>?_);obtain ⟨rfl,h2,h3,h4⟩:=hq;exact ⟨.inl ⟨.bool true,.bool true,[],rfl,fun _=>rfl,.bool true,post_true l _,fun _=>⟨List.Pairwise.nil,fun _ hm=>(nomatch hm)⟩⟩,h2,h3,h4⟩
section
variable {prog:U6} {w:Vj} {A:VF} {E:UT->UY->Prop} {s:UY} {K:Frag}
end
end Att
namespace L2
open PySem PySem.Spec PyProof.Rows
theorem l8:∀ {vs:List UT} {ns:List Int},IntsAre vs ns->Vals (ns.map V.int) vs
 | _,_,.nil=>.nil
 | _,_,.cons n t h=>.cons ⟨t,rfl⟩ (l8 h)
def vR (H:Hp):Prop:=∀ b,H b=none∨∃ o xs,H b=some (.frz o (.lst xs))
theorem tS {P:U6} {w:Vj} {K:UO} {mg mb:Vm->Option UT} {CX:CXT} {k:Nat} {fa a:UQ} {fd:X5} {x:Vm} {sp:Sp} {xU:UY} {vs:List UT} {ns:List Int}
 (KX:K.In xU.heap) (Cd:xU.heap.Ns VC mg) (hb:xU.heap.Ns builtinsNs mb) (KR:∀ x:Vm,x≠"__name__"->mb x=Zd x) (KS:xU.heap.NoLimit) (hg:xU.gens=#[])
 (ha:xU.heap.get? a=some { cls:=.type "list",data:=.seq vs.toArray }) (hi:IntsAre vs ns) (hl:ns.length<=Vb) (hr:Room k callerA)
 (F:∀ base:V9,K.In base->base.Ns VC mg->bn P w K mg base CX k fa fd [x] sp) (GU:∀ (s:UY) (u:UT),BindsTo s fd ⟨[u],[]⟩ [(x,u)])
 (D4:∀ H:Hp,vR H->SqL K H a (ns.map V.int)->sp [.ref a] H (fun v _=>v=.bl true) fun _ _ _=>False)
 (KU:∀ H e s',CX [] H xU (fun _ _ _=>False) e s'->False) :
 YQ (Vw P w) callerA (.call (.ref fa) ⟨[.ref a],[]⟩) (fun r s'=>r=.ok (.ret (.bool true))/\OldK xU.heap s'.heap/\s'.os=xU.os/\AllBare s'.gens) xU:=by
 have rv:=l8 hi;have KW:=hi.length
 -- from an abstract heap in Oq nothing but AQ script may be tracked
 have core:∀ H:Hp,vR H->SqL K H a (ns.map V.int)->HOk P w H xU.heap->(∀ b,H b≠none->b=a)->(H a≠none->K.lookup a=none) →
  YQ (Vw P w) callerA (.call (.ref fa) ⟨[.ref a],[]⟩) (fun r s'=>r=.ok (.ret (.bool true))/\OldK xU.heap s'.heap/\s'.os=xU.os/\AllBare s'.gens) xU:=by
  intro H hO hS hok hA hK;have Bl:∀ {b:UQ} {o:W0},xU.heap.get? b=some o->H b=none->(mU xU.heap H).get? b=some o:=fun e n=>sH e n
  have GN:∀ {b:UQ} {o:W0} {es:Array DictEntry} {ep:Nat},xU.heap.get? b=some o->o.data=.dict es ep->H b=none:=fun {b o es ep} e d=>by
   cases q:H b with
   | none=>rfl
   | some u =>
     have e':b=a:=hA b (by rw [q];simp);subst e';rw [ha] at e;cases e;have d':Data.seq vs.toArray _=Data.dict es ep:=d;cases d'
  have J3:∀ {b:UQ} {m:Vm->Option UT},xU.heap.Ns b m->(mU xU.heap H).Ns b m:=fun {b m} ⟨o,es,ep,e,d,r⟩=>⟨o,es,ep,Bl e (GN e d),d,r⟩
  have Ot:K.In (mU xU.heap H):=fun b o e=>Bl (KX b o e) (by
   cases q:H b with
   | none=>rfl
   | some u =>
     have e':b=a:=hA b (by rw [q];simp);subst e';rw [hK (by rw [q];simp)] at e;cases e)
  have hM:Mod K mg (mU xU.heap H):=⟨Ot,J3 Cd,⟨mb,J3 hb,KR⟩,let ⟨mc,h1,h2⟩:=KS;⟨mc,J3 h1,h2⟩⟩;have e0:uF P w K mg (mU xU.heap H) callerA [] xU H:=⟨rfl,hM,fun b o e=>uu e,Nat.le_of_eq (rO _ _),trivial,fun b hb=>absurd (show b∈([]:List UQ) from hb) (by simp),hok,.of_eq hg⟩;refine codeAny_mono ((F _ Ot (J3 Cd)).run callerA [] xU H ⟨[.ref a],[]⟩ [.ref a] [.ref a] _ _ hr e0 (GU xU (.ref a)) (.cons rfl .nil) (D4 H hO hS)) fun r s' h=>?_;cases r with
  | error e=>exact (KU H e s' h).elim
  | ok fl =>
    cases fl with
    | next=>exact X6 h
    | brk=>exact X6 h
    | cont=>exact X6 h
    | ret u =>
      obtain ⟨v,H',os,bare,un,KY,r',q⟩:=h;have q':v=.bl true:=q;subst q';obtain rfl:u=Value.bool true:=r';refine ⟨rfl,OldK.of_keep fun b o e=>?_,os,bare⟩;cases q:H b with
      | none=>exact un.keep b o e q (by intro z;exact absurd (show b∈([]:List UQ) from z) (by simp)) (by simp)
      | some u =>
        rcases hO b with z | ⟨ob,xs,z⟩
        · rw [q] at z;cases z
        · have z2:=un.frzs b ob _ z;obtain ⟨e1,_⟩:=hok b _ z;obtain ⟨e2,_⟩:=KY b _ z2;rw [e] at e1;cases e1;exact e2
 cases hk:K.lookup a with
 | some o =>
   -- AQ script is one of AQ GV own objects
   have e:=KX a o hk;rw [ha] at e;cases e;refine core (fun _=>none) (fun _=>.inl rfl) (.inr ⟨_,vs.toArray,_,hk,rfl,rfl,rfl,by rw [U0,KW];exact hl,by simpa using rv⟩) (fun b u z=>by have z':(none:Option HO)=some u:=z;cases z') (fun b z=>absurd rfl z) fun z=>absurd rfl z
 | none =>
   refine core (fun b=>if b=a then some (.frz { cls:=.type "list",data:=.seq vs.toArray } (.lst (ns.map V.int))) else none) (fun b=>?_) (.inl (.inr ⟨{ cls:=.type "list",data:=.seq vs.toArray },if_pos rfl⟩)) (fun b u z=>?_) (fun b z=>?_) fun _=>hk
   · by_cases hb:b=a
     · exact .inr ⟨_,_,if_pos hb⟩
     · exact .inl (if_neg hb)
   · by_cases hb:b=a
     · have z':=(if_pos hb).symm.trans z;cases z';subst hb;exact ⟨ha,by rw [UL];exact hl,vs,_,rv,ha⟩
     · have z':=(if_neg hb).symm.trans z;cases z'
   · by_cases hb:b=a
     · exact hb
     · exact absurd (if_neg hb) z
end L2
namespace L2
open PySem PySem.Spec PyProof.Rows
theorem uv {l:PySem.W.OpenLaw} {n k:Nat} {q:U6} {loose:List Vm} {XP:(Vm->Option UT)->V9->Prop} {YP:Vj->V9->Prop} {d:DefRec} {K:Params->UO} {CX:Vj->CXT} {sp:Vj->Sp} {x:Vm}
 (hn:l.most=some n) (Ou:n<=Vb) (hdf:d.params.defaults=[]) (hr:Room k callerA)
 (hY:∀ (w:Vj) (h:V9),YP w h->(K w.params).In h)
 (F:∀ (w:Vj) (mg:Vm->Option UT) (fa:UQ) (h:V9),(K w.params).In h->h.Ns VC mg->mg d.name=some (.ref fa) →
  ∃ fd:X5,(∀ (s:UY) (u:UT),BindsTo s fd ⟨[u],[]⟩ [(x,u)]) ∧
    ∀ base:V9,(K w.params).In base->base.Ns VC mg->bn l.prog w (K w.params) mg base (CX w) k fa fd [x] (sp w))
 (D4:∀ (w:Vj) (H:Hp) (a:UQ) (ns:List Int),ns.length<=n->vR H->SqL (K w.params) H a (ns.map V.int)->sp w [.ref a] H (fun v _=>v=.bl true) fun _ _ _=>False)
 (KU:∀ (w:Vj) (H:Hp) (s:UY) (e:UT) (s':UY),CX w [] H s (fun _ _ _=>False) e s'->False) :
 PySem.W.WalkO q loose XP YP l.row.toRowW d [] (fun f vs=>PySem.call f vs):=by
 refine Att.attach_call hn hdf fun w s₀ xU mg mb fa o pm cd doc a vs ns G Y ho hd B7 GS EW hints hlen hg=>?_;have KX:=hY w _ Y;obtain ⟨fd,hb,hF⟩:=F w mg fa _ KX G.T.g GS;exact tS KX G.T.g G.T.b G.T.builtins G.T.nolimit hg EW hints (WB hlen Ou) hr hF hb (fun H hO hS=>D4 w H a ns hlen hO hS) fun H e s'=>KU w H xU e s'
end L2
namespace L2
open PySem PySem.Spec PyProof.Rows
def cn (s:WM):Arguments:=match s with
 | .FunctionDef _ a _ _ _ _ _ _ _ _=>a
 | _=>{ posonlyargs:=[],args:=[],vararg:=none,kwonlyargs:=[],kw_defaults:=[],kwarg:=none,defaults:=[] }
def b9 (s:WM):List WM:=match s with
 | .FunctionDef _ _ b _ _ _ _ _ _ _=>b
 | _=>[]
def am (s:WM):YI:=match s with
 | .FunctionDef _ _ _ _ _ _ sc _ _ _=>sc
 | _=>{ kind:=.function,names:=[],isGenerator:=false,isCoroutine:=false }
abbrev CX0:CXT:=fun _ _ _ _ _ _=>False
abbrev E0:XK:=fun _ _ _=>False
theorem lv {X:Cx}:Passes CX0 X E0:=fun _ _ _ _ _ _ _ h=>h.elim
structure Fun (K:UO) (x qual:Vm) (st:WM) (f:UQ) (fd:X5):Prop where
 ex:∃ (oc:UT) (od:Option UQ) (kV doc pm:UT) (an:Option UQ) (yc ct:UT) (D3:Array (Option UT)),
  fd=Yb x qual (cn st) (b9 st) (am st) .none kV doc pm an yc ct/\K.lookup f=some ⟨oc,od,.func fd,D3⟩/\ZL K yc qual=true
 kp:ZK K (.ref f)=true
section
variable {P:U6} {w:Vj} {K:UO} {mg:Vm->Option UT} {base:V9}
theorem Fun.ok {x qual:Vm} {st:WM} {f:UQ} {fd:X5} {N ps:List Vm} {k:Nat} {sp:Sp} (F:Fun K x qual st f fd) (S:aA N ps (am st)) (len:∀ vs H Q E,sp vs H Q E->vs.length=ps.length)
 (Ca:∀ (yc:UT) (A:VF) (outer:List Env) (s:UY) (H:Hp) (vs:List V) (Q:VK) (E:XK),Room k (A.deeper (envOfC qual (am st) s.heap.objs.size f yc))->sp vs H Q E →
  ∃ t,PSs (sd CX0 P w K mg base N qual (am st) f yc A outer s H E).nox (b9 st) t/\t { nx:=fun _ H'=>Q .non H',rt:=Q } (start N vs) H):bn P w K mg base CX0 (k+1) f fd ps sp:=by
 obtain ⟨oc,od,kV,doc,pm,an,yc,ct,D3,rfl,lk,B7⟩:=F.ex;refine wK lk B7 S len fun A outer s H vs Q E hr D4=>?_;obtain ⟨t,h,q⟩:=Ca yc A outer s H vs Q E hr D4;exact ⟨t,h.nox,q⟩
theorem Fun.binds {x qual:Vm} {st:WM} {f:UQ} {fd:X5} {ps:List Vm} (F:Fun K x qual st f fd)
 (h:∀ (kV doc pm:UT) (an:Option UQ) (yc ct:UT) (us:List UT),us.length=ps.length->bindArgs (Yb x qual (cn st) (b9 st) (am st) .none kV doc pm an yc ct) ⟨us,[]⟩=pure (ps.zip us)):Binds K fd ps []:=by
 obtain ⟨oc,od,kV,doc,pm,an,yc,ct,D3,rfl,lk,B7⟩:=F.ex;exact .all (h kV doc pm an yc ct)
theorem fy {x qual:Vm} {st:WM} {f:UQ} {oc:UT} {od an:Option UQ} {D3:Array (Option UT)} {kV doc pm yc ct:UT} (l:K.lookup f=some ⟨oc,od,.func (Yb x qual (cn st) (b9 st) (am st) .none kV doc pm an yc ct),D3⟩)
 (c:ZL K yc qual=true) (k:ZK K (.ref f)=true):Fun K x qual st f (Yb x qual (cn st) (b9 st) (am st) .none kV doc pm an yc ct):=⟨⟨oc,od,kV,doc,pm,an,yc,ct,D3,rfl,l,c⟩,k⟩
end
theorem mB {A:VF} {k:Nat} (hr:Room k A):A.units+1<Ww:=Y2 (Nat.add_le_add_left (by decide:1<=64) _) hr.units
section
variable {X:Cx}
theorem pv (i:Nat) {x:Vm} {pos:YJ} (hN:X.N[i]?=some x:=by rfl) (hv:Vis X.env.scope x:=by first | exact U9 rfl | exact Zh (U9 rfl) | exact Zh (Zh rfl)) (hd:(x == ("__debug__":Vm))=false:=by decide)
 (B7:(x == ("__classdict__":Vm))=false:=by decide):PE X (.Name x pos) (bp i):=wc hN hv hd B7
end
theorem iG {A B:Prop} (h:B):if false=true then A else B:=by
 rw [if_neg Ve];exact h
theorem oD {A B:Prop} (h:A):if true=true then A else B:=by
 rw [if_pos rfl];exact h
theorem cP {c A B:Prop} [Decidable c] (h1:c->A) (h2:¬ c->B):if c then A else B:=by
 by_cases h:c
 · rw [if_pos h];exact h1 h
 · rw [if_neg h];exact h2 h
def Same (H H':Hp):Prop:=∀ b o,H b=some o->H' b=some o
theorem Same.refl (H:Hp):Same H H:=fun _ _ h=>h
theorem Same.trans {H H1 H2:Hp} (a:Same H H1) (b:Same H1 H2):Same H H2:=fun c o h=>b c o (a c o h)
theorem Same.free {H H':Hp} (e:Same H H') {l:UQ} (h:H' l=Option.none):H l=Option.none:=by
 cases q:H l with
 | none=>rfl
 | some o =>
   rw [e l o q] at h;cases h
theorem Same.seq {K:UO} {H H':Hp} {a:UQ} {xs:List V} (e:Same H H') (h:SqL K H a xs):SqL K H' a xs:=by
 rcases h with (h | ⟨o,h⟩) | h
 · exact .inl (.inl (e _ _ h))
 · exact .inl (.inr ⟨o,e _ _ h⟩)
 · exact .inr h
end L2
namespace L2
open PySem PySem.Spec PyProof.Rows
theorem ik (env:Env):∀ (ns:List (Vm×Xo)) (acc:List (Vm×UQ)),(∀ n,(n,Wg)∈ns->∃ c,env.cells.lookup n=some c) →
 (∀ x c,acc.lookup x=some c->env.cells.lookup x=some c) →
 ∃ cl,(forIn ns acc fun (x:Vm×Xo) (cs:List (Vm×UQ))=>(if (x.2 == Wg)=true then (do let a ← cellOf env x.1;pure (Xy ((x.1,a)::cs))) else pure (Xy cs):Sem _))=pure cl ∧
   (∀ x c,cl.lookup x=some c->env.cells.lookup x=some c)/\(∀ n,(n,Wg)∈ns->∃ c,cl.lookup n=some c)/\∀ n c,acc.lookup n=some c->cl.lookup n=some c
 | [],acc,_,ha=>⟨acc,rfl,ha,fun _ h=>by simp at h,fun _ _ h=>h⟩
 | (n,k)::r,acc,hf,ha=>by
   by_cases hk:k=Wg
   · subst hk;obtain ⟨c,hc⟩:=hf n Vk
     have Bu:∀ x c',((n,c)::acc).lookup x=some c'->env.cells.lookup x=some c':=fun x c' e=>by
      rw [Xk] at e;cases hx:x == n with
      | true =>
        rw [hx] at e;have e1:x=n:=by simpa using hx
        cases e;rw [e1];exact hc
      | false=>rw [hx] at e;exact ha x c' e
     obtain ⟨cl,h1,h2,h3,h4⟩:=ik env r ((n,c)::acc) (fun m hm=>hf m (Vf _ hm)) Bu;have up:∀ m c',((n,c)::acc).lookup m=some c'->cl.lookup m=some c':=h4;refine ⟨cl,?_,h2,?_,?_⟩
     · rw [Yw];have e0:cellOf env n=pure c:=by unfold cellOf;rw [hc]
       simp only [beq_self_eq_true,if_true,e0,pure_bind];exact h1
     · intro m hm;rcases Vd.mp hm with e | e
       · have:m=n:=by simpa using (Prod.mk.inj e).1
         subst this;exact ⟨c,up m c (by rw [Xk];simp)⟩
       · exact h3 m e
     · intro m c' e;by_cases hm:m=n
       · subst hm;have:=ha m c' e;rw [hc] at this;cases this;exact up m c (by rw [Xk];simp)
       · have Qr:(m == n)=false:=by simpa using hm
         exact up m c' (by rw [Xk,Qr];exact e)
   · have hb:(k == Wg)=false:=by simpa using hk
     obtain ⟨cl,h1,h2,h3,h4⟩:=ik env r acc (fun m hm=>hf m (Vf _ hm)) ha;refine ⟨cl,?_,h2,?_,h4⟩
     · rw [Yw];simp only [hb,V7,if_false,pure_bind];exact h1
     · intro m hm;rcases Vd.mp hm with e | e
       · exact absurd (Prod.mk.inj e).2.symm hk
       · exact h3 m e
theorem kJ {env:Env} {sc:YI} (hf:∀ n,(n,Wg)∈sc.names->∃ c,env.cells.lookup n=some c) :
 ∃ cl,closureFor sc env=pure cl/\(∀ x c,cl.lookup x=some c->env.cells.lookup x=some c)/\∀ n,(n,Wg)∈sc.names->∃ c,cl.lookup n=some c:=by
 obtain ⟨cl,h1,h2,h3,_⟩:=ik env sc.names [] hf (fun x c e=>by simp at e);refine ⟨cl,?_,h2,h3⟩;unfold closureFor;have e:(forIn sc.names ([]:List (Vm×UQ)) fun (x:Vm×Xo) (cs:List (Vm×UQ))=>(do if (x.2 == Wg)=true then (do let a ← cellOf env x.1;pure (Xy ((x.1,a)::cs))) else pure (Xy cs):Sem _))=pure cl:=h1
 first
  | (rw [show (forIn sc.names ([]:List (Vm×UQ)) _:Sem _)=pure cl from h1];rfl)
  | (simp only [h1,pure_bind])
theorem lr {f:Vm×Xo->Vm×Xo} (hf:∀ p,(f p).1=p.1):∀ {l:List (Vm×Xo)} {x:Vm} {k:Xo},l.lookup x=some k->(l.map f).lookup x=some (f (x,k)).2
 | [],_,_,h=>by simp at h
 | (n,k0)::r,x,k,h=>by
   have ih:=@lr f hf r x k;rw [VJ];obtain ⟨a,b,e⟩:∃ a b,f (n,k0)=(a,b):=⟨_,_,rfl⟩;have ea:a=n:=by have:=hf (n,k0);rw [e] at this;exact this
   subst ea;rw [e,Xk];cases hx:x == a with
   | true =>
     rw [Xk,hx] at h;cases h;have:x=a:=by simpa using hx
     subst this;rw [e]
   | false=>rw [Xk,hx] at h;exact ih h
theorem dS {f:Vm×Xo->Vm×Xo} (hf:∀ p,(f p).1=p.1):∀ {l:List (Vm×Xo)} {x:Vm} {k:Xo},(l.map f).lookup x=some k->∃ k0,(x,k0)∈l/\(f (x,k0)).2=k
 | [],_,_,h=>by simp at h
 | (n,k0)::r,x,k,h=>by
   have ih:=@dS f hf r x k;rw [VJ] at h;obtain ⟨a,b,e⟩:∃ a b,f (n,k0)=(a,b):=⟨_,_,rfl⟩;have ea:a=n:=by have:=hf (n,k0);rw [e] at this;exact this
   subst ea;rw [e,Xk] at h;cases hx:x == a with
   | true =>
     rw [hx] at h;cases h;have:x=a:=by simpa using hx
     subst this;exact ⟨k0,Vk,by rw [e]⟩
   | false =>
     rw [hx] at h;obtain ⟨k1,h1,h2⟩:=ih h;exact ⟨k1,Vf _ h1,h2⟩
def rlb (env:Env) (p:Vm×Xo):Vm×Xo:=if (p.2 == Wg && env.scope.kind == .function && env.kindOf p.1 == some .cell) then (p.1,Y0) else (p.1,p.2)
theorem nT (env:Env) (p:Vm×Xo):(rlb env p).1=p.1:=by unfold rlb;split <;> rfl
theorem gM (sc:YI) (env:Env):(relabel sc env).names=sc.names.map (rlb env):=rfl
theorem iU {sc:YI} {env:Env} {x:Vm} (h:sc.names.lookup x=some .free):(relabel sc env).names.lookup x=some .cell∨(relabel sc env).names.lookup x=some .free:=by
 rw [gM,lr (nT env) h];unfold rlb;split
 · exact .inl rfl
 · exact .inr rfl
theorem kD {sc:YI} {env:Env} {x:Vm} (hn:∀ y∈sc.names,y.2≠Y0) (h:(relabel sc env).names.lookup x=some .cell∨(relabel sc env).names.lookup x=some .free):(x,Wg)∈sc.names:=by
 rw [gM] at h
 have:∃ k0,(x,k0)∈sc.names/\((rlb env (x,k0)).2=.cell∨(rlb env (x,k0)).2=.free):=by
  rcases h with h | h
  · obtain ⟨k0,a,b⟩:=dS (nT env) h;exact ⟨k0,a,.inl b⟩
  · obtain ⟨k0,a,b⟩:=dS (nT env) h;exact ⟨k0,a,.inr b⟩
 obtain ⟨k0,hm,hk⟩:=this;have nc:=hn _ hm;cases k0 with
 | free=>exact hm
 | cell=>exact absurd rfl nc
 | _=>simp [rlb] at hk
def ce (X:Cx) (N:List Vm) (sc:YI) (cl:List (Vm×UQ)) (C:UQ) (s:UY) (H:Hp) (fp:List UQ) (pins:List (UQ×W0)):Cx :=
 { X with N:=N,s₀:=s,H₀:=H,env:=compEnvC sc cl C X.env,outer:=X.stack,ex:=fp,fn:=fun _=>false,pn:=X.pn++pins,xe:=fun _ _=>False }
def cσ (js:List (Option Nat)) (σ:St):St:=js.map fun o=>o.bind fun j=>(σ[j]?).join
structure eE (X:Cx) (sc:YI) (N:List Vm) (js:List (Option Nat)):Prop where
 kind:sc.kind=.function
 nocell:∀ y∈sc.names,y.2≠Y0
 names:∀ y∈sc.names,y.2=NameKind.local->sc.names.lookup y.1=some .local
 frees:∀ y∈sc.names,y.2=Wg->X.env.kindOf y.1=some .cell∨X.env.kindOf y.1=some .free
 len:js.length=N.length
 slots:∀ (i j:Nat) (x:Vm),js[i]?=some (some j)->N[i]?=some x->X.N[j]?=some x/\sc.names.lookup x=some .free/\(X.env.kindOf x=some .cell∨X.env.kindOf x=some .free)
theorem cx {X:Cx} {sc:YI} {N:List Vm} {js:List (Option Nat)} (k:sc.kind=.function) (nc:∀ y∈sc.names,y.2≠Y0) (nm:∀ y∈sc.names,y.2=NameKind.local->sc.names.lookup y.1=some .local)
 (fr:(sc.names.all fun y=>y.2 != Wg || X.env.kindOf y.1 == some Y0 || X.env.kindOf y.1 == some Wg)=true) (ln:js.length=N.length)
 (sl:((js.zip N).all fun p=>match p.1 with | none=>true | some j=>X.N[j]? == some p.2 && sc.names.lookup p.2 == some Wg && (X.env.kindOf p.2 == some Y0 || X.env.kindOf p.2 == some Wg))=true):eE X sc N js:=by
 refine ⟨k,nc,nm,fun y hy hf=>?_,ln,fun i j x e1 e2=>?_⟩
 · have h:=Xm.mp fr y hy;rw [hf] at h;simpa using h
 · have hm:(some j,x)∈js.zip N:=by
    have:(js.zip N)[i]?=some (some j,x):=by rw [WR];exact ⟨e1,e2⟩
    exact UP this
   have h:=Xm.mp sl _ hm;simp at h;exact ⟨h.1.1,h.1.2,h.2⟩
def PTs (X:Cx) (ifs:List V4) (t:TT):Prop :=
 ∀ (pins:List (UQ×W0)) (s:UY) (σ:St) (H:Hp) (Q:Bool->Hp->Prop),Inv X pins σ H s->t σ H Q →
   Va (Vw X.prog X.w) X.A (forIn ifs true fun c r=>if r=true then do let ok ← isTrue c X.env (Xf c X.env);pure (Xy ok) else pure (Xy r)) (TP X pins σ Q) X.xe s
def bH:TT:=fun _ H Q=>Q true H
theorem bS {X:Cx}:PTs X [] bH:=fun _ _ _ H _ I h=>wpAny_tests_nil ⟨H,I,h⟩
theorem iK {X:Cx} {c:V4} {t:TT} (h:PT X c t):PTs X [c] t:=fun pins s σ H Q I q=>wpAny_tests_one (h pins s σ H Q I q)
def Keep (σ xT:St):Prop:=σ.length=xT.length/\∀ (i:Nat) (v:V),σ[i]?=some (some v)->xT[i]?=some (some v)
def l7 (js:List (Option Nat)) (g:TG):Prop:=∀ (σ zR:St) (x:V) (H:Hp) (Q:St->Hp->Prop),Keep (cσ js σ) zR->g x zR H Q->g x zR H fun ym H2=>Keep (cσ js σ) ym/\Q ym H2
def nG (js:List (Option Nat)) (g:TGs):Prop:=∀ (σ zR:St) (x:List V) (H:Hp) (Q:St->Hp->Prop),Keep (cσ js σ) zR->g x zR H Q->g x zR H fun ym H2=>Keep (cσ js σ) ym/\Q ym H2
theorem Keep.refl (σ:St):Keep σ σ:=⟨rfl,fun _ _ h=>h⟩
theorem uo {js:List (Option Nat)} {σ:St} {i:Nat} (h:js[i]?=some none):(cσ js σ)[i]?=some none:=by
 unfold cσ;rw [UZ,h];rfl
theorem aR {js:List (Option Nat)} {i:Nat} (h:js[i]?=some none):l7 js (aG i):=fun σ zR x H Q k q=>by
 refine ⟨⟨by rw [ZE];exact k.1,fun j v e=>?_⟩,q⟩;by_cases hj:i=j
 · subst hj;rw [uo h] at e;cases e
 · rw [ZO hj];exact k.2 j v e
theorem f8 {js:List (Option Nat)}:nG js lQ:=fun σ zR x H Q k ⟨e,q⟩=>⟨e,k,q⟩
theorem bP {js:List (Option Nat)} {t:TG} {u:TGs} (mono:∀ x σ H (Q Q':St->Hp->Prop),(∀ a b,Q a b->Q' a b)->t x σ H Q->t x σ H Q') (h1:l7 js t) (h2:nG js u):nG js (cR t u):=fun σ zR x H Q k ⟨v,r,e,q⟩ =>
 ⟨v,r,e,mono _ _ _ _ _ (fun a b ⟨k',q'⟩=>h2 σ a r b Q k' q') (h1 σ zR v H _ k q)⟩
theorem aW {i:Nat}:∀ x σ H (Q Q':St->Hp->Prop),(∀ a b,Q a b->Q' a b)->aG i x σ H Q->aG i x σ H Q':=fun _ _ _ _ _ h q=>h _ _ q
theorem fN {js:List (Option Nat)} {K:UO} {n:Nat} {t:TGs} (h:nG js t):l7 js (lT K n t):=fun σ zR x H Q k ⟨a,xs,e,hs,hl,q⟩=>⟨a,xs,e,hs,hl,h σ zR xs H Q k q⟩
def fH (js:List (Option Nat)) (g:TG) (tt:TT) (te:TE) (σ:St) (J:It) (D:UQ) (n:Nat) (W:Nat->Hp->Prop) (fin:Hp->Prop):Prop :=
 ∀ i H,W i H->(J.stop i H/\fin H)∨(i<n/\J.go i H/\∀ x H1,J.yld i H x H1->g x (cσ js σ) H1 fun ym H2=>tt ym H2 fun b H3 =>
   if b=true then te ym H3 fun v H4=>∃ ys,H4 D=some (.lst ys)/\ys.length<Vb/\W (i+1) (upd H4 D (.lst (ys++[v]))) else W (i+1) H3)
def vk (js:List (Option Nat)) (wi:TI) (g:TG) (tt:TT) (te:TE):TE:=fun σ H Q=>wi σ H fun J H1=>∀ D,H1 D=none →
 ∃ (n:Nat) (W:Nat->Hp->Prop),W 0 (upd H1 D (.lst []))/\fH js g tt te σ J D n W fun H'=>Q (.ref D) H'
section
variable {X:Cx} {pins:List (UQ×W0)} {σ:St} {s:UY} {H:Hp}
theorem tJ {sc:YI} {N:List Vm} {js:List (Option Nat)} {cl:List (Vm×UQ)} {fp:List UQ} {h1:V9} {t':Nat} (S:eE X sc N js) (I:Inv X pins σ H s)
 (zY:∀ x c,cl.lookup x=some c->X.env.cells.lookup x=some c) (AW:∀ n,(n,Wg)∈sc.names->∃ c,cl.lookup n=some c)
 (hf:∀ b∈fp,jP X pins H b) (ye:∀ b∈fp,b<s.heap.objs.size) (Cd:h1.Ns s.heap.objs.size fun x=>List.lookup x ([]:List (Vm×UT)))
 (D5:∀ b o,s.heap.get? b=some o->h1.get? b=some o) :
 Inv (ce X N sc cl s.heap.objs.size s H fp pins) [] (cσ js σ) H { s with heap:=h1,toks:=t' }:=by
 have hok:(ce X N sc cl s.heap.objs.size s H fp pins).Ok :=
  { mod:=I.ok.mod
    kind:=S.kind
    glob:=I.ok.glob
    blt:=I.ok.blt
    above:=UR _
    inj:=fun x y c a b=>I.ok.inj x y c (zY x c a) (zY y c b)
    has:=fun x h=>AW x (kD S.nocell h)
    cab:=fun x c h=>by cases h
    hd:=I.ok.hd
    frames:=I.ok.frames
    stk:=.inl rfl
    exf:=fun b hb=>⟨fun e=>absurd (ye b hb) (by rw [e];exact Wo _),fun x c e z=>(hf b hb).2.2.2.2.1 x c (zY x c e) z⟩
    bs:=I.bs
    bsz:=WB I.ok.bsz I.sz
    noex:=fun b o e hb=>by
     rcases (hf b hb).2.2.2.1 with h | h
     · exact I.ok.noex b o e h
     · exact absurd (VS (VS (U7 e) I.ok.bsz) h) (Wo _)
    exfs:=fun b hb hm=>by
     rcases Vd.mp (I.stkSub b hm) with e | e
     · exact (hf b hb).2.1 e
     · exact (hf b hb).2.2.1 e
    funs:=I.stack
    frf:=I.stkFree }
 have hC:H s.heap.objs.size=none:=I.hok.fresh (UR _);obtain ⟨m0,KZ,BW⟩:=I.loc
 exact
  { ok:=hok
    os:=rfl
    bare:=I.bare
    base:=Un.kept D5
    loc:=⟨_,Cd,fun i x v e1 e2 Og=>by
     have Ai:∃ j,js[i]?=some (some j)/\σ[j]?=some (some v):=by
      unfold cσ at e2;rw [UZ] at e2;cases q:js[i]? with
      | none=>rw [q] at e2;cases e2
      | some o =>
        rw [q] at e2;cases o with
        | none=>cases e2
        | some j =>
          refine ⟨j,rfl,?_⟩;have e3:(σ[j]?).join=some v:=Vo e2;cases r:σ[j]? with
          | none=>rw [r] at e3;cases e3
          | some z=>rw [r] at e3;exact congrArg some e3
     obtain ⟨j,q1,q2⟩:=Ai;obtain ⟨n1,n2,n3⟩:=S.slots i j x q1 e1;obtain ⟨u,ru,look⟩:=BW j x v n1 q2 (by rcases n3 with z | z;exact .inr (.inl z);exact .inr (.inr z));refine ⟨u,ru,.inr ⟨iU n2,?_⟩⟩;have hm:(x,Wg)∈sc.names:=kD (env:=X.env) S.nocell (iU n2);obtain ⟨c,hc⟩:=AW x hm;refine ⟨c,hc,?_⟩;rcases look with ⟨k1,_⟩ | ⟨_,c',zh,ic⟩
     · rcases n3 with z | z <;> (rw [k1] at z;cases z)
     · have:=zY x c hc;rw [zh] at this;cases this;exact ic.keeps D5⟩
    cell:=fun x c e=>by
     obtain ⟨v,q⟩:=I.cell x c (zY x c e);exact ⟨v,q.keeps D5⟩
    free:=hC
    freeC:=fun x c e=>I.freeC x c (zY x c e)
    pin:=fun p hp=>by
     have zt:p∈X.pn++pins:=by simpa [ce] using hp
     obtain ⟨a1,a2,a3,a4,a5⟩:=I.pin p zt;refine ⟨D5 _ _ a1,a2,fun e=>?_,fun hm=>?_,a5⟩
     · have e':p.1=s.heap.objs.size:=e;exact absurd (U7 a1) (by rw [e'];exact Wo _)
     · rcases Vd.mp (I.stkSub p.1 hm) with e | e
       · exact a3 e
       · exact a4 e
    hok:=I.hok.kept D5
    len:=by
     show (cσ js σ).length=N.length;unfold cσ;rw [UL];exact S.len }
theorem sh {prog:U6} {w:Vj} {A:VF} {R:Result->UY->Prop} {elt target iter:V4} {ifs:List V4} {scope:YI} {pos:YJ} {it acc:UT} {env:Env} (J:Nat->UY->Prop)
 (turn:∀ n s,J n s->Va (Vw prog w) A (XH it) (fun r xU=>(r=none/\R (.ok .next) xU)∨∃ v,r=some v ∧
  Va (Vw prog w) A (ZY target it v) (fun _ yB=>Va (Vw prog w) A (assign target env v) (fun _ zW =>
   Va (Vw prog w) A (forIn ifs true fun c r=>if r=true then do let ok ← isTrue c env (Xf c env);pure (Xy ok) else pure (Xy r)) (fun ok Ce =>
    (ok=false/\∃ m,m<n/\J m Ce)∨(ok=true/\Va (Vw prog w) A (Xf elt env) (fun x GW=>Va (Vw prog w) A (call (.builtin "list.append") [acc,x]) (fun _ GX=>∃ m,m<n/\J m GX) (fun _ _=>False) GW) (fun _ _=>False) Ce))
    (fun _ _=>False) zW) (fun _ _=>False) yB) (fun _ _=>False) xU) (fun _ _=>False) s)
 {s:UY} (n:Nat) (h:J n s):YQ (Vw prog w) A (.compLoop (.ListComp elt [⟨target,iter,ifs,0⟩] scope pos) 0 it acc env) R s:=by
 refine codeAny_loop rfl J (fun n s hJ=>?_) n h;show Va _ A ((compTurn (.ListComp elt [⟨target,iter,ifs,0⟩] scope pos) 0 it acc env).onRaise _) _ _ s;refine wpAny_noted ?_;rw [compTurn_list];have up:∀ {α:Type} {m:Sem α} {Q:α->UY->Prop} {E:UT->UY->Prop} {s:UY},Va (Vw prog w) A m Q (fun _ _=>False) s->Va (Vw prog w) A m Q E s:=fun q=>WU q (fun _ _ z=>z) fun _ _ z=>z.elim;refine UM (wpAny_standAt (UM (WU (up (turn n s hJ)) (fun r xU yi=>?_) fun _ _ z=>z)));rcases yi with ⟨rfl,yi⟩ | ⟨v,rfl,yi⟩
 · exact UX yi
 · refine UM (WU (up yi) (fun _ yB yS=>?_) fun _ _ z=>z);refine UM (WU (up yS) (fun _ zW Av=>?_) fun _ _ z=>z);refine UM (WU (up Av) (fun ok Ce yC=>?_) fun _ _ z=>z);rcases yC with ⟨rfl,yC⟩ | ⟨rfl,yC⟩
   · exact UX ⟨rfl,yC⟩
   · exact UM (UM (WU (up yC) (fun x GW yD=>UM (WU (up yD) (fun _ GX K0=>UX (UX ⟨rfl,K0⟩)) fun _ _ z=>z)) fun _ _ z=>z))
theorem kw {elt tg iter:V4} {ifs:List V4} {sc:YI} {pos:YJ} {N:List Vm} {js:List (Option Nat)} {g:TG} {tt:TT} {te:TE} {cl:List (Vm×UQ)} {fp:List UQ} {it:UQ} {tn:Nat->V9->Prop} {J:It} {n:Nat} {W:Nat->Hp->Prop} {fin:Hp->Prop}
 {R:UT->UQ->Result->UY->Prop} (hc:X.calm=true) (S:eE X sc N js) (I:Inv X pins σ H s) (T:Turn X.prog X.w X.K tg J fp it tn) (st:tn 0 s.heap) (hf:∀ b∈fp,jP X pins H b)
 (zY:∀ x c,cl.lookup x=some c->X.env.cells.lookup x=some c) (AW:∀ n,(n,Wg)∈sc.names->∃ c,cl.lookup n=some c)
 (hg:∀ cl C s H fp pins,PG (ce X N sc cl C s H fp pins) tg g) (gk:l7 js g) (ht:∀ cl C s H fp pins,PTs (ce X N sc cl C s H fp pins) ifs tt) (he:∀ cl C s H fp pins,PE (ce X N sc cl C s H fp pins) elt te)
 (w0:W 0 (upd H s.heap.objs.size (.lst []))) (turn:fH js g tt te σ J s.heap.objs.size n W fin)
 (hR:∀ C H' s',C≠X.env.locals->s.heap.objs.size<C->(∃ m,s'.heap.Ns C m)->H' C=none->(∀ h' t',WH C s'.heap h'->Inv X pins σ H' { s' with heap:=h',toks:=t' })->fin H'->R (.ref s.heap.objs.size) C (.ok .next) s') {E:UT->UY->Prop} :
 Va (Vw X.prog X.w) X.A (newList []) (fun acc zW=>Va (Vw X.prog X.w) X.A (newFunctionEnv sc X.env.globals cl [] X.env.qual none .none (some X.env)) (fun GY Ce =>
  YQ (Vw X.prog X.w) X.A (.compStart (.ListComp elt [⟨tg,iter,ifs,0⟩] sc pos) 0 (.ref it) acc { GY with scope:=relabel sc X.env }) (R acc GY.locals) Ce) E zW) E s:=by
 refine V1 (wpAny_newFunctionEnv S.nocell (by intro y hy;simp at hy) (fun yi AX AY=>?_) S.kind);dsimp only at AX AY ⊢;have I3:Inv X pins σ (upd H s.heap.objs.size (.lst [])) { s with heap:=s.heap.push { cls:=.type "list",dict:=none,data:=.seq ([]:List UT).toArray } }:=I.lnew (t':=s.toks) (its:=[]) .nil (by decide)
 have ye:∀ b∈fp,b<s.heap.objs.size:=fun b hb=>by
  obtain ⟨o,ho,_⟩:=T.obj _ _ st b hb;exact U7 ho
 have D6:∀ b o,s.heap.get? b=some o->(s.heap.push { cls:=.type "list",dict:=none,data:=.seq ([]:List UT).toArray }).get? b=some o:=fun b o e=>UW _ e;have hsz:(s.heap.push { cls:=.type "list",dict:=none,data:=.seq ([]:List UT).toArray }).objs.size=s.heap.objs.size+1:=V8 ..;generalize Ov:({ s with heap:=s.heap.push { cls:=.type "list",dict:=none,data:=.seq ([]:List UT).toArray } }:UY)=s3 at I3;have GZ:s.heap.push { cls:=.type "list",dict:=none,data:=.seq ([]:List UT).toArray }=s3.heap:=by rw [<- Ov]
 rw [GZ] at AX AY D6 hsz;rw [GZ];have K1:∀ t',({ s with heap:=yi,toks:=t' }:UY)={ s3 with heap:=yi,toks:=t' }:=fun t'=>by rw [<- Ov]
 rw [K1];have D5:∀ b o,s3.heap.get? b=some o->yi.get? b=some o:=fun b o e=>AY.extBut b o (Vy (U7 e)) (UW _ e);have K2:∀ b∈fp,jP X pins (upd H s.heap.objs.size (.lst [])) b:=fun b hb=>⟨by rw [ai (Vy (ye b hb))];exact (hf b hb).1,(hf b hb).2⟩;have I4:=tJ (t':=s.toks+([]:List (Vm×UT)).length) S I3 zY AW K2 (fun b hb=>by rw [hsz];exact YB (ye b hb)) AX D5;generalize Tw:upd H s.heap.objs.size (.lst [])=H3 at I3 I4 K2 w0;have y8:tn 0 yi:=T.keep _ _ _ st fun b hb o e=>D5 _ _ (D6 _ _ e)
 have AS:∀ {H':Hp},(∀ b∈fp,H' b=none)->∀ b∈fp,jP (ce X N sc cl s3.heap.objs.size s3 H3 fp pins) [] H' b:=fun {H'} hn b hb=>by
  obtain ⟨f0,f1,f2,f3,f4,f5⟩:=hf b hb;refine ⟨hn b hb,fun e=>?_,fun hm=>?_,.inl hb,fun x c e=>f4 x c (zY x c e),fun p hp=>f5 p (by simpa [ce] using hp)⟩
  · have e':b=s3.heap.objs.size:=e;have h9:b<s.heap.objs.size:=ye b hb;rw [e',hsz] at h9;exact absurd h9 (Y1.mpr (Nat.le_succ _))
  · rcases Vd.mp (I.stkSub b hm) with e | e
    · exact f1 e
    · exact f2 e
 have loop:YQ (Vw X.prog X.w) X.A (.compLoop (.ListComp elt [⟨tg,iter,ifs,0⟩] sc pos) 0 (.ref it) (.ref s.heap.objs.size) (compEnvC sc cl s3.heap.objs.size X.env)) (R (.ref s.heap.objs.size) s3.heap.objs.size)
  { s3 with heap:=yi,toks:=s.toks+([]:List (Vm×UT)).length }:=by
  refine sh (fun k s'=>∃ i H',Inv (ce X N sc cl s3.heap.objs.size s3 H3 fp pins) [] (cσ js σ) H' s'/\tn i s'.heap/\(∀ b∈fp,H' b=none)/\W i H'/\k=n - i) ?_ n ⟨0,H3,I4,y8,fun b hb=>(K2 b hb).1,w0,rfl⟩;rintro k s5 ⟨i,H5,I5,F5,J2,w5,rfl⟩;rcases turn i H5 w5 with ⟨stop,qn⟩ | ⟨AH,go,step⟩
  · refine thn (T.done (ce X N sc cl s3.heap.objs.size s3 H3 fp pins) rfl rfl rfl hc i [] s5 (cσ js σ) H5 _ I5 (AS J2) F5 stop) fun r s6 ⟨hr,I6⟩=>.inl ⟨hr,?_⟩;have I7:Inv X pins σ H5 s6:=I3.call' (ch:=fp) (I6.os.trans rfl) I6.base I6.hok I6.bare fun b hb=>⟨(hf b hb).2.2.2.1,(hf b hb).2.1,(hf b hb).2.2.2.2.1,(hf b hb).2.2.2.2.2⟩;have Ow:H5 s3.heap.objs.size=none:=I6.free;have Ox:s3.heap.objs.size≠X.env.locals:=Yc I3.lt;obtain ⟨m6,Qs,_⟩:=I6.loc;refine hR s3.heap.objs.size H5 s6 Ox (by omega) ⟨m6,Qs⟩ Ow (fun h' t' sb=>?_) qn;refine I7.turned (it:=s3.heap.objs.size) (fun b o hb e=>sb.extBut b o hb e) Ow Ox (.inr I3.sz) (fun x c e z=>?_) fun p hp z=>?_
    · obtain ⟨v,q⟩:=I3.cell x c e;exact absurd q.lt (by rw [z];exact Wo _)
    · exact absurd (U7 (I3.pin p hp).1) (by rw [z];exact Wo _)
  · refine thn (T.item (ce X N sc cl s3.heap.objs.size s3 H3 fp pins) rfl rfl rfl hc i [] s5 (cσ js σ) H5 _ I5 (AS J2) F5 go) fun r s6 ⟨u,hr,h6⟩=>.inr ⟨u,hr,?_⟩;refine thn h6 fun _ s7 ⟨x,H7,I7,r7,y7,K3,Qt⟩=>?_;have Qu:=I7.pinned (AS Qt) (T.obj _ _ K3);refine thn (hg cl s3.heap.objs.size s3 H3 fp pins _ s7 (cσ js σ) H7 x u _ Qu r7 (gk σ (cσ js σ) x H7 _ (.refl _) (step x H7 y7))) fun _ s8 ⟨K4,H8,I8,k8,q8⟩=>?_;refine thn (ht cl s3.heap.objs.size s3 H3 fp pins _ s8 K4 H8 _ I8 q8) fun ok s9 ⟨H9,I9,q9⟩=>?_
    have again:∀ {s':UY} {xT:St} {H':Hp},Keep (cσ js σ) xT->Inv (ce X N sc cl s3.heap.objs.size s3 H3 fp pins) ([]++ll fp s7.heap) xT H' s'->W (i+1) H'->∃ m,m<n - i/\∃ i H',Inv (ce X N sc cl s3.heap.objs.size s3 H3 fp pins) [] (cσ js σ) H' s'/\tn i s'.heap/\(∀ b∈fp,H' b=none)/\W i H'/\m=n - i:=fun {s' xT H'} kp I' w'=>by
     refine ⟨n - (i+1),by omega,i+1,H',(I'.unpinned).weak kp.1 kp.2,T.keep _ _ _ K3 fun b hb o e=>(I'.pin (b,o) (VI _ (VI _ (fz hb e)))).1,fun b hb=>?_,w',rfl⟩;obtain ⟨o,e,d⟩:=T.obj _ _ K3 b hb;exact (I'.pin (b,o) (VI _ (VI _ (fz hb e)))).2.1
    cases ok with
    | false =>
      refine .inl ⟨rfl,again k8 I9 ?_⟩;have Oy:if false=true then _ else W (i+1) H9:=q9
      rw [if_neg Ve] at Oy;exact Oy
    | true =>
      refine .inr ⟨rfl,?_⟩;rw [if_pos rfl] at q9;refine thn (he cl s3.heap.objs.size s3 H3 fp pins _ s9 K4 H9 _ I9 q9) fun vv yG ⟨v,yH,Qv,rv,ys,hD,G0,Qw⟩=>?_;refine thn (aN _ yG K4 yH (.ref s.heap.objs.size) [v] (.ref s.heap.objs.size) [vv] (fun _ H'=>W (i+1) H') Qv rfl (.cons rv .nil) ⟨_,ys,v,rfl,rfl,hD,G0,Qw⟩) fun _ yI ⟨_,yQ,Qx,_,Qy⟩=>?_;exact again k8 Qx Qy
 exact codeAny_compStart_list loop (T.self X.A 0 _ _ _ y8 loop)
theorem cD {elt tg iter:V4} {ifs:List V4} {sc:YI} {pos:YJ} {N:List Vm} {js:List (Option Nat)} {wi:TI} {g:TG} {tt:TT} {te:TE} (hc:X.calm=true) (S:eE X sc N js) (hi:PI X tg iter wi)
 (hg:∀ cl C s H fp pins,PG (ce X N sc cl C s H fp pins) tg g) (gk:l7 js g) (ht:∀ cl C s H fp pins,PTs (ce X N sc cl C s H fp pins) ifs tt) (he:∀ cl C s H fp pins,PE (ce X N sc cl C s H fp pins) elt te)
 (hs:∀ x,foldedSetIterable iter X.env x=pure x:=by intro _;rfl):PE X (.ListComp elt [⟨tg,iter,ifs,0⟩] sc pos) (vk js wi g tt te):=by
 intro pins s σ H Q I h;obtain ⟨cl,e1,e2,e3⟩:=kJ (env:=X.env) (sc:=sc) fun n hn=>I.ok.has n (S.frees _ hn rfl);rw [eval_ListComp];refine wpAny_comprehension_free (use:=none) rfl hs e1 S.kind S.names (thn (hi pins s σ H _ I h) fun v s1 h1=>thn h1 fun J1 s2 h2=>?_);obtain ⟨it,fp,tn,J,H2,rfl,I2,T,AR,f2,R2⟩:=h2;obtain ⟨n,W,w0,turn⟩:=R2 s2.heap.objs.size I2.fresh;refine kw (R:=fun acc C=>compPost (Vw X.prog X.w) X.A X.xe none (EP X pins σ Q) acc C) hc S I2 T AR f2 e2 e3 hg gk ht he w0 turn fun C H' s' _ _ hn _ inv fi=>?_;obtain ⟨m,hm⟩:=hn;exact ⟨m,hm,fun h' sb=>⟨.ref s2.heap.objs.size,H',inv h' s'.toks sb,rfl,fi⟩⟩
theorem di {i:Nat} {y:Vm} {elt tg iter:V4} {ifs:List V4} {sc:YI} {pos G1 py:YJ} {N:List Vm} {js:List (Option Nat)} {wi:TI} {g:TG} {tt:TT} {te:TE} (hN:X.N.Nodup) (hy:X.N[i]?=some y) (Qz:Loc X.env.scope y) (hc:X.calm=true) (S:eE X sc N js) (hi:PI X tg iter wi)
 (hg:∀ cl C s H fp pins,PG (ce X N sc cl C s H fp pins) tg g) (gk:l7 js g) (ht:∀ cl C s H fp pins,PTs (ce X N sc cl C s H fp pins) ifs tt) (he:∀ cl C s H fp pins,PE (ce X N sc cl C s H fp pins) elt te)
 (QA:swapsWith (.ListComp elt [⟨tg,iter,ifs,0⟩] sc pos) (some (.Name y py)) G1.line X.env=pure true:=by rfl)
 (hs:∀ x,foldedSetIterable iter X.env x=pure x:=by intro _;rfl) (hf:X.fn y=true∨X.env.scope.names.lookup y=some .local:=by first | exact .inl rfl | exact .inr rfl | assumption) :
 PS X (.Assign [.Name y py] (.ListComp elt [⟨tg,iter,ifs,0⟩] sc pos) G1) (vH (vk js wi g tt te) (aG i)):=by
 intro pins s σ H D I h;obtain ⟨cl,e1,e2,e3⟩:=kJ (env:=X.env) (sc:=sc) fun n hn=>I.ok.has n (S.frees _ hn rfl);rw [exec_Assign_Name_used _ _ _ _ QA];refine UM (wpAny_standAt (UM ?_));show Va _ X.A (do let _ ← comprehension (.ListComp elt [⟨tg,iter,ifs,0⟩] sc pos) sc X.env _ (newList []) false (Xf iter X.env) (some (assign (.Name y py) X.env))) _ _ s;refine UM (WU (wpAny_comprehension_free (use:=some (assign (.Name y py) X.env)) (Q:=fun _ s'=>SP X pins D .next s') rfl hs e1 S.kind S.names (thn (hi pins s σ H _ I h) fun v s1 h1=>thn h1 fun J1 s2 h2=>?_)) (fun _ s' hq=>UX (UX hq)) fun _ _ z=>z);obtain ⟨it,fp,tn,J,H2,rfl,I2,T,AR,f2,R2⟩:=h2;obtain ⟨n,W,w0,turn⟩:=R2 s2.heap.objs.size I2.fresh;refine kw (R:=fun acc C=>compPost (Vw X.prog X.w) X.A X.xe (some (assign (.Name y py) X.env)) (fun _ s'=>SP X pins D .next s') acc C) hc S I2 T AR f2 e2 e3 hg gk ht he w0 turn fun C H' s' Oz hC hn QB inv fi=>?_;obtain ⟨m,hm⟩:=hn
 have I5:Inv X pins σ H' s':=by
  have q:=inv s'.heap s'.toks (.refl ..);exact q
 refine wpAny_assign_Name (l9 (v:=.ref s2.heap.objs.size) I5 hN hy Qz rfl (fun s6 I6 ⟨a,sb,ha⟩=>?_) hf)
 have QC:C≠a:=by
  rcases ha with ha | ha
  · rw [ha];exact Oz
  · intro z;obtain ⟨v,q⟩:=I2.cell y a ha;exact absurd (Yd q.lt hC) (by rw [z];exact Wo _)
 refine ⟨m,hm.sameBut sb QC,fun h' QD=>⟨_,H',I6.turned (it:=C) (t':=s6.toks) (fun b o hb e=>QD.extBut b o hb e) QB Oz (.inr (WB I2.sz (Ye hC))) (fun x c e z=>?_) fun p hp z=>?_,fi⟩⟩
 · obtain ⟨v,q⟩:=I2.cell x c e;exact absurd (Yd q.lt hC) (by rw [z];exact Wo _)
 · exact absurd (Yd (U7 (I2.pin p hp).1) hC) (by rw [z];exact Wo _)
end
end L2
namespace L2
open PySem PySem.Spec PyProof.Rows
def jN {α:Type} (xs:List α) (lo hi:Option Int):List α:=(xs.drop (HT.sIx xs.length 0 lo)).take (HT.sIx xs.length xs.length hi - HT.sIx xs.length 0 lo)
def dJ (z:Vm) (lo hi:Option Int):Vm:=⟨(jN z.cps.toList lo hi).toArray⟩
theorem tj {α:Type} (xs:List α) (a n:Nat):((Vp n).map fun (k:Nat)=>a+k).filterMap (xs[·]?)=(xs.drop a).take n:=by
 induction n with
 | zero=>simp
 | succ n ih =>
   rw [ZD,U5,List.filterMap_append,ih,Wb];congr 1;rw [List.getElem?_drop];cases h:xs[a+n]? <;> simp [h]
theorem sC (n d:Nat) (i:Int):max 0 (min (if i<0 then i+(n:Int) else i) (n:Int))=((HT.sIx n d (some i):Nat):Int):=by
 show max 0 (min (if i<0 then i+(n:Int) else i) (n:Int))=(((if i<0 then (i+(n:Int)).toNat else min i.toNat n):Nat):Int);by_cases h:i<0
 · rw [if_pos h,if_pos h];omega
 · rw [if_neg h,if_neg h];omega
theorem ue (A B:Int) (a b:Nat) (hA:A=(a:Int)) (hB:B=(b:Int)):sliceRange A B 1=(Vp (b - a)).map fun (k:Nat)=>a+k:=by
 subst hA;subst hB;unfold sliceRange;simp only [show (1:Int) > 0 by decide,if_true]
 have c:(if (a:Int)<(b:Int) then ((b:Int) - a+1 - 1) / 1 else 0).toNat=b - a:=by
  split
  · rw [Int.ediv_one];omega
  · omega
 rw [c];refine YX fun k _=>?_;omega
theorem qy (lo hi:Option Int) (n:Nat):Zj lo hi 1 n=(Vp (HT.sIx n n hi - HT.sIx n 0 lo)).map fun (k:Nat)=>HT.sIx n 0 lo+k:=by
 unfold Zj;simp only [show (1:Int) > 0 by decide,if_true];cases lo <;> cases hi <;> refine ue _ _ _ _ ?_ ?_ <;> first | rfl | exact sC _ _ _
theorem ox (z:Vm) (lo hi:Option Int):(dJ z lo hi).length<=z.length:=by
 show (jN z.cps.toList lo hi).toArray.size<=z.cps.size;unfold jN;rw [U0,VE,Wa,Vz];omega
theorem lP (x:Vm) (t:Tok) (l u:Option (Int×Tok)) {Q:UT->UY->Prop} {s:UY} (hz:x.length<=Vb) (h:∀ t' k,Q (.str (dJ x (l.map (·.1)) (u.map (·.1))) t') { s with toks:=k }):(sliceMade x t l u none).post Q s:=by
 have e:(Z8 x l u none).filterMap (x.cps[·]?)=jN x.cps.toList (l.map (·.1)) (u.map (·.1)):=by
  unfold Z8 jN;show (Zj (l.map (·.1)) (u.map (·.1)) 1 x.length).filterMap (x.cps[·]?)=_;rw [qy,show (x.cps[·]?)=(x.cps.toList[·]?) from funext fun i=>(XY ..).symm,tj,Vz];rfl
 unfold sliceMade;split
 · rename_i hc
   have hl:(Z8 x l u none).length=x.length:=by
    have:=(WC _ _ ▸ hc).2;simpa using this
   have hw:dJ x (l.map (·.1)) (u.map (·.1))=x:=by
    have e2:(jN x.cps.toList (l.map (·.1)) (u.map (·.1)))=x.cps.toList:=by
     have hp:Z8 x l u none=(Vp (HT.sIx x.length x.length (u.map (·.1)) - HT.sIx x.length 0 (l.map (·.1)))).map fun (k:Nat)=>HT.sIx x.length 0 (l.map (·.1))+k:=qy _ _ _;rw [hp,UL,Vx] at hl;have b1:=HT.sIx_le x.length x.length (UR _) (u.map (·.1));have hx:x.cps.toList.length=x.length:=Vz;unfold jN;rw [hx,hl];have C0:HT.sIx x.length 0 (l.map (·.1))=0∨x.length=0:=by omega
     rcases C0 with h0 | h0
     · rw [h0,W6,Wh (by rw [hx];exact UR _)]
     · have:x.cps.toList=[]:=Wc.mp (by rw [hx];exact h0);rw [this];simp
    unfold dJ;rw [e2]
   have:=h t s.toks;rw [hw] at this;exact this
 · show (⟨((Z8 x l u none).filterMap (x.cps[·]?)).toArray⟩:Vm).length<=Vb/\Q _ _;rw [e];exact ⟨WB (ox x _ _) hz,h s.toks (s.toks+1)⟩
section
variable {X:Cx}
inductive u5 (x:V) (lo:Option Int) (hi:Option Int) (H:Hp) (Q:VK):Prop
 | mk (z:_) (yf:x=.str z) (yg:z.length<=Vb) (yl:Q (.str (dJ z lo hi)) H):u5  x lo hi H Q
def xy:V->Option Int->Option Int->Hp->VK->Prop:=u5
theorem part_of {v:UT} {o:Option Int} (h:ZV v o):∃ l:Option (Int×Tok),v=partValue l/\l.map (·.1)=o:=by
 cases h with
 | none=>exact ⟨none,rfl,rfl⟩
 | int i t=>exact ⟨some (i,t),rfl,rfl⟩
theorem pW:SlR X xy:=by
 intro pins s σ H x v vl vu lo hi sl Q I rx hs pl pu h;obtain ⟨z,rfl,hz,q⟩:=h;obtain ⟨t,rfl⟩:=rx;obtain ⟨l,rfl,rfl⟩:=part_of pl;obtain ⟨u,rfl,rfl⟩:=part_of pu;refine ⟨"str",_,F.slot_str_getitem.lookup,typeIs_str s z t,wpAny_getItem_str_slice (l:=l) (u:=u) (st:=none) ?_ rfl (lP z t l u hz fun t' k=>?_)⟩
 · obtain ⟨o,ho,hc,hd⟩:=hs;exact ⟨o,ho,hc,hd⟩
 · exact ⟨.str (dJ z (l.map (·.1)) (u.map (·.1))),H,I.tok k,⟨_,rfl⟩,q⟩
theorem tR {T:String} {b:Bool} {t:UT}:fJ X (.builtin "isinstance") (fun xs H Q=>∃ x,xs=[x,.ty T]/\iW X.K H x t/\X4 X.K t (.type T)=some b/\Q (.bl b) H):=by
 intro pins s σ H xs us Q I r h;obtain ⟨x,rfl,ty,k,q⟩:=h;obtain ⟨u,w',rfl,r1,r2⟩:=vals2 r;cases r2;exact sg I r1 ty k fun tk=>⟨.bl b,H,I.tok tk,rfl,q⟩
end
end L2
namespace PySem
namespace F
theorem bb_owner_rev:Manifest.owners.lookup (String.ofList ['d','e','s','r','e','v','e','r'].reverse)=some Manifest.sig_reversed:=by kernel_rfl
theorem bb_slot_rev_next:Slot "reversed" "__next__" "reversed.__next__" :=
 .of (owner:="reversed") (n:="__next__") (by rw [WL,Wf];kernel_rfl) (by decide +kernel) (by decide +kernel) (by decide +kernel)
  (by first | exact .inl (by decide +kernel) | exact .inr (by decide +kernel)) (by rw [XO];kernel_rfl)
theorem bb_entry_rev_next:entryFor table "reversed.__next__"=some Xv.«reversed.__next__»:=entryFor_of_tree (by kernel_rfl)
theorem bb_args_rev_next (a:UT):argsOk "reversed.__next__" ⟨[a],[]⟩:=by
 unfold argsOk;rw [signature?_of (id:="reversed.__next__") (n:=['_','_','t','x','e','n','_','_']) (o:=['d','e','s','r','e','v','e','r']) (by kernel_rfl) bb_owner_rev];kernel_rfl
theorem bb_slot_rev_iter:Slot "reversed" "__iter__" "reversed.__iter__" :=
 .of (owner:="reversed") (n:="__iter__") (by rw [WL,Wf];kernel_rfl) (by decide +kernel) (by decide +kernel) (by decide +kernel)
  (by first | exact .inl (by decide +kernel) | exact .inr (by decide +kernel)) (by rw [XO];kernel_rfl)
theorem bb_args_rev_iter (a:UT):argsOk "reversed.__iter__" ⟨[a],[]⟩:=by
 unfold argsOk;rw [signature?_of (id:="reversed.__iter__") (n:=['_','_','r','e','t','i','_','_']) (o:=['d','e','s','r','e','v','e','r']) (by kernel_rfl) bb_owner_rev];kernel_rfl
theorem bb_entry_rev_iter:entryFor table "reversed.__iter__"=some Xv.«dict_keyiterator.__iter__» :=
 entryFor_alias (id':="dict_keyiterator.__iter__") (by kernel_rfl) (by first | rfl | decide +kernel | (unfold String.splitOn;simp +decide [String.splitOnAux])) (by decide +kernel) (by kernel_rfl)
theorem bb_slot_rev_hint:Slot "reversed" "__length_hint__" "reversed.__length_hint__" :=
 .of (owner:="reversed") (n:="__length_hint__") (by rw [WL,Wf];kernel_rfl) (by decide +kernel) (by decide +kernel) (by decide +kernel)
  (by first | exact .inl (by decide +kernel) | exact .inr (by decide +kernel)) (by rw [XO];kernel_rfl)
theorem bb_entry_rev_hint:entryFor table "reversed.__length_hint__"=some Xv.«reversed.__length_hint__»:=entryFor_of_tree (by kernel_rfl)
theorem bb_args_rev_hint (a:UT):argsOk "reversed.__length_hint__" ⟨[a],[]⟩:=by
 unfold argsOk;rw [signature?_of (id:="reversed.__length_hint__") (n:=['_','_','t','n','i','h','_','h','t','g','n','e','l','_','_']) (o:=['d','e','s','r','e','v','e','r']) (by kernel_rfl) bb_owner_rev];kernel_rfl
theorem bb_nolen_rev:Ym (.type "reversed") "__len__"=pure none:=by rw [WL,Wf];kernel_rfl
theorem bb_nolen_lri:Ym (.type "list_reverseiterator") "__len__"=pure none:=by rw [WL,Wf];kernel_rfl
theorem bb_hint_lri:Ym (.type "list_reverseiterator") "__length_hint__"=pure (some (.builtin "list_reverseiterator.__length_hint__")):=by rw [WL,Wf];kernel_rfl
theorem bb_tuple_norev:Ym (.type "tuple") "__reversed__"=pure none:=by rw [WL,Wf];kernel_rfl
theorem bb_sub_rev_rev:isSubtype (.type "reversed") (.type "reversed")=pure true:=by rw [XO];kernel_rfl
theorem bb_sub_tuple_dict:isSubtype (.type "tuple") (.type "dict")=pure false:=by rw [XO];kernel_rfl
end F
end PySem
namespace PySem
open Sem (wp)
section
variable {prog:U6} {w:Vj} {A:VF} {E:UT->UY->Prop} {s:UY}
theorem bb_slot_rev_init:Slot "reversed" "__init__" "object.__init__" :=
 .of (owner:="object") (n:="__init__") (by rw [WL,Wf];kernel_rfl) (by decide +kernel) (by decide +kernel) (by decide +kernel)
  (by first | exact .inl (by decide +kernel) | exact .inr (by decide +kernel)) (by rw [XO];kernel_rfl)
theorem bb_called_rev:TypeCalled "reversed" "reversed.__new__" "object.__init__" :=
 ⟨by decide +kernel,by decide +kernel,⟨_,_,F.mro_reversed⟩,F.made_reversed,by decide +kernel,F.bb_sub_rev_rev,bb_slot_rev_init⟩
def revTup (t:UQ) (i:Int):W0:={ cls:=.type "reversed",data:=.fields #[.ref t,Xe i] }
theorem bb_meets_rev_tuple (t:UQ) (items:Array UT) (hz:(items.size:Int)<2 ^ 63) :
 Meets (Xv.«reversed.__new__» ⟨[.type "reversed",.ref t],[]⟩) (fun _ R s=>XM s.heap t items/\∀ tk,R (.ok (.ret (.ref s.heap.objs.size))) { s with heap:=s.heap.push (revTup t ((items.size:Int) - 1)),toks:=tk }):=by
 refine .of_wp fun prog w A R s h=>?_;obtain ⟨ht,h⟩:=h;unfold Xv.«reversed.__new__»;refine UM (X0 (newClass_reversed _) ?_)
 try dsimp only
 refine UM (X0 (a:=()) (by first | rfl | kernel_rfl) ?_);refine UM (X0 (a:=()) (by first | rfl | kernel_rfl) ?_)
 try dsimp only
 refine UM (Wr ht.typeIs F.bb_tuple_norev ?_)
 try dsimp only
 have Tx:=F.bb_sub_tuple_dict;have Tz:=VG.lookup;have hT:s.TypeIs (.ref t) "tuple":=ht.typeIs
 wp_walk using PyProof.Rows.len_tuple ht hz,Xr hT
 exact ⟨_,rfl,h _⟩
theorem bb_call_rev_tuple {t:UQ} {items:Array UT} {Q:UT->UY->Prop} (ht:XM s.heap t items) (hz:(items.size:Int)<2 ^ 63)
 (h:∀ tk,Q (.ref s.heap.objs.size) { s with heap:=s.heap.push (revTup t ((items.size:Int) - 1)),toks:=tk }):Va (Vw prog w) A (call (.type "reversed") [.ref t]) Q E s :=
 callType_new bb_called_rev (by decide) (F.typeCall_reversed_1 _) (F.newCall_reversed_1 _) (fun obj=>F.args_object_init_2 obj _) F.entry_reversed_new (bb_meets_rev_tuple t items hz)
  ⟨ht,fun tk=>⟨⟨_,U4 _ rfl,rfl⟩,h tk⟩⟩
def IsRevT (h:V9) (a t:UQ) (i:Int):Prop:=∃ o,h.get? a=some o/\o.cls=.type "reversed"/\o.data=.fields #[.ref t,Xe i]
theorem IsRevT.typeIs {a t:UQ} {i:Int} (x:IsRevT s.heap a t i):s.TypeIs (.ref a) "reversed":=let ⟨o,ho,hc,_⟩:=x;⟨o,ho,hc⟩
theorem IsRevT.at {h h':V9} {a t:UQ} {i:Int} (x:IsRevT h a t i) (e:∀ o,h.get? a=some o->h'.get? a=some o):IsRevT h' a t i:=let ⟨o,ho,r⟩:=x;⟨o,e _ ho,r⟩
theorem bb_rev_iter {it t:UQ} {i:Int} {Q:UT->UY->Prop} (hit:IsRevT s.heap it t i) (h:Q (.ref it) s):Va (Vw prog w) A (pyIter (.ref it)) Q E s:=by
 refine wpAny_pyIter_slot hit.typeIs F.bb_slot_rev_iter (V2 F.bb_slot_rev_iter hit.typeIs F.bb_entry_rev_iter ?_ (F.bb_args_rev_iter _));show Va _ _ (ret (.ref it)) _ _ s;exact UX ⟨_,rfl,"reversed",_,hit.typeIs,F.bb_slot_rev_next.lookup,h⟩
theorem bb_rev_next {it t:UQ} {i:Nat} {items:Array UT} {x:UT} {Q:Option UT->UY->Prop} (hit:IsRevT s.heap it t (i:Int)) (ht:XM s.heap t items) (hx:items[i]?=some x) (hz:(items.size:Int)<2 ^ 63)
 (hQ:∀ h' tk,IsRevT h' it t ((i:Int) - 1)->WH it s.heap h'->Q (some x) { s with heap:=h',toks:=tk }):Va (Vw prog w) A (XH (.ref it)) Q E s:=by
 obtain ⟨o,ho,hc,hd⟩:=id hit;have hi:i<items.size:=(Y9.mp hx).1;unfold XH
 refine UM (XG (VX (name:=UU "__next__") hit.typeIs F.bb_slot_rev_next
  (V2 F.bb_slot_rev_next hit.typeIs F.bb_entry_rev_next ?_ (F.bb_args_rev_next _))))
 unfold Xv.«reversed.__next__»;refine UM (X0 (a:=(Vv it,[])) rfl ?_)
 try dsimp only
 refine UM (VO ho hd (x:=.ref t) rfl ?_);refine UM (VO ho hd (x:=Xe (i:Int)) rfl ?_);show Va _ _ (if (i:Int)<0 then _ else _) _ _ s;rw [if_neg (by omega)];refine UM (Wr ht.typeIs VG.lookup ?_)
 try dsimp only
 rw [if_neg (by decide)];refine UM (m:=mkInt (i:Int)) (wpAny_mkInt ?_);refine UM (XG (PyProof.Rows.getItem_tuple (j:=i) (x:=x) ht (by omega) (by omega) ?_ hx ?_))
 · refine (L2.np (n:=items.size) (i:=(i:Int)) (j:=i) ?_).1;unfold L2.ixN;rw [if_pos (by omega),if_pos (by omega)];simp
 · try dsimp only
   refine UM (VO ho hd (x:=Xe (i:Int)) rfl ?_)
   try dsimp only
   refine UM (Yl ho hd (by simp) ?_);refine UX ⟨x,rfl,UX (hQ _ _ ?_ (WW ..))⟩;exact ⟨_,VD _ ho (YW (W7 hd _)),(Obj.cls_mapFields ..).trans hc,by rw [W7 hd];simp⟩
theorem bb_rev_end {it t:UQ} {Q:Option UT->UY->Prop} (hh:A.handled=none) (hit:IsRevT s.heap it t (-1))
 (hQ:∀ h' tk,Heap.ExtBut it s.heap h'->Q none { s with heap:=h',toks:=tk }):Va (Vw prog w) A (XH (.ref it)) Q E s:=by
 obtain ⟨o,ho,hc,hd⟩:=id hit;unfold XH
 refine UM (XG (VX (name:=UU "__next__") hit.typeIs F.bb_slot_rev_next
  (V2 F.bb_slot_rev_next hit.typeIs F.bb_entry_rev_next ?_ (F.bb_args_rev_next _))))
 unfold Xv.«reversed.__next__»;refine UM (X0 (a:=(Vv it,[])) rfl ?_)
 try dsimp only
 refine UM (VO ho hd (x:=.ref t) rfl ?_);refine UM (VO ho hd (x:=Xe (-1)) rfl ?_);show Va _ _ (if (-1:Int)<0 then _ else _) _ _ s;rw [if_pos (by decide)];refine UM (XA ?_);refine UM ?_
 wp_delta
 refine UM (Yl ho hd (by simp) ?_);have Dg:=VD (Obj.mapFields (·.setIfInBounds 1 (Xe (-1)))) ho (YW (W7 hd _));refine Yl Dg (W7 hd _) (by simp) ?_;refine UM ?_
 wp_delta
 refine UM ?_;simp only [newExc,newTuple];refine UM (V1 ?_ (by size_fits));refine UM (m:=YO _ _) (X0 (a:=Wm) (by first | rfl | (simp only [YO];rfl)) ?_);refine V1 ?_ (by size_fits);simp only [raiseNew];refine UM (wpAny_handled ?_)
 first | rw [show A.in1.handled=none from hh] | rw [hh]
 refine UM (UX (wpAny_throw ?_));refine UM (Xw (T:="StopIteration") (b:=true) ⟨_,U4 _ rfl,rfl⟩ isSubtype_stop ?_);refine UX (hQ _ _ ?_);refine Heap.ExtBut.push (Heap.ExtBut.push ?_ _) _;intro b o' hb e;rw [VL _ _ (WG hb),VL _ _ (WG hb)];exact e
theorem bb_walk_revT (hh:A.handled=none) (I t:UQ) (yn:t≠I) (items:Array UT) (hz:(items.size:Int)<2 ^ 63) :
 Walks prog w A I [I,t] [I] items.size (fun i v=>items[items.size - 1 - i]?=some v) (fun i h=>i<=items.size/\IsRevT h I t ((items.size:Int) - 1 - (i:Int))/\XM h t items) where
 sub:=fun b hb=>by simp at hb;simp [hb]
 frame:=fun _ _ _ x hk=>⟨x.1,x.2.1.at fun o e=>hk I (by simp) o e,by obtain ⟨o,e,r⟩:=x.2.2;exact ⟨o,hk t (by simp) o e,r⟩⟩
 item:=fun i s Q E hi x hQ=>by
  have e:(items.size:Int) - 1 - (i:Int)=((items.size - 1 - i:Nat):Int):=by omega
  have hit:=x.2.1;rw [e] at hit;have hx:items[items.size - 1 - i]?=some (items[items.size - 1 - i]'(by omega)):=WT (by omega);refine bb_rev_next hit x.2.2 hx hz fun h' tk Dj zS=>?_;have e2:((items.size - 1 - i:Nat):Int) - 1=(items.size:Int) - 1 - ((i+1:Nat):Int):=by omega
  rw [e2] at Dj;exact hQ _ h' tk hx ⟨hi,Dj,by obtain ⟨o,e,r⟩:=x.2.2;exact ⟨o,(zS.2 t yn).trans e,r⟩⟩ fun b o hb eo=>zS.extBut b o (fun h=>hb (by simp [h])) eo
 done:=fun s Q E x hQ=>by
  have e:(items.size:Int) - 1 - (items.size:Int)=-1:=by omega
  have hit:=x.2.1;rw [e] at hit;exact bb_rev_end hh hit fun h' tk QE=>hQ h' tk fun b o hb eo=>QE b o (fun h=>hb (by simp [h])) eo
 self:=fun _ _ _ _ x hQ=>bb_rev_iter x.2.1 hQ
def HintOk (prog:U6) (w:Vj) (A:VF) (I:UQ) (St:Nat->V9->Prop):Prop :=
 ∀ (s:UY) (Q:Bool->UY->Prop) (E:UT->UY->Prop),St 0 s.heap->(∀ b tk,s.toks<=tk->Q b { s with toks:=tk })->Va (Vw prog w) A (Xs (.ref I)) Q E s
theorem bb_hint_lri {I l:UQ} {items:Array UT}:HintOk prog w A I (fun i h=>i<=items.size/\h.IsRevIter I l ((items.size:Int) - 1 - (i:Int))/\h.IsList l items):=by
 intro s Q E st h;unfold Xs;refine UM (Wr st.2.1.typeIs F.bb_nolen_lri ?_);show Va _ A (specialOf (Vv I) (UU "__length_hint__") >>= _) _ _ _;refine UM (Wr st.2.1.typeIs F.bb_hint_lri ?_)
 (generalize hid:("list_reverseiterator.__length_hint__":String)=EX;(fail_if_success (clear hid EX));wp_delta;rw [show splitId EX=some ("list_reverseiterator","__length_hint__") from by subst hid;decide +kernel];subst hid)
 refine UM (Xw (b:=true) st.2.1.typeIs (by rw [XO];kernel_rfl) ?_);exact UX (h _ _ (UR _))
theorem bb_len_hint {I t:UQ} {items:Array UT} {Q:UT->UY->Prop} (hit:IsRevT s.heap I t ((items.size:Int) - 1)) (ht:XM s.heap t items) (hz:(items.size:Int)<2 ^ 63)
 (h:∀ u tk,s.toks<=tk->Q (.int (items.size:Int) u) { s with toks:=tk }):Va (Vw prog w) A (call (.builtin "reversed.__length_hint__") [.ref I]) Q E s:=by
 obtain ⟨o,ho,hc,hd⟩:=id hit;refine V2 F.bb_slot_rev_hint hit.typeIs F.bb_entry_rev_hint ?_ (F.bb_args_rev_hint _);unfold Xv.«reversed.__length_hint__»;refine UM (X0 (a:=Vv I) rfl ?_)
 try dsimp only
 refine UM (VO ho hd (x:=.ref t) rfl ?_);rw [if_neg (show ¬ ((Vv t == Wm)=true) from Ve)];refine UM (PyProof.Rows.len_tuple ht hz ?_);refine UM (m:=asInt? _) (UX ?_)
 try dsimp only
 refine UM (VO ho hd (x:=Xe ((items.size:Int) - 1)) rfl ?_);show Va _ _ (if (items.size:Int)<((items.size:Int) - 1)+1 then _ else _) _ _ _;rw [if_neg (by omega)];have e:((items.size:Int) - 1)+1=(items.size:Int):=by omega
 rw [e];refine UM (wpAny_mkInt (UX ⟨_,rfl,h _ _ ?_⟩));show s.toks<=s.toks+1+1+1;omega
theorem bb_hint_rev {I t:UQ} {items:Array UT} (hz:items.size<=Vb):HintOk prog w A I (fun i h=>i<=items.size/\IsRevT h I t ((items.size:Int) - 1 - (i:Int))/\XM h t items):=by
 intro s Q E st h;unfold Xs;refine UM (Wr st.2.1.typeIs F.bb_nolen_rev ?_);show Va _ A (specialOf (Vv I) (UU "__length_hint__") >>= _) _ _ _;refine UM (Wr st.2.1.typeIs F.bb_slot_rev_hint.lookup ?_)
 (generalize hid:("reversed.__length_hint__":String)=EX;(fail_if_success (clear hid EX));wp_delta;rw [show splitId EX=some ("reversed","__length_hint__") from by subst hid;decide +kernel];subst hid)
 refine UM (Xw (b:=true) st.2.1.typeIs F.bb_sub_rev_rev ?_)
 have OA:(items.size:Int)<2 ^ 63:=by
  have:=L2.fe;omega
 rw [if_neg (by decide)]
 try dsimp only
 rw [if_neg (by decide +kernel)];refine UM (XA ?_);refine UM (X0 (F.bb_slot_rev_hint.bind _) ?_)
 try dsimp only
 have hit:=st.2.1;rw [show (items.size:Int) - 1 - ((0:Nat):Int)=(items.size:Int) - 1 by omega] at hit;refine UM (XG (bb_len_hint hit st.2.2 OA fun u tk zX=>?_));have f1:Builtin.List.listFitsIndex (items.size:Int)=true:=fitsIndex_of (Int.natCast_nonneg _) OA;have f2:Xb (items.size:Int).toNat=false:=L2.lu (WB (Nat.le_of_eq (VT _)) hz);have f3:¬ (items.size:Int)<0:=Int.not_lt.mpr (Int.natCast_nonneg _);generalize (items.size:Int)=k at f1 f2 f3 ⊢;have fin:Va (Vw prog w) A (pure (k != 0):Sem Bool) Q E { s with toks:=tk }:=UX (h _ _ zX);simp only [asInt?,pure_bind,f1,f2,f3,YL,V7,if_false];exact fin
theorem bb_list_walk {T:String} {I:UQ} {fp wr:List UQ} {n:Nat} {P:Nat->UT->Prop} {St:Nat->V9->Prop} {Q:UT->UY->Prop} (W:Walks prog w A.in1.in1 I fp wr n P St)
 (hT:∀ i (s:UY),St i s.heap->s.TypeIs (.ref I) T) (h2:(Xh T == Xh "list")=false) (h3:(Xh T == Xh "tuple")=false) (hint:HintOk prog w A.in1.in1 I St)
 (y8:St 0 s.heap) (QF:∀ b∈fp,b<s.heap.objs.size) (hI:I∈fp) (hn:n<=Vb)
 (hQ:∀ h' tk acc c,(∀ b o,b∉wr->s.heap.get? b=some o->h'.get? b=some o)->h'.get? s.heap.objs.size=some { cls:=.type "list",dict:=none,data:=.seq acc c,slots:=#[] }->ItemsOf P acc n->Q (.ref s.heap.objs.size) { s with heap:=h',toks:=tk }) :
 Va (Vw prog w) A (call (.type "list") [.ref I]) Q E s:=by
 have F8:s.heap.objs.size∉fp:=fun hm=>Wo _ (QF _ hm)
 refine Z9 (Q₁:=fun obj xU=>obj=.ref s.heap.objs.size/\xU={ s with heap:=s.heap.push { cls:=.type "list",data:=.seq #[] } }) F.called_list (F.typeCall_list_1 _) F.entry_list_init
  (code_list_new _ ⟨rfl,rfl⟩) fun obj xU yi=>?_
 obtain ⟨rfl,rfl⟩:=yi;have hS:(s.heap.push { cls:=.type "list",data:=.seq #[] }).get? s.heap.objs.size=some { cls:=.type "list",data:=.seq #[] }:=U4 _ rfl;have K5:s.heap.objs.size≠I:=fun e=>F8 (e ▸ hI);refine ⟨⟨_,hS,rfl⟩,F.args_list_init_2 _ _,?_⟩;show Va _ A.in1.in1 (do let old ← Xu (.ref s.heap.objs.size);ZR (.ref s.heap.objs.size) (fun _=>#[]);letGo old.toList.reverse;WQ (.ref s.heap.objs.size) (.ref I) .none) _ _ _;refine UM ?_;unfold Xu;refine UM (Wj hS rfl (UX ?_));refine UM (WE hS rfl ?_);have zd:=VD (V3 (fun _=>(#[]:Array UT))) hS rfl;refine UM (Zx ?_);generalize hH:(s.heap.push { cls:=.type "list",data:=.seq #[] }).update s.heap.objs.size (V3 (fun _=>(#[]:Array UT)))=H2 at zd ⊢
 have old:∀ b o,s.heap.get? b=some o->H2.get? b=some o:=fun b o e=>by
  rw [<- hH,VL _ _ (WG (Vy (U7 e)))];exact UW _ e
 obtain ⟨c2,Dm⟩:∃ c,H2.get? s.heap.objs.size=some { cls:=.type "list",data:=.seq #[] c }:=⟨_,zd⟩;have AR:St 0 H2:=W.frame 0 _ _ y8 fun b _ o e=>old b o e;unfold WQ;refine UM (Xr (hT 0 _ AR) ?_);have h1:Xc (.ref s.heap.objs.size) (.ref I)=false:=by simp [Xc,K5]
 simp only [h1,h2,h3,Z3,V7,if_false];refine UM (W.self 0 _ _ _ AR ?_);refine UM (Wl (hint _ _ _ AR fun b tk _=>?_))
 have key:∀ (h:V9) (c₁ tk:Nat),St 0 h->(∀ b o,b≠s.heap.objs.size->H2.get? b=some o->h.get? b=some o)->h.get? s.heap.objs.size=some { cls:=.type "list",data:=.seq #[] c₁ } →
  YQ (Vw prog w) A.in1 (.builtin "list.extend.loop" ⟨[.ref s.heap.objs.size,.ref I,.none],[]⟩) (wants (fun r yB=>r=.none/\Q (.ref s.heap.objs.size) yB) E) { s with heap:=h,toks:=tk }:=by
  intro h c₁ tk hs hk Aw;refine codeAny_extend_loopS W.toS hn _ F8 .none n 0 _ #[] c₁ rfl (Vn _) hs Aw (ItemsOf.nil _) fun s' yT c' hm BX yd=>?_;rw [Moved.eq_with hm];refine ⟨rfl,hQ s'.heap s'.toks yT c' (fun b o hb e=>hm.heap b o (fun yN=>?_) (hk b o (Vy (U7 e)) (old b o e))) BX yd⟩;rcases Vd.mp yN with e' | yN
  · exact absurd (U7 e) (by rw [e'];exact Wo _)
  · exact hb yN
 refine ZW (fun _=>?_) (fun _=>UX ⟨XI Wq _,key _ c2 _ AR (fun b o _ e=>e) Dm⟩);refine UM (XA ?_);refine UM ?_;show Va _ _ (Zk s.heap.objs.size (·.push .none) >>= fun _=>Zk s.heap.objs.size (·.pop)) _ _ _;refine UM (WE Dm rfl ?_);have ze:=VD (V3 (·.push Wm)) Dm rfl;refine WE (hz:=by seq_fits) ze rfl ?_;have Ax:=VD (V3 (·.pop)) ze rfl
 have Ay:∀ b o,b≠s.heap.objs.size->H2.get? b=some o->((H2.update s.heap.objs.size (V3 (·.push Wm))).update s.heap.objs.size (V3 (·.pop))).get? b=some o :=
  fun b o hb e=>(VL _ _ (WG hb)).trans ((VL _ _ (WG hb)).trans e)
 exact UX ⟨XI Wq _,key _ _ _ (W.frame 0 _ _ AR fun b hb o e=>Ay b o (fun z=>F8 (z ▸ hb)) e) Ay Ax⟩
end
end PySem
namespace L2
open PySem PySem.Spec PyProof.Rows
def SqB (b:Bool) (K:UO) (H:Hp) (a:UQ) (xs:List V):Prop:=if b=true then SqL K H a xs else SqT K H a xs
theorem SqB.l {K:UO} {H:Hp} {a:UQ} {xs:List V} (h:SqL K H a xs):SqB true K H a xs:=h
theorem tD {ys:List V} {its:List UT} {acc:Array UT} (rv:Vals ys its) (yd:ItemsOf (fun i v=>its.toArray[its.toArray.size - 1 - i]?=some v) acc its.toArray.size):Vals ys.reverse acc.toList:=by
 have e:acc.toList=its.reverse:=by
  apply YC;intro i;have hs:acc.size=its.length:=by rw [yd.1,U0]
  by_cases hi:i<acc.size
  · have h1:acc[i]?=some acc[i]:=WT hi;have h2:=yd.2 i _ h1;rw [U0] at h2;rw [XY,h1,List.getElem?_reverse (by omega),<- h2];simp
  · rw [XY,YD (by omega),Wk (by rw [Wd];omega)]
 rw [e];exact rv.reverse
section
variable {X:Cx} {e:V4} {te:TE} {p p2 pos yt:YJ}
def tF (K:UO) (te:TE):TE:=fun σ H Q=>te σ H fun x H1=>∃ b a ys,x=.ref a/\SqB b K H1 a ys/\∀ l,H1 l=none->Q (.ref l) (upd H1 l (.lst ys.reverse))
theorem mO {pins:List (UQ×W0)} {σ:St} {H:Hp} {s:UY} {Q:VK} {b:Bool} {a:UQ} {ys:List V} (hc:X.calm=true) (I:Inv X pins σ H s) (hq:SqB b X.K H a ys) (q:∀ l,H l=none->Q (.ref l) (upd H l (.lst ys.reverse))) :
 Va (Vw X.prog X.w) X.A (call (.type "reversed") [.ref a]) (fun u s1=>Va (Vw X.prog X.w) X.A (call (.type "list") [u]) (EP X pins σ Q) X.xe s1) X.xe s:=by
 have hn:=fe;have hh:X.A.in1.in1.handled=none:=I.ok.hd hc
 have fin:∀ {its:List UT} {s1:UY} {h':V9} {tk:Nat} {acc:Array UT} {c:Nat},Vals ys its->ys.length<=Vb->s1.heap.objs.size=s.heap.objs.size+1->s1.os=s.os->s1.gens=s.gens->s1.drawn=s.drawn->(∀ b o,s.heap.get? b=some o->s1.heap.get? b=some o) →
  (∀ b o,b∉[s.heap.objs.size]->s1.heap.get? b=some o->h'.get? b=some o)->h'.get? s1.heap.objs.size=some { cls:=.type "list",dict:=none,data:=.seq acc c,slots:=#[] }->ItemsOf (fun i v=>its.toArray[its.toArray.size - 1 - i]?=some v) acc its.toArray.size →
  EP X pins σ Q (.ref s1.heap.objs.size) { s1 with heap:=h',toks:=tk }:=fun {its s1 h' tk acc c} rv hz es eo eg ed k1 kp hS yd=>by
  have K1:({ s1 with heap:=h',toks:=tk }:UY)={ s with heap:=h',toks:=tk }:=by
   obtain ⟨a1,a2,a3,a4,a5⟩:=s1;have e1:a5=s.os:=eo;have e2:a2=s.gens:=eg;have e3:a3=s.drawn:=ed;subst e1;subst e2;subst e3;rfl
  have hp:s.heap.objs.size<=s1.heap.objs.size:=by rw [es];exact Nat.le_succ _
  refine ⟨.ref s1.heap.objs.size,upd H s1.heap.objs.size (.lst ys.reverse),?_,rfl,q _ (I.hok.fresh hp)⟩;rw [K1];refine I.laid (t':=tk) (fun b o e=>kp b o (fun z=>?_) (k1 b o e)) hp ⟨by rw [Wd];exact hz,acc.toList,c,tD rv yd,hS⟩;exact absurd (U7 e) (by rw [Vi.mp z];exact Wo _)
 cases b
 · have K6:SqT X.K H a ys:=hq;obtain ⟨its,rv,p,hz⟩:=I.tuple K6;have hl:=rv.length;refine bb_call_rev_tuple p (by rw [U0];omega) fun tk=>?_;obtain ⟨oa,Az,ca,da⟩:=id p;have yn:a≠s.heap.objs.size:=Vy (U7 Az)
   refine bb_list_walk (T:="reversed") (bb_walk_revT hh s.heap.objs.size a yn its.toArray (by rw [U0];omega)) (fun i s st=>st.2.1.typeIs) (by decide) (by decide) (bb_hint_rev (by rw [U0];omega))
    ⟨Vn _,?_,⟨oa,UW _ Az,ca,da⟩⟩ (fun b hb=>?_) (by simp) (by rw [U0];omega) fun h' tk acc c kp hS yd=>fin rv hz (V8 ..) rfl rfl rfl (fun b o e=>UW _ e) kp hS yd
   · rw [show (its.toArray.size:Int) - 1 - ((0:Nat):Int)=(its.toArray.size:Int) - 1 by omega];exact ⟨_,U4 _ rfl,rfl,rfl⟩
   · show b<(s.heap.push _).objs.size;rw [V8];rcases Vd.mp hb with e | e
     · rw [e];exact Nat.lt_succ_self _
     · rw [Vi.mp e];exact YB (U7 Az)
 · have K6:SqL X.K H a ys:=hq;obtain ⟨its,rv,p,hz⟩:=I.list K6;have hl:=rv.length;refine call_reversed_list p.isList ?_;obtain ⟨oa,Az,ca,na,da⟩:=id p.isList;have yn:a≠s.heap.objs.size:=Vy (U7 Az)
   refine bb_list_walk (T:="list_reverseiterator") (Walks.listRev hh s.heap.objs.size a yn its.toArray) (fun i s st=>st.2.1.typeIs) (by decide) (by decide) bb_hint_lri
    ⟨Vn _,?_,⟨oa,UW _ Az,ca,na,da⟩⟩ (fun b hb=>?_) (by simp) (by rw [U0];omega) fun h' tk acc c kp hS yd=>fin rv hz (V8 ..) rfl rfl rfl (fun b o e=>UW _ e) kp hS yd
   · rw [show (its.toArray.size:Int) - 1 - ((0:Nat):Int)=(its.toArray.size:Int) - 1 by omega];exact ⟨_,U4 _ rfl,rfl,rfl⟩
   · show b<(s.heap.push _).objs.size;rw [V8];rcases Vd.mp hb with e | e
     · rw [e];exact Nat.lt_succ_self _
     · rw [Vi.mp e];exact YB (U7 Az)
theorem kx (hc:X.calm=true) (g1:Gl X "list") (m1:X.mg "list"=none) (g2:Gl X "reversed") (m2:X.mg "reversed"=none) (he:PE X e te)
 (h1:VR [.Call (.Name "reversed" p2) [e] [] yt] X.env=[(false,Xf (.Call (.Name "reversed" p2) [e] [] yt) X.env)]:=by rfl) (h2:VR [e] X.env=[(false,Xf e X.env)]:=by rfl) :
 PE X (.Call (.Name "list" p) [.Call (.Name "reversed" p2) [e] [] yt] [] pos) (tF X.K te):=by
 intro pins s σ H Q I h;refine Wu (cU I g1 m1 boot_list (VP ?_ h1 rfl));rw [h1];show Va _ _ (spliced ((false,Xf (.Call (.Name "reversed" p2) [e] [] yt) X.env)::[])) _ _ s;refine Wv ?_;refine Wu (cU I g2 m2 boot_reversed (VP ?_ h2 rfl));rw [h2];show Va _ _ (spliced ((false,Xf e X.env)::[])) _ _ s;refine Wv (thn (he pins s σ H _ I h) fun u s1 ⟨x,H1,I1,r1,b,a,ys,ex,hq,q⟩=>?_);subst ex;cases r1;refine WV ?_;refine thn (mO hc I1 hq q) fun v s2 h2=>WV ?_;exact h2
def Itv (K:UO) (a:UQ) (n:Nat):It:=⟨fun i H=>i<n/\∃ xs,SqL K H a xs/\xs.length=n,fun i H x H'=>H'=H/\∀ xs,SqL K H a xs->xs[n - 1 - i]?=some x,fun i _=>i=n⟩
theorem sN {P:U6} {w:Vj} {K:UO} {tg:V4} (a it:UQ) (n:Nat):Turn P w K tg (Itv K a n) [it] it (fun i h=>h.IsRevIter it a ((n:Int) - 1 - (i:Nat))) where
 mem:=by simp
 obj:=fun i h st b hb=>by
  have e:b=it:=by simpa using hb
  subst e;obtain ⟨o,e,c,d⟩:=st;exact ⟨o,e,fun v z=>by rw [d] at z;cases z⟩
 keep:=fun i h h' st k=>st.at fun o e=>k it (by simp) o e
 item:=by
  intro X hP hw hK hc i pins s σ H E I hf st hg;subst hP hw hK;obtain ⟨hi,xs,hq,hx⟩:=hg;obtain ⟨its,rv,p,hz⟩:=I.list hq;have hl:=rv.length;obtain ⟨x,Cf⟩:∃ x,xs[n - 1 - i]?=some x:=⟨_,UN (by omega)⟩;obtain ⟨u,hu,ru⟩:=rv.get Cf;obtain ⟨f0,f1,f2,f3,f4,f5⟩:=hf it (by simp);have e1:(n:Int) - 1 - (i:Nat)=((n - 1 - i:Nat):Int):=by omega
  rw [e1] at st;refine wpAny_pyNext_rev_item st p.isList (x:=u) (by simpa using hu) fun h' BS sb=>?_;have I1:Inv X pins σ H { s with heap:=h' }:=I.turned (t':=s.toks) (fun b o hb e=>(sb.2 b hb).trans e) f0 f1 f3 f4 f5;have e2:((n - 1 - i:Nat):Int) - 1=(n:Int) - 1 - ((i+1:Nat):Int):=by omega
  rw [e2] at BS;obtain ⟨o,e,c,d⟩:=id BS;exact ⟨u,rfl,rj (s:={ s with heap:=h' }) e c d (by decide) ⟨x,H,I1,ru,⟨rfl,fun ys hy=>by rw [I.list_inj hy hq];exact Cf⟩,BS,fun b hb=>(hf b hb).1⟩⟩
 done:=by
  intro X hP hw hK hc i pins s σ H E I hf st hg;subst hP hw hK;have K7:i=n:=hg;subst K7;obtain ⟨f0,f1,f2,f3,f4,f5⟩:=hf it (by simp);rw [show (i:Int) - 1 - (i:Nat)=-1 by omega] at st;exact wpAny_pyNext_rev_end (I.ok.hd hc) st fun h' eb=>⟨rfl,I.turned (t':=s.toks) (fun b o hb e=>eb b o hb e) f0 f1 f3 f4 f5⟩
 self:=fun _ _ _ _ _ st h=>wpAny_pyIter_revIter st h
def xN (K:UO) (tl:TE):TI:=fun σ H R=>tl σ H fun x H1=>∃ a xs,x=.ref a/\SqL K H1 a xs/\R (Itv K a xs.length) H1
theorem v5 {tg:V4} (g2:Gl X "reversed") (m2:X.mg "reversed"=none) (he:PE X e te) (h2:VR [e] X.env=[(false,Xf e X.env)]:=by rfl):PI X tg (.Call (.Name "reversed" p2) [e] [] yt) (xN X.K te):=by
 intro pins s σ H R I h;refine Wu (cU I g2 m2 boot_reversed (VP ?_ h2 rfl));rw [h2];show Va _ _ (spliced ((false,Xf e X.env)::[])) _ _ s;refine Wv (thn (he pins s σ H _ I h) fun u s1 ⟨x,H1,I1,r1,a,ys,ex,hq,q⟩=>WV ?_);subst ex;cases r1;obtain ⟨its,rv,p,hz⟩:=I1.list hq;have hl:=rv.length;refine call_reversed_list p.isList ?_
 have hit:(s1.heap.push (revObj a ((its.toArray.size:Int) - 1))).IsRevIter s1.heap.objs.size a ((ys.length:Int) - 1 - ((0:Nat):Int)):=by
  rw [hl,show (its.length:Int) - 1 - ((0:Nat):Int)=(its.toArray.size:Int) - 1 by rw [U0];omega];exact ⟨_,U4 _ rfl,rfl,rfl⟩
 refine wpAny_pyIter_revIter (s:={ s1 with heap:=s1.heap.push (revObj a ((its.toArray.size:Int) - 1)) }) hit ?_;refine ⟨s1.heap.objs.size,[s1.heap.objs.size],_,_,H1,rfl,I1.kept (t':=s1.toks) fun b o e=>UW _ e,sN a _ ys.length,hit,fun b hb=>?_,q⟩;have e:b=s1.heap.objs.size:=by simpa using hb
 subst e;exact I1.fpOk (UR _) (I1.hok.fresh (UR _))
theorem uK {K:UO} {a:UQ} {xs:List V} {g:TG} {tb:TS} {D:Ends} {σ:St} {H:Hp} (Pv:Nat->St->Hp->Prop) (h0:Pv 0 σ H) (hl:∀ i σ H,i<=xs.length->Pv i σ H->SqL K H a xs)
 (hs:∀ i x σ H,i<xs.length->xs[xs.length - 1 - i]?=some x->Pv i σ H->g x σ H fun ym H2=>tb { D with nx:=Pv (i+1),ct:=Pv (i+1),bk:=D.nx } ym H2) (hd:∀ σ H,Pv xs.length σ H->D.nx σ H) :
 ∃ W:Nat->Nat->St->Hp->Prop,(∃ m,W 0 m σ H)/\∀ i m σ H,W i m σ H →
   ((Itv K a xs.length).stop i H/\D.nx σ H)∨((Itv K a xs.length).go i H/\∃ N:St->Hp->Prop,(∀ xT H',N xT H'->∃ m',m'<m/\W (i+1) m' xT H')/\∀ x H',(Itv K a xs.length).yld i H x H'->g x σ H' fun ym H2=>tb { D with nx:=N,ct:=N,bk:=D.nx } ym H2):=by
 refine ⟨fun i m σ H=>i<=xs.length/\m=xs.length - i/\Pv i σ H,⟨xs.length,Vn _,rfl,h0⟩,?_⟩;rintro i m σ H ⟨hi,rfl,p⟩;by_cases h:i=xs.length
 · left;exact ⟨h,hd σ H (by rw [<- h];exact p)⟩
 · right;have yR:i<xs.length:=by omega
   refine ⟨⟨yR,xs,hl i σ H hi p,rfl⟩,Pv (i+1),fun xT H' q=>⟨xs.length - (i+1),by omega,by omega,rfl,q⟩,?_⟩;rintro x H' ⟨rfl,hx⟩;exact hs i x σ H' yR (hx xs (hl i σ H' hi p)) p
end
end L2
namespace BB
open PySem L2
inductive Th where
 | knot (n:Vm) (ks:List Th)
 | call (s k:Int)
def q:Vm:=UU "?"
def Th.kids:Th->List Th
 | .knot _ ks=>ks
 | .call _ _=>[]
mutual
def Th.size:Th->Nat
 | .knot _ ks=>ao ks+1
 | .call _ _=>1
def ao:List Th->Nat
 | []=>0
 | t::ts=>t.size+ao ts
end
mutual
def Th.tall:Th->Nat
 | .knot _ ks=>bw ks+1
 | .call _ _=>1
def bw:List Th->Nat
 | []=>0
 | t::ts=>max t.tall (bw ts)
end
mutual
/-- by places F9 -/
def Th.walk:Th->List Th
 | .knot n ks=>.knot n ks::walks ks
 | .call s k=>[.call s k]
def walks:List Th->List Th
 | []=>[]
 | t::ts=>t.walk++walks ts
end
theorem Th.walk_eq (t:Th):t.walk=t::walks t.kids:=by
 cases t with
 | knot n ks=>rw [Th.walk];rfl
 | call s k=>rw [Th.walk];simp [Th.kids,walks]
theorem Th.size_eq (t:Th):t.size=ao t.kids+1:=by
 cases t with
 | knot n ks=>rw [Th.size];rfl
 | call s k=>rw [Th.size];simp [Th.kids,ao]
theorem Th.tall_eq (t:Th):t.tall=bw t.kids+1:=by
 cases t with
 | knot n ks=>rw [Th.tall];rfl
 | call s k=>rw [Th.tall];simp [Th.kids,bw]
theorem iP:∀ a b:List Th,walks (a++b)=walks a++walks b
 | [],b=>by simp [walks]
 | t::a,b=>by rw [Xl,walks,walks,iP a b,VN]
theorem aY:∀ a b:List Th,ao (a++b)=ao a+ao b
 | [],b=>by simp [ao]
 | t::a,b=>by rw [Xl,ao,ao,aY a b,Zi]
mutual
theorem Th.walk_len:∀ t:Th,t.walk.length=t.size
 | .knot n ks=>by rw [Th.walk,Th.size,U1,jr ks]
 | .call s k=>by rw [Th.walk,Th.size];rfl
theorem jr:∀ ts:List Th,(walks ts).length=ao ts
 | []=>rfl
 | t::ts=>by rw [walks,ao,U8,t.walk_len,jr ts]
end
theorem Th.size_pos (t:Th):1<=t.size:=by rw [t.size_eq];omega
mutual
def At (H:Hp):Th->UQ->Prop
 | .knot n ks,a=>n≠q/\∃ as:List UQ,H a=some (.tup (.str n::as.map V.ref))/\Ats H ks as
 | .call s k,a=>H a=some (.tup [.str q,.int s,.int k])
def Ats (H:Hp):List Th->List UQ->Prop
 | [],as=>as=[]
 | t::ts,as=>∃ a r,as=a::r/\At H t a/\Ats H ts r
end
def KT (H H':Hp):Prop:=∀ b xs,H b=some (.tup xs)->H' b=some (.tup xs)
theorem KT.trans {H H1 H2:Hp} (a:KT H H1) (b:KT H1 H2):KT H H2:=fun c o h=>b c o (a c o h)
theorem Same.kt {H H':Hp} (h:L2.Same H H'):KT H H':=fun b xs e=>h b _ e
theorem dz {H:Hp} {l:UQ} {o:HO} (h:H l=none):KT H (upd H l o):=fun b xs e=>by rw [ai (aJ e h)];exact e
theorem aU {H:Hp} {l:UQ} {o:HO} {xs:List V} (h:H l=some (.lst xs)):KT H (upd H l o):=fun b ys e=>by rw [ai (eP e h (by intro z;cases z))];exact e
mutual
theorem At.mono {H H':Hp} (k:KT H H'):∀ {t:Th} {a:UQ},At H t a->At H' t a
 | .knot n ks,a,h=>by
   rw [At] at h ⊢;obtain ⟨h0,as,h1,h2⟩:=h;exact ⟨h0,as,k _ _ h1,Ats.mono k h2⟩
 | .call s c,a,h=>by
   rw [At] at h ⊢;exact k _ _ h
theorem Ats.mono {H H':Hp} (k:KT H H'):∀ {ts:List Th} {as:List UQ},Ats H ts as->Ats H' ts as
 | [],as,h=>by rw [Ats] at h ⊢;exact h
 | t::ts,as,h=>by
   rw [Ats] at h ⊢;obtain ⟨a,r,e,h1,h2⟩:=h;exact ⟨a,r,e,At.mono k h1,Ats.mono k h2⟩
end
theorem Ats.nil {H:Hp}:Ats H [] []:=by rw [Ats]
theorem Ats.cons {H:Hp} {t:Th} {ts:List Th} {a:UQ} {as:List UQ} (h1:At H t a) (h2:Ats H ts as):Ats H (t::ts) (a::as):=by rw [Ats];exact ⟨a,as,rfl,h1,h2⟩
theorem Ats.append {H:Hp}:∀ {ts us:List Th} {as bs:List UQ},Ats H ts as->Ats H us bs->Ats H (ts++us) (as++bs)
 | [],us,as,bs,h,g=>by rw [Ats] at h;subst h;exact g
 | t::ts,us,as,bs,h,g=>by
   rw [Ats] at h;obtain ⟨a,r,rfl,h1,h2⟩:=h;exact .cons h1 (h2.append g)
theorem Ats.length {H:Hp}:∀ {ts:List Th} {as:List UQ},Ats H ts as->as.length=ts.length
 | [],as,h=>by rw [Ats] at h;subst h;rfl
 | t::ts,as,h=>by
   rw [Ats] at h;obtain ⟨a,r,rfl,h1,h2⟩:=h;rw [U1,U1,h2.length]
theorem Ats.get {H:Hp}:∀ {ts:List Th} {as:List UQ} {i:Nat} {a:UQ},Ats H ts as->as[i]?=some a->∃ t,ts[i]?=some t/\At H t a
 | [],as,i,a,h,e=>by rw [Ats] at h;subst h;simp at e
 | t::ts,as,i,a,h,e=>by
   rw [Ats] at h;obtain ⟨b,r,rfl,h1,h2⟩:=h;cases i with
   | zero=>simp at e;subst e;exact ⟨t,rfl,h1⟩
   | succ i=>exact h2.get (i:=i) (by simpa using e)
theorem Ats.at {H:Hp}:∀ {ts:List Th} {as:List UQ} {i:Nat} {t:Th},Ats H ts as->ts[i]?=some t->∃ a,as[i]?=some a/\At H t a
 | [],as,i,a,h,e=>by simp at e
 | t::ts,as,i,a,h,e=>by
   rw [Ats] at h;obtain ⟨b,r,rfl,h1,h2⟩:=h;cases i with
   | zero=>simp at e;subst e;exact ⟨b,rfl,h1⟩
   | succ i=>exact h2.at (i:=i) (by simpa using e)
end BB
namespace BB
open PySem L2
def Th.nm:Th->Vm
 | .knot n _=>n
 | .call _ _=>q
end BB
namespace BB
open PySem L2
def dj:Vm:=UU "abcdefghijklmnopqrstuvwxyz"
theorem pN:dj.cps.toList=(Vp 26).map (97+·):=by decide +kernel
theorem jB:dj.length=26:=by decide +kernel
theorem at_nonneg {α:Type} {xs:List α} {i:Int} {v:α} (h0:0<=i) (h:xs[i.toNat]?=some v):atI xs i=some v:=by
 have e:i=((i.toNat:Nat):Int):=by omega
 rw [e];exact ck h
theorem l3 {i:Int} (h0:0<=i) (h1:i<26):atI dj.cps.toList i=some (97+i.toNat):=by
 refine at_nonneg h0 ?_;rw [pN,UZ,We (by omega)];rfl
def Low (x:Vm):Prop:=∀ c∈x.cps.toList,97<=c/\c<=122
theorem nJ {x:Vm} (h:Low x) (lo hi:Option Int):Low (dJ x lo hi):=by
 intro c hc;have zh:c∈jN x.cps.toList lo hi:=by simpa [dJ] using hc
 exact h c (List.mem_of_mem_drop (List.mem_of_mem_take zh))
theorem mJ {x y:Vm} (hx:Low x) (hy:Low y):Low (x++y):=by
 intro c hc;have zh:c∈(x.cps++y.cps).toList:=hc;rw [Yk,VH] at zh;rcases zh with h | h
 · exact hx c h
 · exact hy c h
theorem jX {c:Nat} (h1:97<=c) (h2:c<=122):Low ⟨#[c]⟩:=by
 intro d hd;have:d=c:=by simpa using hd
 omega
theorem oB {x:Vm} (h:Low x):x≠q:=by
 intro e;subst e;have:=h 63 (by decide +kernel);omega
end BB
namespace L2
open PySem PySem.Spec PyProof.Rows
theorem Same.seqT {K:UO} {H H':Hp} {a:UQ} {xs:List V} (e:Same H H') (h:SqT K H a xs):SqT K H' a xs:=by
 rcases h with (h | ⟨o,h⟩) | h
 · exact .inl (.inl (e _ _ h))
 · exact .inl (.inr ⟨o,e _ _ h⟩)
 · exact .inr h
theorem ad {H:Hp} {p:UQ} (h:H p=none) (o:HO):Same H (upd H p o):=fun b u q=>by rw [ai (aJ q h)];exact q
theorem ax {H H1:Hp} {l:UQ} {o:HO} (h:Same H H1) (n:H l=none):Same H (upd H1 l o):=fun b u e=>by rw [ai (aJ e n)];exact h b u e
theorem uG {α:Type} {js:List (Option Nat)} {tt:TT} {te:TE} {σ:St} {J:It} {H:Hp} {xs:List V} {fin:UQ->Hp->Prop} (zs:List α) (p:α->Bool) (f:α->V) (hz:zs.length=xs.length) (hn:xs.length<=1000000)
 (BY:∀ i H2,Same H H2->i<xs.length->J.go i H2) (yZ:∀ H2,Same H H2->J.stop xs.length H2) (zZ:∀ (i:Nat) H2 x H3,Same H H2->i<xs.length->J.yld i H2 x H3->H3=H2/\xs[i]?=some x)
 (G2:∀ (i:Nat) x z H2 (R:Bool->Hp->Prop),xs[i]?=some x->zs[i]?=some z->Same H H2->R (p z) H2->tt ((cσ js σ).set 0 (some x)) H2 R)
 (G4:∀ (i:Nat) x z H2 (R:VK),xs[i]?=some x->zs[i]?=some z->p z=true->Same H H2->R (f z) H2->te ((cσ js σ).set 0 (some x)) H2 R)
 (q:∀ D,H D=none->fin D (upd H D (.lst ((zs.filter p).map f)))) :
 ∀ D,H D=none->∃ (n:Nat) (W:Nat->Hp->Prop),W 0 (upd H D (.lst []))/\fH js (aG 0) tt te σ J D n W fun H'=>fin D H':=by
 intro D hD;refine ⟨xs.length,fun i H2=>i<=xs.length/\H2=upd H D (.lst (((zs.take i).filter p).map f)),⟨Vn _,by simp⟩,?_⟩;rintro i H2 ⟨hi,rfl⟩;have sm:∀ o,Same H (upd H D o):=fun o=>ad hD o;by_cases h:i=xs.length
 · left;subst h;refine ⟨yZ _ (sm _),?_⟩;rw [<- hz,WY];exact q D hD
 · right;have yR:i<xs.length:=by omega
   refine ⟨yR,BY i _ (sm _) yR,fun x H1 hy=>?_⟩;obtain ⟨rfl,hx⟩:=zZ i _ x H1 (sm _) yR hy;have K8:i<zs.length:=by omega
   have e1:zs[i]?=some zs[i]:=UN K8
   have e2:(zs.take (i+1)).filter p=(zs.take i).filter p++(if p zs[i]=true then [zs[i]] else []):=by
    rw [Wb,e1,Y6];show _++List.filter p [zs[i]]=_;rw [WZ,ZF]
   refine G2 i x zs[i] _ _ hx e1 (sm _) ?_
   have hlen:(((zs.take i).filter p).map f).length<=1000000:=by
    rw [UL];have:=Xq p (zs.take i);rw [VE] at this;omega
   by_cases hp:p zs[i]=true
   · rw [if_pos hp];refine G4 i x zs[i] _ _ hx e1 hp (sm _) ⟨_,ab,Y2 hlen (by decide),yR,?_⟩;rw [jW,e2,if_pos hp,U5];rfl
   · rw [if_neg hp];refine ⟨yR,?_⟩;rw [e2,if_neg hp,VB]
theorem oS {α:Type} {K:UO} {a:UQ} {js:List (Option Nat)} {tt:TT} {te:TE} {σ:St} {H:Hp} {xs:List V} {fin:UQ->Hp->Prop} (zs:List α) (p:α->Bool) (f:α->V) (hS:SqT K H a xs) (hz:zs.length=xs.length) (hn:xs.length<=1000000)
 (G2:∀ (i:Nat) x z H2 (R:Bool->Hp->Prop),xs[i]?=some x->zs[i]?=some z->Same H H2->R (p z) H2->tt ((cσ js σ).set 0 (some x)) H2 R)
 (G4:∀ (i:Nat) x z H2 (R:VK),xs[i]?=some x->zs[i]?=some z->p z=true->Same H H2->R (f z) H2->te ((cσ js σ).set 0 (some x)) H2 R)
 (q:∀ D,H D=none->fin D (upd H D (.lst ((zs.filter p).map f)))) :
 ∀ D,H D=none->∃ (n:Nat) (W:Nat->Hp->Prop),W 0 (upd H D (.lst []))/\fH js (aG 0) tt te σ (Itt K a) D n W fun H'=>fin D H' :=
 uG zs p f hz hn (fun i H2 s hi=>⟨xs,xs[i],s.seqT hS,UN hi⟩) (fun H2 s=>⟨xs,s.seqT hS,UR _⟩) (fun i H2 x H3 s hi hy=>⟨hy.1,hy.2 xs (s.seqT hS)⟩) G2 G4 q
end L2
namespace BB
open PySem L2
theorem at0 {α:Type} {x:α} {xs:List α}:atI (x::xs) 0=some x:=ck (j:=0) rfl
theorem at1 {α:Type} {x y:α} {xs:List α}:atI (x::y::xs) 1=some y:=ck (j:=1) rfl
theorem at2 {α:Type} {x y z:α} {xs:List α}:atI (x::y::z::xs) 2=some z:=ck (j:=2) rfl
theorem eL (x:V) (xs:List V):dw (x::xs) (some 1) none=xs:=by
 unfold dw;simp [HT.sIx]
theorem bU:∀ ts:List Th,ts.length<=ao ts
 | []=>Vn _
 | t::ts=>by
   have:=t.size_pos;have:=bU ts;rw [U1,ao];omega
theorem mq (ts:List Th):ao ts.reverse=ao ts:=by
 induction ts with
 | nil=>rfl
 | cons x xs ih=>rw [VY,aY,ih,ao,ao,ao];omega
theorem aF {n:Nat} (h:n<=1000000):n<Vb:=Y2 h (by decide)
theorem ak {n:Nat} (h:n<=1000000):n<=Vb:=Ye (aF h)
theorem int_at {ns:List Int} {k:Int} (h0:0<=k) (h:k<(ns.length:Int)):atI (ns.map V.int) k=some (.int (ns.getD k.toNat 0)):=by
 refine at_nonneg h0 ?_;have hk:k.toNat<ns.length:=by omega
 rw [UZ,UN hk,List.getD_eq_getElem?_getD,UN hk];rfl
end BB
namespace BB
open PySem L2
section
variable {α β:Type} {F G:α->β->Prop}
theorem P2.append:∀ {a c:List α} {b d:List β},Vs F a b->Vs F c d->Vs F (a++c) (b++d)
 | _,_,_,_,.nil,h=>h
 | _,_,_,_,.cons r t,h=>.cons r (P2.append t h)
theorem P2.get:∀ {a:List α} {b:List β} {i:Nat} {x:α},Vs F a b->a[i]?=some x->∃ y,b[i]?=some y/\F x y
 | _,_,_,_,.nil,e=>by simp at e
 | _,_,0,_,.cons r _,e=>by simp at e;subst e;exact ⟨_,rfl,r⟩
 | _,_,i+1,x,.cons _ t,e=>by
   obtain ⟨u,h1,h2⟩:=P2.get (i:=i) (x:=x) t (by simpa using e);exact ⟨u,by simpa using h1,h2⟩
theorem P2.get':∀ {a:List α} {b:List β} {i:Nat} {y:β},Vs F a b->b[i]?=some y->∃ x,a[i]?=some x/\F x y
 | _,_,_,_,.nil,e=>by simp at e
 | _,_,0,_,.cons r _,e=>by simp at e;subst e;exact ⟨_,rfl,r⟩
 | _,_,i+1,y,.cons _ t,e=>by
   obtain ⟨u,h1,h2⟩:=P2.get' (i:=i) (y:=y) t (by simpa using e);exact ⟨u,by simpa using h1,h2⟩
theorem P2.mp (f:∀ x y,F x y->G x y):∀ {a:List α} {b:List β},Vs F a b->Vs G a b
 | _,_,.nil=>.nil
 | _,_,.cons r t=>.cons (f _ _ r) (P2.mp f t)
end
def KAt (H:Hp) (k:Vm×Int) (a:UQ):Prop:=H a=some (.tup [.str k.1,.int k.2])
def KsAt (H:Hp) (ks:List (Vm×Int)) (as:List UQ):Prop:=Vs (KAt H) ks as
theorem KsAt.mono {H H':Hp} (k:KT H H') {ks:List (Vm×Int)} {as:List UQ} (h:KsAt H ks as):KsAt H' ks as:=P2.mp (fun x y e=>k _ _ e) h
end BB
namespace L2
open PySem
theorem jb {t u:TS} {D:Ends} {σ:St} {H:Hp} (R:St->Hp->Prop) (h1:∀ k:St->Hp->Prop,(∀ xT H',R xT H'->k xT H')->t { D with nx:=k } σ H) (h2:∀ xT H',R xT H'->u D xT H'):xb t u D σ H:=h1 _ h2
theorem eI {c:TT} {t u:TS} {D:Ends} {σ:St} {H:Hp} (R:Bool->Hp->Prop) (h1:∀ k:Bool->Hp->Prop,(∀ b H',R b H'->k b H')->c σ H k) (h2:∀ H',R true H'->t D σ H') (h3:∀ H',R false H'->u D σ H'):xi c t u D σ H :=
 h1 _ fun b H' r=>by
  cases b with
  | true=>rw [if_pos rfl];exact h2 H' r
  | false=>rw [if_neg Ve];exact h3 H' r
end L2
namespace BB
open PySem L2
mutual
def Th.Fit (ks:List (Vm×Int)):Th->Prop
 | .knot n ts=>(n,(ts.length:Int))∈ks/\Fits ks ts
 | .call _ _=>False
def Fits (ks:List (Vm×Int)):List Th->Prop
 | []=>True
 | t::ts=>t.Fit ks/\Fits ks ts
end
theorem Fits.of {ks:List (Vm×Int)}:∀ {ts:List Th},(∀ t∈ts,t.Fit ks)->Fits ks ts
 | [],_=>by rw [Fits];trivial
 | t::ts,h=>by
   rw [Fits];exact ⟨h t (Vk ..),Fits.of fun u hu=>h u (Vf _ hu)⟩
section
variable {ext:Th->List V} {H H':Hp} {t:Th} {a:UQ} {ts:List Th} {es:List UQ}
end
theorem filter_tt {α:Type} (xs:List α):xs.filter (fun _=>true)=xs:=by
 induction xs with
 | nil=>rfl
 | cons x xs ih=>rw [WZ,if_pos rfl,ih]
theorem cg:∀ {ts:List Th} {t:Th},t∈ts->t.tall<=bw ts
 | u::ts,t,h=>by
   rw [bw];rcases Vd.mp h with rfl | h
   · omega
   · have:=cg h;omega
theorem jk {xs:List V} {n:Nat} (h:n<=xs.length):dw xs (some (n:Int)) none=xs.drop n:=by
 unfold dw;rw [HT.sIx_nat,HT.sIx_none,ZC h];exact Wh (by rw [Wa];exact UR _)
theorem take_snoc {α:Type} {xs:List α} {n:Nat} {x:α} (h:xs[n]?=some x):xs.take (n+1)=xs.take n++[x]:=by rw [Wb,h];rfl
theorem aT {xs:List UQ} {i:Nat} {x:V} (h:(xs.map V.ref)[i]?=some x):∃ a,x=.ref a/\xs[i]?=some a:=by
 rw [UZ] at h;obtain ⟨a,h1,h2⟩:=Vr.mp h;exact ⟨a,h2.symm,h1⟩
end BB
namespace PySem
open Sem (wp)
section
variable {prog:U6} {w:Vj} {A:VF} {E:UT->UY->Prop} {s:UY}
theorem bb_tupNext {cur tp:UQ} {i:Nat} {items:Array UT} {x:UT} {Q:UT->UY->Prop} (g:s.heap.IsTupleIter cur tp i) (gt:s.heap.IsTuple tp items) (hx:items[i]?=some x)
 (fin:∀ h',h'.IsTupleIter cur tp (i+1)->WH cur s.heap h'->Q x { s with heap:=h' }):Va (Vw prog w) A (VQ (.ref cur)) Q E s:=by
 obtain ⟨ob,e1,e2,e3⟩:=id g;obtain ⟨ot,e4,_,nt,e5⟩:=gt;unfold VQ;refine UM (VX (name:=UU "__next__") g.typeIs Yr (V2 Yr g.typeIs F.entry_tuple_iterator_next ?_ (F.args_tuple_iterator_next_1 _)));show Va _ _ (field (.ref cur) 0 >>= _) _ _ s;refine UM (VO e1 e3 (x:=.ref tp) rfl ?_);show Va _ _ (if (Vv tp == Wm)=true then _ else _) _ _ s;rw [if_neg (show ¬ ((Vv tp == Wm)=true) from Ve)];show Va _ _ (field (.ref cur) 1 >>= _) _ _ s;refine UM (VO e1 e3 (x:=.int i 0) rfl ?_);show Va _ _ (seqItems? (.ref tp) >>= _) _ _ s;refine UM (Wj e4 e5 ?_);simp only [VT,hx];refine UM (Yl e1 e3 (by simp) (UX ⟨x,rfl,UX (fin _ ?_ (WW ..))⟩));exact ⟨_,VD _ e1 (YW (W7 e3 _)),(Obj.cls_mapFields ..).trans e2,by rw [W7 e3];simp [Xe]⟩
theorem bb_tupEnd {cur tp:UQ} {i:Nat} {items:Array UT} {Q:UT->UY->Prop} (calm:A.handled=none) (g:s.heap.IsTupleIter cur tp i) (gt:s.heap.IsTuple tp items) (hx:items[i]?=none)
 (fin:∀ h' e,Heap.ExtBut cur s.heap h'->(∃ o,h'.get? e=some o/\o.cls=.type "StopIteration")->E (.ref e) { s with heap:=h' }):Va (Vw prog w) A (VQ (.ref cur)) Q E s:=by
 obtain ⟨ob,e1,e2,e3⟩:=id g;obtain ⟨ot,e4,_,nt,e5⟩:=gt;unfold VQ;refine UM (VX (name:=UU "__next__") g.typeIs Yr (V2 Yr g.typeIs F.entry_tuple_iterator_next ?_ (F.args_tuple_iterator_next_1 _)));show Va _ _ (field (.ref cur) 0 >>= _) _ _ s;refine UM (VO e1 e3 (x:=.ref tp) rfl ?_);show Va _ _ (if (Vv tp == Wm)=true then _ else _) _ _ s;rw [if_neg (show ¬ ((Vv tp == Wm)=true) from Ve)];show Va _ _ (field (.ref cur) 1 >>= _) _ _ s;refine UM (VO e1 e3 (x:=.int i 0) rfl ?_);show Va _ _ (seqItems? (.ref tp) >>= _) _ _ s;refine UM (Wj e4 e5 ?_);simp only [VT,hx];refine UM (XA (UM (Yl e1 e3 (by simp) ?_)));show Va _ _ (newExc (.type "StopIteration") [] >>= _) _ _ _;refine UM ?_;simp only [newExc,newTuple];refine UM (V1 ?_ (by size_fits));refine UM (m:=YO _ _) (X0 (a:=Wm) (by first | rfl | (simp only [YO];rfl)) ?_);refine V1 ?_ (by size_fits);simp only [raiseNew];refine UM (wpAny_handled ?_)
 first | rw [show A.in1.handled=none from calm] | rw [calm]
 refine UM (UX (wpAny_throw ?_));exact fin _ _ (((WW ..).extBut.push _).push _) ⟨_,U4 _ rfl,rfl⟩
end
theorem bb_drawsT {prog:U6} {w:Vj} {A:VF} (calm:A.handled=none) (cur tp:UQ) (ne:tp≠cur) (items:Array UT) :
 Draws prog w A cur [cur,tp] items.size (fun i v=>items[i]?=some v) (fun i h=>h.IsTupleIter cur tp i/\h.IsTuple tp items) where
 live:=fun _ _ st=>let ⟨o,e,_⟩:=st.1;⟨o,e⟩
 frame:=fun _ _ _ st k=>⟨let ⟨o,e,r⟩:=st.1;⟨o,k cur (by simp) o e,r⟩,let ⟨o,e,r⟩:=st.2;⟨o,k tp (by simp) o e,r⟩⟩
 item:=fun i s Q E hi st q=>by
  refine bb_tupNext st.1 st.2 (x:=items[i]) (by simp [hi]) fun h' g' sb=>?_;exact q _ h' s.toks (by simp [hi]) ⟨g',st.2.extBut sb.extBut ne⟩ sb
 done:=fun s Q E st e=>bb_tupEnd calm st.1 st.2 (by simp) e
theorem bb_meetsEnumT (tp:UQ) (items:Array UT) (n:Nat) (K9:Option UQ) (sl:Array (Option UT)) :
 Meets (Xv.«enumerate.__new__» ⟨[.type "enumerate",.ref tp],[]⟩) (fun _ R s=>s.heap.get? tp=some { cls:=.type "tuple",dict:=K9,data:=.seq items n,slots:=sl } ∧
  R (.ok (.ret (.ref (s.heap.push { cls:=.type "tuple_iterator",data:=.fields #[.ref tp,.int 0 0] }).objs.size)))
    { s with heap:=(s.heap.push { cls:=.type "tuple_iterator",data:=.fields #[.ref tp,.int 0 0] }).push { cls:=.type "enumerate",data:=.fields #[.none,.bool false,.ref s.heap.objs.size,Xe 0,.none,.none] } }) :=
 .of_wp fun prog w A R s h=>by
  obtain ⟨hp,g,d,tk,os⟩:=s;obtain ⟨gt,fin⟩:=h;have su:=sub_enumerate;have gT:Heap.IsTuple (Shared.heap ⟨hp,g,d,tk,os⟩) tp items:=⟨_,gt,rfl,n,rfl⟩
  wp_walk using Xd gt
  refine wpAny_stack_any fun st=>UX ?_;split
  · rename_i c _ _ _ _ _
    cases (c == Xh "enumerate")
    · wp_walk using Xd gt,X1 gT
      exact ⟨_,rfl,fin⟩
    · wp_walk using Xd gt,X1 gT
      exact ⟨_,rfl,fin⟩
  · wp_walk using Xd gt,X1 gT
    exact ⟨_,rfl,fin⟩
section
variable {prog:U6} {w:Vj} {A:VF} {E:UT->UY->Prop} {s:UY}
theorem bb_callEnumT {tp:UQ} {items:Array UT} {Q:UT->UY->Prop} (gT:s.heap.IsTuple tp items)
 (fin:∀ h',IsEnum h' (s.heap.objs.size+1) s.heap.objs.size 0 .none->h'.IsTupleIter s.heap.objs.size tp 0->h'.objs.size=s.heap.objs.size+2 →
  (∀ b o,s.heap.get? b=some o->h'.get? b=some o)->Q (.ref (s.heap.objs.size+1)) { s with heap:=h' }):Va (Vw prog w) A (call (.type "enumerate") [.ref tp]) Q E s:=by
 obtain ⟨⟨c,K9,dt,sl⟩,e1,e2,n,e3⟩:=gT;replace e2:c=.type "tuple":=e2;replace e3:dt=.seq items n:=e3;subst e2 e3;refine callType_new F.called_enumerate (by decide) (F.typeCall_enumerate_1 _) (F.newCall_enumerate_1 _) (fun obj=>F.args_object_init_2 obj _) F.entry_enumerate_new (bb_meetsEnumT tp items n K9 sl) ⟨e1,?_⟩;have z:(s.heap.push { cls:=.type "tuple_iterator",data:=.fields #[.ref tp,.int 0 0] }).objs.size=s.heap.objs.size+1:=V8 ..;show _/\_;rw [z]
 have ge:IsEnum ((s.heap.push { cls:=.type "tuple_iterator",data:=.fields #[.ref tp,.int 0 0] }).push { cls:=.type "enumerate",data:=.fields #[.none,.bool false,.ref s.heap.objs.size,Xe 0,.none,.none] }) (s.heap.objs.size+1) s.heap.objs.size 0 .none:=by
  have t:=U4 (s.heap.push { cls:=.type "tuple_iterator",data:=.fields #[.ref tp,.int 0 0] }) (o:={ cls:=.type "enumerate",data:=.fields #[.none,.bool false,.ref s.heap.objs.size,Xe 0,.none,.none] }) rfl;rw [z] at t;exact t
 exact ⟨⟨_,ge,rfl⟩,fin _ ge ⟨_,UW _ (U4 _ rfl),rfl,rfl⟩ (by rw [V8,z]) fun b o x=>UW _ (UW _ x)⟩
end
end PySem
namespace L2
open PySem PySem.Spec PyProof.Rows
theorem Inv.turnedL {X:Cx} {pins:List (UQ×W0)} {σ:St} {H:Hp} {s:UY} {h':V9} {t':Nat} {fp:List UQ} (I:Inv X pins σ H s) (k:∀ b o,b∉fp->s.heap.get? b=some o->h'.get? b=some o) (hf:∀ b∈fp,jP X pins H b) :
 Inv X pins σ H { s with heap:=h',toks:=t' }:=by
 have GJ:∀ b u,H b=some u->b∉fp:=fun b u e z=>by rw [(hf b z).1] at e;cases e
 refine I.step (g':=s.gens) (d':=s.drawn) (ch:=fp) (fun b hb=>?_) (fun b o _ _ hc e _=>k b o hc e) (fun b o _ _ hc e _=>⟨o.slots,k b o hc e⟩) (fun _ _ _ _ n=>n)
  (fun b o hc e=>⟨o,k b o hc e⟩) (fun _ _ e=>e) (fun _ _ _ e=>e) (fun b ps e=>⟨#[],by rw [e];simp⟩) (fun m hm=>?_) (fun b u e=>?_) I.bare
 · obtain ⟨f0,f1,f2,f3,f4,f5⟩:=hf b hb;exact ⟨f3,f1,f4,f5⟩
 · obtain ⟨o,es,ep,ho,r⟩:=hm;exact ⟨o,es,ep,k _ o (fun z=>(hf _ z).2.1 rfl) ho,r⟩
 · refine (I.hok b u e).stay (fun c v hc q=>k c v ?_ q) (fun _ q=>q) fun _ _ q=>q;rcases hc with z | z
   · rw [z];exact GJ b u e
   · exact GJ c _ z
def Ite (K:UO) (a:UQ):It:=⟨fun i H=>∃ xs x,SqT K H a xs/\xs[i]?=some x,fun i H x H'=>∃ p y,H p=none/\x=.ref p/\H'=upd H p (.tup [.int (i:Nat),y])/\∀ xs,SqT K H a xs->xs[i]?=some y,fun i H=>∃ xs,SqT K H a xs/\xs.length=i⟩
theorem si {P:U6} {w:Vj} {K:UO} {elts:List V4} {k1} {pos:YJ} (a e it:UQ):Turn P w K (.Tuple elts k1 pos) (Ite K a) [e,it] e (fun i h=>(∃ old,IsEnum h e it ((i:Nat):Int) old)/\h.IsTupleIter it a i) where
 mem:=by simp
 obj:=fun i h st b hb=>by
  obtain ⟨⟨old,he⟩,o,e1,e2,e3⟩:=st;rcases Vd.mp hb with rfl | hb
  · exact ⟨_,he,fun v z=>by cases z⟩
  · have:b=it:=by simpa using hb
    subst this;exact ⟨o,e1,fun v z=>by rw [e3] at z;cases z⟩
 keep:=fun i h h' st k=>by
  obtain ⟨⟨old,he⟩,o,e1,e2⟩:=st;exact ⟨⟨old,k e (by simp) _ he⟩,o,k it (by simp) _ e1,e2⟩
 item:=by
  intro X hP hw hK hc i pins s σ H E I hf st hg;subst hP hw hK;obtain ⟨xs,x,hq,hx⟩:=hg;obtain ⟨its,rv,p,hz⟩:=I.tuple hq;obtain ⟨u,hu,ru⟩:=rv.get hx;obtain ⟨⟨old,he⟩,hi⟩:=st
  have EY:e≠it:=by
   rintro rfl;obtain ⟨o,e1,e2,_⟩:=hi;rw [he] at e1;cases e1;exact absurd (WD e2) (by decide)
  have EZ:a≠it:=by
   rintro rfl;obtain ⟨o,e1,e2,_⟩:=hi;obtain ⟨o',Aj,Ai,_⟩:=p;rw [Aj] at e1;cases e1;rw [Ai] at e2;exact absurd (WD e2) (by decide)
  have K':a≠e:=by
   rintro rfl;obtain ⟨o',Aj,Ai,_⟩:=p;rw [he] at Aj;cases Aj;exact absurd (WD Ai) (by decide)
  have ye:i<its.toArray.size:=by
   have:=(US.mp hu).1;simpa using this
  have La:e<s.heap.objs.size:=U7 he;have zK:it<s.heap.objs.size:=by obtain ⟨o,e1,_⟩:=hi;exact U7 e1
  refine wpAny_pyNext_enum_itemD (bb_drawsT (A:=X.A.in1) (show X.A.in1.handled=none from I.ok.hd hc) it a EZ its.toArray) he ⟨hi,p⟩ ye EY (by simp [EY,K'.symm]) fun y h1 tk hy ho F' hT hsz hk=>?_
  have Lb:y=u:=by
   have:its[i]?=some y:=by simpa using hy
   rw [hu] at this;exact (Vo this).symm
  subst Lb;refine ⟨_,rfl,wpAny_letOwnedTupleGo_enum ho fun h2 Lc Cg=>?_⟩;replace Cg:WH e h1 h2:=Cg
  have yn:∀ b∈[e,it],b<s.heap.objs.size:=fun b hb=>by
   rcases Vd.mp hb with rfl | hb
   · exact La
   · have:b=it:=by simpa using hb
     subst this;exact zK
  have G5:H s.heap.objs.size=none:=I.hok.fresh (UR _)
  have IA:Inv X pins σ (upd H s.heap.objs.size (.tup [.int (i:Nat),x])) { s with heap:=s.heap.push { cls:=.type "tuple",data:=.seq #[.int (i:Nat) tk,y] },toks:=tk } :=
   I.laid (o:=.tup [.int (i:Nat),x]) (fun b ob q=>UW _ q) (UR _) ⟨by show 2<=Vb;decide,[.int (i:Nat) tk,y],0,.cons ⟨tk,rfl⟩ (.cons ru .nil),U4 _ rfl⟩
  refine ⟨.ref s.heap.objs.size,upd H s.heap.objs.size (.tup [.int (i:Nat),x]),?_,rfl,⟨_,x,G5,rfl,rfl,fun ys G0=>by rw [I.tuple_inj G0 hq];exact hx⟩,⟨⟨y,by simpa using Lc⟩,?_⟩,fun b hb=>?_⟩
  · have IB:Inv X pins σ (upd H s.heap.objs.size (.tup [.int (i:Nat),x])) { s with heap:=h2,toks:=tk+1 }:=by
     refine Inv.turnedL (s:={ s with heap:=s.heap.push { cls:=.type "tuple",data:=.seq #[.int (i:Nat) tk,y] },toks:=tk }) (h':=h2) (fp:=[e,it]) (t':=tk+1) IA (fun b o hb q=>?_) fun b hb=>?_
     · have Bs:b≠e:=fun z=>hb (by simp [z]);have Ld:b≠it:=fun z=>hb (by simp [z]);rw [Cg.2 b Bs];by_cases yo:b=s.heap.objs.size
       · subst yo;rw [hT];have q':(s.heap.push { cls:=.type "tuple",data:=.seq #[.int (i:Nat) tk,y] }).get? s.heap.objs.size=some o:=q;rw [U4 _ rfl] at q';exact q'
       · have zT:b<(s.heap.push { cls:=.type "tuple",data:=.seq #[.int (i:Nat) tk,y] }).objs.size:=U7 q;rw [V8] at zT;refine hk b o Bs Ld ?_;have q':(s.heap.push { cls:=.type "tuple",data:=.seq #[.int (i:Nat) tk,y] }).get? b=some o:=q;rw [Heap.get?_push_ne _ _ _ yo] at q';exact q'
     · obtain ⟨f0,f1⟩:=hf b hb;exact ⟨by rw [ai (Vy (yn b hb))];exact f0,f1⟩
    exact IB
  · obtain ⟨o,e1,r⟩:=F'.1;exact ⟨o,(Cg.2 it (WG EY)).trans e1,r⟩
  · rw [ai (Vy (yn b hb))];exact (hf b hb).1
 done:=by
  intro X hP hw hK hc i pins s σ H E I hf st hg;subst hP hw hK;obtain ⟨xs,hq,hx⟩:=hg;obtain ⟨its,rv,p,hz⟩:=I.tuple hq;obtain ⟨⟨old,he⟩,hi⟩:=st
  have EZ:a≠it:=by
   rintro rfl;obtain ⟨o,e1,e2,_⟩:=hi;obtain ⟨o',Aj,Ai,_⟩:=p;rw [Aj] at e1;cases e1;rw [Ai] at e2;exact absurd (WD e2) (by decide)
  have hn:its.toArray.size=i:=by
   have:=rv.length;rw [U0];omega
  refine wpAny_pyNext_enum_endD (bb_drawsT (A:=X.A.in1) (show X.A.in1.handled=none from I.ok.hd hc) it a EZ its.toArray) he (by rw [hn];exact ⟨hi,p⟩) fun h' eb=>⟨rfl,?_⟩;exact I.turnedL (fp:=[e,it]) (t':=s.toks) (fun b o hb q=>eb b o (fun z=>hb (by simp [z])) q) hf
 self:=fun _ _ _ _ _ st h=>by
  obtain ⟨⟨old,he⟩,_⟩:=st;exact Zw he h
section
variable {X:Cx} {e:V4} {te:TE} {p2 yt:YJ}
def wy (K:UO) (tl:TE):TI:=fun σ H R=>tl σ H fun x H1=>∃ a,x=.ref a/\(∃ xs,SqT K H1 a xs)/\R (Ite K a) H1
theorem mN {elts:List V4} {k1} {pos:YJ} (g2:Gl X "enumerate") (m2:X.mg "enumerate"=none) (he:PE X e te) (h2:VR [e] X.env=[(false,Xf e X.env)]:=by rfl):PI X (.Tuple elts k1 pos) (.Call (.Name "enumerate" p2) [e] [] yt) (wy X.K te):=by
 intro pins s σ H R I h;refine Wu (cU I g2 m2 boot_enumerate (VP ?_ h2 rfl));rw [h2];show Va _ _ (spliced ((false,Xf e X.env)::[])) _ _ s;refine Wv (thn (he pins s σ H _ I h) fun u s1 ⟨x,H1,I1,r1,a,ex,⟨xs,hq⟩,q⟩=>WV ?_);subst ex;cases r1;obtain ⟨its,rv,p,hz⟩:=I1.tuple hq;refine bb_callEnumT (show s1.heap.IsTuple a its.toArray from p) fun h' g1 g2 g3 g4=>?_;refine Zw (s:={ s1 with heap:=h' }) g1 ?_;refine ⟨s1.heap.objs.size+1,[s1.heap.objs.size+1,s1.heap.objs.size],_,_,H1,rfl,I1.kept (t':=s1.toks) g4,si a _ _,⟨⟨_,g1⟩,g2⟩,fun b hb=>?_,q⟩
 have zE:s1.heap.objs.size<=b:=by
  rcases Vd.mp hb with rfl | hb
  · omega
  · have:b=s1.heap.objs.size:=by simpa using hb
    exact Nat.le_of_eq this.symm
 exact I1.fpOk zE (I1.hok.fresh zE)
inductive tM (K:UO) (x:V) (y:V) (H:Hp) (Q:VK):Prop
 | mk (a:_) (b:_) (xs:_) (ys:_) (yf:x=.ref a) (yg:y=.ref b) (yl:SqT K H a xs) (yx:SqT K H b ys) (yK:xs.length+ys.length<=Vb) (zJ:(xs=[]->Q (.ref b) H)) (Bv:(xs≠[]->ys=[]->Q (.ref a) H)) (BZ:(xs≠[]->ys≠[]->∀ p,H p=none->Q (.ref p) (upd H p (.tup (xs++ys))))):tM K x y H Q
def mo (K:UO):R2:=tM K
theorem cK:OpR X (YA .Add) (mo X.K):=by
 intro pins s σ H x y v u Q I rx ry h;obtain ⟨a,b,xs,ys,e1,e2,ha,hb,hz,q0,q1,q2⟩:=h;by_cases hx:xs=[]
 · subst e1 e2;cases rx;cases ry;obtain ⟨its,r1,p1,_⟩:=I.tuple ha;obtain ⟨xW,r2,p2,_⟩:=I.tuple hb;have hi:its=[]:=r1.nil_iff.mpr hx;obtain ⟨⟨cls,dd,data,sl⟩,ho,hc,n,hd⟩:=p1;obtain ⟨⟨GP,F6,data2,F7⟩,Dg,BU,n2,hd2⟩:=p2;simp only at hc hd BU hd2;subst hc hd BU hd2;exact concat_meets ⟨_,ho,rfl⟩ ⟨_,Dg,rfl⟩ noFill_tuple_add seq_tuple_add Zs Zp (Zf _ _) (tuple_addW0 a b its.toArray xW.toArray n n2 dd F6 sl F7 (by simp [hi])) ⟨ho,Dg,⟨.ref b,H,I,rfl,q0 hx⟩⟩
 · exact uQ pins s σ H x y v u Q I rx ry ⟨a,b,xs,ys,e1,e2,ha,hb,hx,hz,q1 hx,q2 hx⟩
end
end L2
namespace PySem
open Sem (wp)
abbrev tzH1 (h:V9) (l1:UQ):V9:=h.push { cls:=.type "tuple_iterator",data:=.fields #[.ref l1,.int 0 0] }
abbrev tzH2 (h:V9) (l1 l2:UQ):V9:=(tzH1 h l1).push { cls:=.type "tuple_iterator",data:=.fields #[.ref l2,.int 0 0] }
abbrev tzH3 (h:V9) (l1 l2:UQ):V9:=(tzH2 h l1 l2).push { cls:=.type "tuple",data:=.seq #[.ref h.objs.size,.ref (tzH1 h l1).objs.size] }
abbrev tzH4 (h:V9) (l1 l2:UQ):V9:=(tzH3 h l1 l2).push { cls:=.type "tuple",data:=.seq #[.none,.none] }
abbrev tzH5 (h:V9) (l1 l2:UQ):V9:=(tzH4 h l1 l2).push { cls:=.type "zip",data:=.fields #[.none,.bool false,.bool false,.ref (tzH2 h l1 l2).objs.size,.ref (tzH3 h l1 l2).objs.size] }
theorem IsTuple.push' {h:V9} {l:UQ} {xs:Array UT} (x:h.IsTuple l xs) (o:W0):(h.push o).IsTuple l xs:=let ⟨ob,e,r⟩:=x;⟨ob,UW _ e,r⟩
theorem bb_meets_zip (l1 l2:UQ) (xs ys:Array UT) :
 Meets (Xv.«zip.__new__» ⟨[.type "zip",.ref l1,.ref l2],[]⟩) (fun _ R s=>s.heap.IsTuple l1 xs/\s.heap.IsTuple l2 ys ∧
  R (.ok (.ret (.ref (tzH4 s.heap l1 l2).objs.size))) { s with heap:=tzH5 s.heap l1 l2 }) :=
 .of_wp fun prog w A R s h=>by
  obtain ⟨hp,g,d,tk,os⟩:=s;obtain ⟨y9,yP,h⟩:=h;have zi:=sub_zip;have QG:Heap.IsTuple (Shared.heap ⟨hp,g,d,tk,os⟩) l1 xs:=y9;have QH:Heap.IsTuple (Shared.heap ⟨hp.push { cls:=.type "tuple_iterator",data:=.fields #[.ref l1,.int 0 0] },g,d,tk,os⟩) l2 ys:=IsTuple.push' yP _
  wp_walk using X1 QG,X1 QH
  exact ⟨_,rfl,h⟩
section
variable {prog:U6} {w:Vj} {A:VF} {E:UT->UY->Prop} {s:UY}
theorem bb_call_zip {l1 l2:UQ} {xs ys:Array UT} {Q:UT->UY->Prop} (y9:s.heap.IsTuple l1 xs) (yP:s.heap.IsTuple l2 ys)
 (h:∀ h',ZQ h' (s.heap.objs.size+4) (s.heap.objs.size+2) (s.heap.objs.size+3) .none->W3 h' (s.heap.objs.size+2) (.ref s.heap.objs.size) (.ref (s.heap.objs.size+1)) →
  W3 h' (s.heap.objs.size+3) .none .none->h'.IsTupleIter s.heap.objs.size l1 0->h'.IsTupleIter (s.heap.objs.size+1) l2 0->h'.objs.size=s.heap.objs.size+5 →
  (∀ c o,s.heap.get? c=some o->h'.get? c=some o)->Q (.ref (s.heap.objs.size+4)) { s with heap:=h' }) :
 Va (Vw prog w) A (call (.type "zip") [.ref l1,.ref l2]) Q E s:=by
 refine callType_new F.called_zip (by decide) (F.typeCall_zip_2 _ _) (F.newCall_zip_2 _ _) (fun obj=>F.args_object_init_3 obj _ _) F.entry_zip_new
  (bb_meets_zip l1 l2 xs ys) ⟨y9,yP,?_⟩
 have z1:(tzH1 s.heap l1).objs.size=s.heap.objs.size+1:=V8 ..;have z2:(tzH2 s.heap l1 l2).objs.size=s.heap.objs.size+2:=by rw [V8,z1]
 have z3:(tzH3 s.heap l1 l2).objs.size=s.heap.objs.size+3:=by rw [V8,z2]
 have z4:(tzH4 s.heap l1 l2).objs.size=s.heap.objs.size+4:=by rw [V8,z3]
 have z5:(tzH5 s.heap l1 l2).objs.size=s.heap.objs.size+5:=by rw [V8,z4]
 have g5:(tzH5 s.heap l1 l2).get? (tzH4 s.heap l1 l2).objs.size=some _:=U4 _ rfl;have g4:(tzH5 s.heap l1 l2).get? (tzH3 s.heap l1 l2).objs.size=some _:=UW _ (U4 _ rfl);have g3:(tzH5 s.heap l1 l2).get? (tzH2 s.heap l1 l2).objs.size=some _:=UW _ (UW _ (U4 _ rfl));have g2:(tzH5 s.heap l1 l2).get? (tzH1 s.heap l1).objs.size=some _:=UW _ (UW _ (UW _ (U4 _ rfl)));have g1:(tzH5 s.heap l1 l2).get? s.heap.objs.size=some _:=UW _ (UW _ (UW _ (UW _ (U4 _ rfl))));show _/\_;rw [z2,z3,z4] at g5;rw [z1,z2] at g3;rw [z3] at g4;rw [z1] at g2;rw [z4]
 exact ⟨⟨_,g5,rfl⟩,h _ g5 g3 g4 ⟨_,g1,rfl,rfl⟩ ⟨_,g2,rfl,rfl⟩ z5 fun c o x =>
  UW _ (UW _ (UW _ (UW _ (UW _ x))))⟩
structure ZSt (xs ys:Array UT) (z TI TO i1 i2 l1 l2:UQ) (k:Nat) (h:V9):Prop where
 ap:ZipApart z TI TO i1 i2 l1 l2
 zip:ZQ h z TI TO .none∨∃ (T:UQ) (b:Bool) (x y:UT),h.get? z=some { cls:=.type "zip",data:=.fields #[Xe T,.bool b,.bool false,.ref TI,.ref TO] }/\W3 h T x y/\T≠TO
 hTI:W3 h TI (.ref i1) (.ref i2)
 hTO:∃ a b,W3 h TO a b
 h1:h.IsTupleIter i1 l1 k
 h2:h.IsTupleIter i2 l2 k
 t1:h.IsTuple l1 xs
 t2:h.IsTuple l2 ys
theorem ZSt.typeIs {xs ys:Array UT} {z TI TO i1 i2 l1 l2:UQ} {k:Nat} (x:ZSt xs ys z TI TO i1 i2 l1 l2 k s.heap):s.TypeIs (.ref z) "zip":=by
 rcases x.zip with e | ⟨T,b,u,v,e,_⟩
 · exact ⟨_,e,rfl⟩
 · exact ⟨_,e,rfl⟩
theorem IsTuple.but {h h':V9} {c l:UQ} {xs:Array UT} (x:h.IsTuple l xs) (e:Heap.ExtBut c h h') (n:l≠c):h'.IsTuple l xs:=let ⟨ob,q,r⟩:=x;⟨ob,e _ _ n q,r⟩
theorem IsTupleIter.but {h h':V9} {c i l:UQ} {k:Nat} (x:h.IsTupleIter i l k) (e:Heap.ExtBut c h h') (n:i≠c):h'.IsTupleIter i l k:=let ⟨ob,q,r⟩:=x;⟨ob,e _ _ n q,r⟩
theorem ZSt.frame {xs ys:Array UT} {z TI TO i1 i2 l1 l2:UQ} {k:Nat} {h h':V9} (x:ZSt xs ys z TI TO i1 i2 l1 l2 k h)
 (e:∀ b o,o.cls≠.type "list"->h.get? b=some o->h'.get? b=some o):ZSt xs ys z TI TO i1 i2 l1 l2 k h':=by
 obtain ⟨D,hz,hTI,⟨a,b,hTO⟩,⟨o1,a1,a2,a3⟩,⟨o2,b1,b2,b3⟩,⟨o3,c1,c2,c3⟩,⟨o4,d1,d2,d3⟩⟩:=x;refine ⟨D,?_,e _ _ (by simp) hTI,⟨a,b,e _ _ (by simp) hTO⟩,⟨o1,e _ _ (by rw [a2];simp) a1,a2,a3⟩,⟨o2,e _ _ (by rw [b2];simp) b1,b2,b3⟩,⟨o3,e _ _ (by rw [c2];simp) c1,c2,c3⟩,⟨o4,e _ _ (by rw [d2];simp) d1,d2,d3⟩⟩;rcases hz with g | ⟨T,b,u,v,g,g2,g3⟩
 · exact .inl (e _ _ (by simp) g)
 · exact .inr ⟨T,b,u,v,e _ _ (by simp) g,e _ _ (by simp) g2,g3⟩
end
end PySem
namespace PySem
open Sem (wp)
section
variable {prog:U6} {w:Vj} {A:VF} {E:UT->UY->Prop} {s:UY}
theorem bb_zip_itemA {z TI TO i1 i2 l1 l2:UQ} {k:Nat} {xs ys:Array UT} {x y a b:UT} {Q:UT->UY->Prop} (D:ZipApart z TI TO i1 i2 l1 l2)
 (hz:ZQ s.heap z TI TO .none) (hTI:W3 s.heap TI (.ref i1) (.ref i2)) (hTO:W3 s.heap TO a b)
 (h1:s.heap.IsTupleIter i1 l1 k) (h2:s.heap.IsTupleIter i2 l2 k) (y9:s.heap.IsTuple l1 xs) (yP:s.heap.IsTuple l2 ys) (hx:xs[k]?=some x) (hy:ys[k]?=some y)
 (hQ:∀ h',ZQ h' z TI TO (Xe s.heap.objs.size)->W3 h' TO x y->h'.IsTupleIter i1 l1 (k+1)->h'.IsTupleIter i2 l2 (k+1)->W3 h' s.heap.objs.size x y->h'.objs.size=s.heap.objs.size+1 →
  (∀ c o,c≠z->c≠TO->c≠i1->c≠i2->s.heap.get? c=some o->h'.get? c=some o)->Q (.ref s.heap.objs.size) { s with heap:=h' }) :
 Va (Vw prog w) A (Xv.«zip.__next__» ⟨[.ref z],[]⟩) (fun fin s'=>∃ v,fin=.done (.ret v)/\Q v s') E s:=by
 show Va _ _ (field (.ref z) 2 >>= _) _ _ _;refine UM (VO hz rfl (x:=.bool false) rfl ?_);show Va _ _ (field (.ref z) 3 >>= _) _ _ _;refine UM (VO hz rfl (x:=.ref TI) rfl ?_);refine UM (Wj hTI rfl ?_);show Va _ _ (VZ (.ref z) >>= _) _ _ _;refine UM ?_;unfold VZ;refine UM (VO hz rfl (x:=.none) rfl (UX ?_));simp only [if_true];refine UM (XA ?_);refine UM (VO hz rfl (x:=.ref TO) rfl ?_);refine UM (Xz hz (by simp) fun yi yA xX=>?_);replace yA:ZQ yi z TI TO .ellipsis:=yA;refine UM ?_;simp only [List.zipIdx_cons,List.zipIdx_nil,Yw,ZP];refine UM (UM (wpAny_onRaise ?_));show Va _ _ (VQ (.ref i1) >>= _) _ _ _;refine UM (bb_tupNext (IsTupleIter.but h1 xX.extBut D.i1z) (IsTuple.but y9 xX.extBut D.l1z) hx fun yS AA ya=>UX ?_);have zu:W3 yS TO a b:=ya.extBut _ _ D.TOi1 (xX.extBut _ _ D.TOz hTO);refine UM (Wj zu rfl ?_);refine UM (Z7 zu fun Av Aa yy=>?_);replace Aa:W3 Av TO x b:=Aa;refine UM (Zx (UX ?_));refine UM (UM (wpAny_onRaise ?_));show Va _ _ (VQ (.ref i2) >>= _) _ _ _
 refine UM (bb_tupNext (IsTupleIter.but (IsTupleIter.but (IsTupleIter.but h2 xX.extBut D.i2z) ya.extBut D.i12.symm) yy.extBut D.TOi2.symm)
  (IsTuple.but (IsTuple.but (IsTuple.but yP xX.extBut D.l2z) ya.extBut D.l2i1) yy.extBut D.l2TO) hy fun yC Ci yu=>UX ?_)
 have Cj:W3 yC TO x b:=yu.extBut _ _ D.TOi2 Aa;refine UM (Wj Cj rfl ?_);refine UM (Z7 Cj fun yD Ab zf=>?_);replace Ab:W3 yD TO x y:=Ab;refine UM (Zx (UX (UX ?_)));refine UM (Wj Ab rfl ?_);refine UM (wpAny_newTuple ?_);have hsz:yD.objs.size=s.heap.objs.size:=by rw [zf.1,yu.1,yy.1,ya.1,xX.1]
 have D7:ZQ yD z TI TO .ellipsis:=zf.extBut _ _ D.TOz.symm (yu.extBut _ _ D.i2z.symm (yy.extBut _ _ D.TOz.symm (ya.extBut _ _ D.i1z.symm yA)))
 have G7:∀ c o,c≠z->c≠TO->c≠i1->c≠i2->s.heap.get? c=some o->yD.get? c=some o:=fun c o c1 c2 c3 c4 e =>
  zf.extBut _ _ c2 (yu.extBut _ _ c4 (yy.extBut _ _ c2 (ya.extBut _ _ c3 (xX.extBut _ _ c1 e))))
 have G9:yD.IsTupleIter i1 l1 (k+1):=IsTupleIter.but (IsTupleIter.but (IsTupleIter.but AA yy.extBut D.TOi1.symm) yu.extBut D.i12) zf.extBut D.TOi1.symm;have Ha:yD.IsTupleIter i2 l2 (k+1):=IsTupleIter.but Ci zf.extBut D.TOi2.symm;have Hf:z<yD.objs.size:=U7 D7;show Va _ _ (Builtin.SmallTypes.ownedTupleHandOut (.ref z) (.ref yD.objs.size) >>= _) _ _ _;refine UM ?_;unfold Builtin.SmallTypes.ownedTupleHandOut;have Hi:ZQ (yD.push { cls:=.type "tuple",data:=.seq #[x,y] }) z TI TO .ellipsis:=UW _ D7;refine UM (Xz Hi (by simp) fun Le Ck Cm=>?_);replace Ck:ZQ Le z TI TO (Xe yD.objs.size):=Ck;refine Xz Ck (by simp) fun Cn Bm Co=>?_;replace Bm:ZQ Cn z TI TO (Xe yD.objs.size):=Bm;have up:∀ c o,c≠z->yD.get? c=some o->Cn.get? c=some o:=fun c o c1 e=>Co.extBut _ _ c1 (Cm.extBut _ _ c1 (UW _ e));have D8:W3 Cn yD.objs.size x y:=Co.extBut _ _ (Yc Hf) (Cm.extBut _ _ (Yc Hf) (U4 _ rfl));have OB:Cn.objs.size=yD.objs.size+1:=by rw [Co.1,Cm.1,V8]
 rw [hsz] at Bm D8 OB;refine UX ⟨_,rfl,?_⟩;show Q (.ref yD.objs.size) _;rw [hsz];refine hQ Cn Bm (up _ _ D.TOz Ab) ?_ ?_ D8 OB fun c o c1 c2 c3 c4 e=>up c o c1 (G7 c o c1 c2 c3 c4 e)
 · obtain ⟨o,e,r⟩:=G9;exact ⟨o,up _ o D.i1z e,r⟩
 · obtain ⟨o,e,r⟩:=Ha;exact ⟨o,up _ o D.i2z e,r⟩
theorem bb_loadIfAlive {a:UQ} {o:W0} {Q:Option W0->UY->Prop} (hQ:∀ u,some o=some u->Q (some u) s) (h:s.heap.get? a=some o):Va (Vw prog w) A (loadIfAlive a) Q E s:=by
 intro Γ p TB;show Sem.wp _ _ (.loadIfAlive a .pure) _ _ _ _;rw [Sem.wp_loadIfAlive,h];exact hQ o rfl
theorem bb_notfree {z T:UQ} {b:Bool} {f2 TI TO u v:UT} (hz:s.heap.get? z=some { cls:=.type "zip",data:=.fields #[Xe T,.bool b,f2,TI,TO] }) (hT:W3 s.heap T u v) :
 Va (Vw prog w) A (VZ (.ref z)) (fun a s1=>a=false/\∃ yi,s1={ s with heap:=yi }/\yi.get? z=some { cls:=.type "zip",data:=.fields #[Xe T,.bool true,f2,TI,TO] }/\WH z s.heap yi) E s:=by
 unfold VZ;refine UM (VO hz rfl (x:=Xe T) rfl ?_);show Va _ _ (loadIfAlive (T:Int).toNat >>= _) _ _ _;rw [VT];refine UM (bb_loadIfAlive (fun o (e:some _=some o)=>?_) hT);cases e;show Va _ _ (if (some _:Option W0).isNone=true then _ else _) _ _ _;rw [if_neg (show ¬ ((some _:Option W0).isNone=true) from Ve)];refine UM (VO hz rfl (x:=.bool b) rfl ?_);cases b with
 | true=>exact UX ⟨rfl,s.heap,rfl,hz,rfl,fun _ _=>rfl⟩
 | false=>exact UM (Xz hz (by simp) fun yi yA xX=>UX ⟨rfl,yi,rfl,yA,xX⟩)
theorem bb_zip_itemB {z TI TO i1 i2 l1 l2 T:UQ} {k:Nat} {xs ys:Array UT} {x y u v:UT} {b:Bool} {Q:UT->UY->Prop} (D:ZipApart z TI TO i1 i2 l1 l2)
 (hz:s.heap.get? z=some { cls:=.type "zip",data:=.fields #[Xe T,.bool b,.bool false,.ref TI,.ref TO] }) (hT:W3 s.heap T u v) (hTI:W3 s.heap TI (.ref i1) (.ref i2))
 (h1:s.heap.IsTupleIter i1 l1 k) (h2:s.heap.IsTupleIter i2 l2 k) (y9:s.heap.IsTuple l1 xs) (yP:s.heap.IsTuple l2 ys) (hx:xs[k]?=some x) (hy:ys[k]?=some y)
 (hQ:∀ h',h'.get? z=some { cls:=.type "zip",data:=.fields #[Xe T,.bool true,.bool false,.ref TI,.ref TO] }->h'.IsTupleIter i1 l1 (k+1)->h'.IsTupleIter i2 l2 (k+1)->W3 h' s.heap.objs.size x y->h'.objs.size=s.heap.objs.size+1 →
  (∀ c o,c≠z->c≠i1->c≠i2->s.heap.get? c=some o->h'.get? c=some o)->Q (.ref s.heap.objs.size) { s with heap:=h' }) :
 Va (Vw prog w) A (Xv.«zip.__next__» ⟨[.ref z],[]⟩) (fun fin s'=>∃ v,fin=.done (.ret v)/\Q v s') E s:=by
 show Va _ _ (field (.ref z) 2 >>= _) _ _ _;refine UM (VO hz rfl (x:=.bool false) rfl ?_);show Va _ _ (field (.ref z) 3 >>= _) _ _ _;refine UM (VO hz rfl (x:=.ref TI) rfl ?_);refine UM (Wj hTI rfl ?_);show Va _ _ (VZ (.ref z) >>= _) _ _ _;refine UM (WU (bb_notfree hz hT) (fun a s1 ⟨e1,yi,e2,yA,xX⟩=>?_) fun _ _ x=>x);subst e1 e2;simp only [V7,if_false];rw [<- Yy];refine UM ?_;simp only [Yw,ZP];refine UM (UM (Wl ?_));show Va _ _ (VQ (.ref i1) >>= _) _ _ _;refine UM (bb_tupNext (IsTupleIter.but h1 xX.extBut D.i1z) (IsTuple.but y9 xX.extBut D.l1z) hx fun yS AA ya=>UX (UX ?_));refine UM (UM (Wl ?_));show Va _ _ (VQ (.ref i2) >>= _) _ _ _;refine UM (bb_tupNext (IsTupleIter.but (IsTupleIter.but h2 xX.extBut D.i2z) ya.extBut D.i12.symm) (IsTuple.but (IsTuple.but yP xX.extBut D.l2z) ya.extBut D.l2i1) hy fun yC Ci yu=>UX (UX (UX ?_)));refine UM (wpAny_newTuple (hsz:=by show 2<=Vb;decide) (UX ⟨_,rfl,?_⟩));have hsz:yC.objs.size=s.heap.objs.size:=by rw [yu.1,ya.1,xX.1]
 show Q (.ref yC.objs.size) { s with heap:=yC.push { cls:=.type "tuple",data:=.seq #[x,y] } };have D9:W3 (yC.push { cls:=.type "tuple",data:=.seq #[x,y] }) yC.objs.size x y:=U4 _ rfl;have za:(yC.push { cls:=.type "tuple",data:=.seq #[x,y] }).objs.size=yC.objs.size+1:=V8 ..;have Hj:=IsTupleIter.but AA yu.extBut D.i12;rw [hsz] at D9 za;rw [hsz];refine hQ _ (UW _ (yu.extBut _ _ D.i2z.symm (ya.extBut _ _ D.i1z.symm yA))) ?_ ?_ D9 za fun c o c1 c3 c4 e=>UW _ (yu.extBut _ _ c4 (ya.extBut _ _ c3 (xX.extBut _ _ c1 e)))
 · obtain ⟨o,e,r⟩:=Hj;exact ⟨o,UW _ e,r⟩
 · obtain ⟨o,e,r⟩:=Ci;exact ⟨o,UW _ e,r⟩
theorem bb_zip_end {z TI TO i1 i2 l1 l2:UQ} {k:Nat} {xs ys:Array UT} {Q:Fin->UY->Prop} (hh:A.handled=none)
 (S:ZSt xs ys z TI TO i1 i2 l1 l2 k s.heap) (zL:xs[k]?=none∨ys[k]?=none)
 (hE:∀ h' e,(∀ c o,c≠z->c≠TO->c≠i1->c≠i2->s.heap.get? c=some o->h'.get? c=some o)->(∃ o,h'.get? e=some o/\o.cls=.type "StopIteration")->E (.ref e) { s with heap:=h' }) :
 Va (Vw prog w) A (Xv.«zip.__next__» ⟨[.ref z],[]⟩) Q E s:=by
 obtain ⟨D,hz,hTI,⟨a,b,hTO⟩,h1,h2,y9,yP⟩:=S;rcases hz with hz | ⟨T,bb,u,v,hz,hT,OC⟩
 · show Va _ _ (field (.ref z) 2 >>= _) _ _ _;refine UM (VO hz rfl (x:=.bool false) rfl ?_);show Va _ _ (field (.ref z) 3 >>= _) _ _ _;refine UM (VO hz rfl (x:=.ref TI) rfl ?_);refine UM (Wj hTI rfl ?_);show Va _ _ (VZ (.ref z) >>= _) _ _ _;refine UM ?_;unfold VZ;refine UM (VO hz rfl (x:=.none) rfl (UX ?_));simp only [if_true];refine UM (XA ?_);refine UM (VO hz rfl (x:=.ref TO) rfl ?_);refine UM (Xz hz (by simp) fun yi yA xX=>?_);replace yA:ZQ yi z TI TO .ellipsis:=yA;refine UM ?_;simp only [List.zipIdx_cons,List.zipIdx_nil,Yw,ZP];refine UM (UM (wpAny_onRaise ?_));show Va _ _ (VQ (.ref i1) >>= _) _ _ _;cases hx:xs[k]? with
   | none =>
     refine UM (bb_tupEnd hh (IsTupleIter.but h1 xX.extBut D.i1z) (IsTuple.but y9 xX.extBut D.l1z) hx fun yS e ya he=>?_);obtain ⟨oe,E1,Hk⟩:=he;have D':ZQ yS z TI TO .ellipsis:=ya _ _ D.i1z.symm yA;have Lf:e≠z:=fun x=>by subst x;rw [D'] at E1;cases E1;simp at Hk
     refine Xz D' (by simp) fun Av _ yy=>hE Av e (fun c o c1 _ c3 _ x=>yy.extBut _ _ c1 (ya _ _ c3 (xX.extBut _ _ c1 x))) ⟨oe,yy.extBut _ _ Lf E1,Hk⟩
   | some x =>
     have hy:ys[k]?=none:=by rcases zL with h | h;rw [hx] at h;cases h;exact h
     refine UM (bb_tupNext (IsTupleIter.but h1 xX.extBut D.i1z) (IsTuple.but y9 xX.extBut D.l1z) hx fun yS AA ya=>UX ?_);have zu:W3 yS TO a b:=ya.extBut _ _ D.TOi1 (xX.extBut _ _ D.TOz hTO);refine UM (Wj zu rfl ?_);refine UM (Z7 zu fun Av Aa yy=>?_);refine UM (Zx (UX ?_));refine UM (UM (wpAny_onRaise ?_));show Va _ _ (VQ (.ref i2) >>= _) _ _ _
     refine UM (bb_tupEnd hh (IsTupleIter.but (IsTupleIter.but (IsTupleIter.but h2 xX.extBut D.i2z) ya.extBut D.i12.symm) yy.extBut D.TOi2.symm)
      (IsTuple.but (IsTuple.but (IsTuple.but yP xX.extBut D.l2z) ya.extBut D.l2i1) yy.extBut D.l2TO) hy fun yC e yu he=>?_)
     obtain ⟨oe,E1,Hk⟩:=he;have Ea:ZQ yC z TI TO .ellipsis:=yu _ _ D.i2z.symm (yy.extBut _ _ D.TOz.symm (ya.extBut _ _ D.i1z.symm yA));have Lf:e≠z:=fun x=>by subst x;rw [Ea] at E1;cases E1;simp at Hk
     refine Xz Ea (by simp) fun yD _ zf=>hE yD e (fun c o c1 c2 c3 c4 x=>zf.extBut _ _ c1 (yu _ _ c4 (yy.extBut _ _ c2 (ya.extBut _ _ c3 (xX.extBut _ _ c1 x))))) ⟨oe,zf.extBut _ _ Lf E1,Hk⟩
 · show Va _ _ (field (.ref z) 2 >>= _) _ _ _;refine UM (VO hz rfl (x:=.bool false) rfl ?_);show Va _ _ (field (.ref z) 3 >>= _) _ _ _;refine UM (VO hz rfl (x:=.ref TI) rfl ?_);refine UM (Wj hTI rfl ?_);show Va _ _ (VZ (.ref z) >>= _) _ _ _;refine UM (WU (bb_notfree hz hT) (fun a s1 ⟨e1,yi,e2,yA,xX⟩=>?_) fun _ _ x=>x);subst e1 e2;simp only [V7,if_false];rw [<- Yy];refine UM ?_;simp only [Yw,ZP];refine UM (UM (Wl ?_));show Va _ _ (VQ (.ref i1) >>= _) _ _ _;cases hx:xs[k]? with
   | none =>
     refine UM (bb_tupEnd hh (IsTupleIter.but h1 xX.extBut D.i1z) (IsTuple.but y9 xX.extBut D.l1z) hx fun yS e ya he=>?_);exact hE yS e (fun c o c1 _ c3 _ x=>ya _ _ c3 (xX.extBut _ _ c1 x)) he
   | some x =>
     have hy:ys[k]?=none:=by rcases zL with h | h;rw [hx] at h;cases h;exact h
     refine UM (bb_tupNext (IsTupleIter.but h1 xX.extBut D.i1z) (IsTuple.but y9 xX.extBut D.l1z) hx fun yS AA ya=>UX (UX ?_));refine UM (UM (Wl ?_));show Va _ _ (VQ (.ref i2) >>= _) _ _ _;refine UM (bb_tupEnd hh (IsTupleIter.but (IsTupleIter.but h2 xX.extBut D.i2z) ya.extBut D.i12.symm) (IsTuple.but (IsTuple.but yP xX.extBut D.l2z) ya.extBut D.l2i1) hy fun yC e yu he=>?_);exact hE yC e (fun c o c1 _ c3 c4 x=>yu _ _ c4 (ya.extBut _ _ c3 (xX.extBut _ _ c1 x))) he
theorem bb_zip_next {z TI TO i1 i2 l1 l2:UQ} {k:Nat} {xs ys:Array UT} {x y:UT} {Q:Option UT->UY->Prop} (S:ZSt xs ys z TI TO i1 i2 l1 l2 k s.heap) (hx:xs[k]?=some x) (hy:ys[k]?=some y)
 (hQ:∀ h',ZSt xs ys z TI TO i1 i2 l1 l2 (k+1) h'->W3 h' s.heap.objs.size x y->h'.objs.size=s.heap.objs.size+1 →
  (∀ c o,c∉[z,TO,i1,i2]->s.heap.get? c=some o->h'.get? c=some o)->Q (some (.ref s.heap.objs.size)) { s with heap:=h' }) :
 Va (Vw prog w) A (XH (.ref z)) Q E s:=by
 have hT:=S.typeIs;obtain ⟨D,hz,hTI,⟨a,b,hTO⟩,h1,h2,y9,yP⟩:=S;have n1:s.heap.objs.size≠TO:=Yc (U7 hTO);unfold XH;refine UM (XG (VX (name:=UU "__next__") hT X7 (V2 X7 hT F.entry_zip_next ?_ (F.args_zip_next_1 _))));rcases hz with hz | ⟨T,bb,u,v,hz,D9,OC⟩
 · refine bb_zip_itemA D hz hTI hTO h1 h2 y9 yP hx hy fun h' a1 a2 a3 a4 a5 a6 a7=>UX ?_;refine hQ h' ⟨D,.inr ⟨_,_,_,_,a1,a5,n1⟩,a7 _ _ D.TIz D.TITO D.TIi1 D.TIi2 hTI,⟨_,_,a2⟩,a3,a4,?_,?_⟩ a5 a6 fun c o hc e=>a7 c o (fun q=>hc (by simp [q])) (fun q=>hc (by simp [q])) (fun q=>hc (by simp [q])) (fun q=>hc (by simp [q])) e
   · obtain ⟨o,e,r⟩:=y9;exact ⟨o,a7 _ _ D.l1z D.l1TO D.l1i1 D.l1i2 e,r⟩
   · obtain ⟨o,e,r⟩:=yP;exact ⟨o,a7 _ _ D.l2z D.l2TO D.l2i1 D.l2i2 e,r⟩
 · refine bb_zip_itemB D hz D9 hTI h1 h2 y9 yP hx hy fun h' a1 a3 a4 a5 a6 a7=>UX ?_;have QI:T≠z:=by rintro rfl;exact absurd (WD (congrArg Obj.cls (Vo (hz.symm.trans D9)))) (by decide)
   have Lg:T≠i1:=by rintro rfl;obtain ⟨o,e,c,_⟩:=h1;have e2:=Vo (D9.symm.trans e);rw [<- e2] at c;exact absurd (WD c) (by decide)
   have Lh:T≠i2:=by rintro rfl;obtain ⟨o,e,c,_⟩:=h2;have e2:=Vo (D9.symm.trans e);rw [<- e2] at c;exact absurd (WD c) (by decide)
   refine hQ h' ⟨D,.inr ⟨T,true,u,v,a1,a7 _ _ QI Lg Lh D9,OC⟩,a7 _ _ D.TIz D.TIi1 D.TIi2 hTI,⟨a,b,a7 _ _ D.TOz D.TOi1 D.TOi2 hTO⟩,a3,a4,?_,?_⟩ a5 a6 fun c o hc e=>a7 c o (fun q=>hc (by simp [q])) (fun q=>hc (by simp [q])) (fun q=>hc (by simp [q])) e
   · obtain ⟨o,e,r⟩:=y9;exact ⟨o,a7 _ _ D.l1z D.l1i1 D.l1i2 e,r⟩
   · obtain ⟨o,e,r⟩:=yP;exact ⟨o,a7 _ _ D.l2z D.l2i1 D.l2i2 e,r⟩
theorem bb_zip_done {z TI TO i1 i2 l1 l2:UQ} {k:Nat} {xs ys:Array UT} {Q:Option UT->UY->Prop} (hh:A.handled=none) (S:ZSt xs ys z TI TO i1 i2 l1 l2 k s.heap) (zL:xs[k]?=none∨ys[k]?=none)
 (hQ:∀ h',(∀ c o,c∉[z,TO,i1,i2]->s.heap.get? c=some o->h'.get? c=some o)->Q none { s with heap:=h' }):Va (Vw prog w) A (XH (.ref z)) Q E s:=by
 have hT:=S.typeIs;unfold XH
 refine UM (XG (VX (name:=UU "__next__") hT X7
  (V2 X7 hT F.entry_zip_next (bb_zip_end hh S zL fun h' e hk he=>?_) (F.args_zip_next_1 _))))
 obtain ⟨o,ho,hc⟩:=he;refine UM (Xw (T:="StopIteration") (b:=true) ⟨o,ho,hc⟩ isSubtype_stop ?_);exact UX (hQ _ fun c o hc=>hk c o (fun q=>hc (by simp [q])) (fun q=>hc (by simp [q])) (fun q=>hc (by simp [q])) (fun q=>hc (by simp [q])))
theorem bb_zip_iter {z TI TO i1 i2 l1 l2:UQ} {k:Nat} {xs ys:Array UT} {Q:UT->UY->Prop} (S:ZSt xs ys z TI TO i1 i2 l1 l2 k s.heap) (h:Q (.ref z) s):Va (Vw prog w) A (pyIter (.ref z)) Q E s:=by
 have hT:=S.typeIs;refine wpAny_pyIter_slot hT F.slot_zip_iter (V2 F.slot_zip_iter hT F.entry_zip_iter ?_ (F.args_zip_iter_1 _));show Va _ _ (ret (.ref z)) _ _ s;exact UX ⟨_,rfl,"zip",_,hT,X7.lookup,h⟩
end
end PySem
namespace PySem
open Sem (wp)
namespace F
theorem bb_nolen_zip:Ym (.type "zip") "__len__"=pure none:=by rw [WL,Wf];kernel_rfl
theorem bb_nohint_zip:Ym (.type "zip") "__length_hint__"=pure none:=by rw [WL,Wf];kernel_rfl
end F
def ZIt (xs ys:Array UT) (n0:Nat) (h:V9) (acc:Array UT) (k:Nat):Prop:=acc.size=k/\∀ (j:Nat) (v:UT),acc[j]?=some v->∃ (T:UQ) (x y:UT),v=Vv T/\n0<=T/\W3 h T x y/\xs[j]?=some x/\ys[j]?=some y
section
variable {prog:U6} {w:Vj} {A:VF} {R:Result->UY->Prop}
theorem bb_zip_loop {z TI TO i1 i2 l1 l2 S:UQ} {xs ys:Array UT} {n n0:Nat} (hh:A.in1.handled=none) (hn:n=min xs.size ys.size) (hz:n<=Vb) (J4:S∉[z,TO,i1,i2]) (hf:∀ c∈[z,TO,i1,i2],c<n0) (res:UT) :
 ∀ (k i:Nat) (s:UY) (acc:Array UT) (c:Nat),n - i=k->i<=n->ZSt xs ys z TI TO i1 i2 l1 l2 i s.heap->n0<=s.heap.objs.size->s.heap.get? S=some { cls:=.type "list",dict:=none,data:=.seq acc c,slots:=#[] }->ZIt xs ys n0 s.heap acc i →
 (∀ h' yT c',(∀ b o,b≠S->b∉[z,TO,i1,i2]->s.heap.get? b=some o->h'.get? b=some o)->h'.get? S=some { cls:=.type "list",dict:=none,data:=.seq yT c',slots:=#[] }->ZIt xs ys n0 h' yT n->R (.ok (.ret res)) { s with heap:=h' }) →
 YQ (Vw prog w) A (.builtin "list.extend.loop" ⟨[.ref S,.ref z,res],[]⟩) R s:=by
 intro k;have Eb:∀ {T:UQ},n0<=T->T∉[z,TO,i1,i2]:=fun h m=>absurd (hf _ m) (Y1.mpr h);induction k with
 | zero =>
   intro i s acc c hk hi y8 h0 hS yd hR;have AH:i=n:=by omega
   subst AH;refine YE Zc ?_;rw [XF Wq _];show Va _ A.in1 (XH (.ref z) >>= _) _ _ s
   have zL:xs[i]?=none∨ys[i]?=none:=by
    rcases Nat.le_total xs.size ys.size with h | h
    · exact .inl (YD (by omega))
    · exact .inr (YD (by omega))
   refine UM (bb_zip_done hh y8 zL fun h' zj=>UX ?_);refine hR h' acc c (fun b o _ hb e=>zj b o hb e) (zj _ _ J4 hS) ⟨yd.1,fun j v hv=>?_⟩;obtain ⟨T,x,y,e1,e2,e3,e4⟩:=yd.2 j v hv;exact ⟨T,x,y,e1,e2,zj _ _ (Eb e2) e3,e4⟩
 | succ k ih =>
   intro i s acc c hk hi y8 h0 hS yd hR;have ye:i<n:=by omega
   refine YE Zc ?_;rw [XF Wq _];show Va _ A.in1 (XH (.ref z) >>= _) _ _ s;have hx:xs[i]?=some xs[i]:=WT (by omega);have hy:ys[i]?=some ys[i]:=WT (by omega);refine UM (bb_zip_next y8 hx hy fun h' Li hT hsz zj=>?_);have BX:=zj S _ J4 hS;have Lj:S<s.heap.objs.size:=U7 hS;show Va _ A.in1 (Zk S (·.push (.ref s.heap.objs.size)) >>= _) _ _ _;refine UM ?_;have Ay:∀ b o,b≠S->h'.get? b=some o->(h'.update S (V3 (·.push (Vv s.heap.objs.size)))).get? b=some o:=fun b o hb e=>(VL _ _ (WG hb)).trans e
   refine WE BX rfl (UX ⟨XI Wq _,ih (i+1) _ (acc.push (.ref s.heap.objs.size)) _ (by omega) ye (Li.frame fun b o ho e=>Ay b o (fun z=>?_) e) ?_ (VD _ BX rfl) ?_ fun Ll yT c' E2 E3 Cp=>?_⟩)
    (by rw [yd.1];omega) (by show (acc.push _).size<=Vb+1;rw [Array.size_push,yd.1];omega)
   · rw [z,BX] at e;cases e;exact ho rfl
   · show n0<=(h'.update S _).objs.size;rw [YZ];omega
   · refine ⟨by rw [Array.size_push,yd.1],fun j v hv=>?_⟩;rw [Array.getElem?_push] at hv;split at hv
     · rename_i e
       rw [yd.1] at e;cases hv;subst e;exact ⟨_,_,_,rfl,h0,Ay _ _ (Yc Lj) hT,hx,hy⟩
     · obtain ⟨T,x,y,e1,e2,e3,e4⟩:=yd.2 j v hv
       have QJ:T≠S:=by
        rintro rfl;exact absurd (WD (congrArg Obj.cls (Vo (e3.symm.trans hS)))) (by decide)
       exact ⟨T,x,y,e1,e2,Ay _ _ QJ (zj _ _ (Eb e2) e3),e4⟩
   · exact hR Ll yT c' (fun b o hb yo e=>E2 b o hb yo (Ay b o hb (zj b o yo e))) E3 Cp
end
section
variable {prog:U6} {w:Vj} {A:VF} {E:UT->UY->Prop} {s:UY}
theorem bb_list_zip {z TI TO i1 i2 l1 l2:UQ} {xs ys:Array UT} {n n0:Nat} {Q:UT->UY->Prop} (hh:A.in1.in1.handled=none) (y8:ZSt xs ys z TI TO i1 i2 l1 l2 0 s.heap) (hn:n=min xs.size ys.size) (hz:n<=Vb) (h0:n0<=s.heap.objs.size) (hf:∀ c∈[z,TO,i1,i2],c<n0)
 (hQ:∀ h' acc c,(∀ b o,b∉[z,TO,i1,i2]->s.heap.get? b=some o->h'.get? b=some o)->h'.get? s.heap.objs.size=some { cls:=.type "list",dict:=none,data:=.seq acc c,slots:=#[] }->ZIt xs ys n0 h' acc n->Q (.ref s.heap.objs.size) { s with heap:=h' }) :
 Va (Vw prog w) A (call (.type "list") [.ref z]) Q E s:=by
 have F8:s.heap.objs.size∉[z,TO,i1,i2]:=fun hm=>absurd (hf _ hm) (Y1.mpr h0);have K5:s.heap.objs.size≠z:=fun e=>F8 (by simp [e])
 refine Z9 (Q₁:=fun obj xU=>obj=.ref s.heap.objs.size/\xU={ s with heap:=s.heap.push { cls:=.type "list",data:=.seq #[] } }) F.called_list (F.typeCall_list_1 _) F.entry_list_init
  (code_list_new _ ⟨rfl,rfl⟩) fun obj xU yi=>?_
 obtain ⟨rfl,rfl⟩:=yi;have hS:(s.heap.push { cls:=.type "list",data:=.seq #[] }).get? s.heap.objs.size=some { cls:=.type "list",data:=.seq #[] }:=U4 _ rfl;refine ⟨⟨_,hS,rfl⟩,F.args_list_init_2 _ _,?_⟩;show Va _ A.in1.in1 (do let old ← Xu (.ref s.heap.objs.size);ZR (.ref s.heap.objs.size) (fun _=>#[]);letGo old.toList.reverse;WQ (.ref s.heap.objs.size) (.ref z) .none) _ _ _;refine UM ?_;unfold Xu;refine UM (Wj hS rfl (UX ?_));refine UM (WE hS rfl ?_);have zd:=VD (V3 (fun _=>(#[]:Array UT))) hS rfl;refine UM (Zx ?_);have Bw:((s.heap.push { cls:=.type "list",data:=.seq #[] }).update s.heap.objs.size (V3 (fun _=>(#[]:Array UT)))).objs.size=s.heap.objs.size+1:=by rw [YZ,V8]
 generalize hH:(s.heap.push { cls:=.type "list",data:=.seq #[] }).update s.heap.objs.size (V3 (fun _=>(#[]:Array UT)))=H2 at zd Bw ⊢
 have old:∀ b o,s.heap.get? b=some o->H2.get? b=some o:=fun b o e=>by
  rw [<- hH,VL _ _ (WG (Vy (U7 e)))];exact UW _ e
 obtain ⟨c2,Dm⟩:∃ c,H2.get? s.heap.objs.size=some { cls:=.type "list",data:=.seq #[] c }:=⟨_,zd⟩;have AR:ZSt xs ys z TI TO i1 i2 l1 l2 0 H2:=y8.frame fun b o _ e=>old b o e;have Hm:({ s with heap:=H2 }:UY).TypeIs (.ref z) "zip":=AR.typeIs;unfold WQ;refine UM (Xr Hm ?_);have h1:Xc (.ref s.heap.objs.size) (.ref z)=false:=by simp [Xc,K5]
 have h2:(Xh "zip" == Xh "list")=false:=by decide
 have h3:(Xh "zip" == Xh "tuple")=false:=by decide
 simp only [h1,h2,h3,Z3,V7,if_false];refine UM (bb_zip_iter AR ?_);refine UM (Wl ?_);unfold Xs;refine UM (Wr Hm F.bb_nolen_zip ?_);show Va _ _ (specialOf (Vv z) (UU "__length_hint__") >>= _) _ _ _;refine UM (Wr Hm F.bb_nohint_zip ?_);refine UX ?_
 have key:∀ (h:V9) (c₁:Nat),ZSt xs ys z TI TO i1 i2 l1 l2 0 h->n0<=h.objs.size->(∀ b o,b≠s.heap.objs.size->H2.get? b=some o->h.get? b=some o)->h.get? s.heap.objs.size=some { cls:=.type "list",data:=.seq #[] c₁ } →
  YQ (Vw prog w) A.in1 (.builtin "list.extend.loop" ⟨[.ref s.heap.objs.size,.ref z,.none],[]⟩) (wants (fun r yB=>r=.none/\Q (.ref s.heap.objs.size) yB) E) { s with heap:=h }:=by
  intro h c₁ hs C0 hk Aw;refine bb_zip_loop hh hn hz F8 hf .none n 0 _ #[] c₁ rfl (Vn _) hs C0 Aw ⟨rfl,fun j v e=>by simp at e⟩ fun h' yT c' hm BX yd=>?_;exact ⟨rfl,hQ h' yT c' (fun b o hb e=>hm b o (Vy (U7 e)) hb (hk b o (Vy (U7 e)) (old b o e))) BX yd⟩
 show Va _ _ (rule "list.extend.makes-room" >>= fun _=>Builtin.List.listTouch (.ref s.heap.objs.size) >>= fun _=>again (.builtin "list.extend.loop" ⟨[.ref s.heap.objs.size,.ref z,.none],[]⟩)) _ _ _;refine UM (XA ?_);refine UM ?_;show Va _ _ (Zk s.heap.objs.size (·.push .none) >>= fun _=>Zk s.heap.objs.size (·.pop)) _ _ _;refine UM (WE Dm rfl ?_);have ze:=VD (V3 (·.push Wm)) Dm rfl;refine WE (hz:=by seq_fits) ze rfl ?_;have Ax:=VD (V3 (·.pop)) ze rfl
 have Ay:∀ b o,b≠s.heap.objs.size->H2.get? b=some o->((H2.update s.heap.objs.size (V3 (·.push Wm))).update s.heap.objs.size (V3 (·.pop))).get? b=some o :=
  fun b o hb e=>(VL _ _ (WG hb)).trans ((VL _ _ (WG hb)).trans e)
 refine UX ⟨XI Wq _,key _ _ (AR.frame fun b o ho e=>Ay b o (fun q=>?_) e) ?_ Ay Ax⟩
 · rw [q,Dm] at e;cases e;exact ho rfl
 · rw [YZ,YZ];show n0<=H2.objs.size;omega
end
end PySem
namespace L2
open PySem PySem.Spec PyProof.Rows
theorem Inv.laidAll {X:Cx} {pins:List (UQ×W0)} {σ:St} {H H':Hp} {s:UY} {h':V9} {t':Nat} (I:Inv X pins σ H s) (k:∀ b u,s.heap.get? b=some u->h'.get? b=some u)
 (old:∀ b,b<s.heap.objs.size->H' b=H b) (new:∀ b u,s.heap.objs.size<=b->H' b=some u->ObjOk X.prog X.w H' h' b u):Inv X pins σ H' { s with heap:=h',toks:=t' }:=by
 have sm:∀ b u,H b=some u->H' b=some u:=fun b u e=>by rw [old b (I.hok.lt e)];exact e
 refine I.un ⟨fun b u q _ _ _=>k b u q,fun b u q _ _ _=>⟨u.slots,k b u q⟩,fun b u q n _=>by rw [old b (U7 q)];exact n,fun b u q _=>⟨u,k b u q⟩,fun b xs q=>sm _ _ q,fun b u xs q=>sm _ _ q,fun b ps q=>⟨#[],by rw [sm _ _ q];simp⟩⟩ fun b u q=>?_;by_cases hb:b<s.heap.objs.size
 · rw [old b hb] at q;exact (I.hok b u q).stay (fun c v _ e=>k c v e) (fun c e=>sm _ _ e) fun c xs e=>sm _ _ e
 · exact new b u (Y1.mp hb) q
def lM (H:Hp):List UQ->List (V×V)->Hp
 | t::ts,p::ps=>upd (lM H ts ps) t (.tup [p.1,p.2])
 | _,_=>H
theorem kY {H:Hp} {b:UQ}:∀ {ts:List UQ} {ps:List (V×V)},b∉ts->lM H ts ps b=H b
 | [],_,_=>rfl
 | _::_,[],_=>rfl
 | t::ts,p::ps,h=>by
   rw [lM,ai (fun e=>h (by simp [e]))];exact kY fun m=>h (Vf _ m)
theorem pA {H:Hp}:∀ {ts:List UQ} {ps:List (V×V)} {b:UQ} {u:HO},lM H ts ps b=some u->H b=some u∨∃ (j:Nat) (p:V×V),ts[j]?=some b/\ps[j]?=some p/\u=.tup [p.1,p.2]
 | [],_,_,_,h=>.inl h
 | _::_,[],_,_,h=>.inl h
 | t::ts,p::ps,b,u,h=>by
   rw [lM] at h;by_cases e:b=t
   · subst e;rw [ab] at h;exact .inr ⟨0,p,rfl,rfl,(Vo h).symm⟩
   · rw [ai e] at h;rcases pA h with q | ⟨j,p',q1,q2,q3⟩
     · exact .inl q
     · exact .inr ⟨j+1,p',by simpa using q1,by simpa using q2,q3⟩
theorem oF {H:Hp}:∀ {ts:List UQ} {ps:List (V×V)} {t:UQ},ts.length=ps.length->t∈ts->∃ (i:Nat) (p:V×V),ts[i]?=some t/\ps[i]?=some p/\lM H ts ps t=some (.tup [p.1,p.2])
 | [],_,_,_,h=>nomatch h
 | _::_,[],_,hl,_=>by simp at hl
 | u::ts,p::ps,t,hl,h=>by
   by_cases e:t=u
   · subst e;exact ⟨0,p,rfl,rfl,by rw [lM,ab]⟩
   · obtain ⟨i,p',q1,q2,q3⟩:=oF (H:=H) (ts:=ts) (ps:=ps) (t:=t) (by simpa using hl) (by
      rcases Vd.mp h with h | h
      · exact absurd h e
      · exact h)
     exact ⟨i+1,p',by simpa using q1,by simpa using q2,by rw [lM,ai e];exact q3⟩
theorem i9 {α β:Type} {F:α->β->Prop}:∀ {ps:List α} {ts:List β},ps.length=ts.length->(∀ (j:Nat) p t,ps[j]?=some p->ts[j]?=some t->F p t)->Vs F ps ts
 | [],[],_,_=>.nil
 | [],_::_,h,_=>by simp at h
 | _::_,[],h,_=>by simp at h
 | p::ps,t::ts,h,f=>.cons (f 0 p t rfl rfl) (i9 (by simpa using h) fun j p' t' e1 e2=>f (j+1) p' t' (by simpa using e1) (by simpa using e2))
theorem qw {P:Nat->UQ->Prop}:∀ {vs:List UT} (n:Nat),(∀ (j:Nat) v,vs[j]?=some v->∃ T,v=Vv T/\P (n+j) T)->∃ ts:List UQ,vs=ts.map Vv/\∀ (j:Nat) T,ts[j]?=some T->P (n+j) T
 | [],n,_=>⟨[],rfl,fun j T h=>by simp at h⟩
 | v::vs,n,h=>by
   obtain ⟨T,e1,e2⟩:=h 0 v rfl
   obtain ⟨ts,q1,q2⟩:=qw (P:=P) (vs:=vs) (n+1) fun j v' hv=>by
    have:=h (j+1) v' (by simpa using hv);rw [show n+1+j=n+(j+1) by omega];exact this
   refine ⟨T::ts,by rw [e1,q1];rfl,fun j T' hT=>?_⟩;cases j with
   | zero=>simp at hT;subst hT;exact e2
   | succ j =>
     have:=q2 j T' (by simpa using hT);rw [show n+1+j=n+(j+1) by omega] at this;exact this
theorem vO {α β:Type} {xs:List α} {ys:List β} {j:Nat} {p:α×β} (h:(xs.zip ys)[j]?=some p):xs[j]?=some p.1/\ys[j]?=some p.2:=by
 rw [WR] at h;exact h
def tT (K:UO) (t:TA):TE:=fun σ H Q=>t σ H fun vs H2=>∃ a b xs ys,vs=[.ref a,.ref b]/\SqT K H2 a xs/\SqT K H2 b ys ∧
 ∀ (l:UQ) (ts:List UQ) (H':Hp),Same H2 H'->H2 l=none->H' l=some (.lst (ts.map V.ref))->Vs (fun (p:V×V) t=>H' t=some (.tup [p.1,p.2])) (xs.zip ys) ts->Q (.ref l) H'
section
variable {X:Cx} {e1 e2:V4} {t:TA} {p p2 pos yt:YJ}
theorem pP (hc:X.calm=true) (g1:Gl X "list") (m1:X.mg "list"=none) (g2:Gl X "zip") (m2:X.mg "zip"=none) (ha:PA X [e1,e2] t)
 (h1:VR [.Call (.Name "zip" p2) [e1,e2] [] yt] X.env=[(false,Xf (.Call (.Name "zip" p2) [e1,e2] [] yt) X.env)]:=by rfl) (h2:VR [e1,e2] X.env=(false,Xf e1 X.env)::VR [e2] X.env:=by rfl) (h3:(YR yt (VR [e2] X.env)).any (·.1)=false:=by rfl) :
 PE X (.Call (.Name "list" p) [.Call (.Name "zip" p2) [e1,e2] [] yt] [] pos) (tT X.K t):=by
 intro pins s σ H Q I h;refine Wu (cU I g1 m1 boot_list (VP ?_ h1 rfl));rw [h1];show Va _ _ (spliced ((false,Xf (.Call (.Name "zip" p2) [e1,e2] [] yt) X.env)::[])) _ _ s;refine Wv ?_;refine Wu (cU I g2 m2 boot_zip ?_);refine VP (thn (ha yt pins s σ H _ I h) fun us s2 ⟨vs,H2,I2,r,a,b,xs,ys,ev,Ec,Ed,q⟩=>?_) h2 h3;subst ev;obtain ⟨u1,u2,rfl,r1,r2⟩:=vals2 r;cases r1;cases r2;obtain ⟨ia,E4,pa,Ga⟩:=I2.tuple Ec;obtain ⟨ib,E5,pb,Lm⟩:=I2.tuple Ed;have AI:=E4.length;have QK:=E5.length;have zM:a<s2.heap.objs.size:=by obtain ⟨o,e,_⟩:=pa;exact U7 e
 have zT:b<s2.heap.objs.size:=by obtain ⟨o,e,_⟩:=pb;exact U7 e
 have hh:X.A.in1.in1.handled=none:=I2.ok.hd hc;refine bb_call_zip (show s2.heap.IsTuple a ia.toArray from pa) (show s2.heap.IsTuple b ib.toArray from pb) fun h' z1 z2 z3 z4 z5 z6 z7=>WV ?_;have D:ZipApart (s2.heap.objs.size+4) (s2.heap.objs.size+2) (s2.heap.objs.size+3) s2.heap.objs.size (s2.heap.objs.size+1) a b:=zipApart_new zM zT
 have st:ZSt ia.toArray ib.toArray (s2.heap.objs.size+4) (s2.heap.objs.size+2) (s2.heap.objs.size+3) s2.heap.objs.size (s2.heap.objs.size+1) a b 0 h':=by
  refine ⟨D,.inl z1,z2,⟨_,_,z3⟩,z4,z5,?_,?_⟩
  · obtain ⟨o,e,r⟩:=pa;exact ⟨o,z7 _ _ e,r⟩
  · obtain ⟨o,e,r⟩:=pb;exact ⟨o,z7 _ _ e,r⟩
 have hf:∀ c∈[s2.heap.objs.size+4,s2.heap.objs.size+3,s2.heap.objs.size,s2.heap.objs.size+1],s2.heap.objs.size<=c/\c<h'.objs.size:=fun c hc=>by
  simp at hc;rw [z6];have zh:(c:Nat)=s2.heap.objs.size+4∨(c:Nat)=s2.heap.objs.size+3∨(c:Nat)=s2.heap.objs.size∨(c:Nat)=s2.heap.objs.size+1:=hc;constructor
  · show (s2.heap.objs.size:Nat)<=(c:Nat);omega
  · show (c:Nat)<s2.heap.objs.size+5;omega
 refine bb_list_zip (s:={ s2 with heap:=h' }) hh st rfl (by rw [U0,U0];omega) (UR _) (fun c hc=>(hf c hc).2) fun h2 acc c kp hS yd=>?_;replace hS:h2.get? h'.objs.size=some { cls:=.type "list",dict:=none,data:=.seq acc c,slots:=#[] }:=hS;have E6:∀ b o,s2.heap.get? b=some o->h2.get? b=some o:=fun b o e=>kp b o (fun m=>absurd (U7 e) (Y1.mpr (hf b m).1)) (z7 b o e);obtain ⟨hsz,hit⟩:=yd
 obtain ⟨ts,et,ht⟩:=qw (P:=fun j T=>h'.objs.size<=T/\∃ x y,W3 h2 T x y/\ia.toArray[j]?=some x/\ib.toArray[j]?=some y) (vs:=acc.toList) 0 (fun j v hv=>by
  obtain ⟨T,x,y,g1,g2,g3,g4,g5⟩:=hit j v (by simpa using hv);rw [Nat.zero_add];exact ⟨T,g1,g2,x,y,g3,g4,g5⟩)
 simp only [Nat.zero_add] at ht
 have yv:ts.length=(xs.zip ys).length:=by
  have e:=congrArg Xg et;rw [UL,Vz,hsz,U0,U0] at e;rw [XR];omega
 have rel:∀ (j:Nat) (p:V×V) (T:UQ),(xs.zip ys)[j]?=some p->ts[j]?=some T->∃ x y,W3 h2 T x y/\RelV p.1 x/\RelV p.2 y:=fun j p T hp hT=>by
  obtain ⟨_,x,y,g3,g4,g5⟩:=ht j T hT;obtain ⟨Ac,Ad⟩:=vO hp;obtain ⟨x',k1,k2⟩:=E4.get Ac;obtain ⟨y',k3,k4⟩:=E5.get Ad
  have e1:x'=x:=by
   have:ia[j]?=some x:=by simpa using g4
   rw [k1] at this;exact Vo this
  have e2:y'=y:=by
   have:ib[j]?=some y:=by simpa using g5
   rw [k3] at this;exact Vo this
  subst e1 e2;exact ⟨_,_,g3,k2,k4⟩
 have same:∀ (i j:Nat) (p p':V×V) (T:UQ),(xs.zip ys)[i]?=some p->(xs.zip ys)[j]?=some p'->ts[i]?=some T->ts[j]?=some T->p=p':=fun i j p p' T h1 h2 h3 h4=>by
  obtain ⟨x,y,g1,g2,g3⟩:=rel i p T h1 h3;obtain ⟨x',y',k1,k2,k3⟩:=rel j p' T h2 h4;have e:=Vo (g1.symm.trans k1);have ed:=congrArg Obj.data e;injection ed with QL _;have el:=congrArg Array.toList QL;have ex:x=x':=(Z2 el).1;have ey:y=y':=(Z2 (Z2 el).2).1;subst ex ey;obtain ⟨p1,p2⟩:=p;obtain ⟨q1,q2⟩:=p';have f1:p1=q1:=g2.inj k2;have f2:p2=q2:=g3.inj k3;rw [f1,f2]
 have Hn:h'.objs.size∉ts:=fun m=>by
  obtain ⟨j,hj⟩:=List.getElem?_of_mem m;obtain ⟨_,x,y,g3,_⟩:=ht j _ hj;exact absurd (WD (congrArg Obj.cls (Vo (g3.symm.trans hS)))) (by decide)
 have Ho:s2.heap.objs.size<h'.objs.size:=by rw [z6];omega
 have Hq:∀ T∈ts,h'.objs.size<=T:=fun T m=>by
  obtain ⟨j,hj⟩:=List.getElem?_of_mem m;exact (ht j _ hj).1
 have Ee:∀ b,s2.heap.objs.size<=b->H2 b=none:=fun b hb=>I2.hok.fresh hb;have yP:H2 h'.objs.size=none:=Ee _ (Ye Ho)
 have QM:∀ (j:Nat) (p:V×V) (T:UQ),(xs.zip ys)[j]?=some p->ts[j]?=some T->lM H2 ts (xs.zip ys) T=some (.tup [p.1,p.2]):=fun j p T hp hT=>by
  obtain ⟨i,p',k1,k2,k3⟩:=oF (H:=H2) yv (UP hT);rw [k3,same i j p' p T k2 hp k1 hT]
 have I3:Inv X pins σ (upd (lM H2 ts (xs.zip ys)) h'.objs.size (.lst (ts.map V.ref))) { s2 with heap:=h2,toks:=s2.toks }:=by
  refine I2.laidAll E6 (fun b hb=>?_) fun b u hb hu=>?_
  · rw [ai (Vy (Yd hb Ho)),kY];exact fun m=>absurd (Yd hb Ho) (Y1.mpr (Hq b m))
  · by_cases e:b=h'.objs.size
    · subst e;rw [ab] at hu;cases hu;refine ⟨by rw [UL,yv,XR];omega,ts.map Vv,c,?_,by rw [<- et];exact hS⟩
      exact i9 (by simp) fun j p t e1 e2=>by
       rw [UZ] at e1 e2;cases q:ts[j]? with
       | none=>rw [q] at e1;cases e1
       | some T=>rw [q] at e1 e2;cases e1;cases e2;rfl
    · rw [ai e] at hu;rcases pA hu with q | ⟨j,p,q1,q2,q3⟩
      · rw [Ee b hb] at q;cases q
      · subst q3;obtain ⟨x,y,g1,g2,g3⟩:=rel j p b q2 q1;exact ⟨by show 2<=Vb;decide,[x,y],0,.cons g2 (.cons g3 .nil),g1⟩
 refine ⟨.ref h'.objs.size,_,I3,rfl,q h'.objs.size ts _ (fun b o e=>?_) yP ab ?_⟩
 · have hb:=I2.hok.lt e;rw [ai (Vy (Yd hb Ho)),kY]
   · exact e
   · exact fun m=>absurd (Yd hb Ho) (Y1.mpr (Hq b m))
 · refine i9 yv.symm fun j p T hp hT=>?_;rw [ai (show T≠h'.objs.size from fun e=>Hn (by rw [<- e];exact UP hT))];exact QM j p T hp hT
end
end L2
namespace L2
open PySem PySem.Spec PyProof.Rows
section
variable {κ:Type} [DecidableEq κ]
def aV (f':List (κ×V)) (k:κ):Option V:=(f'.find? fun kv=>decide (kv.1=k)).map (·.2)
def putK (f':List (κ×V)) (k:κ) (v:V):List (κ×V) :=
 if (f'.any fun kv=>decide (kv.1=k))=true then f'.map (fun kv=>if kv.1=k then (kv.1,v) else kv) else f'++[(k,v)]
theorem bG {p:κ×V} {r:List (κ×V)} {k:κ} (e:p.1=k):aV (p::r) k=some p.2:=by simp [aV,Xx,e]
theorem bL {p:κ×V} {r:List (κ×V)} {k:κ} (e:¬ p.1=k):aV (p::r) k=aV r k:=by simp [aV,Xx,e]
theorem dD (k:κ):∀ f':List (κ×V),(f'.any fun kv=>decide (kv.1=k))=(aV f' k).isSome
 | []=>rfl
 | p::r=>by
   rw [List.any_cons];by_cases e:p.1=k
   · simp only [bG e,decide_eq_true e,Bool.true_or,Option.isSome_some]
   · rw [bL e,decide_eq_false e,Yu];exact dD k r
theorem oY (k j:κ) (y:V):∀ f':List (κ×V),aV (f'.map fun kv=>if kv.1=k then (kv.1,y) else kv) j=(aV f' j).map fun x=>if j=k then y else x
 | []=>rfl
 | p::r=>by
   have ih:=oY k j y r;rw [VJ];by_cases h:p.1=k
   · rw [if_pos h];by_cases e:p.1=j
     · rw [bG (p:=(p.1,y)) e,bG e,YU,if_pos (e.symm.trans h)]
     · rw [bL (p:=(p.1,y)) e,bL e,ih]
   · rw [if_neg h];by_cases e:p.1=j
     · rw [bG (p:=p) e,bG e,YU,if_neg (fun z=>h (e.trans z))]
     · rw [bL (p:=p) e,bL e,ih]
theorem my (k j:κ) (y:V):∀ f':List (κ×V),aV f' k=none->aV (f'++[(k,y)]) j=if j=k then some y else aV f' j
 | [],_=>by
   by_cases e:k=j
   · rw [if_pos e.symm];exact bG (p:=(k,y)) e
   · rw [if_neg (fun z=>e z.symm)];exact bL (p:=(k,y)) e
 | p::r,hn=>by
   rw [Xl];have hk:¬ p.1=k:=fun z=>by rw [bG z] at hn;cases hn
   rw [bL hk] at hn;have ih:=my k j y r hn;by_cases e:p.1=j
   · rw [bG e,bG e,if_neg (fun z=>hk (e.trans z))]
   · rw [bL e,bL e,ih]
theorem iX (f':List (κ×V)) (k j:κ) (y:V):aV (putK f' k y) j=if j=k then some y else aV f' j:=by
 unfold putK;by_cases a:(f'.any fun kv=>decide (kv.1=k))=true
 · rw [if_pos a,oY];rw [dD] at a;by_cases e:j=k
   · obtain ⟨x,hx⟩:=Yq.mp a;rw [if_pos e,e,hx,YU,if_pos rfl]
   · rw [if_neg e];cases aV f' j with
     | none=>rfl
     | some x=>rw [YU,if_neg e]
 · rw [if_neg a];refine my k j y f' ?_;rw [dD] at a;cases q:aV f' k with
   | none=>rfl
   | some x=>rw [q] at a;exact (a rfl).elim
theorem bX (f':List (κ×V)) (k:κ) (v:V):(putK f' k v).length<=f'.length+1:=by
 unfold putK;split
 · rw [UL];omega
 · rw [U8,U1,XS];omega
theorem kK {f':List (κ×V)} {k:κ} (v:V) (h:aV f' k=none):putK f' k v=f'++[(k,v)]:=by
 unfold putK;rw [dD,h];exact if_neg (by decide)
theorem RelO.isSome_eq {o:Option V} {u:Option UT} (r:RelO o u):o.isSome=u.isSome:=by
 cases o with
 | none=>cases u with
   | none=>rfl
   | some _=>exact (show False from r).elim
 | some _=>cases u with
   | none=>exact (show False from r).elim
   | some _=>rfl
theorem RelO.getD {o:Option V} {u:Option UT} {d:V} {d':UT} (r:RelO o u) (rd:RelV d d'):RelV (o.getD d) (u.getD d'):=by
 cases o with
 | none=>cases u with
   | none=>exact rd
   | some _=>exact (show False from r).elim
 | some _=>cases u with
   | none=>exact (show False from r).elim
   | some _=>exact r
theorem KV.val {f':List (κ×V)} {vs:List (κ×UT)} (r:KV f' vs) (k:κ):RelO (aV f' k) (valueAt vs k):=by
 unfold KV at r;induction r with
 | nil=>exact WX
 | @cons p q ps qs h t ih =>
   obtain ⟨h1,h2⟩:=h;by_cases e:p.1=k
   · have e':q.1=k:=h1.symm.trans e;have b:valueAt (q::qs) k=some q.2:=by simp [valueAt,Xx,e']
     rw [bG e,b];exact h2
   · have e':¬ q.1=k:=fun z=>e (h1.trans z);have b:valueAt (q::qs) k=valueAt qs k:=by simp [valueAt,Xx,e']
     rw [bL e,b];exact ih
theorem KV.any {f':List (κ×V)} {vs:List (κ×UT)} (r:KV f' vs) (k:κ):(f'.any fun kv=>decide (kv.1=k))=vs.any fun kv=>decide (kv.1=k):=by
 unfold KV at r;induction r with
 | nil=>rfl
 | cons h t ih=>rw [List.any_cons,List.any_cons,ih,h.1]
theorem KV.repl {f':List (κ×V)} {vs:List (κ×UT)} (r:KV f' vs) (k:κ) {y:V} {u:UT} (ry:RelV y u) :
 KV (f'.map fun kv=>if kv.1=k then (kv.1,y) else kv) (vs.map fun kv=>if kv.1=k then (kv.1,u) else kv):=by
 unfold KV at r ⊢;induction r with
 | nil=>exact .nil
 | @cons p q ps qs h t ih =>
   rw [VJ,VJ];refine .cons ?_ ih;obtain ⟨h1,h2⟩:=h;by_cases e:p.1=k
   · rw [if_pos e,if_pos (h1.symm.trans e)];exact ⟨h1,ry⟩
   · rw [if_neg e,if_neg (fun z=>e (h1.trans z))];exact ⟨h1,h2⟩
theorem KV.put {f':List (κ×V)} {vs:List (κ×UT)} (r:KV f' vs) (k:κ) {y:V} {u:UT} (ry:RelV y u):KV (putK f' k y) (stored vs k u):=by
 unfold putK stored;rw [r.any k];by_cases e:(vs.any fun kv=>decide (kv.1=k))=true
 · rw [if_pos e,if_pos e];exact r.repl k ry
 · rw [if_neg e,if_neg e];exact Paired.snoc r ⟨rfl,ry⟩
theorem KV.length {f':List (κ×V)} {vs:List (κ×UT)} (r:KV f' vs):f'.length=vs.length:=U2 r
end
theorem kg {P:U6} {w:Vj} {k:Key} {u:UT} (r:RelV (kV k) u):(aE P w).is k u=true:=by
 cases k with
 | inl i=>obtain ⟨t,e⟩:=(show ∃ t,u=Value.int i t from r);subst e;exact pC P w i t
 | inr x=>obtain ⟨t,e⟩:=(show ∃ t,u=Value.str x t from r);subst e;exact oj P w x t
theorem lZ {P:U6} {w:Vj}:∀ {ks:List Key} {us:List UT},Vals (ks.map kV) us->ItemsAre (aE P w) ks us
 | [],_,r=>by rw [WN] at r;cases r;exact .nil
 | k::ks,_,r=>by
   rw [VJ] at r;cases r with
   | cons h t=>exact .cons (kg h) (lZ t)
abbrev KTd (H:Hp):List (List Key×V)->List (List Key×UQ×UT)->Prop:=Vs fun p q=>p.1=q.1/\H q.2.1=some (.tup (p.1.map kV))/\RelV p.2 q.2.2
theorem KTd.val {H:Hp} {f':List (List Key×V)} {xs:List (List Key×UQ×UT)} (r:KTd H f' xs) (k:List Key):RelO (aV f' k) ((Yn xs k).map (·.2)):=by
 induction r with
 | nil=>exact WX
 | @cons p q ps qs h t ih =>
   obtain ⟨h1,_,h2⟩:=h;by_cases e:p.1=k
   · have e':q.1=k:=h1.symm.trans e;have b:Yn (q::qs) k=some q.2:=by simp [Yn,Xx,e']
     rw [bG e,b];exact h2
   · have e':¬ q.1=k:=fun z=>e (h1.trans z);have b:Yn (q::qs) k=Yn qs k:=by simp [Yn,Xx,e']
     rw [bL e,b];exact ih
theorem KTd.repl {H:Hp} {f':List (List Key×V)} {xs:List (List Key×UQ×UT)} (r:KTd H f' xs) (k:List Key) {y:V} {u:UT} (ry:RelV y u) :
 KTd H (f'.map fun kv=>if kv.1=k then (kv.1,y) else kv) (xs.map (putAt k u)):=by
 induction r with
 | nil=>exact .nil
 | @cons p q ps qs h t ih =>
   rw [VJ,VJ];refine .cons ?_ ih;obtain ⟨h1,h2,h3⟩:=h;unfold putAt;by_cases e:p.1=k
   · rw [if_pos e,if_pos (h1.symm.trans e)];exact ⟨h1,h2,ry⟩
   · rw [if_neg e,if_neg (fun z=>e (h1.trans z))];exact ⟨h1,h2,h3⟩
theorem KTd.put {H:Hp} {f':List (List Key×V)} {xs:List (List Key×UQ×UT)} (r:KTd H f' xs) (k:List Key) {b:UQ} {y:V} {u:UT} (hb:H b=some (.tup (k.map kV))) (ry:RelV y u) :
 KTd H (putK f' k y) (Zz xs k b u):=by
 have e:(f'.any fun kv=>decide (kv.1=k))=(Yn xs k).isSome:=by
  rw [dD,(r.val k).isSome_eq,Option.isSome_map]
 unfold putK Zz;rw [e];by_cases q:(Yn xs k).isSome=true
 · rw [if_pos q,if_pos q];exact r.repl k ry
 · rw [if_neg q,if_neg q];exact Paired.snoc r ⟨rfl,hb,ry⟩
theorem KTd.keeps {H H':Hp} {f':List (List Key×V)} {xs:List (List Key×UQ×UT)} (r:KTd H f' xs) (ht:∀ b ys,H b=some (.tup ys)->H' b=some (.tup ys)):KTd H' f' xs :=
 Vs.mapP r fun _ _ z=>⟨z.1,ht _ _ z.2.1,z.2.2⟩
section
variable {P:U6} {w:Vj} {H:Hp} {h:V9} {a:UQ}
theorem vf {u:HO} (ok:HOk P w H h) (e:Rd H a u):ObjOk P w H h a u:=e.ok ok
theorem mj {f':List (Key×V)} (ok:HOk P w H h) (e:Rd H a (.dK f')):f'.length<=Vb/\(a == WJ)=false/\∃ vs,KV f' vs/\h.DictOf (aE P w) a vs :=
 show ObjOk P w H h a (.dK f') from vf ok e
theorem u7 {f':List (Key×V)} (ok:HOk P w H h) (e:H a=some (.dK f')):f'.length<=Vb/\(a == WJ)=false/\∃ vs,KV f' vs/\h.DictOf (aE P w) a vs:=mj ok (.inl e)
theorem hZ {ks:List Key} (ok:HOk P w H h) (e:H a=some (.tup (ks.map kV))):(ZJ (aE P w)).is h ks a:=by
 obtain ⟨_,its,n,r,h1⟩:=(show ObjOk P w H h a (.tup (ks.map kV)) from ok a _ e);exact ⟨_,its.toArray,n,h1,rfl,rfl,by simpa using lZ r⟩
theorem mC {f':List (List Key×V)} (ok:HOk P w H h) (e:Rd H a (.dT f')):f'.length<=Vb/\(a == WJ)=false ∧
 ∃ xs,KTd H f' xs/\h.DictOfH (ZJ (aE P w)) a xs:=by
 obtain ⟨z,y,xs,r,o,es,ep,h1,h2,h3,h4,h5⟩:=(show ObjOk P w H h a (.dT f') from vf ok e);refine ⟨z,y,xs,r,o,es,ep,h1,h2,h3,h4,fun x hx=>?_,h5⟩
 have all:∀ {l:List (List Key×V)} {m:List (List Key×UQ×UT)},KTd H l m->∀ x∈m,(ZJ (aE P w)).is h x.1 x.2.1:=by
  intro l m q;induction q with
  | nil=>intro x hx;exact nomatch hx
  | @cons p q ps qs hq t ih =>
    intro x hx;rcases Vd.mp hx with e | hx
    · subst e;exact hZ ok (by rw [<- hq.1];exact hq.2.1)
    · exact ih x hx
 exact all r x hx
theorem u6 {f':List (List Key×V)} (ok:HOk P w H h) (e:H a=some (.dT f')):f'.length<=Vb/\(a == WJ)=false ∧
 ∃ xs,KTd H f' xs/\h.DictOfH (ZJ (aE P w)) a xs:=mC ok (.inl e)
end
def DGet (H:Hp) (a:UQ) (y:V) (r:Option V):Prop :=
 (∃ f' k,Rd H a (.dK f')/\y=kV k/\r=aV f' k)∨∃ f' k b,Rd H a (.dT f')/\y=.ref b/\H b=some (.tup (k.map kV))/\r=aV f' k
def DPut (H:Hp) (a:UQ) (y v:V) (H':Hp):Prop :=
 (∃ f' k,H a=some (.dK f')/\y=kV k/\f'.length<Vb/\H'=upd H a (.dK (putK f' k v))) ∨
 ∃ f' k b,H a=some (.dT f')/\y=.ref b/\H b=some (.tup (k.map kV))/\f'.length<Vb/\H'=upd H a (.dT (putK f' k v))
theorem DGet.k {H:Hp} {a:UQ} {f':List (Key×V)} {k:Key} (e:H a=some (.dK f')):DGet H a (kV k) (aV f' k):=.inl ⟨f',k,.inl e,rfl,rfl⟩
theorem DGet.t {H:Hp} {a b:UQ} {f':List (List Key×V)} {k:List Key} (e:H a=some (.dT f')) (eb:H b=some (.tup (k.map kV))):DGet H a (.ref b) (aV f' k):=.inr ⟨f',k,b,.inl e,rfl,eb,rfl⟩
theorem DPut.t {H:Hp} {a b:UQ} {f':List (List Key×V)} {k:List Key} {v:V} (e:H a=some (.dT f')) (eb:H b=some (.tup (k.map kV))) (hl:f'.length<Vb) :
 DPut H a (.ref b) v (upd H a (.dT (putK f' k v))):=.inr ⟨f',k,b,e,rfl,eb,hl,rfl⟩
section
variable {X:Cx} {pins:List (UQ×W0)} {σ:St} {H:Hp} {s:UY} {a:UQ} {y v:V} {u r:UT} {o:Option V} {A:VF} {E:UT->UY->Prop}
theorem Inv.big (I:Inv X pins σ H s):WJ<s.heap.objs.size:=by
 have h:VC<s.heap.objs.size:=(I.mod.glob.keeps I.bk).lt;exact Yd (by decide) h
theorem rp {Q:UT->UY->Prop} (hu:A.units+1<Ww) (I:Inv X pins σ H s) (g:DGet H a y (some v)) (ry:RelV y u) (h:∀ w' s',Inv X pins σ H s'->RelV v w'->Q w' s') :
 Va (Vw X.prog X.w) A (YN (.ref a) u) Q E s:=by
 rcases g with ⟨f',k,e,ey,l⟩ | ⟨f',k,b,e,ey,eb,l⟩
 · subst ey;obtain ⟨z,hd,vs,rel,dd⟩:=mj I.hok e;obtain ⟨w',hw,Bt⟩:=RelO.some_of (v:=v) (o:=valueAt vs k) (by rw [l];exact rel.val k);exact wpAny_getItem_of (kg ry) dd.mapOf hw (h w' _ (I.tok _) Bt)
 · subst ey;cases (show u=Vv b from ry);obtain ⟨z,hd,xs,rel,dd⟩:=mC I.hok e;obtain ⟨w',hw,Bt⟩:=RelO.some_of (v:=v) (o:=(Yn xs k).map (·.2)) (by rw [l];exact rel.val k);obtain ⟨p,hp,Ad⟩:=Vr.mp hw;refine wpAny_getItem_heap (YF hu) (hZ I.hok eb) dd hp ?_;rw [Ad];exact h w' _ (I.tok _) Bt
theorem xG {Q:UT->UY->Prop} (hu:A.units+1<Ww) (I:Inv X pins σ H s) (g:DGet H a y o) (ry:RelV y u) (h:∀ s',Inv X pins σ H s'->Q (.bool o.isSome) s') :
 Va (Vw X.prog X.w) A (X8 .In u (.ref a)) Q E s:=by
 rcases g with ⟨f',k,e,ey,l⟩ | ⟨f',k,b,e,ey,eb,l⟩
 · subst ey;obtain ⟨z,hd,vs,rel,dd⟩:=mj I.hok e;refine wpAny_in_of (kg ry) hd dd.mapOf ?_;rw [<- (rel.val k).isSome_eq,<- l];exact h _ (I.tok _)
 · subst ey;cases (show u=Vv b from ry);obtain ⟨z,hd,xs,rel,dd⟩:=mC I.hok e;refine wpAny_in_heap (YF hu) (hZ I.hok eb) hd dd ?_;have q:=(rel.val k).isSome_eq;rw [Option.isSome_map] at q;rw [<- q,<- l];exact h _ (I.tok _)
theorem gD {h':V9} {t':Nat} {ob:HO} (I:Inv X pins σ H s) (mu:Mut (H a)) (hs:WH a s.heap h') (he:∃ q,h'.get? a=some q) (new:ObjOk X.prog X.w (upd H a ob) h' a ob) :
 Inv X pins σ (upd H a ob) { s with heap:=h',toks:=t' } :=
 I.write (x:=a) (e:=a) mu (.inl rfl) (fun b q hb z=>(hs.2 b hb).trans z) he new
theorem sP {P:U6} {w:Vj} {H':Hp} {h':V9} {f':List (Key×V)} {vs:List (Key×UT)} (z:f'.length<=Vb) (hd:(a == WJ)=false) (rel:KV f' vs) (dd:h'.DictOf (aE P w) a vs) :
 ObjOk P w H' h' a (.dK f'):=⟨z,hd,vs,rel,dd⟩
theorem rK {H':Hp} {Q:Unit->UY->Prop} (hu:A.units+1<Ww) (I:Inv X pins σ H s) (g:DPut H a y v H') (ry:RelV y u) (rv:RelV v r) (h:∀ s',Inv X pins σ H' s'->Q () s') :
 Va (Vw X.prog X.w) A (setItem (.ref a) u r) Q E s:=by
 rcases g with ⟨f',k,e,ey,l,eH⟩ | ⟨f',k,b,e,ey,eb,l,eH⟩
 · subst ey eH;obtain ⟨z,hd,vs,rel,dd⟩:=u7 I.hok e;have hz:vs.length<=Vb:=by rw [<- rel.length];exact z
   have hl:(putK f' k v).length<=Vb:=by have:=bX f' k v;omega
   refine wpAny_setItem_pairs (hsz:=hz) (kg ry) dd fun h' Bx hs=>h _ ?_;have he:∃ q,h'.get? a=some q:=let ⟨q,_,_,hq,_⟩:=Bx;⟨q,hq⟩
   exact gD I (by rw [e];exact WX) hs he (sP hl hd (rel.put k rv) Bx)
 · subst ey eH;cases (show u=Vv b from ry);obtain ⟨z,hd,xs,rel,dd⟩:=u6 I.hok e;have hz:xs.length<=Vb:=by rw [<- U2 rel];exact z
   have hl:(putK f' k v).length<=Vb:=by have:=bX f' k v;omega
   refine wpAny_setItem_heap (hsz:=hz) (YF hu) (hZ I.hok eb) dd fun h' Bx hs=>h _ ?_;obtain ⟨q,es,ep,hq,h2,h3,h4,_,h5⟩:=Bx;refine gD I (by rw [e];exact WX) hs ⟨q,hq⟩ ⟨hl,hd,_,(rel.put k eb rv).keeps fun c ys ec=>?_,q,es,ep,hq,h2,h3,h4,h5⟩;rw [ai (eP ec e (fun z=>nomatch z))];exact ec
end
section
variable {X:Cx} {pins:List (UQ×W0)} {σ:St} {H:Hp} {s:UY} {a:UQ} {f':List (Key×V)} {k:Key} {u:UT} {A:VF} {E:UT->UY->Prop}
end
def wf (i:V4):Prop:=∀ ov iv,subscripted i false ov iv=operate [ov,iv] (YN ov iv)
theorem rb {prog:U6} {w:Vj} {A:VF} {E:UT->UY->Prop} {s:UY} {env:Env} {value slice:V4} {pos:YJ} {T id:String} {Q:UT->UY->Prop}
 (hl:Ym (.type T) "__getitem__"=pure (some (.builtin id))) (hs:wf slice)
 (h:Va (Vw prog w) A (Xf value env) (fun o xU=>Va (Vw prog w) A (Xf slice env) (fun i yB=>yB.TypeIs o T/\Va (Vw prog w) A (YN o i) Q E yB) E xU) E s) :
 Va (Vw prog w) A (Xf (.Subscript value slice pos) env) Q E s:=by
 refine Subscript_ (WU h (fun o xU yi=>WU yi (fun i yB yS=>?_) fun _ _ x=>x) fun _ _ x=>x);obtain ⟨hT,yS⟩:=yS;unfold subscriptTail;refine UM ?_;rw [getitemInPython_of_ne hT.not_modules];refine UM (Wr hT hl ?_)
 have fin:Va (Vw prog w) A (subscripted slice false o i) (fun r zW=>Va (Vw prog w) A (letTemporaryGo value o r >>= fun _=>pure r) Q E zW) E yB:=by
  rw [hs o i];exact wpAny_operating (WU yS (fun r zW Av=>UM (wpAny_letTemporaryGo (UX Av))) fun _ _ x=>x)
 first
  | exact UX (UM fin)
  | exact UM (UX (UM fin))
  | exact UM fin
theorem pi {X:Cx} {pins:List (UQ×W0)} {σ:St} {H:Hp} {s:UY} {a:UQ} {y:V} {o:Option V} (I:Inv X pins σ H s) (g:DGet H a y o):s.TypeIs (.ref a) "dict":=by
 rcases g with ⟨f',k,e,_,_⟩ | ⟨f',k,b,e,_,_,_⟩
 · obtain ⟨_,_,vs,_,dd⟩:=mj I.hok e;exact dd.typeIs
 · obtain ⟨_,_,xs,_,dd⟩:=mC I.hok e;exact dd.typeIs
def wW (td ty:TE):TE:=fun σ H Q=>td σ H fun x H1=>ty σ H1 fun y H2=>∃ a v,x=.ref a/\DGet H2 a y (some v)/\Q v H2
def xF (ty td:TE):TE:=fun σ H Q=>ty σ H fun y H1=>td σ H1 fun x H2=>∃ a o,x=.ref a/\DGet H2 a y o/\Q (.bl o.isSome) H2
def wA (td ty tv:TE):TS:=fun D σ H=>tv σ H fun v H1=>td σ H1 fun x H2=>ty σ H2 fun y H3=>∃ a H4,x=.ref a/\DPut H3 a y v H4/\D.nx σ H4
section
variable {X:Cx} {o i e value:V4} {pos pos' KP:YJ} {td ty tv:TE}
theorem nw (hu:X.A.units+1<Ww) (ho:PE X o td) (hi:PE X i ty) (hs:wf i):PE X (.Subscript o i pos) (wW td ty):=by
 intro pins s σ H Q I h;refine rb PySem.F.slot_dict_getitem.lookup hs (thn (ho pins s σ H _ I h) fun u s1 ⟨x,H1,I1,rx,q1⟩=>thn (hi pins s1 σ H1 _ I1 q1) fun iv s2 ⟨y,H2,I2,ry,a,v,ex,g,q2⟩=>?_);subst ex;obtain rfl:u=Vv a:=rx;exact ⟨pi I2 g,rp hu I2 g ry fun w' s3 I3 Bt=>⟨v,H2,I3,Bt,q2⟩⟩
theorem wj (hu:X.A.units+1<Ww) (hi:PE X i ty) (ho:PE X o td):PC X .In i o (xF ty td):=by
 intro pins s σ H Q I h;refine thn (hi pins s σ H _ I h) fun iv s1 ⟨y,H1,I1,ry,q1⟩=>thn (ho pins s1 σ H1 _ I1 q1) fun u s2 ⟨x,H2,I2,rx,a,ov,ex,g,q2⟩=>?_;subst ex;obtain rfl:u=Vv a:=rx;exact xG hu I2 g ry fun s3 I3=>⟨.bl ov.isSome,H2,I3,rfl,q2⟩
theorem uq (hu:X.A.units+1<Ww) (ho:PE X o td) (hi:PE X i ty) (hv:PE X value tv) (hs:swapsWith value (some (.Subscript o i pos')) pos.line X.env=pure false) :
 PS X (.Assign [.Subscript o i pos'] value pos) (wA td ty tv):=by
 intro pins s σ H D I h;refine wpAny_Assign_Subscript (thn (hv pins s σ H _ I h) fun r s1 ⟨v,H1,I1,rv,q1⟩=>thn (ho pins s1 σ H1 _ I1 q1) fun u s2 ⟨x,H2,I2,rx,q2⟩=>thn (hi pins s2 σ H2 _ I2 q2) fun iv s3 ⟨y,H3,I3,ry,a,H4,ex,g,q3⟩=>?_) hs;subst ex;obtain rfl:u=Vv a:=rx;exact rK hu I3 g ry rv fun s4 I4=>⟨σ,H4,I4,q3⟩
end
theorem oE {P:U6} {w:Vj} {H:Hp} (h:V9) (hb:WJ<h.objs.size):ObjOk P w H (h.push { cls:=.type "dict",data:=.dict #[] }) h.objs.size (.dK []) :=
 ⟨Vn _,beq_eq_false_iff_ne.mpr (WG (Vy hb)),[],.nil,Heap.DictOf.new h⟩
theorem nV {P:U6} {w:Vj} {H:Hp} (h:V9) (hb:WJ<h.objs.size):ObjOk P w H (h.push { cls:=.type "dict",data:=.dict #[] }) h.objs.size (.dT []) :=
 ⟨Vn _,beq_eq_false_iff_ne.mpr (WG (Vy hb)),[],.nil,_,#[],0,U4 _ rfl,⟨rfl,rfl,rfl⟩,rfl,rfl,Y4⟩
def v9:TE:=fun _ H Q=>∀ p,H p=none->Q (.ref p) (upd H p (.dK []))
def v6:TE:=fun _ H Q=>∀ p,H p=none->Q (.ref p) (upd H p (.dT []))
section
variable {X:Cx} {pos:YJ}
theorem t4:PE X (.Dict [] [] pos) v9:=fun pins s σ H Q I h =>
 wpAny_Dict_empty ⟨.ref s.heap.objs.size,_,I.laid (a:=s.heap.objs.size) (o:=.dK []) (t':=s.toks) (fun _ _ q=>UW _ q) (UR _) (oE s.heap I.big),rfl,h _ (I.hok.fresh (UR _))⟩
theorem tV:PE X (.Dict [] [] pos) v6:=fun pins s σ H Q I h =>
 wpAny_Dict_empty ⟨.ref s.heap.objs.size,_,I.laid (a:=s.heap.objs.size) (o:=.dT []) (t':=s.toks) (fun _ _ q=>UW _ q) (UR _) (nV s.heap I.big),rfl,h _ (I.hok.fresh (UR _))⟩
end
def pK:List (TE×TE)->St->Hp->(List (V×V)->Hp->Prop)->Prop
 | [],_,H,Q=>Q [] H
 | (tk,tv)::r,σ,H,Q=>tk σ H fun x H1=>tv σ H1 fun y H2=>pK r σ H2 fun ps H3=>Q ((x,y)::ps) H3
abbrev VV:List (V×V)->List (UT×UT)->Prop:=Vs fun p q=>RelV p.1 q.1/\RelV p.2 q.2
def PPs (X:Cx) (pos:YJ) (keys:List (Option V4)) (values:List V4) (Dn:List (TE×TE)):Prop :=
 ∀ (pins:List (UQ×W0)) (s:UY) (σ:St) (H:Hp) (Q:List (V×V)->Hp->Prop),Inv X pins σ H s->pK Dn σ H Q →
   Va (Vw X.prog X.w) X.A (evalPairs (pairTrees keys values X.env pos)) (fun vs s'=>∃ ps H',Inv X pins σ H' s'/\VV ps vs/\Q ps H') X.xe s
theorem qB {X:Cx} {pos:YJ}:PPs X pos [] [] []:=fun pins s σ H Q I h=>pairTrees_nil_walk ⟨[],H,I,.nil,h⟩
theorem pH {X:Cx} {pos:YJ} {k v:V4} {ks:List (Option V4)} {vs:List V4} {tk tv:TE} {Dn:List (TE×TE)} (hk:PE X k tk) (hv:PE X v tv) (hr:PPs X pos ks vs Dn) :
 PPs X pos (some k::ks) (v::vs) ((tk,tv)::Dn):=fun pins s σ H Q I h =>
 pairTrees_cons_walk (thn (hk pins s σ H _ I h) fun u s1 ⟨x,H1,I1,rx,q1⟩=>thn (hv pins s1 σ H1 _ I1 q1) fun w2 s2 ⟨y,H2,I2,ry,q2⟩ =>
  thn (hr pins s2 σ H2 _ I2 q2) fun ws s3 ⟨ps,H3,I3,rel,q3⟩=>⟨(x,y)::ps,H3,I3,.cons ⟨rx,ry⟩ rel,q3⟩)
def i6 (f' more:List (Key×V)):List (Key×V):=more.foldl (fun acc kv=>putK acc kv.1 kv.2) f'
theorem KV.merge:∀ {more:List (Key×V)} {rs:List (Key×UT)} {f':List (Key×V)} {vs:List (Key×UT)},KV more rs->KV f' vs->KV (i6 f' more) (merged vs rs):=by
 intro more rs f' vs r;unfold KV at r;induction r generalizing f' vs with
 | nil=>intro q;exact q
 | @cons p q ps qs h t ih =>
   intro r0
   have e:KV (putK f' p.1 p.2) (stored vs q.1 q.2):=by
    have:=r0.put p.1 h.2;rw [<- h.1];exact this
   exact ih e
theorem gU:∀ (more f':List (Key×V)),(i6 f' more).length<=f'.length+more.length
 | [],f'=>by show f'.length<=f'.length+0;omega
 | p::r,f'=>by
   have h1:=gU r (putK f' p.1 p.2);have h2:=bX f' p.1 p.2;show (i6 (putK f' p.1 p.2) r).length<=_;rw [U1];omega
theorem jY {P:U6} {w:Vj}:∀ {f':List (Key×V)} {ws:List (UT×UT)},VV (f'.map fun kv=>(kV kv.1,kv.2)) ws->∃ rs,Carries (aE P w) ws rs/\KV f' rs
 | [],_,r=>by rw [WN] at r;cases r;exact ⟨[],WX,.nil⟩
 | p::f',_,r=>by
   rw [VJ] at r;cases r with
   | @cons a b as bs h t =>
     obtain ⟨rs,c,q⟩:=jY (P:=P) (w:=w) t;obtain ⟨b1,b2⟩:=b;exact ⟨(p.1,b2)::rs,⟨kg h.1,rfl,c⟩,.cons ⟨rfl,h.2⟩ q⟩
def wZ (Dn:List (TE×TE)):TE:=fun σ H Q=>∀ p,H p=none->pK Dn σ (upd H p (.dK [])) fun ps H2=>H2 p=some (.dK [])/\∃ f':List (Key×V),ps=f'.map (fun kv=>(kV kv.1,kv.2))/\f'.length<=15/\Q (.ref p) (upd H2 p (.dK (i6 [] f')))
theorem re {X:Cx} {pos:YJ} {keys:List (Option V4)} {values:List V4} {Dn:List (TE×TE)} (h:PPs X pos keys values Dn) (xY:keys.all (·.isSome)=true) (hl:keys.length=values.length) (h0:keys≠[])
 (QN:keys.length<=15):PE X (.Dict keys values pos) (wZ Dn):=by
 intro pins s σ H Q I q;have hn:=I.hok.fresh (UR s.heap.objs.size);have I1:=I.laid (a:=s.heap.objs.size) (o:=.dK []) (h':=s.heap.push { cls:=.type "dict",data:=.dict #[] }) (t':=s.toks) (fun _ _ q=>UW _ q) (UR _) (oE s.heap I.big);refine wpAny_Dict_walk (knd:=aE X.prog X.w) xY hl h0 QN (thn (h pins _ σ _ _ I1 (q _ hn)) fun ws s2 ⟨ps,H2,I2,rel,e,f',ep,lk,q2⟩=>?_);subst ep;obtain ⟨rs,c,rk⟩:=jY (P:=X.prog) (w:=X.w) rel;obtain ⟨z,hd,TC,r0,dd⟩:=u7 I2.hok e;cases r0;refine ⟨rs,c,dd,fun h' Bx hs=>⟨.ref s.heap.objs.size,_,?_,rfl,q2⟩⟩
 have hz:(i6 [] f').length<=Vb:=by
  have h1:=gU f' [];rw [XS] at h1;rw [YH];omega
 have he:∃ q,h'.get? s.heap.objs.size=some q:=let ⟨q,_,_,hq,_⟩:=Bx;⟨q,hq⟩
 exact gD I2 (by rw [e];exact WX) hs he (sP hz hd (rk.merge .nil) Bx)
structure M2 (X:Cx) (o:V4) (m:Vm) (apos:YJ) (e f:V4) (yh:YJ):Prop where
 base:attributeBase o m X.env (Xf o X.env)=Xf o X.env
 few:((YR yh (VR [e,f] X.env)).all (fun x=>!x.1) && (backToKw yh (keywordEach [] X.env)).all (fun x=>x.1.isSome)
  && decide (([e,f]:List V4).length+([]:List Keyword).length+(if ([]:List Keyword).isEmpty then 0 else 1)<30))=true
 line:(apos.endLine == yh.line)=true
 trees:YR yh (VR [e,f] X.env)=[(false,Xf e X.env),(false,Xf f X.env)]
def IsD (H:Hp) (a:UQ):Prop:=(∃ f',Rd H a (.dK f'))∨∃ f',Rd H a (.dT f')
theorem v7 {X:Cx} {pins:List (UQ×W0)} {σ:St} {H:Hp} {s:UY} {a:UQ} (I:Inv X pins σ H s) (d:IsD H a) :
 s.TypeIs (.ref a) "dict"/\(∀ b,Vv a=.ref b->∃ ob,s.heap.get? b=some ob/\ob.dict=none)/\(a == WJ)=false:=by
 rcases d with ⟨f',e⟩ | ⟨f',e⟩
 · obtain ⟨_,hd,vs,_,dd⟩:=mj I.hok e;refine ⟨dd.typeIs,fun b q=>?_,hd⟩;cases q;obtain ⟨ob,_,_,h1,h2,_⟩:=dd;exact ⟨ob,h1,h2.2.1⟩
 · obtain ⟨_,hd,xs,_,dd⟩:=mC I.hok e;refine ⟨dd.typeIs,fun b q=>?_,hd⟩;cases q;obtain ⟨ob,_,_,h1,h2,_⟩:=dd;exact ⟨ob,h1,h2.2.1⟩
section
variable {X:Cx} {pins:List (UQ×W0)} {σ:St} {H:Hp} {s:UY} {a:UQ} {y d:V} {u r:UT} {o:Option V} {A:VF} {E:UT->UY->Prop}
theorem vY {Q:UT->UY->Prop} (hu:A.units+1<Ww) (I:Inv X pins σ H s) (g:DGet H a y o) (ry:RelV y u) (rd:RelV d r) (h:∀ w' s',Inv X pins σ H s'->RelV (o.getD d) w'->Q w' s') :
 Va (Vw X.prog X.w) A (call (.builtin "dict.get") [.ref a,u,r]) Q E s:=by
 rcases g with ⟨f',k,e,ey,l⟩ | ⟨f',k,b,e,ey,eb,l⟩
 · subst ey;obtain ⟨z,hd,vs,rel,dd⟩:=mj I.hok e;refine call_meetsIn XW dd.typeIs Zt (Zq _ _ _) (meets_dict_get_default (aE X.prog X.w) a (kg ry) hd r) ⟨_,dd.mapOf,h _ _ (I.tok _) ?_⟩;rw [l];exact (rel.val k).getD rd
 · subst ey;cases (show u=Vv b from ry);obtain ⟨z,hd,xs,rel,dd⟩:=mC I.hok e;refine call_meetsIn XW dd.typeIs Zt (Zq _ _ _) (meetsH_dict_get_default (ZJ (aE X.prog X.w)) a b hd r) ⟨YF hu,k,xs,hZ I.hok eb,dd,h _ _ (I.tok _) ?_⟩;rw [l];exact (rel.val k).getD rd
end
def sX (td ty tx:TE):TE:=fun σ H Q=>td σ H fun x H1=>∃ a,x=.ref a/\IsD H1 a/\ty σ H1 fun y H2=>tx σ H2 fun z H3=>∃ o,DGet H3 a y o/\Q (o.getD z) H3
section
variable {X:Cx} {o e f:V4} {apos yh:YJ} {td ty tx:TE}
theorem t5 (hu:X.A.units+1<Ww) (ho:PE X o td) (he:PE X e ty) (hf:PE X f tx) (m:M2 X o "get" apos e f yh):PE X (.Call (.Attribute o "get" apos) [e,f] [] yh) (sX td ty tx):=by
 intro pins s σ H Q I h;refine wpAny_Call_method m.base m.few m.line Zo XW PySem.F.type_dict_get (thn (ho pins s σ H _ I h) fun u s1 ⟨x,H1,I1,rx,a,ex,d,q1⟩=>?_);subst ex;obtain rfl:u=Vv a:=rx;obtain ⟨t1,t2,_⟩:=v7 I1 d;refine ⟨t1,t2,?_⟩;rw [m.trees]
 refine X2 rfl (Y7 (Wv (thn (he pins s1 σ H1 _ I1 q1) fun iv s2 ⟨y,H2,I2,ry,q2⟩ =>
  Wv (thn (hf pins s2 σ H2 _ I2 q2) fun fv s3 ⟨z,H3,I3,rz,ov,g,q3⟩=>WV ?_))))
 exact vY hu I3 g ry rz fun w' s4 I4 Bt=>⟨_,H3,I4,Bt,q3⟩
end
section
variable {X:Cx} {pins:List (UQ×W0)} {σ:St} {H:Hp} {s:UY} {a:UQ} {f':List (Key×V)} {A:VF} {E:UT->UY->Prop}
end
section
variable {X:Cx} {pins:List (UQ×W0)} {σ:St} {H:Hp} {s:UY} {a:UQ} {y:V} {u:UT} {A:VF} {E:UT->UY->Prop}
end
end L2
namespace L2
open PySem PySem.Spec PyProof.Rows
inductive vi (K:UO) (T:String) (xs:List V) (H:Hp) (Q:VK):Prop
 | mk (x:_) (b:_) (t:_) (yf:xs=[x,.ty T]) (yg:iW K H x t) (yl:X4 K t (.type T)=some b) (yx:Q (.bl b) H):vi K T xs H Q
def wP (K:UO) (T:String):List V->Hp->VK->Prop:=vi K T
theorem i5 {X:Cx} {T:String}:fJ X (.builtin "isinstance") (wP X.K T):=by
 intro pins s σ H xs us Q I r h;obtain ⟨x,b,t,e,ty,k,q⟩:=h;exact tR (T:=T) (b:=b) (t:=t) pins s σ H xs us Q I r ⟨x,e,ty,k,q⟩
theorem t8 {α:Type} {js:List (Option Nat)} {g:TG} {tt:TT} {te:TE} {σ:St} {J:It} {H:Hp} {xs:List V} {fin:UQ->Hp->Prop} (zs:List α) (p:α->Bool) (f:α->V) (hz:zs.length=xs.length) (hn:xs.length<=1000000)
 (BY:∀ i H2,Same H H2->i<xs.length->J.go i H2) (yZ:∀ H2,Same H H2->J.stop xs.length H2) (zZ:∀ (i:Nat) H2 x H3,Same H H2->i<xs.length->J.yld i H2 x H3->H3=H2/\xs[i]?=some x)
 (hb:∀ (i:Nat) x z H2 (R:VK) (R0:Hp->Prop),xs[i]?=some x->zs[i]?=some z->Same H H2->(p z=true->R (f z) H2)->(p z=false->R0 H2)->g x (cσ js σ) H2 fun ym H3=>tt ym H3 fun b H4=>if b=true then te ym H4 R else R0 H4)
 (q:∀ D,H D=none->fin D (upd H D (.lst ((zs.filter p).map f)))) :
 ∀ D,H D=none->∃ (n:Nat) (W:Nat->Hp->Prop),W 0 (upd H D (.lst []))/\fH js g tt te σ J D n W fun H'=>fin D H':=by
 intro D hD;refine ⟨xs.length,fun i H2=>i<=xs.length/\H2=upd H D (.lst (((zs.take i).filter p).map f)),⟨Vn _,by simp⟩,?_⟩;rintro i H2 ⟨hi,rfl⟩;have sm:∀ o,Same H (upd H D o):=fun o=>ad hD o;by_cases h:i=xs.length
 · left;subst h;refine ⟨yZ _ (sm _),?_⟩;rw [<- hz,WY];exact q D hD
 · right;have yR:i<xs.length:=by omega
   refine ⟨yR,BY i _ (sm _) yR,fun x H1 hy=>?_⟩;obtain ⟨rfl,hx⟩:=zZ i _ x H1 (sm _) yR hy;have K8:i<zs.length:=by omega
   have e1:zs[i]?=some zs[i]:=UN K8
   have e2:(zs.take (i+1)).filter p=(zs.take i).filter p++(if p zs[i]=true then [zs[i]] else []):=by
    rw [Wb,e1,Y6];show _++List.filter p [zs[i]]=_;rw [WZ,ZF]
   have hlen:(((zs.take i).filter p).map f).length<=1000000:=by
    rw [UL];have:=Xq p (zs.take i);rw [VE] at this;omega
   refine hb i x zs[i] _ _ _ hx e1 (sm _) (fun hp=>⟨_,ab,Y2 hlen (by decide),yR,?_⟩) (fun hp=>⟨yR,?_⟩)
   · rw [jW,e2,if_pos hp,U5];rfl
   · rw [e2,if_neg (by rw [hp];exact Ve),VB]
theorem gS {α:Type} {K:UO} {a:UQ} {js:List (Option Nat)} {g:TG} {tt:TT} {te:TE} {σ:St} {H:Hp} {xs:List V} {fin:UQ->Hp->Prop} (zs:List α) (p:α->Bool) (f:α->V) (hS:SqL K H a xs) (hz:zs.length=xs.length) (hn:xs.length<=1000000)
 (hb:∀ (i:Nat) x z H2 (R:VK) (R0:Hp->Prop),xs[i]?=some x->zs[i]?=some z->Same H H2->(p z=true->R (f z) H2)->(p z=false->R0 H2)->g x (cσ js σ) H2 fun ym H3=>tt ym H3 fun b H4=>if b=true then te ym H4 R else R0 H4)
 (q:∀ D,H D=none->fin D (upd H D (.lst ((zs.filter p).map f)))) :
 ∀ D,H D=none->∃ (n:Nat) (W:Nat->Hp->Prop),W 0 (upd H D (.lst []))/\fH js g tt te σ (Itl K a) D n W fun H'=>fin D H' :=
 t8 zs p f hz hn (fun i H2 s hi=>⟨xs,xs[i],s.seq hS,UN hi⟩) (fun H2 s=>⟨xs,s.seq hS,UR _⟩) (fun i H2 x H3 s hi hy=>⟨hy.1,hy.2 xs (s.seq hS)⟩) hb q
variable {K:UO}
theorem vU:X4 K (.type "tuple") (.type "tuple")=some true:=rfl
theorem vC:X4 K (.type "str") (.type "str")=some true:=rfl
theorem vZ:X4 K (.type "list") (.type "list")=some true:=rfl
end L2
namespace BB
open PySem L2
set_option genInjectivity true in
inductive Dv where
 | int (i:Int)
 | str (x:Vm)
 | tup (ds:List Dv)
mutual
def Dv.deep:Dv->Nat
 | .int _=>0
 | .str _=>0
 | .tup ds=>bN ds+1
def bN:List Dv->Nat
 | []=>0
 | d::ds=>max d.deep (bN ds)
end
mutual
def Dv.tot:Dv->Nat
 | .int _=>1
 | .str _=>1
 | .tup ds=>uB ds+1
def uB:List Dv->Nat
 | []=>0
 | d::ds=>d.tot+uB ds
end
mutual
def DAt (H:Hp):Dv->V->Prop
 | .int i,v=>v=.int i
 | .str x,v=>v=.str x
 | .tup ds,v=>∃ a vs,v=.ref a/\H a=some (.tup vs)/\DAts H ds vs
def DAts (H:Hp):List Dv->List V->Prop
 | [],vs=>vs=[]
 | d::ds,vs=>∃ v r,vs=v::r/\DAt H d v/\DAts H ds r
end
theorem DAts.nil {H:Hp}:DAts H [] []:=by rw [DAts]
theorem DAts.cons {H:Hp} {d:Dv} {ds:List Dv} {v:V} {vs:List V} (h1:DAt H d v) (h2:DAts H ds vs):DAts H (d::ds) (v::vs):=by rw [DAts];exact ⟨v,vs,rfl,h1,h2⟩
theorem DAts.length {H:Hp}:∀ {ds:List Dv} {vs:List V},DAts H ds vs->vs.length=ds.length
 | [],vs,h=>by rw [DAts] at h;subst h;rfl
 | d::ds,vs,h=>by
   rw [DAts] at h;obtain ⟨v,r,rfl,h1,h2⟩:=h;rw [U1,U1,h2.length]
theorem DAts.at {H:Hp}:∀ {ds:List Dv} {vs:List V} {i:Nat} {d:Dv},DAts H ds vs->ds[i]?=some d->∃ v,vs[i]?=some v/\DAt H d v
 | [],vs,i,d,h,e=>by simp at e
 | d0::ds,vs,i,d,h,e=>by
   rw [DAts] at h;obtain ⟨v,r,rfl,h1,h2⟩:=h;cases i with
   | zero=>simp at e;subst e;exact ⟨v,rfl,h1⟩
   | succ i =>
     obtain ⟨u,g1,g2⟩:=h2.at (i:=i) (by simpa using e);exact ⟨u,by simpa using g1,g2⟩
theorem dF:∀ {ds:List Dv} {i:Nat} {d:Dv},ds[i]?=some d->d.deep<=bN ds
 | [],i,d,e=>by simp at e
 | d0::ds,i,d,e=>by
   rw [bN];cases i with
   | zero=>simp at e;subst e;omega
   | succ i =>
     have:=dF (ds:=ds) (i:=i) (by simpa using e);omega
theorem nB:∀ {ds:List Dv} {i:Nat} {d:Dv},ds[i]?=some d->d.tot<=uB ds
 | [],i,d,e=>by simp at e
 | d0::ds,i,d,e=>by
   rw [uB];cases i with
   | zero=>simp at e;subst e;omega
   | succ i =>
     have:=nB (ds:=ds) (i:=i) (by simpa using e);omega
theorem Dv.tot_pos (d:Dv):1<=d.tot:=by
 cases d with
 | int i=>rw [Dv.tot];omega
 | str x=>rw [Dv.tot];omega
 | tup ds=>rw [Dv.tot];omega
mutual
def Th.dv:Th->Dv
 | .knot n ks=>.tup (.str n::dvs ks)
 | .call s k=>.tup [.str q,.int s,.int k]
def dvs:List Th->List Dv
 | []=>[]
 | t::ts=>t.dv::dvs ts
end
mutual
theorem At.dv {H:Hp}:∀ {t:Th} {a:UQ},At H t a->DAt H t.dv (.ref a)
 | .knot n ks,a,h=>by
   rw [At] at h;obtain ⟨_,as,h1,h2⟩:=h;rw [Th.dv,DAt];exact ⟨a,_,rfl,h1,.cons (by rw [DAt]) (Ats.dvs h2)⟩
 | .call s k,a,h=>by
   rw [At] at h;rw [Th.dv,DAt];exact ⟨a,_,rfl,h,.cons (by rw [DAt]) (.cons (by rw [DAt]) (.cons (by rw [DAt]) .nil))⟩
theorem Ats.dvs {H:Hp}:∀ {ts:List Th} {as:List UQ},Ats H ts as->DAts H (dvs ts) (as.map V.ref)
 | [],as,h=>by rw [Ats] at h;subst h;rw [BB.dvs];exact .nil
 | t::ts,as,h=>by
   rw [Ats] at h;obtain ⟨a,r,rfl,h1,h2⟩:=h;rw [BB.dvs,VJ];exact .cons (At.dv h1) (Ats.dvs h2)
end
mutual
theorem Th.dv_deep:∀ t:Th,t.dv.deep<=t.tall
 | .knot n ks=>by
   have:=iN ks;rw [Th.dv,Dv.deep,bN,Dv.deep,Th.tall];omega
 | .call s k=>by rw [Th.dv,Th.tall];simp [Dv.deep,bN]
theorem iN:∀ ts:List Th,bN (dvs ts)<=bw ts
 | []=>by rw [dvs,bN];exact Vn _
 | t::ts=>by
   have:=t.dv_deep;have:=iN ts;rw [dvs,bN,bw];omega
end
theorem kB {K:UO} {H:Hp} {a b:UQ} {xs ys:List V} {Q:VK} (ha:H a=some (.tup xs)) (hb:H b=some (.tup ys)) (hz:xs.length+ys.length<=1000000) (q:∀ p H',L2.Same H H'->H' p=some (.tup (xs++ys))->Q (.ref p) H'):mo K (.ref a) (.ref b) H Q:=by
 refine ⟨a,b,xs,ys,rfl,rfl,SqT.of ha,SqT.of hb,ak hz,fun e=>?_,fun _ e=>?_,fun _ _ p hp=>?_⟩
 · exact q b H (.refl _) (by rw [e];exact hb)
 · exact q a H (.refl _) (by rw [e,VB];exact ha)
 · exact q p _ (ad hp _) ab
mutual
/-- all OD with OE places,a knot ahead of its kids -/
def Th.pl (pre:List Int):Th->List (List Int×Th)
 | .knot n ks=>(pre,.knot n ks)::pls pre 0 ks
 | .call s k=>[(pre,.call s k)]
def pls (pre:List Int) (i:Int):List Th->List (List Int×Th)
 | []=>[]
 | t::ts=>t.pl (pre++[i])++pls pre (i+1) ts
end
theorem Th.pl_eq (pre:List Int) (t:Th):t.pl pre=(pre,t)::pls pre 0 t.kids:=by
 cases t with
 | knot n ks=>rw [Th.pl];rfl
 | call s k=>rw [Th.pl];simp [Th.kids,pls]
mutual
theorem Th.pl_len (pre:List Int):∀ t:Th,(t.pl pre).length=t.size
 | .knot n ks=>by rw [Th.pl,Th.size,U1,qF pre 0 ks]
 | .call s k=>by rw [Th.pl,Th.size];rfl
theorem qF (pre:List Int) (i:Int):∀ ts:List Th,(pls pre i ts).length=ao ts
 | []=>by rw [pls,ao];rfl
 | t::ts=>by rw [pls,ao,U8,Th.pl_len _ t,qF pre (i+1) ts]
end
def szP:List (List Int×Th)->Nat
 | []=>0
 | p::ps=>p.2.size+szP ps
def plP:List (List Int×Th)->List (List Int×Th)
 | []=>[]
 | p::ps=>p.2.pl p.1++plP ps
theorem cF:∀ a b,szP (a++b)=szP a+szP b
 | [],b=>by simp [szP]
 | p::a,b=>by rw [Xl,szP,szP,cF a b,Zi]
theorem jV (a:List (List Int×Th)):szP a.reverse=szP a:=by
 induction a with
 | nil=>rfl
 | cons x xs ih=>rw [VY,cF,ih,szP,szP,szP];omega
theorem kW:∀ a b,plP (a++b)=plP a++plP b
 | [],b=>by simp [plP]
 | p::a,b=>by rw [Xl,plP,plP,kW a b,VN]
theorem qV:∀ a,(plP a).length=szP a
 | []=>rfl
 | p::a=>by rw [plP,szP,U8,Th.pl_len,qV a]
theorem mV:∀ a,a.length<=szP a
 | []=>Vn _
 | p::a=>by
   have:=p.2.size_pos;have:=mV a;rw [U1,szP];omega
def cQ (pre:List Int) (i:Int):List Th->List (List Int×Th)
 | []=>[]
 | t::ts=>(pre++[i],t)::cQ pre (i+1) ts
theorem gf (pre:List Int) (i:Int):∀ ts,(cQ pre i ts).length=ts.length
 | []=>rfl
 | t::ts=>by rw [cQ,U1,U1,gf pre (i+1) ts]
theorem oU (pre:List Int) (i:Int):∀ ts,plP (cQ pre i ts)=pls pre i ts
 | []=>by rw [cQ,plP,pls]
 | t::ts=>by rw [cQ,plP,pls,oU pre (i+1) ts]
theorem i4 (pre:List Int) (i:Int):∀ ts,szP (cQ pre i ts)=ao ts
 | []=>by rw [cQ,szP,ao]
 | t::ts=>by rw [cQ,szP,ao,i4 pre (i+1) ts]
theorem kN (pre:List Int):∀ (i:Int) (ts:List Th) (j:Nat) (t:Th),ts[j]?=some t->(cQ pre i ts)[j]?=some (pre++[i+j],t)
 | i,[],j,t,e=>by simp at e
 | i,u::ts,0,t,e=>by simp at e;subst e;rw [cQ];simp
 | i,u::ts,j+1,t,e=>by
   rw [cQ,VW,kN pre (i+1) ts j t (by simpa using e)];have:i+1+(j:Int)=i+((j+1:Nat):Int):=by omega
   rw [this]
theorem kI (pre:List Int):∀ (i:Int) (ts:List Th) (p:List Int×Th),p∈cQ pre i ts->p.1.length=pre.length+1/\p.2∈ts
 | i,[],p,h=>by rw [cQ] at h;cases h
 | i,u::ts,p,h=>by
   rw [cQ] at h;rcases Vd.mp h with rfl | h
   · exact ⟨by simp,Vk ..⟩
   · have:=kI pre (i+1) ts p h;exact ⟨this.1,Vf _ this.2⟩
theorem P2.reverse {α β:Type} {F:α->β->Prop}:∀ {a:List α} {b:List β},Vs F a b->Vs F a.reverse b.reverse
 | _,_,.nil=>.nil
 | _,_,.cons r t=>by
   rw [VY,VY];exact P2.append (P2.reverse t) (.cons r .nil)
theorem P2.snoc_inv {α β:Type} {F:α->β->Prop} {a:List α} {b:List β} {y:β} (h:Vs F a (b++[y])):∃ us x,a=us++[x]/\Vs F us b/\F x y:=by
 have r:=P2.reverse h;rw [Wn,List.reverse_singleton,List.singleton_append] at r;cases e:a.reverse with
 | nil=>rw [e] at r;cases r
 | cons x us =>
   rw [e] at r;cases r with
   | cons h1 h2 =>
     refine ⟨us.reverse,x,?_,?_,h1⟩
     · rw [<- VY,<- e,WK]
     · have:=P2.reverse h2;rw [WK] at this;exact this
theorem mQ {t u:Th} (h:u∈t.kids):u.tall+1<=t.tall:=by
 have:=cg h;rw [t.tall_eq];omega
def Th.sub:Th->List Int->Option Th
 | t,[]=>some t
 | t,i::r=>if 0<=i then (match t.kids[i.toNat]? with | some u=>u.sub r | none=>none) else none
termination_by _ p=>p.length
theorem iQ (t:Th):t.sub []=some t:=by rw [Th.sub]
theorem oQ {t u:Th} {i:Int} {r:List Int} (h0:0<=i) (h:t.kids[i.toNat]?=some u):t.sub (i::r)=u.sub r:=by rw [Th.sub,if_pos h0,h]
mutual
theorem tw:∀ (t:Th) (pre p:List Int) (u:Th),(p,u)∈t.pl pre->∃ r,p=pre++r/\t.sub r=some u/\r.length+u.tall<=t.tall/\u.size<=t.size
 | .knot n ks,pre,p,u,h=>by
   rw [Th.pl] at h;rcases Vd.mp h with e | h
   · cases e;exact ⟨[],by simp,iQ _,by simp,UR _⟩
   · obtain ⟨j,v,r,h1,rfl,h3,h4,h5,h6,h7⟩:=qH ks pre 0 p u h;refine ⟨(0+(j:Int))::r,by simp,?_,?_,?_⟩
     · rw [oQ (u:=v) (by omega) (by rw [show (0+(j:Int)).toNat=j by omega];exact h1)];exact h3
     · rw [Th.tall,U1];omega
     · rw [Th.size];omega
 | .call s k,pre,p,u,h=>by
   rw [Th.pl] at h;have e:(p,u)=(pre,Th.call s k):=by simpa using h
   cases e;exact ⟨[],by simp,iQ _,by simp,UR _⟩
theorem qH:∀ (ts:List Th) (pre:List Int) (i:Int) (p:List Int) (u:Th),(p,u)∈pls pre i ts->∃ (j:Nat) (v:Th) (r:List Int),ts[j]?=some v/\p=pre++(i+(j:Int))::r/\v.sub r=some u/\r.length+u.tall<=v.tall/\v.tall<=bw ts/\u.size<=v.size/\v.size<=ao ts
 | [],pre,i,p,u,h=>by rw [pls] at h;cases h
 | t::ts,pre,i,p,u,h=>by
   rw [pls] at h;rcases VH.mp h with h | h
   · obtain ⟨r,rfl,h1,h2,h3⟩:=tw t (pre++[i]) p u h;exact ⟨0,t,r,rfl,by simp,h1,h2,by rw [bw];omega,h3,by rw [ao];omega⟩
   · obtain ⟨j,v,r,h1,rfl,h3,h4,h5,h6,h7⟩:=qH ts pre (i+1) p u h;refine ⟨j+1,v,r,by simpa using h1,?_,h3,h4,by rw [bw];omega,h6,by rw [ao];omega⟩;have:i+1+(j:Int)=i+((j+1:Nat):Int):=by omega
     rw [this]
end
theorem aK:∀ {ts:List Th} {t:Th},t∈ts->t.size<=ao ts
 | u::ts,t,h=>by
   rw [ao];rcases Vd.mp h with rfl | h
   · omega
   · have:=aK h;omega
end BB
namespace BB
open PySem L2
section
variable {ext:Th->List V} {H H':Hp} {t:Th} {a:UQ} {ts:List Th} {es:List UQ}
end
def Th.isCall:Th->Bool
 | .knot _ _=>false
 | .call _ _=>true
def nL:List Int×Th->Option (List Int×Int×Int)
 | (_,.knot _ _)=>none
 | (p,.call s k)=>some (p,s,k)
def callsOf (ps:List (List Int×Th)):List (List Int×Int×Int):=ps.filterMap nL
theorem dG (a b:List (List Int×Th)):callsOf (a++b)=callsOf a++callsOf b:=List.filterMap_append
theorem jA (a:List (List Int×Th)):(callsOf a).length<=a.length:=List.length_filterMap_le _ _
def CAt (H:Hp) (c:List Int×Int×Int) (a:UQ):Prop:=∃ pa ca,H a=some (.tup [.ref pa,.ref ca])/\H pa=some (.tup (c.1.map V.int))/\H ca=some (.tup [.int c.2.1,.int c.2.2])
def CsAt (H:Hp) (cs:List (List Int×Int×Int)) (as:List UQ):Prop:=Vs (CAt H) cs as
theorem CAt.mono {H H':Hp} (k:KT H H') {c:List Int×Int×Int} {a:UQ} (h:CAt H c a):CAt H' c a:=by
 obtain ⟨pa,ca,h1,h2,h3⟩:=h;exact ⟨pa,ca,k _ _ h1,k _ _ h2,k _ _ h3⟩
theorem CsAt.mono {H H':Hp} (k:KT H H') {cs:List (List Int×Int×Int)} {as:List UQ} (h:CsAt H cs as):CsAt H' cs as:=P2.mp (fun _ _ e=>CAt.mono k e) h
end BB
namespace BB
open PySem PySem.Spec PyProof.Rows L2
mutual
theorem DAt.inj {H:Hp}:∀ {d e:Dv} {v:V},DAt H d v->DAt H e v->d=e
 | .int i,.int j,v,h,g=>by rw [DAt] at h;rw [DAt] at g;rw [h] at g;cases g;rfl
 | .int i,.str y,v,h,g=>by rw [DAt] at h;rw [DAt] at g;rw [h] at g;cases g
 | .int i,.tup es,v,h,g=>by rw [DAt] at h;rw [DAt] at g;obtain ⟨a,vs,e,_⟩:=g;rw [h] at e;cases e
 | .str x,.int j,v,h,g=>by rw [DAt] at h;rw [DAt] at g;rw [h] at g;cases g
 | .str x,.str y,v,h,g=>by rw [DAt] at h;rw [DAt] at g;rw [h] at g;cases g;rfl
 | .str x,.tup es,v,h,g=>by rw [DAt] at h;rw [DAt] at g;obtain ⟨a,vs,e,_⟩:=g;rw [h] at e;cases e
 | .tup ds,.int j,v,h,g=>by rw [DAt] at h;rw [DAt] at g;obtain ⟨a,vs,e,_⟩:=h;rw [e] at g;cases g
 | .tup ds,.str y,v,h,g=>by rw [DAt] at h;rw [DAt] at g;obtain ⟨a,vs,e,_⟩:=h;rw [e] at g;cases g
 | .tup ds,.tup es,v,h,g=>by
   rw [DAt] at h;rw [DAt] at g;obtain ⟨a,vs,e1,h1,h2⟩:=h;obtain ⟨b,ws,e2,g1,g2⟩:=g;rw [e1] at e2;cases e2;rw [h1] at g1;cases g1;rw [DAts.inj h2 g2]
theorem DAts.inj {H:Hp}:∀ {ds es:List Dv} {vs:List V},DAts H ds vs->DAts H es vs->ds=es
 | [],[],vs,h,g=>rfl
 | [],e::es,vs,h,g=>by rw [DAts] at h;rw [DAts] at g;obtain ⟨v,r,z,_⟩:=g;rw [h] at z;cases z
 | d::ds,[],vs,h,g=>by rw [DAts] at h;rw [DAts] at g;obtain ⟨v,r,z,_⟩:=h;rw [g] at z;cases z
 | d::ds,e::es,vs,h,g=>by
   rw [DAts] at h;rw [DAts] at g;obtain ⟨v,r,z,h1,h2⟩:=h;obtain ⟨v',r',z',g1,g2⟩:=g;rw [z] at z';cases z';rw [DAt.inj h1 g1,DAts.inj h2 g2]
end
end BB
namespace L2
open PySem PySem.Spec PySem.SeqAt PyProof.Rows BB
open Classical in
theorem tW {X:Cx} {pins:List (UQ×W0)} {σ:St} {H:Hp} {s:UY} (I:Inv X pins σ H s) {ds es:List Dv} {a b:UQ} {vs ws:List V} {A:VF} (ha:SqT X.K H a vs) (hb:SqT X.K H b ws) (Ak:DAts H ds vs) (yE:DAts H es ws) (hu:A.units<Ww)
 (ih:∀ (j:Nat) (d e:Dv) (x y:V) (u v:UT),ds[j]?=some d->DAt H d x->DAt H e y->RelV x u->RelV y v->EqAt A.in1 s u v (decide (d=e))):RcAt A s (.ref a) (.ref b) (decide (Dv.tup ds=Dv.tup es)):=by
 obtain ⟨its,r1,p1,_⟩:=I.tuple ha;obtain ⟨xW,r2,p2,_⟩:=I.tuple hb;have l1:its.length=ds.length:=by rw [<- r1.length,Ak.length]
 have l2:xW.length=es.length:=by rw [<- r2.length,yE.length]
 have Cq:RcAt A s (.ref a) (.ref b) ((Vp (min its.toArray.size xW.toArray.size)).all (fun j=>decide (ds[j]?=es[j]?)) && its.toArray.size == xW.toArray.size):=by
  refine RcAt.tuples (show s.heap.IsTuple a its.toArray from p1) (show s.heap.IsTuple b xW.toArray from p2) hu fun j h1 h2=>?_;have AJ:j<ds.length:=by rw [<- l1];simpa using h1
  have Am:j<es.length:=by rw [<- l2];simpa using h2
  have e1:ds[j]?=some ds[j]:=UN AJ;have e2:es[j]?=some es[j]:=UN Am;obtain ⟨x',Cf,dx⟩:=Ak.at e1;obtain ⟨y',Au,dy⟩:=yE.at e2;obtain ⟨u',zo,Cr⟩:=r1.get Cf;obtain ⟨v',yL,AB⟩:=r2.get Au;have e3:decide (ds[j]?=es[j]?)=decide (ds[j]=es[j]):=by rw [e1,e2];simp
  have e4:its.toArray[j]=u':=by
   rw [UN (by rw [l1];exact AJ)] at zo;simpa using zo
  have e5:xW.toArray[j]=v':=by
   rw [UN (by rw [l2];exact Am)] at yL;simpa using yL
  rw [e3,e4,e5];exact ih j ds[j] es[j] x' y' u' v' e1 dx dy Cr AB
 have e:decide (Dv.tup ds=Dv.tup es)=((Vp (min its.toArray.size xW.toArray.size)).all (fun j=>decide (ds[j]?=es[j]?)) && its.toArray.size == xW.toArray.size):=by
  rw [U0,U0,l1,l2];by_cases h:ds=es
  · subst h;rw [decide_eq_true rfl];symm;simp
  · rw [decide_eq_false (fun z=>h (Dv.tup.inj z))];symm;by_cases hl:ds.length=es.length
    · rw [hl,Zv]
      have:¬ ((Vp es.length).all (fun j=>decide (ds[j]?=es[j]?)))=true:=by
       intro z;apply h;apply YC;intro j;by_cases hj:j<es.length
       · have:=Xm.mp z j (W5.mpr hj);exact of_decide_eq_true this
       · rw [Wk (by omega),Wk (by omega)]
      rw [V5.mpr this];rfl
    · have:(ds.length == es.length)=false:=by simpa using hl
      rw [this,Y8]
 rw [e];exact Cq
open Classical in
theorem nA {X:Cx} {pins:List (UQ×W0)} {σ:St} {H:Hp} {s:UY} (I:Inv X pins σ H s):∀ (n:Nat) (d e:Dv),d.tot<=n->∀ (x y:V) (u v:UT) (A:VF),DAt H d x->DAt H e y->RelV x u->RelV y v->A.units+d.deep<Ww->EqAt A s u v (decide (d=e))
 | 0,d,e,hn,x,y,u,v,A,hd,he,ru,rv,hu=>by have:=d.tot_pos;omega
 | n+1,.int i,.int j,hn,x,y,u,v,A,hd,he,ru,rv,hu=>by
   rw [DAt] at hd;rw [DAt] at he;subst hd he;obtain ⟨t,rfl⟩:=ru;obtain ⟨t',rfl⟩:=rv
   have e:decide (Dv.int i=Dv.int j)=(i == j):=by
    by_cases h:i=j
    · subst h;simp
    · rw [decide_eq_false (fun z=>h (Dv.int.inj z))];simp [h]
   rw [e];exact EqAt.int_int i t j t'
 | n+1,.int i,.str b,hn,x,y,u,v,A,hd,he,ru,rv,hu=>by
   rw [DAt] at hd;rw [DAt] at he;subst hd he;obtain ⟨t,rfl⟩:=ru;obtain ⟨t',rfl⟩:=rv;rw [decide_eq_false (fun z=>by cases z)];exact EqAt.int_str i t b t'
 | n+1,.int i,.tup es,hn,x,y,u,v,A,hd,he,ru,rv,hu=>by
   rw [DAt] at hd;rw [DAt] at he;obtain ⟨a,vs,rfl,ha,_⟩:=he;subst hd;obtain ⟨t,rfl⟩:=ru;cases rv;obtain ⟨its,_,p,_⟩:=I.tuple (SqT.of (K:=X.K) ha);rw [decide_eq_false (fun z=>by cases z)];exact EqAt.int_tuple i t (show s.heap.IsTuple a its.toArray from p) (by omega)
 | n+1,.str b,.int j,hn,x,y,u,v,A,hd,he,ru,rv,hu=>by
   rw [DAt] at hd;rw [DAt] at he;subst hd he;obtain ⟨t,rfl⟩:=ru;obtain ⟨t',rfl⟩:=rv;rw [decide_eq_false (fun z=>by cases z)];exact EqAt.str_int b t j t'
 | n+1,.str b,.str c,hn,x,y,u,v,A,hd,he,ru,rv,hu=>by
   rw [DAt] at hd;rw [DAt] at he;subst hd he;obtain ⟨t,rfl⟩:=ru;obtain ⟨t',rfl⟩:=rv
   have e:decide (Dv.str b=Dv.str c)=(b == c):=by
    by_cases h:b=c
    · subst h;simp
    · rw [decide_eq_false (fun z=>h (Dv.str.inj z))];simp [h]
   rw [e];exact EqAt.str_str b t c t'
 | n+1,.str b,.tup es,hn,x,y,u,v,A,hd,he,ru,rv,hu=>by
   rw [DAt] at hd;rw [DAt] at he;obtain ⟨a,vs,rfl,ha,_⟩:=he;subst hd;obtain ⟨t,rfl⟩:=ru;cases rv;obtain ⟨its,_,p,_⟩:=I.tuple (SqT.of (K:=X.K) ha);rw [decide_eq_false (fun z=>by cases z)];exact EqAt.str_tuple b t (show s.heap.IsTuple a its.toArray from p) (by omega)
 | n+1,.tup ds,.int j,hn,x,y,u,v,A,hd,he,ru,rv,hu=>by
   rw [DAt] at hd;rw [DAt] at he;obtain ⟨a,vs,rfl,ha,_⟩:=hd;subst he;cases ru;obtain ⟨t,rfl⟩:=rv;obtain ⟨its,_,p,_⟩:=I.tuple (SqT.of (K:=X.K) ha);rw [decide_eq_false (fun z=>by cases z)];exact EqAt.tuple_int j t (show s.heap.IsTuple a its.toArray from p) (by omega)
 | n+1,.tup ds,.str b,hn,x,y,u,v,A,hd,he,ru,rv,hu=>by
   rw [DAt] at hd;rw [DAt] at he;obtain ⟨a,vs,rfl,ha,_⟩:=hd;subst he;cases ru;obtain ⟨t,rfl⟩:=rv;obtain ⟨its,_,p,_⟩:=I.tuple (SqT.of (K:=X.K) ha);rw [decide_eq_false (fun z=>by cases z)];exact EqAt.tuple_str b t (show s.heap.IsTuple a its.toArray from p) (by omega)
 | n+1,.tup ds,.tup es,hn,x,y,u,v,A,hd,he,ru,rv,hu=>by
   have B0:=hd;have Ln:=he;rw [DAt] at hd;rw [DAt] at he;obtain ⟨a,vs,rfl,ha,Ak⟩:=hd;obtain ⟨b,ws,rfl,hb,yE⟩:=he;cases ru;cases rv;by_cases zN:a=b
   · subst zN;rw [decide_eq_true (DAt.inj B0 Ln)];exact EqAt.same _
   rw [Dv.tot] at hn;rw [Dv.deep] at hu;refine EqAt.of_refs zN (tW I (SqT.of ha) (SqT.of hb) Ak yE (by omega) fun j d e x' y' u' v' e1 dx dy Cr AB=>?_);have q1:=nB e1;have q2:=dF e1;refine nA I n d e (by omega) x' y' u' v' A.in1 dx dy Cr AB ?_;show A.units+1+_<Ww;omega
def uw (K:UO) (B:Nat):R2:=fun x y H Q=>∃ b ws d es,y=.ref b/\SqT K H b ws/\DAt H d x/\DAts H es ws/\bN es<=B/\∀ r:Bool,(r=true↔d∉es)->Q (.bl r) H
open Classical in
theorem sw {X:Cx} {B:Nat} (hu:X.A.units+B+2<Ww):OpR X (X8 .NotIn) (uw X.K B):=by
 intro pins s σ H x y v u Q I rx ry h;obtain ⟨b,ws,d,es,rfl,hb,hd,yE,hB,q⟩:=h;cases ry;obtain ⟨its,r1,p1,_⟩:=I.tuple hb
 have key:∀ (j:Nat) (z:UT),its[j]?=some z->∃ e y',es[j]?=some e/\DAt H e y'/\RelV y' z:=by
  intro j z hz;have hj:j<its.length:=(US.mp hz).1;have l1:=r1.length;have l2:=yE.length;have Dq:j<es.length:=by omega
  obtain ⟨y',Au,dy⟩:=yE.at (UN Dq);obtain ⟨v',yL,AB⟩:=r1.get Au;rw [hz] at yL;cases yL;exact ⟨_,y',UN Dq,dy,AB⟩
 have uniq:∀ (z:UT) (e e':Dv) (y' Cs:V),DAt H e y'->RelV y' z->DAt H e' Cs->RelV Cs z->e=e':=by
  intro z e e' y' Cs h1 h2 h3 h4;have:=h2.inj h4;subst this;exact h1.inj h3
 refine notIn_tupleAt (fun z=>decide (∃ y',DAt H d y'/\RelV y' z)) (show s.heap.IsTuple b its.toArray from p1) (fun z hz=>?_) ⟨.bl _,H,I,rfl,q _ ?_⟩
 · obtain ⟨j,hj⟩:=Vc.mp (show z∈its by simpa using hz);obtain ⟨e,y',he,dy,ry⟩:=key j z hj;have hq:=dF he
   have e3:decide (∃ y',DAt H d y'/\RelV y' z)=decide (e=d):=by
    by_cases h:e=d
    · rw [decide_eq_true h,decide_eq_true ⟨y',h ▸ dy,ry⟩]
    · rw [decide_eq_false h,decide_eq_false];rintro ⟨Cs,h1,h2⟩;exact h (uniq z e d y' Cs dy ry h1 h2)
   rw [e3];refine nA I _ e d (UR _) y' x z v X.A.in1 dy hd ry rx ?_;show X.A.units+1+_<Ww;omega
 · rw [Bool.not_eq_true',<- Bool.not_eq_true];refine not_congr ?_;constructor
   · intro z;obtain ⟨v',h1,h2⟩:=Array.any_eq_true'.mp z;obtain ⟨j,hj⟩:=Vc.mp (show v'∈its by simpa using h1);obtain ⟨e,y',he,dy,ry⟩:=key j v' hj;obtain ⟨Cs,h3,h4⟩:=of_decide_eq_true h2;rw [<- uniq v' e d y' Cs dy ry h3 h4];exact UP he
   · intro z;obtain ⟨j,hj⟩:=Vc.mp z;obtain ⟨y',Au,dy⟩:=yE.at hj;obtain ⟨v',yL,AB⟩:=r1.get Au;refine Array.any_eq_true'.mpr ⟨v',?_,decide_eq_true ⟨y',dy,AB⟩⟩;have:=UP yL;simpa using this
end L2
namespace BB
open PySem L2
def Th.put:Th->List Int->Th->Th
 | _,[],o=>o
 | t,i::r,o=>match t.kids[i.toNat]? with
   | some u=>.knot t.nm (t.kids.set i.toNat (u.put r o))
   | none=>o
termination_by _ p=>p.length
theorem m3 (t o:Th):t.put [] o=o:=by rw [Th.put]
theorem lc {t u o:Th} {i:Int} {r:List Int} (h:t.kids[i.toNat]?=some u):t.put (i::r) o=.knot t.nm (t.kids.set i.toNat (u.put r o)):=by rw [Th.put,h]
theorem nu {t u:Th} {i:Int} {r:List Int} (h:t.sub (i::r)=some u):0<=i/\∃ w,t.kids[i.toNat]?=some w/\w.sub r=some u:=by
 rw [Th.sub] at h;split at h
 · rename_i h0
   split at h
   · rename_i w hw
     exact ⟨h0,w,hw,h⟩
   · cases h
 · cases h
theorem mi:∀ {ks:List Th} {i:Nat} {w x:Th},ks[i]?=some w->ao (ks.set i x)+w.size=ao ks+x.size
 | [],i,w,x,h=>by simp at h
 | k::ks,0,w,x,h=>by
   simp at h;subst h;rw [List.set_cons_zero,ao,ao];omega
 | k::ks,i+1,w,x,h=>by
   have:=mi (ks:=ks) (i:=i) (w:=w) (x:=x) (by simpa using h);rw [List.set_cons_succ,ao,ao];omega
theorem pk:∀ (p:List Int) (t u o:Th),t.sub p=some u->(t.put p o).size+u.size=t.size+o.size
 | [],t,u,o,h=>by
   rw [iQ] at h;cases h;rw [m3];omega
 | i::r,t,u,o,h=>by
   obtain ⟨h0,w,hw,hs⟩:=nu h;have h1:=pk r w u o hs;have h2:=mi (x:=w.put r o) hw;rw [lc hw,Th.size,t.size_eq];omega
theorem Ats.set {H:Hp}:∀ {ts:List Th} {as:List UQ} (i:Nat) {x:Th} {a:UQ},Ats H ts as->At H x a->Ats H (ts.set i x) (as.set i a)
 | [],as,i,x,a,h,g=>by rw [Ats] at h;subst h;exact .nil
 | t::ts,as,i,x,a,h,g=>by
   rw [Ats] at h;obtain ⟨b,r,rfl,h1,h2⟩:=h;cases i with
   | zero=>exact .cons g h2
   | succ i=>exact .cons h1 (Ats.set i h2 g)
end BB
namespace PySem
theorem bb_extendT (l:UQ) (items:Array UT) (n:Nat) (b:UQ) (zw:Array UT) (n2:Nat) (dd:Option UQ) (sl:Array (Option UT)) (g0:¬(!items.isEmpty && Xb (items.size+zw.size))=true) (g1:items.size<=Vb) (g2:items.size+zw.size<=Vb+1) :
 Meets (Xv.«list.extend» ⟨[.ref l,.ref b],[]⟩) (fun _ R s=>s.heap.get? l=some { cls:=.type "list",dict:=none,data:=.seq items n,slots:=#[] }/\s.heap.get? b=some { cls:=.type "tuple",dict:=dd,data:=.seq zw n2,slots:=sl }/\R (.ok (.ret Wm)) { s with heap:=s.heap.update l (V3 fun x=>x++zw),toks:=s.toks }) :=
 .of_wp fun prog w A R s h=>by
  obtain ⟨hp,g,d,tk,os⟩:=s;obtain ⟨hl,hb,h⟩:=h;have f1:=AutoSeq1.idx_int;have f2:=AutoSeq1.sub_tuple_tuple;have f3:=AutoSeq1.sub_list_list;have f4:=AutoSeq1.sub_tuple_list;have f5:=AutoSeq1.sub_list_tuple;have z2:(items++zw).size<=Vb+1:=by rw [Array.size_append];exact g2
  wp_walk using (WE hl rfl (hz:=g1) (_hz':=z2)),Xd hl,Xd hb
  exact ⟨_,rfl,h⟩
end PySem
namespace L2
open PySem PySem.Spec PyProof.Rows
section
variable {X:Cx}
def tP (K:UO):V->List V->Hp->VK->Prop:=fun x vs H Q=>∃ l b xs zs,x=.ref l/\vs=[.ref b]/\H l=some (.lst xs)/\SqT K H b zs/\xs.length+zs.length<=Vb/\Q .non (upd H l (.lst (xs++zs)))
theorem qc:MtM X "list.extend" (tP X.K):=by
 intro pins s σ H x vs v us Q I rx rv h;obtain ⟨l,b,xs,zs,rfl,rfl,hH,hB,hz,q⟩:=h;cases rx;obtain ⟨u,rfl,ru⟩:=rv.one;cases ru;obtain ⟨z,its,n,r,hl,e⟩:=I.lstM hH;obtain ⟨xW,r2,p2,_⟩:=I.tuple hB;have yP:=r2.length;obtain ⟨⟨GP,F6,data2,F7⟩,e2,BU,n2,hd2⟩:=p2;simp only at BU hd2;subst BU hd2;have hsz:its.toArray.size+xW.toArray.size<=Vb:=by rw [U0,U0];omega
 have Cb:¬ (!its.toArray.isEmpty && Xb (its.toArray.size+xW.toArray.size))=true:=by
  rw [lu hsz,Y8];exact Ve
 refine YY F.slot_list_extend ⟨_,e,rfl⟩ F.entry_list_extend (F.args_list_extend_2 _ _)
  (bb_extendT l its.toArray n b xW.toArray n2 F6 F7 Cb (by rw [U0];omega) (by omega)) ⟨e,e2,?_⟩
 refine ⟨.non,_,I.lset (its':=its++xW) hH e (by simp) (r.append r2) ?_,rfl,q⟩;rw [U8];omega
theorem sf {bs:List Bool} {its:List UT} (r:Vals (bs.map V.bl) its) {i:Nat} {v:UT} (h:its[i]?=some v):∃ b,bs[i]?=some b/\v=.bool b:=by
 have hl:=r.length;have hi:i<its.length:=(US.mp h).1;rw [UL] at hl;obtain ⟨u,hu,ru⟩:=r.get (i:=i) (x:=.bl bs[i]) (by rw [UZ,UN (by omega)];rfl);rw [h] at hu;cases hu;cases ru;exact ⟨_,UN (by omega),rfl⟩
def xz (K:UO):List V->Hp->VK->Prop:=fun xs H Q=>∃ (p:UQ) (bs:List Bool),xs=[.ref p]/\SqL K H p (bs.map V.bl)/\Q (.bl (bs.all id)) H
theorem o8 (hc:X.calm=true):fJ X (.builtin "all") (xz X.K):=by
 intro pins s σ H xs us Q I r h;obtain ⟨p,bs,rfl,hl,q⟩:=h;obtain ⟨u,rfl,rx⟩:=vals1 r;cases rx;obtain ⟨its,rv,pl,_⟩:=I.list hl;have hlen:=rv.length;rw [UL] at hlen;have ye:p<s.heap.objs.size:=by obtain ⟨_,_,e,_⟩:=pl;exact U7 e
 refine call_all_walk (wpAny_pyIter_list pl.isList ?_);refine ⟨s.heap.objs.size,[s.heap.objs.size,p],[s.heap.objs.size],its.toArray.size,_,_,fun i=>(bs[i]?).getD true,rfl,Walks.list (A:=X.A.in1) (I.ok.hd hc) _ p (Vy ye) its.toArray,⟨⟨_,U4 _ rfl,rfl,rfl⟩,pl.isList.push _⟩,fun i v s' Q' E' hP hQ=>?_,fun h' tk hk=>?_⟩
 · obtain ⟨b,e,rfl⟩:=sf rv (i:=i) (v:=v) (by simpa using hP);simp only [e,Option.getD_some] at hQ;exact Yg hQ
 · have e:((Vp its.toArray.size).all fun i=>(bs[i]?).getD true)=bs.all id:=by
    rw [U0,<- hlen];exact LSm.range_all bs
   rw [e];exact ⟨.bl (bs.all id),H,I.kept (LSm.kept_iter hk),rfl,q⟩
end
end L2
namespace BB
open PySem L2
def kDv (k:Vm×Int):Dv:=.tup [.str k.1,.int k.2]
theorem ve {H:Hp}:∀ {ks:List (Vm×Int)} {as:List UQ},Vs (KAt H) ks as->DAts H (ks.map kDv) (as.map V.ref)
 | _,_,.nil=>.nil
 | _,_,.cons r h=>by
   rw [VJ,VJ];refine .cons ?_ (ve h);rw [kDv,DAt];exact ⟨_,_,rfl,r,.cons (by rw [DAt]) (.cons (by rw [DAt]) .nil)⟩
theorem pf:∀ ks:List (Vm×Int),bN (ks.map kDv)<=1
 | []=>by rw [WN,bN];exact Vn _
 | k::ks=>by
   have:=pf ks;rw [VJ,bN,kDv];simp only [Dv.deep,bN];omega
def star:Vm:=UU "*"
theorem oN {x:Vm} (h:Low x):x≠star:=by
 intro e;subst e;have:=h 42 (by decide +kernel);omega
open Classical in
def Th.isHole:Th->Bool
 | .knot n ks=>decide (n=star/\ks=[])
 | .call _ _=>false
def Th.isKnot (t:Th):Bool:=!t.isCall && !t.isHole
theorem uk {k:Nat} {A:VF} (hr:L2.Room k A):A.units+50+2<Ww:=by
 have:=hr.units;omega
end BB
namespace PySem
open Sem (wp)
namespace F
theorem bb_entry_upd:entryFor table "dict.update.loop"=some Xv.«dict.update.loop»:=entryFor_of_tree (by kernel_rfl)
theorem bb_plain_upd:plainId "dict.update.loop"=true:=by decide +kernel
end F
section
variable {prog:U6} {w:Vj} {A:VF} {E:UT->UY->Prop} {s:UY} {a:UQ} {xs:Array UT} {k:Nat}
end
end PySem
namespace L2
open PySem PySem.Spec PyProof.Rows BB
section
variable {X:Cx}
end
end L2
namespace BB
open PySem L2
end BB
namespace HT
open PySem PySem.Spec PyProof.Rows
section
variable {prog:U6} {w:Vj} {A:VF} {E:UT->UY->Prop} {s:UY}
theorem getItem_tuple_whole {t sl:UQ} {items:Array UT} {vl vu:UT} {lo hi:Option Int} {Q:UT->UY->Prop} (ht:IsTup s.heap t items) (hs:s.heap.IsSliceOf sl vl vu .none) (pl:ZV vl lo) (pu:ZV vu hi)
 (hw:sIx items.size 0 lo=0/\sIx items.size items.size hi=items.size) (h:Q (.ref t) s):Va (Vw prog w) A (YN (.ref t) (.ref sl)) Q E s:=by
 obtain ⟨os,Ap,BV,Ah⟩:=id hs;have GQ:s.TypeIs (.ref sl) "slice":=⟨os,Ap,BV⟩;have hT:s.TypeIs (.ref t) "tuple":=ht.typeIs;unfold YN
 try with_reducible refine Wl ?_
 first | refine UM (UX ?_) | skip
 refine UM (wpAny_sequenceKey ht.typeIs (by decide) ?_)
 refine UM (VX (name:=UU "__getitem__") ht.typeIs VG
  (V2 VG ht.typeIs entry_tuple_getitem ?_ (args_tuple_getitem _ _)))
 show Va _ _ (Ys (.ref t) >>= _) _ _ s;refine UM (tupleItemsOf_ ht ?_);refine UM (Xr GQ ?_);rw [if_pos (by decide)];refine UM (sliceApplied_gen hs pl pu ?_)
 have Lo:(((sIx items.size 0 lo:Nat):Int) == 0 && (1:Int) == 1 && (sIx items.size items.size hi - sIx items.size 0 lo) == items.size)=true:=by
  rw [hw.1,hw.2];simp
 show Va _ _ (if (((sIx items.size 0 lo:Nat):Int) == 0 && (1:Int) == 1 && (sIx items.size items.size hi - sIx items.size 0 lo) == items.size)=true then _ else _) _ _ s;rw [if_pos Lo];refine UM (m:=Builtin.Tuple.tupleIsExact _) ?_;unfold Builtin.Tuple.tupleIsExact;refine UM (Xr hT (UX ?_));rw [if_pos (by decide)];exact UM (XA (UX ⟨_,rfl,UX h⟩))
end
end HT
namespace L2
open PySem PySem.Spec PyProof.Rows
end L2
namespace PySem
open Sem (wp)
section
variable {prog:U6} {w:Vj} {A:VF} {E:UT->UY->Prop} {s:UY} {it d:UQ} {i ep:Nat} {od:W0} {es:Array DictEntry}
theorem bb_keyNext {en:DictEntry} {Q:Option UT->UY->Prop} (g:s.heap.IsKeyIter it d i es.size ep) (g1:s.heap.get? d=some od) (g2:od.data=.dict es ep) (hx:es[i]?=some en)
 (fin:∀ h',h'.IsKeyIter it d (i+1) es.size ep->WH it s.heap h'->Q (some en.key) { s with heap:=h' }):Va (Vw prog w) A (XH (.ref it)) Q E s:=by
 obtain ⟨o,q1,q2,q3⟩:=id g;unfold XH;refine UM (XG (VX (name:=UU "__next__") g.typeIs Xn (V2 Xn g.typeIs F.entry_dict_keyiterator_next ?_ (F.args_dict_keyiterator_next_1 _))));refine UM (UX ?_);refine UM ?_;refine UM ?_
 first | refine UM (XZ g.typeIs (UX ?_)) | refine UM (Yz g.typeIs (UX ?_))
 refine UM (wpAny_fieldsOf q1 q3 ?_);have own:Builtin.Dict_items.ownsTuple "dict_keyiterator"=false:=by decide
 simp only [own,V7,if_false];show Va _ _ (if (Vv d == Wm)=true then _ else _) _ _ s;rw [if_neg (show ¬ ((Vv d == Wm)=true) from Ve)];refine UM (UX ?_);refine UM (Zy g1 g2 ?_);rw [if_neg (by simp)];refine UM (UX ?_);refine UM (wpAny_dictEpoch g1 g2 ?_);rw [if_neg (by simp)];refine UX ?_;have lt:i<es.size:=(Y9.mp hx).1;have ee:es[i]=en:=(Y9.mp hx).2;simp only [show ¬ ((i:Int)<0) from by omega,if_false,VT,WT lt];refine UM ?_
 first | refine UM (XZ g.typeIs (UX ?_)) | refine UM (Yz g.typeIs (UX ?_))
 refine UM (wpAny_isOneOf_keyiter g.typeIs ?_);show Va _ _ (setField (.ref it) 1 (Xe ((i:Int)+1)) >>= _) _ _ s;refine UM (Yl q1 q3 (by simp) ?_);have g':(s.heap.update it (Obj.mapFields (·.setIfInBounds 1 (Xe ((i:Int)+1))))).IsKeyIter it d (i+1) es.size ep:=⟨_,VD _ q1 (YW (W7 q3 _)),(Obj.cls_mapFields ..).trans q2,by rw [W7 q3];simp [Xe]⟩;refine UM (Wl ?_);refine UM (wpAny_isOneOf_keyiter (s:={ s with heap:=s.heap.update it (Obj.mapFields (·.setIfInBounds 1 (Xe ((i:Int)+1)))) }) g'.typeIs ?_);show Va _ _ (pure es[i].key) _ _ _;rw [ee];exact UX (UX ⟨_,rfl,UX (fin _ g' (WW ..))⟩)
theorem bb_keyEnd {Q:Option UT->UY->Prop} (calm:A.handled=none) (g:s.heap.IsKeyIter it d i es.size ep) (g1:s.heap.get? d=some od) (g2:od.data=.dict es ep) (hx:es.size<=i)
 (fin:∀ h',Heap.ExtBut it s.heap h'->Q none { s with heap:=h' }):Va (Vw prog w) A (XH (.ref it)) Q E s:=by
 obtain ⟨o,q1,q2,q3⟩:=id g;unfold XH;refine UM (XG (VX (name:=UU "__next__") g.typeIs Xn (V2 Xn g.typeIs F.entry_dict_keyiterator_next ?_ (F.args_dict_keyiterator_next_1 _))));refine UM (UX ?_);refine UM ?_;refine UM ?_
 first | refine UM (XZ g.typeIs (UX ?_)) | refine UM (Yz g.typeIs (UX ?_))
 refine UM (wpAny_fieldsOf q1 q3 ?_);have own:Builtin.Dict_items.ownsTuple "dict_keyiterator"=false:=by decide
 simp only [own,V7,if_false];show Va _ _ (if (Vv d == Wm)=true then _ else _) _ _ s;rw [if_neg (show ¬ ((Vv d == Wm)=true) from Ve)];refine UM (UX ?_);refine UM (Zy g1 g2 ?_);rw [if_neg (by simp)];refine UM (UX ?_);refine UM (wpAny_dictEpoch g1 g2 ?_);rw [if_neg (by simp)];refine UX ?_;simp only [show ¬ ((i:Int)<0) from by omega,if_false,VT,YD hx];refine UM ?_
 first | refine UM (XZ g.typeIs (UX ?_)) | refine UM (Yz g.typeIs (UX ?_))
 show Va _ _ (setField (.ref it) 0 .none >>= _) _ _ s;refine UM (Yl q1 q3 (by simp) ?_);show Va _ _ (newExc (.type "StopIteration") [] >>= _) _ _ _;refine UM ?_;simp only [newExc,newTuple];refine UM (V1 ?_ (by size_fits));refine UM (m:=YO _ _) (X0 (a:=Wm) (by first | rfl | (simp only [YO];rfl)) ?_);refine V1 ?_ (by size_fits);simp only [raiseNew];refine UM (wpAny_handled ?_)
 first | rw [show A.in1.handled=none from calm] | rw [calm]
 refine UM (UX (wpAny_throw ?_));refine UM (Xw (T:="StopIteration") (b:=true) ⟨_,U4 _ rfl,rfl⟩ isSubtype_stop ?_);exact UX (fin _ (((WW ..).extBut.push _).push _))
theorem bb_keyIter {Q:UT->UY->Prop} (ns:(d == WJ)=false) (g1:s.heap.get? d=some od) (gc:od.cls=.type "dict") (g2:od.data=.dict es ep)
 (fin:Q (.ref s.heap.objs.size) { s with heap:=s.heap.push { cls:=.type "dict_keyiterator",data:=.fields #[.ref d,.int 0 0,.int es.size 0,.int ep 0] } }):Va (Vw prog w) A (pyIter (.ref d)) Q E s:=by
 have gT:s.TypeIs (.ref d) "dict":=⟨_,g1,gc⟩;refine wpAny_pyIter_slot gT F.slot_dict_iter (V2 F.slot_dict_iter gT F.entry_dict_iter ?_ (F.args_dict_iter_1 _));unfold Xv.«dict.__iter__»;refine UM ?_;unfold Builtin.Dict.dictSlotNone;refine UM (Z4 gT ?_);show Va _ _ (pure (Vv d)) _ _ s;refine UX ?_;show Va _ _ (Builtin.Dict.showsAll d >>= _) _ _ s;unfold Builtin.Dict.showsAll;rw [if_neg (by rw [ns];exact Ve)];refine UM (UX ?_);refine UM (Zy g1 g2 ?_);refine UM (wpAny_dictEpoch g1 g2 ?_);refine UM (V1 (UX ⟨_,rfl,"dict_keyiterator",_,⟨_,U4 _ rfl,rfl⟩,Xn.lookup,?_⟩));simpa [Xe] using fin
end
end PySem
namespace L2
open PySem PySem.Spec PyProof.Rows
section
variable {X:Cx} {e:V4} {te:TE}
end
end L2
namespace BB
open PySem L2
inductive Top where
 | nm (n:Vm) (m:Nat)
 | th (t:Th)
def bl:List Top->List Th
 | []=>[]
 | .nm n m::S=>.knot n ((bl S).take m)::(bl S).drop m
 | .th t::S=>t::bl S
def TopsOk:List Top->Prop
 | []=>True
 | .nm _ m::S=>m<=(bl S).length/\TopsOk S
 | .th _::S=>TopsOk S
theorem TopsOk.drop:∀ {l:List Top} (i:Nat),TopsOk l->TopsOk (l.drop i)
 | l,0,h=>by rw [W6];exact h
 | [],i+1,h=>by rw [List.drop_nil];exact h
 | .nm n m::S,i+1,h=>by
   rw [TopsOk] at h;rw [ZU];exact TopsOk.drop i h.2
 | .th t::S,i+1,h=>by
   rw [TopsOk] at h;rw [ZU];exact TopsOk.drop i h
theorem qe:∀ l:List Top,(bl l).length<=l.length
 | []=>UR _
 | .nm n m::S=>by
   have:=qe S;rw [bl,U1,U1,Wa];omega
 | .th t::S=>by
   have:=qe S;rw [bl,U1,U1];omega
mutual
def Th.fill (f:Int->Int->Th):Th->Th
 | .knot n ks=>.knot n (fills f ks)
 | .call s k=>f s k
def fills (f:Int->Int->Th):List Th->List Th
 | []=>[]
 | t::ts=>t.fill f::fills f ts
end
theorem gw (f:Int->Int->Th):∀ ts:List Th,(fills f ts).length=ts.length
 | []=>by rw [fills]
 | t::ts=>by rw [fills,U1,U1,gw f ts]
mutual
theorem qX:∀ t:Th,t.fill Th.call=t
 | .knot n ks=>by rw [Th.fill,pp ks]
 | .call s k=>by rw [Th.fill]
theorem pp:∀ ts:List Th,fills Th.call ts=ts
 | []=>by rw [fills]
 | t::ts=>by rw [fills,qX t,pp ts]
end
def dO (f:Int->Int->Th):Th->Top
 | .knot n ks=>.nm n ks.length
 | .call s k=>.th (f s k)
theorem lC (f:Int->Int->Th):∀ (n:Nat) (ts:List Th),ao ts<=n->∀ S,bl ((walks ts).map (dO f)++S)=fills f ts++bl S/\(TopsOk S->TopsOk ((walks ts).map (dO f)++S))
 | _,[],_,S=>by rw [walks,fills];exact ⟨rfl,fun h=>h⟩
 | 0,t::ts,hn,S=>by
   have:=t.size_pos;rw [ao] at hn;omega
 | n+1,t::ts,hn,S=>by
   have hs:=t.size_eq;rw [ao] at hn;have h2:=lC f n ts (by omega) S;have e:(walks (t::ts)).map (dO f)++S=dO f t::((walks t.kids).map (dO f)++((walks ts).map (dO f)++S)):=by rw [walks,t.walk_eq];simp
   have h1:=lC f n t.kids (by omega) ((walks ts).map (dO f)++S);rw [e];cases t with
   | knot nm ks =>
     simp only [Th.kids] at h1 ⊢;refine ⟨?_,fun hS=>?_⟩
     · show bl (.nm nm ks.length::_)=_;rw [bl,h1.1,h2.1,<- gw f ks,List.take_left,List.drop_left,fills,Th.fill];rfl
     · show TopsOk (.nm nm ks.length::_);rw [TopsOk];refine ⟨?_,h1.2 (h2.2 hS)⟩;rw [h1.1,U8,gw];exact Xi _ _
   | call s k =>
     simp only [Th.kids,walks,WN,W9] at h1 ⊢;refine ⟨?_,fun hS=>?_⟩
     · show bl (.th (f s k)::_)=_;rw [bl,h2.1,fills,Th.fill];rfl
     · show TopsOk (.th (f s k)::_);rw [TopsOk];exact h2.2 hS
theorem qG (f:Int->Int->Th) (t:Th):bl (t.walk.map (dO f))=[t.fill f]/\TopsOk (t.walk.map (dO f)):=by
 have h:=lC f _ [t] (UR _) [];have e:walks [t]=t.walk:=by simp [walks]
 rw [e,VB] at h;refine ⟨?_,h.2 (by rw [TopsOk];trivial)⟩;rw [h.1,fills,fills,bl];rfl
theorem qA (x:V) (xs:List V):dw (x::xs) none (some 1)=[x]:=by
 unfold dw;rw [show (some (1:Int))=some ((1:Nat):Int) from rfl,HT.sIx_nat,HT.sIx_none,U1,ZC (by omega)];rfl
end BB
namespace PySem
open Sem (wp)
end PySem
namespace L2
open PySem PySem.Spec PyProof.Rows BB
end L2
namespace BB
open PySem L2
theorem iI {k:Nat} {A:VF} (hr:L2.Room k A):A.units+150+2<Ww:=by
 have:=hr.un;omega
def hole:Th:=.knot star []
def Th.name:Th->Vm
 | .knot n _=>n
 | .call _ _=>q
def aH:Th->Th->Bool
 | .knot n ks,.knot m us=>!(Th.knot n ks).isHole && decide (n=m) && decide (ks.length=us.length)
 | _,_=>false
mutual
def Th.sbs:Th->Th->List (Th×Th)
 | .knot n ks,r=>(.knot n ks,r)::(if aH (.knot n ks) r=true then rA ks r.kids else [])
 | .call s k,r=>[(.call s k,r)]
def rA:List Th->List Th->List (Th×Th)
 | [],_=>[]
 | k::ks,us=>match us with
   | []=>[]
   | u::us=>k.sbs u++rA ks us
end
def wks:List (Th×Th)->List (Th×Th)
 | []=>[]
 | p::ps=>p.1.sbs p.2++wks ps
theorem lw:∀ a b:List (Th×Th),wks (a++b)=wks a++wks b
 | [],b=>rfl
 | p::a,b=>by rw [Xl,wks,wks,lw a b,VN]
theorem qP:∀ ks us:List Th,wks (ks.zip us)=rA ks us
 | [],_=>by rw [Za,wks,rA]
 | k::ks,[]=>by rw [Y3,wks,rA]
 | k::ks,u::us=>by rw [XN,wks,rA,qP ks us]
theorem Th.sbs_eq (l r:Th):l.sbs r=(l,r)::(if aH l r=true then wks (l.kids.zip r.kids) else []):=by
 cases l with
 | knot n ks=>rw [Th.sbs,qP];rfl
 | call s k =>
   rw [Th.sbs];have:aH (.call s k) r=false:=by cases r <;> rfl
   rw [this];rfl
def szL:List (Th×Th)->Nat
 | []=>0
 | p::ps=>p.1.size+szL ps
theorem dE:∀ a b,szL (a++b)=szL a+szL b
 | [],b=>by simp [szL]
 | p::a,b=>by rw [Xl,szL,szL,dE a b,Zi]
theorem qI (a:List (Th×Th)):szL a.reverse=szL a:=by
 induction a with
 | nil=>rfl
 | cons x xs ih=>rw [VY,dE,ih,szL,szL,szL];omega
theorem iL:∀ ks us:List Th,szL (ks.zip us)<=ao ks
 | [],_=>by rw [Za,szL];exact Vn _
 | k::ks,[]=>by rw [Y3,szL];exact Vn _
 | k::ks,u::us=>by
   have:=iL ks us;rw [XN,szL,ao];show k.size+_<=_;omega
theorem nF:∀ a:List (Th×Th),a.length<=szL a
 | []=>Vn _
 | p::a=>by
   have:=p.1.size_pos;have:=nF a;rw [U1,szL];omega
theorem mP:∀ (n:Nat) (ps:List (Th×Th)),szL ps<=n->(wks ps).length<=szL ps
 | _,[],_=>Vn _
 | 0,p::ps,h=>by
   have:=p.1.size_pos;rw [szL] at h;omega
 | n+1,p::ps,h=>by
   have hs:=p.1.size_eq;have hz:=iL p.1.kids p.2.kids;rw [szL] at h;have h1:=mP n ps (by omega);have h2:=mP n (p.1.kids.zip p.2.kids) (by omega);rw [wks,Th.sbs_eq,szL,U8,U1];split
   · omega
   · rw [XS];omega
theorem um (l r:Th):(l.sbs r).length<=l.size:=by
 have:=mP _ [(l,r)] (UR _);rw [wks,wks,VB,szL,szL] at this;exact this
theorem mL:∀ (n:Nat) (ps:List (Th×Th)),szL ps<=n->∀ x∈wks ps,∃ p∈ps,x.1.tall<=p.1.tall/\x.2.tall<=p.2.tall/\x.1.size<=p.1.size/\x.2.size<=p.2.size
 | _,[],_,x,h=>nomatch h
 | 0,p::ps,h,x,_=>by
   have:=p.1.size_pos;rw [szL] at h;omega
 | n+1,p::ps,h,x,hx=>by
   have hs:=p.1.size_eq;have hz:=iL p.1.kids p.2.kids;rw [szL] at h;rw [wks,Th.sbs_eq,VH] at hx;rcases hx with hx | hx
   · rcases Vd.mp hx with rfl | hx
     · exact ⟨p,Vk ..,UR _,UR _,UR _,UR _⟩
     · split at hx
       · obtain ⟨y,hy,h1,h2,h3,h4⟩:=mL n _ (by omega) x hx;have m1:y.1∈p.1.kids:=(XQ hy).1;have m2:y.2∈p.2.kids:=(XQ hy).2;have t1:=cg m1;have t2:=cg m2;have z1:=aK m1;have z2:=aK m2;have e1:=p.1.tall_eq;have e2:=p.2.tall_eq;have e4:=p.2.size_eq;exact ⟨p,Vk ..,by omega,by omega,by omega,by omega⟩
       · cases hx
   · obtain ⟨y,hy,r⟩:=mL n ps (by omega) x hx;exact ⟨y,Vf _ hy,r⟩
theorem ux {l r:Th} {x:Th×Th} (h:x∈l.sbs r):x.1.tall<=l.tall/\x.2.tall<=r.tall/\x.1.size<=l.size/\x.2.size<=r.size:=by
 obtain ⟨p,hp,r⟩:=mL _ [(l,r)] (UR _) x (by rw [wks,wks,VB];exact h);rw [Vi] at hp;subst hp;exact r
mutual
def Th.lies:Th->Th->Bool
 | .knot n ks,r=>(Th.knot n ks).isHole || (aH (.knot n ks) r && bK ks r.kids)
 | .call _ _,_=>false
def bK:List Th->List Th->Bool
 | [],_=>true
 | k::ks,us=>match us with
   | []=>true
   | u::us=>k.lies u && bK ks us
end
theorem iT {l r:Th} (h:l.isHole=true):aH l r=false:=by
 cases l with
 | knot n ks =>
   cases r with
   | knot m us =>
     show (!(Th.knot n ks).isHole && decide (n=m) && decide (ks.length=us.length))=false;rw [h];rfl
   | call s k=>rfl
 | call s k=>cases h
mutual
def Th.noCall:Th->Prop
 | .knot _ ks=>cC ks
 | .call _ _=>False
def cC:List Th->Prop
 | []=>True
 | t::ts=>t.noCall/\cC ts
end
theorem bZ:∀ {ts:List Th} {t:Th},cC ts->t∈ts->t.noCall
 | [],_,_,h=>nomatch h
 | u::ts,t,hn,h=>by
   rw [cC] at hn;rcases Vd.mp h with rfl | h
   · exact hn.1
   · exact bZ hn.2 h
end BB
namespace BB
open PySem L2
def Th.wid:Th->Nat
 | .knot _ ks=>ks.length
 | .call _ _=>2
theorem bI {l r:Th} (h:aH l r=true):∃ n ks us,l=.knot n ks/\r=.knot n us/\ks.length=us.length/\l.isHole=false:=by
 cases l with
 | knot n ks =>
   cases r with
   | knot m us =>
     have h':(!(Th.knot n ks).isHole && decide (n=m) && decide (ks.length=us.length))=true:=h;simp only [WC,decide_eq_true_eq,Bool.not_eq_true'] at h';obtain ⟨⟨h1,h2⟩,h3⟩:=h';subst h2;exact ⟨n,ks,us,rfl,rfl,h3,h1⟩
   | call s k=>cases h
 | call s k=>cases r <;> cases h
theorem sJ (l r:Th) (S:List (Th×Th)):wks ((l,r)::S)=(l,r)::((if aH l r=true then wks (l.kids.zip r.kids) else [])++wks S):=by
 rw [wks,Th.sbs_eq];rfl
end BB
namespace BB
open PySem L2
theorem jG:hole.noCall:=by rw [hole,Th.noCall,cC];trivial
theorem jy:hole.isHole=true:=by
 show decide (star=star/\([]:List Th)=[])=true;exact decide_eq_true ⟨rfl,rfl⟩
theorem mF:hole.tall=1:=by rw [hole,Th.tall,bw]
theorem eA:hole.size=1:=by rw [hole,Th.size,ao]
theorem uJ:star≠q:=by decide
end BB
namespace L2
open PySem PySem.Spec PySem.SeqAt PyProof.Rows BB
open Classical in
theorem qg {ds es:List Dv} (hl:ds.length=es.length):(Vp ds.length).all (fun j=>decide (ds[j]?=es[j]?))=decide (ds=es):=by
 by_cases h:ds=es
 · subst h;rw [decide_eq_true rfl];simp
 · rw [decide_eq_false h];refine V5.mpr fun z=>h (YC fun j=>?_);by_cases hj:j<ds.length
   · exact of_decide_eq_true (Xm.mp z j (W5.mpr hj))
   · rw [Wk (by omega),Wk (by omega)]
end L2
namespace BB
open PySem L2
theorem ir {k u:Th} {ks us:List Th}:bK (k::ks) (u::us)=(k.lies u && bK ks us):=by rw [bK]
theorem pick {α β γ:Type} {F:α->β->Prop} {G:α->β->γ->Prop} (h:∀ x a,F x a->∃ c,G x a c):∀ {xs:List α} {as:List β},Vs F xs as->∃ cs:List γ,cs.length=as.length/\∀ (i:Nat) x a c,xs[i]?=some x->as[i]?=some a->cs[i]?=some c->G x a c
 | _,_,.nil=>⟨[],rfl,fun i x a c e=>by simp at e⟩
 | _,_,.cons r t=>by
   obtain ⟨c,hc⟩:=h _ _ r;obtain ⟨cs,h1,h2⟩:=pick h t;refine ⟨c::cs,by rw [U1,U1,h1],fun i x a c' e1 e2 e3=>?_⟩;cases i with
   | zero=>simp at e1 e2 e3;subst e1 e2 e3;exact hc
   | succ i=>exact h2 i x a c' (by simpa using e1) (by simpa using e2) (by simpa using e3)
theorem qU {α γ:Type} {R:α->γ->Prop} (p:α->Bool):∀ {xs:List α} {cs:List γ},xs.length=cs.length->(∀ (i:Nat) x c,xs[i]?=some x->cs[i]?=some c->R x c)->Vs R (xs.filter p) (((xs.zip cs).filter fun z=>p z.1).map (·.2))
 | [],[],_,_=>.nil
 | [],_::_,h,_=>by simp at h
 | _::_,[],h,_=>by simp at h
 | x::xs,c::cs,h,r=>by
   rw [XN,WZ,WZ];have ih:=qU p (xs:=xs) (cs:=cs) (R:=R) (by simpa using h) fun i x' c' e1 e2=>r (i+1) x' c' (by simpa using e1) (by simpa using e2);by_cases e:p x=true
   · rw [if_pos e,if_pos e];exact .cons (r 0 x c rfl rfl) ih
   · rw [if_neg e,if_neg e];exact ih
theorem P2.mapl {α β γ:Type} {R:β->γ->Prop} (f:α->β):∀ {xs:List α} {cs:List γ},Vs (fun x c=>R (f x) c) xs cs->Vs R (xs.map f) cs
 | _,_,.nil=>.nil
 | _,_,.cons r h=>.cons r (P2.mapl f h)
end BB
namespace BB
open PySem L2
def TK (K:UO) (H:Hp) (a:UQ) (xs:List V):Prop:=H a=some (.tup xs)∨∃ (o:W0) (its:Array UT) (n:Nat),K.lookup a=some o/\o.cls=.type "tuple"/\o.data=.seq its n/\its.size<=Vb/\Vals xs its.toList
theorem TK.of {K:UO} {H:Hp} {a:UQ} {xs:List V} (h:H a=some (.tup xs)):TK K H a xs:=.inl h
theorem TK.sq {K:UO} {H:Hp} {a:UQ} {xs:List V} (h:TK K H a xs):SqT K H a xs:=by
 rcases h with h | h
 · exact SqT.of h
 · exact .inr h
theorem TK.mono {K:UO} {H H':Hp} {a:UQ} {xs:List V} (h:TK K H a xs) (k:KT H H'):TK K H' a xs:=by
 rcases h with h | h
 · exact .inl (k _ _ h)
 · exact .inr h
mutual
def AtK (K:UO) (H:Hp):Th->UQ->Prop
 | .knot n ks,a=>n≠q/\∃ as:List UQ,TK K H a (.str n::as.map V.ref)/\AtsK K H ks as
 | .call s k,a=>TK K H a [.str q,.int s,.int k]
def AtsK (K:UO) (H:Hp):List Th->List UQ->Prop
 | [],as=>as=[]
 | t::ts,as=>∃ a r,as=a::r/\AtK K H t a/\AtsK K H ts r
end
mutual
theorem AtK.mono {K:UO} {H H':Hp} (k:KT H H'):∀ {t:Th} {a:UQ},AtK K H t a->AtK K H' t a
 | .knot n ks,a,h=>by
   rw [AtK] at h ⊢;obtain ⟨h0,as,h1,h2⟩:=h;exact ⟨h0,as,h1.mono k,AtsK.mono k h2⟩
 | .call s c,a,h=>by
   rw [AtK] at h ⊢;exact h.mono k
theorem AtsK.mono {K:UO} {H H':Hp} (k:KT H H'):∀ {ts:List Th} {as:List UQ},AtsK K H ts as->AtsK K H' ts as
 | [],as,h=>by rw [AtsK] at h ⊢;exact h
 | t::ts,as,h=>by
   rw [AtsK] at h ⊢;obtain ⟨a,r,e,h1,h2⟩:=h;exact ⟨a,r,e,AtK.mono k h1,AtsK.mono k h2⟩
end
theorem AtsK.nil {K:UO} {H:Hp}:AtsK K H [] []:=by rw [AtsK]
theorem AtsK.cons {K:UO} {H:Hp} {t:Th} {ts:List Th} {a:UQ} {as:List UQ} (h1:AtK K H t a) (h2:AtsK K H ts as):AtsK K H (t::ts) (a::as):=by rw [AtsK];exact ⟨a,as,rfl,h1,h2⟩
theorem AtsK.append {K:UO} {H:Hp}:∀ {ts us:List Th} {as bs:List UQ},AtsK K H ts as->AtsK K H us bs->AtsK K H (ts++us) (as++bs)
 | [],us,as,bs,h,g=>by rw [AtsK] at h;subst h;exact g
 | t::ts,us,as,bs,h,g=>by
   rw [AtsK] at h;obtain ⟨a,r,rfl,h1,h2⟩:=h;exact .cons h1 (h2.append g)
theorem AtsK.length {K:UO} {H:Hp}:∀ {ts:List Th} {as:List UQ},AtsK K H ts as->as.length=ts.length
 | [],as,h=>by rw [AtsK] at h;subst h;rfl
 | t::ts,as,h=>by
   rw [AtsK] at h;obtain ⟨a,r,rfl,h1,h2⟩:=h;rw [U1,U1,h2.length]
theorem AtsK.reverse {K:UO} {H:Hp}:∀ {ts:List Th} {as:List UQ},AtsK K H ts as->AtsK K H ts.reverse as.reverse
 | [],as,h=>by rw [AtsK] at h;subst h;exact .nil
 | t::ts,as,h=>by
   rw [AtsK] at h;obtain ⟨a,r,rfl,h1,h2⟩:=h;rw [VY,VY];exact h2.reverse.append (.cons h1 .nil)
theorem AtsK.get {K:UO} {H:Hp}:∀ {ts:List Th} {as:List UQ} {i:Nat} {a:UQ},AtsK K H ts as->as[i]?=some a->∃ t,ts[i]?=some t/\AtK K H t a
 | [],as,i,a,h,e=>by rw [AtsK] at h;subst h;simp at e
 | t::ts,as,i,a,h,e=>by
   rw [AtsK] at h;obtain ⟨b,r,rfl,h1,h2⟩:=h;cases i with
   | zero=>simp at e;subst e;exact ⟨t,rfl,h1⟩
   | succ i=>exact h2.get (i:=i) (by simpa using e)
theorem AtsK.at {K:UO} {H:Hp}:∀ {ts:List Th} {as:List UQ} {i:Nat} {t:Th},AtsK K H ts as->ts[i]?=some t->∃ a,as[i]?=some a/\AtK K H t a
 | [],as,i,a,h,e=>by simp at e
 | t::ts,as,i,a,h,e=>by
   rw [AtsK] at h;obtain ⟨b,r,rfl,h1,h2⟩:=h;cases i with
   | zero=>simp at e;subst e;exact ⟨b,rfl,h1⟩
   | succ i=>exact h2.at (i:=i) (by simpa using e)
theorem AtsK.snoc_inv {K:UO} {H:Hp} {ts:List Th} {as:List UQ} {a:UQ} (h:AtsK K H ts (as++[a])):∃ us t,ts=us++[t]/\AtsK K H us as/\AtK K H t a:=by
 have r:=h.reverse;rw [Wn,List.reverse_singleton,List.singleton_append] at r;cases e:ts.reverse with
 | nil=>rw [e,AtsK] at r;cases r
 | cons t us =>
   rw [e,AtsK] at r;obtain ⟨b,z,e1,h1,h2⟩:=r;cases e1;refine ⟨us.reverse,t,?_,?_,h1⟩
   · rw [<- VY,<- e,WK]
   · have:=h2.reverse;rw [WK] at this;exact this
mutual
def DAtK (K:UO) (H:Hp):Dv->V->Prop
 | .int i,v=>v=.int i
 | .str x,v=>v=.str x
 | .tup ds,v=>∃ a vs,v=.ref a/\TK K H a vs/\DAtsK K H ds vs
def DAtsK (K:UO) (H:Hp):List Dv->List V->Prop
 | [],vs=>vs=[]
 | d::ds,vs=>∃ v r,vs=v::r/\DAtK K H d v/\DAtsK K H ds r
end
theorem DAtsK.nil {K:UO} {H:Hp}:DAtsK K H [] []:=by rw [DAtsK]
theorem DAtsK.cons {K:UO} {H:Hp} {d:Dv} {ds:List Dv} {v:V} {vs:List V} (h1:DAtK K H d v) (h2:DAtsK K H ds vs):DAtsK K H (d::ds) (v::vs):=by rw [DAtsK];exact ⟨v,vs,rfl,h1,h2⟩
theorem DAtsK.length {K:UO} {H:Hp}:∀ {ds:List Dv} {vs:List V},DAtsK K H ds vs->vs.length=ds.length
 | [],vs,h=>by rw [DAtsK] at h;subst h;rfl
 | d::ds,vs,h=>by
   rw [DAtsK] at h;obtain ⟨v,r,rfl,h1,h2⟩:=h;rw [U1,U1,h2.length]
theorem DAtsK.at {K:UO} {H:Hp}:∀ {ds:List Dv} {vs:List V} {i:Nat} {d:Dv},DAtsK K H ds vs->ds[i]?=some d->∃ v,vs[i]?=some v/\DAtK K H d v
 | [],vs,i,d,h,e=>by simp at e
 | d0::ds,vs,i,d,h,e=>by
   rw [DAtsK] at h;obtain ⟨v,r,rfl,h1,h2⟩:=h;cases i with
   | zero=>simp at e;subst e;exact ⟨v,rfl,h1⟩
   | succ i =>
     obtain ⟨u,g1,g2⟩:=h2.at (i:=i) (by simpa using e);exact ⟨u,by simpa using g1,g2⟩
mutual
theorem AtK.dv {K:UO} {H:Hp}:∀ {t:Th} {a:UQ},AtK K H t a->DAtK K H t.dv (.ref a)
 | .knot n ks,a,h=>by
   rw [AtK] at h;obtain ⟨_,as,h1,h2⟩:=h;rw [Th.dv,DAtK];exact ⟨a,_,rfl,h1,.cons (by rw [DAtK]) (AtsK.dvs h2)⟩
 | .call s k,a,h=>by
   rw [AtK] at h;rw [Th.dv,DAtK];exact ⟨a,_,rfl,h,.cons (by rw [DAtK]) (.cons (by rw [DAtK]) (.cons (by rw [DAtK]) .nil))⟩
theorem AtsK.dvs {K:UO} {H:Hp}:∀ {ts:List Th} {as:List UQ},AtsK K H ts as->DAtsK K H (dvs ts) (as.map V.ref)
 | [],as,h=>by rw [AtsK] at h;subst h;rw [BB.dvs];exact .nil
 | t::ts,as,h=>by
   rw [AtsK] at h;obtain ⟨a,r,rfl,h1,h2⟩:=h;rw [BB.dvs,VJ];exact .cons (AtK.dv h1) (AtsK.dvs h2)
end
mutual
theorem At.k {K:UO} {H:Hp}:∀ {t:Th} {a:UQ},At H t a->AtK K H t a
 | .knot n ks,a,h=>by
   rw [At] at h;rw [AtK];obtain ⟨h0,as,h1,h2⟩:=h;exact ⟨h0,as,.of h1,Ats.k h2⟩
 | .call s c,a,h=>by
   rw [At] at h;rw [AtK];exact .of h
theorem Ats.k {K:UO} {H:Hp}:∀ {ts:List Th} {as:List UQ},Ats H ts as->AtsK K H ts as
 | [],as,h=>by rw [Ats] at h;rw [AtsK];exact h
 | t::ts,as,h=>by
   rw [Ats] at h;rw [AtsK];obtain ⟨a,r,e,h1,h2⟩:=h;exact ⟨a,r,e,At.k h1,Ats.k h2⟩
end
theorem AtK.row {K:UO} {H:Hp} {t:Th} {a:UQ} (h:AtK K H t a):∃ r,TK K H a (.str t.name::r)/\r.length=t.wid:=by
 cases t with
 | knot n ks =>
   rw [AtK] at h;obtain ⟨_,as,h1,h2⟩:=h;exact ⟨_,h1,by rw [UL,h2.length];rfl⟩
 | call s k =>
   rw [AtK] at h;exact ⟨_,h,rfl⟩
theorem og {K:UO} {H:Hp} {l:Th} {x:UQ} (h:AtK K H l x) (r:Th):aH l r=(l.isKnot && (decide (l.name=r.name) && decide (l.wid=r.wid))):=by
 cases l with
 | knot n ks =>
   rw [AtK] at h;cases r with
   | knot m us =>
     show (!(Th.knot n ks).isHole && decide (n=m) && decide (ks.length=us.length))=(!false && !(Th.knot n ks).isHole && (decide (n=m) && decide (ks.length=us.length)));rw [Bool.and_assoc];rfl
   | call s k =>
     show false=(_ && (decide (n=q) && _));rw [decide_eq_false h.1];simp
 | call s k=>cases r <;> rfl
theorem xq {K:UO} {H:Hp} {a b:UQ} {xs ys:List V} {Q:VK} (ha:TK K H a xs) (hb:TK K H b ys) (hz:xs.length+ys.length<=1000000) (q:∀ p H',L2.Same H H'->TK K H' p (xs++ys)->Q (.ref p) H'):mo K (.ref a) (.ref b) H Q:=by
 refine ⟨a,b,xs,ys,rfl,rfl,ha.sq,hb.sq,ak hz,fun e=>?_,fun _ e=>?_,fun _ _ p hp=>?_⟩
 · exact q b H (.refl _) (by rw [e];exact hb)
 · exact q a H (.refl _) (by rw [e,VB];exact ha)
 · exact q p _ (ad hp _) (.of ab)
def PPK (K:UO) (H:Hp) (p:Th×Th) (a:UQ):Prop:=∃ x y,H a=some (.tup [.ref x,.ref y])/\AtK K H p.1 x/\AtK K H p.2 y
theorem PPK.mono {K:UO} {H H':Hp} (k:KT H H') {p:Th×Th} {a:UQ} (h:PPK K H p a):PPK K H' p a:=by
 obtain ⟨x,y,h1,h2,h3⟩:=h;exact ⟨x,y,k _ _ h1,h2.mono k,h3.mono k⟩
theorem dk {K:UO} {H H':Hp} (k:KT H H') {ps:List (Th×Th)} {as:List UQ} (h:Vs (PPK K H) ps as):Vs (PPK K H') ps as:=P2.mp (fun _ _ e=>PPK.mono k e) h
theorem pG {K:UO} {H:Hp}:∀ {ks us:List Th} {as bs ts:List UQ},AtsK K H ks as->AtsK K H us bs->Vs (fun (p:V×V) t=>H t=some (.tup [p.1,p.2])) ((as.map V.ref).zip (bs.map V.ref)) ts->Vs (PPK K H) (ks.zip us) ts
 | [],us,as,bs,ts,h1,h2,h=>by
   rw [AtsK] at h1;subst h1;rw [WN,Za] at h;cases h;rw [Za];exact .nil
 | k::ks,[],as,bs,ts,h1,h2,h=>by
   rw [AtsK] at h2;subst h2;rw [WN,Y3] at h;cases h;rw [Y3];exact .nil
 | k::ks,u::us,as,bs,ts,h1,h2,h=>by
   rw [AtsK] at h1 h2;obtain ⟨a,ar,rfl,a1,a2⟩:=h1;obtain ⟨b,br,rfl,b1,b2⟩:=h2;rw [VJ,VJ,XN] at h;cases h with
   | cons r h =>
     rw [XN];exact .cons ⟨a,b,r,a1,b1⟩ (pG a2 b2 h)
def TopAtK (K:UO) (H:Hp):Top->UQ->Prop
 | .nm n m,a=>∃ ta,H a=some (.tup [.ref ta,.int (m:Nat)])/\n≠q/\TK K H ta [.str n]
 | .th t,a=>∃ ta,H a=some (.tup [.ref ta,.int 0])/\AtK K H t ta
theorem TopAtK.mono {K:UO} {H H':Hp} (k:KT H H'):∀ {x:Top} {a:UQ},TopAtK K H x a->TopAtK K H' x a
 | .nm n m,a,h=>by
   obtain ⟨ta,h1,h2,h3⟩:=h;exact ⟨ta,k _ _ h1,h2,h3.mono k⟩
 | .th t,a,h=>by
   obtain ⟨ta,h1,h2⟩:=h;exact ⟨ta,k _ _ h1,h2.mono k⟩
theorem dI {K:UO} {H H':Hp} (k:KT H H') {l:List Top} {as:List UQ} (h:Vs (TopAtK K H) l as):Vs (TopAtK K H') l as:=P2.mp (fun _ _ e=>TopAtK.mono k e) h
theorem AtK.whole {K:UO} {H:Hp} {t:Th} {a:UQ} (h:AtK K H t a):∃ xs,TK K H a xs/\xs.length<=t.size+2/\∀ (H':Hp) (p:UQ),KT H H'->TK K H' p xs->AtK K H' t p:=by
 cases t with
 | knot n ks =>
   rw [AtK] at h;obtain ⟨h0,as,h1,h2⟩:=h;refine ⟨_,h1,?_,fun H' p kt hp=>?_⟩
   · have:=h2.length;have:=bU ks;rw [U1,UL,Th.size];omega
   · rw [AtK];exact ⟨h0,as,hp,h2.mono kt⟩
 | call s k =>
   rw [AtK] at h;refine ⟨_,h,by rw [Th.size];exact UR _,fun H' p kt hp=>?_⟩;rw [AtK];exact hp
theorem sG {K:UO} {H:Hp} {a:UQ} (h:TK K H a [.str star]):AtK K H hole a:=by
 rw [hole,AtK];exact ⟨uJ,[],h,by rw [AtsK]⟩
mutual
theorem DAtK.inj {X:Cx} {pins:List (UQ×W0)} {σ:St} {H:Hp} {s:UY} (I:Inv X pins σ H s):∀ {d e:Dv} {v:V},DAtK X.K H d v->DAtK X.K H e v->d=e
 | .int i,.int j,v,h,g=>by rw [DAtK] at h;rw [DAtK] at g;rw [h] at g;cases g;rfl
 | .int i,.str y,v,h,g=>by rw [DAtK] at h;rw [DAtK] at g;rw [h] at g;cases g
 | .int i,.tup es,v,h,g=>by rw [DAtK] at h;rw [DAtK] at g;obtain ⟨a,vs,e,_⟩:=g;rw [h] at e;cases e
 | .str x,.int j,v,h,g=>by rw [DAtK] at h;rw [DAtK] at g;rw [h] at g;cases g
 | .str x,.str y,v,h,g=>by rw [DAtK] at h;rw [DAtK] at g;rw [h] at g;cases g;rfl
 | .str x,.tup es,v,h,g=>by rw [DAtK] at h;rw [DAtK] at g;obtain ⟨a,vs,e,_⟩:=g;rw [h] at e;cases e
 | .tup ds,.int j,v,h,g=>by rw [DAtK] at h;rw [DAtK] at g;obtain ⟨a,vs,e,_⟩:=h;rw [e] at g;cases g
 | .tup ds,.str y,v,h,g=>by rw [DAtK] at h;rw [DAtK] at g;obtain ⟨a,vs,e,_⟩:=h;rw [e] at g;cases g
 | .tup ds,.tup es,v,h,g=>by
   rw [DAtK] at h;rw [DAtK] at g;obtain ⟨a,vs,e1,h1,h2⟩:=h;obtain ⟨b,ws,e2,g1,g2⟩:=g;rw [e1] at e2;cases e2;have e3:=I.tuple_inj h1.sq g1.sq;subst e3;rw [DAtsK.inj I h2 g2]
theorem DAtsK.inj {X:Cx} {pins:List (UQ×W0)} {σ:St} {H:Hp} {s:UY} (I:Inv X pins σ H s):∀ {ds es:List Dv} {vs:List V},DAtsK X.K H ds vs->DAtsK X.K H es vs->ds=es
 | [],[],vs,h,g=>rfl
 | [],e::es,vs,h,g=>by rw [DAtsK] at h;rw [DAtsK] at g;obtain ⟨v,r,z,_⟩:=g;rw [h] at z;cases z
 | d::ds,[],vs,h,g=>by rw [DAtsK] at h;rw [DAtsK] at g;obtain ⟨v,r,z,_⟩:=h;rw [g] at z;cases z
 | d::ds,e::es,vs,h,g=>by
   rw [DAtsK] at h;rw [DAtsK] at g;obtain ⟨v,r,z,h1,h2⟩:=h;obtain ⟨v',r',z',g1,g2⟩:=g;rw [z] at z';cases z';rw [DAtK.inj I h1 g1,DAtsK.inj I h2 g2]
end
end BB
namespace L2
open PySem PySem.Spec PySem.SeqAt PyProof.Rows BB
open Classical in
theorem mh {X:Cx} {pins:List (UQ×W0)} {σ:St} {H:Hp} {s:UY} (I:Inv X pins σ H s) {ds es:List Dv} {a b:UQ} {vs ws:List V} {A:VF} (ha:SqT X.K H a vs) (hb:SqT X.K H b ws) (Ak:DAtsK X.K H ds vs) (yE:DAtsK X.K H es ws) (hu:A.units<Ww)
 (ih:∀ (j:Nat) (d e:Dv) (x y:V) (u v:UT),ds[j]?=some d->DAtK X.K H d x->DAtK X.K H e y->RelV x u->RelV y v->EqAt A.in1 s u v (decide (d=e))):RcAt A s (.ref a) (.ref b) (decide (Dv.tup ds=Dv.tup es)):=by
 obtain ⟨its,r1,p1,_⟩:=I.tuple ha;obtain ⟨xW,r2,p2,_⟩:=I.tuple hb;have l1:its.length=ds.length:=by rw [<- r1.length,Ak.length]
 have l2:xW.length=es.length:=by rw [<- r2.length,yE.length]
 have Cq:RcAt A s (.ref a) (.ref b) ((Vp (min its.toArray.size xW.toArray.size)).all (fun j=>decide (ds[j]?=es[j]?)) && its.toArray.size == xW.toArray.size):=by
  refine RcAt.tuples (show s.heap.IsTuple a its.toArray from p1) (show s.heap.IsTuple b xW.toArray from p2) hu fun j h1 h2=>?_;have AJ:j<ds.length:=by rw [<- l1];simpa using h1
  have Am:j<es.length:=by rw [<- l2];simpa using h2
  have e1:ds[j]?=some ds[j]:=UN AJ;have e2:es[j]?=some es[j]:=UN Am;obtain ⟨x',Cf,dx⟩:=Ak.at e1;obtain ⟨y',Au,dy⟩:=yE.at e2;obtain ⟨u',zo,Cr⟩:=r1.get Cf;obtain ⟨v',yL,AB⟩:=r2.get Au;have e3:decide (ds[j]?=es[j]?)=decide (ds[j]=es[j]):=by rw [e1,e2];simp
  have e4:its.toArray[j]=u':=by
   rw [UN (by rw [l1];exact AJ)] at zo;simpa using zo
  have e5:xW.toArray[j]=v':=by
   rw [UN (by rw [l2];exact Am)] at yL;simpa using yL
  rw [e3,e4,e5];exact ih j ds[j] es[j] x' y' u' v' e1 dx dy Cr AB
 have e:decide (Dv.tup ds=Dv.tup es)=((Vp (min its.toArray.size xW.toArray.size)).all (fun j=>decide (ds[j]?=es[j]?)) && its.toArray.size == xW.toArray.size):=by
  rw [U0,U0,l1,l2];by_cases h:ds=es
  · subst h;rw [decide_eq_true rfl];symm;simp
  · rw [decide_eq_false (fun z=>h (Dv.tup.inj z))];symm;by_cases hl:ds.length=es.length
    · rw [hl,Zv]
      have:¬ ((Vp es.length).all (fun j=>decide (ds[j]?=es[j]?)))=true:=by
       intro z;apply h;apply YC;intro j;by_cases hj:j<es.length
       · have:=Xm.mp z j (W5.mpr hj);exact of_decide_eq_true this
       · rw [Wk (by omega),Wk (by omega)]
      rw [V5.mpr this];rfl
    · have:(ds.length == es.length)=false:=by simpa using hl
      rw [this,Y8]
 rw [e];exact Cq
open Classical in
theorem lD {X:Cx} {pins:List (UQ×W0)} {σ:St} {H:Hp} {s:UY} (I:Inv X pins σ H s):∀ (n:Nat) (d e:Dv),d.tot<=n->∀ (x y:V) (u v:UT) (A:VF),DAtK X.K H d x->DAtK X.K H e y->RelV x u->RelV y v->A.units+d.deep<Ww->EqAt A s u v (decide (d=e))
 | 0,d,e,hn,x,y,u,v,A,hd,he,ru,rv,hu=>by have:=d.tot_pos;omega
 | n+1,.int i,.int j,hn,x,y,u,v,A,hd,he,ru,rv,hu=>by
   rw [DAtK] at hd;rw [DAtK] at he;subst hd he;obtain ⟨t,rfl⟩:=ru;obtain ⟨t',rfl⟩:=rv
   have e:decide (Dv.int i=Dv.int j)=(i == j):=by
    by_cases h:i=j
    · subst h;simp
    · rw [decide_eq_false (fun z=>h (Dv.int.inj z))];simp [h]
   rw [e];exact EqAt.int_int i t j t'
 | n+1,.int i,.str b,hn,x,y,u,v,A,hd,he,ru,rv,hu=>by
   rw [DAtK] at hd;rw [DAtK] at he;subst hd he;obtain ⟨t,rfl⟩:=ru;obtain ⟨t',rfl⟩:=rv;rw [decide_eq_false (fun z=>by cases z)];exact EqAt.int_str i t b t'
 | n+1,.int i,.tup es,hn,x,y,u,v,A,hd,he,ru,rv,hu=>by
   rw [DAtK] at hd;rw [DAtK] at he;obtain ⟨a,vs,rfl,ha,_⟩:=he;subst hd;obtain ⟨t,rfl⟩:=ru;cases rv;obtain ⟨its,_,p,_⟩:=I.tuple (ha.sq);rw [decide_eq_false (fun z=>by cases z)];exact EqAt.int_tuple i t (show s.heap.IsTuple a its.toArray from p) (by omega)
 | n+1,.str b,.int j,hn,x,y,u,v,A,hd,he,ru,rv,hu=>by
   rw [DAtK] at hd;rw [DAtK] at he;subst hd he;obtain ⟨t,rfl⟩:=ru;obtain ⟨t',rfl⟩:=rv;rw [decide_eq_false (fun z=>by cases z)];exact EqAt.str_int b t j t'
 | n+1,.str b,.str c,hn,x,y,u,v,A,hd,he,ru,rv,hu=>by
   rw [DAtK] at hd;rw [DAtK] at he;subst hd he;obtain ⟨t,rfl⟩:=ru;obtain ⟨t',rfl⟩:=rv
   have e:decide (Dv.str b=Dv.str c)=(b == c):=by
    by_cases h:b=c
    · subst h;simp
    · rw [decide_eq_false (fun z=>h (Dv.str.inj z))];simp [h]
   rw [e];exact EqAt.str_str b t c t'
 | n+1,.str b,.tup es,hn,x,y,u,v,A,hd,he,ru,rv,hu=>by
   rw [DAtK] at hd;rw [DAtK] at he;obtain ⟨a,vs,rfl,ha,_⟩:=he;subst hd;obtain ⟨t,rfl⟩:=ru;cases rv;obtain ⟨its,_,p,_⟩:=I.tuple (ha.sq);rw [decide_eq_false (fun z=>by cases z)];exact EqAt.str_tuple b t (show s.heap.IsTuple a its.toArray from p) (by omega)
 | n+1,.tup ds,.int j,hn,x,y,u,v,A,hd,he,ru,rv,hu=>by
   rw [DAtK] at hd;rw [DAtK] at he;obtain ⟨a,vs,rfl,ha,_⟩:=hd;subst he;cases ru;obtain ⟨t,rfl⟩:=rv;obtain ⟨its,_,p,_⟩:=I.tuple (ha.sq);rw [decide_eq_false (fun z=>by cases z)];exact EqAt.tuple_int j t (show s.heap.IsTuple a its.toArray from p) (by omega)
 | n+1,.tup ds,.str b,hn,x,y,u,v,A,hd,he,ru,rv,hu=>by
   rw [DAtK] at hd;rw [DAtK] at he;obtain ⟨a,vs,rfl,ha,_⟩:=hd;subst he;cases ru;obtain ⟨t,rfl⟩:=rv;obtain ⟨its,_,p,_⟩:=I.tuple (ha.sq);rw [decide_eq_false (fun z=>by cases z)];exact EqAt.tuple_str b t (show s.heap.IsTuple a its.toArray from p) (by omega)
 | n+1,.tup ds,.tup es,hn,x,y,u,v,A,hd,he,ru,rv,hu=>by
   have B0:=hd;have Ln:=he;rw [DAtK] at hd;rw [DAtK] at he;obtain ⟨a,vs,rfl,ha,Ak⟩:=hd;obtain ⟨b,ws,rfl,hb,yE⟩:=he;cases ru;cases rv;by_cases zN:a=b
   · subst zN;rw [decide_eq_true (DAtK.inj I B0 Ln)];exact EqAt.same _
   rw [Dv.tot] at hn;rw [Dv.deep] at hu;refine EqAt.of_refs zN (mh I ha.sq hb.sq Ak yE (by omega) fun j d e x' y' u' v' e1 dx dy Cr AB=>?_);have q1:=nB e1;have q2:=dF e1;refine lD I n d e (by omega) x' y' u' v' A.in1 dx dy Cr AB ?_;show A.units+1+_<Ww;omega
def vh (K:UO) (B:Nat):R2:=fun x y H Q=>∃ a b vs ws ds es,x=.ref a/\y=.ref b/\SqT K H a vs/\SqT K H b ws/\DAtsK K H ds vs/\DAtsK K H es ws/\bN ds<=B/\∀ b:Bool,(b=true↔ds=es)->Q (.bl b) H
open Classical in
theorem uD {X:Cx} {B:Nat} (hu:X.A.units+B+2<Ww):OpR X (X8 .Eq) (vh X.K B):=by
 intro pins s σ H x y v u Q I rx ry h;obtain ⟨a,b,vs,ws,ds,es,rfl,rfl,ha,hb,Ak,yE,hB,q⟩:=h;cases rx;cases ry
 have r:RcAt X.A s (.ref a) (.ref b) (decide (Dv.tup ds=Dv.tup es)):=mh I ha hb Ak yE (by omega) fun j d e x' y' u' v' e1 dx dy Cr AB=>by
  have q2:=dF e1;refine lD I _ d e (UR _) x' y' u' v' X.A.in1 dx dy Cr AB ?_;show X.A.units+1+_<Ww;omega
 refine r X.prog X.w X.xe _ ⟨.bl (decide (Dv.tup ds=Dv.tup es)),H,I,rfl,q _ ?_⟩;constructor
 · intro z;exact Dv.tup.inj (of_decide_eq_true z)
 · intro z;rw [z];exact decide_eq_true rfl
def xO (K:UO):V->Option Int->Option Int->Hp->VK->Prop:=fun x lo hi H Q=>∃ a xs,x=.ref a/\TK K H a xs/\∀ p H',Same H H'->TK K H' p (dw xs lo hi)->Q (.ref p) H'
theorem qQ {X:Cx}:SlR X (xO X.K):=by
 intro pins s σ H x v vl vu lo hi sl Q I rx hs pl pu h;obtain ⟨a,xs,rfl,ha,q⟩:=h;by_cases hw:HT.sIx xs.length 0 lo=0/\HT.sIx xs.length xs.length hi=xs.length
 · obtain ⟨its,r,p1,hz⟩:=I.tuple ha.sq;have hl:=r.length;cases rx
   have e:dw xs lo hi=xs:=by
    unfold dw;rw [hw.1,hw.2,W6,Nat.sub_zero,WY]
   refine ⟨"tuple",_,VG.lookup,p1.typeIs,HT.getItem_tuple_whole p1 hs pl pu (by rw [U0,<- hl];exact hw) ⟨.ref a,H,I,rfl,q a H (.refl _) (by rw [e];exact ha)⟩⟩
 · exact ff pins s σ H _ v vl vu lo hi sl Q I rx hs pl pu ⟨a,xs,rfl,ha.sq,hw,fun p hp=>q p _ (ad hp _) (.of ab)⟩
end L2
namespace BB
open PySem L2
mutual
def Th.com:Th->Th->Th
 | .knot n ks,r=>if aH (.knot n ks) r=true then .knot n (dg ks r.kids) else hole
 | .call _ _,_=>hole
def dg:List Th->List Th->List Th
 | [],_=>[]
 | k::ks,us=>match us with
   | []=>[]
   | u::us=>k.com u::dg ks us
end
theorem n5:∀ ks us:List Th,dg ks us=(ks.zip us).map fun p=>p.1.com p.2
 | [],_=>by rw [dg];rfl
 | k::ks,[]=>by rw [dg];rfl
 | k::ks,u::us=>by rw [dg,n5 ks us];rfl
theorem iw (l r:Th):l.com r=if aH l r=true then .knot l.name ((l.kids.zip r.kids).map fun p=>p.1.com p.2) else hole:=by
 cases l with
 | knot n ks=>rw [Th.com,n5];rfl
 | call s k =>
   rw [Th.com];have:aH (.call s k) r=false:=by cases r <;> rfl
   rw [this];rfl
def topC (p:Th×Th):Top:=if aH p.1 p.2=true then .nm p.1.name p.1.kids.length else .th hole
theorem qk:∀ (n:Nat) (ps:List (Th×Th)),szL ps<=n->∀ S,bl ((wks ps).map topC++S)=ps.map (fun p=>p.1.com p.2)++bl S/\(TopsOk S->TopsOk ((wks ps).map topC++S))
 | _,[],_,S=>⟨rfl,fun h=>h⟩
 | 0,p::ps,h,S=>by
   have:=p.1.size_pos;rw [szL] at h;omega
 | n+1,p::ps,h,S=>by
   have hs:=p.1.size_eq;have hz:=iL p.1.kids p.2.kids;rw [szL] at h;have i2:=qk n ps (by omega) S;rw [wks,Th.sbs_eq,U5,VN,VJ,Xl];have hc:(p::ps).map (fun p=>p.1.com p.2)=p.1.com p.2::ps.map (fun p=>p.1.com p.2):=rfl;by_cases y8:aH p.1 p.2=true
   · have i1:=qk n (p.1.kids.zip p.2.kids) (by omega) ((wks ps).map topC++S);obtain ⟨nm,ks,us,e1,e2,e3,_⟩:=bI y8
     have hl:((p.1.kids.zip p.2.kids).map fun p=>p.1.com p.2).length=p.1.kids.length:=by
      rw [UL,XR,e1,e2];simp only [Th.kids];omega
     have ht:topC (p.1,p.2)=.nm p.1.name p.1.kids.length:=by unfold topC;rw [if_pos y8]
     rw [if_pos y8,ht];refine ⟨?_,fun hS=>?_⟩
     · rw [bl,i1.1,i2.1,hc,iw,if_pos y8,<- hl,List.take_left,List.drop_left];rfl
     · rw [TopsOk];exact ⟨by rw [i1.1,U8,hl];exact Xi _ _,i1.2 (i2.2 hS)⟩
   · have ht:topC (p.1,p.2)=.th hole:=by unfold topC;rw [if_neg y8]
     rw [if_neg y8,ht,WN,W9];refine ⟨?_,fun hS=>?_⟩
     · rw [bl,i2.1,hc,iw,if_neg y8];rfl
     · rw [TopsOk];exact i2.2 hS
theorem vS (l r:Th):bl ((l.sbs r).map topC)=[l.com r]/\TopsOk ((l.sbs r).map topC):=by
 have h:=qk _ [(l,r)] (UR _) [];rw [wks,wks,VB,VB] at h;refine ⟨?_,h.2 (by rw [TopsOk];trivial)⟩;rw [h.1,bl];rfl
theorem cM (l r:Th):aH l r=aH r l:=by
 cases l with
 | knot n ks =>
   cases r with
   | knot m us =>
     show (!decide (n=star/\ks=[]) && decide (n=m) && decide (ks.length=us.length))=(!decide (m=star/\us=[]) && decide (m=n) && decide (us.length=ks.length));by_cases h1:n=m
     · subst h1;by_cases h2:ks.length=us.length
       · have h3:(n=star/\ks=[])↔(n=star/\us=[]):=by
          constructor
          · rintro ⟨a,b⟩;rw [b] at h2;exact ⟨a,Wc.mp h2.symm⟩
          · rintro ⟨a,b⟩;rw [b] at h2;exact ⟨a,Wc.mp h2⟩
         rw [decide_eq_decide.mpr h3,h2]
       · have Am:¬ us.length=ks.length:=fun e=>h2 e.symm;simp [h2,Am]
     · have AJ:¬ m=n:=fun e=>h1 e.symm;simp [h1,AJ]
   | call s k=>rfl
 | call s k=>cases r <;> rfl
mutual
theorem pF:∀ l r:Th,(l.com r).size<=l.size/\(l.com r).tall<=l.tall
 | .knot n ks,r=>by
   have h:=me ks r.kids;rw [Th.com];split
   · rw [Th.size,Th.size,Th.tall,Th.tall];omega
   · have:=(Th.knot n ks).size_pos;have:=(Th.knot n ks).tall_eq;rw [eA,mF];omega
 | .call s k,r=>by rw [Th.com,eA,mF,Th.size,Th.tall];omega
theorem me:∀ ks us:List Th,ao (dg ks us)<=ao ks/\bw (dg ks us)<=bw ks
 | [],us=>by rw [dg,ao,bw];exact ⟨UR _,UR _⟩
 | k::ks,[]=>by rw [dg,ao,bw];exact ⟨Vn _,Vn _⟩
 | k::ks,u::us=>by
   have h1:=pF k u;have h2:=me ks us;rw [dg,ao,ao,bw,bw];omega
end
mutual
theorem lA:∀ l r:Th,(l.com r).noCall
 | .knot n ks,r=>by
   rw [Th.com];split
   · rw [Th.noCall];exact ju ks r.kids
   · exact jG
 | .call s k,r=>by rw [Th.com];exact jG
theorem ju:∀ ks us:List Th,cC (dg ks us)
 | [],us=>by rw [dg,cC];trivial
 | k::ks,[]=>by rw [dg,cC];trivial
 | k::ks,u::us=>by rw [dg,cC];exact ⟨lA k u,ju ks us⟩
end
end BB
namespace BB
open PySem L2
theorem TK.const {K:UO} {H:Hp} {a:UQ} {xs:List V} (h:∀ H:Hp,SqT K H a xs):TK K H a xs:=by
 rcases h (fun _=>none) with (h | ⟨o,h⟩) | h
 · cases h
 · cases h
 · exact .inr h
theorem uO {K:UO} {H:Hp} {t:Th} {a h0:UQ} {Q:VK} (hA:AtK K H t a) (e0:TK K H h0 [.str star]) (yv:t.tall<=150) (k:Q (.bl t.isHole) H):vh K 150 (.ref a) (.ref h0) H Q:=by
 cases t with
 | knot n ks =>
   rw [AtK] at hA;obtain ⟨hn,as,h1,h2⟩:=hA;rw [Th.tall] at yv;have hd:=iN ks;refine ⟨a,h0,_,_,.str n::dvs ks,[.str star],rfl,rfl,h1.sq,e0.sq,.cons (by rw [DAtK]) h2.dvs,.cons (by rw [DAtK]) .nil,by rw [bN,Dv.deep];omega,fun b hb=>?_⟩
   have e:b=(Th.knot n ks).isHole:=by
    rw [Yx,hb];show _↔decide (n=star/\ks=[])=true;rw [decide_eq_true_iff];constructor
    · intro z;have z1:=Z2 z;refine ⟨Dv.str.inj z1.1,?_⟩;cases ks with
      | nil=>rfl
      | cons x xs=>rw [dvs] at z1;cases z1.2
    · rintro ⟨z1,z2⟩;rw [z1,z2,dvs]
   rw [e];exact k
 | call sn kn =>
   rw [AtK] at hA;refine ⟨a,h0,_,_,[.str q,.int sn,.int kn],[.str star],rfl,rfl,hA.sq,e0.sq,.cons (by rw [DAtK]) (.cons (by rw [DAtK]) (.cons (by rw [DAtK]) .nil)),.cons (by rw [DAtK]) .nil,by simp [bN,Dv.deep],fun b hb=>?_⟩
   have e:b=(Th.call sn kn).isHole:=by
    show b=false;cases b with
    | false=>rfl
    | true=>exact absurd (hb.mp rfl) (by simp)
   rw [e];exact k
end BB
namespace L2
open PySem PySem.Spec PyProof.Rows BB
def wx (K:UO) (T:String):List V->Hp->VK->Prop:=fun xs H Q=>wP K T xs H Q∨∃ a ys b,xs=[.ref a,.ty T]/\SqT K H a ys/\X4 K (.type "tuple") (.type T)=some b/\Q (.bl b) H
theorem rP {X:Cx} {T:String}:fJ X (.builtin "isinstance") (wx X.K T):=by
 intro pins s σ H xs us Q I r h;rcases h with h | ⟨a,ys,b,rfl,hq,e,q⟩
 · exact i5 pins s σ H xs us Q I r h
 · obtain ⟨u1,u2,rfl,r1,r2⟩:=vals2 r;cases r1;cases r2;obtain ⟨its,rv,⟨o,h1,h2,_⟩,hz⟩:=I.tuple hq;exact Wz PySem.W.kitx_tuple I.kIn ⟨o,h1,h2⟩ e (fun z=>nomatch z) fun tk=>⟨.bl b,H,I.tok _,rfl,q⟩
end L2
namespace BB
open PySem L2
theorem im {f:Th} (h:f.isHole=false):f.lies hole=false:=by
 cases f with
 | knot n ks =>
   rw [Th.lies,h]
   have:aH (.knot n ks) hole=false:=by
    rw [cM];exact iT jy
   rw [this];rfl
 | call s k=>rw [Th.lies]
theorem d4 {f a b:Th} (h1:aH f a=true) (h2:aH f b=true):aH a b=true:=by
 obtain ⟨n,ks,us,rfl,rfl,e3,hh⟩:=bI h1;obtain ⟨n',OF,vs,e1,rfl,e4,_⟩:=bI h2;cases e1
 have hn:(Th.knot n us).isHole=false:=by
  cases hz:(Th.knot n us).isHole with
  | false=>rfl
  | true =>
    rw [cM,iT hz] at h1;cases h1
 show (!(Th.knot n us).isHole && decide (n=n) && decide (us.length=vs.length))=true;rw [hn];have:us.length=vs.length:=by omega
 simp [this]
theorem lR {f a b:Th} (h:aH a b=true):aH f a=aH f b:=by
 cases h1:aH f a with
 | true =>
   cases h2:aH f b with
   | true=>rfl
   | false =>
     have:=d4 (f:=a) (a:=f) (b:=b) (by rw [cM];exact h1) h;rw [h2] at this;cases this
 | false =>
   cases h2:aH f b with
   | false=>rfl
   | true =>
     have:=d4 (f:=b) (a:=f) (b:=a) (by rw [cM];exact h2) (by rw [cM];exact h);rw [h1] at this;cases this
theorem oV {n:Vm} {us vs:List Th} (f:Th) (h:us.length=vs.length):aH f (.knot n us)=aH f (.knot n vs):=by
 cases f with
 | knot m ks=>show (_ && _ && decide (ks.length=us.length))=(_ && _ && decide (ks.length=vs.length));rw [h]
 | call s k=>rfl
theorem om:∀ ks us:List Th,(dg ks us).length=min ks.length us.length
 | [],us=>by rw [dg];simp
 | k::ks,[]=>by rw [dg];simp
 | k::ks,u::us=>by rw [dg,U1,om ks us,U1,U1];omega
mutual
theorem pD:∀ f a b:Th,f.lies (a.com b)=(f.lies a && f.lies b)
 | .call s k,a,b=>by rw [Th.lies,Th.lies,Th.lies];rfl
 | .knot n ks,a,b=>by
   cases hh:(Th.knot n ks).isHole with
   | true =>
     rw [Th.lies,Th.lies,Th.lies,hh];rfl
   | false =>
     by_cases zN:aH a b=true
     · obtain ⟨m,us,vs,rfl,rfl,e3,_⟩:=bI zN;have hc:(Th.knot m us).com (.knot m vs)=.knot m (dg us vs):=by rw [Th.com,if_pos zN];rfl
       have hl:(dg us vs).length=us.length:=by rw [om];omega
       rw [hc,Th.lies,Th.lies,Th.lies,hh,Yu,Yu,Yu,oV (.knot n ks) hl,<- lR (f:=.knot n ks) zN];cases hs:aH (.knot n ks) (.knot m us) with
       | false=>rfl
       | true =>
         show (true && bK ks (dg us vs))=((true && bK ks us) && (true && bK ks vs));rw [Bool.true_and,Bool.true_and,Bool.true_and];obtain ⟨_,_,_,e1,e2,e4,_⟩:=bI hs;cases e1;cases e2;exact kH ks us vs e4 (by omega)
     · have hc:a.com b=hole:=by rw [iw,if_neg zN]
       rw [hc,im hh];cases h1:(Th.knot n ks).lies a with
       | false=>rfl
       | true =>
         cases h2:(Th.knot n ks).lies b with
         | false=>rfl
         | true =>
           rw [Th.lies,hh,Yu,WC] at h1 h2;exact absurd (d4 h1.1 h2.1) zN
theorem kH:∀ ks us vs:List Th,ks.length=us.length->ks.length=vs.length->bK ks (dg us vs)=(bK ks us && bK ks vs)
 | [],us,vs,_,_=>by rw [bK,bK,bK];rfl
 | k::ks,[],vs,h,_=>by simp at h
 | k::ks,u::us,[],_,h=>by simp at h
 | k::ks,u::us,v::vs,h1,h2=>by
   rw [dg,ir,ir,ir,pD k u v,kH ks us vs (by simpa using h1) (by simpa using h2)];cases k.lies u <;> cases k.lies v <;> cases bK ks us <;> cases bK ks vs <;> rfl
end
end BB
namespace BB
open PySem L2
def PAtK (K:UO) (H:Hp) (p:List Int×Th) (a:UQ):Prop:=∃ pa ta,H a=some (.tup [.ref pa,.ref ta])/\H pa=some (.tup (p.1.map V.int))/\AtK K H p.2 ta
def PsAtK (K:UO) (H:Hp) (ps:List (List Int×Th)) (as:List UQ):Prop:=Vs (PAtK K H) ps as
theorem PAtK.mono {K:UO} {H H':Hp} (k:KT H H') {p:List Int×Th} {a:UQ} (h:PAtK K H p a):PAtK K H' p a:=by
 obtain ⟨pa,ta,h1,h2,h3⟩:=h;exact ⟨pa,ta,k _ _ h1,k _ _ h2,h3.mono k⟩
theorem PsAtK.mono {K:UO} {H H':Hp} (k:KT H H') {ps:List (List Int×Th)} {as:List UQ} (h:PsAtK K H ps as):PsAtK K H' ps as:=P2.mp (fun _ _ e=>PAtK.mono k e) h
theorem uM {xs:List V} {n:Nat} (h:n<=xs.length):dw xs none (some (n:Int))=xs.take n:=by
 unfold dw;rw [HT.sIx_none,HT.sIx_nat,ZC h,W6,Nat.sub_zero]
end BB
namespace L2
open PySem PySem.Spec PySem.Calls PyProof.Rows PySem.W
section
variable {prog:U6} {w:Vj} {A:VF} {E:UT->UY->Prop} {h:V9} {g:Array GenState} {d:Drawn} {t:Nat} {os:Zg} {a C:UQ} {o:W0} {K:Frag}
end
end L2
namespace L2
open PySem PySem.Spec PySem.Calls PyProof.Rows PySem.W
section
variable {P:U6} {w:Vj} {K:UO} {mg:Vm->Option UT} {base:V9} {N:List Vm} {qual:Vm} {scope:YI} {f:UQ} {cd:UT} {A:VF} {outer:List Env} {s:UY} {H:Hp} {E:XK}
end
end L2
namespace L2
open PySem PySem.Spec PySem.Calls PyProof.Rows PySem.W
section
variable {X:Cx} {pins:List (UQ×W0)} {σ:St} {H:Hp} {s:UY}
end
end L2
namespace L2
open PySem PySem.Spec PySem.Calls PyProof.Rows PySem.W
section
variable {P:U6} {w:Vj} {K:UO} {mg:Vm->Option UT} {base:V9}
end
end L2
namespace L2
open PySem PySem.Spec PySem.Calls PyProof.Rows PySem.SeqAt
theorem gb {k:Nat} {A:VF} (hr:Room k A):A.units+2<Ww:=by
 have:=hr.units;omega
end L2
namespace L2
open PySem PySem.Spec PySem.Calls PyProof.Rows
end L2
namespace BB
open PySem
end BB
namespace L2
open PySem PySem.Spec PySem.Calls PyProof.Rows BB
section
variable {prog:U6} {w:Vj} {A:VF} {R:Result->UY->Prop}
end
end L2
namespace PySem
section
variable {prog:U6} {w:Vj} {A:VF} {E:UT->UY->Prop} {s:UY}
end
end PySem
namespace L2
open PySem PySem.Spec PySem.Calls PyProof.Rows BB
end L2
namespace L2
open PySem PySem.Spec PySem.Calls PyProof.Rows BB
section
variable {X:Cx}
end
end L2
namespace BB
open PySem L2
theorem m7 {α:Type} {js:List (Option Nat)} {g:TG} {tt:TT} {te:TE} {σ:St} {J:It} {H:Hp} {xs:List V} {fin:UQ->Hp->Prop} (zs:List α) (f:α->V) (hz:zs.length=xs.length) (hn:xs.length<=1000000)
 (BY:∀ i H2,L2.Same H H2->i<xs.length->J.go i H2) (yZ:∀ H2,L2.Same H H2->J.stop xs.length H2) (zZ:∀ (i:Nat) H2 x H3,L2.Same H H2->i<xs.length->J.yld i H2 x H3->H3=H2/\xs[i]?=some x)
 (hb:∀ (i:Nat) x z H2 (R:VK) (W':Hp->Prop),xs[i]?=some x->zs[i]?=some z->L2.Same H H2->(∀ H3,L2.Same H2 H3->R (f z) H3)->g x (cσ js σ) H2 fun ym H3=>tt ym H3 fun b H4=>if b=true then te ym H4 R else W' H4)
 (zk:∀ D H',H D=none->L2.Same H H'->H' D=some (.lst (zs.map f))->fin D H') :
 ∀ D,H D=none->∃ (n:Nat) (W:Nat->Hp->Prop),W 0 (upd H D (.lst []))/\fH js g tt te σ J D n W fun H'=>fin D H':=by
 intro D hD;refine ⟨xs.length,fun i H'=>i<=xs.length/\L2.Same H H'/\H' D=some (.lst ((zs.take i).map f)),⟨Vn _,ad hD _,by rw [ab];rfl⟩,?_⟩;rintro i H' ⟨hi,s1,e1⟩;by_cases ye:i<xs.length
 · refine .inr ⟨ye,BY i H' s1 ye,fun v H1 hy=>?_⟩;obtain ⟨e,hx⟩:=zZ i H' v H1 s1 ye hy;subst e;obtain ⟨z,za⟩:∃ z,zs[i]?=some z:=⟨_,UN (by omega)⟩;refine hb i v z _ _ _ hx za s1 fun H3 s3=>⟨_,s3 _ _ e1,?_,ye,ax (s1.trans s3) hD,?_⟩
   · rw [UL,VE];have:Vb=16777216:=YH;omega
   · rw [ab,take_snoc za,U5];rfl
 · have yR:i=xs.length:=by omega
   subst yR;refine .inl ⟨yZ _ s1,zk D H' hD s1 ?_⟩;rw [e1,Wh (by omega)]
theorem oG {α:Type} {K:UO} {a:UQ} {js:List (Option Nat)} {g:TG} {tt:TT} {te:TE} {σ:St} {H:Hp} {xs:List V} {fin:UQ->Hp->Prop} (zs:List α) (f:α->V) (hS:SqT K H a xs) (hz:zs.length=xs.length) (hn:xs.length<=1000000)
 (hb:∀ (i:Nat) x z H2 (R:VK) (W':Hp->Prop),xs[i]?=some x->zs[i]?=some z->L2.Same H H2->(∀ H3,L2.Same H2 H3->R (f z) H3)->g x (cσ js σ) H2 fun ym H3=>tt ym H3 fun b H4=>if b=true then te ym H4 R else W' H4)
 (zk:∀ D H',H D=none->L2.Same H H'->H' D=some (.lst (zs.map f))->fin D H') :
 ∀ D,H D=none->∃ (n:Nat) (W:Nat->Hp->Prop),W 0 (upd H D (.lst []))/\fH js g tt te σ (Itt K a) D n W fun H'=>fin D H' :=
 m7 zs f hz hn (fun i H2 s hi=>⟨xs,xs[i],s.seqT hS,UN hi⟩) (fun H2 s=>⟨xs,s.seqT hS,UR _⟩) (fun i H2 x H3 s hi hy=>⟨hy.1,hy.2 xs (s.seqT hS)⟩) hb zk
theorem fC {α:Type} {K:UO} {a:UQ} {js:List (Option Nat)} {g:TG} {tt:TT} {te:TE} {σ:St} {H:Hp} {xs:List V} {fin:UQ->Hp->Prop} (zs:List α) (f:α->V) (hS:SqL K H a xs) (hz:zs.length=xs.length) (hn:xs.length<=1000000)
 (hb:∀ (i:Nat) x z H2 (R:VK) (W':Hp->Prop),xs[i]?=some x->zs[i]?=some z->L2.Same H H2->(∀ H3,L2.Same H2 H3->R (f z) H3)->g x (cσ js σ) H2 fun ym H3=>tt ym H3 fun b H4=>if b=true then te ym H4 R else W' H4)
 (zk:∀ D H',H D=none->L2.Same H H'->H' D=some (.lst (zs.map f))->fin D H') :
 ∀ D,H D=none->∃ (n:Nat) (W:Nat->Hp->Prop),W 0 (upd H D (.lst []))/\fH js g tt te σ (Itl K a) D n W fun H'=>fin D H' :=
 m7 zs f hz hn (fun i H2 s hi=>⟨xs,xs[i],s.seq hS,UN hi⟩) (fun H2 s=>⟨xs,s.seq hS,UR _⟩) (fun i H2 x H3 s hi hy=>⟨hy.1,hy.2 xs (s.seq hS)⟩) hb zk
end BB
namespace HT
open PySem PySem.Spec PyProof.Rows
section
variable {prog:U6} {w:Vj} {A:VF} {E:UT->UY->Prop} {s:UY}
theorem adjust_back (n:Nat):XC none none (-1) (n:Int)=((n:Int) - 1,-1):=rfl
theorem places_back (n:Nat):Wt ((n:Int) - 1) (-1) (-1)=n:=by
 unfold Wt;have h1:¬ ((-1:Int) > 0):=by omega
 simp only [h1,if_false];by_cases h:n=0
 · subst h;decide
 · have h2:((n:Int) - 1) > -1:=by omega
   simp only [h2,if_true];rw [show (- -1:Int)=1 by decide,Int.ediv_one];omega
theorem pick_back (xs:Array UT):((Vp xs.size).filterMap fun (m:Nat)=>xs[(((xs.size:Nat):Int) - 1+(m:Int) * (-1)).toNat]?).toArray=xs.toList.reverse.toArray:=by
 congr 1
 have e:∀ m∈Vp xs.size,xs[(((xs.size:Nat):Int) - 1+(m:Int) * (-1)).toNat]?=xs.toList.reverse[m]?:=by
  intro m hm;have Ef:=W5.mp hm;rw [List.getElem?_reverse (by rw [Vz];exact Ef),XY,Vz];congr 1;omega
 have f:∀ (l:List Nat) (f g:Nat->Option UT),(∀ m∈l,f m=g m)->l.filterMap f=l.filterMap g:=by
  intro l f g;induction l with
  | nil=>intro _;rfl
  | cons y ys ih =>
    intro h;rw [Yj,Yj,h y (by simp),ih (fun m hm=>h m (by simp [hm]))]
 rw [f _ _ _ e]
 have gl:∀ (ys:List UT),(Vp ys.length).filterMap (fun m=>ys[m]?)=ys:=by
  intro ys;have:=pick_run ys.toArray 0 ys.length;simp only [Z6] at this
  have e3:((fun x=>ys.toArray[x]?) ∘ fun x=>0+x)=fun m=>ys[m]?:=by
   funext m;simp
  rw [e3] at this;rw [this];simp
 have:=gl xs.toList.reverse;rw [Wd,Vz] at this;exact this
theorem sliceApplied_back {sl:UQ} {n:Nat} {t:Tok} {Q:Int×Int×Nat->UY->Prop} (hs:s.heap.IsSliceOf sl .none .none (.int (-1) t))
 (h:Q ((n:Int) - 1,-1,n) s):Va (Vw prog w) A (Yt (.ref sl) (pure (n:Int))) Q E s:=by
 obtain ⟨os,Ap,BV,Ah⟩:=id hs;unfold Yt Builtin.Slice.sliceFields;refine UM (UM (VO Ap Ah (x:=.none) rfl (UM (VO Ap Ah (x:=.none) rfl (UM (VO Ap Ah (x:=.int (-1) t) rfl (UX ?_)))))));refine UM (slicePart_int ?_);show Va _ _ (if ((-1:Int) == 0)=true then _ else _) _ _ s;rw [if_neg (by decide)];refine UM (slicePart_none (UM (slicePart_none (UM (UX ?_)))));show Va _ _ (match XC none none (-1) (n:Int) with | (lo,hi)=>pure (lo,(-1:Int),Wt lo hi (-1))) _ _ s;rw [adjust_back n];show Va _ _ (pure ((n:Int) - 1,(-1:Int),Wt ((n:Int) - 1) (-1) (-1))) _ _ s;rw [places_back];exact UX h
theorem getItem_tuple_back {t sl:UQ} {items:Array UT} {tk:Tok} {Q:UT->UY->Prop} (ht:IsTup s.heap t items) (hs:s.heap.IsSliceOf sl .none .none (.int (-1) tk))
 (h:Q (.ref s.heap.objs.size) { s with heap:=s.heap.push { cls:=.type "tuple",data:=.seq items.toList.reverse.toArray } })
 (hsz:items.size<=Vb):Va (Vw prog w) A (YN (.ref t) (.ref sl)) Q E s:=by
 have yY:sizeOk (.seq items.toList.reverse.toArray):=by
  show items.toList.reverse.toArray.size<=Vb;rw [U0,Wd,Vz];exact hsz
 obtain ⟨os,Ap,BV,Ah⟩:=id hs;have GQ:s.TypeIs (.ref sl) "slice":=⟨os,Ap,BV⟩;unfold YN
 try with_reducible refine Wl ?_
 first | refine UM (UX ?_) | skip
 refine UM (wpAny_sequenceKey ht.typeIs (by decide) ?_)
 refine UM (VX (name:=UU "__getitem__") ht.typeIs VG
  (V2 VG ht.typeIs entry_tuple_getitem ?_ (args_tuple_getitem _ _)))
 show Va _ _ (Ys (.ref t) >>= _) _ _ s;refine UM (tupleItemsOf_ ht ?_);refine UM (Xr GQ ?_);rw [if_pos (by decide)];refine UM (sliceApplied_back hs ?_)
 have AU:¬ ((((items.size:Nat):Int) - 1 == 0 && (-1:Int) == 1 && items.size == items.size)=true):=by
  simp
 show Va _ _ (if (((items.size:Nat):Int) - 1 == 0 && (-1:Int) == 1 && items.size == items.size)=true then _ else _) _ _ s;rw [if_neg AU,pick_back]
 first
  | exact UM (m:=Wy _) (V1 (UX ⟨_,rfl,UX h⟩) yY)
  | exact UM (m:=Wy _) (V1 (UM (UX (UX ⟨_,rfl,UX h⟩))) yY)
  | exact UM (UM (m:=Wy _) (V1 (UX (UX ⟨_,rfl,UX h⟩)) yY))
  | exact UM (UM (m:=Wy _) (V1 (UX ⟨_,rfl,UX h⟩) yY))
end
end HT
namespace L2
open PySem PySem.Spec PyProof.Rows
section
variable {X:Cx} {e:V4} {te:TE} {pos p2 p3 p4:YJ}
def BkR (X:Cx) (r:V->Hp->VK->Prop):Prop :=
 ∀ (pins:List (UQ×W0)) (s:UY) (σ:St) (H:Hp) (x:V) (v:UT) (t:Tok) (sl:UQ) (Q:VK),Inv X pins σ H s->RelV x v->s.heap.IsSliceOf sl .none .none (.int (-1) t)->r x H Q →
   ∃ T id,Ym (.type T) "__getitem__"=pure (some (.builtin id))/\s.TypeIs v T/\Va (Vw X.prog X.w) X.A (YN v (.ref sl)) (EP X pins σ Q) X.xe s
def tBk (r:V->Hp->VK->Prop) (te:TE):TE:=fun σ H Q=>te σ H fun x H1=>r x H1 Q
theorem qz {r:V->Hp->VK->Prop} (hr:BkR X r) (he:PE X e te):PE X (.Subscript e (.Slice none none (some (.UnaryOp .USub (.Constant (.int 1) 0 p3) p4)) p2) pos) (tBk r te):=by
 intro pins s σ H Q I h;refine Subscript_ (thn (he pins s σ H _ I h) fun v s1 ⟨x,H1,I1,r1,q1⟩=>?_);refine wpAny_Slice ?_;rw [evalPart_none];refine UX ?_;refine UX ?_;have QO:PO X (some (.UnaryOp .USub (.Constant (.int 1) 0 p3) p4)) (vc (tUn (rU fun i=>.int (-i)) (tC (.int 1)))):=bD (wY wn af);refine thn (QO pins s1 σ H1 (fun o H'=>o=some (-1)/\r x H' Q) I1 ⟨1,rfl,_,rfl,rfl,q1⟩) fun vs s2 ⟨o,H2,I2,ps,ho,q2⟩=>?_;subst ho;cases ps with
 | int i t =>
   have I4:Inv X pins σ H2 { s2 with heap:=s2.heap.push { cls:=.type "slice",data:=.fields #[.none,.none,.int (-1) t] } }:=I2.kept (t':=s2.toks) fun b ob q=>UW _ q;obtain ⟨T,id,hT,ht,hg⟩:=hr pins { s2 with heap:=s2.heap.push { cls:=.type "slice",data:=.fields #[.none,.none,.int (-1) t] } } σ H2 x v t s2.heap.objs.size Q I4 r1 (Heap.IsSliceOf.new ..) q2;show Va (Vw X.prog X.w) X.A (subscriptTail e (.Slice none none (some (.UnaryOp .USub (.Constant (.int 1) 0 p3) p4)) p2) v (.ref s2.heap.objs.size)) (EP X pins σ Q) X.xe { s2 with heap:=s2.heap.push { cls:=.type "slice",data:=.fields #[.none,.none,.int (-1) t] } };exact tail_any (ops:=[v,.ref s2.heap.objs.size]) ht hT hg (by with_unfolding_all rfl)
def xP (K:UO):V->Hp->VK->Prop:=fun x H Q=>∃ a xs,x=.ref a/\SqT K H a xs/\∀ p,H p=none->Q (.ref p) (upd H p (.tup xs.reverse))
def xK (K:UO):V->Hp->VK->Prop:=fun x H Q=>∃ a xs,x=.ref a/\SqL K H a xs/\∀ p,H p=none->Q (.ref p) (upd H p (.lst xs.reverse))
theorem Vals.rev {xs:List V} {us:List UT} (r:Vals xs us):Vals xs.reverse us.reverse:=by
 induction r with
 | nil=>exact .nil
 | cons r1 r2 ih=>rw [VY,VY];exact ih.append (.cons r1 .nil)
theorem wa:BkR X (xP X.K):=by
 intro pins s σ H x v t sl Q I rx hs h;obtain ⟨a,xs,rfl,hx,q⟩:=h;cases rx;obtain ⟨its,r,ht,hz⟩:=I.tuple hx;have hlen:its.toArray.size=xs.length:=by rw [U0];exact r.length.symm
 refine ⟨"tuple",_,VG.lookup,ht.typeIs,?_⟩;refine HT.getItem_tuple_back ht hs ?_ (by rw [hlen];exact hz);refine ⟨.ref s.heap.objs.size,_,I.laid (t':=s.toks) (o:=.tup xs.reverse) (fun b ob q=>UW _ q) (UR _) ?_,rfl,q _ (I.hok.fresh (UR _))⟩;exact ⟨by rw [Wd];exact hz,_,0,r.rev,U4 _ rfl⟩
theorem j0 (its:List UT):slicePick its.toArray none none (some (-1))=its.reverse.toArray:=by
 unfold slicePick;have e:YG none none (some (-1)) its.toArray.size=((its.toArray.size:Int) - 1,-1,-1):=rfl;rw [e];unfold sliceRange;have h1:¬ ((-1:Int) > 0):=by omega
 simp only [h1,if_false]
 have hc:(if ((its.toArray.size:Nat):Int) - 1 > -1 then (((its.toArray.size:Nat):Int) - 1 - -1 - -1 - 1) / (- -1) else 0).toNat=its.toArray.size:=by
  by_cases h:its.toArray.size=0
  · rw [h];decide
  · rw [if_pos (by omega),show (- -1:Int)=1 by decide,Int.ediv_one];omega
 rw [hc,Z6];have:=HT.pick_back its.toArray;rw [<- this];congr 1;congr 1;funext m;show its.toArray[(((its.toArray.size:Nat):Int) - 1+-1 * (m:Int)).toNat]?=_;rw [Int.mul_comm]
theorem uX:BkR X (xK X.K):=by
 intro pins s σ H x v t sl Q I rx hs h;obtain ⟨a,xs,rfl,hx,q⟩:=h;cases rx;obtain ⟨its,r,ht,hz⟩:=I.list hx;have hlen:=r.length;refine ⟨"list",_,slot_list_getitem.lookup,ht.isList.typeIs,?_⟩;refine wpAny_getItem_list_slice ht.isList hs .none .none (.int _ _) (by simp) ?_ (by rw [U0] <;> omega);rw [j0];refine ⟨.ref s.heap.objs.size,_,I.laid (t':=s.toks) (o:=.lst xs.reverse) (fun b ob q=>UW _ q) (UR _) ?_,rfl,q _ (I.hok.fresh (UR _))⟩;exact ⟨by rw [Wd];exact hz,_,0,r.rev,U4 _ rfl⟩
end
end L2
namespace L2
open PySem PySem.Spec PySem.Calls PyProof.Rows
section
variable {X:Cx}
end
end L2
namespace L2
open PySem PySem.Spec PySem.Calls PyProof.Rows
section
variable {X:Cx}
def isStr (z:Vm):UT->Bool
 | .str y _=>y == z
 | _=>false
def uT (K:UO):V->List V->Hp->VK->Prop:=fun x vs H Q=>∃ (l:UQ) (zs:List Vm) (z:Vm) (j:Nat),x=.ref l/\vs=[.str z]/\SqL K H l (zs.map V.str)/\zs[j]?=some z/\(∀ i,i<j->zs[i]?≠some z)/\zs.length<=100000/\Q (.int (j:Nat)) H
theorem l6:MtM X "list.index" (uT X.K):=by
 intro pins s σ H x vs v us Q I rx rv h;obtain ⟨l,zs,z,j,rfl,rfl,hS,hj,AU,hz,q⟩:=h;cases rx;obtain ⟨u,rfl,t,rfl⟩:=rv.one;obtain ⟨its,r,pl,_⟩:=I.list hS;have hlen:=r.length;rw [UL] at hlen;obtain ⟨⟨cls,dd,data,sl⟩,ho,hc,n,hd⟩:=pl.isList;simp only at hc hd;subst hc hd;have AZ:j<zs.length:=(US.mp hj).1
 have get:∀ m,m<zs.length->∃ y t',its[m]?=some (.str y t')/\zs[m]?=some y:=fun m hm=>by
  obtain ⟨v,hv,rv⟩:=r.get (i:=m) (x:=.str zs[m]) (by rw [UZ,UN hm];rfl);obtain ⟨t',rfl⟩:=rv;exact ⟨_,t',hv,UN hm⟩
 refine YY XD ⟨_,ho,rfl⟩ PySem.F.entry_list_index (PySem.F.args_list_index_2 _ _)
  (SeqAt.list_indexAt l its.toArray n dd sl (.str z t) (isStr z) j (by rw [U0];omega) (by omega) ?_ ?_) ⟨ho,fun y hy=>?_,⟨.int (j:Nat),H,I.tok _,⟨_,rfl⟩,q⟩⟩
 · obtain ⟨y,t',h1,h2⟩:=get j AZ;rw [hj] at h2;cases h2
   have h3:its.toArray[j]'(by rw [U0];omega)=.str z t':=by
    rw [UN (by omega)] at h1;simpa using h1
   rw [h3];show (z == z)=true;simp
 · intro m hm ye;obtain ⟨y,t',h1,h2⟩:=get m (by omega)
   have h3:its.toArray[m]'hm=.str y t':=by
    rw [UN (by omega)] at h1;simpa using h1
   rw [h3];show (y == z)=false;refine V5.mpr fun e=>AU m ye ?_;rw [h2,beq_iff_eq.mp e]
 · have Au:y∈its:=by simpa using hy
   obtain ⟨m,hm,rfl⟩:=List.getElem_of_mem Au;obtain ⟨y,t',h1,h2⟩:=get m (by omega);rw [UN hm] at h1;have h3:=Vo h1;rw [h3];exact SeqAt.EqAt.str_str _ _ _ _
end
end L2
namespace BB
open PySem L2
structure bV (ks:List (Vm×Int)):Prop where
 ne:1<=ks.length
 le:ks.length<=8
 low:∀ k∈ks,Low k.1/\k.1.length<=8
 num:∀ k∈ks,0<=k.2/\k.2<=3
 zero:∃ k∈ks,k.2=0
 nd:∀ (i j:Nat) (k l:Vm×Int),ks[i]?=some k->ks[j]?=some l->k.1=l.1->i=j
mutual
/-- a pattern over kinds,its calls of so many states and kids -/
def Th.FitS (ks:List (Vm×Int)) (S C:Int):Th->Prop
 | .knot n ts=>(n,(ts.length:Int))∈ks/\FitSs ks S C ts
 | .call s k=>0<=s/\s<S/\0<=k/\k<C
def FitSs (ks:List (Vm×Int)) (S C:Int):List Th->Prop
 | []=>True
 | t::ts=>t.FitS ks S C/\FitSs ks S C ts
end
theorem FitSs.of {ks:List (Vm×Int)} {S C:Int}:∀ {ts:List Th},(∀ t∈ts,t.FitS ks S C)->FitSs ks S C ts
 | [],_=>by rw [FitSs];trivial
 | t::ts,h=>by
   rw [FitSs];exact ⟨h t (Vk ..),FitSs.of fun u hu=>h u (Vf _ hu)⟩
theorem jp {ts:List Th} {n:Nat} (h:∀ t∈ts,t.tall<=n):bw ts<=n:=by
 induction ts with
 | nil=>rw [bw];exact Vn _
 | cons t ts ih =>
   rw [bw];have h1:=h t (Vk ..);have h2:=ih fun u hu=>h u (Vf _ hu);omega
def SameB (l:UQ) (H H':Hp):Prop:=∀ b o,b≠l->H b=some o->H' b=some o
theorem SameB.refl {l:UQ} {H:Hp}:SameB l H H:=fun _ _ _ e=>e
theorem SameB.trans {l:UQ} {A B C:Hp} (h:SameB l A B) (k:SameB l B C):SameB l A C:=fun b o hb e=>k b o hb (h b o hb e)
theorem SameB.of {l:UQ} {H H':Hp} (h:L2.Same H H'):SameB l H H':=fun b o _ e=>h b o e
theorem SameB.set {l:UQ} {H:Hp} {o:HO}:SameB l H (upd H l o):=fun b o hb e=>by rw [ai hb];exact e
theorem SameB.kt {l:UQ} {H H':Hp} {xs:List V} (h:SameB l H H') (e:H l=some (.lst xs)):KT H H':=fun b ys eb=>h b _ (eP eb e (by intro z;cases z)) eb
def RowAt (H:Hp) (row:List Th) (a:UQ):Prop:=∃ as:List UQ,H a=some (.tup (as.map V.ref))/\Ats H row as
theorem RowAt.mono {H H':Hp} (k:KT H H') {row:List Th} {a:UQ} (h:RowAt H row a):RowAt H' row a:=by
 obtain ⟨as,h1,h2⟩:=h;exact ⟨as,k _ _ h1,h2.mono k⟩
structure BookAt (H:Hp) (ins outs:List (Vm×Int)) (head:Th) (rows:List (List Th)) (r ia oa ha ra:UQ) (yb yq yM:List UQ):Prop where
 bk:H r=some (.tup [.ref ia,.ref oa,.ref ha,.ref ra])
 inE:H ia=some (.tup (yb.map V.ref))
 inK:KsAt H ins yb
 outE:H oa=some (.tup (yq.map V.ref))
 outK:KsAt H outs yq
 hd:At H head ha
 rl:H ra=some (.tup (yM.map V.ref))
 rw:Vs (RowAt H) rows yM
theorem BookAt.mono {H H':Hp} (k:KT H H') {ins outs:List (Vm×Int)} {head:Th} {rows:List (List Th)} {r ia oa ha ra:UQ} {yb yq yM:List UQ} (b:BookAt H ins outs head rows r ia oa ha ra yb yq yM):BookAt H' ins outs head rows r ia oa ha ra yb yq yM :=
 ⟨k _ _ b.bk,k _ _ b.inE,b.inK.mono k,k _ _ b.outE,b.outK.mono k,b.hd.mono k,k _ _ b.rl,P2.mp (fun _ _ e=>e.mono k) b.rw⟩
theorem eB {z:Vm} {n:Nat} (h:n<=z.length):(dJ z none (some (n:Int))).cps.toList=z.cps.toList.take n/\(dJ z none (some (n:Int))).length=n:=by
 have hz:z.cps.toList.length=z.length:=Vz
 have e:(dJ z none (some (n:Int))).cps.toList=z.cps.toList.take n:=by
  show (jN z.cps.toList none (some (n:Int))).toArray.toList=_;rw [List.toList_toArray];unfold jN;rw [HT.sIx_nat,HT.sIx_none,hz,ZC h];simp
 refine ⟨e,?_⟩;show (dJ z none (some (n:Int))).cps.size=n;rw [<- Vz,e,VE,hz];omega
end BB
namespace BB
open PySem L2
theorem gC {ks:List (Vm×Int)} {S C:Int}:∀ {ts:List Th},FitSs ks S C ts->∀ t∈ts,t.FitS ks S C
 | [],_,t,ht=>by cases ht
 | a::ts,h,t,ht=>by
   rw [FitSs] at h;rcases Vd.mp ht with rfl | ht
   · exact h.1
   · exact gC h.2 t ht
def Bk (H:Hp) (ins outs:List (Vm×Int)) (head:Th) (rows:List (List Th)) (r:UQ):Prop:=∃ ia oa ha ra yb yq yM,BookAt H ins outs head rows r ia oa ha ra yb yq yM
theorem Bk.mono {H H':Hp} (k:KT H H') {ins outs:List (Vm×Int)} {head:Th} {rows:List (List Th)} {r:UQ} (b:Bk H ins outs head rows r):Bk H' ins outs head rows r:=by
 obtain ⟨ia,oa,ha,ra,yb,yq,yM,b⟩:=b;exact ⟨ia,oa,ha,ra,yb,yq,yM,b.mono k⟩
end BB
namespace L2
open PySem PySem.Spec PySem.Calls PyProof.Rows PySem.SeqAt
end L2
namespace BB
open PySem L2
end BB
namespace L2
open PySem PySem.Spec PyProof.Rows
section
variable {X:Cx} {e:V4} {te:TE} {p p2 pos yt:YJ}
end
end L2
namespace BB
open PySem L2
theorem m5 {α:Type} {F:Hp->α->UQ->Prop} {js:List (Option Nat)} {g:TG} {tt:TT} {te:TE} {σ:St} {J:It} {H:Hp} {xs:List V} {fin:UQ->Hp->Prop} (zs:List α) (hF:∀ H1 H2 z p,KT H1 H2->F H1 z p->F H2 z p) (hz:zs.length=xs.length) (hn:xs.length<=1000000)
 (BY:∀ i H2,L2.Same H H2->i<xs.length->J.go i H2) (yZ:∀ H2,L2.Same H H2->J.stop xs.length H2) (zZ:∀ (i:Nat) H2 x H3,L2.Same H H2->i<xs.length->J.yld i H2 x H3->H3=H2/\xs[i]?=some x)
 (hb:∀ (i:Nat) x z H2 (R:VK) (W':Hp->Prop),xs[i]?=some x->zs[i]?=some z->L2.Same H H2->(∀ H3 p,L2.Same H2 H3->F H3 z p->R (.ref p) H3)->g x (cσ js σ) H2 fun ym H3=>tt ym H3 fun b H4=>if b=true then te ym H4 R else W' H4)
 (zk:∀ D H' as,H D=none->L2.Same H H'->H' D=some (.lst (as.map V.ref))->Vs (F H') zs as->fin D H') :
 ∀ D,H D=none->∃ (n:Nat) (W:Nat->Hp->Prop),W 0 (upd H D (.lst []))/\fH js g tt te σ J D n W fun H'=>fin D H':=by
 intro D hD;refine ⟨xs.length,fun i H'=>i<=xs.length/\L2.Same H H'/\∃ as:List UQ,H' D=some (.lst (as.map V.ref))/\Vs (F H') (zs.take i) as,⟨Vn _,ad hD _,[],by rw [ab];rfl,.nil⟩,?_⟩;rintro i H' ⟨hi,s1,as,e1,hp⟩;by_cases ye:i<xs.length
 · refine .inr ⟨ye,BY i H' s1 ye,fun v H1 hy=>?_⟩;obtain ⟨e,hx⟩:=zZ i H' v H1 s1 ye hy;subst e;obtain ⟨z,za⟩:∃ z,zs[i]?=some z:=⟨_,UN (by omega)⟩;have hl:(zs.take i).length=as.length:=U2 hp;rw [VE] at hl;refine hb i v z _ _ _ hx za s1 fun H3 p s3 Lp=>⟨_,s3 _ _ e1,?_,ye,ax (s1.trans s3) hD,as++[p],?_,?_⟩
   · rw [UL];have:Vb=16777216:=YH;omega
   · rw [ab,U5];rfl
   · have kt:KT H3 (upd H3 D (.lst (as.map V.ref++[.ref p]))):=aU (s3 _ _ e1);rw [take_snoc za];exact P2.append (P2.mp (fun x y e=>hF _ _ _ _ ((Same.kt s3).trans kt) e) hp) (.cons (hF _ _ _ _ kt Lp) .nil)
 · have yR:i=xs.length:=by omega
   subst yR;refine .inl ⟨yZ _ s1,zk D H' as hD s1 e1 ?_⟩;rw [Wh (by omega)] at hp;exact hp
end BB
namespace L2
open PySem PySem.Spec PyProof.Rows
end L2
namespace L2
open PySem
theorem us1 {α:Type}:∀ {us:List α},us.length=1->∃ a,us=[a]
 | [a],_=>⟨a,rfl⟩
theorem us2 {α:Type}:∀ {us:List α},us.length=2->∃ a b,us=[a,b]
 | [a,b],_=>⟨a,b,rfl⟩
theorem us3 {α:Type}:∀ {us:List α},us.length=3->∃ a b c,us=[a,b,c]
 | [a,b,c],_=>⟨a,b,c,rfl⟩
theorem us4 {α:Type}:∀ {us:List α},us.length=4->∃ a b c d,us=[a,b,c,d]
 | [a,b,c,d],_=>⟨a,b,c,d,rfl⟩
end L2
namespace PySem
open Sem (wp)
section
variable {prog:U6} {w:Vj} {K:Type} [DecidableEq K] {knd:HeapKind prog w K} {A:VF} {E:UT->UY->Prop} {s:UY}
end
end PySem
namespace L2
open PySem PySem.Spec PyProof.Rows BB
end L2
namespace BB
open PySem L2
theorem vW:(UU "*")≠q:=by decide +kernel
end BB
namespace PySem
open Sem (wp)
section
variable {prog:U6} {w:Vj} {A:VF} {E:UT->UY->Prop} {s:UY} {I:UQ} {fp wr:List UQ} {G:Array GenState->Array GenState->Prop} {n:Nat} {P:Nat->UT->Prop} {St:Nat->UY->Prop}
end
end PySem
namespace L2
open PySem PySem.Spec PyProof.Rows
section
variable {X:Cx} {o e:V4} {to te:TE} {p2 yt apos yh:YJ}
end
end L2
namespace PySem
open Sem (wp)
namespace F
theorem bb_list_nokeys:Ym (.type "list") "keys"=pure none:=by rw [WL,Wf];kernel_rfl
end F
section
variable {prog:U6} {w:Vj} {A:VF} {E:UT->UY->Prop} {s:UY} {a:UQ} {xs:Array UT} {k:Nat}
theorem bb_nokeysL {Q:Option UT->UY->Prop} (hA:A.handled=none) (hx:s.heap.get? a=some { cls:=.type "list",data:=.seq xs k })
 (q:∀ h' tk,(∀ b o,s.heap.get? b=some o->h'.get? b=some o)->Q none { s with heap:=h',toks:=tk }):Va (Vw prog w) A (getAttr? (.ref a) "keys") Q E s:=by
 obtain ⟨hp,g,d,tk,os⟩:=s;have gT:∀ z,(⟨hp,g,d,z,os⟩:UY).TypeIs (.ref a) "list":=fun _=>⟨_,hx,rfl⟩;have g1:=sub_AttributeError;have g3:=ZI.lookup;have g4:=ZI.bind (.ref a);have g5:=am_list_getattr_none;unfold getAttr? getAttrBy? getAttrBy
 repeat (any_goals (first | assumption | exact gT _ | ((with_reducible show Va _ _ (call (Value.builtin "list.__getattribute__") _ _) _ _ _);refine YY ZI (gT _) am_entry_list_getattribute (F.args_list_getattribute_2 _ _) (meets_getattribute_miss_list a xs k #[] "keys" _ F.bb_list_nokeys (by decide +kernel) (by decide)) ⟨hx,hA,fun h' QP e Cf=>?_⟩) | wp_step))
 obtain ⟨t',u',he⟩:=Cf.there;show Va _ _ (getattributeRaised _ _ _ _ _ _ _) _ _ _;unfold getattributeRaised
 repeat (any_goals (first | assumption | wp_step))
 exact q h' QP Cf.keeps
end
end PySem
namespace L2
open PySem PySem.Spec PyProof.Rows
def cj:List (List Key×V)->List (List Key×V)->List (List Key×V)
 | f',[]=>f'
 | f',p::ps=>cj (putK f' p.1 p.2) ps
def PrA (H:Hp) (pr:List Key×V) (pa:UQ):Prop:=∃ ka,H pa=some (.tup [.ref ka,pr.2])/\H ka=some (.tup (pr.1.map kV))
section
variable {X:Cx} {pins:List (UQ×W0)} {σ:St}
theorem rJ {H:Hp} {s:UY} {a b:UQ} {v:V} {r:UT} {k:List Key} {f':List (List Key×V)} {A:VF} {E:UT->UY->Prop} {Q:Unit->UY->Prop} (hu:(ZJ (aE X.prog X.w)).room A) (I:Inv X pins σ H s) (e:H a=some (.dT f')) (eb:H b=some (.tup (k.map kV))) (l:f'.length<Vb) (rv:RelV v r) (h:∀ h' tk,WH a s.heap h'->Inv X pins σ (upd H a (.dT (putK f' k v))) { s with heap:=h',toks:=tk }->Q () { s with heap:=h',toks:=tk }) :
 Va (Vw X.prog X.w) A (dictSet a (.ref b) r) Q E s:=by
 obtain ⟨z,hd,xs,rel,dd⟩:=u6 I.hok e;have hz:xs.length<=Vb:=by rw [<- U2 rel];exact z
 have hl:(putK f' k v).length<=Vb:=by have:=bX f' k v;omega
 refine wpAny_dictSet_heap (hsz:=hz) hu (hZ I.hok eb) dd fun h' Bx hs=>h _ _ hs ?_;obtain ⟨q,es,ep,hq,h2,h3,h4,_,h5⟩:=Bx;refine gD I (by rw [e];exact WX) hs ⟨q,hq⟩ ⟨hl,hd,_,(rel.put k eb rv).keeps fun c ys ec=>?_,q,es,ep,hq,h2,h3,h4,h5⟩;rw [ai (eP ec e (fun z=>nomatch z))];exact ec
theorem pS {A:VF} {d it l:UQ} {prs:List (List Key×V)} {ps:List UQ} {R:Result->UY->Prop} (hh:A.handled=none) (hu:A.units+8<Ww) (hn:prs.length<=10000) :
 ∀ (m i:Nat) (s:UY) (tk:Tok) (H:Hp) (f':List (List Key×V)),prs.length - i=m->i<=prs.length->Inv X pins σ H s->H d=some (.dT f')->f'.length<=i->jP X pins H it->s.heap.IsListIter it l i->H l=some (.lst (ps.map V.ref))->Vs (PrA H) prs ps →
   (∀ s',Inv X pins σ (upd H d (.dT (cj f' (prs.drop i)))) s'->R (.ok (.ret .none)) s') →
   YQ (Vw X.prog X.w) A (.builtin "dict.update.loop" ⟨[.ref d,.ref it,.int i tk,.none],[]⟩) R s:=by
 intro m;induction m with
 | zero =>
   intro i s tk H f' hk hi I ed yX hf hit el zb hR;have AH:i=prs.length:=by omega
   subst AH;obtain ⟨its,rv,p,hz⟩:=I.list (SqL.of (K:=X.K) el);have zc:prs.length=ps.length:=U2 zb;have hl:=rv.length;rw [UL] at hl;obtain ⟨f0,f1,f2,f3,f4,f5⟩:=hf;refine YE PySem.F.bb_entry_upd ?_;rw [XF PySem.F.bb_plain_upd _];show Va _ A.in1 (XH (.ref it) >>= _) _ _ s;refine UM (wpAny_pyNext_list_end hh hit p.isList (by simp;omega) fun h' eb=>?_);refine UM (UX (UX ?_));refine hR _ ?_;rw [List.drop_length]
   have e0:upd H d (.dT (cj f' []))=H:=by
    funext b;by_cases hb:b=d
    · rw [hb,ab,ed];rfl
    · rw [ai hb]
   rw [e0];exact I.turned (t':=s.toks) (fun b o hb e=>eb b o hb e) f0 f1 f3 f4 f5
 | succ m ih =>
   intro i s tk H f' hk hi I ed yX hf hit el zb hR;have ye:i<prs.length:=by omega
   have zc:prs.length=ps.length:=U2 zb;obtain ⟨its,rv,p,hz⟩:=I.list (SqL.of (K:=X.K) el);have hl:=rv.length;rw [UL] at hl;obtain ⟨pa,Eg,ka,zF,Dr⟩:=BB.P2.get zb (UN ye);have hx:(ps.map V.ref)[i]?=some (.ref pa):=by rw [UZ,Eg];rfl
   obtain ⟨u,QQ,ru⟩:=rv.get hx;cases ru;obtain ⟨f0,f1,f2,f3,f4,f5⟩:=id hf;refine YE PySem.F.bb_entry_upd ?_;rw [XF PySem.F.bb_plain_upd _];show Va _ A.in1 (XH (.ref it) >>= _) _ _ s;refine UM (wpAny_pyNext_list_item hit p.isList (x:=.ref pa) (by simpa using QQ) fun h1 Lq QR=>?_);have I1:Inv X pins σ H { s with heap:=h1 }:=I.turned (t':=s.toks) (fun b o hb e=>(QR.2 b hb).trans e) f0 f1 f3 f4 f5;obtain ⟨_,xW,n2,QS,e2⟩:=(show ObjOk X.prog X.w H h1 pa (.tup [.ref ka,(prs[i]).2]) from I1.hok pa _ zF)
   obtain ⟨vv,rfl,QT⟩:∃ vv,xW=[.ref ka,vv]/\RelV (prs[i]).2 vv:=by
    cases QS with
    | cons a b =>
      cases b with
      | cons c d =>
        cases d;cases a;exact ⟨_,rfl,c⟩
   have QU:(⟨h1,s.gens,s.drawn,s.toks,s.os⟩:UY).TypeIs (.ref pa) "tuple":=⟨_,e2,rfl⟩;refine UM (Wl ?_);refine UM (wpAny_tryCatch ?_);unfold Builtin.Dict.pairItems;refine UM (Xr QU ?_);rw [if_pos (by decide)];refine UM (Wj e2 rfl (UX ?_));show Va _ _ (holding [.ref ka,vv] (dictSet d (.ref ka) vv)) _ _ _;refine Wl (rJ (k:=(prs[i]).1) ?_ I1 ed Dr (by have:=fe;rw [YH];omega) QT fun h2 TF Cg I2=>?_)
   · exact YF (by omega)
   refine UX ⟨XI PySem.F.bb_plain_upd _,?_⟩
   have Hr:Xe ((i:Int)+1)=.int ((i+1:Nat):Int) 0:=by
    show Value.int ((i:Int)+1) 0=_;rw [show ((i+1:Nat):Int)=(i:Int)+1 by omega]
   rw [Hr];have E7:it≠d:=fun z=>by rw [z,ed] at f0;cases f0
   refine ih (i+1) _ 0 _ (putK f' (prs[i]).1 (prs[i]).2) (by omega) ye I2 ab (by have:=bX f' (prs[i]).1 (prs[i]).2;omega) ⟨by rw [ai E7];exact f0,f1,f2,f3,f4,f5⟩ ?_ ?_ ?_ fun s' I'=>hR s' ?_
   · obtain ⟨o,g1,r⟩:=Lq;exact ⟨o,(Cg.2 it E7).trans g1,r⟩
   · rw [ai (eP el ed (fun z=>nomatch z))];exact el
   · refine BB.P2.mp (fun x y e=>?_) zb;obtain ⟨Ct,g1,g2⟩:=e;exact ⟨Ct,by rw [ai (eP g1 ed (fun z=>nomatch z))];exact g1,by rw [ai (eP g2 ed (fun z=>nomatch z))];exact g2⟩
   · rw [jW] at I';rw [Yh ye];exact I'
def wq:List V->Hp->VK->Prop:=fun xs H Q=>∃ (l:UQ) (ps:List UQ) (prs:List (List Key×V)),xs=[.ref l]/\H l=some (.lst (ps.map V.ref))/\Vs (PrA H) prs ps/\prs.length<=10000/\∀ d,H d=none->Q (.ref d) (upd H d (.dT (cj [] prs)))
theorem lj (hu:X.A.units+12<Ww) (hc:X.calm=true):fJ X (.type "dict") wq:=by
 intro pins s σ H xs us Q I r h;obtain ⟨l,ps,prs,rfl,el,zb,hn,q⟩:=h;obtain ⟨u,rfl,rx⟩:=vals1 r;cases rx;obtain ⟨z,its,n,rv,e⟩:=(show ObjOk X.prog X.w H s.heap l (.lst (ps.map V.ref)) from I.hok l _ el);refine Z9 (Q₁:=fun obj xU=>obj=.ref s.heap.objs.size/\xU={ s with heap:=s.heap.push { cls:=.type "dict",data:=.dict #[] } }) PySem.F.kt_called_dict (PySem.F.kt_typeCall_dict_1 _) PySem.F.entry_dict_init (kt_code_dict_new _ ⟨rfl,rfl⟩) ?_;rintro obj xU ⟨rfl,rfl⟩;have gn:(s.heap.push { cls:=.type "dict",data:=.dict #[] }).DictOf (aE X.prog X.w) s.heap.objs.size []:=Heap.DictOf.new s.heap;have gt:(s.heap.push { cls:=.type "dict",data:=.dict #[] }).get? l=some { cls:=.type "list",data:=.seq its.toArray n }:=UW _ e;refine ⟨gn.typeIs,PySem.F.args_dict_init_2 _ _,?_⟩;have B0:=I.hok.fresh (UR s.heap.objs.size);have I1:Inv X pins σ (upd H s.heap.objs.size (.dT [])) { s with heap:=s.heap.push { cls:=.type "dict",data:=.dict #[] } }:=I.laid (a:=s.heap.objs.size) (o:=.dT []) (t':=s.toks) (fun _ _ q=>UW _ q) (UR _) (nV s.heap I.big);unfold Xv.«dict.__init__»;refine UM ?_;unfold Builtin.Dict.selfAndRest;refine UM (Z4 gn.typeIs ?_);show Va _ _ (pure (s.heap.objs.size,[Vv l])) _ _ _;refine UX ?_;show Va _ _ (Builtin.Dict.updateFrom "dict.__init__" s.heap.objs.size (.ref l) [] .none) _ _ _;unfold Builtin.Dict.updateFrom;refine UM (Xr (T:="list") ⟨_,gt,rfl⟩ ?_);rw [if_pos (by decide)];refine UM (bb_nokeysL (A:=X.A.in1.in1) (I.ok.hd hc) gt fun h1 Ge k1=>?_);have I2:Inv X pins σ (upd H s.heap.objs.size (.dT [])) { s with heap:=h1,toks:=Ge }:=I1.kept (t':=Ge) fun b o e=>k1 b o e;simp only [Option.isNone_none,if_true];refine UM (XA ?_);obtain ⟨od,es,ep,QV,TH⟩:=id gn;have ye:s.heap.objs.size<h1.objs.size:=U7 (k1 _ _ QV);refine UM (wpAny_pyIter_list (l:=l) (items:=its.toArray) ⟨_,k1 _ _ gt,rfl,n,rfl⟩ ?_);refine UX ⟨XI PySem.F.bb_plain_upd _,?_⟩;have Lr:l≠s.heap.objs.size:=aJ el B0
 have Lu:Vs (PrA (upd H s.heap.objs.size (.dT []))) prs ps:=BB.P2.mp (fun x y e=>by
  obtain ⟨ka,g1,g2⟩:=e;exact ⟨ka,by rw [ai (aJ g1 B0)];exact g1,by rw [ai (aJ g2 B0)];exact g2⟩) zb
 have QW:(upd H s.heap.objs.size (.dT [])) h1.objs.size=none:=I2.hok.fresh (UR _);refine pS (A:=X.A.in1) (d:=s.heap.objs.size) (it:=h1.objs.size) (l:=l) (prs:=prs) (ps:=ps) (I.ok.hd hc) (by show X.A.units+1+8<Ww;omega) hn prs.length 0 _ 0 (upd H s.heap.objs.size (.dT [])) [] (Nat.sub_zero _) (Vn _) (I2.kept (t':=Ge) fun b o e=>UW _ e) ab (UR _) (I2.fpOk (UR _) QW) ⟨_,U4 _ rfl,rfl,rfl⟩ (by rw [ai Lr];exact el) Lu fun s' I'=>?_;rw [jW,W6] at I';exact ⟨rfl,.ref s.heap.objs.size,_,I',rfl,q _ B0⟩
end
end L2
namespace BB
open PySem L2
theorem ui {k:Nat} {A:VF} (hr:L2.Room k A):A.units+12<Ww:=by
 have:=hr.units;omega
theorem jD {R:List Key->V->Prop}:∀ (prs f':List (List Key×V)),(∀ k v,aV f' k=some v->R k v)->(∀ p∈prs,R p.1 p.2) →
 (∀ k v,aV (cj f' prs) k=some v->R k v)/\(∀ k,((∃ v,aV f' k=some v)∨∃ p∈prs,p.1=k)->∃ v,aV (cj f' prs) k=some v)
 | [],f',h1,_=>⟨h1,fun k h=>by
   rcases h with h | ⟨p,hp,_⟩
   · exact h
   · cases hp⟩
 | p::prs,f',h1,h2=>by
   have ih:=jD (R:=R) prs (putK f' p.1 p.2) (fun k v hv=>by
    rw [iX] at hv;by_cases e:k=p.1
    · rw [if_pos e] at hv;cases hv;rw [e];exact h2 p (Vk ..)
    · rw [if_neg e] at hv;exact h1 k v hv) (fun x hx=>h2 x (Vf _ hx))
   refine ⟨ih.1,fun k h=>ih.2 k ?_⟩;by_cases e:k=p.1
   · left;exact ⟨p.2,by rw [iX,if_pos e]⟩
   · rcases h with ⟨v,hv⟩ | ⟨x,hx,OG⟩
     · left;exact ⟨v,by rw [iX,if_neg e];exact hv⟩
     · rcases Vd.mp hx with rfl | hx
       · exact absurd OG.symm e
       · exact .inr ⟨x,hx,OG⟩
end BB
namespace PySem
section
variable {prog:U6} {w:Vj} {A:VF} {E:UT->UY->Prop} {s:UY}
theorem bb_zip_next0 {z TI TO i1 i2 l1 l2:UQ} {k:Nat} {xs ys:Array UT} {x y a b:UT} {Q:Option UT->UY->Prop} (D:ZipApart z TI TO i1 i2 l1 l2)
 (hz:ZQ s.heap z TI TO .none) (hTI:W3 s.heap TI (.ref i1) (.ref i2)) (hTO:W3 s.heap TO a b)
 (h1:s.heap.IsTupleIter i1 l1 k) (h2:s.heap.IsTupleIter i2 l2 k) (y9:s.heap.IsTuple l1 xs) (yP:s.heap.IsTuple l2 ys) (hx:xs[k]?=some x) (hy:ys[k]?=some y)
 (hQ:∀ h',ZQ h' z TI TO (Xe s.heap.objs.size)->W3 h' TO x y->h'.IsTupleIter i1 l1 (k+1)->h'.IsTupleIter i2 l2 (k+1)->W3 h' s.heap.objs.size x y->h'.objs.size=s.heap.objs.size+1 →
  (∀ c o,c≠z->c≠TO->c≠i1->c≠i2->s.heap.get? c=some o->h'.get? c=some o)->Q (some (.ref s.heap.objs.size)) { s with heap:=h' }) :
 Va (Vw prog w) A (XH (.ref z)) Q E s:=by
 have hT:s.TypeIs (.ref z) "zip":=⟨_,hz,rfl⟩;unfold XH;refine UM (XG (VX (name:=UU "__next__") hT X7 (V2 X7 hT F.entry_zip_next ?_ (F.args_zip_next_1 _))));exact bb_zip_itemA D hz hTI hTO h1 h2 y9 yP hx hy fun h' a1 a2 a3 a4 a5 a6 a7=>UX (hQ h' a1 a2 a3 a4 a5 a6 a7)
end
end PySem
namespace L2
open PySem PySem.Spec PyProof.Rows
def Itz (K:UO) (a b:UQ):It:=⟨fun i H=>∃ xs ys x y,SqT K H a xs/\SqT K H b ys/\xs[i]?=some x/\ys[i]?=some y,fun i H v H'=>∃ p x y,H p=none/\v=.ref p/\H'=upd H p (.tup [x,y])/\(∀ xs,SqT K H a xs->xs[i]?=some x)/\(∀ ys,SqT K H b ys->ys[i]?=some y),fun i H=>∃ xs ys,SqT K H a xs/\SqT K H b ys/\(xs.length<=i∨ys.length<=i)⟩
structure ZTn (z TI TO i1 i2 a b:UQ) (i:Nat) (h:V9):Prop where
 ap:ZipApart z TI TO i1 i2 a b
 zip:ZQ h z TI TO .none
 hTI:W3 h TI (.ref i1) (.ref i2)
 hTO:∃ u v,W3 h TO u v
 h1:h.IsTupleIter i1 a i
 h2:h.IsTupleIter i2 b i
theorem tQ {P:U6} {w:Vj} {K:UO} {elts:List V4} {k1} {pos:YJ} (a b z TI TO i1 i2:UQ):Turn P w K (.Tuple elts k1 pos) (Itz K a b) [z,TI,TO,i1,i2] z (ZTn z TI TO i1 i2 a b) where
 mem:=by simp
 obj:=fun i h st c hc=>by
  obtain ⟨D,hz,hTI,⟨u,v,hTO⟩,⟨o1,a1,a2,a3⟩,⟨o2,b1,b2,b3⟩⟩:=st;simp only [Vd,Xj,or_false] at hc;rcases hc with rfl | rfl | rfl | rfl | rfl
  · exact ⟨_,hz,fun v z=>by cases z⟩
  · exact ⟨_,hTI,fun v z=>by cases z⟩
  · exact ⟨_,hTO,fun v z=>by cases z⟩
  · exact ⟨o1,a1,fun v z=>by rw [a3] at z;cases z⟩
  · exact ⟨o2,b1,fun v z=>by rw [b3] at z;cases z⟩
 keep:=fun i h h' st k=>by
  obtain ⟨D,hz,hTI,⟨u,v,hTO⟩,⟨o1,a1,a2⟩,⟨o2,b1,b2⟩⟩:=st;exact ⟨D,k _ (by simp) _ hz,k _ (by simp) _ hTI,⟨u,v,k _ (by simp) _ hTO⟩,⟨o1,k _ (by simp) _ a1,a2⟩,⟨o2,k _ (by simp) _ b1,b2⟩⟩
 item:=by
  intro X hP hw hK hc i pins s σ H E I hf st hg;subst hP hw hK;obtain ⟨xs,ys,x,y,Ec,Ed,hx,hy⟩:=hg;obtain ⟨ia,E4,pa,Ga⟩:=I.tuple Ec;obtain ⟨ib,E5,pb,Lm⟩:=I.tuple Ed;obtain ⟨u,hu,ru⟩:=E4.get hx;obtain ⟨v,hv,rv⟩:=E5.get hy;obtain ⟨D,hz,hTI,⟨ta,tb,hTO⟩,h1,h2⟩:=st
  have lt:∀ c∈[z,TI,TO,i1,i2],c<s.heap.objs.size:=fun c hc=>by
   simp only [Vd,Xj,or_false] at hc;rcases hc with rfl | rfl | rfl | rfl | rfl
   · exact U7 hz
   · exact U7 hTI
   · exact U7 hTO
   · obtain ⟨o,e,_⟩:=h1;exact U7 e
   · obtain ⟨o,e,_⟩:=h2;exact U7 e
  refine bb_zip_next0 D hz hTI hTO h1 h2 (show s.heap.IsTuple a ia.toArray from pa) (show s.heap.IsTuple b ib.toArray from pb) (by simpa using hu) (by simpa using hv) fun AJ a1 a2 a3 a4 a5 a6 a7=>?_;refine ⟨_,rfl,wpAny_letOwnedTupleGo_zip a1 fun Am g1 sb=>?_⟩;replace sb:WH z AJ Am:=sb;have G5:H s.heap.objs.size=none:=I.hok.fresh (UR _)
  have IA:Inv X pins σ (upd H s.heap.objs.size (.tup [x,y])) { s with heap:=s.heap.push { cls:=.type "tuple",data:=.seq #[u,v] },toks:=s.toks } :=
   I.laid (o:=.tup [x,y]) (fun b ob q=>UW _ q) (UR _) ⟨by show 2<=Vb;decide,[u,v],0,.cons ru (.cons rv .nil),U4 _ rfl⟩
  have TJ:s.heap.objs.size≠z:=Yc (lt z (by simp));refine ⟨.ref s.heap.objs.size,upd H s.heap.objs.size (.tup [x,y]),?_,rfl,⟨_,x,y,G5,rfl,rfl,fun zs Ht=>by rw [I.tuple_inj Ht Ec];exact hx,fun zs Ht=>by rw [I.tuple_inj Ht Ed];exact hy⟩,?_,fun c hc=>?_⟩
  · have IB:Inv X pins σ (upd H s.heap.objs.size (.tup [x,y])) { s with heap:=Am,toks:=s.toks }:=by
     refine Inv.turnedL (s:={ s with heap:=s.heap.push { cls:=.type "tuple",data:=.seq #[u,v] },toks:=s.toks }) (h':=Am) (fp:=[z,TI,TO,i1,i2]) (t':=s.toks) IA (fun c o hc q=>?_) fun c hc=>?_
     · have n1:c≠z:=fun e=>hc (by simp [e]);have n2:c≠TO:=fun e=>hc (by simp [e]);have n3:c≠i1:=fun e=>hc (by simp [e]);have n4:c≠i2:=fun e=>hc (by simp [e]);rw [sb.2 c n1];by_cases yo:c=s.heap.objs.size
       · subst yo;have q':(s.heap.push { cls:=.type "tuple",data:=.seq #[u,v] }).get? s.heap.objs.size=some o:=q;rw [U4 _ rfl] at q';rw [<- q'];exact a5
       · have q':(s.heap.push { cls:=.type "tuple",data:=.seq #[u,v] }).get? c=some o:=q;rw [Heap.get?_push_ne _ _ _ yo] at q';exact a7 c o n1 n2 n3 n4 q'
     · obtain ⟨f0,f1⟩:=hf c hc;exact ⟨by rw [ai (Vy (lt c hc))];exact f0,f1⟩
    exact IB
  · have sT:∀ c o,c≠z->AJ.get? c=some o->Am.get? c=some o:=fun c o hc e=>(sb.2 c hc).trans e;refine ⟨D,g1,sT _ _ D.TIz (a7 _ _ D.TIz D.TITO D.TIi1 D.TIi2 hTI),⟨_,_,sT _ _ D.TOz a2⟩,?_,?_⟩
    · obtain ⟨o,e,r⟩:=a3;exact ⟨o,sT _ _ D.i1z e,r⟩
    · obtain ⟨o,e,r⟩:=a4;exact ⟨o,sT _ _ D.i2z e,r⟩
  · rw [ai (Vy (lt c hc))];exact (hf c hc).1
 done:=by
  intro X hP hw hK hc i pins s σ H E I hf st hg;subst hP hw hK;obtain ⟨xs,ys,Ec,Ed,zL⟩:=hg;obtain ⟨ia,E4,pa,Ga⟩:=I.tuple Ec;obtain ⟨ib,E5,pb,Lm⟩:=I.tuple Ed;have AI:=E4.length;have QK:=E5.length;obtain ⟨D,hz,hTI,hTO,h1,h2⟩:=st;refine bb_zip_done (show X.A.handled=none from I.ok.hd hc) ⟨D,.inl hz,hTI,hTO,h1,h2,pa,pb⟩ ?_ fun h' kp=>⟨rfl,?_⟩
  · rcases zL with h | h
    · exact .inl (by simp;omega)
    · exact .inr (by simp;omega)
  exact I.turnedL (fp:=[z,TI,TO,i1,i2]) (t':=s.toks) (fun c o hc q=>kp c o (fun hm=>hc (by simp only [Vd,Xj,or_false] at hm ⊢;rcases hm with h | h | h | h <;> simp [h])) q) hf
 self:=fun _ _ _ _ _ st h=>wpAny_pyIter_zip st.zip h
section
variable {X:Cx} {e1 e2:V4} {t:TA} {p2 yt:YJ}
def xp (K:UO) (t:TA):TI:=fun σ H R=>t σ H fun vs H1=>∃ a b,vs=[.ref a,.ref b]/\(∃ xs,SqT K H1 a xs)/\(∃ ys,SqT K H1 b ys)/\R (Itz K a b) H1
theorem tH {elts:List V4} {k1} {pos:YJ} (g2:Gl X "zip") (m2:X.mg "zip"=none) (ha:PA X [e1,e2] t)
 (h2:VR [e1,e2] X.env=(false,Xf e1 X.env)::VR [e2] X.env:=by rfl) (h3:(YR yt (VR [e2] X.env)).any (·.1)=false:=by rfl):PI X (.Tuple elts k1 pos) (.Call (.Name "zip" p2) [e1,e2] [] yt) (xp X.K t):=by
 intro pins s σ H R I h;refine Wu (cU I g2 m2 boot_zip ?_);refine VP (thn (ha yt pins s σ H _ I h) fun us s2 ⟨vs,H2,I2,r,a,b,ev,⟨xs,Ec⟩,⟨ys,Ed⟩,q⟩=>?_) h2 h3;subst ev;obtain ⟨u1,u2,rfl,r1,r2⟩:=vals2 r;cases r1;cases r2;obtain ⟨ia,E4,pa,Ga⟩:=I2.tuple Ec;obtain ⟨ib,E5,pb,Lm⟩:=I2.tuple Ed;have zM:a<s2.heap.objs.size:=by obtain ⟨o,e,_⟩:=pa;exact U7 e
 have zT:b<s2.heap.objs.size:=by obtain ⟨o,e,_⟩:=pb;exact U7 e
 refine bb_call_zip (show s2.heap.IsTuple a ia.toArray from pa) (show s2.heap.IsTuple b ib.toArray from pb) fun h' z1 z2 z3 z4 z5 z6 z7=>?_;have D:ZipApart (s2.heap.objs.size+4) (s2.heap.objs.size+2) (s2.heap.objs.size+3) s2.heap.objs.size (s2.heap.objs.size+1) a b:=zipApart_new zM zT;refine wpAny_pyIter_zip (s:={ s2 with heap:=h' }) z1 ?_;refine ⟨s2.heap.objs.size+4,[s2.heap.objs.size+4,s2.heap.objs.size+2,s2.heap.objs.size+3,s2.heap.objs.size,s2.heap.objs.size+1],_,_,H2,rfl,I2.kept (t':=s2.toks) z7,tQ a b _ _ _ _ _,⟨D,z1,z2,⟨_,_,z3⟩,z4,z5⟩,fun c hc=>?_,q⟩
 have zh:s2.heap.objs.size<=c:=by
  simp only [Vd,Xj,or_false] at hc;rcases hc with h | h | h | h | h <;> rw [h]
  · exact Xi _ _
  · exact Xi _ _
  · exact Xi _ _
  · exact UR _
  · exact Xi _ _
 exact I2.fpOk zh (I2.hok.fresh zh)
end
end L2
namespace BB
open PySem L2
end BB
namespace BB
open PySem L2
noncomputable section
local instance:DecidableEq Th:=fun _ _=>Classical.propDecidable _
end
end BB
namespace PySem
open Sem (wp)
section
variable {prog:U6} {w:Vj} {K:Type} [DecidableEq K] {knd:HeapKind prog w K} {A:VF} {E:UT->UY->Prop} {s:UY}
theorem bb_setDefault_heap {d a:UQ} {xs:List (K×UQ×UT)} {k:K} {v:UT} {Q:UT->UY->Prop} (hu:knd.room A) (zI:knd.is s.heap k a) (hm:s.heap.DictOfH knd d xs)
 (E8:∀ p,Yn xs k=some p->Q p.2 { s with toks:=s.toks+knd.draws k })
 (Lw:Yn xs k=none->∀ h',h'.DictOfH knd d (Zz xs k a v)->WH d s.heap h'->Q v { s with heap:=h',toks:=s.toks+knd.draws k })
 (hsz:xs.length<=Vb):Va (Vw prog w) A (dictSetDefault d (.ref a) v) Q E s:=by
 obtain ⟨o,es,ep,ho,hc,hd,he,J5,hn⟩:=hm;unfold dictSetDefault
 try with_reducible refine Wl ?_
 refine UM (knd.pyHash hu zI ?_);refine UM (wpAny_dictFind_heap (s:={ s with toks:=s.toks+knd.draws k }) hu zI ho hd he J5 hn ?_ ?_)
 · intro AU;have Lx:k∉xs.map (·.1):=not_mem_keys_of_get AU
   refine UM (XA (UM (wpAny_updateDictKeys (hz:=by have e:=size_of_entries he;omega) (s:={ s with toks:=s.toks+knd.draws k }) ho hd (UX (Lw (ZA AU) _ ⟨_,_,ep+1,VD _ ho (Obj.isFreed_of_dict (Obj.data_mapDictKeys hd _)),
    hc.mapDictKeys _,Obj.data_mapDictKeys hd _,?_,?_,?_⟩ (WW ..))))))
   · rw [storedH_new (ZA AU)];simp [he,entryOfKey]
   · rw [storedH_new (ZA AU)];intro x hx;rcases VH.mp hx with hx | hx
     · exact knd.keeps (J5 x hx) ho hd (WW ..)
     · simp only [Vi] at hx;subst hx;exact knd.keeps zI ho hd (WW ..)
   · rw [storedH_new (ZA AU)];rw [U5,Zb];refine ⟨hn,by simp,?_⟩;intro x hx y hy;simp only [VJ,WN,Vi] at hy;subst hy;exact fun e=>Lx (e ▸ hx)
 · intro j p hj;have h1:=E8 _ (atKey_of_get hn hj);refine UM (Zy (s:={ s with toks:=s.toks+knd.draws k }) ho hd ?_);rw [entry_at he j,hj];exact UM (XA (UX h1))
theorem bb_meets_setdefault (knd:HeapKind prog w K) (d a:UQ) (dflt:UT) (hd:(d == WJ)=false) :
 MeetsIn prog w (Xv.«dict.setdefault» ⟨[.ref d,.ref a,dflt],[]⟩) (fun A R s=>knd.room A.in1/\∃ k xs,knd.is s.heap k a/\s.heap.DictOfH knd d xs/\xs.length<=Vb ∧
  (∀ p,Yn xs k=some p->R (.ok (.ret p.2)) { s with toks:=s.toks+knd.draws k }) ∧
  (Yn xs k=none->∀ h',h'.DictOfH knd d (Zz xs k a dflt)->WH d s.heap h'->R (.ok (.ret dflt)) { s with heap:=h',toks:=s.toks+knd.draws k })) :=
 .of_wp fun A R s ⟨hu,k,xs,zI,hm,hz,h1,h2⟩=>by
  unfold Xv.«dict.setdefault»;refine UM ?_;unfold Builtin.Dict.keyAndDefault;have hT:s.TypeIs (.ref d) "dict":=hm.typeIs;refine UM (Z4 hT ?_);show Va _ _ (pure (d,Vv a,some dflt)) _ _ s;refine UX ?_;show Va _ _ (if (d == WJ)=true then _ else (dictSetDefault d (.ref a) dflt >>= _)) _ _ s;rw [if_neg (by rw [hd];exact Ve)];exact UM (bb_setDefault_heap hu zI hm (fun p hp=>UX ⟨_,rfl,h1 p hp⟩) (fun hn h' Ef zS=>UX ⟨_,rfl,h2 hn h' Ef zS⟩) hz)
end
end PySem
namespace L2
open PySem PySem.Spec PyProof.Rows
end L2
namespace PySem
open Sem (wp)
section
variable {prog:U6} {w:Vj} {A:VF} {R:Result->UY->Prop}
theorem bb_key_loop {S it d:UQ} {es:Array DictEntry} {ep:Nat} {od:W0} (hh:A.in1.handled=none) (hz:es.size<=Vb) (E9:S≠it) (Hu:S≠d) (E7:d≠it) (g2:od.data=.dict es ep) (res:UT) :
 ∀ (k i:Nat) (s:UY) (acc:Array UT) (c:Nat),es.size - i=k->i<=es.size->s.heap.IsKeyIter it d i es.size ep->s.heap.get? d=some od->s.heap.get? S=some { cls:=.type "list",dict:=none,data:=.seq acc c,slots:=#[] }->acc.toList=(es.toList.take i).map (·.key) →
 (∀ h' yT c',(∀ b o,b≠S->b≠it->s.heap.get? b=some o->h'.get? b=some o)->h'.get? S=some { cls:=.type "list",dict:=none,data:=.seq yT c',slots:=#[] }->yT.toList=es.toList.map (·.key)->R (.ok (.ret res)) { s with heap:=h' }) →
 YQ (Vw prog w) A (.builtin "list.extend.loop" ⟨[.ref S,.ref it,res],[]⟩) R s:=by
 intro k;induction k with
 | zero =>
   intro i s acc c hk hi hit hd hS yd hR;have AH:i=es.size:=by omega
   subst AH;refine YE Zc ?_;rw [XF Wq _];show Va _ A.in1 (XH (.ref it) >>= _) _ _ s;refine UM (bb_keyEnd hh hit hd g2 (UR _) fun h' zj=>UX ?_);refine hR h' acc c (fun b o _ hb e=>zj b o hb e) (zj _ _ E9 hS) ?_;rw [yd,Wh (by rw [Vz];omega)]
 | succ k ih =>
   intro i s acc c hk hi hit hd hS yd hR;have ye:i<es.size:=by omega
   refine YE Zc ?_;rw [XF Wq _];show Va _ A.in1 (XH (.ref it) >>= _) _ _ s;have hx:es[i]?=some es[i]:=WT ye
   have zM:acc.size=i:=by
    have:=congrArg Xg yd;rw [Vz,UL,VE,Vz] at this;omega
   refine UM (bb_keyNext hit hd g2 hx fun h' Dj zj=>?_);have BX:=(zj.2 S E9).trans hS;have zD:=(zj.2 d E7).trans hd;show Va _ A.in1 (Zk S (·.push es[i].key) >>= _) _ _ _;refine UM ?_;have Ay:∀ b o,b≠S->h'.get? b=some o->(h'.update S (V3 (·.push es[i].key))).get? b=some o:=fun b o hb e=>(VL _ _ (WG hb)).trans e
   refine WE BX rfl (UX ⟨XI Wq _,ih (i+1) _ (acc.push es[i].key) _ (by omega) ye (Dj.at fun o e=>Ay _ _ (WG E9) e) (Ay _ _ (WG Hu) zD) (VD _ BX rfl) ?_ fun Ll yT c' E2 E3 Cp=>?_⟩)
    (by rw [zM];omega) (by show (acc.push _).size<=Vb+1;rw [Array.size_push,zM];omega)
   · rw [Array.toList_push,yd,Wb,UN (by rw [Vz];exact ye),U5];simp
   · exact hR Ll yT c' (fun b o hb yo e=>E2 b o hb yo (Ay b o hb ((zj.2 b yo).trans e))) E3 Cp
end
section
variable {prog:U6} {w:Vj} {A:VF} {E:UT->UY->Prop} {s:UY}
theorem bb_list_keys {d:UQ} {es:Array DictEntry} {ep:Nat} {od:W0} {Q:UT->UY->Prop} (hh:A.in1.in1.handled=none) (ns:(d == WJ)=false) (hd:s.heap.get? d=some od) (gc:od.cls=.type "dict") (g2:od.data=.dict es ep) (hz:es.size<=Vb)
 (hQ:∀ h' acc c,(∀ b o,s.heap.get? b=some o->h'.get? b=some o)->h'.get? s.heap.objs.size=some { cls:=.type "list",dict:=none,data:=.seq acc c,slots:=#[] }->acc.toList=es.toList.map (·.key)->Q (.ref s.heap.objs.size) { s with heap:=h' }) :
 Va (Vw prog w) A (call (.type "list") [.ref d]) Q E s:=by
 have B1:=U7 hd;have Hu:s.heap.objs.size≠d:=Yc B1
 refine Z9 (Q₁:=fun obj xU=>obj=.ref s.heap.objs.size/\xU={ s with heap:=s.heap.push { cls:=.type "list",data:=.seq #[] } }) F.called_list (F.typeCall_list_1 _) F.entry_list_init
  (code_list_new _ ⟨rfl,rfl⟩) fun obj xU yi=>?_
 obtain ⟨rfl,rfl⟩:=yi;have hS:(s.heap.push { cls:=.type "list",data:=.seq #[] }).get? s.heap.objs.size=some { cls:=.type "list",data:=.seq #[] }:=U4 _ rfl;refine ⟨⟨_,hS,rfl⟩,F.args_list_init_2 _ _,?_⟩;show Va _ A.in1.in1 (do let old ← Xu (.ref s.heap.objs.size);ZR (.ref s.heap.objs.size) (fun _=>#[]);letGo old.toList.reverse;WQ (.ref s.heap.objs.size) (.ref d) .none) _ _ _;refine UM ?_;unfold Xu;refine UM (Wj hS rfl (UX ?_));refine UM (WE hS rfl ?_);have zd:=VD (V3 (fun _=>(#[]:Array UT))) hS rfl;refine UM (Zx ?_);have Bw:((s.heap.push { cls:=.type "list",data:=.seq #[] }).update s.heap.objs.size (V3 (fun _=>(#[]:Array UT)))).objs.size=s.heap.objs.size+1:=by rw [YZ,V8]
 generalize hH:(s.heap.push { cls:=.type "list",data:=.seq #[] }).update s.heap.objs.size (V3 (fun _=>(#[]:Array UT)))=H2 at zd Bw ⊢
 have old:∀ b o,s.heap.get? b=some o->H2.get? b=some o:=fun b o e=>by
  rw [<- hH,VL _ _ (WG (Vy (U7 e)))];exact UW _ e
 obtain ⟨c2,Dm⟩:∃ c,H2.get? s.heap.objs.size=some { cls:=.type "list",data:=.seq #[] c }:=⟨_,zd⟩;have hd2:=old _ _ hd;have Hm:({ s with heap:=H2 }:UY).TypeIs (.ref d) "dict":=⟨_,hd2,gc⟩;unfold WQ;refine UM (Xr Hm ?_);have h1:Xc (.ref s.heap.objs.size) (.ref d)=false:=by simp [Xc,Hu]
 have h2:(Xh "dict" == Xh "list")=false:=by decide
 have h3:(Xh "dict" == Xh "tuple")=false:=by decide
 simp only [h1,h2,h3,Z3,V7,if_false];refine UM (bb_keyIter (s:={ s with heap:=H2 }) ns hd2 gc g2 ?_);refine UM (Wl ?_);have Fb:(H2.push { cls:=.type "dict_keyiterator",data:=.fields #[.ref d,.int 0 0,.int es.size 0,.int ep 0] }).IsKeyIter H2.objs.size d 0 es.size ep:=⟨_,U4 _ rfl,rfl,rfl⟩;have J6:∀ b o,H2.get? b=some o->(H2.push { cls:=.type "dict_keyiterator",data:=.fields #[.ref d,.int 0 0,.int es.size 0,.int ep 0] }).get? b=some o:=fun b o e=>UW _ e;have Hv:s.heap.objs.size≠H2.objs.size:=by rw [Bw];omega
 have Ly:d≠H2.objs.size:=by rw [Bw];exact Vy (YB B1)
 show Va _ _ _ _ _ ({ s with heap:=H2.push { cls:=.type "dict_keyiterator",data:=.fields #[.ref d,.int 0 0,.int es.size 0,.int ep 0] } }:UY);generalize H2.push { cls:=.type "dict_keyiterator",data:=.fields #[.ref d,.int 0 0,.int es.size 0,.int ep 0] }=H3 at Fb J6 ⊢;have OH:=J6 _ _ hd2;have Lz:=J6 _ _ Dm;have LA:({ s with heap:=H3 }:UY).TypeIs (.ref d) "dict":=⟨_,OH,gc⟩
 have key:∀ (h:V9) (c₁:Nat),h.IsKeyIter H2.objs.size d 0 es.size ep->(∀ b o,b≠s.heap.objs.size->H3.get? b=some o->h.get? b=some o)->h.get? s.heap.objs.size=some { cls:=.type "list",data:=.seq #[] c₁ } →
  YQ (Vw prog w) A.in1 (.builtin "list.extend.loop" ⟨[.ref s.heap.objs.size,.ref H2.objs.size,.none],[]⟩) (wants (fun r yB=>r=.none/\Q (.ref s.heap.objs.size) yB) E) { s with heap:=h }:=by
  intro h c₁ hit hk Aw;refine bb_key_loop hh hz Hv Hu Ly g2 .none es.size 0 _ #[] c₁ rfl (Vn _) hit (hk _ _ (WG Hu) OH) Aw rfl fun h' yT c' hm BX yd=>?_;refine ⟨rfl,hQ h' yT c' (fun b o e=>?_) BX yd⟩;have hb:=Vy (U7 e);exact hm b o hb (by rw [Bw];exact Vy (YB (U7 e))) (hk b o hb (J6 b o (old b o e)))
 unfold Xs;refine UM (Wr LA F.slot_dict_len.lookup ?_);generalize hid:("dict.__len__":String)=EX
 wp_delta
 rw [show splitId EX=some ("dict","__len__") from by subst hid;decide +kernel];subst hid;refine UM (Xw (T:="dict") (b:=true) LA (by rw [XO];kernel_rfl) ?_);refine ZW (fun zN=>absurd zN (by decide)) (fun _=>?_);refine ZW (fun _=>?_) (fun zN=>absurd (by decide +kernel) zN);refine UM (Xr LA ?_);refine UX ?_;refine ZW (fun _=>?_) (fun _=>UX ⟨XI Wq _,key _ c2 Fb (fun b o _ e=>e) Lz⟩);refine UM (XA ?_);refine UM ?_;show Va _ _ (Zk s.heap.objs.size (·.push .none) >>= fun _=>Zk s.heap.objs.size (·.pop)) _ _ _;refine UM (WE Lz rfl ?_);have ze:=VD (V3 (·.push Wm)) Lz rfl;refine WE (hz:=by seq_fits) ze rfl ?_;have Ax:=VD (V3 (·.pop)) ze rfl
 have Ay:∀ b o,b≠s.heap.objs.size->H3.get? b=some o->((H3.update s.heap.objs.size (V3 (·.push Wm))).update s.heap.objs.size (V3 (·.pop))).get? b=some o :=
  fun b o hb e=>(VL _ _ (WG hb)).trans ((VL _ _ (WG hb)).trans e)
 exact UX ⟨XI Wq _,key _ _ (Fb.at fun o e=>Ay _ _ (WG Hv) e) Ay Ax⟩
end
end PySem
namespace L2
open PySem PySem.Spec PyProof.Rows
end L2
namespace L2
open PySem PySem.Spec PyProof.Rows BB
theorem xv {H:Hp} {es:List Dv} {ws:List V} {its:List UT} (r1:Vals ws its) (yE:DAts H es ws) (j:Nat) (z:UT) (hz:its[j]?=some z):∃ e y',es[j]?=some e/\DAt H e y'/\RelV y' z:=by
 have hj:j<its.length:=(US.mp hz).1;have l1:=r1.length;have l2:=yE.length;have Dq:j<es.length:=by omega
 obtain ⟨y',Au,dy⟩:=yE.at (UN Dq);obtain ⟨v',yL,AB⟩:=r1.get Au;rw [hz] at yL;cases yL;exact ⟨_,y',UN Dq,dy,AB⟩
theorem w6 {H:Hp} {z:UT} {e e':Dv} {y' Cs:V} (h1:DAt H e y') (h2:RelV y' z) (h3:DAt H e' Cs) (h4:RelV Cs z):e=e':=by
 have:=h2.inj h4;subst this;exact h1.inj h3
def uy (K:UO) (B:Nat):V->List V->Hp->VK->Prop:=fun x vs H Q=>∃ (l:UQ) (y:V) (ws:List V) (d:Dv) (es:List Dv) (j:Nat),x=.ref l/\vs=[y]/\SqL K H l ws/\DAt H d y/\DAts H es ws/\bN es<=B/\es[j]?=some d/\(∀ i,i<j->es[i]?≠some d)/\es.length<=100000/\Q (.int (j:Nat)) H
open Classical in
theorem rZ {X:Cx} {B:Nat} (hu:X.A.units+B+4<Ww):MtM X "list.index" (uy X.K B):=by
 intro pins s σ H x vs v us Q I rx rv h;obtain ⟨l,y,ws,d,es,j,rfl,rfl,hS,hd,yE,hB,hj,AU,hz,q⟩:=h;cases rx;obtain ⟨u,rfl,ru⟩:=rv.one;obtain ⟨its,r,pl,_⟩:=I.list hS;have hlen:=r.length;have yP:=yE.length;obtain ⟨⟨cls,dd,data,sl⟩,ho,hc,n,J7⟩:=pl.isList;simp only at hc J7;subst hc J7;have AZ:j<es.length:=(US.mp hj).1
 have LB:∀ (m:Nat) (z:UT),its[m]?=some z->∃ e y',es[m]?=some e/\DAt H e y'/\RelV y' z/\decide (∃ y',DAt H d y'/\RelV y' z)=decide (e=d):=fun m z hz=>by
  obtain ⟨e,y',he,dy,ry⟩:=xv r yE m z hz;refine ⟨e,y',he,dy,ry,?_⟩;by_cases h:e=d
  · rw [decide_eq_true h,decide_eq_true ⟨y',h ▸ dy,ry⟩]
  · rw [decide_eq_false h,decide_eq_false];rintro ⟨Cs,h1,h2⟩;exact h (w6 dy ry h1 h2)
 refine YY XD ⟨_,ho,rfl⟩ PySem.F.entry_list_index (PySem.F.args_list_index_2 _ _)
  (SeqAt.list_indexAt l its.toArray n dd sl u (fun z=>decide (∃ y',DAt H d y'/\RelV y' z)) j (by rw [U0];omega) (by omega) ?_ ?_) ⟨ho,fun y hy=>?_,⟨.int (j:Nat),H,I.tok _,⟨_,rfl⟩,q⟩⟩
 · obtain ⟨e,y',he,dy,ry,e3⟩:=LB j (its.toArray[j]'(by rw [U0];omega)) (by simp);rw [hj] at he;cases he;rw [e3];exact decide_eq_true rfl
 · intro m hm ye;obtain ⟨e,y',he,dy,ry,e3⟩:=LB m (its.toArray[m]'hm) (by simp);rw [e3];exact decide_eq_false fun z=>AU m ye (by rw [he,z])
 · have Au:y∈its:=by simpa using hy
   obtain ⟨m,hm⟩:=Vc.mp Au;obtain ⟨e,y',he,dy,ry,e3⟩:=LB m y hm;rw [e3];have hq:=dF he;refine nA I _ e d (UR _) y' _ y u _ dy hd ry ru ?_;show X.A.units+1+_<Ww;omega
end L2
namespace PySem
open Sem (wp)
section
variable {prog:U6} {w:Vj} {K:Type} [DecidableEq K] (knd:HeapKind prog w K) (d:UQ)
end
section
variable {prog:U6} {w:Vj} {K:Type} [DecidableEq K] {knd:HeapKind prog w K} {A:VF} {E:UT->UY->Prop} {s:UY}
end
end PySem
namespace L2
open PySem PySem.Spec PyProof.Rows
end L2
namespace BB
open PySem L2
end BB
namespace BB
open PySem L2
end BB
namespace BB
open PySem L2
theorem size_pos (t:Th):0<t.size:=by cases t <;> (rw [Th.size];omega)
mutual
theorem eS:∀ t:Th,t.tall<=t.size
 | .knot n ts=>by rw [Th.tall,Th.size];have:=jK ts;omega
 | .call _ _=>by rw [Th.tall,Th.size];omega
theorem jK:∀ ts:List Th,bw ts<=ao ts
 | []=>by rw [bw,ao];omega
 | t::ts=>by rw [bw,ao];have:=eS t;have:=jK ts;omega
end
structure vb (ins outs:List (Vm×Int)) (S:Int) (m:Nat) (head:Th) (rows:List (List Th)):Prop where
 len:(rows.length:Int)=S
 row:∀ row∈rows,row.length=ins.length
 fit:∀ row∈rows,∀ (j:Nat) (t:Th) (k:Vm×Int),row[j]?=some t->ins[j]?=some k->t.FitS outs S k.2/\t.size<=m
 hdf:head.FitS outs S 1
 hdz:head.size<=m
mutual
theorem FitS.up {ks:List (Vm×Int)} {S C:Int}:∀ {t:Th},t.FitS ks 0 0->t.FitS ks S C
 | .call s c,h=>by rw [Th.FitS] at h;omega
 | .knot n ts,h=>by
   rw [Th.FitS] at h ⊢;exact ⟨h.1,FitSs.up h.2⟩
theorem FitSs.up {ks:List (Vm×Int)} {S C:Int}:∀ {ts:List Th},FitSs ks 0 0 ts->FitSs ks S C ts
 | [],_=>by rw [FitSs];trivial
 | t::ts,h=>by
   rw [FitSs] at h ⊢;exact ⟨FitS.up h.1,FitSs.up h.2⟩
end
theorem nW {ks:List (Vm×Int)} {S C:Int}:∀ (p:List Int) (t u o:Th),t.sub p=some u->t.FitS ks S C->o.FitS ks S C->(t.put p o).FitS ks S C
 | [],t,u,o,_,_,ho=>by rw [m3];exact ho
 | i::p,t,u,o,h,ht,ho=>by
   obtain ⟨h0,w,hw,hs⟩:=nu h;rw [lc hw];cases t with
   | call a b=>rw [Th.kids] at hw;simp at hw
   | knot n ts =>
     rw [Th.kids] at hw;rw [Th.FitS] at ht;show (Th.knot n (ts.set i.toNat (w.put p o))).FitS ks S C;rw [Th.FitS,ZE];refine ⟨ht.1,FitSs.of fun v hv=>?_⟩;rcases List.mem_or_eq_of_mem_set hv with hv | rfl
     · exact gC ht.2 v hv
     · exact nW p w u o hs (gC ht.2 w (UP hw)) ho
end BB
namespace BB
open PySem L2
theorem jT {α β:Type} {F:α->β->Prop}:∀ {xs:List α} {ys:List β} {i:Nat} {x:α} {y:β},Vs F xs ys->xs[i]?=some x->ys[i]?=some y->F x y
 | _,_,_,_,_,.nil,h,_=>by simp at h
 | _,_,0,_,_,.cons r _,h,g=>by simp at h g;subst h;subst g;exact r
 | _,_,i+1,_,_,.cons _ t,h,g=>jT (i:=i) t (by simpa using h) (by simpa using g)
theorem lp {u:Th}:∀ {ts:List Th},u∈ts->u.size<=ao ts
 | [],h=>by cases h
 | t::ts,h=>by
   rw [ao];rcases Vd.mp h with rfl | h
   · omega
   · have:=lp h;omega
structure qx (ws:List Vm):Prop where
 len:ws.length=4
 low:∀ x∈ws,Low x/\x.length<=8
 inj:∀ (i j:Nat) (x:Vm),ws[i]?=some x->ws[j]?=some x->i=j
def gF (a st:Int) (j:Nat):Nat:=97+((a+5 * st * (j:Int))%26).toNat
theorem sM (a st:Int) (j:Nat):97<=gF a st j/\gF a st j<=122:=by
 unfold gF;have h1:=V6 (a+5 * st * (j:Int)) (by decide:(26:Int)≠0);have h2:=V0 (a+5 * st * (j:Int)) (by decide:(0:Int)<26);omega
theorem kU {a st:Int} (h1:1<=st) (h4:st<=4) {i j:Nat} (hi:i<4) (hj:j<4) (h:gF a st i=gF a st j):i=j:=by
 unfold gF at h;have e1:=V6 (a+5 * st * (i:Int)) (by decide:(26:Int)≠0);have e2:=V6 (a+5 * st * (j:Int)) (by decide:(26:Int)≠0);have h':(a+5 * st * (i:Int))%26=(a+5 * st * (j:Int))%26:=by omega
 clear h e1 e2;rcases (by omega:st=1∨st=2∨st=3∨st=4) with rfl | rfl | rfl | rfl <;> omega
def jn (c a st:Int) (word:Vm) (j:Nat):Vm :=
 if c=0 then ⟨#[gF a st j]⟩ else if c=1 then ⟨#[gF a st j]⟩++dJ word (some 1) (some 4) else if c=2 then dJ word none (some 5)++⟨#[gF a st j]⟩ else dJ word none (some (2 * (j:Int)+2))
theorem oP {z:Vm} (h:z.length=8):(dJ z (some 1) (some 4)).length=3:=by
 have hz:z.cps.toList.length=8:=by rw [Vz];exact h
 show (jN z.cps.toList (some 1) (some 4)).toArray.size=3;rw [U0];unfold jN;rw [show (some (1:Int))=some ((1:Nat):Int) from rfl,show (some (4:Int))=some ((4:Nat):Int) from rfl,HT.sIx_nat,HT.sIx_nat,hz,VE,Wa,hz];rfl
theorem ub {c a st:Int} {word:Vm} (hw:Low word) (hl:word.length=8) {j:Nat} (hj:j<4):Low (jn c a st word j)/\(jn c a st word j).length<=8:=by
 have ht:=sM a st j;unfold jn;split
 · exact ⟨jX ht.1 ht.2,by show 1<=8;omega⟩
 · split
   · refine ⟨mJ (jX ht.1 ht.2) (nJ hw _ _),?_⟩;rw [strLen_append,oP hl];show 1+3<=8;omega
   · split
     · refine ⟨mJ (nJ hw _ _) (jX ht.1 ht.2),?_⟩;have:=(eB (z:=word) (n:=5) (by omega)).2;rw [strLen_append];show (dJ word none (some ((5:Nat):Int))).length+1<=8;omega
     · refine ⟨nJ hw _ _,?_⟩;have:=(eB (z:=word) (n:=2 * j+2) (by omega)).2;have e:(2 * (j:Int)+2)=((2 * j+2:Nat):Int):=by omega
       rw [e];omega
theorem t9 {c a st:Int} {word:Vm} (h1:1<=st) (h4:st<=4) (hl:word.length=8) {i j:Nat} (hi:i<4) (hj:j<4) (h:jn c a st word i=jn c a st word j):i=j:=by
 unfold jn at h;split at h
 · refine kU h1 h4 hi hj (a:=a) ?_;have h2:=congrArg (fun z:Vm=>z.cps.toList) h;simpa using h2
 · split at h
   · refine kU h1 h4 hi hj (a:=a) ?_;have h2:((#[gF a st i]:Array Nat)++(dJ word (some 1) (some 4)).cps).toList=((#[gF a st j]:Array Nat)++(dJ word (some 1) (some 4)).cps).toList:=congrArg (fun z:Vm=>z.cps.toList) h;rw [Yk,Yk] at h2;have h3:=List.append_cancel_right h2;simpa using h3
   · split at h
     · refine kU h1 h4 hi hj (a:=a) ?_;have h2:((dJ word none (some 5)).cps++(#[gF a st i]:Array Nat)).toList=((dJ word none (some 5)).cps++(#[gF a st j]:Array Nat)).toList:=congrArg (fun z:Vm=>z.cps.toList) h;rw [Yk,Yk] at h2;have h3:=List.append_cancel_left h2;simpa using h3
     · have e1:(2 * (i:Int)+2)=((2 * i+2:Nat):Int):=by omega
       have e2:(2 * (j:Int)+2)=((2 * j+2:Nat):Int):=by omega
       rw [e1,e2] at h;have l1:=(eB (z:=word) (n:=2 * i+2) (by omega)).2;have l2:=(eB (z:=word) (n:=2 * j+2) (by omega)).2;rw [h] at l1;omega
theorem kq {H:Hp}:∀ {ks:List (Vm×Int)} {as:List UQ},KsAt H ks as->∀ z∈ks.zip as,z.1∈ks/\KAt H z.1 z.2
 | _,_,.nil,z,hz=>by simp at hz
 | _,_,.cons (a:=k) (b:=a) r t,z,hz=>by
   rw [XN] at hz;rcases Vd.mp hz with rfl | hz
   · exact ⟨Vk ..,r⟩
   · obtain ⟨h1,h2⟩:=kq t z hz;exact ⟨Vf _ h1,h2⟩
theorem ki {K:UO} {js:List (Option Nat)} {tt:TT} {te:TE} {σ:St} {H:Hp} {kr:UQ} {yp:List UQ} {ks:List (Vm×Int)} {fin:UQ->Hp->Prop} (p:Vm×Int->Bool) (e:H kr=some (.tup (yp.map V.ref))) (zO:KsAt H ks yp) (hl:ks.length<=1000) (hp:∃ k∈ks,p k=true)
 (G2:∀ (z:Vm×Int) (ka:UQ) (H2:Hp) (R:Bool->Hp->Prop),L2.Same H H2->KAt H2 z ka->R (p z) H2->tt ((cσ js σ).set 0 (some (.ref ka))) H2 R)
 (G4:∀ (ka:UQ) (H2:Hp) (R:VK),R (.ref ka) H2->te ((cσ js σ).set 0 (some (.ref ka))) H2 R)
 (q:∀ (D:UQ) (bs:List ((Vm×Int)×UQ)) (H':Hp),H D=none->H'=upd H D (.lst (bs.map fun z=>V.ref z.2))->1<=bs.length->bs.length<=ks.length->(∀ z∈bs,z.1∈ks/\p z.1=true/\KAt H z.1 z.2)->fin D H') :
 ∀ D,H D=none->∃ (n:Nat) (W:Nat->Hp->Prop),W 0 (upd H D (.lst []))/\fH js (aG 0) tt te σ (Itt K kr) D n W fun H'=>fin D H':=by
 have yX:ks.length=yp.length:=U2 zO;have OI:(ks.zip yp).length=ks.length:=by rw [XR];omega
 have Ga:∀ (i:Nat) (x:V) (z:(Vm×Int)×UQ),(yp.map V.ref)[i]?=some x->(ks.zip yp)[i]?=some z->x=.ref z.2:=fun i x z hx hz=>by
  obtain ⟨ka,rfl,y4⟩:=aT hx;obtain ⟨h1,h2⟩:=WR.mp hz;rw [y4] at h2;cases h2;rfl
 refine oS (ks.zip yp) (fun z=>p z.1) (fun z=>.ref z.2) (SqT.of e) (by rw [OI,UL];exact yX) (by rw [UL];omega) (fun i x z H2 R hx hz sm r=>?_) (fun i x z H2 R hx hz _ sm r=>?_) (fun D hD=>?_)
 · rw [Ga i x z hx hz];have:=(kq zO z (UP hz)).2;exact G2 z.1 z.2 H2 R sm (sm _ _ this) r
 · rw [Ga i x z hx hz];exact G4 z.2 H2 R r
 · refine q D _ _ hD rfl ?_ ?_ ?_
   · obtain ⟨k,hk,QX⟩:=hp;obtain ⟨i,hi,rfl⟩:=List.getElem_of_mem hk;have hz:(ks.zip yp)[i]'(by omega)∈(ks.zip yp).filter fun z=>p z.1:=WA.mpr ⟨YK _,by rw [List.getElem_zip];exact QX⟩;exact List.length_pos_of_mem hz
   · exact WB (Xq _ _) (by omega)
   · intro z hz;obtain ⟨h1,h2⟩:=WA.mp hz;obtain ⟨h3,h4⟩:=kq zO z h1;exact ⟨h3,h2,h4⟩
end BB
namespace BB
open PySem L2 PySem.Builtin PySem.Builtin.Str
end BB
namespace L2
open PySem PySem.Spec PySem.Calls PyProof.Rows BB
section
variable {X:Cx} {pins:List (UQ×W0)} {σ:List (Option V)} {H:Hp} {s:UY}
end
end L2
namespace L2
open PySem PySem.Spec PySem.Calls PyProof.Rows PySem.Builtin PySem.Builtin.Str BB
variable {X:Cx}
end L2
namespace BB
open PySem L2
end BB
namespace BB
open PySem L2
section
variable {H H':Hp} {t:Th} {a:UQ} {ts:List Th} {es:List UQ}
end
end BB
namespace L2
open PySem PySem.Spec PyProof.Rows BB
variable {X:Cx}
end L2
namespace L2
open PySem PySem.Spec PyProof.Rows PySem.W
end L2
namespace L2
open PySem PySem.Spec PyProof.Rows BB
variable {X:Cx}
end L2
namespace L2
open PySem PySem.Spec PySem.Calls PyProof.Rows PySem.W
end L2
namespace BB
open PySem L2 PySem.Builtin PySem.Builtin.Str
end BB
namespace L2
open PySem PySem.Spec PySem.Calls PyProof.Rows PySem.Builtin PySem.Builtin.Str BB
variable {X:Cx}
end L2
namespace L2
open PySem PySem.Spec PyProof.Rows
end L2
namespace BB
open PySem L2
end BB
namespace L2
open PySem PySem.Spec PyProof.Rows
end L2
namespace L2
open PySem PySem.Spec PySem.Calls PyProof.Rows
section
variable {X:Cx} {CX:CXT} {k i:Nat} {E:XK} {x:Vm} {p pos:YJ} {e:V4} {es:List V4} {t:TA}
end
section
variable {X:Cx} {k:Nat} {f:UQ} {fd:X5} {ps:List Vm} {sp:Sp} {x:Vm} {p pos:YJ} {e:V4} {es:List V4} {t:TA}
end
end L2
namespace L2
open PySem PySem.Spec PyProof.Rows
end L2
namespace L2
open PySem PySem.Spec PyProof.Rows
end L2
namespace BB
open PySem L2
theorem jh (f:Int->Int->Th):∀ ts:List Th,fills f ts=ts.map (·.fill f)
 | []=>rfl
 | t::ts=>by rw [fills,jh f ts];rfl
def rowOf (rows:List (List Th)) (s:Int):List Th:=rows.getD s.toNat []
section
variable {head:Th} {rows:List (List Th)}
end
end BB
namespace L2
open PySem PySem.Spec PySem.SeqAt PyProof.Rows
theorem kA {α:Type} [DecidableEq α] {s:UY} {A:VF} {a b:UQ} {its xW:List UT} {ds es:List α} (p1:s.heap.IsTuple a its.toArray) (p2:s.heap.IsTuple b xW.toArray) (l1:its.length=ds.length) (l2:xW.length=es.length) (hu:A.units<Ww)
 (ih:∀ (j:Nat) (d e:α) (u v:UT),ds[j]?=some d->es[j]?=some e->its[j]?=some u->xW[j]?=some v->EqAt A.in1 s u v (decide (d=e))):RcAt A s (.ref a) (.ref b) (decide (ds=es)):=by
 have Cq:RcAt A s (.ref a) (.ref b) ((Vp (min its.toArray.size xW.toArray.size)).all (fun j=>decide (ds[j]?=es[j]?)) && its.toArray.size == xW.toArray.size):=by
  refine RcAt.tuples p1 p2 hu fun j h1 h2=>?_;have AJ:j<ds.length:=by rw [<- l1];simpa using h1
  have Am:j<es.length:=by rw [<- l2];simpa using h2
  have e1:ds[j]?=some ds[j]:=UN AJ;have e2:es[j]?=some es[j]:=UN Am;have e3:decide (ds[j]?=es[j]?)=decide (ds[j]=es[j]):=by rw [e1,e2];simp
  have g1:its[j]?=some its[j]:=UN (by rw [l1];exact AJ);have g2:xW[j]?=some xW[j]:=UN (by rw [l2];exact Am);rw [e3];exact ih j ds[j] es[j] its[j] xW[j] e1 e2 g1 g2
 have e:decide (ds=es)=((Vp (min its.toArray.size xW.toArray.size)).all (fun j=>decide (ds[j]?=es[j]?)) && its.toArray.size == xW.toArray.size):=by
  rw [U0,U0,l1,l2];by_cases h:ds=es
  · subst h;rw [decide_eq_true rfl];symm;simp
  · rw [decide_eq_false h];symm;by_cases hl:ds.length=es.length
    · rw [hl,Zv]
      have:¬ ((Vp es.length).all (fun j=>decide (ds[j]?=es[j]?)))=true:=by
       intro z;apply h;apply YC;intro j;by_cases hj:j<es.length
       · exact of_decide_eq_true (Xm.mp z j (W5.mpr hj))
       · rw [Wk (by omega),Wk (by omega)]
      rw [V5.mpr this];rfl
    · have:(ds.length == es.length)=false:=by simpa using hl
      rw [this,Y8]
 rw [e];exact Cq
theorem oX {A:VF} {s:UY} {k l:Key} {u v:UT} (hu:gK k u=true) (hv:gK l v=true):EqAt A s u v (decide (k=l)):=by
 rcases bf hu with ⟨i,t,rfl,rfl⟩ | ⟨x,t,rfl,rfl⟩
 · rcases bf hv with ⟨j,t',rfl,rfl⟩ | ⟨y,t',rfl,rfl⟩
   · have:decide ((VA i:Key)=VA j)=(i == j):=by
      by_cases h:i=j
      · subst h;simp
      · rw [decide_eq_false (fun z=>h (XJ z)),beq_eq_false_iff_ne.mpr h]
     rw [this];exact EqAt.int_int i t j t'
   · rw [decide_eq_false (fun z=>nomatch z)];exact EqAt.int_str i t y t'
 · rcases bf hv with ⟨j,t',rfl,rfl⟩ | ⟨y,t',rfl,rfl⟩
   · rw [decide_eq_false (fun z=>nomatch z)];exact EqAt.str_int x t j t'
   · have:decide ((X9 x:Key)=X9 y)=(x == y):=by
      by_cases h:x=y
      · subst h;simp
      · rw [decide_eq_false (fun z=>h (Sum.inr.inj z)),beq_eq_false_iff_ne.mpr h]
     rw [this];exact EqAt.str_str x t y t'
theorem jg {P:U6} {w:Vj}:∀ {ks:List Key} {vs:List UT} {j:Nat} {k:Key} {v:UT},ItemsAre (aE P w) ks vs->ks[j]?=some k->vs[j]?=some v->gK k v=true
 | _,_,0,k,v,.cons h _,e1,e2=>by cases e1;cases e2;exact h
 | _,_,j+1,k,v,.cons _ h,e1,e2=>jg (j:=j) h e1 e2
theorem sy {P:U6} {w:Vj} {A:VF} {s:UY} {x y:List Key} {a b:UQ} (hx:IsTupleKey (aE P w) s.heap x a) (hy:IsTupleKey (aE P w) s.heap y b) (hu:A.units<Ww):EqAt A s (.ref a) (.ref b) (decide (x=y)):=by
 by_cases zN:a=b
 · subst zN;obtain rfl:=hx.inj hy;rw [decide_eq_true rfl];exact EqAt.same _
 · obtain ⟨o,its,n,ho,hc,hd,hi⟩:=hx;obtain ⟨o',its',n',zV,zh,zD,yR⟩:=hy;have p1:s.heap.IsTuple a its.toList.toArray:=⟨o,ho,hc,n,by rw [hd]⟩;have p2:s.heap.IsTuple b its'.toList.toArray:=⟨o',zV,zh,n',by rw [zD]⟩;have:=kA (ds:=x) (es:=y) p1 p2 hi.length.symm yR.length.symm hu fun j d e u v e1 e2 e3 e4=>oX (A:=A.in1) (s:=s) (jg hi e1 e3) (jg yR e2 e4);exact EqAt.of_refs zN this
abbrev az:=List Key×Key
theorem qf {P:U6} {w:Vj} {A:VF} {E:UT->UY->Prop} {s:UY} {m:Nat} {ks:List Key} {a:UQ} {Q:Bool->UY->Prop} (hk:IsTupleKey (aE P w) s.heap ks a) (h:Q true s):Va (Vw P w) A (eqIsQuiet (m+1) (.ref a)) Q E s:=by
 have hT:=hk.typeIs;obtain ⟨o,items,n,ho,_,hd,hi⟩:=hk;unfold eqIsQuiet;refine UM (Wr hT F.slot_tuple_eq.lookup ?_);show Va _ _ (isInstance (.ref a) (.type "tuple") >>= _) _ _ s;refine UM (Xw hT isSubtype_tuple_tuple ?_);simp only [YL,V7,if_false];refine UM (Wj ho hd ?_);refine UM ?_;show Va _ _ (forIn items _ _) _ _ s;rw [<- Yy];refine wpAny_forIn_list _ (fun rest r s'=>r.1=none/\s'=s/\∀ v∈rest,carriedByValue v=true) _ ?_ ?_ _ _ ⟨rfl,rfl,hi.byValue⟩
 · rintro v rest r s' ⟨hr,rfl,xY⟩;rw [eqIsQuiet_byValue _ (xY v Vk)];refine UM (UX ?_);simp only [YL,V7,if_false];exact UX ⟨rfl,rfl,fun u zo=>xY u (Vf _ zo)⟩
 · rintro ⟨r1,r2⟩ s' ⟨hr,rfl,_⟩;simp only at hr;subst hr;exact UX h
section
variable {X:Cx} {pins:List (UQ×W0)} {σ:St} {H:Hp} {s:UY} {o i value:V4} {pos pos':YJ} {td ty tv:TE}
end
end L2
namespace BB
open PySem L2
end BB
namespace BB
open PySem L2
theorem FitSs.mem' {ks:List (Vm×Int)} {S C:Int}:∀ {ts:List Th},FitSs ks S C ts->∀ t∈ts,t.FitS ks S C
 | [],_,t,ht=>by cases ht
 | u::us,h,t,ht=>by
   rw [FitSs] at h;rcases Vd.mp ht with e | e
   · rw [e];exact h.1
   · exact FitSs.mem' h.2 t e
structure wv (ins outs:List (Vm×Int)) (S:Int) (rows:List (List Th)):Prop where
 len:(rows.length:Int)=S
 row:∀ row∈rows,row.length=ins.length/\∀ (j:Nat) (p:Th) (k:Vm×Int),row[j]?=some p->ins[j]?=some k->p.FitS outs S k.2
end BB
namespace BB
open PySem L2
end BB
namespace BB
open PySem L2
theorem rD {ins outs:List (Vm×Int)} {S:Int} {rows:List (List Th)} (ok:wv ins outs S rows) {l:Int} (h0:0<=l) (h1:l<S):∃ row,rows[l.toNat]?=some row/\rowOf rows l=row/\row.length=ins.length/\∀ t∈row,∃ C,t.FitS outs S C:=by
 have hl:=ok.len;have hs:l.toNat<rows.length:=by omega
 refine ⟨rows[l.toNat],UN hs,?_,(ok.row _ (YK hs)).1,fun t ht=>?_⟩
 · unfold rowOf;rw [List.getD,UN hs];rfl
 · obtain ⟨hlen,yU⟩:=ok.row _ (YK hs);obtain ⟨j,hj⟩:=Vc.mp ht;have AZ:=(US.mp hj).1;exact ⟨_,yU j t _ hj (UN (by omega))⟩
section
variable {ins mid outs:List (Vm×Int)} {S1 S2:Int} {Cu Cv:Th} {Cw Cy:List (List Th)}
end
end BB
namespace L2
open PySem PySem.Spec PySem.Calls PyProof.Rows
end L2
namespace BB
open PySem L2
end BB
namespace BB
open PySem L2
theorem nI (f:Int->Int->Th) (ts:List Th):(fills f ts).length=ts.length:=by rw [jh,UL]
section
variable {ins mid outs:List (Vm×Int)} {S1 S2:Int} {Cu Cv:Th} {Cw Cy:List (List Th)} {QY QZ Q0 Q1 Q2 Q3 Q4:Nat}
end
end BB
namespace BB
open PySem L2
theorem j7 {H:Hp}:∀ {ts:List Th} {as:List UQ},Vs (At H) ts as->Ats H ts as
 | _,_,.nil=>.nil
 | _,_,.cons h g=>.cons h (j7 g)
end BB
namespace BB
open PySem L2
end BB
namespace L2
open PySem PySem.Spec PySem.Calls PyProof.Rows
end L2
namespace L2
open PySem PySem.Spec PySem.Calls PyProof.Rows
end L2
namespace BB
open PySem L2
end BB
namespace BB
open PySem L2
section
variable {k0 k1 k2 k3:List (Vm×Int)} {SA SB SC:Int} {a0 b0 c0:Th} {OJ OK OL:List (List Th)}
end
end BB
namespace BB
open PySem L2
section
variable {ins mid outs:List (Vm×Int)} {S1 S2:Int} {Cu Cv:Th} {Cw Cy:List (List Th)} {QY QZ Q0 Q1 Q2 Q3 Q4:Nat}
end
end BB
namespace BB
theorem vx {p:Prop} [Decidable p] {A B:Prop} (hp:p) (h:A):if decide p=true then A else B:=by rw [if_pos (decide_eq_true hp)];exact h
theorem hid {G:Prop} (k:∀ F:Prop,(G->F)->F):G:=k G id
inductive Ex1 {A0:Type} (p:A0->Prop):Prop
 | mk (x0:A0) (h:p x0):Ex1 p
inductive Ex2 {A0 A1:Type} (p:A0->A1->Prop):Prop
 | mk (x0:A0) (x1:A1) (h:p x0 x1):Ex2 p
inductive Ex3 {A0 A1 A2:Type} (p:A0->A1->A2->Prop):Prop
 | mk (x0:A0) (x1:A1) (x2:A2) (h:p x0 x1 x2):Ex3 p
inductive Ex4 {A0 A1 A2 A3:Type} (p:A0->A1->A2->A3->Prop):Prop
 | mk (x0:A0) (x1:A1) (x2:A2) (x3:A3) (h:p x0 x1 x2 x3):Ex4 p
inductive Ex5 {A0 A1 A2 A3 A4:Type} (p:A0->A1->A2->A3->A4->Prop):Prop
 | mk (x0:A0) (x1:A1) (x2:A2) (x3:A3) (x4:A4) (h:p x0 x1 x2 x3 x4):Ex5 p
inductive Ex6 {A0 A1 A2 A3 A4 A5:Type} (p:A0->A1->A2->A3->A4->A5->Prop):Prop
 | mk (x0:A0) (x1:A1) (x2:A2) (x3:A3) (x4:A4) (x5:A5) (h:p x0 x1 x2 x3 x4 x5):Ex6 p
inductive Ex7 {A0 A1 A2 A3 A4 A5 A6:Type} (p:A0->A1->A2->A3->A4->A5->A6->Prop):Prop
 | mk (x0:A0) (x1:A1) (x2:A2) (x3:A3) (x4:A4) (x5:A5) (x6:A6) (h:p x0 x1 x2 x3 x4 x5 x6):Ex7 p
inductive w8 {A0 A1 A2 A3 A4 A5 A6 A7 A8 A9 OM:Type} (p:A0->A1->A2->A3->A4->A5->A6->A7->A8->A9->OM->Prop):Prop
 | mk (x0:A0) (x1:A1) (x2:A2) (x3:A3) (x4:A4) (x5:A5) (x6:A6) (x7:A7) (x8:A8) (x9:A9) (Q5:OM) (h:p x0 x1 x2 x3 x4 x5 x6 x7 x8 x9 Q5):w8 p
inductive An2 (a0 a1:Prop):Prop
 | mk (h0:a0) (h1:a1):An2 a0 a1
inductive An3 (a0 a1 a2:Prop):Prop
 | mk (h0:a0) (h1:a1) (h2:a2):An3 a0 a1 a2
inductive An4 (a0 a1 a2 a3:Prop):Prop
 | mk (h0:a0) (h1:a1) (h2:a2) (h3:a3):An4 a0 a1 a2 a3
inductive An5 (a0 a1 a2 a3 a4:Prop):Prop
 | mk (h0:a0) (h1:a1) (h2:a2) (h3:a3) (h4:a4):An5 a0 a1 a2 a3 a4
inductive An6 (a0 a1 a2 a3 a4 a5:Prop):Prop
 | mk (h0:a0) (h1:a1) (h2:a2) (h3:a3) (h4:a4) (h5:a5):An6 a0 a1 a2 a3 a4 a5
inductive An8 (a0 a1 a2 a3 a4 a5 a6 a7:Prop):Prop
 | mk (h0:a0) (h1:a1) (h2:a2) (h3:a3) (h4:a4) (h5:a5) (h6:a6) (h7:a7):An8 a0 a1 a2 a3 a4 a5 a6 a7
inductive An9 (a0 a1 a2 a3 a4 a5 a6 a7 a8:Prop):Prop
 | mk (h0:a0) (h1:a1) (h2:a2) (h3:a3) (h4:a4) (h5:a5) (h6:a6) (h7:a7) (h8:a8):An9 a0 a1 a2 a3 a4 a5 a6 a7 a8
inductive v8 (a0 a1 a2 a3 a4 a5 a6 a7 a8 a9:Prop):Prop
 | mk (h0:a0) (h1:a1) (h2:a2) (h3:a3) (h4:a4) (h5:a5) (h6:a6) (h7:a7) (h8:a8) (h9:a9):v8 a0 a1 a2 a3 a4 a5 a6 a7 a8 a9
end BB
namespace L2
open PySem PySem.Spec PyProof.Rows
end L2
namespace BB
open PySem L2
section
variable {ins outs:List (Vm×Int)} {S:Int} {d:Nat} {head:Th} {rows:List (List Th)}
end
end BB
namespace L2
open PySem PySem.Spec PyProof.Rows
end L2
namespace L2
open PySem PySem.Spec PyProof.Rows
end L2
namespace L2
open PySem PySem.Spec PyProof.Rows
section
variable {X:Cx} {e:V4} {te:TE} {apos yh:YJ}
end
section
variable {X:Cx} {e:V4} {te:TE} {apos yh:YJ}
end
end L2
namespace PySem
open Sem (wp)
section
variable {prog:U6} {w:Vj} {A:VF} {E:UT->UY->Prop} {s:UY} {it d:UQ} {i ep:Nat} {od:W0} {es:Array DictEntry} {ok ov:UT}
end
end PySem
namespace L2
open PySem PySem.Spec PyProof.Rows
section
variable {X:Cx} {e:V4} {te:TE} {apos yh:YJ}
end
end L2
namespace L2
open PySem PySem.Spec PyProof.Rows
section
variable {X:Cx} {e1 e2:V4} {t:TA} {p2 yt:YJ}
end
end L2
namespace L2
open PySem PySem.Spec PyProof.Rows
section
variable {X:Cx} {pins:List (UQ×W0)} {σ:St}
end
end L2
namespace BB
open PySem L2
theorem mM (pre:List Int) (n:Vm) (ts:List Th):callsOf (Th.pl pre (.knot n ts))=callsOf (pls pre 0 ts):=by
 rw [Th.pl];rfl
theorem m9 (pre:List Int) (s k:Int):callsOf (Th.pl pre (.call s k))=[(pre,s,k)]:=by
 rw [Th.pl];rfl
theorem mR (pre:List Int) (i:Int) (t:Th) (ts:List Th):callsOf (pls pre i (t::ts))=callsOf (t.pl (pre++[i]))++callsOf (pls pre (i+1) ts):=by
 rw [pls,dG]
end BB
namespace BB
open PySem L2
end BB
namespace BB
open PySem L2
theorem mG {α:Type}:∀ {l m:List α},l.Nodup->(∀ a∈l,a∈m)->l.length<=m.length
 | [],m,_,_=>Vn _
 | a::l,m,h,hs=>by
   rw [YV] at h;obtain ⟨m1,m2,rfl⟩:=List.append_of_mem (hs a (Vk ..))
   have:l.length<=(m1++m2).length:=mG h.2 fun b hb=>by
    rcases VH.mp (hs b (Vf _ hb)) with z | z
    · exact VU _ z
    · rcases Vd.mp z with z | z
      · exact absurd (z ▸ hb) h.1
      · exact VI _ z
   rw [U8,U1] at *;rw [U1];omega
theorem iE {B:Nat}:∀ {ts:List Th},(∀ t∈ts,t.tall<=B)->bN (ts.map Th.dv)<=B
 | [],_=>by rw [WN,bN];exact Vn _
 | t::ts,h=>by
   have h1:=t.dv_deep;have h2:=h t (Vk ..);have h3:=iE (ts:=ts) fun u hu=>h u (Vf _ hu);rw [VJ,bN];omega
end BB
namespace L2
open PySem
theorem sZ {K:UO} {a:UQ} {xs:List V} {g:TG} {tb:TS} {D:Ends} {σ:St} {H:Hp} (Pv:Nat->St->Hp->Prop) (h0:Pv 0 σ H) (hl:∀ i σ H,i<=xs.length->Pv i σ H->SqT K H a xs)
 (hs:∀ i x p σ H,xs[i]?=some x->H p=none->Pv i σ H->g (.ref p) σ (upd H p (.tup [.int (i:Nat),x])) fun ym H2=>tb { D with nx:=Pv (i+1),ct:=Pv (i+1),bk:=D.nx } ym H2) (hd:∀ σ H,Pv xs.length σ H->D.nx σ H) :
 ∃ W:Nat->Nat->St->Hp->Prop,(∃ m,W 0 m σ H)/\∀ i m σ H,W i m σ H →
   ((Ite K a).stop i H/\D.nx σ H)∨((Ite K a).go i H/\∃ N:St->Hp->Prop,(∀ xT H',N xT H'->∃ m',m'<m/\W (i+1) m' xT H')/\∀ x H',(Ite K a).yld i H x H'->g x σ H' fun ym H2=>tb { D with nx:=N,ct:=N,bk:=D.nx } ym H2):=by
 refine ⟨fun i m σ H=>m=xs.length - i/\i<=xs.length/\Pv i σ H,⟨xs.length,by simp,Vn _,h0⟩,?_⟩;rintro i m σ H ⟨rfl,hi,p⟩;have q:=hl i σ H hi p;by_cases ye:i<xs.length
 · refine .inr ⟨⟨xs,xs[i],q,by simp [ye]⟩,Pv (i+1),fun xT H' p'=>⟨xs.length - (i+1),by omega,rfl,ye,p'⟩,fun x H' y=>?_⟩;obtain ⟨pa,y,hp,rfl,rfl,hy⟩:=y;exact hs i y pa σ H (hy xs q) hp p
 · have e:i=xs.length:=by omega
   subst e;exact .inl ⟨⟨xs,q,rfl⟩,hd σ H p⟩
theorem qZ {K:UO} {a b:UQ} {xs ys:List V} {g:TG} {tb:TS} {D:Ends} {σ:St} {H:Hp} (TL:xs.length=ys.length) (Pv:Nat->St->Hp->Prop) (h0:Pv 0 σ H) (hl:∀ i σ H,i<=xs.length->Pv i σ H->SqT K H a xs/\SqT K H b ys)
 (hs:∀ i x y p σ H,xs[i]?=some x->ys[i]?=some y->H p=none->Pv i σ H->g (.ref p) σ (upd H p (.tup [x,y])) fun ym H2=>tb { D with nx:=Pv (i+1),ct:=Pv (i+1),bk:=D.nx } ym H2) (hd:∀ σ H,Pv xs.length σ H->D.nx σ H) :
 ∃ W:Nat->Nat->St->Hp->Prop,(∃ m,W 0 m σ H)/\∀ i m σ H,W i m σ H →
   ((Itz K a b).stop i H/\D.nx σ H)∨((Itz K a b).go i H/\∃ N:St->Hp->Prop,(∀ xT H',N xT H'->∃ m',m'<m/\W (i+1) m' xT H')/\∀ x H',(Itz K a b).yld i H x H'->g x σ H' fun ym H2=>tb { D with nx:=N,ct:=N,bk:=D.nx } ym H2):=by
 refine ⟨fun i m σ H=>m=xs.length - i/\i<=xs.length/\Pv i σ H,⟨xs.length,by simp,Vn _,h0⟩,?_⟩;rintro i m σ H ⟨rfl,hi,p⟩;obtain ⟨q1,q2⟩:=hl i σ H hi p;by_cases ye:i<xs.length
 · have LC:i<ys.length:=by omega
   refine .inr ⟨⟨xs,ys,xs[i],ys[i],q1,q2,by simp [ye],by simp [LC]⟩,Pv (i+1),fun xT H' p'=>⟨xs.length - (i+1),by omega,rfl,ye,p'⟩,fun x H' y=>?_⟩;obtain ⟨pa,x,y,hp,rfl,rfl,hx,hy⟩:=y;exact hs i x y pa σ H (hx xs q1) (hy ys q2) hp p
 · have e:i=xs.length:=by omega
   subst e;exact .inl ⟨⟨xs,ys,q1,q2,.inl (UR _)⟩,hd σ H p⟩
end L2
namespace BB
open PySem L2
end BB
namespace BB
open PySem L2
end BB
namespace BB
open PySem L2
section
variable {C:UQ} {Dp:DP} {ins:List (Vm×Int)} {rows:List (List Th)} {head:Th} {ok:Th->Prop} {H:Hp} {L:Lv} {i:Nat} {n:Nd} {B:Lv} {Hg:Hp} {B':Lv} {sp:List (Key×V)}
end
end BB
namespace BB
open PySem L2
end BB
namespace BB
open PySem L2
end BB
namespace BB
open PySem L2
section
variable {C:UQ} {Dp:DP} {ins:List (Vm×Int)} {rows:List (List Th)} {head:Th} {ok:Th->Prop} {H0:Hp} {L B:Lv} {i:Nat} {H:Hp} {L' B':Lv}
end
end BB
namespace BB
open PySem L2
end BB
namespace BB
open PySem L2
end BB
namespace BB
open PySem L2
mutual
theorem gA {ks:List (Vm×Int)} {S C:Int}:∀ (t:Th) (pre:List Int),t.FitS ks S C->∀ c∈callsOf (t.pl pre),0<=c.2.1/\c.2.1<S/\0<=c.2.2/\c.2.2<C
 | .call s k,pre,h,c,hc=>by
   rw [m9] at hc;rw [Vi.mp hc];rw [Th.FitS] at h;exact h
 | .knot n ts,pre,h,c,hc=>by
   rw [mM] at hc;rw [Th.FitS] at h;exact kc ts pre 0 h.2 c hc
theorem kc {ks:List (Vm×Int)} {S C:Int}:∀ (ts:List Th) (pre:List Int) (i:Int),FitSs ks S C ts->∀ c∈callsOf (pls pre i ts),0<=c.2.1/\c.2.1<S/\0<=c.2.2/\c.2.2<C
 | [],pre,i,_,c,hc=>by rw [pls] at hc;cases hc
 | t::ts,pre,i,h,c,hc=>by
   rw [mR] at hc;rw [FitSs] at h;rcases VH.mp hc with hc | hc
   · exact gA t _ h.1 c hc
   · exact kc ts _ _ h.2 c hc
end
end BB
namespace BB
open PySem L2
end BB
namespace BB
open PySem L2
section
variable {ins mid outs:List (Vm×Int)} {S1 S2:Int} {Cu Cv:Th} {Cw Cy:List (List Th)}
end
end BB
namespace BB
open PySem L2
end BB
namespace L2
open PySem PySem.Spec PySem.SeqAt PyProof.Rows
def IsNesm (P:U6) (w:Vj) (h:V9) (k:az) (a:UQ):Prop:=∃ (o:W0) (n:Nat) (b:UQ) (u:UT),h.get? a=some o/\o.cls=.type "tuple"/\o.data=.seq #[u,.ref b] n/\IsTupleKey (aE P w) h k.1 b/\gK k.2 u=true
theorem IsNesm.typeIs {P:U6} {w:Vj} {s:UY} {k:az} {a:UQ} (x:IsNesm P w s.heap k a):s.TypeIs (.ref a) "tuple":=let ⟨o,_,_,_,ho,hc,_⟩:=x;⟨o,ho,hc⟩
theorem IsNesm.inj {P:U6} {w:Vj} {h:V9} {a:UQ} {x y:az} (hx:IsNesm P w h x a) (hy:IsNesm P w h y a):x=y:=by
 obtain ⟨o,n,b,u,ho,_,hd,hb,hu⟩:=hx;obtain ⟨o',n',b',u',zV,_,zD,zE,zo⟩:=hy;obtain rfl:o=o':=Vo (ho.symm.trans zV);rw [hd] at zD;injection zD with h1 _;have h2:=congrArg Array.toList h1;cases h2;exact Prod.ext (hb.inj zE) ((aE P w).inj _ _ _ hu zo)
theorem IsNesm.keeps {P:U6} {w:Vj} {h h':V9} {k:az} {a d:UQ} {o:W0} {es ep} (x:IsNesm P w h k a) (ho:h.get? d=some o) (hd:o.data=.dict es ep) (hs:WH d h h'):IsNesm P w h' k a:=by
 obtain ⟨o',n,b,u,zV,hc,zD,hb,hu⟩:=x
 have yn:a≠d:=by
  rintro rfl;obtain rfl:o'=o:=Vo (zV.symm.trans ho);rw [hd] at zD;exact nomatch zD
 exact ⟨o',n,b,u,(hs.2 a yn).trans zV,hc,zD,hb.keeps ho hd hs,hu⟩
theorem rN {P:U6} {w:Vj} {A:VF} {s:UY} {x y:az} {a b:UQ} (hx:IsNesm P w s.heap x a) (hy:IsNesm P w s.heap y b) (hu:A.units+1<Ww):EqAt A s (.ref a) (.ref b) (decide (x=y)):=by
 by_cases zN:a=b
 · subst zN;obtain rfl:=hx.inj hy;rw [decide_eq_true rfl];exact EqAt.same _
 · obtain ⟨o,n,c,u,ho,hc,hd,hb,hk⟩:=hx;obtain ⟨o',n',c',u',zV,zh,zD,zE,zj⟩:=hy;have p1:s.heap.IsTuple a [u,Vv c].toArray:=⟨o,ho,hc,n,by rw [hd]⟩;have p2:s.heap.IsTuple b [u',Vv c'].toArray:=⟨o',zV,zh,n',by rw [zD]⟩
   have:=kA (A:=A) (ds:=[(X9 x.2:Sum (List Key) Key),VA x.1]) (es:=[X9 y.2,VA y.1]) p1 p2 rfl rfl (by omega) fun j d e v v' e1 e2 e3 e4=>by
    match j with
    | 0 =>
      cases e1;cases e2;cases e3;cases e4;rw [show decide ((X9 x.2:Sum (List Key) Key)=X9 y.2)=decide (x.2=y.2) from decide_eq_decide.mpr ⟨fun z=>Sum.inr.inj z,fun z=>congrArg _ z⟩];exact oX (A:=A.in1) (s:=s) hk zj
    | 1 =>
      cases e1;cases e2;cases e3;cases e4;rw [show decide ((VA x.1:Sum (List Key) Key)=VA y.1)=decide (x.1=y.1) from decide_eq_decide.mpr ⟨fun z=>XJ z,fun z=>congrArg _ z⟩];exact sy (A:=A.in1) hb zE (show A.units+1<Ww from hu)
    | j+2=>cases e1
   refine EqAt.of_refs zN ?_
   rw [show decide (x=y)=decide ([(X9 x.2:Sum (List Key) Key),VA x.1]=[X9 y.2,VA y.1]) from decide_eq_decide.mpr ⟨fun z=>by rw [z],fun z=>by
    injection z with z1 z2;injection z2 with z2 _;exact Prod.ext (XJ z2) (Sum.inr.inj z1)⟩]
   exact this
def j3 (P:U6) (w:Vj) (k:az):Int:=reduceHash (W4 [(aE P w).hash k.2,YM (aE P w) k.1])
theorem nX {P:U6} {w:Vj} {A:VF} {E:UT->UY->Prop} {s:UY} {k:az} {a:UQ} {Q:Int->UY->Prop} (hu:A.units+1<Ww) (hk:IsNesm P w s.heap k a) (h:Q (j3 P w k) { s with toks:=s.toks+(k.1.length+3) }) :
 Va (Vw P w) A (pyHash (.ref a)) Q E s:=by
 have hT:=hk.typeIs;obtain ⟨o,n,c,u,ho,hc,hd,hb,hk⟩:=hk;unfold pyHash
 first | unfold pyHashByItsType | skip
 first | refine UM (wpAny_cRoomFor_or (.inr (by omega)) ?_) | skip
 refine UM (Wr hT ZG.lookup ?_);show Va _ _ (if (some (Value.builtin "tuple.__hash__") == some Wm)=true then _ else _) Q E s;rw [if_neg (by rw [beq_builtin_none];exact Ve)];refine UM (Wr hT ZG.lookup ?_);show Va _ _ (callSpecialIfBoundUnlessNone? (.ref a) "__hash__" _ >>= _) Q E s;refine UM (wpAny_callSpecialIfBoundUnlessNone?_slot hT ZG (V2 ZG hT F.entry_tuple_hash ?_ (F.args_tuple_hash_1 _)));show Va _ _ (Ys (.ref a) >>= _) _ _ s;refine UM (wpAny_tupleItemsOf ho hd ?_);refine UM ?_;rw [<- Yy]
 refine wpAny_forIn_list _
  (fun rest (b:Array Int) s'=>(rest=[u,.ref c]/\b=#[]/\s'=s)∨(rest=[.ref c]/\b=#[(aE P w).hash k.2]/\s'={ s with toks:=s.toks+1 })∨(rest=[]/\b=#[(aE P w).hash k.2,YM (aE P w) k.1]/\s'={ s with toks:=s.toks+1+(k.1.length+1) }))
  _ ?_ ?_ _ _ (.inl ⟨rfl,rfl,rfl⟩)
 · rintro x rest b s' (⟨e1,rfl,rfl⟩ | ⟨e1,rfl,rfl⟩ | ⟨e1,_⟩)
   · cases e1;refine UM ((aE P w).pyHash hk ?_)
     first
      | exact UX (.inr (.inl ⟨rfl,rfl,rfl⟩))
      | exact UM (UX (UX (.inr (.inl ⟨rfl,rfl,rfl⟩))))
   · cases e1;refine UM (wpAny_pyHash_tuple (by show _<Ww;first | exact hu | omega) hb ?_)
     first
      | exact UX (.inr (.inr ⟨rfl,rfl,rfl⟩))
      | exact UM (UX (UX (.inr (.inr ⟨rfl,rfl,rfl⟩))))
   · cases e1
 · rintro b s' (⟨e1,_⟩ | ⟨e1,_⟩ | ⟨_,rfl,rfl⟩)
   · cases e1
   · cases e1
   show Va _ _ (retInt (W4 [(aE P w).hash k.2,YM (aE P w) k.1])) _ _ _;refine wpAny_ret_mkInt ?_;show Va _ _ (if (decide (-(2:Int) ^ 63<=W4 [(aE P w).hash k.2,YM (aE P w) k.1]) && decide (W4 [(aE P w).hash k.2,YM (aE P w) k.1]<2 ^ 63))=true then _ else _) Q E _;unfold j3 reduceHash at h;by_cases hr:(decide (-(2:Int) ^ 63<=W4 [(aE P w).hash k.2,YM (aE P w) k.1]) && decide (W4 [(aE P w).hash k.2,YM (aE P w) k.1]<2 ^ 63))=true
   · rw [if_pos hr];rw [if_pos hr] at h;exact UX (by rw [show k.1.length+3=1+(k.1.length+2) by omega] at h;simpa [Zi] using h)
   · rw [if_neg hr];rw [if_neg hr] at h;exact UM (XA (UX (by rw [show k.1.length+3=1+(k.1.length+2) by omega] at h;simpa [Zi] using h)))
theorem qb {P:U6} {w:Vj} {A:VF} {E:UT->UY->Prop} {s:UY} {k:az} {a:UQ} {Q:Bool->UY->Prop} (hk:IsNesm P w s.heap k a) (h:Q true s):Va (Vw P w) A (eqIsQuiet 8 (.ref a)) Q E s:=by
 have hT:=hk.typeIs;obtain ⟨o,n,c,u,ho,hc,hd,hb,hk⟩:=hk;unfold eqIsQuiet;refine UM (Wr hT F.slot_tuple_eq.lookup ?_);show Va _ _ (isInstance (.ref a) (.type "tuple") >>= _) _ _ s;refine UM (Xw hT isSubtype_tuple_tuple ?_);simp only [YL,V7,if_false];refine UM (Wj ho hd ?_);refine UM ?_;show Va _ _ (forIn #[u,Vv c] _ _) _ _ s;rw [<- Yy];refine wpAny_forIn_list _ (fun rest r s'=>r.1=none/\s'=s/\∀ v∈rest,v=.ref c∨v=u) _ ?_ ?_ _ _ ⟨rfl,rfl,fun v hv=>by simpa [or_comm] using hv⟩
 · rintro v rest r s' ⟨hr,rfl,xY⟩;have Eh:∀ z∈rest,z=.ref c∨z=u:=fun z hz=>xY z (Vf _ hz);rcases xY v Vk with rfl | rfl
   · refine UM (qf hb ?_);simp only [YL,V7,if_false];exact UX ⟨rfl,rfl,Eh⟩
   · rw [eqIsQuiet_byValue _ ((aE P w).byValue _ _ hk)];refine UM (UX ?_);simp only [YL,V7,if_false];exact UX ⟨rfl,rfl,Eh⟩
 · rintro ⟨r1,r2⟩ s' ⟨hr,rfl,_⟩;simp only at hr;subst hr;exact UX h
def cp (P:U6) (w:Vj):HeapKind P w az where
 is:=IsNesm P w
 hash:=j3 P w
 draws:=fun k=>k.1.length+3
 room:=fun A=>A.units+1<Ww
 inj:=fun hx hy=>hx.inj hy
 keeps:=fun x ho hd hs=>x.keeps ho hd hs
 pyHash:=fun hu hk h=>nX hu hk h
 eqBool:=fun hu hx hy h=>rN hx hy hu _ _ _ _ h
 quiet:=fun hk h=>qb hk h
def oW (P:U6) (w:Vj) (xs:List (az×UQ×UT)) (a:UQ) (h:V9):Prop:=∃ o es ep,h.get? a=some o/\o.ExactDict/\o.data=.dict es ep/\es.toList=xs.map (entryOfKey (cp P w))/\(xs.map (·.1)).Nodup
def MKAt (H:Hp) (k:az) (b:UQ):Prop:=∃ c,H b=some (.tup [kV k.2,.ref c])/\H c=some (.tup (k.1.map kV))
abbrev KTm (H:Hp):List (az×V)->List (az×UQ×UT)->Prop:=Vs fun p q=>p.1=q.1/\MKAt H q.1 q.2.1/\RelV p.2 q.2.2
def DM (P:U6) (w:Vj) (H:Hp) (a:UQ) (f':List (az×V)):Prop:=f'.length<=Vb/\(a == WJ)=false/\∃ xs φ,H a=some (.ext φ)/\(∀ h,φ h->oW P w xs a h)/\KTm H f' xs
theorem MKAt.mono {H H':Hp} (k:BB.KT H H') {n:az} {b:UQ} (h:MKAt H n b):MKAt H' n b:=by
 obtain ⟨c,h1,h2⟩:=h;exact ⟨c,k _ _ h1,k _ _ h2⟩
theorem KTm.mono {H H':Hp} (k:BB.KT H H') {f':List (az×V)} {xs:List (az×UQ×UT)} (r:KTm H f' xs):KTm H' f' xs:=Vs.mapP r fun _ _ z=>⟨z.1,z.2.1.mono k,z.2.2⟩
theorem DM.mono {P:U6} {w:Vj} {H H':Hp} (s:Same H H') {a:UQ} {f':List (az×V)} (h:DM P w H a f'):DM P w H' a f':=by
 obtain ⟨z,hd,xs,φ,e,f,r⟩:=h;exact ⟨z,hd,xs,φ,s _ _ e,f,KTm.mono (BB.Same.kt s) r⟩
theorem fx {P:U6} {w:Vj} {H:Hp} {h:V9} {k:az} {b:UQ} (ok:HOk P w H h) (e:MKAt H k b):IsNesm P w h k b:=by
 obtain ⟨c,h1,h2⟩:=e;obtain ⟨_,its,n,r,e1⟩:=(show ObjOk P w H h b (.tup [kV k.2,.ref c]) from ok b _ h1);cases r with
 | cons r1 r =>
 cases r with
 | cons r2 r =>
 cases r;cases r2;exact ⟨_,n,c,_,e1,rfl,rfl,hZ ok h2,kg (P:=P) (w:=w) r1⟩
theorem jv {P:U6} {w:Vj} {H:Hp} {h:V9} {a:UQ} {f':List (az×V)} (ok:HOk P w H h) (e:DM P w H a f'):f'.length<=Vb/\(a == WJ)=false/\∃ xs φ,H a=some (.ext φ)/\KTm H f' xs/\h.DictOfH (cp P w) a xs:=by
 obtain ⟨z,y,xs,φ,ea,f,r⟩:=e;obtain ⟨o,es,ep,h1,h2,h3,h4,h5⟩:=f h (ok a _ ea).1;refine ⟨z,y,xs,φ,ea,r,o,es,ep,h1,h2,h3,h4,fun x hx=>?_,h5⟩
 have all:∀ {l:List (az×V)} {m:List (az×UQ×UT)},KTm H l m->∀ x∈m,(cp P w).is h x.1 x.2.1:=by
  intro l m q;induction q with
  | nil=>intro x hx;exact nomatch hx
  | @cons p q ps qs hq t ih =>
    intro x hx;rcases Vd.mp hx with e | hx
    · subst e;exact fx ok hq.2.1
    · exact ih x hx
 exact all r x hx
theorem KTm.val {H:Hp} {f':List (az×V)} {xs:List (az×UQ×UT)} (r:KTm H f' xs) (k:az):RelO (aV f' k) ((Yn xs k).map (·.2)):=by
 induction r with
 | nil=>exact WX
 | @cons p q ps qs hq t ih =>
   by_cases e:p.1=k
   · rw [bG e];have:Yn (q::qs) k=some q.2:=by simp [Yn,Xx,<- hq.1,e]
     rw [this];exact hq.2.2
   · rw [bL e];have:Yn (q::qs) k=Yn qs k:=by simp [Yn,Xx,<- hq.1,e]
     rw [this];exact ih
theorem KTm.put {H:Hp} {f':List (az×V)} {xs:List (az×UQ×UT)} (r:KTm H f' xs) (k:az) {b:UQ} {y:V} {u:UT} (hb:MKAt H k b) (ry:RelV y u):KTm H (putK f' k y) (Zz xs k b u):=by
 have hv:=KTm.val r k;cases e:aV f' k with
 | none =>
   rw [e] at hv
   have hn:Yn xs k=none:=by
    cases q:Yn xs k with
    | none=>rfl
    | some p=>rw [q] at hv;exact hv.elim
   rw [kK y e,storedH_new hn];exact BB.P2.append r (.cons ⟨rfl,hb,ry⟩ .nil)
 | some v0 =>
   rw [e] at hv
   obtain ⟨p,hp⟩:∃ p,Yn xs k=some p:=by
    cases q:Yn xs k with
    | none=>rw [q] at hv;exact hv.elim
    | some p=>exact ⟨p,rfl⟩
   rw [storedH_old hp];unfold putK;rw [if_pos (by rw [dD,e];rfl)]
   have all:∀ {l:List (az×V)} {m:List (az×UQ×UT)},KTm H l m->KTm H (l.map fun kv=>if kv.1=k then (kv.1,y) else kv) (m.map (putAt k u)):=by
    intro l m q;induction q with
    | nil=>exact .nil
    | @cons p q ps qs hq t ih =>
      refine .cons ?_ ih;unfold putAt;dsimp only;by_cases z:p.1=k
      · rw [if_pos z,if_pos (by rw [<- hq.1];exact z)];exact ⟨hq.1,hq.2.1,ry⟩
      · rw [if_neg z,if_neg (by rw [<- hq.1];exact z)];exact hq
   exact all r
section
variable {X:Cx} {pins:List (UQ×W0)} {σ:St} {H:Hp} {s:UY} {o i value:V4} {pos pos':YJ} {td ty tv:TE}
inductive tU (P:U6) (w:Vj) (x y:V) (H:Hp) (Q:VK):Prop
 | mk (a b:UQ) (k:az) (f':List (az×V)) (v:V) (z0:x=.ref a) (z1:y=.ref b) (z2:DM P w H a f') (z3:MKAt H k b) (z4:aV f' k=some v) (z5:Q v H):tU P w x y H Q
def tf (P:U6) (w:Vj) (td ty:TE):TE:=fun σ H Q=>td σ H fun x H1=>ty σ H1 fun y H2=>tU P w x y H2 Q
theorem ph (hu:X.A.units+2<Ww) (ho:PE X o td) (hi:PE X i ty) (hs:wf i):PE X (.Subscript o i pos) (tf X.prog X.w td ty):=by
 intro pins s σ H Q I h;refine rb PySem.F.slot_dict_getitem.lookup hs (thn (ho pins s σ H _ I h) fun u s1 ⟨x,H1,I1,rx,q1⟩=>thn (hi pins s1 σ H1 _ I1 q1) fun iv s2 ⟨y,H2,I2,ry,q2⟩=>?_);obtain ⟨a,b,k,f',v,rfl,rfl,hd,hk,hv,q⟩:=q2;obtain rfl:u=Vv a:=rx;obtain rfl:iv=Vv b:=ry;obtain ⟨_,_,xs,φ,ea,rel,dd⟩:=jv I2.hok hd;obtain ⟨w',hw,Bt⟩:=RelO.some_of (v:=v) (o:=(Yn xs k).map (·.2)) (by rw [<- hv];exact KTm.val rel k);obtain ⟨p,hp,Ad⟩:=Vr.mp hw;refine ⟨dd.typeIs,wpAny_getItem_heap (knd:=cp X.prog X.w) (show X.A.units+1+1<Ww from hu) (fx I2.hok hk) dd hp ?_⟩;rw [Ad];exact ⟨v,H2,I2.tok _,Bt,q⟩
inductive tu (P:U6) (w:Vj) (x y v:V) (H:Hp) (R:Hp->Prop):Prop
 | mk (a b:UQ) (k:az) (f':List (az×V)) (z0:x=.ref a) (z1:y=.ref b) (z2:DM P w H a f') (z3:MKAt H k b) (z4:f'.length<Vb) (z5:∀ H',(∀ c o,c≠a->H c=some o->H' c=some o)->DM P w H' a (putK f' k v)->R H'):tu P w x y v H R
def wm (P:U6) (w:Vj) (td ty tv:TE):TS:=fun D σ H=>tv σ H fun v H1=>td σ H1 fun x H2=>ty σ H2 fun y H3=>tu P w x y v H3 fun H4=>D.nx σ H4
theorem tK (hu:X.A.units+2<Ww) (ho:PE X o td) (hi:PE X i ty) (hv:PE X value tv) (hs:swapsWith value (some (.Subscript o i pos')) pos.line X.env=pure false) :
 PS X (.Assign [.Subscript o i pos'] value pos) (wm X.prog X.w td ty tv):=by
 intro pins s σ H D I h;refine wpAny_Assign_Subscript (thn (hv pins s σ H _ I h) fun r s1 ⟨v,H1,I1,rv,q1⟩=>thn (ho pins s1 σ H1 _ I1 q1) fun u s2 ⟨x,H2,I2,rx,q2⟩=>thn (hi pins s2 σ H2 _ I2 q2) fun iv s3 ⟨y,H3,I3,ry,q3⟩=>?_) hs;obtain ⟨a,b,k,f',rfl,rfl,hd,hk,hl,q⟩:=q3;obtain rfl:u=Vv a:=rx;obtain rfl:iv=Vv b:=ry;obtain ⟨z,zD,xs,φ,ea,rel,dd⟩:=jv I3.hok hd;have hz:xs.length<=Vb:=by rw [<- U2 rel];exact z
 have KJ:(putK f' k v).length<=Vb:=by have:=bX f' k v;omega
 refine wpAny_setItem_heap (knd:=cp X.prog X.w) (hsz:=hz) (show X.A.units+1+1<Ww from hu) (fx I3.hok hk) dd fun h' Bx hs=>?_;obtain ⟨ob,es,ep,hq,h2,h3,h4,_,h5⟩:=Bx;have ne:oW X.prog X.w (Zz xs k b r) a h':=⟨ob,es,ep,hq,h2,h3,h4,h5⟩
 have I4:=gD (ob:=.ext (oW X.prog X.w (Zz xs k b r) a)) (t':=s3.toks+(cp X.prog X.w).draws k) I3 (by rw [ea];exact WX) hs ⟨ob,hq⟩ ⟨ne,⟨ob,hq⟩,fun h1 h2 p kk=>by
  obtain ⟨o1,Hw,Hz,g1,g2⟩:=p;exact ⟨o1,Hw,Hz,kk _ g1,g2⟩⟩
 have kt:BB.KT H3 (upd H3 a (.ext (oW X.prog X.w (Zz xs k b r) a))):=fun c ys ec=>by
  rw [ai (eP ec ea (fun z=>nomatch z))];exact ec
 exact ⟨σ,_,I4,q _ (fun c o hc e=>by rw [ai hc];exact e) ⟨KJ,zD,_,_,ab,fun _ p=>p,KTm.mono kt (KTm.put rel k hk rv)⟩⟩
def wb (P:U6) (w:Vj):TE:=fun _ H Q=>∀ p H',H p=none->Same H H'->DM P w H' p []->Q (.ref p) H'
theorem nZ:PE X (.Dict [] [] pos) (wb X.prog X.w):=fun pins s σ H Q I h=>by
 have hn:H s.heap.objs.size=none:=I.hok.fresh (UR _);have ne:oW X.prog X.w [] s.heap.objs.size (s.heap.push { cls:=.type "dict",data:=.dict #[] }):=⟨_,#[],0,U4 _ rfl,⟨rfl,rfl,rfl⟩,rfl,rfl,Y4⟩;refine wpAny_Dict_empty ⟨.ref s.heap.objs.size,_,I.laid (a:=s.heap.objs.size) (o:=.ext (oW X.prog X.w [] s.heap.objs.size)) (t':=s.toks) (fun _ _ q=>UW _ q) (UR _) ⟨ne,⟨_,U4 _ rfl⟩,fun h1 h2 p kk=>?_⟩,rfl,h _ _ hn (ad hn _) ⟨Vn _,beq_eq_false_iff_ne.mpr (WG (Vy I.big)),[],_,ab,fun _ p=>p,.nil⟩⟩;obtain ⟨o1,Hw,Hz,g1,g2⟩:=p;exact ⟨o1,Hw,Hz,kk _ g1,g2⟩
end
end L2
namespace L2
open PySem PySem.Spec PyProof.Rows
section
variable {X:Cx} {pins:List (UQ×W0)} {σ:St} {H:Hp} {s:UY} {o i e f:V4} {pos apos yh:YJ} {td ty tx:TE}
theorem qR {f':List (az×V)} {xs:List (az×UQ×UT)} (rel:KTm H f' xs) (k:az):(aV f' k).isSome=(Yn xs k).isSome:=by
 have q:=(KTm.val rel k).isSome_eq;rw [Option.isSome_map] at q;exact q
inductive u9 (f:Bool->Bool) (P:U6) (w:Vj) (y x:V) (H:Hp) (Q:VK):Prop
 | mk (a b:UQ) (k:az) (f':List (az×V)) (z0:x=.ref a) (z1:y=.ref b) (z2:DM P w H a f') (z3:MKAt H k b) (z4:Q (.bl (f (aV f' k).isSome)) H):u9 f P w y x H Q
def vz (f:Bool->Bool) (P:U6) (w:Vj) (ty td:TE):TE:=fun σ H Q=>ty σ H fun y H1=>td σ H1 fun x H2=>u9 f P w y x H2 Q
theorem uH (hu:X.A.units+2<Ww) (hi:PE X i ty) (ho:PE X o td):PC X .In i o (vz (fun b=>b) X.prog X.w ty td):=by
 intro pins s σ H Q I h;refine thn (hi pins s σ H _ I h) fun iv s1 ⟨y,H1,I1,ry,q1⟩=>thn (ho pins s1 σ H1 _ I1 q1) fun u s2 ⟨x,H2,I2,rx,q2⟩=>?_;obtain ⟨a,b,k,f',rfl,rfl,hd,hk,q⟩:=q2;obtain rfl:u=Vv a:=rx;obtain rfl:iv=Vv b:=ry;obtain ⟨_,zD,xs,φ,ea,rel,dd⟩:=jv I2.hok hd;refine wpAny_in_heap (knd:=cp X.prog X.w) (show X.A.units+1+1<Ww from hu) (fx I2.hok hk) zD dd ?_;rw [<- qR rel k];exact ⟨.bl _,H2,I2.tok _,rfl,q⟩
theorem pJ (hu:X.A.units+2<Ww) (hi:PE X i ty) (ho:PE X o td):PC X .NotIn i o (vz (fun b=>!b) X.prog X.w ty td):=by
 intro pins s σ H Q I h;refine thn (hi pins s σ H _ I h) fun iv s1 ⟨y,H1,I1,ry,q1⟩=>thn (ho pins s1 σ H1 _ I1 q1) fun u s2 ⟨x,H2,I2,rx,q2⟩=>?_;obtain ⟨a,b,k,f',rfl,rfl,hd,hk,q⟩:=q2;obtain rfl:u=Vv a:=rx;obtain rfl:iv=Vv b:=ry;obtain ⟨_,zD,xs,φ,ea,rel,dd⟩:=jv I2.hok hd;refine wpAny_notIn_heap (knd:=cp X.prog X.w) (show X.A.units+1+1<Ww from hu) (fx I2.hok hk) zD dd ?_;rw [<- qR rel k];exact ⟨.bl _,H2,I2.tok _,rfl,q⟩
inductive qC (P:U6) (w:Vj) (x y z:V) (H:Hp) (Q:VK):Prop
 | mk (a b:UQ) (k:az) (f':List (az×V)) (z0:x=.ref a) (z1:y=.ref b) (z2:DM P w H a f') (z3:MKAt H k b) (z4:Q ((aV f' k).getD z) H):qC P w x y z H Q
def uE (P:U6) (w:Vj) (td ty tx:TE):TE:=fun σ H Q=>td σ H fun x H1=>∃ a f',x=.ref a/\DM P w H1 a f'/\ty σ H1 fun y H2=>tx σ H2 fun z H3=>qC P w x y z H3 Q
theorem sV {a:UQ} {f':List (az×V)} (I:Inv X pins σ H s) (d:DM X.prog X.w H a f'):s.TypeIs (.ref a) "dict"/\(∀ b,Vv a=.ref b->∃ ob,s.heap.get? b=some ob/\ob.dict=none):=by
 obtain ⟨_,hd,xs,φ,_,_,dd⟩:=jv I.hok d;refine ⟨dd.typeIs,fun b q=>?_⟩;cases q;obtain ⟨ob,_,_,h1,h2,_⟩:=dd;exact ⟨ob,h1,h2.2.1⟩
theorem rQ (hu:X.A.units+2<Ww) (ho:PE X o td) (he:PE X e ty) (hf:PE X f tx) (m:M2 X o "get" apos e f yh):PE X (.Call (.Attribute o "get" apos) [e,f] [] yh) (uE X.prog X.w td ty tx):=by
 intro pins s σ H Q I h;refine wpAny_Call_method m.base m.few m.line Zo XW PySem.F.type_dict_get (thn (ho pins s σ H _ I h) fun u s1 ⟨x,H1,I1,rx,a,Q6,ex,d,q1⟩=>?_);subst ex;obtain rfl:u=Vv a:=rx;obtain ⟨t1,t2⟩:=sV I1 d;refine ⟨t1,t2,?_⟩;rw [m.trees]
 refine X2 rfl (Y7 (Wv (thn (he pins s1 σ H1 _ I1 q1) fun iv s2 ⟨y,H2,I2,ry,q2⟩ =>
  Wv (thn (hf pins s2 σ H2 _ I2 q2) fun fv s3 ⟨z,H3,I3,rz,q3⟩=>WV ?_))))
 obtain ⟨a',b,k,f',Q7,rfl,hd,hk,q⟩:=q3;cases Q7;obtain rfl:iv=Vv b:=ry;obtain ⟨_,zD,xs,φ,ea,rel,dd⟩:=jv I3.hok hd;refine call_meetsIn XW dd.typeIs Zt (Zq _ _ _) (meetsH_dict_get_default (cp X.prog X.w) a b zD fv) ⟨(show X.A.units+1+1<Ww from hu),k,xs,fx I3.hok hk,dd,?_⟩;exact ⟨_,H3,I3.tok _,(KTm.val rel k).getD rz,q⟩
inductive o0 (P:U6) (w:Vj) (x:V) (vs:List V) (H:Hp) (Q:VK):Prop
 | mk (a b:UQ) (v:V) (k:az) (f':List (az×V)) (z0:x=.ref a) (z1:vs=[.ref b,v]) (z2:DM P w H a f') (z3:MKAt H k b) (z4:f'.length<Vb)
  (z5:∀ u,aV f' k=some u->Q u H) (z6:aV f' k=none->∀ H',(∀ c o,c≠a->H c=some o->H' c=some o)->DM P w H' a (putK f' k v)->Q v H'):o0 P w x vs H Q
theorem fW (hu:X.A.units+2<Ww):MtM X "dict.setdefault" (o0 X.prog X.w):=by
 intro pins s σ H x vs v us Q I rx rv h;obtain ⟨a,b,y,k,f',rfl,rfl,e,eb,l,q1,q2⟩:=h;cases rx;cases rv with
 | cons r1 rv =>
 cases rv with
 | cons r2 rv =>
 cases rv;cases r1;obtain ⟨z,hd,xs,φ,ea,rel,dd⟩:=jv I.hok e;have hz:xs.length<=Vb:=by rw [<- U2 rel];exact z
 have hl:(putK f' k y).length<=Vb:=by have:=bX f' k y;omega
 have hT:s.TypeIs (.ref a) "dict":=dd.typeIs;refine call_meetsIn YS hT PySem.F.entry_dict_setdefault (PySem.F.args_dict_setdefault_3 _ _ _) (bb_meets_setdefault (cp X.prog X.w) a b _ hd) ⟨(show X.A.units+1+1<Ww from hu),k,xs,fx I.hok eb,dd,hz,fun p hp=>?_,fun hn h' Bx hs=>?_⟩
 · have hr:=KTm.val rel k;rw [hp] at hr;cases hv:aV f' k with
   | none=>rw [hv] at hr;exact hr.elim
   | some u =>
     rw [hv] at hr;exact ⟨u,H,I.tok _,hr,q1 u hv⟩
 · have hr:=KTm.val rel k;rw [hn] at hr;cases hv:aV f' k with
   | some u=>rw [hv] at hr;exact hr.elim
   | none =>
     obtain ⟨ob,es,ep,hq,h2,h3,h4,_,h5⟩:=Bx;have ne:oW X.prog X.w (Zz xs k b _) a h':=⟨ob,es,ep,hq,h2,h3,h4,h5⟩
     have I4:=gD (t':=s.toks+(cp X.prog X.w).draws k) I (by rw [ea];exact WX) hs ⟨ob,hq⟩ (ob:=.ext (oW X.prog X.w (Zz xs k b _) a)) ⟨ne,⟨ob,hq⟩,fun h1 h2 p kk=>by
      obtain ⟨o1,Hw,Hz,g1,g2⟩:=p;exact ⟨o1,Hw,Hz,kk _ g1,g2⟩⟩
     have kt:∀ ψ:V9->Prop,BB.KT H (upd H a (.ext ψ)):=fun ψ c ys ec=>by
      rw [ai (eP ec ea (fun z=>nomatch z))];exact ec
     exact ⟨y,_,I4,r2,q2 hv _ (fun c o hc e=>by rw [ai hc];exact e) ⟨hl,hd,_,_,ab,fun _ p=>p,KTm.mono (kt _) (KTm.put rel k eb r2)⟩⟩
inductive sF (P:U6) (w:Vj) (xs:List V) (H:Hp) (Q:VK):Prop
 | mk (a:UQ) (f':List (az×V)) (z0:xs=[.ref a]) (z1:DM P w H a f') (z2:∀ (l:UQ) (bs:List UQ),H l=none->Vs (fun kv b=>MKAt H kv.1 b) f' bs->Q (.ref l) (upd H l (.lst (bs.map V.ref)))):sF P w xs H Q
theorem sQ {f':List (az×V)} {ys:List (az×UQ×UT)} (rel:KTm H f' ys):Vs (fun kv b=>MKAt H kv.1 b) f' (ys.map fun y=>y.2.1):=by
 induction rel with
 | nil=>exact .nil
 | cons h t ih=>exact .cons (by rw [h.1];exact h.2.1) ih
theorem pZ (hc:X.calm=true):fJ X (.type "list") (sF X.prog X.w):=by
 intro pins s σ H xs us Q I r h;obtain ⟨a,f',rfl,e,q⟩:=h;obtain ⟨u,rfl,rx⟩:=vals1 r;cases rx;obtain ⟨z,hd,ys,φ,ea,rel,dd⟩:=jv I.hok e;have hT:=dd.typeIs;obtain ⟨o,es,ep,ho,TM,J7,he,J5,hn⟩:=dd;obtain ⟨o',zV,zY⟩:=hT;have eo:o'=o:=Vo (zV.symm.trans ho);subst eo;have hl:f'.length=ys.length:=U2 rel
 have LD:es.toList.map (·.key)=ys.map fun y=>Vv y.2.1:=by
  rw [he,W2];rfl
 have hsz:es.size<=Vb:=by
  have:=congrArg Xg LD;rw [UL,UL,Vz] at this;omega
 have hh:X.A.in1.in1.handled=none:=I.ok.hd hc;refine bb_list_keys hh hd zV zY J7 hsz fun h' acc c hk hS yd=>?_;have hp:Vs (fun kv b=>MKAt H kv.1 b) f' (ys.map fun y=>y.2.1):=sQ rel;refine ⟨.ref s.heap.objs.size,upd H s.heap.objs.size (.lst ((ys.map fun y=>y.2.1).map V.ref)),?_,rfl,q _ _ I.fresh hp⟩;refine I.laid (t':=s.toks) hk (UR _) ⟨by rw [UL,UL];omega,acc.toList,c,?_,hS⟩;rw [yd,LD];clear hn J5 he LD yd hS hl z rel hp q;induction ys with
 | nil=>exact .nil
 | cons y ys ih=>exact .cons rfl ih
def xA (P:U6) (w:Vj) (r:V->List V->Hp->VK->Prop) (to:TE) (t:TA):TE:=fun σ H Q=>to σ H fun x H1=>(∃ a f',x=.ref a/\DM P w H1 a f')/\t σ H1 fun xs H2=>r x xs H2 Q
theorem sU {es:List V4} {to:TE} {t:TA} {name:Vm} {id:String} {r:V->List V->Hp->VK->Prop} (slot:Slot "dict" name id) (GR:typeOf (.builtin id)=pure (.type "method_descriptor")) (hm:MtR X id r) (ho:PE X o to) (ha:PA X (e::es) t)
 (Aq:attributeBase o name X.env (Xf o X.env)=Xf o X.env:=by rfl)
 (EV:((YR yh (VR (e::es) X.env)).all (fun x=>!x.1) && (backToKw yh (keywordEach [] X.env)).all (fun x=>x.1.isSome)
  && decide ((e::es).length+([]:List Keyword).length+(if ([]:List Keyword).isEmpty then 0 else 1)<30))=true:=by rfl)
 (Ar:(apos.endLine == yh.line)=true:=by rfl) (hs:VR (e::es) X.env=(false,Xf e X.env)::VR es X.env:=by rfl) (AV:(YR yh (VR es X.env)).any (·.1)=false:=by rfl) :
 PE X (.Call (.Attribute o name apos) (e::es) [] yh) (xA X.prog X.w r to t):=by
 intro pins s σ H Q I h;refine wpAny_Call_method_late Aq EV Ar rfl (thn (ho pins s σ H _ I h) fun v s1 ⟨x,H1,I1,r1,⟨a,f',ex,hd⟩,q1⟩=>?_);subst ex;obtain rfl:v=Vv a:=r1;obtain ⟨h1,h2⟩:=sV I1 hd;refine ⟨"dict",id,Zo,slot,GR,h1,h2,?_⟩;have hA:=ha yh pins s1 σ H1 _ I1 q1;rw [hs] at hA ⊢;refine X2 (by show (false || (YR yh (VR es X.env)).any (·.1))=false;rw [AV] <;> rfl) (Y7 ?_);exact thn hA fun vs s2 ⟨xs,H2,I2,rv,q2⟩=>hm pins s2 σ H2 (.ref a) xs (.ref a) vs Q I2 rfl rv q2
end
end L2
namespace BB
open PySem L2
theorem mH {K:UO} {H:Hp}:∀ {ps:List (List Int×Th)} {as:List UQ},PsAtK K H ps as->∃ bs,Vs (fun (p:List Int×Th) b=>H b=some (.tup (p.1.map V.int))) ps bs/\bs.length=as.length/\∀ (i:Nat) x b,(as.map V.ref)[i]?=some x->bs[i]?=some b->∃ a ta,x=.ref a/\H a=some (.tup [.ref b,.ref ta])
 | _,_,.nil=>⟨[],.nil,rfl,fun i x b h=>by simp at h⟩
 | _,_,.cons r h=>by
   obtain ⟨pa,ta,h1,h2,_⟩:=r;obtain ⟨bs,g1,g2,g3⟩:=mH h;refine ⟨pa::bs,.cons h2 g1,by rw [U1,U1,g2],fun i x b hx hb=>?_⟩;cases i with
   | zero =>
     simp at hx hb;subst hx;subst hb;exact ⟨_,ta,rfl,h1⟩
   | succ i=>exact g3 i x b (by simpa using hx) (by simpa using hb)
theorem sO {α:Type} {F:Hp->α->UQ->Prop} {js:List (Option Nat)} {g:TG} {tt:TT} {te:TE} {σ:St} {J:It} {H:Hp} {xs:List V} {fin:UQ->Hp->Prop} (zs:List α) (p:α->Bool) (hF:∀ H1 H2 z p,KT H1 H2->F H1 z p->F H2 z p) (hz:zs.length=xs.length) (hn:xs.length<=1000000)
 (BY:∀ i H2,L2.Same H H2->i<xs.length->J.go i H2) (yZ:∀ H2,L2.Same H H2->J.stop xs.length H2) (zZ:∀ (i:Nat) H2 x H3,L2.Same H H2->i<xs.length->J.yld i H2 x H3->H3=H2/\xs[i]?=some x)
 (hb:∀ (i:Nat) x z H2 (R:VK) (W':Hp->Prop),xs[i]?=some x->zs[i]?=some z->L2.Same H H2->(p z=true->∀ H3 q,L2.Same H2 H3->F H3 z q->R (.ref q) H3)->(p z=false->∀ H3,L2.Same H2 H3->W' H3)->g x (cσ js σ) H2 fun ym H3=>tt ym H3 fun b H4=>if b=true then te ym H4 R else W' H4)
 (zk:∀ D H' as,H D=none->L2.Same H H'->H' D=some (.lst (as.map V.ref))->Vs (F H') (zs.filter p) as->fin D H') :
 ∀ D,H D=none->∃ (n:Nat) (W:Nat->Hp->Prop),W 0 (upd H D (.lst []))/\fH js g tt te σ J D n W fun H'=>fin D H':=by
 intro D hD;refine ⟨xs.length,fun i H'=>i<=xs.length/\L2.Same H H'/\∃ as:List UQ,H' D=some (.lst (as.map V.ref))/\Vs (F H') ((zs.take i).filter p) as,⟨Vn _,ad hD _,[],by rw [ab];rfl,.nil⟩,?_⟩;rintro i H' ⟨hi,s1,as,e1,hp⟩;by_cases ye:i<xs.length
 · refine .inr ⟨ye,BY i H' s1 ye,fun v H1 hy=>?_⟩;obtain ⟨e,hx⟩:=zZ i H' v H1 s1 ye hy;subst e;obtain ⟨z,za⟩:∃ z,zs[i]?=some z:=⟨_,UN (by omega)⟩;have hl:((zs.take i).filter p).length=as.length:=U2 hp;have yP:=Xq p (zs.take i);rw [VE] at yP;refine hb i v z _ _ _ hx za s1 (fun Cz H3 q s3 Lp=>⟨_,s3 _ _ e1,?_,ye,ax (s1.trans s3) hD,as++[q],?_,?_⟩) (fun Cz H3 s3=>⟨ye,s1.trans s3,as,s3 _ _ e1,?_⟩)
   · rw [UL];have:Vb=16777216:=YH;omega
   · rw [ab,U5];rfl
   · have kt:KT H3 (upd H3 D (.lst (as.map V.ref++[.ref q]))):=aU (s3 _ _ e1);rw [take_snoc za,Y6,WZ,if_pos Cz,ZF];exact P2.append (P2.mp (fun x y e=>hF _ _ _ _ ((Same.kt s3).trans kt) e) hp) (.cons (hF _ _ _ _ kt Lp) .nil)
   · rw [take_snoc za,Y6,WZ,if_neg (by rw [Cz];exact Ve),ZF,VB];exact P2.mp (fun x y e=>hF _ _ _ _ (Same.kt s3) e) hp
 · have yR:i=xs.length:=by omega
   subst yR;refine .inl ⟨yZ _ s1,zk D H' as hD s1 e1 ?_⟩;rw [Wh (by omega)] at hp;exact hp
def aQ (ins:List (Vm×Int)):Th:=.knot (((ins.filter fun k=>decide (k.2=0))[0]?.map (·.1)).getD (UU "")) []
theorem eF {ins:List (Vm×Int)} {k:Vm×Int} (h:(ins.filter fun k=>decide (k.2=0))[0]?=some k):aQ ins=.knot k.1 []:=by
 unfold aQ;rw [h];rfl
theorem kM {ins:List (Vm×Int)} (g:bV ins):∃ k,(ins.filter fun k=>decide (k.2=0))[0]?=some k/\k.2=0:=by
 obtain ⟨k,hk,hz⟩:=g.zero;have hm:k∈ins.filter fun k=>decide (k.2=0):=WA.mpr ⟨hk,decide_eq_true hz⟩;have hl:0<(ins.filter fun k=>decide (k.2=0)).length:=List.length_pos_of_mem hm;refine ⟨_,UN hl,?_⟩;exact of_decide_eq_true (WA.mp (YK hl)).2
def cL (ins:List (Vm×Int)):Nat:=ins.findIdx fun k=>decide (k.2=0)
theorem eG:∀ {ins:List (Vm×Int)} {k:Vm×Int},(ins.filter fun k=>decide (k.2=0))[0]?=some k->ins[cL ins]?=some k
 | [],k,h=>by simp at h
 | x::xs,k,h=>by
   unfold cL;by_cases hx:x.2=0
   · rw [WZ,if_pos (decide_eq_true hx)] at h;rw [List.findIdx_cons,decide_eq_true hx];simpa using h
   · rw [WZ,if_neg (by simpa using hx)] at h;rw [List.findIdx_cons,decide_eq_false hx];simpa [cL] using eG h
def MkAt (H:Hp) (ins:List (Vm×Int)) (rows:List (List Th)) (f':List (List Key×V)):Prop :=
 ∀ (s k:Nat) (row:List Th) (p:Th),k<3->rows[s]?=some row->row[cL ins]?=some p->∃ a,aV f' [VA (s:Int),VA (k:Int)]=some (.ref a)/\At H p a
theorem MkAt.mono {H H':Hp} (kt:KT H H') {ins:List (Vm×Int)} {rows:List (List Th)} {f':List (List Key×V)} (h:MkAt H ins rows f'):MkAt H' ins rows f':=fun s k row p hk hr hp=>by
 obtain ⟨a,h1,h2⟩:=h s k row p hk hr hp;exact ⟨a,h1,h2.mono kt⟩
theorem qi:∀ {ts:List Th} {i:Nat},(dvs ts)[i]?=(ts[i]?).map Th.dv
 | [],i=>by rw [dvs];simp
 | t::ts,0=>by rw [dvs];rfl
 | t::ts,i+1=>by rw [dvs,VW,VW];exact qi
theorem qM:∀ ts:List Th,(dvs ts).length=ts.length
 | []=>by rw [dvs];rfl
 | t::ts=>by rw [dvs,U1,U1,qM ts]
theorem oo {α:Type} {f:α->Th} {H:Hp}:∀ {zs:List α} {as:List UQ},Vs (fun z a=>At H (f z) a) zs as->Ats H (zs.map f) as
 | _,_,.nil=>.nil
 | _,_,.cons r h=>.cons r (oo h)
end BB
namespace BB
open PySem L2
theorem cN {x:List Int×Th} {pre:List Int}:∀ {ts:List Th} {i:Int},x∈pls pre i ts↔∃ (j:Nat) (t:Th),ts[j]?=some t/\x∈t.pl (pre++[i+(j:Int)])
 | [],i=>by rw [pls];simp
 | t::ts,i=>by
   rw [pls,VH,cN (ts:=ts) (i:=i+1)];constructor
   · rintro (h | ⟨j,u,hu,h⟩)
     · exact ⟨0,t,rfl,by simpa using h⟩
     · refine ⟨j+1,u,by simpa using hu,?_⟩;rw [show i+((j+1:Nat):Int)=i+1+(j:Int) by omega];exact h
   · rintro ⟨j,u,hu,h⟩;cases j with
     | zero =>
       simp at hu;subst hu;exact .inl (by simpa using h)
     | succ j =>
       refine .inr ⟨j,u,by simpa using hu,?_⟩;rw [show i+1+(j:Int)=i+((j+1:Nat):Int) by omega];exact h
theorem gj {n:Vm} {ks:List Th} {pre:List Int} {j:Nat} {t:Th} (h:ks[j]?=some t) {x:List Int×Th} (hx:x∈t.pl (pre++[(j:Int)])):x∈(Th.knot n ks).pl pre:=by
 rw [Th.pl];refine Vf _ (cN.mpr ⟨j,t,h,?_⟩);rw [Ws];exact hx
theorem cW (t:Th) (pre:List Int):(pre,t)∈t.pl pre:=by rw [Th.pl_eq];exact Vk ..
theorem t6:∀ (n:Nat) (l r:Th) (pre:List Int),l.size<=n->∀ x∈(l.com r).pl pre,∃ u,(x.1,u)∈l.pl pre
 | 0,l,r,pre,hn=>by have:=l.size_pos;omega
 | n+1,.call a b,r,pre,hn=>fun x hx=>by
   rw [iw,aH] at hx
   · rw [if_neg Ve,hole,Th.pl,pls] at hx;rw [Vi.mp hx];exact ⟨_,cW _ _⟩
   · intro _ _ _ _ h;cases h
 | n+1,.knot m ks,r,pre,hn=>fun x hx=>by
   rw [iw] at hx;by_cases hs:aH (.knot m ks) r=true
   · rw [if_pos hs,Th.pl] at hx;rcases Vd.mp hx with rfl | hx
     · exact ⟨_,cW _ _⟩
     · obtain ⟨j,t,ht,hx⟩:=cN.mp hx;rw [Ws] at hx;rw [UZ,Vr] at ht;obtain ⟨p,hp,rfl⟩:=ht;obtain ⟨h1,h2⟩:=WR.mp hp;rw [Th.size] at hn;have hz:p.1.size<=ao ks:=aK (UP h1);obtain ⟨u,hu⟩:=t6 n p.1 p.2 _ (by omega) x hx;exact ⟨u,gj h1 hu⟩
   · rw [if_neg hs,hole,Th.pl,pls] at hx;rw [Vi.mp hx];exact ⟨_,cW _ _⟩
mutual
/-- a front with holes at some places -/
def Th.cut (D:List Int->Bool) (pre:List Int):Th->Th
 | .knot n ks=>if (Th.knot n ks).isHole=true∨D pre=true then hole else .knot n (cz D pre 0 ks)
 | .call _ _=>hole
def cz (D:List Int->Bool) (pre:List Int) (i:Int):List Th->List Th
 | []=>[]
 | t::ts=>t.cut D (pre++[i])::cz D pre (i+1) ts
end
theorem eK {D:List Int->Bool} {pre:List Int}:∀ {ts:List Th} {i:Int} {j:Nat},(cz D pre i ts)[j]?=(ts[j]?).map fun t=>t.cut D (pre++[i+(j:Int)])
 | [],i,j=>by rw [cz];simp
 | t::ts,i,0=>by rw [cz];simp
 | t::ts,i,j+1=>by
   rw [cz,VW,VW,eK,show i+1+(j:Int)=i+((j+1:Nat):Int) by omega]
theorem cO {D:List Int->Bool} {pre:List Int}:∀ {ts:List Th} {i:Int},(cz D pre i ts).length=ts.length
 | [],i=>by rw [cz]
 | t::ts,i=>by rw [cz,U1,U1,cO]
theorem eX:∀ {as bs:List Th},(∀ (i:Nat) (a b:Th),as[i]?=some a->bs[i]?=some b->a.lies b=true)->bK as bs=true
 | [],bs,_=>by rw [bK]
 | a::as,[],_=>by rw [bK]
 | a::as,b::bs,h=>by
   rw [bK,h 0 a b rfl rfl,eX fun i x y hx hy=>h (i+1) x y (by simpa using hx) (by simpa using hy)];rfl
theorem cV:∀ {as bs:List Th},bK as bs=true->∀ (i:Nat) (a b:Th),as[i]?=some a->bs[i]?=some b->a.lies b=true
 | [],bs,_,i,a,b,ha,_=>by simp at ha
 | x::as,[],_,i,a,b,_,hb=>by simp at hb
 | x::as,y::bs,h,i,a,b,ha,hb=>by
   rw [bK,WC] at h;cases i with
   | zero =>
     simp at ha hb;subst ha;subst hb;exact h.1
   | succ i=>exact cV h.2 i a b (by simpa using ha) (by simpa using hb)
theorem jJ {n:Vm} {ks:List Th} {r:Th} (h:aH (.knot n ks) r=true):∃ us,r=.knot n us/\ks.length=us.length/\(Th.knot n ks).isHole=false:=by
 cases r with
 | call a b=>rw [aH] at h;exact absurd h Ve;intro _ _ _ _ _ h;cases h
 | knot m us =>
   rw [aH,WC,WC] at h;obtain ⟨⟨h1,h2⟩,h3⟩:=h;obtain rfl:=of_decide_eq_true h2;exact ⟨us,rfl,of_decide_eq_true h3,by simpa using h1⟩
theorem fb {n:Vm} {ks us:List Th} (h1:(Th.knot n ks).isHole=false) (h2:ks.length=us.length):aH (.knot n ks) (.knot n us)=true:=by
 rw [aH,h1,decide_eq_true rfl,decide_eq_true h2];rfl
theorem lies_of {n:Vm} {ks:List Th} {r:Th} (h:(Th.knot n ks).lies r=true) (hh:(Th.knot n ks).isHole=false):∃ us,r=.knot n us/\ks.length=us.length/\bK ks us=true:=by
 rw [Th.lies,hh,Yu,WC] at h;obtain ⟨us,rfl,hl,_⟩:=jJ h.1;exact ⟨us,rfl,hl,h.2⟩
theorem kS (r:Th):hole.lies r=true:=by
 rw [hole,Th.lies];have:(Th.knot star []).isHole=true:=jy;rw [this];rfl
theorem pB {n:Vm} {ks cs:List Th} (hl:cs.length=ks.length) (h:(Th.knot n ks).isHole=false):(Th.knot n cs).isHole=false:=by
 rw [Th.isHole,decide_eq_false_iff_not] at h ⊢;rintro ⟨h1,h2⟩;rw [h2] at hl;exact h ⟨h1,Wc.mp hl.symm⟩
theorem cG {c:List Int×Int×Int} {ps:List (List Int×Th)}:c∈callsOf ps↔(c.1,Th.call c.2.1 c.2.2)∈ps:=by
 unfold callsOf;rw [Z5];constructor
 · rintro ⟨⟨pl,t⟩,hx,e⟩;cases t with
   | knot n ks=>rw [nL] at e;cases e
   | call a b=>rw [nL] at e;cases e;exact hx
 · intro h;exact ⟨_,h,by rw [nL]⟩
theorem oM {n:Vm} {ks:List Th} {pre:List Int} {j:Nat} {t:Th} (h:ks[j]?=some t) {c:List Int×Int×Int} (hc:c∈callsOf (t.pl (pre++[(j:Int)]))):c∈callsOf ((Th.knot n ks).pl pre):=cG.mpr (gj h (cG.mp hc))
section
variable {D:Int->List Int->Bool} {mk f0:Int->Th}
theorem mE {s l:Int} {q:List Int} (Hl:∀ (r:List Int) (u:Th),D l r=true->(q++r,u)∈(f0 s).pl []->D s (q++r)=true) (Hh:∀ (r:List Int) (u:Th),(r,u)∈(f0 l).pl []->u.isHole=true->D l r=true) :
 ∀ (n:Nat) (f g m:Th) (r:List Int),f.size<=n->(∀ x∈f.pl (q++r),x∈(f0 s).pl [])->(∀ x∈g.pl r,x∈(f0 l).pl [])->f.noCall->g.noCall->f.lies m=true->g.lies m=true->(f.cut (D s) (q++r)).lies (g.cut (D l) r)=true
 | 0,f,g,m,r,hn=>by have:=f.size_pos;omega
 | n+1,.call a b,g,m,r,_=>fun _ _ h=>by rw [Th.noCall] at h;exact h.elim
 | n+1,.knot nm ks,.call a b,m,r,_=>fun _ _ _ h=>by rw [Th.noCall] at h;exact h.elim
 | n+1,.knot nm ks,.knot gm vs,m,r,hn=>fun hF hG nf ng hf hg=>by
   rw [Th.cut];by_cases hc:(Th.knot nm ks).isHole=true∨D s (q++r)=true
   · rw [if_pos hc];exact kS _
   · rw [if_neg hc];have h1:(Th.knot nm ks).isHole=false:=V5.mpr fun z=>hc (.inl z);have h2:¬ D s (q++r)=true:=fun z=>hc (.inr z);have h3:¬ D l r=true:=fun z=>h2 (Hl r _ z (hF _ (cW _ _)));have h4:(Th.knot gm vs).isHole=false:=V5.mpr fun z=>h3 (Hh r _ (hG _ (cW _ _)) z);obtain ⟨us,rfl,l1,b1⟩:=lies_of hf h1;obtain ⟨HA,e,l2,b2⟩:=lies_of hg h4;cases e;rw [Th.cut,if_neg (by rintro (z | z);(rw [h4] at z;cases z);exact h3 z)];rw [Th.lies,fb (pB cO h1) (by rw [cO,cO];omega)];rw [Th.size] at hn;rw [Th.noCall] at nf ng
     have:bK (cz (D s) (q++r) 0 ks) (cz (D l) r 0 vs)=true:=eX fun i a b ha hb=>by
      rw [eK,Vr] at ha hb;obtain ⟨k,hk,rfl⟩:=ha;obtain ⟨v,hv,rfl⟩:=hb;have yX:=(US.mp hk).1;obtain ⟨u,hu⟩:∃ u,us[i]?=some u:=⟨_,UN (by omega)⟩;have hz:=aK (UP hk);rw [Ws,VN];refine mE Hl Hh n k v u (r++[(i:Int)]) (by omega) (fun x hx=>hF x (gj hk (by rw [VN];exact hx))) (fun x hx=>hG x (gj hv hx)) (bZ nf (UP hk)) (bZ ng (UP hv)) (cV b1 i k u hk hu) (cV b2 i v u hv hu)
     show ((Th.knot nm (cz (D s) (q++r) 0 ks)).isHole || (true && bK (cz (D s) (q++r) 0 ks) (Th.knot nm (cz (D l) r 0 vs)).kids))=true;rw [show (Th.knot nm (cz (D l) r 0 vs)).kids=cz (D l) r 0 vs from rfl,this,Bool.or_comm];rfl
theorem ky {s:Int} {pat:Th} (Hc:∀ c∈callsOf (pat.pl []),(f0 c.2.1).lies (mk c.2.1)=true/\(f0 c.2.1).noCall/\(∀ (r:List Int) (u:Th),(r,u)∈(f0 c.2.1).pl []->u.isHole=true->D c.2.1 r=true)/\∀ (r:List Int) (u:Th),D c.2.1 r=true->(c.1++r,u)∈(f0 s).pl []->D s (c.1++r)=true) :
 ∀ (n:Nat) (f p:Th) (q:List Int),f.size<=n->(∀ x∈f.pl q,x∈(f0 s).pl [])->(∀ c∈callsOf (p.pl q),c∈callsOf (pat.pl []))->f.noCall->f.lies (p.fill fun l _=>mk l)=true->(f.cut (D s) q).lies (p.fill fun l _=>(f0 l).cut (D l) [])=true
 | 0,f,p,q,hn=>by have:=f.size_pos;omega
 | n+1,.call a b,p,q,_=>fun _ _ h=>by rw [Th.noCall] at h;exact h.elim
 | n+1,.knot nm ks,.call l k,q,hn=>fun hF hC nf hf=>by
   obtain ⟨g1,g2,g3,g4⟩:=Hc (q,l,k) (hC _ (cG.mpr (cW _ _)));rw [Th.fill] at hf ⊢;have:=mE (q:=q) g4 g3 (n+1) (.knot nm ks) (f0 l) (mk l) [] hn (by rw [VB];exact hF) (fun x hx=>hx) nf g2 hf g1;rw [VB] at this;exact this
 | n+1,.knot nm ks,.knot pm ps,q,hn=>fun hF hC nf hf=>by
   rw [Th.cut];by_cases hc:(Th.knot nm ks).isHole=true∨D s q=true
   · rw [if_pos hc];exact kS _
   · rw [if_neg hc];have h1:(Th.knot nm ks).isHole=false:=V5.mpr fun z=>hc (.inl z);rw [Th.fill,jh] at hf ⊢;obtain ⟨us,e,l1,b1⟩:=lies_of hf h1;cases e;rw [UL] at l1;rw [Th.lies,fb (pB cO h1) (by rw [cO,UL];omega)];rw [Th.size] at hn;rw [Th.noCall] at nf
     have:bK (cz (D s) q 0 ks) (ps.map fun t=>t.fill fun l _=>(f0 l).cut (D l) [])=true:=eX fun i a b ha hb=>by
      rw [eK,Vr] at ha;rw [UZ,Vr] at hb;obtain ⟨k,hk,rfl⟩:=ha;obtain ⟨v,hv,rfl⟩:=hb;have hz:=aK (UP hk);rw [Ws];refine ky Hc n k v (q++[(i:Int)]) (by omega) (fun x hx=>hF x (gj hk hx)) (fun c ES=>hC c (oM hv ES)) (bZ nf (UP hk)) (cV b1 i k _ hk (by rw [UZ,hv];rfl))
     show ((Th.knot nm (cz (D s) q 0 ks)).isHole || (true && bK (cz (D s) q 0 ks) (Th.knot nm (ps.map fun t=>t.fill fun l _=>(f0 l).cut (D l) [])).kids))=true;rw [show (Th.knot nm (ps.map fun t=>t.fill fun l _=>(f0 l).cut (D l) [])).kids=ps.map fun t=>t.fill fun l _=>(f0 l).cut (D l) [] from rfl,this,Bool.or_comm];rfl
end
theorem gx:∀ (n:Nat) (t:Th),t.size<=n->t.noCall->t.lies t=true
 | 0,t,hn,_=>by have:=t.size_pos;omega
 | n+1,.call a b,_,h=>by rw [Th.noCall] at h;exact h.elim
 | n+1,.knot m ks,hn,h=>by
   by_cases hh:(Th.knot m ks).isHole=true
   · rw [Th.lies,hh];rfl
   · have Q8:(Th.knot m ks).isHole=false:=V5.mpr hh;rw [Th.size] at hn;rw [Th.noCall] at h;rw [Th.lies,fb Q8 rfl]
     have:bK ks ks=true:=eX fun i a b ha hb=>by
      rw [ha] at hb;cases hb;have:=aK (UP ha);exact gx n a (by omega) (bZ h (UP ha))
     show ((Th.knot m ks).isHole || (true && bK ks (Th.knot m ks).kids))=true;rw [show (Th.knot m ks).kids=ks from rfl,this,Bool.or_comm];rfl
def mkF (ins:List (Vm×Int)) (rows:List (List Th)) (l:Int):Th:=(rowOf rows l).getD (cL ins) hole
def frF (mk:Int->Th) (m:Th) (row:List Th):Th:=row.foldl (fun f p=>f.com (p.fill fun l _=>mk l)) m
theorem kQ (mk:Int->Th) (m:Th) (row:List Th) (p:Th):frF mk m (row++[p])=(frF mk m row).com (p.fill fun l _=>mk l):=by
 unfold frF;rw [List.foldl_append];rfl
theorem io {mk:Int->Th} {m:Th} (h:m.noCall):∀ row:List Th,(frF mk m row).noCall:=fun row=>by
 cases hr:row.reverse with
 | nil =>
   have:row=[]:=by simpa using hr
   subst this;exact h
 | cons p ps =>
   have:row=ps.reverse++[p]:=by
    have:=congrArg List.reverse hr;simpa using this
   rw [this,kQ];exact lA _ _
theorem iD (mk:Int->Th) (m:Th) (row:List Th):(frF mk m row).size<=m.size/\(frF mk m row).tall<=m.tall:=by
 unfold frF;induction row generalizing m with
 | nil=>exact ⟨UR _,UR _⟩
 | cons p row ih =>
   rw [List.foldl_cons];have h1:=ih (m.com (p.fill fun l _=>mk l));have h2:=pF m (p.fill fun l _=>mk l);omega
theorem tO (mk:Int->Th) (m:Th) (row:List Th):∀ x∈(frF mk m row).pl [],∃ u,(x.1,u)∈m.pl []:=by
 unfold frF;induction row generalizing m with
 | nil=>exact fun x hx=>⟨x.2,hx⟩
 | cons p row ih =>
   rw [List.foldl_cons];intro x hx;obtain ⟨u,hu⟩:=ih _ x hx;exact t6 _ m _ [] (UR _) (x.1,u) hu
theorem j8 {mk:Int->Th} (f:Th):∀ (row:List Th) (m:Th),f.lies (frF mk m row)=true->f.lies m=true/\∀ p∈row,f.lies (p.fill fun l _=>mk l)=true
 | [],m,h=>⟨h,fun p hp=>by cases hp⟩
 | p::row,m,h=>by
   have h':f.lies (frF mk (m.com (p.fill fun l _=>mk l)) row)=true:=h;obtain ⟨h1,h2⟩:=j8 f row _ h';rw [pD,WC] at h1;refine ⟨h1.1,fun x hx=>?_⟩;rcases Vd.mp hx with rfl | hx
   · exact h1.2
   · exact h2 x hx
def nk (s:Int) (pl:List Int):az:=(pl.map VA,VA s)
theorem tq {s s':Int} {p p':List Int} (h:nk s p=nk s' p'):s=s'/\p=p':=by
 unfold nk at h;injection h with h1 h2;refine ⟨XJ h2,?_⟩;exact (Y5 (fun _ _ e=>XJ e)).mp h1
theorem lB {H:Hp} {s:Int} {pl:List Int} {b c:UQ} (h1:H b=some (.tup [.int s,.ref c])) (h2:H c=some (.tup (pl.map V.int))):MKAt H (nk s pl) b:=by
 refine ⟨c,h1,?_⟩;rw [h2];unfold nk;rw [W2];rfl
def But (p:UQ) (H H':Hp):Prop:=∀ c o,c≠p->H c=some o->H' c=some o
theorem But.refl (p:UQ) (H:Hp):But p H H:=fun _ _ _ e=>e
theorem But.trans {p:UQ} {H H' HB:Hp} (a:But p H H') (b:But p H' HB):But p H HB:=fun c o hc e=>b c o hc (a c o hc e)
theorem Same.but {p:UQ} {H H':Hp} (a:L2.Same H H'):But p H H':=fun c o _ e=>a c o e
theorem But.kt {p:UQ} {H H':Hp} {φ:V9->Prop} (a:But p H H') (e:H p=some (.ext φ)):KT H H':=fun c ys ec=>a c _ (fun z=>by rw [z,e] at ec;cases ec) ec
abbrev VlT:=Nat->az->Th->Th->Prop
def PtV (H:Hp) (R:Th->Th->Prop) (v:V):Prop:=∃ (pr ta tb:UQ) (t1 t2:Th),v=.ref pr/\H pr=some (.tup [.ref ta,.ref tb])/\At H t1 ta/\At H t2 tb/\R t1 t2
theorem PtV.mono {H H':Hp} (k:KT H H') {R:Th->Th->Prop} {v:V} (h:PtV H R v):PtV H' R v:=by
 obtain ⟨pr,ta,tb,t1,t2,e,h1,h2,h3,h4⟩:=h;exact ⟨pr,ta,tb,t1,t2,e,k _ _ h1,h2.mono k,h3.mono k,h4⟩
structure Pt (P:U6) (w:Vj) (Vl:VlT) (H:Hp) (pt:UQ) (f':List (az×V)) (Al:List az):Prop where
 dm:DM P w H pt f'
 nd:(f'.map (·.1)).Nodup
 al:∀ p∈f',p.1∈Al
 vl:∀ (j:Nat) (p:az×V),f'[j]?=some p->PtV H (Vl j p.1) p.2
theorem cq {P:U6} {w:Vj} {H:Hp} {a:UQ} {f':List (az×V)} (h:DM P w H a f'):∃ φ,H a=some (.ext φ):=by
 obtain ⟨_,_,xs,φ,e,_⟩:=h;exact ⟨φ,e⟩
theorem Pt.same {P:U6} {w:Vj} {Vl:VlT} {H H':Hp} {pt:UQ} {f':List (az×V)} {Al:List az} (h:Pt P w Vl H pt f' Al) (s:L2.Same H H'):Pt P w Vl H' pt f' Al:=⟨h.dm.mono s,h.nd,h.al,fun j p hp=>(h.vl j p hp).mono (Same.kt s)⟩
theorem Pt.len {P:U6} {w:Vj} {Vl:VlT} {H:Hp} {pt:UQ} {f':List (az×V)} {Al:List az} (h:Pt P w Vl H pt f' Al):f'.length<=Al.length:=by
 have:=mG (m:=Al) h.nd fun k hk=>by
  obtain ⟨p,hp,rfl⟩:=VM.mp hk;exact h.al p hp
 rwa [UL] at this
theorem cS {f':List (az×V)} {k:az} (h:aV f' k=none):k∉f'.map (·.1):=by
 intro hk;obtain ⟨p,hp,rfl⟩:=VM.mp hk;have:=dD p.1 f';rw [h] at this;have h2:(f'.any fun kv=>decide (kv.1=p.1))=true:=List.any_eq_true.mpr ⟨p,hp,decide_eq_true rfl⟩;rw [h2] at this;cases this
theorem eM {f':List (az×V)} {k:az} {v:V} (h:aV f' k=some v):(k,v)∈f':=by
 induction f' with
 | nil=>cases h
 | cons p f' ih =>
   by_cases e:p.1=k
   · rw [bG e] at h;cases h;rw [<- e];exact Vk ..
   · rw [bL e] at h;exact Vf _ (ih h)
theorem Pt.put {P:U6} {w:Vj} {Vl:VlT} {H H':Hp} {pt:UQ} {f':List (az×V)} {Al:List az} (h:Pt P w Vl H pt f' Al) {k:az} {v:V} (hn:aV f' k=none) (hb:But pt H H') (hd:DM P w H' pt (putK f' k v)) (hv:PtV H (Vl f'.length k) v) (hk:k∈Al):Pt P w Vl H' pt (putK f' k v) Al/\(putK f' k v).map (·.1)=f'.map (·.1)++[k]:=by
 obtain ⟨φ,e⟩:=cq h.dm;have kt:=hb.kt e;rw [kK v hn] at hd ⊢;refine ⟨⟨hd,?_,fun p hp=>?_,fun j p hp=>?_⟩,by rw [U5];rfl⟩
 · rw [U5];refine Zb.mpr ⟨h.nd,by simp,fun a ha b zE=>?_⟩;simp at zE;subst zE;exact fun z=>cS hn (z ▸ ha)
 · rcases VH.mp hp with hp | hp
   · exact h.al p hp
   · rw [Vi.mp hp];exact hk
 · by_cases hj:j<f'.length
   · rw [WS hj] at hp;exact (h.vl j p hp).mono kt
   · rw [Xp (by omega)] at hp
     have Q9:j - f'.length=0:=by
      have:=(US.mp hp).1;have h1:[(k,v)].length=1:=rfl;omega
     rw [Q9] at hp;have AZ:j=f'.length:=by omega
     cases hp;rw [AZ];exact hv.mono kt
mutual
theorem qu {u:Th}:∀ (t:Th) (pre:List Int),u∈t.walk->∃ pl,(pl,u)∈t.pl pre
 | .call a b,pre,h=>by
   rw [Th.walk] at h;rw [Vi.mp h];exact ⟨pre,cW _ _⟩
 | .knot n ks,pre,h=>by
   rw [Th.walk] at h;rcases Vd.mp h with rfl | h
   · exact ⟨pre,cW _ _⟩
   · obtain ⟨pl,hp⟩:=pw ks pre 0 h;exact ⟨pl,by rw [Th.pl];exact Vf _ hp⟩
theorem pw {u:Th}:∀ (ts:List Th) (pre:List Int) (i:Int),u∈walks ts->∃ pl,(pl,u)∈pls pre i ts
 | [],pre,i,h=>by rw [walks] at h;cases h
 | t::ts,pre,i,h=>by
   rw [walks] at h;rw [pls];rcases VH.mp h with h | h
   · obtain ⟨pl,hp⟩:=qu t (pre++[i]) h;exact ⟨pl,VU _ hp⟩
   · obtain ⟨pl,hp⟩:=pw ts pre (i+1) h;exact ⟨pl,VI _ hp⟩
end
theorem sA {ks:List (Vm×Int)} {S C:Int} {t:Th} (h:t.FitS ks S C) {s k:Int} (hm:Th.call s k∈t.walk):0<=s/\s<S/\0<=k/\k<C:=by
 obtain ⟨pl,hp⟩:=qu t [] hm;exact gA t [] h (pl,s,k) (cG.mpr hp)
theorem f9 {ks:List (Vm×Int)} {S:Int}:∀ (n:Nat) (t:Th),t.size<=n->t.FitS ks S 0->t.noCall
 | 0,t,hn,_=>by have:=t.size_pos;omega
 | n+1,.call a b,_,h=>by rw [Th.FitS] at h;omega
 | n+1,.knot m us,hn,h=>by
   rw [Th.FitS] at h;rw [Th.size] at hn;rw [Th.noCall]
   have:∀ (l:List Th),(∀ t∈l,t.noCall)->cC l:=fun l=>by
    induction l with
    | nil=>intro _;rw [cC];trivial
    | cons x l ih=>intro hl;rw [cC];exact ⟨hl x (Vk ..),ih fun t ht=>hl t (Vf _ ht)⟩
   refine this us fun t ht=>?_;have hz:=aK ht;exact f9 n t (by omega) (FitSs.mem' h.2 t ht)
mutual
theorem sY:∀ (t:Th) (a b:List Int),t.pl (a++b)=(t.pl b).map fun x=>(a++x.1,x.2)
 | .call s k,a,b=>by rw [Th.pl,Th.pl];rfl
 | .knot n ks,a,b=>by rw [Th.pl,Th.pl,VJ,qK ks a b 0]
theorem qK:∀ (ts:List Th) (a b:List Int) (i:Int),pls (a++b) i ts=(pls b i ts).map fun x=>(a++x.1,x.2)
 | [],a,b,i=>by rw [pls,pls];rfl
 | t::ts,a,b,i=>by rw [pls,pls,U5,VN,sY t a (b++[i]),qK ts a b (i+1)]
end
theorem dh {t:Th} {a:List Int} {x:List Int×Th}:x∈t.pl a↔∃ r,x.1=a++r/\(r,x.2)∈t.pl []:=by
 have:=sY t a [];rw [VB] at this;rw [this,VM];constructor
 · rintro ⟨y,hy,rfl⟩;exact ⟨y.1,rfl,hy⟩
 · rintro ⟨r,h1,h2⟩;exact ⟨(r,x.2),h2,by rw [<- h1]⟩
theorem rm:∀ (n:Nat) {t u v:Th} {a r:List Int},t.size<=n->(a,u)∈t.pl []->(r,v)∈u.pl []->(a++r,v)∈t.pl []
 | 0,t,_,_,_,_,hn=>by have:=t.size_pos;omega
 | n+1,.call s k,u,v,a,r,hn=>fun h1 h2=>by
   rw [Th.pl] at h1;cases Vi.mp h1;exact h2
 | n+1,.knot m ks,u,v,a,r,hn=>fun h1 h2=>by
   rw [Th.pl] at h1;rcases Vd.mp h1 with h1 | h1
   · cases h1;exact h2
   · obtain ⟨j,t,ht,hx⟩:=cN.mp h1;obtain ⟨r',e,zP⟩:=dh.mp hx;dsimp only at e zP;rw [Ws,W9] at e;rw [Th.size] at hn;have hz:=aK (UP ht);have:=rm n (by omega) zP h2;refine gj ht (dh.mpr ⟨r'++r,?_,this⟩);show a++r=[]++[(j:Int)]++(r'++r);rw [e,W9,VN]
theorem oq:∀ (n:Nat) {t v:Th} {a r:List Int} {u:Th},t.size<=n->(a++r,v)∈t.pl []->(∃ w,(a,w)∈t.pl []/\(r,v)∈w.pl [])
 | 0,t,_,_,_,_,hn=>by have:=t.size_pos;omega
 | n+1,t,v,[],r,_,hn=>fun h=>⟨t,cW _ _,h⟩
 | n+1,.call s k,v,x::a,r,_,hn=>fun h=>by
   rw [Th.pl] at h;have:=congrArg Prod.fst (Vi.mp h);cases this
 | n+1,.knot m ks,v,x::a,r,u,hn=>fun h=>by
   rw [Th.pl] at h;rcases Vd.mp h with h | h
   · have:=congrArg Prod.fst h;cases this
   · obtain ⟨j,t,ht,hx⟩:=cN.mp h;obtain ⟨r',e,zP⟩:=dh.mp hx;dsimp only at e zP;rw [Ws,W9] at e;injection e with e1 e2;have e2:a++r=r':=e2;rw [Th.size] at hn;have hz:=aK (UP ht);rw [<- e2] at zP;obtain ⟨w,h1,h2⟩:=oq n (u:=u) (by omega) zP;refine ⟨w,gj ht (dh.mpr ⟨a,?_,h1⟩),h2⟩;show x::a=[]++[(j:Int)]++a;rw [e1];rfl
end BB
namespace BB
open PySem L2
theorem p9:∀ (n:Nat) {t u v:Th} {a:List Int},t.size<=n->(a,u)∈t.pl []->(a,v)∈t.pl []->u=v
 | 0,t,_,_,_,hn=>by have:=t.size_pos;omega
 | n+1,.call s k,u,v,a,hn=>fun h1 h2=>by
   rw [Th.pl] at h1 h2;cases Vi.mp h1;cases Vi.mp h2;rfl
 | n+1,.knot m ks,u,v,a,hn=>fun h1 h2=>by
   rw [Th.pl] at h1 h2;rcases Vd.mp h1 with h1 | h1
   · cases h1;rcases Vd.mp h2 with h2 | h2
     · cases h2;rfl
     · obtain ⟨j,t,ht,hx⟩:=cN.mp h2;obtain ⟨r',e,_⟩:=dh.mp hx;cases e
   · obtain ⟨j,t,ht,hx⟩:=cN.mp h1;obtain ⟨r',e,zP⟩:=dh.mp hx;rcases Vd.mp h2 with h2 | h2
     · cases h2;cases e
     · obtain ⟨j2,t2,Fc,A'⟩:=cN.mp h2;obtain ⟨r2,e2,Fd⟩:=dh.mp A';dsimp only at e e2 zP Fd;rw [e] at e2;have e3:(0+(j:Int))::r'=(0+(j2:Int))::r2:=e2;injection e3 with e4 e5;have:j=j2:=by omega
       subst this;rw [ht] at Fc;cases Fc;subst e5;rw [Th.size] at hn;have hz:=aK (UP ht);exact p9 n (by omega) zP Fd
abbrev LkT:=az->Int->List Int->Vm×Int->Int->Prop
def LE (H:Hp) (ins:List (Vm×Int)) (Al:List az) (Lk:LkT) (k0:az) (a:UQ):Prop:=∃ (s kid:Int) (pl:List Int) (pa ka:UQ) (kd:Vm×Int),H a=some (.tup [.int s,.ref pa,.ref ka,.int kid])/\H pa=some (.tup (pl.map V.int))/\KAt H kd ka/\kd∈ins/\nk s pl∈Al/\Lk k0 s pl kd kid
theorem LE.mono {H H':Hp} (k:KT H H') {ins:List (Vm×Int)} {Al:List az} {Lk:LkT} {k0:az} {a:UQ} (h:LE H ins Al Lk k0 a):LE H' ins Al Lk k0 a:=by
 obtain ⟨s,kid,pl,pa,ka,kd,h1,h2,h3,h4,h5⟩:=h;exact ⟨s,kid,pl,pa,ka,kd,k _ _ h1,k _ _ h2,k _ _ h3,h4,h5⟩
abbrev LG:=List (az×UQ×List UQ)
def lkv (G:LG):List (az×V):=G.map fun g=>(g.1,V.ref g.2.1)
structure LkI (P:U6) (w:Vj) (ins:List (Vm×Int)) (Al:List az) (Lk:LkT) (H0 H:Hp) (la:UQ) (G:LG) (N:Nat):Prop where
 sm:L2.Same H0 H
 la0:H0 la=none
 dm:DM P w H la (lkv G)
 kn:(G.map (·.1)).Nodup
 an:(G.map (·.2.1)).Nodup
 ls:∀ g∈G,H0 g.2.1=none/\H g.2.1=some (.lst (g.2.2.map V.ref))/\g.2.2.length<=N/\∀ a∈g.2.2,LE H ins Al Lk g.1 a
 le:G.length<=N
def gE (H:Hp) (G:LG) (k:az) (s:Int) (pl:List Int):Prop:=∃ g∈G,g.1=k/\∃ a∈g.2.2,∃ (pa ka:UQ) (kid:Int),H a=some (.tup [.int s,.ref pa,.ref ka,.int kid])/\H pa=some (.tup (pl.map V.int))
def LSub (H H':Hp) (G G':LG):Prop:=∀ k s pl,gE H G k s pl->gE H' G' k s pl
theorem LSub.refl (H:Hp) (G:LG):LSub H H G G:=fun _ _ _ h=>h
theorem LSub.trans {H H' HB:Hp} {G G' ON:LG} (a:LSub H H' G G') (b:LSub H' HB G' ON):LSub H HB G ON:=fun k s pl h=>b k s pl (a k s pl h)
theorem LSub.kt {H H':Hp} (k:KT H H') (G:LG):LSub H H' G G:=fun _ _ _ ⟨g,hg,e,a,ha,pa,ka,kid,h1,h2⟩=>⟨g,hg,e,a,ha,pa,ka,kid,k _ _ h1,k _ _ h2⟩
theorem qL {P:U6} {w:Vj} {H H':Hp} {a:UQ} {f':List (az×V)} (h:DM P w H a f') (k:KT H H') (e:∀ o,H a=some o->H' a=some o):DM P w H' a f':=by
 obtain ⟨z,hd,xs,φ,e1,f,r⟩:=h;exact ⟨z,hd,xs,φ,e _ e1,f,KTm.mono k r⟩
section
variable {P:U6} {w:Vj} {ins:List (Vm×Int)} {Al:List az} {Lk:LkT} {H0 H:Hp} {la:UQ} {G:LG} {N:Nat}
theorem LkI.ne (h:LkI P w ins Al Lk H0 H la G N) {g:az×UQ×List UQ} (hg:g∈G):g.2.1≠la:=fun z=>by
 obtain ⟨φ,e⟩:=cq h.dm;have:=(h.ls g hg).2.1;rw [z,e] at this;cases this
theorem LkI.same {H':Hp} (h:LkI P w ins Al Lk H0 H la G N) (s:L2.Same H H'):LkI P w ins Al Lk H0 H' la G N:=by
 refine ⟨h.sm.trans s,h.la0,h.dm.mono s,h.kn,h.an,fun g hg=>?_,h.le⟩;obtain ⟨a,b,c,d⟩:=h.ls g hg;exact ⟨a,s _ _ b,c,fun x hx=>(d x hx).mono (Same.kt s)⟩
theorem LkI.up (h:LkI P w ins Al Lk H0 H la G N) {M:Nat} (hm:N<=M):LkI P w ins Al Lk H0 H la G M:=by
 refine ⟨h.sm,h.la0,h.dm,h.kn,h.an,fun g hg=>?_,WB h.le hm⟩;obtain ⟨a,b,c,d⟩:=h.ls g hg;exact ⟨a,b,WB c hm,d⟩
theorem LkI.new {H':Hp} (h:LkI P w ins Al Lk H0 H la G N) {k:az} {l:UQ} (hn:aV (lkv G) k=none) (hb:But la H H') (hd:DM P w H' la (putK (lkv G) k (.ref l))) (BW:H0 l=none) (hl:H l=some (.lst [])) (hf:∀ g∈G,g.2.1≠l):LkI P w ins Al Lk H0 H' la (G++[(k,l,[])]) (N+1)/\LSub H H' G (G++[(k,l,[])]):=by
 obtain ⟨φ,e⟩:=cq h.dm;have kt:=hb.kt e;have LF:l≠la:=fun z=>by rw [z,e] at hl;cases hl
 refine ⟨⟨fun c o ec=>hb c o (fun z=>by rw [z,h.la0] at ec;cases ec) (h.sm _ _ ec),h.la0,?_,?_,?_,fun g hg=>?_,by rw [U8];have:=h.le;show G.length+1<=N+1;omega⟩,fun k' s pl h'=>?_⟩
 · rw [kK _ hn] at hd;unfold lkv at hd ⊢;rw [U5];exact hd
 · rw [U5];refine Zb.mpr ⟨h.kn,by simp,fun a ha b zE=>?_⟩;simp at zE;subst zE;intro z;subst z;refine cS hn ?_;unfold lkv;rw [W2];exact ha
 · rw [U5];refine Zb.mpr ⟨h.an,by simp,fun a ha b zE=>?_⟩;simp at zE;subst zE;obtain ⟨g,hg,rfl⟩:=VM.mp ha;exact hf g hg
 · rcases VH.mp hg with hg | hg
   · obtain ⟨a,b,c,d⟩:=h.ls g hg;exact ⟨a,hb _ _ (h.ne hg) b,by omega,fun x hx=>(d x hx).mono kt⟩
   · rw [Vi.mp hg];exact ⟨BW,hb _ _ LF hl,Vn _,fun x hx=>by cases hx⟩
 · obtain ⟨g,hg,r⟩:=LSub.kt kt G k' s pl h';exact ⟨g,VU _ hg,r⟩
def fA (l en:UQ) (g:az×UQ×List UQ):az×UQ×List UQ:=if g.2.1=l then (g.1,g.2.1,g.2.2++[en]) else g
theorem dH (l en:UQ) (g:az×UQ×List UQ):(fA l en g).1=g.1/\(fA l en g).2.1=g.2.1:=by
 unfold fA;split <;> exact ⟨rfl,rfl⟩
theorem LkI.app (h:LkI P w ins Al Lk H0 H la G N) {g:az×UQ×List UQ} (hg:g∈G) {en:UQ} (he:LE H ins Al Lk g.1 en):LkI P w ins Al Lk H0 (upd H g.2.1 (.lst (g.2.2.map V.ref++[.ref en]))) la (G.map (fA g.2.1 en)) (N+1)/\KT H (upd H g.2.1 (.lst (g.2.2.map V.ref++[.ref en])))/\LSub H (upd H g.2.1 (.lst (g.2.2.map V.ref++[.ref en]))) G (G.map (fA g.2.1 en))/\(∀ (s:Int) (pl:List Int) (pa ka:UQ) (kid:Int),H en=some (.tup [.int s,.ref pa,.ref ka,.int kid])->H pa=some (.tup (pl.map V.int))->gE (upd H g.2.1 (.lst (g.2.2.map V.ref++[.ref en]))) (G.map (fA g.2.1 en)) g.1 s pl):=by
 obtain ⟨gl,ge,gn,Ra⟩:=h.ls g hg;have kt:KT H (upd H g.2.1 (.lst (g.2.2.map V.ref++[.ref en]))):=aU ge;have AI:=h.ne hg;have k1:(G.map (fA g.2.1 en)).map (·.1)=G.map (·.1):=by rw [W2];exact YX fun x _=>(dH _ _ x).1
 have k2:(G.map (fA g.2.1 en)).map (·.2.1)=G.map (·.2.1):=by rw [W2];exact YX fun x _=>(dH _ _ x).2
 have k3:lkv (G.map (fA g.2.1 en))=lkv G:=by
  unfold lkv;rw [W2];refine YX fun x _=>?_;show ((fA g.2.1 en x).1,V.ref (fA g.2.1 en x).2.1)=_;rw [(dH _ _ x).1,(dH _ _ x).2]
 refine ⟨⟨ax h.sm gl,h.la0,?_,by rw [k1];exact h.kn,by rw [k2];exact h.an,fun x hx=>?_,by rw [UL];have:=h.le;omega⟩,kt,fun k s pl hh=>?_,fun s pl pa ka kid h1 h2=>?_⟩
 · rw [k3];exact qL h.dm kt fun o eo=>by rw [ai AI.symm];exact eo
 · obtain ⟨y,hy,rfl⟩:=VM.mp hx;obtain ⟨a,b,c,d⟩:=h.ls y hy;by_cases hc:y.2.1=g.2.1
   · have Rb:y=g:=by
      obtain ⟨i,hi⟩:=Vc.mp hy;obtain ⟨j,hj⟩:=Vc.mp hg
      have Ei:i=j:=by
       have h1:(G.map (·.2.1))[i]?=some y.2.1:=by rw [UZ,hi];rfl
       have h2:(G.map (·.2.1))[j]?=some y.2.1:=by rw [UZ,hj,hc];rfl
       exact (List.getElem?_inj (by have:=(US.mp h1).1;exact this) h.an).mp (h1.trans h2.symm)
      subst Ei;rw [hi] at hj;exact Vo hj
     subst Rb;unfold fA;rw [if_pos rfl];refine ⟨a,?_,?_,fun x hx=>?_⟩
     · show (upd H y.2.1 _) y.2.1=_;rw [ab];show some (HO.lst (y.2.2.map V.ref++[.ref en]))=some (.lst ((y.2.2++[en]).map V.ref));rw [U5];rfl
     · show (y.2.2++[en]).length<=N+1;rw [U8];show y.2.2.length+1<=N+1;omega
     · rcases VH.mp hx with hx | hx
       · exact (d x hx).mono kt
       · rw [Vi.mp hx];exact he.mono kt
   · unfold fA;rw [if_neg hc];exact ⟨a,by rw [ai hc];exact b,by omega,fun x hx=>(d x hx).mono kt⟩
 · obtain ⟨x,hx,e,a,ha,pa,ka,kid,h1,h2⟩:=hh;refine ⟨fA g.2.1 en x,VM.mpr ⟨x,hx,rfl⟩,by rw [(dH _ _ x).1];exact e,a,?_,pa,ka,kid,kt _ _ h1,kt _ _ h2⟩;unfold fA;split
   · exact VU _ ha
   · exact ha
 · refine ⟨fA g.2.1 en g,VM.mpr ⟨g,hg,rfl⟩,(dH _ _ g).1,en,?_,pa,ka,kid,kt _ _ h1,kt _ _ h2⟩;unfold fA;rw [if_pos rfl];exact VI _ (Vk ..)
end
theorem ud {K:UO} {H:Hp}:∀ {ps:List (List Int×Th)} {as:List UQ},PsAtK K H ps as->∃ prs:List (List Key×V),Vs (PrA H) prs as/\(∀ p∈prs,∃ x∈ps,p.1=x.1.map VA/\∃ a,p.2=.ref a/\AtK K H x.2 a)/\∀ x∈ps,∃ p∈prs,p.1=x.1.map VA
 | _,_,.nil=>⟨[],.nil,(fun p hp=>by cases hp),(fun p hp=>by cases hp)⟩
 | _,_,.cons (a:=x) r h=>by
   obtain ⟨pa,ta,h1,h2,h3⟩:=r;obtain ⟨prs,g1,g2,g3⟩:=ud h;refine ⟨(x.1.map VA,.ref ta)::prs,.cons ⟨pa,h1,by rw [h2,W2];rfl⟩ g1,fun p hp=>?_,fun y hy=>?_⟩
   · rcases Vd.mp hp with rfl | hp
     · exact ⟨x,Vk ..,rfl,ta,rfl,h3⟩
     · obtain ⟨y,hy,r⟩:=g2 p hp;exact ⟨y,Vf _ hy,r⟩
   · rcases Vd.mp hy with rfl | hy
     · exact ⟨_,Vk ..,rfl⟩
     · obtain ⟨p,hp,e⟩:=g3 y hy;exact ⟨p,Vf _ hp,e⟩
structure LQ (P:U6) (w:Vj) (ins:List (Vm×Int)) (Al:List az) (Lk:LkT) (H0:Hp) (la:UQ) (Hb:Hp) (Gb:LG) (Hc:Hp) (Gc:LG) (n:Nat):Prop where
 lk:LkI P w ins Al Lk H0 Hc la Gc n
 sub:LSub Hb Hc Gb Gc
 fr:∀ c o,Hb c=some o->c≠la->(∀ g∈Gb,g.2.1≠c)->Hc c=some o
 dom:∀ c o,Hb c=some o->∃ o',Hc c=some o'
 ext:∀ g∈Gc,(∃ g0∈Gb,g0.2.1=g.2.1)∨Hb g.2.1=none
section
variable {P:U6} {w:Vj} {ins:List (Vm×Int)} {Al:List az} {Lk:LkT} {H0 Hb Hc Hd:Hp} {la:UQ} {Gb Gc Gd:LG} {n m:Nat}
theorem LQ.refl (h:LkI P w ins Al Lk H0 Hb la Gb n):LQ P w ins Al Lk H0 la Hb Gb Hb Gb n:=⟨h,LSub.refl _ _,fun _ _ e _ _=>e,fun c o e=>⟨o,e⟩,fun g hg=>.inl ⟨g,hg,rfl⟩⟩
theorem LQ.same (h:LQ P w ins Al Lk H0 la Hb Gb Hc Gc n) (s:L2.Same Hc Hd):LQ P w ins Al Lk H0 la Hb Gb Hd Gc n :=
 ⟨h.lk.same s,h.sub.trans (LSub.kt (Same.kt s) _),fun c o e h1 h2=>s _ _ (h.fr c o e h1 h2),fun c o e=>by obtain ⟨o',e'⟩:=h.dom c o e;exact ⟨o',s _ _ e'⟩,h.ext⟩
theorem LQ.up (h:LQ P w ins Al Lk H0 la Hb Gb Hc Gc n) (hm:n<=m):LQ P w ins Al Lk H0 la Hb Gb Hc Gc m:=⟨h.lk.up hm,h.sub,h.fr,h.dom,h.ext⟩
theorem LQ.trans (a:LQ P w ins Al Lk H0 la Hb Gb Hc Gc n) (b:LQ P w ins Al Lk H0 la Hc Gc Hd Gd m):LQ P w ins Al Lk H0 la Hb Gb Hd Gd m:=by
 refine ⟨b.lk,a.sub.trans b.sub,fun c o e h1 h2=>b.fr c o (a.fr c o e h1 h2) h1 fun g hg=>?_,fun c o e=>?_,fun g hg=>?_⟩
 · rcases a.ext g hg with ⟨g0,h3,h4⟩ | h3
   · rw [<- h4];exact h2 g0 h3
   · intro z;rw [z,e] at h3;cases h3
 · obtain ⟨o',e'⟩:=a.dom c o e;exact b.dom c o' e'
 · rcases b.ext g hg with ⟨g0,h3,h4⟩ | h3
   · rw [<- h4];exact a.ext g0 h3
   · refine .inr ?_;cases hh:Hb g.2.1 with
     | none=>rfl
     | some o =>
       obtain ⟨o',e'⟩:=a.dom _ o hh;rw [h3] at e';cases e'
theorem LQ.kt (h:LQ P w ins Al Lk H0 la Hb Gb Hc Gc n) (L:LkI P w ins Al Lk H0 Hb la Gb m):KT Hb Hc:=fun c ys e=>by
 obtain ⟨φ,el⟩:=cq L.dm;refine h.fr c _ e (fun z=>by rw [z,el] at e;cases e) fun g hg z=>?_;have:=(L.ls g hg).2.1;rw [z,e] at this;cases this
theorem LQ.newG (a:LQ P w ins Al Lk H0 la Hb Gb Hc Gc n) {k:az} {l:UQ} {He:Hp} (hl:Hc l=none) (hn:aV (lkv Gc) k=none) (hb:But la (upd Hc l (.lst [])) He) (hd:DM P w He la (putK (lkv Gc) k (.ref l))):LQ P w ins Al Lk H0 la Hb Gb He (Gc++[(k,l,[])]) (n+1):=by
 have s1:L2.Same Hc (upd Hc l (.lst [])):=ad hl _;have L1:=a.lk.same s1
 obtain ⟨h1,h2⟩:=L1.new hn hb hd (a.lk.sm.free hl) ab fun g hg z=>by
  have:=(a.lk.ls g hg).2.1;rw [z,hl] at this;cases this
 refine a.trans ⟨h1,(LSub.kt (Same.kt s1) _).trans h2,fun c o e hc _=>hb c o hc (s1 _ _ e),fun c o e=>?_,fun g hg=>?_⟩
 · by_cases hc:c=la
   · obtain ⟨φ,e'⟩:=cq hd;exact ⟨_,by rw [hc];exact e'⟩
   · exact ⟨o,hb c o hc (s1 _ _ e)⟩
 · rcases VH.mp hg with hg | hg
   · exact .inl ⟨g,hg,rfl⟩
   · rw [Vi.mp hg];exact .inr hl
theorem LQ.appG (a:LQ P w ins Al Lk H0 la Hb Gb Hc Gc n) {g:az×UQ×List UQ} (hg:g∈Gc) {en:UQ} (he:LE Hc ins Al Lk g.1 en):LQ P w ins Al Lk H0 la Hb Gb (upd Hc g.2.1 (.lst (g.2.2.map V.ref++[.ref en]))) (Gc.map (fA g.2.1 en)) (n+1)/\∀ (s:Int) (pl:List Int) (pa ka:UQ) (kid:Int),Hc en=some (.tup [.int s,.ref pa,.ref ka,.int kid])->Hc pa=some (.tup (pl.map V.int))->gE (upd Hc g.2.1 (.lst (g.2.2.map V.ref++[.ref en]))) (Gc.map (fA g.2.1 en)) g.1 s pl:=by
 obtain ⟨h1,h2,h3,h4⟩:=a.lk.app hg he;refine ⟨⟨h1,a.sub.trans h3,fun c o e hc hf=>?_,fun c o e=>?_,fun x hx=>?_⟩,h4⟩
 · rw [ai]
   · exact a.fr c o e hc hf
   · intro z;rcases a.ext g hg with ⟨g0,h5,h6⟩ | h5
     · exact hf g0 h5 (h6.trans z.symm)
     · rw [<- z,e] at h5;cases h5
 · by_cases hc:c=g.2.1
   · exact ⟨_,by rw [hc];exact ab⟩
   · rw [ai hc];exact a.dom c o e
 · obtain ⟨y,hy,rfl⟩:=VM.mp hx;rw [(dH _ _ y).2];exact a.ext y hy
theorem qO {G:LG} {k:az} {u:V} (h:aV (lkv G) k=some u):∃ g∈G,g.1=k/\u=.ref g.2.1:=by
 have:=eM h;unfold lkv at this;obtain ⟨g,hg,e⟩:=VM.mp this;cases e;exact ⟨g,hg,rfl,rfl⟩
end
theorem vp:∀ (n:Nat) (t:Th) (pre:List Int),t.size<=n->∀ x∈t.pl pre,x.2.size<=t.size/\x.2.tall<=t.tall
 | 0,t,_,hn=>by have:=t.size_pos;omega
 | n+1,.call a b,pre,hn=>fun x hx=>by
   rw [Th.pl] at hx;rw [Vi.mp hx];exact ⟨UR _,UR _⟩
 | n+1,.knot m ks,pre,hn=>fun x hx=>by
   rw [Th.pl] at hx;rcases Vd.mp hx with rfl | hx
   · exact ⟨UR _,UR _⟩
   · obtain ⟨j,t,ht,hx⟩:=cN.mp hx;rw [Th.size] at hn;have hz:=aK (UP ht);have Fc:=cg (UP ht);obtain ⟨h1,h2⟩:=vp n t _ (by omega) x hx;rw [Th.size,Th.tall];omega
theorem eC {n:Nat} (h:n<=16000000):n<Vb:=by
 have:Vb=16777216:=YH;omega
theorem qJ:∀ (n:Nat) (t:Th) (pre:List Int),t.size<=n->∀ x∈t.pl pre,x.1.length<=pre.length+t.tall
 | 0,t,_,hn=>by have:=t.size_pos;omega
 | n+1,.call a b,pre,hn=>fun x hx=>by
   rw [Th.pl] at hx;rw [Vi.mp hx];exact Xi _ _
 | n+1,.knot m ks,pre,hn=>fun x hx=>by
   rw [Th.pl] at hx;rcases Vd.mp hx with rfl | hx
   · exact Xi _ _
   · obtain ⟨j,t,ht,hx⟩:=cN.mp hx;rw [Th.size] at hn;have hz:=aK (UP ht);have Fc:=cg (UP ht);have h1:=qJ n t _ (by omega) x hx;rw [U8] at h1;rw [Th.tall];have h2:[(0:Int)+(j:Int)].length=1:=rfl;omega
structure LkR (P:U6) (w:Vj) (ins:List (Vm×Int)) (Al:List az) (Lk:LkT) (H:Hp) (la:UQ) (G:LG):Prop where
 dm:DM P w H la (lkv G)
 ls:∀ g∈G,H g.2.1=some (.lst (g.2.2.map V.ref))/\∀ a∈g.2.2,LE H ins Al Lk g.1 a
 kn:(G.map (·.1)).Nodup
theorem LkI.r {P:U6} {w:Vj} {ins:List (Vm×Int)} {Al:List az} {Lk:LkT} {H0 H:Hp} {la:UQ} {G:LG} {N:Nat} (h:LkI P w ins Al Lk H0 H la G N):LkR P w ins Al Lk H la G:=⟨h.dm,fun g hg=>⟨(h.ls g hg).2.1,(h.ls g hg).2.2.2⟩,h.kn⟩
theorem LkR.but {P:U6} {w:Vj} {ins:List (Vm×Int)} {Al:List az} {Lk:LkT} {H H':Hp} {la pt:UQ} {G:LG} {φ:V9->Prop} (h:LkR P w ins Al Lk H la G) (hb:But pt H H') (e:H pt=some (.ext φ)) (hn:pt≠la):LkR P w ins Al Lk H' la G:=by
 have kt:=hb.kt e;refine ⟨qL h.dm kt fun o eo=>hb _ _ hn.symm eo,fun g hg=>?_,h.kn⟩;obtain ⟨h1,h2⟩:=h.ls g hg;exact ⟨hb _ _ (fun z=>by rw [z,e] at h1;cases h1) h1,fun a ha=>(h2 a ha).mono kt⟩
theorem LkR.at {P:U6} {w:Vj} {ins:List (Vm×Int)} {Al:List az} {Lk:LkT} {H:Hp} {la:UQ} {G:LG} (h:LkR P w ins Al Lk H la G) {g:az×UQ×List UQ} (hg:g∈G) {s:Int} {pl:List Int} (hh:gE H G g.1 s pl):∃ a∈g.2.2,∃ (pa ka:UQ) (kid:Int),H a=some (.tup [.int s,.ref pa,.ref ka,.int kid])/\H pa=some (.tup (pl.map V.int)):=by
 obtain ⟨g',K7,e,r⟩:=hh
 have:g'=g:=by
  obtain ⟨i,hi⟩:=Vc.mp K7;obtain ⟨j,hj⟩:=Vc.mp hg;have h1:(G.map (·.1))[i]?=some g.1:=by rw [UZ,hi,<- e];rfl
  have h2:(G.map (·.1))[j]?=some g.1:=by rw [UZ,hj];rfl
  have Ei:i=j:=(List.getElem?_inj (by have:=(US.mp h1).1;exact this) h.kn).mp (h1.trans h2.symm);subst Ei;rw [hi] at hj;exact Vo hj
 subst this;exact r
theorem sR {G:LG} {k:az} (h:aV (lkv G) k=none) {H:Hp} {s:Int} {pl:List Int}:¬ gE H G k s pl:=fun ⟨g,hg,e,_⟩=>by
 refine cS h ?_;unfold lkv;rw [W2];exact VM.mpr ⟨g,hg,e⟩
theorem oK {a b:List Int} (h:a.map V.int=b.map V.int):a=b:=(Y5 (fun _ _ e=>V.int.inj e)).mp h
theorem LkR.back {P:U6} {w:Vj} {ins:List (Vm×Int)} {Al:List az} {Lk:LkT} {H H':Hp} {la:UQ} {G:LG} (R:LkR P w ins Al Lk H la G) (kt:KT H H') {k:az} {s:Int} {pl:List Int} (hh:gE H' G k s pl):gE H G k s pl:=by
 obtain ⟨g,hg,e,a,ha,pa,ka,kid,h1,h2⟩:=hh;obtain ⟨s',Ae,zG,C1,Ct,OO,g1,g2,_⟩:=(R.ls g hg).2 a ha;have e1:=kt _ _ g1;rw [h1] at e1;cases e1;have e2:=kt _ _ g2;rw [h2] at e2;have:pl=zG:=oK (by injection e2 with e3;injection e3);subst this;exact ⟨g,hg,e,a,ha,pa,ka,kid,g1,g2⟩
def Dk (f':List (az×V)) (s:Int) (pl:List Int):Bool:=(aV f' (nk s pl)).isSome
theorem i8 {f':List (az×V)} {s:Int} {pl:List Int}:Dk f' s pl=true↔nk s pl∈f'.map (·.1):=by
 unfold Dk;constructor
 · intro h;obtain ⟨v,hv⟩:=Yq.mp h;exact VM.mpr ⟨_,eM hv,rfl⟩
 · intro h;cases hv:aV f' (nk s pl) with
   | none=>exact absurd h (cS hv)
   | some v=>rfl
def ij (D:List Int->Bool) (As:List (List Int×Th)):List Th:=As.flatMap fun x=>(x.2.cut D x.1).walk
theorem oI (D:List Int->Bool) (a b:List (List Int×Th)):ij D (a++b)=ij D a++ij D b:=by unfold ij;rw [List.flatMap_append]
theorem mf (D:List Int->Bool) (pre:List Int):∀ (i:Int) (ks:List Th),ij D (cQ pre i ks)=walks (cz D pre i ks)
 | i,[]=>by rw [cQ,cz,walks];rfl
 | i,k::ks=>by
   rw [cQ,cz,walks,<- mf D pre (i+1) ks];rfl
theorem km (D:List Int->Bool):∀ (n:Nat) (t:Th) (pre:List Int),t.size<=n->(t.cut D pre).size<=t.size
 | 0,t,_,hn=>by have:=t.size_pos;omega
 | n+1,.call a b,pre,hn=>by rw [Th.cut,eA,Th.size];exact UR _
 | n+1,.knot m ks,pre,hn=>by
   rw [Th.cut];split
   · rw [eA,Th.size];omega
   · rw [Th.size] at hn;rw [Th.size,Th.size]
     have:∀ (us:List Th) (i:Int),ao us<=n->ao (cz D pre i us)<=ao us:=fun us=>by
      induction us with
      | nil=>intro i _;rw [cz];exact UR _
      | cons u us ih =>
        intro i h;rw [ao] at h;rw [cz,ao,ao];have h1:=ih (i+1) (by omega);have h2:=km D n u (pre++[i]) (by omega);omega
     have:=this ks 0 (by omega);omega
end BB
namespace BB
open PySem L2
inductive In:Th->List Int->Th->Prop
 | here {t:Th}:In t [] t
 | kid {n:Vm} {ks:List Th} {j:Nat} {u v:Th} {r:List Int} (h:ks[j]?=some u) (i:In u r v):In (.knot n ks) ((j:Int)::r) v
theorem In.of:∀ (n:Nat) {t v:Th} {pl:List Int},t.size<=n->(pl,v)∈t.pl []->In t pl v
 | 0,t,_,_,hn,_=>by have:=t.size_pos;omega
 | n+1,.call s k,v,pl,hn,h=>by
   rw [Th.pl] at h;cases Vi.mp h;exact .here
 | n+1,.knot m ks,v,pl,hn,h=>by
   rw [Th.pl] at h;rcases Vd.mp h with h | h
   · cases h;exact .here
   · obtain ⟨j,t,ht,hx⟩:=cN.mp h;obtain ⟨r,e,hr⟩:=dh.mp hx;dsimp only at e hr;rw [Ws,W9] at e;rw [Th.size] at hn;have hz:=aK (UP ht);have e2:pl=(j:Int)::r:=e;rw [e2];exact .kid ht (In.of n (by omega) hr)
theorem In.to {t v:Th} {pl:List Int} (h:In t pl v):(pl,v)∈t.pl []:=by
 induction h with
 | here=>exact cW _ _
 | kid h i ih =>
   refine gj h (dh.mpr ⟨_,?_,ih⟩);rfl
theorem In.iff {t v:Th} {pl:List Int}:(pl,v)∈t.pl []↔In t pl v:=⟨In.of _ (UR _),In.to⟩
theorem gB {f:Int->Int->Th}:∀ {ts:List Th} {j:Nat},(fills f ts)[j]?=(ts[j]?).map (Th.fill f)
 | [],j=>by rw [fills];simp
 | t::ts,0=>by rw [fills];rfl
 | t::ts,j+1=>by rw [fills,VW,VW];exact gB
theorem eJ {ks:List (Vm×Int)} {S C:Int} {n:Vm} {us:List Th} (h:(Th.knot n us).FitS ks S C) {j:Nat} {u:Th} (hu:us[j]?=some u):u.FitS ks S C:=by
 rw [Th.FitS] at h;exact FitSs.mem' h.2 u (UP hu)
theorem mw {ks:List (Vm×Int)} {S C C':Int} {f:Int->Int->Th} (hf:∀ l k,0<=l->l<S->(f l k).FitS ks S C'):∀ (n:Nat) (p:Th),p.size<=n->p.FitS ks S C->(p.fill f).FitS ks S C'
 | 0,p,hn,_=>by have:=p.size_pos;omega
 | n+1,.call l k,_,h=>by
   rw [Th.FitS] at h;rw [Th.fill];exact hf l k h.1 h.2.1
 | n+1,.knot m us,hn,h=>by
   rw [Th.fill,Th.FitS,gw];have h0:=h;rw [Th.FitS] at h0;rw [Th.size] at hn;refine ⟨h0.1,FitSs.of fun t ht=>?_⟩;obtain ⟨j,hj⟩:=Vc.mp ht;rw [gB,Vr] at hj;obtain ⟨u,hu,rfl⟩:=hj;have hz:=aK (UP hu);exact mw hf n u (by omega) (eJ h hu)
theorem qt {outs:List (Vm×Int)} (go:bV outs) {S:Int}:∀ (n:Nat) (f g m h:Th) (pl:List Int),f.size<=n->In (f.com g) pl h->h.isHole=true->(∀ v,In f pl v->v.isHole=false)->f.lies m=true->f.noCall->m.FitS outs S 0->g.FitS outs S 0->∃ m1 m2 k1 k2,m1≠m2/\In m pl (.knot m1 k1)/\In g pl (.knot m2 k2)
 | 0,f,_,_,_,_,hn=>by have:=f.size_pos;omega
 | n+1,.call a b,_,_,_,_,_=>fun _ _ _ _ hc=>by rw [Th.noCall] at hc;exact hc.elim
 | n+1,.knot nm ks,g,m,h,pl,hn=>fun hi hh hv hl hc fm fg=>by
   rw [iw] at hi;by_cases hs:aH (.knot nm ks) g=true
   · rw [if_pos hs] at hi;obtain ⟨vs,rfl,hlen,Ds⟩:=jJ hs;obtain ⟨us,rfl,Rc,AD⟩:=lies_of hl Ds;have yR:In (.knot nm ((ks.zip vs).map fun p=>p.1.com p.2)) pl h:=hi;cases yR with
     | here =>
       have:=hv _ .here;exfalso;rw [Th.isHole,decide_eq_true_iff] at hh;rw [Th.isHole,decide_eq_false_iff_not] at Ds;refine Ds ⟨hh.1,?_⟩;have h2:=congrArg Xg hh.2;rw [UL,XR,<- hlen,Zv] at h2;exact Wc.mp h2
     | kid hj hr =>
       rename_i j u r
       rw [UZ,Vr] at hj;obtain ⟨p,hp,rfl⟩:=hj;obtain ⟨h1,h2⟩:=WR.mp hp;obtain ⟨w,hw⟩:∃ w,us[j]?=some w:=⟨_,UN (by have:=(US.mp h1).1;omega)⟩;rw [Th.size] at hn;have hz:=aK (UP h1);rw [Th.noCall] at hc;obtain ⟨m1,m2,k1,k2,e,a1,a2⟩:=qt go n p.1 p.2 w h r (by omega) hr hh (fun v yL=>hv v (.kid h1 yL)) (cV AD j _ _ h1 hw) (bZ hc (UP h1)) (eJ fm hw) (eJ fg h2);exact ⟨m1,m2,k1,k2,e,.kid hw a1,.kid h2 a2⟩
   · rw [if_neg hs] at hi;rw [hole] at hi;cases hi with
     | here =>
       have Ds:=hv _ .here;obtain ⟨us,rfl,Rc,AD⟩:=lies_of hl Ds;cases g with
       | call a b=>rw [Th.FitS] at fg;omega
       | knot gm vs =>
         refine ⟨nm,gm,us,vs,fun e=>hs ?_,.here,.here⟩;subst e;rw [Th.FitS] at fm fg;obtain ⟨i1,g1⟩:=Vc.mp fm.1;obtain ⟨i2,g2⟩:=Vc.mp fg.1;have:=go.nd i1 i2 _ _ g1 g2 rfl;subst this;rw [g1] at g2;injection g2 with g2;injection g2 with _ g2;exact fb Ds (by omega)
     | kid hj _=>simp at hj
inductive NmAt (ins:List (Vm×Int)) (rows:List (List Th)):Nat->Th->Th->List Int->Vm->Prop
 | here {m:Vm} {ks:List Th} {t:Th}:NmAt ins rows 0 (.knot m ks) t [] m
 | step {n:Nat} {nm m:Vm} {ks:List Th} {j:Nat} {u t:Th} {r:List Int} (h:ks[j]?=some u) (i:NmAt ins rows n u t r m):NmAt ins rows (n+1) (.knot nm ks) t ((j:Int)::r) m
 | call {n:Nat} {s k:Int} {tm vm m:Vm} {us vs:List Th} {row:List Th} {i:Nat} {kd:Vm×Int} {p:Th} {r:List Int} (hk:0<=k) (hs:0<=s) (hu:us[k.toNat]?=some (.knot vm vs)) (hr:rows[s.toNat]?=some row) (hi:ins[i]?=some kd) (hn:kd.1=vm) (hp:row[i]?=some p) (h:NmAt ins rows n p (.knot vm vs) r m):NmAt ins rows (n+1) (.call s k) (.knot tm us) r m
theorem NmAt.of {ins:List (Vm×Int)} {rows:List (List Th)} {t v:Th} {pl:List Int} (h:In t pl v):∀ {m:Vm} {ks:List Th} (tree:Th),v=.knot m ks->∃ n,NmAt ins rows n t tree pl m:=by
 induction h with
 | here=>intro m ks tree e;subst e;exact ⟨0,.here⟩
 | kid h i ih =>
   intro m ks tree e;obtain ⟨n,hn⟩:=ih tree e;exact ⟨n+1,.step h hn⟩
def mX (ins:List (Vm×Int)) (rows:List (List Th)) (s:Int) (t:Th) (pl:List Int) (m:Vm):Prop:=∃ (vm:Vm) (vs row:List Th) (i:Nat) (kd:Vm×Int) (p:Th) (n:Nat),0<=s/\t=.knot vm vs/\rows[s.toNat]?=some row/\ins[i]?=some kd/\kd.1=vm/\row[i]?=some p/\NmAt ins rows n p t pl m
theorem NmAt.goes {ins:List (Vm×Int)} {rows:List (List Th)} {p v:Th} {q r:List Int} (h:In p q v):∀ {l k:Int} {tm m:Vm} {us:List Th} {t1:Th},v=.call l k->0<=k->us[k.toNat]?=some t1->mX ins rows l t1 r m->∃ n,NmAt ins rows n p (.knot tm us) (q++r) m:=by
 induction h with
 | here =>
   intro l k tm m us t1 e hk hu hs;subst e;obtain ⟨vm,vs,row,i,kd,p,n,h0,rfl,hr,hi,hn,hp,h⟩:=hs;exact ⟨n+1,.call hk h0 hu hr hi hn hp h⟩
 | kid h i ih =>
   intro l k tm m us t1 e hk hu hs;obtain ⟨n,hn⟩:=ih e hk hu hs;exact ⟨n+1,.step h hn⟩
theorem NmAt.fill {ins outs:List (Vm×Int)} {rows:List (List Th)} {S C:Int} {f:Int->Int->Th} {us:List Th} {tm:Vm} (hf:∀ l k,0<=l->l<S->0<=k->k<C->∃ t1,us[k.toNat]?=some t1/\∀ pl m ks,In (f l k) pl (.knot m ks)->mX ins rows l t1 pl m):∀ (n:Nat) (p:Th) (pl:List Int) (m:Vm) (ks:List Th),p.size<=n->p.FitS outs S C->In (p.fill f) pl (.knot m ks)->∃ n,NmAt ins rows n p (.knot tm us) pl m
 | 0,p,_,_,_,hn,_,_=>by have:=p.size_pos;omega
 | n+1,.call l k,pl,m,ks,_,h,hi=>by
   rw [Th.FitS] at h;rw [Th.fill] at hi;obtain ⟨t1,h1,h2⟩:=hf l k h.1 h.2.1 h.2.2.1 h.2.2.2;have:=NmAt.goes (p:=.call l k) (q:=[]) (tm:=tm) .here rfl h.2.2.1 h1 (h2 pl m ks hi);exact this
 | n+1,.knot nm vs,pl,m,ks,hn,h,hi=>by
   rw [Th.fill] at hi;cases hi with
   | here=>exact ⟨0,.here⟩
   | kid hj hr =>
     rename_i j u r
     rw [gB,Vr] at hj;obtain ⟨v,hv,rfl⟩:=hj;rw [Th.size] at hn;have hz:=aK (UP hv);obtain ⟨k,hk⟩:=NmAt.fill hf n v r m ks (by omega) (eJ h hv) hr;exact ⟨k+1,.step hv hk⟩
end BB
namespace BB
open PySem L2
structure FrK (ins outs:List (Vm×Int)) (rows:List (List Th)):Prop where
 gi:bV ins
 fit:wv ins outs (rows.length:Nat) rows
 le:rows.length<=20
 sz:∀ row∈rows,∀ p∈row,p.size<=200/\p.tall<=100
theorem FrK.mkd {ins outs:List (Vm×Int)} {rows:List (List Th)} (F:FrK ins outs rows) {l:Int} (h0:0<=l) (h1:l<(rows.length:Nat)):∃ row p,rows[l.toNat]?=some row/\row[cL ins]?=some p/\mkF ins rows l=p/\p.size<=200/\p.tall<=100/\p.FitS outs (rows.length:Nat) 0:=by
 obtain ⟨k0,zp,C0⟩:=kM F.gi;have hI:=eG zp;obtain ⟨row,hr,er,hl,_⟩:=rD F.fit h0 h1;have Rf:=(US.mp hI).1;obtain ⟨p,hp⟩:∃ p,row[cL ins]?=some p:=⟨_,UN (by omega)⟩;have hm:=UP hr;obtain ⟨z1,z2⟩:=F.sz row hm p (UP hp);have hf:=(F.fit.row row hm).2 _ p k0 hp hI;rw [C0] at hf;exact ⟨row,p,hr,hp,by unfold mkF;rw [er,List.getD,hp];rfl,z1,z2,hf⟩
def bW (ins:List (Vm×Int)) (n:Nat) (kid:Int) (t:Th):List Th:=(Vp n).map fun (i:Nat)=>if (i:Int)=kid then t else aQ ins
theorem ig (ins:List (Vm×Int)) (n:Nat) (kid:Int) (t:Th):(bW ins n kid t).length=n:=by unfold bW;rw [UL,Vx]
theorem pL {ins:List (Vm×Int)} {n:Nat} {kid:Int} {t:Th} (h0:0<=kid) (h1:kid<(n:Int)):(bW ins n kid t)[kid.toNat]?=some t:=by
 unfold bW;rw [UZ,We (by omega),YU,if_pos (by omega)]
theorem pI {ins:List (Vm×Int)} {n:Nat} {kid:Int} {t u:Th} (h:u∈bW ins n kid t):u=t∨u=aQ ins:=by
 unfold bW at h;obtain ⟨i,_,rfl⟩:=VM.mp h;by_cases hk:(i:Int)=kid
 · rw [if_pos hk];exact .inl rfl
 · rw [if_neg hk];exact .inr rfl
theorem iz (ins:List (Vm×Int)):(aQ ins).size=1:=by unfold aQ;rw [Th.size,ao]
theorem oJ {ins:List (Vm×Int)} {n:Nat} (hn:n<=3) {kid:Int} {t:Th}:ao (bW ins n kid t)<=t.size+2:=by
 have h1:=iz ins;have h2:=t.size_pos
 have hp:∀ i:Nat,(if (i:Int)=kid then t else aQ ins).size<=t.size/\((i:Int)≠kid->(if (i:Int)=kid then t else aQ ins).size=1):=fun i=>by
  by_cases hk:(i:Int)=kid
  · rw [if_pos hk];exact ⟨UR _,fun z=>absurd hk z⟩
  · rw [if_neg hk];exact ⟨by omega,fun _=>h1⟩
 obtain ⟨a0,b0⟩:=hp 0;obtain ⟨a1,b1⟩:=hp 1;obtain ⟨a2,b2⟩:=hp 2;have e0:ao (bW ins 0 kid t)=0:=by show ao []=0;rw [ao]
 have e1:ao (bW ins 1 kid t)=(if ((0:Nat):Int)=kid then t else aQ ins).size:=by show ao [if ((0:Nat):Int)=kid then t else aQ ins]=_;rw [ao,ao];omega
 have e2:ao (bW ins 2 kid t)=(if ((0:Nat):Int)=kid then t else aQ ins).size+(if ((1:Nat):Int)=kid then t else aQ ins).size:=by show ao [if ((0:Nat):Int)=kid then t else aQ ins,if ((1:Nat):Int)=kid then t else aQ ins]=_;rw [ao,ao,ao];omega
 have e3:ao (bW ins 3 kid t)=(if ((0:Nat):Int)=kid then t else aQ ins).size+(if ((1:Nat):Int)=kid then t else aQ ins).size+(if ((2:Nat):Int)=kid then t else aQ ins).size:=by show ao [if ((0:Nat):Int)=kid then t else aQ ins,if ((1:Nat):Int)=kid then t else aQ ins,if ((2:Nat):Int)=kid then t else aQ ins]=_;rw [ao,ao,ao,ao];omega
 generalize OP:(if ((0:Nat):Int)=kid then t else aQ ins).size=x0 at *;generalize Fe:(if ((1:Nat):Int)=kid then t else aQ ins).size=x1 at *;generalize A':(if ((2:Nat):Int)=kid then t else aQ ins).size=x2 at *
 have hc:x0+x1+x2<=t.size+2:=by
  by_cases k0:((0:Nat):Int)=kid
  · have:=b1 (by omega);have:=b2 (by omega);omega
  · have:=b0 k0;by_cases k1:((1:Nat):Int)=kid
    · have:=b2 (by omega);omega
    · have:=b1 k1;omega
 match n,hn with
 | 0,_=>rw [e0];omega
 | 1,_=>rw [e1];omega
 | 2,_=>rw [e2];omega
 | 3,_=>rw [e3];omega
theorem je {ins:List (Vm×Int)} (g:bV ins):(aQ ins).FitS ins 0 0:=by
 obtain ⟨k0,zp,C0⟩:=kM g;have hI:=eG zp;rw [eF zp,Th.FitS,FitSs];refine ⟨?_,trivial⟩;have:(k0.1,(([]:List Th).length:Int))=k0:=by rw [show (([]:List Th).length:Int)=k0.2 by rw [C0];rfl]
 rw [this];exact UP hI
theorem pc {ins:List (Vm×Int)} (g:bV ins) {kd:Vm×Int} (hk:kd∈ins) {us:List Th} (hl:us.length=kd.2.toNat) (h:∀ u∈us,u.FitS ins 0 0):(Th.knot kd.1 us).FitS ins 0 0:=by
 rw [Th.FitS];refine ⟨?_,FitSs.of h⟩;have hn:=g.num kd hk;have:(kd.1,(us.length:Int))=kd:=by rw [show (us.length:Int)=kd.2 by omega]
 rw [this];exact hk
theorem oi {ins outs:List (Vm×Int)} {rows:List (List Th)} (F:FrK ins outs rows) {l:Int} (h0:0<=l) (h1:l<(rows.length:Nat)) {pl:List Int} {m:Vm} {ks:List Th} (h:In (mkF ins rows l) pl (.knot m ks)):mX ins rows l (aQ ins) pl m:=by
 obtain ⟨k0,zp,C0⟩:=kM F.gi;have hI:=eG zp;obtain ⟨row,p,hr,hp,e,_⟩:=F.mkd h0 h1;rw [e] at h;obtain ⟨n,hn⟩:=NmAt.of (ins:=ins) (rows:=rows) h (aQ ins) rfl;exact ⟨k0.1,[],row,cL ins,k0,p,n,h0,eF zp,hr,hI,rfl,hp,hn⟩
def frS (ins:List (Vm×Int)) (rows:List (List Th)) (s:Nat):Th:=frF (mkF ins rows) (mkF ins rows (s:Nat)) ((rows[s]?).getD [])
inductive Met (ins:List (Vm×Int)) (rows:List (List Th)):Nat->List Int->Prop
 | hol {s i:Nat} {row:List Th} {x:List Int×Th} (hr:rows[s]?=some row) (hi:i<=row.length) (hx:x∈(frF (mkF ins rows) (mkF ins rows (s:Nat)) (row.take i)).pl []) (hh:x.2.isHole=true):Met ins rows s x.1
 | lnk {s:Nat} {row:List Th} {p u:Th} {c:List Int×Int×Int} {x:List Int×Th} (hr:rows[s]?=some row) (hp:p∈row) (hc:c∈callsOf (p.pl [])) (hu:(c.1,u)∈(frS ins rows s).pl []) (hx:x∈u.pl []) (m:Met ins rows c.2.1.toNat x.1):Met ins rows s (c.1++x.1)
def Lk0 (ins:List (Vm×Int)) (rows:List (List Th)):LkT:=fun k s pl kd kid=>∃ (sn:Nat) (row:List Th) (i:Nat) (p:Th) (q x:List Int) (l:Int),s=(sn:Nat)/\rows[sn]?=some row/\row[i]?=some p/\ins[i]?=some kd/\In p q (.call l kid)/\k=nk l x/\pl=q++x/\(∃ u y,(q,u)∈(frS ins rows sn).pl []/\(x,y)∈u.pl [])
def Vt (ins:List (Vm×Int)) (rows:List (List Th)) (j:Nat) (s:Nat) (pl:List Int) (t:Th) (m:Vm):Prop:=t.FitS ins 0 0/\t.size<=4+3 * j/\mX ins rows (s:Nat) t pl m
def Vl0 (ins:List (Vm×Int)) (rows:List (List Th)):VlT:=fun j k t1 t2=>∃ (s:Nat) (pl:List Int) (m1 m2:Vm),k=nk (s:Nat) pl/\Met ins rows s pl/\m1≠m2/\Vt ins rows j s pl t1 m1/\Vt ins rows j s pl t2 m2
theorem uh {ins outs:List (Vm×Int)} {rows:List (List Th)} (F:FrK ins outs rows) (go:bV outs) {s:Nat} {row:List Th} (xV:rows[s]?=some row) (i:Nat) (p:Th) (kd:Vm×Int) (pl:List Int) (u:Th) (j:Nat) (hp:row[i]?=some p) (hk:ins[i]?=some kd) (hu:(pl,u)∈(frF (mkF ins rows) (mkF ins rows (s:Nat)) (row.take (i+1))).pl []) (hh:u.isHole=true) (hv:∀ v,(pl,v)∈(frF (mkF ins rows) (mkF ins rows (s:Nat)) (row.take i)).pl []->v.isHole=false) :
 Vl0 ins rows j (nk (s:Nat) pl) (aQ ins) (.knot kd.1 (WI kd.2.toNat (aQ ins))):=by
 have hs:=(US.mp xV).1;have g:=F.gi;have OQ:=UP hk;have Ba:=g.num kd OQ;have zX:row.take (i+1)=row.take i++[p]:=by rw [Wb,hp];rfl
 have Ff:Met ins rows s pl:=.hol (x:=(pl,u)) (i:=i+1) xV (by have:=(US.mp hp).1;omega) hu hh;rw [zX,kQ,In.iff] at hu;obtain ⟨Rg,p0,LH,C2,C3,_,_,f0⟩:=F.mkd (l:=(s:Nat)) (by omega) (by omega);have KZ:(mkF ins rows (s:Nat)).noCall:=by rw [C3];exact f9 _ _ (UR _) f0
 have hl:=(j8 (mk:=mkF ins rows) (frF (mkF ins rows) (mkF ins rows (s:Nat)) (row.take i)) (row.take i) (mkF ins rows (s:Nat)) (gx _ _ (UR _) (io KZ _))).1;have Ej:=(F.fit.row row (UP xV)).2 i p kd hp hk
 have HC:(p.fill fun l _=>mkF ins rows l).FitS outs (rows.length:Nat) 0:=mw (fun l k h0 h1=>by
  obtain ⟨_,p1,_,_,e,_,_,f1⟩:=F.mkd h0 h1;rw [e];exact f1) _ p (UR _) Ej
 obtain ⟨m1,m2,k1,k2,yn,i1,i2⟩:=qt go _ _ _ (mkF ins rows (s:Nat)) u pl (UR _) hu hh (fun v h=>hv v (In.iff.mpr h)) hl (io KZ _) (by rw [C3];exact f0) HC;refine ⟨s,pl,m1,m2,rfl,Ff,yn,⟨je g,by rw [iz];omega,oi F (by omega) (by omega) i1⟩,⟨pc g OQ (XX ..) fun u hu=>by rw [List.eq_of_mem_replicate hu];exact je g,?_,?_⟩⟩
 · rw [Th.size]
   have:∀ n:Nat,ao (WI n (aQ ins))=n:=fun n=>by
    induction n with
    | zero=>rw [List.replicate_zero,ao]
    | succ n ih=>rw [List.replicate_succ,ao,ih,iz];omega
   rw [this];omega
 · obtain ⟨n,hn⟩:=NmAt.fill (ins:=ins) (rows:=rows) (tm:=kd.1) (us:=WI kd.2.toNat (aQ ins)) (fun l k h0 h1 h2 h3=>⟨aQ ins,by rw [List.getElem?_replicate,if_pos (by omega)],fun pl m ks hi=>oi F h0 h1 hi⟩) _ p pl m2 k2 (UR _) Ej i2;exact ⟨kd.1,_,row,i,kd,p,n,by omega,rfl,xV,hk,rfl,hp,hn⟩
theorem In.fit {ks:List (Vm×Int)} {S C:Int} {p v:Th} {q:List Int} (h:In p q v):p.FitS ks S C->v.FitS ks S C:=by
 induction h with
 | here=>exact fun h=>h
 | kid h i ih=>exact fun hf=>ih (eJ hf h)
theorem vG {ins outs:List (Vm×Int)} {rows:List (List Th)} (F:FrK ins outs rows) (i j:Nat) (k:az) (t1 t2:Th) (s:Int) (pl:List Int) (kd:Vm×Int) (kid:Int) (Ei:i<j) (hv:Vl0 ins rows i k t1 t2) (hk:kd∈ins) (hL:Lk0 ins rows k s pl kd kid) :
 Vl0 ins rows j (nk s pl) (.knot kd.1 (bW ins kd.2.toNat kid t1)) (.knot kd.1 (bW ins kd.2.toNat kid t2)):=by
 obtain ⟨s',zG,m1,m2,e,Ff,yn,v1,v2⟩:=hv;obtain ⟨sn,row,i',p,q,x,l,rfl,hr,hp,hi,AH,e2,rfl,u0,y0,LI,Rh⟩:=hL;have e3:=e.symm.trans e2;obtain ⟨rfl,rfl⟩:=tq e3;have g:=F.gi;have Ba:=g.num kd hk;have Ej:=(F.fit.row row (UP hr)).2 i' p kd hp hi;have hc:=AH.fit Ej;rw [Th.FitS] at hc
 have one:∀ (t:Th) (m:Vm),Vt ins rows i s' zG t m->Vt ins rows j sn (q++zG) (.knot kd.1 (bW ins kd.2.toNat kid t)) m:=fun t m ⟨a1,a2,a3⟩=>by
  refine ⟨pc g hk (ig ..) fun u hu=>?_,?_,?_⟩
  · rcases pI hu with rfl | rfl
    · exact a1
    · exact je g
  · rw [Th.size];have:=oJ (ins:=ins) (n:=kd.2.toNat) (by omega) (kid:=kid) (t:=t);omega
  · obtain ⟨n,hn⟩:=NmAt.goes (ins:=ins) (rows:=rows) (tm:=kd.1) AH rfl hc.2.2.1 (pL (ins:=ins) (n:=kd.2.toNat) (t:=t) hc.2.2.1 (by omega)) a3;exact ⟨kd.1,_,row,i',kd,p,n,by omega,rfl,hr,hi,rfl,hp,hn⟩
 exact ⟨sn,q++zG,m1,m2,rfl,.lnk (c:=(q,((s':Nat):Int),kid)) (x:=(zG,y0)) hr (UP hp) (cG.mpr (In.to AH)) LI Rh (by rw [VT];exact Ff),yn,one t1 m1 v1,one t2 m2 v2⟩
theorem qS {f':List (az×V)} (hn:(f'.map (·.1)).Nodup) {j:Nat} {p:az×V} (h:f'[j]?=some p) {v:V} (hv:aV f' p.1=some v):v=p.2:=by
 obtain ⟨i,hi⟩:=Vc.mp (eM hv);have h1:(f'.map (·.1))[i]?=some p.1:=by rw [UZ,hi];rfl
 have h2:(f'.map (·.1))[j]?=some p.1:=by rw [UZ,h];rfl
 have Ei:i=j:=(List.getElem?_inj (by have:=(US.mp h1).1;exact this) hn).mp (h1.trans h2.symm);subst Ei;rw [h] at hi;have e:=Vo hi;rw [e]
theorem uc {ins:List (Vm×Int)} {rows:List (List Th)} {s:Nat} {row:List Th} (h:rows[s]?=some row):frS ins rows s=frF (mkF ins rows) (mkF ins rows (s:Nat)) row:=by
 unfold frS;rw [h];rfl
structure FrD (ins:List (Vm×Int)) (rows:List (List Th)) (ks:List az):Prop where
 hl:∀ (s i:Nat) (row:List Th),rows[s]?=some row->i<=row.length->∀ x∈(frF (mkF ins rows) (mkF ins rows (s:Nat)) (row.take i)).pl [],x.2.isHole=true->nk (s:Nat) x.1∈ks
 cl:∀ (s:Nat) (row:List Th),rows[s]?=some row->∀ p∈row,∀ c∈callsOf (p.pl []),∀ u,(c.1,u)∈(frS ins rows s).pl []->∀ x∈u.pl [],nk c.2.1 x.1∈ks->nk (s:Nat) (c.1++x.1)∈ks
theorem FrD.hol {ins:List (Vm×Int)} {rows:List (List Th)} {ks:List az} (h:FrD ins rows ks) (s:Nat) (hs:s<rows.length):∀ x∈(frS ins rows s).pl [],x.2.isHole=true->nk (s:Nat) x.1∈ks:=fun x hx hh=>by
 obtain ⟨row,hr⟩:∃ row,rows[s]?=some row:=⟨_,UN hs⟩;rw [uc hr] at hx;exact h.hl s row.length row hr (UR _) x (by rw [WY];exact hx) hh
theorem FrD.met {ins outs:List (Vm×Int)} {rows:List (List Th)} (F:FrK ins outs rows) {ks:List az} (h:FrD ins rows ks) {s:Nat} {pl:List Int} (m:Met ins rows s pl):nk (s:Nat) pl∈ks:=by
 induction m with
 | hol hr hi hx hh=>exact h.hl _ _ _ hr hi _ hx hh
 | lnk hr hp hc hu hx m ih =>
   rename_i s row p u c x
   refine h.cl _ _ hr _ hp _ hc _ hu _ hx ?_;obtain ⟨j,hj⟩:=Vc.mp hp;have C4:=(F.fit.row row (UP hr)).1;obtain ⟨k0,zp⟩:∃ k0,ins[j]?=some k0:=⟨_,UN (by have:=(US.mp hj).1;omega)⟩;have:=gA p [] ((F.fit.row row (UP hr)).2 j p k0 hj zp) c hc;rw [WO this.1] at ih;exact ih
def KeyM (ins:List (Vm×Int)) (rows:List (List Th)) (f':List (az×V)):Prop:=∀ (s:Nat) (pl:List Int),Dk f' (s:Nat) pl=true↔Met ins rows s pl
theorem uU {ins outs:List (Vm×Int)} {rows:List (List Th)} (F:FrK ins outs rows) {f':List (az×V)} (h:FrD ins rows (f'.map (·.1))) (hv:∀ p∈f',∃ j t1 t2,Vl0 ins rows j p.1 t1 t2):KeyM ins rows f':=fun s pl=>by
 constructor
 · intro hd;obtain ⟨p,hp,e⟩:=VM.mp (i8.mp hd);obtain ⟨j,t1,t2,s',zG,m1,m2,e2,hm,_⟩:=hv p hp;have e3:=e2.symm.trans e;obtain ⟨e4,rfl⟩:=tq e3;have:s'=s:=by omega
   subst this;exact hm
 · exact fun m=>i8.mpr (h.met F m)
theorem KeyM.eq {ins:List (Vm×Int)} {rows:List (List Th)} {k1 k2:List (az×V)} (h1:KeyM ins rows k1) (h2:KeyM ins rows k2) (s:Nat):Dk k1 (s:Nat)=Dk k2 (s:Nat):=funext fun pl=>by
 rw [Yx,h1,h2]
end BB
namespace L2
open PySem PySem.Spec PyProof.Rows
def tX (K:UO) (a:UQ):It:=⟨fun i H=>∃ xs x,SqL K H a xs/\xs[i]?=some x,fun i H x H'=>∃ p y,H p=none/\x=.ref p/\H'=upd H p (.tup [.int (i:Nat),y])/\∀ xs,SqL K H a xs->xs[i]?=some y,fun i H=>∃ xs,SqL K H a xs/\xs.length=i⟩
theorem qm {P:U6} {w:Vj} {K:UO} {elts:List V4} {k1} {pos:YJ} (a e it:UQ):Turn P w K (.Tuple elts k1 pos) (tX K a) [e,it] e (fun i h=>(∃ old,IsEnum h e it ((i:Nat):Int) old)/\h.IsListIter it a i) where
 mem:=by simp
 obj:=fun i h st b hb=>by
  obtain ⟨⟨old,he⟩,o,e1,e2,e3⟩:=st;rcases Vd.mp hb with rfl | hb
  · exact ⟨_,he,fun v z=>by cases z⟩
  · have:b=it:=by simpa using hb
    subst this;exact ⟨o,e1,fun v z=>by rw [e3] at z;cases z⟩
 keep:=fun i h h' st k=>by
  obtain ⟨⟨old,he⟩,o,e1,e2⟩:=st;exact ⟨⟨old,k e (by simp) _ he⟩,o,k it (by simp) _ e1,e2⟩
 item:=by
  intro X hP hw hK hc i pins s σ H E I hf st hg;subst hP hw hK;obtain ⟨xs,x,hq,hx⟩:=hg;obtain ⟨its,rv,p,hz⟩:=I.list hq;obtain ⟨u,hu,ru⟩:=rv.get hx;obtain ⟨⟨old,he⟩,hi⟩:=st
  have EY:e≠it:=by
   rintro rfl;obtain ⟨o,e1,e2,_⟩:=hi;rw [he] at e1;cases e1;exact absurd (WD e2) (by decide)
  have EZ:a≠it:=by
   rintro rfl;obtain ⟨o,e1,e2,_⟩:=hi;obtain ⟨o',Aj,Ai,_⟩:=p.isList;rw [Aj] at e1;cases e1;rw [Ai] at e2;exact absurd (WD e2) (by decide)
  have K':a≠e:=by
   rintro rfl;obtain ⟨o',Aj,Ai,_⟩:=p.isList;rw [he] at Aj;cases Aj;exact absurd (WD Ai) (by decide)
  have ye:i<its.toArray.size:=by
   have:=(US.mp hu).1;simpa using this
  have La:e<s.heap.objs.size:=U7 he;have zK:it<s.heap.objs.size:=by obtain ⟨o,e1,_⟩:=hi;exact U7 e1
  refine wpAny_pyNext_enum_itemD (Draws.list (A:=X.A.in1) (show X.A.in1.handled=none from I.ok.hd hc) it a EZ its.toArray) he ⟨hi,p.isList⟩ ye EY (by simp [EY,K'.symm]) fun y h1 tk hy ho F' hT hsz hk=>?_
  have Lb:y=u:=by
   have:its[i]?=some y:=by simpa using hy
   rw [hu] at this;exact (Vo this).symm
  subst Lb;refine ⟨_,rfl,wpAny_letOwnedTupleGo_enum ho fun h2 Lc Cg=>?_⟩;replace Cg:WH e h1 h2:=Cg
  have yn:∀ b∈[e,it],b<s.heap.objs.size:=fun b hb=>by
   rcases Vd.mp hb with rfl | hb
   · exact La
   · have:b=it:=by simpa using hb
     subst this;exact zK
  have G5:H s.heap.objs.size=none:=I.hok.fresh (UR _)
  have IA:Inv X pins σ (upd H s.heap.objs.size (.tup [.int (i:Nat),x])) { s with heap:=s.heap.push { cls:=.type "tuple",data:=.seq #[.int (i:Nat) tk,y] },toks:=tk } :=
   I.laid (o:=.tup [.int (i:Nat),x]) (fun b ob q=>UW _ q) (UR _) ⟨by show 2<=Vb;decide,[.int (i:Nat) tk,y],0,.cons ⟨tk,rfl⟩ (.cons ru .nil),U4 _ rfl⟩
  refine ⟨.ref s.heap.objs.size,upd H s.heap.objs.size (.tup [.int (i:Nat),x]),?_,rfl,⟨_,x,G5,rfl,rfl,fun ys G0=>by rw [I.list_inj G0 hq];exact hx⟩,⟨⟨y,by simpa using Lc⟩,?_⟩,fun b hb=>?_⟩
  · have IB:Inv X pins σ (upd H s.heap.objs.size (.tup [.int (i:Nat),x])) { s with heap:=h2,toks:=tk+1 }:=by
     refine Inv.turnedL (s:={ s with heap:=s.heap.push { cls:=.type "tuple",data:=.seq #[.int (i:Nat) tk,y] },toks:=tk }) (h':=h2) (fp:=[e,it]) (t':=tk+1) IA (fun b o hb q=>?_) fun b hb=>?_
     · have Bs:b≠e:=fun z=>hb (by simp [z]);have Ld:b≠it:=fun z=>hb (by simp [z]);rw [Cg.2 b Bs];by_cases yo:b=s.heap.objs.size
       · subst yo;rw [hT];have q':(s.heap.push { cls:=.type "tuple",data:=.seq #[.int (i:Nat) tk,y] }).get? s.heap.objs.size=some o:=q;rw [U4 _ rfl] at q';exact q'
       · have zT:b<(s.heap.push { cls:=.type "tuple",data:=.seq #[.int (i:Nat) tk,y] }).objs.size:=U7 q;rw [V8] at zT;refine hk b o Bs Ld ?_;have q':(s.heap.push { cls:=.type "tuple",data:=.seq #[.int (i:Nat) tk,y] }).get? b=some o:=q;rw [Heap.get?_push_ne _ _ _ yo] at q';exact q'
     · obtain ⟨f0,f1⟩:=hf b hb;exact ⟨by rw [ai (Vy (yn b hb))];exact f0,f1⟩
    exact IB
  · obtain ⟨o,e1,r⟩:=F'.1;exact ⟨o,(Cg.2 it (WG EY)).trans e1,r⟩
  · rw [ai (Vy (yn b hb))];exact (hf b hb).1
 done:=by
  intro X hP hw hK hc i pins s σ H E I hf st hg;subst hP hw hK;obtain ⟨xs,hq,hx⟩:=hg;obtain ⟨its,rv,p,hz⟩:=I.list hq;obtain ⟨⟨old,he⟩,hi⟩:=st
  have EZ:a≠it:=by
   rintro rfl;obtain ⟨o,e1,e2,_⟩:=hi;obtain ⟨o',Aj,Ai,_⟩:=p.isList;rw [Aj] at e1;cases e1;rw [Ai] at e2;exact absurd (WD e2) (by decide)
  have hn:its.toArray.size=i:=by
   have:=rv.length;rw [U0];omega
  refine wpAny_pyNext_enum_endD (Draws.list (A:=X.A.in1) (show X.A.in1.handled=none from I.ok.hd hc) it a EZ its.toArray) he (by rw [hn];exact ⟨hi,p.isList⟩) fun h' eb=>⟨rfl,?_⟩;exact I.turnedL (fp:=[e,it]) (t':=s.toks) (fun b o hb q=>eb b o (fun z=>hb (by simp [z])) q) hf
 self:=fun _ _ _ _ _ st h=>by
  obtain ⟨⟨old,he⟩,_⟩:=st;exact Zw he h
section
variable {X:Cx} {e:V4} {te:TE} {p2 yt:YJ}
def vF (K:UO) (tl:TE):TI:=fun σ H R=>tl σ H fun x H1=>∃ a,x=.ref a/\(∃ xs,SqL K H1 a xs)/\R (tX K a) H1
theorem kL {elts:List V4} {k1} {pos:YJ} (g2:Gl X "enumerate") (m2:X.mg "enumerate"=none) (he:PE X e te) (h2:VR [e] X.env=[(false,Xf e X.env)]:=by rfl):PI X (.Tuple elts k1 pos) (.Call (.Name "enumerate" p2) [e] [] yt) (vF X.K te):=by
 intro pins s σ H R I h;refine Wu (cU I g2 m2 boot_enumerate (VP ?_ h2 rfl));rw [h2];show Va _ _ (spliced ((false,Xf e X.env)::[])) _ _ s;refine Wv (thn (he pins s σ H _ I h) fun u s1 ⟨x,H1,I1,r1,a,ex,⟨xs,hq⟩,q⟩=>WV ?_);subst ex;cases r1;obtain ⟨its,rv,p,hz⟩:=I1.list hq;refine call_enumerate_list (show s1.heap.IsList a its.toArray from p.isList) fun h' g1 g2 g3 g4=>?_;refine Zw (s:={ s1 with heap:=h' }) g1 ?_;refine ⟨s1.heap.objs.size+1,[s1.heap.objs.size+1,s1.heap.objs.size],_,_,H1,rfl,I1.kept (t':=s1.toks) g4,qm a _ _,⟨⟨_,g1⟩,g2⟩,fun b hb=>?_,q⟩
 have zE:s1.heap.objs.size<=b:=by
  rcases Vd.mp hb with rfl | hb
  · omega
  · have:b=s1.heap.objs.size:=by simpa using hb
    exact Nat.le_of_eq this.symm
 exact I1.fpOk zE (I1.hok.fresh zE)
end
theorem mz {K:UO} {a:UQ} {xs:List V} {g:TG} {tb:TS} {D:Ends} {σ:St} {H:Hp} (Pv:Nat->St->Hp->Prop) (h0:Pv 0 σ H) (hl:∀ i σ H,i<=xs.length->Pv i σ H->SqL K H a xs)
 (hs:∀ i x p σ H,xs[i]?=some x->H p=none->Pv i σ H->g (.ref p) σ (upd H p (.tup [.int (i:Nat),x])) fun ym H2=>tb { D with nx:=Pv (i+1),ct:=Pv (i+1),bk:=D.nx } ym H2) (hd:∀ σ H,Pv xs.length σ H->D.nx σ H) :
 ∃ W:Nat->Nat->St->Hp->Prop,(∃ m,W 0 m σ H)/\∀ i m σ H,W i m σ H →
   ((tX K a).stop i H/\D.nx σ H)∨((tX K a).go i H/\∃ N:St->Hp->Prop,(∀ xT H',N xT H'->∃ m',m'<m/\W (i+1) m' xT H')/\∀ x H',(tX K a).yld i H x H'->g x σ H' fun ym H2=>tb { D with nx:=N,ct:=N,bk:=D.nx } ym H2):=by
 refine ⟨fun i m σ H=>m=xs.length - i/\i<=xs.length/\Pv i σ H,⟨xs.length,by simp,Vn _,h0⟩,?_⟩;rintro i m σ H ⟨rfl,hi,p⟩;have q:=hl i σ H hi p;by_cases ye:i<xs.length
 · refine .inr ⟨⟨xs,xs[i],q,by simp [ye]⟩,Pv (i+1),fun xT H' p'=>⟨xs.length - (i+1),by omega,rfl,ye,p'⟩,fun x H' y=>?_⟩;obtain ⟨pa,y,hp,rfl,rfl,hy⟩:=y;exact hs i y pa σ H (hy xs q) hp p
 · have e:i=xs.length:=by omega
   subst e;exact .inl ⟨⟨xs,q,rfl⟩,hd σ H p⟩
end L2
namespace L2
open PySem PySem.Spec PySem.SeqAt PyProof.Rows BB
open Classical in
theorem rB {X:Cx} {pins:List (UQ×W0)} {σ:St} {H:Hp} {s:UY} (I:Inv X pins σ H s) {ds es:List Dv} {vs ws:List V} {its xW:List UT} {A:VF} (r1:Vals vs its) (r2:Vals ws xW) (Ak:DAtsK X.K H ds vs) (yE:DAtsK X.K H es ws) (hu:A.units+bN ds+2<Ww) :
 ∀ j (h1:j<its.toArray.size) (h2:j<xW.toArray.size),EqAt A.in1 s its.toArray[j] xW.toArray[j] (decide (ds[j]?=es[j]?)):=by
 intro j h1 h2;have l1:its.length=ds.length:=by rw [<- r1.length,Ak.length]
 have l2:xW.length=es.length:=by rw [<- r2.length,yE.length]
 have AJ:j<ds.length:=by rw [<- l1];simpa using h1
 have Am:j<es.length:=by rw [<- l2];simpa using h2
 have e1:ds[j]?=some ds[j]:=UN AJ;have e2:es[j]?=some es[j]:=UN Am;obtain ⟨x',Cf,dx⟩:=Ak.at e1;obtain ⟨y',Au,dy⟩:=yE.at e2;obtain ⟨u',zo,Cr⟩:=r1.get Cf;obtain ⟨v',yL,AB⟩:=r2.get Au;have e3:decide (ds[j]?=es[j]?)=decide (ds[j]=es[j]):=by rw [e1,e2];simp
 have e4:its.toArray[j]=u':=by
  rw [UN (by rw [l1];exact AJ)] at zo;simpa using zo
 have e5:xW.toArray[j]=v':=by
  rw [UN (by rw [l2];exact Am)] at yL;simpa using yL
 rw [e3,e4,e5];have q2:=dF e1;refine lD I _ ds[j] es[j] (UR _) x' y' u' v' A.in1 dx dy Cr AB ?_;show A.units+1+_<Ww;omega
def wE (K:UO) (B:Nat):R2:=fun x y H Q=>∃ a b vs ws ds es,x=.ref a/\y=.ref b/\SqL K H a vs/\SqL K H b ws/\DAtsK K H ds vs/\DAtsK K H es ws/\bN ds<=B/\∀ b:Bool,(b=true↔ds=es)->Q (.bl b) H
open Classical in
theorem qY {X:Cx} {B:Nat} (hu:X.A.units+B+2<Ww):OpR X (X8 .Eq) (wE X.K B):=by
 intro pins s σ H x y v u Q I rx ry h;obtain ⟨a,b,vs,ws,ds,es,rfl,rfl,ha,hb,Ak,yE,hB,q⟩:=h;cases rx;cases ry;obtain ⟨its,r1,p1,_⟩:=I.list ha;obtain ⟨xW,r2,p2,_⟩:=I.list hb;have l1:its.length=ds.length:=by rw [<- r1.length,Ak.length]
 have l2:xW.length=es.length:=by rw [<- r2.length,yE.length]
 by_cases hl:ds.length=es.length
 · have hsz:its.toArray.size=xW.toArray.size:=by rw [U0,U0];omega
   refine RcAt.lists p1.isList p2.isList hsz (by omega) (rB I r1 r2 Ak yE (by omega)) X.prog X.w X.xe _ ?_
   have e:(Vp its.toArray.size).all (fun j=>decide (ds[j]?=es[j]?))=decide (ds=es):=by
    rw [U0,l1];exact qg hl
   refine ⟨.bl (decide (ds=es)),H,I,by rw [e];rfl,q _ ?_⟩;simp
 · refine RcAt.lists_lengths p1.isList p2.isList (by rw [U0,U0,l1,l2];simpa using hl) (by omega) X.prog X.w X.xe _ ⟨.bl false,H,I,rfl,q _ ?_⟩;exact ⟨(fun z=>by cases z),fun z=>absurd (by rw [z]) hl⟩
end L2
namespace LAW
open PySem L2 BB
def top (i:Nat):WM:=PySem.Challenge.pw_boughbook_k56_fronts_lie_on_outcomes.main.body.getD i (.Pass ⟨0,0,0,0⟩)
theorem scm {N P:List Vm} {sc:YI} (a:sc.kind=.function:=by rfl) (b:sc.isCoroutine=false:=by rfl) (c:sc.isGenerator=false:=by rfl) (d:N.Nodup:=by decide +kernel) (e:N.take P.length=P:=by rfl) (f:∀ x∈P,sc.names.lookup x=some .local∨sc.names.lookup x=some .cell:=by decide +kernel) (g:∀ y∈sc.names,y.2≠.free:=by decide +kernel):aA N P sc:=⟨a,b,c,d,e,f,g⟩
abbrev jq:WM:=top 3
theorem pX:aA ["thing"] ["thing"] (am jq):=scm
abbrev kO:WM:=top 4
theorem gu:aA ["thing","met","ahead","part"] ["thing"] (am kO):=scm
abbrev ld:WM:=top 5
theorem dq:aA ["thing","met","ahead","place","part","kids"] ["thing"] (am ld):=scm
abbrev nS:WM:=top 6
theorem iS:aA ["tops","done","top","many"] ["tops"] (am nS):=scm
abbrev kf:WM:=top 7
theorem se:aA ["tree"] ["tree"] (am kf):=scm
abbrev ja:WM:=top 10
theorem qd:aA ["thing"] ["thing"] (am ja):=scm
abbrev jj:WM:=top 11
theorem pQ:aA ["thing"] ["thing"] (am jj):=scm
abbrev i7:WM:=top 12
theorem pT:aA ["thing"] ["thing"] (am i7):=scm
abbrev fK:WM:=top 13
theorem nO:aA ["call"] ["call"] (am fK):=scm
abbrev iq:WM:=top 14
theorem oh:aA ["pattern"] ["pattern"] (am iq):=scm
abbrev ie:WM:=top 15
theorem oy:aA ["front"] ["front"] (am ie):=scm
abbrev kT:WM:=top 16
theorem mv:aA ["part","many"] ["part"] (am kT):=scm
abbrev kP:WM:=top 17
theorem jo:aA ["pattern","table","tops","part"] ["pattern","table"] (am kP):=scm
abbrev iu:WM:=top 18
theorem ol:aA ["one","two"] ["one","two"] (am iu):=scm
abbrev dB:WM:=top 19
theorem cf:aA ["one","two","met","ahead","left","right"] ["one","two"] (am dB):=scm
abbrev kE:WM:=top 20
theorem gv:aA ["one","two","tops","left","right"] ["one","two"] (am kE):=scm
abbrev lq:WM:=top 22
theorem r9:aA ["book"] ["book"] (am lq):=scm
abbrev ip:WM:=top 23
theorem oO:aA ["book"] ["book"] (am ip):=scm
abbrev f6:WM:=top 24
theorem nC:aA ["book"] ["book"] (am f6):=scm
abbrev fq:WM:=top 26
theorem lS:aA ["ins"] ["ins"] (am fq):=scm
abbrev fk:WM:=top 27
theorem dZ:aA ["ins","kind","kids","name","many"] ["ins","kind","kids"] (am fk):=scm
abbrev df:WM:=top 28
theorem bh:aA ["book","names","at","made","state","patterns","kid"] ["book"] (am df):=scm
abbrev dY:WM:=top 29
theorem bC:aA ["book","state","made","partings","ins","front","kind","pattern","place"] ["book","state","made","partings"] (am dY):=scm
abbrev fU:WM:=top 30
theorem bM:aA ["book","state","front","links","parts","kind","pattern","place","lower","kid","inner"] ["book","state","front","links"] (am fU):=scm
abbrev kb:WM:=top 31
theorem ci:aA ["ins","links","partings","holes","at","one","two","state","place","kind","kid"] ["ins","links","partings"] (am kb):=scm
abbrev ga:WM:=top 32
theorem cw:aA ["front","state","partings","tops","ahead","place","part","kids"] ["front","state","partings"] (am ga):=scm
abbrev du:WM:=top 33
theorem bv:aA ["book","made","partings","firsts","links","state","front"] ["book"] (am du):=scm
abbrev gq:WM:=top 34
theorem fw:aA ["book","fronts","partings"] ["book"] (am gq):=scm
abbrev dW:WM:=top 35
theorem bT:aA ["book","fronts","partings","told","state","front"] ["book"] (am dW):=scm
abbrev fX:WM:=top 37
theorem nK:aA ["script","k"] ["script","k"] (am fX):=scm
abbrev dR:WM:=top 38
theorem dC:aA ["cells","many","found","k"] ["cells","many"] (am dR):=scm
abbrev eY:WM:=top 39
theorem bc:aA ["cell","every","step","at","word","k","names","turn"] ["cell"] (am eY):=scm
abbrev fh:WM:=top 40
theorem bj:aA ["cell","names","many","leaf","rest","kinds","k","count"] ["cell","names"] (am fh):=scm
abbrev ft:WM:=top 41
theorem bm:aA ["left","outs","states","kids","digit","state","kid","fit","kind","made","k"] ["left","outs","states","kids"] (am ft):=scm
abbrev dU:WM:=top 42
theorem cI:aA ["thing","found","k"] ["thing"] (am dU):=scm
abbrev iy:WM:=top 43
theorem jx:aA ["thing","place","other","k"] ["thing","place","other"] (am iy):=scm
abbrev fu:WM:=top 44
theorem ef:aA ["cell","k","number"] ["cell","k"] (am fu):=scm
abbrev gr:WM:=top 45
theorem bd:aA ["cells","ins","outs","states","rows","state","own","base","spots","row","k","number","place","part"] ["cells","ins","outs","states"] (am gr):=scm
abbrev fL:WM:=top 46
theorem iY:aA ["cells","ins","outs","states","head"] ["cells","ins","outs","states"] (am fL):=scm
abbrev fj:WM:=top 47
theorem cy:aA ["script","most","ins","outs","states","cells"] ["script","most"] (am fj):=scm
abbrev dA:WM:=top 48
theorem bg:aA ["book","state","tree","place","names","thing","at"] ["book","state","tree","place"] (am dA):=scm
abbrev de:WM:=top 49
theorem jf:aA ["outs","front"] ["outs","front"] (am de):=scm
abbrev fO:WM:=top 51
theorem cu:aA ["left","ins","deep","fit","kind","made","k"] ["left","ins","deep"] (am fO):=scm
abbrev fB:WM:=top 52
theorem gR:aA ["front","place","found","k"] ["front","place","found"] (am fB):=scm
abbrev iV:WM:=top 53
theorem db:aA ["script","book","fronts","held_here","k","tree","state","place","name","pairs","many","row"] ["script"] (am iV):=scm
structure FX (K:UO) (mg:Vm->Option UT) (n:Vm) (s:WM) (ps:List Vm) where
 f:UQ
 d:X5
 F:Fun K n n s f d
 b:Binds K d ps []
 m:mg n=some (.ref f)
section
open PySem.W
variable {K:Frag} {mg:Vm->Option UT} {h:V9} {n:Vm} {st:WM} {f:UQ} {oc kV dc pm cd ct:UT} {od an:Option UQ} {sl:Array (Option UT)} (X:K.In h) (G:h.Ns VC mg)
noncomputable def fx1 {p0:Vm} (a:nsIn K VC n=some (some (.ref f)):=by k_is) (l:K.lookup f=some ⟨oc,od,.func (fnOf n n (cn st) (b9 st) (am st) .none kV dc pm an cd ct),sl⟩:=by k_is) (c:codeIn K cd n=true:=by k_is) (k:keepIn K (.ref f)=true:=by k_is) (hb:∀ (kV dc pm:UT) (an:Option UQ) (cd ct u0:UT),bindArgs (fnOf n n (cn st) (b9 st) (am st) .none kV dc pm an cd ct) ⟨[u0],[]⟩=pure [(p0,u0)]:=by intros;rfl):FX K mg n st [p0] :=
 ⟨f,_,fy l c k,(fy l c k).binds fun a b c d e f us hl=>by obtain ⟨u0,rfl⟩:=us1 hl;exact hb a b c d e f u0,mg_of X G a⟩
noncomputable def fx2 {p0 p1:Vm} (a:nsIn K VC n=some (some (.ref f)):=by k_is) (l:K.lookup f=some ⟨oc,od,.func (fnOf n n (cn st) (b9 st) (am st) .none kV dc pm an cd ct),sl⟩:=by k_is) (c:codeIn K cd n=true:=by k_is) (k:keepIn K (.ref f)=true:=by k_is) (hb:∀ (kV dc pm:UT) (an:Option UQ) (cd ct u0 u1:UT),bindArgs (fnOf n n (cn st) (b9 st) (am st) .none kV dc pm an cd ct) ⟨[u0,u1],[]⟩=pure [(p0,u0),(p1,u1)]:=by intros;rfl):FX K mg n st [p0,p1] :=
 ⟨f,_,fy l c k,(fy l c k).binds fun a b c d e f us hl=>by obtain ⟨u0,u1,rfl⟩:=us2 hl;exact hb a b c d e f u0 u1,mg_of X G a⟩
noncomputable def fx3 {p0 p1 p2:Vm} (a:nsIn K VC n=some (some (.ref f)):=by k_is) (l:K.lookup f=some ⟨oc,od,.func (fnOf n n (cn st) (b9 st) (am st) .none kV dc pm an cd ct),sl⟩:=by k_is) (c:codeIn K cd n=true:=by k_is) (k:keepIn K (.ref f)=true:=by k_is) (hb:∀ (kV dc pm:UT) (an:Option UQ) (cd ct u0 u1 u2:UT),bindArgs (fnOf n n (cn st) (b9 st) (am st) .none kV dc pm an cd ct) ⟨[u0,u1,u2],[]⟩=pure [(p0,u0),(p1,u1),(p2,u2)]:=by intros;rfl):FX K mg n st [p0,p1,p2] :=
 ⟨f,_,fy l c k,(fy l c k).binds fun a b c d e f us hl=>by obtain ⟨u0,u1,u2,rfl⟩:=us3 hl;exact hb a b c d e f u0 u1 u2,mg_of X G a⟩
noncomputable def fx4 {p0 p1 p2 p3:Vm} (a:nsIn K VC n=some (some (.ref f)):=by k_is) (l:K.lookup f=some ⟨oc,od,.func (fnOf n n (cn st) (b9 st) (am st) .none kV dc pm an cd ct),sl⟩:=by k_is) (c:codeIn K cd n=true:=by k_is) (k:keepIn K (.ref f)=true:=by k_is) (hb:∀ (kV dc pm:UT) (an:Option UQ) (cd ct u0 u1 u2 u3:UT),bindArgs (fnOf n n (cn st) (b9 st) (am st) .none kV dc pm an cd ct) ⟨[u0,u1,u2,u3],[]⟩=pure [(p0,u0),(p1,u1),(p2,u2),(p3,u3)]:=by intros;rfl):FX K mg n st [p0,p1,p2,p3] :=
 ⟨f,_,fy l c k,(fy l c k).binds fun a b c d e f us hl=>by obtain ⟨u0,u1,u2,u3,rfl⟩:=us4 hl;exact hb a b c d e f u0 u1 u2 u3,mg_of X G a⟩
end
theorem pcF {X:Cx} {kk k:Nat} {sp:Sp} {n:Vm} {st:WM} {ps:List Vm} {e:V4} {es:List V4} {t:TA} {p pos:YJ} (g:FX X.K X.mg n st ps) (F:bn X.prog X.w X.K X.mg X.base CX0 k g.f g.d ps sp) (hr:Room kk X.A) (ha:PA X (e::es) t) (hle:k<=kk:=by first | decide | omega) (hg:Gl X n:=by rfl) (EU:(n == ("__debug__":Vm))=false:=by decide) (he:VR (e::es) X.env=(false,Xf e X.env)::VR es X.env:=by rfl) (zc:(YR pos (VR es X.env)).any (·.1)=false:=by rfl):PE X (.Call (.Name n p) (e::es) [] pos) (gN sp [] E0 t) :=
 fc F (hr.mono hle) hg g.m g.F.kp g.b .nil lv ha EU he zc
structure TX (K:UO) (mg:Vm->Option UT) where
 c_CALL_SIGN:∃ tk,mg "CALL_SIGN"=some (.str (UU "?") tk)
 c_MOST_KIDS:∃ tk,mg "MOST_KIDS"=some (.int (3) tk)
 a_HOLE:UQ
 c_HOLE:mg "HOLE"=some (.ref a_HOLE)
 q_HOLE:∀ H:Hp,SqT K H a_HOLE [.str (UU "*")]
 g_kids_of:FX K mg "kids_of" jq ["thing"]
 g_walked:FX K mg "walked" kO ["thing"]
 g_placed:FX K mg "placed" ld ["thing"]
 g_built:FX K mg "built" nS ["tops"]
 g_places:FX K mg "places" kf ["tree"]
 g_is_call:FX K mg "is_call" ja ["thing"]
 g_is_hole:FX K mg "is_hole" jj ["thing"]
 g_is_knot:FX K mg "is_knot" i7 ["thing"]
 g_called_by:FX K mg "called_by" fK ["call"]
 g_calls_in:FX K mg "calls_in" iq ["pattern"]
 g_holes_in:FX K mg "holes_in" ie ["front"]
 g_top_of:FX K mg "top_of" kT ["part"]
 g_filled:FX K mg "filled" kP ["pattern","table"]
 g_same_top:FX K mg "same_top" iu ["one","two"]
 g_side_by_side:FX K mg "side_by_side" dB ["one","two"]
 g_common:FX K mg "common" kE ["one","two"]
 g_ins_of:FX K mg "ins_of" lq ["book"]
 g_rules_of:FX K mg "rules_of" ip ["book"]
 g_states_of:FX K mg "states_of" f6 ["book"]
 g_small_tree:FX K mg "small_tree" fq ["ins"]
 g_knot_above:FX K mg "knot_above" fk ["ins","kind","kids"]
 g_first_makings:FX K mg "first_makings" df ["book"]
 g_first_front:FX K mg "first_front" dY ["book","state","made","partings"]
 g_put_links:FX K mg "put_links" fU ["book","state","front","links"]
 g_spread:FX K mg "spread" kb ["ins","links","partings"]
 g_cut_front:FX K mg "cut_front" ga ["front","state","partings"]
 g_found_fronts:FX K mg "found_fronts" du ["book"]
 g_fronts_of:FX K mg "fronts_of" gq ["book"]
 g_partings_of:FX K mg "partings_of" dW ["book"]
 g__law_cell:FX K mg "_law_cell" fX ["script","k"]
 g__law_folded:FX K mg "_law_folded" dR ["cells","many"]
 g__law_names:FX K mg "_law_names" eY ["cell"]
 g__law_kinds:FX K mg "_law_kinds" fh ["cell","names"]
 g__law_thing:FX K mg "_law_thing" ft ["left","outs","states","kids"]
 g__law_places:FX K mg "_law_places" dU ["thing"]
 g__law_put:FX K mg "_law_put" iy ["thing","place","other"]
 g__law_mixed:FX K mg "_law_mixed" fu ["cell","k"]
 g__law_rows:FX K mg "_law_rows" gr ["cells","ins","outs","states"]
 g__law_book:FX K mg "_law_book" fL ["cells","ins","outs","states"]
 g__law_drawn:FX K mg "_law_drawn" fj ["script","most"]
 g__law_name_at:FX K mg "_law_name_at" dA ["book","state","tree","place"]
 g__law_is_front:FX K mg "_law_is_front" de ["outs","front"]
 g__law_tree:FX K mg "_law_tree" fO ["left","ins","deep"]
 g__law_knots:FX K mg "_law_knots" fB ["front","place","found"]
 g_law:FX K mg "law" iV ["script"]
 n_all:mg "all"=none
 n_dict:mg "dict"=none
 n_enumerate:mg "enumerate"=none
 n_isinstance:mg "isinstance"=none
 n_len:mg "len"=none
 n_list:mg "list"=none
 n_min:mg "min"=none
 n_range:mg "range"=none
 n_reversed:mg "reversed"=none
 n_str:mg "str"=none
 n_tuple:mg "tuple"=none
 n_zip:mg "zip"=none
theorem uA:([UU "number",UU "kid",UU "place"]:List Vm).Nodup:=by decide +kernel
theorem xw:([UU "number",UU "done"]:List Vm).Nodup:=by decide +kernel
theorem wU:([UU "place",UU "knot"]:List Vm).Nodup:=by decide +kernel
theorem uV:([UU "place",UU "part"]:List Vm).Nodup:=by decide +kernel
theorem uS:([UU "name",UU "many"]:List Vm).Nodup:=by decide +kernel
theorem xJ:([UU "kid",UU "kids",UU "ins"]:List Vm).Nodup:=by decide +kernel
theorem xB:([UU "state",UU "book",UU "made",UU "partings"]:List Vm).Nodup:=by decide +kernel
theorem w4:([UU "state",UU "front",UU "partings"]:List Vm).Nodup:=by decide +kernel
theorem xS:([UU "k",UU "cells"]:List Vm).Nodup:=by decide +kernel
theorem xR:([UU "kind",UU "left"]:List Vm).Nodup:=by decide +kernel
theorem wN:([UU "place",UU "k"]:List Vm).Nodup:=by decide +kernel
theorem wV:([UU "kind",UU "deep",UU "left"]:List Vm).Nodup:=by decide +kernel
theorem xh:([UU "place",UU "partings",UU "state"]:List Vm).Nodup:=by decide +kernel
theorem wB:([UU "part",UU "outs"]:List Vm).Nodup:=by decide +kernel
theorem xg:([UU "kind"]:List Vm).Nodup:=by decide +kernel
theorem xf:([UU "front",UU "book"]:List Vm).Nodup:=by decide +kernel
theorem vA:([UU "row"]:List Vm).Nodup:=by decide +kernel
section
variable {P:U6} {w:Vj} {K:UO} {mg:Vm->Option UT} {base:V9} (T:TX K mg)
inductive jz (K:UO) (vs:List V) (H:Hp) (Q:VK) (_E:XK):Prop
 | mk (a:UQ) (t:Th) (yf:vs=[.ref a]) (yg:AtK K H t a) (yl:∀ (r:UQ) (as:List UQ) (H':Hp),L2.Same H H'->H' r=some (.tup (as.map V.ref))->AtsK K H' t.kids as->Q (.ref r) H'):jz K vs H Q _E
def pV (K:UO):Sp:=jz K
theorem ii:bn P w K mg base CX0 1 T.g_kids_of.f T.g_kids_of.d ["thing"] (pV K):=by
 refine T.g_kids_of.F.ok pX (fun vs H Q E h=>?_) (fun yc A outer s H vs Q E hr h=>?_)
 · obtain ⟨a,t,rfl,_⟩:=h;rfl
 obtain ⟨a,t,rfl,hA,k⟩:=h
 refine ⟨_,(ae (bY (aP cZ (ay aC (pv 0) af (fun _ _=>rfl)) (gz (v:=.str (UU "?")) rfl T.c_CALL_SIGN.choose_spec ⟨_,rfl⟩) (aS _)) (ag (aD (aI ac))) bO)
  (ag (aD (bx ff (pv 0) (bD af) b8)))),?_⟩
 try dsimp only [yz,xZ]
 cases t with
 | knot n ks =>
   rw [AtK] at hA;refine hid fun ZZ kZ=>?_;obtain ⟨hn,as,h1,h2⟩:=hA;refine kZ ?_;refine ⟨_,rfl,a,_,0,.str n,rfl,rfl,h1.sq,at0,rfl,_,rfl,?_⟩;refine cP (fun c=>absurd (of_decide_eq_true c) (fun z=>hn (V.str.inj z))) (fun _=>?_);refine ⟨_,rfl,1,rfl,a,_,rfl,h1.sq,?_,fun r hr=>?_⟩
   · intro z;have:=z.1;simp [HT.sIx] at this
   · rw [eL];exact k r as _ (ad hr _) ab (h2.mono (dz hr))
 | call sn kn =>
   rw [AtK] at hA;refine ⟨_,rfl,a,_,0,.str q,rfl,rfl,hA.sq,at0,rfl,_,rfl,?_⟩;refine cP (fun _=>?_) (fun c=>absurd (decide_eq_true rfl) c);refine ⟨by show 0<=Vb;decide,fun r hr=>?_⟩;exact k r [] _ (ad hr _) ab .nil
inductive j1 (K:UO) (vs:List V) (H:Hp) (Q:VK) (_E:XK):Prop
 | mk (a:UQ) (t:Th) (yf:vs=[.ref a]) (yg:AtK K H t a) (yl:t.size<=100000) (yx:∀ (r:UQ) (as:List UQ) (H':Hp),L2.Same H H'->H r=none->H' r=some (.lst (as.map V.ref))->AtsK K H' t.walk as->Q (.ref r) H'):j1 K vs H Q _E
def r6 (K:UO):Sp:=j1 K
theorem ss:bn P w K mg base CX0 2 T.g_walked.f T.g_walked.d ["thing"] (r6 K):=by
 refine T.g_walked.F.ok gu (fun vs H Q E h=>?_) (fun yc A outer s H vs Q E hr h=>?_)
 · obtain ⟨a,t,rfl,_⟩:=h;rfl
 obtain ⟨a,t,rfl,hA,hsz,k⟩:=h
 refine ⟨_,(ae (av (i:=1) gu.nd rfl (U9 rfl) (bu ac))
  (ae (av (i:=2) gu.nd rfl (U9 rfl) (bu (aa (pv 0) ac)))
  (ae (eR Vq (bJ (pv 2) (fun _=>rfl)) (ae (av (i:=3) gu.nd rfl (U9 rfl) (fP U3 XU XT ko (pv 2)))
  (ae (aL (bE U3 Vh Vg aN (pv 1) (aa (pv 3) ac)))
  (ag (aL (bE U3 Yp Yo qc (pv 2) (aa (qz wa (pcF T.g_kids_of (ii T) hr (aa (pv 3) ac))) ac)))))))
  (ag (aD (pv 1)))))),?_⟩
 try dsimp only [yz,xZ]
 refine ⟨by show 0<=Vb;decide,fun mt An=>?_⟩;refine ⟨_,rfl,by show 1<=Vb;decide,fun ah Af=>?_⟩;have zU:H ah=none:=(ad An _).free Af;have yn:ah≠mt:=fun z=>by rw [z,ab] at Af;cases Af
 refine ⟨fun m σ H2=>Ex5 fun (ms as:List UQ) (Ms As:List Th) (p:Option V)=>An8 (σ=[some (.ref a),some (.ref mt),some (.ref ah),p]) (L2.Same H H2) (H2 mt=some (.lst (ms.map V.ref))) (H2 ah=some (.lst (as.map V.ref))) (AtsK K H2 Ms ms) (AtsK K H2 As as) (Ms++walks As.reverse=t.walk) (m=ao As),⟨_,[],[a],[],[t],none,rfl,?_,?_,?_,.nil,.cons (hA.mono ?_) .nil,?_,rfl⟩,?_⟩
 · exact ax (ad An _) zU
 · rw [ai yn.symm,ab];rfl
 · rw [ab];rfl
 · exact Same.kt (ax (ad An _) zU)
 · simp [walks]
 rintro m σ H2 ⟨ms,as,Ms,As,p,rfl,sm,e1,e2,a1,a2,hw,rfl⟩
 have hlen:ms.length+ao As<=100000:=by
  have h1:=congrArg Xg hw;rw [U8,jr,Th.walk_len,<- a1.length] at h1;have h2:=mq As;omega
 refine ⟨_,rfl,_,.inl ⟨_,SqL.of e2,rfl⟩,?_⟩;refine cP (fun c=>?_) (fun c=>?_)
 · -- a part is taken off
   refine ⟨fun xT H'=>∃ m',m'<ao As/\Ex5 fun (ms as:List UQ) (Ms As:List Th) (p:Option V)=>An8 (xT=[some (.ref a),some (.ref mt),some (.ref ah),p]) (L2.Same H H') (H' mt=some (.lst (ms.map V.ref))) (H' ah=some (.lst (as.map V.ref))) (AtsK K H' Ms ms) (AtsK K H' As as) (Ms++walks As.reverse=t.walk) (m'=ao As),fun xT H' h=>h,?_⟩;have zx:as≠[]:=by intro z;subst z;simp at c
   obtain ⟨yj,b,rfl⟩:∃ yj b,as=yj++[b]:=⟨as.dropLast,as.getLast zx,(Xa zx).symm⟩;obtain ⟨Us,x,rfl,a3,a4⟩:=a2.snoc_inv;have hs:ao (Us++[x])=ao Us+x.size:=by rw [aY,ao,ao];omega
   have HE:=x.size_eq;rw [hs] at hlen;refine ⟨_,rfl,.inl ⟨rfl,_,SqL.of e2⟩,ah,_,.ref b,rfl,rfl,e2,by simp,?_⟩;have d1:((yj++[b]).map V.ref).dropLast=yj.map V.ref:=by simp
   rw [d1];refine ⟨_,rfl,.inl ⟨rfl,_,SqL.of (by rw [ai yn.symm];exact e1)⟩,_,rfl,mt,_,.ref b,rfl,rfl,by rw [ai yn.symm];exact e1,aF (by rw [UL];omega),?_⟩;have k1:KT H2 (upd (upd H2 ah (.lst (yj.map V.ref))) mt (.lst (ms.map V.ref++[.ref b]))):=(aU e2).trans (aU (xs:=ms.map V.ref) (by rw [ai yn.symm];exact e1));refine ⟨_,rfl,.inl ⟨rfl,_,SqL.of (by rw [ai yn,ab])⟩,_,rfl,b,x,rfl,a4.mono k1,fun r ks H3 s3 e3 a5=>?_⟩;refine ⟨r,_,rfl,SqT.of e3,fun l hl=>?_⟩;have l1:l≠ah:=fun z=>by rw [z,s3 ah _ (by rw [ai yn,ab])] at hl;cases hl
   have l2:l≠mt:=fun z=>by rw [z,s3 mt _ ab] at hl;cases hl
   refine ⟨ah,l,_,_,rfl,rfl,by rw [ai l1.symm];exact s3 ah _ (by rw [ai yn,ab]),SqT.of ab,Ye (aF ?_),?_⟩
   · have q1:=a3.length;have q2:=a5.length;have q3:=bU Us;have q4:=bU x.kids;rw [UL,Wd,UL];omega
   · have k2:KT H2 (upd (upd H3 l (.tup (ks.map V.ref).reverse)) ah (.lst (yj.map V.ref++(ks.map V.ref).reverse))) :=
      k1.trans ((Same.kt s3).trans ((dz hl).trans (aU (xs:=yj.map V.ref) (by rw [ai l1.symm];exact s3 ah _ (by rw [ai yn,ab])))))
     have k3:KT H3 (upd (upd H3 l (.tup (ks.map V.ref).reverse)) ah (.lst (yj.map V.ref++(ks.map V.ref).reverse))) :=
      (dz hl).trans (aU (xs:=yj.map V.ref) (by rw [ai l1.symm];exact s3 ah _ (by rw [ai yn,ab])))
     refine ⟨ao (Us++x.kids.reverse),?_,ms++[b],yj++ks.reverse,Ms++[x],Us++x.kids.reverse,some (.ref b),rfl,?_,?_,?_,?_,?_,?_,rfl⟩
     · rw [aY,mq,hs];omega
     · have s4:L2.Same H (upd (upd H2 ah (.lst (yj.map V.ref))) mt (.lst (ms.map V.ref++[.ref b]))):=ax (ax sm zU) An;have nl:H l=none:=s4.free (s3.free hl);exact ax (ax (s4.trans s3) nl) zU
     · rw [ai yn.symm,ai l2.symm,s3 mt _ ab,U5];rfl
     · rw [ab,U5,Zr]
     · exact (a1.mono k2).append (.cons (a4.mono k2) .nil)
     · exact (a3.mono k2).append (a5.mono k3).reverse
     · rw [<- hw,VN,Wn,Wn,WK,iP];show Ms++([x]++(walks x.kids++walks Us.reverse))=Ms++walks (x::Us.reverse);rw [walks,x.walk_eq];rfl
 · have hz:as=[]:=by
    cases as with
    | nil=>rfl
    | cons y ys=>simp at c
   subst hz;have Dt:As=[]:=Wc.mp a2.length.symm;subst Dt;refine ⟨_,rfl,k mt ms H2 sm An e1 ?_⟩;have Du:Ms=t.walk:=by simpa [walks] using hw
   rw [<- Du];exact a1
inductive lb (K:UO) (vs:List V) (H:Hp) (Q:VK) (_E:XK):Prop
 | mk (a:UQ) (t:Th) (yf:vs=[.ref a]) (yg:AtK K H t a) (yl:t.size<=100000) (yx:t.tall<=100000) (yK:∀ (r:UQ) (as:List UQ) (H':Hp),L2.Same H H'->H r=none->H' r=some (.lst (as.map V.ref))->PsAtK K H' (t.pl []) as->Q (.ref r) H'):lb K vs H Q _E
def rV (K:UO):Sp:=lb K
theorem gy:bn P w K mg base CX0 2 T.g_placed.f T.g_placed.d ["thing"] (rV K):=by
 refine T.g_placed.F.ok dq (fun vs H Q E h=>?_) (fun yc A outer s H vs Q E hr h=>?_)
 · obtain ⟨a,t,rfl,_⟩:=h;rfl
 obtain ⟨a,t,rfl,hA,hsz,yv,k⟩:=h
 refine ⟨_,(ae (av (i:=1) dq.nd rfl (U9 rfl) (bu ac))
  (ae (av (i:=2) dq.nd rfl (U9 rfl) (bu (aa (aI (aa (aI ac) (aa (pv 0) ac))) ac)))
  (ae (eR Vq (bJ (pv 2) (fun _=>rfl)) (ae (cE (fP U3 XU XT ko (pv 2)) (bo rfl (au (aj (i:=3) dq.nd rfl (Zh rfl)) (au (aj (i:=4) dq.nd rfl (U9 rfl)) aX))))
  (ae (aL (bE U3 Vh Vg aN (pv 1) (aa (aI (aa (pv 3) (aa (pv 4) ac))) ac)))
  (ae (di (i:=5) (N:=[UU "number",UU "kid",UU "place"]) (js:=[none,none,some 3]) (g:=(lT K 2 (cR (aG 0) (cR (aG 1) lQ)))) (tt:=bH) (te:=(lJ (bA (tOp (mo K) (bp 2) (lJ (bA (bp 0) dL))) (bA (bp 1) dL)))) dq.nd rfl (U9 rfl) rfl (cx rfl (by decide +kernel) (by decide +kernel) rfl rfl rfl) (mN rfl T.n_enumerate (pcF T.g_kids_of (ii T) hr (aa (pv 4) ac))) (fun _ _ _ _ _ _=>(bo rfl (au (aj (i:=0) uA rfl (U9 rfl)) (au (aj (i:=1) uA rfl (U9 rfl)) aX)))) (fN (bP aW (aR rfl) (bP aW (aR rfl) f8))) (fun _ _ _ _ _ _=>bS) (fun _ _ _ _ _ _=>(aI (aa (aw cK (pv 2) (aI (aa (pv 0) ac))) (aa (pv 1) ac)))))
  (ag (aL (bE U3 Yp Yo jm (pv 2) (aa (qz uX (pv 5)) ac))))))))
  (ag (aD (pv 1)))))),?_⟩
 try dsimp only [yz,xZ]
 refine ⟨ak (by show 0<=1000000;decide),fun mt An=>?_⟩;have s1:L2.Same H (upd H mt (.lst [])):=ad An _;have Fg:(upd H mt (.lst [])) mt=some (.lst []):=ab;generalize upd H mt (.lst [])=H1 at s1 Fg ⊢;refine ⟨ak (by show 0<=1000000;decide),fun p0 C2=>?_⟩;refine ⟨_,rfl,ak (by show 2<=1000000;decide),fun p1 Ac=>?_⟩;refine ⟨ak (by show 1<=1000000;decide),fun ah Af=>?_⟩;have s2:L2.Same H1 (upd (upd H1 p0 (.tup [])) p1 (.tup [.ref p0,.ref a])):=(ad C2 _).trans (ad Ac _);have e1:(upd (upd H1 p0 (.tup [])) p1 (.tup [.ref p0,.ref a])) p1=some (.tup [.ref p0,.ref a]):=ab;have e0:(upd (upd H1 p0 (.tup [])) p1 (.tup [.ref p0,.ref a])) p0=some (.tup []):=ad Ac _ _ _ ab;generalize (upd (upd H1 p0 (.tup [])) p1 (.tup [.ref p0,.ref a]))=H2 at s2 e1 e0 Af ⊢;have Bb:H1 ah=none:=s2.free Af;have zU:H ah=none:=s1.free Bb;have yn:ah≠mt:=fun z=>by rw [z,Fg] at Bb;cases Bb
 refine ⟨fun m σ H3=>Ex7 fun (ms as:List UQ) (Ms As:List (List Int×Th)) (c3 c4 c5:Option V)=>An9 (σ=[some (.ref a),some (.ref mt),some (.ref ah),c3,c4,c5]) (L2.Same H H3) (H3 mt=some (.lst (ms.map V.ref))) (H3 ah=some (.lst (as.map V.ref))) (PsAtK K H3 Ms ms) (PsAtK K H3 As as) (Ms++plP As.reverse=t.pl []) ((∀ p∈As,p.1.length+p.2.tall<=100000)) (m=szP As),⟨_,[],[p1],[],[([],t)],none,none,none,rfl,?_,?_,?_,.nil,.cons ⟨p0,a,?_,?_,?_⟩ .nil,?_,?_,rfl⟩,?_⟩
 · exact ax (s1.trans s2) zU
 · rw [ai yn.symm];exact s2 _ _ Fg
 · rw [ab];rfl
 · exact ad Af _ _ _ e1
 · exact ad Af _ _ _ e0
 · exact hA.mono (Same.kt (ax (s1.trans s2) zU))
 · simp [plP]
 · intro p hp;rw [Vi] at hp;subst hp;simpa using yv
 rintro m σ H3 ⟨ms,as,Ms,As,c3,c4,c5,rfl,sm,em,ea,a1,a2,hw,hb,rfl⟩
 have hlen:ms.length+szP As<=100000:=by
  have h1:=congrArg Xg hw;rw [U8,qV,Th.pl_len,jV] at h1;have h2:=U2 a1;omega
 refine ⟨_,rfl,_,.inl ⟨_,SqL.of ea,rfl⟩,?_⟩;refine cP (fun c=>?_) (fun c=>?_)
 · refine ⟨fun xT H'=>∃ m',m'<szP As/\Ex7 fun (ms as:List UQ) (Ms As:List (List Int×Th)) (c3 c4 c5:Option V)=>An9 (xT=[some (.ref a),some (.ref mt),some (.ref ah),c3,c4,c5]) (L2.Same H H') (H' mt=some (.lst (ms.map V.ref))) (H' ah=some (.lst (as.map V.ref))) (PsAtK K H' Ms ms) (PsAtK K H' As as) (Ms++plP As.reverse=t.pl []) ((∀ p∈As,p.1.length+p.2.tall<=100000)) (m'=szP As),fun xT H' h=>h,?_⟩;have zx:as≠[]:=by intro z;subst z;simp at c
   refine hid fun ZZ kZ=>?_;obtain ⟨yj,b,rfl⟩:∃ yj b,as=yj++[b]:=⟨as.dropLast,as.getLast zx,(Xa zx).symm⟩;obtain ⟨Us,⟨pre,x⟩,rfl,a3,pa,ta,eb,zF,AK⟩:=P2.snoc_inv a2;refine kZ ?_;have HF:szP (Us++[(pre,x)])=szP Us+x.size:=by rw [cF,szP,szP];rfl
   have HE:=x.size_eq;rw [HF] at hlen;have J8:=hb (pre,x) (by simp);simp only at J8 zF AK;refine ⟨_,rfl,.inl ⟨rfl,_,SqL.of ea⟩,ah,_,.ref b,rfl,rfl,ea,by simp,?_⟩;have d1:((yj++[b]).map V.ref).dropLast=yj.map V.ref:=by simp
   rw [d1];have k1:KT H3 (upd H3 ah (.lst (yj.map V.ref))):=aU ea;have Ek:L2.Same H (upd H3 ah (.lst (yj.map V.ref))):=ax sm zU;have Bn:(upd H3 ah (.lst (yj.map V.ref))) mt=some (.lst (ms.map V.ref)):=by rw [ai yn.symm];exact em
   have Fh:(upd H3 ah (.lst (yj.map V.ref))) ah=some (.lst (yj.map V.ref)):=ab;generalize (upd H3 ah (.lst (yj.map V.ref)))=H4 at k1 Ek Bn Fh ⊢;refine ⟨b,_,rfl,SqT.of (k1 _ _ eb),rfl,_,_,rfl,_,_,rfl,rfl,?_⟩
   -- met.append((place,part))
   refine ⟨_,rfl,.inl ⟨rfl,_,SqL.of Bn⟩,_,rfl,_,rfl,ak (by show 2<=1000000;decide),fun pr Ao=>?_⟩;have LJ:mt≠pr:=aJ Bn Ao;refine ⟨mt,_,_,rfl,rfl,ad Ao _ _ _ Bn,aF (by rw [UL];omega),?_⟩;have LK:(upd H4 pr (.tup [.ref pa,.ref ta])) mt=some (.lst (ms.map V.ref)):=ad Ao _ _ _ Bn;have k2:KT H4 (upd (upd H4 pr (.tup [.ref pa,.ref ta])) mt (.lst (ms.map V.ref++[.ref pr]))):=(dz Ao).trans (aU LK);have LL:L2.Same H (upd (upd H4 pr (.tup [.ref pa,.ref ta])) mt (.lst (ms.map V.ref++[.ref pr]))):=ax (ax Ek (Ek.free Ao)) An;have OR:(upd (upd H4 pr (.tup [.ref pa,.ref ta])) mt (.lst (ms.map V.ref++[.ref pr]))) mt=some (.lst ((ms++[pr]).map V.ref)):=by rw [ab,U5];rfl
   have J9:(upd (upd H4 pr (.tup [.ref pa,.ref ta])) mt (.lst (ms.map V.ref++[.ref pr]))) ah=some (.lst (yj.map V.ref)):=by rw [ai yn,ai (aJ Fh Ao)];exact Fh
   have Gf:(upd (upd H4 pr (.tup [.ref pa,.ref ta])) mt (.lst (ms.map V.ref++[.ref pr]))) pr=some (.tup [.ref pa,.ref ta]):=by rw [ai LJ.symm,ab]
   generalize (upd (upd H4 pr (.tup [.ref pa,.ref ta])) mt (.lst (ms.map V.ref++[.ref pr])))=H5 at k2 LL OR J9 Gf ⊢;have Gg:KT H3 H5:=k1.trans k2;have LM:=Gg _ _ zF
   -- kids
   refine ⟨_,rfl,ta,x,rfl,AK.mono Gg,fun r ks H6 s6 er zO=>⟨r,rfl,⟨_,SqT.of er⟩,?_⟩⟩;have yX:ks.length=x.kids.length:=zO.length;have Gh:=bU x.kids;intro D hD;have LN:=s6 _ _ LM;refine ⟨ks.length,fun j H7=>An3 (j<=ks.length) (L2.Same H6 H7) (Ex1 fun (bs:List UQ)=>An2 (H7 D=some (.lst (bs.map V.ref))) (PsAtK K H7 ((cQ pre 0 x.kids).take j) bs)),⟨Vn _,ad hD _,[],ab,.nil⟩,?_⟩;rintro j H7 ⟨hj,s7,bs,eD,yw⟩;by_cases By:j=ks.length
   · left;refine ⟨⟨_,SqT.of (s7 _ _ er),by rw [UL];exact By.symm⟩,?_⟩;have xY:(cQ pre 0 x.kids).take j=cQ pre 0 x.kids:=by rw [By,yX,<- gf pre 0 x.kids,WY]
     rw [xY] at yw;have LO:=s7 _ _ (s6 _ _ J9);have HG:=s7 _ _ (s6 _ _ OR)
     have zT:bs.length=x.kids.length:=by
      have:=U2 yw;rw [gf] at this;exact this.symm
     refine ⟨_,rfl,.inl ⟨rfl,_,SqL.of LO⟩,_,rfl,D,_,rfl,SqL.of eD,fun l hl=>?_⟩;have AI:ah≠l:=aJ LO hl;have Bc:mt≠l:=aJ HG hl;have HH:(upd H7 l (.lst (bs.map V.ref).reverse)) ah=some (.lst (yj.map V.ref)):=by rw [ai AI];exact LO
     have q3:yj.length=Us.length:=(U2 a3).symm;have q4:=mV Us;refine ⟨ah,l,_,_,rfl,rfl,HH,ab,ak ?_,?_⟩
     · rw [UL,Wd,UL];omega
     have k8:KT H7 (upd (upd H7 l (.lst (bs.map V.ref).reverse)) ah (.lst (yj.map V.ref++(bs.map V.ref).reverse))):=(dz hl).trans (aU HH);have El:KT H3 (upd (upd H7 l (.lst (bs.map V.ref).reverse)) ah (.lst (yj.map V.ref++(bs.map V.ref).reverse))):=Gg.trans ((Same.kt (s6.trans s7)).trans k8);refine ⟨szP (Us++(cQ pre 0 x.kids).reverse),?_,ms++[pr],yj++bs.reverse,Ms++[(pre,x)],Us++(cQ pre 0 x.kids).reverse,_,_,_,rfl,?_,?_,?_,?_,?_,?_,?_,rfl⟩
     · rw [cF,jV,i4,HF];omega
     · exact ax (ax ((LL.trans s6).trans s7) ((LL.trans s6).trans s7 |>.free hl)) zU
     · rw [ai yn.symm,ai Bc];exact HG
     · rw [ab,U5,Zr]
     · exact P2.append (a1.mono El) (.cons ⟨pa,ta,k8 _ _ (s7 _ _ (s6 _ _ Gf)),El _ _ zF,AK.mono El⟩ .nil)
     · exact P2.append (PsAtK.mono El a3) (P2.reverse (PsAtK.mono k8 yw))
     · rw [<- hw,VN,Wn,Wn,WK,kW,oU];show Ms++([(pre,x)]++(pls pre 0 x.kids++plP Us.reverse))=Ms++plP ((pre,x)::Us.reverse);rw [plP,x.pl_eq pre];rfl
     · intro p hp;rcases VH.mp hp with hp | hp
       · exact hb p (VU _ hp)
       · obtain ⟨g1,g2⟩:=kI pre 0 x.kids p (List.mem_reverse.mp hp);have:=mQ g2;omega
   · right;have yk:j<ks.length:=by omega
     refine ⟨yk,⟨_,.ref ks[j],SqT.of (s7 _ _ er),by rw [UZ,UN yk];rfl⟩,?_⟩;rintro y H8 ⟨p,v,hp,rfl,rfl,hv⟩;have yL:=hv _ (SqT.of (s7 _ _ er));obtain ⟨kd,rfl,C5⟩:=aT yL;obtain ⟨tk,zX,LP⟩:=zO.get C5;have s8:L2.Same H7 (upd H7 p (.tup [.int (j:Nat),.ref kd])):=ad hp _;refine ⟨p,_,rfl,SqT.of ab,rfl,_,_,rfl,_,_,rfl,rfl,?_⟩;generalize (upd H7 p (.tup [.int (j:Nat),.ref kd]))=H8 at s8 ⊢;refine ⟨_,rfl,_,rfl,ak (by show 1<=1000000;decide),fun n1 J'=>?_⟩;have s9:L2.Same H8 (upd H8 n1 (.tup [.int (j:Nat)])):=ad J' _;have e9:(upd H8 n1 (.tup [.int (j:Nat)])) n1=some (.tup [.int (j:Nat)]):=ab;generalize (upd H8 n1 (.tup [.int (j:Nat)]))=H9 at s9 e9 ⊢;refine kB (s9 _ _ (s8 _ _ (s7 _ _ LN))) e9 (by rw [UL];show pre.length+1<=1000000;omega) fun n2 yH yG Fi=>?_;refine ⟨_,rfl,ak (by show 2<=1000000;decide),fun n3 Em=>?_⟩;have yI:L2.Same H7 (upd yH n3 (.tup [.ref n2,.ref kd])):=(s8.trans (s9.trans yG)).trans (ad Em _);have HI:=yI _ _ eD;refine ⟨_,HI,aF ?_,yk,?_,bs++[n3],?_,?_⟩
     · have:=U2 yw;rw [VE] at this;rw [UL];omega
     · exact ax (s7.trans yI) hD
     · rw [ab,U5];rfl
     · have Ka:KT (upd yH n3 (.tup [.ref n2,.ref kd])) (upd (upd yH n3 (.tup [.ref n2,.ref kd])) D (.lst (bs.map V.ref++[.ref n3]))):=aU HI;rw [Wb,kN pre 0 x.kids j tk zX];refine P2.append (PsAtK.mono ((Same.kt yI).trans Ka) yw) (.cons ⟨n2,kd,Ka _ _ ab,Ka _ _ (ad Em _ _ _ ?_),?_⟩ .nil)
       · rw [Fi,U5,Ws];rfl
       · exact LP.mono ((Same.kt (s7.trans yI)).trans Ka)
 · have hz:as=[]:=by
    cases as with
    | nil=>rfl
    | cons y ys=>simp at c
   subst hz;have Dt:As=[]:=Wc.mp (U2 a2);subst Dt;refine ⟨_,rfl,k mt ms H3 sm An em ?_⟩;have Du:Ms=t.pl []:=by simpa [plP] using hw
   rw [<- Du];exact a1
inductive l4 (K:UO) (vs:List V) (H:Hp) (Q:VK) (_E:XK):Prop
 | mk (l:UQ) (as:List UQ) (tops:List Top) (u:Th) (yf:vs=[.ref l]) (yg:H l=some (.lst (as.map V.ref))) (yl:Vs (TopAtK K H) tops as) (yx:tops.length<=100000) (yK:TopsOk tops) (zJ:(∀ t,Top.th t∈tops->t.size<=100000)) (Bv:bl tops=[u]) (BZ:∀ (r:UQ) (H':Hp),L2.Same H H'->AtK K H' u r->Q (.ref r) H'):l4 K vs H Q _E
def sL (K:UO):Sp:=l4 K
theorem lm:bn P w K mg base CX0 1 T.g_built.f T.g_built.d ["tops"] (sL K):=by
 refine T.g_built.F.ok iS (fun vs H Q E h=>?_) (fun yc A outer s H vs Q E hr h=>?_)
 · obtain ⟨l,as,tops,u,rfl,_⟩:=h;rfl
 obtain ⟨l,as,tops,u,rfl,el,hT,hlen,hok,LR,hu,k⟩:=h
 refine ⟨_,(ae (av (i:=1) iS.nd rfl (Zh rfl) (bu ac))
  (ae (bi Vq rfl (v5 rfl T.n_reversed (pv 0)) (bo rfl (au (aj (i:=2) iS.nd rfl (U9 rfl)) (au (aj (i:=3) iS.nd rfl (U9 rfl)) aX))) (ag (bY (aP rh (pv 3) af (aS _)) (ag (aL (bE U3 Vh Vg aN (pv 1) (aa (aw cK (pv 2) (cH cA rfl T.n_tuple W8 (aa (cD (N:=[UU "number",UU "done"]) (js:=[none,some 1]) (g:=(aG 0)) (tt:=bH) (te:=(wt K "list" (w9) (bp 1))) rfl (cx rfl (by decide +kernel) (by decide +kernel) rfl rfl rfl) (bq rfl T.n_range (aa (pv 3) ac)) (fun _ _ _ _ _ _=>(aj (i:=0) xw rfl (U9 rfl))) (aR rfl) (fun _ _ _ _ _ _=>bS) (fun _ _ _ _ _ _=>(fP U3 XU XT ko (pv 1)))) ac))) ac)))) (ag (aL (bE U3 Vh Vg aN (pv 1) (aa (pv 2) ac)))))))
  (ag (aD (ay aO (pv 1) af (fun _ _=>rfl)))))),?_⟩
 try dsimp only [yz,xZ]
 have zM:tops.length=as.length:=U2 hT;refine ⟨ak (by show 0<=1000000;decide),fun dn Kb=>?_⟩;refine ⟨_,rfl,l,_,rfl,SqL.of (ad Kb _ _ _ el),?_⟩
 refine uK (K:=K) (a:=l) (xs:=as.map V.ref) (fun i σ H2=>Ex3 fun c2 c3 ds=>An4 (σ=[some (.ref l),some (.ref dn),c2,c3]) (L2.Same H H2) (H2 dn=some (.lst (ds.map V.ref))) (AtsK K H2 (bl (tops.drop (tops.length - i))).reverse ds))
  ⟨none,none,[],rfl,ad Kb _,ab,by rw [Nat.sub_zero,List.drop_length];exact .nil⟩ (fun i σ H2 _ ⟨_,_,_,_,s2,_,_⟩=>SqL.of (s2 _ _ el)) ?_ ?_
 · rintro i y σ H2 hi hy ⟨c2,c3,ds,rfl,s2,Dw,Ah⟩;rw [UL,<- zM] at hi hy;obtain ⟨pr,rfl,Ao⟩:=aT hy;obtain ⟨x,hx,LS⟩:=P2.get' hT Ao;have OS:=LS.mono (Same.kt s2);have hn:tops.length - 1 - i<tops.length:=by omega
   have En:tops.drop (tops.length - 1 - i)=x::tops.drop (tops.length - i):=by
    rw [Yh hn,show tops.length - 1 - i+1=tops.length - i by omega];congr 1;rw [UN hn] at hx;exact Vo hx
   have Dx:=hok.drop (tops.length - 1 - i);rw [En] at Dx;have Eo:tops.length - (i+1)=tops.length - 1 - i:=by omega
   have Lj:(bl (tops.drop (tops.length - i))).length<=100000:=by
    have:=qe (tops.drop (tops.length - i));rw [Wa] at this;omega
   generalize tops.drop (tops.length - i)=S at En Ah Dx Lj;refine hid fun ZZ kZ=>?_
   obtain ⟨ta,m,xs,Gf,eta,hm,TN,zk⟩:∃ (ta:UQ) (m:Nat) (xs:List V),H2 pr=some (.tup [.ref ta,.int (m:Nat)])/\TK K H2 ta xs/\m<=(bl S).length/\xs.length<=200000/\∀ (H':Hp) (p:UQ) (ks:List UQ),KT H2 H'->AtsK K H' ((bl S).take m) ks->TK K H' p (xs++ks.map V.ref)->∃ u',bl (x::S)=u'::(bl S).drop m/\AtK K H' u' p:=by
    cases x with
    | nm n m =>
      rw [TopsOk] at Dx;obtain ⟨ta,h1,h2,h3⟩:=OS;refine ⟨ta,m,_,h1,h3,Dx.1,(by show 1<=200000;decide),fun H' p ks kt hk hp=>⟨_,by rw [bl],?_⟩⟩;rw [AtK];exact ⟨h2,ks,hp,hk⟩
    | th t =>
      obtain ⟨ta,h1,h2⟩:=OS;obtain ⟨xs,h3,hw,h4⟩:=h2.whole;have zE:=LR t (UP hx);refine ⟨ta,0,_,h1,h3,Vn _,by omega,fun H' p ks kt hk hp=>⟨t,by rw [bl,W6],?_⟩⟩;rw [XE,AtsK] at hk;subst hk;rw [WN,VB] at hp;exact h4 _ _ kt hp
   refine kZ ?_;refine ⟨pr,_,rfl,SqT.of Gf,rfl,_,_,rfl,_,_,rfl,rfl,?_⟩;have LU:=Ah.length;rw [Wd] at LU;refine eI (fun b H'=>An2 (H'=H2) (b=decide ((0:Int)<(m:Int)))) (fun kk Bo=>?_) (fun H' hb=>?_) (fun H' hb=>?_)
   · exact ⟨_,rfl,_,_,rfl,rfl,_,rfl,Bo _ _ ⟨rfl,rfl⟩⟩
   rotate_left
   · obtain ⟨rfl,hb⟩:=hb
     have Ri:m=0:=by
      have:=of_decide_eq_false hb.symm;omega
     subst Ri;obtain ⟨u',zo,zH⟩:=zk H' ta [] (Same.kt (.refl _)) (by rw [XE];exact .nil) (by rw [WN,VB];exact eta);refine ⟨_,rfl,.inl ⟨rfl,_,SqL.of Dw⟩,_,rfl,dn,_,_,rfl,rfl,Dw,aF (by rw [UL];omega),?_⟩;have k6:KT H' (upd H' dn (.lst (ds.map V.ref++[.ref ta]))):=aU Dw;refine ⟨_,_,ds++[ta],rfl,?_,by rw [ab,U5];rfl,?_⟩
     · intro b o e;rw [ai (aJ e Kb)];exact s2 b o e
     · rw [Eo,En,zo,VY];rw [W6];exact (Ah.mono k6).append (.cons (zH.mono k6) .nil)
   obtain ⟨rfl,hb⟩:=hb;refine ⟨_,rfl,.inl ⟨rfl,_,SqL.of Dw⟩,_,rfl,?_⟩;refine ⟨_,rfl,(m:Int),rfl,by omega,by omega,fun D hD=>?_⟩;have LV:D≠dn:=fun z=>by rw [z,Dw] at hD;cases hD
   have An:((m:Nat):Int).toNat=m:=VT m
   refine ⟨m,fun j H3=>An3 (j<=m) ((∀ b o,H' b=some o->b≠dn->H3 b=some o)) (Ex2 fun (Dy ks:List UQ)=>An4 (H3 dn=some (.lst (Dy.map V.ref))) (H3 D=some (.lst (ks.map V.ref))) (AtsK K H3 ((bl S).drop j).reverse Dy) (AtsK K H3 ((bl S).take j) ks)),
    ⟨Vn _,fun b o e hb=>?_,ds,[],?_,?_,?_,?_⟩,?_⟩
   · rw [ai (aJ e hD)];exact e
   · rw [ai LV.symm];exact Dw
   · rw [ab];rfl
   · rw [W6];exact Ah.mono (dz hD)
   · rw [XE];exact .nil
   rintro j H3 ⟨hj,kp,Dy,ks,ed,eD,Fj,hd2⟩;by_cases OT:j=m
   · left;refine ⟨(by show ((m:Nat):Int).toNat<=j;rw [An,OT];exact UR _),?_⟩;subst OT;have HJ:KT H' H3:=fun b TQ e=>kp b _ e (eP e Dw (by intro z;cases z));refine ⟨D,_,rfl,.inl ⟨SqL.of eD,fun tp Fl=>?_⟩⟩;have s4:L2.Same H3 (upd H3 tp (.tup (ks.map V.ref))):=ad Fl _;have e4:(upd H3 tp (.tup (ks.map V.ref))) tp=some (.tup (ks.map V.ref)):=ab;generalize (upd H3 tp (.tup (ks.map V.ref)))=H4 at s4 e4 ⊢;have yX:=hd2.length;refine xq ((eta.mono HJ).mono (Same.kt s4)) (.of e4) (by rw [UL,yX,VE];omega) fun p H5 s5 e5=>?_;have Dz:=s4.trans s5;have OU:=Dz _ _ ed;have DA:=HJ.trans (Same.kt Dz);obtain ⟨u',zo,zH⟩:=zk H5 p ks DA (hd2.mono (Same.kt Dz)) e5;have B1:=Fj.length;rw [Wd,Wa] at B1;refine ⟨dn,_,_,rfl,rfl,OU,aF (by rw [UL];omega),?_⟩;have k6:KT H5 (upd H5 dn (.lst (Dy.map V.ref++[.ref p]))):=aU OU;refine ⟨_,_,Dy++[p],rfl,?_,by rw [ab,U5];rfl,?_⟩
     · intro b o e;have hb:b≠dn:=aJ e Kb;rw [ai hb];exact Dz _ _ (kp b o (s2 b o e) hb)
     · rw [Eo,En,zo,VY];exact (Fj.mono ((Same.kt Dz).trans k6)).append (.cons (zH.mono k6) .nil)
   · right;have yk:j<m:=by omega
     refine ⟨yk,(by show j<((m:Nat):Int).toNat;rw [An];exact yk),?_⟩;rintro x' H4 ⟨e1,e2⟩;have Ai:H4=H3:=e1;subst Ai;have OV:j<(bl S).length:=by omega
     have Rj:(bl S).drop j=(bl S)[j]::(bl S).drop (j+1):=Yh OV;rw [Rj,VY] at Fj
     have yn:Dy≠[]:=by
      intro z;subst z;have:=Fj.length;rw [U8] at this;simp at this
     refine hid fun ZZ kZ=>?_;obtain ⟨Fm,b,rfl⟩:∃ Fm b,Dy=Fm++[b]:=⟨Dy.dropLast,Dy.getLast yn,(Xa yn).symm⟩;obtain ⟨Us,x2,e3,hU,yo⟩:=Fj.snoc_inv;have e4:=List.append_inj' e3 rfl;obtain ⟨e5,e6⟩:=e4;refine kZ ?_;cases e6;subst e5;refine ⟨_,rfl,.inl ⟨rfl,_,SqL.of ed⟩,dn,_,.ref b,rfl,rfl,ed,by simp,?_⟩;have d1:((Fm++[b]).map V.ref).dropLast=Fm.map V.ref:=by simp
     rw [d1];have OW:(upd H4 dn (.lst (Fm.map V.ref))) D=some (.lst (ks.map V.ref)):=by rw [ai LV];exact eD
     have k5:KT H4 (upd (upd H4 dn (.lst (Fm.map V.ref))) D (.lst (ks.map V.ref++[.ref b]))):=(aU ed).trans (aU OW);refine ⟨_,OW,aF (by rw [UL,hd2.length,VE];omega),yk,fun b' o e zE=>?_,Fm,ks++[b],?_,?_,hU.mono k5,?_⟩
     · rw [ai (aJ e hD),ai zE];exact kp b' o e zE
     · rw [ai LV.symm,ab]
     · rw [ab,U5];rfl
     · rw [Wb,UN OV];exact (hd2.mono k5).append (.cons (yo.mono k5) .nil)
 · rintro σ H2 ⟨c2,c3,ds,rfl,s2,Dw,Ah⟩;rw [UL,<- zM,Nat.sub_self,W6,hu] at Ah;have HK:AtsK K H2 [u] ds:=Ah;rw [AtsK] at HK;obtain ⟨b,r,rfl,hb,Fd⟩:=HK;exact ⟨_,rfl,dn,_,0,.ref b,rfl,rfl,SqL.of Dw,at0,k b H2 s2 hb⟩
inductive ku (K:UO) (vs:List V) (H:Hp) (Q:VK) (_E:XK):Prop
 | mk (a:UQ) (t:Th) (yf:vs=[.ref a]) (yg:AtK K H t a) (yl:t.size<=100000) (yx:t.tall<=100000) (yK:∀ (r:UQ) (ps:List UQ) (H':Hp),L2.Same H H'->H r=none->H' r=some (.lst (ps.map V.ref))->Vs (fun (p:List Int×Th) b=>H' b=some (.tup (p.1.map V.int))) (t.pl []) ps->Q (.ref r) H'):ku K vs H Q _E
def r8 (K:UO):Sp:=ku K
theorem rX:bn P w K mg base CX0 3 T.g_places.f T.g_places.d ["tree"] (r8 K):=by
 refine T.g_places.F.ok se (fun vs H Q E h=>?_) (fun yc A outer s H vs Q E hr h=>?_)
 · obtain ⟨a,t,rfl,_⟩:=h;rfl
 obtain ⟨a,t,rfl,hA,hsz,yv,k⟩:=h;refine ⟨_,(ag (aD (cD (N:=[UU "place",UU "knot"]) (js:=[none,none]) (g:=(lT K 2 (cR (aG 0) (cR (aG 1) lQ)))) (tt:=bH) (te:=(bp 0)) rfl (cx rfl (by decide +kernel) (by decide +kernel) rfl rfl rfl) (bQ (pcF T.g_placed (gy T) hr (aa (pv 0) ac))) (fun _ _ _ _ _ _=>(bo rfl (au (aj (i:=0) wU rfl (U9 rfl)) (au (aj (i:=1) wU rfl (U9 rfl)) aX)))) (fN (bP aW (aR rfl) (bP aW (aR rfl) f8))) (fun _ _ _ _ _ _=>bS) (fun _ _ _ _ _ _=>(pv 0))))),?_⟩
 try dsimp only [yz,xZ]
 refine ⟨_,rfl,a,t,rfl,hA,hsz,yv,fun r as H1 s1 nr er zb=>⟨r,rfl,⟨_,SqL.of er⟩,?_⟩⟩;have zM:(t.pl []).length=as.length:=U2 zb;rw [Th.pl_len] at zM;refine hid fun ZZ kZ=>?_;obtain ⟨bs,CA,yo,LW⟩:=mH zb;refine kZ ?_;refine gS bs (fun _=>true) V.ref (SqL.of er) (by rw [UL];exact yo) (by rw [UL];omega) (fun i x z H2 R R0 hx hz sm g1 g2=>?_) (fun D hD=>?_)
 · obtain ⟨a',ta,rfl,ea⟩:=LW i x z hx hz;refine ⟨a',_,rfl,SqT.of (sm _ _ ea),rfl,_,_,rfl,_,_,rfl,rfl,?_⟩;refine oD (B:=R0 H2) ?_;exact ⟨_,rfl,g1 rfl⟩
 · rw [filter_tt];exact k D bs _ (s1.trans (ad hD _)) (s1.free hD) ab (P2.mp (fun _ _ e=>ad hD _ _ _ e) CA)
inductive jF (K:UO) (vs:List V) (H:Hp) (Q:VK) (_E:XK):Prop
 | mk (a:UQ) (t:Th) (yf:vs=[.ref a]) (yg:AtK K H t a) (yl:Q (.bl t.isCall) H):jF K vs H Q _E
def j6 (K:UO):Sp:=jF K
theorem hX:bn P w K mg base CX0 1 T.g_is_call.f T.g_is_call.d ["thing"] (j6 K):=by
 refine T.g_is_call.F.ok qd (fun vs H Q E h=>?_) (fun yc A outer s H vs Q E hr h=>?_)
 · obtain ⟨a,t,rfl,_⟩:=h;rfl
 obtain ⟨a,t,rfl,hA,k⟩:=h;refine ⟨_,(ag (aD (eZ cZ (ay aC (pv 0) af (fun _ _=>rfl)) (gz (v:=.str (UU "?")) rfl T.c_CALL_SIGN.choose_spec ⟨_,rfl⟩) (aS _)))),?_⟩
 try dsimp only [yz,xZ]
 cases t with
 | knot n ks =>
   rw [AtK] at hA;refine hid fun ZZ kZ=>?_;obtain ⟨hn,as,h1,h2⟩:=hA;refine kZ ?_;refine ⟨_,rfl,a,_,0,.str n,rfl,rfl,h1.sq,at0,rfl,?_⟩;have e:decide (V.str n=V.str (UU "?"))=false:=decide_eq_false (fun z=>hn (V.str.inj z));rw [e];exact k
 | call sn kn =>
   rw [AtK] at hA;refine ⟨_,rfl,a,_,0,.str q,rfl,rfl,hA.sq,at0,rfl,?_⟩;have e:decide (V.str q=V.str (UU "?"))=true:=decide_eq_true rfl;rw [e];exact k
inductive jC (K:UO) (vs:List V) (H:Hp) (Q:VK) (_E:XK):Prop
 | mk (a:UQ) (t:Th) (yf:vs=[.ref a]) (yg:AtK K H t a) (yl:t.tall<=150) (yx:Q (.bl t.isHole) H):jC K vs H Q _E
def j9 (K:UO):Sp:=jC K
theorem iA:bn P w K mg base CX0 1 T.g_is_hole.f T.g_is_hole.d ["thing"] (j9 K):=by
 refine T.g_is_hole.F.ok pQ (fun vs H Q E h=>?_) (fun yc A outer s H vs Q E hr h=>?_)
 · obtain ⟨a,t,rfl,_⟩:=h;rfl
 obtain ⟨a,t,rfl,hA,yv,k⟩:=h;refine ⟨_,(ag (aD (eZ (uD (B:=150) (iI hr)) (pv 0) (gz (v:=.ref T.a_HOLE) rfl T.c_HOLE rfl) (aS _)))),?_⟩
 try dsimp only [yz,xZ]
 refine ⟨_,rfl,?_⟩;exact uO hA (TK.const T.q_HOLE) yv k
inductive jH (K:UO) (vs:List V) (H:Hp) (Q:VK) (_E:XK):Prop
 | mk (a:UQ) (t:Th) (yf:vs=[.ref a]) (yg:AtK K H t a) (yl:t.tall<=150) (yx:Q (.bl t.isKnot) H):jH K vs H Q _E
def pO (K:UO):Sp:=jH K
theorem pY:bn P w K mg base CX0 2 T.g_is_knot.f T.g_is_knot.d ["thing"] (pO K):=by
 refine T.g_is_knot.F.ok pT (fun vs H Q E h=>?_) (fun yc A outer s H vs Q E hr h=>?_)
 · obtain ⟨a,t,rfl,_⟩:=h;rfl
 obtain ⟨a,t,rfl,hA,yv,k⟩:=h;refine ⟨_,(ag (aD (nH (sK (pcF T.g_is_call (hX T) hr (aa (pv 0) ac))) (pR (sK (pcF T.g_is_hole (iA T) hr (aa (pv 0) ac))))))),?_⟩
 try dsimp only [yz,xZ]
 refine ⟨_,rfl,a,t,rfl,hA,_,rfl,_,rfl,?_⟩;refine cP (fun c=>?_) (fun c=>?_)
 · refine ⟨_,rfl,a,t,rfl,hA,yv,_,rfl,?_⟩;have e:t.isKnot=!t.isHole:=by unfold Th.isKnot;rw [c];rfl
   rw [e] at k;exact k
 · have e:t.isKnot=false:=by unfold Th.isKnot;rw [V5.mpr c];rfl
   rw [e] at k;exact k
inductive gW (K:UO) (vs:List V) (H:Hp) (Q:VK) (_E:XK):Prop
 | mk (a:UQ) (sn kn:Int) (yf:vs=[.ref a]) (yg:AtK K H (.call sn kn) a) (yl:∀ p,H p=none->Q (.ref p) (upd H p (.tup [.int sn,.int kn]))):gW K vs H Q _E
def i3 (K:UO):Sp:=gW K
theorem iF:bn P w K mg base CX0 1 T.g_called_by.f T.g_called_by.d ["call"] (i3 K):=by
 refine T.g_called_by.F.ok nO (fun vs H Q E h=>?_) (fun yc A outer s H vs Q E hr h=>?_)
 · obtain ⟨a,sn,kn,rfl,_⟩:=h;rfl
 obtain ⟨a,sn,kn,rfl,hA,k⟩:=h;refine ⟨_,(ag (aD (aI (aa (ay aC (pv 0) af (fun _ _=>rfl)) (aa (ay aC (pv 0) af (fun _ _=>rfl)) ac))))),?_⟩
 try dsimp only [yz,xZ]
 rw [AtK] at hA;exact ⟨_,rfl,a,_,1,_,rfl,rfl,hA.sq,at1,_,rfl,a,_,2,_,rfl,rfl,hA.sq,at2,ak (by show 2<=1000000;decide),fun p hp=>k p hp⟩
inductive iJ (K:UO) (vs:List V) (H:Hp) (Q:VK) (_E:XK):Prop
 | mk (a:UQ) (t:Th) (yf:vs=[.ref a]) (yg:AtK K H t a) (yl:t.size<=100000) (yx:t.tall<=100000) (yK:∀ (r:UQ) (as:List UQ) (H':Hp),L2.Same H H'->H r=none->H' r=some (.lst (as.map V.ref))->CsAt H' (callsOf (t.pl [])) as->Q (.ref r) H'):iJ K vs H Q _E
def oA (K:UO):Sp:=iJ K
theorem oZ:bn P w K mg base CX0 3 T.g_calls_in.f T.g_calls_in.d ["pattern"] (oA K):=by
 refine T.g_calls_in.F.ok oh (fun vs H Q E h=>?_) (fun yc A outer s H vs Q E hr h=>?_)
 · obtain ⟨a,t,rfl,_⟩:=h;rfl
 obtain ⟨a,t,rfl,hA,hsz,yv,k⟩:=h;refine ⟨_,(ag (aD (cD (N:=[UU "place",UU "part"]) (js:=[none,none]) (g:=(lT K 2 (cR (aG 0) (cR (aG 1) lQ)))) (tt:=(fun σ H Q=>(gN (j6 K) [] E0 (bA (bp 1) dL)) σ H fun x H1=>∃ k,uR K x H1 k/\Q k H1)) (te:=(lJ (bA (bp 0) (bA (gN (i3 K) [] E0 (bA (bp 1) dL)) dL)))) rfl (cx rfl (by decide +kernel) (by decide +kernel) rfl rfl rfl) (bQ (pcF T.g_placed (gy T) hr (aa (pv 0) ac))) (fun _ _ _ _ _ _=>(bo rfl (au (aj (i:=0) uV rfl (U9 rfl)) (au (aj (i:=1) uV rfl (U9 rfl)) aX)))) (fN (bP aW (aR rfl) (bP aW (aR rfl) f8))) (fun _ _ _ _ _ _=>iK (bJ (pcF T.g_is_call (hX T) hr (aa (pv 1) ac)) (fun _=>rfl))) (fun _ _ _ _ _ _=>(aI (aa (pv 0) (aa (pcF T.g_called_by (iF T) hr (aa (pv 1) ac)) ac))))))),?_⟩
 try dsimp only [yz,xZ]
 refine ⟨_,rfl,a,t,rfl,hA,hsz,yv,fun r as H1 s1 nr er zb=>⟨r,rfl,⟨_,SqL.of er⟩,?_⟩⟩;have zM:(t.pl []).length=as.length:=U2 zb;have zc:=Th.pl_len [] t;intro D hD;refine ⟨as.length,fun j H2=>An3 (j<=as.length) (L2.Same H1 H2) (Ex1 fun (bs:List UQ)=>An2 (H2 D=some (.lst (bs.map V.ref))) (CsAt H2 (callsOf ((t.pl []).take j)) bs)),⟨Vn _,ad hD _,[],ab,.nil⟩,?_⟩;rintro j H2 ⟨hj,s2,bs,eD,yw⟩;by_cases By:j=as.length
 · left;refine ⟨⟨_,SqL.of (s2 _ _ er),by rw [UL,By];exact UR _⟩,?_⟩;have xY:(t.pl []).take j=t.pl []:=by rw [By,<- zM,WY]
   rw [xY] at yw;exact k D bs H2 (s1.trans s2) (s1.free hD) eD yw
 · right;have yk:j<as.length:=by omega
   refine ⟨yk,⟨_,.ref as[j],SqL.of (s2 _ _ er),by rw [UZ,UN yk];rfl⟩,?_⟩;rintro y H3 ⟨rfl,hv⟩;have yL:=hv _ (SqL.of (s2 _ _ er));refine hid fun ZZ kZ=>?_;obtain ⟨pr,rfl,Ao⟩:=aT yL;obtain ⟨⟨p,u⟩,Rk,pa,ta,e1,e2,e3⟩:=P2.get' (zb.mono (Same.kt s2)) Ao;refine kZ ?_;simp only at e2 e3;have zX:(t.pl []).take (j+1)=(t.pl []).take j++[(p,u)]:=by rw [Wb,Rk];rfl
   have zT:bs.length<=j:=by
    have g1:=U2 yw;have g2:=jA ((t.pl []).take j);rw [VE] at g2;omega
   refine ⟨pr,_,rfl,SqT.of e1,rfl,_,_,rfl,_,_,rfl,rfl,?_⟩;refine ⟨_,rfl,ta,u,rfl,e3,_,rfl,?_⟩;cases u with
   | knot n ks =>
     refine iG ⟨yk,s2,bs,eD,?_⟩;rw [zX,dG];show CsAt H3 (callsOf ((t.pl []).take j)++[]) bs;rw [VB];exact yw
   | call sn kn =>
     refine oD ?_;refine ⟨_,rfl,_,rfl,ta,sn,kn,rfl,e3,fun ca HL=>⟨ak (by show 2<=1000000;decide),fun n3 Em=>?_⟩⟩;have s4:L2.Same H3 (upd (upd H3 ca (.tup [.int sn,.int kn])) n3 (.tup [.ref pa,.ref ca])):=(ad HL _).trans (ad Em _);have HM:=s4 _ _ eD;refine ⟨_,HM,aF (by rw [UL];omega),yk,ax (s2.trans s4) hD,bs++[n3],?_,?_⟩
     · rw [ab,U5];rfl
     · have k5:KT (upd (upd H3 ca (.tup [.int sn,.int kn])) n3 (.tup [.ref pa,.ref ca])) (upd (upd (upd H3 ca (.tup [.int sn,.int kn])) n3 (.tup [.ref pa,.ref ca])) D (.lst (bs.map V.ref++[.ref n3]))):=aU HM;rw [zX,dG];exact P2.append (CsAt.mono ((Same.kt s4).trans k5) yw) (.cons ⟨pa,ca,k5 _ _ ab,k5 _ _ (s4 _ _ e2),k5 _ _ (ad Em _ _ _ ab)⟩ .nil)
inductive iM (K:UO) (vs:List V) (H:Hp) (Q:VK) (_E:XK):Prop
 | mk (a:UQ) (t:Th) (yf:vs=[.ref a]) (yg:AtK K H t a) (yl:t.size<=100000) (yx:t.tall<=150) (yK:∀ (r:UQ) (ps:List UQ) (H':Hp),L2.Same H H'->H' r=some (.lst (ps.map V.ref))->Vs (fun (p:List Int) b=>H' b=some (.tup (p.map V.int))) (((t.pl []).filter fun p=>p.2.isHole).map (·.1)) ps->Q (.ref r) H'):iM K vs H Q _E
def nY (K:UO):Sp:=iM K
theorem jw:bn P w K mg base CX0 3 T.g_holes_in.f T.g_holes_in.d ["front"] (nY K):=by
 refine T.g_holes_in.F.ok oy (fun vs H Q E h=>?_) (fun yc A outer s H vs Q E hr h=>?_)
 · obtain ⟨a,t,rfl,_⟩:=h;rfl
 obtain ⟨a,t,rfl,hA,hsz,yv,k⟩:=h;refine ⟨_,(ag (aD (cD (N:=[UU "place",UU "part"]) (js:=[none,none]) (g:=(lT K 2 (cR (aG 0) (cR (aG 1) lQ)))) (tt:=(fun σ H Q=>(gN (j9 K) [] E0 (bA (bp 1) dL)) σ H fun x H1=>∃ k,uR K x H1 k/\Q k H1)) (te:=(bp 0)) rfl (cx rfl (by decide +kernel) (by decide +kernel) rfl rfl rfl) (bQ (pcF T.g_placed (gy T) hr (aa (pv 0) ac))) (fun _ _ _ _ _ _=>(bo rfl (au (aj (i:=0) uV rfl (U9 rfl)) (au (aj (i:=1) uV rfl (U9 rfl)) aX)))) (fN (bP aW (aR rfl) (bP aW (aR rfl) f8))) (fun _ _ _ _ _ _=>iK (bJ (pcF T.g_is_hole (iA T) hr (aa (pv 1) ac)) (fun _=>rfl))) (fun _ _ _ _ _ _=>(pv 0))))),?_⟩
 try dsimp only [yz,xZ]
 refine ⟨_,rfl,a,t,rfl,hA,hsz,by omega,fun r as H1 s1 nr er zb=>⟨r,rfl,⟨_,SqL.of er⟩,?_⟩⟩;have zM:(t.pl []).length=as.length:=U2 zb;have zc:=Th.pl_len [] t;obtain ⟨bs,CA,yo⟩:=pick (G:=fun (p:List Int×Th) a b=>∃ ta,H1 a=some (.tup [.ref b,.ref ta])/\H1 b=some (.tup (p.1.map V.int))/\AtK K H1 p.2 ta) (fun p a ⟨pa,ta,h1,h2,h3⟩=>⟨pa,ta,h1,h2,h3⟩) zb;refine gS ((t.pl []).zip bs) (fun z=>z.1.2.isHole) (fun z=>V.ref z.2) (SqL.of er) (by rw [UL,XR];omega) (by rw [UL];omega) (fun i x z H2 R R0 hx hz sm g1 g2=>?_) (fun D hD=>?_)
 · rw [WR] at hz;refine hid fun ZZ kZ=>?_;obtain ⟨a',rfl,Bu⟩:=aT hx;obtain ⟨ta,f1,f2,f3⟩:=yo i _ _ _ hz.1 Bu hz.2;obtain ⟨_,_,_,TR,_⟩:=tw t [] z.1.1 z.1.2 (UP hz.1);refine kZ ?_;refine ⟨a',_,rfl,SqT.of (sm _ _ f1),rfl,_,_,rfl,_,_,rfl,rfl,?_⟩;refine ⟨_,rfl,ta,z.1.2,rfl,f3.mono (Same.kt sm),by omega,_,rfl,?_⟩;refine cP (fun c=>?_) (fun c=>?_)
   · exact ⟨_,rfl,g1 c⟩
   · exact g2 (V5.mpr c)
 · refine k D ((((t.pl []).zip bs).filter fun z=>z.1.2.isHole).map (·.2)) _ (s1.trans (ad hD _)) (by rw [ab,W2];rfl) ?_;refine P2.mapl (·.1) (qU (xs:=t.pl []) (cs:=bs) (fun p:List Int×Th=>p.2.isHole) (by omega) fun i x c e1 e2=>?_);refine hid fun ZZ kZ=>?_;obtain ⟨a',Bu⟩:∃ a',as[i]?=some a':=⟨_,UN (by have:=(US.mp e2).1;omega)⟩;obtain ⟨ta,f1,f2,f3⟩:=yo i _ _ _ e1 Bu e2;refine kZ ?_;exact ad hD _ _ _ f2
inductive jZ (K:UO) (vs:List V) (H:Hp) (Q:VK) (_E:XK):Prop
 | mk (a:UQ) (n:Vm) (ks:List Th) (yf:vs=[.ref a]) (yg:AtK K H (.knot n ks) a) (yl:∀ (r:UQ) (H':Hp),L2.Same H H'->TopAtK K H' (.nm n ks.length) r->Q (.ref r) H'):jZ K vs H Q _E
def sB (K:UO):Sp:=jZ K
theorem mI:bn P w K mg base CX0 2 T.g_top_of.f T.g_top_of.d ["part"] (sB K):=by
 refine T.g_top_of.F.ok mv (fun vs H Q E h=>?_) (fun yc A outer s H vs Q E hr h=>?_)
 · obtain ⟨a,n,ks,rfl,_⟩:=h;rfl
 obtain ⟨a,n,ks,rfl,hA,k⟩:=h
 refine ⟨_,(ae (av (i:=1) mv.nd rfl (U9 rfl) (aB aq rfl T.n_len Vu (aa (pcF T.g_kids_of (ii T) hr (aa (pv 0) ac)) ac)))
  (ag (aD (aI (aa (bx qQ (pv 0) b8 (bD (aw eV (aB aq rfl T.n_len Vu (aa (pv 0) ac)) (pv 1)))) (aa (pv 1) ac)))))),?_⟩
 try dsimp only [yz,xZ]
 refine ⟨_,rfl,a,.knot n ks,rfl,hA,fun r as H1 s1 er zO=>⟨r,_,rfl,.inr (SqT.of er),?_⟩⟩;rw [AtK] at hA;refine hid fun ZZ kZ=>?_;obtain ⟨hn,ka,ea,y4⟩:=hA;refine kZ ?_;have yX:ka.length=ks.length:=y4.length;have zM:as.length=ks.length:=zO.length;refine ⟨_,rfl,_,rfl,a,_,rfl,.inr ((ea.mono (Same.kt s1)).sq),_,rfl,_,_,rfl,rfl,_,rfl,a,_,rfl,ea.mono (Same.kt s1),fun p H2 s2 e2=>?_⟩
 have e1:((V.str n::ka.map V.ref).length:Int) - ((as.map V.ref).length:Int)=1:=by
  rw [U1,UL,UL,yX,zM];omega
 have e3:TK K H2 p [.str n]:=by
  have Ai:TK K H2 p (dw (V.str n::ka.map V.ref) none (some (((V.str n::ka.map V.ref).length:Int) - ((as.map V.ref).length:Int)))):=e2;rw [e1,qA] at Ai;exact Ai
 refine ⟨_,rfl,ak (by show 2<=1000000;decide),fun l hl=>?_⟩;refine k l _ (s1.trans (s2.trans (ad hl _))) ⟨p,?_,hn,e3.mono (dz hl)⟩;rw [ab,UL,zM]
inductive lE (K:UO) (vs:List V) (H:Hp) (Q:VK) (_E:XK):Prop
 | mk (a ta:UQ) (t:Th) (f:Int->Int->Th) (f':List (List Key×V)) (yf:vs=[.ref a,.ref ta]) (yg:AtK K H t a) (yl:t.size<=100000) (yx:Rd H ta (.dT f')) (yK:(∀ s k,Th.call s k∈t.walk->∃ v,aV f' [VA s,VA k]=some (.ref v)/\AtK K H (f s k) v/\(f s k).size<=100000)) (zJ:∀ (r:UQ) (H':Hp),L2.Same H H'->AtK K H' (t.fill f) r->Q (.ref r) H'):lE K vs H Q _E
def sr (K:UO):Sp:=lE K
theorem rF:bn P w K mg base CX0 3 T.g_filled.f T.g_filled.d ["pattern","table"] (sr K):=by
 refine T.g_filled.F.ok jo (fun vs H Q E h=>?_) (fun yc A outer s H vs Q E hr h=>?_)
 · obtain ⟨a,ta,t,f,f',rfl,_⟩:=h;rfl
 obtain ⟨a,ta,t,f,f',rfl,hA,hsz,Om,HN,k⟩:=h
 refine ⟨_,(ae (av (i:=2) jo.nd rfl (U9 rfl) (bu ac))
  (ae (bi Vq rfl (bQ (pcF T.g_walked (ss T) hr (aa (pv 0) ac))) (aj (i:=3) jo.nd rfl (U9 rfl)) (ag (bY (bJ (pcF T.g_is_call (hX T) hr (aa (pv 3) ac)) (fun _=>rfl)) (ag (aL (bE U3 Vh Vg aN (pv 2) (aa (aI (aa (nw (mB hr) (pv 1) (pcF T.g_called_by (iF T) hr (aa (pv 3) ac)) (fun _ _=>rfl)) (aa af ac))) ac)))) (ag (aL (bE U3 Vh Vg aN (pv 2) (aa (pcF T.g_top_of (mI T) hr (aa (pv 3) ac)) ac)))))))
  (ag (aD (pcF T.g_built (lm T) hr (aa (pv 2) ac)))))),?_⟩
 try dsimp only [yz,xZ]
 refine ⟨ak (by show 0<=1000000;decide),fun tl yv=>?_⟩;refine ⟨_,rfl,a,t,rfl,hA.mono (dz yv),hsz,fun wl as H1 s1 OX OY hw=>?_⟩;have Cc:as.length=t.walk.length:=hw.length;have TU:=Th.walk_len t;have LX:L2.Same H H1:=(ad yv _).trans s1;have Rl:wl≠tl:=fun z=>by rw [z,ab] at OX;cases OX
 refine ⟨wl,rfl,⟨_,SqL.of OY⟩,?_⟩
 refine cY (K:=K) (a:=wl) (xs:=as.map V.ref) (fun i σ H2=>Ex2 fun c bs=>An6 (σ=[some (.ref a),some (.ref ta),some (.ref tl),c]) (L2.Same H H2) (H2 wl=some (.lst (as.map V.ref))) (AtsK K H2 t.walk as) (H2 tl=some (.lst (bs.map V.ref))) (Vs (TopAtK K H2) ((t.walk.take i).map (dO f)) bs))
  ⟨none,[],rfl,LX,OY,hw,s1 _ _ ab,.nil⟩ (fun i σ H2 _ ⟨_,_,_,_,e,_,_,_⟩=>SqL.of e) ?_ ?_
 · rintro i x σ H2 hx ⟨c,bs,rfl,s2,HP,LY,Bd,yw⟩;obtain ⟨xa,rfl,Rm⟩:=aT hx;obtain ⟨tx,OZ,LZ⟩:=LY.get Rm;have Rn:tx∈t.walk:=UP OZ;have zX:t.walk.take (i+1)=t.walk.take i++[tx]:=by rw [Wb,OZ];rfl
   have zT:bs.length<=100000:=by
    have:=U2 yw;rw [UL,VE] at this;omega
   refine ⟨_,rfl,xa,tx,rfl,LZ,_,rfl,?_⟩
   have push:∀ (H3:Hp) (p:UQ),L2.Same H2 H3->TopAtK K H3 (dO f tx) p->Ex2 fun c zy=>An6 (([some (.ref a),some (.ref ta),some (.ref tl),some (.ref xa)]:St)=[some (.ref a),some (.ref ta),some (.ref tl),c]) (L2.Same H (upd H3 tl (.lst (bs.map V.ref++[.ref p])))) ((upd H3 tl (.lst (bs.map V.ref++[.ref p]))) wl=some (.lst (as.map V.ref))) (AtsK K (upd H3 tl (.lst (bs.map V.ref++[.ref p]))) t.walk as) ((upd H3 tl (.lst (bs.map V.ref++[.ref p]))) tl=some (.lst (zy.map V.ref))) (Vs (TopAtK K (upd H3 tl (.lst (bs.map V.ref++[.ref p])))) ((t.walk.take (i+1)).map (dO f)) zy):=by
    intro H3 p s3 hp;have k3:KT H3 (upd H3 tl (.lst (bs.map V.ref++[.ref p]))):=aU (s3 _ _ Bd);refine ⟨_,bs++[p],rfl,ax (s2.trans s3) yv,by rw [ai Rl];exact s3 _ _ HP,LY.mono ((Same.kt s3).trans k3),by rw [ab,U5];rfl,?_⟩;rw [zX,U5];exact P2.append (dI ((Same.kt s3).trans k3) yw) (.cons (hp.mono k3) .nil)
   cases tx with
   | call sn kn =>
     refine oD ?_;refine hid fun ZZ kZ=>?_;obtain ⟨v,hv,Ro,_⟩:=HN sn kn Rn;refine kZ ?_;refine ⟨_,rfl,.inl ⟨rfl,_,SqL.of Bd⟩,_,rfl,_,rfl,xa,sn,kn,rfl,LZ,fun cb Rq=>?_⟩;have s3:L2.Same H2 (upd H2 cb (.tup [.int sn,.int kn])):=ad Rq _
     have L3:Rd (upd H2 cb (.tup [.int sn,.int kn])) ta (.dT f'):=by
      rcases Om with h | ⟨o,h⟩
      · exact .inl (s3 _ _ (s2 _ _ h))
      · exact .inr ⟨o,s3 _ _ (s2 _ _ h)⟩
     refine ⟨ta,.ref v,rfl,.inr ⟨f',[VA sn,VA kn],cb,L3,rfl,ab,hv.symm⟩,ak (by show 2<=1000000;decide),fun p hp=>?_⟩;have s4:=s3.trans (ad hp (.tup [.ref v,.int 0]));refine ⟨tl,_,_,rfl,rfl,s4 _ _ Bd,aF (by rw [UL];omega),?_⟩;exact push _ p s4 ⟨v,ab,Ro.mono (Same.kt (s2.trans s4))⟩
   | knot nm us =>
     refine iG ?_;refine ⟨_,rfl,.inl ⟨rfl,_,SqL.of Bd⟩,_,rfl,xa,nm,us,rfl,LZ,fun p H3 s3 hp=>?_⟩;refine ⟨tl,_,_,rfl,rfl,s3 _ _ Bd,aF (by rw [UL];omega),?_⟩;exact push _ p s3 hp
 · rintro σ H2 ⟨c,bs,rfl,s2,HP,LY,Bd,yw⟩;rw [UL,Cc,WY] at yw;obtain ⟨b1,b2⟩:=qG f t;refine ⟨_,rfl,tl,bs,_,t.fill f,rfl,Bd,yw,by rw [UL];omega,b2,?_,b1,fun r H3 s3 HQ=>k r H3 (s2.trans s3) HQ⟩;intro u hu;obtain ⟨x,hx,e⟩:=VM.mp hu;cases x with
   | knot nm us=>cases e
   | call sn kn =>
     cases e;refine hid fun ZZ kZ=>?_;obtain ⟨v,_,_,hz⟩:=HN sn kn hx;refine kZ ?_;exact hz
inductive iC (K:UO) (vs:List V) (H:Hp) (Q:VK) (_E:XK):Prop
 | mk (x y:UQ) (l r:Th) (yf:vs=[.ref x,.ref y]) (yg:AtK K H l x) (yl:AtK K H r y) (yx:l.tall<=150) (yK:Q (.bl (aH l r)) H):iC K vs H Q _E
def o9 (K:UO):Sp:=iC K
theorem jE:bn P w K mg base CX0 3 T.g_same_top.f T.g_same_top.d ["one","two"] (o9 K):=by
 refine T.g_same_top.F.ok ol (fun vs H Q E h=>?_) (fun yc A outer s H vs Q E hr h=>?_)
 · obtain ⟨x,y,l,r,rfl,_⟩:=h;rfl
 obtain ⟨x,y,l,r,rfl,hx,hy,yv,k⟩:=h;refine ⟨_,(ag (aD (nH (pcF T.g_is_knot (pY T) hr (aa (pv 0) ac)) (nH (eZ cZ (ay aC (pv 0) af (fun _ _=>rfl)) (ay aC (pv 1) af (fun _ _=>rfl)) (aS _)) (pR (eZ cZ (aB aq rfl T.n_len Vu (aa (pv 0) ac)) (aB aq rfl T.n_len Vu (aa (pv 1) ac)) (aS _))))))),?_⟩
 try dsimp only [yz,xZ]
 rw [og hx r] at k;refine hid fun ZZ kZ=>?_;obtain ⟨xr,ex,lx⟩:=hx.row;obtain ⟨yr,ey,ly⟩:=hy.row;refine kZ ?_;refine ⟨_,rfl,x,l,rfl,hx,yv,_,rfl,?_⟩;refine cP (fun c=>?_) (fun c=>?_)
 · rw [c] at k;refine ⟨_,rfl,x,_,0,.str l.name,rfl,rfl,ex.sq,at0,_,rfl,y,_,0,.str r.name,rfl,rfl,ey.sq,at0,rfl,_,rfl,?_⟩;refine cP (fun c2=>?_) (fun c2=>?_)
   · have e2:l.name=r.name:=V.str.inj (of_decide_eq_true c2);refine ⟨_,rfl,x,_,rfl,.inr (ex.sq),_,rfl,y,_,rfl,.inr (ey.sq),rfl,?_⟩
     have e3:decide (V.int ((V.str l.name::xr).length:Nat)=V.int ((V.str r.name::yr).length:Nat))=decide (l.wid=r.wid):=by
      rw [U1,U1,lx,ly];by_cases e:l.wid=r.wid
      · rw [e];simp
      · rw [decide_eq_false e,decide_eq_false];intro z;exact e (by have:=V.int.inj z;omega)
     rw [e3];rw [decide_eq_true e2] at k;exact k
   · have e2:l.name≠r.name:=fun e=>c2 (decide_eq_true (by rw [e]));rw [decide_eq_false e2] at k;exact k
 · rw [V5.mpr c] at k;exact k
inductive eU (K:UO) (vs:List V) (H:Hp) (Q:VK) (_E:XK):Prop
 | mk (x y:UQ) (l r:Th) (yf:vs=[.ref x,.ref y]) (yg:AtK K H l x) (yl:AtK K H r y) (yx:l.tall<=150) (yK:l.size<=100000) (zJ:∀ (m:UQ) (as:List UQ) (H':Hp),L2.Same H H'->H m=none->H' m=some (.lst (as.map V.ref))->Vs (PPK K H') (l.sbs r) as->Q (.ref m) H'):eU K vs H Q _E
def jQ (K:UO):Sp:=eU K
theorem jR:bn P w K mg base CX0 4 T.g_side_by_side.f T.g_side_by_side.d ["one","two"] (jQ K):=by
 refine T.g_side_by_side.F.ok cf (fun vs H Q E h=>?_) (fun yc A outer s H vs Q E hr h=>?_)
 · obtain ⟨x,y,l,r,rfl,_⟩:=h;rfl
 obtain ⟨x,y,l,r,rfl,hx,hy,yv,hsz,k⟩:=h
 refine ⟨_,(ae (av (i:=2) cf.nd rfl (U9 rfl) (bu ac))
  (ae (av (i:=3) cf.nd rfl (U9 rfl) (bu (aa (aI (aa (pv 0) (aa (pv 1) ac))) ac)))
  (ae (eR Vq (bJ (pv 3) (fun _=>rfl)) (ae (cE (fP U3 XU XT ko (pv 3)) (bo rfl (au (aj (i:=4) cf.nd rfl (U9 rfl)) (au (aj (i:=5) cf.nd rfl (U9 rfl)) aX))))
  (ae (aL (bE U3 Vh Vg aN (pv 2) (aa (aI (aa (pv 4) (aa (pv 5) ac))) ac)))
  (ag (bY (bJ (pcF T.g_same_top (jE T) hr (aa (pv 4) (aa (pv 5) ac))) (fun _=>rfl)) (ag (aL (bE U3 Yp Yo jm (pv 3) (aa (kx rfl rfl T.n_list rfl T.n_reversed (pP rfl rfl T.n_list rfl T.n_zip (aa (bx ff (pv 4) (bD af) b8) (aa (bx ff (pv 5) (bD af) b8) ac)))) ac)))) bO)))))
  (ag (aD (pv 2)))))),?_⟩
 try dsimp only [yz,xZ]
 refine ⟨by show 0<=Vb;decide,fun mt An=>?_⟩;refine ⟨_,rfl,_,rfl,by show 2<=Vb;decide,fun t0 O0=>⟨by show 1<=Vb;decide,fun ah Af=>?_⟩⟩;have s0:L2.Same H (upd (upd H mt (.lst [])) t0 (.tup [.ref x,.ref y])):=(ad An _).trans (ad O0 _);have e0:(upd (upd H mt (.lst [])) t0 (.tup [.ref x,.ref y])) mt=some (.lst []):=ad O0 _ _ _ ab;have e1:(upd (upd H mt (.lst [])) t0 (.tup [.ref x,.ref y])) t0=some (.tup [.ref x,.ref y]):=ab;generalize (upd (upd H mt (.lst [])) t0 (.tup [.ref x,.ref y]))=H1 at s0 e0 e1 Af ⊢;have zU:H ah=none:=s0.free Af;have yn:ah≠mt:=fun z=>by rw [z,e0] at Af;cases Af
 refine ⟨fun m σ H2=>Ex6 fun (ms as:List UQ) (Ms As:List (Th×Th)) (p p':Option V)=>v8 (σ=[some (.ref x),some (.ref y),some (.ref mt),some (.ref ah),p,p']) (L2.Same H H2) (H2 mt=some (.lst (ms.map V.ref))) (H2 ah=some (.lst (as.map V.ref))) (Vs (PPK K H2) Ms ms) (Vs (PPK K H2) As as) (Ms++wks As.reverse=l.sbs r) ((∀ p∈As,p.1.tall<=150)) (Ms.length+szL As<=100000) (m=szL As),⟨_,[],[t0],[],[(l,r)],none,none,rfl,?_,?_,?_,.nil,.cons ⟨x,y,?_,hx.mono ?_,hy.mono ?_⟩ .nil,?_,?_,?_,rfl⟩,?_⟩
 · exact ax s0 zU
 · rw [ai yn.symm];exact e0
 · rw [ab];rfl
 · rw [ai (aJ e1 Af)];exact e1
 · exact Same.kt (ax s0 zU)
 · exact Same.kt (ax s0 zU)
 · show wks [(l,r)]=_;rw [wks,wks,VB]
 · intro p hp;rw [Vi] at hp;subst hp;exact yv
 · show 0+(l.size+0)<=100000;omega
 rintro m σ H2 ⟨ms,as,Ms,As,p,p',rfl,sm,e1,e2,a1,a2,hw,AK,hlen,rfl⟩;have B2:Ms.length=ms.length:=U2 a1;refine ⟨_,rfl,_,.inl ⟨_,SqL.of e2,rfl⟩,?_⟩;refine cP (fun c=>?_) (fun c=>?_)
 · refine ⟨fun xT H'=>∃ m',m'<szL As/\Ex6 fun (ms as:List UQ) (Ms As:List (Th×Th)) (p p':Option V)=>v8 (xT=[some (.ref x),some (.ref y),some (.ref mt),some (.ref ah),p,p']) (L2.Same H H') (H' mt=some (.lst (ms.map V.ref))) (H' ah=some (.lst (as.map V.ref))) (Vs (PPK K H') Ms ms) (Vs (PPK K H') As as) (Ms++wks As.reverse=l.sbs r) ((∀ p∈As,p.1.tall<=150)) (Ms.length+szL As<=100000) (m'=szL As),fun xT H' h=>h,?_⟩;have zx:as≠[]:=by intro z;subst z;simp at c
   refine hid fun ZZ kZ=>?_;obtain ⟨yj,b,rfl⟩:∃ yj b,as=yj++[b]:=⟨as.dropLast,as.getLast zx,(Xa zx).symm⟩;obtain ⟨Us,u,rfl,a3,u1,u2,a4,a5,a6⟩:=P2.snoc_inv a2;obtain ⟨ul,ur⟩:=u;refine kZ ?_;simp only at a5 a6;have hs:szL (Us++[(ul,ur)])=szL Us+ul.size:=by rw [dE,szL,szL];rfl
   have HE:=ul.size_eq;rw [hs] at hlen;have Kc:ul.tall<=150:=AK (ul,ur) (by simp);have O1:∀ p∈Us,p.1.tall<=150:=fun p hp=>AK p (by simp [hp]);refine ⟨_,rfl,.inl ⟨rfl,_,SqL.of e2⟩,ah,_,.ref b,rfl,rfl,e2,by simp,?_⟩;have d1:((yj++[b]).map V.ref).dropLast=yj.map V.ref:=by simp
   rw [d1];have k0:KT H2 (upd H2 ah (.lst (yj.map V.ref))):=aU e2;have f1:(upd H2 ah (.lst (yj.map V.ref))) mt=some (.lst (ms.map V.ref)):=by rw [ai yn.symm];exact e1
   have f2:(upd H2 ah (.lst (yj.map V.ref))) ah=some (.lst (yj.map V.ref)):=ab;have s3:L2.Same H (upd H2 ah (.lst (yj.map V.ref))):=ax sm zU;generalize (upd H2 ah (.lst (yj.map V.ref)))=H3 at k0 f1 f2 s3 ⊢;refine ⟨b,_,rfl,SqT.of (k0 _ _ a4),rfl,_,_,rfl,_,_,rfl,rfl,?_⟩;refine ⟨_,rfl,.inl ⟨rfl,_,SqL.of f1⟩,_,rfl,_,rfl,by show 2<=Vb;decide,fun t1 Kd=>?_⟩;have s4:L2.Same H3 (upd H3 t1 (.tup [.ref u1,.ref u2])):=ad Kd _;have e4:(upd H3 t1 (.tup [.ref u1,.ref u2])) t1=some (.tup [.ref u1,.ref u2]):=ab;generalize (upd H3 t1 (.tup [.ref u1,.ref u2]))=H4 at s4 e4 ⊢;refine ⟨mt,_,_,rfl,rfl,s4 _ _ f1,aF (by rw [UL];omega),?_⟩;have k5:KT H4 (upd H4 mt (.lst (ms.map V.ref++[.ref t1]))):=aU (s4 _ _ f1);have g1:(upd H4 mt (.lst (ms.map V.ref++[.ref t1]))) mt=some (.lst ((ms++[t1]).map V.ref)):=by rw [ab,U5];rfl
   have g2:(upd H4 mt (.lst (ms.map V.ref++[.ref t1]))) ah=some (.lst (yj.map V.ref)):=by rw [ai yn];exact s4 _ _ f2
   have s5:L2.Same H (upd H4 mt (.lst (ms.map V.ref++[.ref t1]))):=ax (s3.trans s4) An;generalize (upd H4 mt (.lst (ms.map V.ref++[.ref t1])))=H5 at k5 g1 g2 s5 ⊢;have DB:KT H2 H5:=(k0.trans (Same.kt s4)).trans k5;have aM:Vs (PPK K H5) (Ms++[(ul,ur)]) (ms++[t1]):=P2.append (dk DB a1) (.cons ⟨u1,u2,k5 _ _ e4,a5.mono DB,a6.mono DB⟩ .nil);refine ⟨_,rfl,_,rfl,u1,u2,ul,ur,rfl,a5.mono DB,a6.mono DB,Kc,_,rfl,?_⟩
   have Fn:Ms++((ul,ur)::((if aH ul ur=true then wks (ul.kids.zip ur.kids) else [])++wks Us.reverse))=l.sbs r:=by
    rw [<- hw,Wn];show _=Ms++wks ((ul,ur)::Us.reverse);rw [sJ]
   refine cP (fun ct=>?_) (fun ct=>?_)
   · refine hid fun ZZ kZ=>?_;obtain ⟨n,ks,us,rfl,rfl,TV,Ds⟩:=bI ct;have O2:=a5.mono DB;have O3:=a6.mono DB;rw [AtK] at O2 O3;obtain ⟨J',ka,ek,y4⟩:=O2;obtain ⟨Ou,ua,eu,HR⟩:=O3;refine kZ ?_;rw [if_pos ct] at Fn;have hz:=iL ks us;refine ⟨_,rfl,.inl ⟨rfl,_,SqL.of g2⟩,_,rfl,1,rfl,u1,_,rfl,ek.sq,?_,fun c1 Ke=>?_⟩
     · intro z;have:=z.1;simp [HT.sIx] at this
     rw [eL];have s6:L2.Same H5 (upd H5 c1 (.tup (ka.map V.ref))):=ad Ke _;have e6:(upd H5 c1 (.tup (ka.map V.ref))) c1=some (.tup (ka.map V.ref)):=ab;generalize (upd H5 c1 (.tup (ka.map V.ref)))=H6 at s6 e6 ⊢;refine ⟨_,rfl,1,rfl,u2,_,rfl,(eu.mono (Same.kt s6)).sq,?_,fun c2 BU=>?_⟩
     · intro z;have:=z.1;simp [HT.sIx] at this
     rw [eL];have s7:L2.Same H6 (upd H6 c2 (.tup (ua.map V.ref))):=ad BU _;have e7:(upd H6 c2 (.tup (ua.map V.ref))) c2=some (.tup (ua.map V.ref)):=ab;generalize (upd H6 c2 (.tup (ua.map V.ref)))=H7 at s7 e7 ⊢;refine ⟨c1,c2,_,_,rfl,SqT.of (s7 _ _ e6),SqT.of e7,fun zl zs H8 s8 TY Rr Ht=>?_⟩;have DC:L2.Same H5 H8:=s6.trans (s7.trans s8);have O4:Vs (PPK K H8) (ks.zip us) zs:=pG (y4.mono (Same.kt DC)) (HR.mono (Same.kt DC)) Ht;have OI:(ks.zip us).length=zs.length:=U2 O4;have TZ:(ks.zip us).length<=szL (ks.zip us):=nF _;refine ⟨true,zl,_,rfl,SqB.l (SqL.of Rr),fun rl C4=>?_⟩;have s9:L2.Same H8 (upd H8 rl (.lst (zs.map V.ref).reverse)):=ad C4 _;have e9:(upd H8 rl (.lst (zs.map V.ref).reverse)) rl=some (.lst (zs.map V.ref).reverse):=ab;have T1:H5 rl=none:=DC.free C4;generalize (upd H8 rl (.lst (zs.map V.ref).reverse))=H9 at s9 e9 ⊢;have HS:=DC.trans s9;have Rt:Us.length=yj.length:=U2 a3;have T2:=nF Us;refine ⟨ah,rl,_,_,rfl,rfl,HS _ _ g2,e9,Ye (aF ?_),?_⟩
     · rw [UL,Wd,UL];simp only [Th.kids] at HE;omega
     have O5:KT H9 (upd H9 ah (.lst (yj.map V.ref++(zs.map V.ref).reverse))):=aU (HS _ _ g2);have O6:KT H5 (upd H9 ah (.lst (yj.map V.ref++(zs.map V.ref).reverse))):=(Same.kt HS).trans O5;simp only [Th.kids] at HE Fn;refine ⟨szL (Us++(ks.zip us).reverse),?_,ms++[t1],yj++zs.reverse,Ms++[(.knot n ks,.knot n us)],Us++(ks.zip us).reverse,_,_,rfl,?_,?_,?_,dk O6 aM,?_,?_,?_,?_,rfl⟩
     · rw [dE,qI,hs];omega
     · exact ax (s5.trans HS) zU
     · rw [ai yn.symm];exact HS _ _ g1
     · rw [ab,U5,Zr]
     · exact P2.append (dk (DB.trans O6) a3) (P2.reverse (dk ((Same.kt s9).trans O5) O4))
     · rw [Wn,WK,lw,<- Fn,VN];rfl
     · intro p hp;rcases VH.mp hp with hp | hp
       · exact O1 p hp
       · have zt:=(XQ (List.mem_reverse.mp hp)).1;have:=cg zt;rw [Th.tall] at Kc;omega
     · rw [dE,qI,U8];show Ms.length+1+_<=_;omega
   · rw [if_neg ct] at Fn;refine ⟨szL Us,?_,ms++[t1],yj,Ms++[(ul,ur)],Us,_,_,rfl,s5,g1,g2,aM,dk DB a3,?_,O1,?_,rfl⟩
     · rw [hs];omega
     · rw [<- Fn,VN];rfl
     · rw [U8];show Ms.length+1+_<=_;omega
 · have hz:as=[]:=by
    cases as with
    | nil=>rfl
    | cons y ys=>simp at c
   subst hz;have Dt:As=[]:=Wc.mp (U2 a2);subst Dt;refine ⟨_,rfl,k mt ms H2 sm An e1 ?_⟩
   have Du:Ms=l.sbs r:=by
    rw [<- hw,List.reverse_nil,wks,VB]
   rw [<- Du];exact a1
inductive li (K:UO) (vs:List V) (H:Hp) (Q:VK) (_E:XK):Prop
 | mk (x y:UQ) (l r:Th) (yf:vs=[.ref x,.ref y]) (yg:AtK K H l x) (yl:AtK K H r y) (yx:l.tall<=150) (yK:l.size<=100000) (zJ:∀ (m:UQ) (H':Hp),L2.Same H H'->AtK K H' (l.com r) m->Q (.ref m) H'):li K vs H Q _E
def rR (K:UO):Sp:=li K
theorem sv:bn P w K mg base CX0 5 T.g_common.f T.g_common.d ["one","two"] (rR K):=by
 refine T.g_common.F.ok gv (fun vs H Q E h=>?_) (fun yc A outer s H vs Q E hr h=>?_)
 · obtain ⟨x,y,l,r,rfl,_⟩:=h;rfl
 obtain ⟨x,y,l,r,rfl,hx,hy,yv,hsz,k⟩:=h
 refine ⟨_,(ae (av (i:=2) gv.nd rfl (U9 rfl) (bu ac))
  (ae (bi Vq rfl (bQ (pcF T.g_side_by_side (jR T) hr (aa (pv 0) (aa (pv 1) ac)))) (bo rfl (au (aj (i:=3) gv.nd rfl (U9 rfl)) (au (aj (i:=4) gv.nd rfl (U9 rfl)) aX))) (ag (bY (bJ (pcF T.g_same_top (jE T) hr (aa (pv 3) (aa (pv 4) ac))) (fun _=>rfl)) (ag (aL (bE U3 Vh Vg aN (pv 2) (aa (pcF T.g_top_of (mI T) hr (aa (pv 3) ac)) ac)))) (ag (aL (bE U3 Vh Vg aN (pv 2) (aa (aI (aa (gz (v:=.ref T.a_HOLE) rfl T.c_HOLE rfl) (aa af ac))) ac)))))))
  (ag (aD (pcF T.g_built (lm T) hr (aa (pv 2) ac)))))),?_⟩
 try dsimp only [yz,xZ]
 refine ⟨ak (by show 0<=1000000;decide),fun tl DD=>?_⟩;refine ⟨_,rfl,_,rfl,x,y,l,r,rfl,hx.mono (dz DD),hy.mono (dz DD),yv,hsz,fun m as H1 s1 nm em hp=>⟨m,rfl,⟨_,SqL.of em⟩,?_⟩⟩;have zc:(l.sbs r).length=as.length:=U2 hp;have O7:=um l r;have LX:L2.Same H H1:=(ad DD _).trans s1;have An:m≠tl:=fun z=>by rw [z,ab] at nm;cases nm
 refine cY (K:=K) (a:=m) (xs:=as.map V.ref) (fun i σ H2=>Ex3 fun c c' bs=>An6 (σ=[some (.ref x),some (.ref y),some (.ref tl),c,c']) (L2.Same H H2) (H2 m=some (.lst (as.map V.ref))) (Vs (PPK K H2) (l.sbs r) as) (H2 tl=some (.lst (bs.map V.ref))) (Vs (TopAtK K H2) (((l.sbs r).take i).map topC) bs)) ⟨none,none,[],rfl,LX,em,hp,s1 _ _ ab,.nil⟩ (fun i σ H2 _ ⟨_,_,_,_,_,e,_,_,_⟩=>SqL.of e) ?_ ?_
 · rintro i v σ H2 hv ⟨c,c',bs,rfl,s2,Bn,Ad,Bd,yw⟩;refine hid fun ZZ kZ=>?_;obtain ⟨b,rfl,hb⟩:=aT hv;obtain ⟨⟨ul,ur⟩,hu,u1,u2,e1,e2,e3⟩:=P2.get' Ad hb;refine kZ ?_;simp only at e2 e3;have hm:=ux (UP hu);simp only at hm;have zX:((l.sbs r).take (i+1)).map topC=((l.sbs r).take i).map topC++[topC (ul,ur)]:=by rw [Wb,hu,U5];rfl
   have zT:bs.length<=100000:=by
    have:=U2 yw;rw [UL,VE] at this;omega
   refine ⟨b,_,rfl,SqT.of e1,rfl,_,_,rfl,_,_,rfl,rfl,?_⟩
   have push:∀ (H3:Hp) (p:UQ),L2.Same H2 H3->TopAtK K H3 (topC (ul,ur)) p->Ex3 fun c c' zy=>An6 (([some (.ref x),some (.ref y),some (.ref tl),some (.ref u1),some (.ref u2)]:St)=[some (.ref x),some (.ref y),some (.ref tl),c,c']) (L2.Same H (upd H3 tl (.lst (bs.map V.ref++[.ref p])))) ((upd H3 tl (.lst (bs.map V.ref++[.ref p]))) m=some (.lst (as.map V.ref))) (Vs (PPK K (upd H3 tl (.lst (bs.map V.ref++[.ref p])))) (l.sbs r) as) ((upd H3 tl (.lst (bs.map V.ref++[.ref p]))) tl=some (.lst (zy.map V.ref))) (Vs (TopAtK K (upd H3 tl (.lst (bs.map V.ref++[.ref p])))) (((l.sbs r).take (i+1)).map topC) zy):=by
    intro H3 p s3 HU;have k3:KT H3 (upd H3 tl (.lst (bs.map V.ref++[.ref p]))):=aU (s3 _ _ Bd);refine ⟨_,_,bs++[p],rfl,ax (s2.trans s3) DD,by rw [ai An];exact s3 _ _ Bn,dk ((Same.kt s3).trans k3) Ad,by rw [ab,U5];rfl,?_⟩;rw [zX];exact P2.append (dI ((Same.kt s3).trans k3) yw) (.cons (HU.mono k3) .nil)
   refine ⟨_,rfl,_,rfl,u1,u2,ul,ur,rfl,e2,e3,by omega,_,rfl,?_⟩;refine cP (fun ct=>?_) (fun ct=>?_)
   · have ht:topC (ul,ur)=.nm ul.name ul.kids.length:=by unfold topC;rw [if_pos ct]
     obtain ⟨n,ks,us,rfl,rfl,_,_⟩:=bI ct;refine ⟨_,rfl,.inl ⟨rfl,_,SqL.of Bd⟩,_,rfl,u1,n,ks,rfl,e2,fun p H3 s3 HU=>?_⟩;refine ⟨tl,_,_,rfl,rfl,s3 _ _ Bd,aF (by rw [UL];omega),?_⟩;exact push _ p s3 (by rw [ht];exact HU)
   · have ht:topC (ul,ur)=.th hole:=by unfold topC;rw [if_neg ct]
     refine ⟨_,rfl,.inl ⟨rfl,_,SqL.of Bd⟩,ak (by show 2<=1000000;decide),fun p Ru=>?_⟩;have s3:L2.Same H2 (upd H2 p (.tup [.ref T.a_HOLE,.int 0])):=ad Ru _;refine ⟨tl,_,_,rfl,rfl,s3 _ _ Bd,aF (by rw [UL];omega),?_⟩;exact push _ p s3 (by rw [ht];exact ⟨T.a_HOLE,ab,sG (TK.const T.q_HOLE)⟩)
 · rintro σ H2 ⟨c,c',bs,rfl,s2,Bn,Ad,Bd,yw⟩;rw [UL,<- zc,WY] at yw;obtain ⟨b1,b2⟩:=vS l r;refine ⟨_,rfl,tl,bs,_,l.com r,rfl,Bd,yw,by rw [UL];omega,b2,?_,b1,fun rr H3 s3 HQ=>k rr H3 (s2.trans s3) HQ⟩;intro u hu;obtain ⟨p,zt,e⟩:=VM.mp hu;unfold topC at e;split at e
   · cases e
   · cases e;rw [eA];omega
inductive j4 (vs:List V) (H:Hp) (Q:VK) (_E:XK):Prop
 | mk (b:UQ) (v1 v2 v3 v4:V) (yf:vs=[.ref b]) (yg:H b=some (.tup [v1,v2,v3,v4])) (yl:Q v1 H):j4  vs H Q _E
def rM:Sp:=j4
inductive iR (vs:List V) (H:Hp) (Q:VK) (_E:XK):Prop
 | mk (b:UQ) (v1 v2 v3 v4:V) (yf:vs=[.ref b]) (yg:H b=some (.tup [v1,v2,v3,v4])) (yl:Q v4 H):iR  vs H Q _E
def pz:Sp:=iR
theorem eO:bn P w K mg base CX0 1 T.g_ins_of.f T.g_ins_of.d ["book"] rM:=by
 refine T.g_ins_of.F.ok r9 (fun vs H Q E h=>?_) (fun yc A outer s H vs Q E hr h=>?_)
 · obtain ⟨b,v1,v2,v3,v4,rfl,_⟩:=h;rfl
 obtain ⟨b,v1,v2,v3,v4,rfl,e,q⟩:=h;refine ⟨_,(ag (aD (ay aC (pv 0) af (fun _ _=>rfl)))),?_⟩
 try dsimp only [yz,xZ]
 exact ⟨_,rfl,b,_,0,v1,rfl,rfl,SqT.of e,at0,q⟩
theorem dN:bn P w K mg base CX0 1 T.g_rules_of.f T.g_rules_of.d ["book"] pz:=by
 refine T.g_rules_of.F.ok oO (fun vs H Q E h=>?_) (fun yc A outer s H vs Q E hr h=>?_)
 · obtain ⟨b,v1,v2,v3,v4,rfl,_⟩:=h;rfl
 obtain ⟨b,v1,v2,v3,v4,rfl,e,q⟩:=h;refine ⟨_,(ag (aD (ay aC (pv 0) af (fun _ _=>rfl)))),?_⟩
 try dsimp only [yz,xZ]
 exact ⟨_,rfl,b,_,3,v4,rfl,rfl,SqT.of e,ck (j:=3) rfl,q⟩
inductive gY (vs:List V) (H:Hp) (Q:VK) (_E:XK):Prop
 | mk (b:UQ) (v1 v2 v3:V) (ra:UQ) (xs:List V) (yf:vs=[.ref b]) (yg:H b=some (.tup [v1,v2,v3,.ref ra])) (yl:H ra=some (.tup xs)) (yx:Q (.int xs.length) H):gY  vs H Q _E
def nM:Sp:=gY
theorem no:bn P w K mg base CX0 2 T.g_states_of.f T.g_states_of.d ["book"] nM:=by
 refine T.g_states_of.F.ok nC (fun vs H Q E h=>?_) (fun yc A outer s H vs Q E hr h=>?_)
 · obtain ⟨b,v1,v2,v3,ra,xs,rfl,_⟩:=h;rfl
 obtain ⟨b,v1,v2,v3,ra,xs,rfl,e,e2,q⟩:=h;refine ⟨_,(ag (aD (aB aq rfl T.n_len Vu (aa (pcF T.g_rules_of (dN T) hr (aa (pv 0) ac)) ac)))),?_⟩
 try dsimp only [yz,xZ]
 exact ⟨_,rfl,b,_,_,_,_,rfl,e,ra,_,rfl,.inr (SqT.of e2),q⟩
inductive gh (vs:List V) (H:Hp) (Q:VK) (_E:XK):Prop
 | mk (ia:UQ) (yb:List UQ) (ins:List (Vm×Int)) (yf:vs=[.ref ia]) (yg:H ia=some (.tup (yb.map V.ref))) (yl:KsAt H ins yb) (yx:bV ins) (yK:∀ (r:UQ) (H':Hp),L2.Same H H'->At H' (aQ ins) r->Q (.ref r) H'):gh  vs H Q _E
def gJ:Sp:=gh
theorem dX:bn P w K mg base CX0 1 T.g_small_tree.f T.g_small_tree.d ["ins"] gJ:=by
 refine T.g_small_tree.F.ok lS (fun vs H Q E h=>?_) (fun yc A outer s H vs Q E hr h=>?_)
 · obtain ⟨ia,yb,ins,rfl,_⟩:=h;rfl
 obtain ⟨ia,yb,ins,rfl,ei,AE,g,q⟩:=h;refine ⟨_,(ag (aD (ay aO (cD (N:=[UU "name",UU "many"]) (js:=[none,none]) (g:=(lT K 2 (cR (aG 0) (cR (aG 1) lQ)))) (tt:=(k9 (tOp (rEq) (bp 1) (tC (.int 0))))) (te:=(lJ (bA (bp 0) dL))) rfl (cx rfl (by decide +kernel) (by decide +kernel) rfl rfl rfl) (jc (pv 0)) (fun _ _ _ _ _ _=>(bo rfl (au (aj (i:=0) uS rfl (U9 rfl)) (au (aj (i:=1) uS rfl (U9 rfl)) aX)))) (fN (bP aW (aR rfl) (bP aW (aR rfl) f8))) (fun _ _ _ _ _ _=>iK (aP cZ (pv 1) af (aS _))) (fun _ _ _ _ _ _=>(aI (aa (pv 0) ac)))) af (fun _ _=>rfl)))),?_⟩
 try dsimp only [yz,xZ]
 have zK:ins.length=yb.length:=U2 AE;have Fp:=g.le;refine ⟨_,rfl,ia,rfl,⟨_,SqT.of ei⟩,sO (F:=fun H (k:Vm×Int) a=>At H (.knot k.1 []) a) (xs:=yb.map V.ref) ins (fun k=>decide (k.2=0)) (fun H1 H2 z p kt h=>h.mono kt) (by rw [UL];exact zK) (by rw [UL];omega) (fun i Hx sx hi=>⟨_,_,SqT.of (sx _ _ ei),UN hi⟩) (fun Hx sx=>⟨_,SqT.of (sx _ _ ei),UR _⟩) (fun i Hx x Hy sx hi hy=>⟨hy.1,hy.2 _ (SqT.of (sx _ _ ei))⟩) (fun i x z Hx R W' hx CB sx hR hW=>?_) (fun D H1 as hD s1 eD DE=>?_)⟩
 · obtain ⟨ka,rfl,y4⟩:=aT hx;obtain ⟨z',za,ez⟩:=P2.get' AE y4;rw [CB] at za;cases za;have L4:Hx ka=some (.tup [.str z.1,.int z.2]):=sx _ _ ez;refine ⟨ka,_,rfl,SqT.of L4,rfl,_,_,rfl,_,_,rfl,rfl,_,rfl,rfl,_,rfl,?_⟩;have hm:=UP CB;by_cases hc:z.2=0
   · rw [if_pos (decide_eq_true (by rw [hc]))];refine ⟨_,rfl,ak (by show 1<=1000000;decide),fun p hp=>hR (decide_eq_true hc) _ p (ad hp _) ?_⟩;rw [At];exact ⟨oB (g.low z hm).1,[],ab,.nil⟩
   · rw [if_neg (fun z2=>hc (V.int.inj (of_decide_eq_true z2)))];exact hW (decide_eq_false hc) _ (.refl _)
 · refine hid fun ZZ kZ=>?_;obtain ⟨k0,zp,C0⟩:=kM g;obtain ⟨r,L6,hA⟩:=P2.get DE (i:=0) zp;refine kZ ?_;exact ⟨D,_,0,.ref r,rfl,rfl,SqL.of eD,at_nonneg (Int.le_refl _) (by rw [UZ];show Option.map V.ref as[0]?=_;rw [L6];rfl),q r H1 s1 (by rw [eF zp];exact hA)⟩
def vq (H:Hp) (ins:List (Vm×Int)) (f':List (Key×V)) (us:List Th):Prop:=∀ (i:Nat) (u:Th),us[i]?=some u->(∃ a,aV f' (VA (i:Int))=some (.ref a)/\At H u a)∨(aV f' (VA (i:Int))=none/\u=aQ ins)
inductive fT (vs:List V) (H:Hp) (Q:VK) (_E:XK):Prop
 | mk (ia ka da:UQ) (yb:List UQ) (ins:List (Vm×Int)) (kd:Vm×Int) (f':List (Key×V)) (us:List Th) (yf:vs=[.ref ia,.ref ka,.ref da]) (yg:H ia=some (.tup (yb.map V.ref))) (yl:KsAt H ins yb) (yx:bV ins) (yK:KAt H kd ka) (zJ:kd∈ins) (Bv:H da=some (.dK f')) (BZ:us.length=kd.2.toNat) (Ep:vq H ins f' us) (Fq:∀ (r:UQ) (H':Hp),L2.Same H H'->At H' (.knot kd.1 us) r->Q (.ref r) H'):fT  vs H Q _E
def lL:Sp:=fT
set_option maxHeartbeats 1000000 in
theorem dQ:bn P w K mg base CX0 2 T.g_knot_above.f T.g_knot_above.d ["ins","kind","kids"] lL:=by
 refine T.g_knot_above.F.ok dZ (fun vs H Q E h=>?_) (fun yc A outer s H vs Q E hr h=>?_)
 · obtain ⟨ia,ka,da,yb,ins,kd,f',us,rfl,_⟩:=h;rfl
 obtain ⟨ia,ka,da,yb,ins,kd,f',us,rfl,ei,AE,g,ek,hm,ed,O8,Dh,q⟩:=h
 refine ⟨_,(ae (cE (pv 1) (bo rfl (au (aj (i:=3) dZ.nd rfl (U9 rfl)) (au (aj (i:=4) dZ.nd rfl (U9 rfl)) aX))))
  (ag (aD (aw cK (aI (aa (pv 3) ac)) (cH cA rfl T.n_tuple W8 (aa (cD (N:=[UU "kid",UU "kids",UU "ins"]) (js:=[none,some 2,some 0]) (g:=(aG 0)) (tt:=bH) (te:=(sX (bp 1) (bp 0) (gN gJ [] E0 (bA (bp 2) dL)))) rfl (cx rfl (by decide +kernel) (by decide +kernel) rfl rfl rfl) (bq rfl T.n_range (aa (pv 4) ac)) (fun _ _ _ _ _ _=>(aj (i:=0) xJ rfl (U9 rfl))) (aR rfl) (fun _ _ _ _ _ _=>bS) (fun _ _ _ _ _ _=>(t5 (mB hr) (pv 1) (pv 0) (pcF T.g_small_tree (dX T) hr (aa (pv 2) ac)) ⟨rfl,rfl,rfl,rfl⟩))) ac)))))),?_⟩
 try dsimp only [yz,xZ]
 have Ba:=g.num kd hm;have Rv:H ka=some (.tup [.str kd.1,.int kd.2]):=ek;refine ⟨_,rfl,ka,_,rfl,SqT.of Rv,rfl,_,_,rfl,_,_,rfl,rfl,?_⟩;refine ⟨_,rfl,ak (by show 1<=1000000;decide),fun p1 Ac=>?_⟩;dsimp only;have s1:L2.Same H (upd H p1 (.tup [.str kd.1])):=ad Ac _;have e1:(upd H p1 (.tup [.str kd.1])) p1=some (.tup [.str kd.1]):=ab;generalize (upd H p1 (.tup [.str kd.1]))=H1 at s1 e1 ⊢;have hlen:us.length=((Vp kd.2.toNat).map fun i=>V.int (i:Nat)).length:=by rw [O8,UL,Vx]
 refine ⟨_,rfl,kd.2,rfl,by omega,by omega,m5 (F:=At) (xs:=(Vp kd.2.toNat).map fun i=>V.int (i:Nat)) us (fun H1 H2 z p kt h=>h.mono kt) hlen (by rw [UL,Vx];omega) (fun i Hx sx hi=>by rw [UL,Vx] at hi;exact hi) (fun Hx sx=>by rw [UL,Vx];exact UR _) (fun i Hx x Hy sx hi hy=>⟨hy.1,?_⟩) (fun i y z Hx R W' hy CB sx hR=>?_) (fun D H2 as hD s2 eD DE=>?_)⟩
 · rw [UL,Vx] at hi;rw [UZ,We hi,hy.2];show some (V.int ((i:Nat):Int))=some (V.int (0+((i:Nat):Int)));rw [Ws]
 · have hi:i<kd.2.toNat:=by have:=(US.mp CB).1;rwa [O8] at this
   rw [UZ,We hi] at hy;cases hy;have Kf:=s1.trans sx;have O9:Hx da=some (.dK f'):=Kf _ _ ed;refine ⟨_,rfl,da,rfl,.inl ⟨f',.inl O9⟩,_,rfl,_,rfl,ia,yb,ins,rfl,Kf _ _ ei,AE.mono (Same.kt Kf),g,fun r H3 s3 HQ=>?_⟩;refine ⟨_,DGet.k (k:=VA ((i:Nat):Int)) (s3 _ _ O9),?_⟩;rcases Dh i z CB with ⟨a,hv,ha⟩ | ⟨hv,rfl⟩
   · rw [hv];exact hR H3 a s3 (ha.mono (Same.kt (Kf.trans s3)))
   · rw [hv];exact hR H3 r s3 HQ
 have zM:=U2 DE;refine ⟨D,_,rfl,.inl ⟨SqL.of eD,fun tp Fl=>?_⟩⟩;have s3:L2.Same H2 (upd H2 tp (.tup (as.map V.ref))):=ad Fl _;have e3:(upd H2 tp (.tup (as.map V.ref))) tp=some (.tup (as.map V.ref)):=ab;generalize (upd H2 tp (.tup (as.map V.ref)))=H3 at s3 e3 ⊢;refine kB ((s2.trans s3) _ _ e1) e3 (by rw [UL];show 1+as.length<=1000000;omega) fun p H4 s4 e4=>?_;refine q p H4 (s1.trans (s2.trans (s3.trans s4))) ?_;rw [At];exact ⟨oB (g.low kd hm).1,as,e4,(j7 DE).mono (Same.kt (s3.trans s4))⟩
theorem tY {k:Nat} {A:VF} (hr:L2.Room k A):A.units+148+4<Ww:=by
 have:=iI hr;omega
inductive dM (vs:List V) (H:Hp) (Q:VK) (_E:XK):Prop
 | mk (b:UQ) (ins outs:List (Vm×Int)) (head:Th) (rows:List (List Th)) (yf:vs=[.ref b]) (yg:Bk H ins outs head rows b) (yl:bV ins) (yx:rows.length<=100) (yK:(∀ row∈rows,row.length=ins.length)) (zJ:∀ (r:UQ) (f':List (List Key×V)) (H':Hp),L2.Same H H'->H r=none->H' r=some (.dT f')->MkAt H' ins rows f'->Q (.ref r) H'):dM  vs H Q _E
def jl:Sp:=dM
def wL (H:Hp) (ins:List (Vm×Int)) (rows:List (List Th)) (f':List (List Key×V)) (i j:Nat):Prop :=
 ∀ (s k:Nat) (row:List Th) (p:Th),k<3->(s<i∨(s=i/\k<j))->rows[s]?=some row->row[cL ins]?=some p->∃ a,aV f' [VA (s:Int),VA (k:Int)]=some (.ref a)/\At H p a
set_option maxHeartbeats 2000000 in
theorem ji:bn P w K mg base CX0 2 T.g_first_makings.f T.g_first_makings.d ["book"] jl:=by
 refine T.g_first_makings.F.ok bh (fun vs H Q E h=>?_) (fun yc A outer s H vs Q E hr h=>?_)
 · obtain ⟨b,ins,outs,head,rows,rfl,_⟩:=h;rfl
 obtain ⟨b,ins,outs,head,rows,rfl,hB,g,C4,HV,q⟩:=h;refine hid fun ZZ kZ=>?_;obtain ⟨ia,oa,ha,ra,yb,yq,yM,hB⟩:=hB;refine kZ ?_
 refine ⟨_,(ae (di (i:=1) (N:=[UU "name",UU "many"]) (js:=[none,none]) (g:=(lT K 2 (cR (aG 0) (cR (aG 1) lQ)))) (tt:=bH) (te:=(lJ (bA (bp 0) dL))) bh.nd rfl (U9 rfl) rfl (cx rfl (by decide +kernel) (by decide +kernel) rfl rfl rfl) (jc (pcF T.g_ins_of (eO T) hr (aa (pv 0) ac))) (fun _ _ _ _ _ _=>(bo rfl (au (aj (i:=0) uS rfl (U9 rfl)) (au (aj (i:=1) uS rfl (U9 rfl)) aX)))) (fN (bP aW (aR rfl) (bP aW (aR rfl) f8))) (fun _ _ _ _ _ _=>bS) (fun _ _ _ _ _ _=>(aI (aa (pv 0) ac))))
  (ae (av (i:=2) bh.nd rfl (U9 rfl) (bE U3 XD Zl (rZ (B:=148) (tY hr)) (pv 1) (aa (pcF T.g_small_tree (dX T) hr (aa (pcF T.g_ins_of (eO T) hr (aa (pv 0) ac)) ac)) ac)))
  (ae (av (i:=3) bh.nd rfl (U9 rfl) tV)
  (ae (bi Vq rfl (mN rfl T.n_enumerate (pcF T.g_rules_of (dN T) hr (aa (pv 0) ac))) (bo rfl (au (aj (i:=4) bh.nd rfl (U9 rfl)) (au (aj (i:=5) bh.nd rfl (U9 rfl)) aX))) (ag (bi Vq rfl (bq rfl T.n_range (aa (gz (v:=.int (3)) rfl T.c_MOST_KIDS.choose_spec ⟨_,rfl⟩) ac)) (aj (i:=6) bh.nd rfl (U9 rfl)) (ag (uq (mB hr) (pv 3) (aI (aa (pv 4) (aa (pv 6) ac))) (ay aC (pv 5) (pv 2) (fun _ _=>rfl)) rfl)))))
  (ag (aD (pv 3))))))),?_⟩
 try dsimp only [yz,xZ]
 have zK:ins.length=yb.length:=U2 hB.inK;have DF:rows.length=yM.length:=U2 hB.rw;have Fp:=g.le;refine ⟨_,rfl,b,_,_,_,_,rfl,hB.bk,ia,rfl,⟨_,SqT.of hB.inE⟩,m5 (F:=fun H (k:Vm×Int) a=>At H (.knot k.1 []) a) (xs:=yb.map V.ref) ins (fun H1 H2 z p kt h=>h.mono kt) (by rw [UL];exact zK) (by rw [UL];omega) (fun i Hx sx hi=>⟨_,_,SqT.of (sx _ _ hB.inE),UN hi⟩) (fun Hx sx=>⟨_,SqT.of (sx _ _ hB.inE),UR _⟩) (fun i Hx x Hy sx hi hy=>⟨hy.1,hy.2 _ (SqT.of (sx _ _ hB.inE))⟩) (fun i x z Hx R W' hx CB sx hR=>?_) (fun D H1 as hD s1 eD DE=>?_)⟩
 · obtain ⟨ka,rfl,y4⟩:=aT hx;obtain ⟨z',za,ez⟩:=P2.get' hB.inK y4;rw [CB] at za;cases za;have L4:Hx ka=some (.tup [.str z.1,.int z.2]):=sx _ _ ez;refine ⟨ka,_,rfl,SqT.of L4,rfl,_,_,rfl,_,_,rfl,rfl,?_⟩;refine ⟨_,rfl,ak (by show 1<=1000000;decide),fun p hp=>hR _ p (ad hp _) ?_⟩;rw [At];exact ⟨oB (g.low z (UP CB)).1,[],ab,.nil⟩
 -- at
 obtain ⟨k0,zp,C0⟩:=kM g;have hI:=eG zp;refine ⟨_,rfl,.inl ⟨rfl,_,SqL.of eD⟩,_,rfl,b,_,_,_,_,rfl,s1 _ _ hB.bk,ia,yb,ins,rfl,s1 _ _ hB.inE,hB.inK.mono (Same.kt s1),g,fun st H2 s2 y8=>?_⟩;have AL:=s1.trans s2;have L9:Ats H2 (ins.map fun k=>Th.knot k.1 []) as:=(oo DE).mono (Same.kt s2);refine ⟨D,.ref st,_,(aQ ins).dv,dvs (ins.map fun k=>Th.knot k.1 []),cL ins,rfl,rfl,SqL.of (s2 _ _ eD),y8.dv,L9.dvs,?_,?_,fun i hi hz=>?_,?_,?_⟩
 · have h1:=iN (ins.map fun k=>Th.knot k.1 [])
   have h2:bw (ins.map fun k=>Th.knot k.1 [])<=1:=jp fun u hu=>by
    obtain ⟨k,_,rfl⟩:=VM.mp hu;rw [Th.tall,bw];exact UR _
   omega
 · rw [qi,UZ,hI,eF zp];rfl
 · rw [qi,UZ] at hz;cases HW:ins[i]? with
   | none=>rw [HW] at hz;cases hz
   | some k =>
     rw [HW,eF zp] at hz;have O':(Th.knot k.1 []).dv=(Th.knot k0.1 []).dv:=Vo hz;rw [Th.dv,Th.dv] at O';have Rw:=Dv.tup.inj O';injection Rw with Rx _;injection Rx with Ry;have:=g.nd i (cL ins) k k0 HW hI Ry;omega
 · rw [qM,UL];omega
 -- made
 intro td Pa;dsimp only [aG];have s3:L2.Same H2 (upd H2 td (.dT [])):=ad Pa _;have e3:(upd H2 td (.dT [])) td=some (.dT []):=ab;have HX:H td=none:=AL.free Pa;generalize (upd H2 td (.dT []))=H3 at s3 e3 ⊢;have Fs:=AL.trans s3;refine ⟨_,rfl,b,_,_,_,_,rfl,Fs _ _ hB.bk,ra,rfl,⟨_,SqT.of (Fs _ _ hB.rl)⟩,?_⟩
 refine sZ (K:=K) (a:=ra) (xs:=yM.map V.ref) (fun i σ H4=>Ex4 fun (c4 c5 c6:Option V) (tk:List (List Key×V))=>An5 (σ=[some (.ref b),some (.ref D),some (.int (cL ins:Nat)),some (.ref td),c4,c5,c6]) (L2.Same H H4) (H4 td=some (.dT tk)) (tk.length<=3 * i) (wL H4 ins rows tk i 0))
  ⟨none,none,none,[],rfl,Fs,e3,Vn _,fun s k row p _ h=>by rcases h with h | ⟨_,h⟩ <;> cases h⟩ (fun i σ H4 _ ⟨_,_,_,_,_,s4,_,_,_⟩=>SqT.of (s4 _ _ hB.rl)) ?_ ?_
 · rintro i x pr σ H4 hx Ao ⟨c4,c5,c6,tk,rfl,s4,Ma,hlen,xY⟩;refine hid fun ZZ kZ=>?_;obtain ⟨rwa,rfl,Mb⟩:=aT hx;obtain ⟨row,xV,HY,Ft,Er⟩:=P2.get' hB.rw Mb;refine kZ ?_;have Rz:i<100:=by have:=(US.mp xV).1;omega
   have RA:=HV row (UP xV);have DG:=Er.length;have Rf:=(US.mp hI).1;have s5:L2.Same H4 (upd H4 pr (.tup [.int ((i:Nat):Int),.ref rwa])):=ad Ao _;have e5:(upd H4 pr (.tup [.int ((i:Nat):Int),.ref rwa])) pr=some (.tup [.int ((i:Nat):Int),.ref rwa]):=ab;generalize (upd H4 pr (.tup [.int ((i:Nat):Int),.ref rwa]))=H5 at s5 e5 ⊢;have Es:=s4.trans s5;refine ⟨pr,_,rfl,SqT.of e5,rfl,_,_,rfl,_,_,rfl,rfl,?_⟩;dsimp only [aG];refine ⟨3,rfl,by decide,by decide,?_⟩
   refine bB (n:=3) (fun j σ H6=>Ex2 fun (c6:Option V) (tk:List (List Key×V))=>An5 (σ=[some (.ref b),some (.ref D),some (.int (cL ins:Nat)),some (.ref td),some (.int ((i:Nat):Int)),some (.ref rwa),c6]) (L2.Same H H6) (H6 td=some (.dT tk)) (tk.length<=3 * i+j) (wL H6 ins rows tk i j))
    ⟨_,tk,rfl,Es,s5 _ _ Ma,hlen,fun s k row p hk h h1 h2=>by
     obtain ⟨a,a1,a2⟩:=xY s k row p hk h h1 h2;exact ⟨a,a1,a2.mono (Same.kt s5)⟩⟩ ?_ ?_
   · rintro j σ H6 hj ⟨c6,tk,rfl,s6,Mc,hlen,xY⟩;refine hid fun ZZ kZ=>?_;obtain ⟨pa,Eg⟩:∃ a,HY[cL ins]?=some a:=⟨_,UN (by omega)⟩;obtain ⟨p0,C2,CC⟩:=Er.get Eg;refine kZ ?_;refine ⟨_,rfl,_,rfl,rwa,_,_,.ref pa,rfl,rfl,SqT.of (s6 _ _ Ft),ck (by rw [UZ,Eg];rfl),_,rfl,_,rfl,_,rfl,ak (by show 2<=1000000;decide),fun kp Bz=>?_⟩;have s7:L2.Same H6 (upd H6 kp (.tup [.int ((i:Nat):Int),.int (0+((j:Nat):Int))])):=ad Bz _;have e7:(upd H6 kp (.tup [.int ((i:Nat):Int),.int (0+((j:Nat):Int))])) kp=some (.tup ([VA ((i:Nat):Int),VA (0+((j:Nat):Int))].map kV)):=ab;generalize (upd H6 kp (.tup [.int ((i:Nat):Int),.int (0+((j:Nat):Int))]))=H7 at s7 e7 ⊢;have Pb:=s7 _ _ Mc;refine ⟨td,_,rfl,DPut.t Pb e7 (aF (by omega)),?_⟩
     have AM:KT H7 (upd H7 td (.dT (putK tk [VA ((i:Nat):Int),VA (0+((j:Nat):Int))] (.ref pa)))):=fun c ys ec=>by
      rw [ai (eP ec Pb (fun z=>nomatch z))];exact ec
     refine ⟨_,_,rfl,ax (s6.trans s7) HX,ab,?_,fun s k zz p' hk h h1 h2=>?_⟩
     · have:=bX tk [VA ((i:Nat):Int),VA (0+((j:Nat):Int))] (V.ref pa);omega
     · rw [iX];by_cases Bo:([VA ((s:Nat):Int),VA ((k:Nat):Int)]:List Key)=[VA ((i:Nat):Int),VA (0+((j:Nat):Int))]
       · rw [if_pos Bo];injection Bo with e1 e2;have Aj:((s:Nat):Int)=(i:Nat):=XJ e1;have:s=i:=by omega
         subst this;rw [xV] at h1;cases h1;rw [C2] at h2;cases h2;exact ⟨pa,rfl,CC.mono ((Same.kt (s6.trans s7)).trans AM)⟩
       · rw [if_neg Bo]
         have RB:s<i∨(s=i/\k<j):=by
          rcases h with h | ⟨rfl,h⟩
          · exact .inl h
          · refine .inr ⟨rfl,?_⟩;by_cases RC:k=j
            · exact absurd (by rw [RC,Ws]) Bo
            · omega
         obtain ⟨a,a1,a2⟩:=xY s k zz p' hk RB h1 h2;exact ⟨a,a1,a2.mono ((Same.kt s7).trans AM)⟩
   · rintro σ H6 ⟨c6,tk,rfl,s6,Mc,hlen,xY⟩;exact ⟨_,_,_,tk,rfl,s6,Mc,by omega,fun s k row p hk h h1 h2=>xY s k row p hk (by rcases h with h | ⟨_,h⟩;(· by_cases hs:s=i;exact .inr ⟨hs,hk⟩;exact .inl (by omega));exact absurd h (Yv _)) h1 h2⟩
 · rintro σ H4 ⟨c4,c5,c6,tk,rfl,s4,Ma,hlen,xY⟩;refine ⟨_,rfl,q td tk H4 s4 HX Ma fun s k row p hk h1 h2=>xY s k row p hk (.inl ?_) h1 h2⟩;rw [UL,<- DF];exact (US.mp h1).1
inductive fD (P:U6) (w:Vj) (K:UO) (vs:List V) (H:Hp) (Q:VK) (_E:XK):Prop
 | mk (b md pt:UQ) (s:Nat) (ins outs:List (Vm×Int)) (head:Th) (rows:List (List Th)) (row:List Th) (Ag:List (List Key×V)) (f':List (az×V)) (Al:List az) (Vl:VlT) (yf:vs=[.ref b,.int (s:Nat),.ref md,.ref pt]) (yg:Bk H ins outs head rows b) (yl:FrK ins outs rows) (yx:rows[s]?=some row) (yK:H md=some (.dT Ag)) (zJ:MkAt H ins rows Ag) (Bv:Pt P w Vl H pt f' Al) (BZ:Al.length<=1000000) (Ep:(∀ x∈(mkF ins rows (s:Nat)).pl [],nk (s:Nat) x.1∈Al)) (Fq:(∀ x∈(mkF ins rows (s:Nat)).pl [],x.2.isHole=false)) (Fu:(∀ (i:Nat) (p:Th) (kd:Vm×Int) (pl:List Int) (u:Th) (j:Nat),row[i]?=some p->ins[i]?=some kd->(pl,u)∈(frF (mkF ins rows) (mkF ins rows (s:Nat)) (row.take (i+1))).pl []->u.isHole=true->(∀ v,(pl,v)∈(frF (mkF ins rows) (mkF ins rows (s:Nat)) (row.take i)).pl []->v.isHole=false)->Vl j (nk (s:Nat) pl) (aQ ins) (.knot kd.1 (WI kd.2.toNat (aQ ins))))) (Fv:∀ (r:UQ) (yV:List (az×V)) (H':Hp),But pt H H'->AtK K H' (frF (mkF ins rows) (mkF ins rows (s:Nat)) row) r->Pt P w Vl H' pt yV Al->(∀ k∈f'.map (·.1),k∈yV.map (·.1))->(∀ i,i<=row.length->∀ x∈(frF (mkF ins rows) (mkF ins rows (s:Nat)) (row.take i)).pl [],x.2.isHole=true->nk (s:Nat) x.1∈yV.map (·.1))->Q (.ref r) H'):fD P w K vs H Q _E
def gd (P:U6) (w:Vj) (K:UO):Sp:=fD P w K
set_option maxHeartbeats 4000000 in
theorem lf:bn P w K mg base CX0 6 T.g_first_front.f T.g_first_front.d ["book","state","made","partings"] (gd P w K):=by
 refine T.g_first_front.F.ok bC (fun vs H Q E h=>?_) (fun yc A outer s0 H vs Q E hr h=>?_)
 · obtain ⟨b,md,pt,s,ins,outs,head,rows,row,Ag,f',Al,Vl,rfl,_⟩:=h;rfl
 obtain ⟨b,md,pt,s,ins,outs,head,rows,row,Ag,f',Al,Vl,rfl,hB,F,xV,Gi,Fw,Et,Kg,AH,AU,hV,q⟩:=h;refine hid fun ZZ kZ=>?_;obtain ⟨ia,oa,ha,ra,yb,yq,yM,hB⟩:=hB;refine kZ ?_
 refine ⟨_,(ae (av (i:=4) bC.nd rfl (U9 rfl) (pcF T.g_ins_of (eO T) hr (aa (pv 0) ac)))
  (ae (av (i:=5) bC.nd rfl (U9 rfl) (nw (mB hr) (pv 2) (aI (aa (pv 1) (aa af ac))) (fun _ _=>rfl)))
  (ae (bi Vq rfl (tH rfl T.n_zip (aa (pv 4) (aa (ay aC (pcF T.g_rules_of (dN T) hr (aa (pv 0) ac)) (pv 1) (fun _ _=>rfl)) ac))) (bo rfl (au (aj (i:=6) bC.nd rfl (U9 rfl)) (au (aj (i:=7) bC.nd rfl (U9 rfl)) aX))) (ae (av (i:=5) bC.nd rfl (U9 rfl) (pcF T.g_common (sv T) hr (aa (pv 5) (aa (pcF T.g_filled (rF T) hr (aa (pv 7) (aa (pv 2) ac))) ac))))
  (ag (bi Vq rfl (bQ (pcF T.g_holes_in (jw T) hr (aa (pv 5) ac))) (aj (i:=8) bC.nd rfl (U9 rfl)) (ag (aL (sU YS PySem.F.type_dict_setdefault (fW (gb hr)) (pv 3) (aa (aI (aa (pv 1) (aa (pv 8) ac))) (aa (aI (aa (pcF T.g_small_tree (dX T) hr (aa (pv 4) ac)) (aa (pcF T.g_knot_above (dQ T) hr (aa (pv 4) (aa (pv 6) (aa t4 ac)))) ac))) ac)))))))))
  (ag (aD (pv 5)))))),?_⟩
 try dsimp only [yz,xZ]
 have g:=F.gi;have zK:ins.length=yb.length:=U2 hB.inK;have DF:rows.length=yM.length:=U2 hB.rw;have Fp:=g.le;have O7:=(US.mp xV).1;obtain ⟨φ,DH⟩:=cq Et.dm;have HZ:md≠pt:=fun z=>by rw [z,DH] at Gi;cases Gi
 -- ins,front
 refine ⟨_,rfl,b,_,_,_,_,rfl,hB.bk,?_⟩;refine hid fun ZZ kZ=>?_;obtain ⟨zz,p0,LH,C2,C3,z1,z2,f0⟩:=F.mkd (l:=(s:Nat)) (by omega) (by omega);rw [VT,xV] at LH;cases LH;obtain ⟨fa,RD,Dt⟩:=Fw s 0 row p0 (by decide) xV C2;refine kZ ?_;refine ⟨_,rfl,_,rfl,ak (by show 2<=1000000;decide),fun kp Bz=>?_⟩;have s1:L2.Same H (upd H kp (.tup [.int ((s:Nat):Int),.int 0])):=ad Bz _;have e1:(upd H kp (.tup [.int ((s:Nat):Int),.int 0])) kp=some (.tup (([VA ((s:Nat):Int),VA 0]:List Key).map kV)):=ab;generalize (upd H kp (.tup [.int ((s:Nat):Int),.int 0]))=H1 at s1 e1 ⊢;refine ⟨md,.ref fa,rfl,.inr ⟨Ag,_,kp,.inl (s1 _ _ Gi),rfl,e1,RD.symm⟩,?_⟩
 -- AQ loop
 refine hid fun ZZ kZ=>?_;obtain ⟨zQ,AF,HY,Ft,CD⟩:=P2.get hB.rw xV;refine kZ ?_;have zc:=CD.length;have CF:=(F.fit.row row (UP xV)).1;refine ⟨_,rfl,_,rfl,b,_,_,_,_,rfl,s1 _ _ hB.bk,_,rfl,ra,_,_,.ref zQ,rfl,rfl,SqT.of (s1 _ _ hB.rl),ck (by rw [UZ,AF];rfl),ia,zQ,rfl,⟨_,SqT.of (s1 _ _ hB.inE)⟩,⟨_,SqT.of (s1 _ _ Ft)⟩,?_⟩
 have Ia:∀ (i:Nat) (p:Th),row[i]?=some p->∀ l k,Th.call l k∈p.walk->∃ v,aV Ag [VA l,VA k]=some (.ref v)/\At H (mkF ins rows l) v/\(mkF ins rows l).size<=200:=fun i p hp l k hc=>by
  have ye:=(US.mp hp).1;obtain ⟨kd,C5⟩:∃ kd,ins[i]?=some kd:=⟨_,UN (by omega)⟩;have hf:=(F.fit.row row (UP xV)).2 i p kd hp C5;have Ba:=g.num kd (UP C5);obtain ⟨a1,a2,a3,a4⟩:=sA hf hc;obtain ⟨RE,p1,b1,b2,b3,b4,_⟩:=F.mkd a1 a2;obtain ⟨v,v1,v2⟩:=Fw l.toNat k.toNat RE p1 (by omega) b1 b2;rw [WO a1,WO a3] at v1;exact ⟨v,v1,by rw [b3];exact v2,by rw [b3];exact b4⟩
 have RF:∀ i',i'<=0->∀ x∈(frF (mkF ins rows) (mkF ins rows (s:Nat)) (row.take i')).pl [],x.2.isHole=true->nk (s:Nat) x.1∈f'.map (·.1):=fun i' yR x hx hh=>by
  rw [Nat.le_zero.mp yR,XE] at hx;have:=AU x hx;rw [hh] at this;cases this
 refine qZ (K:=K) (a:=ia) (b:=zQ) (xs:=yb.map V.ref) (ys:=HY.map V.ref) (by rw [UL,UL];omega) (fun i σ H2=>Ex5 fun (fa:UQ) (c6 c7 c8:Option V) (yW:List (az×V))=>An6 (σ=[some (.ref b),some (.int ((s:Nat):Int)),some (.ref md),some (.ref pt),some (.ref ia),some (.ref fa),c6,c7,c8]) (But pt H H2) (AtK K H2 (frF (mkF ins rows) (mkF ins rows (s:Nat)) (row.take i)) fa) (Pt P w Vl H2 pt yW Al) ((∀ k∈f'.map (·.1),k∈yW.map (·.1))) ((∀ i',i'<=i->∀ x∈(frF (mkF ins rows) (mkF ins rows (s:Nat)) (row.take i')).pl [],x.2.isHole=true->nk (s:Nat) x.1∈yW.map (·.1))))
  ⟨fa,none,none,none,f',rfl,Same.but s1,by rw [XE,C3];exact (Dt.mono (Same.kt s1)).k,Et.same s1,fun _ h=>h,RF⟩ (fun i σ H2 _ ⟨_,_,_,_,_,_,b2,_,_,_,_⟩=>?_) ?_ ?_
 · have kt:=b2.kt DH;exact ⟨SqT.of (kt _ _ hB.inE),SqT.of (kt _ _ Ft)⟩
 · rintro i x y p2 σ H2 hx hy Ad ⟨fa,c6,c7,c8,yW,rfl,b2,y6,zA,zi,Kh⟩;refine hid fun ZZ kZ=>?_;obtain ⟨ka,rfl,y4⟩:=aT hx;obtain ⟨pa,rfl,Eg⟩:=aT hy;obtain ⟨kd,hk,ek⟩:=P2.get' hB.inK y4;obtain ⟨p,hp,CC⟩:=CD.get Eg;refine kZ ?_;have Md:=b2.kt DH;have s3:L2.Same H2 (upd H2 p2 (.tup [.ref ka,.ref pa])):=ad Ad _;have e3:(upd H2 p2 (.tup [.ref ka,.ref pa])) p2=some (.tup [.ref ka,.ref pa]):=ab;generalize (upd H2 p2 (.tup [.ref ka,.ref pa]))=H3 at s3 e3 ⊢;have C6:=Md.trans (Same.kt s3);have b3:=b2.trans (Same.but s3);refine ⟨p2,_,rfl,SqT.of e3,rfl,_,_,rfl,_,_,rfl,rfl,?_⟩;dsimp only [aG]
   -- filled,common
   have Cz:=F.sz row (UP xV) p (UP hp);refine ⟨_,rfl,_,rfl,_,rfl,pa,md,p,(fun l _=>mkF ins rows l),Ag,rfl,(CC.mono C6).k,by omega,.inl (b3 _ _ HZ Gi),fun l k hc=>?_,fun fl H4 s4 Fx=>?_⟩
   · refine hid fun ZZ kZ=>?_;obtain ⟨v,v1,v2,v3⟩:=Ia i p hp l k hc;refine kZ ?_;exact ⟨v,v1,(v2.mono C6).k,by omega⟩
   have hsz:=iD (mkF ins rows) (mkF ins rows (s:Nat)) (row.take i);rw [C3] at hsz;have Ib:=y6.mono (Same.kt (s3.trans s4));rw [C3] at Ib;refine ⟨fa,fl,_,_,rfl,Ib,Fx,by omega,by omega,fun cm H5 s5 Ic=>?_⟩;have zX:row.take (i+1)=row.take i++[p]:=by rw [Wb,hp];rfl
   have Ie:AtK K H5 (frF (mkF ins rows) (mkF ins rows (s:Nat)) (row.take (i+1))) cm:=by
    rw [zX,kQ,C3];exact Ic
   have b5:=b3.trans (Same.but (s4.trans s5));have Me:=zA.same (s3.trans (s4.trans s5));have T3:=b5.kt DH;have Mf:=iD (mkF ins rows) (mkF ins rows (s:Nat)) (row.take (i+1));rw [C3] at Mf;have Ig:=Ie;rw [C3] at Ig
   -- holes
   refine ⟨_,rfl,cm,_,rfl,Ig,by omega,by omega,fun hl bs H6 s6 BA yw=>?_⟩;rw [<- C3] at yw;have b6:=b5.trans (Same.but s6);have Ih:=Me.same s6;have BC:=b6.kt DH;obtain ⟨RG,BD⟩:=cq Ih.dm;have Mg:=Ie.mono (Same.kt s6);have CG:hl≠pt:=fun z=>by rw [z,BD] at BA;cases BA
   have yX:=U2 yw;have RH:=Xq (fun p:List Int×Th=>p.2.isHole) ((frF (mkF ins rows) (mkF ins rows (s:Nat)) (row.take (i+1))).pl []);rw [Th.pl_len] at RH;have Ba:=g.num kd (UP hk);refine ⟨hl,rfl,⟨_,SqL.of BA⟩,?_⟩
   refine cY (K:=K) (a:=hl) (xs:=bs.map V.ref) (fun j σ H7=>Ex2 fun (c8:Option V) (DI:List (az×V))=>An5 (σ=[some (.ref b),some (.int ((s:Nat):Int)),some (.ref md),some (.ref pt),some (.ref ia),some (.ref cm),some (.ref ka),some (.ref pa),c8]) (But pt H6 H7) (Pt P w Vl H7 pt DI Al) ((∀ k∈yW.map (·.1),k∈DI.map (·.1))) (∀ (j':Nat) (pl:List Int),j'<j->((((frF (mkF ins rows) (mkF ins rows (s:Nat)) (row.take (i+1))).pl []).filter fun p=>p.2.isHole).map (·.1))[j']?=some pl->nk (s:Nat) pl∈DI.map (·.1)))
    ⟨_,yW,rfl,But.refl _ _,Ih,fun _ h=>h,fun _ _ h=>absurd h (Yv _)⟩ (fun j σ H7 _ ⟨_,_,_,b7,_,_,_⟩=>SqL.of (b7 _ _ CG BA)) ?_ ?_
   · rintro j x σ H7 hx ⟨c8,DI,rfl,b7,CH,zg,xY⟩;refine hid fun ZZ kZ=>?_;obtain ⟨pb,rfl,Eu⟩:=aT hx;obtain ⟨pl,DJ,Mh⟩:=P2.get' yw Eu;have AM:=b7.kt BD;have Mi:=BC.trans AM;have Mj:=AM _ _ Mh
     obtain ⟨LI,OP,RI⟩:∃ u,(pl,u)∈(frF (mkF ins rows) (mkF ins rows (s:Nat)) (row.take (i+1))).pl []/\u.isHole=true:=by
      obtain ⟨x,Fe,rfl⟩:=VM.mp (UP DJ);exact ⟨x.2,(WA.mp Fe).1,(WA.mp Fe).2⟩
     refine kZ ?_
     have Mk:nk (s:Nat) pl∈Al:=by
      obtain ⟨x,Fe,rfl⟩:=VM.mp (UP DJ);obtain ⟨u,hu⟩:=tO (mkF ins rows) (mkF ins rows (s:Nat)) (row.take (i+1)) x (WA.mp Fe).1;exact AH (x.1,u) hu
     have T4:=CH.len;refine ⟨_,rfl,⟨pt,DI,rfl,CH.dm⟩,_,rfl,_,rfl,ak (by show 2<=1000000;decide),fun E6 Ml=>?_⟩;have s8:L2.Same H7 (upd H7 E6 (.tup [.int ((s:Nat):Int),.ref pb])):=ad Ml _;have e8:(upd H7 E6 (.tup [.int ((s:Nat):Int),.ref pb])) E6=some (.tup [.int ((s:Nat):Int),.ref pb]):=ab;generalize (upd H7 E6 (.tup [.int ((s:Nat):Int),.ref pb]))=H8 at s8 e8 ⊢;have BE:=Mi.trans (Same.kt s8);refine ⟨_,rfl,ia,yb,ins,rfl,BE _ _ hB.inE,hB.inK.mono BE,g,fun st H9 s9 y8=>?_⟩;have Mm:=BE.trans (Same.kt s9);refine ⟨_,rfl,_,rfl,fun dd Ii=>?_⟩;have yG:L2.Same H9 (upd H9 dd (.dK [])):=ad Ii _;have Fi:(upd H9 dd (.dK [])) dd=some (.dK []):=ab;generalize (upd H9 dd (.dK []))=yH at yG Fi ⊢;have BF:=Mm.trans (Same.kt yG);refine ⟨ia,ka,dd,yb,ins,kd,[],WI kd.2.toNat (aQ ins),rfl,BF _ _ hB.inE,hB.inK.mono BF,g,BF _ _ ek,UP hk,Fi,by rw [XX],fun i' u hu=>.inr ⟨rfl,List.eq_of_mem_replicate (UP hu)⟩,fun r2 yQ yI Fd=>?_⟩;refine ⟨ak (by show 2<=1000000;decide),fun pr Ao=>?_⟩;have yF:L2.Same yQ (upd yQ pr (.tup [.ref st,.ref r2])):=ad Ao _;have BG:(upd yQ pr (.tup [.ref st,.ref r2])) pr=some (.tup [.ref st,.ref r2]):=ab;generalize (upd yQ pr (.tup [.ref st,.ref r2]))=BH at yF BG ⊢;have Fy:=yG.trans (yI.trans yF);have DK:=s8.trans (s9.trans Fy);have CI:=CH.same DK;refine ⟨pt,E6,.ref pr,nk (s:Nat) pl,DI,rfl,rfl,CI.dm,lB ((s9.trans Fy) _ _ e8) (DK _ _ Mj),aF (by omega),fun u hu=>?_,fun hn C7 Pd Mn=>?_⟩
     · refine ⟨_,DI,rfl,b7.trans (Same.but DK),CI,zg,fun j' zG yk zt=>?_⟩;by_cases CJ:j'=j
       · subst CJ;rw [DJ] at zt;cases zt;exact VM.mpr ⟨_,eM hu,rfl⟩
       · exact xY j' zG (by omega) zt
     · have RJ:∀ v,(pl,v)∈(frF (mkF ins rows) (mkF ins rows (s:Nat)) (row.take i)).pl []->v.isHole=false:=fun v hv=>by
        cases RK:v.isHole with
        | false=>rfl
        | true =>
          exfalso;exact cS hn (zg _ (Kh i (UR _) (pl,v) hv RK))
       obtain ⟨Gj,Ij⟩:=CI.put hn Pd Mn ⟨pr,st,r2,_,_,rfl,BG,y8.mono (Same.kt Fy),Fd.mono (Same.kt yF),hV i p kd pl LI _ hp hk OP RI RJ⟩ Mk;refine ⟨_,_,rfl,(b7.trans (Same.but DK)).trans Pd,Gj,fun k Bo=>by rw [Ij];exact VU _ (zg k Bo),fun j' zG yk zt=>?_⟩;rw [Ij];by_cases CJ:j'=j
       · subst CJ;rw [DJ] at zt;cases zt;exact VI _ (Vk ..)
       · exact VU _ (xY j' zG (by omega) zt)
   · rintro σ H7 ⟨c8,DI,rfl,b7,CH,zg,xY⟩;refine ⟨cm,_,_,_,DI,rfl,b6.trans b7,Mg.mono (b7.kt BD),CH,fun k Bo=>zg k (zi k Bo),fun i' yR x hx hh=>?_⟩;by_cases RL:i'<=i
     · exact zg _ (Kh i' RL x hx hh)
     obtain rfl:i'=i+1:=by omega
     have hm:x.1∈(((frF (mkF ins rows) (mkF ins rows (s:Nat)) (row.take (i+1))).pl []).filter fun p=>p.2.isHole).map (·.1):=VM.mpr ⟨x,WA.mpr ⟨hx,hh⟩,rfl⟩;obtain ⟨j',yk⟩:=Vc.mp hm;exact xY j' x.1 (by have:=(US.mp yk).1;rw [UL];omega) yk
 · rintro σ H2 ⟨fa,c6,c7,c8,yW,rfl,b2,y6,zA,zi,hh⟩;rw [UL] at y6 hh;rw [Wh (by omega)] at y6;exact ⟨_,rfl,q fa yW H2 b2 y6 zA zi fun i hi=>hh i (by omega)⟩
def LDone (H:Hp) (G:LG) (s:Nat) (ps:List Th) (f0:Th):Prop:=∀ p∈ps,∀ c∈callsOf (p.pl []),∀ u,(c.1,u)∈f0.pl []->∀ x∈u.pl [],gE H G (nk c.2.1 x.1) (s:Nat) (c.1++x.1)
theorem LDone.sub {H H':Hp} {G G':LG} {s:Nat} {ps:List Th} {f0:Th} (h:LDone H G s ps f0) (k:LSub H H' G G'):LDone H' G' s ps f0:=fun p hp c hc u hu x hx=>k _ _ _ (h p hp c hc u hu x hx)
inductive gX (P:U6) (w:Vj) (K:UO) (vs:List V) (H:Hp) (Q:VK) (_E:XK):Prop
 | mk (b fa la:UQ) (s:Nat) (ins outs:List (Vm×Int)) (head:Th) (rows:List (List Th)) (row:List Th) (f0:Th) (H0:Hp) (G:LG) (N:Nat) (Al:List az) (Lk:LkT) (yf:vs=[.ref b,.int (s:Nat),.ref fa,.ref la]) (yg:Bk H ins outs head rows b) (yl:FrK ins outs rows) (yx:rows[s]?=some row) (yK:AtK K H f0 fa) (zJ:f0.size<=200) (Bv:f0.tall<=100) (BZ:LkI P w ins Al Lk H0 H la G N) (Ep:N<=15000000) (Fq:(∀ x∈f0.pl [],nk (s:Nat) x.1∈Al)) (Fu:(∀ (i:Nat) (p:Th) (kd:Vm×Int) (c:List Int×Int×Int) (u:Th) (x:List Int×Th),row[i]?=some p->ins[i]?=some kd->c∈callsOf (p.pl [])->(c.1,u)∈f0.pl []->x∈u.pl []->Lk (nk c.2.1 x.1) (s:Nat) (c.1++x.1) kd c.2.2)) (Fv:∀ (G':LG) (H':Hp),KT H H'->LkI P w ins Al Lk H0 H' la G' (N+640000)->LSub H H' G G'->LDone H' G' s row f0->Q .non H'):gX P w K vs H Q _E
def nE (P:U6) (w:Vj) (K:UO):Sp:=gX P w K
set_option maxHeartbeats 4000000 in
theorem nv:bn P w K mg base CX0 6 T.g_put_links.f T.g_put_links.d ["book","state","front","links"] (nE P w K):=by
 refine T.g_put_links.F.ok bM (fun vs H Q E h=>?_) (fun yc A outer s0 H vs Q E hr h=>?_)
 · obtain ⟨b,fa,la,s,ins,outs,head,rows,row,f0,H0,G,N,Al,Lk,rfl,_⟩:=h;rfl
 obtain ⟨b,fa,la,s,ins,outs,head,rows,row,f0,H0,G,N,Al,Lk,rfl,hB,F,xV,y6,T5,T6,L,hN,AH,hL,q⟩:=h;refine hid fun ZZ kZ=>?_;obtain ⟨ia,oa,ha,ra,yb,yq,yM,hB⟩:=hB;refine kZ ?_
 refine ⟨_,(ae (av (i:=4) bM.nd rfl (U9 rfl) (cH (lj (ui hr) rfl) rfl T.n_dict PyProof.Rows.boot_dict (aa (pcF T.g_placed (gy T) hr (aa (pv 2) ac)) ac)))
  (ag (bi Vq rfl (tH rfl T.n_zip (aa (pcF T.g_ins_of (eO T) hr (aa (pv 0) ac)) (aa (ay aC (pcF T.g_rules_of (dN T) hr (aa (pv 0) ac)) (pv 1) (fun _ _=>rfl)) ac))) (bo rfl (au (aj (i:=5) bM.nd rfl (U9 rfl)) (au (aj (i:=6) bM.nd rfl (U9 rfl)) aX))) (ag (bi Vq rfl (bQ (pcF T.g_calls_in (oZ T) hr (aa (pv 6) ac))) (bo rfl (au (aj (i:=7) bM.nd rfl (U9 rfl)) (au (bo rfl (au (aj (i:=8) bM.nd rfl (U9 rfl)) (au (aj (i:=9) bM.nd rfl (U9 rfl)) aX))) aX))) (ag (bY (pU (wj (mB hr) (pv 7) (pv 4))) (ag (bi Vq rfl (bQ (pcF T.g_places (rX T) hr (aa (nw (mB hr) (pv 4) (pv 7) (fun _ _=>rfl)) ac))) (aj (i:=10) bM.nd rfl (U9 rfl)) (ag (aL (bE U3 Vh Vg aN (sU YS PySem.F.type_dict_setdefault (fW (gb hr)) (pv 3) (aa (aI (aa (pv 8) (aa (pv 10) ac))) (aa (bu ac) ac))) (aa (aI (aa (pv 1) (aa (aw cK (pv 7) (pv 10)) (aa (pv 5) (aa (pv 9) ac))))) ac)))))) bO))))))),?_⟩
 try dsimp only [yz,xZ]
 have g:=F.gi;have zK:ins.length=yb.length:=U2 hB.inK;have Fp:=g.le;have O7:=(US.mp xV).1
 -- parts
 refine ⟨_,rfl,fa,f0,rfl,y6,by omega,by omega,fun RM Ki H1 s1 T7 Fz zb=>?_⟩;have Mo:(f0.pl []).length=Ki.length:=U2 zb;rw [Th.pl_len] at Mo;refine hid fun ZZ kZ=>?_;obtain ⟨prs,BI,Mp,Mq⟩:∃ prs:List (List Key×V),Vs (PrA H1) prs Ki/\(∀ p∈prs,∃ x∈f0.pl [],p.1=x.1.map VA/\∃ a,p.2=.ref a/\AtK K H1 x.2 a)/\∀ x∈f0.pl [],∃ p∈prs,p.1=x.1.map VA:=ud zb;refine kZ ?_;have Pe:prs.length=Ki.length:=U2 BI;refine ⟨RM,Ki,prs,rfl,Fz,BI,by omega,fun pd RN=>?_⟩;have s2:L2.Same H1 (upd H1 pd (.dT (cj [] prs))):=ad RN _;have e2:(upd H1 pd (.dT (cj [] prs))) pd=some (.dT (cj [] prs)):=ab;generalize (upd H1 pd (.dT (cj [] prs)))=H2 at s2 e2 ⊢;refine hid fun ZZ kZ=>?_;obtain ⟨f1,f2⟩:=jD (R:=fun k v=>∃ x∈f0.pl [],k=x.1.map VA/\∃ a,v=.ref a/\AtK K H1 x.2 a) prs [] (fun k v hv=>by cases hv) Mp;have AL:=s1.trans s2;have FA:=L.same AL;obtain ⟨zQ,AF,HY,Ft,CD⟩:=P2.get hB.rw xV;refine kZ ?_;have zc:=CD.length;have CF:=(F.fit.row row (UP xV)).1
 have Mr:∀ (q:List Int) (u:Th),(q,u)∈f0.pl []->∃ a,aV (cj [] prs) (q.map VA)=some (.ref a)/\AtK K H1 u a:=fun q u hu=>by
  obtain ⟨p,hp,e⟩:=Mq (q,u) hu;obtain ⟨v,hv⟩:=f2 (q.map VA) (.inr ⟨p,hp,e⟩);obtain ⟨x,hx,ex,a,rfl,ha⟩:=f1 _ v hv;have hq:q=x.1:=(Y5 (fun _ _ e=>XJ e)).mp ex;have:u=x.2:=p9 _ (UR _) hu (by rw [hq];exact hx);rw [this];exact ⟨a,hv,ha⟩
 have Mt:∀ (q:List Int) (v:V),aV (cj [] prs) (q.map VA)=some v->∃ u a,(q,u)∈f0.pl []/\v=.ref a/\AtK K H1 u a:=fun q v hv=>by
  obtain ⟨x,hx,ex,a,rfl,ha⟩:=f1 _ v hv;have hq:q=x.1:=(Y5 (fun _ _ e=>XJ e)).mp ex;exact ⟨x.2,a,by rw [hq];exact hx,rfl,ha⟩
 have Ew:pd≠la:=fun z=>by
  obtain ⟨φ,e⟩:=cq FA.dm;rw [z,e] at e2;cases e2
 have Mu:∀ g∈G,g.2.1≠pd:=fun g hg z=>by
  have:=(FA.ls g hg).2.1;rw [z,e2] at this;cases this
 refine ⟨_,rfl,b,_,_,_,_,rfl,AL _ _ hB.bk,_,rfl,b,_,_,_,_,rfl,AL _ _ hB.bk,_,rfl,ra,_,_,.ref zQ,rfl,rfl,SqT.of (AL _ _ hB.rl),ck (by rw [UZ,AF];rfl),ia,zQ,rfl,⟨_,SqT.of (AL _ _ hB.inE)⟩,⟨_,SqT.of (AL _ _ Ft)⟩,?_⟩
 refine qZ (K:=K) (a:=ia) (b:=zQ) (xs:=yb.map V.ref) (ys:=HY.map V.ref) (by rw [UL,UL];omega) (fun i σ H3=>Ex7 fun (c5 c6 c7 c8 c9 zq:Option V) (G3:LG)=>An3 (σ=[some (.ref b),some (.int ((s:Nat):Int)),some (.ref fa),some (.ref la),some (.ref pd),c5,c6,c7,c8,c9,zq]) (LQ P w ins Al Lk H0 la H2 G H3 G3 (N+i * 80000)) (LDone H3 G3 s (row.take i) f0))
  ⟨none,none,none,none,none,none,G,rfl,(LQ.refl FA).up (by omega),fun p hp=>by rw [XE] at hp;cases hp⟩ (fun i σ H3 _ ⟨_,_,_,_,_,_,_,_,q3,_⟩=>?_) ?_ ?_
 · have kt:=(Same.kt AL).trans (q3.kt FA);exact ⟨SqT.of (kt _ _ hB.inE),SqT.of (kt _ _ Ft)⟩
 · rintro i x y p2 σ H3 hx hy Ad ⟨c5,c6,c7,c8,c9,zq,G3,rfl,q3,d3⟩;refine hid fun ZZ kZ=>?_;obtain ⟨ka,rfl,y4⟩:=aT hx;obtain ⟨pa,rfl,Eg⟩:=aT hy;obtain ⟨kd,hk,ek⟩:=P2.get' hB.inK y4;obtain ⟨p,hp,CC⟩:=CD.get Eg;refine kZ ?_;have RO:i<8:=by have:=(US.mp hk).1;omega
   have s4:L2.Same H3 (upd H3 p2 (.tup [.ref ka,.ref pa])):=ad Ad _;have e4:(upd H3 p2 (.tup [.ref ka,.ref pa])) p2=some (.tup [.ref ka,.ref pa]):=ab;generalize (upd H3 p2 (.tup [.ref ka,.ref pa]))=H4 at s4 e4 ⊢;have q4:=q3.same s4;have C8:=(Same.kt AL).trans (q4.kt FA);refine ⟨p2,_,rfl,SqT.of e4,rfl,_,_,rfl,_,_,rfl,rfl,?_⟩;dsimp only [aG];have Cz:=F.sz row (UP xV) p (UP hp);refine ⟨_,rfl,pa,p,rfl,(CC.mono C8).k,by omega,by omega,fun cl cs H5 s5 RP Kj BV=>?_⟩;have q5:=q4.same s5;have d5:=d3.sub (LSub.kt (Same.kt (s4.trans s5)) G3);have L5:=q5.lk;have Mv:(callsOf (p.pl [])).length=cs.length:=U2 BV;have Mw:=jA (p.pl []);rw [Th.pl_len] at Mw
   have Mx:∀ g∈G3,g.2.1≠cl:=fun g hg z=>by
    have:=(q4.lk.ls g hg).2.1;rw [z,RP] at this;cases this
   have Ik:cl≠la:=fun z=>by
    obtain ⟨φ,e⟩:=cq L5.dm;rw [z,e] at Kj;cases Kj
   refine ⟨cl,rfl,⟨_,SqL.of Kj⟩,?_⟩
   refine cY (K:=K) (a:=cl) (xs:=cs.map V.ref) (fun j σ H6=>Ex5 fun (c7 c8 c9 zq:Option V) (G6:LG)=>An3 (σ=[some (.ref b),some (.int ((s:Nat):Int)),some (.ref fa),some (.ref la),some (.ref pd),some (.ref ka),some (.ref pa),c7,c8,c9,zq]) (LQ P w ins Al Lk H0 la H5 G3 H6 G6 (N+i * 80000+j * 400)) (∀ (j':Nat) (c:List Int×Int×Int),j'<j->(callsOf (p.pl []))[j']?=some c->∀ u,(c.1,u)∈f0.pl []->∀ x∈u.pl [],gE H6 G6 (nk c.2.1 x.1) (s:Nat) (c.1++x.1)))
    ⟨_,_,_,_,G3,rfl,(LQ.refl L5).up (by omega),fun _ _ h=>absurd h (Yv _)⟩ (fun j σ H6 _ ⟨_,_,_,_,_,_,q6,_⟩=>SqL.of (q6.fr _ _ Kj Ik Mx)) ?_ ?_
   · rintro j x σ H6 hx ⟨c7,c8,c9,zq,G6,rfl,q6,d6⟩;refine hid fun ZZ kZ=>?_;obtain ⟨ca,rfl,HL⟩:=aT hx;obtain ⟨c,hc,Pf,RQ,RR,Pg,My⟩:=P2.get' BV HL;refine kZ ?_;have BC:=q6.kt L5;have Dq:j<200:=by have:=(US.mp hc).1;omega
     have Il:H5 pd=some (.dT (cj [] prs)):=q5.fr _ _ e2 Ew Mu
     have Im:∀ g∈G3,g.2.1≠pd:=fun g hg z=>by
      have:=(L5.ls g hg).2.1;rw [z,Il] at this;cases this
     have Io:=q6.fr _ _ Il Ew Im
     have Ph:H6 Pf=some (.tup ((c.1.map VA).map kV)):=by
      rw [BC _ _ Pg,W2];rfl
     have DL:=(Same.kt s2).trans ((q5.kt FA).trans BC);refine ⟨ca,_,rfl,SqT.of (BC _ _ RR),rfl,_,_,rfl,_,_,rfl,RQ,_,rfl,SqT.of (BC _ _ My),rfl,_,_,rfl,_,_,rfl,rfl,rfl,?_⟩;refine eI (fun bb H'=>An2 (H6=H') (bb=(aV (cj [] prs) (c.1.map VA)).isSome)) (fun k2 AN=>?_) (fun H' yo=>?_) (fun H' yo=>?_)
     · exact ⟨_,rfl,_,rfl,pd,_,rfl,DGet.t Io Ph,_,rfl,AN _ _ ⟨rfl,rfl⟩⟩
     · refine hid fun ZZ kZ=>?_;obtain ⟨rfl,yo⟩:=yo;obtain ⟨v,hv⟩:=Yq.mp yo.symm;obtain ⟨u,ua,hu,rfl,HR⟩:=Mt c.1 v hv;obtain ⟨Dh,RS⟩:=vp _ f0 [] (UR _) _ hu;refine kZ ?_;dsimp only at Dh RS;refine ⟨_,rfl,_,rfl,pd,.ref ua,rfl,by rw [<- hv];exact DGet.t Io Ph,ua,u,rfl,HR.mono DL,by omega,by omega,fun il Pj H7 s7 nil Kk Ip=>⟨il,rfl,⟨_,SqL.of Kk⟩,?_⟩⟩;have q7:=q6.same s7;have L7:=q7.lk;have d7:∀ (j':Nat) (c:List Int×Int×Int),j'<j->(callsOf (p.pl []))[j']?=some c->∀ u,(c.1,u)∈f0.pl []->∀ x∈u.pl [],gE H7 G6 (nk c.2.1 x.1) (s:Nat) (c.1++x.1):=fun j' c h1 h2 u h3 x h4=>LSub.kt (Same.kt s7) G6 _ _ _ (d6 j' c h1 h2 u h3 x h4);have Mz:(u.pl []).length=Pj.length:=U2 Ip;rw [Th.pl_len] at Mz
       have MA:∀ g∈G6,g.2.1≠il:=fun g hg z=>by
        have:=(q6.lk.ls g hg).2.1;rw [z,nil] at this;cases this
       have Iq:il≠la:=fun z=>by
        obtain ⟨φ,e⟩:=cq L7.dm;rw [z,e] at Kk;cases Kk
       have AM:=BC.trans (Same.kt s7);have MB:=(C8.trans (Same.kt s5)).trans AM
       refine cY (K:=K) (a:=il) (xs:=Pj.map V.ref) (fun m σ H8=>Ex2 fun (zq:Option V) (G8:LG)=>An3 (σ=[some (.ref b),some (.int ((s:Nat):Int)),some (.ref fa),some (.ref la),some (.ref pd),some (.ref ka),some (.ref pa),some (.ref Pf),some (.int c.2.1),some (.int c.2.2),zq]) (LQ P w ins Al Lk H0 la H7 G6 H8 G8 (N+i * 80000+j * 400+2 * m)) (∀ (m':Nat) (x:List Int×Th),m'<m->(u.pl [])[m']?=some x->gE H8 G8 (nk c.2.1 x.1) (s:Nat) (c.1++x.1)))
        ⟨_,G6,rfl,LQ.refl L7,fun _ _ h=>absurd h (Yv _)⟩ (fun m σ H8 _ ⟨_,_,_,q8,_⟩=>SqL.of (q8.fr _ _ Kk Iq MA)) ?_ ?_
       · rintro m x σ H8 hx ⟨zq,G8,rfl,q8,d8⟩;refine hid fun ZZ kZ=>?_;obtain ⟨ib,rfl,RT⟩:=aT hx;obtain ⟨y,hy,MC⟩:=P2.get' Ip RT;have T8:m<200:=by have:=(US.mp hy).1;rw [Th.pl_len] at this;omega
         have MD:=q8.kt L7;have L8:=q8.lk;have Gk:=L8.le;have ME:=MD _ _ MC;have Pk:=MD _ _ (AM _ _ Pg);have Pl:KAt H8 kd ka:=MD _ _ (MB _ _ ek);obtain ⟨T9,RU⟩:=cq L8.dm;refine kZ ?_;have Ke:c.1.length<=100:=by have:=qJ _ f0 [] (UR _) _ hu;rw [XS] at this;dsimp only at this;omega
         have Ua:y.1.length<=100:=by have:=qJ _ u [] (UR _) y (UP hy);rw [XS] at this;omega
         have Pm:nk (s:Nat) (c.1++y.1)∈Al:=AH (c.1++y.1,y.2) (rm _ (UR _) hu (UP hy));have Pn:Lk (nk c.2.1 y.1) (s:Nat) (c.1++y.1) kd c.2.2:=hL i p kd c u y hp hk (UP hc) hu (UP hy);refine ⟨_,rfl,⟨la,_,rfl,L8.dm⟩,_,rfl,_,rfl,ak (by show 2<=1000000;decide),fun kp Bz=>?_⟩;have s9:L2.Same H8 (upd H8 kp (.tup [.int c.2.1,.ref ib])):=ad Bz _;have e9:(upd H8 kp (.tup [.int c.2.1,.ref ib])) kp=some (.tup [.int c.2.1,.ref ib]):=ab;dsimp only;generalize (upd H8 kp (.tup [.int c.2.1,.ref ib]))=H9 at s9 e9 ⊢;refine ⟨ak (by show 0<=1000000;decide),fun l0 BW=>?_⟩;have yG:L2.Same H9 (upd H9 l0 (.lst [])):=ad BW _;have q9:LQ P w ins Al Lk H0 la H8 G8 H9 G8 (N+i * 80000+j * 400+2 * m):=(LQ.refl L8).same s9;have Kl:=Same.kt (s9.trans yG);refine ⟨la,kp,.ref l0,nk c.2.1 y.1,lkv G8,rfl,rfl,L8.dm.mono (s9.trans yG),lB (yG _ _ e9) ((s9.trans yG) _ _ ME),eC (by unfold lkv;rw [UL];omega),fun u hu=>?_,fun hn yH RV MF=>?_⟩
         · obtain ⟨g,hg,Ir,rfl⟩:=qO hu;have qs:LQ P w ins Al Lk H0 la H8 G8 (upd H9 l0 (.lst [])) G8 (N+i * 80000+j * 400+2 * m+1):=(q9.same yG).up (by omega);generalize (upd H9 l0 (.lst []))=Hs at qs Kl ⊢;have Ls:=qs.lk;refine hid fun ZZ kZ=>?_;obtain ⟨_,gl,gn,_⟩:=Ls.ls g hg;refine kZ ?_;refine ⟨.inl ⟨rfl,_,SqL.of gl⟩,_,rfl,_,rfl,_,rfl,?_⟩;refine kB (Kl _ _ Pk) (Kl _ _ ME) (by rw [UL,UL];omega) fun pj yQ yI C9=>?_;rw [<- U5] at C9;refine ⟨_,rfl,_,rfl,ak (by show 4<=1000000;decide),fun en Iu=>?_⟩;have yF:L2.Same yQ (upd yQ en (.tup [.int ((s:Nat):Int),.ref pj,.ref ka,.int c.2.2])):=ad Iu _;have BG:(upd yQ en (.tup [.int ((s:Nat):Int),.ref pj,.ref ka,.int c.2.2])) en=some (.tup [.int ((s:Nat):Int),.ref pj,.ref ka,.int c.2.2]):=ab;generalize (upd yQ en (.tup [.int ((s:Nat):Int),.ref pj,.ref ka,.int c.2.2]))=BH at yF BG ⊢;have Be:=yI.trans yF;refine ⟨g.2.1,_,_,rfl,rfl,Be _ _ gl,eC (by rw [UL];omega),?_⟩;obtain ⟨Iv,has⟩:=(qs.same Be).appG hg (en:=en) ⟨_,_,c.1++y.1,pj,ka,kd,BG,yF _ _ C9,(Same.kt Be) _ _ (Kl _ _ Pl),UP hk,Pm,by rw [Ir];exact Pn⟩;refine ⟨_,_,rfl,(q8.trans Iv).up (by omega),fun m' x2 Ef A'=>?_⟩;by_cases MG:m'=m
           · rw [MG,hy] at A';cases A';have hh:=has _ _ _ _ _ BG (yF _ _ C9);rw [Ir] at hh;exact hh
           · exact Iv.sub _ _ _ (d8 m' x2 (by omega) A')
         · have qs:=q9.newG BW hn RV MF;have MH:=qs.kt L8;refine hid fun ZZ kZ=>?_;obtain ⟨g,hg,Ir,RW⟩:∃ g∈G8++[(nk c.2.1 y.1,l0,[])],g.1=nk c.2.1 y.1/\g.2.1=l0:=⟨_,VI _ (Vk ..),rfl,rfl⟩;refine kZ ?_;rw [<- RW] at qs hg ⊢;have Ls:=qs.lk;refine hid fun ZZ kZ=>?_;obtain ⟨_,gl,gn,_⟩:=Ls.ls g hg;refine kZ ?_;refine ⟨.inl ⟨rfl,_,SqL.of gl⟩,_,rfl,_,rfl,_,rfl,?_⟩;refine kB (MH _ _ Pk) (MH _ _ ME) (by rw [UL,UL];omega) fun pj yQ yI C9=>?_;rw [<- U5] at C9;refine ⟨_,rfl,_,rfl,ak (by show 4<=1000000;decide),fun en Iu=>?_⟩;have yF:L2.Same yQ (upd yQ en (.tup [.int ((s:Nat):Int),.ref pj,.ref ka,.int c.2.2])):=ad Iu _;have BG:(upd yQ en (.tup [.int ((s:Nat):Int),.ref pj,.ref ka,.int c.2.2])) en=some (.tup [.int ((s:Nat):Int),.ref pj,.ref ka,.int c.2.2]):=ab;generalize (upd yQ en (.tup [.int ((s:Nat):Int),.ref pj,.ref ka,.int c.2.2]))=BH at yF BG ⊢;have Be:=yI.trans yF;refine ⟨g.2.1,_,_,rfl,rfl,Be _ _ gl,eC (by rw [UL];omega),?_⟩;obtain ⟨Iv,has⟩:=(qs.same Be).appG hg (en:=en) ⟨_,_,c.1++y.1,pj,ka,kd,BG,yF _ _ C9,(Same.kt Be) _ _ (MH _ _ Pl),UP hk,Pm,by rw [Ir];exact Pn⟩;refine ⟨_,_,rfl,(q8.trans Iv).up (by omega),fun m' x2 Ef A'=>?_⟩;by_cases MG:m'=m
           · rw [MG,hy] at A';cases A';have hh:=has _ _ _ _ _ BG (yF _ _ C9);rw [Ir] at hh;exact hh
           · exact Iv.sub _ _ _ (d8 m' x2 (by omega) A')
       · rintro σ H8 ⟨zq,G8,rfl,q8,d8⟩;refine ⟨_,_,_,_,G8,rfl,(q7.trans q8).up (by rw [UL];omega),fun j' c' yk zh u' zo x2 A'=>?_⟩;by_cases CJ:j'=j
         · subst CJ;rw [hc] at zh;cases zh;have:u'=u:=p9 _ (UR _) zo hu;subst this;obtain ⟨m',Ef⟩:=Vc.mp A';exact d8 m' x2 (by have:=(US.mp Ef).1;rw [Th.pl_len] at this;rw [UL];omega) Ef
         · exact q8.sub _ _ _ (d7 j' c' (by omega) zh u' zo x2 A')
     · obtain ⟨rfl,yo⟩:=yo;refine ⟨_,_,_,_,G6,rfl,q6.up (by omega),fun j' c' yk zh u' zo x2 A'=>?_⟩;by_cases CJ:j'=j
       · subst CJ;rw [hc] at zh;cases zh;obtain ⟨a,ha,_⟩:=Mr c.1 u' zo;rw [ha] at yo;cases yo
       · exact d6 j' c' (by omega) zh u' zo x2 A'
   · rintro σ H6 ⟨c7,c8,c9,zq,G6,rfl,q6,d6⟩;refine ⟨_,_,_,_,_,_,G6,rfl,(q5.trans q6).up ?_,?_⟩
     · rw [UL];have:cs.length * 400<=200 * 400:=ZM _ (by omega);omega
     · intro p' zt;rw [Wb,hp] at zt;rcases VH.mp zt with zt | zt
       · exact (d5.sub q6.sub) p' zt
       · cases Vi.mp zt;intro c Ic;obtain ⟨j',yk⟩:=Vc.mp Ic;exact d6 j' c (by have:=(US.mp yk).1;rw [UL];omega) yk
 · rintro σ H3 ⟨c5,c6,c7,c8,c9,zq,G3,rfl,q3,d3⟩;rw [UL] at q3 d3;rw [Wh (by omega)] at d3;have hmul:yb.length * 80000<=8 * 80000:=ZM _ (by omega);exact q G3 H3 ((Same.kt AL).trans (q3.kt FA)) (q3.lk.up (by omega)) ((LSub.kt (Same.kt AL) G).trans q3.sub) d3
theorem lW (k:Key) (v:V):i6 [] [(k,v)]=[(k,v)]:=rfl
theorem n6 {H:Hp} {ins:List (Vm×Int)} {n:Nat} {kid:Int} {t:Th} {a:UQ} (h:At H t a):vq H ins [(VA kid,.ref a)] (bW ins n kid t):=fun i u hu=>by
 unfold bW at hu;rw [UZ,Vr] at hu;obtain ⟨j,hj,rfl⟩:=hu;have Ub:j<n:=by have:=W5.mp (UP hj);exact this
 have Ei:i=j:=by
  have hi:i<n:=by have:=(US.mp hj).1;rwa [Vx] at this
  rw [We hi] at hj;exact Vo hj
 subst Ei;by_cases hk:(i:Int)=kid
 · rw [if_pos hk];exact .inl ⟨a,by rw [bG (by rw [hk])],h⟩
 · rw [if_neg hk];exact .inr ⟨by rw [bL (fun z=>hk (XJ z).symm)];rfl,rfl⟩
def SpI (P:U6) (w:Vj) (Vl:VlT) (H:Hp) (ia la pt hl:UQ) (G:LG) (f':List (az×V)) (Al:List az) (m:Nat) (σ:St) (H2:Hp):Prop:=∃ (i:Nat) (yW:List (az×V)) (B3:List UQ) (c5 c6 c7 c8 c9 zq:Option V),σ=[some (.ref ia),some (.ref la),some (.ref pt),some (.ref hl),some (.int (i:Nat)),c5,c6,c7,c8,c9,zq]/\But pt H H2/\H2 hl=some (.lst (B3.map V.ref))/\Pt P w Vl H2 pt yW Al/\Vs (fun k b=>MKAt H2 k b) (yW.map (·.1)) B3/\(∀ k∈f'.map (·.1),k∈yW.map (·.1))/\i<=yW.length/\(∀ (j:Nat) (k:az),j<i->(yW.map (·.1))[j]?=some k->∀ s pl,gE H2 G k s pl->nk s pl∈yW.map (·.1))/\m=Al.length+1 - i
inductive lh (P:U6) (w:Vj) (vs:List V) (H:Hp) (Q:VK) (_E:XK):Prop
 | mk (ia la pt:UQ) (yb:List UQ) (ins:List (Vm×Int)) (G:LG) (f':List (az×V)) (Al:List az) (Vl:VlT) (Lk:LkT) (yf:vs=[.ref ia,.ref la,.ref pt]) (yg:H ia=some (.tup (yb.map V.ref))) (yl:KsAt H ins yb) (yx:bV ins) (yK:LkR P w ins Al Lk H la G) (zJ:Pt P w Vl H pt f' Al) (Bv:Al.length<=1000000) (BZ:pt≠la) (Ep:(∀ (i j:Nat) (k:az) (t1 t2:Th) (s:Int) (pl:List Int) (kd:Vm×Int) (kid:Int),i<j->Vl i k t1 t2->kd∈ins->Lk k s pl kd kid->Vl j (nk s pl) (.knot kd.1 (bW ins kd.2.toNat kid t1)) (.knot kd.1 (bW ins kd.2.toNat kid t2)))) (Fq:∀ (yV:List (az×V)) (H':Hp),But pt H H'->Pt P w Vl H' pt yV Al->(∀ k∈f'.map (·.1),k∈yV.map (·.1))->(∀ k∈yV.map (·.1),∀ s pl,gE H' G k s pl->nk s pl∈yV.map (·.1))->Q .non H'):lh P w vs H Q _E
def rq (P:U6) (w:Vj):Sp:=lh P w
set_option maxHeartbeats 4000000 in
theorem sD:bn P w K mg base CX0 3 T.g_spread.f T.g_spread.d ["ins","links","partings"] (rq P w):=by
 refine T.g_spread.F.ok ci (fun vs H Q E h=>?_) (fun yc A outer s0 H vs Q E hr h=>?_)
 · obtain ⟨ia,la,pt,yb,ins,G,f',Al,Vl,Lk,rfl,_⟩:=h;rfl
 obtain ⟨ia,la,pt,yb,ins,G,f',Al,Vl,Lk,rfl,ei,AE,g,R,Et,Kg,yn,hS,q⟩:=h
 refine ⟨_,(ae (av (i:=3) ci.nd rfl (U9 rfl) (cH (pZ rfl) rfl T.n_list Zu (aa (pv 2) ac)))
  (ae (av (i:=4) ci.nd rfl (U9 rfl) af)
  (ag (eR Vq (aP mx (pv 4) (aB aq rfl T.n_len Vu (aa (pv 3) ac)) (aS _)) (ae (cE (ph (gb hr) (pv 2) (ay aO (pv 3) (pv 4) (fun _ _=>rfl)) (fun _ _=>rfl)) (bo rfl (au (aj (i:=5) ci.nd rfl (U9 rfl)) (au (aj (i:=6) ci.nd rfl (U9 rfl)) aX))))
  (ae (bi Vq rfl (bQ (rQ (gb hr) (pv 1) (ay aO (pv 3) (pv 4) (fun _ _=>rfl)) (bu ac) ⟨rfl,rfl,rfl,rfl⟩)) (bo rfl (au (aj (i:=7) ci.nd rfl (U9 rfl)) (au (aj (i:=8) ci.nd rfl (U9 rfl)) (au (aj (i:=9) ci.nd rfl (U9 rfl)) (au (aj (i:=10) ci.nd rfl (U9 rfl)) aX))))) (ag (bY (pU (pJ (gb hr) (aI (aa (pv 7) (aa (pv 8) ac))) (pv 2))) (ae (tK (gb hr) (pv 2) (aI (aa (pv 7) (aa (pv 8) ac))) (aI (aa (pcF T.g_knot_above (dQ T) hr (aa (pv 0) (aa (pv 9) (aa (re (pH (pv 10) (pv 5) qB) rfl rfl (by decide) (by decide)) ac)))) (aa (pcF T.g_knot_above (dQ T) hr (aa (pv 0) (aa (pv 9) (aa (re (pH (pv 10) (pv 6) qB) rfl rfl (by decide) (by decide)) ac)))) ac))) rfl)
  (ag (aL (bE U3 Vh Vg aN (pv 3) (aa (aI (aa (pv 7) (aa (pv 8) ac))) ac))))) bO)))
  (ag (vQ (i:=4) ci.nd rfl (U9 rfl) af wg)))))))),?_⟩
 try dsimp only [yz,xZ]
 obtain ⟨φ,DH⟩:=cq Et.dm;have zK:ins.length=yb.length:=U2 AE;refine ⟨_,rfl,pt,f',rfl,Et.dm,fun hl bs CG yw=>?_⟩;have s1:L2.Same H (upd H hl (.lst (bs.map V.ref))):=ad CG _;have e1:(upd H hl (.lst (bs.map V.ref))) hl=some (.lst (bs.map V.ref)):=ab;generalize (upd H hl (.lst (bs.map V.ref)))=H1 at s1 e1 ⊢;have Po:hl≠pt:=fun z=>by rw [z,DH] at CG;cases CG
 have MI:Vs (fun k b=>MKAt H1 k b) (f'.map (·.1)) bs:=P2.mapl _ (P2.mp (fun _ _ e=>e.mono (Same.kt s1)) yw);refine ⟨SpI P w Vl H ia la pt hl G f' Al,⟨_,0,f',bs,none,none,none,none,none,none,rfl,Same.but s1,e1,Et.same s1,MI,fun _ h=>h,Vn _,fun _ _ h=>absurd h (Yv _),rfl⟩,?_⟩;rintro m σ H2 ⟨i,yW,B3,c5,c6,c7,c8,c9,zq,rfl,b2,Bf,zA,FC,Ex,HW,AW,rfl⟩;have MJ:(yW.map (·.1)).length=B3.length:=U2 FC;rw [UL] at MJ;have Uc:=zA.len;have Md:=b2.kt DH;obtain ⟨Km,BJ⟩:=cq zA.dm;refine ⟨_,rfl,_,rfl,hl,_,rfl,.inl (SqL.of Bf),_,_,rfl,rfl,?_⟩;refine ⟨_,rfl,?_⟩;refine cP (fun cc=>?_) (fun cc=>?_)
 · have ye:i<B3.length:=by
    have:=of_decide_eq_true cc;rw [UL] at this;omega
   refine hid fun ZZ kZ=>?_;obtain ⟨bk,Ko⟩:∃ bk,B3[i]?=some bk:=⟨_,UN ye⟩;obtain ⟨k,hk,Fw⟩:=P2.get' FC Ko
   obtain ⟨v,hv⟩:∃ v,aV yW k=some v:=by
    cases DN:aV yW k with
    | none=>exact absurd (UP hk) (cS DN)
    | some v=>exact ⟨v,rfl⟩
   obtain ⟨kv,Gm,Iw⟩:∃ kv,yW[i]?=some kv/\kv.1=k:=by
    rw [UZ,Vr] at hk;exact hk
   obtain ⟨pr,ta,tb,t1,t2,ev,Gf,AK,RX,Pp⟩:=zA.vl i kv Gm;refine kZ ?_;rw [<- Iw] at hv;rw [<- qS zA.nd Gm hv] at ev;subst ev;rw [Iw] at hv Pp;have Dc:atI (B3.map V.ref) ((i:Nat):Int)=some (.ref bk):=ck (by rw [UZ,Ko];rfl);refine ⟨fun xT H'=>∃ m',m'<Al.length+1 - i/\SpI P w Vl H ia la pt hl G f' Al m' xT H',fun xT H' h=>h,?_⟩;refine ⟨_,rfl,_,rfl,_,rfl,hl,_,_,.ref bk,rfl,rfl,SqL.of Bf,Dc,?_⟩;refine ⟨pt,bk,k,yW,.ref pr,rfl,rfl,zA.dm,Fw,hv,?_⟩;refine ⟨pr,_,rfl,SqT.of Gf,rfl,_,_,rfl,_,_,rfl,rfl,?_⟩;dsimp only [aG];have R2:=R.but b2 DH yn
   -- AQ links of this one
   refine jb (fun xT H'=>Ex6 fun (zr:List (az×V)) (AG:List UQ) (d7 d8 d9 Gn:Option V)=>An8 (xT=[some (.ref ia),some (.ref la),some (.ref pt),some (.ref hl),some (.int (i:Nat)),some (.ref ta),some (.ref tb),d7,d8,d9,Gn]) (But pt H H') (KT H2 H') (H' hl=some (.lst (AG.map V.ref))) (Pt P w Vl H' pt zr Al) (Vs (fun k b=>MKAt H' k b) (zr.map (·.1)) AG) ((∃ more,zr.map (·.1)=yW.map (·.1)++more)) (∀ s pl,gE H' G k s pl->nk s pl∈zr.map (·.1))) (fun kk Bo=>?_) ?_
   · refine ⟨_,rfl,la,_,rfl,R2.dm,_,rfl,_,rfl,hl,_,_,.ref bk,rfl,rfl,SqL.of Bf,Dc,ak (by show 0<=1000000;decide),fun l0 BW=>?_⟩;have s3:L2.Same H2 (upd H2 l0 (.lst [])):=ad BW _;have e3:(upd H2 l0 (.lst [])) l0=some (.lst (([]:List UQ).map V.ref)):=ab;generalize (upd H2 l0 (.lst []))=H3 at s3 e3 ⊢;have R3:=R2.but (Same.but s3 (p:=pt)) BJ yn;have MK:l0≠hl:=fun z=>by rw [z,Bf] at BW;cases BW
     refine ⟨la,bk,k,lkv G,rfl,rfl,R3.dm,Fw.mono (Same.kt s3),?_⟩;refine hid fun ZZ kZ=>?_
     obtain ⟨l,as,el,Pq,RY,RZ,hle,R1⟩:∃ (l:UQ) (as:List UQ),(aV (lkv G) k).getD (.ref l0)=.ref l/\H3 l=some (.lst (as.map V.ref))/\l≠hl/\l≠pt/\(∀ a∈as,LE H3 ins Al Lk k a)/\∀ s pl,gE H3 G k s pl->∃ a∈as,∃ (pa ka:UQ) (kid:Int),H3 a=some (.tup [.int s,.ref pa,.ref ka,.int kid])/\H3 pa=some (.tup (pl.map V.int)):=by
      have BK:H3 pt=some (.ext Km):=s3 _ _ BJ;cases Pr:aV (lkv G) k with
      | none=>exact ⟨l0,[],rfl,e3,MK,(fun z=>by rw [z,BK] at e3;cases e3),(fun a ha=>by cases ha),fun s pl hh=>absurd hh (sR Pr)⟩
      | some u =>
        obtain ⟨g,hg,rfl,rfl⟩:=qO Pr;obtain ⟨h1,h2⟩:=R3.ls g hg;refine ⟨g.2.1,g.2.2,rfl,h1,(fun z=>?_),(fun z=>by rw [z,BK] at h1;cases h1),h2,fun s pl hh=>R3.at hg hh⟩;have:=(R.ls g hg).1;rw [z,CG] at this;cases this
     refine kZ ?_;rw [el];refine ⟨l,rfl,⟨_,SqL.of Pq⟩,?_⟩;have b3:=b2.trans (Same.but s3 (p:=pt))
     refine cY (K:=K) (a:=l) (xs:=as.map V.ref) (fun j σ H4=>Ex6 fun (zr:List (az×V)) (AG:List UQ) (d7 d8 d9 Gn:Option V)=>An8 (σ=[some (.ref ia),some (.ref la),some (.ref pt),some (.ref hl),some (.int (i:Nat)),some (.ref ta),some (.ref tb),d7,d8,d9,Gn]) (But pt H H4) ((∀ c o,c≠pt->c≠hl->H3 c=some o->H4 c=some o)) (H4 hl=some (.lst (AG.map V.ref))) (Pt P w Vl H4 pt zr Al) (Vs (fun k b=>MKAt H4 k b) (zr.map (·.1)) AG) ((∃ more,zr.map (·.1)=yW.map (·.1)++more)) (∀ (j':Nat) (a:UQ),j'<j->as[j']?=some a->∀ (s:Int) (pl:List Int) (pa ka:UQ) (kid:Int),H3 a=some (.tup [.int s,.ref pa,.ref ka,.int kid])->H3 pa=some (.tup (pl.map V.int))->nk s pl∈zr.map (·.1)))
      ⟨yW,B3,_,_,_,_,rfl,b3,fun _ _ _ _ e=>e,s3 _ _ Bf,zA.same s3,P2.mp (fun _ _ e=>e.mono (Same.kt s3)) FC,⟨[],by rw [VB]⟩,fun _ _ h=>absurd h (Yv _)⟩ (fun j σ H4 _ ⟨_,_,_,_,_,_,_,_,f4,_,_,_,_,_⟩=>SqL.of (f4 _ _ RZ RY Pq)) ?_ ?_
     · rintro j x σ H4 hx ⟨zr,AG,d7,d8,d9,Gn,rfl,b4,f4,BL,zm,Bg,yJ,xY⟩;have BK:H3 pt=some (.ext Km):=s3 _ _ BJ;have Bh:KT H3 H4:=fun c ys ec=>f4 c _ (fun z=>by rw [z,BK] at ec;cases ec) (fun z=>by rw [z,s3 _ _ Bf] at ec;cases ec) ec;have DO:=(Same.kt s3).trans Bh;have ML:=Md.trans DO;refine hid fun ZZ kZ=>?_;obtain ⟨Ud,MM⟩:=cq zm.dm;have R4:=zm.len;have MN:(zr.map (·.1)).length=AG.length:=U2 Bg;rw [UL] at MN;obtain ⟨a,rfl,ha⟩:=aT hx;obtain ⟨s',kid,pl,pa,ka,kd,g1,g2,g3,g4,g5,g6⟩:=hle a (UP ha);refine kZ ?_;have ea:=Bh _ _ g1;have zF:=Bh _ _ g2;have Pu:KAt H4 kd ka:=Bh _ _ g3
       have Iy:∀ (s:Int) (zG:List Int) (C1 Ct:UQ) (Ae:Int),H3 a=some (.tup [.int s,.ref C1,.ref Ct,.int Ae])->H3 C1=some (.tup (zG.map V.int))->nk s zG=nk s' pl:=fun s zG C1 Ct Ae h1 h2=>by
        rw [g1] at h1;cases h1;rw [g2] at h2;have:pl=zG:=oK (by injection h2 with h3;injection h3);rw [this]
       refine ⟨a,_,rfl,SqT.of ea,rfl,_,_,rfl,_,_,rfl,_,_,rfl,_,_,rfl,rfl,?_⟩;dsimp only [aG];refine eI (fun bb H'=>An2 (L2.Same H4 H') (bb=!(aV zr (nk s' pl)).isSome)) (fun k2 AN=>?_) (fun H5 yo=>?_) (fun H5 yo=>?_)
       · refine ⟨_,rfl,_,rfl,ak (by show 2<=1000000;decide),fun kp Bz=>?_⟩;have s5:=ad Bz (.tup [.int s',.ref pa]);exact ⟨_,rfl,pt,kp,nk s' pl,zr,rfl,rfl,zm.dm.mono s5,lB ab (s5 _ _ zF),_,rfl,AN _ _ ⟨s5,rfl⟩⟩
       · obtain ⟨s5,yo⟩:=yo
         have hn:aV zr (nk s' pl)=none:=by
          cases DN:aV zr (nk s' pl) with
          | none=>rfl
          | some u=>rw [DN] at yo;cases yo
         have Iz:=ML.trans (Same.kt s5);have DA:=DO.trans (Same.kt s5)
         -- AQ first tree
         refine ⟨_,rfl,_,rfl,fun dd Ii=>?_⟩;refine ⟨_,rfl,_,rfl,ab,[(VA kid,.ref ta)],rfl,(by show 1<=15;decide),?_⟩;rw [lW];have s6:L2.Same H5 (upd (upd H5 dd (.dK [])) dd (.dK [(VA kid,.ref ta)])):=ax (ad Ii _) Ii;have e6:(upd (upd H5 dd (.dK [])) dd (.dK [(VA kid,.ref ta)])) dd=some (.dK [(VA kid,.ref ta)]):=ab;generalize (upd (upd H5 dd (.dK [])) dd (.dK [(VA kid,.ref ta)]))=H6 at s6 e6 ⊢;have DL:=Iz.trans (Same.kt s6);refine ⟨ia,ka,dd,yb,ins,kd,_,bW ins kd.2.toNat kid t1,rfl,DL _ _ ei,AE.mono DL,g,(s5.trans s6) _ _ Pu,g4,e6,ig ..,n6 (AK.mono (DA.trans (Same.kt s6))),fun r1 H7 s7 L6=>?_⟩
         -- AQ second
         refine ⟨_,rfl,_,rfl,fun d2 hd2=>?_⟩;refine ⟨_,rfl,_,rfl,ab,[(VA kid,.ref tb)],rfl,(by show 1<=15;decide),?_⟩;rw [lW];have s8:L2.Same H7 (upd (upd H7 d2 (.dK [])) d2 (.dK [(VA kid,.ref tb)])):=ax (ad hd2 _) hd2;have e8:(upd (upd H7 d2 (.dK [])) d2 (.dK [(VA kid,.ref tb)])) d2=some (.dK [(VA kid,.ref tb)]):=ab;generalize (upd (upd H7 d2 (.dK [])) d2 (.dK [(VA kid,.ref tb)]))=H8 at s8 e8 ⊢;have DC:=s6.trans (s7.trans s8);have BE:=Iz.trans (Same.kt DC);refine ⟨ia,ka,d2,yb,ins,kd,_,bW ins kd.2.toNat kid t2,rfl,BE _ _ ei,AE.mono BE,g,(s5.trans DC) _ _ Pu,g4,e8,ig ..,n6 (RX.mono (DA.trans (Same.kt DC))),fun r2 H9 s9 Fd=>?_⟩;refine ⟨ak (by show 2<=1000000;decide),fun p2 Ad=>?_⟩;have yG:L2.Same H9 (upd H9 p2 (.tup [.ref r1,.ref r2])):=ad Ad _;have Fi:(upd H9 p2 (.tup [.ref r1,.ref r2])) p2=some (.tup [.ref r1,.ref r2]):=ab;generalize (upd H9 p2 (.tup [.ref r1,.ref r2]))=yH at yG Fi ⊢;refine ⟨_,rfl,_,rfl,_,rfl,ak (by show 2<=1000000;decide),fun kp Bz=>?_⟩;have yI:L2.Same yH (upd yH kp (.tup [.int s',.ref pa])):=ad Bz _;have C9:(upd yH kp (.tup [.int s',.ref pa])) kp=some (.tup [.int s',.ref pa]):=ab;generalize (upd yH kp (.tup [.int s',.ref pa]))=yQ at yI C9 ⊢;have BM:=s5.trans (DC.trans (s9.trans (yG.trans yI)));have Ey:=zm.same BM;refine ⟨pt,kp,nk s' pl,zr,rfl,rfl,Ey.dm,lB C9 (BM _ _ zF),eC (by omega),fun BH MO MP=>?_⟩;have Kp:But pt yQ BH:=MO
         have MQ:i<zr.length:=by
          obtain ⟨more,hm⟩:=id yJ;have:=congrArg Xg hm;rw [UL,U8,UL] at this;omega
         obtain ⟨R5,FD⟩:=Ey.put hn Kp MP ⟨p2,r1,r2,_,_,rfl,yI _ _ Fi,L6.mono (Same.kt (s8.trans (s9.trans (yG.trans yI)))),Fd.mono (Same.kt (yG.trans yI)),hS i _ k t1 t2 s' pl kd kid MQ Pp g4 g6⟩ g5;have CK:BH hl=some (.lst (AG.map V.ref)):=Kp _ _ Po (BM _ _ BL);have Ez:KT H4 BH:=(Same.kt BM).trans (Kp.kt (BM _ _ MM));dsimp only [aG];refine ⟨_,rfl,.inl ⟨rfl,_,SqL.of CK⟩,_,rfl,_,rfl,ak (by show 2<=1000000;decide),fun EA MR=>?_⟩;have CL:L2.Same BH (upd BH EA (.tup [.int s',.ref pa])):=ad MR _;have Kq:(upd BH EA (.tup [.int s',.ref pa])) EA=some (.tup [.int s',.ref pa]):=ab;generalize (upd BH EA (.tup [.int s',.ref pa]))=C7 at CL Kq ⊢;refine ⟨hl,_,_,rfl,rfl,CL _ _ CK,eC (by rw [UL];omega),?_⟩;have DQ:KT C7 (upd C7 hl (.lst (AG.map V.ref++[.ref EA]))):=aU (CL _ _ CK);have IC:=(Ez.trans (Same.kt CL)).trans DQ;have Gj:=R5.same CL;have R6:Pt P w Vl (upd C7 hl (.lst (AG.map V.ref++[.ref EA]))) pt _ Al:=⟨qL Gj.dm DQ fun o eo=>by rw [ai Po.symm];exact eo,Gj.nd,Gj.al,fun j p hp=>(Gj.vl j p hp).mono DQ⟩;obtain ⟨more,yJ⟩:=yJ
         have go:∀ c o,c≠pt->c≠hl->H4 c=some o->(upd C7 hl (.lst (AG.map V.ref++[.ref EA]))) c=some o:=fun c o h1 h2 e=>by
          rw [ai h2];exact CL _ _ (Kp _ _ h1 (BM _ _ e))
         refine ⟨_,AG++[EA],_,_,_,_,rfl,fun c o hc e=>go c o hc (fun z=>by rw [z,CG] at e;cases e) (b4 _ _ hc e),fun c o h1 h2 e=>go c o h1 h2 (f4 c o h1 h2 e),by rw [ab,U5];rfl,R6,?_,⟨more++[nk s' pl],by rw [FD,yJ,VN]⟩,fun j' a' yk Bu s zG C1 Ct Ae h1 h2=>?_⟩
         · rw [FD];exact P2.append (P2.mp (fun _ _ e=>e.mono IC) Bg) (.cons ((lB Kq (CL _ _ (Ez _ _ zF))).mono DQ) .nil)
         · rw [FD];by_cases CJ:j'=j
           · rw [CJ,ha] at Bu;cases Bu;rw [Iy s zG C1 Ct Ae h1 h2];exact VI _ (Vk ..)
           · exact VU _ (xY j' a' (by omega) Bu s zG C1 Ct Ae h1 h2)
       · obtain ⟨s5,yo⟩:=yo
         obtain ⟨u,hu⟩:∃ u,aV zr (nk s' pl)=some u:=by
          cases DN:aV zr (nk s' pl) with
          | none=>rw [DN] at yo;cases yo
          | some u=>exact ⟨u,rfl⟩
         refine ⟨zr,AG,_,_,_,_,rfl,b4.trans (Same.but s5),fun c o h1 h2 e=>s5 _ _ (f4 c o h1 h2 e),s5 _ _ BL,zm.same s5,P2.mp (fun _ _ e=>e.mono (Same.kt s5)) Bg,yJ,fun j' a' yk Bu s zG C1 Ct Ae h1 h2=>?_⟩;by_cases CJ:j'=j
         · rw [CJ,ha] at Bu;cases Bu;rw [Iy s zG C1 Ct Ae h1 h2];exact VM.mpr ⟨_,eM hu,rfl⟩
         · exact xY j' a' (by omega) Bu s zG C1 Ct Ae h1 h2
     · rintro σ H4 ⟨zr,AG,d7,d8,d9,Gn,rfl,b4,f4,BL,zm,Bg,yJ,xY⟩;have BK:H3 pt=some (.ext Km):=s3 _ _ BJ;have Bh:KT H3 H4:=fun c ys ec=>f4 c _ (fun z=>by rw [z,BK] at ec;cases ec) (fun z=>by rw [z,s3 _ _ Bf] at ec;cases ec) ec;refine Bo _ _ ⟨zr,AG,_,_,_,_,rfl,b4,(Same.kt s3).trans Bh,BL,zm,Bg,yJ,fun s pl hh=>?_⟩;refine hid fun ZZ kZ=>?_;obtain ⟨a,ha,pa,ka,kid,h1,h2⟩:=R1 s pl (R3.back Bh hh);obtain ⟨j',yk⟩:=Vc.mp ha;refine kZ ?_;exact xY j' a (by have:=(US.mp yk).1;rw [UL];exact this) yk s pl pa ka kid h1 h2
   · rintro xT H4 ⟨zr,AG,d7,d8,d9,Gn,rfl,b4,DO,BL,zm,Bg,⟨more,yJ⟩,MS⟩;have R4:=zm.len;have hlen:=congrArg Xg yJ;rw [UL,U8,UL] at hlen;refine ⟨_,rfl,_,_,rfl,rfl,Al.length+1 - (i+1),by omega,i+1,zr,AG,_,_,_,_,_,_,rfl,b4,BL,zm,Bg,fun k' zj=>by rw [yJ];exact VU _ (Ex k' zj),by omega,fun j k' hj zj s pl hh=>?_,rfl⟩;have AZ:j<(yW.map (·.1)).length:=by rw [UL];omega
     have AN:(yW.map (·.1))[j]?=some k':=by rw [yJ,WS AZ] at zj;exact zj
     by_cases ID:j=i
     · rw [ID,hk] at AN;cases AN;exact MS s pl hh
     · rw [yJ];exact VU _ (AW j k' (by omega) AN s pl (R2.back DO hh))
 · have Ue:¬ i<B3.length:=fun z=>cc (decide_eq_true (by rw [UL];omega));refine q yW H2 b2 zA Ex fun k hk s pl hh=>?_;obtain ⟨j,hj⟩:=Vc.mp hk;exact AW j k (by have:=(US.mp hj).1;rw [UL] at this;omega) hj s pl hh
inductive gQ (P:U6) (w:Vj) (K:UO) (vs:List V) (H:Hp) (Q:VK) (_E:XK):Prop
 | mk (fa pt:UQ) (s:Nat) (t:Th) (f':List (az×V)) (Al:List az) (Vl:VlT) (yf:vs=[.ref fa,.int (s:Nat),.ref pt]) (yg:AtK K H t fa) (yl:t.size<=200) (yx:t.tall<=100) (yK:t.noCall) (zJ:Pt P w Vl H pt f' Al) (Bv:∀ (r:UQ) (H':Hp),L2.Same H H'->AtK K H' (t.cut (Dk f' (s:Nat)) []) r->Q (.ref r) H'):gQ P w K vs H Q _E
def iZ (P:U6) (w:Vj) (K:UO):Sp:=gQ P w K
def wH (K:UO) (D:List Int->Bool) (fa pt tl ah:UQ) (s:Nat) (t:Th) (H:Hp) (m:Nat) (σ:St) (H3:Hp):Prop:=∃ (ts as:List UQ) (Ts:List Th) (As:List (List Int×Th)) (c5 c6 c7:Option V),σ=[some (.ref fa),some (.int (s:Nat)),some (.ref pt),some (.ref tl),some (.ref ah),c5,c6,c7]/\L2.Same H H3/\H3 tl=some (.lst (ts.map V.ref))/\H3 ah=some (.lst (as.map V.ref))/\Vs (TopAtK K H3) (Ts.map (dO Th.call)) ts/\PsAtK K H3 As as/\Ts++ij D As.reverse=(t.cut D []).walk/\(∀ p∈As,p.1.length+p.2.tall<=100/\p.2.noCall)/\Ts.length+szP As<=200/\m=szP As
set_option maxHeartbeats 4000000 in
theorem nR:bn P w K mg base CX0 3 T.g_cut_front.f T.g_cut_front.d ["front","state","partings"] (iZ P w K):=by
 refine T.g_cut_front.F.ok cw (fun vs H Q E h=>?_) (fun yc A outer s0 H vs Q E hr h=>?_)
 · obtain ⟨fa,pt,s,t,f',Al,Vl,rfl,_⟩:=h;rfl
 obtain ⟨fa,pt,s,t,f',Al,Vl,rfl,hA,hsz,yv,R7,Et,k⟩:=h
 refine ⟨_,(ae (av (i:=3) cw.nd rfl (U9 rfl) (bu ac))
  (ae (av (i:=4) cw.nd rfl (U9 rfl) (bu (aa (aI (aa (aI ac) (aa (pv 0) ac))) ac)))
  (ae (eR Vq (bJ (pv 4) (fun _=>rfl)) (ae (cE (fP U3 XU XT ko (pv 4)) (bo rfl (au (aj (i:=5) cw.nd rfl (Zh rfl)) (au (aj (i:=6) cw.nd rfl (U9 rfl)) aX))))
  (ag (bY (PW.pt (mr (bJ (pcF T.g_is_hole (iA T) hr (aa (pv 6) ac)) (fun _=>rfl)) (kG (pU (uH (gb hr) (aI (aa (pv 1) (aa (pv 5) ac))) (pv 2)))))) (ag (aL (bE U3 Vh Vg aN (pv 3) (aa (aI (aa (gz (v:=.ref T.a_HOLE) rfl T.c_HOLE rfl) (aa af ac))) ac)))) (ae (aL (bE U3 Vh Vg aN (pv 3) (aa (aI (aa (bx qQ (pv 6) b8 (bD af)) (aa (aw eV (aB aq rfl T.n_len Vu (aa (pv 6) ac)) af) ac))) ac)))
  (ae (di (i:=7) (N:=[UU "number",UU "kid",UU "place"]) (js:=[none,none,some 5]) (g:=(lT K 2 (cR (aG 0) (cR (aG 1) lQ)))) (tt:=bH) (te:=(lJ (bA (tOp (mo K) (bp 2) (lJ (bA (bp 0) dL))) (bA (bp 1) dL)))) cw.nd rfl (U9 rfl) rfl (cx rfl (by decide +kernel) (by decide +kernel) rfl rfl rfl) (mN rfl T.n_enumerate (bx ff (pv 6) (bD af) b8)) (fun _ _ _ _ _ _=>(bo rfl (au (aj (i:=0) uA rfl (U9 rfl)) (au (aj (i:=1) uA rfl (U9 rfl)) aX)))) (fN (bP aW (aR rfl) (bP aW (aR rfl) f8))) (fun _ _ _ _ _ _=>bS) (fun _ _ _ _ _ _=>(aI (aa (aw cK (pv 2) (aI (aa (pv 0) ac))) (aa (pv 1) ac)))))
  (ag (aL (bE U3 Yp Yo jm (pv 4) (aa (kx rfl rfl T.n_list rfl T.n_reversed (pv 7)) ac))))))))))
  (ag (aD (pcF T.g_built (lm T) hr (aa (pv 3) ac))))))),?_⟩
 try dsimp only [yz,xZ]
 generalize R8:Dk f' (s:Nat)=D at k;refine ⟨ak (by show 0<=1000000;decide),fun tl FE=>?_⟩;have s1:L2.Same H (upd H tl (.lst [])):=ad FE _;have Fg:(upd H tl (.lst [])) tl=some (.lst []):=ab;generalize upd H tl (.lst [])=H1 at s1 Fg ⊢;refine ⟨ak (by show 0<=1000000;decide),fun p0 C2=>?_⟩;refine ⟨_,rfl,ak (by show 2<=1000000;decide),fun p1 Ac=>?_⟩;refine ⟨ak (by show 1<=1000000;decide),fun ah Af=>?_⟩;have s2:L2.Same H1 (upd (upd H1 p0 (.tup [])) p1 (.tup [.ref p0,.ref fa])):=(ad C2 _).trans (ad Ac _);have e1:(upd (upd H1 p0 (.tup [])) p1 (.tup [.ref p0,.ref fa])) p1=some (.tup [.ref p0,.ref fa]):=ab;have e0:(upd (upd H1 p0 (.tup [])) p1 (.tup [.ref p0,.ref fa])) p0=some (.tup []):=ad Ac _ _ _ ab;generalize (upd (upd H1 p0 (.tup [])) p1 (.tup [.ref p0,.ref fa]))=H2 at s2 e1 e0 Af ⊢;have Bb:H1 ah=none:=s2.free Af;have zU:H ah=none:=s1.free Bb;have yn:ah≠tl:=fun z=>by rw [z,Fg] at Bb;cases Bb
 have R9:szP [(([]:List Int),t)]=t.size:=by rw [szP,szP];rfl
 refine ⟨wH K D fa pt tl ah s t H,⟨_,[],[p1],[],[([],t)],none,none,none,rfl,ax (s1.trans s2) zU,by rw [ai yn.symm];exact s2 _ _ Fg,by rw [ab];rfl,.nil,.cons ⟨p0,fa,ad Af _ _ _ e1,ad Af _ _ _ e0,hA.mono (Same.kt (ax (s1.trans s2) zU))⟩ .nil,by show []++((t.cut D []).walk++[])=_;rw [W9,VB],fun p hp=>by rw [Vi.mp hp];exact ⟨by simpa using yv,R7⟩,by rw [R9];simpa using hsz,rfl⟩,?_⟩;rintro m σ H3 ⟨ts,as,Ts,As,c5,c6,c7,rfl,sm,em,ea,a1,a2,hw,hb,hlen,rfl⟩;have Ug:Ts.length=ts.length:=by have:=U2 a1;rwa [UL] at this
 refine ⟨_,rfl,_,.inl ⟨_,SqL.of ea,rfl⟩,?_⟩;refine cP (fun c=>?_) (fun c=>?_)
 · refine ⟨fun xT H'=>∃ m',m'<szP As/\wH K D fa pt tl ah s t H m' xT H',fun xT H' h=>h,?_⟩;have zx:as≠[]:=by intro z;subst z;simp at c
   refine hid fun ZZ kZ=>?_;obtain ⟨yj,b,rfl⟩:∃ yj b,as=yj++[b]:=⟨as.dropLast,as.getLast zx,(Xa zx).symm⟩;obtain ⟨Us,⟨pre,x⟩,rfl,a3,pa,ta,eb,zF,AK⟩:=P2.snoc_inv a2;have HF:szP (Us++[(pre,x)])=szP Us+x.size:=by rw [cF,szP,szP];rfl
   have HE:=x.size_eq;rw [HF] at hlen;obtain ⟨J8,IE⟩:=hb (pre,x) (by simp);refine kZ ?_;simp only at J8 IE zF AK;have Rt:Us.length=yj.length:=U2 a3;have q4:=mV Us;refine ⟨_,rfl,.inl ⟨rfl,_,SqL.of ea⟩,ah,_,.ref b,rfl,rfl,ea,by simp,?_⟩;have d1:((yj++[b]).map V.ref).dropLast=yj.map V.ref:=by simp
   rw [d1];have k1:KT H3 (upd H3 ah (.lst (yj.map V.ref))):=aU ea;have Ek:L2.Same H (upd H3 ah (.lst (yj.map V.ref))):=ax sm zU;have Bn:(upd H3 ah (.lst (yj.map V.ref))) tl=some (.lst (ts.map V.ref)):=by rw [ai yn.symm];exact em
   have Fh:(upd H3 ah (.lst (yj.map V.ref))) ah=some (.lst (yj.map V.ref)):=ab;generalize (upd H3 ah (.lst (yj.map V.ref)))=H4 at k1 Ek Bn Fh ⊢;refine ⟨b,_,rfl,SqT.of (k1 _ _ eb),rfl,_,_,rfl,_,_,rfl,rfl,?_⟩
   try dsimp only [aG]
   have zm:=Et.same Ek;refine eI (fun bb H'=>An2 (L2.Same H4 H') (bb=(x.isHole || D pre))) (fun k2 AN=>?_) (fun H5 yo=>?_) (fun H5 yo=>?_)
   · refine ⟨_,rfl,ta,x,rfl,AK.mono k1,by omega,_,rfl,?_⟩;refine cP (fun ch=>AN _ _ ⟨.refl _,by rw [ch];rfl⟩) (fun ch=>?_);have R':x.isHole=false:=V5.mpr ch;refine ⟨_,rfl,_,rfl,ak (by show 2<=1000000;decide),fun kp Bz=>?_⟩;have s5:=ad Bz (.tup [.int ((s:Nat):Int),.ref pa]);refine ⟨_,rfl,pt,kp,nk (s:Nat) pre,f',rfl,rfl,zm.dm.mono s5,lB ab (s5 _ _ (k1 _ _ zF)),_,rfl,AN _ _ ⟨s5,?_⟩⟩;rw [R',Yu,<- R8];rfl
   · obtain ⟨s5,yo⟩:=yo
     have FF:x.cut D pre=hole:=by
      cases x with
      | call u v=>rw [Th.cut]
      | knot n ks =>
        rw [Th.cut,if_pos];rcases Bool.or_eq_true_iff.mp yo.symm with h | h
        · exact .inl h
        · exact .inr h
     refine ⟨_,rfl,.inl ⟨rfl,_,SqL.of (s5 _ _ Bn)⟩,ak (by show 2<=1000000;decide),fun p hp=>?_⟩;have s6:L2.Same H5 (upd H5 p (.tup [.ref T.a_HOLE,.int 0])):=ad hp _;have e6:(upd H5 p (.tup [.ref T.a_HOLE,.int 0])) p=some (.tup [.ref T.a_HOLE,.int 0]):=ab;generalize (upd H5 p (.tup [.ref T.a_HOLE,.int 0]))=H6 at s6 e6 ⊢;have Pw:=(s5.trans s6) _ _ Bn;refine ⟨tl,_,_,rfl,rfl,Pw,aF (by rw [UL];omega),?_⟩;have k7:KT H6 (upd H6 tl (.lst (ts.map V.ref++[.ref p]))):=aU Pw;have Px:=(k1.trans (Same.kt (s5.trans s6))).trans k7;refine ⟨szP Us,by omega,ts++[p],yj,Ts++[hole],Us,_,_,_,rfl,ax (Ek.trans (s5.trans s6)) FE,by rw [ab,U5];rfl,by rw [ai yn];exact (s5.trans s6) _ _ Fh,?_,PsAtK.mono Px a3,?_,fun p' zt=>hb p' (VU _ zt),?_,rfl⟩
     · rw [U5];exact P2.append (dI Px a1) (.cons ⟨T.a_HOLE,k7 _ _ e6,vW,(TK.const T.q_HOLE)⟩ .nil)
     · rw [<- hw,Wn,VN];show Ts++([hole]++ij D Us.reverse)=Ts++ij D ((pre,x)::Us.reverse);unfold ij;rw [List.flatMap_cons,FF];rfl
     · rw [U8];show Ts.length+1+szP Us<=200;omega
   · obtain ⟨s5,yo⟩:=yo;obtain ⟨hh,IF⟩:=Bool.or_eq_false_iff.mp yo.symm;cases x with
     | call u v=>rw [Th.noCall] at IE;exact IE.elim
     | knot n ks =>
     have FF:(Th.knot n ks).cut D pre=.knot n (cz D pre 0 ks):=by
      rw [Th.cut,if_neg];rintro (h | h)
      · rw [hh] at h;cases h
      · rw [IF] at h;cases h
     have Gg:=k1.trans (Same.kt s5);have IG:=AK.mono Gg;rw [AtK] at IG;refine hid fun ZZ kZ=>?_;obtain ⟨IH,yp,MT,yO⟩:=IG;refine kZ ?_;have yX:yp.length=ks.length:=yO.length;rw [Th.size] at hlen;have Gh:=bU ks;rw [Th.noCall] at IE;rw [Th.tall] at J8;refine ⟨_,rfl,.inl ⟨rfl,_,SqL.of (s5 _ _ Bn)⟩,_,rfl,_,rfl,ta,_,rfl,MT,fun p2 H6 s6 e6=>?_⟩
     have Sa:TK K H6 p2 [.str n]:=by
      have e7:TK K H6 p2 (dw (V.str n::yp.map V.ref) none (some 1)):=e6;rw [qA] at e7;exact e7
     refine ⟨_,rfl,ta,_,rfl,.inr ((MT.mono (Same.kt s6)).sq),_,_,rfl,rfl,ak (by show 2<=1000000;decide),fun tp Fl=>?_⟩
     have CM:((V.str n::yp.map V.ref).length:Int) - 1=((ks.length:Nat):Int):=by
      rw [U1,UL];omega
     dsimp only [dL,qr];rw [CM];have s7:L2.Same H6 (upd H6 tp (.tup [.ref p2,.int (ks.length:Nat)])):=ad Fl _;have e7:(upd H6 tp (.tup [.ref p2,.int (ks.length:Nat)])) tp=some (.tup [.ref p2,.int (ks.length:Nat)]):=ab;generalize (upd H6 tp (.tup [.ref p2,.int (ks.length:Nat)]))=H7 at s7 e7 ⊢;have Gp:=s5.trans (s6.trans s7);have HG:=Gp _ _ Bn;refine ⟨tl,_,_,rfl,rfl,HG,aF (by rw [UL];omega),?_⟩;have k8:KT H7 (upd H7 tl (.lst (ts.map V.ref++[.ref tp]))):=aU HG;have MU:L2.Same H (upd H7 tl (.lst (ts.map V.ref++[.ref tp]))):=ax (Ek.trans Gp) FE;have Py:(upd H7 tl (.lst (ts.map V.ref++[.ref tp]))) tl=some (.lst ((ts++[tp]).map V.ref)):=by rw [ab,U5];rfl
     have HH:(upd H7 tl (.lst (ts.map V.ref++[.ref tp]))) ah=some (.lst (yj.map V.ref)):=by rw [ai yn];exact Gp _ _ Fh
     generalize (upd H7 tl (.lst (ts.map V.ref++[.ref tp])))=H8 at k8 MU Py HH ⊢;have MV:=(Same.kt (s6.trans s7)).trans k8;have El:=Gg.trans MV
     have MW:Vs (TopAtK K H8) ((Ts++[Th.knot n (cz D pre 0 ks)]).map (dO Th.call)) (ts++[tp]):=by
      rw [U5];refine P2.append (dI El a1) (.cons ⟨p2,?_,IH,Sa.mono ((Same.kt s7).trans k8)⟩ .nil);show H8 tp=some (.tup [.ref p2,.int ((cz D pre 0 ks).length:Nat)]);rw [cO];exact k8 _ _ e7
     try dsimp only [aG]
     -- kids
     refine ⟨_,rfl,1,rfl,ta,_,rfl,(MT.mono MV).sq,?_,fun p3 MX=>?_⟩
     · rintro ⟨z,_⟩;rw [U1,show (1:Int)=((1:Nat):Int) by rfl,HT.sIx_nat] at z;omega
     dsimp only;rw [eL];have s9:L2.Same H8 (upd H8 p3 (.tup (yp.map V.ref))):=ad MX _;have e9:(upd H8 p3 (.tup (yp.map V.ref))) p3=some (.tup (yp.map V.ref)):=ab;generalize (upd H8 p3 (.tup (yp.map V.ref)))=H9 at s9 e9 ⊢;have MY:=s9 _ _ (El _ _ zF);have MZ:=yO.mono (MV.trans (Same.kt s9));refine ⟨p3,rfl,⟨_,SqT.of e9⟩,?_⟩;intro Dl EB;refine ⟨yp.length,fun j yH=>An3 (j<=yp.length) (L2.Same H9 yH) (Ex1 fun (bs:List UQ)=>An2 (yH Dl=some (.lst (bs.map V.ref))) (PsAtK K yH ((cQ pre 0 ks).take j) bs)),⟨Vn _,ad EB _,[],ab,.nil⟩,?_⟩;rintro j yH ⟨hj,yG,bs,eD,yw⟩;by_cases By:j=yp.length
     · left;refine ⟨⟨_,SqT.of (yG _ _ e9),by rw [UL];exact By.symm⟩,?_⟩;have xY:(cQ pre 0 ks).take j=cQ pre 0 ks:=by rw [By,yX,<- gf pre 0 ks,WY]
       rw [xY] at yw;have FG:=yG _ _ (s9 _ _ HH);have II:=yG _ _ (s9 _ _ Py)
       have zT:bs.length=ks.length:=by
        have:=U2 yw;rw [gf] at this;exact this.symm
       try dsimp only [aG]
       refine ⟨_,rfl,.inl ⟨rfl,_,SqL.of FG⟩,_,rfl,true,Dl,_,rfl,SqB.l (SqL.of eD),fun l hl=>?_⟩;have AI:ah≠l:=aJ FG hl;have Bc:tl≠l:=aJ II hl;have IJ:(upd yH l (.lst (bs.map V.ref).reverse)) ah=some (.lst (yj.map V.ref)):=by rw [ai AI];exact FG
       refine ⟨ah,l,_,_,rfl,rfl,IJ,ab,ak ?_,?_⟩
       · rw [UL,Wd,UL];omega
       have IK:KT yH (upd (upd yH l (.lst (bs.map V.ref).reverse)) ah (.lst (yj.map V.ref++(bs.map V.ref).reverse))):=(dz hl).trans (aU IJ);have IL:=(Same.kt (s9.trans yG)).trans IK;have M0:=El.trans IL;refine ⟨szP (Us++(cQ pre 0 ks).reverse),?_,ts++[tp],yj++bs.reverse,Ts++[.knot n (cz D pre 0 ks)],Us++(cQ pre 0 ks).reverse,_,_,_,rfl,?_,?_,?_,dI IL MW,P2.append (PsAtK.mono M0 a3) (P2.reverse (PsAtK.mono IK yw)),?_,?_,?_,rfl⟩
       · rw [cF,jV,i4,HF,Th.size];omega
       · exact ax (ax ((MU.trans s9).trans yG) ((MU.trans s9).trans yG |>.free hl)) zU
       · rw [ai yn.symm,ai Bc];exact II
       · rw [ab,U5,Zr]
       · rw [<- hw,VN,Wn,Wn,WK,oI,mf];show Ts++([Th.knot n (cz D pre 0 ks)]++(walks (cz D pre 0 ks)++ij D Us.reverse))=Ts++ij D ((pre,Th.knot n ks)::Us.reverse);have:ij D ((pre,Th.knot n ks)::Us.reverse)=((Th.knot n ks).cut D pre).walk++ij D Us.reverse:=by unfold ij;rw [List.flatMap_cons]
         rw [this,FF,Th.walk];rfl
       · intro p hp;rcases VH.mp hp with hp | hp
         · exact hb p (VU _ hp)
         · obtain ⟨g1,g2⟩:=kI pre 0 ks p (List.mem_reverse.mp hp);have:=cg g2;exact ⟨by omega,bZ IE g2⟩
       · rw [U8,cF,jV,i4];show Ts.length+1+(szP Us+ao ks)<=200;omega
     · right;have yk:j<yp.length:=by omega
       refine ⟨yk,⟨_,.ref yp[j],SqT.of (yG _ _ e9),by rw [UZ,UN yk];rfl⟩,?_⟩;rintro y yQ ⟨p,v,hp,rfl,rfl,hv⟩;have yL:=hv _ (SqT.of (yG _ _ e9));obtain ⟨kd,rfl,C5⟩:=aT yL;obtain ⟨tk,zX,LP⟩:=MZ.get C5;have yI:L2.Same yH (upd yH p (.tup [.int (j:Nat),.ref kd])):=ad hp _;refine ⟨p,_,rfl,SqT.of ab,rfl,_,_,rfl,_,_,rfl,rfl,?_⟩;generalize (upd yH p (.tup [.int (j:Nat),.ref kd]))=yQ at yI ⊢;refine ⟨_,rfl,_,rfl,ak (by show 1<=1000000;decide),fun n1 J'=>?_⟩;have yF:L2.Same yQ (upd yQ n1 (.tup [.int (j:Nat)])):=ad J' _;have BG:(upd yQ n1 (.tup [.int (j:Nat)])) n1=some (.tup [.int (j:Nat)]):=ab;generalize (upd yQ n1 (.tup [.int (j:Nat)]))=BH at yF BG ⊢;refine kB (yF _ _ (yI _ _ (yG _ _ MY))) BG (by rw [UL];show pre.length+1<=1000000;omega) fun n2 C7 CL Kq=>?_;refine ⟨_,rfl,ak (by show 2<=1000000;decide),fun n3 Em=>?_⟩;have BN:L2.Same yH (upd C7 n3 (.tup [.ref n2,.ref kd])):=(yI.trans (yF.trans CL)).trans (ad Em _);have IM:=BN _ _ eD;refine ⟨_,IM,aF ?_,yk,?_,bs++[n3],?_,?_⟩
       · have:=U2 yw;rw [VE] at this;rw [UL];omega
       · exact ax (yG.trans BN) EB
       · rw [ab,U5];rfl
       · have Kr:KT (upd C7 n3 (.tup [.ref n2,.ref kd])) (upd (upd C7 n3 (.tup [.ref n2,.ref kd])) Dl (.lst (bs.map V.ref++[.ref n3]))):=aU IM;rw [Wb,kN pre 0 ks j tk zX];refine P2.append (PsAtK.mono ((Same.kt BN).trans Kr) yw) (.cons ⟨n2,kd,Kr _ _ ab,Kr _ _ (ad Em _ _ _ ?_),?_⟩ .nil)
         · rw [Kq,U5,Ws];rfl
         · exact LP.mono ((Same.kt (yG.trans BN)).trans Kr)
 · have hz:as=[]:=by
    cases as with
    | nil=>rfl
    | cons y ys=>simp at c
   subst hz;have Dt:As=[]:=Wc.mp (U2 a2);subst Dt;have Du:Ts=(t.cut D []).walk:=by simpa [ij] using hw
   subst Du;obtain ⟨b1,b2⟩:=qG Th.call (t.cut D []);rw [qX] at b1;refine ⟨_,rfl,tl,ts,_,t.cut D [],rfl,em,a1,by rw [UL];omega,b2,?_,b1,fun r H4 s4 Sb=>k r H4 (sm.trans s4) Sb⟩;intro u hu;obtain ⟨y,hy,e⟩:=VM.mp hu;cases y with
   | knot n us=>cases e
   | call sn kn =>
     cases e;rw [Th.size];decide
def g8 (ins:List (Vm×Int)) (rows:List (List Th)):List az:=(Vp rows.length).flatMap fun s=>((mkF ins rows (s:Nat)).pl []).map fun x=>nk (s:Nat) x.1
theorem o6 {α β:Type} {f:α->List β} {B:Nat}:∀ {l:List α},(∀ x∈l,(f x).length<=B)->(l.flatMap f).length<=l.length * B
 | [],_=>Vn _
 | x::l,h=>by
   rw [List.flatMap_cons,U8,U1,Nat.succ_mul];have h1:=h x (Vk ..);have h2:=o6 (l:=l) fun y hy=>h y (Vf _ hy);omega
theorem tZ {ins outs:List (Vm×Int)} {rows:List (List Th)} (F:FrK ins outs rows):(g8 ins rows).length<=1000000:=by
 have h:=o6 (l:=Vp rows.length) (f:=fun s=>((mkF ins rows (s:Nat)).pl []).map fun x=>nk (s:Nat) x.1) (B:=200) fun s hs=>by
  rw [UL,Th.pl_len];have zS:=W5.mp hs;obtain ⟨row,p,_,_,e,z,_⟩:=F.mkd (l:=(s:Nat)) (by omega) (by omega);rw [e];exact z
 rw [Vx] at h;have:=F.le;show ((Vp rows.length).flatMap _).length<=_;omega
theorem pq {ins:List (Vm×Int)} {rows:List (List Th)} {s:Nat} (hs:s<rows.length) {x:List Int×Th} (hx:x∈(mkF ins rows (s:Nat)).pl []):nk (s:Nat) x.1∈g8 ins rows:=List.mem_flatMap.mpr ⟨s,W5.mpr hs,VM.mpr ⟨x,hx,rfl⟩⟩
theorem uN {ins:List (Vm×Int)} {rows:List (List Th)} {s:Nat} (hs:s<rows.length) {x:List Int×Th} (hx:x∈(frS ins rows s).pl []):nk (s:Nat) x.1∈g8 ins rows:=by
 obtain ⟨u,hu⟩:=tO _ _ _ x hx;exact pq (x:=(x.1,u)) hs hu
theorem ww {P:U6} {w:Vj} {Vl:VlT} {H H':Hp} {pt:UQ} {f':List (az×V)} {Al:List az} (h:Pt P w Vl H pt f' Al) (k:KT H H') (e:∀ o,H pt=some o->H' pt=some o):Pt P w Vl H' pt f' Al:=⟨qL h.dm k e,h.nd,h.al,fun j p hp=>(h.vl j p hp).mono k⟩
theorem oR {p:UQ} {H0 H H':Hp} (hb:But p H H') (s:L2.Same H0 H) (h0:H0 p=none):L2.Same H0 H':=fun c o e=>hb c o (fun z=>by rw [z,h0] at e;cases e) (s c o e)
theorem jt {ins outs:List (Vm×Int)} {rows:List (List Th)} (F:FrK ins outs rows) {s:Nat} (hs:s<rows.length):(frS ins rows s).size<=200/\(frS ins rows s).tall<=100/\(frS ins rows s).noCall:=by
 refine hid fun ZZ kZ=>?_;obtain ⟨row,p,hr,hp,e,z1,z2,hf⟩:=F.mkd (l:=(s:Nat)) (by omega) (by omega);refine kZ ?_;have h:=iD (mkF ins rows) (mkF ins rows (s:Nat)) ((rows[s]?).getD []);have hn:(mkF ins rows (s:Nat)).noCall:=by rw [e];exact f9 _ _ (UR _) hf
 unfold frS;rw [e] at h hn;rw [e];exact ⟨by omega,by omega,io hn _⟩
theorem pM {outs:List (Vm×Int)} (go:bV outs) {S C:Int} {t v:Th} {pl:List Int} (h:t.FitS outs S C) (hi:In t pl v):v.isHole=false:=by
 have:=hi.fit h;cases v with
 | call a b=>rw [Th.isHole]
 | knot m ks =>
   rw [Th.FitS] at this;rw [Th.isHole,decide_eq_false_iff_not];rintro ⟨rfl,_⟩;exact oN (go.low _ this.1).1 rfl
theorem rC {ins outs:List (Vm×Int)} {rows:List (List Th)} (F:FrK ins outs rows) (go:bV outs) {s:Nat} (hs:s<rows.length):∀ x∈(mkF ins rows (s:Nat)).pl [],x.2.isHole=false:=fun x hx=>by
 refine hid fun ZZ kZ=>?_;obtain ⟨_,p,_,_,e,_,_,f⟩:=F.mkd (l:=(s:Nat)) (by omega) (by omega);refine kZ ?_;rw [e] at hx;exact pM go f (In.of _ (UR _) (pl:=x.1) (v:=x.2) hx)
inductive eT (P:U6) (w:Vj) (K:UO) (vs:List V) (H:Hp) (Q:VK) (_E:XK):Prop
 | mk (b:UQ) (ins outs:List (Vm×Int)) (head:Th) (rows:List (List Th)) (yf:vs=[.ref b]) (yg:Bk H ins outs head rows b) (yl:FrK ins outs rows) (yx:bV outs) (yK:∀ (r fl pt:UQ) (fs:List UQ) (f':List (az×V)) (H':Hp),L2.Same H H'->H' r=some (.tup [.ref fl,.ref pt])->H' fl=some (.lst (fs.map V.ref))->Vs (fun s a=>AtK K H' ((frS ins rows s).cut (Dk f' (s:Nat)) []) a) (Vp rows.length) fs->Pt P w (Vl0 ins rows) H' pt f' (g8 ins rows)->FrD ins rows (f'.map (·.1))->KeyM ins rows f'->Q (.ref r) H'):eT P w K vs H Q _E
def jM (P:U6) (w:Vj) (K:UO):Sp:=eT P w K
set_option maxHeartbeats 4000000 in
theorem fF:bn P w K mg base CX0 7 T.g_found_fronts.f T.g_found_fronts.d ["book"] (jM P w K):=by
 refine T.g_found_fronts.F.ok bv (fun vs H Q E h=>?_) (fun yc A outer s0 H vs Q E hr h=>?_)
 · obtain ⟨b,ins,outs,head,rows,rfl,_⟩:=h;rfl
 obtain ⟨b,ins,outs,head,rows,rfl,hB,F,go,k⟩:=h
 refine ⟨_,(ae (av (i:=1) bv.nd rfl (Zh rfl) (pcF T.g_first_makings (ji T) hr (aa (pv 0) ac)))
  (ae (av (i:=2) bv.nd rfl (Zh rfl) nZ)
  (ae (di (i:=3) (N:=[UU "state",UU "book",UU "made",UU "partings"]) (js:=[none,some 0,some 1,some 2]) (g:=(aG 0)) (tt:=bH) (te:=(gN (gd P w K) [] E0 (bA (bp 1) (bA (bp 0) (bA (bp 2) (bA (bp 3) dL)))))) bv.nd rfl (U9 rfl) rfl (cx rfl (by decide +kernel) (by decide +kernel) rfl rfl rfl) (bq rfl T.n_range (aa (pcF T.g_states_of (no T) hr (aa (pv 0) ac)) ac)) (fun _ _ _ _ _ _=>(aj (i:=0) xB rfl (U9 rfl))) (aR rfl) (fun _ _ _ _ _ _=>bS) (fun _ _ _ _ _ _=>(pcF T.g_first_front (lf T) hr (aa (pv 1) (aa (pv 0) (aa (pv 2) (aa (pv 3) ac)))))))
  (ae (av (i:=4) bv.nd rfl (U9 rfl) nZ)
  (ae (bi Vq rfl (kL rfl T.n_enumerate (pv 3)) (bo rfl (au (aj (i:=5) bv.nd rfl (U9 rfl)) (au (aj (i:=6) bv.nd rfl (U9 rfl)) aX))) (ag (aL (pcF T.g_put_links (nv T) hr (aa (pv 0) (aa (pv 5) (aa (pv 6) (aa (pv 4) ac))))))))
  (ae (aL (pcF T.g_spread (sD T) hr (aa (pcF T.g_ins_of (eO T) hr (aa (pv 0) ac)) (aa (pv 4) (aa (pv 2) ac)))))
  (ag (aD (aI (aa (cD (N:=[UU "state",UU "front",UU "partings"]) (js:=[none,none,some 2]) (g:=(lT K 2 (cR (aG 0) (cR (aG 1) lQ)))) (tt:=bH) (te:=(gN (iZ P w K) [] E0 (bA (bp 1) (bA (bp 0) (bA (bp 2) dL))))) rfl (cx rfl (by decide +kernel) (by decide +kernel) rfl rfl rfl) (kL rfl T.n_enumerate (pv 3)) (fun _ _ _ _ _ _=>(bo rfl (au (aj (i:=0) w4 rfl (U9 rfl)) (au (aj (i:=1) w4 rfl (U9 rfl)) aX)))) (fN (bP aW (aR rfl) (bP aW (aR rfl) f8))) (fun _ _ _ _ _ _=>bS) (fun _ _ _ _ _ _=>(pcF T.g_cut_front (nR T) hr (aa (pv 1) (aa (pv 0) (aa (pv 2) ac)))))) (aa (pv 2) ac))))))))))),?_⟩
 try dsimp only [yz,xZ]
 have hle:=F.le;refine ⟨_,rfl,b,ins,outs,head,rows,rfl,hB,F.gi,by omega,fun row xV=>(F.fit.row row xV).1,fun md Ag H1 s1 Sd Gi Fw=>?_⟩;intro pt H2 IP s2 Pz;have M1:=hB.mono (Same.kt s1);refine hid fun ZZ kZ=>?_;obtain ⟨ia,oa,ha,ra,yb,yq,yM,CA⟩:=id M1;have DF:rows.length=yM.length:=U2 CA.rw;have Kg:=tZ F;obtain ⟨Km,BJ⟩:=cq Pz;refine kZ ?_;refine ⟨_,rfl,b,_,_,_,ra,_,rfl,s2 _ _ CA.bk,s2 _ _ CA.rl,_,rfl,by omega,by rw [UL];omega,fun D hD=>?_⟩;have IF:D≠pt:=fun z=>by rw [z,BJ] at hD;cases hD
 have Se:H1 D=none:=s2.free hD;refine ⟨rows.length,fun j H'=>An3 (j<=rows.length) (L2.Same H1 H') (Ex2 fun (as:List UQ) (f':List (az×V))=>An4 (H' D=some (.lst (as.map V.ref))) (Vs (fun s a=>AtK K H' (frS ins rows s) a) (Vp j) as) (Pt P w (Vl0 ins rows) H' pt f' (g8 ins rows)) (∀ (s i:Nat) (row:List Th),s<j->rows[s]?=some row->i<=row.length->∀ x∈(frF (mkF ins rows) (mkF ins rows (s:Nat)) (row.take i)).pl [],x.2.isHole=true->nk (s:Nat) x.1∈f'.map (·.1))),⟨Vn _,s2.trans (ad hD _),[],[],ab,.nil,⟨Pz.mono (ad hD _),Y4,fun p hp=>(Xj hp).elim,fun j p hp=>by simp at hp⟩,fun s i row hs=>by omega⟩,?_⟩;rintro j H' ⟨hj,sj,as,f',eD,has,Gq,IQ⟩;obtain ⟨Uh,DR⟩:=cq Gq.dm;by_cases By:j=rows.length
 · left;subst By;refine ⟨by show _<=_;rw [UL];omega,?_⟩;intro la H5 AI s5 Sf;have L0:LkI P w ins (g8 ins rows) (Lk0 ins rows) H' H5 la [] 0:=⟨s5,AI,Sf,Y4,Y4,fun g hg=>(Xj hg).elim,UR _⟩;have DG:(Vp rows.length).length=as.length:=U2 has;rw [Vx] at DG;refine ⟨_,rfl,D,rfl,⟨_,SqL.of (s5 _ _ eD)⟩,?_⟩
   refine mz (K:=K) (a:=D) (xs:=as.map V.ref) (fun i σ H6=>Ex3 fun (c5 c6:Option V) (G:LG)=>An3 (σ=[some (.ref b),some (.ref md),some (.ref pt),some (.ref D),some (.ref la),c5,c6]) (LkI P w ins (g8 ins rows) (Lk0 ins rows) H' H6 la G (i * 640000)) (∀ s<i,∀ row,rows[s]?=some row->LDone H6 G s row (frS ins rows s)))
    ⟨none,none,[],rfl,by rw [Nat.zero_mul];exact L0,fun s hs=>by omega⟩ (fun i σ H6 _ ⟨_,_,_,_,L,_⟩=>SqL.of (L.sm _ _ eD)) ?_ ?_
   · rintro i x pr σ H6 hx Ao ⟨c5,c6,G,rfl,L,Bp⟩;obtain ⟨fa,rfl,y6⟩:=aT hx;have zK:=(US.mp y6).1;have EC:i<rows.length:=by omega
     obtain ⟨s',zS,zH⟩:=P2.get' has y6;rw [We EC] at zS;cases zS;obtain ⟨row,xV⟩:∃ row,rows[i]?=some row:=⟨_,UN EC⟩;have s7:L2.Same H6 (upd H6 pr (.tup [.int ((i:Nat):Int),.ref fa])):=ad Ao _;have e7:(upd H6 pr (.tup [.int ((i:Nat):Int),.ref fa])) pr=some (.tup [.int ((i:Nat):Int),.ref fa]):=ab;generalize (upd H6 pr (.tup [.int ((i:Nat):Int),.ref fa]))=H7 at s7 e7 ⊢;refine ⟨pr,_,rfl,SqT.of e7,rfl,_,_,rfl,_,_,rfl,rfl,?_⟩;dsimp only [aG];have L7:=L.same s7;obtain ⟨z1,z2,z3⟩:=jt F EC;refine ⟨_,rfl,_,rfl,_,rfl,_,rfl,b,fa,la,i,ins,outs,head,rows,row,frS ins rows i,H',G,i * 640000,g8 ins rows,Lk0 ins rows,rfl,M1.mono (Same.kt (sj.trans L7.sm)),F,xV,zH.mono (Same.kt L7.sm),z1,z2,L7,by omega,fun x hx=>uN EC hx,fun i2 p kd c u x hp hk hc hu hx=>⟨i,row,i2,p,c.1,x.1,c.2.1,rfl,xV,hp,hk,In.iff.mp (cG.mp hc),rfl,rfl,u,x.2,hu,hx⟩,fun G' H8 k8 L8 M3 IS=>?_⟩;refine ⟨_,_,G',rfl,by rw [Nat.succ_mul];exact L8,fun s hs zz CN=>?_⟩;by_cases Sg:s=i
     · subst Sg;rw [xV] at CN;cases CN;exact IS
     · exact ((Bp s (by omega) zz CN).sub (LSub.kt (Same.kt s7) _)).sub M3
   · rintro σ H6 ⟨c5,c6,G,rfl,L,Bp⟩;rw [UL,<- DG] at Bp;have IT:=Gq.same L.sm;obtain ⟨RG,BD⟩:=cq IT.dm;have Gr:=sj.trans L.sm
     have zc:pt≠la:=fun z=>by
      rw [z] at DR;rw [L.la0] at DR;cases DR
     refine ⟨_,rfl,b,_,_,_,_,rfl,Gr _ _ CA.bk,_,rfl,_,rfl,ia,la,pt,yb,ins,G,f',g8 ins rows,Vl0 ins rows,Lk0 ins rows,rfl,Gr _ _ CA.inE,CA.inK.mono (Same.kt Gr),F.gi,L.r,IT,Kg,zc,vG F,fun yV H7 ED FH zg M4=>?_⟩;have PB:L2.Same H1 H7:=oR ED Gr IP;have AM:=(Same.kt L.sm).trans (ED.kt BD);have Ks:H7 D=some (.lst (as.map V.ref)):=ED _ _ IF (L.sm _ _ eD);refine ⟨_,rfl,D,rfl,⟨_,SqL.of Ks⟩,fun Dl EB=>?_⟩;have Sh:H1 Dl=none:=PB.free EB;refine ⟨rows.length,fun j H8=>An3 (j<=rows.length) (L2.Same H7 H8) (Ex1 fun (bs:List UQ)=>An2 (H8 Dl=some (.lst (bs.map V.ref))) (Vs (fun s a=>AtK K H8 ((frS ins rows s).cut (Dk yV (s:Nat)) []) a) (Vp j) bs)),⟨Vn _,ad EB _,[],ab,.nil⟩,?_⟩;rintro j H8 ⟨Ui,s8,bs,Kt,yw⟩;by_cases Si:j=rows.length
     · left;subst Si;refine ⟨⟨_,SqL.of (s8 _ _ Ks),by rw [UL];exact DG.symm⟩,?_⟩;refine ⟨_,rfl,ak (by show 2<=1000000;decide),fun r Sj=>?_⟩;have s9:L2.Same H8 (upd H8 r (.tup [.ref Dl,.ref pt])):=ad Sj _
       have PD:FrD ins rows (yV.map (·.1)):=⟨fun s i row hr hi x hx hh=>zg _ (IQ s i row (US.mp hr).1 hr hi x hx hh),fun s row xV p hp c hc u hu x hx hk=>by
        have hs:=(US.mp xV).1;exact M4 _ hk _ _ (LSub.kt (ED.kt BD) G _ _ _ (Bp s hs row xV p hp c hc u hu x hx))⟩
       refine k r Dl pt bs yV _ (s1.trans (PB.trans (s8.trans s9))) ab (s9 _ _ Kt) (P2.mp (fun _ _ h=>h.mono (Same.kt s9)) yw) (FH.same (s8.trans s9)) PD (uU F PD fun p hp=>by
        refine hid fun ZZ kZ=>?_;obtain ⟨j,hj⟩:=Vc.mp hp;obtain ⟨_,_,_,t1,t2,_,_,_,_,hv⟩:=FH.vl j p hj;refine kZ ?_;exact ⟨j,t1,t2,hv⟩)
     · right;have yk:j<rows.length:=by omega
       obtain ⟨fa,y6⟩:∃ fa,as[j]?=some fa:=⟨_,UN (by omega)⟩;refine ⟨yk,⟨_,.ref fa,SqL.of (s8 _ _ Ks),by rw [UZ,y6];rfl⟩,?_⟩;rintro y H9 ⟨p,v,hp,rfl,rfl,hv⟩;have yL:=hv _ (SqL.of (s8 _ _ Ks));rw [UZ,y6] at yL;cases yL;obtain ⟨s',zS,zH⟩:=P2.get' has y6;rw [We yk] at zS;cases zS;have s9:L2.Same H8 (upd H8 p (.tup [.int (j:Nat),.ref fa])):=ad hp _;refine ⟨p,_,rfl,SqT.of ab,rfl,_,_,rfl,_,_,rfl,rfl,?_⟩;generalize (upd H8 p (.tup [.int (j:Nat),.ref fa]))=H9 at s9 ⊢;obtain ⟨z1,z2,z3⟩:=jt F yk;refine ⟨_,rfl,_,rfl,_,rfl,fa,pt,j,frS ins rows j,yV,g8 ins rows,Vl0 ins rows,rfl,zH.mono (AM.trans (Same.kt (s8.trans s9))),z1,z2,z3,FH.same (s8.trans s9),fun q yH yG hq=>?_⟩;have IU:=(s9.trans yG) _ _ Kt;have zT:(Vp j).length=bs.length:=U2 yw;rw [Vx] at zT;have IK:KT yH (upd yH Dl (.lst (bs.map V.ref++[.ref q]))):=aU IU;refine ⟨_,IU,aF (by rw [UL];omega),yk,ax (s8.trans (s9.trans yG)) EB,bs++[q],by rw [ab,U5];rfl,?_⟩;rw [ZD];exact P2.append (P2.mp (fun _ _ h=>h.mono ((Same.kt (s9.trans yG)).trans IK)) yw) (.cons (hq.mono IK) .nil)
 · right;have yk:j<rows.length:=by omega
   obtain ⟨row,xV⟩:∃ row,rows[j]?=some row:=⟨_,UN yk⟩;refine ⟨yk,by show _<_;rw [UL];omega,?_⟩;rintro y H9 ⟨rfl,rfl⟩;rw [Ws];refine ⟨_,rfl,_,rfl,_,rfl,_,rfl,b,md,pt,j,ins,outs,head,rows,row,Ag,f',g8 ins rows,Vl0 ins rows,rfl,M1.mono (Same.kt sj),F,xV,sj _ _ Gi,Fw.mono (Same.kt sj),Gq,Kg,fun x hx=>pq yk hx,rC F go yk,uh F go xV,fun r yV H4 M5 zH M7 zi IV=>?_⟩;have C8:=M5.kt DR;have HM:=M5 _ _ IF eD;have zM:(Vp j).length=as.length:=U2 has;rw [Vx] at zM;have k5:KT H4 (upd H4 D (.lst (as.map V.ref++[.ref r]))):=aU HM;rw [<- uc xV] at zH;refine ⟨_,HM,aF (by rw [UL];omega),yk,ax (oR M5 sj IP) Se,as++[r],yV,by rw [ab,U5];rfl,?_,ww M7 k5 (fun o e=>by rw [ai IF.symm];exact e),fun s i zz hs zP hi x hx hh=>?_⟩
   · rw [ZD];exact P2.append (P2.mp (fun _ _ h=>h.mono (C8.trans k5)) has) (.cons (zH.mono k5) .nil)
   · by_cases Sk:s=j
     · subst Sk;rw [xV] at zP;cases zP;exact IV i hi x hx hh
     · exact zi _ (IQ s i zz (by omega) zP hi x hx hh)
inductive fV (vs:List V) (H:Hp) (Q:VK) (_E:XK):Prop
 | mk (c k:Int) (yf:vs=[.int c,.int k]) (yg:∀ z:Int,Q (.int z) H):fV  vs H Q _E
def lI:Sp:=fV
theorem cX:bn P w K mg base CX0 1 T.g__law_mixed.f T.g__law_mixed.d ["cell","k"] lI:=by
 refine T.g__law_mixed.F.ok ef (fun vs H Q E h=>?_) (fun yc A outer s H vs Q E hr h=>?_)
 · obtain ⟨c,k,rfl,_⟩:=h;rfl
 obtain ⟨c,k,rfl,q⟩:=h
 refine ⟨_,(ae (av (i:=2) ef.nd rfl (U9 rfl) (aw bz (aw bF (aw bF (aw cJ (aw bz (pv 0) (aw qh af af)) af) (aw cJ af (pv 1))) af) af))
  (ae (av (i:=2) ef.nd rfl (U9 rfl) (aw bz (aw cJ (pv 2) (pv 2)) af))
  (ag (aD (aw bF (aw cJ (pv 2) af) (aw cJ af (pv 1))))))),?_⟩
 try dsimp only [yz,xZ]
 refine ⟨_,rfl,_,_,rfl,rfl,⟨by decide,by decide,by decide⟩,_,_,rfl,rfl,(by show (0:Int)<10 ^ 40;decide),_,_,rfl,rfl,.inr ⟨by decide,by decide⟩,_,rfl,_,_,rfl,rfl,.inl ⟨by decide,by decide⟩,_,_,rfl,rfl,_,_,rfl,rfl,_,_,rfl,rfl,(by show (0:Int)<2305843009213693951;decide),?_⟩
 try dsimp only [aG]
 generalize c%(10:Int) ^ (40:Int).toNat * 99999999977+7919 * k+1234567890123=z;have z0:=V6 z (show (2305843009213693951:Int)≠0 by decide);have z1:=V0 z (show (0:Int)<2305843009213693951 by decide);generalize z%2305843009213693951=y at z0 z1;refine ⟨_,rfl,_,rfl,_,_,rfl,rfl,.inl ⟨by omega,by omega⟩,_,_,rfl,rfl,(by show (0:Int)<2305843009213693951;decide),?_⟩;exact ⟨_,rfl,_,_,rfl,rfl,.inr ⟨by decide,by decide⟩,_,rfl,_,_,rfl,rfl,.inl ⟨by decide,by decide⟩,_,_,rfl,rfl,q _⟩
theorem rH (ns:List Int) (lo hi:Option Int):∃ cs:List Int,dw (ns.map V.int) lo hi=cs.map V.int/\cs.length<=ns.length:=by
 unfold dw;rw [<- Z1,<- List.map_take];exact ⟨_,rfl,by rw [VE,Wa];omega⟩
inductive fI (vs:List V) (H:Hp) (Q:VK) (_E:XK):Prop
 | mk (a:UQ) (cs:List Int) (many:Int) (yf:vs=[.ref a,.int many]) (yg:H a=some (.lst (cs.map V.int))) (yl:cs.length<=1000) (yx:1<=many) (yK:many<=1000) (zJ:∀ (r:UQ) (ds:List Int) (H':Hp),L2.Same H H'->H' r=some (.lst (ds.map V.int))->ds.length=many.toNat->Q (.ref r) H'):fI  vs H Q _E
def kh:Sp:=fI
set_option maxHeartbeats 1000000 in
theorem lg:bn P w K mg base CX0 1 T.g__law_folded.f T.g__law_folded.d ["cells","many"] kh:=by
 refine T.g__law_folded.F.ok dC (fun vs H Q E h=>?_) (fun yc A outer s H vs Q E hr h=>?_)
 · obtain ⟨a,cs,many,rfl,_⟩:=h;rfl
 obtain ⟨a,cs,many,rfl,ea,zY,m1,m2,q⟩:=h
 refine ⟨_,(ae (di (i:=2) (N:=[UU "k",UU "cells"]) (js:=[none,some 0]) (g:=(aG 0)) (tt:=bH) (te:=(tIf (k9 (tOp (rI0 fun i j=>.bl (decide (i<j))) (bp 0) (tCB (px K) (bA (bp 1) dL)))) (tOp (ut K) (bp 1) (bp 0)) (tC (.int 0)))) dC.nd rfl (U9 rfl) rfl (cx rfl (by decide +kernel) (by decide +kernel) rfl rfl rfl) (bq rfl T.n_range (aa (pv 1) ac)) (fun _ _ _ _ _ _=>(aj (i:=0) xS rfl (U9 rfl))) (aR rfl) (fun _ _ _ _ _ _=>bS) (fun _ _ _ _ _ _=>(tG (aP mx (pv 0) (aB aq rfl T.n_len Vu (aa (pv 1) ac)) (aS _)) (ay aO (pv 1) (pv 0) (fun _ _=>rfl)) af)))
  (ae (bi Vq rfl (jd rfl T.n_range (aa (pv 1) (aa (aB aq rfl T.n_len Vu (aa (pv 0) ac)) ac))) (aj (i:=3) dC.nd rfl (U9 rfl)) (ag (cE (aw bF (aw bz (aw cJ (ay aO (pv 2) (aw bz (pv 3) (pv 1)) (fun _ _=>rfl)) af) (aw qh af af)) (aw bz (ay aO (pv 0) (pv 3) (fun _ _=>rfl)) (aw qh af af))) (fR (pv 2) (aw bz (pv 3) (pv 1)) set_list))))
  (ag (aD (pv 2))))),?_⟩
 try dsimp only [yz,xZ]
 refine ⟨_,rfl,many,rfl,by omega,by omega,m7 (xs:=(Vp many.toNat).map fun (i:Nat)=>V.int (0+(i:Int))) ((Vp many.toNat).map fun (i:Nat)=>cs.getD i 0) V.int (by rw [UL,UL]) (by rw [UL,Vx];omega) (fun i Hx sx hi=>by rw [UL,Vx] at hi;exact hi) (fun Hx sx=>by rw [UL,Vx];exact UR _) (fun i Hx x Hy sx hi hy=>⟨hy.1,?_⟩) (fun i x z Hx R W' hx hz sx hR=>?_) (fun kl H2 yX s2 e2=>?_)⟩
 · rw [UL,Vx] at hi;rw [hy.2,UZ,We hi];rfl
 · have hi:i<many.toNat:=by
    have:=(US.mp hz).1;rw [UL,Vx] at this;exact this
   rw [UZ,We hi] at hx hz;cases hx;cases hz;refine ⟨_,rfl,_,rfl,a,_,rfl,.inl (SqL.of (sx _ _ ea)),_,_,rfl,rfl,_,rfl,?_⟩;refine cP (fun c=>?_) (fun c=>?_)
   · have c':(0+(i:Int))<(((cs.map V.int).length:Nat):Int):=of_decide_eq_true c;rw [UL] at c';refine ⟨_,rfl,_,rfl,a,_,_,.int (cs.getD i 0),rfl,rfl,SqL.of (sx _ _ ea),at_nonneg (by omega) ?_,hR _ (.refl _)⟩;rw [show (0+(i:Int)).toNat=i by omega,UZ,List.getD,UN (by omega)];rfl
   · have c':¬ (0+(i:Int))<(((cs.map V.int).length:Nat):Int):=fun z=>c (decide_eq_true z);rw [UL] at c';have:cs.getD i 0=0:=by rw [List.getD,Wk (by omega)];rfl
     dsimp only at hR;rw [this] at hR;exact hR _ (.refl _)
 have Sl:H kl=none:=yX;refine ⟨_,rfl,_,rfl,a,_,rfl,.inl (SqL.of (s2 _ _ ea)),many,_,rfl,⟨by omega,by omega,by omega,by rw [UL];omega⟩,?_⟩
 refine bB (n:=((((cs.map V.int).length:Nat):Int) - many).toNat) (fun i σ H3=>Ex2 fun (kv:Option V) (ds:List Int)=>An4 (σ=[some (.ref a),some (.int many),some (.ref kl),kv]) (L2.Same H H3) (H3 kl=some (.lst (ds.map V.int))) (ds.length=many.toNat))
  ⟨none,_,rfl,s2,e2,by rw [UL,Vx]⟩ ?_ ?_
 · rintro i σ H3 hi ⟨kv,ds,rfl,s3,e3,B1⟩
   have yR:(i:Int)<((cs.length:Nat):Int) - many:=by
    have h1:i<((((cs.map V.int).length:Nat):Int) - many).toNat:=hi;rw [UL] at h1;omega
   have y0:=V6 (many+(i:Int)) (show many≠0 by omega);have y1:=V0 (many+(i:Int)) (show 0<many by omega);refine hid fun ZZ kZ=>?_;obtain ⟨ix,Dc⟩:∃ ix:Nat,(many+(i:Int))%many=(ix:Int):=⟨_,(WO y0).symm⟩;obtain ⟨c,hc⟩:∃ c,ds[ix]?=some c:=⟨_,UN (by omega)⟩;obtain ⟨x,hx⟩:∃ x,cs[(many+(i:Int)).toNat]?=some x:=⟨_,UN (by omega)⟩;refine kZ ?_;refine ⟨_,rfl,_,rfl,_,rfl,_,_,rfl,rfl,(by show 0<many;omega),kl,_,_,.int c,rfl,rfl,SqL.of e3,at_nonneg y0 (by rw [Dc,VT,UZ,hc];rfl),_,_,rfl,rfl,.inr ⟨by decide,by decide⟩,?_⟩;refine ⟨_,_,rfl,rfl,⟨by decide,by decide,by decide⟩,_,_,rfl,rfl,(by show (0:Int)<10 ^ 40;decide),?_⟩;refine ⟨_,rfl,_,rfl,a,_,_,.int x,rfl,rfl,SqL.of (s3 _ _ ea),at_nonneg (by omega) (by rw [UZ,hx];rfl),_,_,rfl,rfl,⟨by decide,by decide,by decide⟩,_,_,rfl,rfl,(by show (0:Int)<10 ^ 40;decide),_,_,rfl,rfl,?_⟩;refine ⟨_,rfl,_,rfl,_,rfl,_,_,rfl,rfl,(by show 0<many;omega),kl,_,_,ix,rfl,rfl,e3,?_,?_⟩
   · rw [Dc];unfold ixN;rw [if_pos (by omega),if_pos (by rw [UL];omega)];simp
   · refine ⟨_,ds.set ix (c * 31%10 ^ 40+x%10 ^ 40),rfl,ax s3 Sl,?_,by rw [ZE];exact B1⟩;rw [ab,List.map_set];rfl
 · rintro σ H3 ⟨kv,ds,rfl,s3,e3,B1⟩;exact ⟨_,rfl,q kl ds H3 s3 e3 B1⟩
def lF:Sp:=fun vs H Q _=>∃ c:Int,vs=[.int c]/\∀ (r:UQ) (ws:List Vm) (H':Hp),L2.Same H H'->H' r=some (.lst (ws.map V.str))->qx ws->Q (.ref r) H'
set_option maxHeartbeats 1000000 in
theorem gO:bn P w K mg base CX0 1 T.g__law_names.f T.g__law_names.d ["cell"] lF:=by
 refine T.g__law_names.F.ok bc (fun vs H Q E h=>?_) (fun yc A outer s H vs Q E hr h=>?_)
 · obtain ⟨c,rfl,_⟩:=h;rfl
 obtain ⟨c,rfl,q⟩:=h
 refine ⟨_,(ae (av (i:=1) bc.nd rfl (U9 rfl) fM)
  (ae (av (i:=2) bc.nd rfl (U9 rfl) (aw bF af (aw bz (aw bR (pv 0) af) af)))
  (ae (av (i:=3) bc.nd rfl (U9 rfl) (aw bR (pv 0) af))
  (ae (av (i:=4) bc.nd rfl (U9 rfl) fM)
  (ae (bi Vq rfl (bq rfl T.n_range (aa af ac)) (aj (i:=5) bc.nd rfl (U9 rfl)) (ag (av (i:=4) bc.nd rfl (U9 rfl) (aw iB (pv 4) (ay uf (pv 1) (aw bz (aw bR (pv 3) (aw bF (pv 5) af)) af) (fun _ _=>rfl))))))
  (ae (av (i:=6) bc.nd rfl (U9 rfl) (bu ac))
  (ae (bi Vq rfl (bq rfl T.n_range (aa af ac)) (aj (i:=5) bc.nd rfl (U9 rfl)) (ae (av (i:=7) bc.nd rfl (U9 rfl) (ay uf (pv 1) (aw bz (aw bF (pv 3) (aw cJ (aw cJ af (pv 2)) (pv 5))) af) (fun _ _=>rfl)))
  (ag (bY (aP cZ (aw bz (pv 0) af) af (aS _)) (ag (aL (bE U3 Vh Vg aN (pv 6) (aa (pv 7) ac)))) (ag (bY (aP cZ (aw bz (pv 0) af) af (aS _)) (ag (aL (bE U3 Vh Vg aN (pv 6) (aa (aw iB (pv 7) (bx pW (pv 4) (bD af) (bD af))) ac)))) (ag (bY (aP cZ (aw bz (pv 0) af) af (aS _)) (ag (aL (bE U3 Vh Vg aN (pv 6) (aa (aw iB (bx pW (pv 4) b8 (bD af)) (pv 7)) ac)))) (ag (aL (bE U3 Vh Vg aN (pv 6) (aa (bx pW (pv 4) b8 (bD (aw bF (aw cJ af (pv 5)) af))) ac))))))))))))
  (ag (aD (pv 6)))))))))),?_⟩
 try dsimp only [yz,xZ]
 have z0:=V6 (c / 4) (show (4:Int)≠0 by decide);have z1:=V0 (c / 4) (show (0:Int)<4 by decide);refine ⟨_,rfl,_,_,rfl,rfl,⟨by decide,by decide⟩,_,_,rfl,rfl,(by show (0:Int)<4;decide),_,_,rfl,rfl,?_⟩;refine ⟨_,rfl,_,_,rfl,rfl,⟨by decide,by decide⟩,?_⟩
 try dsimp only [aG]
 have F':1<=1+c / 4%4:=by omega
 have PF:1+c / 4%4<=4:=by omega
 generalize 1+c / 4%4=st at F' PF ⊢;generalize c / 16=a;refine ⟨8,rfl,by decide,by decide,?_⟩
 refine bB (n:=8) (fun i σ H2=>Ex2 fun (word:Vm) (kv:Option V)=>An4 (σ=[some (.int c),some (.str dj),some (.int st),some (.int a),some (.str word),kv,none,none]) (H2=H) (Low word) (word.length=i))
  ⟨UU "",none,rfl,rfl,(fun x hx=>by have:x∈([]:List Nat):=hx;cases this),rfl⟩ ?_ ?_
 · rintro i σ H2 hi ⟨word,kv,rfl,rfl,Bi,hlen⟩;have Fp:i<8:=hi;have y0:=V6 (a / (0+(i:Int)+1)) (show (26:Int)≠0 by decide);have y1:=V0 (a / (0+(i:Int)+1)) (show (0:Int)<26 by decide);refine ⟨_,rfl,_,rfl,_,rfl,_,rfl,_,_,rfl,rfl,_,_,rfl,rfl,⟨by show (0:Int)<0+(i:Int)+1;omega,by show 0+(i:Int)+1<1073741824;omega⟩,_,_,rfl,rfl,(by show (0:Int)<26;decide),dj,_,_,rfl,rfl,ak (by rw [jB];decide),l3 y0 y1,?_⟩;refine ⟨_,_,rfl,rfl,ak (by show word.length+1<=1000000;omega),_,_,rfl,rfl,mJ Bi (jX (by omega) (by omega)),?_⟩;rw [strLen_append];show word.length+1=i+1;omega
 rintro σ H2 ⟨word,kv,rfl,rfl,Bi,hlen⟩;have CO:word.length=8:=hlen;refine ⟨ak (by show 0<=1000000;decide),fun nl Gk=>?_⟩;refine ⟨4,rfl,by decide,by decide,?_⟩
 refine bB (n:=4) (fun i σ H3=>Ex3 fun (kv tv:Option V) (ws:List Vm)=>An5 (σ=[some (.int c),some (.str dj),some (.int st),some (.int a),some (.str word),kv,some (.ref nl),tv]) (L2.Same H2 H3) (H3 nl=some (.lst (ws.map V.str))) (ws.length=i) (∀ (j:Nat) (x:Vm),ws[j]?=some x->x=jn (c%4) a st word j))
  ⟨kv,none,[],rfl,ad Gk _,ab,rfl,fun j x hj=>by simp at hj⟩ ?_ ?_
 · rintro i σ H3 hi ⟨kv,tv,ws,rfl,s3,e3,Cc,yE⟩;have PH:i<4:=hi;have y0:=V6 (a+5 * st * (0+(i:Int))) (show (26:Int)≠0 by decide);have y1:=V0 (a+5 * st * (0+(i:Int))) (show (0:Int)<26 by decide);refine ⟨_,rfl,_,rfl,_,rfl,_,_,rfl,rfl,.inl ⟨by decide,by decide⟩,_,rfl,_,_,rfl,rfl,.inl ⟨by omega,by omega⟩,_,_,rfl,rfl,_,_,rfl,rfl,(by show (0:Int)<26;decide),dj,_,_,rfl,rfl,ak (by rw [jB];decide),l3 y0 y1,?_⟩;have Gs:97+((a+5 * st * (0+(i:Int)))%26).toNat=gF a st i:=by unfold gF;rw [Ws]
   try dsimp only
   rw [Gs]
   have fin:∀ x,x=jn (c%4) a st word i->∀ xT,xT=[some (.int c),some (.str dj),some (.int st),some (.int a),some (.str word),some (.int (0+(i:Int))),some (.ref nl),some (.str ⟨#[gF a st i]⟩)]->Ex3 fun (kv tv:Option V) (M8:List Vm)=>An5 (xT=[some (.int c),some (.str dj),some (.int st),some (.int a),some (.str word),kv,some (.ref nl),tv]) (L2.Same H2 (upd H3 nl (.lst (ws.map V.str++[.str x])))) ((upd H3 nl (.lst (ws.map V.str++[.str x]))) nl=some (.lst (M8.map V.str))) (M8.length=i+1) (∀ (j:Nat) (x:Vm),M8[j]?=some x->x=jn (c%4) a st word j):=fun x hx xT M9=>by
    refine ⟨_,_,ws++[x],M9,ax s3 Gk,by rw [ab,U5];rfl,by rw [U8,Cc];rfl,fun j y hj=>?_⟩;by_cases ID:j<ws.length
    · rw [WS ID] at hj;exact yE j y hj
    · have AZ:=(US.mp hj).1;rw [U8] at AZ
      have:j=ws.length:=by
       have:([x]:List Vm).length=1:=rfl;omega
      subst this;rw [Xp (UR _),Nat.sub_self] at hj;have:x=y:=by simpa using hj
      rw [<- this,hx,Cc]
   have Sm:ws.length<=4:=by omega
   refine ⟨_,rfl,_,_,rfl,rfl,(by show (0:Int)<4;decide),rfl,_,rfl,?_⟩;refine cP (fun c0=>?_) (fun c0=>?_)
   · have h0:c%4=0:=V.int.inj (of_decide_eq_true c0);exact ⟨_,rfl,.inl ⟨rfl,_,SqL.of e3⟩,_,rfl,nl,_,_,rfl,rfl,e3,aF (by rw [UL];omega),fin _ (by unfold jn;rw [if_pos h0]) _ rfl⟩
   have n0:¬ c%4=0:=fun z=>c0 (decide_eq_true (congrArg V.int z));refine ⟨_,rfl,_,_,rfl,rfl,(by show (0:Int)<4;decide),rfl,_,rfl,?_⟩;refine cP (fun c1=>?_) (fun c1=>?_)
   · have h1:c%4=1:=V.int.inj (of_decide_eq_true c1);refine ⟨_,rfl,.inl ⟨rfl,_,SqL.of e3⟩,_,rfl,_,rfl,_,rfl,_,rfl,_,rfl,ak (by omega),_,_,rfl,rfl,ak (by rw [oP CO];show 1+3<=1000000;decide),nl,_,_,rfl,rfl,e3,aF (by rw [UL];omega),fin _ (by unfold jn;rw [if_neg n0,if_pos h1]) _ rfl⟩
   have n1:¬ c%4=1:=fun z=>c1 (decide_eq_true (congrArg V.int z));refine ⟨_,rfl,_,_,rfl,rfl,(by show (0:Int)<4;decide),rfl,_,rfl,?_⟩;refine cP (fun c2=>?_) (fun c2=>?_)
   · have h2:c%4=2:=V.int.inj (of_decide_eq_true c2);have Uj:=(eB (z:=word) (n:=5) (by omega)).2;refine ⟨_,rfl,.inl ⟨rfl,_,SqL.of e3⟩,_,rfl,_,rfl,_,rfl,ak (by omega),_,rfl,_,_,rfl,rfl,ak (by show (dJ word none (some ((5:Nat):Int))).length+1<=1000000;omega),nl,_,_,rfl,rfl,e3,aF (by rw [UL];omega),fin _ (by unfold jn;rw [if_neg n0,if_neg n1,if_pos h2]) _ rfl⟩
   have n2:¬ c%4=2:=fun z=>c2 (decide_eq_true (congrArg V.int z));refine ⟨_,rfl,.inl ⟨rfl,_,SqL.of e3⟩,_,rfl,_,rfl,_,_,rfl,rfl,.inl ⟨by decide,by decide⟩,_,_,rfl,rfl,_,rfl,_,rfl,ak (by omega),nl,_,_,rfl,rfl,e3,aF (by rw [UL];omega),fin _ (by unfold jn;rw [if_neg n0,if_neg n1,if_neg n2,Ws]) _ rfl⟩
 · rintro σ H3 ⟨kv,tv,ws,rfl,s3,e3,Cc,yE⟩;refine ⟨_,rfl,q nl ws H3 s3 e3 ⟨Cc,fun x hx=>?_,fun i j x hi hj=>?_⟩⟩
   · obtain ⟨j,hj⟩:=Vc.mp hx;have AZ:=(US.mp hj).1;rw [yE j x hj];exact ub Bi CO (by omega)
   · have zK:=(US.mp hi).1;have AZ:=(US.mp hj).1;have h1:=yE i x hi;have h2:=yE j x hj;exact t9 F' PF CO (by omega) (by omega) (h1.symm.trans h2)
inductive fS (vs:List V) (H:Hp) (Q:VK) (_E:XK):Prop
 | mk (c:Int) (na:UQ) (ws:List Vm) (yf:vs=[.int c,.ref na]) (yg:H na=some (.lst (ws.map V.str))) (yl:qx ws) (yx:∀ (r:UQ) (as:List UQ) (ks:List (Vm×Int)) (H':Hp),L2.Same H H'->H' r=some (.tup (as.map V.ref))->KsAt H' ks as->bV ks->ks.length<=4->Q (.ref r) H'):fS  vs H Q _E
def lO:Sp:=fS
set_option maxHeartbeats 1000000 in
theorem gG:bn P w K mg base CX0 1 T.g__law_kinds.f T.g__law_kinds.d ["cell","names"] lO:=by
 refine T.g__law_kinds.F.ok bj (fun vs H Q E h=>?_) (fun yc A outer s H vs Q E hr h=>?_)
 · obtain ⟨c,na,ws,rfl,_⟩:=h;rfl
 obtain ⟨c,na,ws,rfl,M',yE,q⟩:=h
 refine ⟨_,(ae (av (i:=2) bj.nd rfl (U9 rfl) (aw bF af (aw bz (pv 0) af)))
  (ae (av (i:=3) bj.nd rfl (U9 rfl) (aw bz (aw bR (pv 0) af) (pv 2)))
  (ae (av (i:=4) bj.nd rfl (U9 rfl) (aw bR (pv 0) af))
  (ae (av (i:=5) bj.nd rfl (U9 rfl) (bu ac))
  (ae (bi Vq rfl (bq rfl T.n_range (aa (pv 2) ac)) (aj (i:=6) bj.nd rfl (U9 rfl)) (ae (av (i:=7) bj.nd rfl (U9 rfl) (aw bz (pv 4) af))
  (ae (av (i:=4) bj.nd rfl (U9 rfl) (aw bR (pv 4) af))
  (ae (bY (aP cZ (pv 6) (pv 3) (aS _)) (ag (av (i:=7) bj.nd rfl (U9 rfl) af)) bO)
  (ag (aL (bE U3 Vh Vg aN (pv 5) (aa (aI (aa (ay aO (pv 1) (pv 6) (fun _ _=>rfl)) (aa (pv 7) ac))) ac))))))))
  (ag (aD (cH cA rfl T.n_tuple W8 (aa (pv 5) ac))))))))),?_⟩
 try dsimp only [yz,xZ]
 have z0:=V6 c (show (3:Int)≠0 by decide);have z1:=V0 c (show (0:Int)<3 by decide);refine ⟨_,rfl,_,_,rfl,rfl,(by show (0:Int)<3;decide),_,_,rfl,rfl,?_⟩
 try dsimp only [aG]
 have m2:2<=2+c%3:=by omega
 have m4:2+c%3<=4:=by omega
 generalize 2+c%3=many at m2 m4 ⊢;have y0:=V6 (c / 3) (show many≠0 by omega);have y1:=V0 (c / 3) (show 0<many by omega);refine ⟨_,rfl,_,_,rfl,rfl,⟨by decide,by decide⟩,_,rfl,_,_,rfl,rfl,(by show 0<many;omega),?_⟩
 try dsimp only [aG]
 generalize c / 3%many=leaf at y0 y1 ⊢;refine ⟨_,rfl,_,_,rfl,rfl,⟨by decide,by decide⟩,?_⟩;refine ⟨ak (by show 0<=1000000;decide),fun kl yX=>?_⟩;refine ⟨_,rfl,many,rfl,by omega,by omega,?_⟩;have Cc:=yE.len
 refine bB (n:=many.toNat) (fun i σ H3=>Ex5 fun (rest:Int) (kv cv:Option V) (as:List UQ) (ks:List (Vm×Int))=>An6 (σ=[some (.int c),some (.ref na),some (.int many),some (.int leaf),some (.int rest),some (.ref kl),kv,cv]) (L2.Same H H3) (H3 kl=some (.lst (as.map V.ref))) (KsAt H3 ks as) (ks.length=i) (∀ (j:Nat) (k:Vm×Int),ks[j]?=some k->ws[j]?=some k.1/\0<=k.2/\k.2<=3/\((j:Int)=leaf->k.2=0)))
  ⟨c / 12,none,none,[],[],rfl,ad yX _,ab,.nil,rfl,fun j k hj=>by simp at hj⟩ ?_ ?_
 · rintro i σ H3 hi ⟨rest,kv,cv,as,ks,rfl,s3,e3,zO,Gu,hinv⟩;have PH:i<many.toNat:=hi;have x0:=V6 rest (show (4:Int)≠0 by decide);have x1:=V0 rest (show (0:Int)<4 by decide);refine ⟨_,rfl,_,_,rfl,rfl,(by show (0:Int)<4;decide),?_⟩
   try dsimp only [aG]
   refine ⟨_,rfl,_,_,rfl,rfl,⟨by decide,by decide⟩,?_⟩
   try dsimp only [aG]
   refine jb (fun xT H'=>An2 (H3=H') (Ex1 fun (ct:Int)=>An4 (0<=ct) (ct<=3) (((i:Int)=leaf->ct=0)) (xT=[some (.int c),some (.ref na),some (.int many),some (.int leaf),some (.int (rest / 4)),some (.ref kl),some (.int (0+(i:Int))),some (.int ct)]))) (fun kk hk=>?_) ?_
   · refine ⟨_,rfl,_,rfl,rfl,_,rfl,?_⟩;refine cP (fun c1=>?_) (fun c1=>?_)
     · exact hk _ _ ⟨rfl,0,by decide,by decide,fun _=>rfl,rfl⟩
     · exact hk _ _ ⟨rfl,_,x0,by omega,fun z=>absurd (decide_eq_true (by rw [<- z];congr 1;omega)) c1,rfl⟩
   rintro xT H' ⟨rfl,ct,Sn,So,Sq,rfl⟩;obtain ⟨x,hx⟩:∃ x,ws[i]?=some x:=⟨_,UN (by omega)⟩;have zM:ks.length=as.length:=U2 zO;refine ⟨_,rfl,.inl ⟨rfl,_,SqL.of e3⟩,_,rfl,_,rfl,na,_,_,.str x,rfl,rfl,SqL.of (s3 _ _ M'),at_nonneg (by omega) (by rw [show (0+(i:Int)).toNat=i by omega,UZ,hx];rfl),_,rfl,ak (by show 2<=1000000;decide),fun p hp=>?_⟩;have s4:L2.Same H3 (upd H3 p (.tup [.str x,.int ct])):=ad hp _;have e4:(upd H3 p (.tup [.str x,.int ct])) p=some (.tup [.str x,.int ct]):=ab;generalize (upd H3 p (.tup [.str x,.int ct]))=H4 at s4 e4 ⊢;have PJ:=s4 _ _ e3;refine ⟨kl,_,_,rfl,rfl,PJ,aF (by rw [UL];omega),?_⟩;have kt:KT H4 (upd H4 kl (.lst (as.map V.ref++[.ref p]))):=aU PJ;refine ⟨_,_,_,as++[p],ks++[(x,ct)],rfl,ax (s3.trans s4) yX,by rw [ab,U5];rfl,?_,by rw [U8,Gu];rfl,fun j k hj=>?_⟩
   · exact P2.append (P2.mp (fun _ _ e=>kt _ _ (s4 _ _ e)) zO) (.cons (kt _ _ e4) .nil)
   · by_cases ID:j<ks.length
     · rw [WS ID] at hj;exact hinv j k hj
     · have AZ:=(US.mp hj).1;rw [U8] at AZ
       have:j=ks.length:=by
        have:([(x,ct)]:List (Vm×Int)).length=1:=rfl;omega
       subst this;rw [Xp (UR _),Nat.sub_self] at hj;have:(x,ct)=k:=by simpa using hj
       rw [<- this,Gu];exact ⟨hx,Sn,So,Sq⟩
 · rintro σ H3 ⟨rest,kv,cv,as,ks,rfl,s3,e3,zO,Gu,hinv⟩;refine ⟨_,rfl,kl,_,rfl,.inl ⟨SqL.of e3,fun p hp=>?_⟩⟩;have s4:=ad hp (.tup (as.map V.ref));refine q p as ks _ (s3.trans s4) ab (zO.mono (Same.kt s4)) ⟨by omega,by omega,fun k hk=>?_,fun k hk=>?_,?_,fun i j k l hk hl e=>?_⟩ (by omega)
   · obtain ⟨j,hj⟩:=Vc.mp hk;exact yE.low _ (UP (hinv j k hj).1)
   · obtain ⟨j,hj⟩:=Vc.mp hk;exact ⟨(hinv j k hj).2.1,(hinv j k hj).2.2.1⟩
   · have hl:leaf.toNat<ks.length:=by omega
     exact ⟨ks[leaf.toNat],YK hl,(hinv leaf.toNat _ (UN hl)).2.2.2 (by omega)⟩
   · refine yE.inj i j k.1 (hinv i k hk).1 ?_;rw [e];exact (hinv j l hl).1
inductive f7 (n:Nat) (vs:List V) (H:Hp) (Q:VK) (_E:XK):Prop
 | mk (l oa:UQ) (x b:Int) (yq:List UQ) (outs:List (Vm×Int)) (S C:Int) (yf:vs=[.ref l,.ref oa,.int S,.int C]) (yg:H l=some (.lst [.int x,.int b])) (yl:H oa=some (.tup (yq.map V.ref))) (yx:KsAt H outs yq) (yK:bV outs) (zJ:S<1000000) (Bv:C<1000000) (BZ:0<=b) (Ep:b<(n:Int)) (Fq:∀ (t:Th) (r:UQ) (x' b':Int) (H':Hp),SameB l H H'->H' l=some (.lst [.int x',.int b'])->At H' t r->t.FitS outs S C->0<=b'->(t.size:Int)+b'=b+1->Q (.ref r) H'):f7 n vs H Q _E
def lH (n:Nat):Sp:=f7 n
set_option maxHeartbeats 2000000 in
theorem cB:∀ n:Nat,bn P w K mg base CX0 (n+1) T.g__law_thing.f T.g__law_thing.d ["left","outs","states","kids"] (lH n)
 | 0=>⟨fun _ _ _ _ h=>by obtain ⟨_,_,_,_,_,_,_,_,_,_,_,_,_,_,_,h1,h2,_⟩:=h;omega,fun _ _ _ _ _ _ _ _ _ _ _ _ _ h=>by obtain ⟨_,_,_,_,_,_,_,_,_,_,_,_,_,_,_,h1,h2,_⟩:=h;omega⟩
 | n+1=>by
   have ih:=cB n;refine T.g__law_thing.F.ok bm (fun vs H Q E h=>?_) (fun yc A outer s H vs Q E hr h=>?_)
   · obtain ⟨l,oa,x,b,yq,outs,S,C,rfl,_⟩:=h;rfl
   obtain ⟨l,oa,x,b,yq,outs,S,C,rfl,el,eo,zO,g,Sr,Ss,b0,b1,q⟩:=h
   refine ⟨_,(ae (av (i:=4) bm.nd rfl (U9 rfl) (aw bz (ay aO (pv 0) af (fun _ _=>rfl)) af))
    (ae (cE (aw bR (ay aO (pv 0) af (fun _ _=>rfl)) af) (fR (pv 0) af set_list))
    (ae (bY (PW.pt (ql (aP rh (pv 2) af (aS _)) (ql (aP rh (pv 3) af (aS _)) (rc (aP mx (pv 4) af (aS _)))))) (ae (av (i:=5) bm.nd rfl (U9 rfl) (aw bz (ay aO (pv 0) af (fun _ _=>rfl)) (pv 2)))
    (ae (cE (aw bR (ay aO (pv 0) af (fun _ _=>rfl)) (pv 2)) (fR (pv 0) af set_list))
    (ae (av (i:=6) bm.nd rfl (U9 rfl) (aw bz (ay aO (pv 0) af (fun _ _=>rfl)) (pv 3)))
    (ae (cE (aw bR (ay aO (pv 0) af (fun _ _=>rfl)) (pv 3)) (fR (pv 0) af set_list))
    (ag (aD (aI (aa fM (aa (pv 5) (aa (pv 6) ac)))))))))) bO)
    (ae (di (i:=7) (N:=[UU "kind",UU "left"]) (js:=[none,some 0]) (g:=(aG 0)) (tt:=(k9 (tOp (rI0 fun i j=>.bl (decide (i<=j))) (tOp (rL K) (bp 0) (tC (.int 1))) (tOp (ut K) (bp 1) (tC (.int 1)))))) (te:=(bp 0)) bm.nd rfl (U9 rfl) rfl (cx rfl (by decide +kernel) (by decide +kernel) rfl rfl rfl) (jc (pv 1)) (fun _ _ _ _ _ _=>(aj (i:=0) xR rfl (U9 rfl))) (aR rfl) (fun _ _ _ _ _ _=>iK (aP vg (ay aC (pv 0) af (fun _ _=>rfl)) (ay aO (pv 1) af (fun _ _=>rfl)) (aS _))) (fun _ _ _ _ _ _=>(pv 0)))
    (ae (av (i:=8) bm.nd rfl (U9 rfl) (ay aO (pv 7) (aw bz (ay aO (pv 0) af (fun _ _=>rfl)) (aB aq rfl T.n_len Vu (aa (pv 7) ac))) (fun _ _=>rfl)))
    (ae (cE (aw bR (ay aO (pv 0) af (fun _ _=>rfl)) (aB aq rfl T.n_len Vu (aa (pv 7) ac))) (fR (pv 0) af set_list))
    (ae (cE (aw eV (ay aO (pv 0) af (fun _ _=>rfl)) (ay aC (pv 8) af (fun _ _=>rfl))) (fR (pv 0) af set_list))
    (ae (av (i:=9) bm.nd rfl (U9 rfl) (aI (aa (ay aC (pv 8) af (fun _ _=>rfl)) ac)))
    (ae (bi Vq rfl (bq rfl T.n_range (aa (ay aC (pv 8) af (fun _ _=>rfl)) ac)) (aj (i:=10) bm.nd rfl (U9 rfl)) (ag (av (i:=9) bm.nd rfl (U9 rfl) (aw cK (pv 9) (aI (aa (fc (ih) (hr.mono (UR _)) rfl T.g__law_thing.m T.g__law_thing.F.kp T.g__law_thing.b .nil lv (aa (pv 0) (aa (pv 1) (aa (pv 2) (aa (pv 3) ac))))) ac))))))
    (ag (aD (pv 9)))))))))))),?_⟩
   try dsimp only [yz,xZ]
   have yX:outs.length=yq.length:=U2 zO;have Su:=g.le;have IW:=g.ne;have Oo:oa≠l:=eP eo el (by intro z;cases z);refine ⟨_,rfl,l,_,0,.int x,rfl,rfl,SqL.of el,at0,_,_,rfl,rfl,(by show (0:Int)<7;decide),?_⟩
   try dsimp only [aG]
   generalize x%7=digit;refine ⟨_,rfl,l,_,0,.int x,rfl,rfl,SqL.of el,at0,_,_,rfl,rfl,⟨by decide,by decide⟩,_,rfl,l,_,_,0,rfl,rfl,el,rfl,?_⟩;have s1:SameB l H (upd H l (.lst [.int (x / 7),.int b])):=.set;have e1:(upd H l (.lst [.int (x / 7),.int b])) l=some (.lst [.int (x / 7),.int b]):=ab
   try dsimp only [ZN]
   generalize (upd H l (.lst [.int (x / 7),.int b]))=H1 at s1 e1 ⊢;generalize x / 7=x1 at e1;have PK:KT H H1:=s1.kt el;refine jb (fun xT H'=>An2 (H1=H') (xT=[some (.ref l),some (.ref oa),some (.int S),some (.int C),some (.int digit),none,none,none,none,none,none])) (fun kk hk=>?_) ?_
   · refine eI (fun c H'=>An2 (H1=H') ((c=true->0<S/\0<C))) (fun k2 AN=>?_) (fun H' hb=>?_) (fun H' hb=>?_)
     · refine ⟨_,rfl,_,_,rfl,rfl,_,rfl,?_⟩;refine cP (fun c1=>?_) (fun c1=>AN _ _ ⟨rfl,fun z=>by cases z⟩);refine ⟨_,rfl,_,_,rfl,rfl,_,rfl,?_⟩;refine cP (fun c2=>?_) (fun c2=>AN _ _ ⟨rfl,fun z=>by cases z⟩);exact ⟨_,rfl,_,_,rfl,rfl,_,rfl,AN _ _ ⟨rfl,fun _=>⟨of_decide_eq_true c1,of_decide_eq_true c2⟩⟩⟩
     · obtain ⟨rfl,hb⟩:=hb;obtain ⟨hS,hC⟩:=hb rfl;have d0:=V6 x1 (show S≠0 by omega);have d1:=V0 x1 hS;refine ⟨_,rfl,l,_,0,.int x1,rfl,rfl,SqL.of e1,at0,_,rfl,_,_,rfl,rfl,hS,?_⟩;refine ⟨_,rfl,l,_,0,.int x1,rfl,rfl,SqL.of e1,at0,_,rfl,_,_,rfl,rfl,⟨hS,by omega⟩,_,rfl,l,_,_,0,rfl,rfl,e1,rfl,?_⟩;have s2:SameB l H1 (upd H1 l (.lst [.int (x1 / S),.int b])):=.set;have e2:(upd H1 l (.lst [.int (x1 / S),.int b])) l=some (.lst [.int (x1 / S),.int b]):=ab
       try dsimp only [ZN]
       generalize (upd H1 l (.lst [.int (x1 / S),.int b]))=H2 at s2 e2 ⊢;generalize x1 / S=x2 at e2;have c0:=V6 x2 (show C≠0 by omega);have c1:=V0 x2 hC;refine ⟨_,rfl,l,_,0,.int x2,rfl,rfl,SqL.of e2,at0,_,rfl,_,_,rfl,rfl,hC,?_⟩;refine ⟨_,rfl,l,_,0,.int x2,rfl,rfl,SqL.of e2,at0,_,rfl,_,_,rfl,rfl,⟨hC,by omega⟩,_,rfl,l,_,_,0,rfl,rfl,e2,rfl,?_⟩;have s3:SameB l H2 (upd H2 l (.lst [.int (x2 / C),.int b])):=.set;have e3:(upd H2 l (.lst [.int (x2 / C),.int b])) l=some (.lst [.int (x2 / C),.int b]):=ab
       try dsimp only [ZN]
       generalize (upd H2 l (.lst [.int (x2 / C),.int b]))=H3 at s3 e3 ⊢;refine ⟨_,rfl,_,rfl,ak (by show 3<=1000000;decide),fun ca HL=>?_⟩;have s4:=ad HL (.tup [.str BB.q,.int (x1%S),.int (x2%C)]);refine q (.call (x1%S) (x2%C)) ca _ b _ (s1.trans (s2.trans (s3.trans (.of s4)))) (s4 _ _ e3) ?_ ?_ b0 ?_
       · rw [At];exact ab
       · rw [Th.FitS];exact ⟨d0,d1,c0,c1⟩
       · rw [Th.size];show (1:Int)+b=b+1;omega
     · obtain ⟨rfl,_⟩:=hb;exact hk _ _ ⟨rfl,rfl⟩
   rintro xT H' ⟨rfl,rfl⟩;have EF:H1 oa=some (.tup (yq.map V.ref)):=PK _ _ eo;have BO:=zO.mono PK;obtain ⟨kz,Gh,IX⟩:=g.zero;refine ⟨_,rfl,oa,rfl,⟨_,SqT.of EF⟩,ki (K:=K) (fun k=>decide (k.2<=b)) EF BO (by omega) ⟨kz,Gh,decide_eq_true (by omega)⟩ (fun z ka H2 R sm hz r=>?_) (fun ka H2 R r=>⟨_,rfl,r⟩) (fun D bs H2 hD e' CA Ku yw=>?_)⟩
   · exact ⟨_,rfl,ka,_,1,_,rfl,rfl,SqT.of hz,at1,_,rfl,l,_,1,.int b,rfl,rfl,SqL.of (sm _ _ e1),at1,_,_,rfl,rfl,_,rfl,r⟩
   have s2:L2.Same H1 H2:=by rw [e'];exact ad hD _
   have eD:H2 D=some (.lst (bs.map fun z=>V.ref z.2)):=by rw [e'];exact ab
   have EB:D≠l:=fun z=>by rw [z,e1] at hD;cases hD
   have DS:=s2 _ _ e1;clear e';have Bc:0<((bs.map fun z=>V.ref z.2).length:Int):=by rw [UL];omega
   have y0:=V6 x1 (show ((bs.map fun z=>V.ref z.2).length:Int)≠0 by omega);have y1:=V0 x1 Bc;refine hid fun ZZ kZ=>?_;obtain ⟨z,hz⟩:∃ z,bs[(x1%((bs.map fun z=>V.ref z.2).length:Int)).toNat]?=some z:=⟨_,UN (by rw [UL] at y1 ⊢;omega)⟩;obtain ⟨yN,gp,Dr⟩:=yw z (UP hz);obtain ⟨k0,ka⟩:=z;refine kZ ?_;dsimp only at yN gp Dr hz;have Sv:k0.2<=b:=of_decide_eq_true gp;have Ba:=g.num k0 yN;refine ⟨_,rfl,_,rfl,l,_,0,.int x1,rfl,rfl,SqL.of DS,at0,_,rfl,D,_,rfl,.inl (SqL.of eD),_,_,rfl,rfl,Bc,D,_,_,.ref ka,rfl,rfl,SqL.of eD,at_nonneg y0 (by rw [UZ,hz];rfl),?_⟩
   try dsimp only [aG]
   refine ⟨_,rfl,l,_,0,.int x1,rfl,rfl,SqL.of DS,at0,_,rfl,D,_,rfl,.inl (SqL.of eD),_,_,rfl,rfl,⟨Bc,by rw [UL];omega⟩,_,rfl,l,_,_,0,rfl,rfl,DS,rfl,?_⟩;have s3:SameB l H2 (upd H2 l (.lst [.int (x1 / ((bs.map fun z=>V.ref z.2).length:Int)),.int b])):=.set;have e3:(upd H2 l (.lst [.int (x1 / ((bs.map fun z=>V.ref z.2).length:Int)),.int b])) l=some (.lst [.int (x1 / ((bs.map fun z=>V.ref z.2).length:Int)),.int b]):=ab
   try dsimp only [ZN]
   generalize (upd H2 l (.lst [.int (x1 / ((bs.map fun z=>V.ref z.2).length:Int)),.int b]))=H3 at s3 e3 ⊢;generalize x1 / ((bs.map fun z=>V.ref z.2).length:Int)=x3 at e3;have C6:KT H2 H3:=s3.kt DS;have CP:H3 ka=some (.tup [.str k0.1,.int k0.2]):=C6 _ _ (s2 _ _ Dr);refine ⟨_,rfl,l,_,1,.int b,rfl,rfl,SqL.of e3,at1,_,rfl,ka,_,1,.int k0.2,rfl,rfl,SqT.of CP,at1,_,_,rfl,rfl,_,rfl,l,_,_,1,rfl,rfl,e3,rfl,?_⟩;have s4:SameB l H3 (upd H3 l (.lst [.int x3,.int (b - k0.2)])):=.set;have e4:(upd H3 l (.lst [.int x3,.int (b - k0.2)])) l=some (.lst [.int x3,.int (b - k0.2)]):=ab
   try dsimp only [ZN]
   generalize (upd H3 l (.lst [.int x3,.int (b - k0.2)]))=H4 at s4 e4 ⊢;have C8:KT H3 H4:=s4.kt e3;have CQ:=C8 _ _ CP;refine ⟨_,rfl,ka,_,0,.str k0.1,rfl,rfl,SqT.of CQ,at0,ak (by show 1<=1000000;decide),fun ma Na=>?_⟩;have s5:L2.Same H4 (upd H4 ma (.tup [.str k0.1])):=ad Na _;have e5:(upd H4 ma (.tup [.str k0.1])) ma=some (.tup (.str k0.1::([]:List UQ).map V.ref)):=ab
   try dsimp only
   generalize (upd H4 ma (.tup [.str k0.1]))=H5 at s5 e5 ⊢;have CS:KT H1 H5:=(Same.kt s2).trans (C6.trans (C8.trans (Same.kt s5)));have FI:=s5 _ _ CQ;have IY:=s5 _ _ e4;have Es:SameB l H H5:=s1.trans ((SameB.of s2).trans (s3.trans (s4.trans (.of s5))));refine ⟨_,rfl,ka,_,1,_,rfl,rfl,SqT.of FI,at1,k0.2,rfl,by omega,by omega,?_⟩
   refine bB (n:=k0.2.toNat) (fun i σ H6=>Ex6 fun (kv:Option V) (ma:UQ) (zy:List UQ) (ts:List Th) (x' b':Int)=>An9 (σ=[some (.ref l),some (.ref oa),some (.int S),some (.int C),some (.int digit),none,none,some (.ref D),some (.ref ka),some (.ref ma),kv]) (SameB l H5 H6) (H6 l=some (.lst [.int x',.int b'])) (H6 ma=some (.tup (.str k0.1::zy.map V.ref))) (Ats H6 ts zy) (ts.length=i) ((∀ t∈ts,t.FitS outs S C)) (0<=b') ((ao ts:Int)+b'=b - k0.2+(i:Int)))
    ⟨none,ma,[],[],x3,b - k0.2,rfl,.refl,IY,e5,.nil,rfl,(fun t ht=>by cases ht),by omega,by rw [ao];show (0:Int)+(b - k0.2)=b - k0.2+0;omega⟩ ?_ ?_
   · rintro i σ H6 hi ⟨kv,ma,zy,ts,x',b',rfl,s6,Dd,FJ,Bq,yv,xY,De,FK⟩;have Sw:i<k0.2.toNat:=hi;have BC:KT H5 H6:=s6.kt IY;have hsz:=bU ts;refine ⟨_,rfl,_,rfl,_,rfl,_,rfl,_,rfl,l,oa,x',b',yq,outs,S,C,rfl,Dd,(CS.trans BC) _ _ EF,BO.mono (CS.trans BC),g,Sr,Ss,De,by omega,fun t r x7 b7 H7 s7 Nb zH yU ED Nc=>?_⟩;have AM:KT H6 H7:=s7.kt Dd;refine ⟨ak (by show 1<=1000000;decide),fun p1 Ac=>?_⟩;have s8:L2.Same H7 (upd H7 p1 (.tup [.ref r])):=ad Ac _;have e8:(upd H7 p1 (.tup [.ref r])) p1=some (.tup [.ref r]):=ab;generalize (upd H7 p1 (.tup [.ref r]))=H8 at s8 e8 ⊢;have zT:zy.length=ts.length:=Bq.length;refine kB (s8 _ _ (AM _ _ FJ)) e8 (by rw [U1,UL];show zy.length+1+1<=1000000;omega) fun p H9 s9 e9=>?_;have Br:=s8.trans s9;refine ⟨_,p,zy++[r],ts++[t],x7,b7,rfl,s6.trans (s7.trans (.of Br)),Br _ _ Nb,?_,?_,?_,?_,ED,?_⟩
     · rw [e9,U5];rfl
     · exact (Bq.mono (AM.trans (Same.kt Br))).append (.cons (zH.mono (Same.kt Br)) .nil)
     · rw [U8,yv];rfl
     · intro u hu;rcases VH.mp hu with hu | hu
       · exact xY u hu
       · rw [Vi.mp hu];exact yU
     · rw [aY,ao,ao];omega
   · rintro σ H6 ⟨kv,ma,zy,ts,x',b',rfl,s6,Dd,FJ,Bq,yv,xY,De,FK⟩;have Bi:=(g.low k0 yN).1;refine ⟨_,rfl,q (.knot k0.1 ts) ma x' b' H6 (Es.trans s6) Dd ?_ ?_ De ?_⟩
     · rw [At];exact ⟨oB Bi,zy,FJ,Bq⟩
     · rw [Th.FitS];refine ⟨?_,FitSs.of xY⟩
       have:(k0.1,(ts.length:Int))=k0:=by
        rw [yv];exact Prod.ext rfl (by show ((k0.2.toNat:Nat):Int)=k0.2;omega)
       rw [this];exact yN
     · rw [Th.size];have:((k0.2.toNat:Nat):Int)=k0.2:=by omega
       omega
def PlAt (H:Hp) (p:List Int) (b:UQ):Prop:=H b=some (.tup (p.map V.int))
theorem PlAt.mono {H H':Hp} (k:KT H H') {p:List Int} {b:UQ} (h:PlAt H p b):PlAt H' p b:=k _ _ h
inductive fE (n:Nat) (vs:List V) (H:Hp) (Q:VK) (_E:XK):Prop
 | mk (a:UQ) (t:Th) (yf:vs=[.ref a]) (yg:At H t a) (yl:t.tall<=n) (yx:t.size<=1000) (yK:∀ (r:UQ) (ps:List (List Int)) (bs:List UQ) (H':Hp),L2.Same H H'->H r=none->H' r=some (.lst (bs.map V.ref))->Vs (PlAt H') ps bs->1<=ps.length->ps.length<=t.size->(∀ p∈ps,p.length+1<=t.tall/\∃ u,t.sub p=some u)->Q (.ref r) H'):fE n vs H Q _E
def j5 (n:Nat):Sp:=fE n
set_option maxHeartbeats 1000000 in
theorem fQ:∀ n:Nat,bn P w K mg base CX0 n T.g__law_places.f T.g__law_places.d ["thing"] (j5 n)
 | 0=>⟨fun _ _ _ _ h=>by obtain ⟨_,t,_,_,h1,_⟩:=h;have:=t.tall_eq;omega,fun _ _ _ _ _ _ _ _ _ _ _ _ _ h=>by obtain ⟨_,t,_,_,h1,_⟩:=h;have:=t.tall_eq;omega⟩
 | n+1=>by
   have ih:=fQ n;refine T.g__law_places.F.ok cI (fun vs H Q E h=>?_) (fun yc A outer s H vs Q E hr h=>?_)
   · obtain ⟨a,t,rfl,_⟩:=h;rfl
   obtain ⟨a,t,rfl,hA,yv,hsz,q⟩:=h
   refine ⟨_,(ae (av (i:=1) cI.nd rfl (U9 rfl) (bu (aa (aI ac) ac)))
    (ae (bY (aP rf (ay aC (pv 0) af (fun _ _=>rfl)) fM (aS _)) (ag (bi Vq rfl (jd rfl T.n_range (aa af (aa (aB aq rfl T.n_len Vu (aa (pv 0) ac)) ac))) (aj (i:=2) cI.nd rfl (Zh rfl)) (ag (av (i:=1) cI.nd rfl (U9 rfl) (aw vX (pv 1) (cD (N:=[UU "place",UU "k"]) (js:=[none,some 2]) (g:=(aG 0)) (tt:=bH) (te:=(tOp (mo K) (lJ (bA (tOp (rI0 fun i j=>.int (i - j)) (bp 1) (tC (.int 1))) dL)) (bp 0))) rfl (cx rfl (by decide +kernel) (by decide +kernel) rfl rfl rfl) (bQ (fc (ih) (hr.mono (UR _)) rfl T.g__law_places.m T.g__law_places.F.kp T.g__law_places.b .nil lv (aa (ay aC (pv 0) (pv 2) (fun _ _=>rfl)) ac))) (fun _ _ _ _ _ _=>(aj (i:=0) wN rfl (U9 rfl))) (aR rfl) (fun _ _ _ _ _ _=>bS) (fun _ _ _ _ _ _=>(aw cK (aI (aa (aw eV (pv 1) af) ac)) (pv 0))))))))) bO)
    (ag (aD (pv 1))))),?_⟩
   try dsimp only [yz,xZ]
   refine ⟨ak (by show 0<=1000000;decide),fun ep Nf=>?_⟩;have s1:L2.Same H (upd H ep (.tup [])):=ad Nf _;have e1:PlAt (upd H ep (.tup [])) [] ep:=ab;generalize (upd H ep (.tup []))=H1 at s1 e1 ⊢;refine ⟨ak (by show 1<=1000000;decide),fun fl Fx=>?_⟩;have s2:L2.Same H1 (upd H1 fl (.lst [.ref ep])):=ad Fx _;have e2:(upd H1 fl (.lst [.ref ep])) fl=some (.lst ([ep].map V.ref)):=ab;have IZ:H fl=none:=s1.free Fx
   try dsimp only [aG]
   generalize (upd H1 fl (.lst [.ref ep]))=H2 at s2 e2 ⊢;have yF:=s1.trans s2;have Kv:=hA.mono (Same.kt yF);cases t with
   | call sn kn =>
     rw [At] at Kv;refine ⟨_,rfl,a,_,0,.str BB.q,rfl,rfl,SqT.of Kv,at0,rfl,_,rfl,?_⟩;refine iG ?_;refine ⟨_,rfl,q fl [[]] [ep] H2 yF IZ e2 (.cons (e1.mono (Same.kt s2)) .nil) (UR _) (by rw [Th.size];exact UR _) (fun p hp=>?_)⟩;rw [Vi.mp hp,Th.tall];exact ⟨UR _,_,iQ _⟩
   | knot m ks =>
     rw [At] at Kv;refine hid fun ZZ kZ=>?_;obtain ⟨Kw,yp,ea,yO⟩:=Kv;refine kZ ?_;rw [Th.tall] at yv;rw [Th.size] at hsz;have yX:=yO.length;have zO:=bU ks;refine ⟨_,rfl,a,_,0,.str m,rfl,rfl,SqT.of ea,at0,rfl,_,rfl,?_⟩
     have yn:(!decide (V.str m=V.str (UU "?")))=true:=by
      have:decide (V.str m=V.str (UU "?"))=false:=decide_eq_false fun z=>Kw (V.str.inj z);rw [this];rfl
     rw [yn];refine oD ?_;refine ⟨_,rfl,a,_,rfl,.inr (SqT.of ea),1,_,rfl,⟨by decide,by decide,by rw [U1,UL];omega,by rw [U1,UL];omega⟩,?_⟩;have EG:((((V.str m::yp.map V.ref).length:Nat):Int) - 1).toNat=ks.length:=by rw [U1,UL];omega
     rw [EG]
     refine bB (n:=ks.length) (fun i σ H3=>Ex4 fun (kv:Option V) (fl:UQ) (ps:List (List Int)) (bs:List UQ)=>An9 (σ=[some (.ref a),some (.ref fl),kv]) (L2.Same H H3) (H fl=none) (H3 fl=some (.lst (bs.map V.ref))) (Vs (PlAt H3) ps bs) (1<=ps.length) (ps.length<=1+ao (ks.take i)) ((∀ p∈ps,p.length+1<=bw ks+1/\∃ u,(Th.knot m ks).sub p=some u)) (L2.Same H2 H3))
      ⟨none,fl,[[]],[ep],rfl,yF,IZ,e2,.cons (e1.mono (Same.kt s2)) .nil,UR _,by rw [XE,ao];exact UR _,(fun p hp=>by rw [Vi.mp hp];exact ⟨by show 0+1<=bw ks+1;omega,_,iQ _⟩),.refl _⟩ ?_ ?_
     · rintro i σ H3 hi ⟨kv,fl,ps,bs,rfl,s3,IZ,e3,zb,Ac,zc,xY,FL⟩;have yR:i<ks.length:=hi;have J9:=FL _ _ ea;have I0:=yO.mono (Same.kt FL);refine hid fun ZZ kZ=>?_;obtain ⟨ka,y4⟩:∃ ka,yp[i]?=some ka:=⟨_,UN (by omega)⟩;obtain ⟨u,hu,Ng⟩:=I0.get y4;refine kZ ?_;have Ja:=UP hu;have Kc:=cg Ja;have Uk:=lp Ja
       have y8:ao (ks.take i)+u.size<=ao ks:=by
        have h1:ao (ks.take (i+1))+ao (ks.drop (i+1))=ao ks:=by rw [<- aY,List.take_append_drop]
        rw [take_snoc hu,aY,ao,ao] at h1;omega
       refine ⟨_,rfl,_,rfl,_,rfl,a,_,_,.ref ka,rfl,rfl,SqT.of J9,at_nonneg (by omega) (by rw [show (1+(i:Int)).toNat=i+1 by omega,VW,UZ,y4];rfl),ka,u,rfl,Ng,by omega,by omega,fun r Kx B3 H4 s4 nr er Jb Sx Sy EH=>?_⟩;have Jc:Kx.length=B3.length:=U2 Jb;have zT:ps.length=bs.length:=U2 zb;refine ⟨r,rfl,⟨_,SqL.of er⟩,m5 (F:=PlAt) (xs:=B3.map V.ref) (Kx.map fun p=>(i:Int)::p) (fun H1 H2 z p kt h=>h.mono kt) (by rw [UL,UL];exact Jc) (by rw [UL];omega) (fun j Hx sx hj=>⟨_,_,SqL.of (sx _ _ er),UN hj⟩) (fun Hx sx=>⟨_,SqL.of (sx _ _ er),UR _⟩) (fun j Hx x Hy sx hj hy=>⟨hy.1,hy.2 _ (SqL.of (sx _ _ er))⟩) (fun j x z Hx R W' hx CB sx hR=>?_) (fun D H5 Nh hD s5 eD DE=>?_)⟩
       · obtain ⟨pb,rfl,Eu⟩:=aT hx;rw [UZ] at CB;obtain ⟨p,hp,rfl⟩:=Vr.mp CB;have Sz:PlAt Hx p pb:=(jT Jb hp Eu).mono (Same.kt sx);have SD:=(EH p (UP hp)).1;have SE:=eS u;refine ⟨_,rfl,_,_,rfl,rfl,ak (by show 1<=1000000;decide),fun k1 IW=>?_⟩;have t1:L2.Same Hx (upd Hx k1 (.tup [.int (1+(i:Int) - 1)])):=ad IW _;have f1:(upd Hx k1 (.tup [.int (1+(i:Int) - 1)])) k1=some (.tup [.int (i:Int)]):=by rw [ab,show 1+(i:Int) - 1=(i:Int) by omega]
         try dsimp only
         generalize (upd Hx k1 (.tup [.int (1+(i:Int) - 1)]))=Hy at t1 f1 ⊢;refine ⟨_,rfl,?_⟩;refine kB f1 (t1 _ _ Sz) (by rw [UL];show 1+p.length<=1000000;omega) fun p3 H7 s7 e7=>?_;exact hR H7 p3 (t1.trans s7) e7
       have Ni:(Kx.map fun p=>(i:Int)::p).length=Nh.length:=U2 DE;rw [UL] at Ni;have SF:=(s4.trans s5) _ _ e3;refine ⟨fl,D,_,_,rfl,rfl,SF,eD,ak (by rw [UL,UL];omega),fun nl Gk=>?_⟩;have s6:L2.Same H5 (upd H5 nl (.lst (bs.map V.ref++Nh.map V.ref))):=ad Gk _;have CT:=s4.trans (s5.trans s6);refine ⟨_,nl,ps++Kx.map (fun p=>(i:Int)::p),bs++Nh,rfl,s3.trans CT,(s3.trans (s4.trans s5)).free Gk,by rw [ab,U5],?_,?_,?_,fun p hp=>?_,FL.trans CT⟩
       · exact P2.append (P2.mp (fun _ _ e=>PlAt.mono (Same.kt CT) e) zb) (P2.mp (fun _ _ e=>PlAt.mono (Same.kt s6) e) DE)
       · rw [U8];omega
       · rw [U8,UL,take_snoc hu,aY,ao,ao];omega
       · rcases VH.mp hp with hp | hp
         · exact xY p hp
         · obtain ⟨p2,Ad,rfl⟩:=VM.mp hp;obtain ⟨h1,v,hv⟩:=EH p2 Ad;refine ⟨by rw [U1];omega,v,?_⟩;rw [oQ (u:=u) (by omega) (by show ks[(i:Int).toNat]?=some u;rw [VT];exact hu)];exact hv
     · rintro σ H3 ⟨kv,fl,ps,bs,rfl,s3,IZ,e3,zb,Ac,zc,xY,FL⟩;rw [Wh (UR _)] at zc;exact ⟨_,rfl,q fl ps bs H3 s3 IZ e3 zb Ac (by rw [Th.size];omega) (by rw [Th.tall];exact xY)⟩
inductive iO (n:Nat) (vs:List V) (H:Hp) (Q:VK) (_E:XK):Prop
 | mk (a pa oa:UQ) (t o u:Th) (p:List Int) (yf:vs=[.ref a,.ref pa,.ref oa]) (yg:At H t a) (yl:H pa=some (.tup (p.map V.int))) (yx:At H o oa) (yK:t.sub p=some u) (zJ:p.length<n) (Bv:t.size<=1000) (BZ:∀ (r:UQ) (H':Hp),L2.Same H H'->At H' (t.put p o) r->Q (.ref r) H'):iO n vs H Q _E
def oC (n:Nat):Sp:=iO n
set_option maxHeartbeats 1000000 in
theorem jL:∀ n:Nat,bn P w K mg base CX0 n T.g__law_put.f T.g__law_put.d ["thing","place","other"] (oC n)
 | 0=>⟨fun _ _ _ _ h=>by obtain ⟨_,_,_,_,_,_,_,_,_,_,_,_,h1,_⟩:=h;omega,fun _ _ _ _ _ _ _ _ _ _ _ _ _ h=>by obtain ⟨_,_,_,_,_,_,_,_,_,_,_,_,h1,_⟩:=h;omega⟩
 | n+1=>by
   have ih:=jL n;refine T.g__law_put.F.ok jx (fun vs H Q E h=>?_) (fun yc A outer s H vs Q E hr h=>?_)
   · obtain ⟨a,pa,oa,t,o,u,p,rfl,_⟩:=h;rfl
   obtain ⟨a,pa,oa,t,o,u,p,rfl,hA,zF,hO,zi,zc,hsz,q⟩:=h
   refine ⟨_,(ae (bY (aP cZ (aB aq rfl T.n_len Vu (aa (pv 1) ac)) af (aS _)) (ag (aD (pv 2))) bO)
    (ae (av (i:=3) jx.nd rfl (U9 rfl) (aw bF (ay aC (pv 1) af (fun _ _=>rfl)) af))
    (ag (aD (aw cK (aw cK (bx ff (pv 0) b8 (bD (pv 3))) (aI (aa (fc (ih) (hr.mono (UR _)) rfl T.g__law_put.m T.g__law_put.F.kp T.g__law_put.b .nil lv (aa (ay aC (pv 0) (pv 3) (fun _ _=>rfl)) (aa (bx ff (pv 1) (bD af) b8) (aa (pv 2) ac)))) ac))) (bx ff (pv 0) (bD (aw bF (pv 3) af)) b8)))))),?_⟩
   try dsimp only [yz,xZ]
   refine ⟨_,rfl,pa,_,rfl,.inr (SqT.of zF),rfl,_,rfl,?_⟩;cases p with
   | nil =>
     refine oD ?_;exact ⟨_,rfl,q oa H (.refl _) (by rw [m3];exact hO)⟩
   | cons i r =>
     have BW:decide (V.int (((((i::r).map V.int).length:Nat)):Int)=V.int 0)=false:=decide_eq_false fun z=>by
      have:=V.int.inj z;rw [UL,U1] at this;omega
     rw [BW];refine iG ?_;refine hid fun ZZ kZ=>?_;obtain ⟨h0,v,hv,SG⟩:=nu zi;refine kZ ?_;cases t with
     | call sn kn=>rw [Th.kids] at hv;simp at hv
     | knot m ks =>
     rw [Th.kids] at hv;have PL:=hA;rw [At] at PL;obtain ⟨Kw,yp,ea,yO⟩:=PL;rw [Th.size] at hsz;have yX:=yO.length;have zO:=bU ks;have zK:=(US.mp hv).1;obtain ⟨j,rfl⟩:∃ j:Nat,i=(j:Int):=⟨_,(WO h0).symm⟩;rw [VT] at hv zK;refine ⟨_,rfl,pa,_,0,.int (j:Int),rfl,rfl,SqT.of zF,at0,_,_,rfl,rfl,?_⟩
     try dsimp only [aG]
     have ej:(j:Int)+1=((j+1:Nat):Int):=by omega
     rw [ej];refine ⟨_,rfl,_,rfl,_,rfl,a,_,rfl,SqT.of ea,?_,fun p1 Ac=>?_⟩
     · rintro ⟨_,z⟩;rw [HT.sIx_nat,U1,UL] at z;omega
     try dsimp only
     have Ke:dw (V.str m::yp.map V.ref) none (some ((j+1:Nat):Int))=V.str m::(yp.take j).map V.ref:=by
      rw [uM (by rw [U1,UL];omega),List.take_succ_cons,List.map_take]
     rw [Ke];have s1:L2.Same H (upd H p1 (.tup (V.str m::(yp.take j).map V.ref))):=ad Ac _;have e1:(upd H p1 (.tup (V.str m::(yp.take j).map V.ref))) p1=some (.tup (V.str m::(yp.take j).map V.ref)):=ab;generalize (upd H p1 (.tup (V.str m::(yp.take j).map V.ref)))=H1 at s1 e1 ⊢;have Nj:=s1 _ _ ea;refine hid fun ZZ kZ=>?_;obtain ⟨ka,y4⟩:∃ ka,yp[j]?=some ka:=⟨_,UN (by omega)⟩;obtain ⟨v',yL,SH⟩:=(yO.mono (Same.kt s1)).get y4;refine kZ ?_;rw [hv] at yL;cases yL;refine ⟨_,rfl,_,rfl,a,_,_,.ref ka,rfl,rfl,SqT.of Nj,at_nonneg (by omega) (by rw [VT,VW,UZ,y4];rfl),?_⟩;refine ⟨_,rfl,1,rfl,pa,_,rfl,SqT.of (s1 _ _ zF),?_,fun p2 Ad=>?_⟩
     · rintro ⟨z,_⟩;rw [VJ,U1,show (1:Int)=((1:Nat):Int) by rfl,HT.sIx_nat] at z;omega
     try dsimp only
     rw [VJ,eL];have s2:L2.Same H1 (upd H1 p2 (.tup (r.map V.int))):=ad Ad _;have e2:(upd H1 p2 (.tup (r.map V.int))) p2=some (.tup (r.map V.int)):=ab;generalize (upd H1 p2 (.tup (r.map V.int)))=H2 at s2 e2 ⊢;have yF:=s1.trans s2;have Ak:=lp (UP hv);rw [U1] at zc;refine ⟨_,rfl,ka,p2,oa,v,o,u,r,rfl,SH.mono (Same.kt s2),e2,hO.mono (Same.kt yF),SG,by omega,by omega,fun r3 H3 s3 h3=>?_⟩;refine ⟨ak (by show 1<=1000000;decide),fun p4 SI=>?_⟩;have s4:L2.Same H3 (upd H3 p4 (.tup [.ref r3])):=ad SI _;have e4:(upd H3 p4 (.tup [.ref r3])) p4=some (.tup [.ref r3]):=ab;generalize (upd H3 p4 (.tup [.ref r3]))=H4 at s4 e4 ⊢;refine kB ((s2.trans (s3.trans s4)) _ _ e1) e4 (by rw [U1,UL,VE];show min j yp.length+1+1<=1000000;omega) fun p5 H5 s5 e5=>?_;have Es:=yF.trans (s3.trans (s4.trans s5));refine ⟨_,rfl,_,rfl,_,_,rfl,rfl,_,rfl,a,_,rfl,SqT.of (Es _ _ ea),?_,fun p6 SJ=>?_⟩
     · rintro ⟨z,_⟩;have SK:((j+1:Nat):Int)+1=((j+2:Nat):Int):=by omega
       rw [SK,HT.sIx_nat,U1,UL] at z;omega
     try dsimp only
     have BU:dw (V.str m::yp.map V.ref) (some (((j+1:Nat):Int)+1)) none=(yp.drop (j+1)).map V.ref:=by
      rw [show ((j+1:Nat):Int)+1=((j+2:Nat):Int) by omega,jk (by rw [U1,UL];omega),ZU,Z1]
     rw [BU];have s6:L2.Same H5 (upd H5 p6 (.tup ((yp.drop (j+1)).map V.ref))):=ad SJ _;have e6:(upd H5 p6 (.tup ((yp.drop (j+1)).map V.ref))) p6=some (.tup ((yp.drop (j+1)).map V.ref)):=ab;generalize (upd H5 p6 (.tup ((yp.drop (j+1)).map V.ref)))=H6 at s6 e6 ⊢;refine kB (s6 _ _ e5) e6 (by rw [U8,U1,UL,VE,UL,Wa];show min j yp.length+1+1+(yp.length - (j+1))<=1000000;omega) fun p7 H7 s7 e7=>?_;have Jd:=s4.trans (s5.trans (s6.trans s7));have PM:=Es.trans (s6.trans s7);refine q p7 H7 PM ?_;have Je:(Th.knot m ks).kids[(j:Int).toNat]?=some v:=by rw [VT];exact hv
     rw [lc Je,At];refine ⟨Kw,yp.set j r3,?_,?_⟩
     · rw [e7];have:yp.set j r3=yp.take j++r3::yp.drop (j+1):=List.set_eq_take_append_cons_drop .. |>.trans (if_pos (by omega));rw [this];simp [Th.nm]
     · rw [VT];exact (yO.mono (Same.kt PM)).set _ (h3.mono (Same.kt Jd))
theorem dl {l:UQ} {o:HO} {H H':Hp} (hl:H l=none) (h:SameB l (upd H l o) H'):L2.Same H H':=fun b ob e=>h b ob (aJ e hl) (by rw [ai (aJ e hl)];exact e)
def vd (ins outs:List (Vm×Int)) (S:Int) (m:Nat) (rows:List (List Th)):Prop:=∀ row∈rows,row.length=ins.length/\∀ (j:Nat) (t:Th) (k:Vm×Int),row[j]?=some t->ins[j]?=some k->t.FitS outs S k.2/\t.size<=m
inductive gP (vs:List V) (H:Hp) (Q:VK) (_E:XK):Prop
 | mk (ca ia oa:UQ) (cs:List Int) (yb yq:List UQ) (ins outs:List (Vm×Int)) (S:Int) (yf:vs=[.ref ca,.ref ia,.ref oa,.int S]) (yg:H ca=some (.lst (cs.map V.int))) (yl:H ia=some (.tup (yb.map V.ref))) (yx:KsAt H ins yb) (yK:bV ins) (zJ:H oa=some (.tup (yq.map V.ref))) (Bv:KsAt H outs yq) (BZ:bV outs) (Ep:0<=S) (Fq:S<=1000) (Fu:S.toNat * (ins.length+1)<=cs.length) (Fv:cs.length<=100000) (Nk:∀ (r:UQ) (yM:List UQ) (rows:List (List Th)) (H':Hp),L2.Same H H'->H' r=some (.tup (yM.map V.ref))->Vs (RowAt H') rows yM->(rows.length:Int)=S->vd ins outs S 9 rows->Q (.ref r) H'):gP  vs H Q _E
def nN:Sp:=gP
set_option maxHeartbeats 4000000 in
theorem mK:bn P w K mg base CX0 10 T.g__law_rows.f T.g__law_rows.d ["cells","ins","outs","states"] nN:=by
 refine T.g__law_rows.F.ok bd (fun vs H Q E h=>?_) (fun yc A outer s H vs Q E hr h=>?_)
 · obtain ⟨ca,ia,oa,cs,yb,yq,ins,outs,S,rfl,_⟩:=h;rfl
 obtain ⟨ca,ia,oa,cs,yb,yq,ins,outs,S,rfl,Ky,FN,AE,gi,Az,DT,go,S0,S1,zY,Ic,q⟩:=h
 refine ⟨_,(ae (av (i:=4) bd.nd rfl (U9 rfl) (bu ac))
  (ae (bi Vq rfl (bq rfl T.n_range (aa (pv 3) ac)) (aj (i:=5) bd.nd rfl (U9 rfl)) (ae (av (i:=6) bd.nd rfl (U9 rfl) (bx nj (pv 0) (bD (aw cJ (pv 5) (aw bF (aB aq rfl T.n_len Vu (aa (pv 1) ac)) af))) b8))
  (ae (av (i:=7) bd.nd rfl (U9 rfl) (pcF T.g__law_thing (cB T 7) hr (aa (bu (aa (pcF T.g__law_mixed (cX T) hr (aa (ay aO (pv 6) af (fun _ _=>rfl)) (aa (aw cJ af (pv 5)) ac))) (aa af ac))) (aa (pv 2) (aa af (aa af ac))))))
  (ae (av (i:=8) bd.nd rfl (U9 rfl) (pcF T.g__law_places (fQ T 8) hr (aa (pv 7) ac)))
  (ae (av (i:=9) bd.nd rfl (U9 rfl) (bu ac))
  (ae (bi Vq rfl (bq rfl T.n_range (aa (aB aq rfl T.n_len Vu (aa (pv 1) ac)) ac)) (aj (i:=10) bd.nd rfl (U9 rfl)) (ae (av (i:=11) bd.nd rfl (U9 rfl) (pcF T.g__law_mixed (cX T) hr (aa (ay aO (pv 6) (aw bF (pv 10) af) (fun _ _=>rfl)) (aa (aw bF (aw cJ af (pv 10)) (pv 5)) ac))))
  (ag (bY (aP cZ (aw bz (pv 11) af) af (aS _)) (ag (aL (bE U3 Vh Vg aN (pv 9) (aa (pcF T.g__law_thing (cB T 7) hr (aa (bu (aa (aw bR (pv 11) af) (aa af ac))) (aa (pv 2) (aa (pv 3) (aa (ay aC (ay aC (pv 1) (pv 10) (fun _ _=>rfl)) af (fun _ _=>rfl)) ac))))) ac)))) (ae (av (i:=12) bd.nd rfl (U9 rfl) (ay aO (pv 8) (aw bz (aw bR (pv 11) af) (aB aq rfl T.n_len Vu (aa (pv 8) ac))) (fun _ _=>rfl)))
  (ae (av (i:=13) bd.nd rfl (U9 rfl) (pcF T.g__law_thing (cB T 7) hr (aa (bu (aa (aw bR (aw bR (pv 11) af) (aB aq rfl T.n_len Vu (aa (pv 8) ac))) (aa af ac))) (aa (pv 2) (aa (pv 3) (aa (ay aC (ay aC (pv 1) (pv 10) (fun _ _=>rfl)) af (fun _ _=>rfl)) ac))))))
  (ag (aL (bE U3 Vh Vg aN (pv 9) (aa (pcF T.g__law_put (jL T 8) hr (aa (pv 7) (aa (pv 12) (aa (pv 13) ac)))) ac))))))))))
  (ag (aL (bE U3 Vh Vg aN (pv 4) (aa (cH cA rfl T.n_tuple W8 (aa (pv 9) ac)) ac))))))))))
  (ag (aD (cH cA rfl T.n_tuple W8 (aa (pv 4) ac)))))),?_⟩
 try dsimp only [yz,xZ]
 have zK:ins.length=yb.length:=U2 AE;have Fp:=gi.le;refine ⟨ak (by show 0<=1000000;decide),fun rl C4=>?_⟩;refine ⟨_,rfl,S,rfl,by omega,by omega,?_⟩
 refine bB (n:=S.toNat) (fun i σ H3=>w8 fun (c5 c6 c7 c8 c9 zq BP B4 B5:Option V) (yM:List UQ) (rows:List (List Th))=>An6 (σ=[some (.ref ca),some (.ref ia),some (.ref oa),some (.int S),some (.ref rl),c5,c6,c7,c8,c9,zq,BP,B4,B5]) (L2.Same H H3) (H3 rl=some (.lst (yM.map V.ref))) (Vs (RowAt H3) rows yM) (rows.length=i) (vd ins outs S 9 rows))
  ⟨none,none,none,none,none,none,none,none,none,[],[],rfl,ad C4 _,ab,.nil,rfl,fun row h=>by cases h⟩ ?_ ?_
 · rintro i σ H3 hi ⟨c5,c6,c7,c8,c9,zq,BP,B4,B5,yM,rows,rfl,s3,e3,Gv,EG,Gw⟩;have Ul:i<S.toNat:=hi
   have hmul:i * (ins.length+1)+(ins.length+1)<=cs.length:=by
    have h1:(i+1) * (ins.length+1)<=S.toNat * (ins.length+1):=ZM _ (by omega);rw [Nat.add_mul,Nat.one_mul] at h1;omega
   have Nl:=s3 _ _ Ky;have FO:=s3 _ _ FN;refine ⟨_,rfl,_,rfl,_,rfl,ia,_,rfl,.inr (SqT.of FO),_,_,rfl,rfl,_,_,rfl,rfl,.inl ⟨by omega,by omega⟩,_,rfl,ca,_,rfl,SqL.of Nl,fun ow how=>?_⟩
   have Dc:(0+(i:Int)) * ((((yb.map V.ref).length:Nat):Int)+1)=((i * (ins.length+1):Nat):Int):=by
    rw [UL,<- zK,Ws];simp
   try dsimp only [aG]
   rw [Dc,jk (by rw [UL];omega),<- Z1];have B1:(cs.drop (i * (ins.length+1))).length=cs.length - i * (ins.length+1):=Wa;generalize cs.drop (i * (ins.length+1))=ds at B1 ⊢;have s4:L2.Same H3 (upd H3 ow (.lst (ds.map V.int))):=ad how _;have e4:(upd H3 ow (.lst (ds.map V.int))) ow=some (.lst (ds.map V.int)):=ab;generalize (upd H3 ow (.lst (ds.map V.int)))=H4 at s4 e4 ⊢;obtain ⟨d0,B0⟩:∃ d0,ds[0]?=some d0:=⟨_,UN (by omega)⟩;refine ⟨_,rfl,ow,_,0,.int d0,rfl,rfl,SqL.of e4,at_nonneg (by decide) (by show (ds.map V.int)[0]?=_;rw [UZ,B0];rfl),_,rfl,_,_,rfl,rfl,.inl ⟨by decide,by decide⟩,_,_,rfl,fun z=>?_⟩;refine ⟨ak (by show 2<=1000000;decide),fun l1 y9=>?_⟩;have s5:L2.Same H4 (upd H4 l1 (.lst [.int z,.int 6])):=ad y9 _;have e5:(upd H4 l1 (.lst [.int z,.int 6])) l1=some (.lst [.int z,.int 6]):=ab;have Dz:=s4.trans s5;refine ⟨_,rfl,l1,oa,z,6,yq,outs,0,0,rfl,e5,(s3.trans Dz) _ _ Az,DT.mono (Same.kt (s3.trans Dz)),go,by decide,by decide,by decide,by decide,fun bt ba x' b' H6 s6 Dd PN SM De Um=>?_⟩;have CT:L2.Same H4 H6:=dl y9 s6;clear s5 e5 Dz s6;have yw:bt.size<=7:=by omega
   have PQ:=eS bt;refine ⟨_,rfl,ba,bt,rfl,PN,by omega,by omega,fun sp ps bs H7 s7 _ SN zb Ac zc xY=>?_⟩;have zT:ps.length=bs.length:=U2 zb;have Gp:=CT.trans s7;have Nm:=PN.mono (Same.kt s7);refine ⟨ak (by show 0<=1000000;decide),fun B6 CF=>?_⟩;have Jd:=s4.trans Gp;refine ⟨_,rfl,ia,_,rfl,.inr (SqT.of (ad CF _ _ _ (Jd _ _ FO))),_,rfl,by omega,by rw [UL];omega,?_⟩
   refine bB (n:=(((yb.map V.ref).length:Nat):Int).toNat) (fun j σ H8=>Ex6 fun (zq BP B4 B5:Option V) (AO:List UQ) (ts:List Th)=>An6 (σ=[some (.ref ca),some (.ref ia),some (.ref oa),some (.int S),some (.ref rl),some (.int (0+(i:Int))),some (.ref ow),some (.ref ba),some (.ref sp),some (.ref B6),zq,BP,B4,B5]) (L2.Same H7 H8) (H8 B6=some (.lst (AO.map V.ref))) (Ats H8 ts AO) (ts.length=j) (∀ (j:Nat) (t:Th) (k:Vm×Int),ts[j]?=some t->ins[j]?=some k->t.FitS outs S k.2/\t.size<=9))
    ⟨_,_,_,_,[],[],rfl,ad CF _,ab,.nil,rfl,fun j t k h=>by simp at h⟩ ?_ ?_
   · rintro j σ H8 hj ⟨zq,BP,B4,B5,AO,ts,rfl,s8,e8,Bq,Gs,Nn⟩
     have yk:j<ins.length:=by
      have h1:j<(((yb.map V.ref).length:Nat):Int).toNat:=hj;rw [UL] at h1;omega
     have FP:=Jd.trans s8;have SO:=(Gp.trans s8) _ _ e4;obtain ⟨d1,Fj⟩:∃ d1,ds[j+1]?=some d1:=⟨_,UN (by omega)⟩;refine ⟨_,rfl,_,rfl,_,_,rfl,rfl,ow,_,_,.int d1,rfl,rfl,SqL.of SO,at_nonneg (by omega) (by rw [show (0+(j:Int)+1).toNat=j+1 by omega,UZ,Fj];rfl),_,rfl,_,_,rfl,rfl,.inl ⟨by decide,by decide⟩,_,rfl,_,_,rfl,rfl,_,_,rfl,fun nb=>?_⟩;refine hid fun ZZ kZ=>?_;obtain ⟨k0,zp⟩:∃ k0,ins[j]?=some k0:=⟨_,UN yk⟩;obtain ⟨ka,y4,Dr⟩:=P2.get AE zp;refine kZ ?_;have Ba:=gi.num k0 (UP zp);have Jf:H8 ka=some (.tup [.str k0.1,.int k0.2]):=(s3.trans FP) _ _ Dr;have Jg:=FP _ _ FO;have Jc:=Bq.length
     have BY:∀ (t:Th) (ta:UQ) (H9:Hp) (B4 B5:Option V),L2.Same H8 H9->At H9 t ta->t.FitS outs S k0.2->t.size<=9->∀ xT,xT=[some (.ref ca),some (.ref ia),some (.ref oa),some (.int S),some (.ref rl),some (.int (0+(i:Int))),some (.ref ow),some (.ref ba),some (.ref sp),some (.ref B6),some (.int (0+(j:Int))),some (.int nb),B4,B5]->Ex6 fun (zq BP B4 B5:Option V) (DU:List UQ) (Np:List Th)=>An6 (xT=[some (.ref ca),some (.ref ia),some (.ref oa),some (.int S),some (.ref rl),some (.int (0+(i:Int))),some (.ref ow),some (.ref ba),some (.ref sp),some (.ref B6),zq,BP,B4,B5]) (L2.Same H7 (upd H9 B6 (.lst (AO.map V.ref++[.ref ta])))) ((upd H9 B6 (.lst (AO.map V.ref++[.ref ta]))) B6=some (.lst (DU.map V.ref))) (Ats (upd H9 B6 (.lst (AO.map V.ref++[.ref ta]))) Np DU) (Np.length=j+1) (∀ (j:Nat) (t:Th) (k:Vm×Int),Np[j]?=some t->ins[j]?=some k->t.FitS outs S k.2/\t.size<=9):=fun t ta H9 B4 B5 s9 zH yU hsz xT M9=>by
      have e9:=s9 _ _ e8;have kt:KT H9 (upd H9 B6 (.lst (AO.map V.ref++[.ref ta]))):=aU e9;refine ⟨_,_,_,_,AO++[ta],ts++[t],M9,ax (s8.trans s9) CF,by rw [ab,U5];rfl,(Bq.mono ((Same.kt s9).trans kt)).append (.cons (zH.mono kt) .nil),by rw [U8,Gs];rfl,fun m u k hu hk=>?_⟩;by_cases hm:m<ts.length
      · rw [WS hm] at hu;exact Nn m u k hu hk
      · have B2:=(US.mp hu).1;rw [U8] at B2
        have:m=ts.length:=by
         have:([t]:List Th).length=1:=rfl;omega
        subst this;rw [Xp (UR _),Nat.sub_self] at hu;have e1:t=u:=by simpa using hu
        rw [Gs,zp] at hk;cases hk;rw [<- e1];exact ⟨yU,hsz⟩
     refine ⟨_,rfl,_,_,rfl,rfl,(by show (0:Int)<4;decide),rfl,_,rfl,?_⟩;refine cP (fun c1=>?_) (fun c1=>?_)
     · refine ⟨_,rfl,.inl ⟨rfl,_,SqL.of e8⟩,_,rfl,_,_,rfl,rfl,⟨by decide,by decide⟩,ak (by show 2<=1000000;decide),fun l2 yP=>?_⟩;have s9:L2.Same H8 (upd H8 l2 (.lst [.int (nb / 4),.int 6])):=ad yP _;have EI:=(s3.trans FP).trans s9;refine ⟨_,rfl,_,rfl,_,rfl,_,rfl,ia,_,_,.ref ka,rfl,rfl,SqT.of (s9 _ _ Jg),at_nonneg (by omega) (by rw [show (0+(j:Int)).toNat=j by omega,UZ,y4];rfl),ka,_,1,.int k0.2,rfl,rfl,SqT.of (s9 _ _ Jf),at1,?_⟩;refine ⟨l2,oa,_,6,yq,outs,S,k0.2,rfl,ab,EI _ _ Az,DT.mono (Same.kt EI),go,by omega,by omega,by decide,by decide,fun pt pa x2 b2 yH yG Nq DV Nr C2 Cz=>?_⟩;have zB:L2.Same H8 yH:=dl yP yG;refine ⟨B6,_,_,rfl,rfl,zB _ _ e8,aF (by rw [UL];omega),?_⟩;exact BY pt pa yH _ _ zB DV Nr (by omega) _ rfl
     · have FQ:=s8 _ _ SN;have Bc:0<(((bs.map V.ref).length:Nat):Int):=by rw [UL];omega
       have y0:=V6 (nb / 4) (show (((bs.map V.ref).length:Nat):Int)≠0 by omega);have y1:=V0 (nb / 4) Bc;refine hid fun ZZ kZ=>?_;obtain ⟨m,hm⟩:∃ m:Nat,nb / 4%(((bs.map V.ref).length:Nat):Int)=(m:Int):=⟨_,(WO y0).symm⟩;have B2:m<bs.length:=by rw [hm,UL] at y1;omega
       obtain ⟨pb,Eu⟩:∃ pb,bs[m]?=some pb:=⟨_,UN B2⟩;obtain ⟨p,hp⟩:∃ p,ps[m]?=some p:=⟨_,UN (by omega)⟩;have HU:PlAt H8 p pb:=(jT zb hp Eu).mono (Same.kt s8);obtain ⟨PR,u,zi⟩:=xY p (UP hp);refine kZ ?_;refine ⟨_,rfl,_,rfl,_,_,rfl,rfl,⟨by decide,by decide⟩,_,rfl,sp,_,rfl,.inl (SqL.of FQ),_,_,rfl,rfl,Bc,sp,_,_,.ref pb,rfl,rfl,SqL.of FQ,at_nonneg y0 (by rw [hm,VT,UZ,Eu];rfl),?_⟩;refine ⟨_,rfl,_,_,rfl,rfl,⟨by decide,by decide⟩,_,rfl,sp,_,rfl,.inl (SqL.of FQ),_,_,rfl,rfl,⟨Bc,by rw [UL];omega⟩,ak (by show 2<=1000000;decide),fun l2 yP=>?_⟩;have s9:L2.Same H8 (upd H8 l2 (.lst [.int (nb / 4 / (((bs.map V.ref).length:Nat):Int)),.int 2])):=ad yP _;have EI:=(s3.trans FP).trans s9;refine ⟨_,rfl,_,rfl,_,rfl,_,rfl,ia,_,_,.ref ka,rfl,rfl,SqT.of (s9 _ _ Jg),at_nonneg (by omega) (by rw [show (0+(j:Int)).toNat=j by omega,UZ,y4];rfl),ka,_,1,.int k0.2,rfl,rfl,SqT.of (s9 _ _ Jf),at1,?_⟩;refine ⟨l2,oa,_,2,yq,outs,S,k0.2,rfl,ab,EI _ _ Az,DT.mono (Same.kt EI),go,by omega,by omega,by decide,by decide,fun pt pa x2 b2 yH yG Nq DV Nr C2 Cz=>?_⟩;have zB:L2.Same H8 yH:=dl yP yG;refine ⟨_,rfl,.inl ⟨rfl,_,SqL.of (zB _ _ e8)⟩,_,rfl,_,rfl,_,rfl,?_⟩;refine ⟨ba,pb,pa,bt,pt,u,p,rfl,Nm.mono (Same.kt (s8.trans zB)),HU.mono (Same.kt zB),DV,zi,by omega,by omega,fun ra yQ yI Jh=>?_⟩;have Ji:=zB.trans yI;have SQ:=pk p bt u pt zi;have SR:=size_pos u;refine ⟨B6,_,_,rfl,rfl,Ji _ _ e8,aF (by rw [UL];omega),?_⟩;exact BY (bt.put p pt) ra yQ _ _ Ji Jh (nW p bt u pt zi (FitS.up SM) Nr) (by omega) _ rfl
   · rintro σ H8 ⟨zq,BP,B4,B5,AO,ts,rfl,s8,e8,Bq,Gs,Nn⟩
     have Nt:ts.length=ins.length:=by
      rw [Gs,UL];omega
     have FP:=Jd.trans s8;have PU:=FP _ _ e3;refine ⟨_,rfl,.inl ⟨rfl,_,SqL.of PU⟩,_,rfl,B6,_,rfl,.inl ⟨SqL.of e8,fun tp Fl=>?_⟩⟩;have s9:L2.Same H8 (upd H8 tp (.tup (AO.map V.ref))):=ad Fl _;have e9:(upd H8 tp (.tup (AO.map V.ref))) tp=some (.tup (AO.map V.ref)):=ab;generalize (upd H8 tp (.tup (AO.map V.ref)))=H9 at s9 e9 ⊢;have PV:=s9 _ _ PU;have SS:rows.length=yM.length:=U2 Gv;refine ⟨rl,_,_,rfl,rfl,PV,aF (by rw [UL];omega),?_⟩;have kt:KT H9 (upd H9 rl (.lst (yM.map V.ref++[.ref tp]))):=aU PV;have EI:=FP.trans s9;refine ⟨_,_,_,_,_,_,_,_,_,yM++[tp],rows++[ts],rfl,ax (s3.trans EI) C4,by rw [ab,U5];rfl,?_,by rw [U8,EG];rfl,fun row xV=>?_⟩
     · refine P2.append (P2.mp (fun _ _ e=>RowAt.mono ((Same.kt EI).trans kt) e) Gv) (.cons ⟨AO,kt _ _ e9,Bq.mono ((Same.kt s9).trans kt)⟩ .nil)
     · rcases VH.mp xV with h | h
       · exact Gw row h
       · rw [Vi.mp h];exact ⟨Nt,Nn⟩
 · rintro σ H3 ⟨c5,c6,c7,c8,c9,zq,BP,B4,B5,yM,rows,rfl,s3,e3,Gv,EG,Gw⟩;refine ⟨_,rfl,rl,_,rfl,.inl ⟨SqL.of e3,fun p hp=>?_⟩⟩;have s4:=ad hp (.tup (yM.map V.ref));exact q p yM rows _ (s3.trans s4) ab (P2.mp (fun _ _ e=>RowAt.mono (Same.kt s4) e) Gv) (by omega) Gw
inductive gH (K:UO) (vs:List V) (H:Hp) (Q:VK) (_E:XK):Prop
 | mk (a:UQ) (ns:List Int) (k:Int) (yf:vs=[.ref a,.int k]) (yg:SqL K H a (ns.map V.int)) (yl:0<=k) (yx:∀ c:Int,Q (.int c) H):gH K vs H Q _E
def nQ (K:UO):Sp:=gH K
theorem cr:bn P w K mg base CX0 1 T.g__law_cell.f T.g__law_cell.d ["script","k"] (nQ K):=by
 refine T.g__law_cell.F.ok nK (fun vs H Q E h=>?_) (fun yc A outer s H vs Q E hr h=>?_)
 · obtain ⟨a,ns,k,rfl,_⟩:=h;rfl
 obtain ⟨a,ns,k,rfl,hS,h0,q⟩:=h
 refine ⟨_,(ae (bY (aP mx (pv 1) (aB aq rfl T.n_len Vu (aa (pv 0) ac)) (aS _)) (ag (aD (ay aO (pv 0) (pv 1) (fun _ _=>rfl)))) bO)
  (ag (aD af))),?_⟩
 try dsimp only [yz,xZ]
 refine ⟨_,rfl,_,rfl,a,_,rfl,.inl hS,_,_,rfl,rfl,_,rfl,?_⟩;refine cP (fun c=>?_) (fun c=>q 0);have c':k<(((ns.map V.int).length:Nat):Int):=of_decide_eq_true c;rw [UL] at c';exact ⟨_,rfl,_,rfl,a,_,k,_,rfl,rfl,hS,int_at h0 c',q _⟩
inductive gI (vs:List V) (H:Hp) (Q:VK) (_E:XK):Prop
 | mk (ca ia oa:UQ) (cs:List Int) (yb yq:List UQ) (ins outs:List (Vm×Int)) (S:Int) (yf:vs=[.ref ca,.ref ia,.ref oa,.int S]) (yg:H ca=some (.lst (cs.map V.int))) (yl:H ia=some (.tup (yb.map V.ref))) (yx:KsAt H ins yb) (yK:bV ins) (zJ:H oa=some (.tup (yq.map V.ref))) (Bv:KsAt H outs yq) (BZ:bV outs) (Ep:0<=S) (Fq:S<=1000) (Fu:1+S.toNat * (ins.length+1)<=cs.length) (Fv:cs.length<=100000) (Nk:∀ (r:UQ) (head:Th) (rows:List (List Th)) (H':Hp),L2.Same H H'->Bk H' ins outs head rows r->vb ins outs S 9 head rows->head.size<=5->Q (.ref r) H'):gI  vs H Q _E
def nq:Sp:=gI
set_option maxHeartbeats 1000000 in
theorem nh:bn P w K mg base CX0 11 T.g__law_book.f T.g__law_book.d ["cells","ins","outs","states"] nq:=by
 refine T.g__law_book.F.ok iY (fun vs H Q E h=>?_) (fun yc A outer s H vs Q E hr h=>?_)
 · obtain ⟨ca,ia,oa,cs,yb,yq,ins,outs,S,rfl,_⟩:=h;rfl
 obtain ⟨ca,ia,oa,cs,yb,yq,ins,outs,S,rfl,Ky,FN,AE,gi,Az,DT,go,S0,S1,zY,Ic,q⟩:=h
 refine ⟨_,(ae (av (i:=4) iY.nd rfl (U9 rfl) (pcF T.g__law_thing (cB T 6) hr (aa (bu (aa (pcF T.g__law_mixed (cX T) hr (aa (ay aO (pv 0) af (fun _ _=>rfl)) (aa af ac))) (aa af ac))) (aa (pv 2) (aa (pv 3) (aa af ac))))))
  (ag (aD (aI (aa (pv 1) (aa (pv 2) (aa (pv 4) (aa (pcF T.g__law_rows (mK T) hr (aa (bx nj (pv 0) (bD af) b8) (aa (pv 1) (aa (pv 2) (aa (pv 3) ac))))) ac)))))))),?_⟩
 try dsimp only [yz,xZ]
 obtain ⟨d0,B0⟩:∃ d0,cs[0]?=some d0:=⟨_,UN (by omega)⟩;refine ⟨_,rfl,ca,_,0,.int d0,rfl,rfl,SqL.of Ky,at_nonneg (by decide) (by show (cs.map V.int)[0]?=_;rw [UZ,B0];rfl),_,_,rfl,fun z=>?_⟩;refine ⟨ak (by show 2<=1000000;decide),fun l1 y9=>?_⟩;have s5:L2.Same H (upd H l1 (.lst [.int z,.int 4])):=ad y9 _;refine ⟨_,rfl,_,rfl,l1,oa,z,4,yq,outs,S,1,rfl,ab,s5 _ _ Az,DT.mono (Same.kt s5),go,by omega,by decide,by decide,by decide,fun ht ha x' b' H1 SU Uo hA hF De hz=>?_⟩;have s1:L2.Same H H1:=dl y9 SU;refine ⟨_,rfl,_,rfl,_,rfl,_,rfl,1,rfl,ca,_,rfl,SqL.of (s1 _ _ Ky),fun cl Nu=>?_⟩
 try dsimp only
 rw [show (some (1:Int))=some ((1:Nat):Int) from rfl,jk (by rw [UL];omega),<- Z1];have s2:L2.Same H1 (upd H1 cl (.lst ((cs.drop 1).map V.int))):=ad Nu _;have e2:(upd H1 cl (.lst ((cs.drop 1).map V.int))) cl=some (.lst ((cs.drop 1).map V.int)):=ab;generalize (upd H1 cl (.lst ((cs.drop 1).map V.int)))=H2 at s2 e2 ⊢;have yF:=s1.trans s2;refine ⟨_,rfl,_,rfl,_,rfl,cl,ia,oa,cs.drop 1,yb,yq,ins,outs,S,rfl,e2,yF _ _ FN,AE.mono (Same.kt yF),gi,yF _ _ Az,DT.mono (Same.kt yF),go,S0,S1,by rw [Wa];omega,by rw [Wa];omega,fun r yM rows H3 s3 er Gv EG Gw=>?_⟩;refine ⟨ak (by show 4<=1000000;decide),fun p hp=>?_⟩;have s4:=ad hp (.tup [.ref ia,.ref oa,.ref ha,.ref r]);have EJ:=s3.trans s4;have Jj:=yF.trans EJ;refine q p ht rows _ Jj ⟨ia,oa,ha,r,yb,yq,yM,ab,Jj _ _ FN,AE.mono (Same.kt Jj),Jj _ _ Az,DT.mono (Same.kt Jj),hA.mono (Same.kt (s2.trans EJ)),s4 _ _ er,P2.mp (fun _ _ e=>RowAt.mono (Same.kt s4) e) Gv⟩ ⟨EG,fun row h=>(Gw row h).1,fun row h=>(Gw row h).2,hF,by omega⟩ (by omega)
inductive fY (K:UO) (vs:List V) (H:Hp) (Q:VK) (_E:XK):Prop
 | mk (a:UQ) (ns:List Int) (most:Int) (yf:vs=[.ref a,.int most]) (yg:SqL K H a (ns.map V.int)) (yl:ns.length<=63) (yx:1<=most) (yK:most<=16) (zJ:∀ (r:UQ) (ins outs:List (Vm×Int)) (S:Int) (head:Th) (rows:List (List Th)) (H':Hp),L2.Same H H'->Bk H' ins outs head rows r->bV ins->bV outs->S<=16->vb ins outs S 9 head rows->head.size<=5->Q (.ref r) H'):fY K vs H Q _E
def lK (K:UO):Sp:=fY K
set_option maxHeartbeats 1000000 in
theorem lN:bn P w K mg base CX0 12 T.g__law_drawn.f T.g__law_drawn.d ["script","most"] (lK K):=by
 refine T.g__law_drawn.F.ok cy (fun vs H Q E h=>?_) (fun yc A outer s H vs Q E hr h=>?_)
 · obtain ⟨a,ns,most,rfl,_⟩:=h;rfl
 obtain ⟨a,ns,most,rfl,hS,Cd,m1,m2,q⟩:=h
 refine ⟨_,(ae (av (i:=2) cy.nd rfl (U9 rfl) (pcF T.g__law_kinds (gG T) hr (aa (pcF T.g__law_cell (cr T) hr (aa (pv 0) (aa af ac))) (aa (pcF T.g__law_names (gO T) hr (aa (pcF T.g__law_cell (cr T) hr (aa (pv 0) (aa af ac))) ac)) ac))))
  (ae (av (i:=3) cy.nd rfl (U9 rfl) (pcF T.g__law_kinds (gG T) hr (aa (pcF T.g__law_cell (cr T) hr (aa (pv 0) (aa af ac))) (aa (pcF T.g__law_names (gO T) hr (aa (aw bF (aw bR (pcF T.g__law_cell (cr T) hr (aa (pv 0) (aa af ac))) af) af) ac)) ac))))
  (ae (av (i:=4) cy.nd rfl (U9 rfl) (aw bF af (aw bz (pcF T.g__law_cell (cr T) hr (aa (pv 0) (aa af ac))) (pv 1))))
  (ae (av (i:=5) cy.nd rfl (U9 rfl) (pcF T.g__law_folded (lg T) hr (aa (bx nj (pv 0) (bD af) b8) (aa (aw bF af (aw cJ (pv 4) (aw bF (aB aq rfl T.n_len Vu (aa (pv 2) ac)) af))) ac))))
  (ag (aD (pcF T.g__law_book (nh T) hr (aa (pv 5) (aa (pv 2) (aa (pv 3) (aa (pv 4) ac))))))))))),?_⟩
 try dsimp only [yz,xZ]
 refine ⟨_,rfl,a,ns,1,rfl,hS,by decide,fun c1=>?_⟩;refine ⟨_,rfl,a,ns,0,rfl,hS,by decide,fun c0=>⟨c0,rfl,fun na ws H1 s1 M' yE=>?_⟩⟩;refine ⟨c1,na,ws,rfl,M',yE,fun ia yb ins H2 s2 FN AE gi PH=>?_⟩;have yF:=s1.trans s2;refine ⟨_,rfl,a,ns,2,rfl,yF.seq hS,by decide,fun c2=>?_⟩;refine ⟨_,rfl,a,ns,0,rfl,yF.seq hS,by decide,fun Up=>⟨_,_,rfl,rfl,⟨by decide,by decide⟩,_,_,rfl,rfl,_,rfl,fun nb wo H3 s3 SV Fn=>?_⟩⟩;refine ⟨c2,nb,wo,rfl,SV,Fn,fun oa yq outs H4 s4 Az DT go Uq=>?_⟩;have EJ:=s3.trans s4;have BN:=yF.trans EJ;have zK:ins.length=yb.length:=U2 AE;refine ⟨_,rfl,a,ns,3,rfl,BN.seq hS,by decide,fun c3=>?_⟩;have z0:=V6 c3 (show most≠0 by omega);have z1:=V0 c3 (show 0<most by omega);refine ⟨_,rfl,_,_,rfl,rfl,(by show 0<most;omega),_,_,rfl,rfl,?_⟩
 try dsimp only [aG]
 obtain ⟨S,J4⟩:∃ S:Int,S=1+c3%most:=⟨_,rfl⟩;have S1:1<=S:=by omega
 have S2:S<=16:=by omega
 rw [<- J4];refine ⟨_,rfl,4,rfl,a,_,rfl,BN.seq hS,fun cl zY=>?_⟩;obtain ⟨cs,BV,Mv⟩:=rH ns (some 4) none
 try dsimp only
 rw [BV];have s5:L2.Same H4 (upd H4 cl (.lst (cs.map V.int))):=ad zY _;have e5:(upd H4 cl (.lst (cs.map V.int))) cl=some (.lst (cs.map V.int)):=ab;generalize (upd H4 cl (.lst (cs.map V.int)))=H5 at s5 e5 ⊢;have Df:=EJ.trans s5;have Nv:=Df _ _ FN
 have Nw:S * ((((yb.map V.ref).length:Nat):Int)+1)=((S.toNat * (ins.length+1):Nat):Int):=by
  rw [UL,<- zK];have:((S.toNat:Nat):Int)=S:=by omega
  simp [this]
 have Ur:S.toNat * (ins.length+1)<=100 * 5:=Nat.mul_le_mul (by omega) (by omega);refine ⟨_,rfl,_,rfl,ia,_,rfl,.inr (SqT.of Nv),_,_,rfl,rfl,_,_,rfl,rfl,.inl ⟨by omega,by omega⟩,_,_,rfl,rfl,cl,cs,_,rfl,e5,by omega,by rw [Nw];omega,by rw [Nw];omega,fun r ds H6 s6 er B1=>?_⟩;rw [Nw] at B1;have CU:=Df.trans s6;have CT:=s5.trans s6;refine ⟨_,rfl,_,rfl,_,rfl,_,rfl,r,ia,oa,ds,yb,yq,ins,outs,S,rfl,er,CU _ _ FN,AE.mono (Same.kt CU),gi,CT _ _ Az,DT.mono (Same.kt CT),go,by omega,by omega,by omega,by omega,fun bk head rows H7 s7 Ko hok PX=>?_⟩;exact q bk ins outs S head rows H7 (yF.trans (CU.trans s7)) Ko gi go (by omega) hok PX
inductive gL (n:Nat) (vs:List V) (H:Hp) (Q:VK) (_E:XK):Prop
 | mk (l ia:UQ) (x b deep:Int) (yb:List UQ) (ins:List (Vm×Int)) (yf:vs=[.ref l,.ref ia,.int deep]) (yg:H l=some (.lst [.int x,.int b])) (yl:H ia=some (.tup (yb.map V.ref))) (yx:KsAt H ins yb) (yK:bV ins) (zJ:0<=b) (Bv:1<=deep) (BZ:deep<=(n:Int)) (Ep:∀ (t:Th) (r:UQ) (x' b':Int) (H':Hp),SameB l H H'->H' l=some (.lst [.int x',.int b'])->At H' t r->t.Fit ins->0<=b'->(t.size:Int)+b'=b+1->(t.tall:Int)<=deep->Q (.ref r) H'):gL n vs H Q _E
def nD (n:Nat):Sp:=gL n
set_option maxHeartbeats 2000000 in
theorem iH:∀ n:Nat,bn P w K mg base CX0 n T.g__law_tree.f T.g__law_tree.d ["left","ins","deep"] (nD n)
 | 0=>⟨fun _ _ _ _ h=>by obtain ⟨_,_,_,_,_,_,_,_,_,_,_,_,_,h1,h2,_⟩:=h;omega,fun _ _ _ _ _ _ _ _ _ _ _ _ _ h=>by obtain ⟨_,_,_,_,_,_,_,_,_,_,_,_,_,h1,h2,_⟩:=h;omega⟩
 | n+1=>by
   have ih:=iH n;refine T.g__law_tree.F.ok cu (fun vs H Q E h=>?_) (fun yc A outer s H vs Q E hr h=>?_)
   · obtain ⟨l,ia,x,b,deep,yb,ins,rfl,_⟩:=h;rfl
   obtain ⟨l,ia,x1,b,deep,yb,ins,rfl,e1,EF,BO,g,b0,d0,d1,q⟩:=h
   refine ⟨_,(ae (di (i:=3) (N:=[UU "kind",UU "deep",UU "left"]) (js:=[none,some 2,some 0]) (g:=(aG 0)) (tt:=(tOr (k9 (tOp (rEq) (tOp (rL K) (bp 0) (tC (.int 1))) (tC (.int 0)))) (wD (k9 (tOp (rI0 fun i j=>.bl (decide (j<i))) (bp 1) (tC (.int 1)))) (k9 (tOp (rI0 fun i j=>.bl (decide (i<=j))) (tOp (rL K) (bp 0) (tC (.int 1))) (tOp (ut K) (bp 2) (tC (.int 1)))))))) (te:=(bp 0)) cu.nd rfl (U9 rfl) rfl (cx rfl (by decide +kernel) (by decide +kernel) rfl rfl rfl) (jc (pv 1)) (fun _ _ _ _ _ _=>(aj (i:=0) wV rfl (U9 rfl))) (aR rfl) (fun _ _ _ _ _ _=>iK (PW.pt (mr (aP cZ (ay aC (pv 0) af (fun _ _=>rfl)) af (aS _)) (kG (PW.pt (ql (aP rh (pv 1) af (aS _)) (rc (aP vg (ay aC (pv 0) af (fun _ _=>rfl)) (ay aO (pv 2) af (fun _ _=>rfl)) (aS _))))))))) (fun _ _ _ _ _ _=>(pv 0)))
    (ae (av (i:=4) cu.nd rfl (U9 rfl) (ay aO (pv 3) (aw bz (ay aO (pv 0) af (fun _ _=>rfl)) (aB aq rfl T.n_len Vu (aa (pv 3) ac))) (fun _ _=>rfl)))
    (ae (cE (aw bR (ay aO (pv 0) af (fun _ _=>rfl)) (aB aq rfl T.n_len Vu (aa (pv 3) ac))) (fR (pv 0) af set_list))
    (ae (cE (aw eV (ay aO (pv 0) af (fun _ _=>rfl)) (ay aC (pv 4) af (fun _ _=>rfl))) (fR (pv 0) af set_list))
    (ae (av (i:=5) cu.nd rfl (U9 rfl) (aI (aa (ay aC (pv 4) af (fun _ _=>rfl)) ac)))
    (ae (bi Vq rfl (bq rfl T.n_range (aa (ay aC (pv 4) af (fun _ _=>rfl)) ac)) (aj (i:=6) cu.nd rfl (U9 rfl)) (ag (av (i:=5) cu.nd rfl (U9 rfl) (aw cK (pv 5) (aI (aa (fc (ih) (hr.mono (UR _)) rfl T.g__law_tree.m T.g__law_tree.F.kp T.g__law_tree.b .nil lv (aa (pv 0) (aa (pv 1) (aa (aw eV (pv 2) af) ac)))) ac))))))
    (ag (aD (pv 5))))))))),?_⟩
   try dsimp only [yz,xZ]
   have yX:ins.length=yb.length:=U2 BO;have Su:=g.le;have IW:=g.ne;have Oo:ia≠l:=eP EF e1 (by intro z;cases z);obtain ⟨kz,Gh,IX⟩:=g.zero;refine ⟨_,rfl,ia,rfl,⟨_,SqT.of EF⟩,ki (K:=K) (fun k=>decide (V.int k.2=V.int 0) || (decide (1<deep) && decide (k.2<=b))) EF BO (by omega) ⟨kz,Gh,by rw [IX];rfl⟩ (fun z ka H2 R sm hz r=>?_) (fun ka H2 R r=>⟨_,rfl,r⟩) (fun D bs H2 hD e' CA Ku yw=>?_)⟩
   · refine ⟨_,rfl,ka,_,1,_,rfl,rfl,SqT.of hz,at1,rfl,_,rfl,?_⟩;refine cP (fun c=>?_) (fun c=>?_)
     · rw [c] at r;exact r
     · rw [V5.mpr c] at r;refine ⟨_,rfl,_,_,rfl,rfl,_,rfl,?_⟩;refine cP (fun c2=>?_) (fun c2=>?_)
       · rw [c2] at r;exact ⟨_,rfl,ka,_,1,_,rfl,rfl,SqT.of hz,at1,_,rfl,l,_,1,.int b,rfl,rfl,SqL.of (sm _ _ e1),at1,_,_,rfl,rfl,_,rfl,r⟩
       · rw [V5.mpr c2] at r;exact r
   have s2:L2.Same H H2:=by rw [e'];exact ad hD _
   have eD:H2 D=some (.lst (bs.map fun z=>V.ref z.2)):=by rw [e'];exact ab
   have EB:D≠l:=fun z=>by rw [z,e1] at hD;cases hD
   have DS:=s2 _ _ e1;clear e';have Bc:0<((bs.map fun z=>V.ref z.2).length:Int):=by rw [UL];omega
   have y0:=V6 x1 (show ((bs.map fun z=>V.ref z.2).length:Int)≠0 by omega);have y1:=V0 x1 Bc;refine hid fun ZZ kZ=>?_;obtain ⟨z,hz⟩:∃ z,bs[(x1%((bs.map fun z=>V.ref z.2).length:Int)).toNat]?=some z:=⟨_,UN (by rw [UL] at y1 ⊢;omega)⟩;obtain ⟨yN,gp,Dr⟩:=yw z (UP hz);obtain ⟨k0,ka⟩:=z;refine kZ ?_;dsimp only at yN gp Dr hz;have Ba:=g.num k0 yN
   have Sv:k0.2=0∨(1<deep/\k0.2<=b):=by
    rcases Bool.or_eq_true .. |>.mp gp with h | h
    · exact .inl (V.int.inj (of_decide_eq_true h))
    · obtain ⟨h1,h2⟩:=WC .. |>.mp h;exact .inr ⟨of_decide_eq_true h1,of_decide_eq_true h2⟩
   refine ⟨_,rfl,_,rfl,l,_,0,.int x1,rfl,rfl,SqL.of DS,at0,_,rfl,D,_,rfl,.inl (SqL.of eD),_,_,rfl,rfl,Bc,D,_,_,.ref ka,rfl,rfl,SqL.of eD,at_nonneg y0 (by rw [UZ,hz];rfl),?_⟩
   try dsimp only [aG]
   refine ⟨_,rfl,l,_,0,.int x1,rfl,rfl,SqL.of DS,at0,_,rfl,D,_,rfl,.inl (SqL.of eD),_,_,rfl,rfl,⟨Bc,by rw [UL];omega⟩,_,rfl,l,_,_,0,rfl,rfl,DS,rfl,?_⟩;have s3:SameB l H2 (upd H2 l (.lst [.int (x1 / ((bs.map fun z=>V.ref z.2).length:Int)),.int b])):=.set;have e3:(upd H2 l (.lst [.int (x1 / ((bs.map fun z=>V.ref z.2).length:Int)),.int b])) l=some (.lst [.int (x1 / ((bs.map fun z=>V.ref z.2).length:Int)),.int b]):=ab
   try dsimp only [ZN]
   generalize (upd H2 l (.lst [.int (x1 / ((bs.map fun z=>V.ref z.2).length:Int)),.int b]))=H3 at s3 e3 ⊢;generalize x1 / ((bs.map fun z=>V.ref z.2).length:Int)=x3 at e3;have C6:KT H2 H3:=s3.kt DS;have CP:H3 ka=some (.tup [.str k0.1,.int k0.2]):=C6 _ _ (s2 _ _ Dr);refine ⟨_,rfl,l,_,1,.int b,rfl,rfl,SqL.of e3,at1,_,rfl,ka,_,1,.int k0.2,rfl,rfl,SqT.of CP,at1,_,_,rfl,rfl,_,rfl,l,_,_,1,rfl,rfl,e3,rfl,?_⟩;have s4:SameB l H3 (upd H3 l (.lst [.int x3,.int (b - k0.2)])):=.set;have e4:(upd H3 l (.lst [.int x3,.int (b - k0.2)])) l=some (.lst [.int x3,.int (b - k0.2)]):=ab
   try dsimp only [ZN]
   generalize (upd H3 l (.lst [.int x3,.int (b - k0.2)]))=H4 at s4 e4 ⊢;have C8:KT H3 H4:=s4.kt e3;have CQ:=C8 _ _ CP;refine ⟨_,rfl,ka,_,0,.str k0.1,rfl,rfl,SqT.of CQ,at0,ak (by show 1<=1000000;decide),fun ma Na=>?_⟩;have s5:L2.Same H4 (upd H4 ma (.tup [.str k0.1])):=ad Na _;have e5:(upd H4 ma (.tup [.str k0.1])) ma=some (.tup (.str k0.1::([]:List UQ).map V.ref)):=ab
   try dsimp only
   generalize (upd H4 ma (.tup [.str k0.1]))=H5 at s5 e5 ⊢;have CS:KT H H5:=(Same.kt s2).trans (C6.trans (C8.trans (Same.kt s5)));have FI:=s5 _ _ CQ;have IY:=s5 _ _ e4;have Es:SameB l H H5:=(SameB.of s2).trans (s3.trans (s4.trans (.of s5)));refine ⟨_,rfl,ka,_,1,_,rfl,rfl,SqT.of FI,at1,k0.2,rfl,by omega,by omega,?_⟩
   refine bB (n:=k0.2.toNat) (fun i σ H6=>Ex6 fun (kv:Option V) (ma:UQ) (zy:List UQ) (ts:List Th) (x' b':Int)=>An9 (σ=[some (.ref l),some (.ref ia),some (.int deep),some (.ref D),some (.ref ka),some (.ref ma),kv]) (SameB l H5 H6) (H6 l=some (.lst [.int x',.int b'])) (H6 ma=some (.tup (.str k0.1::zy.map V.ref))) (Ats H6 ts zy) (ts.length=i) ((∀ t∈ts,t.Fit ins/\(t.tall:Int)<=deep - 1)) (0<=b') ((ao ts:Int)+b'=b - k0.2+(i:Int)))
    ⟨none,ma,[],[],x3,b - k0.2,rfl,.refl,IY,e5,.nil,rfl,(fun t ht=>by cases ht),by omega,by rw [ao];show (0:Int)+(b - k0.2)=b - k0.2+0;omega⟩ ?_ ?_
   · rintro i σ H6 hi ⟨kv,ma,zy,ts,x',b',rfl,s6,Dd,FJ,Bq,yv,xY,De,FK⟩;have Sw:i<k0.2.toNat:=hi;have BC:KT H5 H6:=s6.kt IY;refine ⟨_,rfl,_,rfl,_,rfl,_,rfl,_,_,rfl,rfl,l,ia,x',b',deep - 1,yb,ins,rfl,Dd,(CS.trans BC) _ _ EF,BO.mono (CS.trans BC),g,De,by omega,by omega,fun t r x7 b7 H7 s7 Nb zH yU ED Nc FR=>?_⟩;have AM:KT H6 H7:=s7.kt Dd;refine ⟨ak (by show 1<=1000000;decide),fun p1 Ac=>?_⟩;have s8:L2.Same H7 (upd H7 p1 (.tup [.ref r])):=ad Ac _;have e8:(upd H7 p1 (.tup [.ref r])) p1=some (.tup [.ref r]):=ab;generalize (upd H7 p1 (.tup [.ref r]))=H8 at s8 e8 ⊢;have zT:zy.length=ts.length:=Bq.length;refine kB (s8 _ _ (AM _ _ FJ)) e8 (by rw [U1,UL];show zy.length+1+1<=1000000;omega) fun p H9 s9 e9=>?_;have Br:=s8.trans s9;refine ⟨_,p,zy++[r],ts++[t],x7,b7,rfl,s6.trans (s7.trans (.of Br)),Br _ _ Nb,?_,?_,?_,?_,ED,?_⟩
     · rw [e9,U5];rfl
     · exact (Bq.mono (AM.trans (Same.kt Br))).append (.cons (zH.mono (Same.kt Br)) .nil)
     · rw [U8,yv];rfl
     · intro u hu;rcases VH.mp hu with hu | hu
       · exact xY u hu
       · rw [Vi.mp hu];exact ⟨yU,FR⟩
     · rw [aY,ao,ao];omega
   · rintro σ H6 ⟨kv,ma,zy,ts,x',b',rfl,s6,Dd,FJ,Bq,yv,xY,De,FK⟩;have Bi:=(g.low k0 yN).1;refine ⟨_,rfl,q (.knot k0.1 ts) ma x' b' H6 (Es.trans s6) Dd ?_ ?_ De ?_ ?_⟩
     · rw [At];exact ⟨oB Bi,zy,FJ,Bq⟩
     · rw [Th.Fit];refine ⟨?_,Fits.of fun t ht=>(xY t ht).1⟩
       have:(k0.1,(ts.length:Int))=k0:=by
        rw [yv];exact Prod.ext rfl (by show ((k0.2.toNat:Nat):Int)=k0.2;omega)
       rw [this];exact yN
     · rw [Th.size];have:((k0.2.toNat:Nat):Int)=k0.2:=by omega
       omega
     · rw [Th.tall];have h1:bw ts<=(deep - 1).toNat:=jp fun t ht=>by have:=(xY t ht).2;omega
       omega
inductive gZ (P:U6) (w:Vj) (K:UO) (vs:List V) (H:Hp) (Q:VK) (_E:XK):Prop
 | mk (b:UQ) (ins outs:List (Vm×Int)) (head:Th) (rows:List (List Th)) (yf:vs=[.ref b]) (yg:Bk H ins outs head rows b) (yl:FrK ins outs rows) (yx:bV outs) (yK:∀ (fl:UQ) (fs:List UQ) (f':List (az×V)) (H':Hp),L2.Same H H'->H' fl=some (.lst (fs.map V.ref))->Vs (fun s a=>AtK K H' ((frS ins rows s).cut (Dk f' (s:Nat)) []) a) (Vp rows.length) fs->FrD ins rows (f'.map (·.1))->KeyM ins rows f'->Q (.ref fl) H'):gZ P w K vs H Q _E
def ny (P:U6) (w:Vj) (K:UO):Sp:=gZ P w K
theorem i0:bn P w K mg base CX0 8 T.g_fronts_of.f T.g_fronts_of.d ["book"] (ny P w K):=by
 refine T.g_fronts_of.F.ok fw (fun vs H Q E h=>?_) (fun yc A outer s0 H vs Q E hr h=>?_)
 · obtain ⟨b,ins,outs,head,rows,rfl,_⟩:=h;rfl
 obtain ⟨b,ins,outs,head,rows,rfl,hB,F,go,k⟩:=h
 refine ⟨_,(ae (cE (pcF T.g_found_fronts (fF T) hr (aa (pv 0) ac)) (bo rfl (au (aj (i:=1) fw.nd rfl (U9 rfl)) (au (aj (i:=2) fw.nd rfl (U9 rfl)) aX))))
  (ag (aD (pv 1)))),?_⟩
 try dsimp only [yz,xZ]
 refine ⟨_,rfl,b,ins,outs,head,rows,rfl,hB,F,go,fun r fl pt fs f' H1 s1 er zC FT Gq hD hK=>?_⟩;exact ⟨r,_,rfl,SqT.of er,rfl,_,_,rfl,_,_,rfl,rfl,_,rfl,k fl fs f' H1 s1 zC FT hD hK⟩
def eW (t:Th):List (List Int):=((t.pl []).filter fun p=>p.2.isHole).map (·.1)
theorem tz (t:Th):(eW t).length<=t.size:=by
 unfold eW;rw [UL];have:=Xq (fun p:List Int×Th=>p.2.isHole) (t.pl []);rw [Th.pl_len] at this;exact this
theorem tL {t:Th} {pl:List Int}:pl∈eW t↔∃ v,In t pl v/\v.isHole=true:=by
 unfold eW;constructor
 · intro h;obtain ⟨x,hx,rfl⟩:=VM.mp h;obtain ⟨h1,h2⟩:=WA.mp hx;exact ⟨x.2,In.of _ (UR _) h1,h2⟩
 · rintro ⟨v,h1,h2⟩;exact VM.mpr ⟨(pl,v),WA.mpr ⟨In.to h1,h2⟩,rfl⟩
theorem qW {D:List Int->Bool}:∀ (n:Nat) (t:Th) (pre pl:List Int) (v:Th),t.size<=n->t.noCall->In (t.cut D pre) pl v->v.isHole=true->D (pre++pl)=true∨∃ u,In t pl u/\u.isHole=true
 | 0,t,_,_,_,hn=>by have:=t.size_pos;omega
 | n+1,.call a b,_,_,_,_=>fun h=>by rw [Th.noCall] at h;exact h.elim
 | n+1,.knot m ks,pre,pl,v,hn=>fun hc hi hh=>by
   rw [Th.cut] at hi;by_cases hq:(Th.knot m ks).isHole=true∨D pre=true
   · rw [if_pos hq,hole] at hi;cases hi with
     | here =>
       rcases hq with h | h
       · exact .inr ⟨_,.here,h⟩
       · exact .inl (by rw [VB];exact h)
     | kid hj _=>simp at hj
   · rw [if_neg hq] at hi;cases hi with
     | here =>
       exfalso;refine hq (.inl ?_);rw [Th.isHole,decide_eq_true_iff] at hh ⊢;refine ⟨hh.1,Wc.mp ?_⟩;rw [<- cO (D:=D) (pre:=pre) (i:=0),hh.2];rfl
     | kid hj hr =>
       rename_i j u r
       rw [eK,Vr] at hj;obtain ⟨w,hw,rfl⟩:=hj;rw [Th.size] at hn;rw [Th.noCall] at hc;have hz:=aK (UP hw);rcases qW n w _ r v (by omega) (bZ hc (UP hw)) hr hh with h | ⟨u,h1,h2⟩
       · refine .inl ?_;rw [Ws,VN] at h;exact h
       · exact .inr ⟨u,.kid hw h1,h2⟩
theorem nU (D:List Int->Bool):∀ (n:Nat) (t:Th) (pre:List Int),t.size<=n->(t.cut D pre).tall<=t.tall
 | 0,t,_,hn=>by have:=t.size_pos;omega
 | n+1,.call a b,pre,hn=>by rw [Th.cut,hole,Th.tall,Th.tall,bw];exact UR _
 | n+1,.knot m ks,pre,hn=>by
   rw [Th.cut];split
   · rw [hole,Th.tall,Th.tall,bw];omega
   · rw [Th.size] at hn;rw [Th.tall,Th.tall]
     have:bw (cz D pre 0 ks)<=bw ks:=jp fun t ht=>by
      obtain ⟨j,hj⟩:=Vc.mp ht;rw [eK,Vr] at hj;obtain ⟨u,hu,rfl⟩:=hj;have hm:=UP hu;have h1:=aK hm;have h2:=cg hm;have h3:=nU D n u (pre++[0+(j:Int)]) (by omega);omega
     omega
def PrL (H:Hp) (R:Nat->List Int->Th->Th->Prop) (fr:Nat->Th) (N:Nat) (pl:UQ) (ls:List UQ):Prop:=H pl=some (.lst (ls.map V.ref))/\Vs (fun s la=>∃ prs:List UQ,H la=some (.lst (prs.map V.ref))/\Vs (fun h pr=>PtV H (R s h) (.ref pr)) (eW (fr s)) prs) (Vp N) ls
def Rp (ins:List (Vm×Int)) (rows:List (List Th)) (M:Nat) (s:Nat) (h:List Int) (t1 t2:Th):Prop:=∃ j,j<M/\Vl0 ins rows j (nk (s:Nat) h) t1 t2
theorem lY {α:Type} {f:α->V} {R:α->UQ->Prop}:∀ {zs:List α},(∀ z∈zs,∃ a,f z=.ref a/\R z a)->∃ as:List UQ,zs.map f=as.map V.ref/\Vs R zs as
 | [],_=>⟨[],rfl,.nil⟩
 | z::zs,h=>by
   refine hid fun ZZ kZ=>?_;obtain ⟨a,h1,h2⟩:=h z (Vk ..);obtain ⟨as,h3,h4⟩:=lY (zs:=zs) fun y hy=>h y (Vf _ hy);refine kZ ?_;exact ⟨a::as,by rw [VJ,VJ,h1,h3],.cons h2 h4⟩
inductive fG (P:U6) (w:Vj) (K:UO) (vs:List V) (H:Hp) (Q:VK) (_E:XK):Prop
 | mk (b:UQ) (ins outs:List (Vm×Int)) (head:Th) (rows:List (List Th)) (yf:vs=[.ref b]) (yg:Bk H ins outs head rows b) (yl:FrK ins outs rows) (yx:bV outs) (yK:∀ (pl:UQ) (ls:List UQ) (f':List (az×V)) (H':Hp),L2.Same H H'->FrD ins rows (f'.map (·.1))->KeyM ins rows f'->PrL H' (Rp ins rows (g8 ins rows).length) (fun s=>(frS ins rows s).cut (Dk f' (s:Nat)) []) rows.length pl ls->H pl=none->(∀ la∈ls,H la=none/\la≠pl)->Q (.ref pl) H'):fG P w K vs H Q _E
def kF (P:U6) (w:Vj) (K:UO):Sp:=fG P w K
set_option maxHeartbeats 1000000 in
theorem gg:bn P w K mg base CX0 8 T.g_partings_of.f T.g_partings_of.d ["book"] (kF P w K):=by
 refine T.g_partings_of.F.ok bT (fun vs H Q E h=>?_) (fun yc A outer s0 H vs Q E hr h=>?_)
 · obtain ⟨b,ins,outs,head,rows,rfl,_⟩:=h;rfl
 obtain ⟨b,ins,outs,head,rows,rfl,hB,F,go,k⟩:=h
 refine ⟨_,(ae (cE (pcF T.g_found_fronts (fF T) hr (aa (pv 0) ac)) (bo rfl (au (aj (i:=1) bT.nd rfl (U9 rfl)) (au (aj (i:=2) bT.nd rfl (Zh rfl)) aX))))
  (ae (av (i:=3) bT.nd rfl (U9 rfl) (bu ac))
  (ae (bi Vq rfl (kL rfl T.n_enumerate (pv 1)) (bo rfl (au (aj (i:=4) bT.nd rfl (Zh rfl)) (au (aj (i:=5) bT.nd rfl (U9 rfl)) aX))) (ag (aL (bE U3 Vh Vg aN (pv 3) (aa (cD (N:=[UU "place",UU "partings",UU "state"]) (js:=[none,some 2,some 4]) (g:=(aG 0)) (tt:=bH) (te:=(tf P w (bp 1) (lJ (bA (bp 2) (bA (bp 0) dL))))) rfl (cx rfl (by decide +kernel) (by decide +kernel) rfl rfl rfl) (bQ (pcF T.g_holes_in (jw T) hr (aa (pv 5) ac))) (fun _ _ _ _ _ _=>(aj (i:=0) xh rfl (U9 rfl))) (aR rfl) (fun _ _ _ _ _ _=>bS) (fun _ _ _ _ _ _=>(ph (gb hr) (pv 1) (aI (aa (pv 2) (aa (pv 0) ac))) (fun _ _=>rfl)))) ac)))))
  (ag (aD (pv 3)))))),?_⟩
 try dsimp only [yz,xZ]
 refine ⟨_,rfl,b,ins,outs,head,rows,rfl,hB,F,go,fun r fl pt fs f' H1 s1 er zC FT Gq hD hK=>?_⟩;refine ⟨r,_,rfl,SqT.of er,rfl,_,_,rfl,_,_,rfl,rfl,?_⟩;have hle:=F.le;have Fx:(Vp rows.length).length=fs.length:=U2 FT;rw [Vx] at Fx;refine ⟨ak (by show 0<=1000000;decide),fun tl yv=>?_⟩;have Nx:H tl=none:=s1.free yv;have s2:L2.Same H1 (upd H1 tl (.lst [])):=ad yv _;have e2:(upd H1 tl (.lst [])) tl=some (.lst []):=ab;generalize (upd H1 tl (.lst []))=H2 at s2 e2 ⊢;refine ⟨_,rfl,fl,rfl,⟨_,SqL.of (s2 _ _ zC)⟩,?_⟩
 refine mz (K:=K) (a:=fl) (xs:=fs.map V.ref) (fun i σ H3=>Ex3 fun (c4 c5:Option V) (ls:List UQ)=>An4 (σ=[some (.ref b),some (.ref fl),some (.ref pt),some (.ref tl),c4,c5]) (L2.Same H1 H3) (H3 tl=some (.lst (ls.map V.ref))) (Vs (fun s la=>(H la=none/\la≠tl)/\∃ prs:List UQ,H3 la=some (.lst (prs.map V.ref))/\Vs (fun h pr=>PtV H3 (Rp ins rows (g8 ins rows).length s h) (.ref pr)) (eW ((frS ins rows s).cut (Dk f' (s:Nat)) [])) prs) (Vp i) ls))
  ⟨none,none,[],rfl,s2,e2,.nil⟩ (fun i σ H3 _ ⟨_,_,_,_,s3,_,_⟩=>SqL.of (s3 _ _ zC)) ?_ ?_
 · rintro i x pr σ H3 hx Ao ⟨c4,c5,ls,rfl,s3,e3,AD⟩;obtain ⟨fa,rfl,y6⟩:=aT hx;have zK:=(US.mp y6).1;have EC:i<rows.length:=by omega
   obtain ⟨s',zS,zH⟩:=P2.get' FT y6;rw [We EC] at zS;cases zS;obtain ⟨z1,z2,z3⟩:=jt F EC;have Ut:=km (Dk f' (i:Nat)) _ (frS ins rows i) [] (UR _);have Uu:=nU (Dk f' (i:Nat)) _ (frS ins rows i) [] (UR _);have s4:L2.Same H3 (upd H3 pr (.tup [.int ((i:Nat):Int),.ref fa])):=ad Ao _;have e4:(upd H3 pr (.tup [.int ((i:Nat):Int),.ref fa])) pr=some (.tup [.int ((i:Nat):Int),.ref fa]):=ab;generalize (upd H3 pr (.tup [.int ((i:Nat):Int),.ref fa]))=H4 at s4 e4 ⊢;refine ⟨pr,_,rfl,SqT.of e4,rfl,_,_,rfl,_,_,rfl,rfl,?_⟩;dsimp only [aG];have BN:=s3.trans s4;refine ⟨_,rfl,.inl ⟨rfl,_,SqL.of (s4 _ _ e3)⟩,_,rfl,fa,_,rfl,zH.mono (Same.kt BN),by omega,by omega,fun hl bs H5 s5 BA yw=>?_⟩;have Jk:=BN.trans s5;have Jl:Vs (fun (p:List Int) b=>H5 b=some (.tup (p.map V.int))) (eW ((frS ins rows i).cut (Dk f' (i:Nat)) [])) bs:=yw;have zT:(eW ((frS ins rows i).cut (Dk f' (i:Nat)) [])).length=bs.length:=U2 Jl;have CG:=tz ((frS ins rows i).cut (Dk f' (i:Nat)) []);have DW:=Gq.same Jk
   have zI:∀ h∈eW ((frS ins rows i).cut (Dk f' (i:Nat)) []),∃ pr,aV f' (nk (i:Nat) h)=some (.ref pr)/\PtV H5 (Rp ins rows (g8 ins rows).length i h) (.ref pr):=fun h hh=>by
    obtain ⟨v,Ny,Je⟩:=tL.mp hh
    have hm:nk (i:Nat) h∈f'.map (·.1):=by
     rcases qW _ _ [] h v (UR _) z3 Ny Je with hd | ⟨u,h1,h2⟩
     · exact i8.mp hd
     · exact hD.hol i EC (h,u) (In.to h1) h2
    obtain ⟨j,hj⟩:=Vc.mp hm;rw [UZ,Vr] at hj;obtain ⟨kv,Gm,Iw⟩:=hj;obtain ⟨p0,ta,tb,t1,t2,ev,q1,q2,q3,q4⟩:=DW.vl j kv Gm;have AZ:=(US.mp Gm).1;have hlen:=DW.len;rw [Iw] at q4;refine ⟨p0,?_,p0,ta,tb,t1,t2,rfl,q1,q2,q3,j,by omega,q4⟩;cases DN:aV f' (nk (i:Nat) h) with
    | none=>exact absurd hm (cS DN)
    | some v' =>
      rw [<- Iw] at DN;rw [qS DW.nd Gm DN,ev]
   refine ⟨hl,rfl,⟨_,SqL.of BA⟩,fC (eW ((frS ins rows i).cut (Dk f' (i:Nat)) [])) (fun h=>(aV f' (nk (i:Nat) h)).getD .non) (SqL.of BA) (by rw [UL];exact zT) (by rw [UL];omega) (fun j x z H6 R W' hx hz s6 hR=>?_) (fun D H6 Nz s6 e6=>?_)⟩
   · obtain ⟨pb,rfl,Eu⟩:=aT hx;have Mj:=jT Jl hz Eu;obtain ⟨p0,hv,_⟩:=zI z (UP hz);refine ⟨_,rfl,_,rfl,_,rfl,ak (by show 2<=1000000;decide),fun kp Bz=>?_⟩;have s7:L2.Same H6 (upd H6 kp (.tup [.int ((i:Nat):Int),.ref pb])):=ad Bz _;refine ⟨pt,kp,nk (i:Nat) z,f',.ref p0,rfl,rfl,DW.dm.mono (s6.trans s7),lB ab ((s6.trans s7) _ _ Mj),hv,?_⟩;have:=hR _ s7;rw [hv] at this;exact this
   · have yn:D≠tl:=fun z=>by rw [z,(s4.trans s5) _ _ e3] at Nz;cases Nz
     have Gr:=Jk.trans s6
     obtain ⟨prs,ep,hp⟩:∃ prs:List UQ,(eW ((frS ins rows i).cut (Dk f' (i:Nat)) [])).map (fun h=>(aV f' (nk (i:Nat) h)).getD .non)=prs.map V.ref/\Vs (fun h pr=>PtV H6 (Rp ins rows (g8 ins rows).length i h) (.ref pr)) (eW ((frS ins rows i).cut (Dk f' (i:Nat)) [])) prs :=
      lY fun h hh=>by
       obtain ⟨p0,h1,h2⟩:=zI h hh;exact ⟨p0,by rw [h1];rfl,h2.mono (Same.kt s6)⟩
     rw [ep] at e6;have PY:=(s4.trans (s5.trans s6)) _ _ e3;have Lr:(Vp i).length=ls.length:=U2 AD;rw [Vx] at Lr;refine ⟨tl,_,_,rfl,rfl,PY,aF (by rw [UL];omega),?_⟩;have k7:KT H6 (upd H6 tl (.lst (ls.map V.ref++[.ref D]))):=aU PY;refine ⟨_,_,ls++[D],rfl,ax Gr yv,by rw [ab,U5];rfl,?_⟩;rw [ZD];refine P2.append (P2.mp (fun s la ⟨h1,NA,h2,h3⟩=>⟨h1,NA,by rw [ai h1.2];exact (s4.trans (s5.trans s6)) _ _ h2,P2.mp (fun _ _ e=>(e.mono (Same.kt (s4.trans (s5.trans s6)))).mono k7) h3⟩) AD) (.cons ⟨⟨(s1.trans Jk).free Nz,yn⟩,prs,by rw [ai yn];exact e6,P2.mp (fun _ _ e=>e.mono k7) hp⟩ .nil)
 · rintro σ H3 ⟨c4,c5,ls,rfl,s3,e3,AD⟩;rw [UL,<- Fx] at AD
   exact ⟨_,rfl,k tl ls f' H3 (s1.trans s3) hD hK ⟨e3,P2.mp (fun _ _ ⟨_,h⟩=>h) AD⟩ Nx fun la AI=>by
    refine hid fun ZZ kZ=>?_;obtain ⟨j,hj⟩:=Vc.mp AI;obtain ⟨_,_,h,_⟩:=P2.get' AD hj;refine kZ ?_;exact h⟩
mutual
def Th.Fo (outs:List (Vm×Int)):Th->Prop
 | .knot n ks=>(n=star/\ks=[])∨((n,(ks.length:Int))∈outs/\n≠star/\Fos outs ks)
 | .call _ _=>False
def Fos (outs:List (Vm×Int)):List Th->Prop
 | []=>True
 | t::ts=>Th.Fo outs t/\Fos outs ts
end
theorem dP {outs:List (Vm×Int)}:∀ {ts:List Th} {t:Th},Fos outs ts->t∈ts->Th.Fo outs t
 | [],t,_,h=>(Xj h).elim
 | u::ts,t,h,hm=>by
   rw [Fos] at h;rcases Vd.mp hm with rfl | hm
   · exact h.1
   · exact dP h.2 hm
theorem mS {outs:List (Vm×Int)}:∀ {ts:List Th},(∀ t∈ts,Th.Fo outs t)->Fos outs ts
 | [],_=>by rw [Fos];trivial
 | t::ts,h=>by rw [Fos];exact ⟨h t (Vk ..),mS fun u hu=>h u (Vf _ hu)⟩
def cT (K:UO):Nat->Sp
 | 0=>fun _ _ _ _=>False
 | n+1=>fun vs H Q _=>∃ (oa x:UQ) (yq:List UQ) (outs:List (Vm×Int)) (f:Th),vs=[.ref oa,.ref x]/\H oa=some (.tup (yq.map V.ref))/\KsAt H outs yq/\AtK K H f x/\Th.Fo outs f/\f.size<=1000/\f.tall<=n+1/\∀ H',L2.Same H H'->Q (.bl true) H'
set_option maxHeartbeats 1000000 in
theorem eQ:∀ n:Nat,bn P w K mg base CX0 n T.g__law_is_front.f T.g__law_is_front.d ["outs","front"] (cT K n)
 | 0=>⟨fun _ _ _ _ h=>h.elim,fun _ _ _ _ _ _ _ _ _ _ _ _ _ h=>h.elim⟩
 | n+1=>by
   have ih:=eQ n;refine T.g__law_is_front.F.ok jf (fun vs H Q E h=>?_) (fun yc A outer s H vs Q E hr h=>?_)
   · obtain ⟨oa,x,yq,outs,f,rfl,_⟩:=h;rfl
   obtain ⟨oa,x,yq,outs,f,rfl,eo,Ap,hx,hF,hsz,yv,k⟩:=h
   refine ⟨_,(ae (bY (PW.pt (mr (m8 (bJ (aB (rP (T:="tuple")) rfl T.n_isinstance YT (aa (pv 1) (aa (ni (v:=.ty "tuple") rfl T.n_tuple W8 rfl) ac))) (fun _=>rfl))) (mr (aP cZ (aB aq rfl T.n_len Vu (aa (pv 1) ac)) af (aS _)) (kG (m8 (bJ (aB (i5 (T:="str")) rfl T.n_isinstance YT (aa (ay aC (pv 1) af (fun _ _=>rfl)) (aa (ni (v:=.ty "str") rfl T.n_str PyProof.Rows.boot_str rfl) ac))) (fun _=>rfl))))))) (ag (aD oT)) bO)
    (ae (bY (aP cZ (ay aC (pv 1) af (fun _ _=>rfl)) fM (aS _)) (ag (aD (eZ cZ (aB aq rfl T.n_len Vu (aa (pv 1) ac)) af (aS _)))) bO)
    (ae (bY (aP (sw (B:=50) (uk hr)) (aI (aa (ay aC (pv 1) af (fun _ _=>rfl)) (aa (aw eV (aB aq rfl T.n_len Vu (aa (pv 1) ac)) af) ac))) (pv 0) (by with_unfolding_all rfl)) (ag (aD oT)) bO)
    (ag (aD (aB (o8 rfl) rfl T.n_all PyProof.Rows.boot_all (aa (cD (N:=[UU "part",UU "outs"]) (js:=[none,some 0]) (g:=(aG 0)) (tt:=bH) (te:=(gN (cT K _) [] E0 (bA (bp 1) (bA (bp 0) dL)))) rfl (cx rfl (by decide +kernel) (by decide +kernel) rfl rfl rfl) (jc (bx ff (pv 1) (bD af) b8)) (fun _ _ _ _ _ _=>(aj (i:=0) wB rfl (U9 rfl))) (aR rfl) (fun _ _ _ _ _ _=>bS) (fun _ _ _ _ _ _=>(fc (ih) (hr.mono (UR _)) rfl T.g__law_is_front.m T.g__law_is_front.F.kp T.g__law_is_front.b .nil lv (aa (pv 1) (aa (pv 0) ac))))) ac))))))),?_⟩
   try dsimp only [yz,xZ]
   cases f with
   | call s k=>rw [Th.Fo] at hF;exact hF.elim
   | knot nm ks =>
   rw [AtK] at hx;refine hid fun ZZ kZ=>?_;obtain ⟨Gx,ka,ea,y4⟩:=hx;refine kZ ?_;have yX:ka.length=ks.length:=y4.length;have Gh:=bU ks;rw [Th.size] at hsz;rw [Th.tall] at yv;rw [Th.Fo] at hF;have hle:outs.length=yq.length:=U2 Ap;have el:(((V.str nm::ka.map V.ref).length:Nat):Int)=(ks.length:Int)+1:=by rw [U1,UL,yX];omega
   refine ⟨_,rfl,.inr ⟨_,_,_,rfl,ea.sq,vU,_,rfl,?_⟩⟩;refine iG ?_;refine ⟨_,rfl,x,_,rfl,.inr ea.sq,rfl,_,rfl,?_⟩;rw [el,decide_eq_false (show V.int ((ks.length:Int)+1)≠V.int 0 from fun z=>by have:=V.int.inj z;omega)];refine iG ?_;refine ⟨_,rfl,x,_,0,.str nm,rfl,rfl,ea.sq,at0,_,_,_,rfl,.str nm,vC,_,rfl,?_⟩;refine iG ?_;refine ⟨_,rfl,x,_,0,.str nm,rfl,rfl,ea.sq,at0,rfl,_,rfl,?_⟩;refine cP (fun c1=>?_) (fun c1=>?_)
   · have y8:nm=star:=V.str.inj (of_decide_eq_true c1);rcases hF with ⟨_,rfl⟩ | ⟨_,h,_⟩
     · refine ⟨_,rfl,x,_,rfl,.inr ea.sq,rfl,?_⟩;rw [el];exact k H (.refl _)
     · exact absurd y8 h
   rcases hF with ⟨h,_⟩ | ⟨yN,Cd,zO⟩
   · exact absurd (by rw [h];exact decide_eq_true rfl) c1
   refine ⟨_,rfl,x,_,0,.str nm,rfl,rfl,ea.sq,at0,_,rfl,x,_,rfl,.inr ea.sq,_,_,rfl,rfl,ak (by show 2<=1000000;decide),fun p hp=>?_⟩;rw [el];have Fe:(ks.length:Int)+1 - 1=(ks.length:Int):=by omega
   dsimp only;rw [Fe];have s1:L2.Same H (upd H p (.tup [.str nm,.int (ks.length:Int)])):=ad hp _;have e1:(upd H p (.tup [.str nm,.int (ks.length:Int)])) p=some (.tup [.str nm,.int (ks.length:Int)]):=ab;generalize (upd H p (.tup [.str nm,.int (ks.length:Int)]))=H1 at s1 e1 ⊢;have C5:=pf outs;refine ⟨_,rfl,oa,_,kDv (nm,(ks.length:Int)),outs.map kDv,rfl,SqT.of (s1 _ _ eo),?_,ve (Ap.mono (Same.kt s1)),by omega,fun r zP=>⟨_,rfl,?_⟩⟩
   · rw [kDv,DAt];exact ⟨_,_,rfl,e1,.cons (by rw [DAt]) (.cons (by rw [DAt]) .nil)⟩
   have NB:r=false:=by
    cases r with
    | false=>rfl
    | true=>exact absurd (List.mem_map_of_mem yN) (zP.mp rfl)
   subst NB;refine iG ?_;have Nj:=ea.mono (Same.kt s1);refine ⟨_,rfl,1,rfl,x,_,rfl,Nj.sq,?_,fun p3 MX=>?_⟩
   · rintro ⟨z,_⟩;rw [U1,show (1:Int)=((1:Nat):Int) by rfl,HT.sIx_nat] at z;omega
   dsimp only;rw [eL];have s2:L2.Same H1 (upd H1 p3 (.tup (ka.map V.ref))):=ad MX _;have e2:(upd H1 p3 (.tup (ka.map V.ref))) p3=some (.tup (ka.map V.ref)):=ab;generalize (upd H1 p3 (.tup (ka.map V.ref)))=H2 at s2 e2 ⊢;have AL:=s1.trans s2;refine ⟨p3,rfl,⟨_,SqT.of e2⟩,?_⟩;intro D hD;refine ⟨ks.length,fun j H3=>An3 (j<=ks.length) (L2.Same H2 H3) (H3 D=some (.lst ((WI j true).map V.bl))),⟨Vn _,ad hD _,ab⟩,?_⟩;rintro j H3 ⟨hj,s3,eD⟩;by_cases By:j=ks.length
   · left;refine ⟨⟨_,SqT.of (s3 _ _ e2),by rw [UL,yX,By];exact UR _⟩,?_⟩;refine ⟨D,WI j true,rfl,SqL.of eD,?_⟩;rw [show (WI j true).all id=true from Xm.mpr fun b hb=>(List.mem_replicate.mp hb).2];exact k H3 (AL.trans s3)
   · right;have yk:j<ks.length:=by omega
     refine hid fun ZZ kZ=>?_;obtain ⟨f,hf⟩:∃ f,ks[j]?=some f:=⟨_,UN yk⟩;obtain ⟨fa,y6,SW⟩:=y4.at hf;refine kZ ?_;have NC:f∈ks:=UP hf;have h1:=cg NC;have h2:=aK NC;have h3:=f.tall_eq;refine ⟨yk,⟨_,.ref fa,SqT.of (s3 _ _ e2),by rw [UZ,y6];rfl⟩,?_⟩;rintro x' H4 ⟨Aj,hv⟩;have FU:H4=H3:=Aj;subst FU;have yL:=hv _ (SqT.of (s3 _ _ e2));rw [UZ,y6] at yL;cases yL;have Fs:=AL.trans s3;obtain ⟨m,rfl⟩:∃ m,n=m+1:=⟨n - 1,by omega⟩;refine ⟨_,rfl,_,rfl,oa,fa,yq,outs,f,rfl,Fs _ _ eo,Ap.mono (Same.kt Fs),SW.mono (Same.kt Fs),dP zO NC,by omega,by omega,fun H5 s5=>?_⟩;have SX:=s5 _ _ eD;refine ⟨_,SX,aF (by rw [UL,XX];omega),yk,ax (s3.trans s5) hD,?_⟩;rw [ab,List.replicate_succ',U5];rfl
inductive eN (vs:List V) (H:Hp) (Q:VK) (_E:XK):Prop
 | mk (b ta pa:UQ) (s:Int) (ins outs:List (Vm×Int)) (head:Th) (rows:List (List Th)) (t:Th) (pl:List Int) (m:Vm) (yf:vs=[.ref b,.int s,.ref ta,.ref pa]) (yg:Bk H ins outs head rows b) (yl:bV ins) (yx:At H t ta) (yK:H pa=some (.tup (pl.map V.int))) (zJ:pl.length<=1000) (Bv:mX ins rows s t pl m) (BZ:∀ H',L2.Same H H'->Q (.str m) H'):eN  vs H Q _E
def jS:Sp:=eN
def NmI (ins:List (Vm×Int)) (rows:List (List Th)) (b pa nl:UQ) (s:Int) (pl:List Int) (m:Vm) (H:Hp) (n:Nat) (σ:St) (H3:Hp):Prop:=∃ (ta ha:UQ) (at':Nat) (p t:Th),σ=[some (.ref b),some (.int s),some (.ref ta),some (.ref pa),some (.ref nl),some (.ref ha),some (.int (at':Nat))]/\H3=H/\At H p ha/\At H t ta/\at'<=pl.length/\NmAt ins rows n p t (pl.drop at') m
set_option maxHeartbeats 1000000 in
theorem jO:bn P w K mg base CX0 1 T.g__law_name_at.f T.g__law_name_at.d ["book","state","tree","place"] jS:=by
 refine T.g__law_name_at.F.ok bg (fun vs H Q E h=>?_) (fun yc A outer s0 H vs Q E hr h=>?_)
 · obtain ⟨b,ta,pa,s,ins,outs,head,rows,t,pl,m,rfl,_⟩:=h;rfl
 obtain ⟨b,ta,pa,s,ins,outs,head,rows,t,pl,m,rfl,hB,g,AK,zF,zc,Gx,q⟩:=h;refine hid fun ZZ kZ=>?_;obtain ⟨ia,oa,ha,ra,yb,yq,yM,bk⟩:=hB;refine kZ ?_
 refine ⟨_,(ae (di (i:=4) (N:=[UU "kind"]) (js:=[none]) (g:=(aG 0)) (tt:=bH) (te:=(tOp (rL K) (bp 0) (tC (.int 0)))) bg.nd rfl (U9 rfl) rfl (cx rfl (by decide +kernel) (by decide +kernel) rfl rfl rfl) (jc (ay aC (pv 0) af (fun _ _=>rfl))) (fun _ _ _ _ _ _=>(aj (i:=0) xg rfl (U9 rfl))) (aR rfl) (fun _ _ _ _ _ _=>bS) (fun _ _ _ _ _ _=>(ay aC (pv 0) af (fun _ _=>rfl))))
  (ae (av (i:=5) bg.nd rfl (U9 rfl) (ay aC (ay aC (ay aC (pv 0) af (fun _ _=>rfl)) (pv 1) (fun _ _=>rfl)) (bE U3 XD Zl l6 (pv 4) (aa (ay aC (pv 2) af (fun _ _=>rfl)) ac)) (fun _ _=>rfl)))
  (ae (av (i:=6) bg.nd rfl (U9 rfl) af)
  (ae (eR Vq (PW.pt (mr (aP cZ (ay aC (pv 5) af (fun _ _=>rfl)) fM (aS _)) (kG (aP mx (pv 6) (aB aq rfl T.n_len Vu (aa (pv 3) ac)) (aS _))))) (ag (bY (aP cZ (ay aC (pv 5) af (fun _ _=>rfl)) fM (aS _)) (ae (av (i:=2) bg.nd rfl (U9 rfl) (ay aC (pv 2) (aw bF af (ay aC (pv 5) af (fun _ _=>rfl))) (fun _ _=>rfl)))
  (ag (av (i:=5) bg.nd rfl (U9 rfl) (ay aC (ay aC (ay aC (pv 0) af (fun _ _=>rfl)) (ay aC (pv 5) af (fun _ _=>rfl)) (fun _ _=>rfl)) (bE U3 XD Zl l6 (pv 4) (aa (ay aC (pv 2) af (fun _ _=>rfl)) ac)) (fun _ _=>rfl))))) (ag (bY (aP mx (ay aC (pv 3) (pv 6) (fun _ _=>rfl)) (aw eV (aB aq rfl T.n_len Vu (aa (pv 5) ac)) af) (aS _)) (ae (av (i:=5) bg.nd rfl (U9 rfl) (ay aC (pv 5) (aw bF af (ay aC (pv 3) (pv 6) (fun _ _=>rfl))) (fun _ _=>rfl)))
  (ag (av (i:=6) bg.nd rfl (U9 rfl) (aw bF (pv 6) af)))) (ag (aD we)))))))
  (ag (aD (ay aC (pv 5) af (fun _ _=>rfl)))))))),?_⟩
 try dsimp only [yz,xZ]
 have zK:ins.length=yb.length:=U2 bk.inK;have Fp:=g.le;refine ⟨_,rfl,b,_,0,.ref ia,rfl,rfl,SqT.of bk.bk,at0,ia,rfl,⟨_,SqT.of bk.inE⟩,oG ins (fun k=>V.str k.1) (SqT.of bk.inE) (by rw [UL];exact zK) (by rw [UL];omega) (fun i x z H2 R W' hx hz s2 hR=>?_) (fun D H1 hD s1 e1=>?_)⟩
 · obtain ⟨ka,rfl,y4⟩:=aT hx;obtain ⟨z',za,ez⟩:=P2.get' bk.inK y4;rw [hz] at za;cases za;exact ⟨_,rfl,ka,_,0,.str z.1,rfl,rfl,SqT.of (s2 _ _ ez),at0,hR H2 (.refl _)⟩
 have en:ins.map (fun k=>V.str k.1)=(ins.map (·.1)).map V.str:=by rw [W2];rfl
 rw [en] at e1;refine hid fun ZZ kZ=>?_;obtain ⟨vm,vs,row,j,kd,p,n,SY,rfl,xV,hj,C5,hp,hN⟩:=Gx;have Gy:=bk.mono (Same.kt s1);have Jm:=AK.mono (Same.kt s1);have DX:=s1 _ _ zF;have Jn:=Jm;rw [At] at Jn;obtain ⟨Kw,bs,eta,yw⟩:=Jn;obtain ⟨zQ,AF,AO,ND,Jo⟩:=P2.get Gy.rw xV;have yP:=Jo.length;have S3:=(US.mp hp).1;obtain ⟨PZ,Jp⟩:∃ a,AO[j]?=some a:=⟨_,UN (by omega)⟩;obtain ⟨t2,Fc,NF⟩:=Jo.get Jp;refine kZ ?_;rw [hp] at Fc;cases Fc;refine ⟨_,rfl,b,_,3,.ref ra,rfl,rfl,SqT.of Gy.bk,ck (j:=3) rfl,_,rfl,ra,_,_,.ref zQ,rfl,rfl,SqT.of Gy.rl,at_nonneg SY (by rw [UZ,AF];rfl),_,rfl,.inl ⟨rfl,_,SqL.of e1⟩,_,rfl,ta,_,0,.str vm,rfl,rfl,SqT.of eta,at0,D,ins.map (·.1),vm,j,rfl,rfl,SqL.of e1,by rw [UZ,hj,<- C5];rfl,fun i hi hz=>?_,by rw [UL];omega,zQ,_,(j:Int),.ref PZ,rfl,rfl,SqT.of ND,ck (by rw [UZ,Jp];rfl),?_⟩
 · rw [UZ] at hz;obtain ⟨k',zj,e⟩:=Vr.mp hz;have:=g.nd i j k' kd zj hj (e.trans C5.symm);omega
 refine ⟨NmI ins rows b pa D s pl m H1,⟨_,ta,PZ,0,p,.knot vm vs,rfl,rfl,NF,Jm,Vn _,by rw [W6];exact hN⟩,?_⟩;rintro n σ H2 ⟨ta,ha,at',p,t,rfl,rfl,DV,P0,NG,hN⟩
 have BQ:∀ (j:Int) (r:List Int),pl.drop at'=j::r->at'<pl.length/\pl[at']?=some j/\pl.drop (at'+1)=r:=fun j r e=>by
  have ye:at'<pl.length:=by
   have:=congrArg Xg e;rw [Wa,U1] at this;omega
  rw [Yh ye] at e;injection e with e1 e2;exact ⟨ye,by rw [UN ye,e1],e2⟩
 generalize En:pl.drop at'=dr at hN;cases hN with
 | here =>
   rename_i ks
   rw [At] at DV;refine hid fun ZZ kZ=>?_;obtain ⟨IH,yp,eh,yO⟩:=DV;refine kZ ?_
   have zL:at'=pl.length:=by
    have:=congrArg Xg En;rw [Wa,XS] at this;omega
   have Kz:decide (V.str m=V.str (UU "?"))=false:=decide_eq_false fun z=>IH (V.str.inj z);refine ⟨_,rfl,ha,_,0,.str m,rfl,rfl,SqT.of eh,at0,rfl,_,rfl,?_⟩;rw [Kz];refine iG ?_;refine ⟨_,rfl,_,rfl,pa,_,rfl,.inr (SqT.of DX),_,_,rfl,rfl,_,rfl,?_⟩;rw [UL,zL,decide_eq_false (by omega)];refine iG ?_;exact ⟨_,rfl,ha,_,0,.str m,rfl,rfl,SqT.of eh,at0,q _ s1⟩
 | step hu hN =>
   rename_i n nm ks j u r
   rw [At] at DV;refine hid fun ZZ kZ=>?_;obtain ⟨IH,yp,eh,yO⟩:=DV;obtain ⟨ye,NH,NI⟩:=BQ _ _ En;have yX:=yO.length;have AZ:=(US.mp hu).1;obtain ⟨ua,HR,NJ⟩:=yO.at hu;refine kZ ?_;have Kz:decide (V.str nm=V.str (UU "?"))=false:=decide_eq_false fun z=>IH (V.str.inj z);refine ⟨_,rfl,ha,_,0,.str nm,rfl,rfl,SqT.of eh,at0,rfl,_,rfl,?_⟩;rw [Kz];refine iG ?_;refine ⟨_,rfl,_,rfl,pa,_,rfl,.inr (SqT.of DX),_,_,rfl,rfl,_,rfl,?_⟩;rw [UL,decide_eq_true (by omega)];refine oD ?_;refine ⟨fun xT H'=>∃ m',m'<n+1/\NmI ins rows b pa D s pl m H2 m' xT H',fun xT H' h=>h,?_⟩;refine ⟨_,rfl,ha,_,0,.str nm,rfl,rfl,SqT.of eh,at0,rfl,_,rfl,?_⟩;rw [Kz];refine iG ?_;have Dc:atI (pl.map V.int) ((at':Nat):Int)=some (.int (j:Int)):=ck (by rw [UZ,NH];rfl);refine ⟨_,rfl,_,rfl,pa,_,_,.int (j:Int),rfl,rfl,SqT.of DX,Dc,_,rfl,ha,_,rfl,.inr (SqT.of eh),_,_,rfl,rfl,_,_,rfl,rfl,_,rfl,?_⟩;rw [U1,UL,decide_eq_true (by omega)];refine oD ?_;refine ⟨_,rfl,_,rfl,_,rfl,pa,_,_,.int (j:Int),rfl,rfl,SqT.of DX,Dc,_,_,rfl,rfl,ha,_,_,.ref ua,rfl,rfl,SqT.of eh,at_nonneg (by omega) (by rw [show (1+(j:Int)).toNat=j+1 by omega,VW,UZ,HR];rfl),?_⟩;refine ⟨_,rfl,_,_,rfl,rfl,n,by omega,ta,ua,at'+1,u,t,by rfl,rfl,NJ,P0,by omega,by rw [NI];exact hN⟩
 | call hk hs hu hr hi hn hp hN =>
   rename_i n s' k tm P1 us Uv zz i' OO p'
   have Jq:=DV;rw [At] at Jq;have Jr:=P0;rw [At] at Jr;refine hid fun ZZ kZ=>?_;obtain ⟨Uw,Ux,et,NK⟩:=Jr;obtain ⟨va,S4,Js⟩:=NK.at hu;have EK:=Js;rw [At] at EK;obtain ⟨Uy,Uz,ev,S5⟩:=EK;obtain ⟨EL,FV,DU,Jt,EM⟩:=P2.get Gy.rw hr;have UA:=EM.length;have S6:=(US.mp hp).1;obtain ⟨P4,Ju⟩:∃ a,DU[i']?=some a:=⟨_,UN (by omega)⟩;obtain ⟨t3,P5,NL⟩:=EM.get Ju;refine kZ ?_;rw [hp] at P5;cases P5;refine ⟨_,rfl,ha,_,0,.str (UU "?"),rfl,rfl,SqT.of Jq,at0,rfl,_,rfl,?_⟩;refine vx rfl ?_;refine oD ?_;refine ⟨fun xT H'=>∃ m',m'<n+1/\NmI ins rows b pa D s pl m H2 m' xT H',fun xT H' h=>h,?_⟩;refine ⟨_,rfl,ha,_,0,.str (UU "?"),rfl,rfl,SqT.of Jq,at0,rfl,_,rfl,?_⟩;refine vx rfl ?_;refine ⟨_,rfl,_,rfl,ha,_,2,.int k,rfl,rfl,SqT.of Jq,at2,_,_,rfl,rfl,ta,_,_,.ref va,rfl,rfl,SqT.of et,at_nonneg (by omega) (by rw [show (1+k).toNat=k.toNat+1 by omega,VW,UZ,S4];rfl),?_⟩;refine ⟨_,rfl,b,_,3,.ref ra,rfl,rfl,SqT.of Gy.bk,ck (j:=3) rfl,_,rfl,ha,_,1,.int s',rfl,rfl,SqT.of Jq,at1,ra,_,_,.ref EL,rfl,rfl,SqT.of Gy.rl,at_nonneg hs (by rw [UZ,FV];rfl),_,rfl,.inl ⟨rfl,_,SqL.of e1⟩,_,rfl,va,_,0,.str P1,rfl,rfl,SqT.of ev,at0,D,ins.map (·.1),P1,i',rfl,rfl,SqL.of e1,by rw [UZ,hi,<- hn];rfl,fun i HW hz=>?_,by rw [UL];omega,EL,_,(i':Int),.ref P4,rfl,rfl,SqT.of Jt,ck (by rw [UZ,Ju];rfl),?_⟩
   · rw [UZ] at hz;obtain ⟨k',zj,e⟩:=Vr.mp hz;have:=g.nd i i' k' OO zj hi (e.trans hn.symm);omega
   exact ⟨n,by omega,va,P4,at',p',_,by rfl,rfl,NL,Js,NG,by rw [En];exact hN⟩
def KnAt (H:Hp) (e:List Int×Vm) (a:UQ):Prop:=∃ pa,H a=some (.tup [.ref pa,.str e.2])/\H pa=some (.tup (e.1.map V.int))
theorem KnAt.mono {H H':Hp} (k:KT H H') {e:List Int×Vm} {a:UQ} (h:KnAt H e a):KnAt H' e a:=by
 obtain ⟨pa,h1,h2⟩:=h;exact ⟨pa,k _ _ h1,k _ _ h2⟩
def Kn (t:Th) (r:List Int) (m:Vm):Prop:=∃ ks,In t r (.knot m ks)/\(Th.knot m ks).isHole=false
inductive fZ (K:UO) (n:Nat) (vs:List V) (H:Hp) (Q:VK) (_E:XK):Prop
 | mk (fa pa fl:UQ) (t:Th) (outs:List (Vm×Int)) (pl:List Int) (es:List UQ) (E:List (List Int×Vm)) (yf:vs=[.ref fa,.ref pa,.ref fl]) (yg:AtK K H t fa) (yl:Th.Fo outs t) (yx:H pa=some (.tup (pl.map V.int))) (yK:H fl=some (.lst (es.map V.ref))) (zJ:Vs (KnAt H) E es) (Bv:t.tall<=n) (BZ:E.length+t.size<=10000) (Ep:pl.length+n<=1000) (Fq:∀ (F4:List UQ) (M:List (List Int×Vm)) (H':Hp),SameB fl H H'->H' fl=some (.lst (F4.map V.ref))->Vs (KnAt H') (E++M) F4->M.length<=t.size->(∀ e∈M,∃ r,e.1=pl++r/\Kn t r e.2)->Q (.ref fl) H'):fZ K n vs H Q _E
def lU (K:UO) (n:Nat):Sp:=fZ K n
set_option maxHeartbeats 1000000 in
theorem g7:∀ n:Nat,bn P w K mg base CX0 n T.g__law_knots.f T.g__law_knots.d ["front","place","found"] (lU K n)
 | 0=>⟨fun _ _ _ _ h=>by obtain ⟨_,_,_,t,_,_,_,_,_,_,_,_,_,_,h1,_⟩:=h;have:=t.tall_eq;omega,fun _ _ _ _ _ _ _ _ _ _ _ _ _ h=>by obtain ⟨_,_,_,t,_,_,_,_,_,_,_,_,_,_,h1,_⟩:=h;have:=t.tall_eq;omega⟩
 | n+1=>by
   have ih:=g7 n;refine T.g__law_knots.F.ok gR (fun vs H Q E h=>?_) (fun yc A outer s H vs Q E hr h=>?_)
   · obtain ⟨fa,pa,fl,t,outs,pl,es,EE,rfl,_⟩:=h;rfl
   obtain ⟨fa,pa,fl,t,outs,pl,es,EE,rfl,hA,hF,zF,zC,hE,yv,hsz,zc,q⟩:=h
   refine ⟨_,(ae (bY (aP rf (ay aC (pv 0) af (fun _ _=>rfl)) fM (aS _)) (ae (aL (bE U3 Vh Vg aN (pv 2) (aa (aI (aa (pv 1) (aa (ay aC (pv 0) af (fun _ _=>rfl)) ac))) ac)))
    (ag (bi Vq rfl (jd rfl T.n_range (aa af (aa (aB aq rfl T.n_len Vu (aa (pv 0) ac)) ac))) (aj (i:=3) gR.nd rfl (U9 rfl)) (ag (aL (fc (ih) (hr.mono (UR _)) rfl T.g__law_knots.m T.g__law_knots.F.kp T.g__law_knots.b .nil lv (aa (ay aC (pv 0) (pv 3) (fun _ _=>rfl)) (aa (aw cK (pv 1) (aI (aa (aw eV (pv 3) af) ac))) (aa (pv 2) ac))))))))) bO)
    (ag (aD (pv 2)))),?_⟩
   try dsimp only [yz,xZ]
   cases t with
   | call s k=>rw [Th.Fo] at hF;exact hF.elim
   | knot nm ks =>
   rw [AtK] at hA;refine hid fun ZZ kZ=>?_;obtain ⟨Gx,yp,ea,yO⟩:=hA;refine kZ ?_;have yX:yp.length=ks.length:=yO.length;have zO:=bU ks;rw [Th.size] at hsz;rw [Th.tall] at yv;have UB:EE.length=es.length:=U2 hE;refine ⟨_,rfl,fa,_,0,.str nm,rfl,rfl,ea.sq,at0,rfl,_,rfl,?_⟩;rw [Th.Fo] at hF;refine cP (fun c1=>?_) (fun c1=>?_)
   · have Cd:nm≠star:=fun z=>by rw [z] at c1;exact absurd c1 (by decide)
     rcases hF with ⟨h,_⟩ | ⟨yN,_,S7⟩
     · exact absurd h Cd
     have Ds:(Th.knot nm ks).isHole=false:=by rw [Th.isHole,decide_eq_false_iff_not];exact fun z=>Cd z.1
     refine ⟨_,rfl,.inl ⟨rfl,_,SqL.of zC⟩,_,rfl,_,rfl,fa,_,0,.str nm,rfl,rfl,ea.sq,at0,ak (by show 2<=1000000;decide),fun en Iu=>?_⟩;have s1:L2.Same H (upd H en (.tup [.ref pa,.str nm])):=ad Iu _;have e1:(upd H en (.tup [.ref pa,.str nm])) en=some (.tup [.ref pa,.str nm]):=ab;generalize (upd H en (.tup [.ref pa,.str nm]))=H1 at s1 e1 ⊢;have Jv:=s1 _ _ zC;refine ⟨fl,_,_,rfl,rfl,Jv,aF (by rw [UL];omega),?_⟩;have k2:KT H1 (upd H1 fl (.lst (es.map V.ref++[.ref en]))):=aU Jv;have b2:SameB fl H (upd H1 fl (.lst (es.map V.ref++[.ref en]))):=(SameB.of s1).trans .set;have e2:(upd H1 fl (.lst (es.map V.ref++[.ref en]))) fl=some (.lst ((es++[en]).map V.ref)):=by rw [ab,U5];rfl
     have CV:=(Same.kt s1).trans k2;generalize (upd H1 fl (.lst (es.map V.ref++[.ref en])))=H2 at k2 b2 e2 CV ⊢;have S8:Vs (KnAt H2) (EE++[(pl,nm)]) (es++[en]):=P2.append (P2.mp (fun _ _ e=>e.mono CV) hE) (.cons ⟨pa,k2 _ _ e1,CV _ _ zF⟩ .nil);refine ⟨_,rfl,fa,_,rfl,.inr ((ea.mono CV).sq),1,_,rfl,⟨by decide,by decide,by rw [U1,UL];omega,by rw [U1,UL];omega⟩,?_⟩;have EG:((((V.str nm::yp.map V.ref).length:Nat):Int) - 1).toNat=ks.length:=by rw [U1,UL];omega
     rw [EG]
     refine bB (n:=ks.length) (fun i σ H3=>Ex3 fun (kv:Option V) (Gz:List UQ) (M:List (List Int×Vm))=>An6 (σ=[some (.ref fa),some (.ref pa),some (.ref fl),kv]) (SameB fl H2 H3) (H3 fl=some (.lst (Gz.map V.ref))) (Vs (KnAt H3) (EE++M) Gz) (M.length<=1+ao (ks.take i)) (∀ e∈M,∃ r,e.1=pl++r/\Kn (.knot nm ks) r e.2))
      ⟨none,es++[en],[(pl,nm)],rfl,.refl,e2,S8,by rw [XE,ao];exact UR _,fun e he=>by rw [Vi.mp he];exact ⟨[],(VB _).symm,ks,.here,Ds⟩⟩ ?_ ?_
     · rintro i σ H3 hi ⟨kv,Gz,M,rfl,b3,e3,NM,NN,hM⟩;have yR:i<ks.length:=hi;have C6:=b3.kt e2;have FW:=CV.trans C6;refine hid fun ZZ kZ=>?_;obtain ⟨u,hu⟩:∃ u,ks[i]?=some u:=⟨_,UN yR⟩;obtain ⟨ka,y4,Ng⟩:=yO.at hu;refine kZ ?_;have Ja:=UP hu;have Kc:=cg Ja
       have y8:ao (ks.take i)+u.size<=ao ks:=by
        have h1:ao (ks.take (i+1))+ao (ks.drop (i+1))=ao ks:=by rw [<- aY,List.take_append_drop]
        rw [take_snoc hu,aY,ao,ao] at h1;omega
       refine ⟨_,rfl,_,rfl,fa,_,_,.ref ka,rfl,rfl,(ea.mono FW).sq,at_nonneg (by omega) (by rw [show (1+(i:Int)).toNat=i+1 by omega,VW,UZ,y4];rfl),_,rfl,_,rfl,_,_,rfl,rfl,ak (by show 1<=1000000;decide),fun k1 IW=>?_⟩;have s4:L2.Same H3 (upd H3 k1 (.tup [.int (1+(i:Int) - 1)])):=ad IW _;have e4:(upd H3 k1 (.tup [.int (1+(i:Int) - 1)])) k1=some (.tup [.int (i:Int)]):=by rw [ab,show 1+(i:Int) - 1=(i:Int) by omega]
       try dsimp only
       generalize (upd H3 k1 (.tup [.int (1+(i:Int) - 1)]))=H4 at s4 e4 ⊢;refine kB ((Same.kt s4) _ _ (FW _ _ zF)) e4 (by rw [UL];show pl.length+1<=1000000;omega) fun p5 H5 s5 e5=>?_;have BR:=s4.trans s5;refine ⟨_,rfl,ka,p5,fl,u,outs,pl++[(i:Int)],Gz,EE++M,rfl,Ng.mono (FW.trans (Same.kt BR)),dP S7 Ja,by rw [e5,U5];rfl,BR _ _ e3,P2.mp (fun _ _ e=>e.mono (Same.kt BR)) NM,by omega,by rw [U8];omega,by rw [U8];show pl.length+1+n<=1000;omega,fun S9 M6 H6 b6 e6 S' UC Jw=>?_⟩;refine ⟨_,S9,M++M6,rfl,b3.trans ((SameB.of BR).trans b6),e6,by rw [<- VN];exact S',by rw [U8,take_snoc hu,aY,ao,ao];omega,fun e he=>?_⟩;rcases VH.mp he with he | he
       · exact hM e he
       · refine hid fun ZZ kZ=>?_;obtain ⟨r,h1,us,h2,h3⟩:=Jw e he;refine kZ ?_;exact ⟨(i:Int)::r,by rw [h1,VN];rfl,us,.kid hu h2,h3⟩
     · rintro σ H3 ⟨kv,Gz,M,rfl,b3,e3,NM,NN,hM⟩;rw [Wh (UR _)] at NN;exact ⟨_,rfl,q Gz M H3 (b2.trans b3) e3 NM (by rw [Th.size];omega) hM⟩
   · exact ⟨_,rfl,q es [] H .refl zC (by rw [VB];exact hE) (Vn _) (fun e he=>by cases he)⟩
theorem qq (outs:List (Vm×Int)):Th.Fo outs hole:=by rw [hole,Th.Fo];exact .inl ⟨rfl,rfl⟩
theorem sI {outs:List (Vm×Int)} (g:bV outs) {S:Int}:∀ (n:Nat) (t:Th),t.size<=n->t.FitS outs S 0->Th.Fo outs t
 | 0,t,h,_=>by have:=t.size_pos;omega
 | n+1,.call a b,_,h=>by rw [Th.FitS] at h;omega
 | n+1,.knot m ks,hn,h=>by
   rw [Th.FitS] at h;rw [Th.size] at hn;rw [Th.Fo];exact .inr ⟨h.1,oN (g.low _ h.1).1,mS fun t ht=>sI g n t (by have:=aK ht;omega) (gC h.2 t ht)⟩
theorem tE {outs:List (Vm×Int)}:∀ (n:Nat) (l r:Th),l.size<=n->Th.Fo outs l->Th.Fo outs (l.com r)
 | 0,l,_,h,_=>by have:=l.size_pos;omega
 | n+1,l,r,hn,h=>by
   rw [iw];by_cases hs:aH l r=true
   · rw [if_pos hs];obtain ⟨m,ks,us,rfl,rfl,hl,hh⟩:=bI hs;rw [Th.Fo] at h;rw [Th.size] at hn;rcases h with ⟨h1,h2⟩ | ⟨h1,h2,h3⟩
     · rw [Th.isHole,decide_eq_true ⟨h1,h2⟩] at hh;cases hh
     · show Th.Fo outs (.knot m ((ks.zip us).map fun p=>p.1.com p.2));rw [Th.Fo];refine .inr ⟨by rw [UL,XR,<- hl,Zv];exact h1,h2,mS fun t ht=>?_⟩;obtain ⟨p,hp,rfl⟩:=VM.mp ht;have hm:=(XQ hp).1;exact tE n p.1 p.2 (by have:=aK hm;omega) (dP h3 hm)
   · rw [if_neg hs];exact qq _
theorem ug {outs:List (Vm×Int)} (mk:Int->Th):∀ (row:List Th) (m:Th),Th.Fo outs m->Th.Fo outs (frF mk m row)
 | [],m,h=>h
 | p::row,m,h=>ug mk row _ (tE _ m _ (UR _) h)
theorem t7 {outs:List (Vm×Int)} (D:List Int->Bool):∀ (n:Nat) (t:Th) (pre:List Int),t.size<=n->Th.Fo outs t->Th.Fo outs (t.cut D pre)
 | 0,t,_,h,_=>by have:=t.size_pos;omega
 | n+1,.call a b,_,_,h=>by rw [Th.Fo] at h;exact h.elim
 | n+1,.knot m ks,pre,hn,h=>by
   rw [Th.cut];by_cases hc:(Th.knot m ks).isHole=true∨D pre=true
   · rw [if_pos hc];exact qq _
   · rw [if_neg hc];rw [Th.Fo] at h;rw [Th.size] at hn;rcases h with ⟨h1,h2⟩ | ⟨h1,h2,h3⟩
     · exact absurd (.inl (by rw [Th.isHole];exact decide_eq_true ⟨h1,h2⟩)) hc
     · rw [Th.Fo];refine .inr ⟨by rw [cO];exact h1,h2,mS fun t ht=>?_⟩;obtain ⟨j,hj⟩:=Vc.mp ht;rw [eK,Vr] at hj;obtain ⟨u,hu,rfl⟩:=hj;have hm:=UP hu;exact t7 D n u _ (by have:=aK hm;omega) (dP h3 hm)
theorem mZ {ins outs:List (Vm×Int)} {rows:List (List Th)} (F:FrK ins outs rows) {f':List (az×V)} (hD:FrD ins rows (f'.map (·.1))) {s:Nat} {row:List Th} (xV:rows[s]?=some row) {p:Th} (hp:p∈row) :
 ((frS ins rows s).cut (Dk f' (s:Nat)) []).lies (p.fill fun l _=>(frS ins rows l.toNat).cut (Dk f' ((l.toNat:Nat):Int)) [])=true:=by
 have hs:=(US.mp xV).1;obtain ⟨j,hj⟩:=Vc.mp hp;obtain ⟨C4,yU⟩:=F.fit.row row (UP xV);obtain ⟨k0,zp⟩:∃ k0,ins[j]?=some k0:=⟨_,UN (by have:=(US.mp hj).1;omega)⟩;have Ej:=yU j p k0 hj zp;obtain ⟨z1,z2,z3⟩:=jt F hs;have P6:=gx _ _ (UR _) z3
 have EN:∀ (m:Nat),m<rows.length->(frS ins rows m).lies (mkF ins rows (m:Nat))=true/\∀ zz,rows[m]?=some zz->∀ p'∈zz,(frS ins rows m).lies (p'.fill fun l _=>mkF ins rows l)=true:=fun m hm=>by
  obtain ⟨y1,y2,y3⟩:=jt F hm;have h0:=gx _ _ (UR _) y3;obtain ⟨g1,g2⟩:=j8 (frS ins rows m) ((rows[m]?).getD []) (mkF ins rows (m:Nat)) h0;refine ⟨g1,fun zz zP p' zt=>g2 p' (by rw [zP];exact zt)⟩
 have:=ky (f0:=fun l=>frS ins rows l.toNat) (D:=fun l=>Dk f' ((l.toNat:Nat):Int)) (mk:=mkF ins rows) (s:=(s:Nat)) (pat:=p) (fun c hc=>?_) _ (frS ins rows s) p [] (UR _) (fun x hx=>hx) (fun c hc=>hc) z3 ((EN s hs).2 row xV p hp)
 · exact this
 · obtain ⟨c0,c1,_⟩:=gA p [] Ej c hc;have NO:c.2.1.toNat<rows.length:=by omega
   have ES:((c.2.1.toNat:Nat):Int)=c.2.1:=WO c0;have hl:=(EN _ NO).1;rw [ES] at hl;refine ⟨hl,(jt F NO).2.2,fun r u hu hh=>i8.mpr (hD.hol _ NO (r,u) hu hh),fun r u hd hu=>?_⟩;have zo:(c.1++r,u)∈(frS ins rows s).pl []:=hu;obtain ⟨v,Ny,Je⟩:=oq _ (u:=u) (UR _) zo;have hk:=i8.mp hd;rw [ES] at hk;exact i8.mpr (hD.cl s row xV p hp c hc v Ny (r,u) Je hk)
theorem ou {ks:List (Vm×Int)}:∀ {ts:List Th} {t:Th},Fits ks ts->t∈ts->t.Fit ks
 | [],t,_,h=>(Xj h).elim
 | u::ts,t,h,hm=>by
   rw [Fits] at h;rcases Vd.mp hm with rfl | hm
   · exact h.1
   · exact ou h.2 hm
theorem In.fo {outs:List (Vm×Int)} {f v:Th} {r:List Int} (h:BB.In f r v):Th.Fo outs f->Th.Fo outs v:=by
 induction h with
 | here=>exact fun h=>h
 | kid hj hi ih =>
   intro hF;rw [Th.Fo] at hF;rcases hF with ⟨_,h2⟩ | ⟨_,_,h3⟩
   · rw [h2] at hj;simp at hj
   · exact ih (dP h3 (UP hj))
theorem uj:∀ {f g:Th} {r:List Int} {v:Th},In f r v->∀ {m:Vm} {ks:List Th},v=.knot m ks->v.isHole=false->f.lies g=true->(∀ {r1 r2:List Int} {x:Th},r=r1++r2->In f r1 x->x.isHole=false)->∃ us,In g r (.knot m us):=by
 intro f g r v h;induction h generalizing g with
 | here =>
   intro m ks e hh hl _;subst e;obtain ⟨us,rfl,_,_⟩:=lies_of hl hh;exact ⟨us,.here⟩
 | kid hj hi ih =>
   rename_i n OF j u v' r'
   intro m ks e hh hl hp;have h0:(Th.knot n OF).isHole=false:=hp (r1:=[]) (r2:=(j:Int)::r') rfl .here;refine hid fun ZZ kZ=>?_;obtain ⟨us,rfl,hlen,AD⟩:=lies_of hl h0;obtain ⟨w,hw⟩:∃ w,us[j]?=some w:=⟨_,UN (by have:=(US.mp hj).1;omega)⟩;obtain ⟨HA,Dh⟩:=ih (g:=w) e hh (cV AD j _ _ hj hw) fun {r1 r2 x} er hx=>hp (r1:=(j:Int)::r1) (r2:=r2) (by rw [er];rfl) (.kid hj hx);refine kZ ?_;exact ⟨HA,.kid hw Dh⟩
theorem oz {outs:List (Vm×Int)} {f v:Th} {r:List Int} (h:In f r v):Th.Fo outs f->v.isHole=false->∀ {r1 r2:List Int} {x:Th},r=r1++r2->In f r1 x->x.isHole=false:=by
 induction h with
 | here =>
   intro _ hh r1 r2 x e hx;have:r1=[]:=(List.append_eq_nil_iff.mp e.symm).1;subst this;cases hx with
   | here=>exact hh
 | kid hj hi ih =>
   rename_i n ks j u v' r'
   intro hF hh r1 r2 x e hx;rw [Th.Fo] at hF;rcases hF with ⟨_,h2⟩ | ⟨h1,h2,h3⟩
   · rw [h2] at hj;simp at hj
   · cases hx with
     | here=>rw [Th.isHole,decide_eq_false_iff_not];exact fun z=>h2 z.1
     | kid Dq hx =>
       rename_i j2 u2 UD
       injection e with e1 e2;have:j=j2:=by omega
       subst this;rw [hj] at Dq;cases Dq;exact ih (dP h3 (UP hj)) hh e2 hx
theorem rg {ins outs:List (Vm×Int)} {rows:List (List Th)} {S C:Int} {fr:Int->Th} {us:List Th} {tm:Vm} (hc:∀ l k,0<=l->l<S->0<=k->k<C->∃ t1,us[k.toNat]?=some t1/\∀ r m,Kn (fr l) r m->mX ins rows l t1 r m):∀ (n:Nat) (p f:Th) (r:List Int) (m:Vm),p.size<=n->p.FitS outs S C->Th.Fo outs f->f.lies (p.fill fun l _=>fr l)=true->Kn f r m->∃ n,NmAt ins rows n p (.knot tm us) r m
 | 0,p,_,_,_,hn,_,_,_,_=>by have:=p.size_pos;omega
 | n+1,.call l k,f,r,m,_,hf,hF,hl,hk=>by
   rw [Th.FitS] at hf;rw [Th.fill] at hl;refine hid fun ZZ kZ=>?_;obtain ⟨t1,h1,h2⟩:=hc l k hf.1 hf.2.1 hf.2.2.1 hf.2.2.2;obtain ⟨ks,hi,hh⟩:=hk;obtain ⟨vs,hv⟩:=uj hi rfl hh hl (oz hi hF hh);refine kZ ?_
   have Bo:Kn (fr l) r m:=⟨vs,hv,by
    rw [Th.isHole,decide_eq_false_iff_not];rintro ⟨z,_⟩;have:=In.fo hi hF;rw [Th.Fo] at this;rcases this with ⟨h3,h4⟩ | ⟨_,h4,_⟩
    · rw [Th.isHole,decide_eq_true ⟨h3,h4⟩] at hh;cases hh
    · exact h4 z⟩
   exact NmAt.goes (p:=.call l k) (q:=[]) (tm:=tm) .here rfl hf.2.2.1 h1 (h2 r m Bo)
 | n+1,.knot nm vs,f,r,m,hn,hf,hF,hl,hk=>by
   obtain ⟨ks,hi,hh⟩:=hk;cases hi with
   | here =>
     refine hid fun ZZ kZ=>?_;obtain ⟨HA,e,_,_⟩:=lies_of hl hh;refine kZ ?_;rw [Th.fill] at e;injection e with e1 _;subst e1;exact ⟨0,.here⟩
   | kid hj hi =>
     rename_i fm fs j u r'
     have Kh:(Th.knot fm fs).isHole=false:=oz (.kid hj hi) hF hh (r1:=[]) (r2:=(j:Int)::r') rfl .here;refine hid fun ZZ kZ=>?_;obtain ⟨HA,e,hlen,AD⟩:=lies_of hl Kh;refine kZ ?_;rw [Th.fill] at e;injection e with e1 e2;subst e1
     obtain ⟨w,hw⟩:∃ w,vs[j]?=some w:=by
      refine ⟨_,UN ?_⟩;have h1:=(US.mp hj).1;have h2:=congrArg Xg e2;rw [nI] at h2;omega
     have Du:HA[j]?=some (w.fill fun l _=>fr l):=by rw [<- e2,gB,hw];rfl
     rw [Th.size] at hn;have hz:=aK (UP hw)
     have Ta:Th.Fo outs u:=by
      rw [Th.Fo] at hF;rcases hF with ⟨_,h2⟩ | ⟨_,_,h3⟩
      · rw [h2] at hj;simp at hj
      · exact dP h3 (UP hj)
     obtain ⟨k,hk⟩:=rg hc n w u r' m (by omega) (eJ hf hw) Ta (cV AD j _ _ hj Du) ⟨ks,hi,hh⟩;exact ⟨k+1,.step hw hk⟩
theorem o5 {ins outs:List (Vm×Int)} {rows:List (List Th)} (F:FrK ins outs rows) {fr:Int->Th} (hF:∀ s:Nat,s<rows.length->Th.Fo outs (fr s)) (zY:∀ (s:Nat) (row:List Th),rows[s]?=some row->∀ p∈row,(fr s).lies (p.fill fun l _=>fr l)=true):∀ (n:Nat) (t:Th) (s:Nat) (r:List Int) (m:Vm),t.size<=n->t.Fit ins->s<rows.length->Kn (fr s) r m->mX ins rows (s:Nat) t r m
 | 0,t,_,_,_,hn,_,_,_=>by have:=t.size_pos;omega
 | n+1,.call a b,_,_,_,_,h,_,_=>by rw [Th.Fit] at h;exact h.elim
 | n+1,.knot vm vs,s,r,m,hn,yU,hs,hk=>by
   rw [Th.Fit] at yU;rw [Th.size] at hn;refine hid fun ZZ kZ=>?_;obtain ⟨i,hi⟩:=Vc.mp yU.1;obtain ⟨row,xV⟩:∃ row,rows[s]?=some row:=⟨_,UN hs⟩;obtain ⟨C4,NB⟩:=F.fit.row row (UP xV);obtain ⟨p,hp⟩:∃ p,row[i]?=some p:=⟨_,UN (by have:=(US.mp hi).1;omega)⟩;have Ej:=NB i p _ hp hi
   obtain ⟨k,hk⟩:=rg (ins:=ins) (rows:=rows) (tm:=vm) (us:=vs) (fr:=fr) (fun l k h0 h1 h2 h3=>by
    obtain ⟨t1,Kd⟩:∃ t1,vs[k.toNat]?=some t1:=⟨_,UN (by dsimp only at h3;omega)⟩;have hm:=UP Kd;have hz:=aK hm;refine ⟨t1,Kd,fun r m hk=>?_⟩;have e:((l.toNat:Nat):Int)=l:=WO h0;rw [<- e] at hk;have:=o5 F hF zY n t1 l.toNat r m (by omega) (ou yU.2 hm) (by omega) hk;rw [e] at this;exact this) _ p (fr s) r m (UR _) Ej (hF s hs) (zY s row xV p (UP hp)) hk
   refine kZ ?_;exact ⟨vm,vs,row,i,_,p,k,by omega,rfl,xV,hi,rfl,hp,hk⟩
inductive qE (K:UO) (vs:List V) (H:Hp) (Q:VK) (_E:XK):Prop
 | mk (a:UQ) (ns:List Int) (yf:vs=[.ref a]) (yg:SqL K H a (ns.map V.int)) (yl:ns.length<=63) (yx:∀ H',Q (.bl true) H'):qE K vs H Q _E
def mT (K:UO):Sp:=qE K
theorem wG {ins outs:List (Vm×Int)} {rows:List (List Th)} (F:FrK ins outs rows) (go:bV outs) {B:Nat} (hB:∀ row∈rows,∀ p∈row,p.size<=B) (f':List (az×V)):∀ s<rows.length,Th.Fo outs ((frS ins rows s).cut (Dk f' (s:Nat)) [])/\((frS ins rows s).cut (Dk f' (s:Nat)) []).size<=B/\(mkF ins rows (s:Nat)).size<=B:=fun s hs=>by
 refine hid fun ZZ kZ=>?_;obtain ⟨row,p,hr,hp,e,z1,z2,hf⟩:=F.mkd (l:=(s:Nat)) (by omega) (by omega);refine kZ ?_;have h9:=hB row (UP hr) p (UP hp);have hz:=iD (mkF ins rows) (mkF ins rows (s:Nat)) ((rows[s]?).getD []);have hc:=km (Dk f' (s:Nat)) _ (frS ins rows s) [] (UR _);have Tb:(frS ins rows s).size<=(mkF ins rows (s:Nat)).size:=hz.1;rw [e] at Tb;refine ⟨t7 _ _ _ [] (UR _) (ug _ _ _ ?_),by omega,by rw [e];exact h9⟩;rw [e];exact sI go _ _ (UR _) hf
theorem mW {K:UO} {H:Hp} {α:Type} {f:α->Th}:∀ {zs:List α} {as:List UQ},Vs (fun z a=>AtK K H (f z) a) zs as->DAtsK K H (zs.map fun z=>(f z).dv) (as.map V.ref)
 | _,_,.nil=>.nil
 | _,_,.cons r h=>.cons r.dv (mW h)
theorem mm {K:UO} {H:Hp} {α:Type} (f:α->Int):∀ zs:List α,DAtsK K H (zs.map fun z=>Dv.int (f z)) (zs.map fun z=>V.int (f z))
 | []=>.nil
 | z::zs=>.cons (by rw [DAtK]) (mm f zs)
theorem lz {α:Type} (f:α->Int):∀ zs:List α,bN (zs.map fun z=>Dv.int (f z))<=0
 | []=>by rw [WN,bN];exact UR _
 | z::zs=>by rw [VJ,bN,Dv.deep];have:=lz f zs;omega
set_option maxHeartbeats 4000000 in
theorem vJ:bn P w K mg base CX0 22 T.g_law.f T.g_law.d ["script"] (mT K):=by
 refine T.g_law.F.ok db (fun vs H Q E h=>?_) (fun yc A outer s H vs Q E hr h=>?_)
 · obtain ⟨a,ns,rfl,_⟩:=h;rfl
 obtain ⟨a,ns,rfl,hS,Cd,k⟩:=h
 refine ⟨_,(ae (av (i:=1) db.nd rfl (Zh rfl) (pcF T.g__law_drawn (lN T) hr (aa (pv 0) (aa af ac))))
  (ae (av (i:=2) db.nd rfl (U9 rfl) (pcF T.g_fronts_of (i0 T) hr (aa (pv 1) ac)))
  (ae (bY (PW.pt (mr (m8 (bJ (aB (i5 (T:="list")) rfl T.n_isinstance YT (aa (pv 2) (aa (ni (v:=.ty "list") rfl T.n_list Zu rfl) ac))) (fun _=>rfl))) (kG (aP rf (aB aq rfl T.n_len Vu (aa (pv 2) ac)) (aB aq rfl T.n_len Vu (aa (ay aC (pv 1) af (fun _ _=>rfl)) ac)) (aS _))))) (ag (aD oT)) bO)
  (ae (bY (m8 (bJ (aB (o8 rfl) rfl T.n_all PyProof.Rows.boot_all (aa (cD (N:=[UU "front",UU "book"]) (js:=[none,some 1]) (g:=(aG 0)) (tt:=bH) (te:=(gN (cT K _) [] E0 (bA (tOp (rL K) (bp 1) (tC (.int 1))) (bA (bp 0) dL)))) rfl (cx rfl (by decide +kernel) (by decide +kernel) rfl rfl rfl) (bQ (pv 2)) (fun _ _ _ _ _ _=>(aj (i:=0) xf rfl (U9 rfl))) (aR rfl) (fun _ _ _ _ _ _=>bS) (fun _ _ _ _ _ _=>(pcF T.g__law_is_front (eQ T 10) hr (aa (ay aC (pv 1) af (fun _ _=>rfl)) (aa (pv 0) ac))))) ac)) (fun _=>rfl))) (ag (aD oT)) bO)
  (ae (av (i:=3) db.nd rfl (U9 rfl) (cH nn rfl T.n_list Zu (aa (pv 2) ac)))
  (ae (bi Vq rfl (bq rfl T.n_range (aa (aB (rG rfl) rfl T.n_min PyProof.Rows.boot_min (aa af (aa (aw bF (aB aq rfl T.n_len Vu (aa (pv 0) ac)) af) ac))) ac)) (aj (i:=4) db.nd rfl (U9 rfl)) (ae (av (i:=5) db.nd rfl (U9 rfl) (pcF T.g__law_tree (iH T 6) hr (aa (bu (aa (pcF T.g__law_mixed (cX T) hr (aa (pcF T.g__law_cell (cr T) hr (aa (pv 0) (aa (pv 4) ac))) (aa (aw cJ af (pv 4)) ac))) (aa af ac))) (aa (ay aC (pv 1) af (fun _ _=>rfl)) (aa af ac)))))
  (ag (bi Vq rfl (bq rfl T.n_range (aa (aB aq rfl T.n_len Vu (aa (pv 2) ac)) ac)) (aj (i:=6) db.nd rfl (U9 rfl)) (ag (bi Vq rfl (bQ (pcF T.g__law_knots (g7 T 10) hr (aa (ay aO (pv 2) (pv 6) (fun _ _=>rfl)) (aa (aI ac) (aa (bu ac) ac))))) (bo rfl (au (aj (i:=7) db.nd rfl (U9 rfl)) (au (aj (i:=8) db.nd rfl (U9 rfl)) aX))) (ag (bY (aP rf (pcF T.g__law_name_at (jO T) hr (aa (pv 1) (aa (pv 6) (aa (pv 5) (aa (pv 7) ac))))) (pv 8) (aS _)) (ag (aD oT)) bO))))))))
  (ae (av (i:=9) db.nd rfl (U9 rfl) (pcF T.g_partings_of (gg T) hr (aa (pv 1) ac)))
  (ae (di (i:=10) (N:=[UU "row"]) (js:=[none]) (g:=(aG 0)) (tt:=bH) (te:=(tCB (px K) (bA (bp 0) dL))) db.nd rfl (U9 rfl) rfl (cx rfl (by decide +kernel) (by decide +kernel) rfl rfl rfl) (bQ (pv 9)) (fun _ _ _ _ _ _=>(aj (i:=0) vA rfl (U9 rfl))) (aR rfl) (fun _ _ _ _ _ _=>bS) (fun _ _ _ _ _ _=>(aB aq rfl T.n_len Vu (aa (pv 0) ac))))
  (ae (aL (fP U3 Zn Zm kR (pv 2)))
  (ae (bi Vq rfl (bQ (pv 9)) (aj (i:=11) db.nd rfl (U9 rfl)) (ag (aL (fP U3 Zn Zm kR (pv 11)))))
  (ae (aL (fP U3 Zn Zm kR (pv 9)))
  (ag (aD (nH (eZ (qY (B:=150) (iI hr)) (pcF T.g_fronts_of (i0 T) hr (aa (pv 1) ac)) (pv 3) (aS _)) (pR (eZ (qY (B:=150) (iI hr)) (cD (N:=[UU "row"]) (js:=[none]) (g:=(aG 0)) (tt:=bH) (te:=(tCB (px K) (bA (bp 0) dL))) rfl (cx rfl (by decide +kernel) (by decide +kernel) rfl rfl rfl) (bQ (pcF T.g_partings_of (gg T) hr (aa (pv 1) ac))) (fun _ _ _ _ _ _=>(aj (i:=0) vA rfl (U9 rfl))) (aR rfl) (fun _ _ _ _ _ _=>bS) (fun _ _ _ _ _ _=>(aB aq rfl T.n_len Vu (aa (pv 0) ac)))) (pv 10) (aS _))))))))))))))))),?_⟩
 try dsimp only [yz,xZ]
 refine ⟨_,rfl,a,ns,3,rfl,hS,Cd,by decide,by decide,fun b ins outs S head rows H1 s1 hb gi go Tc hok PX=>?_⟩;have hlen:=hok.len
 have Jx:∀ row∈rows,∀ p∈row,∃ k:Vm×Int,p.FitS outs S k.2/\p.size<=9:=fun row xV p hp=>by
  obtain ⟨j,hj⟩:=Vc.mp hp;have C4:=hok.row row xV;obtain ⟨k0,zp⟩:∃ k0,ins[j]?=some k0:=⟨_,UN (by have:=(US.mp hj).1;omega)⟩;exact ⟨k0,hok.fit row xV j p k0 hj zp⟩
 have F:FrK ins outs rows:=⟨gi,⟨rfl,fun row xV=>⟨hok.row row xV,fun j p k0 hp hk=>by rw [hlen];exact (hok.fit row xV j p k0 hp hk).1⟩⟩,by omega,fun row xV p hp=>by
  obtain ⟨_,_,h⟩:=Jx row xV p hp;have:=eS p;exact ⟨by omega,by omega⟩⟩
 refine ⟨_,rfl,b,ins,outs,head,rows,rfl,hb,F,go,fun fl fs f' H2 s2 zC FT hD hK=>?_⟩;have P7:=wG F go (B:=9) (fun row xV p hp=>(Jx row xV p hp).choose_spec.2) f'
 have NP:∀ s<rows.length,Th.Fo outs ((frS ins rows s).cut (Dk f' (s:Nat)) [])/\((frS ins rows s).cut (Dk f' (s:Nat)) []).size<=9/\((frS ins rows s).cut (Dk f' (s:Nat)) []).tall<=9:=fun s hs=>by
  obtain ⟨y1,y2,_⟩:=P7 s hs;have:=eS ((frS ins rows s).cut (Dk f' (s:Nat)) []);exact ⟨y1,by omega,by omega⟩
 have Gx:∀ (t:Th) (s:Nat) (r:List Int) (m:Vm),t.Fit ins->s<rows.length->Kn ((frS ins rows s).cut (Dk f' (s:Nat)) []) r m->mX ins rows (s:Nat) t r m:=fun t s r m h1 h2 h3=>by
  refine o5 F (fr:=fun l=>(frS ins rows l.toNat).cut (Dk f' ((l.toNat:Nat):Int)) []) (fun s hs=>?_) (fun s row xV p hp=>?_) _ t s r m (UR _) h1 h2 h3
  · exact (NP s hs).1
  · exact mZ F hD xV hp
 have DY:∀ yW,KeyM ins rows yW->(fun (s:Nat)=>(frS ins rows s).cut (Dk yW (s:Nat)) [])=fun (s:Nat)=>(frS ins rows s).cut (Dk f' (s:Nat)) []:=fun yW h=>funext fun s=>by rw [h.eq hK s]
 generalize FY:(fun (s:Nat)=>(frS ins rows s).cut (Dk f' (s:Nat)) [])=fr at DY;have FZ:∀ s<rows.length,Th.Fo outs (fr s)/\(fr s).size<=9/\(fr s).tall<=9:=by rw [<- FY];exact NP
 have NQ:∀ (t:Th) (s:Nat) (r:List Int) (m:Vm),t.Fit ins->s<rows.length->Kn (fr s) r m->mX ins rows (s:Nat) t r m:=by rw [<- FY];exact Gx
 have DZ:Vs (fun s a=>AtK K H2 (fr s) a) (Vp rows.length) fs:=by rw [<- FY];exact FT
 clear NP Gx FT P7;refine hid fun ZZ kZ=>?_;obtain ⟨ia,oa,ha,ra,yb,yq,yM,bk⟩:=id (hb.mono (Same.kt s2));refine kZ ?_;have DF:rows.length=yM.length:=U2 bk.rw;have NR:(Vp rows.length).length=fs.length:=U2 DZ;rw [Vx] at NR;have yo:=hb.mono (Same.kt s2)
 -- NS
 refine ⟨_,rfl,_,_,_,rfl,.lst zC,vZ,_,rfl,?_⟩;refine iG ?_;refine ⟨_,rfl,fl,_,rfl,.inl (SqL.of zC),_,rfl,b,_,3,.ref ra,rfl,rfl,SqT.of bk.bk,at_nonneg (by decide) rfl,ra,_,rfl,.inr (SqT.of bk.rl),rfl,_,rfl,?_⟩;have CM:(fs.map V.ref).length=(yM.map V.ref).length:=by rw [UL,UL];omega
 refine cP (fun c4=>by rw [CM,decide_eq_true rfl] at c4;cases c4) (fun c4=>?_);dsimp only [tN];refine eI (fun bb H'=>An2 (bb=false) (L2.Same H2 H')) (fun k2 AN=>?_) (fun H' hb=>absurd hb.1 (by decide)) (fun H3 LW=>?_)
 · refine ⟨_,rfl,fl,rfl,⟨_,SqL.of zC⟩,fun D hD=>?_⟩;refine ⟨rows.length,fun j H6=>An3 (j<=rows.length) (L2.Same H2 H6) (H6 D=some (.lst ((WI j true).map V.bl))),⟨Vn _,ad hD _,ab⟩,?_⟩;rintro j H6 ⟨hj,s6,eD⟩;by_cases By:j=rows.length
   · left;refine ⟨⟨_,SqL.of (s6 _ _ zC),by rw [UL];omega⟩,?_⟩;refine ⟨D,WI j true,rfl,SqL.of eD,?_⟩;rw [show (WI j true).all id=true from Xm.mpr fun b hb=>(List.mem_replicate.mp hb).2];exact ⟨_,rfl,AN _ _ ⟨rfl,s6⟩⟩
   · right;have yk:j<rows.length:=by omega
     refine hid fun ZZ kZ=>?_;obtain ⟨fa,y6⟩:∃ fa,fs[j]?=some fa:=⟨_,UN (by omega)⟩;obtain ⟨s',zS,zH⟩:=P2.get' DZ y6;rw [We yk] at zS;cases zS;obtain ⟨z1,z2,z3⟩:=FZ j yk;refine kZ ?_;refine ⟨yk,⟨_,.ref fa,SqL.of (s6 _ _ zC),by rw [UZ,y6];rfl⟩,?_⟩;rintro x' H7 ⟨Aj,hv⟩;have FU:H7=H6:=Aj;subst FU;have yL:=hv _ (SqL.of (s6 _ _ zC));rw [UZ,y6] at yL;cases yL;refine ⟨_,rfl,b,_,1,.ref oa,rfl,rfl,SqT.of (s6 _ _ bk.bk),at1,_,rfl,oa,fa,yq,outs,fr j,rfl,s6 _ _ bk.outE,bk.outK.mono (Same.kt s6),zH.mono (Same.kt s6),z1,by omega,(by show _<=9+1;omega),fun H8 s8=>?_⟩;have Kt:=s8 _ _ eD;refine ⟨_,Kt,aF (by rw [UL,XX];omega),yk,ax (s6.trans s8) hD,?_⟩;rw [ab,List.replicate_succ',U5];rfl
 have FL:=LW.2;dsimp only [tN]
 -- a copy is held
 have F0:=FL _ _ zC;refine ⟨_,rfl,fl,_,rfl,.inl (SqL.of F0),fun hl CG=>?_⟩
 try dsimp only [aG]
 have EJ:L2.Same H3 (upd H3 hl (.lst (fs.map V.ref))):=ad CG _;have BA:(upd H3 hl (.lst (fs.map V.ref))) hl=some (.lst (fs.map V.ref)):=ab;have Jy:fl≠hl:=fun z=>by rw [z,CG] at F0;cases F0
 generalize (upd H3 hl (.lst (fs.map V.ref)))=H4 at EJ BA ⊢;have KA:=FL.trans EJ;have BN:=s1.trans (s2.trans KA);have Td:=KA _ _ zC
 -- trees
 refine ⟨_,rfl,a,_,rfl,.inl (BN.seq hS),_,_,rfl,rfl,_,_,rfl,?_⟩;have Ku:0<=(if (((ns.map V.int).length:Nat):Int)+1<8 then (((ns.map V.int).length:Nat):Int)+1 else 8)/\(if (((ns.map V.int).length:Nat):Int)+1<8 then (((ns.map V.int).length:Nat):Int)+1 else 8)<=8:=by split <;> omega
 generalize (if (((ns.map V.int).length:Nat):Int)+1<8 then (((ns.map V.int).length:Nat):Int)+1 else 8)=n8 at Ku ⊢;obtain ⟨UE,UG⟩:=Ku;refine ⟨_,rfl,by omega,by omega,?_⟩;refine bB (n:=n8.toNat) (fun i σ H5=>Ex5 fun (c4 c5 c6 c7 c8:Option V)=>An2 (σ=[some (.ref a),some (.ref b),some (.ref fl),some (.ref hl),c4,c5,c6,c7,c8,none,none,none]) (L2.Same H4 H5)) ⟨none,none,none,none,none,rfl,.refl _⟩ ?_ ?_
 · rintro i σ H5 hi ⟨c4,c5,c6,c7,c8,rfl,BR⟩;have Fp:i<n8.toNat:=hi;have Df:=KA.trans BR;have Jk:=BN.trans BR;refine ⟨_,rfl,_,rfl,a,ns,_,rfl,Jk.seq hS,by omega,fun c=>⟨_,rfl,_,_,rfl,rfl,.inl ⟨by omega,by omega⟩,c,_,rfl,fun z=>?_⟩⟩;refine ⟨ak (by show 2<=1000000;decide),fun l1 y9=>?_⟩;have Jz:L2.Same H5 (upd H5 l1 (.lst [.int z,.int 8])):=ad y9 _;have e6:(upd H5 l1 (.lst [.int z,.int 8])) l1=some (.lst [.int z,.int 8]):=ab;have CU:=Df.trans Jz;refine ⟨_,rfl,b,_,0,.ref ia,rfl,rfl,SqT.of (CU _ _ bk.bk),at0,l1,ia,z,8,5,yb,ins,rfl,e6,CU _ _ bk.inE,bk.inK.mono (Same.kt CU),gi,by decide,by decide,by decide,fun t ta x' b' H7 sb el AK yU De hsz yv=>?_⟩;have P8:L2.Same H5 H7:=dl y9 sb;clear sb e6 Jz CU
   try dsimp only [aG]
   have GA:=Df.trans P8;have CW:=GA _ _ zC;refine ⟨_,rfl,fl,_,rfl,.inl (SqL.of CW),_,rfl,by omega,by rw [UL];omega,?_⟩;refine bB (n:=(((fs.map V.ref).length:Nat):Int).toNat) (fun j σ H8=>Ex3 fun (c6 c7 c8:Option V)=>An2 (σ=[some (.ref a),some (.ref b),some (.ref fl),some (.ref hl),some (.int (0+(i:Int))),some (.ref ta),c6,c7,c8,none,none,none]) (L2.Same H7 H8)) ⟨_,_,_,rfl,.refl _⟩ ?_ ?_
   · rintro j σ H8 hj ⟨c6,c7,c8,rfl,JA⟩
     have yk:j<rows.length:=by
      have h1:j<(((fs.map V.ref).length:Nat):Int).toNat:=hj;rw [UL] at h1;omega
     have NT:=GA.trans JA;refine hid fun ZZ kZ=>?_;obtain ⟨fa,y6⟩:∃ fa,fs[j]?=some fa:=⟨_,UN (by omega)⟩;obtain ⟨s',zS,zH⟩:=P2.get' DZ y6;rw [We yk] at zS;cases zS;obtain ⟨z1,z2,z3⟩:=FZ j yk;refine kZ ?_;refine ⟨_,rfl,_,rfl,fl,_,_,.ref fa,rfl,rfl,SqL.of (NT _ _ zC),at_nonneg (by omega) (by rw [show (0+(j:Int)).toNat=j by omega,UZ,y6];rfl),ak (by show 0<=1000000;decide),fun ep Nf=>?_⟩;have Br:L2.Same H8 (upd H8 ep (.tup [])):=ad Nf _;have e9:(upd H8 ep (.tup [])) ep=some (.tup (([]:List Int).map V.int)):=ab;generalize (upd H8 ep (.tup []))=H9 at Br e9 ⊢;refine ⟨ak (by show 0<=1000000;decide),fun kl yX=>?_⟩;have NU:L2.Same H9 (upd H9 kl (.lst [])):=ad yX _;refine ⟨fa,ep,kl,fr j,outs,[],[],[],rfl,zH.mono (Same.kt (NT.trans (Br.trans NU))),z1,NU _ _ e9,ab,.nil,by omega,by show 0+_<=10000;omega,by show 0+10<=1000;omega,fun es M yH sb P9 hE NN xY=>⟨kl,rfl,⟨_,SqL.of P9⟩,?_⟩⟩;have zB:L2.Same H8 yH:=Br.trans (dl yX sb);rw [W9] at hE;clear sb NU e9 Br;refine cY (K:=K) (a:=kl) (xs:=es.map V.ref) (fun n σ yQ=>Ex2 fun (c7 c8:Option V)=>An2 (σ=[some (.ref a),some (.ref b),some (.ref fl),some (.ref hl),some (.int (0+(i:Int))),some (.ref ta),some (.int (0+(j:Int))),c7,c8,none,none,none]) (L2.Same yH yQ)) ⟨_,_,rfl,.refl _⟩ (fun n σ yQ _ ⟨_,_,_,yI⟩=>SqL.of (yI _ _ P9)) ?_ ?_
     · rintro n x σ yQ hx ⟨c7,c8,rfl,yI⟩;refine hid fun ZZ kZ=>?_;obtain ⟨ea,rfl,Te⟩:=aT hx;obtain ⟨e,he,pa,e1,e2⟩:=P2.get' hE Te;obtain ⟨r,zP,Gu⟩:=xY e (UP he);refine kZ ?_;rw [W9] at zP;have NV:=NT.trans (zB.trans yI)
       have hd:e.1.length<=1000:=by
        obtain ⟨ks,AH,_⟩:=Gu;have hd:=qJ _ (fr j) [] (UR _) _ (In.to AH);rw [XS] at hd;dsimp only at hd;rw [zP];omega
       refine ⟨ea,_,rfl,SqT.of (yI _ _ e1),rfl,_,_,rfl,_,_,rfl,rfl,?_⟩;dsimp only [aG];refine ⟨_,rfl,_,rfl,_,rfl,_,rfl,b,ta,pa,_,ins,outs,head,rows,t,e.1,e.2,rfl,yo.mono (Same.kt NV),gi,AK.mono (Same.kt (JA.trans (zB.trans yI))),yI _ _ e2,hd,by rw [Ws,zP];exact NQ t j r e.2 yU yk Gu,fun BH yF=>⟨_,rfl,rfl,_,rfl,?_⟩⟩;rw [decide_eq_true rfl];refine iG ?_;exact ⟨_,_,rfl,yI.trans yF⟩
     · rintro σ yQ ⟨c7,c8,rfl,yI⟩;exact ⟨_,_,_,rfl,JA.trans (zB.trans yI)⟩
   · rintro σ H8 ⟨c6,c7,c8,rfl,JA⟩;exact ⟨_,_,_,_,_,rfl,BR.trans (P8.trans JA)⟩
 rintro σ H5 ⟨c4,c5,c6,c7,c8,rfl,BR⟩;have Df:=KA.trans BR
 -- partings
 refine ⟨_,rfl,b,ins,outs,head,rows,rfl,yo.mono (Same.kt Df),F,go,fun pl ls NW H6 Jz UH Tf P' BQ AI=>?_⟩
 try dsimp only [aG]
 rw [DY NW Tf] at P';obtain ⟨Fz,AD⟩:=P';have CU:=Df.trans Jz;have CT:=BR.trans Jz;have JB:(Vp rows.length).length=ls.length:=U2 AD;rw [Vx] at JB;have JC:pl≠fl:=fun z=>by rw [z,Df _ _ zC] at BQ;cases BQ
 have JD:pl≠hl:=fun z=>by rw [z,BR _ _ BA] at BQ;cases BQ
 have NX:∀ la∈ls,la≠fl:=fun la h z=>by have:=(AI la h).1;rw [z,Df _ _ zC] at this;cases this
 have NY:∀ la∈ls,la≠hl:=fun la h z=>by have:=(AI la h).1;rw [z,BR _ _ BA] at this;cases this
 have F1:∀ la∈ls,∃ xs,H6 la=some (.lst xs):=fun la h=>by
  obtain ⟨j,hj⟩:=Vc.mp h;obtain ⟨_,_,prs,e,_⟩:=P2.get' AD hj;exact ⟨_,e⟩
 refine ⟨_,rfl,pl,rfl,⟨_,SqL.of Fz⟩,fC (Vp rows.length) (fun s=>V.int (((eW (fr s)).length:Nat):Int)) (SqL.of Fz) (by rw [UL,Vx];exact JB) (by rw [UL];omega) (fun j x z H7 R W' hx hz s7 hR=>?_) (fun ml H7 B2 GB Tg=>?_)⟩
 · refine hid fun ZZ kZ=>?_;obtain ⟨la,rfl,CY⟩:=aT hx;obtain ⟨z',za,prs,NZ,BI⟩:=P2.get' AD CY;refine kZ ?_;rw [hz] at za;cases za;have Cz:(eW (fr z)).length=prs.length:=U2 BI;refine ⟨_,rfl,la,_,rfl,.inl (SqL.of (s7 _ _ NZ)),?_⟩;have:=hR H7 (.refl _);rw [Cz] at this;rw [UL];exact this
 try dsimp only [aG]
 have GA:=CU.trans GB;have CW:=GA _ _ zC;have JE:ml≠fl:=fun z=>by rw [z,CU _ _ zC] at B2;cases B2
 have Qa:ml≠hl:=fun z=>by rw [z,CT _ _ BA] at B2;cases B2
 have JF:ml≠pl:=fun z=>by rw [z,Fz] at B2;cases B2
 have JG:∀ la∈ls,la≠ml:=fun la h z=>by
  obtain ⟨xs,e⟩:=F1 la h;rw [z,B2] at e;cases e
 -- emptied
 refine ⟨_,rfl,.inl ⟨rfl,_,SqL.of CW⟩,fl,_,rfl,rfl,CW,?_⟩;have D0:(upd H7 fl (.lst [])) pl=some (.lst (ls.map V.ref)):=by rw [ai JC];exact GB _ _ Fz
 refine ⟨_,rfl,pl,rfl,⟨_,SqL.of D0⟩,?_⟩;have N0:∀ c o,c≠fl->H7 c=some o->(upd H7 fl (.lst [])) c=some o:=fun c o h e=>by rw [ai h];exact e
 have Qb:∀ la∈ls,∃ xs,(upd H7 fl (.lst [])) la=some (.lst xs):=fun la h=>by
  obtain ⟨xs,e⟩:=F1 la h;exact ⟨xs,N0 _ _ (NX la h) (GB _ _ e)⟩
 generalize (upd H7 fl (.lst []))=H8 at D0 N0 Qb ⊢
 refine cY (K:=K) (a:=pl) (xs:=ls.map V.ref) (fun j σ H9=>Ex1 fun (BP:Option V)=>An3 (σ=[some (.ref a),some (.ref b),some (.ref fl),some (.ref hl),c4,c5,c6,c7,c8,some (.ref pl),some (.ref ml),BP]) ((∀ c o,c∉ls->H8 c=some o->H9 c=some o)) (∀ la∈ls,∃ xs,H9 la=some (.lst xs)))
  ⟨_,rfl,fun _ _ _ e=>e,Qb⟩ (fun j σ H9 _ ⟨_,_,g9,_⟩=>SqL.of (g9 _ _ (fun z=>(AI pl z).2 rfl) D0)) ?_ ?_
 · rintro j x σ H9 hx ⟨BP,rfl,g9,N1⟩;obtain ⟨la,rfl,CY⟩:=aT hx;have hm:=UP CY;obtain ⟨xs,e⟩:=N1 la hm;refine ⟨_,rfl,.inl ⟨rfl,_,SqL.of e⟩,la,_,rfl,rfl,e,?_⟩;refine ⟨_,rfl,fun c o hc ec=>?_,fun Qc h'=>?_⟩
   · rw [ai (fun z=>hc (by rw [z];exact hm))];exact g9 c o hc ec
   · by_cases hz:Qc=la
     · exact ⟨[],by rw [hz,ab]⟩
     · obtain ⟨ys,e'⟩:=N1 Qc h';exact ⟨ys,by rw [ai hz];exact e'⟩
 rintro σ H9 ⟨BP,rfl,g9,N1⟩;have JH:pl∉ls:=fun z=>(AI pl z).2 rfl;have JI:=g9 _ _ JH D0;refine ⟨_,rfl,.inl ⟨rfl,_,SqL.of JI⟩,pl,_,rfl,rfl,JI,?_⟩
 have KC:∀ c o,c≠fl->c∉ls->c≠pl->H7 c=some o->(upd H9 pl (.lst [])) c=some o:=fun c o h1 h2 h3 e=>by
  rw [ai h3];exact g9 c o h2 (N0 c o h1 e)
 generalize (upd H9 pl (.lst []))=yH at KC ⊢
 have BF:KT H7 yH:=fun c ys e=>KC c _ (fun z=>by rw [z,CW] at e;cases e) (fun z=>by
  obtain ⟨xs,e'⟩:=F1 c z;rw [GB _ _ e'] at e;cases e) (fun z=>by rw [z,GB _ _ Fz] at e;cases e) e
 have JJ:=KC _ _ Jy.symm (fun z=>NY _ z rfl) JD.symm ((CT.trans GB) _ _ BA);have JK:=KC _ _ JE (fun z=>JG _ z rfl) JF Tg;have JL:=(yo.mono (Same.kt GA)).mono BF;have JM:Vs (fun s a=>AtK K yH (fr s) a) (Vp rows.length) fs:=P2.mp (fun _ _ h=>(h.mono (Same.kt GA)).mono BF) DZ
 -- once more
 have UI:bN ((Vp rows.length).map fun s=>(fr s).dv)<=9:=by
  have:=iE (B:=9) (ts:=(Vp rows.length).map fr) fun t ht=>by
   obtain ⟨s,hs,rfl⟩:=VM.mp ht;exact (FZ s (W5.mp hs)).2.2
  rw [W2] at this;exact this
 refine ⟨_,rfl,b,ins,outs,head,rows,rfl,JL,F,go,fun Ti Tj N2 yQ yI N3 N4 UJ Tn=>?_⟩;have JN:Vs (fun s a=>AtK K yQ (fr s) a) (Vp rows.length) Tj:=by rw [<- DY N2 Tn];exact N4
 refine ⟨_,rfl,Ti,hl,_,_,_,_,rfl,rfl,SqL.of N3,SqL.of (yI _ _ JJ),mW JN,mW (P2.mp (fun _ _ h=>h.mono (Same.kt yI)) JM),by omega,fun bb KR=>⟨_,rfl,?_⟩⟩;have PQ:bb=true:=KR.mpr rfl;subst PQ;rw [if_pos rfl];refine ⟨_,rfl,b,ins,outs,head,rows,rfl,JL.mono (Same.kt yI),F,go,fun To Tp N5 BH yF UK Tq JO _ _=>?_⟩;rw [DY N5 Tq] at JO;obtain ⟨JP,JQ⟩:=JO;have EO:(Vp rows.length).length=Tp.length:=U2 JQ;rw [Vx] at EO;refine ⟨To,rfl,⟨_,SqL.of JP⟩,fC (Vp rows.length) (fun s=>V.int (((eW (fr s)).length:Nat):Int)) (SqL.of JP) (by rw [UL,Vx];exact EO) (by rw [UL];omega) (fun j x z H7 R W' hx hz s7 hR=>?_) (fun D C7 hD CL eD=>?_)⟩
 · refine hid fun ZZ kZ=>?_;obtain ⟨la,rfl,CY⟩:=aT hx;obtain ⟨z',za,prs,NZ,BI⟩:=P2.get' JQ CY;refine kZ ?_;rw [hz] at za;cases za;have Cz:(eW (fr z)).length=prs.length:=U2 BI;refine ⟨_,rfl,la,_,rfl,.inl (SqL.of (s7 _ _ NZ)),?_⟩;have:=hR H7 (.refl _);rw [Cz] at this;rw [UL];exact this
 have E7:∀ H,DAtsK K H ((Vp rows.length).map fun s=>Dv.int (((eW (fr s)).length:Nat):Int)) ((Vp rows.length).map fun s=>V.int (((eW (fr s)).length:Nat):Int)):=fun H=>mm _ _;have Ii:bN ((Vp rows.length).map fun s=>Dv.int (((eW (fr s)).length:Nat):Int))<=0:=lz _ _;refine ⟨_,rfl,D,ml,_,_,_,_,rfl,rfl,SqL.of eD,SqL.of ((yI.trans (yF.trans CL)) _ _ JK),E7 _,E7 _,by omega,fun b2 N6=>?_⟩;have N7:b2=true:=N6.mpr rfl;subst N7;exact k _
end
set_option maxHeartbeats 8000000 in
theorem all_mk {l:PySem.W.OpenLaw} {w:Vj} {K:UO} {h:V9} {mg:Vm->Option UT} {fa:UQ} (X:K.In h) (G:h.Ns VC mg) (y6:mg "law"=some (.ref fa))
 {JR:UQ} {N8 JS:Option UQ} {N9:Array (Option UT)} {N' JT JU JV F2 JW:UT} {Qd:Tok} {Ge:Tok} {Oa:UQ} {Ob:Option UQ} {Tr:Nat} {Oc:Array (Option UT)} {JX:Tok}
 (g_kids_of:FX K mg "kids_of" jq ["thing"])
 (g_walked:FX K mg "walked" kO ["thing"])
 (g_placed:FX K mg "placed" ld ["thing"])
 (g_built:FX K mg "built" nS ["tops"])
 (g_places:FX K mg "places" kf ["tree"])
 (g_is_call:FX K mg "is_call" ja ["thing"])
 (g_is_hole:FX K mg "is_hole" jj ["thing"])
 (g_is_knot:FX K mg "is_knot" i7 ["thing"])
 (g_called_by:FX K mg "called_by" fK ["call"])
 (g_calls_in:FX K mg "calls_in" iq ["pattern"])
 (g_holes_in:FX K mg "holes_in" ie ["front"])
 (g_top_of:FX K mg "top_of" kT ["part"])
 (g_filled:FX K mg "filled" kP ["pattern","table"])
 (g_same_top:FX K mg "same_top" iu ["one","two"])
 (g_side_by_side:FX K mg "side_by_side" dB ["one","two"])
 (g_common:FX K mg "common" kE ["one","two"])
 (g_ins_of:FX K mg "ins_of" lq ["book"])
 (g_rules_of:FX K mg "rules_of" ip ["book"])
 (g_states_of:FX K mg "states_of" f6 ["book"])
 (g_small_tree:FX K mg "small_tree" fq ["ins"])
 (g_knot_above:FX K mg "knot_above" fk ["ins","kind","kids"])
 (g_first_makings:FX K mg "first_makings" df ["book"])
 (g_first_front:FX K mg "first_front" dY ["book","state","made","partings"])
 (g_put_links:FX K mg "put_links" fU ["book","state","front","links"])
 (g_spread:FX K mg "spread" kb ["ins","links","partings"])
 (g_cut_front:FX K mg "cut_front" ga ["front","state","partings"])
 (g_found_fronts:FX K mg "found_fronts" du ["book"])
 (g_fronts_of:FX K mg "fronts_of" gq ["book"])
 (g_partings_of:FX K mg "partings_of" dW ["book"])
 (g__law_cell:FX K mg "_law_cell" fX ["script","k"])
 (g__law_folded:FX K mg "_law_folded" dR ["cells","many"])
 (g__law_names:FX K mg "_law_names" eY ["cell"])
 (g__law_kinds:FX K mg "_law_kinds" fh ["cell","names"])
 (g__law_thing:FX K mg "_law_thing" ft ["left","outs","states","kids"])
 (g__law_places:FX K mg "_law_places" dU ["thing"])
 (g__law_put:FX K mg "_law_put" iy ["thing","place","other"])
 (g__law_mixed:FX K mg "_law_mixed" fu ["cell","k"])
 (g__law_rows:FX K mg "_law_rows" gr ["cells","ins","outs","states"])
 (g__law_book:FX K mg "_law_book" fL ["cells","ins","outs","states"])
 (g__law_drawn:FX K mg "_law_drawn" fj ["script","most"])
 (g__law_name_at:FX K mg "_law_name_at" dA ["book","state","tree","place"])
 (g__law_is_front:FX K mg "_law_is_front" de ["outs","front"])
 (g__law_tree:FX K mg "_law_tree" fO ["left","ins","deep"])
 (g__law_knots:FX K mg "_law_knots" fB ["front","place","found"])
 (a44:Wx K VC "law"=some (some (.ref JR))) (l44:K.lookup JR=some ⟨N',N8,.func (Yb "law" "law" (cn iV) (b9 iV) (am iV) .none JT JU JV JS F2 JW),N9⟩) (c44:ZL K F2 "law"=true) (k44:ZK K (.ref JR)=true)
 (z0:Wx K VC "all"=some none)
 (z1:Wx K VC "dict"=some none)
 (z2:Wx K VC "enumerate"=some none)
 (z3:Wx K VC "isinstance"=some none)
 (z4:Wx K VC "len"=some none)
 (z5:Wx K VC "list"=some none)
 (z6:Wx K VC "min"=some none)
 (z7:Wx K VC "range"=some none)
 (z8:Wx K VC "reversed"=some none)
 (z9:Wx K VC "str"=some none)
 (z10:Wx K VC "tuple"=some none)
 (z11:Wx K VC "zip"=some none)
 (y0:Wx K VC "CALL_SIGN"=some (some (.str (UU "?") Qd)))
 (y1:Wx K VC "MOST_KIDS"=some (some (.int (3) Ge)))
 (y2:Wx K VC "HOLE"=some (some (.ref Oa)))
 (w2:K.lookup Oa=some ⟨.type "tuple",Ob,.seq #[.str (UU "*") JX] Tr,Oc⟩) :
 ∃ fd:X5,(∀ (s:UY) (v:UT),BindsTo s fd ⟨[v],[]⟩ [("script",v)])/\∀ base:V9,K.In base->base.Ns VC mg->bn l.prog w K mg base CX0 22 fa fd ["script"] (mT K):=by
 have e0:=y6.symm.trans (Ze X G a44);have e:JR=fa:=(Value.ref.inj (Vo e0)).symm;subst e;have Qe:=fy (st:=iV) l44 c44 k44;have Tt:=Qe.binds (ps:=["script"]) fun _ _ _ _ _ _ us hl=>by obtain ⟨y0,rfl⟩:=us1 hl;rfl
 let T:TX K mg:=⟨⟨Qd,Ze X G y0⟩,⟨Ge,Ze X G y1⟩,Oa,Ze X G y2,fun H=>.inr ⟨_,_,_,w2,rfl,rfl,(by show 1<=Vb;decide),.cons ⟨_,rfl⟩ (.nil)⟩,g_kids_of,g_walked,g_placed,g_built,g_places,g_is_call,g_is_hole,g_is_knot,g_called_by,g_calls_in,g_holes_in,g_top_of,g_filled,g_same_top,g_side_by_side,g_common,g_ins_of,g_rules_of,g_states_of,g_small_tree,g_knot_above,g_first_makings,g_first_front,g_put_links,g_spread,g_cut_front,g_found_fronts,g_fronts_of,g_partings_of,g__law_cell,g__law_folded,g__law_names,g__law_kinds,g__law_thing,g__law_places,g__law_put,g__law_mixed,g__law_rows,g__law_book,g__law_drawn,g__law_name_at,g__law_is_front,g__law_tree,g__law_knots,⟨JR,_,Qe,Tt,Ze X G a44⟩,Wi X G z0,Wi X G z1,Wi X G z2,Wi X G z3,Wi X G z4,Wi X G z5,Wi X G z6,Wi X G z7,Wi X G z8,Wi X G z9,Wi X G z10,Wi X G z11⟩
 refine ⟨Yb "law" "law" (cn iV) (b9 iV) (am iV) .none JT JU JV JS F2 JW,fun s v=>.of_eq rfl,fun base _ _=>?_⟩;exact vJ T
theorem walk {l:PySem.W.OpenLaw} {q:U6} {loose:List Vm} {XP:(Vm->Option UT)->V9->Prop} {YP:Vj->V9->Prop} {d:DefRec} {K:Params->UO} (hn:l.most=some 63) (hdf:d.params.defaults=[])
 (hY:∀ (w:Vj) (h:V9),YP w h->(K w.params).In h)
 (F:∀ (w:Vj) (mg:Vm->Option UT) (fa:UQ) (h:V9),(K w.params).In h->h.Ns VC mg->mg d.name=some (.ref fa) →
  ∃ fd:X5,(∀ (s:UY) (u:UT),BindsTo s fd ⟨[u],[]⟩ [("script",u)])/\∀ base:V9,(K w.params).In base->base.Ns VC mg->bn l.prog w (K w.params) mg base CX0 22 fa fd ["script"] (mT (K w.params))) :
 PySem.W.WalkO q loose XP YP l.row.toRowW d [] (fun f vs=>PySem.call f vs) :=
 L2.uv (n:=63) (k:=22) (x:="script") (CX:=fun _=>CX0) (sp:=fun w=>mT (K w.params)) hn (by decide) hdf ⟨rfl,by decide,by decide⟩ hY F (fun _ _ a ns hl _ hS=>⟨a,ns,rfl,hS,hl,fun _=>rfl⟩) fun _ _ _ _ _ z=>z
end LAW
open PySem PySem.W PyProof.Rows
set_option maxRecDepth 100000 in
set_option maxHeartbeats 0 in
theorem PySem.Challenge.cw_boughbook_k56_fronts_lie_on_outcomes_holds : PySem.Challenge.rw_boughbook_k56_fronts_lie_on_outcomes.Holds := by
 w_on;o_law;(refine holds_open (q:=LAW.vw) (N:=90000) (loose:=[]) (XP:=XL LAW.vw []) (Yf:=Hook.obs (kHook LAW.d0.heap_1 LAW.ks LAW.ke)) (Ya:=Hook.val (kHook LAW.d0.heap_1 LAW.ks LAW.ke)) (YP:=Hook.says (kHook LAW.d0.heap_1 LAW.ks LAW.ke)) (Xt:=LAW.xt) (HD.rE (by kernel_rfl) (by kernel_rfl) (fun _=>by kernel_rfl) LAW.lk0 LAW.lk1 LAW.lk2 LAW.lk3 LAW.lk4 LAW.lk5 (HD.Pc.k LAW.kp)) (Hook.of (kHook LAW.d0.heap_1 LAW.ks LAW.ke)) (Hook.keeps (kHook LAW.d0.heap_1 LAW.ks LAW.ke)) (fun s e=>xl_of s (ZS.mp e).1) XL.keeps (by rfl) (by rfl) (by rfl) (fun s e=>recFacts_of (ZS.mp e).2) (by rfl) (by assumption) (by decide +kernel) ⟨rfl,rfl,rfl,rfl,rfl,by decide +kernel⟩ ?_ ?_);w_witness2
 k_fill
 refine LAW.walk (l:=PySem.Challenge.rw_boughbook_k56_fronts_lie_on_outcomes) rfl rfl (fun w h Y=>PySem.W.kIn_of Y) ?F
 case F =>
  intro w mg fa h KX G GS;refine' LAW.all_mk KX G GS (LAW.fx1 KX G) (LAW.fx1 KX G) (LAW.fx1 KX G) (LAW.fx1 KX G) (LAW.fx1 KX G) (LAW.fx1 KX G) (LAW.fx1 KX G) (LAW.fx1 KX G) (LAW.fx1 KX G) (LAW.fx1 KX G) (LAW.fx1 KX G) (LAW.fx1 KX G) (LAW.fx2 KX G) (LAW.fx2 KX G) (LAW.fx2 KX G) (LAW.fx2 KX G) (LAW.fx1 KX G) (LAW.fx1 KX G) (LAW.fx1 KX G) (LAW.fx1 KX G) (LAW.fx3 KX G) (LAW.fx1 KX G) (LAW.fx4 KX G) (LAW.fx4 KX G) (LAW.fx3 KX G) (LAW.fx3 KX G) (LAW.fx1 KX G) (LAW.fx1 KX G) (LAW.fx1 KX G) (LAW.fx2 KX G) (LAW.fx2 KX G) (LAW.fx1 KX G) (LAW.fx2 KX G) (LAW.fx4 KX G) (LAW.fx1 KX G) (LAW.fx3 KX G) (LAW.fx2 KX G) (LAW.fx4 KX G) (LAW.fx4 KX G) (LAW.fx2 KX G) (LAW.fx4 KX G) (LAW.fx2 KX G) (LAW.fx3 KX G) (LAW.fx3 KX G) ?a44 ?l44 ?c44 ?k44 ?z0 ?z1 ?z2 ?z3 ?z4 ?z5 ?z6 ?z7 ?z8 ?z9 ?z10 ?z11 ?y0 ?y1 ?y2 ?w2
  (case a44=>k_is)
  (case l44=>k_is)
  (case c44=>k_is)
  (case k44=>k_is)
  (case z0=>k_is)
  (case z1=>k_is)
  (case z2=>k_is)
  (case z3=>k_is)
  (case z4=>k_is)
  (case z5=>k_is)
  (case z6=>k_is)
  (case z7=>k_is)
  (case z8=>k_is)
  (case z9=>k_is)
  (case z10=>k_is)
  (case z11=>k_is)
  (case y0=>k_is)
  (case y1=>k_is)
  (case y2=>k_is)
  (case w2=>k_is)
